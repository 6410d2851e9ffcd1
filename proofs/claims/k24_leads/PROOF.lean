import PyProof.Rows.All
import KE.KFromBytes
import KE.KIsAll
import PyProof.EqAt
import PyProof.EqKinds
import PyProof.TupleCall
import PyProof.ZipIter
import PyProof.Draws
import PyProof.CompFree
import PyProof.NeKinds
import PyProof.NsDelKeeps
import PyProof.ExcArgsOwn
import PyProof.ExcAttrAll.ValueError
import KE.KSortTup
import PyProof.DictRoadsH
import Wide.Seal
import KE.KIntText
import PyProof.FitsReplace
import PyProof.StrWalks
import PyProof.CompMap
import KE.KDictList
import PySem.Challenge.RW_scissorhall_k24_leads
set_option Elab.async false
set_option compiler.extract_closed false
set_option bootstrap.genMatcherCode false
set_option maxRecDepth 100000
set_option maxHeartbeats 0
open Array renaming length_toList->rp,toList->wg,append_assoc->zi,getElem?_toList->c8,forIn_toList->j2,getElem?_eq_getElem->r8
open Bool renaming false_ne_true->iw,and_eq_true->ji,eq_iff_iff->ot,false_eq_true->ul,and_eq_true_iff->yp,not_eq_true'->j0
open Classical renaming propDecidable->pf,byContradiction->AK
open Decidable renaming byContradiction->AG
open False renaming elim->jx
open ForInStep renaming yield->xl
open Function renaming comp_apply->q9
open Int renaming mul_pos->bf,gcd->di,mul_comm->fm,mul_ne_zero->gw,zero_mul->iy,zero_sub->ju,one_mul->jv,mul_one->mj,toNat_natCast->mq,mul_zero->ng,neg_mul->oo,mul_eq_zero->pw,le_refl->qm,mul_ediv_cancel_left->qo,ne_of_gt->qy,natAbs_mul->tf,zero_add->vd,pos_of_mul_pos_left->xi,fdiv_eq_ediv_of_dvd->xj,sub_zero->yz,natAbs_neg->d7,emod_nonneg->d9,natCast_nonneg->f6,gcd_mul_left->f7,gcd_zero_left->f8,fmod_nonneg_of_pos->w8,natCast_mul->AB,neg_mul_neg->AD,mul_nonneg->AI
open List renaming length_map->aj,length_append->av,map_cons->aw,getElem?_eq_getElem->ax,size_toArray->az,mem_cons_self->bi,mem_cons_of_mem->bn,getElem?_map->bo,getElem?_eq_some_iff->br,getD->cg,mem_append->cj,map_nil->ck,mem_cons->cq,zipWith->cr,range->cu,length_cons->cv,map_map->cw,mem_of_getElem?->dg,getElem?_set_self->dj,mem_append_right->dk,set_cons_zero->dn,map_append->du,getElem?_append_right->dz,map_congr_left->ee,lookup_cons->eh,getElem_mem->fe,not_mem_nil->fg,getElem?_set_ne->fj,length_set->fk,replicate->fw,getElem?_append_left->fx,mem_map->ia,append_assoc->ix,append_nil->ja,set_cons_succ->jc,length_singleton->jo,nil_append->jq,length_zipWith->ka,all_eq_true->kb,prefix_rfl->kh,set_set->ki,flatMap_cons->kj,length_take->kl,map->ko,ext_getElem?->kq,getElem?_cons_zero->kr,mem_append_left->lq,nodup_cons->mn,replicate_succ->mx,toArray->ni,cons_append->nj,flatten_cons->oj,map_id->oq,getElem_of_mem->ph,getElem?_concat_length->pz,length_drop->qk,nodup_append->qp,nodup_nil->qq,length_eq_zero_iff->qr,map_set->qs,take_of_length_le->qx,mem_iff_getElem?->qz,filter_cons->re,length->si,foldl->sv,forIn_cons->tm,mem_iff_getElem->tx,ext_getElem->ue,sum_cons->ug,getElem?_eq_none->uh,drop_eq_getElem_cons->ui,drop_length->uj,getElem?_take->uk,getElem?_set->uq,getElem_zipWith->vb,getElem?_cons_succ->ve,map_take->vf,map_drop->vg,mem_range->vz,filterMap_cons->wd,mem_filterMap->wk,of_mem_zip->wq,forIn_nil->xv,take_length->yg,getElem_map->yk,zipWith_cons_cons->yw,zipWith_nil_left->yx,sum_nil->yy,eraseIdx_set_eq->za,mem_of_mem_take->zc,mem_of_mem_drop->zd,mem_filter->zj,any_eq_false->zn,getElem?_replicate->zv,zipIdx_cons->i4,zipIdx_nil->i5,length_range->j8,take_left->j9,getElem?_zipWith->k4,getElem_toArray->k7,any_eq_true->o6,map_inj_right->o7,set_getElem_self->o8,getD_eq_getElem?_getD->AA,length_pos_iff->AC,flatMap_nil->AE,length_nil->AF,eq_replicate_of_mem->AH
open List.cons renaming injEq->fh
open Nat renaming le_refl->ak,ne_of_lt->de,lt_of_lt_of_le->dm,le_trans->ft,zero_le->gn,sub_self->ie,lt_irrefl->je,le_succ->my,ne_of_gt->og,le_of_lt->qc,lt_of_le_of_lt->tj,min_eq_left->um,add_zero->uo,succ_le_succ->xb,le_of_eq->xh,lt_trans->xk,lt_of_succ_lt->yb,add_assoc->yc,lt_succ_self->yd,lt_succ_of_lt->yf,le_succ_of_le->yl,two_pow_pos->yt,pow_le_pow_right->c9,eq_zero_or_pos->d8,exists_eq_add_of_le->j7
open Ne renaming symm->ik
open Option renaming map_some->yu,getD_none->a9,getD_some->o5
open Option.some renaming inj->ce
open Or renaming inl->jk,inr->jm
open Prod renaming ext->jt
open Prod.mk renaming inj->zg
open PyProof.Rows renaming AllBare->jw,callWith_type1->qh,IntsAre->ql,slot_tuple_getitem->sk,assignInOrder_cons->wj,get?_update_seq->yi,subscriptTail_builtinR->a7
open PyProof.Rows.IsTup renaming new->se
open PySem renaming Shared->aa,wpAny_bind->ae,Expr->ah,Pos->ai,wpAny_pure->ao,World->aq,Around->au,Env->bh,FuncData->cf,Tok->dh,IsPair->ff,sizeLine->gg,wpAny_mono->gh,NameKind->gi,wpAny_field->gv,IsZip->ib,wpAny_newObj_type->iu,Paired->iz,Keyword->jg,wpAny_call_entry->jh,mem_of_lookup->jy,Draws->kd,wpAny_callSpecial?_slot->km,wpAny_seqItems->kn,CmpOp->kw,wpAny_holding->kx,sizeLine_eq->ky,IsPart->kz,Model->ly,wpAny_passesOwn->mf,wpAny_setField->nh,Params->ny,wpAny_truthy_bool->oa,BindsTo->oi,wpAny_setField_rec->oy,wpAny_attempt->oz,Fin->pr,wpAny_standAt->qd,wpAny_rule->qe,PassesOwn->qg,Result->qj,wpAny_execs_nil->rq,codeAny_mono->sf,call_meets->td,wpAny_pyIter_list->tq,wpAny_letGo->ua,wpAny_onRaise->uc,storedH_old->ur,storedH_new->uu,wpAny_dictEntries->uv,wpAny_dictEpoch->uw,wpAny_Name->we,wpAny_Call_Name_kw->wp,concat_meets->wr,seqIndex_of->wu,seqIndex_neg->wv,typeIs_int->ww,call->xf,wpAny_comprehension_free->xn,codeAny_compStart_list->xo,eval_ListComp->xp,wpAny_updateSeq_pair->xw,wpAny_isInstance->xx,pushCells_keeps->ym,idxH_unique->yn,wpAny_isOneOf_valiter->yo,Within->zh,wpAny_isTrue_Compare1->zm,wpAny_Call_method_late->c7,wpAny_newFunctionEnv->g7,wpAny_pyIter_tuple->i9,wpAny_isOneOf_keyiter->t7,wpAny_notOrdered_dict->u9
open PySem.Builtin.Dict renaming showsAll->va
open PySem.Builtin.Dict_items renaming ownsTuple->qu,dictOf->AO,newIterator->AQ
open PySem.Builtin.Int renaming intBits->f9
open PySem.Builtin.List renaming listTooLong->sy
open PySem.Builtin.Slice renaming slicePlaces->sj,sliceAdjust->wt,sliceApplied->zz
open PySem.Builtin.SmallTypes renaming nextOf->la,ownedTupleIsFree->ub,ownedTupleHandOut->i6
open PySem.Builtin.Tuple renaming tupleExact->sr,tupleHashOf->xy,tupleItemsOf->a6
open PySem.Calls renaming callWith_builtin->wz,evalArgs_plain->xa,Name_function_global->zl
open PySem.Challenge renaming pw_scissorhall_k24_leads->nv,rw_scissorhall_k24_leads->qa
open PySem.F renaming slot_dict_keyiterator_next->qv,slot_dict_valueiterator_next->qw,slot_tuple_iterator_next->tz,slot_zip_next->ud,slot_list_append->xc,plainAttrs_list->ye,slot_tuple_add->zw,entry_tuple_add->zx,args_tuple_add_2->zy,entry_tuple_iterator_next->g8,args_tuple_iterator_next_1->g9,entry_zip_next->i7,args_zip_next_1->i8,type_list_append->o4,slot_dict_get->o9,plainAttrs_dict->r6,entry_dict_keyiterator_next->u4,args_dict_keyiterator_next_1->u5,entry_dict_valueiterator_next->u6,args_dict_valueiterator_next_1->u7,slot_dict_iter->u8,slot_dict_values->v7,slot_dict_values_iter->v8
open PySem.Heap renaming get?_push_of_some->ay,lt_size->bj,get?_push_size->df,SameBut->io,size_push->jp,ExtBut->ox,get?_update_self->ss,get?_update_ne->yj,get?_update_other->a8
open PySem.Heap.SameBut renaming update->ou
open PySem.NameKind renaming cell->fz,free->gr
open PySem.Obj renaming mapSeq->jb,data_mapFields->ow,mapFields->uz,isFreed_of_fields->xq,cls_mapFields->xu
open PySem.PassesOwn renaming never->yq,leaving->yr
open PySem.SeqAt renaming EqAt->kg,RcAt->pk
open PySem.SeqAt.EqAt renaming same->uf,of_refs->ya,int_int->j1
open PySem.SeqAt.RcAt renaming tuples->xz,none_none->k8,bool_bool->k9,int_int->l7,str_str->l9,lists->m9,lists_lengths->o0
open PySem.Shared renaming TypeIs->t9
open PySem.Str renaming ofString->cy
open PySem.Value renaming none->cx,ref->dy,type->lm,int->qb,bool->rn,str->vo
open PySem.W renaming Frag->ag,nsIn->dr,fnOf->fi,keepIn->fu,mg_none_of->jd,kia_one->jf,kas_sort->jr,codeIn->jz,excIn->ke,mg_of->lb,kitOne->oh,OpenLaw->om,kHook->rm,instObj->vp,methodObj->vq,hideAll->vt,hideAll_get->vw,lookIn->wm,findIn->wn,kitx_list->wo,kat_nil->yh,xlAt->ze,recOk->zf,of_hideAll->zk,plainGet->zo,specialIn->zp,kitx_tuple->zq,kitx_dict->zt,cellsFrom_some->zu
open PySem.W.Hook renaming obs->vh,val->vj
open PySem.W.OpenLaw renaming row->vn,wellSaid->AN
open PySem.W.OpenRow renaming toRowW->vm
open PySem.W.RowW renaming records->vk
open Rat renaming intCast_mul->ku,intCast_add->nr,mul_pos->nu,intCast_inj->rf,intCast_sub->rl,div_def->zb,intCast_neg->AJ,mul_eq_zero->AM
open Sum renaming inl->lc,inr->ld
open True renaming intro->qi
abbrev AR:=List Int
abbrev AS:=List AR
abbrev AT:=List AS
abbrev AU:=List PySem.Value
abbrev AW:=Option PySem.Value
abbrev AX:=Option PySem.Addr
abbrev AY:=Option Int
namespace L2
open PySem
def gR(s:Stmt):Arguments:=match s with
 |.FunctionDef _ a _ _ _ _ _ _ _ _=>a
 |_=>{posonlyargs:=[],args:=[],vararg:=none,kwonlyargs:=[],kw_defaults:=[],kwarg:=none,defaults:=[]}
def eI(s:Stmt):List Stmt:=match s with
 |.FunctionDef _ _ b _ _ _ _ _ _ _=>b
 |_=>[]
def bX(s:Stmt):Scope:=match s with
 |.FunctionDef _ _ _ _ _ _ sc _ _ _=>sc
 |_=>{kind:=.function,names:=[],isGenerator:=false,isCoroutine:=false}
end L2
namespace Sc
noncomputable section
open PySem L2
def aV(i:Nat):Stmt:=nv.main.body.getD i (.Pass ⟨0,0,0,0⟩)
abbrev vs(s:String)(t:Nat):Value:=.str (cy s) t
abbrev vi(i:Int):Value:=.int i 0
abbrev vr(a:Nat):Value:=.ref a
abbrev fo(n:String)(i:Nat)(dV dc pm cd ct:Value):Obj:=⟨.type "function",none,.func (fi (cy n) (cy n) (gR (aV i)) (eI (aV i)) (bX (aV i)) dV .none dc pm none cd ct),#[]⟩
abbrev fc(l:AU):Obj:=⟨.type "code",none,.fields l.toArray,#[]⟩
abbrev Lx(n:String)(t l a r g:Nat)(x:AU):Obj:=fc (vs n t::vs n (t+1)::vs "/claim/cut.py" (t+2)::vi l::vi a::vi 0::vi 0::vi 3::vr r:: .bool true::vi g::vr (r+1):: .none::x)
abbrev eR(n:String)(t l a r g u:Nat):Obj:=Lx n t l a r g [vr (r+2),vr (r+3),vr (r+4),vi u,vi l,vs "/claim/cut.py" (u+1)]
abbrev eK(n:String)(t l a r g:Nat):Obj:=Lx n t l a r g [.none,.none,vr (r+2),vi (t+3),vi l,vs "/claim/cut.py" (t+4)]
abbrev fd(P:ny)(n:Nat)(l:List (String×Nat×Value)):Obj:=⟨.type "dict",none,.dict (l.map λe=>⟨PyData.keyHash P (cy e.1),.str (cy e.1) e.2.1,e.2.2⟩).toArray n,#[]⟩
abbrev vLq:Value:=vs "law_scissorhall_k24_leads" 475
abbrev fzq (n:String)(i:Nat)(m:Value)(r:Nat):Obj:=fo n i .none .none m (vr r) .none
abbrev v0q:Value:=vs "scissorhall.points" 269
abbrev v1q:Value:=vs "scissorhall.lowest" 239
abbrev v2q:Value:=vs "scissorhall.heaps" 369
abbrev v3q:Value:=vs "scissorhall.moves" 412
abbrev v4q:Value:=vs "scissorhall.cuttings" 442
noncomputable def KK(P:ny):ag:=
 (nat_lit 3,fd P 79 [("__name__",165,vs "law_scissorhall_k24_leads" 475),("__doc__",166,.none),("__package__",167,.none),("__loader__",168,(.builtin "__main__.__loader__#opaque")),("__spec__",169,.none),("__annotations__",170,vr 6),("__builtins__",171,vr 4),("__file__",173,vs "/claim/cut.py" 172),("__cached__",174,.none),("HallError",206,vr 24),("NoPoint",222,vr 37),("Flat",238,vr 49),("sign",247,vr 58),("divisor",256,vr 65),("reduced",262,vr 70),("lowest_way",268,vr 75),("point",277,vr 81),("added",283,vr 86),("lessened",291,vr 93),("turned",297,vr 98),("whole_arrow",303,vr 103),("dot",309,vr 108),("normal",318,vr 115),("determinant",324,vr 120),("side",331,vr 127),("FLAT_WALLS",340,vr 131),("SPACE_WALLS",353,vr 136),("simplex",362,vr 143),("walls",368,vr 148),("plane_way",376,vr 153),("sides",382,vr 158),("put_wall",398,vr 165),("same",411,vr 172),("is_push",420,vr 179),("moved_point",428,vr 186),("moved",434,vr 191),("undone",441,vr 198),("comes_of",449,vr 203),("moved_piece",456,vr 210),("goes_to",462,vr 215),("back",468,vr 220),("leads",474,vr 226),("_law_row",489,vr 233),("_law_take",498,vr 240),("_law_gcd",506,vr 247),("_law_lowest",512,vr 252),("_law_upward",518,vr 257),("_law_frac",526,vr 264),("_law_joined",532,vr 269),("_law_gap",538,vr 274),("_law_cross",549,vr 281),("_law_dot",555,vr 286),("_law_turn",562,vr 293),("_law_det",568,vr 298),("_law_simplex",576,vr 305),("_law_flat_line",584,vr 312),("_law_space_line",592,vr 319),("_law_plane",598,vr 324),("_law_shuts",609,vr 331),("_law_put",618,vr 338),("_law_mark",635,vr 345),("_law_same",641,vr 350),("_law_gone",647,vr 355),("_law_leads",653,vr 360),("_law_raw",659,vr 365),("_law_raw_turn",665,vr 370),("_law_kuhn",677,vr 377),("_law_raw_heap",689,vr 384),("_law_far",695,vr 389),("_law_stretch",706,vr 396),("_law_spot",712,vr 401),("_law_laid",718,vr 406),("_law_handed",726,vr 413),("_law_split",732,vr 418),("_law_parted",743,vr 425),("_law_moves",756,vr 432),("_law_there",762,vr 437),("_law_amiss",780,vr 444),("law",786,vr 449)])::
 (nat_lit 23,fd P 3 [("__module__",196,vs "scissorhall.errors" 187),("__firstlineno__",200,(.int 2 199)),("__static_attributes__",201,vr 22),("__weakref__",203,vr 25),("__doc__",204,.none)])::
 (nat_lit 24,⟨(.type "type"),none,.cls {name:="HallError",bases:=[(.type "ValueError")],mro:=[vr 24,(.type "ValueError"),(.type "Exception"),(.type "BaseException"),(.type "object")],ns:=23,qualname:="HallError",hasDict:=true,subclasses:=[vr 37,vr 49]},#[some (vr 15),none,some (vs "HallError" 189),some (vs "HallError" 197),some (.builtin "ValueError.__new__"),some (.bool true)]⟩)::
 (nat_lit 36,fd P 2 [("__module__",214,vs "scissorhall.errors" 187),("__firstlineno__",218,(.int 4 217)),("__static_attributes__",219,vr 35),("__doc__",220,.none)])::
 (nat_lit 37,⟨(.type "type"),none,.cls {name:="NoPoint",bases:=[vr 24],mro:=[vr 37,vr 24,(.type "ValueError"),(.type "Exception"),(.type "BaseException"),(.type "object")],ns:=36,qualname:="NoPoint",hasDict:=true,subclasses:=[]},#[some (vr 28),none,some (vs "NoPoint" 207),some (vs "NoPoint" 215),some (.builtin "ValueError.__new__"),some (.bool true)]⟩)::
 (nat_lit 48,fd P 2 [("__module__",230,vs "scissorhall.errors" 187),("__firstlineno__",234,(.int 6 233)),("__static_attributes__",235,vr 47),("__doc__",236,.none)])::
 (nat_lit 49,⟨(.type "type"),none,.cls {name:="Flat",bases:=[vr 24],mro:=[vr 49,vr 24,(.type "ValueError"),(.type "Exception"),(.type "BaseException"),(.type "object")],ns:=48,qualname:="Flat",hasDict:=true,subclasses:=[]},#[some (vr 40),none,some (vs "Flat" 223),some (vs "Flat" 231),some (.builtin "ValueError.__new__"),some (.bool true)]⟩)::
 (nat_lit 57,eR "sign" 241 9 1 52 181 245)::
 (nat_lit 58,fzq "sign" 5 v1q 57)::
 (nat_lit 64,eR "divisor" 248 15 2 59 181 254)::
 (nat_lit 65,fzq "divisor" 6 v1q 64)::
 (nat_lit 69,eK "reduced" 257 21 1 66 181)::
 (nat_lit 70,fzq "reduced" 7 v1q 69)::
 (nat_lit 74,eK "lowest_way" 263 26 1 71 181)::
 (nat_lit 75,fzq "lowest_way" 8 v1q 74)::
 (nat_lit 76,⟨.type "tuple",none,.seq #[(.int 1 271)] 0,#[]⟩)::
 (nat_lit 80,eK "point" 272 30 2 77 181)::
 (nat_lit 81,fo "point" 10 (vr 76) .none v0q (vr 80) .none)::
 (nat_lit 85,eK "added" 278 34 2 82 181)::
 (nat_lit 86,fzq "added" 11 v0q 85)::
 (nat_lit 92,eR "lessened" 284 37 2 87 181 289)::
 (nat_lit 93,fzq "lessened" 12 v0q 92)::
 (nat_lit 97,eK "turned" 292 39 1 94 181)::
 (nat_lit 98,fzq "turned" 13 v0q 97)::
 (nat_lit 102,eK "whole_arrow" 298 41 2 99 181)::
 (nat_lit 103,fzq "whole_arrow" 14 v0q 102)::
 (nat_lit 107,eK "dot" 304 43 2 104 181)::
 (nat_lit 108,fzq "dot" 15 v0q 107)::
 (nat_lit 114,eR "normal" 310 45 1 109 181 316)::
 (nat_lit 115,fzq "normal" 16 v0q 114)::
 (nat_lit 119,eK "determinant" 319 51 1 116 181)::
 (nat_lit 120,fzq "determinant" 17 v0q 119)::
 (nat_lit 126,eR "side" 325 54 1 121 181 329)::
 (nat_lit 127,fzq "side" 18 v0q 126)::
 (nat_lit 128,⟨.type "tuple",none,.seq #[(.int 0 334),(.int 1 335)] 0,#[]⟩)::
 (nat_lit 129,⟨.type "tuple",none,.seq #[(.int 1 336),(.int 2 337)] 0,#[]⟩)::
 (nat_lit 130,⟨.type "tuple",none,.seq #[(.int 2 338),(.int 0 339)] 0,#[]⟩)::
 (nat_lit 131,⟨.type "tuple",none,.seq #[vr 128,vr 129,vr 130] 0,#[]⟩)::
 (nat_lit 132,⟨.type "tuple",none,.seq #[(.int 1 341),(.int 2 342),(.int 3 343)] 0,#[]⟩)::
 (nat_lit 133,⟨.type "tuple",none,.seq #[(.int 0 344),(.int 3 345),(.int 2 346)] 0,#[]⟩)::
 (nat_lit 134,⟨.type "tuple",none,.seq #[(.int 0 347),(.int 1 348),(.int 3 349)] 0,#[]⟩)::
 (nat_lit 135,⟨.type "tuple",none,.seq #[(.int 0 350),(.int 2 351),(.int 1 352)] 0,#[]⟩)::
 (nat_lit 136,⟨.type "tuple",none,.seq #[vr 132,vr 133,vr 134,vr 135] 0,#[]⟩)::
 (nat_lit 142,eR "simplex" 354 59 1 137 181 360)::
 (nat_lit 143,fzq "simplex" 22 (vs "scissorhall.simplexes" 332) 142)::
 (nat_lit 147,eK "walls" 363 67 1 144 181)::
 (nat_lit 148,fzq "walls" 23 (vs "scissorhall.simplexes" 332) 147)::
 (nat_lit 152,eK "plane_way" 371 71 1 149 181)::
 (nat_lit 153,fzq "plane_way" 25 v2q 152)::
 (nat_lit 157,eK "sides" 377 73 1 154 181)::
 (nat_lit 158,fzq "sides" 26 v2q 157)::
 (nat_lit 164,eR "put_wall" 383 77 3 159 181 396)::
 (nat_lit 165,fzq "put_wall" 27 v2q 164)::
 (nat_lit 171,eR "same" 399 84 2 166 181 409)::
 (nat_lit 172,fzq "same" 28 v2q 171)::
 (nat_lit 178,eR "is_push" 414 92 1 173 181 418)::
 (nat_lit 179,fzq "is_push" 30 v3q 178)::
 (nat_lit 185,eR "moved_point" 421 94 2 180 181 426)::
 (nat_lit 186,fzq "moved_point" 31 v3q 185)::
 (nat_lit 190,eK "moved" 429 98 2 187 181)::
 (nat_lit 191,fzq "moved" 32 v3q 190)::
 (nat_lit 197,eR "undone" 435 100 1 192 181 439)::
 (nat_lit 198,fzq "undone" 33 v3q 197)::
 (nat_lit 202,eK "comes_of" 444 105 1 199 181)::
 (nat_lit 203,fzq "comes_of" 35 v4q 202)::
 (nat_lit 209,eR "moved_piece" 450 107 1 204 181 454)::
 (nat_lit 210,fzq "moved_piece" 36 v4q 209)::
 (nat_lit 214,eK "goes_to" 457 109 1 211 181)::
 (nat_lit 215,fzq "goes_to" 37 v4q 214)::
 (nat_lit 219,eK "back" 463 111 1 216 181)::
 (nat_lit 220,fzq "back" 38 v4q 219)::
 (nat_lit 221,⟨.type "tuple",none,.seq #[(.bool false)] 0,#[]⟩)::
 (nat_lit 225,eK "leads" 469 113 4 222 181)::
 (nat_lit 226,fo "leads" 39 (vr 221) .none v4q (vr 225) .none)::
 (nat_lit 232,eR "_law_row" 477 118 1 227 181 487)::
 (nat_lit 233,fzq "_law_row" 41 vLq 232)::
 (nat_lit 239,eR "_law_take" 490 132 2 234 181 496)::
 (nat_lit 240,fzq "_law_take" 42 vLq 239)::
 (nat_lit 246,eR "_law_gcd" 499 140 2 241 181 504)::
 (nat_lit 247,fzq "_law_gcd" 43 vLq 246)::
 (nat_lit 251,eK "_law_lowest" 507 146 1 248 181)::
 (nat_lit 252,fzq "_law_lowest" 44 vLq 251)::
 (nat_lit 256,eK "_law_upward" 513 153 1 253 181)::
 (nat_lit 257,fzq "_law_upward" 45 vLq 256)::
 (nat_lit 263,eR "_law_frac" 519 161 2 258 181 524)::
 (nat_lit 264,fzq "_law_frac" 46 vLq 263)::
 (nat_lit 268,eK "_law_joined" 527 165 3 265 181)::
 (nat_lit 269,fzq "_law_joined" 47 vLq 268)::
 (nat_lit 273,eK "_law_gap" 533 168 2 270 181)::
 (nat_lit 274,fzq "_law_gap" 48 vLq 273)::
 (nat_lit 280,eR "_law_cross" 539 170 2 275 181 547)::
 (nat_lit 281,fzq "_law_cross" 49 vLq 280)::
 (nat_lit 285,eK "_law_dot" 550 175 2 282 181)::
 (nat_lit 286,fzq "_law_dot" 50 vLq 285)::
 (nat_lit 292,eR "_law_turn" 556 177 1 287 181 560)::
 (nat_lit 293,fzq "_law_turn" 51 vLq 292)::
 (nat_lit 297,eK "_law_det" 563 181 1 294 181)::
 (nat_lit 298,fzq "_law_det" 52 vLq 297)::
 (nat_lit 304,eR "_law_simplex" 569 183 1 299 181 574)::
 (nat_lit 305,fzq "_law_simplex" 53 vLq 304)::
 (nat_lit 311,eR "_law_flat_line" 577 188 2 306 181 582)::
 (nat_lit 312,fzq "_law_flat_line" 54 vLq 311)::
 (nat_lit 318,eR "_law_space_line" 585 190 2 313 181 590)::
 (nat_lit 319,fzq "_law_space_line" 55 vLq 318)::
 (nat_lit 323,eK "_law_plane" 593 192 3 320 181)::
 (nat_lit 324,fzq "_law_plane" 56 vLq 323)::
 (nat_lit 330,eR "_law_shuts" 599 195 1 325 181 607)::
 (nat_lit 331,fzq "_law_shuts" 57 vLq 330)::
 (nat_lit 337,eR "_law_put" 610 198 3 332 181 616)::
 (nat_lit 338,fzq "_law_put" 58 vLq 337)::
 (nat_lit 344,eR "_law_mark" 619 200 3 339 181 633)::
 (nat_lit 345,fzq "_law_mark" 59 vLq 344)::
 (nat_lit 349,eK "_law_same" 636 223 2 346 181)::
 (nat_lit 350,fzq "_law_same" 60 vLq 349)::
 (nat_lit 354,eK "_law_gone" 642 230 3 351 181)::
 (nat_lit 355,fzq "_law_gone" 61 vLq 354)::
 (nat_lit 359,eK "_law_leads" 648 232 3 356 181)::
 (nat_lit 360,fzq "_law_leads" 62 vLq 359)::
 (nat_lit 364,eK "_law_raw" 654 236 3 361 181)::
 (nat_lit 365,fzq "_law_raw" 63 vLq 364)::
 (nat_lit 369,eK "_law_raw_turn" 660 243 1 366 181)::
 (nat_lit 370,fzq "_law_raw_turn" 64 vLq 369)::
 (nat_lit 376,eR "_law_kuhn" 666 245 1 371 181 675)::
 (nat_lit 377,fzq "_law_kuhn" 65 vLq 376)::
 (nat_lit 383,eR "_law_raw_heap" 678 257 3 378 181 687)::
 (nat_lit 384,fzq "_law_raw_heap" 66 vLq 383)::
 (nat_lit 388,eK "_law_far" 690 270 2 385 181)::
 (nat_lit 389,fzq "_law_far" 67 vLq 388)::
 (nat_lit 395,eR "_law_stretch" 696 276 2 390 181 704)::
 (nat_lit 396,fzq "_law_stretch" 68 vLq 395)::
 (nat_lit 400,eK "_law_spot" 707 282 2 397 181)::
 (nat_lit 401,fzq "_law_spot" 69 vLq 400)::
 (nat_lit 405,eK "_law_laid" 713 288 3 402 181)::
 (nat_lit 406,fzq "_law_laid" 70 vLq 405)::
 (nat_lit 412,eR "_law_handed" 719 294 2 407 181 724)::
 (nat_lit 413,fzq "_law_handed" 71 vLq 412)::
 (nat_lit 417,eK "_law_split" 727 298 2 414 181)::
 (nat_lit 418,fzq "_law_split" 72 vLq 417)::
 (nat_lit 424,eR "_law_parted" 733 312 2 419 181 741)::
 (nat_lit 425,fzq "_law_parted" 73 vLq 424)::
 (nat_lit 431,eR "_law_moves" 744 323 4 426 181 754)::
 (nat_lit 432,fzq "_law_moves" 74 vLq 431)::
 (nat_lit 436,eK "_law_there" 757 331 1 433 181)::
 (nat_lit 437,fzq "_law_there" 75 vLq 436)::
 (nat_lit 443,eR "_law_amiss" 763 333 5 438 181 778)::
 (nat_lit 444,fzq "_law_amiss" 76 vLq 443)::
 (nat_lit 448,eK "law" 781 348 1 445 181)::
 (nat_lit 449,fzq "law" 77 vLq 448)::[]
def KA:List Nat:=[3,23,24,36,37,48,49,57,58,64,65,69,70,74,75,76,80,81,85,86,92,93,97,98,102,103,107,108,114,115,119,120,126,127,128,129,130,131,132,133,134,135,136,142,143,147,148,152,153,157,158,164,165,171,172,178,179,185,186,190,191,197,198,202,203,209,210,214,215,219,220,221,225,226,232,233,239,240,246,247,251,252,256,257,263,264,268,269,273,274,280,281,285,286,292,293,297,298,304,305,311,312,318,319,323,324,330,331,337,338,344,345,349,350,354,355,359,360,364,365,369,370,376,377,383,384,388,389,395,396,400,401,405,406,412,413,417,418,424,425,431,432,436,437,443,444,448,449]
def VW:Program:={nv with main:={nv.main with body:=[aV 1,aV 2,aV 3,aV 5,aV 6,aV 7,aV 8,aV 11,aV 12,aV 13,aV 14,aV 15,aV 16,aV 17,aV 18,aV 20,aV 21,aV 22,aV 23,aV 25,aV 26,aV 27,aV 28,aV 30,aV 31,aV 32,aV 33,aV 35,aV 36,aV 37,aV 38,aV 41,aV 42,aV 43,aV 44,aV 45,aV 46,aV 47,aV 48,aV 49,aV 50,aV 51,aV 52,aV 53,aV 54,aV 55,aV 56,aV 57,aV 58,aV 59,aV 60,aV 61,aV 62,aV 63,aV 64,aV 65,aV 66,aV 67,aV 68,aV 69,aV 70,aV 71,aV 72,aV 73,aV 74,aV 75,aV 76,aV 77]}}
theorem KE:∀P,KA=(KK P).map (·.1):=λ_=>by kernel_rfl
theorem wsaid:AN qa=true:=by kernel_rfl
open PySem.W PyProof.Rows PySem.Spec
abbrev RN(w:aq):=openEnds treeTable nv w 5354
abbrev LW:=looseW VW [cy "point",cy "leads"]
theorem aea:∀w,(RN w).map (λs=>vh (rm KK KA KE) s)=some (vj (rm KK KA KE) w):=by
 intro w
 kernel_rfl
theorem adu:∀w,(RN w).map (λs=>seen ((recsOf VW).map (·.name)) (ownsOf VW) [] {s with gens:=#[]})=some (expectedOf VW):=by
 intro w
 kernel_rfl
theorem aeq:∀w,(RN w).map (λs=>s.heap.bltView)=some (bltViewBooted):=by
 intro w
 kernel_rfl
theorem aex:∀w,(RN w).map (λs=>s.heap.keysOk LW ((recsOf VW).map (·.name)) ((litsOf VW).map (·.1)) ((clssOf VW LW).map (·.name)))=some (true):=by
 intro w
 kernel_rfl
theorem ad4:∀w,(RN w).map (λs=>s.heap.accountedOkI (importedModules nv.main.body)&&(s.heap.isNs mainGlobals&&s.heap.isNs builtinsNs&&tablesOk VW s.heap)&&((λs=>ze VW [] s&&zf (vk (vm (vn qa))) s) s&&(s.gens.size==0)))=some (true):=by
 intro w
 kernel_rfl
theorem aet:∀w,(RN w).map (λs=>tabsOk VW s)=some (true):=by
 intro w
 kernel_rfl
theorem adt:∀w,(RN w).map (λs=>(pinSeenD VW (drecsOf VW) s,plainSeenD VW [cy "point",cy "leads"] s,clsSeenW VW [cy "point",cy "leads"] s))=some (pinGoodD (drecsOf VW),plainGoodD VW [cy "point",cy "leads"],clsGoodW VW [cy "point",cy "leads"]):=by
 intro w
 kernel_rfl
theorem adX:∀w,(RN w).map (λs=>plainSeenE VW LW s)=some (plainGoodE VW LW):=by
 intro w
 kernel_rfl
theorem adh:∀w,(RN w).map (λs=>wideSeen VW s)=some (wideGood VW):=by
 intro w
 kernel_rfl
theorem bz{k a n m t x g:Bool}(h:k=true)(h2:(a&&(n&&m&&t)&&(x&&g))=true):(k&&a&&n&&m&&t&&x&&g)=true:=by
 revert h h2
 cases k<;>cases a<;>cases n<;>cases m<;>cases t<;>cases x<;>cases g<;>decide
theorem aeJ{A B C P Q R T V Y:Type}{o:Option aa}{y:Y}{G:aa->Y}{k a n m t x g f:aa->Bool}{b:aa->B}{c:aa->C}{p:aa->P}{q:aa->Q}{r:aa->R}{u:aa->T}{v:aa->V}{b':B}{c':C}{p':P}{q':Q}{r':R}{u':T}{v':V}(hA:o.map G=some y)(hB:o.map b=some b')(hC:o.map c=some c')(hD:o.map k=some true)(hE:o.map (λs=>a s&&(n s&&m s&&t s)&&(x s&&g s))=some true)(hF:o.map f=some true)
  (hG:o.map (λs=>(p s,q s,r s))=some (p',q',r'))(hH:o.map u=some u')(hI:o.map v=some v'):o.map (λs=>((b s,c s,(k s&&a s&&n s&&m s&&t s&&x s&&g s),f s,p s,u s,q s,v s,r s),G s))=some ((b',c',true,true,p',u',q',v',r'),y):=by
 cases o with
 |none=>cases hA
 |some s=>
  have G1:=zg (ce hG);have G2:=zg G1.2;exact congrArg some (jt (jt (ce hB) (jt (ce hC) (jt (bz (ce hD) (ce hE)) (jt (ce hF) (jt G1.1 (jt (ce hH) (jt G2.1 (jt (ce hI) G2.2)))))))) (ce hA))
theorem left:LeftO nv VW [cy "point",cy "leads"] (λs=>ze VW [] s&&zf (vk (vm (vn qa))) s) (vh (rm KK KA KE)) (vj (rm KK KA KE)) 5354:=λw=>aeJ (A:=Nat) (aea w) (adu w) (aeq w) (aex w) (ad4 w) (aet w) (adt w) (adX w) (adh w)
end
end Sc
set_option maxHeartbeats 200000
set_option Elab.async false
set_option compiler.extract_closed false
set_option bootstrap.genMatcherCode false
set_option linter.all false
set_option maxRecDepth 100000
namespace L2
open PySem PySem.Spec PyProof.Rows
abbrev iC:=Sum Int Str
def Yv:iC->Value->Bool
 |.inl k,v=>Value.isInt k v
 |.inr x,v=>Value.isStrOf x v
def aeQ(w:aq):iC->Int
 |.inl k=>hashInt k
 |.inr x=>hashStr w x
theorem mO:∀{k:iC}{v:Value},Yv k v=true->(∃i t,k=lc i/\v=qb i t)\/(∃x t,k=ld x/\v=vo x t)
 |.inl i,v,h=>by
  obtain⟨t,e⟩:=Value.isInt_shape (k:=i) (v:=v) h;exact .inl ⟨i,t,rfl,e⟩
 |.inr x,v,h=>by
  obtain⟨t,e⟩:=Value.isStrOf_shape (x:=x) (v:=v) h;exact .inr ⟨x,t,rfl,e⟩
theorem ab2(a b:Int):decide ((lc a:iC)=lc b)=(a==b):=by
 by_cases e:a=b
 .subst e;simp
 .have h:¬(lc a:iC)=lc b:=λq=>e (Sum.inl.inj q)
  rw[decide_eq_false h];exact(beq_eq_false_iff_ne.mpr e).symm
theorem aca(a b:Str):decide ((ld a:iC)=ld b)=decide (a=b):=by
 by_cases e:a=b
 .subst e;simp
 .have h:¬(ld a:iC)=ld b:=λq=>e (Sum.inr.inj q)
  rw[decide_eq_false h,decide_eq_false e]
theorem acK(a:Int)(b:Str):decide ((lc a:iC)=ld b)=false:=decide_eq_false (λq=>nomatch q)
theorem ac4(a:Str)(b:Int):decide ((ld a:iC)=lc b)=false:=decide_eq_false (λq=>nomatch q)
def Wp(prog:Program)(w:aq):PySem.KeyKind prog w iC where
 is:=Yv
 hash:=aeQ w
 inj:=λv a b ha hb=>by
  rcases mO ha with⟨i,t,rfl,rfl⟩|⟨x,t,rfl,rfl⟩
  .rcases mO hb with⟨j,u,rfl,e⟩|⟨y,u,rfl,e⟩
   .injection e with e1 _;rw[e1]
   .exact nomatch e
  .rcases mO hb with⟨j,u,rfl,e⟩|⟨y,u,rfl,e⟩
   .exact nomatch e
   .injection e with e1 _;rw[e1]
 byValue:=λk v h=>by
  rcases mO h with⟨i,t,rfl,rfl⟩|⟨x,t,rfl,rfl⟩<;>rfl
 pyHash:=λhv h=>by
  rcases mO hv with⟨i,t,rfl,rfl⟩|⟨x,t,rfl,rfl⟩
  .exact wpAny_pyHash_int h
  .exact wpAny_pyHash_str h
 eqBool:=λhu hv h=>by
  rcases mO hu with⟨i,t,rfl,rfl⟩|⟨x,t,rfl,rfl⟩
  .rcases mO hv with⟨j,u,rfl,rfl⟩|⟨y,u,rfl,rfl⟩
   .rw[ab2]at h;exact wpAny_eqBool_int h
   .rw[acK]at h;exact SeqAt.EqAt.int_str i t y u _ _ _ _ h
  .rcases mO hv with⟨j,u,rfl,rfl⟩|⟨y,u,rfl,rfl⟩
   .rw[ac4]at h;exact SeqAt.EqAt.str_int x t j u _ _ _ _ h
   .rw[aca]at h;exact wpAny_eqBool_str h
 «strs»:=λk x t v h=>by
  rcases mO h with⟨i,u,rfl,e⟩|⟨y,u,rfl,e⟩
  .exact nomatch e
  .injection e with e1 _
   subst e1;cases v<;>rfl
inductive V where
 |non |bl (b:Bool) |int (i:Int) |str (x:Str) |byt (b:Array UInt8) |flt (b:UInt64) |ref (a:Addr) |ty (n:String)
 deriving DecidableEq
def bS:V->Value->Prop
 |.non,u=>u=cx
 |.bl b,u=>u=rn b
 |.int i,u=>∃t,u=qb i t
 |.str x,u=>∃t,u=vo x t
 |.byt b,u=>∃t,u=Value.bytes b t
 |.flt b,u=>∃t,u=Value.float b t
 |.ref a,u=>u=dy a
 |.ty n,u=>u=lm n
abbrev bI:List V->AU->Prop:=iz bS
theorem bI.length{xs:List V}{us:AU}(r:bI xs us):xs.length=us.length:=Paired.length r
theorem bI.get:∀{xs:List V}{us:AU}{i:Nat}{x:V},bI xs us->xs[i]?=some x->∃u,us[i]?=some u/\bS x u
 |_,_,_,_,.nil,e=>by simp at e
 |_,_,0,_,.cons r _,e=>by simp at e;subst e;exact⟨_,rfl,r⟩
 |_,_,i+1,x,.cons _ t,e=>by
  obtain⟨u,h1,h2⟩:=bI.get (i:=i) (x:=x) t (by simpa using e);exact⟨u,by simpa using h1,h2⟩
theorem bI.set{x:V}{u:Value}(r:bS x u):∀{xs:List V}{us:AU}(i:Nat),bI xs us->bI (xs.set i x) (us.set i u)
 |_,_,_,.nil=>.nil
 |_,_,0,.cons _ t=>.cons r t
 |_,_,i+1,.cons q t=>.cons q (bI.set r i t)
theorem bI.append:∀{xs ys:List V}{us ws:AU},bI xs us->bI ys ws->bI (xs++ys) (us++ws)
 |_,_,_,_,.nil,s=>s
 |_,_,_,_,.cons r t,s=>.cons r (bI.append t s)
theorem bI.take:∀{xs:List V}{us:AU}(n:Nat),bI xs us->bI (xs.take n) (us.take n)
 |_,_,0,_=>.nil
 |_,_,_+1,.nil=>.nil
 |_,_,n+1,.cons r t=>.cons r (bI.take n t)
theorem bI.drop:∀{xs:List V}{us:AU}(n:Nat),bI xs us->bI (xs.drop n) (us.drop n)
 |_,_,0,r=>r
 |_,_,_+1,.nil=>.nil
 |_,_,n+1,.cons _ t=>bI.drop n t
def Hh:Option V->AW->Prop
 |some v,some u=>bS v u
 |none,none=>True
 |_,_=>False
def KV{κ:Type}:List (κ×V)->List (κ×Value)->Prop:=iz λ(p:κ×V) (q:κ×Value)=>p.1=q.1/\bS p.2 q.2
def kV:iC->V
 |.inl i=>.int i
 |.inr x=>.str x
inductive HO where
 /--a list -/
 |lst (xs:List V)
 /--a tuple (never changes) -/
 |tup (xs:List V)
 /--a dict whose keys are ints and texts;one whose keys are tuples of ints and texts (the empty one is both) -/
 |dK (kvs:List (iC×V)) |dT (kvs:List (List iC×V))
 /--a set of ints:its members,its size -/
 |set (S:Int->Bool) (n:Nat)
 /--an instance of the class at C,its dict at dx,its attributes -/
 |ins (C dx:Addr) (fs:List (Str×V))
 /--the dict of the instance at x -/
 |own (x:Addr)
 /--the dict of an exception -/
 |xd (fs:List (Str×V))
 /--a bound method,f of x -/
 |met (f x:Addr)
 /--a range object lo,lo+1,.. below hi -/
 |rng (lo hi:Int)
 /--a thing that is known to the object (the script;a dict while a loop walks it):read,never written while it is so -/
 |frz (o:Obj) (u:HO)
 /--a code object's table -/
 |tbl (ps:Array Value)
 /--any other thing,by what is true of its one object (a def of one's own:SetO a S n:=HO.ext λh=>..) -/
 |ext (φ:Heap->Prop)
abbrev Hp:=Addr->Option HO
def aW(H:Hp)(a:Addr)(o:HO):Hp:=λb=>if b=a then some o else H b
theorem fH{H:Hp}{a:Addr}{o:HO}:aW H a o a=some o:=by unfold aW;rw[if_pos rfl]
theorem bT{H:Hp}{a b:Addr}{o:HO}(h:b≠a):aW H a o b=H b:=by unfold aW;rw[if_neg h]
theorem gD{H:Hp}{a b:Addr}{o:HO}(h:H a=some o)(h':H b=none):a≠b:=by
 intro e;subst e;rw[h]at h';cases h'
section
variable(P:Program)(w:aq)
def fV(H:Hp)(h:Heap)(a:Addr):HO->Prop
 |.lst xs=>xs.length<=sizeLine/\∃(its:AU)(n:Nat),bI xs its/\h.get? a=some {cls:=.type "list",data:=.seq its.toArray n}
 |.tup xs=>xs.length<=sizeLine/\∃its:AU,bI xs its/\IsTup h a its.toArray
 |.dK kvs=>kvs.length<=sizeLine/\(a==sysModules)=false/\∃vs,KV kvs vs/\h.DictOf (Wp P w) a vs
 |.dT kvs=>kvs.length<=sizeLine/\(a==sysModules)=false/\∃xs:List (List iC×Addr×Value),
   iz (λ(p:List iC×V) (q:List iC×Addr×Value)=>p.1=q.1/\H q.2.1=some (.tup (p.1.map kV))/\bS p.2 q.2.2) kvs xs/\
   ∃o es ep,h.get? a=some o/\o.ExactDict/\o.data=.dict es ep/\es.toList=xs.map (entryOfKey (tupleKind (Wp P w)))/\(xs.map (·.1)).Nodup
 |.set S n=>h.SetOf (intKind P w) a S n
 |.ins C dx fs=>H dx=some (.own a)/\fs.length<=1000/\dx≠a/\h.get? a=some (vp C dx)/\
   ∃mA,h.Ns1 dx mA/\(∀f,Hh (fs.lookup f) (mA f))/\zh mA (fs.map (·.1))
 |.own _=>∃o,h.get? a=some o
 |.xd fs=>∃mA,h.Ns1 a mA/\∀f,Hh (fs.lookup f) (mA f)
 |.rng lo hi=>∃t u v,h.get? a=some {cls:=.type "range",data:=.fields #[.int lo t,.int hi u,.int 1 v]}
 |.frz o u=>h.get? a=some o/\fV H h a u
 |.tbl ps=>h.get? a=some {cls:=.none,data:=.fields ps}
 |.met f x=>h.get? a=some (vq (.ref f) (.ref x))
 |.ext φ=>φ h/\(∃o,h.get? a=some o)/\∀h1 h2:Heap,φ h1->(∀o,h1.get? a=some o->h2.get? a=some o)->φ h2
def fM(H:Hp)(h:Heap):Prop:=∀a o,H a=some o->fV P w H h a o
end
section
variable{P:Program}{w:aq}{H H':Hp}{h h':Heap}{a:Addr}{o:HO}
theorem fV.lt(x:fV P w H h a o):a<h.objs.size:=by
 cases o with
 |lst xs=>obtain⟨_,_,_,_,e⟩:=x;exact bj e
 |tup xs=>obtain⟨_,_,_,p⟩:=x;exact p.lt
 |dK kvs=>obtain⟨_,_,_,_,o,_,_,e,_⟩:=x;exact bj e
 |dT kvs=>obtain⟨_,_,_,_,o,_,_,e,_⟩:=x;exact bj e
 |set S n=>obtain⟨o,_,_,_,e,_⟩:=x;exact bj e
 |ins C dx fs=>obtain⟨_,_,_,e,_⟩:=x;exact bj e
 |own y=>obtain⟨_,e⟩:=x;exact bj e
 |xd fs=>obtain⟨_,⟨_,_,_,e,_⟩,_⟩:=x;exact bj e
 |rng lo hi=>obtain⟨_,_,_,e⟩:=x;exact bj e
 |frz ob u=>obtain⟨e,_⟩:=x;exact bj e
 |tbl ps=>exact bj (show h.get? a=some _ from x)
 |met f y=>exact bj (show h.get? a=some _ from x)
 |ext φ=>obtain⟨_,⟨_,e⟩,_⟩:=x;exact bj e
theorem Paired.mapP{α β:Type}{F G:α->β->Prop}:∀{l₁:List α}{l₂:List β},iz F l₁ l₂->(∀a b,F a b->G a b)->iz G l₁ l₂
 |_,_,.nil,_=>.nil
 |_,_,.cons r t,f=>.cons (f _ _ r) (Paired.mapP t f)
theorem fV.stay(x:fV P w H h a o)(k:∀b u,(b=a\/H b=some (.own a))->h.get? b=some u->h'.get? b=some u)
  (ho:∀b,H b=some (.own a)->H' b=some (.own a))(ht:∀b xs,H b=some (.tup xs)->H' b=some (.tup xs)):fV P w H' h' a o:=by
 induction o with
 |lst xs=>obtain⟨z,its,n,r,e⟩:=x;exact⟨z,its,n,r,k _ _ (.inl rfl) e⟩
 |tup xs=>obtain⟨z,its,r,ob,e,c⟩:=x;exact⟨z,its,r,ob,k _ _ (.inl rfl) e,c⟩
 |dK kvs=>obtain⟨z,y,vs,r,ob,es,ep,e,c⟩:=x;exact⟨z,y,vs,r,ob,es,ep,k _ _ (.inl rfl) e,c⟩
 |dT kvs=>
  obtain⟨z,y,xs,r,ob,es,ep,e,c⟩:=x;exact⟨z,y,xs,Paired.mapP r λp q z=>⟨z.1,ht _ _ z.2.1,z.2.2⟩,ob,es,ep,k _ _ (.inl rfl) e,c⟩
 |set S n=>obtain⟨ob,es,ep,t,e,c⟩:=x;exact⟨ob,es,ep,t,k _ _ (.inl rfl) e,c⟩
 |ins C dx fs=>
  obtain⟨d,z,ne,e,mA,⟨od,es,ep,e2,c⟩,r⟩:=x;exact⟨ho _ d,z,ne,k _ _ (.inl rfl) e,mA,⟨od,es,ep,k _ _ (.inr d) e2,c⟩,r⟩
 |own y=>obtain⟨ob,e⟩:=x;exact⟨ob,k _ _ (.inl rfl) e⟩
 |xd fs=>obtain⟨mA,⟨od,es,ep,e,c⟩,r⟩:=x;exact⟨mA,⟨od,es,ep,k _ _ (.inl rfl) e,c⟩,r⟩
 |rng lo hi=>obtain⟨t,u,v,e⟩:=x;exact⟨t,u,v,k _ _ (.inl rfl) e⟩
 |frz ob u ih=>obtain⟨e,q⟩:=x;exact⟨k _ _ (.inl rfl) e,ih q⟩
 |tbl ps=>
  have e:h.get? a=some {cls:=.none,data:=.fields ps}:=x;show h'.get? a=some {cls:=.none,data:=.fields ps};exact k a _ (.inl rfl) e
 |met f y=>
  have e:h.get? a=some (vq (.ref f) (.ref y)):=x;show h'.get? a=some (vq (.ref f) (.ref y));exact k a _ (.inl rfl) e
 |ext φ=>obtain⟨p,⟨o,e⟩,st⟩:=x;exact⟨st _ _ p λo q=>k _ _ (.inl rfl) q,⟨o,k _ _ (.inl rfl) e⟩,st⟩
theorem fM.lt(x:fM P w H h)(e:H a=some o):a<h.objs.size:=(x a o e).lt
theorem fM.fresh(x:fM P w H h)(e:h.objs.size<=a):H a=none:=by
 cases q:H a with
 |none=>rfl
 |some u=>exact absurd (dm (x.lt q) e) (je _)
theorem fM.kept(x:fM P w H h)(k:∀b u,h.get? b=some u->h'.get? b=some u):fM P w H h':=λa o e=>
 (x a o e).stay (λb u _ q=>k b u q) (λ_ q=>q) λ_ _ q=>q
theorem fM.laid(x:fM P w H h)(k:∀b u,h.get? b=some u->h'.get? b=some u)(hp:h.objs.size<=a)(new:fV P w (aW H a o) h' a o):fM P w (aW H a o) h':=λb u e=>by
 have hn:=x.fresh hp
 by_cases hb:b=a
 .subst hb;rw[fH]at e;cases e;exact new
 .rw[bT hb]at e
  exact(x b u e).stay (λc v _ q=>k c v q) (λc q=>by rw[bT (gD q hn)];exact q) λc xs q=>by rw[bT (gD q hn)];exact q
end
def Rd(H:Hp)(a:Addr)(u:HO):Prop:=H a=some u\/∃o,H a=some (.frz o u)
theorem Rd.ok{P:Program}{w:aq}{H:Hp}{h:Heap}{a:Addr}{u:HO}(r:Rd H a u)(x:fM P w H h):fV P w H h a u:=by
 rcases r with r |⟨o,r⟩
 .exact x a u r
 .obtain⟨_,q⟩:=x a _ r
  exact q
def zS:Option HO->Prop
 |some (.lst _)=>True
 |some (.dK _)=>True
 |some (.dT _)=>True
 |some (.set _ _)=>True
 |some (.ins _ _ _)=>True
 |some (.ext _)=>True
 |_=>False
section
variable{P:Program}{w:aq}{H:Hp}{h h':Heap}{x e:Addr}{o':HO}
theorem fM.write(ok:fM P w H h)(mu:zS (H x))(he:e=x\/H e=some (.own x))(k:∀b u,b≠e->h.get? b=some u->h'.get? b=some u)(heo:∃u,h'.get? e=some u)
  (new:fV P w (aW H x o') h' x o'):fM P w (aW H x o') h':=λb u q=>by
 have nown:∀c y,H c=some (.own y)->c≠x:=λc y r z=>by subst z;rw[r]at mu;exact mu
 have ntup:∀c xs,H c=some (.tup xs)->c≠x:=λc xs r z=>by subst z;rw[r]at mu;exact mu
 by_cases hb:b=x
 .subst hb;rw[fH]at q;cases q;exact new
 .rw[bT hb]at q
  by_cases hbe:b=e
  .have q':H b=some (.own x):=by
    rcases he with z |z
    .exact absurd (hbe.trans z) hb
    .rw[hbe];exact z
   rw[q]at q';cases q';obtain⟨v,hv⟩:=heo;exact⟨v,by rw[hbe];exact hv⟩
  .refine(ok b u q).stay (λc v hc r=>k c v ?_ r) (λc r=>by rw[bT (nown c b r)];exact r) λc xs r=>by rw[bT (ntup c xs r)];exact r
   rcases hc with rfl |hc
   .exact hbe
   .rintro rfl
    rcases he with z |z
    .exact nown c b hc z
    .rw[hc]at z;cases z;exact hb rfl
end
structure Un(fs ex:List Addr)(H H':Hp)(h h':Heap):Prop where
 keep:∀b o,h.get? b=some o->H b=none->b∉fs->b∉ex->h'.get? b=some o
 slot:∀b o,h.get? b=some o->H b=none->b∈fs->b∉ex->∃sl,h'.get? b=some {o with slots:=sl}
 free:∀b o,h.get? b=some o->H b=none->b∉ex->H' b=none
 there:∀b o,h.get? b=some o->b∉ex->∃o',h'.get? b=some o'
 tups:∀b xs,H b=some (.tup xs)->H' b=some (.tup xs)
 frzs:∀b o u,H b=some (.frz o u)->H' b=some (.frz o u)
 tbls:∀b ps,H b=some (.tbl ps)->∃more,H' b=some (.tbl (ps++more))
section
variable{fs fs' ex ex':List Addr}{H H1 H2:Hp}{h h1 h2 h':Heap}{a x e:Addr}{o:HO}
theorem Un.any(u:Un fs ex H H1 h h1){b:Addr}{ob:Obj}(q:h.get? b=some ob)(n:H b=none)(hx:b∉ex):∃sl,h1.get? b=some {ob with slots:=sl}:=by
 by_cases hb:b∈fs
 .exact u.slot b ob q n hb hx
 .exact⟨ob.slots,u.keep b ob q n hb hx⟩
theorem Un.trans(a:Un fs ex H H1 h h1)(b:Un fs ex H1 H2 h1 h2):Un fs ex H H2 h h2 where
 keep:=λc ob q n hc hx=>b.keep c ob (a.keep c ob q n hc hx) (a.free c ob q n hx) hc hx
 slot:=λc ob q n hc hx=>by
  obtain⟨sl,e1⟩:=a.slot c ob q n hc hx;obtain⟨sl',e2⟩:=b.slot c _ e1 (a.free c ob q n hx) hc hx;exact⟨sl',e2⟩
 free:=λc ob q n hx=>by
  obtain⟨o',e1⟩:=a.there c ob q hx;exact b.free c o' e1 (a.free c ob q n hx) hx
 there:=λc ob q hx=>by
  obtain⟨o',e1⟩:=a.there c ob q hx;exact b.there c o' e1 hx
 tups:=λc xs q=>b.tups c xs (a.tups c xs q)
 frzs:=λc ob xs q=>b.frzs c ob xs (a.frzs c ob xs q)
 tbls:=λc ps q=>by
  obtain⟨m1,e1⟩:=a.tbls c ps q;obtain⟨m2,e2⟩:=b.tbls c _ e1;exact⟨m1++m2,by rw[e2,zi]⟩
theorem Un.kept(k:∀b u,h.get? b=some u->h'.get? b=some u):Un fs ex H H h h':=
 ⟨λb ob q _ _ _=>k b ob q,λb ob q _ _ _=>⟨ob.slots,k b ob q⟩,λ_ _ _ n _=>n,λb ob q _=>⟨ob,k b ob q⟩,λ_ _ q=>q,λ_ _ _ q=>q,λ_ ps q=>⟨#[],by rw[q];simp⟩⟩
theorem Un.refl:Un fs ex H H h h:=Un.kept λ_ _ q=>q
theorem Un.laid(k:∀b u,h.get? b=some u->h'.get? b=some u)(hp:h.objs.size<=a)(hn:H a=none):Un fs ex H (aW H a o) h h' where
 keep:=λb u q _ _ _=>k b u q
 slot:=λb u q _ _ _=>⟨u.slots,k b u q⟩
 free:=λb u q n _=>by rw[bT (de (dm (bj q) hp))];exact n
 there:=λb u q _=>⟨u,k b u q⟩
 tups:=λb xs q=>by rw[bT (gD q hn)];exact q
 frzs:=λb u xs q=>by rw[bT (gD q hn)];exact q
 tbls:=λb ps q=>⟨#[],by rw[bT (gD q hn),q];simp⟩
theorem Un.write(mu:zS (H x))(he:e=x\/H e=some (.own x))(k:∀b u,b≠e->h.get? b=some u->h'.get? b=some u)(heo:∃u,h'.get? e=some u):Un fs ex H (aW H x o) h h':=by
 have hx:∀b,H b=none->b≠x:=λb n z=>by subst z;rw[n]at mu;exact mu
 have hb:∀b,H b=none->b≠e:=λb n z=>by
  subst z;rcases he with r |r
  .exact hx b n r
  .rw[n]at r;cases r
 have hm:∀b u,H b=some u->¬zS (some u)->b≠x:=λb u q nm z=>by subst z;rw[q]at mu;exact nm mu
 refine⟨λb u q n _ _=>k b u (hb b n) q,λb u q n _ _=>⟨u.slots,k b u (hb b n) q⟩,λb u q n _=>by rw[bT (hx b n)];exact n,λb u q _=>?_,
  λb xs q=>by rw[bT (hm b _ q λz=>z)];exact q,λb u xs q=>by rw[bT (hm b _ q λz=>z)];exact q,λb ps q=>⟨#[],by rw[bT (hm b _ q λz=>z),q];simp⟩⟩
 by_cases hbe:b=e
 .subst hbe;exact heo
 .exact⟨u,k b u hbe q⟩
end
def zL(h:Heap)(H:Hp):List Addr:=(cu h.objs.size).filter λa=>(H a).isSome
def nG(h:Heap)(H:Hp):Heap:=vt h (zL h H)
theorem G6(h:Heap)(H:Hp):(nG h H).objs.size=h.objs.size:=PySem.W.hideAll_size _ _
theorem W6{h:Heap}{H:Hp}{b:Addr}{o:Obj}(e:h.get? b=some o)(n:H b=none):(nG h H).get? b=some o:=
 vw _ e λhm=>by
  have q:(H b).isSome=true:=(zj.mp hm).2;rw[n]at q;simp at q
theorem abD{h:Heap}{H:Hp}{b:Addr}{o:Obj}(e:(nG h H).get? b=some o):h.get? b=some o/\H b=none:=by
 have e':h.get? b=some o:=zk (zL h H) e;refine⟨e',?_⟩;cases q:H b with
 |none=>rfl
 |some x=>
  have hm:b∈zL h H:=zj.mpr ⟨vz.mpr (bj e'),by simp[q]⟩;have z:(nG h H).get? b=none:=PySem.W.hideAll_none (zL h H) hm;rw[z]at e;cases e
def abK(g h:Heap)(L:Addr):List (Addr×Obj):=(cu h.objs.size).filterMap λa=>if a=L\/(g.get? a).isSome=true then none else(h.get? a).map λo=>(a,o)
def iJ(g h:Heap)(L d:Addr):List (Addr×Obj):=(abK g h L).filter λp=>decide (p.1≠d)
structure Mod(K:ag)(mg:Str->AW)(base:Heap):Prop where
 kin:K.In base
 glob:base.Ns mainGlobals mg
 blt:∃mb,base.Ns builtinsNs mb/\∀x:Str,x≠"__name__"->mb x=bootBuiltins x
 nolimit:base.NoLimit
structure Cx where
 prog:Program
 w:aq
 K:ag
 mg:Str->AW
 base:Heap
 A:au
 N:List Str
 BE:aa
 BF:Hp
 env:bh
 outer:List bh
 stack:List bh
 ex:List Addr
 fn:Str->Bool
 calm:Bool
 pn:List (Addr×Obj)
 xe:Value->aa->Prop
def fF(l:List bh):List Addr:=l.filterMap (·.frame)
abbrev Cx.fs(X:Cx):List Addr:=fF X.outer
def qD(sc:Scope)(x:Str):Prop:=sc.names.lookup x=some .local\/sc.names.lookup x=some .cell\/sc.names.lookup x=some .free
def nM(sc:Scope)(x:Str):Prop:=sc.names.lookup x=some .local\/sc.names.lookup x=some .cell
def aeN(env:bh)(h:Heap)(m:Str->AW)(x:Str)(u:Value):Prop:=
 (env.kindOf x=some .local/\m x=some u)\/((env.kindOf x=some .cell\/env.kindOf x=some .free)/\∃c,env.cells.lookup x=some c/\h.IsCell c (some u))
structure Cx.Ok(X:Cx):Prop where
 mod:Mod X.K X.mg X.base
 kind:X.env.scope.kind=.function
 glob:X.env.globals=mainGlobals
 blt:X.env.builtins=builtinsNs
 above:X.BE.heap.objs.size<=X.env.locals
 inj:∀x y c,X.env.cells.lookup x=some c->X.env.cells.lookup y=some c->x=y
 has:∀x,(X.env.kindOf x=some .cell\/X.env.kindOf x=some .free)->∃c,X.env.cells.lookup x=some c
 cab:∀x c,X.fn x=true->X.env.cells.lookup x=some c->X.BE.heap.objs.size<=c
 hd:X.calm=true->X.A.handled=none
 frames:X.A.frames=some X.stack
 stk:X.stack=X.outer\/(X.stack=X.env::X.outer/\X.env.frame=some X.env.locals)
 exf:∀b∈X.ex,b≠X.env.locals/\∀x c,X.env.cells.lookup x=some c->c≠b
 bs:∀b o,X.base.get? b=some o->X.BE.heap.get? b=some o/\X.BF b=none
 bsz:X.base.objs.size<=X.BE.heap.objs.size
 noex:∀b o,X.base.get? b=some o->b∉X.ex
 exfs:∀b∈X.ex,b∉X.fs
 funs:X.BE.heap.FunFrames X.base X.outer
 frf:∀b∈X.fs,X.BF b=none
structure aI(X:Cx)(BD:List (Addr×Obj))(σ:List (Option V))(H:Hp)(s:aa):Prop where
 ok:X.Ok
 os:s.os=X.BE.os
 bare:jw s.gens
 base:Un X.fs X.ex X.BF H X.BE.heap s.heap
 loc:∃m,s.heap.Ns X.env.locals m/\∀(i:Nat)(x:Str)(v:V),X.N[i]?=some x->σ[i]?=some (some v)->qD X.env.scope x->∃u,bS v u/\aeN X.env s.heap m x u
 cell:∀x c,X.env.cells.lookup x=some c->∃v,s.heap.IsCell c v
 free:H X.env.locals=none
 freeC:∀x c,X.env.cells.lookup x=some c->H c=none
 pin:∀p∈X.pn++BD,s.heap.get? p.1=some p.2/\H p.1=none/\p.1≠X.env.locals/\p.1∉X.fs/\∀v,p.2.data≠.cell v
 hok:fM X.prog X.w H s.heap
 len:σ.length=X.N.length
section
variable{X:Cx}{BD:List (Addr×Obj)}{σ:List (Option V)}{H H':Hp}{s:aa}{h':Heap}
theorem Cx.Ok.nofr(ok:X.Ok){b:Addr}{o:Obj}(e:X.base.get? b=some o):b∉X.fs:=λhb=>by
 have:=(ok.funs.mem hb).1;rw[e]at this;cases this
theorem aI.bs(I:aI X BD σ H s):∀b o,X.base.get? b=some o->s.heap.get? b=some o/\H b=none:=λb o e=>
 ⟨I.base.keep b o (I.ok.bs b o e).1 (I.ok.bs b o e).2 (I.ok.nofr e) (I.ok.noex b o e),I.base.free b o (I.ok.bs b o e).1 (I.ok.bs b o e).2 (I.ok.noex b o e)⟩
theorem aI.bk(I:aI X BD σ H s):∀b o,X.base.get? b=some o->s.heap.get? b=some o:=λb o e=>(I.bs b o e).1
theorem aI.mod(I:aI X BD σ H s):Mod X.K X.mg X.base:=I.ok.mod
theorem aI.kIn(I:aI X BD σ H s):X.K.In s.heap:=I.ok.mod.kin.keeps I.bk
theorem aI.lt(I:aI X BD σ H s):X.env.locals<s.heap.objs.size:=let⟨_,hn,_⟩:=I.loc;hn.lt
theorem aI.sz(I:aI X BD σ H s):X.BE.heap.objs.size<=s.heap.objs.size:=ft I.ok.above (qc I.lt)
theorem aI.nofs(I:aI X BD σ H s){a:Addr}(h:s.heap.objs.size<=a):a∉X.fs:=λhb=>by
 obtain⟨_,o,ho,_⟩:=I.ok.funs.mem hb;exact absurd (dm (bj ho) (ft I.sz h)) (je _)
theorem aI.cne(I:aI X BD σ H s):∀x c,X.env.cells.lookup x=some c->c≠X.env.locals:=λx c e z=>by
 obtain⟨v,o,ho,hd⟩:=I.cell x c e;obtain⟨m,⟨o',es,ep,ho',hd',_⟩,_⟩:=I.loc;rw[z,ho']at ho;cases ho;rw[hd']at hd;cases hd
theorem aI.funs(I:aI X BD σ H s):s.heap.FunFrames X.base X.outer:=by
 have all:∀(l:List bh),(∀b∈fF l,b∈X.fs)->X.BE.heap.FunFrames X.base l->s.heap.FunFrames X.base l:=by
  intro l
  induction l with
  |nil=>intro _ _;trivial
  |cons env r ih=>
   intro hs hl;obtain⟨hk,⟨L,o,hf,hn,ho,hd⟩,hr⟩:=hl;have hL:L∈X.fs:=hs L (by unfold fF;rw[wd,hf];exact bi);obtain⟨sl,e⟩:=I.base.slot L o ho (I.ok.frf L hL) hL λz=>I.ok.exfs L z hL;exact⟨hk,⟨L,_,hf,hn,e,hd⟩,ih (λb hb=>hs b (by unfold fF;rw[wd,hf];exact bn _ hb)) hr⟩
 exact all X.outer (λ_ hb=>hb) I.ok.funs
theorem aI.stack(I:aI X BD σ H s):s.heap.FunFrames X.base X.stack:=by
 rcases I.ok.stk with e |⟨e,hf⟩
 .rw[e];exact I.funs
 .rw[e]
  obtain⟨m,hn,_⟩:=I.loc;refine .cons (by rw[I.ok.kind];decide) hf hn ?_ I.funs;exact Heap.get?_none_of_le (ft I.ok.bsz I.ok.above)
theorem aI.stkSub(I:aI X BD σ H s):∀b∈fF X.stack,b∈X.env.locals::X.fs:=λb hb=>by
 rcases I.ok.stk with e |⟨e,hf⟩
 .rw[e]at hb;exact bn _ hb
 .rw[e]at hb
  unfold fF at hb;rw[wd,hf]at hb;exact hb
theorem aI.stkFree(I:aI X BD σ H s):∀b∈fF X.stack,H b=none:=λb hb=>by
 rcases cq.mp (I.stkSub b hb)with e |hb
 .rw[e];exact I.free
 .obtain⟨_,o,ho,_⟩:=I.ok.funs.mem hb
  exact I.base.free b o ho (I.ok.frf b hb) λz=>I.ok.exfs b z hb
theorem aI.step{g':Array GenState}{t':Nat}{d':Drawn}{ch:List Addr}(I:aI X BD σ H s)
  (hch:∀b∈ch,(b∈X.ex\/X.BE.heap.objs.size<=b)/\b≠X.env.locals/\(∀x c,X.env.cells.lookup x=some c->c≠b)/\∀p∈X.pn++BD,p.1≠b)
  (keep:∀b o,b≠X.env.locals->b∉X.fs->b∉ch->s.heap.get? b=some o->H b=none->h'.get? b=some o)
  (slot:∀b o,b≠X.env.locals->b∈X.fs->b∉ch->s.heap.get? b=some o->H b=none->∃sl,h'.get? b=some {o with slots:=sl})(free:∀b o,b∉ch->s.heap.get? b=some o->H b=none->H' b=none)
  (there:∀b o,b∉ch->s.heap.get? b=some o->∃o',h'.get? b=some o')
  (tups:∀b xs,H b=some (.tup xs)->H' b=some (.tup xs))(frzs:∀b o u,H b=some (.frz o u)->H' b=some (.frz o u))(tbls:∀b ps,H b=some (.tbl ps)->∃more,H' b=some (.tbl (ps++more)))
  (ns:∀m,s.heap.Ns X.env.locals m->h'.Ns X.env.locals m)(hok:fM X.prog X.w H' h')(hg:jw g'):
  aI X BD σ H' {s with heap:=h',gens:=g',drawn:=d',toks:=t'}:=by
 have neL:∀b o,X.BE.heap.get? b=some o->b≠X.env.locals:=λb o e=>de (dm (bj e) I.ok.above);have neC:∀b o,X.BE.heap.get? b=some o->b∉X.ex->b∉ch:=λb o e hx hb=>by
  rcases(hch b hb).1 with z |z
  .exact hx z
  .exact absurd (dm (bj e) z) (je _)
 have cellK:∀x c,X.env.cells.lookup x=some c->∀v,s.heap.IsCell c v->h'.IsCell c v:=λx c e v ⟨o,ho,hd⟩=>by
  have nch:c∉ch:=λz=>(hch c z).2.2.1 x c e rfl
  by_cases hc:c∈X.fs
  .obtain⟨sl,q⟩:=slot c o (I.cne x c e) hc nch ho (I.freeC x c e)
   exact⟨_,q,hd⟩
  .exact⟨o,keep c o (I.cne x c e) hc nch ho (I.freeC x c e),hd⟩
 refine⟨I.ok,I.os,hg,⟨λb o e n hb hx=>?_,λb o e n hb hx=>?_,λb o e n hx=>?_,λb o e hx=>?_,λb xs e=>tups b xs (I.base.tups b xs e),λb o xs e=>frzs b o xs (I.base.frzs b o xs e),λb ps e=>?_⟩,?_,λx c e=>?_,?_,λx c e=>?_,λp hp=>?_,hok,I.len⟩
 .exact keep b o (neL b o e) hb (neC b o e hx) (I.base.keep b o e n hb hx) (I.base.free b o e n hx)
 .obtain⟨sl,e1⟩:=I.base.slot b o e n hb hx
  obtain⟨sl',e2⟩:=slot b _ (neL b o e) hb (neC b o e hx) e1 (I.base.free b o e n hx);exact⟨sl',e2⟩
 .obtain⟨o',e1⟩:=I.base.there b o e hx
  exact free b o' (neC b o e hx) e1 (I.base.free b o e n hx)
 .obtain⟨o',e1⟩:=I.base.there b o e hx
  exact there b o' (neC b o e hx) e1
 .obtain⟨m1,e1⟩:=I.base.tbls b ps e
  obtain⟨m2,e2⟩:=tbls b _ e1;exact⟨m1++m2,by rw[e2,zi]⟩
 .obtain⟨m,hn,hl⟩:=I.loc
  refine⟨m,ns m hn,λi x v e1 e2 e3=>?_⟩;obtain⟨u,r,l⟩:=hl i x v e1 e2 e3;refine⟨u,r,?_⟩;rcases l with l |⟨k,c,e,z⟩
  .exact .inl l
  .exact .inr ⟨k,c,e,cellK x c e _ z⟩
 .obtain⟨v,z⟩:=I.cell x c e
  exact⟨v,cellK x c e v z⟩
 .obtain⟨m,⟨o,_,_,ho,_⟩,_⟩:=I.loc
  exact free _ o (λz=>(hch _ z).2.1 rfl) ho I.free
 .obtain⟨v,o,ho,hd⟩:=I.cell x c e
  exact free c o (λz=>(hch c z).2.2.1 x c e rfl) ho (I.freeC x c e)
 .obtain⟨e,n,ne,nf,d⟩:=I.pin p hp
  have nch:p.1∉ch:=λz=>(hch p.1 z).2.2.2 p hp rfl;exact⟨keep p.1 p.2 ne nf nch e n,free p.1 p.2 nch e n,ne,nf,d⟩
theorem aI.un{t':Nat}(I:aI X BD σ H s)(u:Un X.fs [] H H' s.heap h')(hok:fM X.prog X.w H' h'):aI X BD σ H' {s with heap:=h',toks:=t'}:=by
 obtain⟨m,⟨o,es,ep,ho,r⟩,_⟩:=id I.loc;obtain⟨sl,hL⟩:=u.any ho I.free (by simp);exact I.step (g':=s.gens) (d':=s.drawn) (ch:=[]) (λ_ z=>nomatch z) (λb o _ hb _ e n=>u.keep b o e n hb (by simp)) (λb o _ hb _ e n=>u.slot b o e n hb (by simp)) (λb o _ e n=>u.free b o e n (by simp)) (λb o _ e=>u.there b o e (by simp)) u.tups u.frzs u.tbls (λm' hm=>by
  obtain⟨o',es',ep',ho',r'⟩:=hm;rw[ho]at ho';cases ho';exact⟨_,es',ep',hL,r'⟩) hok I.bare
theorem aI.call{g':Array GenState}{t':Nat}{d':Drawn}{ch:List Addr}(I:aI X BD σ H s)(u:Un (fF X.stack) ch H H' s.heap h')(hok:fM X.prog X.w H' h')(hg:jw g')
  (hch:∀b∈ch,(b∈X.ex\/X.BE.heap.objs.size<=b)/\b≠X.env.locals/\(∀x c,X.env.cells.lookup x=some c->c≠b)/\∀p∈X.pn++BD,p.1≠b):
  aI X BD σ H' {s with heap:=h',gens:=g',drawn:=d',toks:=t'}:=by
 obtain⟨m,⟨o,es,ep,ho,r⟩,_⟩:=id I.loc;obtain⟨sl,hL⟩:=u.any ho I.free λz=>(hch _ z).2.1 rfl;exact I.step (ch:=ch) hch (λb o hL hb hc e n=>u.keep b o e n (λz=>(cq.mp (I.stkSub b z)).elim hL hb) hc) (λb o _ _ hc e n=>u.any e n hc) (λb o hc e n=>u.free b o e n hc) (λb o hc e=>u.there b o e hc) u.tups u.frzs u.tbls (λm' hm=>by
  obtain⟨o',es',ep',ho',r'⟩:=hm;rw[ho]at ho';cases ho';exact⟨_,es',ep',hL,r'⟩) hok hg
theorem aI.turned{t':Nat}{it:Addr}(I:aI X BD σ H s)(k:∀b o,b≠it->s.heap.get? b=some o->h'.get? b=some o)(hn:H it=none)(hL:it≠X.env.locals)
  (h1:it∈X.ex\/X.BE.heap.objs.size<=it)(h2:∀x c,X.env.cells.lookup x=some c->c≠it)(h3:∀p∈X.pn++BD,p.1≠it):aI X BD σ H {s with heap:=h',toks:=t'}:=by
 have nit:∀b u,H b=some u->b≠it:=λb u e z=>by rw[z,hn]at e;cases e
 refine I.step (g':=s.gens) (d':=s.drawn) (ch:=[it]) (λb hb=>?_) (λb o _ _ hc e _=>k b o (λz=>hc (by simp[z])) e) (λb o _ _ hc e _=>⟨o.slots,k b o (λz=>hc (by simp[z])) e⟩) (λ_ _ _ _ n=>n)
  (λb o hc e=>⟨o,k b o (λz=>hc (by simp[z])) e⟩) (λ_ _ e=>e) (λ_ _ _ e=>e) (λb ps e=>⟨#[],by rw[e];simp⟩) (λm hm=>?_) (λb u e=>?_) I.bare
 .have e:b=it:=by simpa using hb
  subst e;exact⟨h1,hL,h2,h3⟩
 .obtain⟨o,es,ep,ho,r⟩:=hm
  exact⟨o,es,ep,k _ o (ik hL) ho,r⟩
 .refine(I.hok b u e).stay (λc v hc q=>k c v ?_ q) (λ_ q=>q) λ_ _ q=>q
  rcases hc with z |z
  .rw[z];exact nit b u e
  .exact nit c _ z
theorem aI.tok(I:aI X BD σ H s)(t:Nat):aI X BD σ H {s with toks:=t}:=I.un (h':=s.heap) (t':=t) Un.refl I.hok
theorem aI.kept{t':Nat}(I:aI X BD σ H s)(k:∀b u,s.heap.get? b=some u->h'.get? b=some u):aI X BD σ H {s with heap:=h',toks:=t'}:=I.un (Un.kept k) (I.hok.kept k)
theorem aI.laid{a:Addr}{o:HO}{t':Nat}(I:aI X BD σ H s)(k:∀b u,s.heap.get? b=some u->h'.get? b=some u)(hp:s.heap.objs.size<=a)(new:fV X.prog X.w (aW H a o) h' a o):
  aI X BD σ (aW H a o) {s with heap:=h',toks:=t'}:=I.un (Un.laid k hp (I.hok.fresh hp)) (I.hok.laid k hp new)
theorem aI.write{x e:Addr}{o:HO}{t':Nat}(I:aI X BD σ H s)(mu:zS (H x))(he:e=x\/H e=some (.own x))(k:∀b u,b≠e->s.heap.get? b=some u->h'.get? b=some u)(heo:∃u,h'.get? e=some u)
  (new:fV X.prog X.w (aW H x o) h' x o):aI X BD σ (aW H x o) {s with heap:=h',toks:=t'}:=I.un (Un.write mu he k heo) (I.hok.write mu he k heo new)
theorem aI.pins_of{pins':List (Addr×Obj)}(I:aI X BD σ H s)(h:∀p∈pins',s.heap.get? p.1=some p.2/\H p.1=none/\p.1≠X.env.locals/\p.1∉X.fs/\∀v,p.2.data≠.cell v):aI X pins' σ H s:=
 ⟨I.ok,I.os,I.bare,I.base,I.loc,I.cell,I.free,I.freeC,λp hp=>(cj.mp hp).elim (λz=>I.pin p (lq _ z)) (h p),I.hok,I.len⟩
theorem Cp{N:List Str}(hN:N.Nodup){i j:Nat}{x:Str}(a:N[i]?=some x)(b:N[j]?=some x):i=j:=by
 obtain⟨h1,e1⟩:=br.mp a;obtain⟨h2,e2⟩:=br.mp b;exact(List.getElem_inj hN).mp (e1.trans e2.symm)
theorem F6{M:ly}{A:au}{E:Value->aa->Prop}{i:Nat}{x:Str}{v:V}{u:Value}{Q:Unit->aa->Prop}(I:aI X BD σ H s)(hN:X.N.Nodup)(hi:X.N[i]?=some x)(hx:nM X.env.scope x)(r:bS v u)
  (h:∀s',aI X BD (σ.set i (some v)) H s'->(∃a,io a s.heap s'.heap/\(a=X.env.locals\/X.env.cells.lookup x=some a))->Q () s')(hf:X.fn x=true\/X.env.scope.names.lookup x=some .local:=by first |exact .inl rfl |exact .inr rfl |assumption):wpAny M A (storeName X.env x u) Q E s:=by
 obtain⟨m,hn,hl⟩:=id I.loc;have hcls:(X.env.scope.kind== .class||(X.env.scope.kind== .module&&X.env.locals !=X.env.globals))=false:=by rw[I.ok.kind];rfl
 have hiσ:i<σ.length:=by rw[I.len];exact(br.mp hi).1
 have cne:=I.cne;have tracked:∀{a:Addr}{h':Heap},(∃o,s.heap.get? a=some o/\H a=none)->io a s.heap h'->fM X.prog X.w H h':=λ{a h'} ha hs b ob e=>by
  obtain⟨_,_,hfree⟩:=ha;refine(I.hok b ob e).stay (λc w' hc q=>(hs.2 c ?_).trans q) (λ_ q=>q) λ_ _ q=>q
  rintro rfl
  rcases hc with rfl |hc
  .rw[hfree]at e;cases e
  .rw[hfree]at hc;cases hc
 rcases hx with hk |hk
 .refine wpAny_storeName_local hk hn (λh' hn' hs=>?_) hcls
  obtain⟨oL,_,_,hoL,_⟩:=id hn;refine h _ ⟨I.ok,I.os,I.bare,⟨λb o e n hb hx=>?_,λb o e n hb hx=>?_,I.base.free,λb o e hx=>?_,I.base.tups,I.base.frzs,I.base.tbls⟩,⟨_,hn',λj y v' e1 e2 e3=>?_⟩,λy c e=>?_,I.free,I.freeC,λp hp=>?_,tracked ⟨oL,hoL,I.free⟩ hs,by simpa using I.len⟩ ⟨_,hs,.inl rfl⟩
  .exact(hs.2 b (de (dm (bj e) I.ok.above))).trans (I.base.keep b o e n hb hx)
  .obtain⟨sl,e1⟩:=I.base.slot b o e n hb hx
   exact⟨sl,(hs.2 b (de (dm (bj e) I.ok.above))).trans e1⟩
  .obtain⟨o',e1⟩:=I.base.there b o e hx
   exact⟨o',(hs.2 b (de (dm (bj e) I.ok.above))).trans e1⟩
  .by_cases hj:j=i
   .subst hj
    rw[hi]at e1;cases e1;rw[dj hiσ]at e2;cases e2;exact⟨u,r,.inl ⟨hk,by simp⟩⟩
   .rw[fj (ik hj)]at e2
    obtain⟨u',r',q⟩:=hl j y v' e1 e2 e3;refine⟨u',r',?_⟩;rcases q with⟨k,e⟩|⟨k,c,e,z⟩
    .refine .inl ⟨k,?_⟩
     have:y≠x:=λe=>hj (Cp hN e1 (e▸hi));simp[this,e]
    .exact .inr ⟨k,c,e,z.sameBut hs (cne y c e)⟩
  .obtain⟨w',z⟩:=I.cell y c e
   exact⟨w',z.sameBut hs (cne y c e)⟩
  .obtain⟨e,n,ne,nf,d⟩:=I.pin p hp
   exact⟨(hs.2 p.1 ne).trans e,n,ne,nf,d⟩
 .have hfn:X.fn x=true:=by
   rcases hf with z |z
   .exact z
   .rw[z]at hk;cases hk
  obtain⟨c,hc⟩:=I.ok.has x (.inl hk);obtain⟨w',z⟩:=I.cell x c hc;refine wpAny_storeName_cell I.ok.kind hk hc z (λh' hc' hs=>?_);obtain⟨oc,hoc,hocd⟩:=id z;refine h {s with heap:=h'} ⟨I.ok,I.os,I.bare,⟨λb o e n hb hx=>?_,λb o e n hb hx=>?_,I.base.free,λb o e hx=>?_,I.base.tups,I.base.frzs,I.base.tbls⟩,⟨m,hn.sameBut hs (ik (cne x c hc)),λj y v' e1 e2 e3=>?_⟩,λy c' e=>?_,I.free,I.freeC,λp hp=>?_,tracked ⟨oc,hoc,I.freeC x c hc⟩ hs,by simpa using I.len⟩ ⟨c,hs,.inr hc⟩
  .exact(hs.2 b (de (dm (bj e) (I.ok.cab x c hfn hc)))).trans (I.base.keep b o e n hb hx)
  .obtain⟨sl,e1⟩:=I.base.slot b o e n hb hx
   exact⟨sl,(hs.2 b (de (dm (bj e) (I.ok.cab x c hfn hc)))).trans e1⟩
  .obtain⟨o',e1⟩:=I.base.there b o e hx
   exact⟨o',(hs.2 b (de (dm (bj e) (I.ok.cab x c hfn hc)))).trans e1⟩
  .by_cases hj:j=i
   .subst hj
    rw[hi]at e1;cases e1;rw[dj hiσ]at e2;cases e2;exact⟨u,r,.inr ⟨.inl hk,c,hc,hc'⟩⟩
   .rw[fj (ik hj)]at e2
    obtain⟨u',r',q⟩:=hl j y v' e1 e2 e3;refine⟨u',r',?_⟩;rcases q with q |⟨k,c',e,z'⟩
    .exact .inl q
    .refine .inr ⟨k,c',e,z'.sameBut hs ?_⟩
     rintro rfl
     exact hj (Cp hN e1 (I.ok.inj _ _ _ e hc▸hi))
  .by_cases hcc:c'=c
   .subst hcc;exact⟨_,hc'⟩
   .obtain⟨w2,z2⟩:=I.cell y c' e
    exact⟨w2,z2.sameBut hs hcc⟩
  .obtain⟨e,n,ne,nf,d⟩:=I.pin p hp
   refine⟨(hs.2 p.1 ?_).trans e,n,ne,nf,d⟩;intro q;rw[q,hoc]at e;have q':oc=p.2:=ce e;exact d w' (by rw[<-q'];exact hocd)
theorem tM{M:ly}{A:au}{E:Value->aa->Prop}{i:Nat}{x:Str}{v:V}{u:Value}{Q:Unit->aa->Prop}(I:aI X BD σ H s)(hN:X.N.Nodup)(hi:X.N[i]?=some x)(hx:nM X.env.scope x)(r:bS v u)
  (h:∀s',aI X BD (σ.set i (some v)) H s'->Q () s')(hf:X.fn x=true\/X.env.scope.names.lookup x=some .local:=by first |exact .inl rfl |exact .inr rfl |assumption):wpAny M A (storeName X.env x u) Q E s:=
 F6 I hN hi hx r (λs' I' _=>h s' I') hf
theorem aI.call'{s':aa}{ch:List Addr}(I:aI X BD σ H s)(ho:s'.os=s.os)(u:Un (fF X.stack) ch H H' s.heap s'.heap)(hok:fM X.prog X.w H' s'.heap)(hg:jw s'.gens)
  (hch:∀b∈ch,(b∈X.ex\/X.BE.heap.objs.size<=b)/\b≠X.env.locals/\(∀x c,X.env.cells.lookup x=some c->c≠b)/\∀p∈X.pn++BD,p.1≠b):aI X BD σ H' s':=by
 obtain⟨h',g',d',t',o'⟩:=s';have e:o'=s.os:=ho;subst e;exact I.call (g':=g') (t':=t') (d':=d') u hok hg hch
end
abbrev XK:=Value->AX->Hp->Prop
abbrev St:=List (Option V)
abbrev VK:=V->Hp->Prop
abbrev TE:=St->Hp->VK->Prop
abbrev TT:=St->Hp->(Bool->Hp->Prop)->Prop
abbrev TA:=St->Hp->(List V->Hp->Prop)->Prop
structure nH where
 nx:St->Hp->Prop
 rt:VK
 bk:St->Hp->Prop:=λ_ _=>False
 ct:St->Hp->Prop:=λ_ _=>False
abbrev TS:=nH->St->Hp->Prop
def EP(X:Cx)(BD:List (Addr×Obj))(σ:St)(Q:VK)(u:Value)(s':aa):Prop:=∃v H',aI X BD σ H' s'/\bS v u/\Q v H'
def TP(X:Cx)(BD:List (Addr×Obj))(σ:St)(Q:Bool->Hp->Prop)(b:Bool)(s':aa):Prop:=∃H',aI X BD σ H' s'/\Q b H'
def AP(X:Cx)(BD:List (Addr×Obj))(σ:St)(Q:List V->Hp->Prop)(us:AU)(s':aa):Prop:=∃vs H',aI X BD σ H' s'/\bI vs us/\Q vs H'
def SP(X:Cx)(BD:List (Addr×Obj))(D:nH)(f:Flow)(s':aa):Prop:=
 match f with
 |.next=>∃σ' H',aI X BD σ' H' s'/\D.nx σ' H'
 |.brk=>∃σ' H',aI X BD σ' H' s'/\D.bk σ' H'
 |.cont=>∃σ' H',aI X BD σ' H' s'/\D.ct σ' H'
 |.ret u=>∃v σ' H',aI X BD σ' H' s'/\bS v u/\D.rt v H'
def PE(X:Cx)(e:ah)(t:TE):Prop:=
 ∀(BD:List (Addr×Obj))(s:aa)(σ:St)(H:Hp)(Q:VK),aI X BD σ H s->t σ H Q->wpAny (model X.prog X.w) X.A (eval e X.env) (EP X BD σ Q) X.xe s
def PT(X:Cx)(e:ah)(t:TT):Prop:=
 ∀(BD:List (Addr×Obj))(s:aa)(σ:St)(H:Hp)(Q:Bool->Hp->Prop),aI X BD σ H s->t σ H Q->wpAny (model X.prog X.w) X.A (isTrue e X.env (eval e X.env)) (TP X BD σ Q) X.xe s
def PW(X:Cx)(e:ah)(t:TT):Prop:=
 ∀(whole:Sem Value)(BD:List (Addr×Obj))(s:aa)(σ:St)(H:Hp)(Q:Bool->Hp->Prop),aI X BD σ H s->t σ H Q->wpAny (model X.prog X.w) X.A (isTrue e X.env whole) (TP X BD σ Q) X.xe s
theorem PW.pt{X:Cx}{e:ah}{t:TT}(h:PW X e t):PT X e t:=h _
def PA(X:Cx)(es:List ah)(t:TA):Prop:=
 ∀(pos:ai)(BD:List (Addr×Obj))(s:aa)(σ:St)(H:Hp)(Q:List V->Hp->Prop),aI X BD σ H s->t σ H Q->wpAny (model X.prog X.w) X.A (spliced (backTo pos (starEach es X.env))) (AP X BD σ Q) X.xe s
def PS(X:Cx)(st:Stmt)(t:TS):Prop:=
 ∀(BD:List (Addr×Obj))(s:aa)(σ:St)(H:Hp)(D:nH),aI X BD σ H s->t D σ H->wpAny (model X.prog X.w) X.A (exec st X.env) (SP X BD D) X.xe s
def gB(X:Cx)(st:List Stmt)(t:TS):Prop:=
 ∀(BD:List (Addr×Obj))(s:aa)(σ:St)(H:Hp)(D:nH),aI X BD σ H s->t D σ H->wpAny (model X.prog X.w) X.A (execs st X.env) (SP X BD D) X.xe s
theorem bK{α:Type}{t:Sem α}{Q Q':α->aa->Prop}{M:ly}{A:au}{E:Value->aa->Prop}{s:aa}(h:wpAny M A t Q E s)(hQ:∀a s,Q a s->Q' a s):wpAny M A t Q' E s:=gh h hQ λ_ _ x=>x
section
variable{X:Cx}
theorem bin{a b:ah}{ta tb:TE}(ha:PE X a ta)(hb:PE X b tb){BD:List (Addr×Obj)}{s:aa}{σ:St}{H:Hp}{R:V->V->Hp->Prop}(I:aI X BD σ H s)(h:ta σ H λx H1=>tb σ H1 λy H2=>R x y H2)
  {α:Type}{Q:α->aa->Prop}{f:Value->Value->Sem α}
  (hf:∀v u s2 x y H2,aI X BD σ H2 s2->bS x v->bS y u->R x y H2->wpAny (model X.prog X.w) X.A (f v u) Q X.xe s2):
  wpAny (model X.prog X.w) X.A (eval a X.env) (λv BG=>wpAny (model X.prog X.w) X.A (eval b X.env) (λu BJ=>wpAny (model X.prog X.w) X.A (f v u) Q X.xe BJ) X.xe BG) X.xe s:=by
 refine bK (ha BD s σ H _ I h) ?_
 rintro v s1 ⟨x,H1,I1,r1,q1⟩
 refine bK (hb BD s1 σ H1 _ I1 q1) ?_
 rintro u s2 ⟨y,H2,I2,r2,q2⟩
 exact hf v u s2 x y H2 I2 r1 r2 q2
def Nw(i:Nat):TE:=λσ H Q=>∃v,σ[i]?=some (some v)/\Q v H
def tC(v:V):TE:=λ_ H Q=>Q v H
theorem pH{i:Nat}{x:Str}{pos:ai}(hN:X.N[i]?=some x)(hv:qD X.env.scope x)(hd:(x==("__debug__":Str))=false:=by decide)(hcd:(x==("__classdict__":Str))=false:=by decide):PE X (.Name x pos) (Nw i):=by
 intro BD s σ H Q I h;obtain⟨v,e,h⟩:=h;obtain⟨m,hn,hl⟩:=I.loc;obtain⟨u,r,l⟩:=hl i x v hN e hv;have fin:EP X BD σ Q u s:=⟨v,H,I,r,h⟩;rcases l with⟨hk,hm⟩|⟨hk,c,hc,hcell⟩
 .exact we (wpAny_loadName_local I.ok.kind hk hn hm fin) hd
 .rcases hk with hk |hk
  .exact we (wpAny_loadName_cell I.ok.kind hk hc hcell fin) hd
  .exact we (wpAny_loadName_free I.ok.kind hk hc hcell fin hcd) hd
theorem Nu{i j pos}:PE X (.Constant (.int i) j pos) (tC (.int i)):=λ_ _ _ H _ I h=>wpAny_Constant_int ⟨.int i,H,I.tok _,⟨_,rfl⟩,h⟩
theorem aef{b j pos}:PE X (.Constant (.bool b) j pos) (tC (.bl b)):=λ_ _ _ H _ I h=>Constant_bool ⟨.bl b,H,I,rfl,h⟩
theorem acq{x j pos}:PE X (.Constant (.str x) j pos) (tC (.str x)):=λ_ _ _ H _ I h=>Calls.Constant_str ⟨.str x,H,I.tok _,⟨_,rfl⟩,h⟩
def Gl(X:Cx)(x:Str):Prop:=X.env.kindOf x=some .globalImplicit
theorem De{E:Value->aa->Prop}{BD:List (Addr×Obj)}{s:aa}{σ:St}{H:Hp}{x:Str}{u:Value}{pos:ai}{Q:Value->aa->Prop}(I:aI X BD σ H s)(hg:Gl X x)(hm:X.mg x=some u)(h:Q u s)
  (hd:(x==("__debug__":Str))=false:=by decide):wpAny (model X.prog X.w) X.A (eval (.Name x pos) X.env) Q E s:=
 zl I.ok.kind hg (Calls.loadGlobal_global (by rw[I.ok.glob];exact I.mod.glob.keeps I.bk) hm h) hd
theorem pM{E:Value->aa->Prop}{BD:List (Addr×Obj)}{s:aa}{σ:St}{H:Hp}{x:Str}{u:Value}{pos:ai}{Q:Value->aa->Prop}(I:aI X BD σ H s)(hg:Gl X x)(hm:X.mg x=none)(hv:bootBuiltins x=some u)(h:Q u s)
  (hn:x≠"__name__":=by decide)(hd:(x==("__debug__":Str))=false:=by decide):wpAny (model X.prog X.w) X.A (eval (.Name x pos) X.env) Q E s:=by
 obtain⟨mb,h1,h2⟩:=I.mod.blt;exact zl I.ok.kind hg (Calls.loadGlobal_builtin (by rw[I.ok.glob];exact I.mod.glob.keeps I.bk) hm (by rw[I.ok.blt];exact h1.keeps I.bk) ((h2 x hn).trans hv) h) hd
theorem abB{x:Str}{v:V}{u:Value}{pos:ai}(hg:Gl X x)(hm:X.mg x=some u)(r:bS v u)(hd:(x==("__debug__":Str))=false:=by decide):PE X (.Name x pos) (tC v):=
 λ_ _ _ H _ I h=>De I hg hm ⟨v,H,I,r,h⟩ hd
theorem abh{x:Str}{v:V}{u:Value}{pos:ai}(hg:Gl X x)(hm:X.mg x=none)(hv:bootBuiltins x=some u)(r:bS v u)(hn:x≠"__name__":=by decide)(hd:(x==("__debug__":Str))=false:=by decide):PE X (.Name x pos) (tC v):=
 λ_ _ _ H _ I h=>pM I hg hm hv ⟨v,H,I,r,h⟩ hn hd
variable{a b:ah}{ta tb:TE}{pos:ai}
def PC(X:Cx)(op:kw)(a b:ah)(t:TE):Prop:=
 ∀(BD:List (Addr×Obj))(s:aa)(σ:St)(H:Hp)(Q:VK),aI X BD σ H s->t σ H Q->
  wpAny (model X.prog X.w) X.A (eval a X.env) (λv BG=>wpAny (model X.prog X.w) X.A (eval b X.env) (λu BJ=>wpAny (model X.prog X.w) X.A (compareOp op v u) (EP X BD σ Q) X.xe BJ) X.xe BG) X.xe s
theorem O5(b:ah){op:kw}(h:op≠.In)(h2:op≠.NotIn):behindInMarks op b=false:=by
 have e1:(op==CmpOp.In)=false:=by cases op<;>first |rfl |exact absurd rfl h
 have e2:(op==CmpOp.NotIn)=false:=by cases op<;>first |rfl |exact absurd rfl h2
 cases b<;>simp[behindInMarks,e1,e2]
def tB(t:TE):TT:=λσ H Q=>t σ H λx H1=>∃c,x=.bl c/\Q c H1
theorem aey{op:kw}{t:TE}(h:PC X op a b t)(h1:behindInMarks op b=false:=by first |exact O5 _ (by decide) (by decide) |rfl):PT X (.Compare a [op] [b] pos) (tB t):=by
 intro BD s σ H Q I hw;refine zm (bK (h BD s σ H _ I hw) λv s1 h1=>bK h1 λu s2 h2=>bK h2 λc s3 hq=>?_) h1;rcases hq with⟨x,H1,I1,r1,q1⟩;obtain⟨d,rfl,q⟩:=q1;cases r1;exact oa ⟨H1,I1,q⟩
theorem acV{e:ah}{t:TE}(h:PE X e t)(he:∀whole,isTrue e X.env whole=(do let v <-whole;standAt e.pos;holding [v] (truthy v)):=by intro _;rfl):PT X e (tB t):=by
 intro BD s σ H Q I hw;refine isTrue_plain (bK (h BD s σ H _ I hw) λv s1 hq=>?_) (he _);rcases hq with⟨x,H1,I1,r1,q1⟩;obtain⟨d,rfl,q⟩:=q1;cases r1;exact oa ⟨H1,I1,q⟩
variable{tA tB':TT}{iJ:List ah}
def ae2(t u:TT):TT:=λσ H Q=>t σ H λc H1=>if c=true then u σ H1 Q else Q false H1
def aeP(t:TT):TT:=λσ H Q=>t σ H λc H1=>Q (!c) H1
theorem abA(ha:PT X a tA):PW X (.BoolOp .And [a] pos) tA:=by
 intro wh BD s σ H Q I h;refine isTrue_and (bK (ha BD s σ H Q I h) λc s1 e=>?_);cases c with
 |true=>exact isTrue_and_nil e
 |false=>exact e
theorem abR(ha:PT X a tA)(hb:PW X (.BoolOp .And (b::iJ) pos) tB'):PW X (.BoolOp .And (a::b::iJ) pos) (ae2 tA tB'):=by
 intro wh BD s σ H Q I h;refine isTrue_and (bK (ha BD s σ H _ I h) λc s1 hq=>?_);rcases hq with⟨H1,I1,q1⟩;cases c with
 |true=>exact hb wh BD s1 σ H1 Q I1 q1
 |false=>exact⟨H1,I1,q1⟩
theorem abY(ha:PT X a tA):PT X (.UnaryOp .Not a pos) (aeP tA):=by
 intro BD s σ H Q I h;exact isTrue_not (ha BD s σ H (λc H1=>Q (!c) H1) I h)
def adx(ta tb:TE):TE:=λσ H Q=>ta σ H λx H1=>∃c,x=.bl c/\if c=true then tb σ H1 Q else Q (.bl false) H1
def adQ(ta:TE):TE:=λσ H Q=>ta σ H λx H1=>∃c,x=.bl c/\Q (.bl (!c)) H1
theorem acO(ha:PE X a ta)(hb:PE X (.BoolOp .And (b::iJ) pos) tb):PE X (.BoolOp .And (a::b::iJ) pos) (adx ta tb):=by
 intro BD s σ H Q I h;refine BoolOp_and (bK (ha BD s σ H _ I h) λv s1 hq=>?_);rcases hq with⟨x,H1,I1,r1,q1⟩;obtain⟨c,rfl,q1⟩:=q1;cases r1;refine oa ?_;cases c with
 |true=>exact hb BD s1 σ H1 Q I1 q1
 |false=>exact⟨.bl false,H1,I1,rfl,q1⟩
theorem ac9(ha:PE X a ta):PE X (.UnaryOp .Not a pos) (adQ ta):=by
 intro BD s σ H Q I h;refine UnaryOp_ (bK (ha BD s σ H _ I h) λv s1 hq=>?_);rcases hq with⟨x,H1,I1,r1,q1⟩;obtain⟨c,rfl,q1⟩:=q1;cases r1;exact not_of (oa ⟨.bl (!c),H1,I1,rfl,q1⟩)
def tIf(t:TT)(ta tb:TE):TE:=λσ H Q=>t σ H λc H1=>if c=true then ta σ H1 Q else tb σ H1 Q
theorem L9{c:ah}(hc:PT X c tA)(ha:PE X a ta)(hb:PE X b tb):PE X (.IfExp c a b pos) (tIf tA ta tb):=by
 intro BD s σ H Q I h;refine wpAny_IfExp (bK (hc BD s σ H _ I h) λd s1 hq=>?_);rcases hq with⟨H1,I1,q1⟩;cases d with
 |true=>exact ha BD s1 σ H1 Q I1 q1
 |false=>exact hb BD s1 σ H1 Q I1 q1
end
def cK(K:ag)(H:Hp)(a:Addr)(xs:List V):Prop:=
 Rd H a (.lst xs)\/
  ∃(o:Obj)(its:Array Value)(n:Nat),K.lookup a=some o/\o.cls=.type "list"/\o.dict=none/\o.data=.seq its n/\its.size<=sizeLine/\bI xs its.toList
def dP(K:ag)(H:Hp)(a:Addr)(xs:List V):Prop:=
 Rd H a (.tup xs)\/
  ∃(o:Obj)(its:Array Value)(n:Nat),K.lookup a=some o/\o.cls=.type "tuple"/\o.data=.seq its n/\its.size<=sizeLine/\bI xs its.toList
def aeE:Value->Option V
 |.none=>some .non
 |.bool b=>some (.bl b)
 |.int i _=>some (.int i)
 |.str x _=>some (.str x)
 |.bytes b _=>some (.byt b)
 |.float b _=>some (.flt b)
 |.ref a=>some (.ref a)
 |.type n=>some (.ty n)
 |_=>none
theorem bS.abs{x:V}{u:Value}(r:bS x u):aeE u=some x:=by
 cases x with
 |non=>cases r;rfl
 |bl _=>cases r;rfl
 |int _=>obtain⟨t,rfl⟩:=r;rfl
 |str _=>obtain⟨t,rfl⟩:=r;rfl
 |byt _=>obtain⟨t,rfl⟩:=r;rfl
 |flt _=>obtain⟨t,rfl⟩:=r;rfl
 |ref _=>cases r;rfl
 |ty _=>cases r;rfl
theorem bS.inj{x y:V}{u:Value}(r:bS x u)(q:bS y u):x=y:=ce (r.abs.symm.trans q.abs)
theorem bI.inj:∀{xs ys:List V}{us:AU},bI xs us->bI ys us->xs=ys
 |_,_,_,.nil,.nil=>rfl
 |_,_,_,.cons r t,.cons r' t'=>by rw[r.inj r',bI.inj t t']
section
variable{X:Cx}{BD:List (Addr×Obj)}{σ:St}{H:Hp}{s:aa}{a:Addr}{xs ys:List V}
theorem cK.of{K:ag}(h:H a=some (.lst xs)):cK K H a xs:=.inl (.inl h)
theorem dP.of{K:ag}(h:H a=some (.tup xs)):dP K H a xs:=.inl (.inl h)
theorem aI.list(I:aI X BD σ H s)(h:cK X.K H a xs):∃its:AU,bI xs its/\PlainL s.heap a its.toArray/\xs.length<=sizeLine:=by
 rcases h with h |⟨o,its,n,hk,hc,hd,hs,hz,r⟩
 .obtain⟨z,its,n,r,e⟩:=h.ok I.hok
  exact⟨its,r,⟨_,n,e,rfl,rfl,rfl⟩,z⟩
 .refine⟨its.toList,r,⟨o,n,I.kIn a o hk,hc,hd,by simpa using hs⟩,?_⟩
  have e:=r.length;simp only[rp]at e;omega
theorem aI.tuple(I:aI X BD σ H s)(h:dP X.K H a xs):∃its:AU,bI xs its/\IsTup s.heap a its.toArray/\xs.length<=sizeLine:=by
 rcases h with h |⟨o,its,n,hk,hc,hs,hz,r⟩
 .obtain⟨z,its,r,p⟩:=h.ok I.hok
  exact⟨its,r,p,z⟩
 .refine⟨its.toList,r,⟨o,I.kIn a o hk,hc,n,by simpa using hs⟩,?_⟩
  have e:=r.length;simp only[rp]at e;omega
theorem aI.list_inj(I:aI X BD σ H s)(h:cK X.K H a xs)(h':cK X.K H a ys):xs=ys:=by
 obtain⟨its,r,⟨o,n,e,_,_,d⟩,_⟩:=I.list h;obtain⟨its',r',⟨o',n',e',_,_,d'⟩,_⟩:=I.list h';rw[e]at e';cases e';rw[d]at d';injection d' with d1 _;have:its=its':=by simpa using congrArg wg d1
 subst this;exact r.inj r'
theorem aI.tuple_inj(I:aI X BD σ H s)(h:dP X.K H a xs)(h':dP X.K H a ys):xs=ys:=by
 obtain⟨its,r,⟨o,e,_,n,d⟩,_⟩:=I.tuple h;obtain⟨its',r',⟨o',e',_,n',d'⟩,_⟩:=I.tuple h';rw[e]at e';cases e';rw[d]at d';injection d' with d1 _;have:its=its':=by simpa using congrArg wg d1
 subst this;exact r.inj r'
end
abbrev Cx.wish(X:Cx)(E:Value->aa->Prop):Cx:={X with xe:=E}
abbrev Cx.nox(X:Cx):Cx:=X.wish λ_ _=>False
theorem Cx.Ok.wish{X:Cx}(ok:X.Ok)(E:Value->aa->Prop):(X.wish E).Ok:=
 ⟨ok.mod,ok.kind,ok.glob,ok.blt,ok.above,ok.inj,ok.has,ok.cab,ok.hd,ok.frames,ok.stk,ok.exf,ok.bs,ok.bsz,ok.noex,ok.exfs,ok.funs,ok.frf⟩
theorem Cx.Ok.unwish{X:Cx}{E:Value->aa->Prop}(ok:(X.wish E).Ok):X.Ok:=
 ⟨ok.mod,ok.kind,ok.glob,ok.blt,ok.above,ok.inj,ok.has,ok.cab,ok.hd,ok.frames,ok.stk,ok.exf,ok.bs,ok.bsz,ok.noex,ok.exfs,ok.funs,ok.frf⟩
section
variable{X:Cx}{BD:List (Addr×Obj)}{σ:St}{H:Hp}{s:aa}{E:Value->aa->Prop}
theorem aI.wish(I:aI X BD σ H s)(E:Value->aa->Prop):aI (X.wish E) BD σ H s:=⟨I.ok.wish E,I.os,I.bare,I.base,I.loc,I.cell,I.free,I.freeC,I.pin,I.hok,I.len⟩
theorem aI.unwish(I:aI (X.wish E) BD σ H s):aI X BD σ H s:=⟨I.ok.unwish,I.os,I.bare,I.base,I.loc,I.cell,I.free,I.freeC,I.pin,I.hok,I.len⟩
theorem SP.unwish{D:nH}{f:Flow}{s':aa}(h:SP (X.wish E) BD D f s'):SP X BD D f s':=by
 cases f with
 |next=>obtain⟨σ',H',I,q⟩:=h;exact⟨σ',H',I.unwish,q⟩
 |brk=>obtain⟨σ',H',I,q⟩:=h;exact⟨σ',H',I.unwish,q⟩
 |cont=>obtain⟨σ',H',I,q⟩:=h;exact⟨σ',H',I.unwish,q⟩
 |ret u=>obtain⟨v,σ',H',I,r,q⟩:=h;exact⟨v,σ',H',I.unwish,r,q⟩
theorem gB.nox{st:List Stmt}{t:TS}(h:gB X.nox st t):gB X st t:=λBD s σ H D I hw=>
 gh (h BD s σ H D (I.wish _) hw) (λ_ _ q=>q.unwish) λ_ _ z=>jx z
end
section
variable{X:Cx}{st:Stmt}{iJ:List Stmt}{t u:TS}{e:ah}{te:TE}{pos:ai}
def adG:TS:=λD σ H=>D.nx σ H
def ae1(t u:TS):TS:=λD σ H=>t {D with nx:=u D} σ H
theorem abl:gB X [] adG:=λ_ _ σ H _ I h=>rq ⟨σ,H,I,h⟩
theorem N5(h1:PS X st t)(h2:gB X iJ u):gB X (st::iJ) (ae1 t u):=by
 intro BD s σ H D I h;refine wpAny_execs_cons (bK (h1 BD s σ H {D with nx:=u D} I h) λf s1 q=>?_);cases f with
 |next=>
  obtain⟨σ',H',I',q⟩:=q;exact h2 BD s1 σ' H' D I' q
 |ret v=>exact q
 |brk=>exact q
 |cont=>exact q
theorem Br(h1:PS X st t):gB X [st] t:=by
 intro BD s σ H D I h;refine wpAny_execs_cons (bK (h1 BD s σ H D I h) λf s1 q=>?_);cases f with
 |next=>exact rq q
 |ret v=>exact q
 |brk=>exact q
 |cont=>exact q
theorem aI.quiet{BD:List (Addr×Obj)}{σ:St}{H:Hp}{s:aa}(I:aI X BD σ H s):interactive X.env=false:=by simp[interactive,I.ok.kind]
def aem(te:TE):TS:=λD σ H=>te σ H λ_ H1=>D.nx σ H1
theorem abo(he:PE X e te)(hs:swapsWith e none pos.line X.env=pure false:=by rfl):PS X (.Expr e pos) (aem te):=by
 intro BD s σ H D I h;exact wpAny_Expr_any (bK (he BD s σ H _ I h) λv s1 ⟨x,H1,I1,r1,q1⟩=>⟨σ,H1,I1,q1⟩) I.quiet hs
def afa(te:TE):TS:=λD σ H=>te σ H D.rt
theorem acB(he:PE X e te):PS X (.Return (some e) pos) (afa te):=by
 intro BD s σ H D I h;exact wpAny_Return_some (bK (he BD s σ H _ I h) λv s1 ⟨x,H1,I1,r1,q1⟩=>⟨x,σ,H1,I1,r1,q1⟩)
def adN:TS:=λD _ H=>D.rt .non H
theorem aaV:PS X (.Return none pos) adN:=λ_ _ σ H _ I h=>wpAny_Return_none ⟨.non,σ,H,I,rfl,h⟩
def aeF(c:TT)(t u:TS):TS:=λD σ H=>c σ H λb H1=>if b=true then t D σ H1 else u D σ H1
theorem adB{c:ah}{a b:List Stmt}{tc:TT}(hc:PT X c tc)(ha:gB X a t)(hb:gB X b u):PS X (.If c a b pos) (aeF tc t u):=by
 intro BD s σ H D I h;refine wpAny_If (bK (hc BD s σ H _ I h) λd s1 hq=>?_);rcases hq with⟨H1,I1,q1⟩;cases d with
 |true=>exact ha BD s1 σ H1 D I1 q1
 |false=>exact hb BD s1 σ H1 D I1 q1
end
abbrev TG:=V->St->Hp->(St->Hp->Prop)->Prop
abbrev nO:=List V->St->Hp->(St->Hp->Prop)->Prop
def PG(X:Cx)(target:ah)(t:TG):Prop:=
 ∀(BD:List (Addr×Obj))(s:aa)(σ:St)(H:Hp)(v:V)(u:Value)(Q:St->Hp->Prop),aI X BD σ H s->bS v u->t v σ H Q->
  wpAny (model X.prog X.w) X.A (assign target X.env u) (λ_ s'=>∃σ' H',aI X BD σ' H' s'/\Q σ' H') X.xe s
def mK(X:Cx)(ts:List ah)(t:nO):Prop:=
 ∀(BD:List (Addr×Obj))(s:aa)(σ:St)(H:Hp)(vs:List V)(us:AU)(Q:St->Hp->Prop),aI X BD σ H s->bI vs us->t vs σ H Q->
  wpAny (model X.prog X.w) X.A (assignInOrder ((assignEach ts X.env).map (·.2)) us) (λ_ s'=>∃σ' H',aI X BD σ' H' s'/\Q σ' H') X.xe s
abbrev yZ:=V->V->V->Hp->(Hp->Prop)->Prop
def Lh(X:Cx)(t:yZ):Prop:=
 ∀(BD:List (Addr×Obj))(s:aa)(σ:St)(H:Hp)(o i v:V)(ov iv u:Value)(Q:Hp->Prop),aI X BD σ H s->bS o ov->bS i iv->bS v u->t o i v H Q->
  wpAny (model X.prog X.w) X.A (setItem ov iv u) (λ_ s'=>∃H',aI X BD σ H' s'/\Q H') X.xe s
abbrev TIp:=V->V->Hp->VK->Prop
def iU(X:Cx)(op:Operator)(t:TIp):Prop:=
 ∀(BD:List (Addr×Obj))(s:aa)(σ:St)(H:Hp)(x y:V)(v u:Value)(Q:VK),aI X BD σ H s->bS x v->bS y u->t x y H Q->
  wpAny (model X.prog X.w) X.A (inplaceOp op v u) (EP X BD σ Q) X.xe s
section
variable{X:Cx}{pos:ai}
def Vg(i:Nat):TG:=λv σ H Q=>Q (σ.set i (some v)) H
theorem Gr{i:Nat}{x:Str}(hN:X.N.Nodup)(hi:X.N[i]?=some x)(hx:nM X.env.scope x)(hf:X.fn x=true\/X.env.scope.names.lookup x=some .local:=by first |exact .inl rfl |exact .inr rfl |assumption):PG X (.Name x pos) (Vg i):=by
 intro BD s σ H v u Q I r h;exact wpAny_assign_Name (tM I hN hi hx r (λs' I'=>⟨_,H,I',h⟩) hf)
def aeM:nO:=λvs σ H Q=>vs=[]/\Q σ H
def aer(t:TG)(u:nO):nO:=λvs σ H Q=>∃v r,vs=v::r/\t v σ H λσ' H'=>u r σ' H' Q
theorem aaz:mK X [] aeM:=by
 intro BD s σ H vs us Q I r h;obtain⟨e,h⟩:=h;subst e;cases r;exact assignInOrder_nil ⟨σ,H,I,h⟩
theorem M7{e:ah}{es:List ah}{t:TG}{u:nO}(h1:PG X e t)(h2:mK X es u)
  (hs:(assignEach (e::es) X.env).map (·.2)=assign e X.env::(assignEach es X.env).map (·.2):=by rfl):mK X (e::es) (aer t u):=by
 intro BD s σ H vs us Q I r h;obtain⟨v,vr,e1,h⟩:=h;subst e1;cases r with
 |cons r rr=>
  rw[hs];refine wj (bK (h1 BD s σ H _ _ _ I r h) λ_ s1 hq=>?_);rcases hq with⟨σ1,H1,I1,q1⟩;exact h2 BD s1 σ1 H1 _ _ Q I1 rr q1
def aeT(K:ag)(n:Nat)(t:nO):TG:=λv σ H Q=>∃a xs,v=.ref a/\dP K H a xs/\xs.length=n/\t xs σ H Q
theorem acd{es:List ah}{k:Nat}{t:nO}{n:Nat}(hc:X.calm=true)(h:mK X es t)
  (hn:(assignEach es X.env).length=n:=by rfl)(hst:(assignEach es X.env).findIdx? (·.1)=none:=by rfl):PG X (.Tuple es k pos) (aeT X.K n t):=by
 intro BD s σ H v u Q I r hw;obtain⟨a,xs,e1,hq,hl,hw⟩:=hw;subst e1;cases r;obtain⟨its,rv,ht,hz⟩:=I.tuple hq;refine assign_Tuple_tuple (I.ok.hd hc) ht (by simp[hn,<-hl,rv.length]) hst λh' hx=>?_;have I1:aI X BD σ H {s with heap:=h'}:=I.kept (t':=s.toks) λb o e=>hx b o (de (bj e)) e;exact h BD _ σ H xs _ Q I1 (by simpa using rv) hw
def aeV(to ti:TE)(t:yZ):TG:=λv σ H Q=>to σ H λo H1=>ti σ H1 λi H2=>t o i v H2 λH3=>Q σ H3
theorem Ye{o i:ah}{to ti:TE}{t:yZ}(ho:PE X o to)(hi:PE X i ti)(hs:Lh X t)
  (ha:∀v,assign (.Subscript o i pos) X.env v=(do
   let ov <-holding [v] (eval o X.env)
   let iv <-holding [v,ov] (eval i X.env)
   standAt pos
   holding [v,ov,iv] (setItem ov iv v)
   release [v,ov,iv] []):=by intro _;rfl):PG X (.Subscript o i pos) (aeV to ti t):=by
 intro BD s σ H v u Q I r h;rw[ha];refine ae (kx (bK (ho BD s σ H _ I h) λov s1 hq=>?_));rcases hq with⟨x,H1,I1,r1,q1⟩;refine ae (kx (bK (hi BD s1 σ H1 _ I1 q1) λiv s2 hq=>?_));rcases hq with⟨y,H2,I2,r2,q2⟩;refine ae (qd (ae (kx (bK (hs BD s2 σ H2 x y v ov iv u _ I2 r1 r2 r q2) λ_ s3 hq=>?_))));rcases hq with⟨H3,I3,q3⟩;exact wpAny_release ⟨σ,H3,I3,q3⟩
def Jh(te:TE)(g:TG):TS:=λD σ H=>te σ H λx H1=>g x σ H1 D.nx
theorem xL{tg e:ah}{te:TE}{g:TG}(he:PE X e te)(hg:PG X tg g)(hs:swapsWithSole [tg] e pos.line X.env=pure false:=by rfl)(hw:swappedStores [tg] e X.env=pure none:=by rfl)
  (h1:(assignEach [tg] X.env).map (·.2)=[assign tg X.env]:=by rfl):PS X (.Assign [tg] e pos) (Jh te g):=by
 intro BD s σ H D I h;refine wpAny_Assign_stores (bK (he BD s σ H _ I h) λv s1 hq=>?_) hs hw;rcases hq with⟨x,H1,I1,r1,q1⟩;rw[h1];exact bK (hg BD s1 σ H1 x v _ I1 r1 q1) λ_ s2 q=>q
theorem acM{i:Nat}{x:Str}{e:ah}{te:TE}{pos':ai}(hN:X.N.Nodup)(hi:X.N[i]?=some x)(hx:nM X.env.scope x)(he:PE X e te)(hs:swapsWith e (some (.Name x pos')) pos.line X.env=pure false:=by rfl)(hf:X.fn x=true\/X.env.scope.names.lookup x=some .local:=by first |exact .inl rfl |exact .inr rfl |assumption):
  PS X (.Assign [.Name x pos'] e pos) (Jh te (Vg i)):=by
 intro BD s σ H D I h;refine wpAny_Assign_Name (bK (he BD s σ H _ I h) λv s1 hq=>?_) hs;rcases hq with⟨y,H1,I1,r1,q1⟩;exact tM I1 hN hi hx r1 (λs2 I2=>⟨_,H1,I2,q1⟩) hf
def aeY(i j:Nat)(ta:TA):TS:=λD σ H=>ta σ H λvs H1=>∃v w,vs=[v,w]/\D.nx ((σ.set i (some v)).set j (some w)) H1
theorem acI{i j:Nat}{x y:Str}{a b:ah}{ta:TA}{px py pt:ai}{kt k2 fG}(hc:X.calm=true)(hN:X.N.Nodup)(hi:X.N[i]?=some x)(hj:X.N[j]?=some y)(hij:i≠j)
  (hx:X.env.scope.names.lookup x=some .local)(hy:X.env.scope.names.lookup y=some .local)(ha:PA X [a,b] ta)
  (hw:swappedStores [.Tuple [.Name x px,.Name y py] kt pt] (.Tuple [a,b] k2 fG) X.env=pure (some [x,y]))
  (hs:swapsWithSole [.Tuple [.Name x px,.Name y py] kt pt] (.Tuple [a,b] k2 fG) pos.line X.env=pure false:=by rfl):
  PS X (.Assign [.Tuple [.Name x px,.Name y py] kt pt] (.Tuple [a,b] k2 fG) pos) (aeY i j ta):=by
 intro BD s σ H D I h;rw[exec_Assign_arm];refine ae (qd ?_);rw[hs];refine ae (ao ?_);rw[if_neg (by decide)];refine ae (Tuple_ (bK (ha _ BD s σ H _ I h) λus s1 hq=>?_));rcases hq with⟨vs,H1,I1,r1,q1⟩;obtain⟨v,w,e1,q1⟩:=q1;subst e1;obtain⟨u1,u2,rfl,rv,rw'⟩:∃u1 u2,us=[u1,u2]/\bS v u1/\bS w u2:=by
  cases r1 with
  |cons p q=>
   cases q with
   |cons p' q'=>
    cases q';exact⟨_,_,rfl,p,p'⟩
 refine iu ?_ (by show 2<=sizeLine;decide);have I2:aI X BD σ H1 {s1 with heap:=s1.heap.push {cls:=.type "tuple",data:=.seq [u1,u2].toArray}}:=I1.kept (t':=s1.toks) λb o e=>ay _ e;rw[hw];refine ae (ao ?_);show wpAny (model X.prog X.w) X.A (do rule "assign.swapped-stores";let items <-unpackItems (.ref s1.heap.objs.size) 2 none;assignInOrder [λv=>bindName X.env y v,λv=>bindName X.env x v] items.reverse;pure Flow.next) _ _ _
 refine ae (qe (ae (unpackItems_tuple (items:=#[u1,u2]) (I.ok.hd hc) (se s1.heap _) λh' hx'=>?_)));have I3:=I2.kept (h':=h') (t':=s1.toks) λb o e=>hx' b o (de (bj e)) e;show wpAny _ _ (assignInOrder [λv=>bindName X.env y v,λv=>bindName X.env x v] [u2,u1] >>= λ_=>pure Flow.next) _ _ _
 refine ae (wj (wpAny_bindName (tM I3 hN hj (.inl hy) rw' (λs2 I4=>?_) (.inr hy))));refine wj (wpAny_bindName (tM I4 hN hi (.inl hx) rv (λs3 I5=>assignInOrder_nil (ao ?_)) (.inr hx)));rw[List.set_comm _ _ (ik hij)]at I5;exact⟨_,H1,I5,q1⟩
end
section
variable{X:Cx}{pos:ai}
def acx(c:TT)(tb:TS):TS:=λD σ H=>∃W:Nat->St->Hp->Prop,(∃m,W m σ H)/\∀m σ H,W m σ H->
 c σ H λb H1=>if b=true then ∃N:St->Hp->Prop,(∀σ' H',N σ' H'->∃m',m'<m/\W m' σ' H')/\tb {D with nx:=N,ct:=N,bk:=D.nx} σ H1 else D.nx σ H1
theorem V9{c:ah}{body:List Stmt}{tc:TT}{tb:TS}(hp:qg (model X.prog X.w) X.A X.env X.xe)(hc:PT X c tc)(hb:gB X body tb):PS X (.While c body [] pos) (acx tc tb):=by
 intro BD s σ H D I h;obtain⟨W,⟨m0,w0⟩,turn⟩:=h;refine wpAny_While (codeAny_whileLoop (λn s'=>∃σ' H',aI X BD σ' H' s'/\W n σ' H') ?_ m0 ⟨σ,H,I,w0⟩)
 rintro n s1 ⟨σ1,H1,I1,w1⟩
 refine mf hp (bK (hc BD s1 σ1 H1 _ I1 (turn n σ1 H1 w1)) λb s2 hq=>?_);rcases hq with⟨H2,I2,q2⟩;cases b with
 |true=>
  obtain⟨N,hN,q2⟩:=q2;rw[if_pos rfl];refine mf hp (bK (hb BD s2 σ1 H2 _ I2 q2) λf s3 q3=>?_);cases f with
  |next=>
   obtain⟨σ3,H3,I3,n3⟩:=q3;obtain⟨m',hm,w3⟩:=hN σ3 H3 n3;exact⟨m',hm,σ3,H3,I3,w3⟩
  |cont=>
   obtain⟨σ3,H3,I3,n3⟩:=q3;obtain⟨m',hm,w3⟩:=hN σ3 H3 n3;exact⟨m',hm,σ3,H3,I3,w3⟩
  |brk=>exact q3
  |ret v=>exact q3
 |false=>
  rw[if_neg iw];exact rq ⟨σ1,H2,I2,q2⟩
end
structure It where
 go:Nat->Hp->Prop
 yld:Nat->Hp->V->Hp->Prop
 stop:Nat->Hp->Prop
def fS(X:Cx)(BD:List (Addr×Obj))(H:Hp)(b:Addr):Prop:=
 H b=none/\b≠X.env.locals/\b∉X.fs/\(b∈X.ex\/X.BE.heap.objs.size<=b)/\(∀x c,X.env.cells.lookup x=some c->c≠b)/\∀p∈X.pn++BD,p.1≠b
theorem aI.fpOk{X:Cx}{BD:List (Addr×Obj)}{σ:St}{H H':Hp}{s:aa}{b:Addr}(I:aI X BD σ H s)(hb:s.heap.objs.size<=b)(hn:H' b=none):fS X BD H' b:=by
 refine⟨hn,og (dm I.lt hb),I.nofs hb,.inr (ft I.sz hb),λx c e z=>?_,λp hp z=>?_⟩
 .obtain⟨v,q⟩:=I.cell x c e
  exact absurd (dm q.lt (by rw[z];exact hb)) (je _)
 .exact absurd (dm (bj (I.pin p hp).1) (by rw[z];exact hb)) (je _)
structure rZ(P:Program)(w:aq)(K:ag)(tg:ah)(J:It)(fp:List Addr)(it:Addr)(tn:Nat->Heap->Prop):Prop where
 mem:it∈fp
 obj:∀i h,tn i h->∀b∈fp,∃o,h.get? b=some o/\∀v,o.data≠.cell v
 keep:∀i h h',tn i h->(∀b∈fp,∀o,h.get? b=some o->h'.get? b=some o)->tn i h'
 item:∀(X:Cx),X.prog=P->X.w=w->X.K=K->X.calm=true->∀(i:Nat)(BD:List (Addr×Obj))(s:aa)(σ:St)(H:Hp)(E:Value->aa->Prop),aI X BD σ H s->(∀b∈fp,fS X BD H b)->tn i s.heap->J.go i H->
  wpAny (model P w) X.A (pyNext (.ref it)) (λr s1=>∃u,r=some u/\
   wpAny (model P w) X.A (letOwnedTupleGo tg (.ref it) u) (λ_ s2=>∃x H',aI X BD σ H' s2/\bS x u/\J.yld i H x H'/\tn (i+1) s2.heap/\∀b∈fp,H' b=none) E s1) E s
 done:∀(X:Cx),X.prog=P->X.w=w->X.K=K->X.calm=true->∀(i:Nat)(BD:List (Addr×Obj))(s:aa)(σ:St)(H:Hp)(E:Value->aa->Prop),aI X BD σ H s->(∀b∈fp,fS X BD H b)->tn i s.heap->J.stop i H->
  wpAny (model P w) X.A (pyNext (.ref it)) (λr s1=>r=none/\aI X BD σ H s1) E s
 self:∀(A:au)(i:Nat)(s:aa)(Q:Value->aa->Prop)(E:Value->aa->Prop),tn i s.heap->Q (.ref it) s->wpAny (model P w) A (pyIter (.ref it)) Q E s
abbrev TI:=St->Hp->(It->Hp->Prop)->Prop
def Mx(X:Cx)(BD:List (Addr×Obj))(σ:St)(tg:ah)(R:It->Hp->Prop)(itv:Value)(s2:aa):Prop:=
 ∃(it:Addr)(fp:List Addr)(tn:Nat->Heap->Prop)(J:It)(H':Hp),itv=.ref it/\aI X BD σ H' s2/\rZ X.prog X.w X.K tg J fp it tn/\tn 0 s2.heap/\(∀b∈fp,fS X BD H' b)/\R J H'
def PI(X:Cx)(tg iter:ah)(wi:TI):Prop:=
 ∀(BD:List (Addr×Obj))(s:aa)(σ:St)(H:Hp)(R:It->Hp->Prop),aI X BD σ H s->wi σ H R->
  wpAny (model X.prog X.w) X.A (eval iter X.env) (λv s1=>wpAny (model X.prog X.w) X.A (pyIter v) (Mx X BD σ tg R) X.xe s1) X.xe s
theorem Kg {M : ly} {A : au} {E : Value → aa → Prop} {s : aa} {tg : ah} {it : Addr} {u : Value} {o : Obj} {n : String} {vs : Array Value} {Q : Unit → aa → Prop} (ho : s.heap.get? it = some o) (hc : o.cls = .type n) (hd : o.data = .fields vs)
    (hn : ["enumerate", "zip", "dict_itemiterator", "dict_reverseitemiterator", "odict_iterator", "itertools.zip_longest", "itertools.pairwise"].contains n = false) (hQ : Q () s) : wpAny M A (letOwnedTupleGo tg (.ref it) u) Q E s := by
  unfold letOwnedTupleGo;cases tg <;> first
    | exact ao hQ
    | (cases u <;> first
        | exact ao hQ
        | (refine ae (wpAny_load ho ?_)
           rw [hc, hd];show wpAny M A (if (["enumerate", "zip", "dict_itemiterator", "dict_reverseitemiterator", "odict_iterator", "itertools.zip_longest", "itertools.pairwise"].contains n && vs[0]? == some (rawInt _)) = true then _ else _) Q E s;rw [if_neg (by intro h; rw [hn, Bool.false_and] at h; cases h)];exact ao hQ))
def zK(K:ag)(a:Addr):It:=
 ⟨λi H=>∃xs x,cK K H a xs/\xs[i]?=some x,λi H x H'=>H'=H/\∀xs,cK K H a xs->xs[i]?=some x,λi H=>∃xs,cK K H a xs/\xs.length<=i⟩
def Oh(K:ag)(a:Addr):It:=
 ⟨λi H=>∃xs x,dP K H a xs/\xs[i]?=some x,λi H x H'=>H'=H/\∀xs,dP K H a xs->xs[i]?=some x,λi H=>∃xs,dP K H a xs/\xs.length<=i⟩
def vG(lo:Int)(n:Nat):It:=⟨λi _=>i<n,λi H x H'=>H'=H/\x=.int (lo+i),λi _=>n<=i⟩
theorem J9{P:Program}{w:aq}{K:ag}{tg:ah}(a it:Addr):rZ P w K tg (zK K a) [it] it (λi h=>h.IsListIter it a i) where
 mem:=by simp
 obj:=λi h st b hb=>by
  have e:b=it:=by simpa using hb
  subst e;obtain⟨o,e,c,d⟩:=st;exact⟨o,e,λv z=>by rw[d]at z;cases z⟩
 keep:=λi h h' st k=>st.at λo e=>k it (by simp) o e
 item:=by
  intro X hP hw hK hc i BD s σ H E I hf st hg;subst hP hw hK;obtain⟨xs,x,hq,hx⟩:=hg;obtain⟨its,rv,p,hz⟩:=I.list hq;obtain⟨u,hu,ru⟩:=rv.get hx;obtain⟨f0,f1,f2,f3,f4,f5⟩:=hf it (by simp);refine wpAny_pyNext_list_item st p.isList (x:=u) (by simpa using hu) λh' st' sb=>?_;have I1:aI X BD σ H {s with heap:=h'}:=I.turned (t':=s.toks) (λb o hb e=>(sb.2 b hb).trans e) f0 f1 f3 f4 f5;obtain⟨o,e,c,d⟩:=id st';exact⟨u,rfl,Kg (s:={s with heap:=h'}) e c d (by decide) ⟨x,H,I1,ru,⟨rfl,λys hy=>by rw[I.list_inj hy hq];exact hx⟩,st',λb hb=>(hf b hb).1⟩⟩
 done:=by
  intro X hP hw hK hc i BD s σ H E I hf st hg;subst hP hw hK;obtain⟨xs,hq,hx⟩:=hg;obtain⟨its,rv,p,hz⟩:=I.list hq;obtain⟨f0,f1,f2,f3,f4,f5⟩:=hf it (by simp);have hl:=rv.length;exact wpAny_pyNext_list_end (I.ok.hd hc) st p.isList (by simp;omega) λh' eb=>⟨rfl,I.turned (t':=s.toks) (λb o hb e=>eb b o hb e) f0 f1 f3 f4 f5⟩
 self:=λ_ _ _ _ _ st h=>wpAny_pyIter_listiter st h
theorem Gz{P:Program}{w:aq}{K:ag}{tg:ah}(a it:Addr):rZ P w K tg (Oh K a) [it] it (λi h=>h.IsTupleIter it a i) where
 mem:=by simp
 obj:=λi h st b hb=>by
  have e:b=it:=by simpa using hb
  subst e;obtain⟨o,e,c,d⟩:=st;exact⟨o,e,λv z=>by rw[d]at z;cases z⟩
 keep:=λi h h' st k=>st.at λo e=>k it (by simp) o e
 item:=by
  intro X hP hw hK hc i BD s σ H E I hf st hg;subst hP hw hK;obtain⟨xs,x,hq,hx⟩:=hg;obtain⟨its,rv,p,hz⟩:=I.tuple hq;obtain⟨u,hu,ru⟩:=rv.get hx;obtain⟨f0,f1,f2,f3,f4,f5⟩:=hf it (by simp);refine wpAny_pyNext_tuple_item st (show s.heap.IsTuple a its.toArray from p) (x:=u) (by simpa using hu) λh' st' sb=>?_;have I1:aI X BD σ H {s with heap:=h'}:=I.turned (t':=s.toks) (λb o hb e=>(sb.2 b hb).trans e) f0 f1 f3 f4 f5;obtain⟨o,e,c,d⟩:=id st';exact⟨u,rfl,Kg (s:={s with heap:=h'}) e c d (by decide) ⟨x,H,I1,ru,⟨rfl,λys hy=>by rw[I.tuple_inj hy hq];exact hx⟩,st',λb hb=>(hf b hb).1⟩⟩
 done:=by
  intro X hP hw hK hc i BD s σ H E I hf st hg;subst hP hw hK;obtain⟨xs,hq,hx⟩:=hg;obtain⟨its,rv,p,hz⟩:=I.tuple hq;obtain⟨f0,f1,f2,f3,f4,f5⟩:=hf it (by simp);have hl:=rv.length;exact wpAny_pyNext_tuple_end (I.ok.hd hc) st (show s.heap.IsTuple a its.toArray from p) (by simp;omega) λh' eb=>⟨rfl,I.turned (t':=s.toks) (λb o hb e=>eb b o hb e) f0 f1 f3 f4 f5⟩
 self:=λ_ _ _ _ _ st h=>wpAny_pyIter_tupleiter st h
theorem B4{P:Program}{w:aq}{K:ag}{tg:ah}(it:Addr)(lo:Int)(n:Nat):rZ P w K tg (vG lo n) [it] it (λi h=>IsRangeIter h it (lo+(i:Nat)*1) ((n:Int)-(i:Nat)) 1) where
 mem:=by simp
 obj:=λi h st b hb=>by
  have e:b=it:=by simpa using hb
  subst e;exact⟨_,st,λv z=>by
   have z':Data.fields _=Data.cell v:=z;cases z'⟩
 keep:=λi h h' st k=>k it (by simp) _ st
 item:=by
  intro X hP hw hK hc i BD s σ H E I hf st hg;subst hP hw hK;obtain⟨f0,f1,f2,f3,f4,f5⟩:=hf it (by simp);have W:=Walks.range (prog:=X.prog) (w:=X.w) (I.ok.hd hc) it lo 1 n;refine W.item i s _ _ hg st λv h' tk hv st' kk=>?_;obtain⟨t,rfl⟩:=hv;have I1:aI X BD σ H {s with heap:=h',toks:=tk}:=I.turned (λb o hb e=>kk b o (by simpa using hb) e) f0 f1 f3 f4 f5;refine⟨_,rfl,Kg (s:={s with heap:=h',toks:=tk}) (n:="range_iterator") st' rfl rfl (by decide) ⟨.int (lo+i),H,I1,⟨t,?_⟩,⟨rfl,rfl⟩,st',λb hb=>(hf b hb).1⟩⟩;rw[mj]
 done:=by
  intro X hP hw hK hc i BD s σ H E I hf st hg;subst hP hw hK;obtain⟨f0,f1,f2,f3,f4,f5⟩:=hf it (by simp);exact wpAny_pyNext_range_end (I.ok.hd hc) st (by have:n<=i:=hg;omega) λh' eb=>⟨rfl,I.turned (t':=s.toks) (λb o hb e=>eb b o hb e) f0 f1 f3 f4 f5⟩
 self:=λ_ _ _ _ _ st h=>wpAny_pyIter_rangeiter st h
section
variable{X:Cx}{tg:ah}
theorem An{BD:List (Addr×Obj)}{σ:St}{H:Hp}{s:aa}{R:It->Hp->Prop}{E:Value->aa->Prop}{lo hi:Int}{t u v:dh}{tk:Nat}(I:aI X BD σ H s)(h1:-(2^62)<=lo)(h2:lo<2^62)(h3:-(2^62)<=hi)(h4:hi<2^62)
  (q:R (vG lo (hi-lo).toNat) H):wpAny (model X.prog X.w) X.A (pyIter (.ref s.heap.objs.size)) (Mx X BD σ tg R) E {s with heap:=s.heap.push {cls:=.type "range",data:=.fields #[.int lo t,.int hi u,.int 1 v]},toks:=tk}:=by
 refine wpAny_pyIter_range (IsRange.new ..) (small_one h1 h2 h3 h4) ?_;have I1:aI X BD σ H {s with heap:=s.heap.push {cls:=.type "range",data:=.fields #[.int lo t,.int hi u,.int 1 v]},toks:=tk}:=I.kept λb o e=>ay _ e;refine⟨(s.heap.push {cls:=.type "range",data:=.fields #[.int lo t,.int hi u,.int 1 v]}).objs.size,[(s.heap.push {cls:=.type "range",data:=.fields #[.int lo t,.int hi u,.int 1 v]}).objs.size],_,_,H,rfl,
  I1.kept (t':=tk) λb o e=>ay _ e,B4 _ lo (hi-lo).toNat,?_,λb hb=>?_,q⟩
 .have e1:lo+((0:Nat):Int)*1=lo:=by simp
  have e2:(((hi-lo).toNat:Nat):Int)-((0:Nat):Int)=Builtin.Range.rangeSize lo hi 1:=by rw[rangeSize_one];split<;>omega
  show IsRangeIter _ _ (lo+((0:Nat):Int)*1) ((((hi-lo).toNat:Nat):Int)-((0:Nat):Int)) 1;rw[e1,e2];exact df _ rfl
 .have e:b=(s.heap.push {cls:=.type "range",data:=.fields #[.int lo t,.int hi u,.int 1 v]}).objs.size:=by simpa using hb
  subst e;exact I1.fpOk (ak _) (I1.hok.fresh (ak _))
def adq(ta:TA):TI:=λσ H R=>ta σ H λvs H1=>∃j:Int,vs=[.int j]/\-(2^62)<=j/\j<2^62/\R (vG 0 j.toNat) H1
def adY(ta:TA):TI:=λσ H R=>ta σ H λvs H1=>∃i j:Int,vs=[.int i,.int j]/\(-(2^62)<=i/\i<2^62/\-(2^62)<=j/\j<2^62)/\R (vG i (j-i).toNat) H1
theorem F0{a:ah}{ta:TA}{p pos:ai}(hg:Gl X "range")(hm:X.mg "range"=none)(ha:PA X [a] ta)(hs:starEach [a] X.env=[(false,eval a X.env)]:=by rfl):PI X tg (.Call (.Name "range" p) [a] [] pos) (adq ta):=by
 intro BD s σ H R I h;refine Call_ (pM I hg hm boot_range (qh (bK (ha pos BD s σ H _ I h) λus s1 hq=>?_) hs rfl));rcases hq with⟨vs,H1,I1,r1,q1⟩;obtain⟨j,e,q1,q2,q⟩:=q1;subst e;cases r1 with
 |cons r rr=>
  cases rr;obtain⟨t,rfl⟩:=r;exact call_range_1 (An I1 (by omega) (by omega) q1 q2 (by simpa using q))
theorem D4{a b:ah}{ta:TA}{p pos:ai}(hg:Gl X "range")(hm:X.mg "range"=none)(ha:PA X [a,b] ta)(hs:starEach [a,b] X.env=[(false,eval a X.env),(false,eval b X.env)]:=by rfl)(hs2:starEach [b] X.env=[(false,eval b X.env)]:=by rfl):
  PI X tg (.Call (.Name "range" p) [a,b] [] pos) (adY ta):=by
 intro BD s σ H R I h;refine Call_ (pM I hg hm boot_range (qh (bK (ha pos BD s σ H _ I h) λus s1 hq=>?_) (by rw[hs,hs2]) (by rw[hs2];rfl)));rcases hq with⟨vs,H1,I1,r1,q1⟩;obtain⟨i,j,e,⟨q1,q2,q3,q4⟩,q⟩:=q1;subst e;cases r1 with
 |cons r rr=>
  cases rr with
  |cons r' rr=>
   cases rr;obtain⟨t,rfl⟩:=r;obtain⟨t',rfl⟩:=r';exact call_range_2 (An I1 q1 q2 q3 q4 q)
def aeB(wi:TI)(g:TG)(tb:TS):TS:=λD σ H=>wi σ H λJ H1=>∃W:Nat->Nat->St->Hp->Prop,(∃m,W 0 m σ H1)/\∀i m σ H,W i m σ H->
 (J.stop i H/\D.nx σ H)\/(J.go i H/\∃N:St->Hp->Prop,(∀σ' H',N σ' H'->∃m',m'<m/\W (i+1) m' σ' H')/\∀x H',J.yld i H x H'->g x σ H' λσ2 H2=>tb {D with nx:=N,ct:=N,bk:=D.nx} σ2 H2)
def xS(fp:List Addr)(h:Heap):List (Addr×Obj):=fp.filterMap λb=>(h.get? b).map λo=>(b,o)
theorem lV{fp:List Addr}{h:Heap}{b:Addr}{o:Obj}(hb:b∈fp)(e:h.get? b=some o):(b,o)∈xS fp h:=wk.mpr ⟨b,hb,by rw[e];rfl⟩
theorem G5{fp:List Addr}{h:Heap}{p:Addr×Obj}(hp:p∈xS fp h):p.1∈fp/\h.get? p.1=some p.2:=by
 obtain⟨b,hb,e⟩:=wk.mp hp;cases q:h.get? b with
 |none=>rw[q]at e;cases e
 |some o=>
  rw[q]at e;have e':(b,o)=p:=ce e;subst e';exact⟨hb,q⟩
theorem aI.pinned{BD:List (Addr×Obj)}{σ:St}{H:Hp}{s:aa}{fp:List Addr}(I:aI X BD σ H s)(hf:∀b∈fp,fS X BD H b)(ho:∀b∈fp,∃o,s.heap.get? b=some o/\∀v,o.data≠.cell v):aI X (BD++xS fp s.heap) σ H s:=
 I.pins_of λp hp=>(cj.mp hp).elim (λz=>I.pin p (dk _ z)) λz=>by
  obtain⟨hb,e⟩:=G5 z;obtain⟨f0,f1,f2,_⟩:=hf p.1 hb;obtain⟨o,e',d⟩:=ho p.1 hb;rw[e]at e';cases e';exact⟨e,f0,f1,f2,d⟩
theorem aI.unpinned{BD pl:List (Addr×Obj)}{σ:St}{H:Hp}{s:aa}(I:aI X (BD++pl) σ H s):aI X BD σ H s:=I.pins_of λp hp=>I.pin p (dk _ (lq _ hp))
theorem Ct{iter:ah}{body:List Stmt}{wi:TI}{g:TG}{tb:TS}{pos:ai}(hp:qg (model X.prog X.w) X.A X.env X.xe)(hc:X.calm=true)(hi:PI X tg iter wi)(hg:PG X tg g)(hb:gB X body tb)
  (hs:∀x,foldedSetIterable iter X.env x=pure x:=by intro _;rfl):PS X (.For tg iter body [] pos) (aeB wi g tb):=by
 intro BD s σ H D I h;refine wpAny_For (bK (hi BD s σ H _ I h) λv s1 h1=>bK h1 λitv s2 h2=>?_) hs;obtain⟨it,fp,tn,J,H2,e,I2,T,st2,f2,W,⟨m0,w0⟩,turn⟩:=h2;subst e
 --what stays true of the iterator's objects through the loop
 have stat:∀{H':Hp},(∀b∈fp,H' b=none)->∀b∈fp,fS X BD H' b:=λhn b hb=>⟨hn b hb,(f2 b hb).2⟩;refine codeAny_forLoop_any (λn s'=>∃i σ' H',aI X BD σ' H' s'/\tn i s'.heap/\(∀b∈fp,H' b=none)/\W i n σ' H') ?_ m0 ⟨0,σ,H2,I2,st2,λb hb=>(f2 b hb).1,w0⟩
 rintro n s3 ⟨i,σ3,H3,I3,eM,fr3,w3⟩
 rcases turn i n σ3 H3 w3 with⟨stop,qn⟩|⟨go,N,hN,step⟩
 .refine mf hp (bK (T.done X rfl rfl rfl hc i BD s3 σ3 H3 X.xe I3 (stat fr3) eM stop) λr s4 hq=>?_)
  rcases hq with⟨hr,I4⟩;subst hr;exact rq ⟨σ3,H3,I4,qn⟩
 .refine mf hp (bK (T.item X rfl rfl rfl hc i BD s3 σ3 H3 X.xe I3 (stat fr3) eM go) λr s4 hq=>?_)
  rcases hq with⟨u,hr,h4⟩;subst hr;refine mf hp (bK h4 λ_ s5 hq=>?_);rcases hq with⟨x,H5,I5,r5,y5,st5,fr5⟩;have I5':=I5.pinned (stat fr5) (T.obj _ _ st5);refine mf hp (bK (hg _ s5 σ3 H5 x u _ I5' r5 (step x H5 y5)) λ_ s6 hq=>?_);rcases hq with⟨σ6,H6,I6,q6⟩;refine mf hp (bK (hb _ s6 σ6 H6 _ I6 q6) λf s7 q7=>?_);have again:∀{σ7:St}{H7:Hp},aI X (BD++xS fp s5.heap) σ7 H7 s7->N σ7 H7->∃m,m<n/\∃i σ' H',aI X BD σ' H' s7/\tn i s7.heap/\(∀b∈fp,H' b=none)/\W i m σ' H':=λ{σ7 H7} I7 n7=>by
   obtain⟨m',hm,w7⟩:=hN σ7 H7 n7;refine⟨m',hm,i+1,σ7,H7,I7.unpinned,T.keep _ _ _ st5 λb hb o e=>(I7.pin (b,o) (dk _ (dk _ (lV hb e)))).1,λb hb=>?_,w7⟩;obtain⟨o,e,d⟩:=T.obj _ _ st5 b hb;exact(I7.pin (b,o) (dk _ (dk _ (lV hb e)))).2.1
  cases f with
  |next=>obtain⟨σ7,H7,I7,n7⟩:=q7;exact again I7 n7
  |cont=>obtain⟨σ7,H7,I7,n7⟩:=q7;exact again I7 n7
  |brk=>obtain⟨σ7,H7,I7,q7⟩:=q7;exact⟨σ7,H7,I7.unpinned,q7⟩
  |ret v=>obtain⟨x7,σ7,H7,I7,r7,q7⟩:=q7;exact⟨x7,σ7,H7,I7.unpinned,r7,q7⟩
end
abbrev R2:=V->V->Hp->VK->Prop
def eW(X:Cx)(f:Value->Value->Sem Value)(r:R2):Prop:=
 ∀(BD:List (Addr×Obj))(s:aa)(σ:St)(H:Hp)(x y:V)(v u:Value)(Q:VK),aI X BD σ H s->bS x v->bS y u->r x y H Q->
  wpAny (model X.prog X.w) X.A (f v u) (EP X BD σ Q) X.xe s
def zO(X:Cx)(f:Value->Sem Value)(r:V->Hp->VK->Prop):Prop:=
 ∀(BD:List (Addr×Obj))(s:aa)(σ:St)(H:Hp)(x:V)(v:Value)(Q:VK),aI X BD σ H s->bS x v->r x H Q->
  wpAny (model X.prog X.w) X.A (f v) (EP X BD σ Q) X.xe s
def iZ(X:Cx)(f:Value)(r:List V->Hp->VK->Prop):Prop:=
 ∀(BD:List (Addr×Obj))(s:aa)(σ:St)(H:Hp)(xs:List V)(us:AU)(Q:VK),aI X BD σ H s->bI xs us->r xs H Q->
  wpAny (model X.prog X.w) X.A (call f us) (EP X BD σ Q) X.xe s
def zU(r:R2)(ta tb:TE):TE:=λσ H Q=>ta σ H λx H1=>tb σ H1 λy H2=>r x y H2 Q
def tUn(r:V->Hp->VK->Prop)(ta:TE):TE:=λσ H Q=>ta σ H λx H1=>r x H1 Q
def rI(C:Int->Int->Prop)(g:Int->Int->V):R2:=λx y H Q=>∃i j,x=.int i/\y=.int j/\C i j/\Q (g i j) H
def kD(g:Int->Int->V):R2:=λx y H Q=>∃i j,x=.int i/\y=.int j/\Q (g i j) H
def rU(g:Int->V):V->Hp->VK->Prop:=λx H Q=>∃i,x=.int i/\Q (g i) H
section
variable{X:Cx}{a b c:ah}{ta tb tc:TE}{pos:ai}
theorem Zg(ha:PE X a ta)(hb:PE X b tb){BD:List (Addr×Obj)}{s:aa}{σ:St}{H:Hp}{R:V->V->Hp->Prop}(I:aI X BD σ H s)
  (h:ta σ H λx H1=>tb σ H1 λy H2=>R x y H2){Q:Value->aa->Prop}{f:Value->Value->Sem Value}
  (hf:∀v u s2 x y H2,aI X BD σ H2 s2->bS x v->bS y u->R x y H2->wpAny (model X.prog X.w) X.A (f v u) Q X.xe s2):
  wpAny (model X.prog X.w) X.A (eval a X.env) (λv BG=>wpAny (model X.prog X.w) X.A (eval b X.env) (λu BJ=>wpAny (model X.prog X.w) X.A (f v u) Q X.xe BJ) X.xe BG) X.xe s:=by
 refine bK (ha BD s σ H _ I h) ?_
 rintro v s1 ⟨x,H1,I1,r1,q1⟩
 refine bK (hb BD s1 σ H1 _ I1 q1) ?_
 rintro u s2 ⟨y,H2,I2,r2,q2⟩
 exact hf v u s2 x y H2 I2 r1 r2 q2
theorem Dg{op:Operator}{r:R2}(ho:eW X (binaryOp op) r)(ha:PE X a ta)(hb:PE X b tb):PE X (.BinOp a op b pos) (zU r ta tb):=by
 intro BD s σ H Q I h;exact wpAny_BinOp (Zg ha hb I h λv u s2 x y H2 I2 rx ry q=>ho BD s2 σ H2 x y v u Q I2 rx ry q)
theorem aev{op:UnaryOp}{r:V->Hp->VK->Prop}(ho:zO X (unaryOp op) r)(ha:PE X a ta):PE X (.UnaryOp op a pos) (tUn r ta):=by
 intro BD s σ H Q I h;exact UnaryOp_ (bK (ha BD s σ H _ I h) λv s1 ⟨x,H1,I1,r1,q1⟩=>ho BD s1 σ H1 x v Q I1 r1 q1)
theorem zI{f:Value->Value->Sem Value}{C:Int->Int->Prop}{g:Int->Int->Int}
  (rule:∀(i j:Int)(t u:dh)(s:aa)(Q:Value->aa->Prop)(E:Value->aa->Prop),C i j->Q (.int (g i j) s.toks) {s with toks:=s.toks+1}->wpAny (model X.prog X.w) X.A (f (.int i t) (.int j u)) Q E s):
  eW X f (rI C λi j=>.int (g i j)):=by
 intro BD s σ H x y v u Q I rx ry h;obtain⟨i,j,rfl,rfl,hc,q⟩:=h;obtain⟨t,rfl⟩:=rx;obtain⟨t',rfl⟩:=ry;exact rule i j t t' s _ _ hc ⟨.int (g i j),H,I.tok _,⟨_,rfl⟩,q⟩
theorem Ow{f:Value->Value->Sem Value}{g:Int->Int->Int}
  (rule:∀(i j:Int)(t u:dh)(s:aa)(Q:Value->aa->Prop)(E:Value->aa->Prop),Q (.int (g i j) s.toks) {s with toks:=s.toks+1}->wpAny (model X.prog X.w) X.A (f (.int i t) (.int j u)) Q E s):
  eW X f (kD λi j=>.int (g i j)):=by
 intro BD s σ H x y v u Q I rx ry h;obtain⟨i,j,rfl,rfl,q⟩:=h;obtain⟨t,rfl⟩:=rx;obtain⟨t',rfl⟩:=ry;exact rule i j t t' s _ _ ⟨.int (g i j),H,I.tok _,⟨_,rfl⟩,q⟩
theorem Ch{f:Value->Value->Sem Value}{g:Int->Int->Bool}
  (rule:∀(i j:Int)(t u:dh)(s:aa)(Q:Value->aa->Prop)(E:Value->aa->Prop),Q (.bool (g i j)) s->wpAny (model X.prog X.w) X.A (f (.int i t) (.int j u)) Q E s):
  eW X f (kD λi j=>.bl (g i j)):=by
 intro BD s σ H x y v u Q I rx ry h;obtain⟨i,j,rfl,rfl,q⟩:=h;obtain⟨t,rfl⟩:=rx;obtain⟨t',rfl⟩:=ry;exact rule i j t t' s _ _ ⟨.bl (g i j),H,I,rfl,q⟩
def yO(i j:Int):Prop:=0<=j/\j<=1000000/\i.natAbs<2^64
def Dh(i j:Int):Prop:=(-(2^64)<i/\i<2^64)\/(-(2^64)<j/\j<2^64)
theorem Dh.ok{i j:Int}(h:Dh i j):IntMulOk i j:=by
 rcases h with⟨h1,h2⟩|⟨h1,h2⟩
 .exact .of_left (intBits_le_64 h1 h2)
 .exact .of_right (intBits_le_64 h1 h2)
theorem act:eW X (binaryOp .Add) (kD λi j=>.int (i+j)):=Ow λ_ _ _ _ _ _ _ q=>add_int q
theorem Ju:eW X (binaryOp .Sub) (kD λi j=>.int (i-j)):=Ow λ_ _ _ _ _ _ _ q=>sub_int q
theorem abb:eW X (binaryOp .Mod) (rI (λ_ j=>j≠0) λi j=>.int (i.fmod j)):=zI λ_ _ _ _ _ _ _ hc q=>mod_int' hc q
theorem ace:eW X (binaryOp .Pow) (rI yO λi j=>.int (i^j.toNat)):=zI λ_ _ _ _ _ _ _ hc q=>pow_int_small hc.1 hc.2.1 hc.2.2 q
theorem unI{f:Value->Sem Value}{g:Int->Int}
  (rule:∀(i:Int)(t:dh)(s:aa)(Q:Value->aa->Prop)(E:Value->aa->Prop),Q (.int (g i) s.toks) {s with toks:=s.toks+1}->wpAny (model X.prog X.w) X.A (f (.int i t)) Q E s):
  zO X f (rU λi=>.int (g i)):=by
 intro BD s σ H x v Q I rx h;obtain⟨i,rfl,q⟩:=h;obtain⟨t,rfl⟩:=rx;exact rule i t s _ _ ⟨.int (g i),H,I.tok _,⟨_,rfl⟩,q⟩
theorem ada:zO X (unaryOp .USub) (rU λi=>.int (-i)):=unI λ_ _ _ _ _ q=>neg_int q
end
section
variable{X:Cx}{a b c:ah}{ta tb tc:TE}{pos:ai}
theorem Nv:eW X (compareOp .Lt) (kD λi j=>.bl (decide (i<j))):=Ch λ_ _ _ _ _ _ _ q=>lt_int q
theorem Wv:eW X (compareOp .Gt) (kD λi j=>.bl (decide (j<i))):=Ch λ_ _ _ _ _ _ _ q=>gt_int q
theorem Xv:eW X (compareOp .GtE) (kD λi j=>.bl (decide (j<=i))):=Ch λ_ _ _ _ _ _ _ q=>ge_int q
theorem eW.or{f:Value->Value->Sem Value}{r r':R2}(h:eW X f r)(h':eW X f r'):eW X f (λx y H Q=>r x y H Q\/r' x y H Q):=by
 intro BD s σ H x y v u Q I rx ry q;rcases q with q |q
 .exact h BD s σ H x y v u Q I rx ry q
 .exact h' BD s σ H x y v u Q I rx ry q
theorem lZ(b:ah){op:kw}(h:op≠.In:=by decide)(h2:op≠.NotIn:=by decide):behindInMarks op b=false:=by
 have e1:(op==CmpOp.In)=false:=by cases op<;>first |rfl |exact absurd rfl h
 have e2:(op==CmpOp.NotIn)=false:=by cases op<;>first |rfl |exact absurd rfl h2
 cases b<;>simp[behindInMarks,e1,e2]
theorem aat{op:kw}{r:R2}(ho:eW X (compareOp op) r)(ha:PE X a ta)(hb:PE X b tb)(hm:behindInMarks op b=false):PE X (.Compare a [op] [b] pos) (zU r ta tb):=by
 intro BD s σ H Q I h;exact wpAny_Compare1 (Zg ha hb I h λv u s2 x y H2 I2 rx ry q=>ho BD s2 σ H2 x y v u Q I2 rx ry q) hm
def adr(t:TE):TT:=λσ H Q=>t σ H λx H'=>∃k,x=.bl k/\Q k H'
theorem aaH{op:kw}{r:R2}(ho:eW X (compareOp op) r)(ha:PE X a ta)(hb:PE X b tb)(hm:behindInMarks op b=false):PT X (.Compare a [op] [b] pos) (adr (zU r ta tb)):=by
 intro BD s σ H Q I h;refine zm (bK (ha BD s σ H _ I h) λv s1 ⟨x,H1,I1,r1,q1⟩=>bK (hb BD s1 σ H1 _ I1 q1) λu s2 ⟨y,H2,I2,r2,q2⟩=>
  bK (ho BD s2 σ H2 x y v u _ I2 r1 r2 q2) λc s3 ⟨z,H3,I3,r3,k,e,q3⟩=>?_) hm
 subst e;cases r3;exact oa ⟨H3,I3,q3⟩
theorem uM:(sizeLine:Nat)<2^63:=by rw[ky];decide
theorem kL{x:V}{us:AU}(r:bI [x] us):∃u,us=[u]/\bS x u:=by
 cases r with
 |cons r1 r2=>cases r2;exact⟨_,rfl,r1⟩
theorem Bv{x y:V}{us:AU}(r:bI [x,y] us):∃u w',us=[u,w']/\bS x u/\bS y w':=by
 cases r with
 |cons r1 r2=>
  cases r2 with
  |cons r3 r4=>cases r4;exact⟨_,_,rfl,r1,r3⟩
theorem O6:iZ X (.builtin "abs") (λxs H Q=>∃i,xs=[.int i]/\Q (.int (if i<0 then-i else i)) H):=by
 intro BD s σ H xs us Q I r h;obtain⟨i,rfl,q⟩:=h;obtain⟨u,rfl,t,rfl⟩:=kL r;exact call_abs_int λu tk=>⟨.int (if i<0 then-i else i),H,I.tok _,⟨_,rfl⟩,q⟩
theorem D0:iZ X (.type "int") (λxs H Q=>(∃i,xs=[.int i]/\Q (.int i) H)\/∃k,xs=[.bl k]/\Q (.int (if k then 1 else 0)) H):=by
 intro BD s σ H xs us Q I r h;rcases h with⟨i,rfl,q⟩|⟨k,rfl,q⟩
 .obtain⟨u,rfl,t,rfl⟩:=kL r
  exact call_int_int ⟨.int i,H,I,⟨_,rfl⟩,q⟩
 .obtain⟨u,rfl,r1⟩:=kL r
  cases r1;exact call_int_bool ⟨.int (if k then 1 else 0),H,I.tok _,⟨_,rfl⟩,q⟩
end
structure Eh(h:Heap)(x dx C:Addr)(mA:Str->AW):Prop where
 obj:h.get? x=some (vp C dx)
 ns:h.Ns1 dx mA
 ne:dx≠x
theorem J2{h:Heap}{dx:Addr}{mA:Str->AW}(n:h.Ns1 dx mA):∃od,h.get? dx=some od/\∀name,wm name od=some (mA name):=by
 obtain⟨o,es,ep,ho,hd,hk,_,hm⟩:=n;refine⟨o,ho,λname=>?_⟩;have e:=hm name;unfold nsFind findBy at e;rw[<-Array.find?_toList]at e;unfold wm;rw[hd];dsimp only;split
 .rename_i y q
  rw[q]at e;exact congrArg some e
 .rename_i q
  rw[q]at e;have a:es.toList.any (·.refKey)=false:=by
   rw[zn];intro y hy;obtain⟨z,t,hkey⟩:=hk y (Array.mem_toList_iff.mp hy);simp[DictEntry.refKey,hkey]
  have a':¬es.toList.any (·.refKey)=true:=by rw[a];exact iw
  rw[if_neg a'];exact congrArg some e
theorem Eh.look{h:Heap}{x dx C:Addr}{mA:Str->AW}(I:Eh h x dx C mA):∃od,PySem.W.InstAt h x (vp C dx) C (some od)/\∀name,wm name od=some (mA name):=
 let⟨od,ho,hl⟩:=J2 I.ns
 ⟨od,⟨I.obj,rfl,rfl,ho⟩,hl⟩
section
variable{prog:Program}{w:aq}{A:au}{E:Value->aa->Prop}{s:aa}{K:ag}{x dx C f:Addr}{mA:Str->AW}{name:Str}{v:Value}
end
section
variable{P:Program}{w:aq}{H H':Hp}{h h':Heap}{a C dx:Addr}{fs fs':List (Str×V)}
theorem aak(hok:fM P w H h)(e:H a=some (.ins C dx fs)):∃mA,Eh h a dx C mA/\(∀f,Hh (fs.lookup f) (mA f))/\zh mA (fs.map (·.1))/\fs.length<=1000/\H dx=some (.own a):=by
 obtain⟨d,z,ne,ob,mA,n,r,q⟩:=(show fV P w H h a (.ins C dx fs) from hok a _ e);exact⟨mA,⟨ob,n,ne⟩,r,q,z,d⟩
end
structure Sh(K:ag)(C:Addr):Prop where
 pg:zo K C Str.empty=true
 hd:PySem.W.hasDictIn K C=true
 po:PySem.W.plainOver K C=true
 sa:wn K (.ref C) "__setattr__"=some (some (.builtin "object.__setattr__"))
theorem Sh.get{K:ag}{C:Addr}(c:Sh K C)(f:Str):zo K C f=true:=c.pg
structure cS(K:ag)(C:Addr)(f:Str)(v:V)(u:Value):Prop where
 at_:wn K (.ref C) f=some (some u)
 rel:bS v u
 get:zp K u "__get__"=some none
 cp:PySem.W.copiedNames.contains f=false
section
variable{X:Cx}{BD:List (Addr×Obj)}{σ:St}{H:Hp}{s:aa}{a C dx:Addr}{fs:List (Str×V)}{f:Str}{v:V}{A:au}{E:Value->aa->Prop}
end
section
variable{X:Cx}{o e value:ah}{f:Str}{pos pos' tpos:ai}{ta tv:TE}
end
section
variable{X:Cx}{BD:List (Addr×Obj)}{σ:St}{H:Hp}{s:aa}{A:au}{E:Value->aa->Prop}{Q:Value->aa->Prop}{c:Value}{b:Bool}
inductive kB(K:ag)(H:Hp):V->Value->Prop where
 |non:kB K H .non (.type "NoneType")
 |bl (x:Bool):kB K H (.bl x) (.type "bool")
 |int (i:Int):kB K H (.int i) (.type "int")
 |str (x:Str):kB K H (.str x) (.type "str")
 |flt (x:UInt64):kB K H (.flt x) (.type "float")
 |lst {a:Addr} {xs:List V} (e:H a=some (.lst xs)):kB K H (.ref a) (.type "list")
 |frz {a:Addr} {o:Obj} {xs:List V} (e:H a=some (.frz o (.lst xs))):kB K H (.ref a) (.type "list")
 |tup {a:Addr} {xs:List V} (e:H a=some (.tup xs)):kB K H (.ref a) (.type "tuple")
 |dK {a:Addr} {kvs:List (iC×V)} (e:H a=some (.dK kvs)):kB K H (.ref a) (.type "dict")
 |dT {a:Addr} {kvs:List (List iC×V)} (e:H a=some (.dT kvs)):kB K H (.ref a) (.type "dict")
 |ins {a C dx:Addr} {fs:List (Str×V)} (e:H a=some (.ins C dx fs)) (cl:Sh K C) (ha:wn K (.ref C) "__class__"=some (some (.builtin "object.__class__")))
   (hn:zp K (.builtin "object.__class__") "__get__"=some (some (.builtin "getset_descriptor.__get__"))) (htk:PySem.W.takesIn K (.builtin "object.__class__")=some true)
   (hm:PySem.W.mroIn K C (.type "object")=some true):kB K H (.ref a) (.ref C)
theorem F4{x:V}{u t:Value}(I:aI X BD σ H s)(rx:bS x u)(ty:kB X.K H x t)(e:oh X.K t c=some b)(h:∀tk,Q (.bool b) {s with toks:=tk}):
  wpAny (model X.prog X.w) A (call (.builtin "isinstance") [u,c]) Q E s:=by
 cases ty with
 |non=>cases(show u=cx from rx);exact jf PySem.W.kitx_none I.kIn qi e (λz=>nomatch z) h
 |bl y=>cases(show u=rn y from rx);exact jf PySem.W.kitx_bool I.kIn qi e (λz=>nomatch z) h
 |int i=>obtain⟨t,q⟩:=(show ∃t,u=qb i t from rx);cases q;exact jf PySem.W.kitx_int I.kIn qi e (λz=>nomatch z) h
 |str y=>obtain⟨t,q⟩:=(show ∃t,u=vo y t from rx);cases q;exact jf PySem.W.kitx_str I.kIn qi e (λz=>nomatch z) h
 |flt y=>obtain⟨t,q⟩:=(show ∃t,u=Value.float y t from rx);cases q;exact jf PySem.W.kitx_float I.kIn qi e (λz=>nomatch z) h
 |@lst a xs ea=>
  cases(show u=dy a from rx);obtain⟨_,_,n,_,h1⟩:=(show fV X.prog X.w H s.heap a (.lst xs) from I.hok a _ ea);exact jf wo I.kIn ⟨_,h1,rfl⟩ e (λz=>nomatch z) h
 |@frz a ob xs ea=>
  cases(show u=dy a from rx);obtain⟨_,_,_,n,_,h1⟩:=(show fV X.prog X.w H s.heap a (.frz ob (.lst xs)) from I.hok a _ ea);exact jf wo I.kIn ⟨_,h1,rfl⟩ e (λz=>nomatch z) h
 |@tup a xs ea=>
  cases(show u=dy a from rx);obtain⟨_,_,_,p⟩:=(show fV X.prog X.w H s.heap a (.tup xs) from I.hok a _ ea);obtain⟨o,h1,h2,_⟩:=p;exact jf zq I.kIn ⟨o,h1,h2⟩ e (λz=>nomatch z) h
 |@dK a kvs ea=>
  cases(show u=dy a from rx);obtain⟨_,_,vs,_,p⟩:=(show fV X.prog X.w H s.heap a (.dK kvs) from I.hok a _ ea);obtain⟨o,es,ep,h1,h2,_⟩:=p;exact jf zt I.kIn ⟨o,h1,h2.1⟩ e (λz=>nomatch z) h
 |@dT a kvs ea=>
  cases(show u=dy a from rx);obtain⟨_,_,xs,_,o,es,ep,h1,h2,_⟩:=(show fV X.prog X.w H s.heap a (.dT kvs) from I.hok a _ ea);exact jf zt I.kIn ⟨o,h1,h2.1⟩ e (λz=>nomatch z) h
 |@ins a C dx fs ea cl ha hn htk hm=>
  cases(show u=dy a from rx);obtain⟨mA,O,_⟩:=aak I.hok ea;obtain⟨od,J,_⟩:=O.look;exact jf (PySem.W.kitx_own (cl.get _) cl.hd ha hn htk hm) I.kIn J e (λz=>nomatch z) h
end
structure dJ(k:Nat)(A:au):Prop where
 hd:A.handled=none
 dp:A.depth+3*k+5<recursionLimit
 un:A.units+16*k+200<cLine
theorem dJ.mono{j k:Nat}{A:au}(r:dJ k A)(h:j<=k):dJ j A:=⟨r.hd,by have:=r.dp;omega,by have:=r.un;omega⟩
theorem dJ.deeper{k:Nat}{A:au}(r:dJ (k+1) A)(env:bh):dJ k (A.deeper env):=
 ⟨r.hd,by have:=r.dp;show A.depth+1+3*k+5<_;omega,by have:=r.un;show A.units+3+16*k+200<_;omega⟩
theorem dJ.depth{k:Nat}{A:au}(r:dJ k A):A.depth<recursionLimit:=by have:=r.dp;omega
theorem dJ.units{k:Nat}{A:au}(r:dJ k A):A.units+64<cLine:=by have:=r.un;omega
def aeD:TA:=λ_ H Q=>Q [] H
def adO(ta:TE)(tr:TA):TA:=λσ H Q=>ta σ H λx H1=>tr σ H1 λxs H2=>Q (x::xs) H2
section
variable{X:Cx}{e:ah}{es:List ah}{te:TE}{t:TA}{pos:ai}
theorem rJ:PA X [] aeD:=λ_ _ _ _ H Q I h=>Calls.spliced_nil ⟨[],H,I,.nil,h⟩
theorem pG(ha:PE X e te)(hr:PA X es t)(hs:starEach (e::es) X.env=(false,eval e X.env)::starEach es X.env:=by rfl):PA X (e::es) (adO te t):=by
 intro pos BD s σ H Q I h;rw[hs];show wpAny _ _ (spliced ((false,eval e X.env)::backTo pos (starEach es X.env))) _ _ s;refine Calls.spliced_cons (bK (ha BD s σ H _ I h) λu s1 hq=>?_);rcases hq with⟨x,H1,I1,r1,q1⟩;exact bK (hr pos BD s1 σ H1 _ I1 q1) λus s2 ⟨xs,H2,I2,r2,q2⟩=>⟨x::xs,H2,I2,.cons r1 r2,q2⟩
def ae0(t:TA):TE:=λσ H Q=>t σ H λxs H1=>xs.length<=sizeLine/\∀p,H1 p=none->Q (.ref p) (aW H1 p (.tup xs))
def afd(t:TA):TE:=λσ H Q=>t σ H λxs H1=>xs.length<=sizeLine/\∀p,H1 p=none->Q (.ref p) (aW H1 p (.lst xs))
theorem ac0{x1}(h:PA X es t):PE X (.Tuple es x1 pos) (ae0 t):=by
 intro BD s σ H Q I hq;refine wpAny_Tuple_spliced (bK (h pos BD s σ H _ I hq) λus s1 ⟨xs,H1,I1,r,z,q⟩=>⟨by rw[<-r.length];exact z,?_⟩);have hf:H1 s1.heap.objs.size=none:=I1.hok.fresh (ak _);refine⟨.ref s1.heap.objs.size,aW H1 s1.heap.objs.size (.tup xs),I1.laid (t':=s1.toks) (λb u e=>ay _ e) (ak _) ?_,rfl,q _ hf⟩;exact⟨z,us,r,⟨_,df _ rfl,rfl,_,rfl⟩⟩
theorem Wf(h:PA X es t):PE X (.List es pos) (afd t):=by
 intro BD s σ H Q I hq;refine wpAny_List_spliced (bK (h pos BD s σ H _ I hq) λus s1 ⟨xs,H1,I1,r,z,q⟩=>⟨by rw[<-r.length];exact z,?_⟩);have hf:H1 s1.heap.objs.size=none:=I1.hok.fresh (ak _);refine⟨.ref s1.heap.objs.size,aW H1 s1.heap.objs.size (.lst xs),I1.laid (t':=s1.toks) (λb u e=>ay _ e) (ak _) ?_,rfl,q _ hf⟩;exact⟨z,us,0,r,df _ rfl⟩
end
abbrev Sp:=List V->Hp->VK->XK->Prop
abbrev jS:=List bh->Hp->aa->XK->Value->aa->Prop
structure yY(P:Program)(w:aq)(K:ag)(mg:Str->AW)(base:Heap)(A:au)(outer:List bh)(s:aa)(H:Hp):Prop where
 frames:A.frames=some outer
 mod:Mod K mg base
 bs:∀b o,base.get? b=some o->s.heap.get? b=some o/\H b=none
 bsz:base.objs.size<=s.heap.objs.size
 funs:s.heap.FunFrames base outer
 frf:∀b∈fF outer,H b=none
 hok:fM P w H s.heap
 bare:jw s.gens
def CE(outer:List bh)(P:Program)(w:aq)(H:Hp)(s:aa)(Q:VK)(u:Value)(s':aa):Prop:=
 ∃v H',s'.os=s.os/\jw s'.gens/\Un (fF outer) [] H H' s.heap s'.heap/\fM P w H' s'.heap/\bS v u/\Q v H'
def CR(CX:jS)(outer:List bh)(P:Program)(w:aq)(H:Hp)(s:aa)(Q:VK)(E:XK)(r:qj)(s':aa):Prop:=
 match r with
 |.ok (.ret u)=>CE outer P w H s Q u s'
 |.ok _=>False
 |.error e=>CX outer H s E e s'
structure eG(P:Program)(w:aq)(K:ag)(mg:Str->AW)(base:Heap)(CX:jS)(k:Nat)(f:Addr)(fd:cf)(ps:List Str)(sp:Sp):Prop where
 len:∀vs H Q E,sp vs H Q E->vs.length=ps.length
 run:∀(A:au)(outer:List bh)(s:aa)(H:Hp)(args:Args)(us:AU)(vs:List V)(Q:VK)(E:XK),dJ k A->yY P w K mg base A outer s H->oi s fd args (ps.zip us)->bI vs us->sp vs H Q E->
  codeAny (model P w) A (.call (.ref f) args) (CR CX outer P w H s Q E) s
theorem eG.imp{P:Program}{w:aq}{K:ag}{mg:Str->AW}{base:Heap}{CX:jS}{k:Nat}{f:Addr}{fd:cf}{ps:List Str}{sp sp':Sp}(F:eG P w K mg base CX k f fd ps sp)
  (h:∀vs H Q E,sp' vs H Q E->sp vs H Q E):eG P w K mg base CX k f fd ps sp':=
 ⟨λvs H Q E q=>F.len vs H Q E (h _ _ _ _ q),λA outer s H args us vs Q E hr he hb hv hs=>F.run A outer s H args us vs Q E hr he hb hv (h _ _ _ _ hs)⟩
section
variable{X:Cx}{BD:List (Addr×Obj)}{σ:St}{H:Hp}{s s':aa}
theorem aI.env0(I:aI X BD σ H s):yY X.prog X.w X.K X.mg X.base X.A X.stack s H:=
 ⟨I.ok.frames,I.ok.mod,I.bs,ft I.ok.bsz I.sz,I.stack,I.stkFree,I.hok,I.bare⟩
theorem aI.after{Q:VK}{u:Value}(I:aI X BD σ H s)(h:CE X.stack X.prog X.w H s Q u s'):EP X BD σ Q u s':=by
 obtain⟨v,H',os,bare,un,hok,r,q⟩:=h;obtain⟨hh,g,d,t,os'⟩:=s';obtain rfl:os'=s.os:=os;exact⟨v,H',I.call (h':=hh) (g':=g) (d':=d) (t':=t) (ch:=[]) un hok bare (λb z=>absurd z (by simp)),r,q⟩
end
def aep(sp:Sp)(dvs:List V)(E:XK)(t:TA):TE:=λσ H Q=>t σ H λvs H1=>sp (vs++dvs) H1 Q E
def jA(K:ag)(fd:cf)(ps:List Str)(ds:AU):Prop:=
 ∀(s:aa)(us:AU),K.In s.heap->(us++ds).length=ps.length->oi s fd ⟨us,[]⟩ (ps.zip (us++ds))
theorem jA.all{K:ag}{fd:cf}{ps:List Str}(h:∀us:AU,us.length=ps.length->bindArgs fd ⟨us,[]⟩=pure (ps.zip us)):jA K fd ps []:=λs us _ hl=>by
 rw[ja]at hl⊢;exact .of_eq (h us hl)
def Xe(CX:jS)(X:Cx)(E:XK):Prop:=∀(BD:List (Addr×Obj))(σ:St)(H:Hp)(s:aa)(e:Value)(s':aa),aI X BD σ H s->CX X.stack H s E e s'->X.xe e s'
section
variable{X:Cx}{CX:jS}{k:Nat}{f C:Addr}{fd:cf}{ps:List Str}{sp:Sp}{dvs:List V}{ds:AU}{E:XK}{x m:Str}{p pos apos:ai}{e o:ah}{es:List ah}{ta:TE}{t:TA}
theorem ac5{BD:List (Addr×Obj)}{σ:St}{H:Hp}{s:aa}{Q:VK}{us:AU}{vs:List V}(F:eG X.prog X.w X.K X.mg X.base CX k f fd ps sp)(hr:dJ k X.A)(hb:jA X.K fd ps ds)(hd:bI dvs ds)(hx:Xe CX X E)
  (I:aI X BD σ H s)(r:bI vs us)(h:sp (vs++dvs) H Q E):wpAny (model X.prog X.w) X.A (call (.ref f) us) (EP X BD σ Q) X.xe s:=by
 have r2:bI (vs++dvs) (us++ds):=r.append hd;have hl:(us++ds).length=ps.length:=by rw[<-r2.length];exact F.len _ _ _ _ h
 refine wpAny_call (sf (F.run X.A X.stack s H ⟨us,[]⟩ (us++ds) (vs++dvs) Q E hr I.env0 (hb s us I.kIn hl) r2 h) λr s' hq=>?_);cases r with
 |error e=>exact hx BD σ H s e s' I hq
 |ok fl=>
  cases fl with
  |ret u=>exact I.after hq
  |next=>exact jx hq
  |brk=>exact jx hq
  |cont=>exact jx hq
theorem xB(F:eG X.prog X.w X.K X.mg X.base CX k f fd ps sp)(hr:dJ k X.A)(hg:Gl X x)(hm:X.mg x=some (.ref f))(hk:fu X.K (.ref f)=true)(hb:jA X.K fd ps ds)(hd:bI dvs ds)(hx:Xe CX X E)
  (ha:PA X (e::es) t)(hdb:(x==("__debug__":Str))=false:=by decide)(he:starEach (e::es) X.env=(false,eval e X.env)::starEach es X.env:=by rfl)(hpl:(backTo pos (starEach es X.env)).any (·.1)=false:=by rfl):
  PE X (.Call (.Name x p) (e::es) [] pos) (aep sp dvs E t):=by
 intro BD s σ H Q I h;refine wp (De I hg hm ?_ hdb);refine PySem.W.callWith_K (h₀:=X.base) I.ok.mod.kin hk (bK (ha pos BD s σ H _ I h) λus s1 ⟨vs,H1,I1,r,q⟩=>⟨I1.kIn,?_⟩) he hpl;exact ac5 F hr hb hd hx I1 r q
end
section
variable{X:Cx}{CX:jS}{k:Nat}{f C:Addr}{fd:cf}{ps ks:List Str}{sp:Sp}{E:XK}{x m:Str}{p pos apos kpos:ai}{e o:ah}{es:List ah}{kws:List jg}{te ta:TE}{t tk:TA}{nm:Option Str}
variable{g:AU->AU->AU}{gV:List V->List V->List V}
end
structure hJ(N P:List Str)(sc:Scope):Prop where
 kind:sc.kind=.function
 co:sc.isCoroutine=false
 gen:sc.isGenerator=false
 nd:N.Nodup
 pre:N.take P.length=P
 par:∀x∈P,sc.names.lookup x=some .local\/sc.names.lookup x=some .cell
 nofree:∀y∈sc.names,y.2≠.free
theorem Rm{kindOf:Str->Option gi}{x:Str}:∀{binds:List (Str×Value)}{m:Str->AW},(∀v,(x,v)∉binds)->bindL kindOf binds m x=m x
 |[],_,_=>rfl
 |(n,v)::r,m,h=>by
  unfold bindL;rw[Rm λw hw=>h w (bn _ hw)];split
  .have:x≠n:=by rintro rfl;exact h v bi
   simp[this]
  .rfl
theorem Bm{kindOf:Str->Option gi}{x:Str}:∀{binds:List (Str×Value)}{m:Str->AW},(∀v,(x,v)∉binds)->bindC kindOf binds m x=m x
 |[],_,_=>rfl
 |(n,v)::r,m,h=>by
  unfold bindC;rw[Bm λw hw=>h w (bn _ hw)];split
  .rfl
  .have:x≠n:=by rintro rfl;exact h v bi
   simp[this]
theorem Tl{kindOf:Str->Option gi}{x:Str}{v:Value}:∀{P:List Str}{vs:AU}{i:Nat}{m:Str->AW},P.Nodup->P[i]?=some x->vs[i]?=some v->kindOf x=some .local->
  bindL kindOf (P.zip vs) m x=some v
 |[],_,_,_,_,h,_,_=>by simp at h
 |_::_,[],_,_,_,_,h,_=>by simp at h
 |p::P,w::vs,0,m,nd,h1,h2,hk=>by
  simp at h1 h2;subst h1;subst h2;show bindL kindOf ((p,w)::P.zip vs) m p=_;unfold bindL;rw[Rm λv hv=>(mn.mp nd).1 (wq hv).1,if_pos hk];simp
 |p::P,w::vs,i+1,m,nd,h1,h2,hk=>by
  show bindL kindOf ((p,w)::P.zip vs) m x=_;unfold bindL;exact Tl (i:=i) (mn.mp nd).2 (by simpa using h1) (by simpa using h2) hk
theorem Km{kindOf:Str->Option gi}{x:Str}{v:Value}:∀{P:List Str}{vs:AU}{i:Nat}{m:Str->AW},P.Nodup->P[i]?=some x->vs[i]?=some v->kindOf x≠some .local->
  bindC kindOf (P.zip vs) m x=some v
 |[],_,_,_,_,h,_,_=>by simp at h
 |_::_,[],_,_,_,_,h,_=>by simp at h
 |p::P,w::vs,0,m,nd,h1,h2,hk=>by
  simp at h1 h2;subst h1;subst h2;show bindC kindOf ((p,w)::P.zip vs) m p=_;unfold bindC;rw[Bm λv hv=>(mn.mp nd).1 (wq hv).1,if_neg hk];simp
 |p::P,w::vs,i+1,m,nd,h1,h2,hk=>by
  show bindC kindOf ((p,w)::P.zip vs) m x=_;unfold bindC;exact Km (i:=i) (mn.mp nd).2 (by simpa using h1) (by simpa using h2) hk
def start(N:List Str)(vs:List V):St:=vs.map some++fw (N.length-vs.length) none
def eV(CX:jS)(P:Program)(w:aq)(K:ag)(mg:Str->AW)(base:Heap)(N:List Str)(qual:Str)(scope:Scope)(f:Addr)(cd:Value)(A:au)(outer:List bh)(s:aa)(H:Hp)(E:XK):Cx where
 prog:=P
 w:=w
 K:=K
 mg:=mg
 base:=base
 A:=A.deeper (envOfC qual scope s.heap.objs.size f cd)
 N:=N
 BE:=s
 BF:=H
 env:=envOfC qual scope s.heap.objs.size f cd
 outer:=outer
 stack:=envOfC qual scope s.heap.objs.size f cd::outer
 ex:=[]
 calm:=true
 fn:=λ_=>true
 pn:=[]
 xe:=λe s'=>wpAny (model P w) (A.deeper (envOfC qual scope s.heap.objs.size f cd)) (leaving (envOfC qual scope s.heap.objs.size f cd) e) (λ_ s''=>CX outer H s E e s'') (λe' s''=>CX outer H s E e' s'') s'
theorem Zo{sc:Scope}{n:Nat}{x:Str}(h:sc.names.lookup x=some .cell):∃c,(cellsFrom n sc.names []).lookup x=some c:=by
 have q:=zu sc.names n [] (.inl h);exact Option.isSome_iff_exists.mp q
theorem J5{CX:jS}{P:Program}{w:aq}{K:ag}{mg:Str->AW}{base:Heap}{N ps:List Str}{qual:Str}{scope:Scope}{f:Addr}{cd:Value}{A:au}{outer:List bh}{s s1:aa}{H:Hp}{E:XK}{us:AU}{vs:List V}
  (S:hJ N ps scope)(hd:A.handled=none)(e0:yY P w K mg base A outer s H)(hl:vs.length=ps.length)(r:bI vs us)
  (x:InCallC s s.heap.objs.size (bindL (envOfC qual scope s.heap.objs.size f cd).kindOf (ps.zip us) λ_=>none) (cellsFrom (s.heap.objs.size+1) scope.names []) (bindC (envOfC qual scope s.heap.objs.size f cd).kindOf (ps.zip us) λ_=>none) s1):
  aI (eV CX P w K mg base N qual scope f cd A outer s H E) [] (start N vs) H s1:=by
 have hpl:ps.length<=N.length:=by have:=congrArg si S.pre;rw[kl]at this;omega
 obtain⟨h1,tk,rfl,hk⟩:=x.done;have noA:∀b:Addr,b∉(eV CX P w K mg base N qual scope f cd A outer s H E).ex:=λb z=>absurd (show b∈([]:List Addr) from z) (by simp);refine⟨⟨e0.mod,S.kind,rfl,rfl,ak _,λy z c h1 h2=>?_,λy hy=>?_,λy c _ h=>?_,λ_=>hd,Around.frames_deeper e0.frames,.inr ⟨rfl,rfl⟩,λb z=>absurd z (noA b),e0.bs,e0.bsz,λb _ _=>noA b,λb z=>absurd z (noA b),e0.funs,e0.frf⟩,
  rfl,e0.bare,Un.kept hk,⟨_,x.toInCall.ns,λi y v h1 h2 h3=>?_⟩,λy c h=>⟨_,x.cell y c h⟩,e0.hok.fresh (ak _),λy c h=>?_,λp hp=>absurd (show p∈([]:List (Addr×Obj)) from hp) (by simp),e0.hok.kept hk,?_⟩
 .exact name_of_addr x.apart (jy h1) (jy h2)
 .have hy:scope.names.lookup y=some .cell\/scope.names.lookup y=some .free:=hy
  rcases hy with hy |hy
  .exact Zo hy
  .exact absurd rfl (S.nofree _ (jy hy))
 .exact qc (x.above y c (jy h))
 .have hi:i<vs.length:=by
   unfold start at h2
   by_cases hi:i<vs.length
   .exact hi
   .rw[dz (by simpa using hi)]at h2
    rw[zv]at h2;split at h2<;>cases h2
  have ha:vs[i]?=some v:=by
   unfold start at h2;rw[fx (by simpa using hi),bo]at h2;cases e:vs[i]? with
   |none=>rw[e]at h2;cases h2
   |some a=>rw[e]at h2;cases h2;rfl
  obtain⟨u,hu,rv⟩:=r.get ha;have hp:ps[i]?=some y:=by
   rw[<-S.pre,List.getElem?_take_of_lt (by omega)];exact h1
  have ndP:ps.Nodup:=by rw[<-S.pre];exact S.nd.sublist (List.take_sublist _ _)
  refine⟨u,rv,?_⟩;rcases S.par y (dg hp)with k |k
  .exact .inl ⟨k,Tl ndP hp hu k⟩
  .obtain⟨c,e⟩:=Zo (n:=s.heap.objs.size+1) k
   refine .inr ⟨.inl k,c,e,?_⟩;have q:=x.cell y c e;rw[Km ndP hp hu (by show scope.names.lookup y≠_;rw[k];decide)]at q;exact q
 .exact e0.hok.fresh (qc (x.above y c (jy h)))
 .unfold start
  show _=N.length;rw[av,aj,List.length_replicate];omega
theorem yK{CX:jS}{P:Program}{w:aq}{K:ag}{mg:Str->AW}{base:Heap}{k:Nat}{f:Addr}{name qual:Str}{params:Arguments}{body:List Stmt}{scope:Scope}{dV kV doc pm cdv ct oc:Value}{an od:AX}
  {osl:Array AW}{N ps:List Str}{sp:Sp}(lk:K.lookup f=some ⟨oc,od,.func (fi name qual params body scope dV kV doc pm an cdv ct),osl⟩)(hcd:jz K cdv qual=true)(S:hJ N ps scope)
  (len:∀vs H Q E,sp vs H Q E->vs.length=ps.length)
  (hbody:∀(A:au)(outer:List bh)(s:aa)(H:Hp)(vs:List V)(Q:VK)(E:XK),dJ k (A.deeper (envOfC qual scope s.heap.objs.size f cdv))->sp vs H Q E->
   ∃t,gB (eV CX P w K mg base N qual scope f cdv A outer s H E) body t/\t {nx:=λ_ H'=>Q .non H',rt:=Q} (start N vs) H):
  eG P w K mg base CX (k+1) f (fi name qual params body scope dV kV doc pm an cdv ct) ps sp:=by
 refine⟨len,λA outer s H args us vs Q E hr e0 hb r hsp=>?_⟩;have hl:=len _ _ _ _ hsp;have KX:K.In s.heap:=e0.mod.kin.keeps λb o e=>(e0.bs b o e).1;have lim:s.heap.NoLimit:=e0.mod.nolimit.keeps λb o e=>(e0.bs b o e).1;have hkind:∀y∈ps.zip us,scope.names.lookup y.1=some .local\/(scope.names.lookup y.1=some .cell/\((cellsFrom (s.heap.objs.size+1) scope.names []).lookup y.1).isSome=true):=λ⟨n,v⟩ hy=>by
  rcases S.par n (wq hy).1 with q |q
  .exact .inl q
  .exact .inr ⟨q,zu _ _ _ (.inl q)⟩
 refine codeAny_call_function hr.depth (KX _ _ lk) rfl S.co S.gen rfl (PySem.W.codeRec_of KX hcd) (hb _ _ _ _ ?_);refine wpAny_newFunctionEnv_cells S.kind hkind λenv he s1 x=>?_;subst he;refine⟨lim.keeps x.toInCall.keep,codeAny_func ?_⟩;obtain⟨t,ht,hq⟩:=hbody A outer s H vs Q E (hr.deeper _) hsp;have I:aI (eV CX P w K mg base N qual scope f cdv A outer s H E) [] (start N vs) H s1:=J5 S hr.hd e0 hl r x;refine gh (ht [] s1 (start N vs) H _ I hq) (λfl s' hs=>?_) λe s' hs=>hs;have fin:∀{σ':St}{H':Hp}{v:V}{u:Value},aI (eV CX P w K mg base N qual scope f cdv A outer s H E) [] σ' H' s'->bS v u->Q v H'->CE outer P w H s Q u s':=
  λ{σ' H' v u} J rv q=>⟨v,H',J.os,J.bare,J.base,J.hok,rv,q⟩
 cases fl with
 |ret u=>
  obtain⟨v,σ',H',J,rv,q⟩:=hs;exact fin J rv q
 |next=>
  obtain⟨σ',H',J,q⟩:=hs;exact fin (v:=V.non) (u:=cx) J rfl q
 |brk=>
  obtain⟨_,_,_,q⟩:=hs;exact jx q
 |cont=>
  obtain⟨_,_,_,q⟩:=hs;exact jx q
section
variable{X:Cx}{x:Str}{p pos:ai}{e:ah}{es:List ah}{t:TA}{id T:String}{r:List V->Hp->VK->Prop}
def Fx(r:List V->Hp->VK->Prop)(t:TA):TE:=λσ H Q=>t σ H λvs H1=>r vs H1 Q
theorem Xc(hc:iZ X (.builtin id) r)(hg:Gl X x)(hm:X.mg x=none)(hv:bootBuiltins x=some (.builtin id))(ha:PA X (e::es) t)(hn:x≠"__name__":=by decide)(hdb:(x==("__debug__":Str))=false:=by decide)
  (he:starEach (e::es) X.env=(false,eval e X.env)::starEach es X.env:=by rfl)(hpl:(backTo pos (starEach es X.env)).any (·.1)=false:=by rfl):PE X (.Call (.Name x p) (e::es) [] pos) (Fx r t):=by
 intro BD s σ H Q I h;refine wp (pM I hg hm hv ?_ hn hdb);exact PyProof.Rows.callWith_builtin1 (bK (ha pos BD s σ H _ I h) λus s1 ⟨vs,H1,I1,r1,q1⟩=>hc BD s1 σ H1 vs us Q I1 r1 q1) he hpl
theorem tH(hc:iZ X (.type T) r)(hg:Gl X x)(hm:X.mg x=none)(hv:bootBuiltins x=some (.type T))(ha:PA X (e::es) t)(hn:x≠"__name__":=by decide)(hdb:(x==("__debug__":Str))=false:=by decide)
  (he:starEach (e::es) X.env=(false,eval e X.env)::starEach es X.env:=by rfl)(hpl:(backTo pos (starEach es X.env)).any (·.1)=false:=by rfl):PE X (.Call (.Name x p) (e::es) [] pos) (Fx r t):=by
 intro BD s σ H Q I h;refine wp (pM I hg hm hv ?_ hn hdb);exact qh (bK (ha pos BD s σ H _ I h) λus s1 ⟨vs,H1,I1,r1,q1⟩=>hc BD s1 σ H1 vs us Q I1 r1 q1) he hpl
end
end L2
namespace HT
open PySem PyProof.Rows
def lexLt:AR->AR->Bool
 |[],[]=>false
 |[],_::_=>true
 |_::_,[]=>false
 |x::xs,y::ys=>if x=y then lexLt xs ys else decide (x<y)
theorem lexLt_cons(x y:Int)(xs ys:AR):lexLt (x::xs) (y::ys)=if x=y then lexLt xs ys else decide (x<y):=rfl
section
open PySem.SeqAt
open PySem.AutoSeq1 (wpAny_loadPart')
open PySem.MeetsSeq PySem.MeetsSeq2 PySem.MeetsSeq3
end
section
variable{prog:Program}{w:aq}{A:au}{E:Value->aa->Prop}{s:aa}
theorem cat_tup{t b:Addr}{vs ws:AU}{Q:Value->aa->Prop}(ht:IsTup s.heap t vs.toArray)(hb:IsTup s.heap b ws.toArray)(hv:vs≠[])
  (h1:ws=[]->Q (.ref t) s)(h2:ws≠[]->Q (.ref s.heap.objs.size) {s with heap:=s.heap.push {cls:=.type "tuple",data:=.seq (vs++ws).toArray}})
  (hsz:vs.length+ws.length<=sizeLine):wpAny (model prog w) A (binaryOp .Add (.ref t) (.ref b)) Q E s:=by
 obtain⟨⟨cls,dd,data,sl⟩,ho,hc,n,hd⟩:=id ht;obtain⟨⟨cls2,dd2,data2,sl2⟩,ho2,hc2,n2,hd2⟩:=id hb;simp only at hc hd hc2 hd2;subst hc hd hc2 hd2;have e:vs.toArray++ws.toArray=(vs++ws).toArray:=by simp
 by_cases hw:ws=[]
 .exact wr ⟨_,ho,rfl⟩ ⟨_,ho2,rfl⟩ noFill_tuple_add seq_tuple_add zw zx (zy _ _)
   (tuple_addW1 t b vs.toArray ws.toArray n n2 dd dd2 sl sl2 (by simpa using hv) (by simp[hw])) ⟨ho,ho2,h1 hw⟩
 .refine wr ⟨_,ho,rfl⟩ ⟨_,ho2,rfl⟩ noFill_tuple_add seq_tuple_add zw zx (zy _ _)
   (tuple_addW2 t b vs.toArray ws.toArray n n2 dd dd2 sl sl2 (by simpa using hv) (by simpa using hw) (by rw[az,az];exact hsz)) ⟨ho,ho2,?_⟩
  rw[e];exact h2 hw
def sIx(n d:Nat):AY->Nat
 |none=>d
 |some v=>if v<0 then(v+(n:Int)).toNat else min v.toNat n
theorem sIx_nat(n d k:Nat):sIx n d (some (k:Int))=min k n:=by
 show(if(k:Int)<0 then((k:Int)+(n:Int)).toNat else min (k:Int).toNat n)=min k n;rw[if_neg (by omega),mq]
theorem acv(n d:Nat)(hd:d<=n)(o:AY):sIx n d o<=n:=by
 cases o with
 |none=>exact hd
 |some v=>
  show(if v<0 then(v+(n:Int)).toNat else min v.toNat n)<=n
  by_cases hv:v<0
  .rw[if_pos hv];omega
  .rw[if_neg hv];exact Nat.min_le_right _ _
theorem Xp(v:Int)(n d:Nat):(if v<0 then max (v+(n:Int)) 0 else min v (n:Int))=((sIx n d (some v):Nat):Int):=by
 show(if v<0 then max (v+(n:Int)) 0 else min v (n:Int))=(((if v<0 then(v+(n:Int)).toNat else min v.toNat n):Nat):Int)
 by_cases hv:v<0
 .simp only[if_pos hv];omega
 .simp only[if_neg hv];omega
theorem Kz(lo hi:AY)(n:Nat):wt lo hi 1 (n:Int)=(((sIx n 0 lo:Nat):Int),((sIx n n hi:Nat):Int)):=by
 have h1:¬((1:Int)<0):=by omega
 unfold wt;simp only[h1,if_false];refine jt ?_ ?_
 .cases lo with
  |none=>rfl
  |some v=>exact Xp v n 0
 .cases hi with
  |none=>rfl
  |some v=>exact Xp v n n
theorem B9(i j:Nat):sj (i:Int) (j:Int) 1=j-i:=by
 unfold sj;have h1:(1:Int)>0:=by omega
 simp only[h1,if_true,Int.ediv_one];split<;>omega
theorem Wj{v:Value}{o:AY}{Q:AY->aa->Prop}(p:kz v o)(h:Q o s):wpAny (model prog w) A (Builtin.Slice.slicePartIndex v) Q E s:=by
 cases p with
 |none=>exact slicePart_none h
 |int i t=>exact slicePart_int h
theorem Tx{sl:Addr}{vl vu:Value}{lo hi:AY}{n:Nat}{Q:Int×Int×Nat->aa->Prop}(hs:s.heap.IsSliceOf sl vl vu .none)(pl:kz vl lo)(pu:kz vu hi)
  (h:Q (((sIx n 0 lo:Nat):Int),1,sIx n n hi-sIx n 0 lo) s):wpAny (model prog w) A (zz (.ref sl) (pure (n:Int))) Q E s:=by
 obtain⟨os,hos,hcs,hds⟩:=id hs;unfold zz Builtin.Slice.sliceFields;refine ae (ae (gv hos hds (x:=vl) rfl (ae (gv hos hds (x:=vu) rfl (ae (gv hos hds (x:=.none) rfl (ao ?_)))))));refine ae (slicePart_none ?_);show wpAny _ _ (if((1:Int)==0)=true then _ else _) _ _ s;rw[if_neg (by decide)];refine ae (Wj pl (ae (Wj pu (ae (ao ?_)))));show wpAny _ _ (match wt lo hi 1 (n:Int)with |(lo,hi)=>pure (lo,(1:Int),sj lo hi 1)) _ _ s
 rw[Kz lo hi n];show wpAny _ _ (pure (((sIx n 0 lo:Nat):Int),(1:Int),sj ((sIx n 0 lo:Nat):Int) ((sIx n n hi:Nat):Int) 1)) _ _ s;rw[B9];exact ao h
theorem V7(xs:Array Value)(i k:Nat):((cu k).filterMap λ(m:Nat)=>xs[((i:Int)+(m:Int)*1).toNat]?).toArray=((xs.toList.drop i).take k).toArray:=by
 have e:(λ(m:Nat)=>xs[((i:Int)+(m:Int)*1).toNat]?)=λm=>xs[i+m]?:=by
  funext m
  have:((i:Int)+(m:Int)*1).toNat=i+m:=by omega
  rw[this]
 rw[e];have:=pick_run xs i k;rw[List.filterMap_map]at this;have e2:((λx=>xs[x]?)∘λx=>i+x)=λm=>xs[i+m]?:=rfl;rw[e2]at this;rw[this]
theorem getItem_tuple_cut{t sl:Addr}{items:Array Value}{vl vu:Value}{lo hi:AY}{Q:Value->aa->Prop}(ht:IsTup s.heap t items)(hs:s.heap.IsSliceOf sl vl vu .none)(pl:kz vl lo)(pu:kz vu hi)
  (hw:¬(sIx items.size 0 lo=0/\sIx items.size items.size hi=items.size))
  (h:Q (.ref s.heap.objs.size) {s with heap:=s.heap.push {cls:=.type "tuple",data:=.seq ((items.toList.drop (sIx items.size 0 lo)).take (sIx items.size items.size hi-sIx items.size 0 lo)).toArray}})
  (hsz:items.size<=sizeLine):wpAny (model prog w) A (getItem (.ref t) (.ref sl)) Q E s:=by
 have htake:sizeOk (.seq ((items.toList.drop (sIx items.size 0 lo)).take (sIx items.size items.size hi-sIx items.size 0 lo)).toArray):=by
  show((items.toList.drop (sIx items.size 0 lo)).take (sIx items.size items.size hi-sIx items.size 0 lo)).toArray.size<=sizeLine;rw[az,kl,qk,rp];omega
 have hj:sIx items.size items.size hi<=items.size:=acv _ _ (ak _) hi;obtain⟨os,hos,hcs,hds⟩:=id hs;have hTs:s.TypeIs (.ref sl) "slice":=⟨os,hos,hcs⟩;unfold getItem
 try with_reducible refine kx ?_
 first |refine ae (ao ?_) |skip
 refine ae (wpAny_sequenceKey ht.typeIs (by decide) ?_);refine ae (km (name:=cy "__getitem__") ht.typeIs sk
  (jh sk ht.typeIs entry_tuple_getitem ?_ (args_tuple_getitem _ _)))
 show wpAny _ _ (a6 (.ref t) >>= _) _ _ s;refine ae (tupleItemsOf_ ht ?_);refine ae (wpAny_typeOf hTs ?_);rw[if_pos (by decide)];refine ae (Tx hs pl pu ?_);have hno:¬((((sIx items.size 0 lo:Nat):Int)==0&&(1:Int)==1&&(sIx items.size items.size hi-sIx items.size 0 lo)==items.size)=true):=by
  intro q;rw[ji,ji]at q;have q1:((sIx items.size 0 lo:Nat):Int)=0:=eq_of_beq q.1.1;have q2:sIx items.size items.size hi-sIx items.size 0 lo=items.size:=eq_of_beq q.2;exact hw ⟨by omega,by omega⟩
 show wpAny _ _ (if(((sIx items.size 0 lo:Nat):Int)==0&&(1:Int)==1&&(sIx items.size items.size hi-sIx items.size 0 lo)==items.size)=true then _ else _) _ _ s;rw[if_neg hno,V7]
 first
  |exact ae (m:=sr _) (iu (ao ⟨_,rfl,ao h⟩) htake)
  |exact ae (m:=sr _) (iu (ae (ao (ao ⟨_,rfl,ao h⟩))) htake)
  |exact ae (ae (m:=sr _) (iu (ao (ao ⟨_,rfl,ao h⟩)) htake))
  |exact ae (ae (m:=sr _) (iu (ao ⟨_,rfl,ao h⟩) htake))
end
end HT
namespace L2
open PySem PySem.Spec PyProof.Rows
abbrev TO:=St->Hp->(AY->Hp->Prop)->Prop
def PO(X:Cx)(e:Option ah)(t:TO):Prop:=
 ∀(BD:List (Addr×Obj))(s:aa)(σ:St)(H:Hp)(Q:AY->Hp->Prop),aI X BD σ H s->t σ H Q->
  wpAny (model X.prog X.w) X.A (evalPart e X.env) (λu s'=>∃o H',aI X BD σ H' s'/\kz u o/\Q o H') X.xe s
def aa8:TO:=λ_ H Q=>Q none H
def ad3(t:TE):TO:=λσ H Q=>t σ H λx H1=>∃i,x=.int i/\Q (some i) H1
section
variable{X:Cx}{e:ah}{te:TE}{lo hi:Option ah}{tl th:TO}{pos p2:ai}
theorem abC:PO X none aa8:=by
 intro BD s σ H Q I h;rw[evalPart_none];exact ao ⟨none,H,I,.none,h⟩
theorem abH(h:PE X e te):PO X (some e) (ad3 te):=by
 intro BD s σ H Q I hw;rw[evalPart_some];refine bK (h BD s σ H _ I hw) ?_
 rintro u s1 ⟨x,H1,I1,r1,q1⟩
 obtain⟨i,rfl,q⟩:=q1;obtain⟨t,rfl⟩:=r1;exact⟨some i,H1,I1,.int i t,q⟩
def oO(X:Cx)(r:V->AY->AY->Hp->VK->Prop):Prop:=
 ∀(BD:List (Addr×Obj))(s:aa)(σ:St)(H:Hp)(x:V)(v vl vu:Value)(lo hi:AY)(sl:Addr)(Q:VK),aI X BD σ H s->bS x v->s.heap.IsSliceOf sl vl vu .none->kz vl lo->kz vu hi->r x lo hi H Q->
  ∃T id,typeLookup (.type T) "__getitem__"=pure (some (.builtin id))/\s.TypeIs v T/\wpAny (model X.prog X.w) X.A (getItem v (.ref sl)) (EP X BD σ Q) X.xe s
theorem oO.or{r r':V->AY->AY->Hp->VK->Prop}(h:oO X r)(h':oO X r'):oO X (λx lo hi H Q=>r x lo hi H Q\/r' x lo hi H Q):=by
 intro BD s σ H x v vl vu lo hi sl Q I rx hs pl pu q;rcases q with q |q
 .exact h BD s σ H x v vl vu lo hi sl Q I rx hs pl pu q
 .exact h' BD s σ H x v vl vu lo hi sl Q I rx hs pl pu q
def tSl(r:V->AY->AY->Hp->VK->Prop)(te:TE)(tl th:TO):TE:=λσ H Q=>te σ H λx H1=>tl σ H1 λl H2=>th σ H2 λu H3=>r x l u H3 Q
theorem R3{r:V->AY->AY->Hp->VK->Prop}(hr:oO X r)(he:PE X e te)(hl:PO X lo tl)(hu:PO X hi th):PE X (.Subscript e (.Slice lo hi none p2) pos) (tSl r te tl th):=by
 intro BD s σ H Q I h;refine Subscript_ (bK (he BD s σ H _ I h) λv s1 hq=>?_);rcases hq with⟨x,H1,I1,r1,q1⟩;refine wpAny_Slice (bK (hl BD s1 σ H1 _ I1 q1) λvl s2 ⟨l,H2,I2,pl,q2⟩=>bK (hu BD s2 σ H2 _ I2 q2) λvu s3 hq=>?_);rcases hq with⟨u,H3,I3,pu,q3⟩;rw[evalPart_none];refine ao ?_;have I4:aI X BD σ H3 {s3 with heap:=s3.heap.push {cls:=.type "slice",data:=.fields #[vl,vu,.none]}}:=I3.kept (t':=s3.toks) λb ob q=>ay _ q;obtain⟨T,id,hT,ht,hg⟩:=hr BD {s3 with heap:=s3.heap.push {cls:=.type "slice",data:=.fields #[vl,vu,.none]}} σ H3 x v vl vu l u s3.heap.objs.size Q I4 r1 (Heap.IsSliceOf.new ..) pl pu q3;show wpAny (model X.prog X.w) X.A (subscriptTail e (.Slice lo hi none p2) v (.ref s3.heap.objs.size)) (EP X BD σ Q) X.xe {s3 with heap:=s3.heap.push {cls:=.type "slice",data:=.fields #[vl,vu,.none]}};exact tail_any (ops:=[.ref s3.heap.objs.size,v]) ht hT hg (by with_unfolding_all rfl)
def oN(xs:List V)(lo hi:AY):List V:=(xs.drop (HT.sIx xs.length 0 lo)).take (HT.sIx xs.length xs.length hi-HT.sIx xs.length 0 lo)
theorem vR(xs:List V)(lo hi:AY):(oN xs lo hi).length<=xs.length:=by
 unfold oN;rw[kl,qk];omega
def ae6(K:ag):V->AY->AY->Hp->VK->Prop:=λx lo hi H Q=>∃a xs,x=.ref a/\dP K H a xs/\
 ¬(HT.sIx xs.length 0 lo=0/\HT.sIx xs.length xs.length hi=xs.length)/\∀p,H p=none->Q (.ref p) (aW H p (.tup (oN xs lo hi)))
theorem abO:oO X (ae6 X.K):=by
 intro BD s σ H x v vl vu lo hi sl Q I rx hs pl pu h;obtain⟨a,xs,rfl,hx,hw,q⟩:=h;cases rx;obtain⟨its,r,ht,hz⟩:=I.tuple hx;have hlen:its.toArray.size=xs.length:=by rw[az];exact r.length.symm
 refine⟨"tuple",_,sk.lookup,ht.typeIs,?_⟩;refine HT.getItem_tuple_cut ht hs pl pu (by rw[hlen];exact hw) ?_ (by rw[hlen];exact hz);rw[hlen];refine⟨.ref s.heap.objs.size,_,I.laid (t':=s.toks) (o:=.tup (oN xs lo hi)) (λb ob q=>ay _ q) (ak _) ?_,rfl,q _ (I.hok.fresh (ak _))⟩;exact⟨ft (vR xs lo hi) hz,_,(r.drop (HT.sIx xs.length 0 lo)).take (HT.sIx xs.length xs.length hi-HT.sIx xs.length 0 lo),se _ _⟩
def Gv(K:ag):R2:=λx y H Q=>∃a b xs ys,x=.ref a/\y=.ref b/\dP K H a xs/\dP K H b ys/\xs≠[]/\xs.length+ys.length<=sizeLine/\
 (ys=[]->Q (.ref a) H)/\(ys≠[]->∀p,H p=none->Q (.ref p) (aW H p (.tup (xs++ys))))
theorem bI.nil_iff{xs:List V}{us:AU}(r:bI xs us):us=[]↔xs=[]:=by
 cases r with
 |nil=>simp
 |cons _ _=>simp
theorem abF:eW X (binaryOp .Add) (Gv X.K):=by
 intro BD s σ H x y v u Q I rx ry h;obtain⟨a,b,xs,ys,rfl,rfl,ha,hb,hx,hz,q1,q2⟩:=h;cases rx;cases ry;obtain⟨its,r1,p1,_⟩:=I.tuple ha;obtain⟨its2,r2,p2,_⟩:=I.tuple hb;refine HT.cat_tup p1 p2 (λz=>hx (r1.nil_iff.mp z)) (λz=>⟨.ref a,H,I,rfl,q1 (r2.nil_iff.mp z)⟩) (λz=>?_) (by rw[<-r1.length,<-r2.length];exact hz);refine⟨.ref s.heap.objs.size,_,I.laid (t':=s.toks) (o:=.tup (xs++ys)) (λb ob q=>ay _ q) (ak _) ?_,rfl,q2 (λw=>z (r2.nil_iff.mpr w)) _ (I.hok.fresh (ak _))⟩;exact⟨by rw[av];exact hz,_,r1.append r2,se _ _⟩
end
def aY(n:Nat)(i:Int):Option Nat:=if 0<=i then(if i<n then some i.toNat else none)else if-(n:Int)<=i then some (i+n).toNat else none
def aZ{α:Type}(xs:List α)(i:Int):Option α:=(aY xs.length i).bind λj=>xs[j]?
theorem Aq{n:Nat}{i:Int}{j:Nat}(h:aY n i=some j):seqIndex? i n=some j/\j<n/\-(n:Int)<=i/\i<n:=by
 unfold aY at h
 by_cases h0:0<=i
 .rw[if_pos h0]at h
  by_cases h1:i<n
  .rw[if_pos h1]at h
   have e:i.toNat=j:=ce h;exact⟨by rw[wu h0 h1,e],by omega,by omega,h1⟩
  .rw[if_neg h1]at h;cases h
 .rw[if_neg h0]at h
  by_cases h1:-(n:Int)<=i
  .rw[if_pos h1]at h
   have e:(i+n).toNat=j:=ce h;exact⟨by rw[wv (by omega) h1,e],by omega,h1,by omega⟩
  .rw[if_neg h1]at h;cases h
theorem Ed{α:Type}{xs:List α}{i:Int}{v:α}(h:aZ xs i=some v):∃j,seqIndex? i xs.length=some j/\xs[j]?=some v/\j<xs.length/\-(xs.length:Int)<=i/\i<xs.length:=by
 unfold aZ at h;cases e:aY xs.length i with
 |none=>rw[e]at h;cases h
 |some j=>
  rw[e]at h;obtain⟨h1,h2,h3,h4⟩:=Aq e;exact⟨j,h1,h,h2,h3,h4⟩
theorem eH{α:Type}{xs:List α}{j:Nat}{v:α}(h:xs[j]?=some v):aZ xs (j:Int)=some v:=by
 have hj:j<xs.length:=(br.mp h).1;have e:aY xs.length (j:Int)=some j:=by
  unfold aY;rw[if_pos (by omega),if_pos (by omega)];simp
 unfold aZ;rw[e];exact h
theorem Y4{α:Type}(xs:List α)(v:α):aZ (xs++[v]) (-1)=some v:=by
 have hl:(xs++[v]).length=xs.length+1:=by simp
 have e:aY (xs++[v]).length (-1)=some xs.length:=by
  unfold aY;rw[hl,if_neg (by decide),if_pos (by omega)];congr 1;omega
 unfold aZ;rw[e];show(xs++[v])[xs.length]?=some v;simp
def wZ(b:ah):Prop:=∀o i,subscripted b false o i=operate [o,i] (getItem o i)
def mM(X:Cx)(r:R2):Prop:=
 ∀(value slice:ah)(BD:List (Addr×Obj))(s:aa)(σ:St)(H:Hp)(x y:V)(v u:Value)(Q:VK),aI X BD σ H s->bS x v->bS y u->r x y H Q->
  subscripted slice false v u=operate [v,u] (getItem v u)->wpAny (model X.prog X.w) X.A (subscriptTail value slice v u) (EP X BD σ Q) X.xe s
def vK(X:Cx)(id:String)(r:V->List V->Hp->VK->Prop):Prop:=
 ∀(BD:List (Addr×Obj))(s:aa)(σ:St)(H:Hp)(x:V)(xs:List V)(v:Value)(us:AU)(Q:VK),aI X BD σ H s->bS x v->bI xs us->r x xs H Q->
  wpAny (model X.prog X.w) X.A (call (.builtin id) (v::us)) (EP X BD σ Q) X.xe s
section
variable{X:Cx}{a b:ah}{ta tb:TE}{pos:ai}
theorem mM.or{r r':R2}(h:mM X r)(h':mM X r'):mM X (λx y H Q=>r x y H Q\/r' x y H Q):=by
 intro value slice BD s σ H x y v u Q I rx ry q hs;rcases q with q |q
 .exact h value slice BD s σ H x y v u Q I rx ry q hs
 .exact h' value slice BD s σ H x y v u Q I rx ry q hs
theorem Qg{r:R2}(hr:mM X r)(ha:PE X a ta)(hb:PE X b tb)(hs:wZ b):PE X (.Subscript a b pos) (zU r ta tb):=by
 intro BD s σ H Q I h;exact Subscript_ (Zg ha hb I h λv u s2 x y H2 I2 rx ry q=>hr a b BD s2 σ H2 x y v u Q I2 rx ry q (hs _ _))
def Kw(K:ag):R2:=λx y H Q=>∃p xs i v,x=.ref p/\y=.int i/\cK K H p xs/\aZ xs i=some v/\Q v H
def Vw(K:ag):R2:=λx y H Q=>∃p xs i v,x=.ref p/\y=.int i/\dP K H p xs/\aZ xs i=some v/\Q v H
def Mw:R2:=λx y H Q=>∃z i c,x=.str z/\y=.int i/\z.length<=sizeLine/\aZ z.cps.toList i=some c/\Q (.str ⟨#[c]⟩) H
theorem aa2:mM X (Kw X.K):=by
 intro value slice BD s σ H x y v u Q I rx ry h hs;obtain⟨p,xs,i,z,rfl,rfl,hq,he,q⟩:=h;cases rx;obtain⟨t,rfl⟩:=ry;obtain⟨its,r,pl,hz⟩:=I.list hq;obtain⟨j,h1,h2,h3,h4,h5⟩:=Ed he;obtain⟨w,ew,rw'⟩:=r.get h2;have hl:=r.length;have hn:=uM;have fin:EP X BD σ Q w s:=⟨z,H,I,rw',q⟩
 by_cases h0:0<=i
 .have hj:i.toNat=j:=by
   rw[wu h0 h5]at h1;exact ce h1
  exact item_listR pl.isList h0 (by omega) (by rw[hj];simpa using ew) fin hs
 .have hj:(i+(its.toArray.size:Int)).toNat=j:=by
   rw[wv (by omega) h4]at h1;rw[az,<-hl];exact ce h1
  exact a7 (x:=w) pl.isList.typeIs slot_list_getitem.lookup
   (wpAny_getItem_list_neg (Q:=λr s'=>r=w/\EP X BD σ Q r s') pl.isList (by omega) (by rw[az]<;>omega) (by omega) (by rw[hj];simpa using ew) ⟨rfl,fin⟩) hs
theorem acb:mM X (Vw X.K):=by
 intro value slice BD s σ H x y v u Q I rx ry h hs;obtain⟨p,xs,i,z,rfl,rfl,hq,he,q⟩:=h;cases rx;obtain⟨t,rfl⟩:=ry;obtain⟨its,r,pl,hz⟩:=I.tuple hq;obtain⟨j,h1,h2,h3,h4,h5⟩:=Ed he;obtain⟨w,ew,rw'⟩:=r.get h2;have hl:=r.length;have hn:=uM;have fin:EP X BD σ Q w s:=⟨z,H,I,rw',q⟩;exact a7 (x:=w) pl.typeIs sk.lookup
  (getItem_tuple (j:=j) (Q:=λr s'=>r=w/\EP X BD σ Q r s') pl (by omega) (by omega) (by rw[az,<-hl];exact h1) (by simpa using ew) ⟨rfl,fin⟩) hs
theorem acU:mM X Mw:=by
 intro value slice BD s σ H x y v u Q I rx ry h hs;obtain⟨z,i,c,rfl,rfl,hz,he,q⟩:=h;obtain⟨t,rfl⟩:=rx;obtain⟨t',rfl⟩:=ry;obtain⟨j,h1,h2,h3,h4,h5⟩:=Ed he;have hl:z.cps.toList.length=z.length:=by simp[Str.length]
 rw[hl]at h1 h4 h5;have hn:=uM;exact tail_any (typeIs_str s z t) slot_str_getitem.lookup (getItem_str (c:=c) (by
  have e1:decide (i< -(2^63:Int))=false:=decide_eq_false (by omega);have e2:decide (i>=2^63)=false:=decide_eq_false (by omega);rw[e1,e2,Bool.or_false]) (by rw[h1];simpa using h2) ⟨.str ⟨#[c]⟩,H,I.tok _,⟨_,rfl⟩,q⟩) hs
def Hx(K:ag):R2:=λx y H Q=>Kw K x y H Q\/Vw K x y H Q\/Mw x y H Q
theorem Ft:mM X (Hx X.K):=aa2.or (acb.or acU)
theorem Yz(its:AU)(n j:Nat)(u:Value):jb (·.setIfInBounds j u) {cls:=.type "list",data:=.seq its.toArray n}={cls:=.type "list",data:=.seq (its.set j u).toArray n}:=by
 simp[jb]
theorem aI.lst{BD:List (Addr×Obj)}{σ:St}{H:Hp}{s:aa}{p:Addr}{xs:List V}(I:aI X BD σ H s)(h:H p=some (.lst xs)):
  ∃(its:AU)(n:Nat),bI xs its/\s.heap.get? p=some {cls:=.type "list",data:=.seq its.toArray n}/\xs.length<=sizeLine:=by
 obtain⟨z,its,n,r,e⟩:=I.hok p _ h;exact⟨its,n,r,e,z⟩
theorem aI.lstUpd{BD:List (Addr×Obj)}{σ:St}{H:Hp}{s:aa}{p:Addr}{xs ys:List V}{its its':AU}{n n':Nat}{f:Obj->Obj}(I:aI X BD σ H s)(h:H p=some (.lst xs))
  (ho:s.heap.get? p=some {cls:=.type "list",data:=.seq its.toArray n})(hf:f {cls:=.type "list",data:=.seq its.toArray n}={cls:=.type "list",data:=.seq its'.toArray n'})(r:bI ys its')(hz:ys.length<=sizeLine)(t:Nat):
  aI X BD σ (aW H p (.lst ys)) {s with heap:=s.heap.update p f,toks:=t}:=by
 have e:(s.heap.update p f).get? p=some {cls:=.type "list",data:=.seq its'.toArray n'}:=by
  rw[ss f ho (by rw[hf]<;>rfl),hf]
 refine I.write (x:=p) (e:=p) (by rw[h];trivial) (.inl rfl) (λb u hb q=>(a8 _ _ (ik hb)).trans q) ⟨_,e⟩ ?_;exact⟨hz,its',n',r,e⟩
def ael:V->V->V->Hp->(Hp->Prop)->Prop:=λo i v H Q=>∃p xs k j,o=.ref p/\i=.int k/\H p=some (.lst xs)/\aY xs.length k=some j/\Q (aW H p (.lst (xs.set j v)))
theorem Up:Lh X ael:=by
 intro BD s σ H o i v ov iv u Q I ro ri rv h;obtain⟨p,xs,k,j,rfl,rfl,hp,hj,q⟩:=h;cases ro;obtain⟨t,rfl⟩:=ri;obtain⟨its,n,r,ho,hz⟩:=I.lst hp;obtain⟨h1,h2,h3,h4⟩:=Aq hj;have hl:=r.length;have hn:=uM;have I':aI X BD σ (aW H p (.lst (xs.set j v))) {s with heap:=s.heap.update p (jb (·.setIfInBounds j u))}:=
  I.lstUpd hp ho (Yz its n j u) (r.set rv j) (by rw[fk];exact hz) s.toks
 by_cases h0:0<=k
 .have hk:k.toNat=j:=by
   rw[wu h0 h4]at h1;exact ce h1
  exact PySem.W.ki_setAt ho h0 (by omega) (by rw[az,<-hl];exact h4) (by rw[hk];exact⟨_,I',q⟩)
 .have hk:(k+(its.toArray.size:Int)).toNat=j:=by
   rw[wv (by omega) h3]at h1;rw[az,<-hl];exact ce h1
  exact PySem.W.ki_setBack ho (by omega) (by rw[az,<-hl];exact h3) (by omega) (by rw[hk];exact⟨_,I',q⟩)
theorem Jy(lo hi:AY)(n:Nat):(sliceBounds lo hi none n).1=((HT.sIx n 0 lo:Nat):Int)/\(sliceBounds lo hi none n).2.1=((HT.sIx n n hi:Nat):Int)/\(sliceBounds lo hi none n).2.2=1:=by
 refine⟨?_,?_,rfl⟩
 .cases lo with
  |none=>simp[sliceBounds,HT.sIx]
  |some i=>
   simp only[sliceBounds,HT.sIx,a9,show(1:Int)>0 by decide,if_true]
   by_cases h:i<0
   .simp only[h,if_true]<;>omega
   .simp only[h,if_false]<;>omega
 .cases hi with
  |none=>simp[sliceBounds,HT.sIx]
  |some i=>
   simp only[sliceBounds,HT.sIx,a9,show(1:Int)>0 by decide,if_true]
   by_cases h:i<0
   .simp only[h,if_true]<;>omega
   .simp only[h,if_false]<;>omega
theorem Cy(its:AU)(lo hi:AY):slicePick its.toArray lo hi none=((its.drop (HT.sIx its.length 0 lo)).take (HT.sIx its.length its.length hi-HT.sIx its.length 0 lo)).toArray:=by
 obtain⟨h1,h2,h3⟩:=Jy lo hi its.toArray.size;unfold slicePick;rw[h1,h2,h3];simp only[sliceRange_one,pick_run,az]<;>rfl
def ae5(K:ag):V->AY->AY->Hp->VK->Prop:=λx lo hi H Q=>∃a xs,x=.ref a/\cK K H a xs/\∀p,H p=none->Q (.ref p) (aW H p (.lst (oN xs lo hi)))
theorem abx:oO X (ae5 X.K):=by
 intro BD s σ H x v vl vu lo hi sl Q I rx hs pl pu h;obtain⟨a,xs,rfl,hx,q⟩:=h;cases rx;obtain⟨its,r,ht,hz⟩:=I.list hx;have hlen:=r.length;refine⟨"list",_,slot_list_getitem.lookup,ht.isList.typeIs,?_⟩;refine wpAny_getItem_list_slice ht.isList hs pl pu .none (by simp) ?_ (by rw[az]<;>omega);rw[Cy,<-hlen];refine⟨.ref s.heap.objs.size,_,I.laid (t':=s.toks) (o:=.lst (oN xs lo hi)) (λb ob q=>ay _ q) (ak _) ?_,rfl,q _ (I.hok.fresh (ak _))⟩;exact⟨ft (vR xs lo hi) hz,_,0,(r.drop (HT.sIx xs.length 0 lo)).take (HT.sIx xs.length xs.length hi-HT.sIx xs.length 0 lo),df _ rfl⟩
theorem Ly:iZ X (.builtin "len") (λxs H Q=>∃p ys,xs=[.ref p]/\(cK X.K H p ys\/dP X.K H p ys)/\Q (.int ys.length) H):=by
 intro BD s σ H xs us Q I r h;obtain⟨p,ys,rfl,hq,q⟩:=h;obtain⟨u,rfl,rx⟩:=kL r;cases rx;have hn:=uM;rcases hq with hq |hq
 .obtain⟨its,r',pl,hz⟩:=I.list hq
  have hlen:=r'.length;exact Calls.call_len_list pl.isList (by simp only[az]<;>omega) ⟨.int ys.length,H,I.tok _,⟨s.toks+1,by rw[az,hlen]⟩,q⟩
 .obtain⟨its,r',pl,hz⟩:=I.tuple hq
  have hlen:=r'.length;exact len_tuple pl (by simp only[az]<;>omega) ⟨.int ys.length,H,I.tok _,⟨s.toks+1,by rw[az,hlen]⟩,q⟩
theorem vQ:iZ X (.type "list") (λxs H Q=>∃p ys,xs=[.ref p]/\(cK X.K H p ys\/dP X.K H p ys)/\∀l,H l=none->Q (.ref l) (aW H l (.lst ys))):=by
 intro BD s σ H xs us Q I r h;obtain⟨p,ys,rfl,hq,q⟩:=h;obtain⟨u,rfl,rx⟩:=kL r;cases rx;have fin:∀(its:AU),bI ys its->ys.length<=sizeLine->∀(h':Heap)(c':Nat),(∀b o',s.heap.get? b=some o'->h'.get? b=some o')->
   h'.get? s.heap.objs.size=some {cls:=.type "list",dict:=none,data:=.seq its.toArray c',slots:=#[]}->EP X BD σ Q (.ref s.heap.objs.size) {s with heap:=h'}:=λits r' hz h' c' kp e=>
  ⟨.ref s.heap.objs.size,_,I.laid (t':=s.toks) kp (ak _) (show fV X.prog X.w _ h' _ (.lst ys) from⟨hz,its,c',r',e⟩),rfl,q _ (I.hok.fresh (ak _))⟩
 rcases hq with hq |hq
 .obtain⟨its,r',pl,hz⟩:=I.list hq
  have hlen:=r'.length;obtain⟨o,ho,hc,n,hd⟩:=pl.isList;exact call_list_seq p (.inl rfl) ho hc hd (λh' c' kp e=>fin its r' hz h' c' kp e) (by simp only[az]<;>omega)
 .obtain⟨its,r',pl,hz⟩:=I.tuple hq
  have hlen:=r'.length;obtain⟨o,ho,hc,n,hd⟩:=pl;exact call_list_seq p (.inr rfl) ho hc hd (λh' c' kp e=>fin its r' hz h' c' kp e) (by simp only[az]<;>omega)
theorem Ey:iZ X (.type "tuple") (λxs H Q=>∃p ys,xs=[.ref p]/\((cK X.K H p ys/\∀l,H l=none->Q (.ref l) (aW H l (.tup ys)))\/(dP X.K H p ys/\Q (.ref p) H))):=by
 intro BD s σ H xs us Q I r h;obtain⟨p,ys,rfl,h⟩:=h;obtain⟨u,rfl,rx⟩:=kL r;cases rx;rcases h with⟨hq,q⟩|⟨hq,q⟩
 .obtain⟨its,r',pl,hz⟩:=I.list hq
  have hlen:=r'.length;refine call_tuple_list pl.isList (λh' kp=>?_) (by simp only[az]<;>omega);have I1:aI X BD σ H {s with heap:=h'}:=I.kept (t':=s.toks) kp;have I2:aI X BD σ (aW H h'.objs.size (.tup ys)) {s with heap:=h'.push {cls:=.type "tuple",data:=.seq its.toArray}}:=
   I1.laid (t':=s.toks) (λb o e=>ay _ e) (ak _) (show fV X.prog X.w _ _ _ (.tup ys) from⟨hz,its,r',se _ _⟩)
  exact⟨.ref h'.objs.size,_,I2,rfl,q _ (I1.hok.fresh (ak _))⟩
 .obtain⟨its,r',pl,hz⟩:=I.tuple hq
  exact call_tuple_same pl ⟨.ref p,H,I,rfl,q⟩
def Yh(K:ag)(T:String)(x:V)(H:Hp):Prop:=match x with
 |.str _=>T="str"
 |.int _=>T="int"
 |.ref p=>(T="list"/\∃xs,cK K H p xs)\/(T="tuple"/\∃o,K.lookup p=some o/\o.cls=.type "tuple"/\o.dict=none)\/
   (T="dict"/\((∃kvs,H p=some (.dK kvs))\/∃kvs,H p=some (.dT kvs)))\/(T="set"/\∃S n,H p=some (.set S n))
 |_=>False
theorem acQ{BD:List (Addr×Obj)}{σ:St}{H:Hp}{s:aa}{T:String}{x:V}{v:Value}(I:aI X BD σ H s)(r:bS x v)(ty:Yh X.K T x H):
  s.TypeIs v T/\∀a,v=.ref a->∃ob,s.heap.get? a=some ob/\ob.dict=none:=by
 cases x with
 |str z=>
  obtain⟨t,rfl⟩:=r;cases(show T="str" from ty);exact⟨typeIs_str s z t,λ_ e=>nomatch e⟩
 |int i=>
  obtain⟨t,rfl⟩:=r;cases(show T="int" from ty);exact⟨ww s i t,λ_ e=>nomatch e⟩
 |ref p=>
  cases r;rcases ty with⟨rfl,xs,hq⟩|⟨rfl,o,hk,hc,hd⟩|⟨rfl,hk⟩|⟨rfl,S,n,hk⟩
  .obtain⟨its,_,pl,_⟩:=I.list hq
   refine⟨pl.isList.typeIs,λa e=>?_⟩;cases e;obtain⟨o,n,e,c,hd,_⟩:=pl;exact⟨o,e,hd⟩
  .refine⟨⟨o,I.kIn p o hk,hc⟩,λa e=>?_⟩
   cases e;exact⟨o,I.kIn _ o hk,hd⟩
  .have z:∃o,s.heap.get? p=some o/\o.ExactDict:=by
    rcases hk with⟨kvs,hk⟩|⟨kvs,hk⟩
    .obtain⟨_,_,_,_,o,_,_,e,ex,_⟩:=I.hok p _ hk
     exact⟨o,e,ex⟩
    .obtain⟨_,_,_,_,o,_,_,e,ex,_⟩:=I.hok p _ hk
     exact⟨o,e,ex⟩
   obtain⟨o,e,ex⟩:=z;refine⟨⟨o,e,ex.1⟩,λa e2=>?_⟩;cases e2;exact⟨o,e,ex.2.1⟩
  .obtain⟨o,_,_,_,e,ex,_⟩:=I.hok p _ hk
   refine⟨⟨o,e,ex.1⟩,λa e2=>?_⟩;cases e2;exact⟨o,e,ex.2.1⟩
 |_=>exact jx ty
def tBM(K:ag)(T:String)(r:V->List V->Hp->VK->Prop)(to:TE)(t:TA):TE:=λσ H Q=>to σ H λx H1=>Yh K T x H1/\t σ H1 λxs H2=>r x xs H2 Q
variable{o e:ah}{es:List ah}{to:TE}{t:TA}{name:Str}{apos cpos:ai}{T id:String}{r:V->List V->Hp->VK->Prop}
theorem Og(pa:PlainAttrs T)(slot:Slot T name id)(hty:typeOf (.builtin id)=pure (.type "method_descriptor"))(hm:vK X id r)(ho:PE X o to)(ha:PA X (e::es) t)
  (hbase:attributeBase o name X.env (eval o X.env)=eval o X.env:=by rfl)
  (hfew:((backTo cpos (starEach (e::es) X.env)).all (λx=>!x.1)&&(backToKw cpos (keywordEach [] X.env)).all (λx=>x.1.isSome)
   &&decide ((e::es).length+([]:List jg).length+(if([]:List jg).isEmpty then 0 else 1)<30))=true:=by rfl)
  (hline:(apos.endLine==cpos.line)=true:=by rfl)(hs:starEach (e::es) X.env=(false,eval e X.env)::starEach es X.env:=by rfl)(hplain:(backTo cpos (starEach es X.env)).any (·.1)=false:=by rfl):
  PE X (.Call (.Attribute o name apos) (e::es) [] cpos) (tBM X.K T r to t):=by
 intro BD s σ H Q I h;refine c7 hbase hfew hline rfl (bK (ho BD s σ H _ I h) λv s1 hq=>?_);rcases hq with⟨x,H1,I1,r1,ty,q1⟩;obtain⟨h1,h2⟩:=acQ I1 r1 ty;refine⟨T,id,pa,slot,hty,h1,h2,?_⟩;have hA:=ha cpos BD s1 σ H1 _ I1 q1;rw[hs]at hA⊢;refine wz (by show(false||(backTo cpos (starEach es X.env)).any (·.1))=false;rw[hplain]<;>rfl) (xa ?_);exact bK hA λus s2 ⟨vs,H2,I2,r2,q2⟩=>hm BD s2 σ H2 x vs v us Q I2 r1 r2 q2
end
def Rx(X:Cx)(id:String)(r:V->List V->Hp->VK->Prop):Prop:=
 ∀(BD:List (Addr×Obj))(s:aa)(σ:St)(H:Hp)(x:V)(xs:List V)(v:Value)(us:AU)(Q:VK),aI X BD σ H s->bS x v->bI xs us->r x xs H Q->
  wpAny (model X.prog X.w) X.A (call (.builtin id) (v::us)) (EP X BD σ Q) X.xe s
theorem bI.one:∀{x:V}{us:AU},bI [x] us->∃u,us=[u]/\bS x u:=by
 rintro _ _ (_ |⟨r,_ |_⟩)
 exact⟨_,rfl,r⟩
theorem bI.two:∀{x y:V}{us:AU},bI [x,y] us->∃u v,us=[u,v]/\bS x u/\bS y v:=by
 rintro _ _ _ (_ |⟨r,_ |⟨q,_ |_⟩⟩)
 exact⟨_,_,rfl,r,q⟩
theorem bI.eraseIdx:∀{xs:List V}{us:AU}(i:Nat),bI xs us->bI (xs.eraseIdx i) (us.eraseIdx i)
 |_,_,_,.nil=>.nil
 |_,_,0,.cons _ t=>t
 |_,_,i+1,.cons r t=>.cons r (bI.eraseIdx i t)
theorem bI.rep{xs:List V}{us:AU}(h:bI xs us):∀k:Nat,bI (fw k xs).flatten (fw k us).flatten
 |0=>.nil
 |k+1=>by
  rw[mx,mx,oj,oj];exact bI.append h (bI.rep h k)
theorem Ub{α:Type}:∀(l:List α)(i:Nat),(l.eraseIdx i).length<=l.length
 |[],_=>ak _
 |_::_,0=>my _
 |_::r,i+1=>xb (Ub r i)
theorem Tk(its:AU):∀(k:Nat)(acc:AU),
  sv (λx1 x2=>x1++x2) acc.toArray (fw k its.toArray)=(acc++(fw k its).flatten).toArray
 |0,acc=>by simp
 |k+1,acc=>by
  have e:acc.toArray++its.toArray=(acc++its).toArray:=by simp
  have e2:(acc++its)++(fw k its).flatten=acc++(fw (k+1) its).flatten:=by
   rw[mx,oj,ix]
  rw[<-e2,<-Tk its k (acc++its),<-e,mx,List.foldl_cons]
section
variable{X:Cx}{BD:List (Addr×Obj)}{σ:St}{H:Hp}{s:aa}{l b:Addr}{xs ys zs:List V}
theorem aI.lset{its its':AU}{n:Nat}{f:Array Value->Array Value}{t':Nat}(I:aI X BD σ H s)(hH:H l=some (.lst xs))
  (e:s.heap.get? l=some {cls:=.type "list",data:=.seq its.toArray n})(hf:f its.toArray=its'.toArray)(hv:bI ys its')(hz:ys.length<=sizeLine):
  aI X BD σ (aW H l (.lst ys)) {s with heap:=s.heap.update l (jb f),toks:=t'}:=by
 have q:=PySem.IsL.update e f;rw[hf]at q;refine I.write (x:=l) (e:=l) (by rw[hH];exact trivial) (.inl rfl) (λb' u hb hu=>(a8 s.heap (jb f) (ik hb)).trans hu) ⟨_,q⟩ ?_;exact⟨hz,its',_,hv,q⟩
theorem aI.lnew{its:AU}{t':Nat}(I:aI X BD σ H s)(hv:bI ys its)(hz:ys.length<=sizeLine):
  aI X BD σ (aW H s.heap.objs.size (.lst ys)) {s with heap:=s.heap.push {cls:=.type "list",data:=.seq its.toArray},toks:=t'}:=
 I.laid (λ_ _ q=>ay _ q) (ak _) ⟨hz,its,0,hv,df _ rfl⟩
theorem aI.fresh(I:aI X BD σ H s):H s.heap.objs.size=none:=I.hok.fresh (ak _)
theorem aI.lstM(I:aI X BD σ H s)(hH:H l=some (.lst xs)):xs.length<=sizeLine/\∃(its:AU)(n:Nat),bI xs its/\xs.length=its.length/\s.heap.get? l=some {cls:=.type "list",data:=.seq its.toArray n}:=by
 obtain⟨z,its,n,r,e⟩:=I.hok l _ hH;exact⟨z,its,n,r,r.length,e⟩
theorem S7{n:Nat}(h:n<=sizeLine):sy n=false:=by
 unfold sy;exact decide_eq_false (by omega)
end
section
variable{X:Cx}
def aaf:V->List V->Hp->VK->Prop:=λx vs H Q=>∃l xs y,x=.ref l/\vs=[y]/\H l=some (.lst xs)/\xs.length<sizeLine/\Q .non (aW H l (.lst (xs++[y])))
theorem tD:Rx X "list.append" aaf:=by
 intro BD s σ H x vs v us Q I rx rv h;obtain⟨l,xs,y,rfl,rfl,hH,hz,q⟩:=h;cases rx;obtain⟨u,rfl,ru⟩:=rv.one;obtain⟨z,its,n,r,hl,e⟩:=I.lstM hH;refine td xc ⟨_,e,rfl⟩ F.entry_list_append (F.args_list_append_2 _ _) (PySem.list_append l its.toArray n u (by rw[az];omega)) ⟨e,?_⟩;refine⟨.non,_,I.lset (its':=its++[u]) hH e (by simp) (r.append (.cons ru .nil)) ?_,rfl,q⟩;rw[av,jo];omega
def ac1:V->List V->Hp->VK->Prop:=λx vs H Q=>∃l xs i k y,x=.ref l/\vs=[.int i]/\H l=some (.lst xs)/\-(2^63)<=i/\i<2^63/\seqIndex? i xs.length=some k/\xs[k]?=some y/\Q y (aW H l (.lst (xs.eraseIdx k)))
theorem Q7:Rx X "list.pop" ac1:=by
 intro BD s σ H x vs v us Q I rx rv h;obtain⟨l,xs,i,k,y,rfl,rfl,hH,h1,h2,hk,hy,q⟩:=h;cases rx;obtain⟨u,rfl,ru⟩:=rv.one;obtain⟨t,rfl⟩:=ru;obtain⟨z,its,n,r,hl,e⟩:=I.lstM hH;obtain⟨w,hw,rw'⟩:=r.get hy;refine td F.slot_list_pop ⟨_,e,rfl⟩ F.entry_list_pop (F.args_list_pop_2 _ _)
  (MeetsSeq.list_pop_at l its.toArray n i t k w (fitsIndex_both h1 h2) (by rw[az,<-hl];exact hk) (by rw[<-c8];exact hw) (by rw[az];omega)) ⟨e,?_⟩
 refine⟨y,_,I.lset (its':=its.eraseIdx k) hH e ?_ (r.eraseIdx k) ?_,rw',q⟩
 .show its.toArray.eraseIdxIfInBounds k=(its.eraseIdx k).toArray
  rw[List.eraseIdxIfInBounds_toArray]
 .have:=Ub xs k
  omega
theorem Ps{α:Type}(xs:List α)(k:Nat):(fw k xs).flatten.length=k*xs.length:=by
 induction k with
 |zero=>simp
 |succ k ih=>rw[mx,oj,av,ih,Nat.succ_mul,Nat.add_comm]
end
section
variable{prog:Program}{w:aq}{A:au}{E:Value->aa->Prop}{s:aa}
end
section
variable{X:Cx}
end
end L2
namespace Att
open PySem PySem.W PySem.Calls PyProof.Rows
theorem Ux{P:ny}{h:Heap}:∀(ns:AR)(vs:AU),WellAll P h vs (ns.map WData.int)->ql vs ns:=by
 intro ns
 induction ns with
 |nil=>
  intro vs w;rw[ck]at w;cases w;exact .nil
 |cons n ns ih=>
  intro vs w;rw[aw]at w;cases w with
  |cons a b=>
   cases a;exact .cons _ _ (ih _ b)
theorem E2{l:om}{n:Nat}(hn:l.most=some n){P:ny}{h:Heap}{args:List WData}{vals:AU}
  (hpre:l.row.toRowW.claim.pre args=true)(hwl:WellAll P h vals args):
  ∃a vs ns,vals=[dy a]/\args=[WData.list (ns.map WData.int)]/\h.get? a=some {cls:=.type "list",data:=.seq vs.toArray}/\ql vs ns/\ns.length<=n:=by
 have hsh:WShape.hasAll [] args [.list .int]=true:=(pre_splitW hpre).1;have hc:l.pre.holds [] {args:=args}=true:=(pre_splitW hpre).2;obtain⟨d,r,rfl,h1,h2⟩:=hasAllW_cons hsh;obtain rfl:=hasAllW_nil h2;obtain⟨xs,rfl,h3⟩:=hasW_list h1;obtain⟨ns,rfl⟩:=items_int h3;have hlen:ns.length<=n:=by
  unfold OpenLaw.pre at hc;have h4:(WTm.not (.lt (.lit (.int (n:Int))) (.len (.arg 0)))).holds [] {args:=[.list (ns.map .int)]}=true:=by
   have h4:=(holds_andW hc).1;rw[hn]at h4;exact h4
  have h5:=condW_of h4 (w_not (w_lt w_lit (w_len_list (w_arg rfl))));rw[aj]at h5;refine Nat.le_of_not_lt λq=>?_;have q':(n:Int)<((ns.length:Nat):Int):=by omega
  first
   |(rw[decide_eq_true q']at h5;exact absurd h5 (by decide))
   |(simp at h5;omega)
 cases hwl with
 |cons w1 w2=>
  cases w2;cases w1 with
  |list ho hall=>exact⟨_,_,ns,rfl,rfl,ho,Ux ns _ hall,hlen⟩
theorem E3(l:om)(args:List WData):l.row.toRowW.claim.post args (.bool true) args=true:=
 postW_of (r:=l.row.toRowW) (X:=(true==true))
  (show WShape.has [] (.bool true) .bool=true by first |rfl |decide |simp[WShape.has,WShape.arms,WShape.armsAll])
  (show(WTm.eq .res (.lit (.bool true))).value [] {args:=args,res:=some (.bool true),after:=args}=some (.bool (true==true)) from w_eq_bool (w_res rfl) w_lit) rfl
theorem attach_call{l:om}{n:Nat}{q:Program}{loose:List Str}{XP:(Str->AW)->Heap->Prop}{YP:aq->Heap->Prop}{d:DefRec}
  (hn:l.most=some n)(hdf:d.params.defaults=[])
  (call:∀(w:aq)(BE BG:aa)(mg mb:Str->AW)(fa:Addr)(o:Obj)(pm cd doc:Value)(a:Addr)(vs:AU)(ns:AR),
   Ground q loose [] XP w BE mg mb BG.heap->YP w BG.heap->
   BG.heap.get? fa=some o->o.data=.func (docDef d.name d.params d.body d.scope pm cd doc)->BG.heap.CodeRec cd d.name->mg d.name=some (.ref fa)->
   BG.heap.get? a=some {cls:=.type "list",data:=.seq vs.toArray}->ql vs ns->ns.length<=n->BG.gens=#[]->
   codeAny (model l.prog w) callerA (.call (.ref fa) ⟨[.ref a],[]⟩) (λr s'=>r=.ok (.ret (.bool true))/\OldK BG.heap s'.heap/\s'.os=BG.os/\jw s'.gens) BG):
  WalkO q loose XP YP l.row.toRowW d [] (λf vs=>xf f vs):=by
 intro w BE BG mg mb G Y fa o pm cd doc dV kV ho hd hcd hD hmg hg args vals as hpre hlay hrd hwl hlo;obtain rfl:dV=.none:=Dflts.none hD hdf;obtain rfl:kV=.none:=Dflts.noKw hD;obtain⟨a,vs,ns,rfl,rfl,hobj,hints,hlen⟩:=E2 hn hpre hwl;refine enter_call (sf (call w BE BG mg mb fa o pm cd doc a vs ns G Y ho (fd_plain hd) hcd hmg hobj hints hlen hg) λr s' hq=>?_);obtain⟨rfl,h2,h3,h4⟩:=hq;exact⟨.inl ⟨.bool true,.bool true,[],rfl,λ_=>rfl,.bool true,E3 l _,λ_=>⟨List.Pairwise.nil,λ_ hm=>(nomatch hm)⟩⟩,h2,h3,h4⟩
section
variable{prog:Program}{w:aq}{A:au}{E:Value->aa->Prop}{s:aa}{K:Frag}
end
end Att
namespace L2
open PySem PySem.Spec PyProof.Rows
theorem Tm:∀{vs:AU}{ns:AR},ql vs ns->bI (ns.map V.int) vs
 |_,_,.nil=>.nil
 |_,_,.cons n t h=>.cons ⟨t,rfl⟩ (Tm h)
def Yg(H:Hp):Prop:=∀b,H b=none\/∃o xs,H b=some (.frz o (.lst xs))
theorem P5{P:Program}{w:aq}{K:ag}{mg mb:Str->AW}{CX:jS}{k:Nat}{fa a:Addr}{fd:cf}{x:Str}{sp:Sp}{BG:aa}{vs:AU}{ns:AR}
  (KX:K.In BG.heap)(hns:BG.heap.Ns mainGlobals mg)(hb:BG.heap.Ns builtinsNs mb)(hbb:∀x:Str,x≠"__name__"->mb x=bootBuiltins x)(hlim:BG.heap.NoLimit)(hg:BG.gens=#[])
  (ha:BG.heap.get? a=some {cls:=.type "list",data:=.seq vs.toArray})(hi:ql vs ns)(hl:ns.length<=sizeLine)(hr:dJ k callerA)
  (F:∀base:Heap,K.In base->base.Ns mainGlobals mg->eG P w K mg base CX k fa fd [x] sp)(hbind:∀(s:aa)(u:Value),oi s fd ⟨[u],[]⟩ [(x,u)])
  (hsp:∀H:Hp,Yg H->cK K H a (ns.map V.int)->sp [.ref a] H (λv _=>v=.bl true) λ_ _ _=>False)
  (hCX:∀H e s',CX [] H BG (λ_ _ _=>False) e s'->False):
  codeAny (model P w) callerA (.call (.ref fa) ⟨[.ref a],[]⟩) (λr s'=>r=.ok (.ret (.bool true))/\OldK BG.heap s'.heap/\s'.os=BG.os/\jw s'.gens) BG:=by
 have rv:=Tm hi;have lenV:=hi.length
 --from an abstract heap in which nothing but the script may be tracked
 have core:∀H:Hp,Yg H->cK K H a (ns.map V.int)->fM P w H BG.heap->(∀b,H b≠none->b=a)->(H a≠none->K.lookup a=none)->
   codeAny (model P w) callerA (.call (.ref fa) ⟨[.ref a],[]⟩) (λr s'=>r=.ok (.ret (.bool true))/\OldK BG.heap s'.heap/\s'.os=BG.os/\jw s'.gens) BG:=by
  intro H hO hS hok hA hK;have base_of:∀{b:Addr}{o:Obj},BG.heap.get? b=some o->H b=none->(nG BG.heap H).get? b=some o:=λe n=>W6 e n;have noA:∀{b:Addr}{o:Obj}{es:Array DictEntry}{ep:Nat},BG.heap.get? b=some o->o.data=.dict es ep->H b=none:=λ{b o es ep} e d=>by
   cases q:H b with
   |none=>rfl
   |some u=>
    have e':b=a:=hA b (by rw[q];simp);subst e';rw[ha]at e;cases e;have d':Data.seq vs.toArray _=Data.dict es ep:=d;cases d'
  have nsK:∀{b:Addr}{m:Str->AW},BG.heap.Ns b m->(nG BG.heap H).Ns b m:=λ{b m} ⟨o,es,ep,e,d,r⟩=>⟨o,es,ep,base_of e (noA e d),d,r⟩;have hKb:K.In (nG BG.heap H):=λb o e=>base_of (KX b o e) (by
   cases q:H b with
   |none=>rfl
   |some u=>
    have e':b=a:=hA b (by rw[q];simp);subst e';rw[hK (by rw[q];simp)]at e;cases e)
  have hM:Mod K mg (nG BG.heap H):=⟨hKb,nsK hns,⟨mb,nsK hb,hbb⟩,let⟨mc,h1,h2⟩:=hlim;⟨mc,nsK h1,h2⟩⟩;have e0:yY P w K mg (nG BG.heap H) callerA [] BG H:=⟨rfl,hM,λb o e=>abD e,xh (G6 _ _),trivial,λb hb=>absurd (show b∈([]:List Addr) from hb) (by simp),hok,.of_eq hg⟩;refine sf ((F _ hKb (nsK hns)).run callerA [] BG H ⟨[.ref a],[]⟩ [.ref a] [.ref a] _ _ hr e0 (hbind BG (.ref a)) (.cons rfl .nil) (hsp H hO hS)) λr s' h=>?_;cases r with
  |error e=>exact(hCX H e s' h).elim
  |ok fl=>
   cases fl with
   |next=>exact jx h
   |brk=>exact jx h
   |cont=>exact jx h
   |ret u=>
    obtain⟨v,H',os,bare,un,hok',r',q⟩:=h;have q':v=.bl true:=q;subst q';obtain rfl:u=rn true:=r';refine⟨rfl,OldK.of_keep λb o e=>?_,os,bare⟩;cases q:H b with
    |none=>exact un.keep b o e q (by intro z;exact absurd (show b∈([]:List Addr) from z) (by simp)) (by simp)
    |some u=>
     rcases hO b with z |⟨ob,xs,z⟩
     .rw[q]at z;cases z
     .have z2:=un.frzs b ob _ z
      obtain⟨e1,_⟩:=hok b _ z;obtain⟨e2,_⟩:=hok' b _ z2;rw[e]at e1;cases e1;exact e2
 cases hk:K.lookup a with
 |some o=>
  --the script is one of the module's own objects
  have e:=KX a o hk;rw[ha]at e;cases e;refine core (λ_=>none) (λ_=>.inl rfl) (.inr ⟨_,vs.toArray,_,hk,rfl,rfl,rfl,by rw[az,lenV];exact hl,by simpa using rv⟩) (λb u z=>by have z':(none:Option HO)=some u:=z;cases z') (λb z=>absurd rfl z) λz=>absurd rfl z
 |none=>
  refine core (λb=>if b=a then some (.frz {cls:=.type "list",data:=.seq vs.toArray} (.lst (ns.map V.int)))else none) (λb=>?_) (.inl (.inr ⟨{cls:=.type "list",data:=.seq vs.toArray},if_pos rfl⟩)) (λb u z=>?_) (λb z=>?_) λ_=>hk
  .by_cases hb:b=a
   .exact .inr ⟨_,_,if_pos hb⟩
   .exact .inl (if_neg hb)
  .by_cases hb:b=a
   .have z':=(if_pos hb).symm.trans z
    cases z';subst hb;exact⟨ha,by rw[aj];exact hl,vs,_,rv,ha⟩
   .have z':=(if_neg hb).symm.trans z
    cases z'
  .by_cases hb:b=a
   .exact hb
   .exact absurd (if_neg hb) z
theorem walk_of{l:om}{n k:Nat}{q:Program}{loose:List Str}{XP:(Str->AW)->Heap->Prop}{YP:aq->Heap->Prop}{d:DefRec}{K:ny->ag}{CX:aq->jS}{sp:aq->Sp}{x:Str}
  (hn:l.most=some n)(hn2:n<=sizeLine)(hdf:d.params.defaults=[])(hr:dJ k callerA)
  (hY:∀(w:aq)(h:Heap),YP w h->(K w.params).In h)
  (F:∀(w:aq)(mg:Str->AW)(fa:Addr)(h:Heap),(K w.params).In h->h.Ns mainGlobals mg->mg d.name=some (.ref fa)->
   ∃fd:cf,(∀(s:aa)(u:Value),oi s fd ⟨[u],[]⟩ [(x,u)])/\
    ∀base:Heap,(K w.params).In base->base.Ns mainGlobals mg->eG l.prog w (K w.params) mg base (CX w) k fa fd [x] (sp w))
  (hsp:∀(w:aq)(H:Hp)(a:Addr)(ns:AR),ns.length<=n->Yg H->cK (K w.params) H a (ns.map V.int)->sp w [.ref a] H (λv _=>v=.bl true) λ_ _ _=>False)
  (hCX:∀(w:aq)(H:Hp)(s:aa)(e:Value)(s':aa),CX w [] H s (λ_ _ _=>False) e s'->False):
  PySem.W.WalkO q loose XP YP l.row.toRowW d [] (λf vs=>xf f vs):=by
 refine Att.attach_call hn hdf λw BE BG mg mb fa o pm cd doc a vs ns G Y ho hd hcd hmg hobj hints hlen hg=>?_;have KX:=hY w _ Y;obtain⟨fd,hb,hF⟩:=F w mg fa _ KX G.T.g hmg;exact P5 KX G.T.g G.T.b G.T.builtins G.T.nolimit hg hobj hints (ft hlen hn2) hr hF hb (λH hO hS=>hsp w H a ns hlen hO hS) λH e s'=>hCX w H BG e s'
abbrev eL:jS:=λ_ _ _ _ _ _=>False
abbrev E0:XK:=λ_ _ _=>False
theorem yF{X:Cx}:Xe eL X E0:=λ_ _ _ _ _ _ _ h=>h.elim
structure jD(K:ag)(x qual:Str)(st:Stmt)(f:Addr)(fd:cf):Prop where
 ex:∃(oc:Value)(od:AX)(kV doc pm:Value)(an:AX)(cdv ct:Value)(osl:Array AW),
  fd=fi x qual (gR st) (eI st) (bX st) .none kV doc pm an cdv ct/\K.lookup f=some ⟨oc,od,.func fd,osl⟩/\jz K cdv qual=true
 kp:fu K (.ref f)=true
section
variable{P:Program}{w:aq}{K:ag}{mg:Str->AW}{base:Heap}
theorem jD.ok{x qual:Str}{st:Stmt}{f:Addr}{fd:cf}{N ps:List Str}{k:Nat}{sp:Sp}(F:jD K x qual st f fd)(S:hJ N ps (bX st))(len:∀vs H Q E,sp vs H Q E->vs.length=ps.length)
  (hbody:∀(cdv:Value)(A:au)(outer:List bh)(s:aa)(H:Hp)(vs:List V)(Q:VK)(E:XK),dJ k (A.deeper (envOfC qual (bX st) s.heap.objs.size f cdv))->sp vs H Q E->
   ∃t,gB (eV eL P w K mg base N qual (bX st) f cdv A outer s H E).nox (eI st) t/\t {nx:=λ_ H'=>Q .non H',rt:=Q} (start N vs) H):eG P w K mg base eL (k+1) f fd ps sp:=by
 obtain⟨oc,od,kV,doc,pm,an,cdv,ct,osl,rfl,lk,hcd⟩:=F.ex;refine yK lk hcd S len λA outer s H vs Q E hr hsp=>?_;obtain⟨t,h,q⟩:=hbody cdv A outer s H vs Q E hr hsp;exact⟨t,h.nox,q⟩
theorem jD.binds{x qual:Str}{st:Stmt}{f:Addr}{fd:cf}{ps:List Str}(F:jD K x qual st f fd)
  (h:∀(kV doc pm:Value)(an:AX)(cdv ct:Value)(us:AU),us.length=ps.length->bindArgs (fi x qual (gR st) (eI st) (bX st) .none kV doc pm an cdv ct) ⟨us,[]⟩=pure (ps.zip us)):jA K fd ps []:=by
 obtain⟨oc,od,kV,doc,pm,an,cdv,ct,osl,rfl,lk,hcd⟩:=F.ex;exact .all (h kV doc pm an cdv ct)
theorem Ut{x qual:Str}{st:Stmt}{f:Addr}{oc:Value}{od an:AX}{osl:Array AW}{kV doc pm cdv ct:Value}(l:K.lookup f=some ⟨oc,od,.func (fi x qual (gR st) (eI st) (bX st) .none kV doc pm an cdv ct),osl⟩)
  (c:jz K cdv qual=true)(k:fu K (.ref f)=true):jD K x qual st f (fi x qual (gR st) (eI st) (bX st) .none kV doc pm an cdv ct):=⟨⟨oc,od,kV,doc,pm,an,cdv,ct,osl,rfl,l,c⟩,k⟩
end
section
variable{X:Cx}
theorem pv(i:Nat){x:Str}{pos:ai}(hN:X.N[i]?=some x:=by rfl)(hv:qD X.env.scope x:=by first |exact jk rfl |exact jm (jk rfl) |exact jm (jm rfl))(hd:(x==("__debug__":Str))=false:=by decide)
  (hcd:(x==("__classdict__":Str))=false:=by decide):PE X (.Name x pos) (Nw i):=pH hN hv hd hcd
end
def eD(H H':Hp):Prop:=∀b o,H b=some o->H' b=some o
theorem eD.refl(H:Hp):eD H H:=λ_ _ h=>h
end L2
namespace Bn
def Bd(k:Nat)(i:Int):Prop:=i.natAbs<2^k
theorem Bd.mono{j k:Nat}{i:Int}(h:Bd j i)(l:j<=k):Bd k i:=dm h (c9 (by decide) l)
theorem Bd.mul{j k:Nat}{a b:Int}(h:Bd j a)(g:Bd k b):Bd (j+k) (a*b):=by
 unfold Bd at *;rw[tf,Nat.pow_add];exact Nat.mul_lt_mul'' h g
theorem Bd.add{k:Nat}{a b:Int}(h:Bd k a)(g:Bd k b):Bd (k+1) (a+b):=by
 unfold Bd at *;rw[Nat.pow_succ];have:=Int.natAbs_add_le a b;omega
theorem Bd.neg{k:Nat}{a:Int}(h:Bd k a):Bd k (-a):=by
 unfold Bd at *;rw[d7];exact h
theorem Bd.sub{k:Nat}{a b:Int}(h:Bd k a)(g:Bd k b):Bd (k+1) (a-b):=by
 rw[Int.sub_eq_add_neg];exact h.add g.neg
theorem Bd.le{k:Nat}{a b:Int}(h:Bd k b)(l:a.natAbs<=b.natAbs):Bd k a:=tj l h
theorem Bd.of{k n:Nat}{a:Int}(l:a.natAbs<=n)(h:n<2^k):Bd k a:=tj l h
theorem Bd.log{k:Nat}{a:Int}(h:Bd k a)(hk:0<k):a.natAbs.log2<k:=by
 rcases d8 a.natAbs with z |z
 .rw[z]
  exact tj (xh (by decide)) hk
 .exact(Nat.log2_lt (og z)).mpr h
theorem Wk(a:Int){b:Int}(h:b≠0):(a.fmod b).natAbs<b.natAbs:=by
 rw[Int.fmod_eq_emod];have h1:=d9 a h;have h2:a%b<(b.natAbs:Int):=Int.emod_lt a h
 by_cases c:0<=b\/b∣a
 .rw[if_pos c]
  omega
 .rw[if_neg c]
  have hb:b<0:=by omega
  have h3:a%b≠0:=λz=>c (.inr (Int.dvd_of_emod_eq_zero z));have h4:b.natAbs=(-b).toNat:=by omega
  omega
theorem Vo(a b:Int):di b (a.fmod b)=di a b:=by
 rw[Int.fmod_def,fm,Int.gcd_sub_mul_right_right,Int.gcd_comm]
theorem Xf(x:Int):(if x<0 then-x else x)=(x.natAbs:Int):=by
 split<;>omega
def gl:AR->Int->Int
 |[],g=>g
 |n::r,g=>gl r (di g n:Nat)
def low(ns:AR):AR:=if gl ns 0=0 then ns else ns.map (· /gl ns 0)
theorem yG:∀(ns:AR)(g:Int),0<=g->0<=gl ns g
 |[],_,h=>h
 |_::r,_,_=>yG r _ (f6 _)
theorem Ss(k:Int):∀(ns:AR)(g:Int),0<=g->gl (ns.map (k*·)) ((k.natAbs:Int)*g)=(k.natAbs:Int)*gl ns g
 |[],_,_=>rfl
 |n::r,g,h=>by
  show gl (r.map (k*·)) ((di ((k.natAbs:Int)*g) (k*n):Nat):Int)=(k.natAbs:Int)*gl r _;have e:((di ((k.natAbs:Int)*g) (k*n):Nat):Int)=(k.natAbs:Int)*((di g n:Nat):Int):=by
   rcases Int.natAbs_eq k with q |q
   .rw[<-q,f7]
    have:(k.natAbs:Int)=k:=q.symm
    push_cast
    rw[this]
   .have e2:k*n=(k.natAbs:Int)*(-n):=by rw[Int.mul_neg,<-oo,<-q]
    rw[e2,f7,Int.gcd_neg]
    push_cast
    simp
  rw[e];exact Ss k r _ (f6 _)
theorem tN(k:Int)(ns:AR):gl (ns.map (k*·)) 0=(k.natAbs:Int)*gl ns 0:=by
 have:=Ss k ns 0 (qm 0)
 rwa[ng]at this
theorem Ob{k:Int}(h:0<k)(ns:AR):gl ns 0≠0->low (ns.map (k*·))=low ns:=λz=>by
 have hk:(k.natAbs:Int)=k:=by omega
 have e:=tN k ns;rw[hk]at e;have nz:k*gl ns 0≠0:=gw (by omega) z;unfold low;rw[e,if_neg nz,if_neg z,cw];refine ee λn _=>?_;show k*n/(k*gl ns 0)=n/gl ns 0;exact Int.mul_ediv_mul_of_pos _ _ h
theorem jX:∀(ns:AR)(g:Int),gl ns g∣g/\∀n∈ns,gl ns g∣n
 |[],g=>⟨Int.dvd_refl g,λ_ h=>nomatch h⟩
 |m::r,g=>by
  obtain⟨h1,h2⟩:=jX r ((di g m:Nat):Int);refine⟨Int.dvd_trans h1 (Int.gcd_dvd_left ..),λn hn=>?_⟩;rcases cq.mp hn with q |q
  .subst q
   exact Int.dvd_trans h1 (Int.gcd_dvd_right ..)
  .exact h2 n q
theorem Be{ns:AR}(h:gl ns 0=0):∀n∈ns,n=0:=λn hn=>by
 have:=(jX ns 0).2 n hn;rw[h]at this;exact Int.zero_dvd.mp this
theorem uS{ns:AR}{n:Int}(hn:n∈ns)(h:n≠0):gl ns 0≠0:=λz=>h (Be z n hn)
theorem Zf{ns:AR}{n:Int}(hn:n∈ns)(h:n≠0):0<gl ns 0:=by
 have h1:=yG ns 0 (qm 0);have h2:=uS hn h;omega
theorem Ws{ns:AR}{n:Int}(hn:n∈ns)(h:n≠0):low ns=ns.map (· /gl ns 0):=by
 unfold low;rw[if_neg (uS hn h)]
theorem Bd.gcd{k:Nat}{a b:Int}(h:Bd k a)(g:Bd k b):Bd k (di a b:Nat):=by
 unfold Bd at *;rw[Int.natAbs_natCast];rcases d8 a.natAbs with z |z
 .have:a=0:=by omega
  subst this;rw[f8];exact g
 .exact tj (Nat.gcd_le_left _ z) h
theorem Tg{k:Nat}:∀{ns:AR}{g:Int},Bd k g->(∀n∈ns,Bd k n)->Bd k (gl ns g)
 |[],_,h,_=>h
 |n::r,g,h,hn=>by
  show Bd k (gl r _);exact Tg (ns:=r) (h.gcd (hn n bi)) λm hm=>hn m (bn _ hm)
theorem xQ{k:Nat}{ns:AR}(h:∀n∈ns,Bd k n):∀n∈low ns,Bd k n:=λn hn=>by
 unfold low at hn
 by_cases c:gl ns 0=0
 .rw[if_pos c]at hn
  exact h n hn
 .rw[if_neg c]at hn
  obtain⟨m,hm,rfl⟩:=ia.mp hn;refine(h m hm).le ?_;have d:=(jX ns 0).2 m hm;obtain⟨q,e⟩:=d;rw[e,qo _ c,tf];exact Nat.le_mul_of_pos_left _ (by omega)
theorem Oq(ns:AR):(low ns).length=ns.length:=by
 unfold low;split
 .rfl
 .rw[aj]
def fr(t b:Int):AR:=if b<0 then low [0-t,0-b] else low [t,b]
theorem uZ(a b:Int):b∈[a,b]:=bn _ bi
theorem Sr(ns:AR):gl (ns.map (-1*·)) 0=gl ns 0:=by
 have:=tN (-1) ns;simpa using this
theorem ad7{t b:Int}(h:b≠0):∃p q:Int,fr t b=[p,q]/\0<q/\p*b=t*q:=by
 have go:∀{t b:Int},0<b->∃p q:Int,low [t,b]=[p,q]/\0<q/\p*b=t*q:=λ{t b} hb=>by
  have nz:b≠0:=by omega
  have gp:=Zf (uZ t b) nz;refine⟨t/gl [t,b] 0,b/gl [t,b] 0,Ws (uZ t b) nz,?_,?_⟩
  .obtain⟨m,e⟩:=(jX [t,b] 0).2 b (uZ t b)
   have:b/gl [t,b] 0=m:=by
    conv=>lhs;lhs;rw[e]
    exact qo _ (by omega)
   rw[this];have hm:0<m*gl [t,b] 0:=by rw[fm,<-e];exact hb
   exact xi hm gp
  .obtain⟨m,e⟩:=(jX [t,b] 0).2 b (uZ t b)
   obtain⟨n,f⟩:=(jX [t,b] 0).2 t bi;have e1:b/gl [t,b] 0=m:=by
    conv=>lhs;lhs;rw[e]
    exact qo _ (by omega)
   have e2:t/gl [t,b] 0=n:=by
    conv=>lhs;lhs;rw[f]
    exact qo _ (by omega)
   rw[e1,e2]
   conv=>lhs;rhs;rw[e]
   conv=>rhs;lhs;rw[f]
   rw[Int.mul_left_comm,Int.mul_assoc]
 unfold fr
 by_cases c:b<0
 .rw[if_pos c]
  obtain⟨p,q,e1,e2,e3⟩:=go (t:=0-t) (b:=0-b) (by omega);refine⟨p,q,e1,e2,?_⟩;rw[ju,ju,Int.mul_neg,oo]at e3;omega
 .rw[if_neg c]
  exact go (by omega)
def sg(n:Int):Int:=if 0<n then 1 else if n<0 then-1 else 0
theorem O7(b:Int):-(2^64)<sg b/\sg b<2^64:=by
 unfold sg;split
 .decide
 .split<;>decide
theorem qN{g n:Int}(h:g≠0):(g*n).fdiv g=n:=by
 rw[xj ⟨n,rfl⟩,qo _ h]
theorem wY(n:Int):∀(l:AR)(g:Int),gl (l++[n]) g=(di (gl l g) n:Nat)
 |[],g=>rfl
 |m::r,g=>wY n r _
theorem adp{k:Nat}{t b p q:Int}(ht:Bd k t)(hb:Bd k b)(e:fr t b=[p,q]):Bd k p/\Bd k q:=by
 have go:∀{x y:Int},Bd k x->Bd k y->low [x,y]=[p,q]->Bd k p/\Bd k q:=λ{x y} hx hy e=>by
  have h:=xQ (k:=k) (ns:=[x,y]) λn hn=>by
   rcases cq.mp hn with z |z
   .rw[z];exact hx
   .have z':n=y:=by simpa using z
    rw[z'];exact hy
  rw[e]at h;exact⟨h p bi,h q (uZ _ _)⟩
 unfold fr at e;split at e
 .exact go (by rw[ju];exact ht.neg) (by rw[ju];exact hb.neg) e
 .exact go ht hb e
theorem Pn{k m:Int}(hk:0<k)(hm:0<m){A B:AR}(hA:gl A 0≠0)(e:A.map (k*·)=B.map (m*·)):low A=low B:=by
 have hB:gl B 0≠0:=λz=>by
  have h:=tN k A;rw[e,tN m B,z,ng]at h;have:(k.natAbs:Int)*gl A 0≠0:=gw (by omega) hA;exact this h.symm
 rw[<-Ob hk A hA,e,Ob hm B hB]
theorem Ot(b:Int):∀(ns:AR)(g:Int),gl ns (di g b:Nat)=(di (gl ns g) b:Nat)
 |[],_=>rfl
 |n::r,g=>by
  show gl r ((di ((di g b:Nat):Int) n:Nat):Int)=((di (gl r _) b:Nat):Int);rw[<-Ot b r,Int.gcd_assoc,Int.gcd_comm b n,<-Int.gcd_assoc]
theorem Jd{ns:AR}{b:Int}(hb:0<b):gl (ns++[b]) 0=gl ns b:=by
 rw[wY,<-Ot,f8];congr 1;omega
theorem lX(ns:AR)(b:Int):b∈ns++[b]:=dk _ bi
theorem acS{ns:AR}{b:Int}(hb:0<b):low (ns++[b])=(ns.map λn=>n.fdiv (gl ns b))++[b.fdiv (gl ns b)]/\0<gl ns b:=by
 have gp:=Zf (lX ns b) (by omega);rw[Jd hb]at gp;refine⟨?_,gp⟩;rw[Ws (lX ns b) (by omega),Jd hb,du];have e:∀n:Int,n/gl ns b=n.fdiv (gl ns b):=λn=>(Int.fdiv_eq_ediv_of_nonneg n (Int.le_of_lt gp)).symm;simp only[e,aw,ck]
theorem xK(ns:AR){b:Int}(hb:0<b):∃(zs:AR)(z g:Int),low (ns++[b])=zs++[z]/\0<g/\0<z/\ns=zs.map (g*·)/\b=g*z/\zs.length=ns.length:=by
 obtain⟨e,gp⟩:=acS (ns:=ns) hb;have dv:=jX (ns++[b]) 0;rw[Jd hb]at dv;have ex:∀n∈ns++[b],gl ns b*n.fdiv (gl ns b)=n:=λn hn=>by
  obtain⟨q,e⟩:=dv.2 n hn
  conv=>lhs;rhs;rw[e]
  rw[qN (by omega)];exact e.symm
 refine⟨_,_,gl ns b,e,gp,?_,?_,(ex b (lX ns b)).symm,aj _⟩
 .have h:=ex b (lX ns b)
  have:0<b.fdiv (gl ns b)*gl ns b:=by rw[fm,h];exact hb
  exact xi this gp
 .rw[cw]
  conv=>lhs;rw[<-oq ns]
  refine ee λn hn=>?_;exact(ex n (lq _ hn)).symm
theorem He(ns:AR){b:Int}(hb:0<b):low (low (ns++[b]))=low (ns++[b]):=by
 obtain⟨zs,z,g,e,hg,hz,e1,e2,_⟩:=xK ns hb;rw[e];refine Pn (k:=g) (m:=1) hg (by decide) (uS (lX zs z) (by omega)) ?_ |>.trans e;rw[du,<-e1];show ns++[g*z]=(ns++[b]).map (1*·);rw[<-e2]
 conv=>lhs;rw[<-oq (ns++[b])]
 refine ee λn _=>?_;exact(jv n).symm
def sm(xs:AR)(w:Int)(ys:AR)(v:Int):AR:=cr (λx y=>x*v+y*w) xs ys
theorem Ev{xs ys:AR}{f g:Int->Int->Int}(h:∀x y,f x y=g x y):cr f xs ys=cr g xs ys:=by
 have:f=g:=funext λx=>funext λy=>h x y;rw[this]
theorem B5(xs:AR)(w:Int)(ys:AR)(v:Int):cr (λx y=>1*x*v+y*w) xs ys=sm xs w ys v:=Ev λx y=>by rw[jv]
theorem Bz(xs:AR)(w:Int)(ys:AR)(v:Int):cr (λy x=>-1*y*w+x*v) ys xs=sm xs w (ys.map (- ·)) v:=by
 unfold sm;rw[List.zipWith_map_right,List.zipWith_comm];refine Ev λx y=>?_;rw[oo,jv];exact Int.add_comm _ _
theorem ac2{xs ys:AR}{w v:Int}(h:xs.length=ys.length):(sm xs w ys v).length=xs.length:=by
 unfold sm;rw[ka];omega
theorem Yy(xs:AR):(xs.map (- ·)).map (- ·)=xs:=by
 rw[cw]
 conv=>rhs;rw[<-oq xs]
 exact ee λx _=>Int.neg_neg x
end Bn
namespace L2
open PySem PySem.Spec PyProof.Rows Bn
section
variable{X:Cx}
theorem Yr{k:Nat}{i:Int}(h:Bd k i):f9 i<=k:=by
 unfold f9;split
 .exact gn _
 .rename_i c
  have z:i.natAbs≠0:=by
   intro q;have:i=0:=by omega
   subst this;exact c rfl
  have:=(Nat.log2_lt z).mpr h;omega
def rQ(_ j:Int):Prop:=j≠0/\Bd 8000 j
theorem Q6:eW X (binaryOp .FloorDiv) (rI rQ λi j=>.int (i.fdiv j)):=
 zI λ_ _ _ _ _ _ _ hc q=>floordiv_int hc.1 q (.inl (PyProof.noPylong_of_log2 (xk (hc.2.log (by decide)) (by decide))))
theorem PS.imp{st:Stmt}{t t':TS}(h:PS X st t)(i:∀D σ H,t' D σ H->t D σ H):PS X st t':=λBD s σ H D I q=>h BD s σ H D I (i D σ H q)
theorem gB.imp{st:List Stmt}{t t':TS}(h:gB X st t)(i:∀D σ H,t' D σ H->t D σ H):gB X st t':=λBD s σ H D I q=>h BD s σ H D I (i D σ H q)
theorem PE.imp{e:ah}{t t':TE}(h:PE X e t)(i:∀σ H Q,t' σ H Q->t σ H Q):PE X e t':=λBD s σ H Q I q=>h BD s σ H Q I (i σ H Q q)
theorem PT.imp{e:ah}{t t':TT}(h:PT X e t)(i:∀σ H Q,t' σ H Q->t σ H Q):PT X e t':=λBD s σ H Q I q=>h BD s σ H Q I (i σ H Q q)
theorem aI.turnedNew{BD:List (Addr×Obj)}{σ:St}{H:Hp}{s:aa}{h':Heap}{t':Nat}{ch:List Addr}{a:Addr}{o:HO}(I:aI X BD σ H s)(hf:∀b∈ch,fS X BD H b)
  (k:∀b u,b∉ch->s.heap.get? b=some u->h'.get? b=some u)(hp:s.heap.objs.size<=a)(new:fV X.prog X.w (aW H a o) h' a o):
  aI X BD σ (aW H a o) {s with heap:=h',toks:=t'}:=by
 have hn:H a=none:=I.hok.fresh hp;have nch:∀b u,H b=some u->b∉ch:=λb u e z=>by
  rw[(hf b z).1]at e;cases e
 have nea:∀b u,H b=some u->b≠a:=λb u e=>gD e hn;refine I.step (g':=s.gens) (d':=s.drawn) (ch:=ch) (λb hb=>?_) (λb u _ _ hc e _=>k b u hc e) (λb u _ _ hc e _=>⟨u.slots,k b u hc e⟩) (λb u _ e n=>?_)
  (λb u hc e=>⟨u,k b u hc e⟩) (λb xs e=>?_) (λb u v e=>?_) (λb ps e=>⟨#[],?_⟩) (λm hm=>?_) (λb u e=>?_) I.bare
 .obtain⟨_,f1,_,f3,f4,f5⟩:=hf b hb
  exact⟨f3,f1,f4,f5⟩
 .rw[bT (de (dm (bj e) hp))]
  exact n
 .rw[bT (nea b _ e)]
  exact e
 .rw[bT (nea b _ e)]
  exact e
 .rw[bT (nea b _ e),e]
  simp
 .obtain⟨ob,es,ep,ho,r⟩:=hm
  exact⟨ob,es,ep,k _ ob (λz=>(hf _ z).2.1 rfl) ho,r⟩
 .by_cases hb:b=a
  .subst hb
   rw[fH]at e;cases e;exact new
  .rw[bT hb]at e
   refine(I.hok b u e).stay (λc v hc q=>k c v ?_ q) (λc q=>?_) λc xs q=>?_
   .rcases hc with z |z
    .rw[z]
     exact nch b u e
    .exact nch c _ z
   .rw[bT (nea c _ q)]
    exact q
   .rw[bT (nea c _ q)]
    exact q
theorem aI.turnedL{BD:List (Addr×Obj)}{σ:St}{H:Hp}{s:aa}{h':Heap}{t':Nat}{ch:List Addr}(I:aI X BD σ H s)(hf:∀b∈ch,fS X BD H b)
  (k:∀b u,b∉ch->s.heap.get? b=some u->h'.get? b=some u):aI X BD σ H {s with heap:=h',toks:=t'}:=by
 have nch:∀b u,H b=some u->b∉ch:=λb u e z=>by
  rw[(hf b z).1]at e;cases e
 refine I.step (g':=s.gens) (d':=s.drawn) (ch:=ch) (λb hb=>?_) (λb u _ _ hc e _=>k b u hc e) (λb u _ _ hc e _=>⟨u.slots,k b u hc e⟩) (λb u _ e n=>n)
  (λb u hc e=>⟨u,k b u hc e⟩) (λb xs e=>e) (λb u v e=>e) (λb ps e=>⟨#[],?_⟩) (λm hm=>?_) (λb u e=>?_) I.bare
 .obtain⟨_,f1,_,f3,f4,f5⟩:=hf b hb
  exact⟨f3,f1,f4,f5⟩
 .rw[e]
  simp
 .obtain⟨ob,es,ep,ho,r⟩:=hm
  exact⟨ob,es,ep,k _ ob (λz=>(hf _ z).2.1 rfl) ho,r⟩
 .refine(I.hok b u e).stay (λc v hc q=>k c v ?_ q) (λc q=>q) λc xs q=>q
  rcases hc with z |z
  .rw[z]
   exact nch b u e
  .exact nch c _ z
end
def Ai (K : ag) (a : Addr) : It :=
  ⟨λi H => ∃ xs x, cK K H a xs ∧ xs[i]? = some x,
   λi H x H' => ∃ p y, H p = none ∧ x = .ref p ∧ H' = aW H p (.tup [.int i, y]) ∧ ∀ xs, cK K H a xs → xs[i]? = some y,
   λi H => ∃ xs, cK K H a xs ∧ xs.length ≤ i⟩
theorem E1{P:Program}{w:aq}{K:ag}{elts:List ah}{x1:Nat}{tp:ai}(a e it:Addr)(hne:e≠it):
  rZ P w K (.Tuple elts x1 tp) (Ai K a) [e,it] e (λi h=>(∃old,IsEnum h e it (i:Int) old)/\h.IsListIter it a i) where
 mem:=by simp
 obj:=λi h st b hb=>by
  obtain⟨⟨old,q⟩,o,e1,c,d⟩:=st;rcases cq.mp hb with z |z
  .subst z
   exact⟨_,q,λv z=>nomatch z⟩
  .have z':b=it:=by simpa using z
   subst z';exact⟨o,e1,λv z=>by rw[d]at z;cases z⟩
 keep:=λi h h' st k=>⟨let⟨old,q⟩:=st.1;⟨old,k e (by simp) _ q⟩,st.2.at λo q=>k it (by simp) o q⟩
 item:=by
  intro X hP hw hK hc i BD s σ H E I hf st hg;subst hP hw hK;obtain⟨xs,x,hq,hx⟩:=hg;obtain⟨its,rv,pl,hz⟩:=I.list hq;obtain⟨u,hu,ru⟩:=rv.get hx;obtain⟨⟨old,he⟩,hit⟩:=st;refine wpAny_pyNext_enum_item he hit pl.isList (x:=u) (by simpa using hu) hne λh1 ho1 hit1 ht1 hs1 hk1=>⟨_,rfl,?_⟩;have lt1:e<s.heap.objs.size:=bj he;refine wpAny_letOwnedTupleGo_enum (s:={s with heap:=h1,toks:=s.toks+1}) ho1 λh2 he2 sb2=>?_;have ht2:h2.get? s.heap.objs.size=some {cls:=.type "tuple",data:=.seq #[.int i s.toks,u]}:=(sb2.2 _ (og lt1)).trans ht1;have I2:aI X BD σ (aW H s.heap.objs.size (.tup [.int i,x])) {s with heap:=h2,toks:=s.toks+1}:=
   I.turnedNew hf (λb o hb q=>(sb2.2 b (λz=>hb (by simp[z]))).trans (hk1 b o (λz=>hb (by simp[z])) (λz=>hb (by simp[z])) q)) (ak _)
    ⟨by show 2<=sizeLine;decide,[.int i s.toks,u],.cons ⟨_,rfl⟩ (.cons ru .nil),⟨_,ht2,rfl,_,rfl⟩⟩
  refine⟨.ref s.heap.objs.size,_,I2,rfl,⟨_,x,I.hok.fresh (ak _),rfl,rfl,λys hy=>by rw[I.list_inj hy hq];exact hx⟩,⟨⟨_,by simpa using he2⟩,hit1.at λo q=>(sb2.2 it hne.symm).trans q⟩,λb hb=>?_⟩;have hb':=(hf b hb).1;have lt:b≠s.heap.objs.size:=by
   rcases cq.mp hb with z |z
   .subst z
    exact de lt1
   .have z':b=it:=by simpa using z
    subst z';obtain⟨o,q,_⟩:=hit;exact de (bj q)
  rw[bT lt];exact hb'
 done:=by
  intro X hP hw hK hc i BD s σ H E I hf st hg;subst hP hw hK;obtain⟨xs,hq,hx⟩:=hg;obtain⟨its,rv,pl,hz⟩:=I.list hq;obtain⟨⟨old,he⟩,hit⟩:=st;have hl:=rv.length;exact wpAny_pyNext_enum_end (I.ok.hd hc) he hit pl.isList (by simp;omega) λh' eb=>⟨rfl,I.turnedL (t':=s.toks) hf λb o hb q=>eb b o (λz=>hb (by simp[z])) q⟩
 self:=λ_ _ _ _ _ st h=>let⟨_,q⟩:=st.1;wpAny_pyIter_enum q h
section
variable{X:Cx}{elts:List ah}{x1:Nat}{tp:ai}
def aeh(K:ag)(tl:TA):TI:=λσ H R=>tl σ H λvs H1=>∃a,vs=[.ref a]/\(∃xs,cK K H1 a xs)/\R (Ai K a) H1
theorem aaQ{l:ah}{tl:TA}{p pos:ai}(hg:Gl X "enumerate")(hm:X.mg "enumerate"=none)(hl:PA X [l] tl)(hs:starEach [l] X.env=[(false,eval l X.env)]:=by rfl):
  PI X (.Tuple elts x1 tp) (.Call (.Name "enumerate" p) [l] [] pos) (aeh X.K tl):=by
 intro BD s σ H R I h;refine Call_ (pM I hg hm boot_enumerate (qh (bK (hl pos BD s σ H _ I h) λus s1 hq=>?_) hs rfl));rcases hq with⟨vs,H1,I1,r1,q1⟩;obtain⟨a,rfl,⟨xs,hq⟩,q⟩:=q1;obtain⟨u,rfl,ru⟩:=kL r1;cases ru;obtain⟨its,rv,pl,hz⟩:=I1.list hq;refine call_enumerate_list pl.isList λh' he hit hsz k=>?_;have I2:aI X BD σ H1 {s1 with heap:=h'}:=I1.kept (t':=s1.toks) k;refine wpAny_pyIter_enum (s:={s1 with heap:=h'}) he ?_;refine⟨s1.heap.objs.size+1,[s1.heap.objs.size+1,s1.heap.objs.size],_,_,H1,rfl,I2,E1 a _ _ (Nat.succ_ne_self _),⟨⟨_,he⟩,hit⟩,λb hb=>?_,q⟩;have hb':s1.heap.objs.size<=b:=by
  rcases cq.mp hb with z |z
  .rw[z]
   exact my _
  .have z':b=s1.heap.objs.size:=by simpa using z
   rw[z'];exact ak _
 exact I1.fpOk hb' (I1.hok.fresh hb')
end
def gJ(env:bh):List (Str×gi)->List (Str×Addr)->List (Str×Addr)
 |[],acc=>acc
 |p::r,acc=>if(p.2== .free)=true then gJ env r ((p.1,(env.cells.lookup p.1).getD 0)::acc)else gJ env r acc
theorem Pe{sc:Scope}{env:bh}(h:∀p∈sc.names,p.2=.free->∃c,env.cells.lookup p.1=some c):closureFor sc env=pure (gJ env sc.names []):=by
 unfold closureFor;have go:∀(l:List (Str×gi))(acc:List (Str×Addr)),(∀p∈l,p.2=.free->∃c,env.cells.lookup p.1=some c)->
   (forIn l acc (λx r=>if(x.2==gr)=true then do let a <-cellOf env x.1;pure (xl ((x.1,a)::r))else pure (xl r)):Sem _)=pure (gJ env l acc):=by
  intro l
  induction l with
  |nil=>intro acc _;rfl
  |cons p r ih=>
   intro acc hp;rw[tm];have hr:=λacc'=>ih acc' λq hq=>hp q (bn _ hq)
   by_cases c:(p.2==gr)=true
   .obtain⟨a,ea⟩:=hp p bi (by simpa using c)
    have e1:cellOf env p.1=pure a:=by unfold cellOf;rw[ea]
    rw[if_pos c,e1];simp only[pure_bind];rw[hr];show _=pure (if(p.2== .free)=true then _ else _);rw[if_pos c,ea];rfl
   .rw[if_neg c]
    simp only[pure_bind];rw[hr];show _=pure (if(p.2== .free)=true then _ else _);rw[if_neg c]
 have e:=go sc.names [] h;show(forIn sc.names [] _ >>= λr=>pure r)=_;rw[bind_pure];exact e
theorem wC{env:bh}:∀(l:List (Str×gi))(acc:List (Str×Addr)),(∀p∈l,p.2=.free->∃c,env.cells.lookup p.1=some c)->
  ∀y c,(gJ env l acc).lookup y=some c->acc.lookup y=some c\/env.cells.lookup y=some c
 |[],acc,_,y,c,e=>.inl e
 |p::r,acc,h,y,c,e=>by
  have hr:∀q∈r,q.2=.free->∃c,env.cells.lookup q.1=some c:=λq hq=>h q (bn _ hq);unfold gJ at e
  by_cases k:(p.2==gr)=true
  .rw[if_pos k]at e
   obtain⟨a,ea⟩:=h p bi (by simpa using k);rcases wC r _ hr y c e with z |z
   .rw[eh]at z
    cases w:y==p.1 with
    |true=>
     rw[w,ea]at z;have hy:y=p.1:=by simpa using w
     rw[hy,ea];exact .inr z
    |false=>
     rw[w]at z;exact .inl z
   .exact .inr z
  .rw[if_neg k]at e
   exact wC r acc hr y c e
theorem qP{env:bh}:∀(l:List (Str×gi))(acc:List (Str×Addr))(y:Str),((∃c,acc.lookup y=some c)\/(y,gr)∈l)->∃c,(gJ env l acc).lookup y=some c
 |[],acc,y,h=>by
  rcases h with h |h
  .exact h
  .cases h
 |p::r,acc,y,h=>by
  unfold gJ
  by_cases k:(p.2==gr)=true
  .rw[if_pos k]
   refine qP r _ y ?_;cases w:y==p.1 with
   |true=>exact .inl ⟨_,by rw[eh,w]⟩
   |false=>
    rcases h with⟨c,h⟩|h
    .exact .inl ⟨c,by rw[eh,w];exact h⟩
    .rcases cq.mp h with z |z
     .rw[<-z]at w
      simp at w
     .exact .inr z
  .rw[if_neg k]
   refine qP r _ y ?_;rcases h with h |h
   .exact .inl h
   .rcases cq.mp h with z |z
    .rw[<-z]at k
     simp at k
    .exact .inr z
theorem Xi{env:bh}:∀{names:List (Str×gi)}{x:Str},(∀y∈names,y.2≠.cell)->
  (let l:=(names.map λ(n,k)=>if(k==gr&&env.scope.kind== .function&&env.kindOf n==some .cell)then(n,fz)else(n,k)).lookup x;l=some .cell\/l=some .free)->(x,gr)∈names
 |[],x,_,h=>by
  rcases h with h |h<;>cases h
 |(n,k)::r,x,hc,h=>by
  dsimp only at h;rw[aw]at h;have ih:=@Xi env r x λy hy=>hc y (bn _ hy);have nk:k≠.cell:=hc (n,k) bi
  by_cases c:(k==gr&&env.scope.kind== .function&&env.kindOf n==some .cell)=true
  .have kf:k=.free:=by
    simp only[ji,beq_iff_eq]at c;exact c.1.1
   dsimp only at h;rw[if_pos c,eh]at h;cases w:x==n with
   |true=>
    have hx:x=n:=by simpa using w
    rw[hx,<-kf];exact bi
   |false=>
    rw[w]at h;exact bn _ (ih h)
  .dsimp only at h
   rw[if_neg c,eh]at h;cases w:x==n with
   |true=>
    rw[w]at h;have hx:x=n:=by simpa using w
    have kf:k=.free:=by
     rcases h with h |h
     .exact absurd (ce h) nk
     .exact ce h
    rw[hx,<-kf];exact bi
   |false=>
    rw[w]at h;exact bn _ (ih h)
def eQ(X:Cx)(sc:Scope)(N:List Str)(C:Addr)(BE:aa)(BF:Hp)(ex:List Addr):Cx where
 prog:=X.prog
 w:=X.w
 K:=X.K
 mg:=X.mg
 base:=X.base
 A:=X.A
 N:=N
 BE:=BE
 BF:=BF
 env:=compEnvC sc (gJ X.env sc.names []) C X.env
 outer:=X.stack
 stack:=X.stack
 ex:=ex
 fn:=λ_=>false
 calm:=X.calm
 pn:=[]
 xe:=λ_ _=>False
def iY(own:List Str)(cap:List (Nat×Str))(σ:St):St:=own.map (λ_=>none)++cap.map λp=>(σ[p.1]?).join
def cR(own:List Str)(cap:List (Nat×Str)):List Str:=own++cap.map (·.2)
def yX(J:It)(g:TG)(te:TE)(BH:St)(H1:Hp)(D:Addr)(Q:VK):Prop:=
 ∃W:Nat->Nat->St->Hp->List V->Prop,(∃m,W 0 m BH (aW H1 D (.lst [])) [])/\∀i m σ H ys,W i m σ H ys->H D=some (.lst ys)/\
  ((J.stop i H/\Q (.ref D) H)\/(J.go i H/\ys.length<sizeLine/\∀x H2,J.yld i H x H2->g x σ H2 λσ3 H3=>te σ3 H3 λy H4=>H4 D=some (.lst ys)/\∃m',m'<m/\W (i+1) m' σ3 (aW H4 D (.lst (ys++[y]))) (ys++[y])))
def uT(own:List Str)(cap:List (Nat×Str))(wi:TI)(g:TG)(te:TE):TE:=λσ H Q=>wi σ H λJ H1=>∀D,H1 D=none->yX J g te (iY own cap σ) H1 D Q
def Nx(n:Nat)(Pv:Nat->St->Hp->List V->Prop)(D:Addr)(i:Nat)(ys:List V)(σ:St)(y:V)(H:Hp):Prop:=
 H D=some (.lst ys)/\∃m,m<n-i/\(m=n-(i+1)/\i+1<=n/\Pv (i+1) σ (aW H D (.lst (ys++[y]))) (ys++[y]))
theorem aew{n:Nat}{Pv:Nat->St->Hp->List V->Prop}{D:Addr}{i:Nat}{ys:List V}{σ:St}{y:V}{H:Hp}(h:i<n)(hD:H D=some (.lst ys))(p:Pv (i+1) σ (aW H D (.lst (ys++[y]))) (ys++[y])):Nx n Pv D i ys σ y H:=
 ⟨hD,n-(i+1),by omega,rfl,h,p⟩
theorem abz{J:It}{g:TG}{te:TE}{BH:St}{H1:Hp}{D:Addr}{Q:VK}(n:Nat)(hn:n<=sizeLine)(Pv:Nat->St->Hp->List V->Prop)(h0:Pv 0 BH (aW H1 D (.lst [])) [])
  (hl:∀i σ H ys,Pv i σ H ys->ys.length=i/\H D=some (.lst ys))(hgo:∀i σ H ys,i<n->Pv i σ H ys->J.go i H)
  (hs:∀i σ H ys x H2,i<n->Pv i σ H ys->J.yld i H x H2->g x σ H2 λσ3 H3=>te σ3 H3 λy H4=>Nx n Pv D i ys σ3 y H4)
  (hd:∀σ H ys,Pv n σ H ys->J.stop n H/\Q (.ref D) H):yX J g te BH H1 D Q:=by
 refine⟨λi m σ H ys=>m=n-i/\i<=n/\Pv i σ H ys,⟨n,rfl,gn _,h0⟩,?_⟩
 rintro i m σ H ys ⟨rfl,hi,p⟩
 obtain⟨l1,l2⟩:=hl i σ H ys p;refine⟨l2,?_⟩
 by_cases hlt:i<n
 .exact .inr ⟨hgo i σ H ys hlt p,by omega,λx H2 y=>hs i σ H ys x H2 hlt p y⟩
 .have e:i=n:=by omega
  subst e;exact .inl (hd σ H ys p)
section
variable{prog:Program}{w:aq}{A:au}{R:qj->aa->Prop}{s:aa}
theorem Sl{elt target iter:ah}{sc:Scope}{pos:ai}{it acc:Value}{env:bh}(I:Nat->aa->Prop)
  (turn:∀n s,I n s->wpAny (model prog w) A (pyNext it) (λr s1=>match r with
   |none=>R (.ok .next) s1
   |some v=>wpAny (model prog w) A (letOwnedTupleGo target it v) (λ_ s2=>wpAny (model prog w) A (assign target env v) (λ_ s3=>wpAny (model prog w) A (eval elt env)
     (λx s4=>wpAny (model prog w) A (call (.builtin "list.append") [acc,x]) (λ_ s5=>∃m,m<n/\I m s5) (λ_ _=>False) s4) (λ_ _=>False) s3) (λ_ _=>False) s2) (λ_ _=>False) s1) (λ_ _=>False) s)
  (n:Nat)(h:I n s):codeAny (model prog w) A (.compLoop (.ListComp elt [⟨target,iter,[],0⟩] sc pos) 0 it acc env) R s:=by
 refine codeAny_loop rfl I (λn s hI=>?_) n h;show wpAny _ _ ((compTurn (.ListComp elt [⟨target,iter,[],0⟩] sc pos) 0 it acc env).onRaise (λx=>do noteFrame x env;theTreesLotGoes x)) _ _ s;refine wpAny_noted ?_;rw[compTurn_list1];refine ae (qd (ae ?_));refine gh (turn n s hI) (λr s1 h1=>?_) λ_ _ z=>z.elim;cases r with
 |none=>exact ao h1
 |some v=>
  refine ae (gh h1 (λ_ s2 h2=>?_) λ_ _ z=>z.elim);refine ae (gh h2 (λ_ s3 h3=>?_) λ_ _ z=>z.elim);refine ae (ae (gh h3 (λx s4 h4=>?_) λ_ _ z=>z.elim));refine ae (gh h4 (λ_ s5 h5=>?_) λ_ _ z=>z.elim);exact ao (ao ⟨rfl,h5⟩)
end
structure iA(X:Cx)(sc:Scope)(own:List Str)(cap:List (Nat×Str)):Prop where
 kind:sc.kind=.function
 names:∀y∈sc.names,y.2=.local->sc.names.lookup y.1=some .local
 nocell:∀y∈sc.names,y.2≠.cell
 free:∀y∈sc.names,y.2=.free->X.env.kindOf y.1=some .cell
 at':∀p∈cap,X.N[p.1]?=some p.2
 cap:∀p∈cap,sc.names.lookup p.2=some .free
section
variable{X:Cx}{sc:Scope}{own:List Str}{cap:List (Nat×Str)}{BD:List (Addr×Obj)}{σ:St}{H:Hp}{s:aa}
theorem iA.has(k:iA X sc own cap)(ok:X.Ok):∀p∈sc.names,p.2=.free->∃c,X.env.cells.lookup p.1=some c:=λp hp e=>ok.has p.1 (.inl (k.free p hp e))
theorem sV{env:bh}:∀{names:List (Str×gi)}{x:Str},env.scope.kind=.function->names.lookup x=some .free->env.kindOf x=some .cell->
  (names.map λ(n,k)=>if(k==gr&&env.scope.kind== .function&&env.kindOf n==some .cell)then(n,fz)else(n,k)).lookup x=some .cell
 |[],x,_,h,_=>by cases h
 |(n,k)::r,x,hk,h,hx=>by
  rw[aw];dsimp only;rw[eh]at h;cases w:x==n with
  |true=>
   rw[w]at h;have e:x=n:=by simpa using w
   have kf:k=.free:=ce h;have c:(k==gr&&env.scope.kind== .function&&env.kindOf n==some .cell)=true:=by
    rw[kf,hk,<-e,hx];decide
   rw[if_pos c,eh,w]
  |false=>
   rw[w]at h;have ih:=@sV env r x hk h hx
   by_cases c:(k==gr&&env.scope.kind== .function&&env.kindOf n==some .cell)=true
   .rw[if_pos c,eh,w]
    exact ih
   .rw[if_neg c,eh,w]
    exact ih
theorem aI.cmp(k:iA X sc own cap){h4:Heap}{fp:List Addr}{m:Str->AW}{t':Nat}(I:aI X BD σ H s)(hf:∀b∈fp,fS X BD H b)(hlt:∀b∈fp,b<s.heap.objs.size)(hns:h4.Ns s.heap.objs.size m)
  (kp:∀b o,s.heap.get? b=some o->h4.get? b=some o):aI (eQ X sc (cR own cap) s.heap.objs.size s H fp) [] (iY own cap σ) H {s with heap:=h4,toks:=t'}:=by
 have hcl:∀y c,(gJ X.env sc.names []).lookup y=some c->X.env.cells.lookup y=some c:=λy c e=>by
  rcases wC sc.names [] (k.has I.ok) y c e with z |z
  .cases z
  .exact z
 have nst:∀b∈fp,b∉fF X.stack:=λb hb z=>by
  rcases cq.mp (I.stkSub b z)with e |e
  .exact(hf b hb).2.1 e
  .exact(hf b hb).2.2.1 e
 refine⟨⟨I.ok.mod,k.kind,I.ok.glob,I.ok.blt,ak _,λx y c h1 h2=>I.ok.inj x y c (hcl x c h1) (hcl y c h2),λx hx=>?_,λx c e=>(nomatch e),I.ok.hd,I.ok.frames,.inl rfl,λb hb=>⟨de (hlt b hb),λx c e=>(hf b hb).2.2.2.2.1 x c (hcl x c e)⟩,
  I.bs,ft I.ok.bsz I.sz,λb o e hb=>?_,nst,I.stack,I.stkFree⟩,rfl,I.bare,Un.kept kp,⟨m,hns,λi x v h1 h2 h3=>?_⟩,λx c e=>?_,I.hok.fresh (ak _),λx c e=>I.freeC x c (hcl x c e),λp hp=>absurd (show p∈([]:List (Addr×Obj)) from hp) (by simp),I.hok.kept kp,?_⟩
 .exact qP sc.names [] x (.inr (Xi k.nocell hx))
 .rcases(hf b hb).2.2.2.1 with z |z
  .exact I.ok.noex b o e z
  .exact absurd (dm (bj (I.ok.bs b o e).1) z) (je _)
 .have hN:(cR own cap)[i]?=some x:=h1
  unfold cR at hN;unfold iY at h2
  by_cases hi:i<own.length
  .rw[fx (by simpa using hi),bo]at h2
   cases e:own[i]? with
   |none=>rw[e]at h2;cases h2
   |some z=>rw[e]at h2;cases h2
  .rw[dz (by simpa using hi),bo,aj]at h2
   rw[dz (by omega),bo]at hN;cases e:cap[i-own.length]? with
   |none=>rw[e]at h2;cases h2
   |some p=>
    rw[e]at h2 hN;have hp:p∈cap:=dg e;have hx:p.2=x:=ce hN;have hv:(σ[p.1]?).join=some v:=ce h2;have hv':σ[p.1]?=some (some v):=by
     cases e2:σ[p.1]? with
     |none=>rw[e2]at hv;cases hv
     |some z=>rw[e2]at hv;exact congrArg some hv
    have fr:=k.cap p hp;have kc:X.env.kindOf p.2=some .cell:=k.free (p.2,.free) (jy fr) rfl;obtain⟨m0,_,hl⟩:=I.loc;obtain⟨u,ru,lk⟩:=hl p.1 p.2 v (k.at' p hp) hv' (.inr (.inl kc));refine⟨u,ru,?_⟩;rcases lk with⟨k1,_⟩|⟨_,c,ec,cell⟩
    .rw[kc]at k1
     cases k1
    .rw[<-hx]
     obtain⟨c',ec'⟩:=qP (env:=X.env) sc.names [] p.2 (.inr (jy fr));have:=(hcl _ _ ec').symm.trans ec;cases this;obtain⟨o,ho,hd⟩:=cell;exact .inr ⟨.inl (sV I.ok.kind fr kc),c,ec',o,kp c o ho,hd⟩
 .obtain⟨v,o,ho,hd⟩:=I.cell x c (hcl x c e)
  exact⟨v,o,kp c o ho,hd⟩
 .unfold iY
  show _=(cR own cap).length;unfold cR;rw[av,av,aj,aj,aj]
theorem aI.uncmp{s3 s':aa}{H3 H':Hp}{N:List Str}{σ':St}{C:Addr}{fp:List Addr}{pl:List (Addr×Obj)}(I:aI X BD σ H s)(hf:∀b∈fp,fS X BD H b)(u:Un (fF X.stack) fp H H3 s.heap s3.heap)(os:s3.os=s.os)
  (J:aI (eQ X sc N C s3 H3 fp) pl σ' H' s'):aI X BD σ H' s':=by
 have os':s'.os=s.os:=(show s'.os=s3.os from J.os).trans os;refine I.call' (ch:=fp) os' (u.trans J.base) J.hok J.bare λb hb=>?_;obtain⟨_,f1,_,f3,f4,f5⟩:=hf b hb;exact⟨f3,f1,f4,f5⟩
end
section
variable{X:Cx}{sc:Scope}{own:List Str}{cap:List (Nat×Str)}{BD:List (Addr×Obj)}{σ:St}{H:Hp}{s:aa}{elt target iter:ah}{pos pos':ai}{wi:TI}{g:TG}{te:TE}{Q:VK}
theorem Um{use:Option (Value->Sem Unit)}{Qf:Value->aa->Prop}(k:iA X sc own cap)(hi:PI X target iter wi)(hc:X.calm=true)
  (hg:∀C BE BF ex,PG (eQ X sc (cR own cap) C BE BF ex) target g)(he:∀C BE BF ex,PE (eQ X sc (cR own cap) C BE BF ex) elt te)(I:aI X BD σ H s)(h:uT own cap wi g te σ H Q)
  (fin:∀D C s' H' m,aI X BD σ H' s'->fS X BD H' C->s'.heap.Ns C m->Q (.ref D) H'->compPost (model X.prog X.w) X.A X.xe use Qf (.ref D) C (.ok .next) s')
  (hs:∀x,foldedSetIterable iter X.env x=pure x):
  wpAny (model X.prog X.w) X.A (comprehension (.ListComp elt [⟨target,iter,[],0⟩] sc pos) sc X.env pos' (newList []) false (eval iter X.env) use) Qf X.xe s:=by
 refine xn (use:=use) rfl hs (Pe (k.has I.ok)) k.kind k.names ?_;refine bK (hi BD s σ H _ I h) λv s1 h1=>bK h1 λitv s2 h2=>?_;obtain⟨it,fp,tn,J,H2,e,I2,T,st2,f2,hW⟩:=h2;subst e;refine iu (g7 k.nocell (λy hy=>nomatch hy) (λh4 hns hsb=>?_) k.kind);have I3:aI X BD σ (aW H2 s2.heap.objs.size (.lst [])) {s2 with heap:=s2.heap.push {cls:=.type "list",data:=.seq ([]:AU).toArray},toks:=s2.toks}:=I2.lnew (ys:=[]) (its:=[]) .nil (gn _);have hD:H2 s2.heap.objs.size=none:=I2.fresh;have ltf:∀b∈fp,b<s2.heap.objs.size:=λb hb=>by
  obtain⟨o,ho,_⟩:=T.obj _ _ st2 b hb;exact bj ho
 have f3:∀b∈fp,fS X BD (aW H2 s2.heap.objs.size (.lst [])) b:=λb hb=>⟨by rw[bT (de (ltf b hb))];exact(f2 b hb).1,(f2 b hb).2⟩;have un:Un (fF X.stack) fp H2 (aW H2 s2.heap.objs.size (.lst [])) s2.heap (s2.heap.push {cls:=.type "list",data:=.seq ([]:AU).toArray}):=Un.laid (λb u q=>ay _ q) (ak _) hD;have kp:∀b o,(s2.heap.push {cls:=.type "list",data:=.seq ([]:AU).toArray}).get? b=some o->h4.get? b=some o:=λb o q=>hsb.extBut b o (de (bj q)) (ay _ q);have J0:=I3.cmp (t':=s2.toks+([]:List (Str×Value)).length) k f3 (λb hb=>dm (ltf b hb) (by rw[jp];exact my _)) hns kp;have stat:∀{H':Hp},(∀b∈fp,H' b=none)->∀b∈fp,fS (eQ X sc (cR own cap) (s2.heap.push {cls:=.type "list",data:=.seq ([]:AU).toArray}).objs.size {s2 with heap:=s2.heap.push {cls:=.type "list",data:=.seq ([]:AU).toArray},toks:=s2.toks} (aW H2 s2.heap.objs.size (.lst [])) fp) [] H' b:=λhn b hb=>
  ⟨hn b hb,(J0.ok.exf b hb).1,J0.ok.exfs b hb,.inl hb,(J0.ok.exf b hb).2,λp hp=>absurd (show p∈([]:List (Addr×Obj)) from hp) (by simp)⟩
 have st4:tn 0 h4:=T.keep _ _ _ st2 λb hb o q=>kp b o (ay _ q);have fr0:∀b∈fp,(aW H2 s2.heap.objs.size (.lst [])) b=none:=λb hb=>(f3 b hb).1;have loop:codeAny (model X.prog X.w) X.A (.compLoop (.ListComp elt [⟨target,iter,[],0⟩] sc pos) 0 (.ref it) (.ref s2.heap.objs.size) (compEnvC sc (gJ X.env sc.names []) (s2.heap.push {cls:=.type "list",data:=.seq ([]:AU).toArray}).objs.size X.env))
   (compPost (model X.prog X.w) X.A X.xe use Qf (.ref s2.heap.objs.size) (s2.heap.push {cls:=.type "list",data:=.seq ([]:AU).toArray}).objs.size) {s2 with heap:=h4,toks:=s2.toks+([]:List (Str×Value)).length}:=by
  obtain⟨W,⟨m0,w0⟩,turn⟩:=hW s2.heap.objs.size hD;refine Sl (λn s'=>∃i σ' H' ys,aI (eQ X sc (cR own cap) (s2.heap.push {cls:=.type "list",data:=.seq ([]:AU).toArray}).objs.size {s2 with heap:=s2.heap.push {cls:=.type "list",data:=.seq ([]:AU).toArray},toks:=s2.toks} (aW H2 s2.heap.objs.size (.lst [])) fp) [] σ' H' s'/\tn i s'.heap/\(∀b∈fp,H' b=none)/\W i n σ' H' ys) ?_ m0
   ⟨0,_,_,[],J0,st4,fr0,w0⟩
  rintro n s5 ⟨i,σ5,H5,ys,I5,st5,fr5,w5⟩
  obtain⟨hD5,w5⟩:=turn i n σ5 H5 ys w5;rcases w5 with⟨stop,qn⟩|⟨go,hlt,step⟩
  .refine bK (T.done (eQ X sc (cR own cap) (s2.heap.push {cls:=.type "list",data:=.seq ([]:AU).toArray}).objs.size {s2 with heap:=s2.heap.push {cls:=.type "list",data:=.seq ([]:AU).toArray},toks:=s2.toks} (aW H2 s2.heap.objs.size (.lst [])) fp) rfl rfl rfl hc i [] s5 σ5 H5 _ I5 (stat fr5) st5 stop) ?_
   rintro r s6 ⟨hr,I6⟩
   subst hr;obtain⟨m,hn,_⟩:=id I6.loc;exact fin _ _ s6 H5 m (I2.uncmp (s3:={s2 with heap:=s2.heap.push {cls:=.type "list",data:=.seq ([]:AU).toArray},toks:=s2.toks}) f2 un rfl I6) (I3.fpOk (ak _) I6.free) hn qn
  .refine bK (T.item (eQ X sc (cR own cap) (s2.heap.push {cls:=.type "list",data:=.seq ([]:AU).toArray}).objs.size {s2 with heap:=s2.heap.push {cls:=.type "list",data:=.seq ([]:AU).toArray},toks:=s2.toks} (aW H2 s2.heap.objs.size (.lst [])) fp) rfl rfl rfl hc i [] s5 σ5 H5 _ I5 (stat fr5) st5 go) ?_
   rintro r s6 ⟨u,hr,h6⟩
   subst hr;refine bK h6 ?_
   rintro _ s7 ⟨x,H7,I7,r7,y7,st7,fr7⟩
   have I7':=I7.pinned (stat fr7) (T.obj _ _ st7);refine bK (hg _ _ _ _ _ s7 σ5 H7 x u _ I7' r7 (step x H7 y7)) ?_
   rintro _ s8 ⟨σ8,H8,I8,q8⟩
   refine bK (he _ _ _ _ _ s8 σ8 H8 _ I8 q8) ?_
   rintro v9 s9 ⟨y,H9,I9,r9,hD9,m',hm,w9⟩
   refine bK (tD _ s9 σ8 H9 (.ref s2.heap.objs.size) [y] (.ref s2.heap.objs.size) [v9] (λ_ H'=>H'=aW H9 s2.heap.objs.size (.lst (ys++[y]))) I9 rfl (.cons r9 .nil) ⟨_,ys,y,rfl,rfl,hD9,hlt,rfl⟩) ?_
   rintro _ s10 ⟨_,H10,I10,_,q10⟩
   subst q10;refine⟨m',hm,i+1,σ8,_,_,I10.unpinned,T.keep _ _ _ st7 λb hb o q=>(I10.pin (b,o) (dk _ (dk _ (lV hb q)))).1,λb hb=>?_,w9⟩;obtain⟨o,q,d⟩:=T.obj _ _ st7 b hb;exact(I10.pin (b,o) (dk _ (dk _ (lV hb q)))).2.1
 exact xo loop (T.self _ 0 _ _ _ st4 loop)
theorem abi(k:iA X sc own cap)(hi:PI X target iter wi)(hc:X.calm=true)
  (hg:∀C BE BF ex,PG (eQ X sc (cR own cap) C BE BF ex) target g)(he:∀C BE BF ex,PE (eQ X sc (cR own cap) C BE BF ex) elt te)
  (hs:∀x,foldedSetIterable iter X.env x=pure x:=by intro _;rfl):PE X (.ListComp elt [⟨target,iter,[],0⟩] sc pos) (uT own cap wi g te):=by
 intro BD s σ H Q I h;rw[xp];refine Um (use:=none) k hi hc hg he I h (λD C s' H' m I' fC hn q=>?_) hs;refine⟨m,hn,λh' sb=>⟨.ref D,H',?_,rfl,q⟩⟩;obtain⟨f0,f1,f2,f3,f4,f5⟩:=fC;exact I'.turned (t':=s'.toks) (λb o hb e=>(sb.2 b hb).trans e) f0 f1 f3 f4 f5
theorem aby{i:Nat}{x:Str}{py spos:ai}(hN:X.N.Nodup)(hx:X.N[i]?=some x)(hl:nM X.env.scope x)(k:iA X sc own cap)(hi:PI X target iter wi)(hc:X.calm=true)
  (hg:∀C BE BF ex,PG (eQ X sc (cR own cap) C BE BF ex) target g)(he:∀C BE BF ex,PE (eQ X sc (cR own cap) C BE BF ex) elt te)
  (hs:∀x,foldedSetIterable iter X.env x=pure x:=by intro _;rfl)(hsw:swapsWith (.ListComp elt [⟨target,iter,[],0⟩] sc pos) (some (.Name x py)) spos.line X.env=pure true:=by rfl)
  (hf:X.fn x=true\/X.env.scope.names.lookup x=some .local:=by first |exact .inl rfl |exact .inr rfl |assumption):
  PS X (.Assign [.Name x py] (.ListComp elt [⟨target,iter,[],0⟩] sc pos) spos) (Jh (uT own cap wi g te) (Vg i)):=by
 intro BD s σ H D I h;rw[exec_Assign_Name_used _ _ _ _ hsw];refine ae (qd (ae ?_));show wpAny _ X.A (comprehension (.ListComp elt [⟨target,iter,[],0⟩] sc pos) sc X.env _ (newList []) false (eval iter X.env) (some (assign (.Name x py) X.env)) >>= λ_=>pure ()) _ _ s;refine ae (bK (Um (use:=some (assign (.Name x py) X.env)) (Qf:=λ_ s'=>SP X BD D .next s') k hi hc hg he I h (λB C s' H' m I' fC hn q=>?_) hs) λ_ s' hq=>ao (ao hq))
 show wpAny _ _ (assign (.Name x py) X.env (.ref B)) _ _ s';obtain⟨o,es,ep,ho,hd,r⟩:=hn;obtain⟨f0,f1,f2,f3,f4,f5⟩:=fC;have I'':aI X (BD++[(C,o)]) σ H' s':=I'.pins_of λp hp=>(cj.mp hp).elim (λz=>I'.pin p (dk _ z)) λz=>by
  have e:p=(C,o):=by simpa using z
  subst e;exact⟨ho,f0,f1,f2,λv z=>by rw[hd]at z;cases z⟩
 refine wpAny_assign_Name (tM I'' hN hx hl (v:=.ref B) rfl (λs2 I2=>?_) hf);have pC:=I2.pin (C,o) (by simp);refine⟨m,⟨o,es,ep,pC.1,hd,r⟩,λh' sb=>⟨_,H',?_,q⟩⟩;exact(I2.unpinned).turned (t':=s2.toks) (λb o hb e=>(sb.2 b hb).trans e) f0 f1 f3 f4 f5
end
section
variable{X:Cx}
theorem T9(hc:X.calm=true):iZ X (.builtin "all") (λxs H Q=>∃(a:Addr)(bs:List Bool),xs=[.ref a]/\cK X.K H a (bs.map V.bl)/\Q (.bl (bs.all id)) H):=by
 intro BD s σ H xs us Q I r h;obtain⟨a,bs,rfl,hq,q⟩:=h;obtain⟨u,rfl,ru⟩:=kL r;cases ru;obtain⟨its,rv,pl,hz⟩:=I.list hq;have hl:bs.length=its.length:=by
  have:=rv.length
  rwa[aj]at this
 refine call_all_walk (tq pl.isList ?_);have ha:a<s.heap.objs.size:=by
  obtain⟨o,ho,_⟩:=pl.isList;exact bj ho
 refine⟨_,_,_,_,_,_,λi=>bs.getD i true,rfl,Walks.list (prog:=X.prog) (w:=X.w) (A:=X.A.in1) (show X.A.in1.handled=none from I.ok.hd hc) s.heap.objs.size a (de ha) its.toArray,⟨⟨_,df _ rfl,rfl,rfl⟩,Heap.IsList.at pl.isList λo e=>ay _ e⟩,λi v s' Q' E' hv hQ=>?_,λh' tk kp=>?_⟩
 .have hv':its[i]?=some v:=by simpa using hv
  have hi:i<bs.length:=by
   have:=(br.mp hv').1;omega
  obtain⟨u,hu,ru⟩:=rv.get (i:=i) (x:=.bl bs[i]) (by rw[bo,ax hi];rfl);rw[hv']at hu;cases hu;cases(show v=rn bs[i] from ru);have e:bs.getD i true=bs[i]:=by simp[cg,hi]
  have hQ':Q' (bs.getD i true) s':=hQ;rw[e]at hQ';exact oa hQ'
 .have e:(cu its.toArray.size).all (λi=>bs.getD i true)=bs.all id:=by
   rw[az,<-hl,ot,kb,kb];constructor
   .intro z b hb
    obtain⟨i,hi,rfl⟩:=tx.mp hb;have:=z i (by simpa using hi);simpa[cg,hi]using this
   .intro z i hi
    have hi':i<bs.length:=by simpa using hi
    have:=z bs[i] (fe hi');simpa[cg,hi']using this
  show EP X BD σ Q (.bool ((cu its.toArray.size).all λi=>bs.getD i true)) _;rw[e];have I1:aI X BD σ H {s with heap:=s.heap.push {cls:=.type "list_iterator",data:=.fields #[.ref a,.int 0 0]},toks:=s.toks}:=I.kept λb o z=>ay _ z;have fp:fS X BD H s.heap.objs.size:=I.fpOk (ak _) (I.hok.fresh (ak _));obtain⟨f0,f1,f2,f3,f4,f5⟩:=fp;exact⟨.bl (bs.all id),H,I1.turned (λb o hb z=>kp b o (by simpa using hb) z) f0 f1 f3 f4 f5,rfl,q⟩
end
section
variable{prog:Program}{w:aq}{A:au}{E:Value->aa->Prop}{s:aa}
theorem B7{it t:Addr}{i:Nat}{items:Array Value}{x:Value}{Q:Value->aa->Prop}(git:s.heap.IsTupleIter it t i)(gt:s.heap.IsTuple t items)(gx:items[i]?=some x)
  (gQ:∀h',h'.IsTupleIter it t (i+1)->io it s.heap h'->Q x {s with heap:=h'}):wpAny (model prog w) A (la (.ref it)) Q E s:=by
 obtain⟨o,go,gc,gd⟩:=id git;obtain⟨ol,gol,_,nl,gdl⟩:=gt;unfold la;refine ae (km (name:=cy "__next__") git.typeIs tz (jh tz git.typeIs g8 ?_ (g9 _)));show wpAny _ _ (field (.ref it) 0 >>= _) _ _ s;refine ae (gv go gd (x:=.ref t) rfl ?_);show wpAny _ _ (if(dy t==cx)=true then _ else _) _ _ s;rw[if_neg (show ¬((dy t==cx)=true) from iw)];show wpAny _ _ (field (.ref it) 1 >>= _) _ _ s;refine ae (gv go gd (x:=.int i 0) rfl ?_);show wpAny _ _ (seqItems? (.ref t) >>= _) _ _ s;refine ae (kn gol gdl ?_);simp only[mq,gx];refine ae (nh go gd (by simp) (ao ⟨_,rfl,ao (gQ _ ?_ (ou ..))⟩));refine⟨_,ss _ go (xq (ow gd _)),(xu ..).trans gc,?_⟩;rw[ow gd];simp[rawInt]
theorem Zx{it t:Addr}{i:Nat}{items:Array Value}{Q:Value->aa->Prop}(hh:A.handled=none)(git:s.heap.IsTupleIter it t i)(gt:s.heap.IsTuple t items)(gx:items[i]?=none)
  (gE:∀h' e,ox it s.heap h'->(∃o,h'.get? e=some o/\o.cls=.type "StopIteration")->E (.ref e) {s with heap:=h'}):wpAny (model prog w) A (la (.ref it)) Q E s:=by
 obtain⟨o,go,gc,gd⟩:=id git;obtain⟨ol,gol,_,nl,gdl⟩:=gt;unfold la;refine ae (km (name:=cy "__next__") git.typeIs tz (jh tz git.typeIs g8 ?_ (g9 _)));show wpAny _ _ (field (.ref it) 0 >>= _) _ _ s;refine ae (gv go gd (x:=.ref t) rfl ?_);show wpAny _ _ (if(dy t==cx)=true then _ else _) _ _ s;rw[if_neg (show ¬((dy t==cx)=true) from iw)];show wpAny _ _ (field (.ref it) 1 >>= _) _ _ s;refine ae (gv go gd (x:=.int i 0) rfl ?_);show wpAny _ _ (seqItems? (.ref t) >>= _) _ _ s;refine ae (kn gol gdl ?_);simp only[mq,gx]
 first
  |refine ae (qe (ae (nh go gd (by simp) (ae (ua ?_)))))
  |refine ae (qe (ae (nh go gd (by simp) ?_)))
 show wpAny _ _ (newExc (.type "StopIteration") [] >>= _) _ _ _;refine ae ?_;simp only[newExc,newTuple];refine ae (iu ?_ (by size_fits));refine ae (m:=firstArgMember _ _) (wpAny_of_eq (a:=cx) (by first |rfl |(simp only[firstArgMember];rfl)) ?_)
 refine iu ?_ (by size_fits);simp only[raiseNew];refine ae (wpAny_handled ?_)
 first
  |rw[show A.in1.handled=none from hh]
  |rw[hh]
 refine ae (ao (wpAny_throw ?_));exact gE _ _ (((ou ..).extBut.push _).push _) ⟨_,df _ rfl,rfl⟩
end
theorem K6{prog:Program}{w:aq}{A:au}(hh:A.handled=none)(it t:Addr)(hne:t≠it)(items:Array Value):
  kd prog w A it [it,t] items.size (λi v=>items[i]?=some v) (λi h=>h.IsTupleIter it t i/\h.IsTuple t items) where
 live:=λ_ _ st=>let⟨o,ho,_⟩:=st.1;⟨o,ho⟩
 frame:=λ_ _ _ st hk=>⟨let⟨o,ho,r⟩:=st.1;⟨o,hk it (by simp) o ho,r⟩,let⟨o,ho,r⟩:=st.2;⟨o,hk t (by simp) o ho,r⟩⟩
 item:=λi s Q E hi st hQ=>by
  refine B7 st.1 st.2 (x:=items[i]) (by simp[hi]) λh' hit' hs'=>?_;exact hQ _ h' s.toks (by simp[hi]) ⟨hit',st.2.extBut hs'.extBut hne⟩ hs'
 done:=λs Q E st hE=>Zx hh st.1 st.2 (by simp) hE
structure vH(z TI TO i1 i2:Addr)(fp1 fp2:List Addr):Prop where
 tiz:TI≠z
 toz:TO≠z
 tito:TI≠TO
 ti1:TI≠i1
 ti2:TI≠i2
 z1:z∉fp1
 z2:z∉fp2
 to1:TO∉fp1
 to2:TO∉fp2
 i12:i1∉fp2
 i21:i2∉fp1
 m1:i1∈fp1
 m2:i2∈fp2
section
variable{prog:Program}{w:aq}{A:au}{E:Value->aa->Prop}{s:aa}{z TI TO i1 i2:Addr}{fp1 fp2:List Addr}{n1 n2 i:Nat}{P1 P2:Nat->Value->Prop}{S1 S2:Nat->Heap->Prop}{a b:Value}
theorem D5{Q:Value->aa->Prop}(D1:kd prog w A i1 fp1 n1 P1 S1)(D2:kd prog w A i2 fp2 n2 P2 S2)(ap:vH z TI TO i1 i2 fp1 fp2)(gz:ib s.heap z TI TO .none)(gTI:ff s.heap TI (.ref i1) (.ref i2))(gTO:ff s.heap TO a b)
  (g1:S1 i s.heap)(g2:S2 i s.heap)(l1:i<n1)(l2:i<n2)
  (gQ:∀h' tk x y,P1 i x->P2 i y->ib h' z TI TO (rawInt s.heap.objs.size)->ff h' TO x y->S1 (i+1) h'->S2 (i+1) h'->ff h' s.heap.objs.size x y->
   (∀c o,c≠z->c≠TO->c≠i1->c≠i2->s.heap.get? c=some o->h'.get? c=some o)->Q (.ref s.heap.objs.size) {s with heap:=h',toks:=tk}):
  wpAny (model prog w) A (Builtin.«zip.__next__» ⟨[.ref z],[]⟩) (λfin s'=>∃v,fin=.done (.ret v)/\Q v s') E s:=by
 have nz1:i1≠z:=λq=>ap.z1 (q▸ap.m1);have nz2:i2≠z:=λq=>ap.z2 (q▸ap.m2);have nt1:TO≠i1:=λq=>ap.to1 (q▸ap.m1);have nt2:TO≠i2:=λq=>ap.to2 (q▸ap.m2);show wpAny _ _ (field (.ref z) 2 >>= _) _ _ _;refine ae (gv gz rfl (x:=.bool false) rfl ?_);show wpAny _ _ (field (.ref z) 3 >>= _) _ _ _;refine ae (gv gz rfl (x:=.ref TI) rfl ?_);refine ae (kn gTI rfl ?_);show wpAny _ _ (ub (.ref z) >>= _) _ _ _;refine ae ?_;unfold ub;refine ae (gv gz rfl (x:=.none) rfl (ao ?_));simp only[if_true];refine ae (qe ?_);refine ae (gv gz rfl (x:=.ref TO) rfl ?_);refine ae (oy gz (by simp) λh1 gz1 s1=>?_)
 replace gz1:ib h1 z TI TO .ellipsis:=gz1
 refine ae ?_;simp only[i4,i5,tm,xv];refine ae (ae (uc ?_));show wpAny _ _ (la (.ref i1) >>= _) _ _ _;refine ae (D1.item i _ _ _ l1 (D1.frame _ _ _ g1 λc hc o q=>s1.extBut c o (λe=>ap.z1 (e▸hc)) q) λx h2 tk2 px g1' s2=>ao ?_);have gTO2:ff h2 TO a b:=s2.extBut _ _ nt1 (s1.extBut _ _ ap.toz gTO);refine ae (kn gTO2 rfl ?_);refine ae (xw (s:={s with heap:=h2,toks:=tk2}) gTO2 λh3 gTO3 s3=>?_)
 replace gTO3:ff h3 TO x b:=gTO3
 replace s3:io TO h2 h3:=s3
 refine ae (ua (ao ?_));refine ae (ae (uc ?_));show wpAny _ _ (la (.ref i2) >>= _) _ _ _;have g2':S2 i h3:=D2.frame _ _ _ g2 λc hc o q=>s3.extBut c o (λe=>ap.to2 (e▸hc)) (s2.extBut c o (λe=>ap.i12 (e▸hc)) (s1.extBut c o (λe=>ap.z2 (e▸hc)) q));refine ae (D2.item i _ _ _ l2 g2' λy h4 tk4 py g2'' s4=>ao ?_)
 replace s4:io i2 h3 h4:=s4
 have gTO4:ff h4 TO x b:=s4.extBut _ _ nt2 gTO3;refine ae (kn gTO4 rfl ?_);refine ae (xw (s:={s with heap:=h4,toks:=tk4}) gTO4 λh5 gTO5 s5=>?_)
 replace gTO5:ff h5 TO x y:=gTO5
 replace s5:io TO h4 h5:=s5
 refine ae (ua (ao (ao ?_)));refine ae (kn gTO5 rfl ?_);refine ae (wpAny_newTuple ?_);have hsz:h5.objs.size=s.heap.objs.size:=by rw[s5.1,s4.1,s3.1,s2.1,s1.1]
 have gz5:ib h5 z TI TO .ellipsis:=s5.extBut _ _ ap.toz.symm (s4.extBut _ _ nz2.symm (s3.extBut _ _ ap.toz.symm (s2.extBut _ _ nz1.symm gz1)));have k5:∀c o,c≠z->c≠TO->c≠i1->c≠i2->s.heap.get? c=some o->h5.get? c=some o:=λc o c1 c2 c3 c4 q=>s5.extBut _ _ c2 (s4.extBut _ _ c4 (s3.extBut _ _ c2 (s2.extBut _ _ c3 (s1.extBut _ _ c1 q))));have g15:S1 (i+1) h5:=D1.frame _ _ _ g1' λc hc o q=>s5.extBut c o (λe=>ap.to1 (e▸hc)) (s4.extBut c o (λe=>ap.i21 (e▸hc)) (s3.extBut c o (λe=>ap.to1 (e▸hc)) q));have g25:S2 (i+1) h5:=D2.frame _ _ _ g2'' λc hc o q=>s5.extBut c o (λe=>ap.to2 (e▸hc)) q;have zlt:z<h5.objs.size:=bj gz5;show wpAny _ _ (i6 (.ref z) (.ref h5.objs.size) >>= _) _ _ _;refine ae ?_;unfold i6;have gz6:ib (h5.push {cls:=.type "tuple",data:=.seq #[x,y]}) z TI TO .ellipsis:=ay _ gz5;refine ae (oy gz6 (by simp) λh7 gz7 s7=>?_)
 replace gz7:ib h7 z TI TO (rawInt h5.objs.size):=gz7
 refine oy gz7 (by simp) λh8 gz8 s8=>?_
 replace gz8:ib h8 z TI TO (rawInt h5.objs.size):=gz8
 have up:∀c o,c≠z->h5.get? c=some o->h8.get? c=some o:=λc o c1 q=>s8.extBut _ _ c1 (s7.extBut _ _ c1 (ay _ q));have gT8:ff h8 h5.objs.size x y:=s8.extBut _ _ (og zlt) (s7.extBut _ _ (og zlt) (df _ rfl));rw[hsz]at gz8 gT8;refine ao ⟨_,rfl,?_⟩;show Q (.ref h5.objs.size) _;rw[hsz];exact gQ h8 _ x y px py gz8 (up _ _ ap.toz gTO5) (D1.frame _ _ _ g15 λc hc o q=>up c o (λe=>ap.z1 (e▸hc)) q) (D2.frame _ _ _ g25 λc hc o q=>up c o (λe=>ap.z2 (e▸hc)) q) gT8 λc o c1 c2 c3 c4 q=>up c o c1 (k5 c o c1 c2 c3 c4 q)
theorem F3{Q:Fin->aa->Prop}(D1:kd prog w A i1 fp1 n1 P1 S1)(D2:kd prog w A i2 fp2 n2 P2 S2)(ap:vH z TI TO i1 i2 fp1 fp2)(gz:ib s.heap z TI TO .none)(gTI:ff s.heap TI (.ref i1) (.ref i2))(gTO:ff s.heap TO a b)
  (g1:S1 i s.heap)(g2:S2 i s.heap)(fin:i=n1\/(i<n1/\i=n2))
  (gE:∀h' tk e,(∀c o,c≠z->c≠TO->c≠i1->c≠i2->s.heap.get? c=some o->h'.get? c=some o)->(∃o,h'.get? e=some o/\o.cls=.type "StopIteration")->E (.ref e) {s with heap:=h',toks:=tk}):
  wpAny (model prog w) A (Builtin.«zip.__next__» ⟨[.ref z],[]⟩) Q E s:=by
 have nz1:i1≠z:=λq=>ap.z1 (q▸ap.m1);have nz2:i2≠z:=λq=>ap.z2 (q▸ap.m2);have nt1:TO≠i1:=λq=>ap.to1 (q▸ap.m1);have nt2:TO≠i2:=λq=>ap.to2 (q▸ap.m2);show wpAny _ _ (field (.ref z) 2 >>= _) _ _ _;refine ae (gv gz rfl (x:=.bool false) rfl ?_);show wpAny _ _ (field (.ref z) 3 >>= _) _ _ _;refine ae (gv gz rfl (x:=.ref TI) rfl ?_);refine ae (kn gTI rfl ?_);show wpAny _ _ (ub (.ref z) >>= _) _ _ _;refine ae ?_;unfold ub;refine ae (gv gz rfl (x:=.none) rfl (ao ?_));simp only[if_true];refine ae (qe ?_);refine ae (gv gz rfl (x:=.ref TO) rfl ?_);refine ae (oy gz (by simp) λh1 gz1 s1=>?_)
 replace gz1:ib h1 z TI TO .ellipsis:=gz1
 refine ae ?_;simp only[i4,i5,tm,xv];refine ae (ae (uc ?_));show wpAny _ _ (la (.ref i1) >>= _) _ _ _;have g1':S1 i h1:=D1.frame _ _ _ g1 λc hc o q=>s1.extBut c o (λe=>ap.z1 (e▸hc)) q;rcases fin with e1 |⟨l1,e2⟩
 .subst e1
  refine ae (D1.done _ _ _ g1' λh2 e s2 he=>?_);obtain⟨oe,hoe,hce⟩:=he;have gz2:ib h2 z TI TO .ellipsis:=s2 _ _ nz1.symm gz1;have hez:e≠z:=λq=>by
   subst q;rw[gz2]at hoe;cases hoe;simp at hce
  refine oy (s:={s with heap:=h2}) gz2 (by simp) λh3 _ s3=>?_;exact gE h3 _ e (λc o c1 _ c3 _ q=>s3.extBut _ _ c1 (s2 _ _ c3 (s1.extBut _ _ c1 q))) ⟨oe,s3.extBut _ _ hez hoe,hce⟩
 .subst e2
  refine ae (D1.item i _ _ _ l1 g1' λx h2 tk2 px g1'' s2=>ao ?_);have gTO2:ff h2 TO a b:=s2.extBut _ _ nt1 (s1.extBut _ _ ap.toz gTO);refine ae (kn gTO2 rfl ?_);refine ae (xw (s:={s with heap:=h2,toks:=tk2}) gTO2 λh3 gTO3 s3=>?_)
  replace s3:io TO h2 h3:=s3
  refine ae (ua (ao ?_));refine ae (ae (uc ?_));show wpAny _ _ (la (.ref i2) >>= _) _ _ _;have g2':S2 i h3:=D2.frame _ _ _ g2 λc hc o q=>s3.extBut c o (λe=>ap.to2 (e▸hc)) (s2.extBut c o (λe=>ap.i12 (e▸hc)) (s1.extBut c o (λe=>ap.z2 (e▸hc)) q));refine ae (D2.done _ _ _ g2' λh4 e s4 he=>?_)
  replace s4:ox i2 h3 h4:=s4
  obtain⟨oe,hoe,hce⟩:=he;have gz4:ib h4 z TI TO .ellipsis:=s4 _ _ nz2.symm (s3.extBut _ _ ap.toz.symm (s2.extBut _ _ nz1.symm gz1));have hez:e≠z:=λq=>by
   subst q;rw[gz4]at hoe;cases hoe;simp at hce
  refine oy (s:={s with heap:=h4,toks:=tk2}) gz4 (by simp) λh5 _ s5=>?_;exact gE h5 _ e (λc o c1 c2 c3 c4 q=>s5.extBut _ _ c1 (s4 _ _ c4 (s3.extBut _ _ c2 (s2.extBut _ _ c3 (s1.extBut _ _ c1 q))))) ⟨oe,s5.extBut _ _ hez hoe,hce⟩
theorem Sy{Q:AW->aa->Prop}(D1:kd prog w A.in1 i1 fp1 n1 P1 S1)(D2:kd prog w A.in1 i2 fp2 n2 P2 S2)(ap:vH z TI TO i1 i2 fp1 fp2)(gz:ib s.heap z TI TO .none)(gTI:ff s.heap TI (.ref i1) (.ref i2))(gTO:ff s.heap TO a b)
  (g1:S1 i s.heap)(g2:S2 i s.heap)(l1:i<n1)(l2:i<n2)
  (gQ:∀h' tk x y,P1 i x->P2 i y->ib h' z TI TO (rawInt s.heap.objs.size)->ff h' TO x y->S1 (i+1) h'->S2 (i+1) h'->ff h' s.heap.objs.size x y->
   (∀c o,c≠z->c≠TO->c≠i1->c≠i2->s.heap.get? c=some o->h'.get? c=some o)->Q (some (.ref s.heap.objs.size)) {s with heap:=h',toks:=tk}):
  wpAny (model prog w) A (pyNext (.ref z)) Q E s:=by
 have gT:s.TypeIs (.ref z) "zip":=⟨_,gz,rfl⟩;unfold pyNext;refine ae (oz (km (name:=cy "__next__") gT ud (jh ud gT i7 ?_ (i8 _))));exact D5 D1 D2 ap gz gTI gTO g1 g2 l1 l2 λh' tk x y p1 p2 e1 e2 e3 e4 e5 e6=>ao (gQ h' tk x y p1 p2 e1 e2 e3 e4 e5 e6)
theorem Vx{Q:AW->aa->Prop}(D1:kd prog w A.in1 i1 fp1 n1 P1 S1)(D2:kd prog w A.in1 i2 fp2 n2 P2 S2)(ap:vH z TI TO i1 i2 fp1 fp2)(gz:ib s.heap z TI TO .none)(gTI:ff s.heap TI (.ref i1) (.ref i2))(gTO:ff s.heap TO a b)
  (g1:S1 i s.heap)(g2:S2 i s.heap)(fin:i=n1\/(i<n1/\i=n2))
  (gQ:∀h' tk,(∀c o,c≠z->c≠TO->c≠i1->c≠i2->s.heap.get? c=some o->h'.get? c=some o)->Q none {s with heap:=h',toks:=tk}):wpAny (model prog w) A (pyNext (.ref z)) Q E s:=by
 have gT:s.TypeIs (.ref z) "zip":=⟨_,gz,rfl⟩;unfold pyNext;refine ae (oz (km (name:=cy "__next__") gT ud (jh ud gT i7 ?_ (i8 _))));refine F3 D1 D2 ap gz gTI gTO g1 g2 fin λh' tk e hk he=>?_;obtain⟨o,ho,hc⟩:=he;refine ae (xx (T:="StopIteration") (b:=true) ⟨o,ho,hc⟩ isSubtype_stop ?_);exact ao (gQ _ _ hk)
end
abbrev yT(h:Heap)(o1:Obj):Heap:=h.push o1
abbrev yV(h:Heap)(o1 o2:Obj):Heap:=(yT h o1).push o2
abbrev yU(h:Heap)(o1 o2:Obj):Heap:=(yV h o1 o2).push {cls:=.type "tuple",data:=.seq #[.ref h.objs.size,.ref (yT h o1).objs.size]}
abbrev zE(h:Heap)(o1 o2:Obj):Heap:=(yU h o1 o2).push {cls:=.type "tuple",data:=.seq #[.none,.none]}
abbrev sC(h:Heap)(o1 o2:Obj):Heap:=(zE h o1 o2).push {cls:=.type "zip",data:=.fields #[.none,.bool false,.bool false,.ref (yV h o1 o2).objs.size,.ref (yU h o1 o2).objs.size]}
def vB(l:Addr)(o:Obj)(G:Heap->Prop):Prop:=
 ∀(prog:Program)(w:aq)(A:au)(E:Value->aa->Prop)(s:aa)(Q:Value->aa->Prop),G s.heap->Q (.ref s.heap.objs.size) {s with heap:=s.heap.push o}->wpAny (model prog w) A (pyIter (.ref l)) Q E s
theorem J4(l1 l2:Addr)(o1 o2:Obj)(G1 G2:Heap->Prop)(p1:vB l1 o1 G1)(p2:vB l2 o2 G2)(k2:∀h,G2 h->G2 (h.push o1)):
  Meets (Builtin.«zip.__new__» ⟨[.type "zip",.ref l1,.ref l2],[]⟩) (λ_ R s=>G1 s.heap/\G2 s.heap/\R (.ok (.ret (.ref (zE s.heap o1 o2).objs.size))) {s with heap:=sC s.heap o1 o2}):=
 .of_wp λprog w A R s h=>by
  obtain⟨hp,g,d,tk,os⟩:=s;obtain⟨g1,g2,h⟩:=h;have hsub:=sub_zip;have q1:=λ(A':au) (E':Value->aa->Prop) (Q':Value->aa->Prop)=>p1 prog w A' E' ⟨hp,g,d,tk,os⟩ Q' g1;have q2:=λ(A':au) (E':Value->aa->Prop) (Q':Value->aa->Prop)=>p2 prog w A' E' ⟨hp.push o1,g,d,tk,os⟩ Q' (k2 _ g2)
  wp_walk using q1 _ _ _,q2 _ _ _
  exact⟨_,rfl,h⟩
theorem Iy{prog:Program}{w:aq}{A:au}{E:Value->aa->Prop}{s:aa}{l1 l2:Addr}{o1 o2:Obj}{G1 G2:Heap->Prop}{Q:Value->aa->Prop}(p1:vB l1 o1 G1)(p2:vB l2 o2 G2)(k2:∀h,G2 h->G2 (h.push o1))(g1:G1 s.heap)(g2:G2 s.heap)
  (f1:o1.isFreed=false)(f2:o2.isFreed=false)
  (h:∀h',ib h' (s.heap.objs.size+4) (s.heap.objs.size+2) (s.heap.objs.size+3) .none->ff h' (s.heap.objs.size+2) (.ref s.heap.objs.size) (.ref (s.heap.objs.size+1))->ff h' (s.heap.objs.size+3) .none .none->
   h'.get? s.heap.objs.size=some o1->h'.get? (s.heap.objs.size+1)=some o2->(∀c o,s.heap.get? c=some o->h'.get? c=some o)->Q (.ref (s.heap.objs.size+4)) {s with heap:=h'}):
  wpAny (model prog w) A (call (.type "zip") [.ref l1,.ref l2]) Q E s:=by
 refine callType_new F.called_zip (by decide) (F.typeCall_zip_2 _ _) (F.newCall_zip_2 _ _) (λobj=>F.args_object_init_3 obj _ _) F.entry_zip_new (J4 l1 l2 o1 o2 G1 G2 p1 p2 k2) ⟨g1,g2,?_⟩;have e1:(yT s.heap o1).objs.size=s.heap.objs.size+1:=jp ..;have e2:(yV s.heap o1 o2).objs.size=s.heap.objs.size+2:=by rw[jp,e1]
 have e3:(yU s.heap o1 o2).objs.size=s.heap.objs.size+3:=by rw[jp,e2]
 have e4:(zE s.heap o1 o2).objs.size=s.heap.objs.size+4:=by rw[jp,e3]
 have r5:(sC s.heap o1 o2).get? (zE s.heap o1 o2).objs.size=some _:=df _ rfl;have r4:(sC s.heap o1 o2).get? (yU s.heap o1 o2).objs.size=some _:=ay _ (df _ rfl);have r3:(sC s.heap o1 o2).get? (yV s.heap o1 o2).objs.size=some _:=ay _ (ay _ (df _ rfl));have r2:(sC s.heap o1 o2).get? (yT s.heap o1).objs.size=some o2:=ay _ (ay _ (ay _ (df _ f2)));have r1:(sC s.heap o1 o2).get? s.heap.objs.size=some o1:=ay _ (ay _ (ay _ (ay _ (df _ f1))));show _/\_;rw[e2,e3,e4]at r5;rw[e1,e2]at r3;rw[e3]at r4;rw[e1]at r2;rw[e4];exact⟨⟨_,r5,rfl⟩,h _ r5 r3 r4 r1 r2 λc o q=>ay _ (ay _ (ay _ (ay _ (ay _ q))))⟩
def jU(f:Bool)(K:ag)(H:Hp)(a:Addr)(xs:List V):Prop:=match f with
 |true=>dP K H a xs
 |false=>cK K H a xs
def nK(f:Bool)(it a:Addr)(i:Nat)(h:Heap):Prop:=match f with
 |true=>h.IsTupleIter it a i
 |false=>h.IsListIter it a i
def sE(f:Bool)(a:Addr)(items:Array Value)(h:Heap):Prop:=match f with
 |true=>h.IsTuple a items
 |false=>h.IsList a items
def Nh(f:Bool)(a:Addr):Obj:=match f with
 |true=>{cls:=.type "tuple_iterator",data:=.fields #[.ref a,.int 0 0]}
 |false=>{cls:=.type "list_iterator",data:=.fields #[.ref a,.int 0 0]}
section
variable{X:Cx}{BD:List (Addr×Obj)}{σ:St}{H:Hp}{s:aa}{a:Addr}{xs ys:List V}{f:Bool}
theorem aI.seqF(I:aI X BD σ H s)(h:jU f X.K H a xs):∃its:AU,bI xs its/\sE f a its.toArray s.heap/\xs.length<=sizeLine:=by
 cases f with
 |true=>
  obtain⟨its,r,p,z⟩:=I.tuple h;exact⟨its,r,p,z⟩
 |false=>
  obtain⟨its,r,p,z⟩:=I.list h;exact⟨its,r,p.isList,z⟩
theorem aI.seqF_inj(I:aI X BD σ H s)(h:jU f X.K H a xs)(h':jU f X.K H a ys):xs=ys:=by
 cases f with
 |true=>exact I.tuple_inj h h'
 |false=>exact I.list_inj h h'
theorem aI.apart{b:Addr}(I:aI X BD σ H s)(fb:fS X BD H b)(h:jU f X.K H a xs):a≠b:=by
 have viaK:∀{o:Obj},X.K.lookup a=some o->a≠b:=λ{o} q e=>by
  have hb:X.base.get? b=some o:=e▸I.ok.mod.kin a o q;rcases fb.2.2.2.1 with z |z
  .exact I.ok.noex b o hb z
  .exact absurd (dm (bj (I.ok.bs b o hb).1) z) (je _)
 cases f with
 |true=>
  rcases h with(h |⟨o,h⟩) |⟨o,_,_,q,_⟩
  .exact gD h fb.1
  .exact gD h fb.1
  .exact viaK q
 |false=>
  rcases h with(h |⟨o,h⟩) |⟨o,_,_,q,_⟩
  .exact gD h fb.1
  .exact gD h fb.1
  .exact viaK q
end
theorem yB{prog:Program}{w:aq}{A:au}(f:Bool)(hh:A.handled=none)(it a:Addr)(hne:a≠it)(items:Array Value):
  kd prog w A it [it,a] items.size (λi v=>items[i]?=some v) (λi h=>nK f it a i h/\sE f a items h):=by
 cases f with
 |true=>exact K6 hh it a hne items
 |false=>exact Draws.list hh it a hne items
theorem Uv(f:Bool)(a:Addr)(items:Array Value):vB a (Nh f a) (sE f a items):=by
 cases f with
 |true=>exact λprog w A E s Q g q=>i9 g q
 |false=>exact λprog w A E s Q g q=>tq g q
theorem nK.keep{f:Bool}{it a:Addr}{i:Nat}{h h':Heap}(x:nK f it a i h)(k:∀o,h.get? it=some o->h'.get? it=some o):nK f it a i h':=by
 cases f with
 |true=>obtain⟨o,e,r⟩:=x;exact⟨o,k o e,r⟩
 |false=>obtain⟨o,e,r⟩:=x;exact⟨o,k o e,r⟩
theorem sE.keep{f:Bool}{a:Addr}{items:Array Value}{h h':Heap}(x:sE f a items h)(k:∀o,h.get? a=some o->h'.get? a=some o):sE f a items h':=by
 cases f with
 |true=>obtain⟨o,e,r⟩:=x;exact⟨o,k o e,r⟩
 |false=>obtain⟨o,e,r⟩:=x;exact⟨o,k o e,r⟩
theorem nK.obj{f:Bool}{it a:Addr}{i:Nat}{h:Heap}(x:nK f it a i h):∃o,h.get? it=some o/\∀v,o.data≠.cell v:=by
 cases f with
 |true=>obtain⟨o,e,_,d⟩:=x;exact⟨o,e,λv z=>by rw[d]at z;cases z⟩
 |false=>obtain⟨o,e,_,d⟩:=x;exact⟨o,e,λv z=>by rw[d]at z;cases z⟩
theorem Cm(f:Bool)(a it:Addr){h:Heap}(e:h.get? it=some (Nh f a)):nK f it a 0 h:=by
 cases f with
 |true=>exact⟨_,e,rfl,rfl⟩
 |false=>exact⟨_,e,rfl,rfl⟩
theorem Rp(f:Bool)(a:Addr):(Nh f a).isFreed=false:=by cases f<;>rfl
def Ax (K : ag) (f1 : Bool) (a : Addr) (f2 : Bool) (b : Addr) : It :=
  ⟨λi H => ∃ xs ys x y, jU f1 K H a xs ∧ jU f2 K H b ys ∧ xs[i]? = some x ∧ ys[i]? = some y,
   λi H v H' => ∃ p x y, H p = none ∧ v = .ref p ∧ H' = aW H p (.tup [x, y]) ∧ (∀ xs, jU f1 K H a xs → xs[i]? = some x) ∧ ∀ ys, jU f2 K H b ys → ys[i]? = some y,
   λi H => ∃ xs ys, jU f1 K H a xs ∧ jU f2 K H b ys ∧ (i = xs.length ∨ (i < xs.length ∧ i = ys.length))⟩
structure yW(z TI TO i1 i2:Addr):Prop where
 tiz:TI≠z
 toz:TO≠z
 i1z:i1≠z
 i2z:i2≠z
 tito:TI≠TO
 ti1:TI≠i1
 ti2:TI≠i2
 to1:TO≠i1
 to2:TO≠i2
 i12:i1≠i2
theorem yW.ap{z TI TO i1 i2 a b:Addr}(r:yW z TI TO i1 i2)(h:∀c∈[z,TI,TO,i1,i2],a≠c)(g:∀c∈[z,TI,TO,i1,i2],b≠c):vH z TI TO i1 i2 [i1,a] [i2,b] where
 tiz:=r.tiz
 toz:=r.toz
 tito:=r.tito
 ti1:=r.ti1
 ti2:=r.ti2
 z1:=λq=>by simp at q;rcases q with q |q;exact r.i1z q.symm;exact h z (by simp) q.symm
 z2:=λq=>by simp at q;rcases q with q |q;exact r.i2z q.symm;exact g z (by simp) q.symm
 to1:=λq=>by simp at q;rcases q with q |q;exact r.to1 q;exact h TO (by simp) q.symm
 to2:=λq=>by simp at q;rcases q with q |q;exact r.to2 q;exact g TO (by simp) q.symm
 i12:=λq=>by simp at q;rcases q with q |q;exact r.i12 q;exact g i1 (by simp) q.symm
 i21:=λq=>by simp at q;rcases q with q |q;exact r.i12 q.symm;exact h i2 (by simp) q.symm
 m1:=by simp
 m2:=by simp
theorem U4{P:Program}{w:aq}{K:ag}{elts:List ah}{x1:Nat}{tp:ai}(f1 f2:Bool)(a b z TI TO i1 i2:Addr)(zr:yW z TI TO i1 i2):
  rZ P w K (.Tuple elts x1 tp) (Ax K f1 a f2 b) [z,TI,TO,i1,i2] z (λi h=>ib h z TI TO .none/\ff h TI (.ref i1) (.ref i2)/\(∃u v,ff h TO u v)/\nK f1 i1 a i h/\nK f2 i2 b i h) where
 mem:=by simp
 obj:=λi h st c hc=>by
  obtain⟨e1,e2,⟨u,v,e3⟩,e4,e5⟩:=st;simp at hc;rcases hc with q |q |q |q |q
  .subst q
   exact⟨_,e1,λv z=>nomatch z⟩
  .subst q
   exact⟨_,e2,λv z=>nomatch z⟩
  .subst q
   exact⟨_,e3,λv z=>nomatch z⟩
  .subst q
   exact e4.obj
  .subst q
   exact e5.obj
 keep:=λi h h' st k=>by
  obtain⟨e1,e2,⟨u,v,e3⟩,e4,e5⟩:=st;exact⟨k z (by simp) _ e1,k TI (by simp) _ e2,⟨u,v,k TO (by simp) _ e3⟩,e4.keep λo q=>k i1 (by simp) o q,e5.keep λo q=>k i2 (by simp) o q⟩
 item:=by
  intro X hP hw hK hc i BD s σ H E I hf st hg;subst hP hw hK;obtain⟨xs,ys,x,y,hx,hy,ex,ey⟩:=hg;obtain⟨its,r1,p1,_⟩:=I.seqF hx;obtain⟨jts,r2,p2,_⟩:=I.seqF hy;obtain⟨ux,gx,rx⟩:=r1.get ex;obtain⟨uy,gy,ry⟩:=r2.get ey;obtain⟨e1,e2,⟨u,v,e3⟩,e4,e5⟩:=st;have na:∀c∈[z,TI,TO,i1,i2],a≠c:=λc hc=>I.apart (hf c hc) hx;have nb:∀c∈[z,TI,TO,i1,i2],b≠c:=λc hc=>I.apart (hf c hc) hy;have hd:X.A.in1.handled=none:=I.ok.hd hc;have D1:=yB (prog:=X.prog) (w:=X.w) f1 hd i1 a (na i1 (by simp)) its.toArray;have D2:=yB (prog:=X.prog) (w:=X.w) f2 hd i2 b (nb i2 (by simp)) jts.toArray;refine Sy D1 D2 (zr.ap na nb) e1 e2 e3 ⟨e4,p1⟩ ⟨e5,p2⟩ (br.mp gx).1 (br.mp gy).1 λh1 tk vx vy px py q1 q2 q3 q4 q5 k1=>⟨_,rfl,?_⟩;have ex':vx=ux:=by
   have:its[i]?=some vx:=by simpa using px
   rw[gx]at this;exact(ce this).symm
  have ey':vy=uy:=by
   have:jts[i]?=some vy:=by simpa using py
   rw[gy]at this;exact(ce this).symm
  subst ex' ey';have lt:∀c∈[z,TI,TO,i1,i2],c≠s.heap.objs.size:=λc hc=>by
   have:∃o,s.heap.get? c=some o:=by
    simp at hc;rcases hc with q |q |q |q |q
    .exact⟨_,q▸e1⟩
    .exact⟨_,q▸e2⟩
    .exact⟨_,q▸e3⟩
    .obtain⟨o,ho,_⟩:=e4.obj
     exact⟨o,q▸ho⟩
    .obtain⟨o,ho,_⟩:=e5.obj
     exact⟨o,q▸ho⟩
   obtain⟨o,ho⟩:=this;exact de (bj ho)
  refine wpAny_letOwnedTupleGo_zip (s:={s with heap:=h1,toks:=tk}) q1 λh2 z2 sb2=>?_;have t2:h2.get? s.heap.objs.size=some {cls:=.type "tuple",data:=.seq #[vx,vy]}:=(sb2.2 _ (lt z (by simp)).symm).trans q5;have I2:aI X BD σ (aW H s.heap.objs.size (.tup [x,y])) {s with heap:=h2,toks:=tk}:=
   I.turnedNew hf (λc o hc q=>(sb2.2 c (λe=>hc (by simp[e]))).trans (k1 c o (λe=>hc (by simp[e])) (λe=>hc (by simp[e])) (λe=>hc (by simp[e])) (λe=>hc (by simp[e])) q)) (ak _)
    ⟨by show 2<=sizeLine;decide,[vx,vy],.cons rx (.cons ry .nil),⟨_,t2,rfl,_,rfl⟩⟩
  refine⟨.ref s.heap.objs.size,_,I2,rfl,⟨_,x,y,I.hok.fresh (ak _),rfl,rfl,λzs hz=>by rw[I.seqF_inj hz hx];exact ex,λzs hz=>by rw[I.seqF_inj hz hy];exact ey⟩,
   ⟨z2,(sb2.2 _ zr.tiz).trans (k1 _ _ zr.tiz zr.tito zr.ti1 zr.ti2 e2),⟨_,_,(sb2.2 _ zr.toz).trans q2⟩,q3.1.keep λo q=>(sb2.2 _ zr.i1z).trans q,q4.1.keep λo q=>(sb2.2 _ zr.i2z).trans q⟩,λc hc=>?_⟩
  rw[bT (lt c hc)];exact(hf c hc).1
 done:=by
  intro X hP hw hK hc i BD s σ H E I hf st hg;subst hP hw hK;obtain⟨xs,ys,hx,hy,fin⟩:=hg;obtain⟨its,r1,p1,_⟩:=I.seqF hx;obtain⟨jts,r2,p2,_⟩:=I.seqF hy;have l1:=r1.length;have l2:=r2.length;obtain⟨e1,e2,⟨u,v,e3⟩,e4,e5⟩:=st;have na:∀c∈[z,TI,TO,i1,i2],a≠c:=λc hc=>I.apart (hf c hc) hx;have nb:∀c∈[z,TI,TO,i1,i2],b≠c:=λc hc=>I.apart (hf c hc) hy;have hd:X.A.in1.handled=none:=I.ok.hd hc;have D1:=yB (prog:=X.prog) (w:=X.w) f1 hd i1 a (na i1 (by simp)) its.toArray;have D2:=yB (prog:=X.prog) (w:=X.w) f2 hd i2 b (nb i2 (by simp)) jts.toArray;refine Vx D1 D2 (zr.ap na nb) e1 e2 e3 ⟨e4,p1⟩ ⟨e5,p2⟩ (by rw[az,az,<-l1,<-l2];exact fin) λh' tk k=>⟨rfl,?_⟩;exact I.turnedL hf λc o hc q=>k c o (λe=>hc (by simp[e])) (λe=>hc (by simp[e])) (λe=>hc (by simp[e])) (λe=>hc (by simp[e])) q
 self:=λ_ _ _ _ _ st h=>wpAny_pyIter_zip st.1 h
section
variable{X:Cx}{elts:List ah}{x1:Nat}{tp:ai}
def afc(K:ag)(tl:TA):TI:=λσ H R=>tl σ H λvs H1=>∃f1 a f2 b xs ys,vs=[.ref a,.ref b]/\jU f1 K H1 a xs/\jU f2 K H1 b ys/\R (Ax K f1 a f2 b) H1
theorem acR{l r:ah}{tl:TA}{p pos:ai}(hg:Gl X "zip")(hm:X.mg "zip"=none)(hl:PA X [l,r] tl)(hs:starEach [l,r] X.env=[(false,eval l X.env),(false,eval r X.env)]:=by rfl)(hs2:starEach [r] X.env=[(false,eval r X.env)]:=by rfl):
  PI X (.Tuple elts x1 tp) (.Call (.Name "zip" p) [l,r] [] pos) (afc X.K tl):=by
 intro BD s σ H R I h;refine Call_ (pM I hg hm boot_zip (qh (bK (hl pos BD s σ H _ I h) λus s1 hq=>?_) (by rw[hs,hs2]) (by rw[hs2];rfl)));rcases hq with⟨vs,H1,I1,r1,q1⟩;obtain⟨f1,a,f2,b,xs,ys,rfl,hx,hy,q⟩:=q1;obtain⟨u,v,rfl,ru,rv⟩:=Bv r1;cases ru;cases rv;obtain⟨its,_,p1,_⟩:=I1.seqF hx;obtain⟨jts,_,p2,_⟩:=I1.seqF hy;refine Iy (Uv f1 a its.toArray) (Uv f2 b jts.toArray) (λh g=>g.keep λo z=>ay _ z) p1 p2 (Rp _ _) (Rp _ _) λh' e1 e2 e3 e4 e5 k=>?_;refine wpAny_pyIter_zip (s:={s1 with heap:=h'}) e1 ?_;have zr:yW (s1.heap.objs.size+4) (s1.heap.objs.size+2) (s1.heap.objs.size+3) s1.heap.objs.size (s1.heap.objs.size+1):=by
  generalize s1.heap.objs.size=n;have g:∀i j:Nat,i≠j->((n:Nat)+i:Nat)≠n+j:=λi j h=>by omega
  exact⟨g 2 4 (by decide),g 3 4 (by decide),g 0 4 (by decide),g 1 4 (by decide),g 2 3 (by decide),g 2 0 (by decide),g 2 1 (by decide),g 3 0 (by decide),g 3 1 (by decide),g 0 1 (by decide)⟩
 refine⟨_,[s1.heap.objs.size+4,s1.heap.objs.size+2,s1.heap.objs.size+3,s1.heap.objs.size,s1.heap.objs.size+1],_,_,H1,rfl,I1.kept (t':=s1.toks) k,U4 f1 f2 a b _ _ _ _ _ zr,⟨e1,e2,⟨_,_,e3⟩,Cm f1 a _ e4,Cm f2 b _ e5⟩,λc hc=>?_,q⟩;have hb:s1.heap.objs.size<=c:=by
  simp only[cq,fg,or_false]at hc;rcases hc with q |q |q |q |q
  all_goals rw[q]
  all_goals first |exact ak _ |exact Nat.le_add_right _ _
 exact I1.fpOk hb (I1.hok.fresh hb)
end
theorem abX(K:ag):oh K (.type "int") (.type "bool")=some false:=by
 unfold oh PySem.W.kitCls;rw[if_neg (by decide)];show(if PySem.W.kitMeta "bool"=true then PySem.W.subIn K (.type "int") (.type "bool")else none)=some false;rw[if_pos (by decide+kernel)];show(fastBuiltinMro "int").map (·.contains (.type "bool"))=some false;decide+kernel
structure kC(K:ag)(x qual:Str)(st:Stmt)(f:Addr)(fd:cf)(ds:Array Value):Prop where
 ex:∃(oc:Value)(od:AX)(T:Addr)(oT:Obj)(n:Nat)(kV doc pm:Value)(an:AX)(cdv ct:Value)(osl:Array AW),
  fd=fi x qual (gR st) (eI st) (bX st) (.ref T) kV doc pm an cdv ct/\K.lookup f=some ⟨oc,od,.func fd,osl⟩/\jz K cdv qual=true/\K.lookup T=some oT/\oT.data=.seq ds n
 kp:fu K (.ref f)=true
section
variable{P:Program}{w:aq}{K:ag}{mg:Str->AW}{base:Heap}
theorem kC.ok{x qual:Str}{st:Stmt}{f:Addr}{fd:cf}{ds:Array Value}{N ps:List Str}{k:Nat}{sp:Sp}(F:kC K x qual st f fd ds)(S:hJ N ps (bX st))(len:∀vs H Q E,sp vs H Q E->vs.length=ps.length)
  (hbody:∀(cdv:Value)(A:au)(outer:List bh)(s:aa)(H:Hp)(vs:List V)(Q:VK)(E:XK),dJ k (A.deeper (envOfC qual (bX st) s.heap.objs.size f cdv))->sp vs H Q E->
   ∃t,gB (eV eL P w K mg base N qual (bX st) f cdv A outer s H E).nox (eI st) t/\t {nx:=λ_ H'=>Q .non H',rt:=Q} (start N vs) H):eG P w K mg base eL (k+1) f fd ps sp:=by
 obtain⟨oc,od,T,oT,n,kV,doc,pm,an,cdv,ct,osl,rfl,lk,hcd,_,_⟩:=F.ex;refine yK lk hcd S len λA outer s H vs Q E hr hsp=>?_;obtain⟨t,h,q⟩:=hbody cdv A outer s H vs Q E hr hsp;exact⟨t,h.nox,q⟩
theorem kC.binds{x qual:Str}{st:Stmt}{f:Addr}{fd:cf}{ds:Array Value}{ps:List Str}{dd:AU}(F:kC K x qual st f fd ds)
  (h:∀(T:Addr)(kV doc pm:Value)(an:AX)(cdv ct:Value)(us:AU),(us++dd).length=ps.length->
   ∃k,bindArgs (fi x qual (gR st) (eI st) (bX st) (.ref T) kV doc pm an cdv ct) ⟨us,[]⟩=seqItems? (.ref T) >>= k/\k (some ds)=pure (ps.zip (us++dd))):jA K fd ps dd:=by
 obtain⟨oc,od,T,oT,n,kV,doc,pm,an,cdv,ct,osl,rfl,lk,hcd,lT,hT⟩:=F.ex;intro s us hK hl;obtain⟨k,h1,h2⟩:=h T kV doc pm an cdv ct us hl;exact PySem.W.binds_K hK rfl lT hT h1 h2
theorem Dq{x qual:Str}{st:Stmt}{f T:Addr}{oT:Obj}{n:Nat}{ds:Array Value}{oc:Value}{od an:AX}{osl:Array AW}{kV doc pm cdv ct:Value}(l:K.lookup f=some ⟨oc,od,.func (fi x qual (gR st) (eI st) (bX st) (.ref T) kV doc pm an cdv ct),osl⟩)
  (c:jz K cdv qual=true)(k:fu K (.ref f)=true)(lT:K.lookup T=some oT)(hT:oT.data=.seq ds n):kC K x qual st f (fi x qual (gR st) (eI st) (bX st) (.ref T) kV doc pm an cdv ct) ds:=
 ⟨⟨oc,od,T,oT,n,kV,doc,pm,an,cdv,ct,osl,rfl,l,c,lT,hT⟩,k⟩
end
theorem Zs{X:Cx}{sc:Scope}{own:List Str}{cap:List (Nat×Str)}(so:Scope)(N:List Str)(hso:X.env.scope=so)(hN:X.N=N)(kind:sc.kind=.function)(names:∀y∈sc.names,y.2=.local->sc.names.lookup y.1=some .local)
  (nocell:∀y∈sc.names,y.2≠.cell)(free:∀y∈sc.names,y.2=.free->so.names.lookup y.1=some .cell)(at':∀p∈cap,N[p.1]?=some p.2)(hcap:∀p∈cap,sc.names.lookup p.2=some .free):iA X sc own cap:=
 ⟨kind,names,nocell,λy hy e=>by show X.env.scope.names.lookup y.1=_;rw[hso];exact free y hy e,λp hp=>by rw[hN];exact at' p hp,hcap⟩
def pN(ns:AR)(w:Int):List V:=ns.map V.int++[.int w]
theorem Ac(n d:Nat):HT.sIx (n+1) d (some (-1))=n:=by
 unfold HT.sIx;simp;omega
section
variable{X:Cx}
end
theorem fV.has{P:Program}{w:aq}{H:Hp}{h:Heap}{a:Addr}{o:HO}(x:fV P w H h a o):∃u,h.get? a=some u:=by
 cases o with
 |lst xs=>obtain⟨_,_,_,_,e⟩:=x;exact⟨_,e⟩
 |tup xs=>obtain⟨_,_,_,u,e,_⟩:=x;exact⟨u,e⟩
 |dK kvs=>obtain⟨_,_,_,_,o,_,_,e,_⟩:=x;exact⟨_,e⟩
 |dT kvs=>obtain⟨_,_,_,_,o,_,_,e,_⟩:=x;exact⟨_,e⟩
 |set S n=>obtain⟨o,_,_,_,e,_⟩:=x;exact⟨_,e⟩
 |ins C dx fs=>obtain⟨_,_,_,e,_⟩:=x;exact⟨_,e⟩
 |own y=>exact x
 |xd fs=>obtain⟨_,⟨_,_,_,e,_⟩,_⟩:=x;exact⟨_,e⟩
 |rng lo hi=>obtain⟨_,_,_,e⟩:=x;exact⟨_,e⟩
 |frz ob u=>obtain⟨e,_⟩:=x;exact⟨_,e⟩
 |tbl ps=>exact⟨_,show h.get? a=some _ from x⟩
 |met f y=>exact⟨_,show h.get? a=some _ from x⟩
 |ext φ=>exact x.2.1
abbrev oB:AU:=[.type "ValueError",.type "Exception",.type "BaseException",.type "object"]
theorem abt{K:ag}{h:Heap}{C:Addr}{bmB:AU}{newId:String}(X:K.In h)(q:ke K C bmB newId=true):
  ∃bm N nm qn bs hdct sn sub ab col dd k0 k1 k2 k3 k5 mN,h.get? C=some (excClassObj nm qn C N bs bm hdct sn sub ab col dd k0 k1 k2 k3 k5 newId)/\h.Ns N mN/\mN "__init__"=none/\OwnTail h bmB bm:=by
 unfold ke at q;split at q
 .rename_i dd cd sl ho
  split at q
  .rename_i C' bm k0 k1 k2 k3 n k5 hm hs
   simp only[ji,beq_iff_eq,j0]at q;obtain⟨⟨⟨⟨⟨z1,z2⟩,hdel⟩,ht⟩,hok⟩,hni⟩:=q;subst z1 z2;obtain⟨nm,bs,mro,ns,qn,hd,sn,sub,ab,col,del⟩:=cd;dsimp only at hm hdel hok hni;subst hm hdel;have hsl:sl=#[k0,k1,k2,k3,some (.builtin n),k5]:=by
    obtain⟨l⟩:=sl;simp only at hs;rw[hs]
   subst hsl;refine⟨bm,ns,nm,qn,bs,hd,sn,sub,ab,col,dd,k0,k1,k2,k3,k5,_,X _ _ ho,.of_isNs (PySem.W.isNs_of_in X hok),PySem.W.nsMap_none_of_in X hok hni,PySem.W.tail_of_in X ht⟩
  .cases q
 .cases q
def iO(P:Program)(w:aq):jS:=λouter H s E e s'=>∃(x C t:Addr)(B:Heap)(H':Hp),e=.ref x/\s'.os=s.os/\jw s'.gens/\Un (fF outer) [] H H' s.heap s'.heap/\fM P w H' s'.heap/\
 Heap.FlyingW B outer x (.ref C) (.ref t) s'.heap/\(∀b o,s'.heap.get? b=some o->(∃u,H' b=some u)\/(∃o',s.heap.get? b=some o'/\b∉fF outer)->B.get? b=some o)/\E (.ref C) none H'
theorem Y7{P:Program}{w:aq}{K:ag}{mg:Str->AW}{base:Heap}{N:List Str}{qual:Str}{scope:Scope}{f:Addr}{cd:Value}{A:au}{outer:List bh}{BE:aa}{BF:Hp}{E:XK}
  {x:Str}{C:Addr}{txt:Str}{j:Nat}{np p1 cpos pos:ai}(hg:Gl (eV (iO P w) P w K mg base N qual scope f cd A outer BE BF E) x)(hm:mg x=some (.ref C))(hx:ke K C oB "ValueError.__new__"=true)
  (hd:(x==("__debug__":Str))=false:=by decide):
  PS (eV (iO P w) P w K mg base N qual scope f cd A outer BE BF E) (.Raise (some (.Call (.Name x np) [.Constant (.str txt) j p1] [] cpos)) none pos) (λ_ _ H=>E (.ref C) none H):=by
 intro BD s σ H D I h;obtain⟨bm,Nn,nm,qn,bs,hdct,sn,sub,ab,col,dd,k0,k1,k2,k3,k5,mN,hC,hN,hni,T⟩:=abt I.ok.mod.kin hx;refine wpAny_Raise_call_subT (C:=C) (nm:=nm) (q:=qn) (N:=Nn) (bs:=bs) (bm:=bm) (hdct:=hdct) (sn:=sn) (sub:=sub) (ab:=ab) (col:=col) (dd:=dd) (k0:=k0) (k1:=k1) (k2:=k2) (k3:=k3) (k5:=k5)
  PySem.F.excBase_ValueError (mN:=mN) (T.hasType (by decide)) (I.ok.hd rfl) rfl hni (De I hg hm ⟨rfl,?_⟩ hd)
 refine xa (bK ((pG acq rJ) cpos BD s σ H (λvs H1=>vs=[.str txt]/\H1=H) I ⟨rfl,rfl⟩) λus s2 q2=>?_);obtain⟨vs,H2,I2,r2,rfl,rfl⟩:=q2;have l2:=r2.length;refine⟨rfl,by rw[<-l2];show 1<=sizeLine;decide,I2.bk _ _ hC,hN.keeps I2.bk,T.keeps I2.bk,λh' e made=>?_⟩
 --the frame is left
 have stk:(eV (iO P w) P w K mg base N qual scope f cd A outer BE BF E).stack=envOfC qual scope BE.heap.objs.size f cd::outer:=rfl;have nfr:∀{b u},H2 b=some u->b∉fF (envOfC qual scope BE.heap.objs.size f cd::outer):=λ{b u} q z=>by
  rw[I2.stkFree b z]at q;cases q
 have nL:∀{b o},BE.heap.get? b=some o->b∉fF outer->b∉fF (envOfC qual scope BE.heap.objs.size f cd::outer):=λ{b o} q z y=>by
  rcases cq.mp (I2.stkSub b y)with g |g
  .exact absurd (dm (bj q) I2.ok.above) (by rw[g];exact je _)
  .exact z g
 refine wpAny_leaves_madeW (base:=vt s2.heap (fF (envOfC qual scope BE.heap.objs.size f cd::outer))) (h:=s2.heap) (s:={s2 with heap:=h'}) I2.ok.frames rfl (λb o q=>zk _ q)
  (PySem.W.funFrames_hide I2.stack λenv he b hb=>wk.mpr ⟨env,he,hb⟩) made λh'' t fl tup nb ups=>?_
 have keepB:∀b o,s2.heap.get? b=some o->b∉fF (envOfC qual scope BE.heap.objs.size f cd::outer)->h''.get? b=some o:=λb o q z=>fl.1 b o (vw _ q z);have upS:∀b o,s2.heap.get? b=some o->(∀vs,o.data≠.fields vs)->∃sl,h''.get? b=some {o with slots:=sl}:=λb o q z=>ups b o (made.keeps b o q) z;refine⟨e,C,t,_,H2,rfl,I2.os,I2.bare,⟨λb o q n hb _=>?_,λb o q n hb _=>?_,λb o q n _=>I2.base.free b o q n (by intro z;cases z),λb o q _=>?_,I2.base.tups,I2.base.frzs,I2.base.tbls⟩,λb u q=>?_,fl,λb o q z=>?_,h⟩
 .exact keepB b o (I2.base.keep b o q n hb (by intro z;cases z)) (nL q hb)
 .obtain⟨sl,g⟩:=I2.base.slot b o q n hb (by intro z;cases z)
  obtain⟨_,o',ho',hd'⟩:=I2.ok.funs.mem hb;have eo:o'=o:=by
   have ho2:BE.heap.get? b=some o':=ho';rw[q]at ho2;exact(ce ho2).symm
  subst eo;obtain⟨sl',g'⟩:=upS b _ g hd';exact⟨sl',g'⟩
 .obtain⟨o',g⟩:=I2.base.there b o q (by intro z;cases z)
  by_cases c:b∈fF (envOfC qual scope BE.heap.objs.size f cd::outer)
  .obtain⟨_,o2,ho2,hd2⟩:=I2.stack.mem c
   obtain⟨sl,g'⟩:=upS b o2 ho2 hd2;exact⟨_,g'⟩
  .exact⟨o',keepB b o' g c⟩
 .refine(I2.hok b u q).stay (λc v hc g=>keepB c v g ?_) (λ_ g=>g) λ_ _ g=>g
  rcases hc with z |z
  .rw[z]
   exact nfr q
  .exact nfr z
 .have go:∀{o2},s2.heap.get? b=some o2->b∉fF (envOfC qual scope BE.heap.objs.size f cd::outer)->(vt s2.heap (fF (envOfC qual scope BE.heap.objs.size f cd::outer))).get? b=some o:=λ{o2} g n=>by
   have:=keepB b o2 g n;have q':h''.get? b=some o:=q;rw[q']at this;cases this;exact vw _ g n
  rcases z with⟨u,z⟩|⟨o',z,nz⟩
  .obtain⟨o2,g⟩:=(I2.hok b u z).has
   exact go g (nfr z)
  .obtain⟨o2,g⟩:=I2.base.there b o' z (by intro z;cases z)
   exact go g (nL z nz)
section
variable{X:Cx}{BD:List (Addr×Obj)}{σ:St}{H H':Hp}{s s':aa}
end
section
variable{X:Cx}{k:Nat}{f:Addr}{fd:cf}{ps:List Str}{sp:Sp}{dvs:List V}{ds:AU}{E:XK}{x:Str}{p pos:ai}{e:ah}{es:List ah}{t:TA}
end
section
variable{P:Program}{w:aq}{K:ag}{mg:Str->AW}{base:Heap}{CX:jS}
theorem jD.okX{x qual:Str}{st:Stmt}{f:Addr}{fd:cf}{N ps:List Str}{k:Nat}{sp:Sp}(F:jD K x qual st f fd)(S:hJ N ps (bX st))(len:∀vs H Q E,sp vs H Q E->vs.length=ps.length)
  (hbody:∀(cdv:Value)(A:au)(outer:List bh)(s:aa)(H:Hp)(vs:List V)(Q:VK)(E:XK),dJ k (A.deeper (envOfC qual (bX st) s.heap.objs.size f cdv))->sp vs H Q E->
   ∃t,gB (eV CX P w K mg base N qual (bX st) f cdv A outer s H E) (eI st) t/\t {nx:=λ_ H'=>Q .non H',rt:=Q} (start N vs) H):eG P w K mg base CX (k+1) f fd ps sp:=by
 obtain⟨oc,od,kV,doc,pm,an,cdv,ct,osl,rfl,lk,hcd⟩:=F.ex;exact yK lk hcd S len λA outer s H vs Q E hr hsp=>hbody cdv A outer s H vs Q E hr hsp
theorem kC.okX{x qual:Str}{st:Stmt}{f:Addr}{fd:cf}{ds:Array Value}{N ps:List Str}{k:Nat}{sp:Sp}(F:kC K x qual st f fd ds)(S:hJ N ps (bX st))(len:∀vs H Q E,sp vs H Q E->vs.length=ps.length)
  (hbody:∀(cdv:Value)(A:au)(outer:List bh)(s:aa)(H:Hp)(vs:List V)(Q:VK)(E:XK),dJ k (A.deeper (envOfC qual (bX st) s.heap.objs.size f cdv))->sp vs H Q E->
   ∃t,gB (eV CX P w K mg base N qual (bX st) f cdv A outer s H E) (eI st) t/\t {nx:=λ_ H'=>Q .non H',rt:=Q} (start N vs) H):eG P w K mg base CX (k+1) f fd ps sp:=by
 obtain⟨oc,od,T,oT,n,kV,doc,pm,an,cdv,ct,osl,rfl,lk,hcd,_,_⟩:=F.ex;exact yK lk hcd S len λA outer s H vs Q E hr hsp=>hbody cdv A outer s H vs Q E hr hsp
end
section
variable{X:Cx}{BD:List (Addr×Obj)}{σ:St}{H:Hp}{s:aa}
end
section
variable{X:Cx}{BD:List (Addr×Obj)}{σ:St}{H:Hp}{s:aa}
end
section
variable{X:Cx}{k:Nat}{f:Addr}{fd:cf}{ps:List Str}{sp:Sp}{dvs:List V}{ds:AU}{x:Str}{p pos pos1 pos2 pos3 pc:ai}{e:ah}{es:List ah}{t:TA}{c n:Str}{C:Addr}{i:Nat}{BI:Stmt}{body:List Stmt}{newId:String}
end
open PySem.W PySem.Calls PySem.Builtin PySem.Builtin.Getset_descriptor
section
variable{prog:Program}{w:aq}{A:au}{E:Value->aa->Prop}{s:aa}{K:ag}{x D:Addr}{B:String}{R:qj->aa->Prop}
end
section
variable{X:Cx}{y D:Addr}{oe:Obj}
end
def gX(h:Heap)(l:AR)(a:Addr):Prop:=∃o its n,h.get? a=some o/\o.cls=.type "tuple"/\o.data=.seq its n/\bI (l.map V.int) its.toList
def jR(h:Heap)(ks:AS)(a:Addr):Prop:=∃o its n,h.get? a=some o/\o.cls=.type "tuple"/\o.data=.seq its n/\iz (λk v=>∃b,v=dy b/\gX h k b) ks its.toList
def hF(l:AR):Int:=reduceHash (xy (l.map hashInt))
def hN(l:AS):Int:=reduceHash (xy (l.map hF))
abbrev iK(prog:Program)(w:aq):KeyKind prog w Int:=intKind prog w
theorem Rn:∀{l m:AR}{us:AU},bI (l.map V.int) us->bI (m.map V.int) us->l=m
 |[],[],_,_,_=>rfl
 |[],_::_,_,.nil,h=>nomatch h
 |_::_,[],_,.cons _ _,h=>nomatch h
 |i::l,j::m,_,.cons r t,.cons r' t'=>by
  obtain⟨x,e⟩:=r;obtain⟨y,e'⟩:=r';rw[e]at e';injection e' with e1;rw[e1,Rn t t']
section
variable{prog:Program}{w:aq}{A:au}{E:Value->aa->Prop}{s:aa}{h h':Heap}{a b d:Addr}
theorem gX.inj{x y:AR}(hx:gX h x a)(hy:gX h y a):x=y:=by
 obtain⟨o,its,n,e,_,f,r⟩:=hx;obtain⟨o',its',n',e',_,f',r'⟩:=hy;cases ce (e.symm.trans e');cases f.symm.trans f';exact Rn r r'
theorem jR.inj{x y:AS}(hx:jR h x a)(hy:jR h y a):x=y:=by
 obtain⟨o,its,n,e,_,f,r⟩:=hx;obtain⟨o',its',n',e',_,f',r'⟩:=hy;cases ce (e.symm.trans e');cases f.symm.trans f'
 revert r r'
 generalize its.toList=us;intro r
 induction r generalizing y with
 |nil=>intro r';cases r';rfl
 |cons p _ ih=>
  intro r';cases r' with
  |cons p' t'=>
   obtain⟨b,rfl,g⟩:=p;obtain⟨b',eb,g'⟩:=p';cases eb;rw[g.inj g',ih t']
theorem Mt{o o':Obj}{its:Array Value}{n:Nat}{es ep}(e:h.get? a=some o)(f:o.data=.seq its n)(e':h.get? d=some o')(f':o'.data=.dict es ep):a≠d:=λz=>by
 rw[z,e']at e;cases e;rw[f]at f';cases f'
theorem gX.keep{l:AR}{o':Obj}{es ep}(x:gX h l a)(e':h.get? d=some o')(f':o'.data=.dict es ep)(sb:io d h h'):gX h' l a:=by
 obtain⟨o,its,n,e,c,f,r⟩:=x;exact⟨o,its,n,(sb.2 a (Mt e f e' f')).trans e,c,f,r⟩
theorem jR.keep{l:AS}{o':Obj}{es ep}(x:jR h l a)(e':h.get? d=some o')(f':o'.data=.dict es ep)(sb:io d h h'):jR h' l a:=by
 obtain⟨o,its,n,e,c,f,r⟩:=x;exact⟨o,its,n,(sb.2 a (Mt e f e' f')).trans e,c,f,Paired.mapP r λ_ _ ⟨b,eb,g⟩=>⟨b,eb,g.keep e' f' sb⟩⟩
theorem Ab:∀{l:AR}{us:AU},bI (l.map V.int) us->ItemsAre (iK prog w) l us
 |[],_,.nil=>.nil
 |i::l,_,.cons r t=>by
  obtain⟨t',rfl⟩:=r;exact .cons (by simp[iK,intKind,Value.isInt]) (Ab t)
theorem gX.key{l:AR}(x:gX h l a):IsTupleKey (iK prog w) h l a:=by
 obtain⟨o,its,n,e,c,f,r⟩:=x;exact⟨o,its,n,e,c,f,Ab r⟩
theorem O1{α:Type}[DecidableEq α](z:α)(l m:List α):((cu (min l.length m.length)).all (λj=>decide (l.getD j z=m.getD j z))&&l.length==m.length)=decide (l=m):=by
 rw[ot,ji,kb,decide_eq_true_iff];constructor
 .rintro⟨h1,h2⟩
  have hl:l.length=m.length:=by simpa using h2
  refine ue hl λi g1 g2=>?_;have:=h1 i (by simp;omega);simpa[cg,g1,g2]using this
 .rintro rfl
  exact⟨λi _=>by simp,by simp⟩
theorem wP{α β:Type}{R:α->β->Prop}:∀{l:List α}{m:List β},iz R l m->l.length=m.length/\∀(j:Nat)(x:α)(y:β),l[j]?=some x->m[j]?=some y->R x y
 |_,_,.nil=>⟨rfl,λj x y h=>by simp at h⟩
 |_,_,.cons r t=>by
  obtain⟨e,g⟩:=wP t;refine⟨by rw[cv,cv,e],λj x y h1 h2=>?_⟩;cases j with
  |zero=>
   simp at h1 h2;rw[<-h1,<-h2];exact r
  |succ j=>exact g j x y (by simpa using h1) (by simpa using h2)
theorem Mp{α:Type}[DecidableEq α](z:α){R:α->Value->Prop}{x y:List α}{o o':Obj}{us vs:Array Value}{n n':Nat}(hu:A.units<cLine)(ha:s.heap.get? a=some o)(hc:o.cls=.type "tuple")(hd:o.data=.seq us n)(hb:s.heap.get? b=some o')(hc':o'.cls=.type "tuple")(hd':o'.data=.seq vs n')
  (rx:iz R x us.toList)(ry:iz R y vs.toList)(same:a=b->x=y)(eq:∀k l u v,R k u->R l v->kg A.in1 s u v (decide (k=l))):kg A s (.ref a) (.ref b) (decide (x=y)):=by
 by_cases ab:a=b
 .rw[decide_eq_true (same ab),ab]
  exact uf _
 .obtain⟨m1,g1⟩:=wP rx
  obtain⟨m2,g2⟩:=wP ry;have l1:x.length=us.size:=by simpa using m1
  have l2:y.length=vs.size:=by simpa using m2
  have:=xz (A:=A) (s:=s) (l:=a) (b:=b) (items:=us) (items2:=vs) (e:=λj=>decide (x.getD j z=y.getD j z)) ⟨o,ha,hc,n,hd⟩ ⟨o',hb,hc',n',hd'⟩ hu λj h1 h2=>by
   have i1:j<x.length:=by omega
   have i2:j<y.length:=by omega
   have e1:x.getD j z=x[j]:=by simp[cg,i1]
   have e2:y.getD j z=y[j]:=by simp[cg,i2]
   rw[e1,e2];exact eq _ _ _ _ (g1 j _ _ (ax i1) (by simp[h1])) (g2 j _ _ (ax i2) (by simp[h2]))
  rw[<-l1,<-l2,O1]at this;exact ya ab this
theorem Gb:∀{l:AR}{us:AU},bI (l.map V.int) us->iz (λ(i:Int) v=>∃t,v=qb i t) l us
 |[],_,.nil=>.nil
 |_::_,_,.cons r t=>.cons r (Gb t)
theorem gX.eq{x y:AR}(hu:A.units<cLine)(hx:gX s.heap x a)(hy:gX s.heap y b):kg A s (.ref a) (.ref b) (decide (x=y)):=by
 have inj:a=b->x=y:=λz=>by subst z;exact hx.inj hy
 obtain⟨o,us,n,e,c,f,r⟩:=hx;obtain⟨o',vs,n',e',c',f',r'⟩:=hy;refine Mp 0 hu e c f e' c' f' (Gb r) (Gb r') inj ?_
 rintro k l u v ⟨t,eu⟩ ⟨t',ev⟩
 subst eu ev;have:=j1 (A:=A.in1) (s:=s) k t l t';have e:(k==l)=decide (k=l):=by by_cases q:k=l<;>simp[q]
 rwa[e]at this
theorem jR.eq{x y:AS}(hu:A.units+1<cLine)(hx:jR s.heap x a)(hy:jR s.heap y b):kg A s (.ref a) (.ref b) (decide (x=y)):=by
 have inj:a=b->x=y:=λz=>by subst z;exact hx.inj hy
 obtain⟨o,us,n,e,c,f,r⟩:=hx;obtain⟨o',vs,n',e',c',f',r'⟩:=hy;refine Mp [] (yb hu) e c f e' c' f' r r' inj ?_
 rintro k l u v ⟨p,eu,g⟩ ⟨q,ev,g'⟩
 subst eu ev;exact g.eq hu g'
theorem Pj{Q:Array Int->aa->Prop}(hu:A.units<cLine):∀(ks:AS)(vs:AU)(t:Nat)(acc:Array Int),iz (λk v=>∃b,v=dy b/\gX s.heap k b) ks vs->
  (∀acc':Array Int,acc'.toList=acc.toList++ks.map hF->Q acc' {s with toks:=t+(ks.map λk=>k.length+1).sum})->
  wpAny (model prog w) A (forIn vs acc λx r=>do let h <-pyHash x;pure PUnit.unit;pure (xl (r.push h))) Q E {s with toks:=t}
 |[],_,t,acc,.nil,q=>ao (by simpa using q acc (by simp))
 |k::ks,_,t,acc,.cons ⟨b,eb,g⟩ r,q=>by
  subst eb;rw[tm];refine ae (ae (wpAny_pyHash_tuple (knd:=iK prog w) (s:={s with toks:=t}) hu g.key ?_));refine ae (ao (ao ?_));refine Pj hu ks _ (t+(k.length+1)) _ r λacc' e=>?_;have:=q acc' (by rw[e];simp[hF,tupleKeyHash,iK,intKind]);rw[aw,ug]at this;simpa[yc]using this
theorem jR.hash{ks:AS}{Q:Int->aa->Prop}(hu:A.units+1<cLine)(hk:jR s.heap ks a)(q:Q (hN ks) {s with toks:=s.toks+((ks.map λk=>k.length+1).sum+1)}):wpAny (model prog w) A (pyHash (.ref a)) Q E s:=by
 obtain⟨o,its,n,e,c,f,r⟩:=hk;refine PySem.W.pyHash_slot (T:="tuple") ⟨o,e,c⟩ F.slot_tuple_hash F.entry_tuple_hash (F.args_tuple_hash_1 _) (beq_builtin_none _) (.inr (yb hu)) ?_;show wpAny _ _ (a6 (.ref a) >>= _) _ _ s;refine ae (wpAny_tupleItemsOf e f (ae ?_));rw[<-j2];refine Pj hu ks its.toList s.toks #[] r λacc ea=>?_;show wpAny _ _ (retInt (xy acc.toList)) _ _ _;rw[ea];exact ae (wpAny_mkInt (ao ⟨_,_,rfl,by simpa[hN,yc]using q⟩))
theorem Gj{n:Nat}{P:Value->Prop}(hP:∀v(Q:Bool->aa->Prop),P v->Q true s->wpAny (model prog w) A (eqIsQuiet n v) Q E s){o:Obj}{its:Array Value}{m:Nat}{Q:Bool->aa->Prop}(e:s.heap.get? a=some o)(c:o.cls=.type "tuple")(f:o.data=.seq its m)(r:∀v∈its.toList,P v)(q:Q true s):
  wpAny (model prog w) A (eqIsQuiet (n+1) (.ref a)) Q E s:=by
 have hT:s.TypeIs (.ref a) "tuple":=⟨o,e,c⟩;unfold eqIsQuiet;refine ae (wpAny_specialOf hT F.slot_tuple_eq.lookup (ae (xx hT isSubtype_tuple_tuple ?_)));rw[if_neg (by simp)];refine ae (kn e f (ae ?_));show wpAny _ _ (forIn its _ _) _ _ s;rw[<-j2];refine wpAny_forIn_list _ (λiJ z s'=>s'=s/\z.1=none/\∀v∈iJ,P v) _ ?_ ?_ _ _ ⟨rfl,rfl,r⟩
 .rintro v iJ z s' ⟨rfl,hz,hr⟩
  refine ae (hP v _ (hr v bi) ?_);rw[if_neg (by simp)];exact ao ⟨rfl,rfl,λu hu=>hr u (bn _ hu)⟩
 .rintro⟨z1,z2⟩ s' ⟨rfl,hz,_⟩
  cases hz;exact ao q
theorem gX.quiet{n:Nat}{l:AR}{Q:Bool->aa->Prop}(hk:gX s.heap l a)(q:Q true s):wpAny (model prog w) A (eqIsQuiet (n+1) (.ref a)) Q E s:=by
 obtain⟨o,its,m,e,c,f,r⟩:=hk;refine Gj (P:=λv=>carriedByValue v=true) (λv Q' hv q'=>?_) e c f (Ab (prog:=prog) (w:=w) r).byValue q;rw[eqIsQuiet_byValue _ hv];exact ao q'
theorem jR.quiet{ks:AS}{Q:Bool->aa->Prop}(hk:jR s.heap ks a)(q:Q true s):wpAny (model prog w) A (eqIsQuiet 8 (.ref a)) Q E s:=by
 obtain⟨o,its,m,e,c,f,r⟩:=hk;refine Gj (P:=λv=>∃k b,v=.ref b/\gX s.heap k b) (λv Q' ⟨k,b,ev,g⟩ q'=>by subst ev;exact g.quiet (n:=6) q') e c f (λv hv=>?_) q;obtain⟨l1,g⟩:=wP r;obtain⟨i,hi,ev⟩:=tx.mp hv;have i1:i<ks.length:=by rw[l1];exact hi
 obtain⟨b,eb,gb⟩:=g i _ v (ax i1) (by rw[ax hi,ev]);exact⟨_,b,eb,gb⟩
end
def L8(prog:Program)(w:aq):HeapKind prog w AS where
 is:=jR
 hash:=hN
 draws:=λks=>(ks.map λk=>k.length+1).sum+1
 room:=λA=>A.units+1<cLine
 inj:=λhx hy=>hx.inj hy
 keeps:=λx ho hd hs=>x.keep ho hd hs
 pyHash:=λhu hk h=>hk.hash hu h
 eqBool:=λhu hx hy h=>hx.eq hu hy _ _ _ _ h
 quiet:=λhk h=>hk.quiet h
def gF:Bool->Type
 |false=>AR
 |true=>AS
instance decK:(n:Bool)->DecidableEq (gF n)
 |false=>inferInstanceAs (DecidableEq AR)
 |true=>inferInstanceAs (DecidableEq AS)
def Xu:(n:Bool)->gF n->Int
 |false=>hF
 |true=>hN
def mH(prog:Program)(w:aq):(n:Bool)->HeapKind prog w (gF n)
 |false=>tupleKind (iK prog w)
 |true=>L8 prog w
theorem Pk{prog:Program}{w:aq}:∀(n:Bool)(k:gF n),(mH prog w n).hash k=Xu n k
 |false,_=>rfl
 |true,_=>rfl
theorem Za{prog:Program}{w:aq}{A:au}(hu:A.units+2<cLine):∀n:Bool,(mH prog w n).room A.in1
 |false=>yb hu
 |true=>hu
end L2
namespace L2.Pp
open PySem PySem.Spec PyProof.Rows Bn
section
inductive PV where
 |non |bl (b:Bool) |int (i:Int) |str (x:Str) |tup (xs:List PV) |lst (xs:List PV)
abbrev AZ:=List PV
abbrev BA:=Option PV
inductive SO where
 |lst (xs:AZ)
 |lol (xss:List AZ)
 |dic (n:Bool) (kvs:List (PV×PV))
 |dol (n:Bool) (kvs:List (PV×AZ))
abbrev aH:=List SO
inductive AV where
 |pv (v:PV) |ref (k:Nat)
abbrev BB:=Option AV
abbrev BC:=List AV
abbrev bZ:=List BB
inductive bP(α:Type) where
 |ok (a:α) (S:aH) |exc (n:Str) (S:aH) |fail
def bP.bind{α β:Type}(r:bP α)(k:α->aH->bP β):bP β:=match r with
 |.ok a S=>k a S
 |.exc n S=>.exc n S
 |.fail=>.fail
inductive cN where
 |nx (ρ:bZ) (S:aH) |rt (v:AV) (S:aH) |bk (ρ:bZ) (S:aH) |ct (ρ:bZ) (S:aH) |exc (n:Str) (S:aH) |fail
def kQ(K:ag)(c:Addr->Prop)(H:Hp)(a:Addr)(vs:List V):Prop:=
 (H a=some (.lst vs)/\¬c a)\/(∃o,H a=some (.frz o (.lst vs)))\/
  ∃(o:Obj)(its:Array Value)(n:Nat),K.lookup a=some o/\o.cls=.type "list"/\o.dict=none/\o.data=.seq its n/\its.size<=sizeLine/\bI vs its.toList
theorem kQ.sq{K:ag}{c:Addr->Prop}{H:Hp}{a:Addr}{vs:List V}(h:kQ K c H a vs):cK K H a vs:=by
 rcases h with h |h |h
 .exact .inl (.inl h.1)
 .exact .inl (.inr h)
 .exact .inr h
mutual
def aT(K:ag)(c:Addr->Prop)(H:Hp):PV->V->Prop
 |.non,x=>x=.non
 |.bl b,x=>x=.bl b
 |.int i,x=>x=.int i
 |.str s,x=>x=.str s
 |.tup xs,x=>∃a vs,x=.ref a/\dP K H a vs/\vs.length<=sizeLine/\aS K c H xs vs
 |.lst xs,x=>∃a vs,x=.ref a/\kQ K c H a vs/\vs.length<=sizeLine/\aS K c H xs vs
def aS(K:ag)(c:Addr->Prop)(H:Hp):AZ->List V->Prop
 |[],vs=>vs=[]
 |p::ps,vs=>∃v r,vs=v::r/\aT K c H p v/\aS K c H ps r
end
section
variable{K:ag}{c c':Addr->Prop}{H H':Hp}
mutual
theorem aT.mono(hT:∀a vs,dP K H a vs->dP K H' a vs)(hL:∀a vs,kQ K c H a vs->kQ K c' H' a vs):∀(v:PV)(x:V),aT K c H v x->aT K c' H' v x
 |.non,x,h=>h
 |.bl b,x,h=>h
 |.int i,x,h=>h
 |.str s,x,h=>h
 |.tup xs,x,h=>by
  unfold aT at h⊢;obtain⟨a,vs,e,t,z,r⟩:=h;exact⟨a,vs,e,hT a vs t,z,aS.mono hT hL xs vs r⟩
 |.lst xs,x,h=>by
  unfold aT at h⊢;obtain⟨a,vs,e,t,z,r⟩:=h;exact⟨a,vs,e,hL a vs t,z,aS.mono hT hL xs vs r⟩
theorem aS.mono(hT:∀a vs,dP K H a vs->dP K H' a vs)(hL:∀a vs,kQ K c H a vs->kQ K c' H' a vs):∀(v:AZ)(x:List V),aS K c H v x->aS K c' H' v x
 |[],vs,h=>by
  unfold aS at h⊢;exact h
 |p::ps,vs,h=>by
  unfold aS at h⊢;obtain⟨v,r,e,h1,h2⟩:=h;exact⟨v,r,e,aT.mono hT hL p v h1,aS.mono hT hL ps r h2⟩
end
theorem aS.length:∀{xs:AZ}{vs:List V},aS K c H xs vs->xs.length=vs.length
 |[],vs,h=>by
  unfold aS at h;rw[h];rfl
 |p::ps,vs,h=>by
  unfold aS at h;obtain⟨v,r,rfl,_,h2⟩:=h;rw[cv,cv,aS.length h2]
theorem aS.get:∀{xs:AZ}{vs:List V}{i:Nat}{p:PV},aS K c H xs vs->xs[i]?=some p->∃v,vs[i]?=some v/\aT K c H p v
 |[],vs,i,p,h,e=>by simp at e
 |q::ps,vs,0,p,h,e=>by
  unfold aS at h;obtain⟨v,r,rfl,h1,_⟩:=h;simp at e;subst e;exact⟨v,rfl,h1⟩
 |q::ps,vs,i+1,p,h,e=>by
  unfold aS at h;obtain⟨v,r,rfl,_,h2⟩:=h;obtain⟨u,e1,e2⟩:=aS.get (i:=i) h2 (by simpa using e);exact⟨u,by simpa using e1,e2⟩
theorem aS.nil:aS K c H [] []:=by
 unfold aS;rfl
theorem aS.cons{p:PV}{v:V}{ps:AZ}{vs:List V}(h:aT K c H p v)(t:aS K c H ps vs):aS K c H (p::ps) (v::vs):=by
 unfold aS;exact⟨v,vs,rfl,h,t⟩
theorem aS.append:∀{xs ys:AZ}{vs ws:List V},aS K c H xs vs->aS K c H ys ws->aS K c H (xs++ys) (vs++ws)
 |[],ys,vs,ws,h,g=>by
  unfold aS at h;subst h;exact g
 |p::ps,ys,vs,ws,h,g=>by
  unfold aS at h;obtain⟨v,r,rfl,h1,h2⟩:=h;exact .cons h1 (h2.append g)
theorem aS.drop:∀{xs:AZ}{vs:List V}(n:Nat),aS K c H xs vs->aS K c H (xs.drop n) (vs.drop n)
 |xs,vs,0,h=>by simpa using h
 |[],vs,n+1,h=>by
  unfold aS at h;subst h;simpa using aS.nil
 |p::ps,vs,n+1,h=>by
  unfold aS at h;obtain⟨v,r,rfl,_,h2⟩:=h;simpa using h2.drop n
theorem aS.take:∀{xs:AZ}{vs:List V}(n:Nat),aS K c H xs vs->aS K c H (xs.take n) (vs.take n)
 |xs,vs,0,h=>by simpa using aS.nil
 |[],vs,n+1,h=>by
  unfold aS at h;subst h;simpa using aS.nil
 |p::ps,vs,n+1,h=>by
  unfold aS at h;obtain⟨v,r,rfl,h1,h2⟩:=h;simpa using aS.cons h1 (h2.take n)
theorem aS.eraseIdx:∀{xs:AZ}{vs:List V}(n:Nat),aS K c H xs vs->aS K c H (xs.eraseIdx n) (vs.eraseIdx n)
 |[],vs,n,h=>by
  unfold aS at h;subst h;simpa using aS.nil
 |p::ps,vs,0,h=>by
  unfold aS at h;obtain⟨v,r,rfl,h1,h2⟩:=h;simpa using h2
 |p::ps,vs,n+1,h=>by
  unfold aS at h;obtain⟨v,r,rfl,h1,h2⟩:=h;simpa using aS.cons h1 (h2.eraseIdx n)
theorem aS.set{p:PV}{v:V}(g:aT K c H p v):∀{xs:AZ}{vs:List V}(n:Nat),aS K c H xs vs->aS K c H (xs.set n p) (vs.set n v)
 |[],vs,n,h=>by
  unfold aS at h;subst h;simpa using aS.nil
 |q::ps,vs,0,h=>by
  unfold aS at h;obtain⟨v,r,rfl,h1,h2⟩:=h;simpa using aS.cons g h2
 |q::ps,vs,n+1,h=>by
  unfold aS at h;obtain⟨v,r,rfl,h1,h2⟩:=h;simpa using aS.cons h1 (aS.set g n h2)
end
structure Ph where
 f:List Addr
 w:Addr->Prop
 c:Addr->Prop
def yI(K:ag)(c:Addr->Prop)(H:Hp)(xss:List AZ)(bs:List Addr):Prop:=
 xss.length=bs.length/\∀(i:Nat)(xs:AZ)(b:Addr),xss[i]?=some xs->bs[i]?=some b->∃vs,H b=some (.lst vs)/\vs.length<=sizeLine/\aS K c H xs vs
def eF:(n:Bool)->gF n->PV
 |false,l=>.tup (ko PV.int l)
 |true,l=>.tup (ko (λr:AR=>PV.tup (r.map PV.int)) l)
def oD(es:Array DictEntry)(ep:Nat):Obj:={cls:=.type "dict",data:=.dict es ep}
def dO(a:Addr)(es:Array DictEntry)(ep:Nat):HO:=.ext λh=>h.get? a=some (oD es ep)
def jQ(n:Bool)(x:gF n×Addr×Value):DictEntry:=⟨Xu n x.1,.ref x.2.1,x.2.2⟩
def oW(K:ag)(c:Addr->Prop)(H:Hp)(a:Addr)(n:Bool)(ks:AZ)(us:AU):Prop:=
 ∃(xs:List (gF n×Addr×Value))(ep:Nat),H a=some (dO a (xs.map (jQ n)).toArray ep)/\(a==sysModules)=false/\xs.length<=sizeLine/\(xs.map (·.1)).Nodup/\ks=xs.map (λx=>eF n x.1)/\aS K c H ks (xs.map λx=>V.ref x.2.1)/\us=xs.map (·.2.2)
def oM(K:ag)(p:Ph)(H:Hp)(a:Addr):SO->Prop
 |.lst xs=>∃vs,H a=some (.lst vs)/\vs.length<=sizeLine/\aS K p.c H xs vs
 |.lol xss=>∃bs:List Addr,H a=some (.lst (bs.map V.ref))/\bs.length<=sizeLine/\bs.Nodup/\(∀b∈bs,p.w b/\b∉p.f)/\yI K p.c H xss bs
 |.dic n kvs=>∃us vs,oW K p.c H a n (kvs.map (·.1)) us/\bI vs us/\aS K p.c H (kvs.map (·.2)) vs
 |.dol n kvs=>∃bs:List Addr,oW K p.c H a n (kvs.map (·.1)) (bs.map dy)/\bs.Nodup/\(∀b∈bs,p.w b/\b∉p.f)/\yI K p.c H (kvs.map (·.2)) bs
theorem oW.mono{K:ag}{c c':Addr->Prop}{H H':Hp}{a:Addr}{n:Bool}{ks:AZ}{us:AU}(h:oW K c H a n ks us)(ha:∀o,H a=some o->H' a=some o)(hR:∀xs vs,aS K c H xs vs->aS K c' H' xs vs):oW K c' H' a n ks us:=by
 obtain⟨xs,ep,e,z,l,nd,ek,r,eu⟩:=h;exact⟨xs,ep,ha _ e,z,l,nd,ek,hR _ _ r,eu⟩
theorem oM.mono{K:ag}{p p':Ph}{H H':Hp}{a:Addr}{o:SO}(h:oM K p H a o)(ha:∀o,H a=some o->H' a=some o)
  (hb:∀b,p.w b->b∉p.f->(p'.w b/\b∉p'.f)/\∀vs,H b=some (.lst vs)->H' b=some (.lst vs))(hR:∀xs vs,aS K p.c H xs vs->aS K p'.c H' xs vs):oM K p' H' a o:=by
 have lol:∀{xss:List AZ}{bs:List Addr},(∀b∈bs,p.w b/\b∉p.f)->yI K p.c H xss bs->yI K p'.c H' xss bs:=λwf ⟨z,at_⟩=>⟨z,λi xs b e1 e2=>by
  obtain⟨vs,g1,g2,g3⟩:=at_ i xs b e1 e2;have m:=wf b (dg e2);exact⟨vs,(hb b m.1 m.2).2 vs g1,g2,hR xs vs g3⟩⟩
 cases o with
 |lst xs=>
  obtain⟨vs,e,l,r⟩:=h;exact⟨vs,ha _ e,l,hR xs vs r⟩
 |lol xss=>
  obtain⟨bs,e,l,nd,wf,z⟩:=h;exact⟨bs,ha _ e,l,nd,λb m=>(hb b (wf b m).1 (wf b m).2).1,lol wf z⟩
 |dic n kvs=>
  obtain⟨us,vs,d,v,r⟩:=h;exact⟨us,vs,d.mono ha hR,v,hR _ _ r⟩
 |dol n kvs=>
  obtain⟨bs,d,nd,wf,z⟩:=h;exact⟨bs,d.mono ha hR,nd,λb m=>(hb b (wf b m).1 (wf b m).2).1,lol wf z⟩
def Mb:HO->Prop
 |.lst _=>True
 |.dK _=>True
 |.dT _=>True
 |.ins _ _ _=>True
 |.ext _=>True
 |_=>False
structure aX(K:ag)(p:Ph)(S:aH)(H:Hp):Prop where
 nd:p.f.Nodup
 len:p.f.length=S.length
 sub:∀a∈p.f,p.w a
 wc:∀a,p.w a->p.c a
 mu:∀a,p.c a->∃o,H a=some o/\Mb o
 obj:∀(k:Nat)(a:Addr)(o:SO),p.f[k]?=some a->S[k]?=some o->oM K p H a o
structure bQ(p:Ph)(H:Hp)(q:Ph)(H':Hp):Prop where
 wc:∀a,p.w a->p.c a
 mu:∀a,p.c a->∃o,H a=some o/\Mb o
 pre:p.f <+:q.f
 mw:∀a,p.w a->q.w a
 mono:∀a,p.c a->q.c a
 nf:∀a∈q.f,a∉p.f->H a=none
 nw:∀a,q.w a->¬p.w a->H a=none
 nc:∀a,q.c a->¬p.c a->H a=none
 keep:∀a o,H a=some o->¬p.w a->H' a=some o
def cD(K:ag)(p:Ph)(H:Hp):AV->V->Prop
 |.pv v,x=>aT K p.c H v x
 |.ref k,x=>∃a,p.f[k]?=some a/\x=.ref a
abbrev gL(K:ag)(p:Ph)(H:Hp):BC->List V->Prop:=iz (cD K p H)
structure dM(K:ag)(p:Ph)(H:Hp)(ρ:bZ)(σ:St):Prop where
 len:ρ.length=σ.length
 at_:∀(i:Nat)(v:AV),ρ[i]?=some (some v)->∃x,σ[i]?=some (some x)/\cD K p H v x
section
variable{K:ag}{p q r:Ph}{H H' H'':Hp}{S:aH}
theorem aX.step(s:aX K p S H):bQ p H p H:=⟨s.wc,s.mu,kh,λ_ h=>h,λ_ h=>h,λ_ h g=>absurd h g,λ_ h g=>absurd h g,λ_ h g=>absurd h g,λ_ _ h _=>h⟩
theorem bQ.trans(a:bQ p H q H')(b:bQ q H' r H''):bQ p H r H'':=by
 have back:∀x,H' x=none->¬p.w x->H x=none:=λx h n=>by
  cases e:H x with
  |none=>rfl
  |some o=>rw[a.keep x o e n]at h;cases h
 refine⟨a.wc,a.mu,a.pre.trans b.pre,λx h=>b.mw x (a.mw x h),λx h=>b.mono x (a.mono x h),λx h n=>?_,λx h n=>?_,λx h n=>?_,λx o e n=>?_⟩
 .by_cases m:x∈q.f
  .exact a.nf x m n
  .have hn:=b.nf x h m
   refine back x hn λz=>?_;obtain⟨o,ho,_⟩:=b.mu x (a.mono x (a.wc x z));rw[hn]at ho;cases ho
 .by_cases m:q.w x
  .exact a.nw x m n
  .exact back x (b.nw x h m) n
 .by_cases m:q.c x
  .exact a.nc x m n
  .exact back x (b.nc x h m) λz=>n (a.wc x z)
 .refine b.keep x o (a.keep x o e n) λz=>?_
  rw[a.nw x z n]at e;cases e
theorem bQ.tup(s:bQ p H q H'){a:Addr}{vs:List V}(h:dP K H a vs):dP K H' a vs:=by
 have go:∀o,H a=some o->¬Mb o->H' a=some o:=λo e n=>s.keep a o e λz=>by
  obtain⟨u,e',m⟩:=s.mu a (s.wc a z);rw[e]at e';cases e';exact n m
 rcases h with(h |⟨o,h⟩) |h
 .exact .inl (.inl (go _ h (λz=>z)))
 .exact .inl (.inr ⟨o,go _ h (λz=>z)⟩)
 .exact .inr h
theorem bQ.lat(s:bQ p H q H'){a:Addr}{vs:List V}(h:kQ K p.c H a vs):kQ K q.c H' a vs:=by
 rcases h with⟨h,n⟩|⟨o,h⟩|h
 .refine .inl ⟨s.keep a _ h λz=>n (s.wc a z),λz=>?_⟩
  rw[s.nc a z n]at h;cases h
 .refine .inr (.inl ⟨o,s.keep a _ h λz=>?_⟩)
  obtain⟨u,e',m⟩:=s.mu a (s.wc a z);rw[h]at e';cases e';exact m
 .exact .inr (.inr h)
theorem bQ.rep(s:bQ p H q H'){v:PV}{x:V}(h:aT K p.c H v x):aT K q.c H' v x:=aT.mono (λ_ _=>s.tup) (λ_ _=>s.lat) v x h
theorem bQ.reps(s:bQ p H q H'){v:AZ}{x:List V}(h:aS K p.c H v x):aS K q.c H' v x:=aS.mono (λ_ _=>s.tup) (λ_ _=>s.lat) v x h
theorem bQ.at_(s:bQ p H q H'){k:Nat}{a:Addr}(h:p.f[k]?=some a):q.f[k]?=some a:=by
 obtain⟨t,e⟩:=s.pre;rw[<-e,fx (by
  have:=br.mp h;exact this.1)]
 exact h
theorem bQ.repA(s:bQ p H q H'){v:AV}{x:V}(h:cD K p H v x):cD K q H' v x:=by
 cases v with
 |pv v=>exact s.rep h
 |ref k=>
  obtain⟨a,e,f⟩:=h;exact⟨a,s.at_ e,f⟩
theorem bQ.repE(s:bQ p H q H'){ρ:bZ}{σ:St}(h:dM K p H ρ σ):dM K q H' ρ σ:=
 ⟨h.len,λi v e=>let⟨x,e1,e2⟩:=h.at_ i v e;⟨x,e1,s.repA e2⟩⟩
theorem aX.same(s:aX K p S H)(h:eD H H'):bQ p H p H':=⟨s.wc,s.mu,kh,λ_ h=>h,λ_ h=>h,λ_ h g=>absurd h g,λ_ h g=>absurd h g,λ_ h g=>absurd h g,λa o e _=>h a o e⟩
theorem aX.ofSame(s:aX K p S H)(h:eD H H'):aX K p S H':=
 ⟨s.nd,s.len,s.sub,s.wc,λa m=>let⟨o,e,m⟩:=s.mu a m;⟨o,h a o e,m⟩,λk a o e1 e2=>by
  exact(s.obj k a o e1 e2).mono (λvs e=>h _ _ e) (λb w f=>⟨⟨w,f⟩,λvs e=>h _ _ e⟩) λxs vs=>(s.same h).reps⟩
theorem iF{a:Addr}{o:HO}(h:H a=none):eD H (aW H a o):=λb u e=>by
 rw[bT (gD e h)];exact e
end
section
variable{α β γ δ:Type}
def bY(K:ag)(cl:Str->Addr)(R:Ph->Hp->α->β->Prop)(p:Ph)(H:Hp)(r:bP α)(Q:β->Hp->Prop)(E:XK):Prop:=match r with
 |.ok a S=>∀q H' x,bQ p H q H'->aX K q S H'->R q H' a x->Q x H'
 |.exc n S=>∀q H',bQ p H q H'->aX K q S H'->E (.ref (cl n)) none H'
 |.fail=>False
def eP(K:ag)(cl:Str->Addr)(p:Ph)(H:Hp)(r:cN)(D:nH)(E:XK):Prop:=match r with
 |.nx ρ S=>∀q H' σ,bQ p H q H'->aX K q S H'->dM K q H' ρ σ->D.nx σ H'
 |.bk ρ S=>∀q H' σ,bQ p H q H'->aX K q S H'->dM K q H' ρ σ->D.bk σ H'
 |.ct ρ S=>∀q H' σ,bQ p H q H'->aX K q S H'->dM K q H' ρ σ->D.ct σ H'
 |.rt v S=>∀q H' x,bQ p H q H'->aX K q S H'->cD K q H' v x->D.rt x H'
 |.exc n S=>∀q H',bQ p H q H'->aX K q S H'->E (.ref (cl n)) none H'
 |.fail=>False
variable{K:ag}{cl:Str->Addr}{p q:Ph}{H H':Hp}{S:aH}{E:XK}{R:Ph->Hp->α->β->Prop}{R':Ph->Hp->γ->δ->Prop}
theorem bY.mono{r:bP α}{Q:β->Hp->Prop}(h:bY K cl R p H r Q E)(s:bQ p H q H'):bY K cl R q H' r Q E:=by
 cases r with
 |ok a S=>exact λq' H'' x s'=>h q' H'' x (s.trans s')
 |exc n S=>exact λq' H'' s'=>h q' H'' (s.trans s')
 |fail=>exact h
theorem eP.mono{r:cN}{D:nH}(h:eP K cl p H r D E)(s:bQ p H q H'):eP K cl q H' r D E:=by
 cases r with
 |nx ρ S=>exact λq' H'' x s'=>h q' H'' x (s.trans s')
 |bk ρ S=>exact λq' H'' x s'=>h q' H'' x (s.trans s')
 |ct ρ S=>exact λq' H'' x s'=>h q' H'' x (s.trans s')
 |rt v S=>exact λq' H'' x s'=>h q' H'' x (s.trans s')
 |exc n S=>exact λq' H'' s'=>h q' H'' (s.trans s')
 |fail=>exact h
theorem bY.ret{a:α}{x:β}{Q:β->Hp->Prop}(h:bY K cl R p H (.ok a S) Q E)(s:aX K p S H)(r:R p H a x):Q x H:=h p H x s.step s r
theorem bY.same{a:α}{x:β}{Q:β->Hp->Prop}(h:bY K cl R p H (.ok a S) Q E)(s:aX K p S H)(e:eD H H')(r:R p H' a x):Q x H':=h p H' x (s.same e) (s.ofSame e) r
def tP(K:ag)(cl:Str->Addr)(E:XK)(R:Ph->Hp->α->β->Prop)(m:bZ->aH->bP α)(σ:St)(H:Hp)(Q:β->Hp->Prop):Prop:=
 ∃p S ρ,aX K p S H/\dM K p H ρ σ/\bY K cl R p H (m ρ S) Q E
def tS(K:ag)(cl:Str->Addr)(E:XK)(m:bZ->aH->cN):TS:=λD σ H=>
 ∃p S ρ,aX K p S H/\dM K p H ρ σ/\eP K cl p H (m ρ S) D E
theorem cO{m:bZ->aH->bP α}{k:α->aH->bP γ}{ρ:bZ}{σ:St}{Q:δ->Hp->Prop}{T:β->Hp->Prop}(s:aX K p S H)(e:dM K p H ρ σ)(h:bY K cl R' p H ((m ρ S).bind k) Q E)
  (g:∀q H' a b S',bQ p H q H'->aX K q S' H'->dM K q H' ρ σ->R q H' a b->bY K cl R' q H' (k a S') Q E->T b H'):tP K cl E R m σ H T:=by
 refine⟨p,S,ρ,s,e,?_⟩;cases z:m ρ S with
 |ok a S1=>
  rw[z]at h;exact λq H' b st sm r=>g q H' a b S1 st sm (st.repE e) r (bY.mono (r:=k a S1) h st)
 |exc n S1=>
  rw[z]at h;exact h
 |fail=>
  rw[z]at h;exact h
def cN.of{α:Type}(r:bP α)(k:α->aH->cN):cN:=match r with
 |.ok a S=>k a S
 |.exc n S=>.exc n S
 |.fail=>.fail
theorem jJ{m:bZ->aH->bP α}{k:α->aH->cN}{ρ:bZ}{σ:St}{D:nH}{T:β->Hp->Prop}(s:aX K p S H)(e:dM K p H ρ σ)(h:eP K cl p H (cN.of (m ρ S) k) D E)
  (g:∀q H' a b S',bQ p H q H'->aX K q S' H'->dM K q H' ρ σ->R q H' a b->eP K cl q H' (k a S') D E->T b H'):tP K cl E R m σ H T:=by
 refine⟨p,S,ρ,s,e,?_⟩;cases z:m ρ S with
 |ok a S1=>
  rw[z]at h;exact λq H' b st sm r=>g q H' a b S1 st sm (st.repE e) r (eP.mono (r:=k a S1) h st)
 |exc n S1=>
  rw[z]at h;exact h
 |fail=>
  rw[z]at h;exact h
end
end
abbrev RB:Ph->Hp->Bool->Bool->Prop:=λ_ _ a b=>a=b
abbrev ME:=bZ->aH->bP AV
abbrev MT:=bZ->aH->bP Bool
abbrev MA:=bZ->aH->bP BC
abbrev MS:=bZ->aH->cN
section
variable(K:ag)(cl:Str->Addr)(E:XK)(X:Cx)
def aU(e:ah)(m:ME):Prop:=X.K=K->PE X e (tP K cl E (cD K) m)
def gW(e:ah)(m:MT):Prop:=X.K=K->PT X e (tP K cl E RB m)
def oS(e:ah)(m:MT):Prop:=X.K=K->PW X e (tP K cl E RB m)
def eT(es:List ah)(m:MA):Prop:=X.K=K->PA X es (tP K cl E (gL K) m)
def eZ(st:Stmt)(m:MS):Prop:=X.K=K->PS X st (tS K cl E m)
def fY(st:List Stmt)(m:MS):Prop:=X.K=K->gB X st (tS K cl E m)
end
theorem PA.imp{X:Cx}{es:List ah}{t t':TA}(h:PA X es t)(i:∀σ H Q,t' σ H Q->t σ H Q):PA X es t':=λpos BD s σ H Q I q=>h pos BD s σ H Q I (i σ H Q q)
theorem PW.imp{X:Cx}{e:ah}{t t':TT}(h:PW X e t)(i:∀σ H Q,t' σ H Q->t σ H Q):PW X e t':=λwh BD s σ H Q I q=>h wh BD s σ H Q I (i σ H Q q)
def aA(i:Nat):ME:=λρ S=>match ρ[i]? with
 |some (some v)=>.ok v S
 |_=>.fail
def mC(v:PV):ME:=λ_ S=>.ok (.pv v) S
def rd(S:aH):AV->BA
 |.pv v=>some v
 |.ref k=>match S[k]? with
  |some (.lst xs)=>some (.lst xs)
  |_=>none
def gK(S:aH):BC->Option AZ
 |[]=>some []
 |a::r=>match rd S a with
  |some v=>match gK S r with
   |some vs=>some (v::vs)
   |none=>none
  |none=>none
def iD(o:BA)(S:aH):bP AV:=match o with
 |some r=>.ok (.pv r) S
 |none=>.fail
def uW(f:PV->BA)(a:AV)(S:aH):bP AV:=iD ((rd S a).bind f) S
def lH(f:PV->PV->BA)(a b:AV)(S:aH):bP AV:=iD ((rd S a).bind λx=>(rd S b).bind λy=>f x y) S
def bR(f:PV->BA)(ma:ME):ME:=λρ S=>(ma ρ S).bind λx S1=>uW f x S1
def aC(f:PV->PV->BA)(ma mb:ME):ME:=λρ S=>(ma ρ S).bind λx S1=>(mb ρ S1).bind λy S2=>lH f x y S2
def aD:MA:=λ_ S=>.ok [] S
def aB(ma:ME)(mr:MA):MA:=λρ S=>(ma ρ S).bind λx S1=>(mr ρ S1).bind λxs S2=>.ok (x::xs) S2
def oG:BC->Option AZ
 |[]=>some []
 |.pv v::r=>match oG r with
  |some vs=>some (v::vs)
  |none=>none
 |.ref _::_=>none
def Ng(f:AZ->BA)(xs:BC)(S:aH):bP AV:=iD ((oG xs).bind f) S
def oK(f:AZ->BA)(xs:BC)(S:aH):bP AV:=iD ((gK S xs).bind f) S
def mR(f:AZ->BA)(ma:MA):ME:=λρ S=>(ma ρ S).bind λxs S1=>oK f xs S1
def mN(f:AZ->BA)(ma:MA):ME:=λρ S=>(ma ρ S).bind λxs S1=>Ng f xs S1
def cU(vs:AZ):BA:=if vs.length<=16777216 then some (.tup vs)else none
def dZ(vs:AZ):BA:=if vs.length<=16777216 then some (.lst vs)else none
def lK:AV->aH->bP Bool
 |.pv (.bl b),S=>.ok b S
 |_,_=>.fail
def bH(m:ME):MT:=λρ S=>(m ρ S).bind lK
def vF(m:MT):MT:=λρ S=>(m ρ S).bind λb S1=>.ok (!b) S1
def gS(m n:MT):MT:=λρ S=>(m ρ S).bind λb S1=>if b=true then n ρ S1 else .ok false S1
def mOr(m n:MT):MT:=λρ S=>(m ρ S).bind λb S1=>if b=true then .ok true S1 else n ρ S1
def rS(m n:ME):ME:=λρ S=>(m ρ S).bind λx S1=>match x with
 |.pv (.bl true)=>n ρ S1
 |.pv (.bl false)=>.ok (.pv (.bl false)) S1
 |_=>.fail
def afg(m n:ME):ME:=λρ S=>(m ρ S).bind λx S1=>match x with
 |.pv (.bl false)=>n ρ S1
 |.pv (.bl true)=>.ok (.pv (.bl true)) S1
 |_=>.fail
def rY:PV->BA
 |.bl b=>some (.bl (!b))
 |_=>none
def zH(c:MT)(a b:ME):ME:=λρ S=>(c ρ S).bind λt S1=>if t=true then a ρ S1 else b ρ S1
section
variable{K:ag}{cl:Str->Addr}{E:XK}{X:Cx}{a b c e:ah}{es:List ah}{ma mb mc m:ME}{mt nt:MT}{ms:MA}{pos:ai}
theorem acs(i:Nat){x:Str}(hN:X.N[i]?=some x:=by rfl)(hv:qD X.env.scope x:=by first |exact jk rfl |exact jm (jk rfl) |exact jm (jm rfl))(hd:(x==("__debug__":Str))=false:=by decide)
  (hcd:(x==("__classdict__":Str))=false:=by decide):aU K cl E X (.Name x pos) (aA i):=λ_=>(pH hN hv hd hcd).imp λσ H Q ⟨p,S,ρ,s,e,h⟩=>by
 unfold aA at h;cases z:ρ[i]? with
 |none=>rw[z]at h;exact h.elim
 |some o=>
  cases o with
  |none=>rw[z]at h;exact h.elim
  |some v=>
   rw[z]at h;obtain⟨x,e1,e2⟩:=e.at_ i v z;exact⟨x,e1,bY.ret h s e2⟩
theorem ab1{i:Int}{j}:aU K cl E X (.Constant (.int i) j pos) (mC (.int i)):=λ_=>Nu.imp λσ H Q ⟨p,S,ρ,s,e,h⟩=>bY.ret (R:=cD K) (x:=.int i) h s (by show aT K p.c H (.int i) (.int i);unfold aT;rfl)
theorem aec{i:Bool}{j}:aU K cl E X (.Constant (.bool i) j pos) (mC (.bl i)):=λ_=>aef.imp λσ H Q ⟨p,S,ρ,s,e,h⟩=>bY.ret (R:=cD K) (x:=.bl i) h s (by show aT K p.c H (.bl i) (.bl i);unfold aT;rfl)
def fP(K:ag)(p:Ph)(H:Hp)(v:PV)(x:V):Prop:=aT K p.c H v x\/∃xs a vs,v=.lst xs/\x=.ref a/\H a=some (.lst vs)/\vs.length<=sizeLine/\aS K p.c H xs vs
theorem fP.int{p:Ph}{H:Hp}{i:Int}{x:V}(h:fP K p H (.int i) x):x=.int i:=by
 rcases h with h |⟨_,_,_,e,_⟩
 .unfold aT at h;exact h
 .cases e
theorem fP.bl{p:Ph}{H:Hp}{i:Bool}{x:V}(h:fP K p H (.bl i) x):x=.bl i:=by
 rcases h with h |⟨_,_,_,e,_⟩
 .unfold aT at h;exact h
 .cases e
theorem fP.str{p:Ph}{H:Hp}{i:Str}{x:V}(h:fP K p H (.str i) x):x=.str i:=by
 rcases h with h |⟨_,_,_,e,_⟩
 .unfold aT at h;exact h
 .cases e
theorem fP.non{p:Ph}{H:Hp}{x:V}(h:fP K p H .non x):x=.non:=by
 rcases h with h |⟨_,_,_,e,_⟩
 .unfold aT at h;exact h
 .cases e
theorem fP.tup{p:Ph}{H:Hp}{xs:AZ}{x:V}(h:fP K p H (.tup xs) x):∃a vs,x=.ref a/\dP K H a vs/\vs.length<=sizeLine/\aS K p.c H xs vs:=by
 rcases h with h |⟨_,_,_,e,_⟩
 .unfold aT at h;exact h
 .cases e
theorem fP.lst{p:Ph}{H:Hp}{xs:AZ}{x:V}(h:fP K p H (.lst xs) x):∃a vs,x=.ref a/\cK K H a vs/\vs.length<=sizeLine/\aS K p.c H xs vs:=by
 rcases h with h |⟨ys,a,vs,e,e2,h,z,r⟩
 .unfold aT at h
  obtain⟨a,vs,e,l,z,r⟩:=h;exact⟨a,vs,e,l.sq,z,r⟩
 .cases e
  exact⟨a,vs,e2,cK.of h,z,r⟩
theorem pI{p:Ph}{S:aH}{H:Hp}{a:AV}{v:PV}{x:V}(s:aX K p S H)(r:cD K p H a x)(e:rd S a=some v):fP K p H v x:=by
 cases a with
 |pv u=>cases e;exact .inl r
 |ref k=>
  obtain⟨a,e1,rfl⟩:=r;unfold rd at e;cases z:S[k]? with
  |none=>simp only[z]at e;cases e
  |some o=>
   cases o with
   |lst xs=>
    simp only[z]at e;cases e;obtain⟨vs,h,l,r⟩:=s.obj k a _ e1 z;exact .inr ⟨xs,a,vs,rfl,rfl,h,l,r⟩
   |lol _=>simp only[z]at e;cases e
   |dic _ _=>simp only[z]at e;cases e
   |dol _ _=>simp only[z]at e;cases e
abbrev Cg(K:ag)(p:Ph)(H:Hp):AZ->List V->Prop:=iz (fP K p H)
theorem tE{p:Ph}{S:aH}{H:Hp}(s:aX K p S H):∀{as:BC}{vs:AZ}{xs:List V},gL K p H as xs->gK S as=some vs->Cg K p H vs xs
 |[],vs,_,.nil,e=>by
  cases e;exact .nil
 |a::r,vs,_,.cons h t,e=>by
  unfold gK at e;cases z:rd S a with
  |none=>simp only[z]at e;cases e
  |some v=>
   simp only[z]at e;cases y:gK S r with
   |none=>simp only[y]at e;cases e
   |some us=>
    simp only[y]at e;cases e;exact .cons (pI s h z) (tE s t y)
def gY(K:ag)(r:R2)(f:PV->PV->BA):Prop:=∀{p:Ph}{S:aH}{H:Hp}{a b c:PV}{x y:V}{Q:VK},aX K p S H->fP K p H a x->fP K p H b y->f a b=some c->
 (∀H' z,eD H H'->aT K p.c H' c z->Q z H')->r x y H Q
def zV(K:ag)(r:V->Hp->VK->Prop)(f:PV->BA):Prop:=∀{p:Ph}{S:aH}{H:Hp}{a c:PV}{x:V}{Q:VK},aX K p S H->fP K p H a x->f a=some c->
 (∀H' z,eD H H'->aT K p.c H' c z->Q z H')->r x H Q
def CaS(K:ag)(r:List V->Hp->VK->Prop)(f:AZ->BA):Prop:=∀{p:Ph}{S:aH}{H:Hp}{as:AZ}{c:PV}{xs:List V}{Q:VK},aX K p S H->aS K p.c H as xs->f as=some c->
 (∀H' z,eD H H'->aT K p.c H' c z->Q z H')->r xs H Q
def lQ(K:ag)(r:List V->Hp->VK->Prop)(f:AZ->BA):Prop:=∀{p:Ph}{S:aH}{H:Hp}{as:AZ}{c:PV}{xs:List V}{Q:VK},aX K p S H->Cg K p H as xs->f as=some c->
 (∀H' z,eD H H'->aT K p.c H' c z->Q z H')->r xs H Q
theorem tZ{p:Ph}{S:aH}{H:Hp}{o:BA}{Q:VK}(s:aX K p S H)(h:bY K cl (cD K) p H (iD o S) Q E):∃c,o=some c/\∀H' z,eD H H'->aT K p.c H' c z->Q z H':=by
 cases o with
 |none=>exact h.elim
 |some c=>exact⟨c,rfl,λH' z sm rz=>bY.same (R:=cD K) h s sm rz⟩
theorem wJ{r:R2}{f:PV->PV->BA}(hf:gY K r f){p:Ph}{S:aH}{H:Hp}{a b:AV}{x y:V}{Q:VK}(s:aX K p S H)(ra:cD K p H a x)(rb:cD K p H b y)(h:bY K cl (cD K) p H (lH f a b S) Q E):r x y H Q:=by
 obtain⟨c,e,k⟩:=tZ s h;cases z:rd S a with
 |none=>rw[z]at e;cases e
 |some v=>
  cases y:rd S b with
  |none=>rw[z,y]at e;cases e
  |some w=>
   rw[z,y]at e;exact hf s (pI s ra z) (pI s rb y) e k
theorem Vb{r:V->Hp->VK->Prop}{f:PV->BA}(hf:zV K r f){p:Ph}{S:aH}{H:Hp}{a:AV}{x:V}{Q:VK}(s:aX K p S H)(ra:cD K p H a x)(h:bY K cl (cD K) p H (uW f a S) Q E):r x H Q:=by
 obtain⟨c,e,k⟩:=tZ s h;cases z:rd S a with
 |none=>rw[z]at e;cases e
 |some v=>
  rw[z]at e;exact hf s (pI s ra z) e k
theorem Yl{r:List V->Hp->VK->Prop}{f:AZ->BA}(hf:lQ K r f){p:Ph}{S:aH}{H:Hp}{as:BC}{xs:List V}{Q:VK}(s:aX K p S H)(ra:gL K p H as xs)(h:bY K cl (cD K) p H (oK f as S) Q E):r xs H Q:=by
 obtain⟨c,e,k⟩:=tZ s h;cases z:gK S as with
 |none=>rw[z]at e;cases e
 |some v=>
  rw[z]at e;exact hf s (tE s ra z) e k
theorem Pa{p:Ph}{H:Hp}:∀{as:BC}{vs:AZ}{xs:List V},oG as=some vs->gL K p H as xs->aS K p.c H vs xs
 |[],vs,_,e,.nil=>by
  cases e;exact .nil
 |.pv v::r,vs,_,e,.cons h t=>by
  unfold oG at e;cases z:oG r with
  |none=>simp only[z]at e;cases e
  |some us=>
   simp only[z]at e;cases e;exact .cons h (Pa z t)
 |.ref k::r,vs,_,e,.cons h t=>by
  cases e
theorem Kl{r:List V->Hp->VK->Prop}{f:AZ->BA}(hf:CaS K r f){p:Ph}{S:aH}{H:Hp}{as:BC}{xs:List V}{Q:VK}(s:aX K p S H)(ra:gL K p H as xs)(h:bY K cl (cD K) p H (Ng f as S) Q E):r xs H Q:=by
 obtain⟨c,e,k⟩:=tZ s h;cases z:oG as with
 |none=>rw[z]at e;cases e
 |some v=>
  rw[z]at e;exact hf s (Pa z ra) e k
theorem pQ{op:Operator}{r:R2}{f:PV->PV->BA}(ho:eW X (binaryOp op) r)(hf:gY X.K r f)(ha:aU K cl E X a ma)(hb:aU K cl E X b mb):aU K cl E X (.BinOp a op b pos) (aC f ma mb):=by
 intro hK;subst hK;refine(Dg ho (ha rfl) (hb rfl)).imp ?_
 rintro σ H Q ⟨p,S,ρ,s,e,h⟩
 exact cO s e h λq H1 a x S1 st s1 e1 r1 h1=>cO s1 e1 h1 λq2 H2 b y S2 st2 s2 e2 r2 h2=>wJ hf s2 (st2.repA r1) r2 h2
theorem aee{op:UnaryOp}{r:V->Hp->VK->Prop}{f:PV->BA}(ho:zO X (unaryOp op) r)(hf:zV X.K r f)(ha:aU K cl E X a ma):aU K cl E X (.UnaryOp op a pos) (bR f ma):=by
 intro hK;subst hK;refine(aev ho (ha rfl)).imp ?_
 rintro σ H Q ⟨p,S,ρ,s,e,h⟩
 exact cO s e h λq H1 a x S1 st s1 e1 r1 h1=>Vb hf s1 r1 h1
theorem uF{op:kw}{r:R2}{f:PV->PV->BA}(ho:eW X (compareOp op) r)(hf:gY X.K r f)(ha:aU K cl E X a ma)(hb:aU K cl E X b mb)(hm:behindInMarks op b=false):aU K cl E X (.Compare a [op] [b] pos) (aC f ma mb):=by
 intro hK;subst hK;refine(aat ho (ha rfl) (hb rfl) hm).imp ?_
 rintro σ H Q ⟨p,S,ρ,s,e,h⟩
 exact cO s e h λq H1 a x S1 st s1 e1 r1 h1=>cO s1 e1 h1 λq2 H2 b y S2 st2 s2 e2 r2 h2=>wJ hf s2 (st2.repA r1) r2 h2
theorem Su{p:Ph}{H:Hp}{v:AV}{x:V}(r:cD K p H v x){b:Bool}(e:v=.pv (.bl b)):x=.bl b:=by
 subst e;unfold cD aT at r;exact r
theorem Eo{p:Ph}{S:aH}{H:Hp}{v:AV}{x:V}{Q:Bool->Hp->Prop}(s:aX K p S H)(r:cD K p H v x)
  (h:bY K cl RB p H (lK v S) Q E):∃k,x=.bl k/\Q k H:=by
 cases v with
 |ref k=>exact h.elim
 |pv v=>
  cases v with
  |bl b=>exact⟨b,Su r rfl,bY.ret (R:=RB) h s rfl⟩
  |_=>exact h.elim
theorem tV{op:kw}{r:R2}{f:PV->PV->BA}(ho:eW X (compareOp op) r)(hf:gY X.K r f)(ha:aU K cl E X a ma)(hb:aU K cl E X b mb)(hm:behindInMarks op b=false):gW K cl E X (.Compare a [op] [b] pos) (bH (aC f ma mb)):=by
 intro hK;subst hK;refine(aaH ho (ha rfl) (hb rfl) hm).imp ?_
 rintro σ H Q ⟨p,S,ρ,s,e,h⟩
 have z:tP X.K cl E (cD X.K) (aC f ma mb) σ H λx H'=>∃k,x=.bl k/\Q k H':=cO s e h λq H1 a x S1 st s1 e1 r1 h1=>Eo s1 r1 h1;obtain⟨p',S',ρ',s',e',h'⟩:=z;exact cO s' e' h' λq H1 a x S1 st s1 e1 r1 h1=>cO s1 e1 h1 λq2 H2 b y S2 st2 s2 e2 r2 h2=>wJ hf s2 (st2.repA r1) r2 h2
theorem abm(ha:aU K cl E X a ma)(he:∀whole,isTrue a X.env whole=(do let v <-whole;standAt a.pos;holding [v] (truthy v)):=by intro _;rfl):gW K cl E X a (bH ma):=by
 intro hK;subst hK;refine(acV (ha rfl) he).imp ?_
 rintro σ H Q ⟨p,S,ρ,s,e,h⟩
 exact cO s e h λq H1 a x S1 st s1 e1 r1 h1=>Eo s1 r1 h1
theorem aag(ha:gW K cl E X a mt):gW K cl E X (.UnaryOp .Not a pos) (vF mt):=by
 intro hK;subst hK;refine(abY (ha rfl)).imp ?_
 rintro σ H Q ⟨p,S,ρ,s,e,h⟩
 exact cO s e h λq H1 a x S1 st s1 e1 r1 h1=>by
  cases r1;exact bY.ret (R:=RB) h1 s1 rfl
theorem Z5(ha:gW K cl E X a mt):oS K cl E X (.BoolOp .And [a] pos) mt:=λhK=>abA (ha hK)
theorem oS.pt(h:oS K cl E X a mt):gW K cl E X a mt:=λhK=>PW.pt (h hK)
theorem aax{iJ:List ah}(ha:gW K cl E X a mt)(hb:oS K cl E X (.BoolOp .And (b::iJ) pos) nt):oS K cl E X (.BoolOp .And (a::b::iJ) pos) (gS mt nt):=by
 intro hK;subst hK;refine PW.imp (abR (ha rfl) (hb rfl)) ?_
 rintro σ H Q ⟨p,S,ρ,s,e,h⟩
 refine cO s e h λq H1 a x S1 st s1 e1 r1 h1=>?_;cases r1;cases a with
 |true=>exact⟨q,S1,ρ,s1,e1,h1⟩
 |false=>exact bY.ret (R:=RB) h1 s1 rfl
theorem acG{iJ:List ah}(ha:aU K cl E X a ma)(hb:aU K cl E X (.BoolOp .And (b::iJ) pos) mb):aU K cl E X (.BoolOp .And (a::b::iJ) pos) (rS ma mb):=by
 intro hK;subst hK;refine(acO (ha rfl) (hb rfl)).imp ?_
 rintro σ H Q ⟨p,S,ρ,s,e,h⟩
 refine cO s e h λq H1 a x S1 st s1 e1 r1 h1=>?_;cases a with
 |ref k=>exact h1.elim
 |pv v=>
  cases v with
  |bl b=>
   refine⟨b,Su r1 rfl,?_⟩;cases b with
   |true=>exact⟨q,S1,ρ,s1,e1,h1⟩
   |false=>exact bY.ret (R:=cD X.K) h1 s1 (by show aT X.K q.c H1 _ _;unfold aT;rfl)
  |_=>exact h1.elim
theorem ach(ha:aU K cl E X a ma):aU K cl E X (.UnaryOp .Not a pos) (bR rY ma):=by
 intro hK;subst hK;refine(ac9 (ha rfl)).imp ?_
 rintro σ H Q ⟨p,S,ρ,s,e,h⟩
 refine cO s e h λq H1 a x S1 st s1 e1 r1 h1=>?_;refine Vb (r:=λx H Q=>∃c,x=.bl c/\Q (.bl (!c)) H) (f:=rY) (λ{p S H a c x Q} s r e k=>?_) s1 r1 h1;cases a with
 |bl b=>
  cases e;exact⟨b,r.bl,k H _ (eD.refl H) (by unfold aT;rfl)⟩
 |_=>cases e
theorem aeo(hc:gW K cl E X c mt)(ha:aU K cl E X a ma)(hb:aU K cl E X b mb):aU K cl E X (.IfExp c a b pos) (zH mt ma mb):=by
 intro hK;subst hK;refine(L9 (hc rfl) (ha rfl) (hb rfl)).imp ?_
 rintro σ H Q ⟨p,S,ρ,s,e,h⟩
 refine cO s e h λq H1 a x S1 st s1 e1 r1 h1=>?_;cases r1;cases a with
 |true=>exact⟨q,S1,ρ,s1,e1,h1⟩
 |false=>exact⟨q,S1,ρ,s1,e1,h1⟩
theorem aa9:eT K cl E X [] aD:=λ_=>(PA.imp rJ λσ H Q ⟨p,S,ρ,s,e,h⟩=>bY.ret (R:=gL K) h s .nil)
theorem K5(ha:aU K cl E X e m)(hr:eT K cl E X es ms)(hs:starEach (e::es) X.env=(false,eval e X.env)::starEach es X.env:=by rfl):eT K cl E X (e::es) (aB m ms):=by
 intro hK;subst hK;refine PA.imp (pG (ha rfl) (hr rfl) hs) ?_
 rintro σ H Q ⟨p,S,ρ,s,e,h⟩
 exact cO s e h λq H1 a x S1 st s1 e1 r1 h1=>cO s1 e1 h1 λq2 H2 b y S2 st2 s2 e2 r2 h2=>bY.ret (R:=gL X.K) h2 s2 (.cons (st2.repA r1) r2)
theorem rF{p:Ph}{S:aH}{H:Hp}{vs:AZ}{xs:List V}{t:Addr}(s:aX K p S H)(r:aS K p.c H vs xs)(z:xs.length<=sizeLine)(ht:H t=none):aT K p.c (aW H t (.tup xs)) (.tup vs) (.ref t):=by
 unfold aT;exact⟨t,xs,rfl,dP.of fH,z,(s.same (iF ht)).reps r⟩
theorem nX{p:Ph}{S:aH}{H:Hp}{vs:AZ}{xs:List V}{t:Addr}(s:aX K p S H)(r:aS K p.c H vs xs)(z:xs.length<=sizeLine)(ht:H t=none):aT K p.c (aW H t (.lst xs)) (.lst vs) (.ref t):=by
 unfold aT;refine⟨t,xs,rfl,.inl ⟨fH,λc=>?_⟩,z,(s.same (iF ht)).reps r⟩;obtain⟨o,e,_⟩:=s.mu t c;rw[ht]at e;cases e
theorem jF:sizeLine=16777216:=ky
theorem acH{x1}(h:eT K cl E X es ms):aU K cl E X (.Tuple es x1 pos) (mN cU ms):=by
 intro hK;subst hK;refine(ac0 (h rfl)).imp ?_
 rintro σ H Q ⟨p,S,ρ,s,e,h⟩
 refine cO s e h λq H1 as xs S1 st s1 e1 r1 h1=>?_;refine Kl (r:=λxs H Q=>xs.length<=sizeLine/\∀t,H t=none->Q (.ref t) (aW H t (.tup xs))) (f:=cU) (λ{p S H as c xs Q} s r e k=>?_) s1 r1 h1;unfold cU at e;split at e
 .rename_i hl
  cases e;rw[r.length,<-jF]at hl;exact⟨hl,λt ht=>k _ _ (iF ht) (rF s r hl ht)⟩
 .cases e
theorem adb(h:eT K cl E X es ms):aU K cl E X (.List es pos) (mN dZ ms):=by
 intro hK;subst hK;refine(Wf (h rfl)).imp ?_
 rintro σ H Q ⟨p,S,ρ,s,e,h⟩
 refine cO s e h λq H1 as xs S1 st s1 e1 r1 h1=>?_;refine Kl (r:=λxs H Q=>xs.length<=sizeLine/\∀t,H t=none->Q (.ref t) (aW H t (.lst xs))) (f:=dZ) (λ{p S H as c xs Q} s r e k=>?_) s1 r1 h1;unfold dZ at e;split at e
 .rename_i hl
  cases e;rw[r.length,<-jF]at hl;exact⟨hl,λt ht=>k _ _ (iF ht) (nX s r hl ht)⟩
 .cases e
end
noncomputable section
open PySem PySem.Spec PyProof.Rows Bn
def cY:MS:=λρ S=>.nx ρ S
def aG(a b:MS):MS:=λρ S=>match a ρ S with
 |.nx ρ1 S1=>b ρ1 S1
 |r=>r
def cZ(m:ME):MS:=λρ S=>cN.of (m ρ S) λ_ S1=>.nx ρ S1
def bD(m:ME):MS:=λρ S=>cN.of (m ρ S) λv S1=>.rt v S1
def oI:MS:=λ_ S=>.rt (.pv .non) S
def bW(c:MT)(a b:MS):MS:=λρ S=>cN.of (c ρ S) λt S1=>if t=true then a ρ S1 else b ρ S1
def aQ(i:Nat)(m:ME):MS:=λρ S=>cN.of (m ρ S) λv S1=>.nx (ρ.set i (some v)) S1
def uY(i j:Nat)(m:MA):MS:=λρ S=>cN.of (m ρ S) λvs S1=>match vs with
 |[v,w]=>.nx ((ρ.set i (some v)).set j (some w)) S1
 |_=>.fail
abbrev GM:=PV->bZ->Option bZ
abbrev oV:=AZ->bZ->Option bZ
def gN(i:Nat):GM:=λv ρ=>some (ρ.set i (some (.pv v)))
def dE:oV:=λvs ρ=>match vs with
 |[]=>some ρ
 |_=>none
def bO(g:GM)(gs:oV):oV:=λvs ρ=>match vs with
 |[]=>none
 |v::r=>match g v ρ with
  |some ρ1=>gs r ρ1
  |none=>none
def gT(n:Nat)(gs:oV):GM:=λv ρ=>match v with
 |.tup vs=>if vs.length=n then gs vs ρ else none
 |_=>none
def mJ(g:GM)(m:ME):MS:=λρ S=>cN.of (m ρ S) λv S1=>match v with
 |.pv v=>match g v ρ with
  |some ρ1=>.nx ρ1 S1
  |none=>.fail
 |_=>.fail
abbrev Gd:=List (Nat×AZ)
def iQ(G:Gd)(S:aH):Prop:=∀g∈G,S[g.1]?=some (.lst g.2)
theorem iR(S:aH):iQ [] S:=λ_ h=>nomatch h
abbrev MI:=bZ->aH->bP (AZ×Gd)
open Classical in
def dQ(G:Gd)(g:GM)(mb:MS):AZ->bZ->aH->cN
 |[],ρ,S=>if iQ G S then .nx ρ S else .fail
 |x::r,ρ,S=>if iQ G S then(match g x ρ with
  |none=>.fail
  |some ρ1=>match mb ρ1 S with
   |.nx ρ2 S2=>dQ G g mb r ρ2 S2
   |.ct ρ2 S2=>dQ G g mb r ρ2 S2
   |.bk ρ2 S2=>.nx ρ2 S2
   |.rt v S2=>.rt v S2
   |.exc n S2=>.exc n S2
   |.fail=>.fail)else .fail
def bJ(mi:MI)(g:GM)(mb:MS):MS:=λρ S=>cN.of (mi ρ S) λxs S1=>dQ xs.2 g mb xs.1 ρ S1
theorem fN{g:GM}{mb:MS}{ρ:bZ}{S:aH}:dQ [] g mb [] ρ S=.nx ρ S:=by
 unfold dQ;rw[if_pos (iR S)]
theorem fA{g:GM}{mb:MS}{x:PV}{r:AZ}{ρ:bZ}{S:aH}:dQ [] g mb (x::r) ρ S=(match g x ρ with
  |none=>.fail
  |some ρ1=>match mb ρ1 S with
   |.nx ρ2 S2=>dQ [] g mb r ρ2 S2
   |.ct ρ2 S2=>dQ [] g mb r ρ2 S2
   |.bk ρ2 S2=>.nx ρ2 S2
   |.rt v S2=>.rt v S2
   |.exc n S2=>.exc n S2
   |.fail=>.fail):=by
 rw[dQ,if_pos (iR S)]
def eB(c:MT)(mb:MS):Nat->bZ->aH->cN
 |0,_,_=>.fail
 |n+1,ρ,S=>cN.of (c ρ S) λt S1=>if t=true then(match mb ρ S1 with
   |.nx ρ2 S2=>eB c mb n ρ2 S2
   |.ct ρ2 S2=>eB c mb n ρ2 S2
   |.bk ρ2 S2=>.nx ρ2 S2
   |.rt v S2=>.rt v S2
   |.exc n S2=>.exc n S2
   |.fail=>.fail)else .nx ρ S1
open Classical in
def lD(c:MT)(mb:MS):MS:=λρ S=>if h:∃n,eB c mb n ρ S≠.fail then eB c mb h.choose ρ S else .fail
theorem cN.of_ok{α:Type}{r:bP α}{k k':α->aH->cN}(h:∀a S,k a S≠.fail->k' a S=k a S)(n:cN.of r k≠.fail):cN.of r k'=cN.of r k:=by
 cases r with
 |ok a S=>exact h a S n
 |exc=>rfl
 |fail=>rfl
theorem Oa{c:MT}{mb:MS}:∀{n:Nat}{ρ:bZ}{S:aH},eB c mb n ρ S≠.fail->eB c mb (n+1) ρ S=eB c mb n ρ S
 |0,_,_,h=>absurd rfl h
 |n+1,ρ,S,h=>by
  unfold eB at h;rw[eB]
  conv=>rhs;rw[eB]
  refine cN.of_ok (λt S1 h1=>?_) h
  by_cases ht:t=true
  .simp only[if_pos ht]at h1⊢
   cases z:mb ρ S1 with
   |nx ρ2 S2=>rw[z]at h1;exact Oa h1
   |ct ρ2 S2=>rw[z]at h1;exact Oa h1
   |_=>rfl
  .simp only[if_neg ht]at h1⊢
theorem Wa{c:MT}{mb:MS}{n:Nat}{ρ:bZ}{S:aH}(h:eB c mb n ρ S≠.fail):∀k,eB c mb (n+k) ρ S=eB c mb n ρ S
 |0=>rfl
 |k+1=>by
  have ih:=Wa h k;rw[<-yc,Oa (by rw[ih];exact h),ih]
theorem wE{c:MT}{mb:MS}{n:Nat}{ρ:bZ}{S:aH}{r:cN}(e:eB c mb n ρ S=r)(h:r≠.fail):lD c mb ρ S=r:=by
 have h':∃n,eB c mb n ρ S≠.fail:=⟨n,by rw[e];exact h⟩;unfold lD;rw[dif_pos h'];have e2:=h'.choose_spec;rcases Nat.le_total n h'.choose with l |l
 .obtain⟨k,q⟩:=j7 l
  rw[q,Wa (by rw[e];exact h),e]
 .obtain⟨k,q⟩:=j7 l
  have z:=Wa e2 k;rw[<-q,e]at z;exact z.symm
section
variable{K:ag}{cl:Str->Addr}{E:XK}{X:Cx}{a b c e tg:ah}{es:List ah}{m:ME}{mt:MT}{ms:MA}{b1 b2:MS}{st:Stmt}{sts sts':List Stmt}{pos:ai}
theorem dM.set{p:Ph}{H:Hp}{ρ:bZ}{σ:St}{v:AV}{x:V}(h:dM K p H ρ σ)(r:cD K p H v x)(i:Nat):dM K p H (ρ.set i (some v)) (σ.set i (some x)):=by
 refine⟨by rw[fk,fk,h.len],λj u e=>?_⟩
 by_cases q:i=j
 .subst q
  by_cases l:i<ρ.length
  .rw[dj l]at e
   cases e;exact⟨x,dj (by rw[<-h.len];exact l),r⟩
  .rw[uh (by rw[fk];omega)]at e
   cases e
 .rw[fj q]at e⊢
  exact h.at_ j u e
theorem aaa:fY K cl E X [] cY:=λ_=>gB.imp abl λD σ H ⟨p,S,ρ,s,e,h⟩=>h p H σ s.step s e
theorem eP.nxD{p:Ph}{H:Hp}{ρ:bZ}{S:aH}{D:nH}(h:eP K cl p H (.nx ρ S) D E){σ:St}(s:aX K p S H)(e:dM K p H ρ σ):D.nx σ H:=h p H σ s.step s e
theorem J8(h1:eZ K cl E X st b1)(h2:fY K cl E X sts b2):fY K cl E X (st::sts) (aG b1 b2):=by
 intro hK;subst hK;refine gB.imp (N5 (h1 rfl) (h2 rfl)) λD σ H ⟨p,S,ρ,s,e,h⟩=>⟨p,S,ρ,s,e,?_⟩;unfold aG at h;cases z:b1 ρ S with
 |nx ρ1 S1=>
  rw[z]at h;exact λq H' σ' stp sm ev=>⟨q,S1,ρ1,sm,ev,eP.mono (r:=b2 ρ1 S1) h stp⟩
 |bk ρ1 S1=>rw[z]at h;exact h
 |ct ρ1 S1=>rw[z]at h;exact h
 |rt v S1=>rw[z]at h;exact h
 |exc n S1=>rw[z]at h;exact h
 |fail=>rw[z]at h;exact h
theorem U5(h1:eZ K cl E X st b1):fY K cl E X [st] b1:=λhK=>Br (h1 hK)
theorem R6(he:aU K cl E X e m)(hs:swapsWith e none pos.line X.env=pure false:=by rfl):eZ K cl E X (.Expr e pos) (cZ m):=by
 intro hK;subst hK;refine PS.imp (abo (he rfl) hs) ?_
 rintro D σ H ⟨p,S,ρ,s,e,h⟩
 exact jJ s e h λq H' a b S' stp sm ev r k=>eP.nxD k sm ev
theorem abu(he:aU K cl E X e m):eZ K cl E X (.Return (some e) pos) (bD m):=by
 intro hK;subst hK;refine PS.imp (acB (he rfl)) ?_
 rintro D σ H ⟨p,S,ρ,s,e,h⟩
 exact jJ s e h λq H' a b S' stp sm ev r k=>k q H' b sm.step sm r
theorem M8:eZ K cl E X (.Return none pos) oI:=λ_=>PS.imp aaV λD σ H ⟨p,S,ρ,s,e,h⟩=>h p H .non s.step s (by show aT K p.c H .non .non;unfold aT;rfl)
theorem acp(hc:gW K cl E X c mt)(ha:fY K cl E X sts b1)(hb:fY K cl E X sts' b2):eZ K cl E X (.If c sts sts' pos) (bW mt b1 b2):=by
 intro hK;subst hK;refine PS.imp (adB (hc rfl) (ha rfl) (hb rfl)) ?_
 rintro D σ H ⟨p,S,ρ,s,e,h⟩
 refine jJ s e h λq H' a b S' stp sm ev r k=>?_;cases r;cases a with
 |true=>exact⟨q,S',ρ,sm,ev,k⟩
 |false=>exact⟨q,S',ρ,sm,ev,k⟩
theorem Hq{i:Nat}{x:Str}{pos':ai}(hN:X.N.Nodup)(hi:X.N[i]?=some x)(hx:nM X.env.scope x)(he:aU K cl E X e m)(hs:swapsWith e (some (.Name x pos')) pos.line X.env=pure false:=by rfl)
  (hf:X.fn x=true\/X.env.scope.names.lookup x=some .local:=by first |exact .inl rfl |exact .inr rfl |assumption):eZ K cl E X (.Assign [.Name x pos'] e pos) (aQ i m):=by
 intro hK;subst hK;refine PS.imp (acM hN hi hx (he rfl) hs hf) ?_
 rintro D σ H ⟨p,S,ρ,s,e,h⟩
 exact jJ s e h λq H' a b S' stp sm ev r k=>eP.nxD k sm (ev.set r i)
theorem aaW{i j:Nat}{x y:Str}{px py pt:ai}{kt k2 fG}(hc:X.calm=true)(hN:X.N.Nodup)(hi:X.N[i]?=some x)(hj:X.N[j]?=some y)(hij:i≠j)
  (hx:X.env.scope.names.lookup x=some .local)(hy:X.env.scope.names.lookup y=some .local)(ha:eT K cl E X [a,b] ms)
  (hw:swappedStores [.Tuple [.Name x px,.Name y py] kt pt] (.Tuple [a,b] k2 fG) X.env=pure (some [x,y]))
  (hs:swapsWithSole [.Tuple [.Name x px,.Name y py] kt pt] (.Tuple [a,b] k2 fG) pos.line X.env=pure false:=by rfl):
  eZ K cl E X (.Assign [.Tuple [.Name x px,.Name y py] kt pt] (.Tuple [a,b] k2 fG) pos) (uY i j ms):=by
 intro hK;subst hK;refine PS.imp (acI hc hN hi hj hij hx hy (ha rfl) hw hs) ?_
 rintro D σ H ⟨p,S,ρ,s,e,h⟩
 refine jJ s e h λq H' vs xs S' stp sm ev r k=>?_;cases r with
 |nil=>exact k.elim
 |cons r1 rr=>
  cases rr with
  |nil=>exact k.elim
  |cons r2 rs=>
   cases rs with
   |nil=>exact⟨_,_,rfl,eP.nxD k sm ((ev.set r1 i).set r2 j)⟩
   |cons _ _=>exact k.elim
def gP(K:ag)(g:GM):TG:=λx σ H Q=>∃p S ρ v ρ',aX K p S H/\dM K p H ρ σ/\aT K p.c H v x/\g v ρ=some ρ'/\∀σ',dM K p H ρ' σ'->Q σ' H
def gPs(K:ag)(g:oV):nO:=λxs σ H Q=>∃p S ρ vs ρ',aX K p S H/\dM K p H ρ σ/\aS K p.c H vs xs/\g vs ρ=some ρ'/\∀σ',dM K p H ρ' σ'->Q σ' H
variable(K X)
def lM(tg:ah)(g:GM):Prop:=X.K=K->PG X tg (gP K g)
def rW(ts:List ah)(g:oV):Prop:=X.K=K->mK X ts (gPs K g)
variable{K X}
theorem PG.imp{tg:ah}{t t':TG}(h:PG X tg t)(i:∀x σ H Q,t' x σ H Q->t x σ H Q):PG X tg t':=λBD s σ H v u Q I r q=>h BD s σ H v u Q I r (i v σ H Q q)
theorem mK.imp{ts:List ah}{t t':nO}(h:mK X ts t)(i:∀x σ H Q,t' x σ H Q->t x σ H Q):mK X ts t':=λBD s σ H v u Q I r q=>h BD s σ H v u Q I r (i v σ H Q q)
theorem V8{i:Nat}{x:Str}(hN:X.N.Nodup)(hi:X.N[i]?=some x)(hx:nM X.env.scope x)(hf:X.fn x=true\/X.env.scope.names.lookup x=some .local:=by first |exact .inl rfl |exact .inr rfl |assumption):lM K X (.Name x pos) (gN i):=
 λ_=>PG.imp (Gr hN hi hx hf) λx σ H Q ⟨p,S,ρ,v,ρ',s,ev,r,g,k⟩=>by
  cases g;exact k _ (ev.set (v:=.pv v) r i)
theorem V5:rW K X [] dE:=λ_=>mK.imp aaz λxs σ H Q ⟨p,S,ρ,vs,ρ',s,ev,r,g,k⟩=>by
 cases vs with
 |nil=>
  cases g;unfold aS at r;exact⟨r,k _ ev⟩
 |cons _ _=>cases g
theorem J6{g:GM}{gs:oV}(h1:lM K X e g)(h2:rW K X es gs)(hs:(assignEach (e::es) X.env).map (·.2)=assign e X.env::(assignEach es X.env).map (·.2):=by rfl):rW K X (e::es) (bO g gs):=by
 intro hK;subst hK;refine mK.imp (M7 (h1 rfl) (h2 rfl) hs) ?_
 rintro xs σ H Q ⟨p,S,ρ,vs,ρ',s,ev,r,g1,k⟩
 cases vs with
 |nil=>cases g1
 |cons v vr=>
  unfold aS at r;obtain⟨x,xr,rfl,r1,r2⟩:=r;unfold bO at g1;cases z:g v ρ with
  |none=>simp only[z]at g1;cases g1
  |some ρ1=>
   simp only[z]at g1;exact⟨x,xr,rfl,p,S,ρ,v,ρ1,s,ev,r1,z,λσ' ev'=>⟨p,S,ρ1,vr,ρ',s,ev',r2,g1,k⟩⟩
theorem aao{k:Nat}{gs:oV}{n:Nat}(hc:X.calm=true)(h:rW K X es gs)(hn:(assignEach es X.env).length=n:=by rfl)(hst:(assignEach es X.env).findIdx? (·.1)=none:=by rfl):lM K X (.Tuple es k pos) (gT n gs):=by
 intro hK;subst hK;refine PG.imp (acd hc (h rfl) hn hst) ?_
 rintro x σ H Q ⟨p,S,ρ,v,ρ',s,ev,r,g1,k⟩
 cases v with
 |tup vs=>
  unfold aT at r;obtain⟨a,xs,rfl,t,z,r⟩:=r;unfold gT at g1;dsimp only at g1;split at g1
  .rename_i hl
   exact⟨a,xs,rfl,t,r.length.symm.trans hl,p,S,ρ,vs,ρ',s,ev,r,g1,k⟩
  .cases g1
 |_=>cases g1
theorem aaO{g:GM}(he:aU K cl E X e m)(hg:lM K X tg g)(hs:swapsWithSole [tg] e pos.line X.env=pure false:=by rfl)(hw:swappedStores [tg] e X.env=pure none:=by rfl)
  (h1:(assignEach [tg] X.env).map (·.2)=[assign tg X.env]:=by rfl):eZ K cl E X (.Assign [tg] e pos) (mJ g m):=by
 intro hK;subst hK;refine PS.imp (xL (he rfl) (hg rfl) hs hw h1) ?_
 rintro D σ H ⟨p,S,ρ,s,e,h⟩
 refine jJ s e h λq H' a b S' stp sm ev r k=>?_;cases a with
 |ref k'=>exact k.elim
 |pv v=>
  dsimp only at k;cases z:g v ρ with
  |none=>simp only[z]at k;exact k.elim
  |some ρ1=>
   simp only[z]at k;exact⟨q,S',ρ,v,ρ1,sm,ev,r,z,λσ' ev'=>eP.nxD k sm ev'⟩
def fJ(K:ag)(p:Ph)(H:Hp)(xs:AZ×Gd)(J:It):Prop:=xs.1.length<=sizeLine/\∀q H1 S1,bQ p H q H1->aX K q S1 H1->iQ xs.2 S1->
 (∀(i:Nat)(v:PV),xs.1[i]?=some v->J.go i H1/\∀x H2,J.yld i H1 x H2->eD H1 H2/\aT K q.c H2 v x)/\J.stop xs.1.length H1
theorem fJ.step{p q:Ph}{H H':Hp}{xs:AZ×Gd}{J:It}(h:fJ K p H xs J)(s:bQ p H q H'):fJ K q H' xs J:=⟨h.1,λr H1 S1 t=>h.2 r H1 S1 (s.trans t)⟩
variable(K cl E X)
def iU(tg iter:ah)(m:MI):Prop:=X.K=K->PI X tg iter (tP K cl E (fJ K) m)
variable{K cl E X}
theorem PI.imp{tg iter:ah}{t t':TI}(h:PI X tg iter t)(i:∀σ H Q,t' σ H Q->t σ H Q):PI X tg iter t':=λBD s σ H R I q=>h BD s σ H R I (i σ H R q)
def ae4(K:ag)(tl:TE):TI:=λσ H R=>tl σ H λx H1=>∃a,x=.ref a/\(((∃xs,cK K H1 a xs)/\R (zK K a) H1)\/((∃xs,dP K H1 a xs)/\R (Oh K a) H1))
theorem Ts{l:ah}{tl:TE}(hl:PE X l tl):PI X tg l (ae4 X.K tl):=by
 intro BD s σ H R I h;refine bK (hl BD s σ H _ I h) ?_
 rintro v s1 ⟨x,H1,I1,r1,q1⟩
 obtain⟨a,e,q⟩:=q1;subst e;cases r1;rcases q with⟨⟨xs,hq⟩,q⟩|⟨⟨xs,hq⟩,q⟩
 .obtain⟨its,rv,p,hz⟩:=I1.list hq
  refine tq p.isList ?_;refine⟨s1.heap.objs.size,[s1.heap.objs.size],_,_,H1,rfl,I1.kept (t':=s1.toks) λb o e=>ay _ e,J9 a _,⟨_,df _ rfl,rfl,rfl⟩,λb hb=>?_,q⟩;have e:b=s1.heap.objs.size:=by simpa using hb
  subst e;exact I1.fpOk (ak _) (I1.hok.fresh (ak _))
 .obtain⟨its,rv,p,hz⟩:=I1.tuple hq
  refine i9 (show s1.heap.IsTuple a its.toArray from p) ?_;refine⟨s1.heap.objs.size,[s1.heap.objs.size],_,_,H1,rfl,I1.kept (t':=s1.toks) λb o e=>ay _ e,Gz a _,⟨_,df _ rfl,rfl,rfl⟩,λb hb=>?_,q⟩;have e:b=s1.heap.objs.size:=by simpa using hb
  subst e;exact I1.fpOk (ak _) (I1.hok.fresh (ak _))
def cC:AV->aH->bP (AZ×Gd)
 |.pv (.lst xs),S=>.ok (xs,[]) S
 |.pv (.tup xs),S=>.ok (xs,[]) S
 |.ref k,S=>match S[k]? with
  |some (.lst xs)=>.ok (xs,[(k,xs)]) S
  |_=>.fail
 |_,_=>.fail
def bA(m:ME):MI:=λρ S=>(m ρ S).bind cC
theorem acL{p:Ph}{H:Hp}{xs:AZ}{a:Addr}{vs:List V}(l:kQ K p.c H a vs)(z:vs.length<=sizeLine)(r:aS K p.c H xs vs):fJ K p H (xs,[]) (zK K a):=by
 refine⟨by rw[r.length];exact z,λq H1 S1 st _ _=>⟨λi v e=>?_,?_⟩⟩
 .have l1:=(st.lat l).sq
  obtain⟨x,e1,r1⟩:=(st.reps r).get e;refine⟨⟨vs,x,l1,e1⟩,λy H2 hy=>?_⟩;obtain⟨rfl,hy⟩:=hy;have:=(hy vs l1).symm.trans e1;cases this;exact⟨eD.refl _,r1⟩
 .exact⟨vs,(st.lat l).sq,by rw[r.length];exact ak _⟩
theorem adc{p:Ph}{H:Hp}{xs:AZ}{a:Addr}{vs:List V}(l:dP K H a vs)(z:vs.length<=sizeLine)(r:aS K p.c H xs vs):fJ K p H (xs,[]) (Oh K a):=by
 refine⟨by rw[r.length];exact z,λq H1 S1 st _ _=>⟨λi v e=>?_,?_⟩⟩
 .have l1:=st.tup l
  obtain⟨x,e1,r1⟩:=(st.reps r).get e;refine⟨⟨vs,x,l1,e1⟩,λy H2 hy=>?_⟩;obtain⟨rfl,hy⟩:=hy;have:=(hy vs l1).symm.trans e1;cases this;exact⟨eD.refl _,r1⟩
 .exact⟨vs,st.tup l,by rw[r.length];exact ak _⟩
theorem ab0{p:Ph}{H:Hp}{xs:AZ}{a:Addr}{k:Nat}{n:xs.length<=sizeLine}(hf:p.f[k]?=some a):fJ K p H (xs,[(k,xs)]) (zK K a):=by
 refine⟨n,λq H1 S1 st sm g=>?_⟩;have e0:S1[k]?=some (.lst xs):=g (k,xs) bi;obtain⟨vs,h1,l1,r1⟩:=sm.obj k a _ (st.at_ hf) e0;refine⟨λi v e=>?_,?_⟩
 .obtain⟨x,e1,r2⟩:=r1.get e
  refine⟨⟨vs,x,cK.of h1,e1⟩,λy H2 hy=>?_⟩;obtain⟨rfl,hy⟩:=hy;have:=(hy vs (cK.of h1)).symm.trans e1;cases this;exact⟨eD.refl _,r2⟩
 .exact⟨vs,cK.of h1,by rw[r1.length];exact ak _⟩
theorem aaA(h:aU K cl E X e m):iU K cl E X tg e (bA m):=by
 intro hK;subst hK;refine PI.imp (Ts (h rfl)) ?_
 rintro σ H R ⟨p,S,ρ,s,ev,h⟩
 refine cO s ev h λq H' v x S' stp sm ev r k=>?_;cases v with
 |ref j=>
  obtain⟨a,e,rfl⟩:=r;unfold cC at k;dsimp only at k;cases z:S'[j]? with
  |none=>rw[z]at k;exact k.elim
  |some o=>
   cases o with
   |lst xs=>
    rw[z]at k;obtain⟨vs,h1,l1,r1⟩:=sm.obj j a _ e z;exact⟨a,rfl,.inl ⟨⟨vs,cK.of h1⟩,bY.ret (R:=fJ X.K) k sm (ab0 (n:=by rw[r1.length];exact l1) e)⟩⟩
   |lol _=>rw[z]at k;exact k.elim
   |dic _ _=>rw[z]at k;exact k.elim
   |dol _ _=>rw[z]at k;exact k.elim
 |pv v=>
  cases v with
  |lst xs=>
   have r:aT X.K q.c H' (.lst xs) x:=r;unfold aT at r;obtain⟨a,vs,rfl,l,z,r⟩:=r;exact⟨a,rfl,.inl ⟨⟨vs,l.sq⟩,bY.ret (R:=fJ X.K) k sm (acL l z r)⟩⟩
  |tup xs=>
   have r:aT X.K q.c H' (.tup xs) x:=r;unfold aT at r;obtain⟨a,vs,rfl,l,z,r⟩:=r;exact⟨a,rfl,.inr ⟨⟨vs,l⟩,bY.ret (R:=fJ X.K) k sm (adc l z r)⟩⟩
  |_=>exact k.elim
def dH(lo:Int)(n:Nat):AZ:=(cu n).map λi=>.int (lo+(i:Nat))
def gG:BC->aH->bP (AZ×Gd)
 |[.pv (.int j)],S1=>@ite _ (j<=16777216/\-16777216<=j) (pf _) (.ok (dH 0 j.toNat,[]) S1) .fail
 |_,_=>.fail
def cM(ms:MA):MI:=λρ S=>(ms ρ S).bind gG
def zB:BC->aH->bP (AZ×Gd)
 |[.pv (.int i),.pv (.int j)],S1=>@ite _ ((-4611686018427387904<=i/\i<4611686018427387904/\-4611686018427387904<=j/\j<4611686018427387904)/\j-i<=16777216) (pf _) (.ok (dH i (j-i).toNat,[]) S1) .fail
 |_,_=>.fail
def nV(ms:MA):MI:=λρ S=>(ms ρ S).bind zB
theorem Cu{p:Ph}{H:Hp}{lo:Int}{n:Nat}(h:n<=sizeLine):fJ K p H (dH lo n,[]) (vG lo n):=by
 have hl:(dH lo n).length=n:=by unfold dH;rw[aj,j8]
 refine⟨by show(dH lo n).length<=_;rw[hl];exact h,λq H1 S1 st _ _=>⟨λi v e=>?_,?_⟩⟩
 .have hi:i<n:=by
   have:=(br.mp (show(dH lo n)[i]?=some v from e)).1;omega
  refine⟨hi,λx H2 hy=>?_⟩;obtain⟨rfl,rfl⟩:=hy;have e:(dH lo n)[i]?=some v:=e;unfold dH at e;rw[bo,List.getElem?_range hi]at e;cases e;refine⟨eD.refl _,?_⟩;unfold aT;rfl
 .show n<=(dH lo n).length
  rw[hl];exact ak n
theorem Wz{p:ai}(hg:Gl X "range")(hm:X.mg "range"=none)(ha:eT K cl E X [a] ms)(hs:starEach [a] X.env=[(false,eval a X.env)]:=by rfl):iU K cl E X tg (.Call (.Name "range" p) [a] [] pos) (cM ms):=by
 intro hK;subst hK;refine PI.imp (F0 hg hm (ha rfl) hs) ?_
 rintro σ H R ⟨p,S,ρ,s,ev,h⟩
 refine cO s ev h λq H' vs xs S' stp sm ev r k=>?_;unfold gG at k;split at k
 .rename_i j
  cases r with
  |cons r1 r2=>
   cases r2;rename_i x;have e:x=.int j:=by
    have r1:aT X.K q.c H' (.int j) x:=r1;unfold aT at r1;exact r1
   subst e;split at k
   .rename_i hj
    have hz:=jF;exact⟨j,rfl,by omega,by omega,bY.ret (R:=fJ X.K) k sm (Cu (by omega))⟩
   .exact k.elim
 .exact k.elim
theorem A9{p:ai}(hg:Gl X "range")(hm:X.mg "range"=none)(ha:eT K cl E X [a,b] ms)(hs:starEach [a,b] X.env=[(false,eval a X.env),(false,eval b X.env)]:=by rfl)(hs2:starEach [b] X.env=[(false,eval b X.env)]:=by rfl):iU K cl E X tg (.Call (.Name "range" p) [a,b] [] pos) (nV ms):=by
 intro hK;subst hK;refine PI.imp (D4 hg hm (ha rfl) hs hs2) ?_
 rintro σ H R ⟨p,S,ρ,s,ev,h⟩
 refine cO s ev h λq H' vs xs S' stp sm ev r k=>?_;unfold zB at k;split at k
 .rename_i i j
  cases r with
  |cons r1 r2=>
   cases r2 with
   |cons r2 r3=>
    cases r3;rename_i x y;have e:x=.int i:=by
     have r1:aT X.K q.c H' (.int i) x:=r1;unfold aT at r1;exact r1
    have e2:y=.int j:=by
     have r1:aT X.K q.c H' (.int j) y:=r2;unfold aT at r1;exact r1
    subst e e2;split at k
    .rename_i hj
     have hz:=jF;exact⟨i,j,rfl,by omega,bY.ret (R:=fJ X.K) k sm (Cu (by omega))⟩
    .exact k.elim
 .exact k.elim
theorem aaj{mi:MI}{g:GM}(hp:qg (model X.prog X.w) X.A X.env X.xe)(hc:X.calm=true)(hi:iU K cl E X tg e mi)(hg:lM K X tg g)(hb:fY K cl E X sts b1)
  (hs:∀x,foldedSetIterable e X.env x=pure x:=by intro _;rfl):eZ K cl E X (.For tg e sts [] pos) (bJ mi g b1):=by
 intro hK;subst hK;refine PS.imp (Ct hp hc (hi rfl) (hg rfl) (hb rfl) hs) ?_
 rintro D σ H ⟨p,S,ρ,s,ev,h⟩
 refine jJ s ev h λq H' xg J S' stp sm ev it k=>?_;obtain⟨xs,G⟩:=xg;refine⟨λi n σ H=>n=xs.length-i/\i<=xs.length/\∃p S ρ,aX X.K p S H/\dM X.K p H ρ σ/\fJ X.K p H (xs,G) J/\eP X.K cl p H (dQ G g b1 (xs.drop i) ρ S) D E,⟨xs.length,by simp,gn _,q,S',ρ,sm,ev,it,by simpa using k⟩,?_⟩
 rintro i n σ1 H1 ⟨rfl,hi,p1,S1,ρ1,sm1,ev1,it1,k1⟩
 by_cases hlt:i<xs.length
 .have hx:xs[i]?=some xs[i]:=ax hlt
  rw[ui hlt]at k1;unfold dQ at k1;split at k1
  .rename_i gk
   obtain⟨g1,y1⟩:=(it1.2 p1 H1 S1 sm1.step sm1 gk).1 i _ hx;cases z:g xs[i] ρ1 with
   |none=>simp only[z]at k1;exact k1.elim
   |some ρ2=>
    simp only[z]at k1;refine .inr ⟨g1,λσ' H'=>i+1<=xs.length/\∃p S ρ,aX X.K p S H'/\dM X.K p H' ρ σ'/\fJ X.K p H' (xs,G) J/\eP X.K cl p H' (dQ G g b1 (xs.drop (i+1)) ρ S) D E,λσ' H' hN=>⟨xs.length-(i+1),by omega,rfl,hN⟩,λx H2 hy=>?_⟩;obtain⟨same,rx⟩:=y1 x H2 hy;have st2:=sm1.same same;have sm2:=sm1.ofSame same;refine⟨p1,S1,ρ1,xs[i],ρ2,sm2,st2.repE ev1,rx,z,λσ3 ev3=>⟨p1,S1,ρ2,sm2,ev3,?_⟩⟩;have it2:=it1.step st2;cases y:b1 ρ2 S1 with
    |nx ρ4 S4=>
     rw[y]at k1;exact λq5 H5 σ5 st5 sm5 ev5=>⟨hlt,q5,S4,ρ4,sm5,ev5,it2.step st5,eP.mono (r:=dQ G g b1 (xs.drop (i+1)) ρ4 S4) k1 (st2.trans st5)⟩
    |ct ρ4 S4=>
     rw[y]at k1;exact λq5 H5 σ5 st5 sm5 ev5=>⟨hlt,q5,S4,ρ4,sm5,ev5,it2.step st5,eP.mono (r:=dQ G g b1 (xs.drop (i+1)) ρ4 S4) k1 (st2.trans st5)⟩
    |bk ρ4 S4=>rw[y]at k1;exact eP.mono (r:=.nx ρ4 S4) k1 st2
    |rt v S4=>rw[y]at k1;exact eP.mono (r:=.rt v S4) k1 st2
    |exc v S4=>rw[y]at k1;exact eP.mono (r:=.exc v S4) k1 st2
    |fail=>rw[y]at k1;exact k1.elim
  .exact k1.elim
 .have e:i=xs.length:=by omega
  subst e;rw[uj]at k1;unfold dQ at k1;split at k1
  .rename_i gk
   exact .inl ⟨(it1.2 p1 H1 S1 sm1.step sm1 gk).2,eP.nxD k1 sm1 ev1⟩
  .exact k1.elim
theorem H0(hp:qg (model X.prog X.w) X.A X.env X.xe)(hc:gW K cl E X c mt)(hb:fY K cl E X sts b1):eZ K cl E X (.While c sts [] pos) (lD mt b1):=by
 intro hK;subst hK;refine PS.imp (V9 hp (hc rfl) (hb rfl)) ?_
 rintro D σ H ⟨p,S,ρ,s,ev,h⟩
 unfold lD at h;split at h
 .rename_i hh
  refine⟨λn σ H=>∃p S ρ,aX X.K p S H/\dM X.K p H ρ σ/\eP X.K cl p H (eB mt b1 n ρ S) D E,⟨_,p,S,ρ,s,ev,h⟩,?_⟩
  rintro n σ1 H1 ⟨p1,S1,ρ1,sm1,ev1,k1⟩
  cases n with
  |zero=>exact k1.elim
  |succ n=>
   unfold eB at k1;refine jJ sm1 ev1 k1 λq H2 t t' S2 stp sm2 ev2 r k2=>?_;cases r;cases t with
   |true=>
    rw[if_pos rfl]at k2⊢;refine⟨λσ' H'=>∃p S ρ,aX X.K p S H'/\dM X.K p H' ρ σ'/\eP X.K cl p H' (eB mt b1 n ρ S) D E,λσ' H' hN=>⟨n,yd n,hN⟩,q,S2,ρ1,sm2,ev2,?_⟩;cases y:b1 ρ1 S2 with
    |nx ρ4 S4=>
     rw[y]at k2;exact λq5 H5 σ5 st5 sm5 ev5=>⟨q5,S4,ρ4,sm5,ev5,eP.mono (r:=eB mt b1 n ρ4 S4) k2 st5⟩
    |ct ρ4 S4=>
     rw[y]at k2;exact λq5 H5 σ5 st5 sm5 ev5=>⟨q5,S4,ρ4,sm5,ev5,eP.mono (r:=eB mt b1 n ρ4 S4) k2 st5⟩
    |bk ρ4 S4=>rw[y]at k2;exact k2
    |rt v S4=>rw[y]at k2;exact k2
    |exc v S4=>rw[y]at k2;exact k2
    |fail=>rw[y]at k2;exact k2.elim
   |false=>
    rw[if_neg iw]at k2⊢;exact eP.nxD k2 sm2 ev2
 .exact h.elim
end
end
def jK(n:Nat)(xs:BC):bZ:=xs.map some++fw (n-xs.length) none
def kA(n:Nat):AV->aH->bP AV
 |.pv v,S=>.ok (.pv v) (S.take n)
 |.ref k,S=>if k<n then .ok (.ref k) (S.take n)else match S[k]? with
  |some (.lst xs)=>.ok (.ref n) (S.take n++[.lst xs])
  |some (.dic b kvs)=>.ok (.ref n) (S.take n++[.dic b kvs])
  |_=>.fail
def frz(n:Nat):bP AV->bP AV
 |.ok (.ref k) S=>if k<n then .ok (.ref k) S else match S[k]? with
  |some (.lst xs)=>.ok (.pv (.lst xs)) (S.take n)
  |_=>.fail
 |r=>r
def nZ(n:Nat):cN->bP AV
 |.rt v S=>kA n v S
 |.nx _ S=>.ok (.pv .non) (S.take n)
 |.exc e S=>.exc e (S.take n)
 |_=>.fail
def aR(np n:Nat)(b:MS)(xs:BC)(S:aH):bP AV:=if xs.length=np then nZ S.length (b (jK n xs) S)else .fail
def jY{α:Type}:bP α->bP α
 |.ok a S=>.ok a S
 |_=>.fail
abbrev FM:=BC->aH->bP AV
def pS(f:FM)(ds:AZ)(ms:MA):ME:=λρ S=>(ms ρ S).bind λxs S1=>frz S1.length (f (xs++ds.map .pv) S1)
def aJ(f:FM)(ds:AZ)(ms:MA):ME:=λρ S=>(ms ρ S).bind λxs S1=>frz S1.length (jY (f (xs++ds.map .pv) S1))
def rH(f:FM)(ds:AZ)(ms:MA):ME:=λρ S=>(ms ρ S).bind λxs S1=>jY (f (xs++ds.map .pv) S1)
def mL(K:ag)(cl:Str->Addr)(f:FM):Sp:=λvs H Q E=>∃p S xs,aX K p S H/\gL K p H xs vs/\bY K cl (cD K) p H (f xs S) Q E
def jB(K:ag)(cl:Str->Addr)(f:FM):Sp:=λvs H Q _=>mL K cl f vs H Q E0
section
variable{K:ag}{cl:Str->Addr}{p q:Ph}{H H':Hp}{S S':aH}
theorem Tj{c c':Addr->Prop}(h:∀a,c a->c' a){a:Addr}{vs:List V}(l:kQ K c' H a vs):kQ K c H a vs:=by
 rcases l with⟨l,n⟩|l |l
 .exact .inl ⟨l,λz=>n (h a z)⟩
 .exact .inr (.inl l)
 .exact .inr (.inr l)
theorem oZ{c c':Addr->Prop}(h:∀a,c a->c' a){ps:AZ}{vs:List V}(r:aS K c' H ps vs):aS K c H ps vs:=aS.mono (λ_ _ t=>t) (λ_ _ l=>Tj h l) ps vs r
theorem Ek{c c':Addr->Prop}(h:∀a,c a->c' a){v:PV}{x:V}(r:aT K c' H v x):aT K c H v x:=aT.mono (λ_ _ t=>t) (λ_ _ l=>Tj h l) v x r
theorem Py{f g:List Addr}(h:f <+:g):g.take f.length=f:=by
 obtain⟨t,e⟩:=h;rw[<-e,j9]
theorem qQ{α:Type}:∀{l:List α}{i j:Nat}{a:α},l.Nodup->l[i]?=some a->l[j]?=some a->i=j
 |[],i,j,a,_,e,_=>by simp at e
 |b::l,0,0,a,_,_,_=>rfl
 |b::l,0,j+1,a,n,e,f=>by
  simp at e f;subst e;exact absurd (dg f) (mn.mp n).1
 |b::l,i+1,0,a,n,e,f=>by
  simp at e f;subst f;exact absurd (dg e) (mn.mp n).1
 |b::l,i+1,j+1,a,n,e,f=>by
  exact congrArg (·+1) (qQ (l:=l) (a:=a) (mn.mp n).2 (by simpa using e) (by simpa using f))
theorem aX.cutX(D:Addr->Prop)(s:aX K p S H)(st:bQ p H q H')(s':aX K q S' H')(hD:∀b,D b->H b=none)(hq:(∀b,D b->b∈q.f)\/∀k o,S'[k]?=some o->k<S.length->∃xs,o=.lst xs):
  let r:Ph:=⟨p.f,λb=>q.w b/\¬D b,λb=>q.c b/\¬D b⟩
  bQ p H r H'/\aX K r (S'.take S.length) H':=by
 intro r;have nD:∀a,p.c a->¬D a:=λa c d=>by
  obtain⟨o,ho,_⟩:=s.mu a c;rw[hD a d]at ho;cases ho
 have le:S.length<=S'.length:=by
  have:=st.pre.length_le;rw[<-s.len,<-s'.len];exact this
 refine⟨⟨s.wc,s.mu,kh,λa h=>⟨st.mw a h,nD a (s.wc a h)⟩,λa h=>⟨st.mono a h,nD a h⟩,λ_ h g=>absurd h g,λa h=>st.nw a h.1,λa h=>st.nc a h.1,st.keep⟩,s.nd,by rw[s.len,kl];omega,λa h=>⟨st.mw a (s.sub a h),nD a (s.wc a (s.sub a h))⟩,λa h=>⟨s'.wc a h.1,h.2⟩,λa h=>s'.mu a h.1,λk a o e1 e2=>?_⟩;have hk:k<S.length:=by
  have:=(br.mp e1).1;rw[<-s.len];exact this
 have e2':S'[k]?=some o:=by
  rw[uk,if_pos hk]at e2;exact e2
 have z:=s'.obj k a o (st.at_ e1) e2';have shr:∀xs vs,aS K q.c H' xs vs->aS K r.c H' xs vs:=λxs vs=>oZ (λb h=>h.1);have sub:∀b,b∉q.f->b∉p.f:=λb n h=>n (st.pre.subset h);rcases hq with hq |hq
 .exact z.mono (λ_ e=>e) (λb w f=>⟨⟨⟨w,λd=>f (hq b d)⟩,sub b f⟩,λ_ e=>e⟩) shr
 .obtain⟨xs,rfl⟩:=hq k o e2' hk
  obtain⟨vs,e,l,g⟩:=z;exact⟨vs,e,l,shr xs vs g⟩
theorem aX.cut(s:aX K p S H)(st:bQ p H q H')(s':aX K q S' H'):bQ p H ⟨p.f,λb=>q.w b/\¬False,λb=>q.c b/\¬False⟩ H'/\aX K ⟨p.f,λb=>q.w b/\¬False,λb=>q.c b/\¬False⟩ (S'.take S.length) H':=
 s.cutX (λ_=>False) st s' (λ_ h=>h.elim) (.inl λ_ h=>h.elim)
theorem Sb(s:aX K p S H)(st:bQ p H q H')(sm:aX K q S' H'){k:Nat}{a:Addr}(e:q.f[k]?=some a)(hk:¬k<S.length):a∉p.f/\H a=none/\¬p.c a:=by
 have na:a∉p.f:=λhm=>by
  obtain⟨j,hj,ej⟩:=ph hm;have e2:q.f[j]?=some a:=st.at_ (by rw[ax hj,ej]);have hjk:j=k:=qQ sm.nd e2 e;rw[s.len]at hj;omega
 have hn:=st.nf a (dg e) na;refine⟨na,hn,λc=>?_⟩;obtain⟨o,ho,_⟩:=s.mu a c;rw[hn]at ho;cases ho
theorem Bo{r:bP AV}{Q:VK}{E:XK}(s:aX K p S H)(h:bY K cl (cD K) p H (frz S.length r) Q E):bY K cl (cD K) p H r Q E:=by
 cases r with
 |exc n S1=>exact h
 |fail=>exact h
 |ok v S1=>
  cases v with
  |pv v=>exact h
  |ref k=>
   have h:bY K cl (cD K) p H (if k<S.length then .ok (.ref k) S1 else match S1[k]? with
    |some (.lst xs)=>.ok (.pv (.lst xs)) (S1.take S.length)
    |_=>.fail) Q E:=h
   split at h
   .exact h
   .rename_i hk
    cases z:S1[k]? with
    |none=>rw[z]at h;exact h.elim
    |some o=>
     cases o with
     |lol _=>rw[z]at h;exact h.elim
     |dic _ _=>rw[z]at h;exact h.elim
     |dol _ _=>rw[z]at h;exact h.elim
     |lst xs=>
      rw[z]at h;intro q H' x st sm r;obtain⟨a,e,rfl⟩:=r;obtain⟨na,hn,nc⟩:=Sb s st sm e hk;obtain⟨st1,sm1⟩:=s.cutX (λb=>b=a) st sm (λb d=>d▸hn) (.inl λb d=>d▸dg e);obtain⟨vs,h1,l,r⟩:=sm.obj k a _ e z;refine h _ H' (.ref a) st1 sm1 ?_;show aT K (λb=>q.c b/\¬b=a) H' (.lst xs) (.ref a);unfold aT;exact⟨a,vs,rfl,.inl ⟨h1,λd=>d.2 rfl⟩,l,oZ (λb h=>h.1) r⟩
theorem vX{r:cN}{Q:VK}{E:XK}(s:aX K p S H)(h:bY K cl (cD K) p H (nZ S.length r) Q E):eP K cl p H r {nx:=λ_ H'=>Q .non H',rt:=Q} E:=by
 cases r with
 |nx ρ S1=>
  intro q H' σ st sm ev;obtain⟨st1,sm1⟩:=s.cut st sm;exact h _ H' .non st1 sm1 (by show aT K (λb=>q.c b/\¬False) H' .non .non;unfold aT;rfl)
 |exc n S1=>
  intro q H' st sm;obtain⟨st1,sm1⟩:=s.cut st sm;exact h _ H' st1 sm1
 |rt v S1=>
  intro q H' x st sm r;obtain⟨st1,sm1⟩:=s.cut st sm;cases v with
  |pv v=>exact h _ H' x st1 sm1 (show aT K (λb=>q.c b/\¬False) H' v x from Ek (λb h=>h.1) r)
  |ref k=>
   obtain⟨a,e,rfl⟩:=r;have h:bY K cl (cD K) p H (if k<S.length then .ok (.ref k) (S1.take S.length)else match S1[k]? with
    |some (.lst xs)=>.ok (.ref S.length) (S1.take S.length++[.lst xs])
    |some (.dic b kvs)=>.ok (.ref S.length) (S1.take S.length++[.dic b kvs])
    |_=>.fail) Q E:=h
   split at h
   .rename_i hk
    refine h _ H' (.ref a) st1 sm1 ⟨a,?_,rfl⟩;show p.f[k]?=some a;have hf:=Py st.pre;rw[<-hf,uk,if_pos (by rw[s.len];exact hk)];exact e
   .rename_i hk
    have fin:∀o,S1[k]?=some o->bY K cl (cD K) p H (.ok (.ref S.length) (S1.take S.length++[o])) Q E->Q (.ref a) H':=λo z h=>by
     obtain⟨na,hn,nc⟩:=Sb s st sm e hk;have l1:(S1.take S.length).length=S.length:=by rw[<-sm1.len,<-s.len]
     have ma:a∈q.f:=dg e;refine h ⟨p.f++[a],q.w,q.c⟩ H' (.ref a) ⟨s.wc,s.mu,⟨[a],rfl⟩,st.mw,st.mono,λb hb n=>?_,st.nw,st.nc,st.keep⟩ ⟨?_,?_,λb hb=>?_,sm.wc,sm.mu,λj b o e1 e2=>?_⟩ ⟨a,?_,rfl⟩
     .rcases cj.mp hb with z |z
      .exact absurd z n
      .have:b=a:=by simpa using z
       rw[this];exact hn
     .show(p.f++[a]).Nodup
      rw[qp];refine⟨s.nd,by simp,λb hb c hc z=>?_⟩;have:c=a:=by simpa using hc
      exact na (this▸z▸hb)
     .show(p.f++[a]).length=_
      rw[av,av,l1,s.len];rfl
     .rcases cj.mp hb with z |z
      .exact st.mw b (s.sub b z)
      .have:b=a:=by simpa using z
       rw[this];exact sm.sub a ma
     .by_cases hj:j<S.length
      .have e1':p.f[j]?=some b:=by
        have e1:(p.f++[a])[j]?=some b:=e1
        rwa[fx (by rw[s.len];exact hj)]at e1
       rw[fx (by rw[l1];exact hj),uk,if_pos hj]at e2;refine(sm.obj j b o (st.at_ e1') e2).mono (λ_ e=>e) (λc w f=>⟨⟨w,λm=>?_⟩,λ_ e=>e⟩) λ_ _ r=>r;rcases cj.mp m with z |z
       .exact f (st.pre.subset z)
       .have:c=a:=by simpa using z
        exact f (this▸ma)
      .have hj':j=S.length:=by
        have:=(br.mp e2).1;rw[av,l1]at this;simp at this;omega
       subst hj';rw[dz (by rw[l1];exact ak _),l1,ie]at e2;have e1:(p.f++[a])[S.length]?=some b:=e1;rw[<-s.len,dz (ak _),ie]at e1;cases e1;cases e2;refine(sm.obj k a _ e z).mono (λ_ e=>e) (λc w f=>⟨⟨w,λm=>?_⟩,λ_ e=>e⟩) λ_ _ r=>r;rcases cj.mp m with z |z
       .exact f (st.pre.subset z)
       .have:c=a:=by simpa using z
        exact f (this▸ma)
     .show(p.f++[a])[S.length]?=some a
      rw[<-s.len,dz (ak _),ie];rfl
    split at h
    .rename_i z
     exact fin _ z h
    .rename_i z
     exact fin _ z h
    .exact h.elim
 |bk ρ S1=>exact h.elim
 |ct ρ S1=>exact h.elim
 |fail=>exact h.elim
theorem sX{N:List Str}{xs:BC}{vs:List V}(r:gL K p H xs vs):dM K p H (jK N.length xs) (L2.start N vs):=by
 have go:∀{xs:BC}{vs:List V},gL K p H xs vs->xs.length=vs.length:=λ{xs vs} r=>by
  induction r with
  |nil=>rfl
  |cons _ _ ih=>rw[cv,cv,ih]
 have get:∀{xs:BC}{vs:List V},gL K p H xs vs->∀(i:Nat)(v:AV),xs[i]?=some v->∃x,vs[i]?=some x/\cD K p H v x:=λ{xs vs} r=>by
  induction r with
  |nil=>intro i v e;simp at e
  |cons h _ ih=>
   intro i v e;cases i with
   |zero=>
    simp at e;subst e;exact⟨_,rfl,h⟩
   |succ i=>simpa using ih i v (by simpa using e)
 have hl:=go r;refine⟨by unfold jK L2.start;simp[hl],λi v e=>?_⟩;unfold jK at e;unfold L2.start
 by_cases hi:i<xs.length
 .rw[fx (by simpa using hi),bo]at e
  cases z:xs[i]? with
  |none=>rw[z]at e;cases e
  |some u=>
   rw[z]at e;cases e;obtain⟨x,e1,e2⟩:=get r i v z;refine⟨x,?_,e2⟩;rw[fx (by rw[aj,<-hl];exact hi),bo,e1];rfl
 .rw[dz (by rw[aj];omega),zv]at e
  split at e
  .cases e
  .cases e
end
section
variable{P:Program}{w:aq}{K:ag}{mg:Str->AW}{base:Heap}{cl:Str->Addr}
theorem Ol{K:ag}{p:Ph}{H:Hp}{xs:BC}{vs:List V}(h:gL K p H xs vs):xs.length=vs.length:=by
 induction h with
 |nil=>rfl
 |cons _ _ ih=>rw[cv,cv,ih]
theorem xU{np n:Nat}{b:MS}{vs:List V}{H:Hp}{Q:VK}{E:XK}(h:mL K cl (aR np n b) vs H Q E):vs.length=np:=by
 obtain⟨p,S,xs,sm,ra,h⟩:=h;unfold aR at h;split at h
 .rename_i e
  rw[<-Ol ra,e]
 .exact h.elim
theorem Ex{x qual:Str}{st:Stmt}{f:Addr}{fd:cf}{N ps:List Str}{k np n:Nat}{b:MS}(F:jD K x qual st f fd)(S:hJ N ps (bX st))(hnp:ps.length=np)(hn:N.length=n)
  (hb:∀(cdv:Value)(A:au)(outer:List bh)(s:aa)(H:Hp)(E:XK),dJ k (A.deeper (envOfC qual (bX st) s.heap.objs.size f cdv))->fY K cl E0 (eV eL P w K mg base N qual (bX st) f cdv A outer s H E).nox (eI st) b):
  eG P w K mg base eL (k+1) f fd ps (jB K cl (aR np n b)):=by
 subst hnp hn;refine F.ok S (λvs H Q E h=>xU h) λcdv A outer s H vs Q E hr h=>⟨_,hb cdv A outer s H E hr rfl,?_⟩;obtain⟨p,S,xs,sm,ra,h⟩:=h;unfold aR at h;split at h
 .exact⟨p,S,_,sm,sX ra,vX sm h⟩
 .exact h.elim
theorem ae9{x qual:Str}{st:Stmt}{f:Addr}{fd:cf}{ds:Array Value}{N ps:List Str}{k np n:Nat}{b:MS}(F:kC K x qual st f fd ds)(S:hJ N ps (bX st))(hnp:ps.length=np)(hn:N.length=n)
  (hb:∀(cdv:Value)(A:au)(outer:List bh)(s:aa)(H:Hp)(E:XK),dJ k (A.deeper (envOfC qual (bX st) s.heap.objs.size f cdv))->fY K cl E0 (eV eL P w K mg base N qual (bX st) f cdv A outer s H E).nox (eI st) b):
  eG P w K mg base eL (k+1) f fd ps (jB K cl (aR np n b)):=by
 subst hnp hn;refine F.ok S (λvs H Q E h=>xU h) λcdv A outer s H vs Q E hr h=>⟨_,hb cdv A outer s H E hr rfl,?_⟩;obtain⟨p,S,xs,sm,ra,h⟩:=h;unfold aR at h;split at h
 .exact⟨p,S,_,sm,sX ra,vX sm h⟩
 .exact h.elim
theorem okX{x qual:Str}{st:Stmt}{f:Addr}{fd:cf}{N ps:List Str}{k np n:Nat}{b:MS}(F:jD K x qual st f fd)(S:hJ N ps (bX st))(hnp:ps.length=np)(hn:N.length=n)
  (hb:∀(cdv:Value)(A:au)(outer:List bh)(s:aa)(H:Hp)(E:XK),dJ k (A.deeper (envOfC qual (bX st) s.heap.objs.size f cdv))->fY K cl E (eV (iO P w) P w K mg base N qual (bX st) f cdv A outer s H E) (eI st) b):
  eG P w K mg base (iO P w) (k+1) f fd ps (mL K cl (aR np n b)):=by
 subst hnp hn;refine F.okX S (λvs H Q E h=>xU h) λcdv A outer s H vs Q E hr h=>⟨_,hb cdv A outer s H E hr rfl,?_⟩;obtain⟨p,S,xs,sm,ra,h⟩:=h;unfold aR at h;split at h
 .exact⟨p,S,_,sm,sX ra,vX sm h⟩
 .exact h.elim
theorem aeX{x qual:Str}{st:Stmt}{f:Addr}{fd:cf}{ds:Array Value}{N ps:List Str}{k np n:Nat}{b:MS}(F:kC K x qual st f fd ds)(S:hJ N ps (bX st))(hnp:ps.length=np)(hn:N.length=n)
  (hb:∀(cdv:Value)(A:au)(outer:List bh)(s:aa)(H:Hp)(E:XK),dJ k (A.deeper (envOfC qual (bX st) s.heap.objs.size f cdv))->fY K cl E (eV (iO P w) P w K mg base N qual (bX st) f cdv A outer s H E) (eI st) b):
  eG P w K mg base (iO P w) (k+1) f fd ps (mL K cl (aR np n b)):=by
 subst hnp hn;refine F.okX S (λvs H Q E h=>xU h) λcdv A outer s H vs Q E hr h=>⟨_,hb cdv A outer s H E hr rfl,?_⟩;obtain⟨p,S,xs,sm,ra,h⟩:=h;unfold aR at h;split at h
 .exact⟨p,S,_,sm,sX ra,vX sm h⟩
 .exact h.elim
theorem x0{f:Addr}{fd:cf}{ps:List Str}{k:Nat}{g:FM}(F:eG P w K mg base (iO P w) k f fd ps (mL K cl g)):eG P w K mg base eL k f fd ps (jB K cl g):=
 ⟨λvs H Q E h=>F.len vs H Q E0 h,λA outer s H args us vs Q E hr e0 hb hv h=>sf (F.run A outer s H args us vs Q E0 hr e0 hb hv h) λr s' hq=>by
  cases r with
  |error e=>
   obtain⟨_,_,_,_,_,_,_,_,_,_,_,_,z⟩:=hq;exact z
  |ok fl=>
   cases fl with
   |ret u=>exact hq
   |next=>exact hq
   |brk=>exact hq
   |cont=>exact hq⟩
end
section
variable{K:ag}{cl:Str->Addr}{E:XK}{X:Cx}{e:ah}{es:List ah}{ms:MA}{pos p:ai}{k n:Nat}{f:Addr}{fd:cf}{ps:List Str}{g:FM}{x:Str}{dvs:List V}{ds:AU}{dv:AZ}
theorem Ka{p:Ph}{H:Hp}{xs ys:BC}{vs ws:List V}(h:gL K p H xs vs)(g:gL K p H ys ws):gL K p H (xs++ys) (vs++ws):=by
 induction h with
 |nil=>exact g
 |cons h _ ih=>exact .cons h ih
def Dv(dv:AZ)(dvs:List V):Prop:=∀K p H,gL K p H (dv.map .pv) dvs
theorem Dv.nil:Dv [] []:=λ_ _ _=>.nil
theorem Dv.bl{i:Bool}{dv:AZ}{dvs:List V}(h:Dv dv dvs):Dv (.bl i::dv) (.bl i::dvs):=λK p H=>.cons (by show aT K p.c H _ _;unfold aT;rfl) (h K p H)
theorem aa0(F:eG X.prog X.w X.K X.mg X.base eL k f fd ps (jB K cl g))(hr:dJ k X.A)(hg:Gl X x)(hm:X.mg x=some (.ref f))(hk:fu X.K (.ref f)=true)(hb:jA X.K fd ps ds)(hd:bI dvs ds)(hv:Dv dv dvs)
  (ha:eT K cl E0 X (e::es) ms)(hdb:(x==("__debug__":Str))=false:=by decide)(he:starEach (e::es) X.env=(false,eval e X.env)::starEach es X.env:=by rfl)(hpl:(backTo pos (starEach es X.env)).any (·.1)=false:=by rfl):
  aU K cl E0 X (.Call (.Name x p) (e::es) [] pos) (pS g dv ms):=by
 intro hK;refine PE.imp (xB F hr hg hm hk hb hd yF (ha hK) hdb he hpl) ?_
 rintro σ H Q ⟨p,S,ρ,s,ev,h⟩
 exact cO s ev h λq H' as xs S' stp sm ev r k=>⟨q,S',_,sm,Ka r (hv K q H'),Bo sm k⟩
theorem Gk{α β:Type}{R:Ph->Hp->α->β->Prop}{p:Ph}{H:Hp}{r:bP α}{Q:β->Hp->Prop}(h:bY K cl R p H (jY r) Q E):bY K cl R p H r Q E0:=by
 cases r with
 |ok a S=>exact h
 |exc n S=>exact h.elim
 |fail=>exact h.elim
theorem Nc(F:eG X.prog X.w X.K X.mg X.base eL k f fd ps (jB K cl g))(hr:dJ k X.A)(hg:Gl X x)(hm:X.mg x=some (.ref f))(hk:fu X.K (.ref f)=true)(hb:jA X.K fd ps ds)(hd:bI dvs ds)(hv:Dv dv dvs)
  (ha:eT K cl E X (e::es) ms)(hdb:(x==("__debug__":Str))=false:=by decide)(he:starEach (e::es) X.env=(false,eval e X.env)::starEach es X.env:=by rfl)(hpl:(backTo pos (starEach es X.env)).any (·.1)=false:=by rfl):
  aU K cl E X (.Call (.Name x p) (e::es) [] pos) (aJ g dv ms):=by
 intro hK;refine PE.imp (xB F hr hg hm hk hb hd yF (ha hK) hdb he hpl) ?_
 rintro σ H Q ⟨p,S,ρ,s,ev,h⟩
 exact cO s ev h λq H' as xs S' stp sm ev r k=>⟨q,S',_,sm,Ka r (hv K q H'),Gk (Bo sm k)⟩
theorem U3(F:eG X.prog X.w X.K X.mg X.base eL k f fd ps (jB K cl g))(hr:dJ k X.A)(hg:Gl X x)(hm:X.mg x=some (.ref f))(hk:fu X.K (.ref f)=true)(hb:jA X.K fd ps ds)(hd:bI dvs ds)(hv:Dv dv dvs)
  (ha:eT K cl E X (e::es) ms)(hdb:(x==("__debug__":Str))=false:=by decide)(he:starEach (e::es) X.env=(false,eval e X.env)::starEach es X.env:=by rfl)(hpl:(backTo pos (starEach es X.env)).any (·.1)=false:=by rfl):
  aU K cl E X (.Call (.Name x p) (e::es) [] pos) (rH g dv ms):=by
 intro hK;refine PE.imp (xB F hr hg hm hk hb hd yF (ha hK) hdb he hpl) ?_
 rintro σ H Q ⟨p,S,ρ,s,ev,h⟩
 exact cO s ev h λq H' as xs S' stp sm ev r k=>⟨q,S',_,sm,Ka r (hv K q H'),Gk k⟩
def xM(n:Str):MS:=λ_ S=>.exc n S
theorem G8{P:Program}{w:aq}{mg:Str->AW}{base:Heap}{N:List Str}{qual:Str}{scope:Scope}{f:Addr}{cd:Value}{A:au}{outer:List bh}{BE:aa}{BF:Hp}
  {txt:Str}{j:Nat}{np p1 cpos:ai}(hg:Gl (eV (iO P w) P w K mg base N qual scope f cd A outer BE BF E) x)(hm:mg x=some (.ref (cl x)))(hx:ke K (cl x) oB "ValueError.__new__"=true)
  (hd:(x==("__debug__":Str))=false:=by decide):
  eZ K cl E (eV (iO P w) P w K mg base N qual scope f cd A outer BE BF E) (.Raise (some (.Call (.Name x np) [.Constant (.str txt) j p1] [] cpos)) none pos) (xM x):=
 λ_=>PS.imp (Y7 hg hm hx hd) λD σ H ⟨p,S,ρ,s,ev,h⟩=>h p H s.step s
end
def cJ(own:List Str)(cap:List (Nat×Str))(ρ:bZ):bZ:=own.map (λ_=>none)++cap.map λp=>(ρ[p.1]?).join
open Classical in
noncomputable def cG(G:Gd)(g:GM)(me:ME):AZ->bZ->aH->bP AZ
 |[],_,S=>if iQ G S then .ok [] S else .fail
 |x::r,ρ,S=>if iQ G S then(match g x ρ with
  |none=>.fail
  |some ρ1=>match me ρ1 S with
   |.ok (.pv y) S1=>match cG G g me r ρ1 S1 with
    |.ok ys S2=>.ok (y::ys) S2
    |_=>.fail
   |_=>.fail)else .fail
theorem dX{g:GM}{me:ME}{ρ:bZ}{S:aH}:cG [] g me [] ρ S=.ok [] S:=by
 unfold cG;rw[if_pos (iR S)]
theorem eA{g:GM}{me:ME}{x:PV}{r:AZ}{ρ:bZ}{S:aH}:cG [] g me (x::r) ρ S=(match g x ρ with
  |none=>.fail
  |some ρ1=>match me ρ1 S with
   |.ok (.pv y) S1=>match cG [] g me r ρ1 S1 with
    |.ok ys S2=>.ok (y::ys) S2
    |_=>.fail
   |_=>.fail):=by
 rw[cG,if_pos (iR S)]
noncomputable def bF(own:List Str)(cap:List (Nat×Str))(mi:MI)(g:GM)(me:ME):ME:=λρ S=>(mi ρ S).bind λxs S1=>(cG xs.2 g me xs.1 (cJ own cap ρ) S1).bind λys S2=>.ok (.pv (.lst ys)) S2
theorem Zy{G:Gd}{g:GM}{me:ME}:∀(xs:AZ)(ρ:bZ)(S:aH)(n:Str)(S':aH),cG G g me xs ρ S≠.exc n S'
 |[],_,_,_,_,e=>by
  unfold cG at e;split at e<;>cases e
 |x::r,ρ,S,n,S',e=>by
  unfold cG at e;split at e
  .split at e
   .cases e
   .split at e
    .split at e
     .cases e
     .cases e
    .cases e
  .cases e
theorem En{G:Gd}{g:GM}{me:ME}{xs zs:AZ}{ρ:bZ}{S S':aH}(e:cG G g me xs ρ S=.ok zs S'):iQ G S:=by
 cases xs with
 |nil=>
  unfold cG at e;split at e
  .assumption
  .cases e
 |cons x r=>
  unfold cG at e;split at e
  .assumption
  .cases e
section
variable{K:ag}{cl:Str->Addr}{E:XK}{X:Cx}{p q:Ph}{H H':Hp}{S:aH}
theorem Tp{ρ:bZ}{σ:St}{own:List Str}{cap:List (Nat×Str)}(h:dM K p H ρ σ):dM K p H (cJ own cap ρ) (iY own cap σ):=by
 refine⟨by unfold cJ iY;simp,λi v e=>?_⟩;unfold cJ at e;unfold iY
 by_cases hi:i<own.length
 .rw[fx (by simpa using hi),bo,ax hi]at e
  cases e
 .rw[dz (by rw[aj];omega),bo,aj]at e⊢
  cases z:cap[i-own.length]? with
  |none=>rw[z]at e;cases e
  |some c=>
   rw[z]at e;have e:(ρ[c.1]?).join=some v:=ce e;have e':ρ[c.1]?=some (some v):=by
    cases y:ρ[c.1]? with
    |none=>rw[y]at e;cases e
    |some o=>rw[y]at e;exact congrArg some e
   obtain⟨x,e1,e2⟩:=h.at_ c.1 v e';refine⟨x,?_,e2⟩;show some ((σ[c.1]?).join)=some (some x);rw[e1];rfl
def Ph.res(p:Ph)(D:Addr):Ph:=⟨p.f,λa=>p.w a\/a=D,λa=>p.c a\/a=D⟩
def Ph.hold(p:Ph)(D:Addr):Ph:=⟨p.f,λa=>p.w a/\a≠D,p.c⟩
def Ph.less(p:Ph)(D:Addr):Ph:=⟨p.f,λa=>p.w a/\a≠D,λa=>p.c a/\a≠D⟩
theorem aX.notin(s:aX K p S H){D:Addr}(h:H D=none):¬p.c D:=λc=>by
 obtain⟨o,e,_⟩:=s.mu D c;rw[h]at e;cases e
theorem aX.res(s:aX K p S H){D:Addr}{o:HO}(h:H D=none)(mo:Mb o):bQ p H (p.res D) (aW H D o)/\aX K (p.res D) S (aW H D o):=by
 have st:bQ p H (p.res D) (aW H D o):=⟨s.wc,s.mu,kh,λa h=>.inl h,λa h=>.inl h,λa h g=>absurd h g,λa x n=>x.elim (λz=>absurd z n) (λz=>by rw[z];exact h),λa x n=>x.elim (λz=>absurd z n) (λz=>by rw[z];exact h),λa u e _=>by
  rw[bT (gD e h)];exact e⟩
 refine⟨st,s.nd,s.len,λa h=>.inl (s.sub a h),λa x=>x.elim (λz=>.inl (s.wc a z)) .inr,λa x=>?_,λk a u e1 e2=>?_⟩
 .by_cases z:a=D
  .rw[z,fH]
   exact⟨o,rfl,mo⟩
  .rw[bT z]
   exact s.mu a (x.elim id λy=>absurd y z)
 .exact(s.obj k a u e1 e2).mono (λvs e=>by rw[bT (gD e h)];exact e) (λb w f=>⟨⟨.inl w,f⟩,λvs e=>by rw[bT (gD e h)];exact e⟩) λ_ _ r=>st.reps r
theorem aX.resHold(s:aX K p S H){D:Addr}{o:HO}(h:H D=none)(mo:Mb o):aX K ((p.res D).hold D) S (aW H D o):=by
 obtain⟨st,sm⟩:=s.res (o:=o) h mo;have ne:∀a,p.w a->a≠D:=λa w z=>s.notin h (z▸s.wc a w);refine⟨sm.nd,sm.len,λa m=>⟨sm.sub a m,ne a (s.sub a m)⟩,λa x=>sm.wc a x.1,sm.mu,λk a u e1 e2=>?_⟩;exact(s.obj k a u e1 e2).mono (λvs e=>by rw[bT (gD e h)];exact e) (λb w f=>⟨⟨⟨.inl w,ne b w⟩,f⟩,λvs e=>by rw[bT (gD e h)];exact e⟩) λ_ _ r=>st.reps r
theorem bQ.unhold{D:Addr}(h:p.w D)(st:bQ (p.hold D) H q H')(s:aX K p S H):bQ p H ⟨q.f,λa=>q.w a\/a=D,q.c⟩ H':=
 ⟨s.wc,s.mu,st.pre,λa x=>by
  by_cases z:a=D
  .exact .inr z
  .exact .inl (st.mw a ⟨x,z⟩),st.mono,st.nf,λa x n=>by
  rcases x with x |x
  .exact st.nw a x λz=>n z.1
  .exact absurd (x▸h) n,st.nc,λa o e n=>st.keep a o e λz=>n z.1⟩
theorem aX.grow{D:Addr}{ys:List V}{o:HO}(s:aX K p S H)(sh:aX K (p.hold D) S H)(w:p.w D)(n:D∉p.f)(mo:Mb o):bQ p H p (aW H D o)/\aX K p S (aW H D o)/\aX K (p.hold D) S (aW H D o):=by
 have st:bQ p H p (aW H D o):=⟨s.wc,s.mu,kh,λ_ h=>h,λ_ h=>h,λ_ h g=>absurd h g,λ_ h g=>absurd h g,λ_ h g=>absurd h g,λa u e nw=>by
  rw[bT (λz:a=D=>nw (by rw[z];exact w))];exact e⟩
 have hm:∀a,p.c a->∃u,aW H D o a=some u/\Mb u:=λa x=>by
  by_cases z:a=D
  .rw[z,fH]
   exact⟨o,rfl,mo⟩
  .rw[bT z]
   exact s.mu a x
 refine⟨st,⟨s.nd,s.len,s.sub,s.wc,hm,λk a u e1 e2=>?_⟩,⟨sh.nd,sh.len,sh.sub,sh.wc,hm,λk a u e1 e2=>?_⟩⟩
 .have ne:a≠D:=λz=>n (z▸dg e1)
  exact(sh.obj k a u e1 e2).mono (λvs e=>by rw[bT ne];exact e) (λb w f=>⟨⟨w.1,f⟩,λvs e=>by rw[bT w.2];exact e⟩) λ_ _ r=>st.reps r
 .have ne:a≠D:=λz=>n (z▸dg e1)
  exact(sh.obj k a u e1 e2).mono (λvs e=>by rw[bT ne];exact e) (λb w f=>⟨⟨w,f⟩,λvs e=>by rw[bT w.2];exact e⟩) λ_ _ r=>st.reps r
theorem aX.toLess{D:Addr}(s:aX K (p.hold D) S H):aX K (p.less D) S H:=
 ⟨s.nd,s.len,s.sub,λa h=>⟨s.wc a h,h.2⟩,λa h=>s.mu a h.1,λk a o e1 e2=>
  (s.obj k a o e1 e2).mono (λ_ e=>e) (λb w f=>⟨⟨w,f⟩,λ_ e=>e⟩) λ_ _ r=>oZ (λa h=>h.1) r⟩
theorem bQ.toLess{D:Addr}(st:bQ p H q H')(h:H D=none):bQ p H (q.less D) H':=by
 have nD:∀a,p.c a->a≠D:=λa c z=>by
  obtain⟨o,e,_⟩:=st.mu a c;rw[z,h]at e;cases e
 exact⟨st.wc,st.mu,st.pre,λa x=>⟨st.mw a x,nD a (st.wc a x)⟩,λa x=>⟨st.mono a x,nD a x⟩,st.nf,λa x=>st.nw a x.1,λa x=>st.nc a x.1,st.keep⟩
variable{sc:Scope}{own:List Str}{cap:List (Nat×Str)}{elt target iter:ah}{pos:ai}{mi:MI}{g:GM}{me:ME}
theorem E7{σ:St}{ρ:bZ}{xs zs:AZ}{G:Gd}{J:It}{Q:VK}{D:Addr}{S2:aH}(sm:aX K p S H)(ev:dM K p H ρ σ)(it:fJ K p H (xs,G) J)(z:cG G g me xs (cJ own cap ρ) S=.ok zs S2)(hD:H D=none)
  (k:∀q H' vs,bQ p H q H'->aX K q S2 H'->aX K (q.hold D) S2 H'->q.w D->D∉q.f->H' D=some (.lst vs)->vs.length<=sizeLine->aS K q.c H' zs vs->Q (.ref D) H'):
  yX J (gP K g) (tP K cl E0 (cD K) me) (iY own cap σ) H D Q:=by
 obtain⟨st0,sm0⟩:=sm.res (D:=D) (o:=.lst []) hD trivial;have sh0:=sm.resHold (D:=D) (o:=.lst []) hD trivial;have nf0:D∉p.f:=λh=>sm.notin hD (sm.wc D (sm.sub D h));refine abz xs.length it.1 (λi σ1 H1 ys=>ys.length=i/\i<=xs.length/\H1 D=some (.lst ys)/\∃p1 S1 ρ1 us ws,(aX K p1 S1 H1/\aX K (p1.hold D) S1 H1)/\bQ p H p1 H1/\p1.w D/\D∉p1.f/\dM K p1 H1 ρ1 σ1/\fJ K p1 H1 (xs,G) J/\iQ G S1/\aS K p1.c H1 us ys/\zs=us++ws/\cG G g me (xs.drop i) ρ1 S1=.ok ws S2) ?_ ?_ ?_ ?_ ?_
 .refine⟨rfl,gn _,fH,p.res D,S,cJ own cap ρ,[],zs,⟨sm0,sh0⟩,st0,.inr rfl,nf0,Tp (st0.repE ev),it.step st0,?_,.nil,rfl,by simpa using z⟩
  exact En z
 .rintro i σ1 H1 ys ⟨h1,_,h2,_⟩
  exact⟨h1,h2⟩
 .rintro i σ1 H1 ys hi ⟨_,_,_,p1,S1,ρ1,us,ws,⟨sm1,sh1⟩,st1,w1,f1,ev1,it1,g1,_⟩
  exact((it1.2 p1 H1 S1 sm1.step sm1 g1).1 i xs[i] (ax hi)).1
 .rintro i σ1 H1 ys x H2 hi ⟨hl,_,hH,p1,S1,ρ1,us,ws,⟨sm1,sh1⟩,st1,w1,f1,ev1,it1,g1,r1,e1,c1⟩ hy
  obtain⟨same,rx⟩:=((it1.2 p1 H1 S1 sm1.step sm1 g1).1 i xs[i] (ax hi)).2 x H2 hy;rw[ui hi]at c1;unfold cG at c1;rw[if_pos g1]at c1;split at c1
  .cases c1
  .rename_i ρ2 gz
   split at c1
   .rename_i y S3 mz
    split at c1
    .rename_i vs S4 cz
     cases c1;have st2:=sm1.same same;have sm2:=sm1.ofSame same;have smh:=sh1.ofSame same;have stS:bQ p H p1 H2:=st1.trans st2;refine⟨p1,S1,ρ1,xs[i],ρ2,sm2,st2.repE ev1,rx,gz,λσ3 ev3=>⟨p1.hold D,S1,ρ2,smh,⟨ev3.len,ev3.at_⟩,?_⟩⟩;rw[mz];intro q H4 y' st4 sm4 ry;have hD2:H2 D=some (.lst ys):=same _ _ hH;have hD4:H4 D=some (.lst ys):=st4.keep D _ hD2 λz=>z.2 rfl;have fq:D∉q.f:=λh=>by
      have:=st4.nf D h f1;rw[hD2]at this;cases this
     have stU:=bQ.unhold w1 st4 sm2;have nq:¬q.w D:=λz=>by
      have:=st4.nw D z λy=>y.2 rfl;rw[hD2]at this;cases this
     have smU:aX K ⟨q.f,λa=>q.w a\/a=D,q.c⟩ S3 H4:=⟨sm4.nd,sm4.len,λa h=>.inl (sm4.sub a h),λa h=>h.elim (sm4.wc a) λz=>z▸st4.mono D (sm2.wc D w1),sm4.mu,λk a o e1 e2=>
      (sm4.obj k a o e1 e2).mono (λ_ e=>e) (λb w f=>⟨⟨.inl w,f⟩,λ_ e=>e⟩) λ_ _ r=>r⟩
     have shU:aX K (Ph.hold ⟨q.f,λa=>q.w a\/a=D,q.c⟩ D) S3 H4:=⟨sm4.nd,sm4.len,λa h=>⟨.inl (sm4.sub a h),λz=>nq (z▸sm4.sub a h)⟩,λa h=>smU.wc a h.1,sm4.mu,λk a o e1 e2=>
      (sm4.obj k a o e1 e2).mono (λ_ e=>e) (λb w f=>⟨⟨⟨.inl w,λz=>nq (z▸w)⟩,f⟩,λ_ e=>e⟩) λ_ _ r=>r⟩
     obtain⟨stG,smG,shG⟩:=smU.grow (ys:=ys) (D:=D) (o:=.lst (ys++[y'])) shU (.inr rfl) fq trivial;have stA:=st2.trans (stU.trans stG);refine aew hi hD4 ⟨by rw[av,hl];rfl,hi,fH,_,S3,ρ2,us++[y],vs,⟨smG,shG⟩,st1.trans stA,.inr rfl,fq,stG.repE (stU.repE ev3),it1.step stA,En cz,?_,by rw[e1,ix];rfl,cz⟩;exact(stA.reps r1).append (.cons (stG.rep ry) .nil)
    .cases c1
   .cases c1
 .rintro σ1 H1 ys ⟨hl,_,hH,p1,S1,ρ1,us,ws,⟨sm1,sh1⟩,st1,w1,f1,ev1,it1,g1,r1,e1,c1⟩
  rw[uj]at c1;unfold cG at c1;rw[if_pos g1]at c1;cases c1;refine⟨(it1.2 p1 H1 _ sm1.step sm1 g1).2,?_⟩;rw[ja]at e1;subst e1;exact k p1 H1 ys st1 sm1 sh1 w1 f1 hH (by rw[hl];exact it.1) r1
theorem Xb{σ:St}{ρ:bZ}{xs:AZ×Gd}{J:It}{Q:VK}{D:Addr}(sm:aX K p S H)(ev:dM K p H ρ σ)(it:fJ K p H xs J)(k:bY K cl (cD K) p H ((cG xs.2 g me xs.1 (cJ own cap ρ) S).bind λys S2=>.ok (.pv (.lst ys)) S2) Q E)(hD:H D=none):
  yX J (gP K g) (tP K cl E0 (cD K) me) (iY own cap σ) H D Q:=by
 cases z:cG xs.2 g me xs.1 (cJ own cap ρ) S with
 |fail=>rw[z]at k;exact k.elim
 |exc n S'=>exact absurd z (Zy _ _ _ _ _)
 |ok zs S2=>
  rw[z]at k;have k:∀q H' x,bQ p H q H'->aX K q S2 H'->aT K q.c H' (.lst zs) x->Q x H':=k;refine E7 sm ev it z hD λq H' vs st1 sm1 sh1 w1 f1 hH l1 r1=>?_;refine k (q.less D) H' (.ref D) (st1.toLess hD) sh1.toLess ?_;unfold aT;exact⟨D,vs,rfl,.inl ⟨hH,λz=>z.2 rfl⟩,l1,oZ (λa h=>h.1) r1⟩
theorem aaN(k:iA X sc own cap)(hi:iU K cl E X target iter mi)(hc:X.calm=true)(hg:∀C BE BF ex,lM K (eQ X sc (cR own cap) C BE BF ex) target g)(he:∀C BE BF ex,aU K cl E0 (eQ X sc (cR own cap) C BE BF ex) elt me)
  (hs:∀x,foldedSetIterable iter X.env x=pure x:=by intro _;rfl):aU K cl E X (.ListComp elt [⟨target,iter,[],0⟩] sc pos) (bF own cap mi g me):=by
 intro hK;refine PE.imp (abi k (hi hK) hc (λC BE BF ex=>hg C BE BF ex hK) (λC BE BF ex=>he C BE BF ex hK) hs) ?_
 rintro σ H Q ⟨p,S,ρ,s,ev,h⟩
 exact cO s ev h λq H' xs J S' stp sm ev it kk D hD=>Xb sm ev it kk hD
theorem O8{i:Nat}{x:Str}{py spos:ai}(hN:X.N.Nodup)(hx:X.N[i]?=some x)(hl:nM X.env.scope x)(k:iA X sc own cap)(hi:iU K cl E X target iter mi)(hc:X.calm=true)(hg:∀C BE BF ex,lM K (eQ X sc (cR own cap) C BE BF ex) target g)(he:∀C BE BF ex,aU K cl E0 (eQ X sc (cR own cap) C BE BF ex) elt me)
  (hs:∀x,foldedSetIterable iter X.env x=pure x:=by intro _;rfl)(hsw:swapsWith (.ListComp elt [⟨target,iter,[],0⟩] sc pos) (some (.Name x py)) spos.line X.env=pure true:=by rfl)
  (hf:X.fn x=true\/X.env.scope.names.lookup x=some .local:=by first |exact .inl rfl |exact .inr rfl |assumption):
  eZ K cl E X (.Assign [.Name x py] (.ListComp elt [⟨target,iter,[],0⟩] sc pos) spos) (aQ i (bF own cap mi g me)):=by
 intro hK;refine PS.imp (aby hN hx hl k (hi hK) hc (λC BE BF ex=>hg C BE BF ex hK) (λC BE BF ex=>he C BE BF ex hK) hs hsw hf) ?_
 rintro D σ H ⟨p,S,ρ,s,ev,h⟩
 have h2:tP K cl E (cD K) (bF own cap mi g me) σ H λy H1=>D.nx (σ.set i (some y)) H1:=by
  refine⟨p,S,ρ,s,ev,?_⟩;unfold aQ at h;cases z:bF own cap mi g me ρ S with
  |ok v S1=>
   rw[z]at h;exact λq H' y st sm r=>h q H' _ st sm ((st.repE ev).set r i)
  |exc n S1=>rw[z]at h;exact h
  |fail=>rw[z]at h;exact h
 obtain⟨p,S,ρ,s,ev,h⟩:=h2;exact cO s ev h λq H' xs J S' stp sm ev it kk B hB=>Xb sm ev it kk hB
end
def mF:List (Option Bool)->Option (List Bool)
 |[]=>some []
 |some b::r=>match mF r with
  |some bs=>some (b::bs)
  |none=>none
 |none::_=>none
theorem Kk:∀{l:List (Option Bool)}{bs:List Bool},mF l=some bs->bs.length=l.length
 |[],_,e=>by cases e;rfl
 |some b::r,bs,e=>by
  unfold mF at e;split at e
  .rename_i cs h
   cases e;rw[cv,cv,Kk h]
  .cases e
 |none::r,_,e=>by cases e
theorem Ua:∀{l:List (Option Bool)}{bs:List Bool}{i:Nat}{o:Option Bool},mF l=some bs->l[i]?=some o->∃b,o=some b/\bs[i]?=some b
 |[],_,i,o,_,h=>by simp at h
 |some b::r,bs,i,o,e,h=>by
  unfold mF at e;split at e
  .rename_i cs h'
   cases e;cases i with
   |zero=>
    simp at h;exact⟨b,h.symm,rfl⟩
   |succ i=>simpa using Ua h' (by simpa using h)
  .cases e
 |none::r,_,_,_,e,_=>by cases e
def aP:Nat->PV->PV->Option Bool
 |_,.non,.non=>some true
 |_,.bl a,.bl b=>some (a==b)
 |_,.int a,.int b=>some (a==b)
 |_,.str a,.str b=>some (a==b)
 |n+1,.tup xs,.tup ys=>match mF (cr (aP n) xs ys)with
  |some bs=>some (bs.all id&&xs.length==ys.length)
  |none=>none
 |n+1,.lst xs,.lst ys=>if xs.length=ys.length then(match mF (cr (aP n) xs ys)with
  |some bs=>some (bs.all id)
  |none=>none)else some false
 |_,_,_=>none
theorem wG(bs:List Bool):((cu bs.length).all λj=>bs.getD j true)=bs.all id:=by
 rw[ot,kb,kb];constructor
 .intro h b hb
  obtain⟨j,hj,e⟩:=ph hb;have:=h j (by simpa using hj);simpa[cg,hj,e]using this
 .intro h j hj
  have hj:j<bs.length:=by simpa using hj
  have:=h bs[j] (fe hj);simpa[cg,hj]using this
section
variable{X:Cx}{BD:List (Addr×Obj)}{σ:St}{H:Hp}{s:aa}{c:Addr->Prop}
theorem wS{n:Nat}{xs ys:AZ}{vs ws:List V}{its jts:AU}{bs:List Bool}{A:au}
  (ih:∀(v w:PV)(x y:V)(u u':Value)(b:Bool),aT X.K c H v x->aT X.K c H w y->bS x u->bS y u'->aP n v w=some b->kg A s u u' b)
  (r1:aS X.K c H xs vs)(r2:aS X.K c H ys ws)(q1:bI vs its)(q2:bI ws jts)(e:mF (cr (aP n) xs ys)=some bs):
  ∀j(h1:j<its.toArray.size)(h2:j<jts.toArray.size),kg A s its.toArray[j] jts.toArray[j] (bs.getD j true):=λj h1 h2=>by
 have l1:=r1.length.trans q1.length;have l2:=r2.length.trans q2.length;have g1:j<xs.length:=by rw[l1];simpa using h1
 have g2:j<ys.length:=by rw[l2];simpa using h2
 obtain⟨x,ex,rx⟩:=r1.get (ax g1);obtain⟨y,ey,ry⟩:=r2.get (ax g2);obtain⟨u,eu,ru⟩:=q1.get ex;obtain⟨u',eu',ru'⟩:=q2.get ey;have hz:(cr (aP n) xs ys)[j]?=some (aP n xs[j] ys[j]):=by
  rw[k4,ax g1,ax g2]
 obtain⟨b,eb,eb'⟩:=Ua e hz;have e1:its.toArray[j]=u:=by
  rw[k7];rw[ax (by simpa using h1)]at eu;exact ce eu
 have e2:jts.toArray[j]=u':=by
  rw[k7];rw[ax (by simpa using h2)]at eu';exact ce eu'
 rw[e1,e2];have e3:bs.getD j true=b:=by simp[cg,eb']
 rw[e3];exact ih _ _ _ _ _ _ _ rx ry ru ru' eb
theorem tX{n:Nat}{xs ys:AZ}{bs:List Bool}(e:mF (cr (aP n) xs ys)=some bs):bs.length=min xs.length ys.length:=by
 rw[Kk e,ka]
theorem Ul(n:Nat)(v w:PV)(x:V)(b:Bool)(nt:∀xs,v≠.tup xs)(nl:∀xs,v≠.lst xs)(h:aT X.K c H v x)(g:aT X.K c H w x)(e:aP n v w=some b):b=true:=by
 cases v with
 |tup xs=>exact absurd rfl (nt xs)
 |lst xs=>exact absurd rfl (nl xs)
 |non=>
  cases w<;>first |(unfold aP at e;simp at e;done) |skip
  unfold aP at e;cases e;rfl
 |bl i=>
  cases w<;>first |(unfold aP at e;simp at e;done) |skip
  unfold aT at h g;subst h;injection g with g';subst g';unfold aP at e;cases e;exact beq_self_eq_true _
 |int i=>
  cases w<;>first |(unfold aP at e;simp at e;done) |skip
  unfold aT at h g;subst h;injection g with g';subst g';unfold aP at e;cases e;exact beq_self_eq_true _
 |str i=>
  cases w<;>first |(unfold aP at e;simp at e;done) |skip
  unfold aT at h g;subst h;injection g with g';subst g';unfold aP at e;cases e;exact beq_self_eq_true _
theorem Sn(I:aI X BD σ H s):∀(n:Nat)(v w:PV)(x:V)(b:Bool),aT X.K c H v x->aT X.K c H w x->aP n v w=some b->b=true:=by
 intro n
 induction n with
 |zero=>
  intro v w x b h g e;cases v with
  |tup xs=>unfold aP at e;simp at e
  |lst xs=>unfold aP at e;simp at e
  |_=>exact Ul 0 _ w x b (by intro _ z;cases z) (by intro _ z;cases z) h g e
 |succ n ih=>
  have items:∀(xs ys:AZ)(vs:List V)(bs:List Bool),aS X.K c H xs vs->aS X.K c H ys vs->mF (cr (aP n) xs ys)=some bs->bs.all id=true/\xs.length=ys.length:=λxs ys vs bs r1 r2 e=>by
   have ll:=r1.length.trans r2.length.symm;refine⟨?_,ll⟩;rw[kb];intro b hb;obtain⟨j,hj,ej⟩:=ph hb;have hj':=hj;rw[tX e]at hj';have g1:j<xs.length:=by omega
   have g2:j<ys.length:=by omega
   obtain⟨x,ex,rx⟩:=r1.get (ax g1);obtain⟨y,ey,ry⟩:=r2.get (ax g2);have:=ex.symm.trans ey;cases this;have hz:(cr (aP n) xs ys)[j]?=some (aP n xs[j] ys[j]):=by
    rw[k4,ax g1,ax g2]
   obtain⟨b',eb,eb'⟩:=Ua e hz;rw[ax hj,ej]at eb';cases eb';exact ih _ _ _ _ rx ry eb
  intro v w x b h g e;cases v with
  |tup xs=>
   cases w with
   |tup ys=>
    unfold aT at h g;obtain⟨a,vs,rfl,t1,_,r1⟩:=h;obtain⟨a',ws,e1,t2,_,r2⟩:=g;cases e1;have:=I.tuple_inj t1 t2;subst this;unfold aP at e;split at e
    .rename_i bs hb
     obtain⟨z1,z2⟩:=items xs ys vs bs r1 r2 hb;rw[z1,z2,beq_self_eq_true]at e;cases e;rfl
    .cases e
   |_=>unfold aP at e;simp at e
  |lst xs=>
   cases w with
   |lst ys=>
    unfold aT at h g;obtain⟨a,vs,rfl,t1,_,r1⟩:=h;obtain⟨a',ws,e1,t2,_,r2⟩:=g;cases e1;have:=I.list_inj t1.sq t2.sq;subst this;unfold aP at e;rw[if_pos (r1.length.trans r2.length.symm)]at e;split at e
    .rename_i bs hb
     obtain⟨z1,z2⟩:=items xs ys vs bs r1 r2 hb;rw[z1]at e;cases e;rfl
    .cases e
   |_=>unfold aP at e;simp at e
  |_=>exact Ul (n+1) _ w x b (by intro _ z;cases z) (by intro _ z;cases z) h g e
theorem Iu(I:aI X BD σ H s):∀(n:Nat)(v w:PV)(x y:V)(u u':Value)(b:Bool)(A:au),A.units+n<cLine->aT X.K c H v x->aT X.K c H w y->bS x u->bS y u'->aP n v w=some b->pk A s u u' b/\kg A s u u' b:=by
 have flat:∀(n:Nat)(v w:PV)(x y:V)(u u':Value)(b:Bool)(A:au),(∀xs,v≠.tup xs)->(∀xs,v≠.lst xs)->aT X.K c H v x->aT X.K c H w y->bS x u->bS y u'->aP n v w=some b->pk A s u u' b/\kg A s u u' b:=by
  intro n v w x y u u' b A nt nl h g r r' e;cases v with
  |tup xs=>exact absurd rfl (nt xs)
  |lst xs=>exact absurd rfl (nl xs)
  |non=>
   cases w<;>first |(unfold aP at e;simp at e;done) |skip
   unfold aT at h g;subst h g;cases r;cases r';unfold aP at e;cases e;exact⟨k8,uf _⟩
  |bl i=>
   cases w<;>first |(unfold aP at e;simp at e;done) |skip
   unfold aT at h g;subst h g;cases r;cases r';unfold aP at e;cases e;exact⟨k9 _ _,SeqAt.EqAt.bool_bool _ _⟩
  |int i=>
   cases w<;>first |(unfold aP at e;simp at e;done) |skip
   unfold aT at h g;subst h g;obtain⟨t,rfl⟩:=r;obtain⟨t',rfl⟩:=r';unfold aP at e;cases e;exact⟨l7 _ _ _ _,j1 _ _ _ _⟩
  |str i=>
   cases w<;>first |(unfold aP at e;simp at e;done) |skip
   unfold aT at h g;subst h g;obtain⟨t,rfl⟩:=r;obtain⟨t',rfl⟩:=r';unfold aP at e;cases e;exact⟨l9 _ _ _ _,SeqAt.EqAt.str_str _ _ _ _⟩
 have main:∀(n:Nat)(v w:PV)(x y:V)(u u':Value)(b:Bool)(A:au),A.units+n<cLine->aT X.K c H v x->aT X.K c H w y->bS x u->bS y u'->aP n v w=some b->pk A s u u' b/\kg A s u u' b:=by
  intro n
  induction n with
  |zero=>
   intro v w x y u u' b A hu h g r r' e;cases v with
   |tup xs=>unfold aP at e;simp at e
   |lst xs=>unfold aP at e;simp at e
   |_=>exact flat 0 _ w x y u u' b A (by intro _ z;cases z) (by intro _ z;cases z) h g r r' e
  |succ n ih=>
   intro v w x y u u' b A hu h g r r' e;have hin:A.in1.units+n<cLine:=by show A.units+1+n<cLine;omega
   cases v with
   |tup xs=>
    cases w with
    |tup ys=>
     have hs:x=y->b=true:=λz=>Sn I (n+1) _ _ x b h (z▸g) e;unfold aT at h g;obtain⟨a,vs,rfl,t1,_,r1⟩:=h;obtain⟨a',ws,rfl,t2,_,r2⟩:=g;cases r;cases r';obtain⟨its,q1,p1,_⟩:=I.tuple t1;obtain⟨jts,q2,p2,_⟩:=I.tuple t2;unfold aP at e;split at e
     .rename_i bs hb
      cases e;have z:=xz (A:=A) (s:=s) (e:=λj=>bs.getD j true) (show s.heap.IsTuple a its.toArray from p1) (show s.heap.IsTuple a' jts.toArray from p2) (by omega)
       (wS (A:=A.in1) (λv w x y u u' b h1 h2 h3 h4 h5=>(ih v w x y u u' b A.in1 hin h1 h2 h3 h4 h5).2) r1 r2 q1 q2 hb)
      have l1:=r1.length.trans q1.length;have l2:=r2.length.trans q2.length;rw[az,az,<-l1,<-l2,<-tX hb,wG]at z;refine⟨z,?_⟩
      by_cases ha:a=a'
      .subst ha
       rw[hs rfl];exact uf _
      .exact ya ha z
     .cases e
    |_=>unfold aP at e;simp at e
   |lst xs=>
    cases w with
    |lst ys=>
     have hs:x=y->b=true:=λz=>Sn I (n+1) _ _ x b h (z▸g) e;unfold aT at h g;obtain⟨a,vs,rfl,t1,_,r1⟩:=h;obtain⟨a',ws,rfl,t2,_,r2⟩:=g;cases r;cases r';obtain⟨its,q1,p1,_⟩:=I.list t1.sq;obtain⟨jts,q2,p2,_⟩:=I.list t2.sq;have l1:=r1.length.trans q1.length;have l2:=r2.length.trans q2.length;have fin:pk A s (.ref a) (.ref a') b->pk A s (.ref a) (.ref a') b/\kg A s (.ref a) (.ref a') b:=λz=>by
      refine⟨z,?_⟩
      by_cases ha:a=a'
      .subst ha
       rw[hs rfl];exact uf _
      .exact ya ha z
     unfold aP at e;split at e
     .rename_i hl
      split at e
      .rename_i bs hb
       cases e;have z:=m9 (A:=A) (s:=s) (e:=λj=>bs.getD j true) p1.isList p2.isList (by rw[az,az];omega) (by omega)
        (wS (A:=A.in1) (λv w x y u u' b h1 h2 h3 h4 h5=>(ih v w x y u u' b A.in1 hin h1 h2 h3 h4 h5).2) r1 r2 q1 q2 hb)
       have hm:its.length=bs.length:=by rw[tX hb];omega
       rw[az,hm,wG]at z;exact fin z
      .cases e
     .rename_i hl
      cases e;exact fin (o0 p1.isList p2.isList (by rw[az,az];simp;omega) (by omega))
    |_=>unfold aP at e;simp at e
   |_=>exact flat (n+1) _ w x y u u' b A (by intro _ z;cases z) (by intro _ z;cases z) h g r r' e
 exact main
end
noncomputable section
open PySem PySem.Spec PyProof.Rows Bn
section
variable{X:Cx}
theorem Tu{BD:List (Addr×Obj)}{σ:St}{H:Hp}{s:aa}(I:aI X BD σ H s){p:Ph}{v w:PV}{x y:V}{u u':Value}{b:Bool}{A:au}(hu:A.units+8<cLine)(h:fP X.K p H v x)(g:fP X.K p H w y)(r:bS x u)(r':bS y u')(e:aP 8 v w=some b):
  pk A s u u' b/\SeqAt.RcNeAt A s u u' (!b):=by
 have hin:A.in1.units+7<cLine:=by show A.units+1+7<cLine;omega
 cases v with
 |non=>
  cases w<;>first |(unfold aP at e;simp at e;done) |skip
  have h:=h.non;have g:=g.non;subst h g;cases r;cases r';unfold aP at e;cases e;exact⟨k8,SeqAt.RcNeAt.none_none⟩
 |bl i=>
  cases w<;>first |(unfold aP at e;simp at e;done) |skip
  have h:=h.bl;have g:=g.bl;subst h g;cases r;cases r';unfold aP at e;cases e;exact⟨k9 _ _,SeqAt.RcNeAt.bool_bool _ _⟩
 |int i=>
  cases w<;>first |(unfold aP at e;simp at e;done) |skip
  have h:=h.int;have g:=g.int;subst h g;obtain⟨t,rfl⟩:=r;obtain⟨t',rfl⟩:=r';unfold aP at e;cases e;exact⟨l7 _ _ _ _,SeqAt.RcNeAt.int_int _ _ _ _⟩
 |str i=>
  cases w<;>first |(unfold aP at e;simp at e;done) |skip
  have h:=h.str;have g:=g.str;subst h g;obtain⟨t,rfl⟩:=r;obtain⟨t',rfl⟩:=r';unfold aP at e;cases e;exact⟨l9 _ _ _ _,SeqAt.RcNeAt.str_str _ _ _ _⟩
 |tup xs=>
  cases w with
  |tup ys=>
   obtain⟨a,vs,rfl,t1,_,r1⟩:=h.tup;obtain⟨a',ws,rfl,t2,_,r2⟩:=g.tup;cases r;cases r';obtain⟨its,q1,p1,_⟩:=I.tuple t1;obtain⟨jts,q2,p2,_⟩:=I.tuple t2;unfold aP at e;split at e
   .rename_i bs hb
    cases e;have it:=wS (s:=s) (A:=A.in1) (λv w x y u u' b h1 h2 h3 h4 h5=>(Iu I 7 v w x y u u' b A.in1 hin h1 h2 h3 h4 h5).2) r1 r2 q1 q2 hb;have z:=xz (A:=A) (s:=s) (e:=λj=>bs.getD j true) (show s.heap.IsTuple a its.toArray from p1) (show s.heap.IsTuple a' jts.toArray from p2) (by omega) it;have z':=SeqAt.RcNeAt.tuples (A:=A) (s:=s) (e:=λj=>bs.getD j true) (show s.heap.IsTuple a its.toArray from p1) (show s.heap.IsTuple a' jts.toArray from p2) (by omega) it;have l1:=r1.length.trans q1.length;have l2:=r2.length.trans q2.length;rw[az,az,<-l1,<-l2,<-tX hb,wG]at z z';exact⟨z,z'⟩
   .cases e
  |_=>unfold aP at e;simp at e
 |lst xs=>
  cases w with
  |lst ys=>
   obtain⟨a,vs,rfl,t1,_,r1⟩:=h.lst;obtain⟨a',ws,rfl,t2,_,r2⟩:=g.lst;cases r;cases r';obtain⟨its,q1,p1,_⟩:=I.list t1;obtain⟨jts,q2,p2,_⟩:=I.list t2;have l1:=r1.length.trans q1.length;have l2:=r2.length.trans q2.length;unfold aP at e;split at e
   .rename_i hl
    split at e
    .rename_i bs hb
     cases e;have it:=wS (s:=s) (A:=A.in1) (λv w x y u u' b h1 h2 h3 h4 h5=>(Iu I 7 v w x y u u' b A.in1 hin h1 h2 h3 h4 h5).2) r1 r2 q1 q2 hb;have z:=m9 (A:=A) (s:=s) (e:=λj=>bs.getD j true) p1.isList p2.isList (by rw[az,az];omega) (by omega) it;have z':=SeqAt.RcNeAt.lists (A:=A) (s:=s) (e:=λj=>bs.getD j true) p1.isList p2.isList (by rw[az,az];omega) (by omega) it;have hm:its.length=bs.length:=by rw[tX hb];omega
     rw[az,hm,wG]at z z';exact⟨z,z'⟩
    .cases e
   .rename_i hl
    cases e;exact⟨o0 p1.isList p2.isList (by rw[az,az];simp;omega) (by omega),SeqAt.RcNeAt.lists_lengths p1.isList p2.isList (by rw[az,az];simp;omega) (by omega)⟩
  |_=>unfold aP at e;simp at e
def zF(K:ag)(neg:Bool):R2:=λx y H Q=>∃p v w b,fP K p H v x/\fP K p H w y/\aP 8 v w=some b/\Q (.bl (if neg then !b else b)) H
theorem Jt(hu:X.A.units+8<cLine):eW X (compareOp .Eq) (zF X.K false):=by
 intro BD s σ H x y v u Q I rx ry h;obtain⟨p,a,b,k,h1,h2,e,q⟩:=h;exact(Tu I hu h1 h2 rx ry e).1 X.prog X.w X.xe _ ⟨.bl k,H,I,rfl,q⟩
theorem Xs(hu:X.A.units+8<cLine):eW X (compareOp .NotEq) (zF X.K true):=by
 intro BD s σ H x y v u Q I rx ry h;obtain⟨p,a,b,k,h1,h2,e,q⟩:=h;exact(Tu I hu h1 h2 rx ry e).2 X.prog X.w X.xe _ ⟨.bl (!k),H,I,rfl,q⟩
def cT(a b:PV):BA:=(aP 8 a b).map .bl
def lO(a b:PV):BA:=(aP 8 a b).map λk=>.bl (!k)
theorem Yw{K:ag}:gY K (zF K false) cT:=λ{p S H a b c x y Q} s ra rb e k=>by
 unfold cT at e;cases z:aP 8 a b with
 |none=>rw[z]at e;cases e
 |some t=>
  rw[z]at e;cases e;exact⟨p,a,b,t,ra,rb,z,k H _ (eD.refl H) (by unfold aT;rfl)⟩
theorem Gw{K:ag}:gY K (zF K true) lO:=λ{p S H a b c x y Q} s ra rb e k=>by
 unfold lO at e;cases z:aP 8 a b with
 |none=>rw[z]at e;cases e
 |some t=>
  rw[z]at e;cases e;exact⟨p,a,b,t,ra,rb,z,k H _ (eD.refl H) (by unfold aT;rfl)⟩
def i2(f:Int->Int->BA):PV->PV->BA
 |.int a,.int b=>f a b
 |_,_=>none
open Classical in
def cI(C:Int->Int->Prop)(g:Int->Int->PV)(a b:Int):BA:=if C a b then some (g a b)else none
def Ca:PV->V
 |.int i=>.int i
 |.bl b=>.bl b
 |.str s=>.str s
 |_=>.non
def Eg:PV->Bool
 |.int _=>true
 |.bl _=>true
 |.str _=>true
 |.non=>true
 |_=>false
theorem jH{K:ag}{c:Addr->Prop}{H:Hp}{v:PV}(h:Eg v=true):aT K c H v (Ca v):=by
 cases v with
 |tup _=>cases h
 |lst _=>cases h
 |_=>unfold aT Ca;rfl
theorem yS{K:ag}{C:Int->Int->Prop}{g:Int->Int->PV}{h:Int->Int->V}(fl:∀i j,Eg (g i j)=true/\Ca (g i j)=h i j):gY K (rI C h) (i2 (cI C g)):=λ{p S H a b c x y Q} s ra rb e k=>by
 cases a with
 |int i=>
  cases b with
  |int j=>
   unfold i2 cI at e;dsimp only at e;split at e
   .rename_i hc
    cases e;refine⟨i,j,ra.int,rb.int,hc,?_⟩;rw[<-(fl i j).2];exact k H _ (eD.refl H) (jH (fl i j).1)
   .cases e
  |_=>cases e
 |_=>cases e
theorem zC{K:ag}{g:Int->Int->PV}{h:Int->Int->V}(fl:∀i j,Eg (g i j)=true/\Ca (g i j)=h i j):gY K (kD h) (i2 λi j=>some (g i j)):=λ{p S H a b c x y Q} s ra rb e k=>by
 cases a with
 |int i=>
  cases b with
  |int j=>
   cases e;refine⟨i,j,ra.int,rb.int,?_⟩;rw[<-(fl i j).2];exact k H _ (eD.refl H) (jH (fl i j).1)
  |_=>cases e
 |_=>cases e
def rN(i j:Int):Prop:=Dh i j\/(Bd 1000000 i/\Bd 1000000 j)
theorem rN.ok{i j:Int}(h:rN i j):IntMulOk i j:=by
 rcases h with h |h
 .exact h.ok
 have h1:=Yr h.1;have h2:=Yr h.2;unfold IntMulOk Builtin.Int.intTooBig bitsLine;intro c;simp only[ji,decide_eq_true_eq]at c;have:=c.2;omega
theorem abd:eW X (binaryOp .Mult) (rI rN λi j=>.int (i*j)):=zI λ_ _ _ _ _ _ _ hc q=>mul_int q hc.ok
def bG:=i2 (cI rN λi j=>.int (i*j))
def iG:=i2 (cI rQ λi j=>.int (i.fdiv j))
def fR:=i2 (cI (λ_ j=>j≠0) λi j=>.int (i.fmod j))
def iI:=i2 (cI yO λi j=>.int (i^j.toNat))
def dN:=i2 λi j=>some (.int (i-j))
def kP:=i2 λi j=>some (.bl (decide (i<j)))
def fLe:=i2 λi j=>some (.bl (decide (i<=j)))
def eJ:=i2 λi j=>some (.bl (decide (j<i)))
def sQ:=i2 λi j=>some (.bl (decide (j<=i)))
theorem adf{K:ag}:gY K (rI rN λi j=>.int (i*j)) bG:=yS λ_ _=>⟨rfl,rfl⟩
theorem ab5{K:ag}:gY K (rI rQ λi j=>.int (i.fdiv j)) iG:=yS λ_ _=>⟨rfl,rfl⟩
theorem ad0{K:ag}:gY K (rI (λ_ j=>j≠0) λi j=>.int (i.fmod j)) fR:=yS λ_ _=>⟨rfl,rfl⟩
theorem aes{K:ag}:gY K (rI yO λi j=>.int (i^j.toNat)) iI:=yS λ_ _=>⟨rfl,rfl⟩
theorem adg{K:ag}:gY K (kD λi j=>.int (i-j)) dN:=zC λ_ _=>⟨rfl,rfl⟩
theorem Bw{K:ag}:gY K (kD λi j=>.bl (decide (i<j))) kP:=zC λ_ _=>⟨rfl,rfl⟩
theorem Zv{K:ag}:gY K (kD λi j=>.bl (decide (j<i))) eJ:=zC λ_ _=>⟨rfl,rfl⟩
theorem Fw{K:ag}:gY K (kD λi j=>.bl (decide (j<=i))) sQ:=zC λ_ _=>⟨rfl,rfl⟩
def bU:PV->BA
 |.int i=>some (.int (-i))
 |_=>none
theorem adM{K:ag}:zV K (rU λi=>.int (-i)) bU:=λ{p S H a c x Q} s ra e k=>by
 cases a with
 |int i=>
  cases e;exact⟨i,ra.int,k H _ (eD.refl H) (jH (v:=.int (-i)) rfl)⟩
 |_=>cases e
def Rv(K:ag):R2:=λx y H Q=>∃l b xs zs,x=.ref l/\y=.ref b/\cK K H l xs/\cK K H b zs/\xs.length+zs.length<=sizeLine/\∀p,H p=none->Q (.ref p) (aW H p (.lst (xs++zs)))
theorem aaY:eW X (binaryOp .Add) (Rv X.K):=by
 intro BD s σ H x y v u Q I rx ry h;obtain⟨l,b,xs,zs,rfl,rfl,hx,hy,hz,q⟩:=h;cases rx;cases ry;obtain⟨its,r1,p1,_⟩:=I.list hx;obtain⟨jts,r2,p2,_⟩:=I.list hy;obtain⟨⟨cls,dd,data,sl⟩,n,ho,hc,_,hd⟩:=p1;obtain⟨⟨cls2,dd2,data2,sl2⟩,n2,ho2,hc2,_,hd2⟩:=p2;simp only at hc hd hc2 hd2;subst hc hd hc2 hd2;have e:its.toArray++jts.toArray=(its++jts).toArray:=by simp
 have l1:=r1.length;have l2:=r2.length;refine wr ⟨_,ho,rfl⟩ ⟨_,ho2,rfl⟩ noFill_list_add seq_list_add PySem.F.slot_list_add PySem.F.entry_list_add (PySem.F.args_list_add_2 _ _) (list_addW l b its.toArray jts.toArray n n2 dd dd2 sl sl2 (by rw[az,az];omega)) ⟨ho,ho2,?_⟩;rw[e];exact⟨.ref _,_,I.lnew (t':=s.toks) (r1.append r2) (by rw[av];omega),rfl,q _ I.fresh⟩
def aF:PV->PV->BA
 |.int a,.int b=>some (.int (a+b))
 |.lst xs,.lst ys=>if xs.length+ys.length<=16777216 then some (.lst (xs++ys))else none
 |.tup xs,.tup ys=>if xs.length≠0/\ys.length≠0/\xs.length+ys.length<=16777216 then some (.tup (xs++ys))else none
 |_,_=>none
def Mv(K:ag):R2:=λx y H Q=>(kD λi j=>.int (i+j)) x y H Q\/Rv K x y H Q\/Gv K x y H Q
theorem Rq:eW X (binaryOp .Add) (Mv X.K):=eW.or act (eW.or aaY abF)
theorem adn{K:ag}:gY K (Mv K) aF:=λ{p S H a b c x y Q} s ra rb e k=>by
 cases a with
 |int i=>
  cases b with
  |int j=>
   cases e;exact .inl ⟨i,j,ra.int,rb.int,k H _ (eD.refl H) (jH (v:=.int (i+j)) rfl)⟩
  |_=>cases e
 |lst xs=>
  cases b with
  |lst ys=>
   have e:(if xs.length+ys.length<=16777216 then some (PV.lst (xs++ys))else none)=some c:=e;split at e
   .rename_i hl
    cases e;obtain⟨a1,vs,rfl,l1,z1,r1⟩:=ra.lst;obtain⟨a2,ws,rfl,l2,z2,r2⟩:=rb.lst;have hz:vs.length+ws.length<=sizeLine:=by rw[<-r1.length,<-r2.length,jF];exact hl
    exact .inr (.inl ⟨a1,a2,vs,ws,rfl,rfl,l1,l2,hz,λt ht=>k _ _ (iF ht) (nX s (r1.append r2) (by rw[av];exact hz) ht)⟩)
   .cases e
  |_=>cases e
 |tup xs=>
  cases b with
  |tup ys=>
   have e:(if xs.length≠0/\ys.length≠0/\xs.length+ys.length<=16777216 then some (PV.tup (xs++ys))else none)=some c:=e;split at e
   .rename_i hl
    cases e;obtain⟨a1,vs,rfl,l1,z1,r1⟩:=ra.tup;obtain⟨a2,ws,rfl,l2,z2,r2⟩:=rb.tup;have hz:vs.length+ws.length<=sizeLine:=by rw[<-r1.length,<-r2.length,jF];exact hl.2.2
    refine .inr (.inr ⟨a1,a2,vs,ws,rfl,rfl,l1,l2,λq=>hl.1 (by rw[r1.length,q];rfl),hz,λq=>absurd (show ys.length=0 by rw[r2.length,q];rfl) hl.2.1,λ_ t ht=>k _ _ (iF ht) (rF s (r1.append r2) (by rw[av];exact hz) ht)⟩)
   .cases e
  |_=>cases e
 |_=>cases e
end
section
variable{K:ag}{cl:Str->Addr}{E:XK}{X:Cx}{a b e:ah}{es:List ah}{ma mb m:ME}{ms:MA}{pos p2:ai}
def aE:PV->PV->BA
 |.lst xs,.int i=>aZ xs i
 |.tup xs,.int i=>aZ xs i
 |_,_=>none
theorem wW{c:Addr->Prop}{H:Hp}{xs:AZ}{vs:List V}{i:Int}{v:PV}(r:aS K c H xs vs)(e:aZ xs i=some v):∃x,aZ vs i=some x/\aT K c H v x:=by
 unfold aZ at e⊢;rw[<-r.length];cases z:aY xs.length i with
 |none=>rw[z]at e;cases e
 |some j=>
  rw[z]at e;exact r.get e
theorem aeC:gY K (Hx K) aE:=λ{p S H a b c x y Q} s ra rb e k=>by
 cases b with
 |int i=>
  cases a with
  |lst xs=>
   obtain⟨a1,vs,rfl,l1,z1,r1⟩:=ra.lst;obtain⟨x,e1,r2⟩:=wW r1 e;exact .inl ⟨a1,vs,i,x,rfl,rb.int,l1,e1,k H x (eD.refl H) r2⟩
  |tup xs=>
   obtain⟨a1,vs,rfl,l1,z1,r1⟩:=ra.tup;obtain⟨x,e1,r2⟩:=wW r1 e;exact .inr (.inl ⟨a1,vs,i,x,rfl,rb.int,l1,e1,k H x (eD.refl H) r2⟩)
  |_=>cases e
 |_=>cases a<;>cases e
theorem aek(ha:aU K cl E X a ma)(hb:aU K cl E X b mb)(hs:wZ b:=by intro _ _;rfl):aU K cl E X (.Subscript a b pos) (aC aE ma mb):=by
 intro hK;subst hK;refine(Qg Ft (ha rfl) (hb rfl) hs).imp ?_
 rintro σ H Q ⟨p,S,ρ,s,e,h⟩
 exact cO s e h λq H1 a x S1 st s1 e1 r1 h1=>cO s1 e1 h1 λq2 H2 b y S2 st2 s2 e2 r2 h2=>wJ aeC s2 (st2.repA r1) r2 h2
abbrev MO:=bZ->aH->bP AY
def dD:MO:=λ_ S=>.ok none S
def fO:AV->aH->bP AY
 |.pv (.int i),S=>.ok (some i) S
 |_,_=>.fail
def dA(m:ME):MO:=λρ S=>(m ρ S).bind fO
abbrev RO:Ph->Hp->AY->AY->Prop:=λ_ _ a b=>a=b
variable(K cl E X)
def sM(e:Option ah)(m:MO):Prop:=X.K=K->PO X e (tP K cl E RO m)
variable{K cl E X}
theorem PO.imp{e:Option ah}{t t':TO}(h:PO X e t)(i:∀σ H Q,t' σ H Q->t σ H Q):PO X e t':=λBD s σ H Q I q=>h BD s σ H Q I (i σ H Q q)
theorem P6:sM K cl E X none dD:=λ_=>PO.imp abC λσ H Q ⟨p,S,ρ,s,e,h⟩=>bY.ret (R:=RO) h s rfl
theorem X6(h:aU K cl E X e m):sM K cl E X (some e) (dA m):=by
 intro hK;subst hK;refine PO.imp (abH (h rfl)) ?_
 rintro σ H Q ⟨p,S,ρ,s,e,h⟩
 refine cO s e h λq H1 a x S1 st s1 e1 r1 h1=>?_;unfold fO at h1;split at h1
 .rename_i i
  exact⟨i,(show fP X.K q H1 (.int i) x from .inl r1).int,bY.ret (R:=RO) h1 s1 rfl⟩
 .exact h1.elim
def iT(xs:AZ)(lo hi:AY):AZ:=(xs.drop (HT.sIx xs.length 0 lo)).take (HT.sIx xs.length xs.length hi-HT.sIx xs.length 0 lo)
def iP(v:PV)(lo hi:AY):BA:=match v with
 |.lst xs=>some (.lst (iT xs lo hi))
 |.tup xs=>if HT.sIx xs.length 0 lo=0/\HT.sIx xs.length xs.length hi=xs.length then none else some (.tup (iT xs lo hi))
 |_=>none
def dB(m:ME)(ml mh:MO):ME:=λρ S=>(m ρ S).bind λv S1=>(ml ρ S1).bind λlo S2=>(mh ρ S2).bind λhi S3=>iD ((rd S3 v).bind λx=>iP x lo hi) S3
theorem Ip{c:Addr->Prop}{H:Hp}{xs:AZ}{vs:List V}{lo hi:AY}(r:aS K c H xs vs):aS K c H (iT xs lo hi) (oN vs lo hi):=by
 unfold iT oN;rw[<-r.length];exact(r.drop _).take _
theorem adw{lo hi:Option ah}{ml mh:MO}(he:aU K cl E X e m)(hl:sM K cl E X lo ml)(hu:sM K cl E X hi mh):aU K cl E X (.Subscript e (.Slice lo hi none p2) pos) (dB m ml mh):=by
 intro hK;subst hK;refine(R3 (oO.or abx abO) (he rfl) (hl rfl) (hu rfl)).imp ?_
 rintro σ H Q ⟨p,S,ρ,s,e,h⟩
 refine cO s e h λq H1 a x S1 st s1 e1 r1 h1=>cO s1 e1 h1 λq2 H2 lo lo' S2 st2 s2 e2 r2 h2=>cO s2 e2 h2 λq3 H3 hi hi' S3 eM s3 e3 r3 h3=>?_;cases r2;cases r3;have ra:=eM.repA (st2.repA r1);obtain⟨c,ec,k⟩:=tZ s3 h3;cases z:rd S3 a with
 |none=>rw[z]at ec;cases ec
 |some v=>
  rw[z]at ec;have rv:=pI s3 ra z;cases v with
  |lst xs=>
   have ec:some (PV.lst (iT xs lo hi))=some c:=ec;cases ec;obtain⟨a1,vs,rfl,l1,z1,r1⟩:=rv.lst;exact .inl ⟨a1,vs,rfl,l1,λt ht=>k _ _ (iF ht) (nX s3 (Ip r1) (ft (vR vs lo hi) z1) ht)⟩
  |tup xs=>
   obtain⟨a1,vs,rfl,l1,z1,r1⟩:=rv.tup;have ec:(if HT.sIx xs.length 0 lo=0/\HT.sIx xs.length xs.length hi=xs.length then none else some (PV.tup (iT xs lo hi)))=some c:=ec;split at ec
   .cases ec
   .rename_i hw
    cases ec;rw[r1.length]at hw;exact .inr ⟨a1,vs,rfl,l1,hw,λt ht=>k _ _ (iF ht) (rF s3 (Ip r1) (ft (vR vs lo hi) z1) ht)⟩
  |_=>cases ec
theorem tJ{id:String}{r:List V->Hp->VK->Prop}{f:AZ->BA}{x:Str}{p:ai}(hc:iZ X (.builtin id) r)(hf:lQ X.K r f)(hg:Gl X x)(hm:X.mg x=none)(hv:bootBuiltins x=some (.builtin id))(ha:eT K cl E X (e::es) ms)(hn:x≠"__name__":=by decide)(hdb:(x==("__debug__":Str))=false:=by decide)
  (he:starEach (e::es) X.env=(false,eval e X.env)::starEach es X.env:=by rfl)(hpl:(backTo pos (starEach es X.env)).any (·.1)=false:=by rfl):aU K cl E X (.Call (.Name x p) (e::es) [] pos) (mR f ms):=by
 intro hK;subst hK;refine PE.imp (Xc hc hg hm hv (ha rfl) hn hdb he hpl) ?_
 rintro σ H Q ⟨p,S,ρ,s,ev,h⟩
 exact cO s ev h λq H' as xs S' stp sm ev r k=>Yl hf sm r k
theorem Yb{T:String}{r:List V->Hp->VK->Prop}{f:AZ->BA}{x:Str}{p:ai}(hc:iZ X (.type T) r)(hf:lQ X.K r f)(hg:Gl X x)(hm:X.mg x=none)(hv:bootBuiltins x=some (.type T))(ha:eT K cl E X (e::es) ms)(hn:x≠"__name__":=by decide)(hdb:(x==("__debug__":Str))=false:=by decide)
  (he:starEach (e::es) X.env=(false,eval e X.env)::starEach es X.env:=by rfl)(hpl:(backTo pos (starEach es X.env)).any (·.1)=false:=by rfl):aU K cl E X (.Call (.Name x p) (e::es) [] pos) (mR f ms):=by
 intro hK;subst hK;refine PE.imp (tH hc hg hm hv (ha rfl) hn hdb he hpl) ?_
 rintro σ H Q ⟨p,S,ρ,s,ev,h⟩
 exact cO s ev h λq H' as xs S' stp sm ev r k=>Yl hf sm r k
def cV:AZ->BA
 |[.lst xs]=>some (.int xs.length)
 |[.tup xs]=>some (.int xs.length)
 |_=>none
theorem aeu:lQ K (λxs H Q=>∃p ys,xs=[.ref p]/\(cK K H p ys\/dP K H p ys)/\Q (.int ys.length) H) cV:=λ{p S H as c xs Q} s ra e k=>by
 unfold cV at e;split at e
 .rename_i zs
  cases e;cases ra with
  |cons h t=>
   cases t;obtain⟨a,vs,rfl,l,z,r⟩:=h.lst;refine⟨a,vs,rfl,.inl l,?_⟩;rw[<-r.length];exact k H _ (eD.refl H) (jH (v:=.int zs.length) rfl)
 .rename_i zs
  cases e;cases ra with
  |cons h t=>
   cases t;obtain⟨a,vs,rfl,l,z,r⟩:=h.tup;refine⟨a,vs,rfl,.inr l,?_⟩;rw[<-r.length];exact k H _ (eD.refl H) (jH (v:=.int zs.length) rfl)
 .cases e
def pY:AZ->BA
 |[.int i]=>some (.int (if i<0 then-i else i))
 |_=>none
theorem adm:lQ K (λxs H Q=>∃i,xs=[.int i]/\Q (.int (if i<0 then-i else i)) H) pY:=λ{p S H as c xs Q} s ra e k=>by
 unfold pY at e;split at e
 .rename_i i
  cases e;cases ra with
  |cons h t=>
   cases t;cases h.int;exact⟨i,rfl,k H _ (eD.refl H) (jH (v:=.int _) rfl)⟩
 .cases e
def gI:AZ->BA
 |[.lst xs]=>some (.tup xs)
 |[.tup xs]=>some (.tup xs)
 |_=>none
theorem abM:lQ K (λxs H Q=>∃p ys,xs=[.ref p]/\((cK K H p ys/\∀l,H l=none->Q (.ref l) (aW H l (.tup ys)))\/(dP K H p ys/\Q (.ref p) H))) gI:=λ{p S H as c xs Q} s ra e k=>by
 unfold gI at e;split at e
 .rename_i zs
  cases e;cases ra with
  |cons h t=>
   cases t;obtain⟨a,vs,rfl,l,z,r⟩:=h.lst;exact⟨a,vs,rfl,.inl ⟨l,λt ht=>k _ _ (iF ht) (rF s r z ht)⟩⟩
 .rename_i zs
  cases e;cases ra with
  |cons h t=>
   cases t;obtain⟨a,vs,rfl,l,z,r⟩:=h.tup;refine⟨a,vs,rfl,.inr ⟨l,k H _ (eD.refl H) ?_⟩⟩;unfold aT;exact⟨a,vs,rfl,l,z,r⟩
 .cases e
def kJ:AZ->BA
 |[.lst xs]=>some (.lst xs)
 |[.tup xs]=>some (.lst xs)
 |_=>none
theorem aau:lQ K (λxs H Q=>∃p ys,xs=[.ref p]/\(cK K H p ys\/dP K H p ys)/\∀l,H l=none->Q (.ref l) (aW H l (.lst ys))) kJ:=λ{p S H as c xs Q} s ra e k=>by
 unfold kJ at e;split at e
 .rename_i zs
  cases e;cases ra with
  |cons h t=>
   cases t;obtain⟨a,vs,rfl,l,z,r⟩:=h.lst;exact⟨a,vs,rfl,.inl l,λt ht=>k _ _ (iF ht) (nX s r z ht)⟩
 .rename_i zs
  cases e;cases ra with
  |cons h t=>
   cases t;obtain⟨a,vs,rfl,l,z,r⟩:=h.tup;exact⟨a,vs,rfl,.inr l,λt ht=>k _ _ (iF ht) (nX s r z ht)⟩
 .cases e
def oF:AZ->Option (List Bool)
 |[]=>some []
 |.bl b::r=>match oF r with
  |some bs=>some (b::bs)
  |none=>none
 |_::_=>none
def kO:AZ->BA
 |[.lst xs]=>(oF xs).map λbs=>.bl (bs.all id)
 |_=>none
theorem Vn{c:Addr->Prop}{H:Hp}:∀{xs:AZ}{bs:List Bool}{vs:List V},oF xs=some bs->aS K c H xs vs->vs=bs.map V.bl
 |[],bs,vs,e,r=>by
  cases e;unfold aS at r;exact r
 |.bl b::xs,bs,vs,e,r=>by
  unfold oF at e;split at e
  .rename_i cs h
   cases e;unfold aS at r;obtain⟨v,w,rfl,r1,r2⟩:=r;unfold aT at r1;rw[r1,Vn h r2];rfl
  .cases e
 |.non::_,_,_,e,_=>by cases e
 |.int _::_,_,_,e,_=>by cases e
 |.str _::_,_,_,e,_=>by cases e
 |.tup _::_,_,_,e,_=>by cases e
 |.lst _::_,_,_,e,_=>by cases e
theorem adP:lQ K (λxs H Q=>∃(a:Addr)(bs:List Bool),xs=[.ref a]/\cK K H a (bs.map V.bl)/\Q (.bl (bs.all id)) H) kO:=λ{p S H as c xs Q} s ra e k=>by
 unfold kO at e;split at e
 .rename_i zs
  cases y:oF zs with
  |none=>rw[y]at e;cases e
  |some bs=>
   rw[y]at e;cases e;cases ra with
   |cons h t=>
    cases t;obtain⟨a,vs,rfl,l,z,r⟩:=h.lst;rw[Vn y r]at l;exact⟨a,bs,rfl,l,k H _ (eD.refl H) (jH (v:=.bl _) rfl)⟩
 .cases e
def jO:AZ->BA
 |[.int i]=>some (.int i)
 |[.bl b]=>some (.int (if b then 1 else 0))
 |_=>none
theorem ad2:lQ K (λxs H Q=>(∃i,xs=[.int i]/\Q (.int i) H)\/∃k,xs=[.bl k]/\Q (.int (if k then 1 else 0)) H) jO:=λ{p S H as c xs Q} s ra e k=>by
 unfold jO at e;split at e
 .rename_i i
  cases e;cases ra with
  |cons h t=>
   cases t;cases h.int;exact .inl ⟨i,rfl,k H _ (eD.refl H) (jH (v:=.int _) rfl)⟩
 .rename_i i
  cases e;cases ra with
  |cons h t=>
   cases t;cases h.bl;exact .inr ⟨i,rfl,k H _ (eD.refl H) (jH (v:=.int _) rfl)⟩
 .cases e
end
end
section
variable{K:ag}{cl:Str->Addr}{E:XK}{X:Cx}{a b c e l tg:ah}{es:List ah}{m ma mb:ME}{ms:MA}{pos:ai}{p q:Ph}{H H':Hp}{S:aH}
theorem aX.push(s:aX K p S H){D:Addr}{ps:AZ}{vs:List V}(h:H D=none)(l:vs.length<=sizeLine)(r:aS K p.c H ps vs):
  let q:Ph:=⟨p.f++[D],λa=>p.w a\/a=D,λa=>p.c a\/a=D⟩
  bQ p H q (aW H D (.lst vs))/\aX K q (S++[.lst ps]) (aW H D (.lst vs)):=by
 intro q;obtain⟨st0,sm0⟩:=s.res (D:=D) (o:=.lst vs) h trivial;have nf0:D∉p.f:=λz=>s.notin h (s.wc D (s.sub D z));refine⟨⟨st0.wc,st0.mu,⟨[D],rfl⟩,st0.mw,st0.mono,λa x n=>?_,st0.nw,st0.nc,st0.keep⟩,?_,by simp[q,s.len],λa x=>?_,sm0.wc,sm0.mu,λk a o e1 e2=>?_⟩
 .rcases cj.mp x with z |z
  .exact absurd z n
  .have:a=D:=by simpa using z
   rw[this];exact h
 .show(p.f++[D]).Nodup
  rw[qp];refine⟨s.nd,by simp,λa ha b hb z=>?_⟩;have:b=D:=by simpa using hb
  exact nf0 (this▸z▸ha)
 .rcases cj.mp x with z |z
  .exact .inl (s.sub a z)
  .exact .inr (by simpa using z)
 .by_cases hk:k<S.length
  .have e1':p.f[k]?=some a:=by
    have e1:(p.f++[D])[k]?=some a:=e1
    rwa[fx (by rw[s.len];exact hk)]at e1
   rw[fx hk]at e2;refine(s.obj k a o e1' e2).mono (λvs e=>by rw[bT (gD e h)];exact e) (λb w f=>⟨⟨.inl w,λm=>?_⟩,λvs e=>by rw[bT (gD e h)];exact e⟩) λ_ _ r=>st0.reps r;rcases cj.mp m with z |z
   .exact f z
   .have:b=D:=by simpa using z
    exact s.notin h (this▸s.wc b w)
  .have hk':k=S.length:=by
    have:=(br.mp e2).1;simp at this;omega
   subst hk';rw[dz (ak _),ie]at e2;have e1:(p.f++[D])[S.length]?=some a:=e1;rw[<-s.len,dz (ak _),ie]at e1;cases e1;cases e2;exact⟨vs,fH,l,st0.reps r⟩
theorem aX.write(s:aX K p S H){D:Addr}{k:Nat}{ps:AZ}{vs:List V}(h:p.f[k]?=some D)(hk:k<S.length)(l:vs.length<=sizeLine)(r:aS K p.c H ps vs):
  bQ p H p (aW H D (.lst vs))/\aX K p (S.set k (.lst ps)) (aW H D (.lst vs)):=by
 have w:p.w D:=s.sub D (dg h);have st:bQ p H p (aW H D (.lst vs)):=⟨s.wc,s.mu,kh,λ_ h=>h,λ_ h=>h,λ_ h g=>absurd h g,λ_ h g=>absurd h g,λ_ h g=>absurd h g,λa u e nw=>by
  rw[bT (λz:a=D=>nw (by rw[z];exact w))];exact e⟩
 refine⟨st,s.nd,by rw[fk];exact s.len,s.sub,s.wc,λa x=>?_,λj a o e1 e2=>?_⟩
 .by_cases z:a=D
  .rw[z,fH]
   exact⟨_,rfl,trivial⟩
  .rw[bT z]
   exact s.mu a x
 .by_cases hj:k=j
  .subst hj
   rw[h]at e1;cases e1;rw[dj hk]at e2;cases e2;exact⟨vs,fH,l,st.reps r⟩
  .rw[fj hj]at e2
   have ne:a≠D:=λq=>hj (qQ s.nd h (q▸e1));exact(s.obj j a o e1 e2).mono (λvs e=>by rw[bT ne];exact e) (λb w f=>⟨⟨w,f⟩,λvs e=>by rw[bT (λz:b=D=>f (z▸dg h))];exact e⟩) λ_ _ r=>st.reps r
def kN(xs:BC)(S:aH):bP AV:=match oG xs with
 |some vs=>if vs.length<=16777216 then .ok (.ref S.length) (S++[.lst vs])else .fail
 |none=>.fail
def eO(ms:MA):ME:=λρ S=>(ms ρ S).bind kN
theorem abf(h:eT K cl E X es ms):aU K cl E X (.List es pos) (eO ms):=by
 intro hK;subst hK;refine(Wf (h rfl)).imp ?_
 rintro σ H Q ⟨p,S,ρ,s,e,h⟩
 refine cO s e h λq H1 as xs S1 st s1 e1 r1 h1=>?_;unfold kN at h1;split at h1
 .rename_i vs hv
  split at h1
  .rename_i hl
   have r:=Pa hv r1;rw[r.length,<-jF]at hl;refine⟨hl,λt ht=>?_⟩;obtain⟨st2,sm2⟩:=s1.push ht hl r;exact h1 _ _ (.ref t) st2 sm2 ⟨t,by show(q.f++[t])[S1.length]?=some t;rw[<-s1.len,dz (ak _),ie];rfl,rfl⟩
  .exact h1.elim
 .exact h1.elim
def yQ(xs:BC)(S:aH):bP AV:=match(gK S xs).bind kJ with
 |some (.lst vs)=>.ok (.ref S.length) (S++[.lst vs])
 |_=>.fail
def rP(ms:MA):ME:=λρ S=>(ms ρ S).bind yQ
theorem N7{x:Str}{p:ai}(hx:x="list")(hg:Gl X "list")(hm:X.mg "list"=none)(ha:eT K cl E X [e] ms)(he:starEach [e] X.env=[(false,eval e X.env)]:=by rfl):aU K cl E X (.Call (.Name x p) [e] [] pos) (rP ms):=by
 intro hK;subst hK hx;refine PE.imp (tH vQ hg hm (by decide+kernel) (ha rfl) (by decide) (by decide) he rfl) ?_
 rintro σ H Q ⟨p,S,ρ,s,ev,h⟩
 refine cO s ev h λq H1 as xs S1 st s1 e1 r1 h1=>?_;unfold yQ at h1;cases z:gK S1 as with
 |none=>rw[z]at h1;exact h1.elim
 |some us=>
  rw[z]at h1;have rr:=tE s1 r1 z;have fin:∀(vs:AZ)(ws:List V)(a:Addr),aS X.K q.c H1 vs ws->ws.length<=sizeLine->bY X.K cl (cD X.K) q H1 (.ok (.ref S1.length) (S1++[.lst vs])) Q E->∀l,H1 l=none->Q (.ref l) (aW H1 l (.lst ws)):=λvs ws a r hl k t ht=>by
   obtain⟨st2,sm2⟩:=s1.push ht hl r;exact k _ _ (.ref t) st2 sm2 ⟨t,by show(q.f++[t])[S1.length]?=some t;rw[<-s1.len,dz (ak _),ie];rfl,rfl⟩
  cases rr with
  |nil=>exact h1.elim
  |cons h t=>
   rename_i u x ut xt;cases t with
   |cons _ _=>cases u<;>exact h1.elim
   |nil=>
    cases u with
    |lst vs=>
     obtain⟨a,ws,rfl,l,z,r⟩:=h.lst;exact⟨a,ws,rfl,.inl l,fin vs ws a r z h1⟩
    |tup vs=>
     obtain⟨a,ws,rfl,l,z,r⟩:=h.tup;exact⟨a,ws,rfl,.inr l,fin vs ws a r z h1⟩
    |_=>exact h1.elim
def iH(k:Nat)(ys:BC)(S:aH):bP AV:=match ys with
 |[.pv y]=>match S[k]? with
  |some (.lst xs)=>if xs.length<16777216 then .ok (.pv .non) (S.set k (.lst (xs++[y])))else .fail
  |_=>.fail
 |_=>.fail
def fB{α:Type}(k:AV)(S:aH)(f:Nat->bP α):bP α:=match k with
 |.ref k=>(match S[k]? with
  |some (.dic _ _)=>.fail
  |some (.dol _ _)=>.fail
  |_=>f k)
 |_=>.fail
theorem wO{α:Type}(k:Nat)(S:aH)(f:Nat->bP α):fB (.ref k) S f=.fail\/(fB (.ref k) S f=f k/\(∀n l,S[k]?≠some (.dic n l))/\∀n l,S[k]?≠some (.dol n l)):=by
 have e:fB (.ref k) S f=(match S[k]? with
  |some (.dic _ _)=>.fail
  |some (.dol _ _)=>.fail
  |_=>f k):=rfl
 rw[e];cases S[k]? with
 |none=>exact .inr ⟨rfl,λ_ _ z=>(nomatch z),λ_ _ z=>(nomatch z)⟩
 |some o=>
  cases o with
  |dic n l=>exact .inl rfl
  |dol n l=>exact .inl rfl
  |lst xs=>exact .inr ⟨rfl,λ_ _ z=>(nomatch z),λ_ _ z=>(nomatch z)⟩
  |lol xs=>exact .inr ⟨rfl,λ_ _ z=>(nomatch z),λ_ _ z=>(nomatch z)⟩
def dG(m:ME)(ms:MA):ME:=λρ S=>(m ρ S).bind λk S1=>fB k S1 λk=>(ms ρ S1).bind λys S2=>iH k ys S2
theorem Wd{k:Nat}{x:V}(s:aX K p S H)(r:cD K p H (.ref k) x)(n1:∀n l,S[k]?≠some (.dic n l))(n2:∀n l,S[k]?≠some (.dol n l)):Yh K "list" x H:=by
 obtain⟨a,e,rfl⟩:=r;have hk:k<S.length:=by
  have:=(br.mp e).1;rw[<-s.len];exact this
 have z:=s.obj k a S[k] e (ax hk);cases y:S[k]with
 |lst xs=>
  rw[y]at z;obtain⟨vs,h,_⟩:=z;exact .inl ⟨rfl,vs,cK.of h⟩
 |lol xss=>
  rw[y]at z;obtain⟨bs,h,_⟩:=z;exact .inl ⟨rfl,_,cK.of h⟩
 |dic n l=>exact absurd (by rw[ax hk,y]) (n1 n l)
 |dol n l=>exact absurd (by rw[ax hk,y]) (n2 n l)
theorem F2{apos cpos:ai}(ho:aU K cl E X a m)(ha:eT K cl E X [e] ms)(hbase:attributeBase a "append" X.env (eval a X.env)=eval a X.env:=by rfl)
  (hfew:((backTo cpos (starEach [e] X.env)).all (λx=>!x.1)&&(backToKw cpos (keywordEach [] X.env)).all (λx=>x.1.isSome)&&decide (([e]:List ah).length+([]:List jg).length+(if([]:List jg).isEmpty then 0 else 1)<30))=true:=by rfl)
  (hline:(apos.endLine==cpos.line)=true:=by rfl)(hs:starEach [e] X.env=[(false,eval e X.env)]:=by rfl):aU K cl E X (.Call (.Attribute a "append" apos) [e] [] cpos) (dG m ms):=by
 intro hK;subst hK;refine PE.imp (Og ye xc o4 tD (ho rfl) (ha rfl) hbase hfew hline hs rfl) ?_
 rintro σ H Q ⟨p,S,ρ,s,ev,h⟩
 refine cO s ev h λq H1 k x S1 st s1 e1 r1 h1=>?_;cases k with
 |pv v=>exact h1.elim
 |ref k=>
  have h1:bY X.K cl (cD X.K) q H1 (fB (.ref k) S1 λk=>(ms ρ S1).bind λys S2=>iH k ys S2) Q E:=h1;rcases wO k S1 (λk=>(ms ρ S1).bind λys S2=>iH k ys S2)with z |⟨z,n1,n2⟩
  .rw[z]at h1
   exact h1.elim
  rw[z]at h1;refine⟨Wd s1 r1 n1 n2,cO s1 e1 h1 λq2 H2 ys xs S2 st2 s2 e2 r2 h2=>?_⟩;obtain⟨a,ea,rfl⟩:=st2.repA r1;unfold iH at h2;split at h2
  .rename_i y
   cases r2 with
   |cons r3 r4=>
    cases r4;rename_i x;cases z:S2[k]? with
    |none=>rw[z]at h2;exact h2.elim
    |some o=>
     cases o with
     |lol _=>simp only[z]at h2;exact h2.elim
     |dic _ _=>simp only[z]at h2;exact h2.elim
     |dol _ _=>simp only[z]at h2;exact h2.elim
     |lst zs=>
      simp only[z]at h2;obtain⟨vs,h3,l3,r4⟩:=s2.obj k a _ ea z;split at h2
      .rename_i hl
       rw[r4.length]at hl;have hz:=jF;refine⟨a,vs,x,rfl,rfl,h3,by omega,?_⟩;obtain⟨eM,sm3⟩:=s2.write ea (br.mp z).1 (ps:=zs++[y]) (vs:=vs++[x]) (by rw[av,jo];omega) (r4.append (.cons r3 .nil));exact h2 _ _ .non eM sm3 (by show aT X.K q2.c (aW H2 a (.lst (vs++[x]))) .non .non;unfold aT;rfl)
      .exact h2.elim
  .exact h2.elim
def pT(k:Nat)(ys:BC)(S:aH):bP AV:=match ys with
 |[.pv (.int i)]=>if-9223372036854775808<=i/\i<9223372036854775808 then(match S[k]? with
  |some (.lst xs)=>match seqIndex? i xs.length with
   |some j=>match xs[j]? with
    |some v=>.ok (.pv v) (S.set k (.lst (xs.eraseIdx j)))
    |none=>.fail
   |none=>.fail
  |_=>.fail)else .fail
 |_=>.fail
def lJ(m:ME)(ms:MA):ME:=λρ S=>(m ρ S).bind λk S1=>fB k S1 λk=>(ms ρ S1).bind λys S2=>pT k ys S2
theorem aco{apos cpos:ai}(ho:aU K cl E X a m)(ha:eT K cl E X [e] ms)(hbase:attributeBase a "pop" X.env (eval a X.env)=eval a X.env:=by rfl)
  (hfew:((backTo cpos (starEach [e] X.env)).all (λx=>!x.1)&&(backToKw cpos (keywordEach [] X.env)).all (λx=>x.1.isSome)&&decide (([e]:List ah).length+([]:List jg).length+(if([]:List jg).isEmpty then 0 else 1)<30))=true:=by rfl)
  (hline:(apos.endLine==cpos.line)=true:=by rfl)(hs:starEach [e] X.env=[(false,eval e X.env)]:=by rfl):aU K cl E X (.Call (.Attribute a "pop" apos) [e] [] cpos) (lJ m ms):=by
 intro hK;subst hK;refine PE.imp (Og ye PySem.F.slot_list_pop PySem.F.type_list_pop Q7 (ho rfl) (ha rfl) hbase hfew hline hs rfl) ?_
 rintro σ H Q ⟨p,S,ρ,s,ev,h⟩
 refine cO s ev h λq H1 k x S1 st s1 e1 r1 h1=>?_;cases k with
 |pv v=>exact h1.elim
 |ref k=>
  have h1:bY X.K cl (cD X.K) q H1 (fB (.ref k) S1 λk=>(ms ρ S1).bind λys S2=>pT k ys S2) Q E:=h1;rcases wO k S1 (λk=>(ms ρ S1).bind λys S2=>pT k ys S2)with z |⟨z,n1,n2⟩
  .rw[z]at h1
   exact h1.elim
  rw[z]at h1;refine⟨Wd s1 r1 n1 n2,cO s1 e1 h1 λq2 H2 ys xs S2 st2 s2 e2 r2 h2=>?_⟩;obtain⟨a,ea,rfl⟩:=st2.repA r1;unfold pT at h2;split at h2
  .rename_i i
   cases r2 with
   |cons r3 r4=>
    cases r4;rename_i x;have ex:x=.int i:=(show fP X.K q2 H2 (.int i) x from .inl r3).int;subst ex;split at h2
    .rename_i hi
     cases z:S2[k]? with
     |none=>rw[z]at h2;exact h2.elim
     |some o=>
      cases o with
      |lol _=>simp only[z]at h2;exact h2.elim
      |dic _ _=>simp only[z]at h2;exact h2.elim
      |dol _ _=>simp only[z]at h2;exact h2.elim
      |lst zs=>
       simp only[z]at h2;obtain⟨vs,h3,l3,r4⟩:=s2.obj k a _ ea z;cases y:seqIndex? i zs.length with
       |none=>simp only[y]at h2;exact h2.elim
       |some j=>
        simp only[y]at h2;cases yv:zs[j]? with
        |none=>simp only[yv]at h2;exact h2.elim
        |some v=>
         simp only[yv]at h2;obtain⟨u,eu,ru⟩:=r4.get yv;refine⟨a,vs,i,j,u,rfl,rfl,h3,hi.1,hi.2,by rw[<-r4.length];exact y,eu,?_⟩;obtain⟨eM,sm3⟩:=s2.write ea (br.mp z).1 (ps:=zs.eraseIdx j) (vs:=vs.eraseIdx j) (ft (Ub vs j) l3) (r4.eraseIdx j);exact h2 _ _ u eM sm3 (eM.rep ru)
    .exact h2.elim
  .exact h2.elim
def oJ(k:Nat)(i:AV)(v:AV)(S:aH):bP Unit:=match i,v with
 |.pv (.int i),.pv v=>match S[k]? with
  |some (.lst xs)=>match aY xs.length i with
   |some j=>.ok () (S.set k (.lst (xs.set j v)))
   |none=>.fail
  |_=>.fail
 |_,_=>.fail
def kZ(mo mi mv:ME):MS:=λρ S=>cN.of (mv ρ S) λv S1=>cN.of (mo ρ S1) λk S2=>cN.of (mi ρ S2) λi S3=>cN.of (fB k S3 λk=>oJ k i v S3) λ_ S4=>.nx ρ S4
theorem F7{o i v:ah}{mo mi mv:ME}{tpos:ai}(hv:aU K cl E X v mv)(ho:aU K cl E X o mo)(hi:aU K cl E X i mi)
  (ha:∀v,assign (.Subscript o i tpos) X.env v=(do
   let ov <-holding [v] (eval o X.env)
   let iv <-holding [v,ov] (eval i X.env)
   standAt tpos
   holding [v,ov,iv] (setItem ov iv v)
   release [v,ov,iv] []):=by intro _;rfl)
  (hs:swapsWithSole [.Subscript o i tpos] v pos.line X.env=pure false:=by rfl)(hw:swappedStores [.Subscript o i tpos] v X.env=pure none:=by rfl)
  (h1:(assignEach [.Subscript o i tpos] X.env).map (·.2)=[assign (.Subscript o i tpos) X.env]:=by rfl):eZ K cl E X (.Assign [.Subscript o i tpos] v pos) (kZ mo mi mv):=by
 intro hK;subst hK;refine PS.imp (xL (hv rfl) (Ye (ho rfl) (hi rfl) Up ha) hs hw h1) ?_
 rintro D σ H ⟨p,S,ρ,s,ev,h⟩
 refine jJ s ev h λq H1 v x S1 st s1 e1 r1 h1=>?_;refine jJ s1 e1 h1 λq2 H2 k y S2 st2 s2 e2 r2 h2=>?_;refine jJ s2 e2 h2 λq3 H3 i z S3 eM s3 e3 r3 h3=>?_;cases k with
 |pv _=>exact h3.elim
 |ref k=>
  obtain⟨a,ea,rfl⟩:=eM.repA r2;have rv:=eM.repA (st2.repA r1);have h3:eP X.K cl q3 H3 (cN.of (fB (.ref k) S3 λk=>oJ k i v S3) λ_ S4=>.nx ρ S4) D E:=h3;rcases wO k S3 (λk=>oJ k i v S3)with z0 |⟨z0,_,_⟩
  .rw[z0]at h3
   exact h3.elim
  rw[z0]at h3;unfold oJ at h3;split at h3
  .rename_i ii vv _
   have ez:z=.int ii:=(show fP X.K q3 H3 (.int ii) z from .inl r3).int;subst ez;cases w:S3[k]? with
   |none=>rw[w]at h3;exact h3.elim
   |some o=>
    cases o with
    |lol _=>simp only[w]at h3;exact h3.elim
    |dic _ _=>simp only[w]at h3;exact h3.elim
    |dol _ _=>simp only[w]at h3;exact h3.elim
    |lst zs=>
     simp only[w]at h3;obtain⟨vs,hh,ll,rr⟩:=s3.obj k a _ ea w;cases y:aY zs.length ii with
     |none=>simp only[y]at h3;exact h3.elim
     |some j=>
      simp only[y]at h3;refine⟨a,vs,ii,j,rfl,rfl,hh,by rw[<-rr.length];exact y,?_⟩;obtain⟨st4,sm4⟩:=s3.write ea (br.mp w).1 (ps:=zs.set j vv) (vs:=vs.set j x) (by rw[fk];exact ll) (aS.set rv j rr);exact h3 _ _ _ st4 sm4 (st4.repE e3)
  .exact h3.elim
def fZ:AZ->AZ->AZ
 |x::xs,y::ys=>.tup [x,y]::fZ xs ys
 |_,_=>[]
theorem Bc:∀(xs ys:AZ),(fZ xs ys).length=min xs.length ys.length
 |[],ys=>by cases ys<;>simp[fZ]
 |x::xs,[]=>by simp[fZ]
 |x::xs,y::ys=>by
  unfold fZ;rw[cv,Bc xs ys,cv,cv];omega
theorem No:∀{xs ys:AZ}{i:Nat}{v:PV},(fZ xs ys)[i]?=some v->∃x y,xs[i]?=some x/\ys[i]?=some y/\v=.tup [x,y]
 |[],ys,i,v,e=>by cases ys<;>simp[fZ]at e
 |x::xs,[],i,v,e=>by simp[fZ]at e
 |x::xs,y::ys,0,v,e=>by
  unfold fZ at e;simp at e;exact⟨x,y,rfl,rfl,e.symm⟩
 |x::xs,y::ys,i+1,v,e=>by
  unfold fZ at e;obtain⟨a,b,h1,h2,h3⟩:=No (xs:=xs) (ys:=ys) (i:=i) (v:=v) (by simpa using e);exact⟨a,b,by simpa using h1,by simpa using h2,h3⟩
def mG:BC->aH->bP (AZ×Gd)
 |[a,b],S=>match cC a S with
  |.ok xs _=>match cC b S with
   |.ok ys _=>.ok (fZ xs.1 ys.1,xs.2++ys.2) S
   |_=>.fail
  |_=>.fail
 |_,_=>.fail
def iS(ms:MA):MI:=λρ S=>(ms ρ S).bind mG
theorem Kp{a:AV}{x:V}{xs:AZ×Gd}{S':aH}(s:aX K p S H)(r:cD K p H a x)(e:cC a S=.ok xs S'):∃f ad vs,x=.ref ad/\jU f K H ad vs/\xs.1.length<=sizeLine/\∀q H1 S1,bQ p H q H1->aX K q S1 H1->iQ xs.2 S1->∃vs,jU f K H1 ad vs/\aS K q.c H1 xs.1 vs:=by
 cases a with
 |ref j=>
  obtain⟨a,e1,rfl⟩:=r;unfold cC at e;dsimp only at e;cases z:S[j]? with
  |none=>rw[z]at e;cases e
  |some o=>
   cases o with
   |lol _=>rw[z]at e;cases e
   |dic _ _=>rw[z]at e;cases e
   |dol _ _=>rw[z]at e;cases e
   |lst ys=>
    rw[z]at e;cases e;obtain⟨vs,h1,l1,r1⟩:=s.obj j a _ e1 z;refine⟨false,a,vs,rfl,cK.of h1,by rw[r1.length];exact l1,λq H1 S1 st sm g=>?_⟩;obtain⟨ws,h2,l2,r2⟩:=sm.obj j a _ (st.at_ e1) (g (j,ys) bi);exact⟨ws,cK.of h2,r2⟩
 |pv v=>
  cases v with
  |lst ys=>
   cases e;have r:aT K p.c H (.lst ys) x:=r;unfold aT at r;obtain⟨a,vs,rfl,l,z,r⟩:=r;exact⟨false,a,vs,rfl,l.sq,by rw[r.length];exact z,λq H1 S1 st sm g=>⟨vs,(st.lat l).sq,st.reps r⟩⟩
  |tup ys=>
   cases e;have r:aT K p.c H (.tup ys) x:=r;unfold aT at r;obtain⟨a,vs,rfl,l,z,r⟩:=r;exact⟨true,a,vs,rfl,l,by rw[r.length];exact z,λq H1 S1 st sm g=>⟨vs,st.tup l,st.reps r⟩⟩
  |_=>cases e
theorem aap{elts:List ah}{x1:Nat}{tp p:ai}(hg:Gl X "zip")(hm:X.mg "zip"=none)(hl:eT K cl E X [a,b] ms)(hs:starEach [a,b] X.env=[(false,eval a X.env),(false,eval b X.env)]:=by rfl)(hs2:starEach [b] X.env=[(false,eval b X.env)]:=by rfl):
  iU K cl E X (.Tuple elts x1 tp) (.Call (.Name "zip" p) [a,b] [] pos) (iS ms):=by
 intro hK;subst hK;refine PI.imp (acR hg hm (hl rfl) hs hs2) ?_
 rintro σ H R ⟨p,S,ρ,s,ev,h⟩
 refine cO s ev h λq H' as xs S' stp sm ev r k=>?_;unfold mG at k;split at k
 .rename_i u v
  cases r with
  |cons r1 r2=>
   cases r2 with
   |cons r2 r3=>
    cases r3;split at k
    .rename_i xs1 S1 hx
     split at k
     .rename_i ys1 S2 hy
      obtain⟨f1,a1,vs1,rfl,q1,z1,st1⟩:=Kp sm r1 hx;obtain⟨f2,a2,vs2,rfl,q2,z2,st2⟩:=Kp sm r2 hy;refine⟨f1,a1,f2,a2,vs1,vs2,rfl,q1,q2,bY.ret (R:=fJ X.K) k sm ?_⟩;refine⟨by rw[Bc];omega,λq3 H3 S3 eM sm3 g3=>?_⟩;obtain⟨lL,w1,rr1⟩:=st1 q3 H3 S3 eM sm3 λg hg=>g3 g (lq _ hg);obtain⟨ws2,w2,rr2⟩:=st2 q3 H3 S3 eM sm3 λg hg=>g3 g (dk _ hg);refine⟨λi v e=>?_,?_⟩
      .obtain⟨x,y,ex,ey,rfl⟩:=No e
       obtain⟨x',ex',rx⟩:=rr1.get ex;obtain⟨y',ey',ry⟩:=rr2.get ey;refine⟨⟨lL,ws2,x',y',w1,w2,ex',ey'⟩,λz H4 hz=>?_⟩;obtain⟨t,x2,y2,ht,rfl,rfl,g1,g2⟩:=hz;have e1:=(g1 lL w1).symm.trans ex';have e2:=(g2 ws2 w2).symm.trans ey';cases e1;cases e2;refine⟨iF ht,rF sm3 (.cons rx (.cons ry .nil)) (by show 2<=sizeLine;decide) ht⟩
      .refine⟨lL,ws2,w1,w2,?_⟩
       show(fZ xs1.1 ys1.1).length=_\/_;rw[Bc,rr1.length,rr2.length];omega
     .exact k.elim
    .exact k.elim
 .exact k.elim
def jM:Nat->AZ->AZ
 |_,[]=>[]
 |n,x::xs=>.tup [.int n,x]::jM (n+1) xs
theorem Nb:∀(n:Nat)(xs:AZ),(jM n xs).length=xs.length
 |_,[]=>rfl
 |n,x::xs=>by
  unfold jM;rw[cv,Nb (n+1) xs,cv]
theorem Ql:∀{n:Nat}{xs:AZ}{i:Nat}{v:PV},(jM n xs)[i]?=some v->∃x,xs[i]?=some x/\v=.tup [.int ((n+i:Nat):Int),x]
 |n,[],i,v,e=>by simp[jM]at e
 |n,x::xs,0,v,e=>by
  unfold jM at e;simp at e;exact⟨x,rfl,e.symm⟩
 |n,x::xs,i+1,v,e=>by
  unfold jM at e;obtain⟨y,h1,h2⟩:=Ql (n:=n+1) (xs:=xs) (i:=i) (v:=v) (by simpa using e);refine⟨y,by simpa using h1,?_⟩;rw[h2,show n+1+i=n+(i+1) by omega]
def Ue:BC->aH->bP (AZ×Gd)
 |[.pv (.lst xs)],S=>.ok (jM 0 xs,[]) S
 |[.ref k],S=>match cC (.ref k) S with
  |.ok xs _=>.ok (jM 0 xs.1,xs.2) S
  |_=>.fail
 |_,_=>.fail
def yJ(ms:MA):MI:=λρ S=>(ms ρ S).bind Ue
theorem Au{xs:AZ}{G:Gd}{a:Addr}(z:xs.length<=sizeLine)(st1:∀q H1 S1,bQ p H q H1->aX K q S1 H1->iQ G S1->∃vs,cK K H1 a vs/\aS K q.c H1 xs vs):fJ K p H (jM 0 xs,G) (Ai K a):=by
 refine⟨by rw[Nb];exact z,λq3 H3 S3 eM sm3 g3=>?_⟩;obtain⟨lL,w1,rr1⟩:=st1 q3 H3 S3 eM sm3 g3;refine⟨λi v e=>?_,?_⟩
 .obtain⟨x,ex,rfl⟩:=Ql e
  obtain⟨x',ex',rx⟩:=rr1.get ex;refine⟨⟨lL,x',w1,ex'⟩,λz H4 hz=>?_⟩;obtain⟨t,y2,ht,rfl,rfl,g1⟩:=hz;have e1:=(g1 lL w1).symm.trans ex';cases e1;refine⟨iF ht,rF sm3 (.cons ?_ (.cons rx .nil)) (by show 2<=sizeLine;decide) ht⟩;rw[Nat.zero_add];exact jH (v:=.int _) rfl
 .refine⟨lL,w1,?_⟩
  show _<=(jM 0 xs).length;rw[Nb,rr1.length];exact ak _
theorem X4{elts:List ah}{x1:Nat}{tp p:ai}(hg:Gl X "enumerate")(hm:X.mg "enumerate"=none)(hl:eT K cl E X [l] ms)(hs:starEach [l] X.env=[(false,eval l X.env)]:=by rfl):
  iU K cl E X (.Tuple elts x1 tp) (.Call (.Name "enumerate" p) [l] [] pos) (yJ ms):=by
 intro hK;subst hK;refine PI.imp (aaQ hg hm (hl rfl) hs) ?_
 rintro σ H R ⟨p,S,ρ,s,ev,h⟩
 refine cO s ev h λq H' as xs S' stp sm ev r k=>?_;unfold Ue at k;split at k
 .rename_i ys
  cases r with
  |cons r1 r2=>
   cases r2;rename_i x;have r1:aT X.K q.c H' (.lst ys) x:=r1;unfold aT at r1;obtain⟨a,vs,rfl,l,z,r⟩:=r1;exact⟨a,rfl,⟨vs,l.sq⟩,bY.ret (R:=fJ X.K) k sm (Au (by rw[r.length];exact z) λq H1 S1 st sm g=>⟨vs,(st.lat l).sq,st.reps r⟩)⟩
 .rename_i j
  cases r with
  |cons r1 r2=>
   cases r2;split at k
   .rename_i xs1 S1 hx
    obtain⟨a,e1,rfl⟩:=r1;cases z:S'[j]? with
    |none=>unfold cC at hx;simp only[z]at hx;cases hx
    |some o=>
     cases o with
     |lol _=>unfold cC at hx;simp only[z]at hx;cases hx
     |dic _ _=>unfold cC at hx;simp only[z]at hx;cases hx
     |dol _ _=>unfold cC at hx;simp only[z]at hx;cases hx
     |lst ys=>
      unfold cC at hx;simp only[z]at hx;cases hx;obtain⟨vs,h1,l1,r1⟩:=sm.obj j a _ e1 z;refine⟨a,rfl,⟨vs,cK.of h1⟩,bY.ret (R:=fJ X.K) k sm (Au (by rw[r1.length];exact l1) λq H1 S1 st sm g=>?_)⟩;obtain⟨ws,h2,l2,r2⟩:=sm.obj j a _ (st.at_ e1) (g (j,ys) bi);exact⟨ws,cK.of h2,r2⟩
   .exact k.elim
 .exact k.elim
end
theorem qB{A:au}{k:Nat}(hr:dJ k A):A.units+8<cLine:=by
 have:=hr.units;omega
section
variable{K:ag}{cl:Str->Addr}{E:XK}{X:Cx}{a b c e l tg:ah}{es:List ah}{m ma mb:ME}{ms:MA}{pos:ai}{p q:Ph}{H H':Hp}{S:aH}
def lI(n:String):PV->BA
 |.int _=>if n="int" then some (.bl true)else if n="bool" then some (.bl false)else none
 |.tup _=>if n="tuple" then some (.bl true)else none
 |.lst _=>if n="list" then some (.bl true)else none
 |.str _=>if n="str" then some (.bl true)else none
 |.bl _=>if n="bool" then some (.bl true)else none
 |_=>none
theorem tK(K:ag)(n:String):oh K (.type n) (.type n)=some true:=by
 unfold oh;rw[if_pos (beq_self_eq_true _)]
def Sw(K:ag)(n:String):V->Hp->VK->Prop:=λx H Q=>(∃t b,kB K H x t/\oh K t (.type n)=some b/\Q (.bl b) H)\/(n="tuple"/\∃a xs,x=.ref a/\dP K H a xs/\Q (.bl true) H)\/(n="list"/\∃a xs,x=.ref a/\cK K H a xs/\Q (.bl true) H)
theorem G7(n:String):iZ X (.builtin "isinstance") (λxs H Q=>∃x,xs=[x,.ty n]/\Sw X.K n x H Q):=by
 intro BD s σ H xs us Q I r h;obtain⟨x,rfl,h⟩:=h;obtain⟨u,c,rfl,rx,rc⟩:=Bv r;cases(show c=lm n from rc);rcases h with⟨t,b,ty,e,q⟩|⟨rfl,a,xs,rfl,t,q⟩|⟨rfl,a,xs,rfl,t,q⟩
 .exact F4 I rx ty e λtk=>⟨.bl b,H,I.tok tk,rfl,q⟩
 .cases rx
  obtain⟨its,_,⟨o,h1,h2,_⟩,_⟩:=I.tuple t;exact jf zq I.kIn ⟨o,h1,h2⟩ (tK X.K "tuple") (λz=>nomatch z) λtk=>⟨.bl true,H,I.tok tk,rfl,q⟩
 .cases rx
  obtain⟨its,_,pl,_⟩:=I.list t;obtain⟨o,h1,h2,_⟩:=pl.isList;exact jf wo I.kIn ⟨o,h1,h2⟩ (tK X.K "list") (λz=>nomatch z) λtk=>⟨.bl true,H,I.tok tk,rfl,q⟩
theorem adv(n:String):zV K (Sw K n) (lI n):=λ{p S H a c x Q} s ra e k=>by
 have fin:∀b,c=.bl b->Q (.bl b) H:=λb h=>by
  subst h;exact k H _ (eD.refl H) (by unfold aT;rfl)
 cases a with
 |int i=>
  cases ra.int;unfold lI at e;dsimp only at e;split at e
  .rename_i hn
   cases e;subst hn;exact .inl ⟨_,true,.int i,tK K _,fin _ rfl⟩
  .split at e
   .rename_i hn
    cases e;subst hn;exact .inl ⟨_,false,.int i,abX K,fin _ rfl⟩
   .cases e
 |bl i=>
  cases ra.bl;unfold lI at e;dsimp only at e;split at e
  .rename_i hn
   cases e;subst hn;exact .inl ⟨_,true,.bl i,tK K _,fin _ rfl⟩
  .cases e
 |str i=>
  cases ra.str;unfold lI at e;dsimp only at e;split at e
  .rename_i hn
   cases e;subst hn;exact .inl ⟨_,true,.str i,tK K _,fin _ rfl⟩
  .cases e
 |tup xs=>
  obtain⟨a,vs,rfl,t,_,_⟩:=ra.tup;unfold lI at e;dsimp only at e;split at e
  .rename_i hn
   cases e;exact .inr (.inl ⟨hn,a,vs,rfl,t,fin _ rfl⟩)
  .cases e
 |lst xs=>
  obtain⟨a,vs,rfl,t,_,_⟩:=ra.lst;unfold lI at e;dsimp only at e;split at e
  .rename_i hn
   cases e;exact .inr (.inr ⟨hn,a,vs,rfl,t,fin _ rfl⟩)
  .cases e
 |non=>cases e
theorem ab7{n:String}{t:Str}{p p2:ai}(hg:Gl X "isinstance")(hm:X.mg "isinstance"=none)(hgt:Gl X t)(hmt:X.mg t=none)(hv:bootBuiltins t=some (.type n))(ha:aU K cl E X a m)
  (htn:t≠"__name__":=by decide)(htd:(t==("__debug__":Str))=false:=by decide)
  (he:starEach [a,.Name t p2] X.env=(false,eval a X.env)::starEach [.Name t p2] X.env:=by rfl)(he2:starEach [.Name t p2] X.env=[(false,eval (.Name t p2) X.env)]:=by rfl)(hpl:(backTo pos (starEach [.Name t p2] X.env)).any (·.1)=false:=by rfl):
  aU K cl E X (.Call (.Name "isinstance" p) [a,.Name t p2] [] pos) (bR (lI n) m):=by
 intro hK;subst hK;refine PE.imp (Xc (G7 n) hg hm PyProof.Rows.boot_isinstance (pG (ha rfl) (pG (abh hgt hmt hv (v:=.ty n) rfl htn htd) rJ he2) he) (by decide) (by decide) he hpl) ?_
 rintro σ H Q ⟨p,S,ρ,s,ev,h⟩
 exact cO s ev h λq H' as x S' stp sm ev r k=>⟨x,rfl,Vb (adv n) sm r k⟩
def yN(K:ag):Sp:=λvs H Q _=>∃(a:Addr)(ns:AR),vs=[.ref a]/\cK K H a (ns.map V.int)/\ns.length<=63/\∀H',Q (.bl true) H'
theorem aaL{f:FM}(ht:∀ns:AR,ns.length<=63->∃S,f [.pv (.lst (ns.map .int))] []=.ok (.pv (.bl true)) S){vs:List V}{H:Hp}{Q:VK}{E:XK}(h:yN K vs H Q E):jB K cl f vs H Q E:=by
 obtain⟨a,ns,rfl,hS,hl,hQ⟩:=h;obtain⟨S,e⟩:=ht ns hl;have rs:∀(ns:AR),aS K (λ_=>False) H (ns.map .int) (ns.map V.int):=λns=>by
  induction ns with
  |nil=>exact .nil
  |cons n ns ih=>exact .cons (by unfold aT;rfl) ih
 refine⟨⟨[],λ_=>False,λ_=>False⟩,[],[.pv (.lst (ns.map .int))],⟨qq,rfl,(λ_ h=>absurd h (fg)),(λ_ h=>h),(λ_ h=>h.elim),(λk a o e=>by simp at e)⟩,.cons ?_ .nil,?_⟩
 .show aT K (λ_=>False) H (.lst (ns.map .int)) (.ref a)
  unfold aT;refine⟨a,_,rfl,?_,?_,rs ns⟩
  .rcases hS with(h |h) |h
   .exact .inl ⟨h,λz=>z⟩
   .exact .inr (.inl h)
   .exact .inr (.inr h)
  .rw[aj,jF]
   omega
 .rw[e]
  intro q H' x st sm r;have r:aT K q.c H' (.bl true) x:=r;unfold aT at r;rw[r];exact hQ H'
end
section
variable{K:ag}{cl:Str->Addr}{E:XK}{X:Cx}{e:ah}{es:List ah}{ms:MA}{p q:Ph}{H H':Hp}{S:aH}
theorem dM.forget{ρ:bZ}{σ:St}(h:dM K p H ρ σ)(i:Nat)(x:Option V):dM K p H (ρ.set i none) (σ.set i x):=by
 refine⟨by rw[fk,fk,h.len],λj u e=>?_⟩
 by_cases q:i=j
 .subst q
  by_cases l:i<ρ.length
  .rw[dj l]at e
   cases e
  .rw[uh (by rw[fk];omega)]at e
   cases e
 .rw[fj q]at e⊢
  exact h.at_ j u e
variable{k:Nat}{f:Addr}{fd:cf}{ps:List Str}{g:FM}{dvs:List V}{ds:AU}{dv:AZ}{x:Str}{pp pos pos1 pos2 pos3 pc:ai}{c n:Str}{i nn:Nat}{BI:Stmt}{body:List Stmt}{newId:String}{up:bZ->bZ}
end
end L2.Pp
namespace L2
open PySem PySem.Spec PyProof.Rows Bn
section
variable{X:Cx}{k:Nat}{f:Addr}{fd:cf}{ps:List Str}{sp:Sp}{dvs:List V}{ds:AU}{x:Str}{p pos pos1 pos2 pos3 pc:ai}{e:ah}{es:List ah}{t:TA}{c n:Str}{C:Addr}{i:Nat}{BI:Stmt}{body:List Stmt}{newId:String}
end
end L2
namespace L2.Pp
open PySem PySem.Spec PyProof.Rows Bn
section
variable{K:ag}{cl:Str->Addr}{E:XK}{X:Cx}{e:ah}{es:List ah}{ms:MA}{p q:Ph}{H H':Hp}{S:aH}
variable{k:Nat}{f:Addr}{fd:cf}{ps:List Str}{g:FM}{dvs:List V}{ds:AU}{dv:AZ}{x:Str}{pp pos pos1 pos2 pos3 pc:ai}{c n:Str}{i nn:Nat}{BI:Stmt}{body:List Stmt}{newId:String}{up:bZ->bZ}
end
section
variable{prog:Program}{w:aq}{A:au}{E:Value->aa->Prop}{s:aa}
end
end L2.Pp
namespace L2
open PySem PyProof.Rows
end L2
namespace L2.Pp
open PySem
end L2.Pp
namespace L2
open PySem PySem.Spec PyProof.Rows Bn
section
variable{X:Cx}
theorem Mj(is:AR):∀j,j<=is.length->preSum (λi=>is.getD i 0) j=(is.take j).sum
 |0,_=>by simp[preSum]
 |j+1,h=>by
  have hj:j<is.length:=h;rw[preSum,Mj is j (by omega),List.take_add_one,ax hj,Option.toList_some,List.sum_append,List.sum_singleton];simp only[cg,ax hj,o5]
theorem F9(hc:X.calm=true):iZ X (.builtin "sum") (λxs H Q=>∃(a:Addr)(is:AR),xs=[.ref a]/\cK X.K H a (is.map V.int)/\Q (.int is.sum) H):=by
 intro BD s σ H xs us Q I r h;obtain⟨a,is,rfl,hq,q⟩:=h;obtain⟨u,rfl,ru⟩:=kL r;cases ru;obtain⟨its,rv,pl,hz⟩:=I.list hq;have hl:is.length=its.length:=by
  have:=rv.length
  rwa[aj]at this
 refine call_sum_walkG (tq pl.isList ?_);have ha:a<s.heap.objs.size:=by
  obtain⟨o,ho,_⟩:=pl.isList;exact bj ho
 refine⟨_,_,_,_,_,_,λi=>is.getD i 0,rfl,Walks.list (prog:=X.prog) (w:=X.w) (A:=X.A.in1) (show X.A.in1.handled=none from I.ok.hd hc) s.heap.objs.size a (de ha) its.toArray,⟨⟨_,df _ rfl,rfl,rfl⟩,Heap.IsList.at pl.isList λo e=>ay _ e⟩,λb hb=>?_,λi v hv=>?_,λh' tk t' kp=>?_⟩
 .have hb':b=s.heap.objs.size\/b=a:=by simpa using hb
  rw[jp];rcases hb' with e |e<;>rw[e]
  .exact yd _
  .exact yf ha
 .have hv':its[i]?=some v:=by simpa using hv
  have hi:i<is.length:=by
   have:=(br.mp hv').1;omega
  obtain⟨u,hu,ru⟩:=rv.get (i:=i) (x:=.int is[i]) (by rw[bo,ax hi];rfl);rw[hv']at hu;cases hu;obtain⟨t,ht⟩:=(show ∃t,v=qb is[i] t from ru);exact⟨t,by rw[ht];simp[cg,hi]⟩
 .have e:preSum (λi=>is.getD i 0) its.toArray.size=is.sum:=by
   rw[az,<-hl,Mj is _ (ak _),yg]
  show EP X BD σ Q (.int (preSum (λi=>is.getD i 0) its.toArray.size) t') _;rw[e];have I1:aI X BD σ H {s with heap:=s.heap.push {cls:=.type "list_iterator",data:=.fields #[.ref a,.int 0 0]},toks:=s.toks}:=I.kept λb o z=>ay _ z;have fp:fS X BD H s.heap.objs.size:=I.fpOk (ak _) (I.hok.fresh (ak _));obtain⟨f0,f1,f2,f3,f4,f5⟩:=fp;exact⟨.int is.sum,H,I1.turned (λb o hb z=>kp b o (by simpa using hb) z) f0 f1 f3 f4 f5,⟨t',rfl⟩,q⟩
theorem J7(is:AR):(cu is.length).any (λi=>is.getD i 0 !=0)=is.any (· !=0):=by
 rw[ot,o6,o6];constructor
 .rintro⟨i,hi,z⟩
  have hi':i<is.length:=by simpa using hi
  exact⟨is[i],fe hi',by simpa[cg,hi']using z⟩
 .rintro⟨b,hb,z⟩
  obtain⟨i,hi,rfl⟩:=tx.mp hb;exact⟨i,by simpa using hi,by simpa[cg,hi]using z⟩
end
end L2
namespace L2.Pp
open PySem PySem.Spec PyProof.Rows Bn
section
variable{K:ag}{cl:Str->Addr}{E:XK}{X:Cx}
def kH:AZ->Option AR
 |[]=>some []
 |.int b::r=>match kH r with
  |some bs=>some (b::bs)
  |none=>none
 |_::_=>none
theorem wI{c:Addr->Prop}{H:Hp}:∀{xs:AZ}{bs:AR}{vs:List V},kH xs=some bs->aS K c H xs vs->vs=bs.map V.int
 |[],bs,vs,e,r=>by
  cases e;unfold aS at r;exact r
 |.int b::xs,bs,vs,e,r=>by
  unfold kH at e;split at e
  .rename_i cs h
   cases e;unfold aS at r;obtain⟨v,w,rfl,r1,r2⟩:=r;unfold aT at r1;rw[r1,wI h r2];rfl
  .cases e
 |.non::_,_,_,e,_=>by cases e
 |.bl _::_,_,_,e,_=>by cases e
 |.str _::_,_,_,e,_=>by cases e
 |.tup _::_,_,_,e,_=>by cases e
 |.lst _::_,_,_,e,_=>by cases e
def pV:AZ->BA
 |[.lst xs]=>(kH xs).map λbs=>.int bs.sum
 |_=>none
theorem adZ:lQ K (λxs H Q=>∃(a:Addr)(is:AR),xs=[.ref a]/\cK K H a (is.map V.int)/\Q (.int is.sum) H) pV:=λ{p S H as c xs Q} s ra e k=>by
 unfold pV at e;split at e
 .rename_i zs
  cases y:kH zs with
  |none=>rw[y]at e;cases e
  |some bs=>
   rw[y]at e;cases e;cases ra with
   |cons h t=>
    cases t;obtain⟨a,vs,rfl,l,z,r⟩:=h.lst;rw[wI y r]at l;exact⟨a,bs,rfl,l,k H _ (eD.refl H) (jH (v:=.int _) rfl)⟩
 .cases e
theorem F1(l:Addr)(items:Array Value)(n:Nat)(dd:AX)(sl:Array AW)(x:Int)(u:dh)(hc0:¬(!Builtin.List.listFitsIndex x)=true)(hc1:¬items.size*x.toNat>(2^63-1)/8)(hc2:¬sy (items.size*x.toNat)=true):
  Meets (Builtin.«list.__mul__» ⟨[.ref l,.int x u],[]⟩) (λ_ R s=>s.heap.get? l=some {cls:=.type "list",dict:=dd,data:=.seq items n,slots:=sl}/\R (.ok (.ret (dy s.heap.objs.size))) {s with heap:=s.heap.push {cls:=lm "list",data:=Data.seq (sv (λx1 x2=>x1++x2) #[] (fw (if items.isEmpty=true then 0 else x.toNat) items))},toks:=s.toks}):=
 .of_wp λprog w A R s h=>by
  obtain⟨hp,g,d,tk,os⟩:=s;obtain⟨hl,h⟩:=h;have hsz:=AutoListH.joined_fits hc2
  wp_walk;refine wpAny_ite_false (decide_eq_false (Nat.not_lt.mpr hsz)) ?_;wp_walk;exact⟨_,rfl,h⟩
theorem D9(a:Int)(t:dh)(l:Addr)(items:Array Value)(n:Nat)(dd:AX)(sl:Array AW):
  Meets (Builtin.«int.__rmul__» ⟨[.int a t,.ref l],[]⟩) (λ_ R s=>s.heap.get? l=some {cls:=.type "list",dict:=dd,data:=.seq items n,slots:=sl}/\R (.ok (.ret Value.notImplemented)) s):=
 .of_wp λprog w A R s h=>by obtain⟨hp,g,d,tk,os⟩:=s;obtain⟨hl,h⟩:=h;wp_walk;exact⟨_,rfl,h⟩
def Uu(K:ag):R2:=λx y H Q=>∃l k xs,x=.ref l/\y=.int k/\cK K H l xs/\-(2^63)<=k/\k<2^63/\xs.length*k.toNat<=sizeLine/\
 ∀p,H p=none->Q (.ref p) (aW H p (.lst (fw k.toNat xs).flatten))
theorem abE:eW X (binaryOp .Mult) (Uu X.K):=by
 intro BD s σ H x y v u Q I rx ry h;obtain⟨l,k,xs,rfl,rfl,hx,h1,h2,hz,q⟩:=h;cases rx;obtain⟨t,rfl⟩:=ry;obtain⟨its,r,p1,_⟩:=I.list hx;obtain⟨⟨cls,dd,data,sl⟩,n,e,hc,_,hd⟩:=p1;simp only at hc hd;subst hc hd;have hl:=r.length;have hlen:its.toArray.size*k.toNat<=sizeLine:=by rw[az,<-hl];exact hz
 have hcap:¬its.toArray.size*k.toNat>(2^63-1)/8:=by
  have:(sizeLine:Nat)<=(2^63-1)/8:=by decide
  omega
 have hfit:¬(!Builtin.List.listFitsIndex k)=true:=by
  rw[fitsIndex_both h1 h2];exact iw
 have hlong:¬sy (its.toArray.size*k.toNat)=true:=by
  rw[S7 hlen];exact iw
 have hnew:sv (λx1 x2=>x1++x2) #[] (fw (if its.toArray.isEmpty=true then 0 else k.toNat) its.toArray)=(fw k.toNat its).flatten.toArray:=by
  have f0:∀m:Nat,sv (λx1 x2=>x1++x2) #[] (fw m its.toArray)=(fw m its).flatten.toArray:=λm=>by
   have:=Tk its m [];rw[jq]at this;exact this
  rw[f0];cases its with
  |nil=>simp
  |cons a r'=>rw[if_neg (by simp)]
 refine wpAny_binaryOp_repeat_ref (T:="list") (U:="int") (by decide) ⟨_,e,rfl⟩ (λs'=>ww s' k t) noFill_list_mul F.fills_int_mul F.slot_int_rmul repeat_list F.slot_int_index.lookup
  (td F.slot_int_rmul (ww s k t) F.entry_int_rmul (F.args_int_rmul_2 _ _) (D9 k t l its.toArray n dd sl)
   ⟨e,rfl,⟨_,e,rfl⟩,td F.slot_list_mul ⟨_,e,rfl⟩ F.entry_list_mul (F.args_list_mul_2 _ _) (F1 l its.toArray n dd sl k t hfit hcap hlong) ⟨e,?_⟩⟩)
 rw[hnew];exact⟨.ref _,_,I.lnew (t':=s.toks) (r.rep k.toNat) (by rw[Ps,Nat.mul_comm];exact hz),rfl,q _ I.fresh⟩
def Lw(xs:AZ)(k:Int):AZ:=(fw k.toNat xs).flatten
def Uw(n:Nat)(k:Int):Prop:=-(2^63)<=k/\k<2^63/\n*k.toNat<=16777216
open Classical in
noncomputable def vC:PV->PV->BA
 |.lst xs,.int k=>if Uw xs.length k then some (.lst (Lw xs k))else none
 |_,_=>none
open Classical in
theorem Hd{xs:AZ}{k:Int}:vC (.lst xs) (.int k)=if Uw xs.length k then some (.lst (Lw xs k))else none:=rfl
theorem aS.rep{c:Addr->Prop}{H:Hp}{xs:AZ}{vs:List V}(r:aS K c H xs vs):∀n:Nat,aS K c H (fw n xs).flatten (fw n vs).flatten
 |0=>aS.nil
 |n+1=>by
  rw[mx,mx,oj,oj];exact r.append (aS.rep r n)
theorem adl:gY K (Uu K) vC:=λ{p S H a b c x y Q} s ra rb e k=>by
 cases a with
 |lst xs=>
  cases b with
  |int j=>
   rw[Hd]at e;split at e
   .rename_i hl
    cases e;obtain⟨a1,vs,rfl,l1,z1,r1⟩:=ra.lst;have hz:vs.length*j.toNat<=sizeLine:=by rw[<-r1.length,jF];exact hl.2.2
    exact⟨a1,j,vs,rfl,rb.int,l1,hl.1,hl.2.1,hz,λt ht=>k _ _ (iF ht) (nX s (aS.rep r1 _) (by rw[Ps,Nat.mul_comm];exact hz) ht)⟩
   .cases e
  |_=>cases e
 |_=>cases e
end
section
variable{K:ag}{cl:Str->Addr}{E:XK}{X:Cx}{p q:Ph}{H H':Hp}{S:aH}
variable{sc:Scope}{own:List Str}{cap:List (Nat×Str)}{elt target iter:ah}{pos:ai}{mi:MI}{g:GM}{me:ME}
end
section
variable{K:ag}{cl:Str->Addr}{E:XK}{X:Cx}{e:ah}{m:ME}{pos p2:ai}
end
section
variable{K:ag}{cl:Str->Addr}{E:XK}{X:Cx}
end
end L2.Pp
namespace L2
open PySem PySem.Spec PyProof.Rows Bn
open PySem.W (KasT kas_sort kas_ask KatLex KatGo KatTups kat_run kat_kind kat_lt kat_one kas_item kat_snds)
def nI{α:Type}(lt:Nat->Nat->Bool):KasT α->α
 |.ret a=>a
 |.ask i j k=>nI lt (k (lt i j))
def iX{α:Type}(n:Nat):KasT α->Bool
 |.ret _=>true
 |.ask i j k=>decide (i<n)&&decide (j<n)&&iX n (k true)&&iX n (k false)
theorem Yn{α:Type}{cmp:Nat->Nat->(Bool->aa->Prop)->aa->Prop}{lt:Nat->Nat->Bool}{n:Nat}{s:aa}(hc:∀i j(C:Bool->aa->Prop),i<n->j<n->C (lt i j) s->cmp i j C s):∀(t:KasT α)(Q:α->aa->Prop),iX n t=true->Q (nI lt t) s->t.kasWp cmp Q s
 |.ret a,Q,_,h=>h
 |.ask i j k,Q,ok,h=>by
  unfold iX at ok;simp only[ji,decide_eq_true_eq]at ok;obtain⟨⟨⟨hi,hj⟩,h1⟩,h2⟩:=ok;refine hc i j _ hi hj (Yn hc (k (lt i j)) Q ?_ h);cases lt i j
  .exact h2
  .exact h1
def rT(h:Heap)(v:Value)(us:AR):Prop:=∃a o its n,v=.ref a/\h.get? a=some o/\o.cls=.type "tuple"/\o.data=.seq (ni its) n/\bI (us.map V.int) its
section
variable{prog:Program}{w:aq}{A:au}{E:Value->aa->Prop}{s:aa}
theorem Lq{Q:Bool->aa->Prop}:∀(us vs:AR)(its jts:AU)(i:Nat)(fin:Bool),bI (us.map V.int) its->bI (vs.map V.int) jts->fin=decide (us.length<vs.length)->Q (HT.lexLt us vs) s->KatLex prog w A true fin Q (its.zip jts) i s
 |[],vs,its,jts,i,fin,h1,h2,hf,hQ=>by
  cases h1;cases vs with
  |nil=>
   subst hf;exact yh hQ
  |cons v vs=>
   have e:fin=true:=by rw[hf];simp
   subst e;exact yh hQ
 |u::us,[],its,jts,i,fin,h1,h2,hf,hQ=>by
  cases h2;have e:fin=false:=by rw[hf];simp
  subst e;rw[List.zip_nil_right];exact yh hQ
 |u::us,v::vs,its,jts,i,fin,h1,h2,hf,hQ=>by
  cases h1 with
  |cons r1 t1=>
   cases h2 with
   |cons r2 t2=>
    obtain⟨k1,rfl⟩:=r1;obtain⟨k2,rfl⟩:=r2;rw[List.zip_cons_cons];refine PySem.W.kat_cons (wpAny_eqBool_int ?_);rw[HT.lexLt_cons]at hQ
    by_cases e:u=v
    .rw[if_pos e]at hQ
     have b:(u==v)=true:=by simpa using e
     rw[b];exact PySem.W.kat_yes (Lq us vs _ _ (i+1) fin t1 t2 (by rw[hf];simp) hQ)
    .rw[if_neg e]at hQ
     have b:(u==v)=false:=by simpa using e
     rw[b];refine PySem.W.kat_no ?_
     by_cases hi:i=0
     .subst hi
      exact oneLt_int hQ
     .have b2:(true&&i==0)=false:=by simpa using hi
      rw[b2];exact kat_one _ _ (PySem.P.lt_int hQ)
theorem acX{x y:Value}{us vs:AR}{Q:Bool->aa->Prop}(hx:rT s.heap x us)(hy:rT s.heap y vs)(h:Q (HT.lexLt us vs) s):wpAny (model prog w) A (keyLt' (tuples' true) x y) Q E s:=by
 obtain⟨a,o,its,n,rfl,ho,hc,hd,r⟩:=hx;obtain⟨b,o2,jts,k,rfl,ho2,hc2,hd2,r2⟩:=hy;refine kat_lt ho hd ho2 hd2 ?_;have l1:=r.length;have l2:=r2.length;rw[aj]at l1 l2;refine Lq us vs its jts 0 _ r r2 ?_ h;rw[az,az,l1,l2]
theorem Mk:∀(vs:AU)(uss:AS),vs.length=uss.length->(∀i,i<vs.length->rT s.heap (vs.getD i cx) (uss.getD i [])/\uss.getD i []≠[])->∃fs,KatTups s.heap vs fs/\fs.length=vs.length/\∀v∈fs,∃i t,v=.int i t
 |[],uss,_,_=>⟨[],trivial,rfl,λ_ h=>absurd h fg⟩
 |v::vs,[],hl,_=>by cases hl
 |v::vs,us::uss,hl,h=>by
  obtain⟨fs,k,l,q⟩:=Mk vs uss (by simpa using hl) λi hi=>by
   have:=h (i+1) (by simp;omega);simpa using this
  obtain⟨⟨a,o,its,n,e,ho,hc,hd,r⟩,ne⟩:=h 0 (by simp);have e:v=.ref a:=e;subst e;cases us with
  |nil=>exact absurd rfl ne
  |cons u us=>
   have r:bI (V.int u::us.map V.int) its:=r;cases r with
   |cons r1 t1=>
    obtain⟨t,rfl⟩:=r1;refine⟨.int u t::fs,KatTups.cons ho hc hd (by simp) k,by simp[l],λx hx=>?_⟩;rcases cq.mp hx with rfl |hx
    .exact⟨u,t,rfl⟩
    .exact q x hx
def dY(uss:AS):List Nat:=(nI (λi j=>HT.lexLt (uss.getD i []) (uss.getD j [])) (jr uss.length)).toList
theorem Hy{a:Addr}{vs:AU}{uss:AS}{n:Nat}{P:pr->aa->Prop}(ho:s.heap.get? a=some (seqObj "list" vs.toArray n))(hl:vs.length=uss.length)(h2:2<=vs.length)(h64:vs.length<64)(ok:iX uss.length (jr uss.length)=true)
  (tu:∀i,i<vs.length->rT s.heap (vs.getD i cx) (uss.getD i [])/\uss.getD i []≠[])
  (h:P (.done (.ret .none)) {s with heap:=sortedHeap s.heap a vs (ni ((dY uss).map λi=>vs.getD i cx))}):
  wpAny (model prog w) A (Builtin.«list.sort» ⟨[.ref a],[]⟩) P E s:=by
 have ha:a<s.heap.objs.size:=bj ho;obtain⟨e1,ho1⟩:∃e1,(s.heap.update a (jb λ_=>(#[]:Array Value))).get? a=some (seqObj "list" #[] e1):=⟨_,yi ho λ_=>#[]⟩;have kp:∀b o,b≠a->s.heap.get? b=some o->(((s.heap.update a (jb λ_=>(#[]:Array Value))).push (seqObj "tuple" vs.toArray 0)).push (seqObj "list" #[] 0)).get? b=some o:=λb o hb e=>
  ay _ (ay _ ((yj _ _ _ _ hb).trans e))
 have tu2:∀i,i<vs.length->rT (((s.heap.update a (jb λ_=>(#[]:Array Value))).push (seqObj "tuple" vs.toArray 0)).push (seqObj "list" #[] 0)) (vs.getD i cx) (uss.getD i [])/\uss.getD i []≠[]:=λi hi=>by
  obtain⟨⟨b,o,its,m,e,hb,hc,hd,r⟩,ne⟩:=tu i hi;refine⟨⟨b,o,its,m,e,kp b o (λz=>?_) hb,hc,hd,r⟩,ne⟩;subst z;rw[ho]at hb;cases hb;have hc:lm "list"=lm "tuple":=hc;injection hc with hc;exact absurd hc (by decide)
 have na:(((s.heap.update a (jb λ_=>(#[]:Array Value))).push (seqObj "tuple" vs.toArray 0)).push (seqObj "list" #[] 0)).get? a=some (seqObj "list" #[] e1):=ay _ (ay _ ho1);rw[list_sort_plain];refine ae (listItems_at ho rfl ?_);refine ae (listUpdate_at ho rfl ?_ (by rw[az,ky];omega) (gn _));refine ae (seqEpoch_at ho1 rfl ?_);refine ae (wpAny_newTuple ?_ (by show vs.length<=_;rw[ky];omega));refine ae (wpAny_newList ?_ (gn _));refine kx ?_;show wpAny (model prog w) A _ P E {s with heap:=((s.heap.update a (jb λ_=>(#[]:Array Value))).push (seqObj "tuple" vs.toArray 0)).push (seqObj "list" #[] 0)};dsimp only;have hn2:¬vs.toArray.size<2:=by rw[az];omega
 rw[if_neg hn2,if_neg hn2];obtain⟨fs,kt,lf,qf⟩:=Mk (s:={s with heap:=((s.heap.update a (jb λ_=>(#[]:Array Value))).push (seqObj "tuple" vs.toArray 0)).push (seqObj "list" #[] 0)}) vs uss hl tu2;refine ae (kat_kind (T:=.type "int") kt (by omega) (λv hv=>?_) rfl ?_)
 .obtain⟨i,t,rfl⟩:=qf v hv
  exact .now
 have bt:(lm "int" !=lm "tuple")=true:=by decide
 rw[bt];refine ae (gh (kat_run (Q:=λst' s'=>∃p:Array Nat,p.size=vs.length/\arrOf st'=p.map (kas_item (vs.toArray.zip vs.toArray))/\failedOf st'=none/\p.toList=dY uss/\s'={s with heap:=((s.heap.update a (jb λ_=>(#[]:Array Value))).push (seqObj "tuple" vs.toArray 0)).push (seqObj "list" #[] 0)})
  (G:=λp s'=>p.toList=dY uss/\s'={s with heap:=((s.heap.update a (jb λ_=>(#[]:Array Value))).push (seqObj "tuple" vs.toArray 0)).push (seqObj "list" #[] 0)})
  rfl h2 h64 (λp' st' s' a1 a2 a3 a4=>⟨p',a1,a2,a3,a4⟩) ?_) ?_ λ_ _ e=>e)
 .rw[hl]
  refine Yn (lt:=λi j=>HT.lexLt (uss.getD i []) (uss.getD j [])) (n:=uss.length) (λi j C hi hj hC=>?_) _ _ ok ⟨rfl,rfl⟩;exact acX (tu2 i (by omega)).1 (tu2 j (by omega)).1 hC
 rintro⟨⟨⟩,st'⟩ s' ⟨p,hp,har,hf,hpl,rfl⟩
 dsimp only;have hout:=kat_snds rfl har;have hsz:(ni (p.toList.map λi=>vs.getD i cx)).size=vs.length:=by rw[az,aj,rp,hp]
 rw[hout];refine ae (seqEpoch_at na rfl ?_);refine ae (listUpdate_at na rfl ?_ (gn _) (ft (xh hsz) (by rw[ky];omega)));rw[hf];simp only[bne_self_eq_false,ul,if_false];refine ao ?_;rw[hpl];exact h
theorem Oz{l:Addr}{o:Obj}{T:String}{vs:AU}{uss:AS}{n:Nat}{Q:Value->aa->Prop}(hT:T="list"\/T="tuple")(ho:s.heap.get? l=some o)(hc:o.cls=.type T)(hd:o.data=.seq vs.toArray n)(hl:vs.length=uss.length)(h2:2<=vs.length)(h64:vs.length<64)(ok:iX uss.length (jr uss.length)=true)
  (tu:∀i,i<vs.length->rT s.heap (vs.getD i cx) (uss.getD i [])/\uss.getD i []≠[])
  (h:∀(h1 h':Heap)(c:Nat),(∀b o',s.heap.get? b=some o'->h1.get? b=some o')->(∀b o',h1.get? b=some o'->h'.get? b=some o')->h'.get? h1.objs.size=some (seqObj "list" (ni ((dY uss).map λi=>vs.getD i cx)) c)->Q (.ref h1.objs.size) {s with heap:=h'}):
  wpAny (model prog w) A (call (.builtin "sorted") [.ref l]) Q E s:=by
 refine PySem.Calls.call_function_entry kind_sorted plain_sorted entry_sorted (args_sorted1 _) ?_;unfold Builtin.«sorted»;refine ae (m:=checkCount "sorted" 1 1 _) (ao ?_);refine ae (wpAny_collect_seq l hT ho hc hd (λh1 k1=>?_) (by rw[az,ky];omega));refine ae (wpAny_newList ?_ (by rw[ky];simp;omega));have hoL:(h1.push (seqObj "list" vs.toArray 0)).get? h1.objs.size=some (seqObj "list" vs.toArray 0):=df _ rfl;show wpAny _ _ _ _ _ {s with heap:=h1.push (seqObj "list" vs.toArray 0)};refine ae (kx (jh slot_list_sort ⟨_,hoL,rfl⟩ entry_list_sort ?body (args_list_sort _)))
 case body=>
  refine Hy (s:={s with heap:=h1.push (seqObj "list" vs.toArray 0)}) hoL hl h2 h64 ok (λi hi=>?_) ⟨_,rfl,ao ⟨_,rfl,?_⟩⟩
  .obtain⟨⟨b,o,its,m,e,hb,hc,hd,r⟩,ne⟩:=tu i hi
   exact⟨⟨b,o,its,m,e,ay _ (k1 b o hb),hc,hd,r⟩,ne⟩
  .obtain⟨e1,ho1⟩:∃e1,((h1.push (seqObj "list" vs.toArray 0)).update h1.objs.size (jb λ_=>(#[]:Array Value))).get? h1.objs.size=some (seqObj "list" #[] e1):=⟨_,yi hoL λ_=>#[]⟩
   have ho2:=ay (seqObj "list" #[] 0) (ay (seqObj "tuple" vs.toArray 0) ho1);obtain⟨e2,ho3⟩:∃e2,(sortedHeap (h1.push (seqObj "list" vs.toArray 0)) h1.objs.size vs (ni ((dY uss).map λi=>vs.getD i cx))).get? h1.objs.size=some (seqObj "list" (ni ((dY uss).map λi=>vs.getD i cx)) e2):=⟨_,yi ho2 λ_=>ni ((dY uss).map λi=>vs.getD i cx)⟩;refine h h1 _ e2 k1 (λb o' hb1=>?_) ho3;have hne:b≠h1.objs.size:=de (bj hb1);exact(yj _ _ _ _ hne).trans (ay _ (ay _ ((yj _ _ _ _ hne).trans (ay _ hb1))))
end
def Bg(K:ag)(H:Hp)(ts:List V)(uss:AS):Prop:=ts.length=uss.length/\∀i t,ts[i]?=some t->∃a,t=.ref a/\dP K H a ((uss.getD i []).map V.int)/\uss.getD i []≠[]
theorem Sz{X:Cx}:iZ X (.builtin "sorted") (λxs H Q=>∃(a:Addr)(ts:List V)(uss:AS),xs=[.ref a]/\(cK X.K H a ts\/dP X.K H a ts)/\Bg X.K H ts uss/\2<=ts.length/\ts.length<64/\iX uss.length (jr uss.length)=true/\(dY uss).length<=64/\
  ∀l,H l=none->Q (.ref l) (aW H l (.lst ((dY uss).map λi=>ts.getD i .non)))):=by
 intro BD s σ H xs us Q I r h;obtain⟨a,ts,uss,rfl,hq,⟨hl,ht⟩,h2,h64,ok,hpl,q⟩:=h;obtain⟨u,rfl,ru⟩:=kL r;cases ru;have go:∀(its:AU)(T:String)(o:Obj)(n:Nat),bI ts its->(T="list"\/T="tuple")->s.heap.get? a=some o->o.cls=.type T->o.data=.seq its.toArray n->ts.length<=sizeLine->
   wpAny (model X.prog X.w) X.A (call (.builtin "sorted") [.ref a]) (EP X BD σ Q) X.xe s:=λits T o n rv hT ho hc hd hz=>by
  have hlen:=rv.length;refine Oz (uss:=uss) hT ho hc hd (by omega) (by omega) (by omega) ok (λi hi=>?_) λh1 h' c k1 k2 e=>?_
  .have hi':i<ts.length:=by omega
   obtain⟨b,e1,sq,ne⟩:=ht i ts[i] (ax hi');obtain⟨v,e2,rel⟩:=rv.get (ax hi');rw[e1]at rel;cases rel;obtain⟨jts,rj,⟨o2,ho2,hc2,m,hd2⟩,_⟩:=I.tuple sq;refine⟨⟨b,o2,jts,m,?_,ho2,hc2,hd2,rj⟩,ne⟩;rw[cg,e2];rfl
  .have I1:aI X BD σ H {s with heap:=h1,toks:=s.toks}:=I.kept k1
   have hz2:((dY uss).map λi=>ts.getD i .non).length<=sizeLine:=by
    rw[aj,ky];omega
   have rel:∀ps:List Nat,bI (ps.map λi=>ts.getD i .non) (ps.map λi=>its.getD i cx):=λps=>by
    induction ps with
    |nil=>exact .nil
    |cons i ps ih=>
     refine .cons ?_ ih
     by_cases hi:i<ts.length
     .obtain⟨v,e2,rr⟩:=rv.get (ax hi)
      have q1:ts.getD i .non=ts[i]:=by simp[cg,hi]
      have q2:its.getD i cx=v:=by simp[cg,e2]
      show bS (ts.getD i .non) (its.getD i cx);rw[q1,q2];exact rr
     .have q1:ts.getD i .non=.non:=by simp[cg,hi]
      have q2:its.getD i cx=cx:=by simp[cg,show its.length<=i by omega]
      show bS (ts.getD i .non) (its.getD i cx);rw[q1,q2];rfl
   refine⟨.ref h1.objs.size,_,I1.laid (t':=s.toks) (o:=.lst ((dY uss).map λi=>ts.getD i .non)) k2 (ak _) ?_,rfl,q _ (I1.hok.fresh (ak _))⟩;exact⟨hz2,_,c,rel _,e⟩
 rcases hq with hq |hq
 .obtain⟨its,rv,pl,hz⟩:=I.list hq
  obtain⟨o,ho,hc,n,hd⟩:=pl.isList;exact go its "list" o n rv (.inl rfl) ho hc hd hz
 .obtain⟨its,rv,⟨o,ho,hc,n,hd⟩,hz⟩:=I.tuple hq
  exact go its "tuple" o n rv (.inr rfl) ho hc hd hz
end L2
namespace L2.Pp
open PySem PySem.Spec PyProof.Rows Bn
open PySem.W (kas_sort)
section
variable{K:ag}
def oE:AZ->Option AS
 |[]=>some []
 |.tup us::r=>match kH us,oE r with
  |some is,some uss=>some (is::uss)
  |_,_=>none
 |_::_=>none
theorem Qo:∀{xs:AZ}{uss:AS},oE xs=some uss->xs.length=uss.length
 |[],uss,e=>by cases e;rfl
 |.tup us::r,uss,e=>by
  unfold oE at e;split at e
  .rename_i is uss' h1 h2
   cases e;rw[cv,cv,Qo h2]
  .cases e
 |.non::_,_,e=>by cases e
 |.bl _::_,_,e=>by cases e
 |.int _::_,_,e=>by cases e
 |.str _::_,_,e=>by cases e
 |.lst _::_,_,e=>by cases e
theorem Mq{c:Addr->Prop}{H:Hp}:∀{xs:AZ}{uss:AS}{vs:List V},oE xs=some uss->aS K c H xs vs->∀i t,vs[i]?=some t->∃a,t=.ref a/\dP K H a ((uss.getD i []).map V.int)
 |[],uss,vs,e,r,i,t,h=>by
  unfold aS at r;subst r;simp at h
 |.tup us::r,uss,vs,e,rr,i,t,h=>by
  unfold oE at e;split at e
  .rename_i is uss' h1 h2
   cases e;unfold aS at rr;obtain⟨v,w,rfl,r1,r2⟩:=rr;cases i with
   |zero=>
    cases h;unfold aT at r1;obtain⟨a,ws,rfl,sq,_,r3⟩:=r1;rw[wI h1 r3]at sq;exact⟨a,rfl,sq⟩
   |succ i=>
    have:=Mq h2 r2 i t (by simpa using h);simpa using this
  .cases e
 |.non::_,_,_,e,_,_,_,_=>by cases e
 |.bl _::_,_,_,e,_,_,_,_=>by cases e
 |.int _::_,_,_,e,_,_,_,_=>by cases e
 |.str _::_,_,_,e,_,_,_,_=>by cases e
 |.lst _::_,_,_,e,_,_,_,_=>by cases e
def Rg(uss:AS):Prop:=2<=uss.length/\uss.length<64/\iX uss.length (jr uss.length)=true/\(dY uss).length<=64/\∀us∈uss,us≠[]
def Wg(xs:AZ)(uss:AS):AZ:=(dY uss).map λi=>xs.getD i .non
open Classical in
noncomputable def rV(xs:AZ):BA:=match oE xs with
 |some uss=>if Rg uss then some (.lst (Wg xs uss))else none
 |none=>none
noncomputable def rA:AZ->BA
 |[.lst xs]=>rV xs
 |[.tup xs]=>rV xs
 |_=>none
theorem Xk{c:Addr->Prop}{H:Hp}{xs:AZ}{vs:List V}(r:aS K c H xs vs):∀ps:List Nat,aS K c H (ps.map λi=>xs.getD i .non) (ps.map λi=>vs.getD i .non)
 |[]=>.nil
 |i::ps=>by
  refine .cons ?_ (Xk r ps)
  by_cases hi:i<xs.length
  .obtain⟨v,e1,e2⟩:=r.get (ax hi)
   have q1:xs.getD i .non=xs[i]:=by simp[cg,hi]
   have q2:vs.getD i .non=v:=by simp[cg,e1]
   show aT K c H (xs.getD i .non) (vs.getD i .non);rw[q1,q2];exact e2
  .have hl:=r.length
   have q1:xs.getD i .non=.non:=by simp[cg,hi]
   have q2:vs.getD i .non=.non:=by simp[cg,show vs.length<=i by omega]
   show aT K c H (xs.getD i .non) (vs.getD i .non);rw[q1,q2];unfold aT;rfl
theorem ac7:lQ K (λxs H Q=>∃(a:Addr)(ts:List V)(uss:AS),xs=[.ref a]/\(cK K H a ts\/dP K H a ts)/\Bg K H ts uss/\2<=ts.length/\ts.length<64/\iX uss.length (jr uss.length)=true/\(dY uss).length<=64/\
  ∀l,H l=none->Q (.ref l) (aW H l (.lst ((dY uss).map λi=>ts.getD i .non)))) rA:=λ{p S H as c xs Q} s ra e k=>by
 have key:∀(zs:AZ)(a:Addr)(vs:List V),rV zs=some c->(cK K H a vs\/dP K H a vs)->aS K p.c H zs vs->∃(a':Addr)(ts:List V)(uss:AS),[V.ref a]=[.ref a']/\(cK K H a' ts\/dP K H a' ts)/\Bg K H ts uss/\2<=ts.length/\ts.length<64/\iX uss.length (jr uss.length)=true/\(dY uss).length<=64/\
   ∀l,H l=none->Q (.ref l) (aW H l (.lst ((dY uss).map λi=>ts.getD i .non))):=λzs a vs e sq r=>by
  unfold rV at e;split at e
  .rename_i uss hu
   split at e
   .rename_i hc
    cases e;obtain⟨c1,c2,c3,c4,c5⟩:=hc;have l1:=Qo hu;have l2:=r.length;refine⟨a,vs,uss,rfl,sq,⟨by omega,λi t h=>?_⟩,by omega,by omega,c3,c4,λl hl=>?_⟩
    .obtain⟨b,e1,e2⟩:=Mq hu r i t h
     have hi:i<uss.length:=by
      have:=(br.mp h).1;omega
     refine⟨b,e1,e2,?_⟩;rw[cg,ax hi];exact c5 _ (fe hi)
    .refine k _ _ (iF hl) (nX s (Xk r _) ?_ hl)
     rw[aj,jF];omega
   .cases e
  .cases e
 unfold rA at e;split at e
 .rename_i zs
  cases ra with
  |cons h t=>
   cases t;obtain⟨a,vs,rfl,l,z,r⟩:=h.lst;exact key zs a vs e (.inl l) r
 .rename_i zs
  cases ra with
  |cons h t=>
   cases t;obtain⟨a,vs,rfl,l,z,r⟩:=h.tup;exact key zs a vs e (.inr l) r
 .cases e
end
end L2.Pp
namespace L2
section
open PySem.W (KasT kas_sort)
theorem Ak{α:Type}{lt lt':Nat->Nat->Bool}{n:Nat}(h:∀i j,i<n->j<n->lt i j=lt' i j):∀t:KasT α,iX n t=true->nI lt t=nI lt' t
 |.ret a,_=>rfl
 |.ask i j k,ok=>by
  unfold iX at ok;simp only[ji,decide_eq_true_eq]at ok;obtain⟨⟨⟨hi,hj⟩,h1⟩,h2⟩:=ok;show nI lt (k (lt i j))=nI lt' (k (lt' i j));rw[<-h i j hi hj];refine Ak h (k (lt i j)) ?_;cases lt i j
  .exact h2
  .exact h1
theorem lY:∀u:AR,HT.lexLt u u=false
 |[]=>rfl
 |x::u=>by rw[HT.lexLt_cons,if_pos rfl,lY u]
theorem Le:∀u v:AR,u=v\/HT.lexLt u v=true\/HT.lexLt v u=true
 |[],[]=>.inl rfl
 |[],_::_=>.inr (.inl rfl)
 |_::_,[]=>.inr (.inr rfl)
 |x::u,y::v=>by
  rw[HT.lexLt_cons,HT.lexLt_cons]
  by_cases h:x=y
  .subst h
   rw[if_pos rfl,if_pos rfl];rcases Le u v with h |h |h
   .exact .inl (by rw[h])
   .exact .inr (.inl h)
   .exact .inr (.inr h)
  .rw[if_neg h,if_neg (λz=>h z.symm)]
   by_cases q:x<y
   .exact .inr (.inl (by simpa using q))
   .exact .inr (.inr (by simp;omega))
theorem wK:∀u v w:AR,HT.lexLt u v=true->HT.lexLt v w=true->HT.lexLt u w=true
 |[],[],_,h,_=>by cases h
 |[],_::_,[],_,h=>by cases h
 |[],_::_,_::_,_,_=>rfl
 |_::_,[],_,h,_=>by cases h
 |_::_,_::_,[],_,h=>by cases h
 |x::u,y::v,z::w,h1,h2=>by
  rw[HT.lexLt_cons]at h1 h2⊢
  by_cases e1:x=y
  .subst e1
   rw[if_pos rfl]at h1
   by_cases e2:x=z
   .rw[if_pos e2]at h2⊢
    exact wK u v w h1 h2
   .rw[if_neg e2]at h2⊢
    exact h2
  .rw[if_neg e1]at h1
   have h1:x<y:=by simpa using h1
   by_cases e2:y=z
   .subst e2
    rw[if_neg e1];simpa using h1
   .rw[if_neg e2]at h2
    have h2:y<z:=by simpa using h2
    rw[if_neg (by omega)];simp;omega
theorem Q3{u v:AR}(h:HT.lexLt u v=true):HT.lexLt v u=false:=by
 cases q:HT.lexLt v u with
 |false=>rfl
 |true=>
  have:=wK u v u h q;rw[lY]at this;cases this
theorem N8{u v:AR}(h:HT.lexLt u v=false)(g:HT.lexLt v u=false):u=v:=by
 rcases Le u v with e |e |e
 .exact e
 .rw[h]at e;cases e
 .rw[g]at e;cases e
def r3(a b c d e f:Bool):Bool:=(!(a&&b)||c)&&(!(d&&e)||f)
def zT(b:Nat->Nat->Bool)(n:Nat):Bool:=(cu n).all λi=>!(b i i)&&(cu n).all λj=>!(b i j&&b j i)&&(cu n).all λk=>(!(b i j&&b j k)||b i k)&&(b i j||b j k|| !(b i k))
def yE(b:Nat->Nat->Bool)(n:Nat)(ps:List (List Nat)):Bool:=let p:=(nI b (jr n)).toList
 ps.contains p&&(cu n).all λi=>(cu n).all λj=>!(decide (i<j))|| !(b (p.getD j 0) (p.getD i 0))
def Af:List (List Nat):=[[0,1,2],[0,2,1],[1,0,2],[1,2,0],[2,0,1],[2,1,0]]
def Nf:List (List Nat):=[[0,1,2,3],[0,1,3,2],[0,2,1,3],[0,2,3,1],[0,3,1,2],[0,3,2,1],[1,0,2,3],[1,0,3,2],[1,2,0,3],[1,2,3,0],[1,3,0,2],[1,3,2,0],
 [2,0,1,3],[2,0,3,1],[2,1,0,3],[2,1,3,0],[2,3,0,1],[2,3,1,0],[3,0,1,2],[3,0,2,1],[3,1,0,2],[3,1,2,0],[3,2,0,1],[3,2,1,0]]
def Uh(b01 b02 b10 b12 b20 b21:Bool)(i j:Nat):Bool:=match i,j with
 |0,1=>b01 |0,2=>b02 |1,0=>b10 |1,2=>b12 |2,0=>b20 |2,1=>b21 |_,_=>false
def Vh(b01 b02 b03 b10 b12 b13 b20 b21 b23 b30 b31 b32:Bool)(i j:Nat):Bool:=match i,j with
 |0,1=>b01 |0,2=>b02 |0,3=>b03 |1,0=>b10 |1,2=>b12 |1,3=>b13 |2,0=>b20 |2,1=>b21 |2,3=>b23 |3,0=>b30 |3,1=>b31 |3,2=>b32 |_,_=>false
theorem Wu:iX 3 (jr 3)=true:=by decide+kernel
theorem Cv:iX 4 (jr 4)=true:=by decide+kernel
theorem aeR:∀b01 b02 b10 b12 b20 b21:Bool,zT (Uh b01 b02 b10 b12 b20 b21) 3=true->yE (Uh b01 b02 b10 b12 b20 b21) 3 Af=true:=by decide+kernel
theorem aeZ:∀b01 b02 b03 b10 b12 b13 b20 b21 b23 b30 b31 b32:Bool,zT (Vh b01 b02 b03 b10 b12 b13 b20 b21 b23 b30 b31 b32) 4=true->yE (Vh b01 b02 b03 b10 b12 b13 b20 b21 b23 b30 b31 b32) 4 Nf=true:=by decide+kernel
theorem Ys{b:Nat->Nat->Bool}{n:Nat}{uss:AS}(h:∀i j,i<n->j<n->b i j=HT.lexLt (uss.getD i []) (uss.getD j [])):zT b n=true:=by
 unfold zT;simp only[kb,vz,ji,j0,Bool.or_eq_true,Bool.and_eq_false_imp];intro i hi;refine⟨by rw[h i i hi hi,lY],λj hj=>⟨λq=>?_,λk hk=>⟨?_,?_⟩⟩⟩
 .rw[h i j hi hj]at q
  rw[h j i hj hi,Q3 q]
 .rw[h i j hi hj,h j k hj hk,h i k hi hk]
  cases q1:HT.lexLt (uss.getD i []) (uss.getD j [])with
  |false=>exact .inl λz=>by cases z
  |true=>
   cases q2:HT.lexLt (uss.getD j []) (uss.getD k [])with
   |false=>exact .inl λ_=>rfl
   |true=>exact .inr (wK _ _ _ q1 q2)
 .rw[h i j hi hj,h j k hj hk,h i k hi hk]
  cases q1:HT.lexLt (uss.getD i []) (uss.getD j [])with
  |true=>exact .inl (.inl rfl)
  |false=>
   cases q2:HT.lexLt (uss.getD j []) (uss.getD k [])with
   |true=>exact .inl (.inr rfl)
   |false=>
    refine .inr ?_;cases q3:HT.lexLt (uss.getD i []) (uss.getD k [])with
    |false=>rfl
    |true=>
     rcases Le (uss.getD i []) (uss.getD j [])with e |e |e
     .rw[e]at q3;rw[q2]at q3;cases q3
     .rw[q1]at e;cases e
     .have:=wK _ _ _ e q3
      rw[q2]at this;cases this
end
section
open PySem.W (KasT kas_sort)
def eC(uss:AS):AS:=(dY uss).map λi=>uss.getD i []
def qI(u v:AR):Prop:=HT.lexLt v u=false
theorem Al{uss:AS}{n:Nat}{ps:List (List Nat)}(hl:uss.length=n)(ok:iX n (jr n)=true){b:Nat->Nat->Bool}(hb:∀i j,i<n->j<n->b i j=HT.lexLt (uss.getD i []) (uss.getD j []))(good:yE b n ps=true)(hp:∀p∈ps,p.Perm (cu n)):
  dY uss∈ps/\(dY uss).Perm (cu n)/\(eC uss).Pairwise qI:=by
 have e:dY uss=(nI b (jr n)).toList:=by
  unfold dY;rw[hl];exact congrArg wg (Ak (n:=n) (λi j hi hj=>(hb i j hi hj).symm) _ ok)
 unfold yE at good;simp only[ji,kb,vz]at good;rw[<-e]at good;obtain⟨g1,g2⟩:=good;have m:dY uss∈ps:=by simpa using g1
 have pm:=hp _ m;refine⟨m,pm,?_⟩;have ln:(dY uss).length=n:=by rw[pm.length_eq,j8]
 unfold eC;rw[List.pairwise_iff_getElem];intro i j hi hj hij;rw[aj]at hi hj;have q:=g2 i (by omega) j (by omega);have pi:(dY uss).getD i 0=(dY uss)[i]:=by simp[cg,hi]
 have pj:(dY uss).getD j 0=(dY uss)[j]:=by simp[cg,hj]
 rw[pi,pj]at q;have li:(dY uss)[i]<n:=by
  have:=pm.subset (fe hi);simpa using this
 have lj:(dY uss)[j]<n:=by
  have:=pm.subset (fe hj);simpa using this
 rw[hb _ _ lj li]at q;simp only[yk];unfold qI;have d:decide (i<j)=true:=by simpa using hij
 rw[d]at q;simpa using q
theorem O0:∀p∈Af,p.Perm (cu 3):=by decide
theorem K8:∀p∈Nf,p.Perm (cu 4):=by decide
theorem Os{uss:AS}(h:uss.length=3):dY uss∈Af/\(dY uss).Perm (cu 3)/\(eC uss).Pairwise qI:=by
 match uss,h with
 |[u0,u1,u2],_=>
  have hb:∀i j,i<3->j<3->Uh (HT.lexLt u0 u1) (HT.lexLt u0 u2) (HT.lexLt u1 u0) (HT.lexLt u1 u2) (HT.lexLt u2 u0) (HT.lexLt u2 u1) i j=HT.lexLt (([u0,u1,u2]:AS).getD i []) (([u0,u1,u2]:AS).getD j []):=λi j hi hj=>by
   match i,j,hi,hj with
   |0,0,_,_=>exact(lY u0).symm
   |0,1,_,_=>rfl
   |0,2,_,_=>rfl
   |1,0,_,_=>rfl
   |1,1,_,_=>exact(lY u1).symm
   |1,2,_,_=>rfl
   |2,0,_,_=>rfl
   |2,1,_,_=>rfl
   |2,2,_,_=>exact(lY u2).symm
  exact Al rfl Wu hb (aeR _ _ _ _ _ _ (Ys hb)) O0
theorem Yp{uss:AS}(h:uss.length=4):dY uss∈Nf/\(dY uss).Perm (cu 4)/\(eC uss).Pairwise qI:=by
 match uss,h with
 |[u0,u1,u2,u3],_=>
  have hb:∀i j,i<4->j<4->Vh (HT.lexLt u0 u1) (HT.lexLt u0 u2) (HT.lexLt u0 u3) (HT.lexLt u1 u0) (HT.lexLt u1 u2) (HT.lexLt u1 u3) (HT.lexLt u2 u0) (HT.lexLt u2 u1) (HT.lexLt u2 u3) (HT.lexLt u3 u0) (HT.lexLt u3 u1) (HT.lexLt u3 u2) i j=HT.lexLt (([u0,u1,u2,u3]:AS).getD i []) (([u0,u1,u2,u3]:AS).getD j []):=λi j hi hj=>by
   match i,j,hi,hj with
   |0,0,_,_=>exact(lY u0).symm
   |0,1,_,_=>rfl
   |0,2,_,_=>rfl
   |0,3,_,_=>rfl
   |1,0,_,_=>rfl
   |1,1,_,_=>exact(lY u1).symm
   |1,2,_,_=>rfl
   |1,3,_,_=>rfl
   |2,0,_,_=>rfl
   |2,1,_,_=>rfl
   |2,2,_,_=>exact(lY u2).symm
   |2,3,_,_=>rfl
   |3,0,_,_=>rfl
   |3,1,_,_=>rfl
   |3,2,_,_=>rfl
   |3,3,_,_=>exact(lY u3).symm
  exact Al rfl Cv hb (aeZ _ _ _ _ _ _ _ _ _ _ _ _ (Ys hb)) K8
theorem nS{uss:AS}(h:uss.length=3\/uss.length=4):(eC uss).Perm uss/\(eC uss).Pairwise qI:=by
 have key:∀n,uss.length=n->(dY uss).Perm (cu n)->(eC uss).Perm uss:=λn hn hp=>by
  have e:(cu n).map (λi=>uss.getD i [])=uss:=by
   refine ue (by simp[hn]) λi h1 h2=>?_;have hi:i<uss.length:=h2;simp[cg,hi]
  have:=hp.map (λi=>uss.getD i []);rw[e]at this;exact this
 rcases h with h |h
 .obtain⟨_,hp,hs⟩:=Os h
  exact⟨key 3 h hp,hs⟩
 .obtain⟨_,hp,hs⟩:=Yp h
  exact⟨key 4 h hp,hs⟩
theorem Gy{A B:AS}(hp:A.Perm B)(ha:A.Pairwise qI)(hb:B.Pairwise qI):A=B:=
 hp.eq_of_pairwise (λu v _ _ h g=>N8 g h) ha hb
theorem Pi{A B:AS}(hp:A.Perm B)(h:B.length=3\/B.length=4):eC A=eC B:=by
 obtain⟨p1,s1⟩:=nS (uss:=A) (by rw[hp.length_eq];exact h);obtain⟨p2,s2⟩:=nS h;exact Gy (p1.trans (hp.trans p2.symm)) s1 s2
end
open PySem PySem.Spec PyProof.Rows Bn
theorem abc{X:Cx}{sc1 sc:Scope}{own1 own:List Str}{cap1 cap:List (Nat×Str)}{C:Addr}{BE:aa}{BF:Hp}{ex:List Addr}(so:Scope)(hso:X.env.scope=so)(hk:so.kind=.function)(kind:sc.kind=.function)(names:∀y∈sc.names,y.2=.local->sc.names.lookup y.1=some .local)
  (nocell:∀y∈sc.names,y.2≠.cell)(free:∀y∈sc.names,y.2=.free->sc1.names.lookup y.1=some .free/\so.names.lookup y.1=some .cell)(at':∀p∈cap,(cR own1 cap1)[p.1]?=some p.2)(hcap:∀p∈cap,sc.names.lookup p.2=some .free):
  iA (eQ X sc1 (cR own1 cap1) C BE BF ex) sc own cap:=
 ⟨kind,names,nocell,λy hy e=>by
  obtain⟨f1,f2⟩:=free y hy e;exact sV (env:=X.env) (by rw[hso];exact hk) f1 (by show X.env.scope.names.lookup y.1=_;rw[hso];exact f2),at',hcap⟩
section
variable{M:ly}{A:au}{E:Value->aa->Prop}{s:aa}
theorem Oy{scope:Scope}{globals:Addr}{closure:List (Str×Addr)}{qual:Str}{outer:bh}{Q:bh->aa->Prop}
  (hQ:Q (newEnv scope s.heap.objs.size globals (cellsFrom (s.heap.objs.size+1) scope.names closure) qual none .none (some outer) builtinsNs) {s with heap:=pushCells (s.heap.push {cls:=.type "dict",data:=.dict #[]}) scope.names}):
  wpAny M A (newFunctionEnv scope globals closure [] qual none .none (some outer)) Q E s:=by
 simp only[newFunctionEnv,Option.isSome_some,if_true];refine ae (wpAny_alloc ?_);refine ae (wpAny_layCells _ (λname kind cells=>by cases hkc:kind==fz<;>simp[hkc]) _ _ _ _ ?_);rw[show({s with heap:=s.heap.push {cls:=.type "dict",data:=.dict #[]}}:aa).heap.objs.size=s.heap.objs.size+1 from jp ..];refine ae ?_;rw[xv];exact ao (ao hQ)
end
theorem Ff:∀(names:List (Str×gi))(n:Nat)(acc:List (Str×Addr)),(∀x y c,acc.lookup x=some c->acc.lookup y=some c->x=y)->(∀x c,acc.lookup x=some c->c<n)->
  ∀x y c,(cellsFrom n names acc).lookup x=some c->(cellsFrom n names acc).lookup y=some c->x=y
 |[],n,acc,hi,_,x,y,c,e1,e2=>hi x y c e1 e2
 |(name,kind)::r,n,acc,hi,hb,x,y,c,e1,e2=>by
  unfold cellsFrom at e1 e2
  by_cases k:(kind==fz)=true
  .rw[if_pos k]at e1 e2
   refine Ff r (n+1) _ (λx y c e1 e2=>?_) (λx c e=>?_) x y c e1 e2
   .rw[eh]at e1 e2
    cases wx:x==name with
    |true=>
     cases wy:y==name with
     |true=>rw[beq_iff_eq.mp wx,beq_iff_eq.mp wy]
     |false=>
      rw[wx]at e1;rw[wy]at e2;cases e1;exact absurd (hb y _ e2) (je _)
    |false=>
     cases wy:y==name with
     |true=>
      rw[wx]at e1;rw[wy]at e2;cases e2;exact absurd (hb x _ e1) (je _)
     |false=>
      rw[wx]at e1;rw[wy]at e2;exact hi x y c e1 e2
   .rw[eh]at e
    cases wx:x==name with
    |true=>
     rw[wx]at e;cases e;exact yd _
    |false=>
     rw[wx]at e;exact yf (hb x c e)
  .rw[if_neg k]at e1 e2
   exact Ff r n acc hi hb x y c e1 e2
theorem uH{n0:Nat}:∀(names:List (Str×gi))(n:Nat)(acc:List (Str×Addr))(x:Str),((∃c,acc.lookup x=some c/\n0<=c)\/(x,fz)∈names)->n0<=n->∃c,(cellsFrom n names acc).lookup x=some c/\n0<=c
 |[],n,acc,x,h,hn=>by
  rcases h with h |h
  .exact h
  .cases h
 |(name,kind)::r,n,acc,x,h,hn=>by
  unfold cellsFrom
  by_cases k:(kind==fz)=true
  .rw[if_pos k]
   refine uH r (n+1) _ x ?_ (yl hn);cases w:x==name with
   |true=>exact .inl ⟨n,by rw[eh,w],hn⟩
   |false=>
    rcases h with⟨c,h,z⟩|h
    .exact .inl ⟨c,by rw[eh,w];exact h,z⟩
    .rcases cq.mp h with z |z
     .cases z
      simp at w
     .exact .inr z
  .rw[if_neg k]
   refine uH r n acc x ?_ hn;rcases h with h |h
   .exact .inl h
   .rcases cq.mp h with z |z
    .cases z
     simp at k
    .exact .inr z
theorem Od{n0:Nat}:∀(names:List (Str×gi))(n:Nat)(acc:List (Str×Addr))(x:Str)(c:Addr),n0<=n->(cellsFrom n names acc).lookup x=some c->n0<=c\/acc.lookup x=some c
 |[],n,acc,x,c,hn,e=>.inr e
 |(name,kind)::r,n,acc,x,c,hn,e=>by
  unfold cellsFrom at e
  by_cases k:(kind==fz)=true
  .rw[if_pos k]at e
   rcases Od r (n+1) _ x c (yl hn) e with z |z
   .exact .inl z
   .rw[eh]at z
    cases w:x==name with
    |true=>
     rw[w]at z;cases z;exact .inl hn
    |false=>
     rw[w]at z;exact .inr z
  .rw[if_neg k]at e
   exact Od r n acc x c hn e
theorem xY:∀(names:List (Str×gi))(n:Nat)(acc:List (Str×Addr))(x:Str),(x,fz)∉names->(cellsFrom n names acc).lookup x=acc.lookup x
 |[],n,acc,x,h=>rfl
 |(name,kind)::r,n,acc,x,h=>by
  unfold cellsFrom;have hr:(x,fz)∉r:=λz=>h (bn _ z)
  by_cases k:(kind==fz)=true
  .rw[if_pos k,xY r _ _ x hr,eh]
   cases w:x==name with
   |true=>
    refine absurd ?_ h;have e1:x=name:=by simpa using w
    have e2:kind=.cell:=by simpa using k
    rw[e1,e2];exact bi
   |false=>rfl
  .rw[if_neg k,xY r _ _ x hr]
theorem Kd:∀(names:List (Str×gi))(h:Heap)(acc:List (Str×Addr)),(∀x c,acc.lookup x=some c->∃v,h.IsCell c v)->∀x c,(cellsFrom h.objs.size names acc).lookup x=some c->∃v,(pushCells h names).IsCell c v
 |[],h,acc,hc,x,c,e=>hc x c e
 |(name,kind)::r,h,acc,hc,x,c,e=>by
  unfold cellsFrom at e;unfold pushCells
  by_cases k:(kind==fz)=true
  .rw[if_pos k]at e⊢
   rw[<-jp h {cls:=.type "cell",data:=.cell none}]at e;refine Kd r _ _ (λy c e=>?_) x c e;rw[eh]at e;cases w:y==name with
   |true=>
    rw[w]at e;cases e;exact⟨none,_,df _ rfl,rfl⟩
   |false=>
    rw[w]at e;obtain⟨v,z⟩:=hc y c e;exact⟨v,z.keeps λb o e=>ay _ e⟩
  .rw[if_neg k]at e⊢
   exact Kd r h acc hc x c e
theorem Zj{env:bh}:∀{names:List (Str×gi)}{x:Str},
  (let l:=(names.map λ(n,k)=>if(k==gr&&env.scope.kind== .function&&env.kindOf n==some .cell)then(n,fz)else(n,k)).lookup x;l=some .cell\/l=some .free)->(x,gr)∈names\/(x,fz)∈names
 |[],x,h=>by
  rcases h with h |h<;>cases h
 |(n,k)::r,x,h=>by
  dsimp only at h;rw[aw]at h;have ih:=@Zj env r x
  by_cases c:(k==gr&&env.scope.kind== .function&&env.kindOf n==some .cell)=true
  .have kf:k=.free:=by
    simp only[ji,beq_iff_eq]at c;exact c.1.1
   dsimp only at h;rw[if_pos c,eh]at h;cases w:x==n with
   |true=>
    have hx:x=n:=by simpa using w
    rw[hx,<-kf];exact .inl bi
   |false=>
    rw[w]at h;exact(ih h).imp (bn _) (bn _)
  .dsimp only at h
   rw[if_neg c,eh]at h;cases w:x==n with
   |true=>
    rw[w]at h;have hx:x=n:=by simpa using w
    rcases h with h |h
    .have kf:k=.cell:=ce h
     rw[hx,<-kf];exact .inr bi
    .have kf:k=.free:=ce h
     rw[hx,<-kf];exact .inl bi
   |false=>
    rw[w]at h;exact(ih h).imp (bn _) (bn _)
theorem Ck{env:bh}:∀{names:List (Str×gi)}{x:Str},names.lookup x=some .cell->
  (names.map λ(n,k)=>if(k==gr&&env.scope.kind== .function&&env.kindOf n==some .cell)then(n,fz)else(n,k)).lookup x=some .cell
 |[],x,h=>by cases h
 |(n,k)::r,x,h=>by
  rw[aw];dsimp only;rw[eh]at h;cases w:x==n with
  |true=>
   rw[w]at h;have kf:k=.cell:=ce h;subst kf;rw[if_neg (by rw[show(fz==gr)=false from rfl];simp),eh,w]
  |false=>
   rw[w]at h;have ih:=@Ck env r x h
   by_cases c:(k==gr&&env.scope.kind== .function&&env.kindOf n==some .cell)=true
   .rw[if_pos c,eh,w]
    exact ih
   .rw[if_neg c,eh,w]
    exact ih
def iW(X:Cx)(sc:Scope)(N:List Str)(C:Addr)(BE:aa)(BF:Hp)(ex:List Addr):Cx where
 prog:=X.prog
 w:=X.w
 K:=X.K
 mg:=X.mg
 base:=X.base
 A:=X.A
 N:=N
 BE:=BE
 BF:=BF
 env:=compEnvC sc (cellsFrom (C+1) sc.names (gJ X.env sc.names [])) C X.env
 outer:=X.stack
 stack:=X.stack
 ex:=ex
 fn:=λx=>sc.names.lookup x==some .cell
 calm:=X.calm
 pn:=[]
 xe:=λ_ _=>False
structure oC(X:Cx)(sc:Scope)(own:List Str)(cap:List (Nat×Str)):Prop where
 kind:sc.kind=.function
 names:∀y∈sc.names,y.2=.local->sc.names.lookup y.1=some .local
 cells:∀y∈sc.names,y.2=.cell->sc.names.lookup y.1=some .cell
 free:∀y∈sc.names,y.2=.free->X.env.kindOf y.1=some .cell
 at':∀p∈cap,X.N[p.1]?=some p.2
 cap:∀p∈cap,sc.names.lookup p.2=some .free
section
variable{X:Cx}{sc:Scope}{own:List Str}{cap:List (Nat×Str)}{BD:List (Addr×Obj)}{σ:St}{H:Hp}{s:aa}{elt target iter:ah}{pos pos':ai}{wi:TI}{g:TG}{te:TE}{Q:VK}
theorem oC.has(k:oC X sc own cap)(ok:X.Ok):∀p∈sc.names,p.2=.free->∃c,X.env.cells.lookup p.1=some c:=λp hp e=>ok.has p.1 (.inl (k.free p hp e))
theorem aI.cmpC(k:oC X sc own cap){h4:Heap}{fp:List Addr}{t':Nat}(I:aI X BD σ H s)(hf:∀b∈fp,fS X BD H b)(hlt:∀b∈fp,b<s.heap.objs.size)
  (e4:h4=pushCells (s.heap.push {cls:=.type "dict",data:=.dict #[]}) sc.names):aI (iW X sc (cR own cap) s.heap.objs.size s H fp) [] (iY own cap σ) H {s with heap:=h4,toks:=t'}:=by
 have kp:∀b o,s.heap.get? b=some o->h4.get? b=some o:=λb o e=>by
  rw[e4];exact ym _ _ b o (ay _ e)
 have hns:h4.Ns s.heap.objs.size (λ_=>none):=by
  rw[e4];exact(Heap.Ns.new ..).keeps λb o e=>ym _ _ b o e
 have hcl:∀y c,(gJ X.env sc.names []).lookup y=some c->X.env.cells.lookup y=some c:=λy c e=>by
  rcases wC sc.names [] (k.has I.ok) y c e with z |z
  .cases z
  .exact z
 have clt:∀y c,X.env.cells.lookup y=some c->c<s.heap.objs.size:=λy c e=>by
  obtain⟨v,o,ho,_⟩:=I.cell y c e;exact bj ho
 have hfr:∀y c,(cellsFrom (s.heap.objs.size+1) sc.names (gJ X.env sc.names [])).lookup y=some c->s.heap.objs.size<c\/X.env.cells.lookup y=some c:=λy c e=>
  (Od (n0:=s.heap.objs.size+1) sc.names _ _ y c (ak _) e).imp (λz=>z) (hcl y c)
 have nst:∀b∈fp,b∉fF X.stack:=λb hb z=>by
  rcases cq.mp (I.stkSub b z)with e |e
  .exact(hf b hb).2.1 e
  .exact(hf b hb).2.2.1 e
 refine⟨⟨I.ok.mod,k.kind,I.ok.glob,I.ok.blt,ak _,λx y c h1 h2=>?_,λx hx=>?_,λx c hfn e=>?_,I.ok.hd,I.ok.frames,.inl rfl,λb hb=>⟨de (hlt b hb),λx c e=>?_⟩,
  I.bs,ft I.ok.bsz I.sz,λb o e hb=>?_,nst,I.stack,I.stkFree⟩,rfl,I.bare,Un.kept kp,⟨_,hns,λi x v h1 h2 h3=>?_⟩,λx c e=>?_,I.hok.fresh (ak _),λx c e=>?_,λp hp=>absurd (show p∈([]:List (Addr×Obj)) from hp) (by simp),I.hok.kept kp,?_⟩
 .exact Ff sc.names _ _ (λx y c h1 h2=>I.ok.inj x y c (hcl x c h1) (hcl y c h2)) (λx c e=>yf (clt x c (hcl x c e))) x y c h1 h2
 .rcases Zj hx with z |z
  .by_cases m:(x,fz)∈sc.names
   .obtain⟨c,e,_⟩:=uH (n0:=0) sc.names (s.heap.objs.size+1) (gJ X.env sc.names []) x (.inr m) (gn _)
    exact⟨c,e⟩
   .obtain⟨c,e⟩:=qP (env:=X.env) sc.names [] x (.inr z)
    exact⟨c,(xY sc.names _ _ x m).trans e⟩
  .obtain⟨c,e,_⟩:=uH (n0:=0) sc.names (s.heap.objs.size+1) (gJ X.env sc.names []) x (.inr z) (gn _)
   exact⟨c,e⟩
 .have hm:(x,fz)∈sc.names:=jy (by simpa[iW]using hfn)
  obtain⟨c',e',hc'⟩:=uH (n0:=s.heap.objs.size) sc.names (s.heap.objs.size+1) (gJ X.env sc.names []) x (.inr hm) (my _);have:=e'.symm.trans e;cases this;exact hc'
 .rcases hfr x c e with z |z
  .exact og (xk (hlt b hb) z)
  .exact(hf b hb).2.2.2.2.1 x c z
 .rcases(hf b hb).2.2.2.1 with z |z
  .exact I.ok.noex b o e z
  .exact absurd (dm (bj (I.ok.bs b o e).1) z) (je _)
 .have hN:(cR own cap)[i]?=some x:=h1
  unfold cR at hN;unfold iY at h2
  by_cases hi:i<own.length
  .rw[fx (by simpa using hi),bo]at h2
   cases e:own[i]? with
   |none=>rw[e]at h2;cases h2
   |some z=>rw[e]at h2;cases h2
  .rw[dz (by simpa using hi),bo,aj]at h2
   rw[dz (by omega),bo]at hN;cases e:cap[i-own.length]? with
   |none=>rw[e]at h2;cases h2
   |some p=>
    rw[e]at h2 hN;have hp:p∈cap:=dg e;have hx:p.2=x:=ce hN;have hv:(σ[p.1]?).join=some v:=ce h2;have hv':σ[p.1]?=some (some v):=by
     cases e2:σ[p.1]? with
     |none=>rw[e2]at hv;cases hv
     |some z=>rw[e2]at hv;exact congrArg some hv
    have fr:=k.cap p hp;have nc:(p.2,fz)∉sc.names:=λz=>by
     have:=k.cells _ z rfl;rw[fr]at this;cases this
    have kc:X.env.kindOf p.2=some .cell:=k.free (p.2,.free) (jy fr) rfl;obtain⟨m0,_,hl⟩:=I.loc;obtain⟨u,ru,lk⟩:=hl p.1 p.2 v (k.at' p hp) hv' (.inr (.inl kc));refine⟨u,ru,?_⟩;rcases lk with⟨k1,_⟩|⟨_,c,ec,cell⟩
    .rw[kc]at k1
     cases k1
    .rw[<-hx]
     obtain⟨c',ec'⟩:=qP (env:=X.env) sc.names [] p.2 (.inr (jy fr));have:=(hcl _ _ ec').symm.trans ec;cases this;obtain⟨o,ho,hd⟩:=cell;exact .inr ⟨.inl (sV I.ok.kind fr kc),c,(xY sc.names _ _ p.2 nc).trans ec',o,kp c o ho,hd⟩
 .show ∃v,h4.IsCell c v
  rw[e4];refine Kd sc.names _ (gJ X.env sc.names []) (λy c e=>?_) x c (by rw[jp];exact e);obtain⟨v,z⟩:=I.cell y c (hcl y c e);exact⟨v,z.keeps λb o e=>ay _ e⟩
 .rcases hfr x c e with z |z
  .exact I.hok.fresh (qc z)
  .exact I.freeC x c z
 .unfold iY
  show _=(cR own cap).length;unfold cR;rw[av,av,aj,aj,aj]
theorem aI.uncmpC{s3 s':aa}{H3 H':Hp}{N:List Str}{σ':St}{C:Addr}{fp:List Addr}{pl:List (Addr×Obj)}(I:aI X BD σ H s)(hf:∀b∈fp,fS X BD H b)(u:Un (fF X.stack) fp H H3 s.heap s3.heap)(os:s3.os=s.os)
  (J:aI (iW X sc N C s3 H3 fp) pl σ' H' s'):aI X BD σ H' s':=by
 have os':s'.os=s.os:=(show s'.os=s3.os from J.os).trans os;refine I.call' (ch:=fp) os' (u.trans J.base) J.hok J.bare λb hb=>?_;obtain⟨_,f1,_,f3,f4,f5⟩:=hf b hb;exact⟨f3,f1,f4,f5⟩
theorem Hz{use:Option (Value->Sem Unit)}{Qf:Value->aa->Prop}(k:oC X sc own cap)(hi:PI X target iter wi)(hc:X.calm=true)
  (hg:∀C BE BF ex,PG (iW X sc (cR own cap) C BE BF ex) target g)(he:∀C BE BF ex,PE (iW X sc (cR own cap) C BE BF ex) elt te)(I:aI X BD σ H s)(h:uT own cap wi g te σ H Q)
  (fin:∀D C s' H' m,aI X BD σ H' s'->fS X BD H' C->s'.heap.Ns C m->Q (.ref D) H'->compPost (model X.prog X.w) X.A X.xe use Qf (.ref D) C (.ok .next) s')
  (hs:∀x,foldedSetIterable iter X.env x=pure x):
  wpAny (model X.prog X.w) X.A (comprehension (.ListComp elt [⟨target,iter,[],0⟩] sc pos) sc X.env pos' (newList []) false (eval iter X.env) use) Qf X.xe s:=by
 refine xn (use:=use) rfl hs (Pe (k.has I.ok)) k.kind k.names ?_;refine bK (hi BD s σ H _ I h) λv s1 h1=>bK h1 λitv s2 h2=>?_;obtain⟨it,fp,tn,J,H2,e,I2,T,st2,f2,hW⟩:=h2;subst e;refine iu (Oy ?_);have hsz:(s2.heap.push {cls:=.type "list",data:=.seq ([]:AU).toArray}).objs.size=s2.heap.objs.size+1:=jp ..;have I3:aI X BD σ (aW H2 s2.heap.objs.size (.lst [])) {s2 with heap:=s2.heap.push {cls:=.type "list",data:=.seq ([]:AU).toArray},toks:=s2.toks}:=I2.lnew (ys:=[]) (its:=[]) .nil (gn _);have hD:H2 s2.heap.objs.size=none:=I2.fresh;have ltf:∀b∈fp,b<s2.heap.objs.size:=λb hb=>by
  obtain⟨o,ho,_⟩:=T.obj _ _ st2 b hb;exact bj ho
 have f3:∀b∈fp,fS X BD (aW H2 s2.heap.objs.size (.lst [])) b:=λb hb=>⟨by rw[bT (de (ltf b hb))];exact(f2 b hb).1,(f2 b hb).2⟩;have un:Un (fF X.stack) fp H2 (aW H2 s2.heap.objs.size (.lst [])) s2.heap (s2.heap.push {cls:=.type "list",data:=.seq ([]:AU).toArray}):=Un.laid (λb u q=>ay _ q) (ak _) hD;have kp:∀b o,(s2.heap.push {cls:=.type "list",data:=.seq ([]:AU).toArray}).get? b=some o->(pushCells ((s2.heap.push {cls:=.type "list",data:=.seq ([]:AU).toArray}).push {cls:=.type "dict",data:=.dict #[]}) sc.names).get? b=some o:=λb o q=>ym _ _ b o (ay _ q);have J0:=I3.cmpC (t':=s2.toks) k f3 (λb hb=>dm (ltf b hb) (by rw[jp];exact my _)) rfl;have stat:∀{H':Hp},(∀b∈fp,H' b=none)->∀b∈fp,fS (iW X sc (cR own cap) (s2.heap.push {cls:=.type "list",data:=.seq ([]:AU).toArray}).objs.size {s2 with heap:=s2.heap.push {cls:=.type "list",data:=.seq ([]:AU).toArray},toks:=s2.toks} (aW H2 s2.heap.objs.size (.lst [])) fp) [] H' b:=λhn b hb=>
  ⟨hn b hb,(J0.ok.exf b hb).1,J0.ok.exfs b hb,.inl hb,(J0.ok.exf b hb).2,λp hp=>absurd (show p∈([]:List (Addr×Obj)) from hp) (by simp)⟩
 have st4:tn 0 (pushCells ((s2.heap.push {cls:=.type "list",data:=.seq ([]:AU).toArray}).push {cls:=.type "dict",data:=.dict #[]}) sc.names):=T.keep _ _ _ st2 λb hb o q=>kp b o (ay _ q);have fr0:∀b∈fp,(aW H2 s2.heap.objs.size (.lst [])) b=none:=λb hb=>(f3 b hb).1;have loop:codeAny (model X.prog X.w) X.A (.compLoop (.ListComp elt [⟨target,iter,[],0⟩] sc pos) 0 (.ref it) (.ref s2.heap.objs.size) (compEnvC sc (cellsFrom ((s2.heap.push {cls:=.type "list",data:=.seq ([]:AU).toArray}).objs.size+1) sc.names (gJ X.env sc.names [])) (s2.heap.push {cls:=.type "list",data:=.seq ([]:AU).toArray}).objs.size X.env))
   (compPost (model X.prog X.w) X.A X.xe use Qf (.ref s2.heap.objs.size) (s2.heap.push {cls:=.type "list",data:=.seq ([]:AU).toArray}).objs.size) {s2 with heap:=(pushCells ((s2.heap.push {cls:=.type "list",data:=.seq ([]:AU).toArray}).push {cls:=.type "dict",data:=.dict #[]}) sc.names),toks:=s2.toks}:=by
  obtain⟨W,⟨m0,w0⟩,turn⟩:=hW s2.heap.objs.size hD;refine Sl (λn s'=>∃i σ' H' ys,aI (iW X sc (cR own cap) (s2.heap.push {cls:=.type "list",data:=.seq ([]:AU).toArray}).objs.size {s2 with heap:=s2.heap.push {cls:=.type "list",data:=.seq ([]:AU).toArray},toks:=s2.toks} (aW H2 s2.heap.objs.size (.lst [])) fp) [] σ' H' s'/\tn i s'.heap/\(∀b∈fp,H' b=none)/\W i n σ' H' ys) ?_ m0
   ⟨0,_,_,[],J0,st4,fr0,w0⟩
  rintro n s5 ⟨i,σ5,H5,ys,I5,st5,fr5,w5⟩
  obtain⟨hD5,w5⟩:=turn i n σ5 H5 ys w5;rcases w5 with⟨stop,qn⟩|⟨go,hlt,step⟩
  .refine bK (T.done (iW X sc (cR own cap) (s2.heap.push {cls:=.type "list",data:=.seq ([]:AU).toArray}).objs.size {s2 with heap:=s2.heap.push {cls:=.type "list",data:=.seq ([]:AU).toArray},toks:=s2.toks} (aW H2 s2.heap.objs.size (.lst [])) fp) rfl rfl rfl hc i [] s5 σ5 H5 _ I5 (stat fr5) st5 stop) ?_
   rintro r s6 ⟨hr,I6⟩
   subst hr;obtain⟨m,hn,_⟩:=id I6.loc;exact fin _ _ s6 H5 m (I2.uncmpC (s3:={s2 with heap:=s2.heap.push {cls:=.type "list",data:=.seq ([]:AU).toArray},toks:=s2.toks}) f2 un rfl I6) (I3.fpOk (ak _) I6.free) hn qn
  .refine bK (T.item (iW X sc (cR own cap) (s2.heap.push {cls:=.type "list",data:=.seq ([]:AU).toArray}).objs.size {s2 with heap:=s2.heap.push {cls:=.type "list",data:=.seq ([]:AU).toArray},toks:=s2.toks} (aW H2 s2.heap.objs.size (.lst [])) fp) rfl rfl rfl hc i [] s5 σ5 H5 _ I5 (stat fr5) st5 go) ?_
   rintro r s6 ⟨u,hr,h6⟩
   subst hr;refine bK h6 ?_
   rintro _ s7 ⟨x,H7,I7,r7,y7,st7,fr7⟩
   have I7':=I7.pinned (stat fr7) (T.obj _ _ st7);refine bK (hg _ _ _ _ _ s7 σ5 H7 x u _ I7' r7 (step x H7 y7)) ?_
   rintro _ s8 ⟨σ8,H8,I8,q8⟩
   refine bK (he _ _ _ _ _ s8 σ8 H8 _ I8 q8) ?_
   rintro v9 s9 ⟨y,H9,I9,r9,hD9,m',hm,w9⟩
   refine bK (tD _ s9 σ8 H9 (.ref s2.heap.objs.size) [y] (.ref s2.heap.objs.size) [v9] (λ_ H'=>H'=aW H9 s2.heap.objs.size (.lst (ys++[y]))) I9 rfl (.cons r9 .nil) ⟨_,ys,y,rfl,rfl,hD9,hlt,rfl⟩) ?_
   rintro _ s10 ⟨_,H10,I10,_,q10⟩
   subst q10;refine⟨m',hm,i+1,σ8,_,_,I10.unpinned,T.keep _ _ _ st7 λb hb o q=>(I10.pin (b,o) (dk _ (dk _ (lV hb q)))).1,λb hb=>?_,w9⟩;obtain⟨o,q,d⟩:=T.obj _ _ st7 b hb;exact(I10.pin (b,o) (dk _ (dk _ (lV hb q)))).2.1
 exact xo loop (T.self _ 0 _ _ _ st4 loop)
theorem P9(k:oC X sc own cap)(hi:PI X target iter wi)(hc:X.calm=true)
  (hg:∀C BE BF ex,PG (iW X sc (cR own cap) C BE BF ex) target g)(he:∀C BE BF ex,PE (iW X sc (cR own cap) C BE BF ex) elt te)
  (hs:∀x,foldedSetIterable iter X.env x=pure x:=by intro _;rfl):PE X (.ListComp elt [⟨target,iter,[],0⟩] sc pos) (uT own cap wi g te):=by
 intro BD s σ H Q I h;rw[xp];refine Hz (use:=none) k hi hc hg he I h (λD C s' H' m I' fC hn q=>?_) hs;refine⟨m,hn,λh' sb=>⟨.ref D,H',?_,rfl,q⟩⟩;obtain⟨f0,f1,f2,f3,f4,f5⟩:=fC;exact I'.turned (t':=s'.toks) (λb o hb e=>(sb.2 b hb).trans e) f0 f1 f3 f4 f5
theorem abv{X:Cx}{sc:Scope}{own:List Str}{cap:List (Nat×Str)}(so:Scope)(N:List Str)(hso:X.env.scope=so)(hN:X.N=N)(kind:sc.kind=.function)(names:∀y∈sc.names,y.2=.local->sc.names.lookup y.1=some .local)
  (cells:∀y∈sc.names,y.2=.cell->sc.names.lookup y.1=some .cell)(free:∀y∈sc.names,y.2=.free->so.names.lookup y.1=some .cell)(at':∀p∈cap,N[p.1]?=some p.2)(hcap:∀p∈cap,sc.names.lookup p.2=some .free):oC X sc own cap:=
 ⟨kind,names,cells,λy hy e=>by show X.env.scope.names.lookup y.1=_;rw[hso];exact free y hy e,λp hp=>by rw[hN];exact at' p hp,hcap⟩
theorem aaM{X:Cx}{sc1 sc:Scope}{own1 own:List Str}{cap1 cap:List (Nat×Str)}{C:Addr}{BE:aa}{BF:Hp}{ex:List Addr}(so:Scope)(hso:X.env.scope=so)(hk:so.kind=.function)(kind:sc.kind=.function)(names:∀y∈sc.names,y.2=.local->sc.names.lookup y.1=some .local)
  (nocell:∀y∈sc.names,y.2≠.cell)(free:∀y∈sc.names,y.2=.free->sc1.names.lookup y.1=some .cell\/(sc1.names.lookup y.1=some .free/\so.names.lookup y.1=some .cell))(at':∀p∈cap,(cR own1 cap1)[p.1]?=some p.2)(hcap:∀p∈cap,sc.names.lookup p.2=some .free):
  iA (iW X sc1 (cR own1 cap1) C BE BF ex) sc own cap:=
 ⟨kind,names,nocell,λy hy e=>by
  rcases free y hy e with f |⟨f1,f2⟩
  .exact Ck (env:=X.env) f
  .exact sV (env:=X.env) (by rw[hso];exact hk) f1 (by show X.env.scope.names.lookup y.1=_;rw[hso];exact f2),at',hcap⟩
end
end L2
namespace L2.Pp
open PySem PySem.Spec PyProof.Rows Bn
section
variable{K:ag}{cl:Str->Addr}{E:XK}{X:Cx}{p q:Ph}{H H':Hp}{S:aH}
variable{sc:Scope}{own:List Str}{cap:List (Nat×Str)}{elt target iter:ah}{pos:ai}{mi:MI}{g:GM}{me:ME}
theorem M5(k:oC X sc own cap)(hi:iU K cl E X target iter mi)(hc:X.calm=true)(hg:∀C BE BF ex,lM K (iW X sc (cR own cap) C BE BF ex) target g)(he:∀C BE BF ex,aU K cl E0 (iW X sc (cR own cap) C BE BF ex) elt me)
  (hs:∀x,foldedSetIterable iter X.env x=pure x:=by intro _;rfl):aU K cl E X (.ListComp elt [⟨target,iter,[],0⟩] sc pos) (bF own cap mi g me):=by
 intro hK;refine PE.imp (P9 k (hi hK) hc (λC BE BF ex=>hg C BE BF ex hK) (λC BE BF ex=>he C BE BF ex hK) hs) ?_
 rintro σ H Q ⟨p,S,ρ,s,ev,h⟩
 exact cO s ev h λq H' xs J S' stp sm ev it kk D hD=>Xb sm ev it kk hD
end
noncomputable section
open PySem PySem.Spec PyProof.Rows Bn
def zG(k:Nat)(S:aH):Prop:=∀(j:Nat)(o:SO),S[j]?=some o->j≠k->∃xs,o=.lst xs
def Pl(S:aH):Prop:=∀(j:Nat)(o:SO),S[j]?=some o->∃xs,o=.lst xs
section
variable{K:ag}{cl:Str->Addr}{E:XK}{X:Cx}{a e:ah}{m:ME}{ms:MA}{pos:ai}{p q:Ph}{H H':Hp}{S:aH}
theorem aX.pushO(s:aX K p S H){D:Addr}{o:SO}{ho:HO}(h:H D=none)(mo:Mb ho)(ob:oM K ⟨p.f++[D],λa=>p.w a\/a=D,λa=>p.c a\/a=D⟩ (aW H D ho) D o):
  let q:Ph:=⟨p.f++[D],λa=>p.w a\/a=D,λa=>p.c a\/a=D⟩
  bQ p H q (aW H D ho)/\aX K q (S++[o]) (aW H D ho):=by
 intro q;obtain⟨st0,sm0⟩:=s.res (D:=D) (o:=ho) h mo;have nf0:D∉p.f:=λz=>s.notin h (s.wc D (s.sub D z));refine⟨⟨st0.wc,st0.mu,⟨[D],rfl⟩,st0.mw,st0.mono,λa x n=>?_,st0.nw,st0.nc,st0.keep⟩,?_,by simp[q,s.len],λa x=>?_,sm0.wc,sm0.mu,λk a u e1 e2=>?_⟩
 .rcases cj.mp x with z |z
  .exact absurd z n
  .have:a=D:=by simpa using z
   rw[this];exact h
 .show(p.f++[D]).Nodup
  rw[qp];refine⟨s.nd,by simp,λa ha b hb z=>?_⟩;have:b=D:=by simpa using hb
  exact nf0 (this▸z▸ha)
 .rcases cj.mp x with z |z
  .exact .inl (s.sub a z)
  .exact .inr (by simpa using z)
 .by_cases hk:k<S.length
  .have e1':p.f[k]?=some a:=by
    have e1:(p.f++[D])[k]?=some a:=e1
    rwa[fx (by rw[s.len];exact hk)]at e1
   rw[fx hk]at e2;refine(s.obj k a u e1' e2).mono (λvs e=>by rw[bT (gD e h)];exact e) (λb w f=>⟨⟨.inl w,λm=>?_⟩,λvs e=>by rw[bT (gD e h)];exact e⟩) λ_ _ r=>st0.reps r;rcases cj.mp m with z |z
   .exact f z
   .have:b=D:=by simpa using z
    exact s.notin h (this▸s.wc b w)
  .have hk':k=S.length:=by
    have:=(br.mp e2).1;simp at this;omega
   subst hk';rw[dz (ak _),ie]at e2;have e1:(p.f++[D])[S.length]?=some a:=e1;rw[<-s.len,dz (ak _),ie]at e1;cases e1;cases e2;exact ob
def Ug(xs:BC)(S:aH):bP AV:=match(gK S xs).bind kJ with
 |some (.lst vs)=>.ok (.ref S.length) (S++[.lol [vs]])
 |_=>.fail
def vE(ms:MA):ME:=λρ S=>(ms ρ S).bind Ug
theorem Hr{as:BC}{xs:List V}{vs:AZ}(s:aX K p S H)(r:gL K p H as xs)(h:(gK S as).bind kJ=some (.lst vs)):
  ∃b ws,xs=[.ref b]/\(cK K H b ws\/dP K H b ws)/\ws.length<=sizeLine/\aS K p.c H vs ws:=by
 cases z:gK S as with
 |none=>rw[z]at h;cases h
 |some us=>
  rw[z]at h;have rr:=tE s r z;cases rr with
  |nil=>cases h
  |cons g t=>
   rename_i u x ut xt;cases t with
   |cons _ _=>cases u<;>cases h
   |nil=>
    cases u with
    |lst ws=>
     cases h;obtain⟨a,ws,rfl,l,z,r⟩:=g.lst;exact⟨a,ws,rfl,.inl l,z,r⟩
    |tup ws=>
     cases h;obtain⟨a,ws,rfl,l,z,r⟩:=g.tup;exact⟨a,ws,rfl,.inr l,z,r⟩
    |_=>cases h
theorem ac6{x:Str}{p lp:ai}(hx:x="list")(hg:Gl X "list")(hm:X.mg "list"=none)(ha:eT K cl E X [e] ms)(he:starEach [e] X.env=[(false,eval e X.env)]:=by rfl)
  (hs:starEach [.Call (.Name x p) [e] [] pos] X.env=[(false,eval (.Call (.Name x p) [e] [] pos) X.env)]:=by rfl):aU K cl E X (.List [.Call (.Name x p) [e] [] pos] lp) (vE ms):=by
 intro hK;subst hK hx;refine PE.imp (Wf (pG (tH vQ hg hm (by decide+kernel) (ha rfl) (by decide) (by decide) he rfl) rJ hs)) ?_
 rintro σ H Q ⟨p,S,ρ,s,ev,h⟩
 refine cO s ev h λq H1 as xs S1 st s1 e1 r1 h1=>?_;unfold Ug at h1;split at h1
 .rename_i vs hv
  obtain⟨b,ws,rfl,sq,hl,r⟩:=Hr s1 r1 hv;refine⟨b,ws,rfl,sq,λl hn=>⟨by show 1<=sizeLine;decide,λt ht=>?_⟩⟩;obtain⟨st2,sm2⟩:=s1.res (D:=l) (o:=.lst ws) hn trivial;have ne:l≠t:=λz=>by rw[<-z,fH]at ht;cases ht
  have nf:l∉q.f:=λz=>s1.notin hn (s1.wc l (s1.sub l z));have eM:=(sm2.res (D:=t) (o:=.lst [.ref l]) ht trivial).1;have ob:oM X.K ⟨(q.res l).f++[t],λa=>(q.res l).w a\/a=t,λa=>(q.res l).c a\/a=t⟩ (aW (aW H1 l (.lst ws)) t (.lst [.ref l])) t (.lol [vs]):=by
   refine⟨[l],fH,by show 1<=sizeLine;decide,by simp,λc hc=>?_,rfl,λi ys c e1 e2=>?_⟩
   .have:c=l:=by simpa using hc
    subst this;refine⟨.inl (.inr rfl),λm=>?_⟩;rcases cj.mp m with z |z
    .exact nf z
    .exact ne (by simpa using z)
   .cases i with
    |zero=>
     cases e1;cases e2;exact⟨ws,by rw[bT ne,fH],hl,eM.reps (st2.reps r)⟩
    |succ i=>simp at e1
  obtain⟨st4,sm4⟩:=sm2.pushO (D:=t) (ho:=.lst [.ref l]) ht trivial ob;exact h1 _ _ (.ref t) (st2.trans st4) sm4 ⟨t,by show(q.f++[t])[S1.length]?=some t;rw[<-s1.len,dz (ak _),ie];rfl,rfl⟩
 .exact h1.elim
def vA(k:Nat)(ys:BC)(S:aH):bP AV:=match(gK S ys).bind kJ,S[k]? with
 |some (.lst vs),some (.lol xss)=>if xss.length<16777216 then .ok (.pv .non) (S.set k (.lol (xss++[vs])))else .fail
 |_,_=>.fail
def uU(m:ME)(ms:MA):ME:=λρ S=>(m ρ S).bind λk S1=>fB k S1 λk=>(ms ρ S1).bind λys S2=>vA k ys S2
theorem aX.growL(s:aX K p S H){k:Nat}{D l:Addr}{xss:List AZ}{bs:List Addr}{ys:AZ}{ws:List V}(h:p.f[k]?=some D)(hS:S[k]?=some (.lol xss))(hn:H l=none)(hl:ws.length<=sizeLine)(r:aS K p.c H ys ws)(hH:H D=some (.lst (bs.map V.ref)))(hz:bs.length<sizeLine):
  bQ p H (p.res l) (aW (aW H l (.lst ws)) D (.lst ((bs++[l]).map V.ref)))/\aX K (p.res l) (S.set k (.lol (xss++[ys]))) (aW (aW H l (.lst ws)) D (.lst ((bs++[l]).map V.ref))):=by
 obtain⟨st2,sm2⟩:=s.res (D:=l) (o:=.lst ws) hn trivial;have hk:k<S.length:=(br.mp hS).1;have mD:D∈p.f:=dg h;have w:(p.res l).w D:=.inl (s.sub D mD);have neD:D≠l:=λz=>by rw[z,hn]at hH;cases hH
 have nl:l∉p.f:=λz=>s.notin hn (s.wc l (s.sub l z));have eM:bQ (p.res l) (aW H l (.lst ws)) (p.res l) (aW (aW H l (.lst ws)) D (.lst ((bs++[l]).map V.ref))):=⟨sm2.wc,sm2.mu,kh,λ_ h=>h,λ_ h=>h,λ_ h g=>absurd h g,λ_ h g=>absurd h g,λ_ h g=>absurd h g,λa u e nw=>by
  rw[bT (λz:a=D=>nw (by rw[z];exact w))];exact e⟩
 refine⟨st2.trans eM,sm2.nd,by rw[fk];exact sm2.len,sm2.sub,sm2.wc,λa x=>?_,λj a o e1 e2=>?_⟩
 .by_cases z:a=D
  .rw[z,fH]
   exact⟨_,rfl,trivial⟩
  .rw[bT z]
   exact sm2.mu a x
 .by_cases hj:k=j
  .subst hj
   have e1:p.f[k]?=some a:=e1;rw[h]at e1;cases e1;rw[dj hk]at e2;cases e2;obtain⟨cs,g1,g2,g3,g4,g5,g6⟩:=s.obj k D _ h hS;rw[hH]at g1;have ec:bs=cs:=by
    have:=congrArg (λo=>match o with |some (HO.lst v)=>v |_=>[]) g1
    have:bs.map V.ref=cs.map V.ref:=this;exact o7 (λx y h=>by cases h;rfl) |>.mp this
   subst ec;have nb:∀b∈bs,b≠l:=λb hb z=>s.notin hn (z▸s.wc b (g4 b hb).1);refine⟨bs++[l],fH,by rw[av];exact hz,?_,λb hb=>?_,by rw[av,av,g5];rfl,λi xs b e1 e2=>?_⟩
   .rw[qp]
    exact⟨g3,by simp,λx hx y hy z=>nb x hx (by rw[z];simpa using hy)⟩
   .rcases cj.mp hb with z |z
    .exact⟨.inl (g4 b z).1,(g4 b z).2⟩
    .have:b=l:=by simpa using z
     subst this;exact⟨.inr rfl,nl⟩
   .by_cases hi:i<bs.length
    .rw[fx hi]at e2
     rw[fx (by rw[g5];exact hi)]at e1;obtain⟨vs,h1,h2,h3⟩:=g6 i xs b e1 e2;have hb:=g4 b (dg e2);exact⟨vs,by rw[bT (λz:b=D=>hb.2 (z▸mD)),bT (nb b (dg e2))];exact h1,h2,eM.reps (st2.reps h3)⟩
    .have hi':i=bs.length:=by
      have:=(br.mp e2).1;rw[av]at this;have:i<bs.length+1:=this;omega
     subst hi';rw[dz (ak _),ie]at e2;rw[<-g5,dz (ak _),ie]at e1;cases e1;cases e2;exact⟨ws,by rw[bT (ik neD),fH],hl,eM.reps (st2.reps r)⟩
  .rw[fj hj]at e2
   have ne:a≠D:=λq=>hj (qQ s.nd h (q▸e1));exact(sm2.obj j a o e1 e2).mono (λvs e=>by rw[bT ne];exact e) (λb w f=>⟨⟨w,f⟩,λvs e=>by rw[bT (λz:b=D=>f (z▸mD))];exact e⟩) λ_ _ r=>eM.reps r
theorem aaC{x:Str}{p apos cpos:ai}(hx:x="list")(hg:Gl X "list")(hm:X.mg "list"=none)(ho:aU K cl E X a m)(ha:eT K cl E X [e] ms)(hbase:attributeBase a "append" X.env (eval a X.env)=eval a X.env:=by rfl)
  (hfew:((backTo cpos (starEach [.Call (.Name x p) [e] [] pos] X.env)).all (λx=>!x.1)&&(backToKw cpos (keywordEach [] X.env)).all (λx=>x.1.isSome)&&decide (([.Call (.Name x p) [e] [] pos]:List ah).length+([]:List jg).length+(if([]:List jg).isEmpty then 0 else 1)<30))=true:=by rfl)
  (hline:(apos.endLine==cpos.line)=true:=by rfl)(he:starEach [e] X.env=[(false,eval e X.env)]:=by rfl)(hs:starEach [.Call (.Name x p) [e] [] pos] X.env=[(false,eval (.Call (.Name x p) [e] [] pos) X.env)]:=by rfl):
  aU K cl E X (.Call (.Attribute a "append" apos) [.Call (.Name x p) [e] [] pos] [] cpos) (uU m ms):=by
 intro hK;subst hK hx;refine PE.imp (Og ye xc o4 tD (ho rfl) (pG (tH vQ hg hm (by decide+kernel) (ha rfl) (by decide) (by decide) he rfl) rJ hs) hbase hfew hline hs rfl) ?_
 rintro σ H Q ⟨p,S,ρ,s,ev,h⟩
 refine cO s ev h λq H1 k x S1 st s1 e1 r1 h1=>?_;cases k with
 |pv v=>exact h1.elim
 |ref k=>
  have h1:bY X.K cl (cD X.K) q H1 (fB (.ref k) S1 λk=>(ms ρ S1).bind λys S2=>vA k ys S2) Q E:=h1;rcases wO k S1 (λk=>(ms ρ S1).bind λys S2=>vA k ys S2)with z |⟨z,n1,n2⟩
  .rw[z]at h1
   exact h1.elim
  rw[z]at h1;refine⟨Wd s1 r1 n1 n2,cO s1 e1 h1 λq2 H2 ys xs S2 st2 s2 e2 r2 h2=>?_⟩;obtain⟨a,ea,rfl⟩:=st2.repA r1;unfold vA at h2;split at h2
  .rename_i vs xss hv hS
   obtain⟨b,ws,rfl,sq,hl,r⟩:=Hr s2 r2 hv;split at h2
   .rename_i hz
    refine⟨b,ws,rfl,sq,λl hn=>?_⟩;obtain⟨bs,g1,g2,g3,g4,g5,g6⟩:=s2.obj k a _ ea hS;have hzz:=jF;have neA:a≠l:=λz=>by rw[z,hn]at g1;cases g1
    obtain⟨eM,sm3⟩:=s2.growL ea hS hn hl r g1 (by rw[<-g5];omega);refine⟨a,bs.map V.ref,.ref l,rfl,rfl,by rw[bT neA];exact g1,by rw[aj,<-g5];omega,?_⟩;have:=h2 _ _ .non eM sm3 (by show aT X.K (q2.res l).c (aW (aW H2 l (.lst ws)) a (.lst ((bs++[l]).map V.ref))) .non .non;exact jH (v:=.non) rfl);rw[du]at this;exact this
   .exact h2.elim
  .exact h2.elim
def yL(m:Int)(xs:AZ):Option AZ:=match aY xs.length m with
 |some j=>match xs[j]? with
  |some (.int v)=>some (xs.set j (.int (1-v)))
  |_=>none
 |none=>none
def rR(m:Int):List AZ->Option (List AZ)
 |[]=>some []
 |xs::r=>match yL m xs,rR m r with
  |some y,some ys=>some (y::ys)
  |_,_=>none
theorem Xl{m:Int}:∀{xss yss:List AZ},rR m xss=some yss->xss.length=yss.length/\∀(i:Nat)(xs:AZ),xss[i]?=some xs->∃ys:AZ,yss[i]?=some ys/\yL m xs=some ys
 |[],yss,e=>by
  cases e;exact⟨rfl,λi xs h=>by simp at h⟩
 |xs::r,yss,e=>by
  unfold rR at e;split at e
  .rename_i y ys h1 h2
   cases e;obtain⟨l,g⟩:=Xl h2;refine⟨by rw[cv,cv,l],λi zs h=>?_⟩;cases i with
   |zero=>
    cases h;exact⟨y,rfl,h1⟩
   |succ i=>simpa using g i zs (by simpa using h)
  .cases e
open Classical in
def pU(ics ic im:Nat):MS:=λρ S=>match ρ[ics]?,ρ[im]? with
 |some (some (.ref k)),some (some (.pv (.int m)))=>match S[k]? with
  |some (.lol xss)=>if zG k S/\ic<ρ.length then(match rR m xss with
   |some yss=>.nx (ρ.set ic none) (S.set k (.lol yss))
   |none=>.fail)else .fail
  |_=>.fail
 |_,_=>.fail
theorem aX.inner(s:aX K p S H){k i:Nat}{D b:Addr}{xss:List AZ}{bs:List Addr}{ys:AZ}{ws:List V}(h:p.f[k]?=some D)(hS:S[k]?=some (.lol xss))(pl:zG k S)(hH:H D=some (.lst (bs.map V.ref)))(hb:bs[i]?=some b)(hl:ws.length<=sizeLine)(r:aS K p.c H ys ws):
  bQ p H p (aW H b (.lst ws))/\aX K p (S.set k (.lol (xss.set i ys))) (aW H b (.lst ws)):=by
 have hk:k<S.length:=(br.mp hS).1;have mD:D∈p.f:=dg h;obtain⟨cs,g1,g2,g3,g4,g5,g6⟩:=s.obj k D _ h hS;rw[hH]at g1;have ec:bs=cs:=by
  have:=congrArg (λo=>match o with |some (HO.lst v)=>v |_=>[]) g1
  have:bs.map V.ref=cs.map V.ref:=this;exact o7 (λx y h=>by cases h;rfl) |>.mp this
 subst ec;have wb:=g4 b (dg hb);have st:bQ p H p (aW H b (.lst ws)):=⟨s.wc,s.mu,kh,λ_ h=>h,λ_ h=>h,λ_ h g=>absurd h g,λ_ h g=>absurd h g,λ_ h g=>absurd h g,λa u e nw=>by
  rw[bT (λz:a=b=>nw (by rw[z];exact wb.1))];exact e⟩
 refine⟨st,s.nd,by rw[fk];exact s.len,s.sub,s.wc,λa x=>?_,λj a o e1 e2=>?_⟩
 .by_cases z:a=b
  .rw[z,fH]
   exact⟨_,rfl,trivial⟩
  .rw[bT z]
   exact s.mu a x
 .have ne:a≠b:=λz=>wb.2 (z▸dg e1)
  by_cases hj:k=j
  .subst hj
   rw[h]at e1;cases e1;rw[dj hk]at e2;cases e2;refine⟨bs,by rw[bT ne];exact hH,g2,g3,g4,by rw[fk];exact g5,λi' xs c e1 e2=>?_⟩
   by_cases hi:i=i'
   .subst hi
    rw[hb]at e2;cases e2;have hx:i<xss.length:=by
     rw[g5];exact(br.mp hb).1
    rw[dj hx]at e1;cases e1;exact⟨ws,fH,hl,st.reps r⟩
   .rw[fj hi]at e1
    obtain⟨vs,h1,h2,h3⟩:=g6 i' xs c e1 e2;exact⟨vs,by rw[bT (λz:c=b=>hi (qQ g3 hb (z▸e2)))];exact h1,h2,st.reps h3⟩
  .rw[fj hj]at e2
   obtain⟨xs,rfl⟩:=pl j o e2 (ik hj);obtain⟨vs,e,l,g⟩:=s.obj j a _ e1 e2;exact⟨vs,by rw[bT ne];exact e,l,st.reps g⟩
theorem U6{α:Type}{ys xs:List α}{i:Nat}{y:α}(l:xs.length=ys.length)(h:ys[i]?=some y):(ys.take i++xs.drop i).set i y=ys.take (i+1)++xs.drop (i+1):=by
 have hi:i<ys.length:=(br.mp h).1;have hx:i<xs.length:=by omega
 have e:ys[i]=y:=(br.mp h).2;rw[ui hx,List.set_append,if_neg (by rw[kl];omega),kl,um (qc hi),ie,dn,List.take_succ_eq_append_getElem hi,e,ix];rfl
theorem Dp{α:Type}{l:List α}{i:Nat}{a b:α}:(l.set i a).set i b=l.set i b:=by simp
theorem aaP{ics ic im:Nat}{c cs mm:Str}{p1 p2 p3 p4 p5 p6 p7 p8 p9 apos:ai}{j:Nat}(hp:qg (model X.prog X.w) X.A X.env X.xe)(hc:X.calm=true)(hN:X.N.Nodup)(h1:X.N[ics]?=some cs)(h2:X.N[ic]?=some c)(h3:X.N[im]?=some mm)
  (v1:qD X.env.scope cs)(v2:nM X.env.scope c)(v3:qD X.env.scope mm)(ne1:ics≠ic)(ne2:im≠ic)
  (ha:∀v,assign (.Subscript (.Name c p3) (.Name mm p4) p5) X.env v=(do
   let ov <-holding [v] (eval (.Name c p3) X.env)
   let iv <-holding [v,ov] (eval (.Name mm p4) X.env)
   standAt p5
   holding [v,ov,iv] (setItem ov iv v)
   release [v,ov,iv] []):=by intro _;rfl)
  (hs:swapsWithSole [.Subscript (.Name c p3) (.Name mm p4) p5] (.BinOp (.Constant (.int 1) j p6) .Sub (.Subscript (.Name c p7) (.Name mm p8) p9) p2) apos.line X.env=pure false:=by rfl)(hw:swappedStores [.Subscript (.Name c p3) (.Name mm p4) p5] (.BinOp (.Constant (.int 1) j p6) .Sub (.Subscript (.Name c p7) (.Name mm p8) p9) p2) X.env=pure none:=by rfl)
  (ht:(assignEach [.Subscript (.Name c p3) (.Name mm p4) p5] X.env).map (·.2)=[assign (.Subscript (.Name c p3) (.Name mm p4) p5) X.env]:=by rfl)
  (hpl:wZ (.Name mm p8):=by intro _ _;rfl)
  (d1:(cs==("__debug__":Str))=false:=by decide)(d2:(c==("__debug__":Str))=false:=by decide)(d3:(mm==("__debug__":Str))=false:=by decide)
  (k1:(cs==("__classdict__":Str))=false:=by decide)(k2:(c==("__classdict__":Str))=false:=by decide)(k3:(mm==("__classdict__":Str))=false:=by decide)
  (hf:X.fn c=true\/X.env.scope.names.lookup c=some .local:=by first |exact .inl rfl |exact .inr rfl |assumption)
  (hfs:∀x,foldedSetIterable (.Name cs p1) X.env x=pure x:=by intro _;rfl){cp:ai}:
  eZ K cl E X (.For (.Name c cp) (.Name cs p1) [.Assign [.Subscript (.Name c p3) (.Name mm p4) p5] (.BinOp (.Constant (.int 1) j p6) .Sub (.Subscript (.Name c p7) (.Name mm p8) p9) p2) apos] [] pos) (pU ics ic im):=by
 intro hK;subst hK;have vc:qD X.env.scope c:=v2.elim .inl λz=>.inr (.inl z);refine PS.imp (Ct hp hc (Ts (pH h1 v1 d1 k1)) (Gr hN h2 v2 hf) (Br (xL (Dg Ju Nu (Qg Ft (pH h2 vc d2 k2) (pH h3 v3 d3 k3) hpl)) (Ye (pH h2 vc d2 k2) (pH h3 v3 d3 k3) Up ha) hs hw ht)) hfs) ?_
 rintro D σ H ⟨p,S,ρ,s,ev,h⟩
 unfold pU at h;split at h
 .rename_i k m q1 q2
  split at h
  .rename_i xss hS
   split at h
   .rename_i plc
    obtain⟨pl,hic⟩:=plc;split at h
    .rename_i yss hy
     obtain⟨x,ex,rx⟩:=ev.at_ ics _ q1;obtain⟨a,ea,rfl⟩:=rx;obtain⟨ll,fl⟩:=Xl hy;have hk:k<S.length:=(br.mp hS).1;obtain⟨bs0,b1,b2,b3,b4,b5,b6⟩:=s.obj k a _ ea hS;have plx:∀zss,zG k (S.set k (.lol zss)):=λzss j o e n=>by
      rw[fj (ik n)]at e;exact pl j o e n
     refine⟨.ref a,ex,a,rfl,.inl ⟨⟨_,cK.of b1⟩,λi n σ1 H1=>n=xss.length-i/\i<=xss.length/\∃p1,bQ p H p1 H1/\aX X.K p1 (S.set k (.lol (yss.take i++xss.drop i))) H1/\dM X.K p1 H1 (ρ.set ic none) σ1,⟨_,rfl,gn _,p,s.step,?_,?_⟩,?_⟩⟩
     .have e0:S.set k (.lol xss)=S:=by
       obtain⟨g1,g2⟩:=br.mp hS;rw[<-g2];exact o8 g1
      simpa[e0]using s
     .have:=ev.forget ic ((σ[ic]?).join)
      have e0:σ.set ic (σ[ic]?).join=σ:=by
       by_cases hi:ic<σ.length
       .rw[ax hi]
        exact o8 hi
       .exact List.set_eq_of_length_le (by omega)
      rwa[e0]at this
     .rintro i n σ1 H1 ⟨rfl,hi,p1,st1,sm1,ev1⟩
      have e1:=st1.at_ ea;have hS1:(S.set k (.lol (yss.take i++xss.drop i)))[k]?=some (.lol (yss.take i++xss.drop i)):=dj hk;obtain⟨bs,c1,c2,c3,c4,c5,c6⟩:=sm1.obj k a _ e1 hS1;have lz:(yss.take i++xss.drop i).length=xss.length:=by
       rw[av,kl,qk];omega
      by_cases hlt:i<xss.length
      .have hib:i<bs.length:=by omega
       obtain⟨ys,ey,fy⟩:=fl i _ (ax hlt);have ez:(yss.take i++xss.drop i)[i]?=some xss[i]:=by
        rw[dz (by rw[kl];omega),kl,um (by omega),ie,List.getElem?_drop,uo];exact ax hlt
       obtain⟨vs,g1,g2,g3⟩:=c6 i _ _ ez (ax hib);unfold yL at fy;split at fy
       .rename_i jj hj
        split at fy
        .rename_i v hv
         cases fy;obtain⟨u,eu,ru⟩:=g3.get hv;have:u=.int v:=by unfold aT at ru;exact ru
         subst this;obtain⟨xm,exm,rxm⟩:=ev1.at_ im (.pv (.int m)) (by rw[fj (ik ne2)];exact q2);have:xm=.int m:=by
          have rxm:aT X.K p1.c H1 (.int m) xm:=rxm;unfold aT at rxm;exact rxm
         subst this;refine .inr ⟨⟨_,.ref bs[i],cK.of c1,by rw[bo,ax hib];rfl⟩,λσ' H'=>∃p2,bQ p H p2 H'/\aX X.K p2 (S.set k (.lol (yss.take (i+1)++xss.drop (i+1)))) H'/\dM X.K p2 H' (ρ.set ic none) σ',λσ' H' hn=>⟨xss.length-(i+1),by omega,rfl,hlt,hn⟩,λx H2 hy=>?_⟩;obtain⟨rfl,hy⟩:=hy;have ey2:=hy _ (cK.of c1);rw[bo,ax hib]at ey2;cases ey2;have hic1:ic<σ1.length:=by
          rw[<-ev1.len,fk];exact hic
         have sc:(σ1.set ic (some (V.ref bs[i])))[ic]?=some (some (.ref bs[i])):=dj hic1;have sm':(σ1.set ic (some (V.ref bs[i])))[im]?=some (some (.int m)):=by rw[fj (ik ne2)];exact exm
         have hj':aY vs.length m=some jj:=by rw[<-g3.length];exact hj
         have ha1:aZ vs m=some (.int v):=by unfold aZ;rw[hj'];exact eu
         obtain⟨st2,sm2⟩:=sm1.inner (ys:=xss[i].set jj (.int (1-v))) (ws:=vs.set jj (.int (1-v))) e1 hS1 (plx _) c1 (ax hib) (by rw[fk];exact g2) (aS.set (jH (v:=.int (1-v)) rfl) jj g3);rw[Dp,U6 ll ey]at sm2;have ev2:=(st2.repE ev1).forget ic (some (V.ref bs[i]));rw[Dp]at ev2;exact⟨_,sc,_,sm',.inl ⟨_,_,_,_,rfl,rfl,cK.of g1,ha1,1,v,rfl,rfl,_,sc,_,sm',_,_,_,_,rfl,rfl,g1,hj',p1,st1.trans st2,sm2,ev2⟩⟩
        .cases fy
       .cases fy
      .have e:i=xss.length:=by omega
       subst e;refine .inl ⟨⟨_,cK.of c1,by rw[aj];omega⟩,?_⟩;rw[uj,ja,ll,yg]at sm1;exact h p1 H1 σ1 st1 sm1 ev1
    .exact h.elim
   .exact h.elim
  .exact h.elim
 .exact h.elim
open Classical in
def xX(n:Nat):cN->bP AV
 |.rt (.ref k) S=>match S[k]? with
  |some (.lol xss)=>if ¬k<n/\Pl (S.take n)then .ok (.pv (.lst (xss.map .lst))) (S.take n)else .fail
  |_=>.fail
 |_=>.fail
open Classical in
def pZ(np n:Nat)(b:MS)(xs:BC)(S:aH):bP AV:=if xs.length=np/\Pl S then xX S.length (b (jK n xs) S)else .fail
def Ph.only(p:Ph):Ph:=⟨p.f,λa=>a∈p.f,p.c⟩
theorem aX.only(s:aX K p S H)(pl:Pl S):aX K p.only S H:=
 ⟨s.nd,s.len,λ_ h=>h,λa h=>s.wc a (s.sub a h),s.mu,λk a o e1 e2=>by
  obtain⟨xs,rfl⟩:=pl k o e2;exact s.obj k a _ e1 e2⟩
theorem Iz{as:BC}{vs:List V}(h:gL K p H as vs):gL K p.only H as vs:=by
 induction h with
 |nil=>exact .nil
 |cons h _ ih=>
  refine .cons ?_ ih;rename_i v x _ _ _;cases v with
  |pv v=>exact h
  |ref k=>exact h
theorem Ez{r:cN}{Q:VK}{E:XK}(s:aX K p S H)(pl:Pl S)(h:bY K cl (cD K) p H (xX S.length r) Q E):eP K cl p.only H r {nx:=λ_ H'=>Q .non H',rt:=Q} E:=by
 cases r with
 |rt v S1=>
  cases v with
  |pv v=>exact h.elim
  |ref k=>
   unfold xX at h;dsimp only at h;split at h
   .rename_i xss hS
    split at h
    .rename_i hc
     obtain⟨hk,plt⟩:=hc
     rintro q H' x st sm ⟨a,e,rfl⟩
     have s1:=s.only pl;obtain⟨na,hn,nc⟩:=Sb s1 st sm e hk;obtain⟨bs,g1,g2,g3,g4,g5,g6⟩:=sm.obj k a _ e hS;have fresh:∀b∈bs,H b=none:=λb hb=>st.nw b (g4 b hb).1 λm=>(g4 b hb).2 (st.pre.subset m);obtain⟨st1,sm1⟩:=s1.cutX (λb=>b=a\/b∈bs) st sm (λb d=>d.elim (λz=>z▸hn) (fresh b)) (.inr λj o e hj=>plt j o (by rw[uk,if_pos hj];exact e));refine h ⟨p.f,λb=>(q.w b/\¬(b=a\/b∈bs))\/p.w b,λb=>q.c b/\¬(b=a\/b∈bs)⟩ H' (.ref a) ⟨s.wc,s.mu,kh,λb h=>.inr h,st1.mono,λ_ h g=>absurd h g,λb h n=>?_,st1.nc,λb o e n=>st1.keep b o e λz=>n (s.sub b z)⟩
      ⟨s.nd,sm1.len,λb h=>.inr (s.sub b h),λb h=>h.elim (sm1.wc b) λz=>st1.mono b (s.wc b z),sm1.mu,λj b o e1 e2=>(sm1.obj j b o e1 e2).mono (λ_ e=>e) (λc w f=>⟨⟨.inl w,f⟩,λ_ e=>e⟩) λ_ _ r=>r⟩ ?_
     .rcases h with h |h
      .exact st1.nw b h λz=>n (s.sub b z)
      .exact absurd h n
     .show aT K (λb=>q.c b/\¬(b=a\/b∈bs)) H' (.lst (xss.map .lst)) (.ref a)
      unfold aT;refine⟨a,bs.map V.ref,rfl,.inl ⟨g1,λd=>d.2 (.inl rfl)⟩,by rw[aj];exact g2,?_⟩;have go:∀(yss:List AZ)(cs:List Addr),yss.length=cs.length->(∀c∈cs,c∈bs)->(∀(i:Nat)(xs:AZ)(b:Addr),yss[i]?=some xs->cs[i]?=some b->∃vs,H' b=some (.lst vs)/\vs.length<=sizeLine/\aS K q.c H' xs vs)->aS K (λb=>q.c b/\¬(b=a\/b∈bs)) H' (yss.map .lst) (cs.map V.ref):=by
       intro yss
       induction yss with
       |nil=>
        intro cs l _ _;have:cs=[]:=qr.mp l.symm;subst this;exact .nil
       |cons ys r ih=>
        intro cs l hm hh;cases cs with
        |nil=>cases l
        |cons c t=>
         obtain⟨vs,k1,k2,k3⟩:=hh 0 ys c rfl rfl;refine .cons ?_ (ih t (by simpa using l) (λc h=>hm c (bn _ h)) λi xs b e1 e2=>hh (i+1) xs b (by simpa using e1) (by simpa using e2));unfold aT;exact⟨c,vs,rfl,.inl ⟨k1,λd=>d.2 (.inr (hm c bi))⟩,k2,oZ (λb h=>h.1) k3⟩
      exact go xss bs g5 (λ_ h=>h) g6
    .exact h.elim
   .exact h.elim
 |nx ρ S1=>exact h.elim
 |exc n S1=>exact h.elim
 |bk ρ S1=>exact h.elim
 |ct ρ S1=>exact h.elim
 |fail=>exact h.elim
end
section
variable{P:Program}{w:aq}{K:ag}{mg:Str->AW}{base:Heap}{cl:Str->Addr}
theorem aai{np n:Nat}{b:MS}{vs:List V}{H:Hp}{Q:VK}{E:XK}(h:mL K cl (pZ np n b) vs H Q E):vs.length=np:=by
 obtain⟨p,S,xs,sm,ra,h⟩:=h;unfold pZ at h;split at h
 .rename_i e
  rw[<-Ol ra,e.1]
 .exact h.elim
theorem okL{x qual:Str}{st:Stmt}{f:Addr}{fd:cf}{N ps:List Str}{k np n:Nat}{b:MS}(F:jD K x qual st f fd)(S:hJ N ps (bX st))(hnp:ps.length=np)(hn:N.length=n)
  (hb:∀(cdv:Value)(A:au)(outer:List bh)(s:aa)(H:Hp)(E:XK),dJ k (A.deeper (envOfC qual (bX st) s.heap.objs.size f cdv))->fY K cl E0 (eV eL P w K mg base N qual (bX st) f cdv A outer s H E).nox (eI st) b):
  eG P w K mg base eL (k+1) f fd ps (jB K cl (pZ np n b)):=by
 subst hnp hn;refine F.ok S (λvs H Q E h=>aai h) λcdv A outer s H vs Q E hr h=>⟨_,hb cdv A outer s H E hr rfl,?_⟩;obtain⟨p,S,xs,sm,ra,h⟩:=h;unfold pZ at h;split at h
 .rename_i e
  exact⟨p.only,S,_,sm.only e.2,sX (Iz ra),Ez sm e.2 h⟩
 .exact h.elim
end
end
def Ba(P:Program)(w:aq)(K:ag)(mg:Str->AW)(base:Heap)(cl:Str->Addr)(x:Str)(k:Nat)(ps:List Str)(g:FM):Prop:=∃(a:Addr)(d:cf),eG P w K mg base eL k a d ps (jB K cl g)/\jA K d ps []/\fu K (.ref a)=true/\mg x=some (.ref a)
section
variable{cl:Str->Addr}{E:XK}{X:Cx}{e:ah}{es:List ah}{ms:MA}{pos p:ai}{k k0:Nat}{ps:List Str}{g:FM}{x:Str}
theorem ad9(C:Ba X.prog X.w X.K X.mg X.base cl x k ps g)(hr:dJ k0 X.A)(hk:k<=k0)(hg:Gl X x)(ha:eT X.K cl E X (e::es) ms)(hdb:(x==("__debug__":Str))=false:=by decide)(he:starEach (e::es) X.env=(false,eval e X.env)::starEach es X.env:=by rfl)(hpl:(backTo pos (starEach es X.env)).any (·.1)=false:=by rfl):
  aU X.K cl E X (.Call (.Name x p) (e::es) [] pos) (aJ g [] ms):=by
 obtain⟨a,d,G,b,kk,n⟩:=C;exact Nc G (hr.mono hk) hg n kk b .nil Dv.nil ha hdb he hpl
theorem aeb(C:Ba X.prog X.w X.K X.mg X.base cl x k ps g)(hr:dJ k0 X.A)(hk:k<=k0)(hg:Gl X x)(ha:eT X.K cl E X (e::es) ms)(hdb:(x==("__debug__":Str))=false:=by decide)(he:starEach (e::es) X.env=(false,eval e X.env)::starEach es X.env:=by rfl)(hpl:(backTo pos (starEach es X.env)).any (·.1)=false:=by rfl):
  aU X.K cl E X (.Call (.Name x p) (e::es) [] pos) (rH g [] ms):=by
 obtain⟨a,d,G,b,kk,n⟩:=C;exact U3 G (hr.mono hk) hg n kk b .nil Dv.nil ha hdb he hpl
end
section
variable{X:Cx}
end
section
variable{K:ag}{cl:Str->Addr}{E:XK}{X:Cx}{e:ah}{m:ME}{pos:ai}
end
section
variable{K:ag}{cl:Str->Addr}{E:XK}{X:Cx}
variable{a e:ah}{m:ME}{ms:MA}{pos:ai}
end
section
variable{K:ag}{cl:Str->Addr}{E:XK}{X:Cx}
end
section
variable{K:ag}{cl:Str->Addr}{E:XK}{X:Cx}
def vI(K:ag)(mg:Str->AW)(x:Str)(pv:PV):Prop:=∃(u:Value)(v:V),mg x=some u/\bS v u/\∀c H,aT K c H pv v
theorem Js{x:Str}{pv:PV}{pos:ai}(hg:Gl X x)(hm:vI K X.mg x pv)(hd:(x==("__debug__":Str))=false:=by decide):aU K cl E X (.Name x pos) (mC pv):=λ_=>by
 obtain⟨u,v,hm,r,hr⟩:=hm;exact(abB hg hm r hd).imp λσ H Q ⟨p,S,ρ,s,e,h⟩=>bY.ret (R:=cD K) (x:=v) h s (hr p.c H)
theorem mX:∀c H,aS K c H [] []:=λc H=>by
 unfold aS;rfl
theorem fI{p:PV}{ps:AZ}{v:V}{vs:List V}(h:∀c H,aT K c H p v)(t:∀c H,aS K c H ps vs):∀c H,aS K c H (p::ps) (v::vs):=λc H=>by
 unfold aS;exact⟨v,vs,rfl,h c H,t c H⟩
theorem hV{i:Int}:∀c H,aT K c H (.int i) (.int i):=λc H=>by
 unfold aT;rfl
theorem mS{a:Addr}{od:AX}{its:Array Value}{n:Nat}{sl:Array AW}{xs:AZ}{vs:List V}(l:K.lookup a=some ⟨.type "tuple",od,.seq its n,sl⟩)(hs:its.size<=sizeLine)(hv:bI vs its.toList)(hl:vs.length<=sizeLine)(t:∀c H,aS K c H xs vs):∀c H,aT K c H (.tup xs) (.ref a):=λc H=>by
 unfold aT;exact⟨a,vs,rfl,.inr ⟨_,its,n,l,rfl,rfl,hs,hv⟩,hl,t c H⟩
end
section
variable{K:ag}{cl:Str->Addr}{E:XK}{X:Cx}
end
section
variable{K:ag}{cl:Str->Addr}{E:XK}{X:Cx}
variable{a e:ah}{m:ME}{ms:MA}{pos:ai}
end
section
variable{M:ly}{A:au}{E:Value->aa->Prop}{s:aa}{env:bh}
end
section
variable{prog:Program}{w:aq}{A:au}{R:qj->aa->Prop}{s:aa}
end
end L2.Pp
namespace L2
open PySem PySem.Spec PyProof.Rows Bn
section
variable{X:Cx}{BD:List (Addr×Obj)}{σ:St}{H H':Hp}{s s':aa}
end
open L2.Pp
section
variable{P:Program}{w:aq}{K:ag}{mg:Str->AW}{base:Heap}{N:List Str}{qual:Str}{scope:Scope}{f:Addr}{cd:Value}{A:au}{outer:List bh}{BE:aa}{BF:Hp}{E:XK}
end
section
variable{P:Program}{w:aq}{K:ag}{mg:Str->AW}{base:Heap}{N:List Str}{qual:Str}{scope:Scope}{f:Addr}{cd:Value}{A:au}{outer:List bh}{BE:aa}{BF:Hp}{E:XK}
variable{sc:Scope}{own:List Str}{cap:List (Nat×Str)}{BD:List (Addr×Obj)}{σ:St}{H:Hp}{s:aa}{elt target iter:ah}{pos pos':ai}{wi:TI}{g:TG}{te:TE}{Q:VK}
end
end L2
namespace L2.Pp
open PySem PySem.Spec PyProof.Rows Bn
section
variable{K:ag}{cl:Str->Addr}{E:XK}{X:Cx}{p q:Ph}{H H':Hp}{S:aH}
variable{sc:Scope}{own:List Str}{cap:List (Nat×Str)}{elt target iter:ah}{pos:ai}{mi:MI}{g:GM}{me:ME}
end
section
variable{P:Program}{w:aq}{K:ag}{mg:Str->AW}{base:Heap}{N:List Str}{qual:Str}{scope:Scope}{f:Addr}{cd:Value}{A:au}{outer:List bh}{BE:aa}{BF:Hp}{E:XK}{cl:Str->Addr}
variable{sc:Scope}{own:List Str}{cap:List (Nat×Str)}{elt target iter:ah}{pos:ai}{mi:MI}{g:GM}{me:ME}{wi:TI}{tg:TG}{te:TE}
end
section
variable{K:ag}{cl:Str->Addr}{E:XK}{X:Cx}{e:ah}{es:List ah}{ms:MA}{pos p:ai}{k n:Nat}{f:Addr}{fd:cf}{ps:List Str}{g:FM}{x:Str}{dvs:List V}{ds:AU}{dv:AZ}
end
section
variable{K:ag}{cl:Str->Addr}{E:XK}{X:Cx}
end
section
variable{K:ag}{cl:Str->Addr}{E:XK}{X:Cx}{a b e:ah}{m:ME}{ms:MA}{pos:ai}
end
end L2.Pp
namespace L2
open PySem PySem.Spec PyProof.Rows Bn
section
variable{X:Cx}{k:Nat}{f:Addr}{fd:cf}{ps:List Str}{sp:Sp}{dvs:List V}{ds:AU}{x:Str}{p pos pos1 pos2 pos3 pc:ai}{e a:ah}{es:List ah}{t:TA}{ta:TE}{te:XK->TE}{c n:Str}{C:Addr}{i:Nat}{BI:Stmt}{body:List Stmt}{newId:String}
end
end L2
namespace L2.Pp
open PySem PySem.Spec PyProof.Rows Bn
section
variable{K:ag}{cl:Str->Addr}{E:XK}{X:Cx}{a b c e:ah}{m mc:ME}{ms:MA}{pos:ai}{tg:ah}{ma mb:ME}
end
section
variable{K:ag}{cl:Str->Addr}{E:XK}{X:Cx}{e a:ah}{es:List ah}{ms:MA}{ma me:ME}{p q:Ph}{H H':Hp}{S:aH}
variable{k:Nat}{f:Addr}{fd:cf}{ps:List Str}{g:FM}{dvs:List V}{ds:AU}{dv:AZ}{x:Str}{pp pos pos1 pos2 pos3 pc:ai}{c n:Str}{i nn:Nat}{BI:Stmt}{body:List Stmt}{newId:String}{up:bZ->bZ}
variable(K cl X)
variable{K cl X}
end
section
variable{K:ag}{cl:Str->Addr}{E:XK}{X:Cx}{a b:ah}{ma mb:ME}{pos:ai}
end
end L2.Pp
namespace L2
open PySem PySem.Spec PyProof.Rows Bn
section
variable{X:Cx}{k:Nat}{p pos pos1 pos2 pos3 pc:ai}{e:ah}{te:XK->TE}{c:Str}{C:Addr}{BI:Stmt}{body:List Stmt}{newId:String}
end
end L2
namespace L2.Pp
open PySem PySem.Spec PyProof.Rows Bn
section
variable{K:ag}{cl:Str->Addr}{E:XK}{X:Cx}{a b e:ah}{m me:ME}{ms:MA}{pos pos1 pos2 pos3 pc:ai}{c:Str}{nn:Nat}{BI:Stmt}{body:List Stmt}{newId:String}{up:bZ->bZ}
end
section
variable{M:ly}{A:au}{E:Value->aa->Prop}{s:aa}{env:bh}
end
end L2.Pp
namespace L2
open PySem PySem.Spec PyProof.Rows Bn L2.Pp
section
variable{P:Program}{w:aq}{K:ag}{mg:Str->AW}{base:Heap}{N:List Str}{qual:Str}{scope:Scope}{f:Addr}{cd:Value}{A:au}{outer:List bh}{BE:aa}{BF:Hp}{E:XK}
variable{sc:Scope}{own:List Str}{cap:List (Nat×Str)}{BD:List (Addr×Obj)}{σ:St}{H:Hp}{s:aa}{elt target iter:ah}{pos pos':ai}{wi:TI}{g:TG}{te:TE}{Q:VK}
end
end L2
namespace L2.Pp
open PySem PySem.Spec PyProof.Rows Bn
section
variable{P:Program}{w:aq}{K:ag}{mg:Str->AW}{base:Heap}{N:List Str}{qual:Str}{scope:Scope}{f:Addr}{cd:Value}{A:au}{outer:List bh}{BE:aa}{BF:Hp}{E:XK}{cl:Str->Addr}
variable{sc:Scope}{own:List Str}{cap:List (Nat×Str)}{elt target iter:ah}{pos:ai}{mi:MI}{g:GM}{me:ME}
end
section
variable{K:ag}
end
section
variable{K:ag}{X:Cx}
end
end L2.Pp
namespace L2
open PySem PySem.Spec PyProof.Rows Bn
def yC(J:It)(g:TG)(tc:TT)(te:TE)(BH:St)(H1:Hp)(D:Addr)(Q:VK):Prop:=
 ∃W:Nat->Nat->St->Hp->List V->Prop,(∃m,W 0 m BH (aW H1 D (.lst [])) [])/\∀i m σ H ys,W i m σ H ys->H D=some (.lst ys)/\
  ((J.stop i H/\Q (.ref D) H)\/(J.go i H/\ys.length<sizeLine/\∀x H2,J.yld i H x H2->g x σ H2 λσ3 H3=>tc σ3 H3 λb HA=>if b=true then te σ3 HA λy H4=>H4 D=some (.lst ys)/\∃m',m'<m/\W (i+1) m' σ3 (aW H4 D (.lst (ys++[y]))) (ys++[y])else ∃m',m'<m/\W (i+1) m' σ3 HA ys))
def Ku(own:List Str)(cap:List (Nat×Str))(wi:TI)(g:TG)(tc:TT)(te:TE):TE:=λσ H Q=>wi σ H λJ H1=>∀D,H1 D=none->yC J g tc te (iY own cap σ) H1 D Q
section
variable{prog:Program}{w:aq}{A:au}{R:qj->aa->Prop}{s:aa}
theorem Vz{elt target iter cnd:ah}{sc:Scope}{pos:ai}{it acc:Value}{env:bh}(I:Nat->aa->Prop)
  (turn:∀n s,I n s->wpAny (model prog w) A (pyNext it) (λr s1=>match r with
   |none=>R (.ok .next) s1
   |some v=>wpAny (model prog w) A (letOwnedTupleGo target it v) (λ_ s2=>wpAny (model prog w) A (assign target env v) (λ_ s3=>wpAny (model prog w) A (isTrue cnd env (eval cnd env)) (λb sA=>if b=true then wpAny (model prog w) A (eval elt env)
     (λx s4=>wpAny (model prog w) A (call (.builtin "list.append") [acc,x]) (λ_ s5=>∃m,m<n/\I m s5) (λ_ _=>False) s4) (λ_ _=>False) sA else ∃m,m<n/\I m sA) (λ_ _=>False) s3) (λ_ _=>False) s2) (λ_ _=>False) s1) (λ_ _=>False) s)
  (n:Nat)(h:I n s):codeAny (model prog w) A (.compLoop (.ListComp elt [⟨target,iter,[cnd],0⟩] sc pos) 0 it acc env) R s:=by
 refine codeAny_loop rfl I (λn s hI=>?_) n h;show wpAny _ _ ((compTurn (.ListComp elt [⟨target,iter,[cnd],0⟩] sc pos) 0 it acc env).onRaise (λx=>do noteFrame x env;theTreesLotGoes x)) _ _ s;refine wpAny_noted ?_;rw[compTurn_list];refine ae (qd (ae ?_));refine gh (turn n s hI) (λr s1 h1=>?_) λ_ _ z=>z.elim;cases r with
 |none=>exact ao h1
 |some v=>
  refine ae (gh h1 (λ_ s2 h2=>?_) λ_ _ z=>z.elim);refine ae (gh h2 (λ_ s3 h3=>?_) λ_ _ z=>z.elim);refine ae (wpAny_tests_one (gh h3 (λok sA hA=>?_) λ_ _ z=>z.elim));cases ok with
  |true=>
   rw[if_pos rfl]at hA⊢;refine ae (ae (gh hA (λx s4 h4=>?_) λ_ _ z=>z.elim));refine ae (gh h4 (λ_ s5 h5=>?_) λ_ _ z=>z.elim);exact ao (ao ⟨rfl,h5⟩)
  |false=>
   rw[if_neg iw]at hA⊢;exact ae (ao (ao ⟨rfl,hA⟩))
end
section
variable{X:Cx}{sc:Scope}{own:List Str}{cap:List (Nat×Str)}{BD:List (Addr×Obj)}{σ:St}{H:Hp}{s:aa}{elt target iter cnd:ah}{pos pos':ai}{wi:TI}{g:TG}{tc:TT}{te:TE}{Q:VK}
theorem Xz{use:Option (Value->Sem Unit)}{Qf:Value->aa->Prop}(k:iA X sc own cap)(hi:PI X target iter wi)(hc:X.calm=true)
  (hg:∀C BE BF ex,PG (eQ X sc (cR own cap) C BE BF ex) target g)(ht:∀C BE BF ex,PT (eQ X sc (cR own cap) C BE BF ex) cnd tc)(he:∀C BE BF ex,PE (eQ X sc (cR own cap) C BE BF ex) elt te)(I:aI X BD σ H s)(h:Ku own cap wi g tc te σ H Q)
  (fin:∀D C s' H' m,aI X BD σ H' s'->fS X BD H' C->s'.heap.Ns C m->Q (.ref D) H'->compPost (model X.prog X.w) X.A X.xe use Qf (.ref D) C (.ok .next) s')
  (hs:∀x,foldedSetIterable iter X.env x=pure x):
  wpAny (model X.prog X.w) X.A (comprehension (.ListComp elt [⟨target,iter,[cnd],0⟩] sc pos) sc X.env pos' (newList []) false (eval iter X.env) use) Qf X.xe s:=by
 refine xn (use:=use) rfl hs (Pe (k.has I.ok)) k.kind k.names ?_;refine bK (hi BD s σ H _ I h) λv s1 h1=>bK h1 λitv s2 h2=>?_;obtain⟨it,fp,tn,J,H2,e,I2,T,st2,f2,hW⟩:=h2;subst e;refine iu (g7 k.nocell (λy hy=>nomatch hy) (λh4 hns hsb=>?_) k.kind);have I3:aI X BD σ (aW H2 s2.heap.objs.size (.lst [])) {s2 with heap:=s2.heap.push {cls:=.type "list",data:=.seq ([]:AU).toArray},toks:=s2.toks}:=I2.lnew (ys:=[]) (its:=[]) .nil (gn _);have hD:H2 s2.heap.objs.size=none:=I2.fresh;have ltf:∀b∈fp,b<s2.heap.objs.size:=λb hb=>by
  obtain⟨o,ho,_⟩:=T.obj _ _ st2 b hb;exact bj ho
 have f3:∀b∈fp,fS X BD (aW H2 s2.heap.objs.size (.lst [])) b:=λb hb=>⟨by rw[bT (de (ltf b hb))];exact(f2 b hb).1,(f2 b hb).2⟩;have un:Un (fF X.stack) fp H2 (aW H2 s2.heap.objs.size (.lst [])) s2.heap (s2.heap.push {cls:=.type "list",data:=.seq ([]:AU).toArray}):=Un.laid (λb u q=>ay _ q) (ak _) hD;have kp:∀b o,(s2.heap.push {cls:=.type "list",data:=.seq ([]:AU).toArray}).get? b=some o->h4.get? b=some o:=λb o q=>hsb.extBut b o (de (bj q)) (ay _ q);have J0:=I3.cmp (t':=s2.toks+([]:List (Str×Value)).length) k f3 (λb hb=>dm (ltf b hb) (by rw[jp];exact my _)) hns kp;have stat:∀{H':Hp},(∀b∈fp,H' b=none)->∀b∈fp,fS (eQ X sc (cR own cap) (s2.heap.push {cls:=.type "list",data:=.seq ([]:AU).toArray}).objs.size {s2 with heap:=s2.heap.push {cls:=.type "list",data:=.seq ([]:AU).toArray},toks:=s2.toks} (aW H2 s2.heap.objs.size (.lst [])) fp) [] H' b:=λhn b hb=>
  ⟨hn b hb,(J0.ok.exf b hb).1,J0.ok.exfs b hb,.inl hb,(J0.ok.exf b hb).2,λp hp=>absurd (show p∈([]:List (Addr×Obj)) from hp) (by simp)⟩
 have st4:tn 0 h4:=T.keep _ _ _ st2 λb hb o q=>kp b o (ay _ q);have fr0:∀b∈fp,(aW H2 s2.heap.objs.size (.lst [])) b=none:=λb hb=>(f3 b hb).1;have loop:codeAny (model X.prog X.w) X.A (.compLoop (.ListComp elt [⟨target,iter,[cnd],0⟩] sc pos) 0 (.ref it) (.ref s2.heap.objs.size) (compEnvC sc (gJ X.env sc.names []) (s2.heap.push {cls:=.type "list",data:=.seq ([]:AU).toArray}).objs.size X.env))
   (compPost (model X.prog X.w) X.A X.xe use Qf (.ref s2.heap.objs.size) (s2.heap.push {cls:=.type "list",data:=.seq ([]:AU).toArray}).objs.size) {s2 with heap:=h4,toks:=s2.toks+([]:List (Str×Value)).length}:=by
  obtain⟨W,⟨m0,w0⟩,turn⟩:=hW s2.heap.objs.size hD;refine Vz (λn s'=>∃i σ' H' ys,aI (eQ X sc (cR own cap) (s2.heap.push {cls:=.type "list",data:=.seq ([]:AU).toArray}).objs.size {s2 with heap:=s2.heap.push {cls:=.type "list",data:=.seq ([]:AU).toArray},toks:=s2.toks} (aW H2 s2.heap.objs.size (.lst [])) fp) [] σ' H' s'/\tn i s'.heap/\(∀b∈fp,H' b=none)/\W i n σ' H' ys) ?_ m0
   ⟨0,_,_,[],J0,st4,fr0,w0⟩
  rintro n s5 ⟨i,σ5,H5,ys,I5,st5,fr5,w5⟩
  obtain⟨hD5,w5⟩:=turn i n σ5 H5 ys w5;rcases w5 with⟨stop,qn⟩|⟨go,hlt,step⟩
  .refine bK (T.done (eQ X sc (cR own cap) (s2.heap.push {cls:=.type "list",data:=.seq ([]:AU).toArray}).objs.size {s2 with heap:=s2.heap.push {cls:=.type "list",data:=.seq ([]:AU).toArray},toks:=s2.toks} (aW H2 s2.heap.objs.size (.lst [])) fp) rfl rfl rfl hc i [] s5 σ5 H5 _ I5 (stat fr5) st5 stop) ?_
   rintro r s6 ⟨hr,I6⟩
   subst hr;obtain⟨m,hn,_⟩:=id I6.loc;exact fin _ _ s6 H5 m (I2.uncmp (s3:={s2 with heap:=s2.heap.push {cls:=.type "list",data:=.seq ([]:AU).toArray},toks:=s2.toks}) f2 un rfl I6) (I3.fpOk (ak _) I6.free) hn qn
  .refine bK (T.item (eQ X sc (cR own cap) (s2.heap.push {cls:=.type "list",data:=.seq ([]:AU).toArray}).objs.size {s2 with heap:=s2.heap.push {cls:=.type "list",data:=.seq ([]:AU).toArray},toks:=s2.toks} (aW H2 s2.heap.objs.size (.lst [])) fp) rfl rfl rfl hc i [] s5 σ5 H5 _ I5 (stat fr5) st5 go) ?_
   rintro r s6 ⟨u,hr,h6⟩
   subst hr;refine bK h6 ?_
   rintro _ s7 ⟨x,H7,I7,r7,y7,st7,fr7⟩
   have I7':=I7.pinned (stat fr7) (T.obj _ _ st7);refine bK (hg _ _ _ _ _ s7 σ5 H7 x u _ I7' r7 (step x H7 y7)) ?_
   rintro _ s8 ⟨σ8,H8,I8,q8⟩
   refine bK (ht _ _ _ _ _ s8 σ8 H8 _ I8 q8) ?_
   rintro bb sA ⟨HA,IA,qA⟩
   cases bb with
   |true=>
    rw[if_pos rfl];rw[if_pos rfl]at qA;refine bK (he _ _ _ _ _ sA σ8 HA _ IA qA) ?_
    rintro v9 s9 ⟨y,H9,I9,r9,hD9,m',hm,w9⟩
    refine bK (tD _ s9 σ8 H9 (.ref s2.heap.objs.size) [y] (.ref s2.heap.objs.size) [v9] (λ_ H'=>H'=aW H9 s2.heap.objs.size (.lst (ys++[y]))) I9 rfl (.cons r9 .nil) ⟨_,ys,y,rfl,rfl,hD9,hlt,rfl⟩) ?_
    rintro _ s10 ⟨_,H10,I10,_,q10⟩
    subst q10;refine⟨m',hm,i+1,σ8,_,_,I10.unpinned,T.keep _ _ _ st7 λb hb o q=>(I10.pin (b,o) (dk _ (dk _ (lV hb q)))).1,λb hb=>?_,w9⟩;obtain⟨o,q,d⟩:=T.obj _ _ st7 b hb;exact(I10.pin (b,o) (dk _ (dk _ (lV hb q)))).2.1
   |false=>
    rw[if_neg iw];rw[if_neg iw]at qA;obtain⟨m',hm,w9⟩:=qA;refine⟨m',hm,i+1,σ8,_,_,IA.unpinned,T.keep _ _ _ st7 λb hb o q=>(IA.pin (b,o) (dk _ (dk _ (lV hb q)))).1,λb hb=>?_,w9⟩;obtain⟨o,q,d⟩:=T.obj _ _ st7 b hb;exact(IA.pin (b,o) (dk _ (dk _ (lV hb q)))).2.1
 exact xo loop (T.self _ 0 _ _ _ st4 loop)
theorem V3(k:iA X sc own cap)(hi:PI X target iter wi)(hc:X.calm=true)
  (hg:∀C BE BF ex,PG (eQ X sc (cR own cap) C BE BF ex) target g)(ht:∀C BE BF ex,PT (eQ X sc (cR own cap) C BE BF ex) cnd tc)(he:∀C BE BF ex,PE (eQ X sc (cR own cap) C BE BF ex) elt te)
  (hs:∀x,foldedSetIterable iter X.env x=pure x:=by intro _;rfl):PE X (.ListComp elt [⟨target,iter,[cnd],0⟩] sc pos) (Ku own cap wi g tc te):=by
 intro BD s σ H Q I h;rw[xp];refine Xz (use:=none) k hi hc hg ht he I h (λD C s' H' m I' fC hn q=>?_) hs;refine⟨m,hn,λh' sb=>⟨.ref D,H',?_,rfl,q⟩⟩;obtain⟨f0,f1,f2,f3,f4,f5⟩:=fC;exact I'.turned (t':=s'.toks) (λb o hb e=>(sb.2 b hb).trans e) f0 f1 f3 f4 f5
end
end L2
namespace L2.Pp
open PySem PySem.Spec PyProof.Rows Bn
open Classical in
noncomputable def fU(G:Gd)(g:GM)(mc:MT)(me:ME):AZ->bZ->aH->bP AZ
 |[],_,S=>if iQ G S then .ok [] S else .fail
 |x::r,ρ,S=>if iQ G S then(match g x ρ with
  |none=>.fail
  |some ρ1=>match mc ρ1 S with
   |.ok true S0=>(match me ρ1 S0 with
    |.ok (.pv y) S1=>match fU G g mc me r ρ1 S1 with
     |.ok ys S2=>.ok (y::ys) S2
     |_=>.fail
    |_=>.fail)
   |.ok false S0=>fU G g mc me r ρ1 S0
   |_=>.fail)else .fail
theorem Fz{g:GM}{mc:MT}{me:ME}{ρ:bZ}{S:aH}:fU [] g mc me [] ρ S=.ok [] S:=by
 unfold fU;rw[if_pos (iR S)]
theorem Az{g:GM}{mc:MT}{me:ME}{x:PV}{r:AZ}{ρ:bZ}{S:aH}:fU [] g mc me (x::r) ρ S=(match g x ρ with
  |none=>.fail
  |some ρ1=>match mc ρ1 S with
   |.ok true S0=>(match me ρ1 S0 with
    |.ok (.pv y) S1=>match fU [] g mc me r ρ1 S1 with
     |.ok ys S2=>.ok (y::ys) S2
     |_=>.fail
    |_=>.fail)
   |.ok false S0=>fU [] g mc me r ρ1 S0
   |_=>.fail):=by
 rw[fU,if_pos (iR S)]
noncomputable def xN(own:List Str)(cap:List (Nat×Str))(mi:MI)(g:GM)(mc:MT)(me:ME):ME:=λρ S=>(mi ρ S).bind λxs S1=>(fU xs.2 g mc me xs.1 (cJ own cap ρ) S1).bind λys S2=>.ok (.pv (.lst ys)) S2
theorem Cj{G:Gd}{g:GM}{mc:MT}{me:ME}:∀(xs:AZ)(ρ:bZ)(S:aH)(n:Str)(S':aH),fU G g mc me xs ρ S≠.exc n S'
 |[],_,_,_,_,e=>by
  unfold fU at e;split at e<;>cases e
 |x::r,ρ,S,n,S',e=>by
  unfold fU at e;split at e
  .split at e
   .cases e
   .split at e
    .split at e
     .split at e<;>cases e
     .cases e
    .exact Cj r _ _ _ _ e
    .cases e
  .cases e
theorem Ib{G:Gd}{g:GM}{mc:MT}{me:ME}{xs zs:AZ}{ρ:bZ}{S S':aH}(e:fU G g mc me xs ρ S=.ok zs S'):iQ G S:=by
 cases xs with
 |nil=>
  unfold fU at e;split at e
  .assumption
  .cases e
 |cons x r=>
  unfold fU at e;split at e
  .assumption
  .cases e
theorem Z7{J:It}{g:TG}{tc:TT}{te:TE}{BH:St}{H1:Hp}{D:Addr}{Q:VK}(n:Nat)(hn:n<=sizeLine)(Pv:Nat->St->Hp->List V->Prop)(h0:Pv 0 BH (aW H1 D (.lst [])) [])
  (hl:∀i σ H ys,Pv i σ H ys->ys.length<=i/\H D=some (.lst ys))(hgo:∀i σ H ys,i<n->Pv i σ H ys->J.go i H)
  (hs:∀i σ H ys x H2,i<n->Pv i σ H ys->J.yld i H x H2->g x σ H2 λσ3 H3=>tc σ3 H3 λb HA=>if b=true then te σ3 HA λy H4=>H4 D=some (.lst ys)/\∃m',m'<n-i/\(m'=n-(i+1)/\i+1<=n/\Pv (i+1) σ3 (aW H4 D (.lst (ys++[y]))) (ys++[y]))else ∃m',m'<n-i/\(m'=n-(i+1)/\i+1<=n/\Pv (i+1) σ3 HA ys))
  (hd:∀σ H ys,Pv n σ H ys->J.stop n H/\Q (.ref D) H):yC J g tc te BH H1 D Q:=by
 refine⟨λi m σ H ys=>m=n-i/\i<=n/\Pv i σ H ys,⟨n,rfl,gn _,h0⟩,?_⟩
 rintro i m σ H ys ⟨rfl,hi,p⟩
 obtain⟨l1,l2⟩:=hl i σ H ys p;refine⟨l2,?_⟩
 by_cases hlt:i<n
 .exact .inr ⟨hgo i σ H ys hlt p,by omega,λx H2 y=>hs i σ H ys x H2 hlt p y⟩
 .have e:i=n:=by omega
  subst e;exact .inl (hd σ H ys p)
theorem n1{n i:Nat}{P:Prop}(h:i<n)(p:P):∃m',m'<n-i/\(m'=n-(i+1)/\i+1<=n/\P):=⟨n-(i+1),by omega,rfl,h,p⟩
section
variable{K:ag}{cl:Str->Addr}{E:XK}{X:Cx}{p q:Ph}{H H':Hp}{S:aH}{sc:Scope}{own:List Str}{cap:List (Nat×Str)}{elt target iter cnd:ah}{pos:ai}{mi:MI}{g:GM}{mc:MT}{me:ME}
theorem Uz{σ:St}{ρ:bZ}{xs zs:AZ}{G:Gd}{J:It}{Q:VK}{D:Addr}{S2:aH}(sm:aX K p S H)(ev:dM K p H ρ σ)(it:fJ K p H (xs,G) J)(z:fU G g mc me xs (cJ own cap ρ) S=.ok zs S2)(hD:H D=none)
  (k:∀q H' vs,bQ p H q H'->aX K q S2 H'->aX K (q.hold D) S2 H'->q.w D->D∉q.f->H' D=some (.lst vs)->vs.length<=sizeLine->aS K q.c H' zs vs->Q (.ref D) H'):
  yC J (gP K g) (tP K cl E0 RB mc) (tP K cl E0 (cD K) me) (iY own cap σ) H D Q:=by
 obtain⟨st0,sm0⟩:=sm.res (D:=D) (o:=.lst []) hD trivial;have sh0:=sm.resHold (D:=D) (o:=.lst []) hD trivial;have nf0:D∉p.f:=λh=>sm.notin hD (sm.wc D (sm.sub D h));refine Z7 xs.length it.1 (λi σ1 H1 ys=>ys.length<=i/\i<=xs.length/\H1 D=some (.lst ys)/\∃p1 S1 ρ1 us ws,(aX K p1 S1 H1/\aX K (p1.hold D) S1 H1)/\bQ p H p1 H1/\p1.w D/\D∉p1.f/\dM K p1 H1 ρ1 σ1/\fJ K p1 H1 (xs,G) J/\iQ G S1/\aS K p1.c H1 us ys/\zs=us++ws/\fU G g mc me (xs.drop i) ρ1 S1=.ok ws S2) ?_ ?_ ?_ ?_ ?_
 .refine⟨ak _,gn _,fH,p.res D,S,cJ own cap ρ,[],zs,⟨sm0,sh0⟩,st0,.inr rfl,nf0,Tp (st0.repE ev),it.step st0,?_,.nil,rfl,by simpa using z⟩
  exact Ib z
 .rintro i σ1 H1 ys ⟨h1,_,h2,_⟩
  exact⟨h1,h2⟩
 .rintro i σ1 H1 ys hi ⟨_,_,_,p1,S1,ρ1,us,ws,⟨sm1,sh1⟩,st1,w1,f1,ev1,it1,g1,_⟩
  exact((it1.2 p1 H1 S1 sm1.step sm1 g1).1 i xs[i] (ax hi)).1
 .rintro i σ1 H1 ys x H2 hi ⟨hl,_,hH,p1,S1,ρ1,us,ws,⟨sm1,sh1⟩,st1,w1,f1,ev1,it1,g1,r1,e1,c1⟩ hy
  obtain⟨same,rx⟩:=((it1.2 p1 H1 S1 sm1.step sm1 g1).1 i xs[i] (ax hi)).2 x H2 hy;rw[ui hi]at c1;unfold fU at c1;rw[if_pos g1]at c1;split at c1
  .cases c1
  .rename_i ρ2 gz
   have st2:=sm1.same same;have sm2:=sm1.ofSame same;have smh:=sh1.ofSame same;have hD2:H2 D=some (.lst ys):=same _ _ hH;have go:∀(q:Ph)(H4:Hp)(S3:aH)(σ3:St),dM K p1 H2 ρ2 σ3->bQ (p1.hold D) H2 q H4->aX K q S3 H4->H4 D=some (.lst ys)/\∃q2:Ph,bQ p1 H1 q2 H4/\aX K q2 S3 H4/\aX K (q2.hold D) S3 H4/\q2.w D/\D∉q2.f/\dM K q2 H4 ρ2 σ3/\q2.c=q.c:=λq H4 S3 σ3 ev3 st4 sm4=>by
    have hD4:H4 D=some (.lst ys):=st4.keep D _ hD2 λz=>z.2 rfl;have fq:D∉q.f:=λh=>by
     have:=st4.nf D h f1;rw[hD2]at this;cases this
    have stU:=bQ.unhold w1 st4 sm2;have nq:¬q.w D:=λz=>by
     have:=st4.nw D z λy=>y.2 rfl;rw[hD2]at this;cases this
    have smU:aX K ⟨q.f,λa=>q.w a\/a=D,q.c⟩ S3 H4:=⟨sm4.nd,sm4.len,λa h=>.inl (sm4.sub a h),λa h=>h.elim (sm4.wc a) λz=>z▸st4.mono D (sm2.wc D w1),sm4.mu,λk a o e1 e2=>
     (sm4.obj k a o e1 e2).mono (λ_ e=>e) (λb w f=>⟨⟨.inl w,f⟩,λ_ e=>e⟩) λ_ _ r=>r⟩
    have shU:aX K (Ph.hold ⟨q.f,λa=>q.w a\/a=D,q.c⟩ D) S3 H4:=⟨sm4.nd,sm4.len,λa h=>⟨.inl (sm4.sub a h),λz=>nq (z▸sm4.sub a h)⟩,λa h=>smU.wc a h.1,sm4.mu,λk a o e1 e2=>
     (sm4.obj k a o e1 e2).mono (λ_ e=>e) (λb w f=>⟨⟨⟨.inl w,λz=>nq (z▸w)⟩,f⟩,λ_ e=>e⟩) λ_ _ r=>r⟩
    exact⟨hD4,_,st2.trans stU,smU,shU,.inr rfl,fq,stU.repE ev3,rfl⟩
   split at c1
   .rename_i SA mz
    split at c1
    .rename_i y S3 ez
     split at c1
     .rename_i vs S4 cz
      cases c1;refine⟨p1,S1,ρ1,xs[i],ρ2,sm2,st2.repE ev1,rx,gz,λσ3 ev3=>⟨p1.hold D,S1,ρ2,smh,⟨ev3.len,ev3.at_⟩,?_⟩⟩;rw[mz];intro q HA b stA smA rb;cases rb;rw[if_pos rfl];refine⟨q,SA,ρ2,smA,stA.repE (p:=p1.hold D) ⟨ev3.len,ev3.at_⟩,?_⟩;rw[ez];intro q4 H4 y' st4 sm4 ry;obtain⟨hD4,q2,stQ,smQ,shQ,wQ,fQ,evQ,cQ⟩:=go q4 H4 S3 σ3 ev3 (stA.trans st4) sm4;obtain⟨stG,smG,shG⟩:=smQ.grow (ys:=ys) (D:=D) (o:=.lst (ys++[y'])) shQ wQ fQ trivial;have stB:=stQ.trans stG;have ry:aT K q4.c H4 y y':=ry;rw[<-cQ]at ry;refine⟨hD4,n1 hi ⟨by rw[av];exact xb hl,hi,fH,q2,S3,ρ2,us++[y],vs,⟨smG,shG⟩,st1.trans stB,wQ,fQ,stG.repE evQ,it1.step stB,Ib cz,?_,by rw[e1,ix];rfl,cz⟩⟩;exact(stB.reps r1).append (.cons (stG.rep ry) .nil)
     .cases c1
    .cases c1
   .rename_i SA mz
    refine⟨p1,S1,ρ1,xs[i],ρ2,sm2,st2.repE ev1,rx,gz,λσ3 ev3=>⟨p1.hold D,S1,ρ2,smh,⟨ev3.len,ev3.at_⟩,?_⟩⟩;rw[mz];intro q HA b stA smA rb;cases rb;rw[if_neg iw];obtain⟨hD4,q2,stQ,smQ,shQ,wQ,fQ,evQ,cQ⟩:=go q HA SA σ3 ev3 stA smA;exact n1 hi ⟨yl hl,hi,hD4,q2,SA,ρ2,us,ws,⟨smQ,shQ⟩,st1.trans stQ,wQ,fQ,evQ,it1.step stQ,Ib c1,stQ.reps r1,e1,c1⟩
   .cases c1
 .rintro σ1 H1 ys ⟨hl,_,hH,p1,S1,ρ1,us,ws,⟨sm1,sh1⟩,st1,w1,f1,ev1,it1,g1,r1,e1,c1⟩
  rw[uj]at c1;unfold fU at c1;rw[if_pos g1]at c1;cases c1;refine⟨(it1.2 p1 H1 _ sm1.step sm1 g1).2,?_⟩;rw[ja]at e1;subst e1;exact k p1 H1 ys st1 sm1 sh1 w1 f1 hH (ft hl it.1) r1
theorem Tz{σ:St}{ρ:bZ}{xs:AZ×Gd}{J:It}{Q:VK}{D:Addr}(sm:aX K p S H)(ev:dM K p H ρ σ)(it:fJ K p H xs J)(k:bY K cl (cD K) p H ((fU xs.2 g mc me xs.1 (cJ own cap ρ) S).bind λys S2=>.ok (.pv (.lst ys)) S2) Q E)(hD:H D=none):
  yC J (gP K g) (tP K cl E0 RB mc) (tP K cl E0 (cD K) me) (iY own cap σ) H D Q:=by
 cases z:fU xs.2 g mc me xs.1 (cJ own cap ρ) S with
 |fail=>rw[z]at k;exact k.elim
 |exc n S'=>exact absurd z (Cj _ _ _ _ _)
 |ok zs S2=>
  rw[z]at k;have k:∀q H' x,bQ p H q H'->aX K q S2 H'->aT K q.c H' (.lst zs) x->Q x H':=k;refine Uz sm ev it z hD λq H' vs st1 sm1 sh1 w1 f1 hH l1 r1=>?_;refine k (q.less D) H' (.ref D) (st1.toLess hD) sh1.toLess ?_;unfold aT;exact⟨D,vs,rfl,.inl ⟨hH,λz=>z.2 rfl⟩,l1,oZ (λa h=>h.1) r1⟩
theorem T6(k:iA X sc own cap)(hi:iU K cl E X target iter mi)(hc:X.calm=true)(hg:∀C BE BF ex,lM K (eQ X sc (cR own cap) C BE BF ex) target g)(ht:∀C BE BF ex,gW K cl E0 (eQ X sc (cR own cap) C BE BF ex) cnd mc)(he:∀C BE BF ex,aU K cl E0 (eQ X sc (cR own cap) C BE BF ex) elt me)
  (hs:∀x,foldedSetIterable iter X.env x=pure x:=by intro _;rfl):aU K cl E X (.ListComp elt [⟨target,iter,[cnd],0⟩] sc pos) (xN own cap mi g mc me):=by
 intro hK;refine PE.imp (V3 k (hi hK) hc (λC BE BF ex=>hg C BE BF ex hK) (λC BE BF ex=>ht C BE BF ex hK) (λC BE BF ex=>he C BE BF ex hK) hs) ?_
 rintro σ H Q ⟨p,S,ρ,s,ev,h⟩
 exact cO s ev h λq H' xs J S' stp sm ev it kk D hD=>Tz sm ev it kk hD
end
end L2.Pp
namespace L2
open PySem PySem.Spec PyProof.Rows Bn
open L2.Pp
section
variable{X:Cx}{BD:List (Addr×Obj)}{σ:St}{H:Hp}{s:aa}{c:Addr->Prop}{a b:Addr}{n:Bool}{k:gF n}{ks:AZ}{us:AU}
theorem Qm:∀{l:AR}{vs:List V},aS X.K c H (l.map PV.int) vs->vs=l.map V.int
 |[],vs,h=>by
  unfold ko aS at h;exact h
 |i::l,vs,h=>by
  rw[aw]at h;unfold aS at h;obtain⟨v,r,rfl,h1,h2⟩:=h;unfold aT at h1;rw[h1,Qm h2];rfl
theorem Qr(I:aI X BD σ H s){l:AR}(r:aT X.K c H (.tup (l.map PV.int)) (.ref b)):gX s.heap l b:=by
 unfold aT at r;obtain⟨a,vs,e,sq,_,r⟩:=r;cases e;obtain⟨its,rv,⟨o,ho,hc,m,hd⟩,_⟩:=I.tuple sq;rw[Qm r]at rv;exact⟨o,its.toArray,m,ho,hc,hd,by simpa using rv⟩
theorem Nk(I:aI X BD σ H s):∀{l:AS}{vs:List V}{its:AU},aS X.K c H (l.map λr:AR=>PV.tup (r.map PV.int)) vs->bI vs its->iz (λk v=>∃b,v=dy b/\gX s.heap k b) l its
 |[],vs,its,h,rv=>by
  unfold ko aS at h;subst h;cases rv;exact .nil
 |i::l,vs,its,h,rv=>by
  rw[aw]at h;unfold aS at h;obtain⟨v,r,rfl,h1,h2⟩:=h;cases rv with
  |cons e t=>
   have h1':=h1;unfold aT at h1';obtain⟨a,ws,rfl,_⟩:=h1';cases e;exact .cons ⟨_,rfl,Qr I h1⟩ (Nk I h2 t)
theorem Ve(I:aI X BD σ H s):∀{n:Bool}{k:gF n}{b:Addr},aT X.K c H (eF n k) (.ref b)->(mH X.prog X.w n).is s.heap k b
 |false,k,b,r=>gX.key (Qr I r)
 |true,k,b,r=>by
  have r:aT X.K c H (.tup (ko (λr:AR=>PV.tup (r.map PV.int)) k)) (.ref b):=r;unfold aT at r;obtain⟨a,vs,e,sq,_,r⟩:=r;cases e;obtain⟨its,rv,⟨o,ho,hc,m,hd⟩,_⟩:=I.tuple sq;exact⟨o,its.toArray,m,ho,hc,hd,by simpa using Nk I r rv⟩
theorem Jc:∀{l m:AR},l.map PV.int=m.map PV.int->l=m
 |[],[],_=>rfl
 |[],_::_,h=>by cases h
 |_::_,[],h=>by cases h
 |i::l,j::m,h=>by
  rw[aw,aw]at h;injection h with h1 h2;injection h1 with h1;rw[h1,Jc h2]
theorem qV:∀{n:Bool}{k k':gF n},eF n k=eF n k'->k=k'
 |false,k,k',h=>by
  unfold eF at h;injection h with h;exact Jc h
 |true,k,k',h=>by
  unfold eF at h;injection h with h;have go:∀{l m:AS},l.map (λr:AR=>PV.tup (r.map PV.int))=m.map (λr:AR=>PV.tup (r.map PV.int))->l=m:=by
   intro l
   induction l with
   |nil=>
    intro m h;cases m with
    |nil=>rfl
    |cons _ _=>cases h
   |cons x l ih=>
    intro m h;cases m with
    |nil=>cases h
    |cons y m=>
     rw[aw,aw]at h;injection h with h1 h2;injection h1 with h1;rw[Jc h1,ih h2]
  exact go h
theorem wW:∀{ps:AZ}{vs:List V}{i:Nat}{v:V},aS X.K c H ps vs->vs[i]?=some v->∃p,ps[i]?=some p/\aT X.K c H p v:=λ{ps vs i v} r e=>by
 have hi:i<ps.length:=by
  rw[r.length];exact(br.mp e).1
 obtain⟨u,e1,e2⟩:=r.get (ax hi);rw[e]at e1;cases e1;exact⟨_,ax hi,e2⟩
theorem rL{es:Array DictEntry}{ep:Nat}(I:aI X BD σ H s)(h:H a=some (dO a es ep)):s.heap.get? a=some (oD es ep):=(I.hok a _ h).1
theorem N9{es:Array DictEntry}{ep:Nat}:(oD es ep).ExactDict:=⟨rfl,rfl,rfl⟩
theorem Bu(I:aI X BD σ H s){xs:List (gF n×Addr×Value)}{ep:Nat}(h:H a=some (dO a (xs.map (jQ n)).toArray ep))(nd:(xs.map (·.1)).Nodup)(r:aS X.K c H (xs.map λx=>eF n x.1) (xs.map λx=>V.ref x.2.1)):
  s.heap.DictOfH (mH X.prog X.w n) a xs:=by
 refine⟨_,_,ep,rL I h,N9,rfl,?_,λx hx=>?_,nd⟩
 .have:jQ n=entryOfKey (mH X.prog X.w n):=by
   funext x
   unfold jQ entryOfKey;rw[Pk]
  simp[this]
 .obtain⟨i,hi,e⟩:=tx.mp hx
  obtain⟨p,e1,e2⟩:=wW (i:=i) (v:=.ref x.2.1) r (by rw[bo,ax hi,e];rfl);rw[bo,ax hi,e]at e1;cases e1;exact Ve I e2
theorem Cn{xs:List (gF n×Addr×Value)}(nd:(xs.map (·.1)).Nodup):
  (∃(i:Nat)(p:Addr×Value),xs[i]?=some (k,p)/\atKey xs k=some p)\/((∀i:Nat,(xs.map λx=>eF n x.1)[i]?≠some (eF n k))/\atKey xs k=none):=by
 by_cases h:∃(i:Nat)(p:Addr×Value),xs[i]?=some (k,p)
 .obtain⟨i,p,h⟩:=h
  exact .inl ⟨i,p,h,atKey_of_get nd h⟩
 .refine .inr ⟨λi e=>?_,atKey_none_of_get λj p e=>h ⟨j,p,e⟩⟩
  rw[bo]at e;cases z:xs[i]? with
  |none=>rw[z]at e;cases e
  |some x=>
   rw[z]at e;have e:eF n x.1=eF n k:=ce e;exact h ⟨i,x.2,by rw[z,<-qV e]⟩
def qG(K:ag)(H:Hp)(a b:Addr)(vs:List V)(Q:V->Prop)(N:Prop):Prop:=
 ∃(c:Addr->Prop)(n:Bool)(k:gF n)(ks:AZ)(us:AU),oW K c H a n ks us/\bI vs us/\aT K c H (eF n k) (.ref b)/\(∀(i:Nat)(v:V),ks[i]?=some (eF n k)->vs[i]?=some v->Q v)/\((∀i:Nat,ks[i]?≠some (eF n k))->N)
theorem Dr(I:aI X BD σ H s){vs:List V}{Q:V->Prop}{N:Prop}(g:qG X.K H a b vs Q N):∃(n:Bool)(k:gF n)(xs:List (gF n×Addr×Value)),(a==sysModules)=false/\s.heap.DictOfH (mH X.prog X.w n) a xs/\(mH X.prog X.w n).is s.heap k b/\
  ((∃p v,atKey xs k=some p/\bS v p.2/\Q v)\/(atKey xs k=none/\N)):=by
 obtain⟨c,n,k,ks,us,⟨xs,ep,e,z,l,nd,rfl,r,rfl⟩,rv,rk,q1,q2⟩:=g;refine⟨n,k,xs,z,Bu I e nd r,Ve I rk,?_⟩;rcases Cn (k:=k) nd with⟨i,p,hx,ha⟩|⟨hn,ha⟩
 .have hi:=(br.mp hx).1
  have hv:i<vs.length:=by
   rw[rv.length,aj];exact hi
  obtain⟨u,e1,e2⟩:=rv.get (ax hv);rw[bo,hx]at e1;cases e1;exact .inl ⟨p,_,ha,e2,q1 i _ (by rw[bo,hx];rfl) (ax hv)⟩
 .exact .inr ⟨ha,q2 hn⟩
def acF(K:ag):V->List V->Hp->VK->Prop:=λx xs H Q=>∃a b z vs,x=.ref a/\xs=[.ref b,z]/\qG K H a b vs (λv=>Q v H) (Q z H)
theorem X7(hu:X.A.units+2<cLine):vK X "dict.get" (acF X.K):=by
 intro BD s σ H x xs v us Q I rx rv h;obtain⟨a,b,z,vs,rfl,rfl,g⟩:=h;cases rx;obtain⟨u1,u2,rfl,r1,r2⟩:=rv.two;cases r1;obtain⟨n,k,xs,hd,dd,hk,o⟩:=Dr I g;refine call_meetsIn o9 dd.typeIs PySem.F.entry_dict_get (PySem.F.args_dict_get_3 _ _ _) (meetsH_dict_get_default (mH X.prog X.w n) a b hd u2) ⟨Za hu n,k,xs,hk,dd,?_⟩;rcases o with⟨p,v,e,rv,q⟩|⟨e,q⟩
 .rw[e]
  exact⟨v,H,I.tok _,rv,q⟩
 .rw[e]
  exact⟨z,H,I.tok _,r2,q⟩
def afb(K:ag):R2:=λx y H Q=>∃a b vs,x=.ref a/\y=.ref b/\qG K H a b vs (λv=>Q v H) False
theorem abg(hu:X.A.units+2<cLine):mM X (afb X.K):=by
 intro value slice BD s σ H x y v u Q I rx ry h hs;obtain⟨a,b,vs,rfl,rfl,g⟩:=h;cases rx;cases ry;obtain⟨n,k,xs,hd,dd,hk,o⟩:=Dr I g;rcases o with⟨p,v,e,rv,q⟩|⟨e,q⟩
 .unfold subscriptTail
  refine ae ?_;rw[getitemInPython_of_ne dd.typeIs.not_modules];refine ae (wpAny_specialOf dd.typeIs PySem.F.slot_dict_getitem.lookup ?_);have fin:wpAny (model X.prog X.w) X.A (subscripted slice false (.ref a) (.ref b)) (λr s₃=>wpAny (model X.prog X.w) X.A (letTemporaryGo value (.ref a) r >>= λ_=>pure r) (EP X BD σ Q) X.xe s₃) X.xe s:=by
   rw[hs];exact wpAny_operating (wpAny_getItem_heap (Za hu n) hk dd e (ae (wpAny_letTemporaryGo (ao ⟨v,H,I.tok _,rv,q⟩))))
  first
   |exact ao (ae fin)
   |exact ae (ao (ae fin))
   |exact ae fin
 .exact q.elim
def oR(H:Hp)(a:Addr)(n:Bool)(ks:AZ)(rs:List V)(us:AU):Prop:=
 ∃(xs:List (gF n×Addr×Value))(ep:Nat),H a=some (dO a (xs.map (jQ n)).toArray ep)/\(a==sysModules)=false/\xs.length<=sizeLine/\(xs.map (·.1)).Nodup/\ks=xs.map (λx=>eF n x.1)/\rs=xs.map (λx=>V.ref x.2.1)/\us=xs.map (·.2.2)
theorem Cf{K:ag}(d:oW K c H a n ks us):∃rs,oR H a n ks rs us/\aS K c H ks rs:=by
 obtain⟨xs,ep,e,z,l,nd,ek,r,eu⟩:=d;exact⟨_,⟨xs,ep,e,z,l,nd,ek,rfl,eu⟩,r⟩
theorem oR.at_{K:ag}{rs:List V}(d:oR H a n ks rs us)(r:aS K c H ks rs):oW K c H a n ks us:=by
 obtain⟨xs,ep,e,z,l,nd,ek,er,eu⟩:=d;subst er;exact⟨xs,ep,e,z,l,nd,ek,r,eu⟩
def DPt(H:Hp)(a:Addr)(n:Bool)(ks:AZ)(rs:List V)(us:AU)(k:gF n)(b:Addr)(u:Value)(H':Hp):Prop:=
 ∃es ep,H'=aW H a (dO a es ep)/\((∃i:Nat,ks[i]?=some (eF n k)/\oR H' a n ks rs (us.set i u))\/((∀i:Nat,ks[i]?≠some (eF n k))/\oR H' a n (ks++[eF n k]) (rs++[.ref b]) (us++[u])))
theorem aab{xs:List (gF n×Addr×Value)}{i:Nat}{p:Addr×Value}{u:Value}(nd:(xs.map (·.1)).Nodup)(hx:xs[i]?=some (k,p)):(xs.map (putAt k u)).map (·.2.2)=(xs.map (·.2.2)).set i u:=by
 refine kq λj=>?_;have hi:=(br.mp hx).1;rw[uq,aj,bo,bo,bo]
 by_cases h:i=j
 .subst h
  rw[if_pos rfl,if_pos hi,hx];simp[putAt]
 .rw[if_neg h]
  cases z:xs[j]? with
  |none=>rfl
  |some x=>
   have:x.1≠k:=λe=>h (yn nd (p:=p) (q:=x.2) hx (by rw[z,<-e]));simp[putAt,this]
theorem W7{xs:List (gF n×Addr×Value)}{u:Value}:(xs.map (putAt k u)).map (λx=>V.ref x.2.1)=xs.map (λx=>V.ref x.2.1):=by
 rw[cw];refine ee λx _=>?_;simp only[q9,putAt];split<;>rfl
theorem Q8{xs:List (gF n×Addr×Value)}{u:Value}:(xs.map (putAt k u)).map (λx=>eF n x.1)=xs.map (λx=>eF n x.1):=by
 rw[cw];refine ee λx _=>?_;simp only[q9,putAt];split<;>rfl
def adF(K:ag):yZ:=λo i v H Q=>∃(a b:Addr)(c:Addr->Prop)(n:Bool)(k:gF n)(ks:AZ)(rs:List V)(us:AU),o=.ref a/\i=.ref b/\oR H a n ks rs us/\aS K c H ks rs/\aT K c H (eF n k) (.ref b)/\us.length<sizeLine/\
 ∀u H',bS v u->DPt H a n ks rs us k b u H'->Q H'
theorem Q5(hu:X.A.units+2<cLine):Lh X (adF X.K):=by
 intro BD s σ H o i v ov iv u Q I ro ri rv h;obtain⟨a,b,c,n,k,ks,rs,us,rfl,rfl,d,r,rk,hl,q⟩:=h;cases ro;cases ri;obtain⟨xs,ep,e,z,l,nd,rfl,rfl,rfl⟩:=d;have dd:=Bu I e nd r;rw[aj]at hl;refine wpAny_setItem_heap (hsz:=l) (Za hu n) (Ve I rk) dd λh' dd' hs=>?_;obtain⟨ob,es,ep',ho,hex,hd,he,_,hnd⟩:=dd';have eob:ob=oD es ep':=by
  obtain⟨e1,e2,e3⟩:=hex;cases ob;simp only at e1 e2 e3 hd;subst e1 e2 e3 hd;rfl
 subst eob;have een:jQ n=entryOfKey (mH X.prog X.w n):=by
  funext x
  unfold jQ entryOfKey;rw[Pk]
 have ees:es=((storedH xs k b u).map (jQ n)).toArray:=by
  rw[een,<-he]
 have I':aI X BD σ (aW H a (dO a es ep')) {s with heap:=h',toks:=s.toks+(mH X.prog X.w n).draws k}:=
  I.write (x:=a) (e:=a) (by rw[e];exact trivial) (.inl rfl) (λb' q' hb z'=>(hs.2 b' hb).trans z') ⟨_,ho⟩ ⟨ho,⟨_,ho⟩,λh1 h2 p kk=>kk _ p⟩
 refine⟨_,I',q u _ rv ⟨es,ep',rfl,?_⟩⟩;have hat:(aW H a (dO a es ep')) a=some (dO a ((storedH xs k b u).map (jQ n)).toArray ep'):=by rw[fH,ees]
 rcases Cn (k:=k) nd with⟨i,p,hx,ha⟩|⟨hn,ha⟩
 .refine .inl ⟨i,by rw[bo,hx];rfl,storedH xs k b u,ep',hat,z,?_,hnd,?_,?_,?_⟩
  .rw[ur ha,aj]
   exact l
  .rw[ur ha,Q8]
  .rw[ur ha,W7]
  .rw[ur ha,aab nd hx]
 .refine .inr ⟨hn,storedH xs k b u,ep',hat,z,?_,hnd,?_,?_,?_⟩
  .rw[uu ha,av]
   exact hl
  .rw[uu ha,du]<;>rfl
  .rw[uu ha,du]<;>rfl
  .rw[uu ha,du]<;>rfl
def Kh(x:V)(H:Hp):Prop:=∃a es ep,x=.ref a/\H a=some (dO a es ep)
theorem acJ{o e:ah}{es:List ah}{to:TE}{t:TA}{name:Str}{apos cpos:ai}{id:String}{r:V->List V->Hp->VK->Prop}(slot:Slot "dict" name id)(hty:typeOf (.builtin id)=pure (.type "method_descriptor"))(hm:vK X id r)(ho:PE X o to)(ha:PA X (e::es) t)
  (hbase:attributeBase o name X.env (eval o X.env)=eval o X.env:=by rfl)
  (hfew:((backTo cpos (starEach (e::es) X.env)).all (λx=>!x.1)&&(backToKw cpos (keywordEach [] X.env)).all (λx=>x.1.isSome)
   &&decide ((e::es).length+([]:List jg).length+(if([]:List jg).isEmpty then 0 else 1)<30))=true:=by rfl)
  (hline:(apos.endLine==cpos.line)=true:=by rfl)(hs:starEach (e::es) X.env=(false,eval e X.env)::starEach es X.env:=by rfl)(hplain:(backTo cpos (starEach es X.env)).any (·.1)=false:=by rfl):
  PE X (.Call (.Attribute o name apos) (e::es) [] cpos) (λσ H Q=>to σ H λx H1=>Kh x H1/\t σ H1 λxs H2=>r x xs H2 Q):=by
 intro BD s σ H Q I h;refine c7 hbase hfew hline rfl (bK (ho BD s σ H _ I h) λv s1 hq=>?_);rcases hq with⟨x,H1,I1,r1,⟨a,ds,ep,ex,hH⟩,q1⟩;subst ex;cases r1;have hg:=rL I1 hH;refine⟨"dict",id,r6,slot,hty,⟨_,hg,rfl⟩,λb eb=>?_,?_⟩
 .cases eb
  exact⟨_,hg,rfl⟩
 have hA:=ha cpos BD s1 σ H1 _ I1 q1;rw[hs]at hA⊢;refine wz (by show(false||(backTo cpos (starEach es X.env)).any (·.1))=false;rw[hplain]<;>rfl) (xa ?_);exact bK hA λus s2 ⟨vs,H2,I2,r2,q2⟩=>hm BD s2 σ H2 (.ref a) vs (.ref a) us Q I2 rfl r2 q2
theorem aa7(I:aI X BD σ H s):sysModules<s.heap.objs.size:=by
 have h:mainGlobals<s.heap.objs.size:=(I.mod.glob.keeps I.bk).lt;exact xk (by decide) h
theorem P0{pos:ai}:PE X (.Dict [] [] pos) (λ_ H Q=>∀p,H p=none->(p==sysModules)=false->Q (.ref p) (aW H p (dO p #[] 0))):=λBD s σ H Q I h=>
 wpAny_Dict_empty ⟨.ref s.heap.objs.size,_,I.laid (a:=s.heap.objs.size) (o:=dO s.heap.objs.size #[] 0) (t':=s.toks) (λ_ _ q=>ay _ q) (ak _) ⟨df _ rfl,⟨_,df _ rfl⟩,λh1 h2 p kk=>kk _ p⟩,rfl,
  h _ (I.hok.fresh (ak _)) (beq_eq_false_iff_ne.mpr (ik (de (aa7 I))))⟩
end
end L2
namespace L2.Pp
noncomputable section
open PySem PySem.Spec PyProof.Rows Bn
open Classical in
def jC{α:Type}(kvs:List (PV×α))(k:PV):Option Nat:=kvs.findIdx? λkv=>decide (kv.1=k)
def fL{α:Type}(kvs:List (PV×α))(k:PV):Option α:=match jC kvs k with
 |some i=>kvs[i]?.map (·.2)
 |none=>none
def gU{α:Type}(kvs:List (PV×α))(k:PV)(v:α):List (PV×α):=match jC kvs k with
 |some i=>kvs.set i (k,v)
 |none=>kvs++[(k,v)]
def zD(n:Bool)(k:PV):Prop:=∃k',k=eF n k'
theorem mT{α:Type}{kvs:List (PV×α)}{k:PV}{i:Nat}(h:jC kvs k=some i):∃v,kvs[i]?=some (k,v):=by
 unfold jC at h;obtain⟨hi,e,_⟩:=List.findIdx?_eq_some_iff_getElem.mp h;have e:kvs[i].1=k:=by simpa using e
 refine⟨kvs[i].2,?_⟩;rw[ax hi];congr 1;exact jt e rfl
theorem Hc{α:Type}{kvs:List (PV×α)}{k:PV}(h:jC kvs k=none)(i:Nat):(kvs.map (·.1))[i]?≠some k:=by
 unfold jC at h;rw[List.findIdx?_eq_none_iff]at h;intro e;rw[bo]at e;cases z:kvs[i]? with
 |none=>rw[z]at e;cases e
 |some x=>
  rw[z]at e;have:=h x (dg z);have e:x.1=k:=ce e;simp[e]at this
theorem Ze{α:Type}{kvs:List (PV×α)}{k:PV}{i:Nat}(h:(kvs.map (·.1))[i]?=some k):∃j,jC kvs k=some j:=by
 cases z:jC kvs k with
 |some j=>exact⟨j,rfl⟩
 |none=>exact absurd h (Hc z i)
def jZ(n:Bool):ME:=λ_ S=>.ok (.ref S.length) (S++[.dic n []])
open Classical in
def kM(d k:AV)(S:aH)(z:BB):bP AV:=match d,k with
 |.ref j,.pv k=>match S[j]? with
  |some (.dic n kvs)=>if zD n k then(match fL kvs k,z with
   |some v,_=>.ok (.pv v) S
   |none,some z=>.ok z S
   |none,none=>.fail)else .fail
  |_=>.fail
 |_,_=>.fail
def mI(md mk:ME):ME:=λρ S=>(md ρ S).bind λd S1=>(mk ρ S1).bind λk S2=>kM d k S2 none
def uR{α:Type}(d:AV)(S:aH)(f:bP α):bP α:=match d with
 |.ref j=>(match S[j]? with
  |some (.dic _ _)=>f
  |_=>.fail)
 |_=>.fail
def pR(md:ME)(ms:MA):ME:=λρ S=>(md ρ S).bind λd S1=>uR d S1 ((ms ρ S1).bind λks S2=>match ks with
 |[k,z]=>kM d k S2 (some z)
 |_=>.fail)
open Classical in
def lE(d k v:AV)(S:aH):bP AV:=match d,k,v with
 |.ref j,.pv k,.pv v=>match S[j]? with
  |some (.dic n kvs)=>if zD n k/\kvs.length<16777216 then .ok (.pv .non) (S.set j (.dic n (gU kvs k v)))else .fail
  |_=>.fail
 |_,_,_=>.fail
def kK(md mk mv:ME):MS:=λρ S=>cN.of (mv ρ S) λv S1=>cN.of (md ρ S1) λd S2=>cN.of (mk ρ S2) λk S3=>cN.of (lE d k v S3) λ_ S4=>.nx ρ S4
section
variable{K:ag}{cl:Str->Addr}{E:XK}{X:Cx}{p q:Ph}{H H':Hp}{S:aH}{a b e o i v:ah}{es:List ah}{m md mk mv:ME}{ms:MA}{pos:ai}
theorem aaS(n:Bool):aU K cl E X (.Dict [] [] pos) (jZ n):=by
 intro hK;subst hK;refine PE.imp P0 ?_
 rintro σ H Q ⟨p,S,ρ,s,ev,h⟩ t ht hs
 have ob:oM X.K ⟨p.f++[t],λa=>p.w a\/a=t,λa=>p.c a\/a=t⟩ (aW H t (dO t #[] 0)) t (.dic n []):=
  ⟨[],[],⟨[],0,fH,hs,gn _,qq,rfl,.nil,rfl⟩,.nil,.nil⟩
 obtain⟨st,sm⟩:=s.pushO ht (show Mb (dO t #[] 0) from trivial) ob;exact h _ _ (.ref t) st sm ⟨t,by show(p.f++[t])[S.length]?=some t;rw[<-s.len,dz (ak _),ie];rfl,rfl⟩
theorem Ht(s:aX K p S H){j:Nat}{a:Addr}{n:Bool}{kvs:List (PV×PV)}{k:PV}{y:V}{Q:V->Prop}{N:Prop}(ej:p.f[j]?=some a)(z:S[j]?=some (.dic n kvs))(hk:zD n k)(ry:aT K p.c H k y)
  (q:∀v x,fL kvs k=some v->aT K p.c H v x->Q x)(qn:fL kvs k=none->N):∃b vs,y=.ref b/\qG K H a b vs Q N:=by
 obtain⟨k',rfl⟩:=hk;obtain⟨us,vs,d,rv,r⟩:=s.obj j a _ ej z;have ey:∃b,y=.ref b:=by
  cases n with
  |false=>
   have ry:aT K p.c H (.tup (ko PV.int k')) y:=ry;unfold aT at ry;obtain⟨b,_,e,_⟩:=ry;exact⟨b,e⟩
  |true=>
   have ry:aT K p.c H (.tup (ko (λr:AR=>PV.tup (r.map PV.int)) k')) y:=ry;unfold aT at ry;obtain⟨b,_,e,_⟩:=ry;exact⟨b,e⟩
 obtain⟨b,rfl⟩:=ey;have nd:∀i j:Nat,(kvs.map (·.1))[i]?=some (eF n k')->(kvs.map (·.1))[j]?=some (eF n k')->i=j:=by
  obtain⟨xs,ep,_,_,_,nd,ek,_⟩:=d;intro i j h1 h2;rw[ek,bo]at h1 h2;cases z1:xs[i]? with
  |none=>rw[z1]at h1;cases h1
  |some x=>
   cases z2:xs[j]? with
   |none=>rw[z2]at h2;cases h2
   |some y=>
    rw[z1]at h1;rw[z2]at h2;have e1:=qV (ce h1);have e2:=qV (ce h2);have e1:x.1=k':=e1;have e2:y.1=k':=e2;exact yn nd (p:=x.2) (q:=y.2) (k:=k') (by rw[z1,<-e1]) (by rw[z2,<-e2])
 refine⟨b,vs,rfl,p.c,n,k',_,us,d,rv,ry,λi x h1 h2=>?_,λhn=>qn ?_⟩
 .obtain⟨j',hj⟩:=Ze h1
  obtain⟨v,hv⟩:=mT hj;have ei:j'=i:=nd j' i (by rw[bo,hv];rfl) h1;subst ei;obtain⟨x',e1,e2⟩:=r.get (i:=j') (p:=v) (by rw[bo,hv];rfl);rw[h2]at e1;cases e1;exact q v x (by unfold fL;rw[hj];simp[hv]) e2
 .cases z:jC kvs (eF n k')with
  |none=>unfold fL;rw[z]
  |some i=>
   obtain⟨v,hv⟩:=mT z;exact absurd (by rw[bo,hv];rfl) (hn i)
theorem Sm{d k:AV}{z:BB}{x y:V}{Q:VK}(s:aX K p S H)(rd:cD K p H d x)(rk:cD K p H k y)(h:bY K cl (cD K) p H (kM d k S z) Q E):
  ∃a b vs,x=.ref a/\y=.ref b/\qG K H a b vs (λv=>Q v H) (∃w,z=some w/\∀u,cD K p H w u->Q u H):=by
 cases d with
 |pv _=>cases k<;>exact h.elim
 |ref j=>
  cases k with
  |ref _=>exact h.elim
  |pv k=>
   obtain⟨a,ej,rfl⟩:=rd;unfold kM at h;dsimp only at h;split at h
   .rename_i n kvs hS
    split at h
    .rename_i hk
     obtain⟨b,vs,e,g⟩:=Ht (y:=y) (Q:=λv=>Q v H) (N:=∃w,z=some w/\∀u,cD K p H w u->Q u H) s ej hS hk rk (λv x e r=>by
      rw[e]at h;exact bY.ret (R:=cD K) (a:=.pv v) h s r) (λe=>by
      rw[e]at h;cases z with
      |none=>exact h.elim
      |some w=>exact⟨w,rfl,λu r=>bY.ret (R:=cD K) h s r⟩)
     exact⟨a,b,vs,rfl,e,g⟩
    .exact h.elim
   .exact h.elim
theorem Is{a b:Addr}{vs:List V}{Q Q':V->Prop}{N N':Prop}(g:qG K H a b vs Q N)(f:∀v,Q v->Q' v)(f':N->N'):qG K H a b vs Q' N':=by
 obtain⟨c,n,k,ks,us,d,rv,rk,q1,q2⟩:=g;exact⟨c,n,k,ks,us,d,rv,rk,λi v h1 h2=>f v (q1 i v h1 h2),λh=>f' (q2 h)⟩
theorem abU(hu:X.A.units+8<cLine)(ha:aU K cl E X a md)(hb:aU K cl E X b mk)(hs:wZ b:=by intro _ _;rfl):aU K cl E X (.Subscript a b pos) (mI md mk):=by
 intro hK;subst hK;refine PE.imp (Qg (abg (by omega)) (ha rfl) (hb rfl) hs) ?_
 rintro σ H Q ⟨p,S,ρ,s,ev,h⟩
 refine cO s ev h λq H1 d x S1 st s1 e1 r1 h1=>cO s1 e1 h1 λq2 H2 k y S2 st2 s2 e2 r2 h2=>?_;obtain⟨a,b,vs,ex,ey,g⟩:=Sm s2 (st2.repA r1) r2 h2;exact⟨a,b,vs,ex,ey,Is g (λ_ h=>h) λ⟨w,e,_⟩=>nomatch e⟩
theorem E4{α β:Type}{R:Ph->Hp->α->β->Prop}{d:AV}{x:V}{f:bP α}{Q:β->Hp->Prop}(s:aX K p S H)(rd:cD K p H d x)(h:bY K cl R p H (uR d S f) Q E):Kh x H/\bY K cl R p H f Q E:=by
 cases d with
 |pv _=>exact h.elim
 |ref j=>
  obtain⟨a,ej,rfl⟩:=rd;unfold uR at h;dsimp only at h;split at h
  .rename_i n kvs hS
   obtain⟨us,vs,⟨xs,ep,e,_⟩,_⟩:=s.obj j a _ ej hS;exact⟨⟨a,_,_,rfl,e⟩,h⟩
  .exact h.elim
theorem abq{apos cpos:ai}{f:ah}(hu:X.A.units+8<cLine)(ho:aU K cl E X o md)(ha:eT K cl E X [e,f] ms)(hbase:attributeBase o "get" X.env (eval o X.env)=eval o X.env:=by rfl)
  (hfew:((backTo cpos (starEach [e,f] X.env)).all (λx=>!x.1)&&(backToKw cpos (keywordEach [] X.env)).all (λx=>x.1.isSome)&&decide (([e,f]:List ah).length+([]:List jg).length+(if([]:List jg).isEmpty then 0 else 1)<30))=true:=by rfl)
  (hline:(apos.endLine==cpos.line)=true:=by rfl)(hs:starEach [e,f] X.env=(false,eval e X.env)::starEach [f] X.env:=by rfl)(hplain:(backTo cpos (starEach [f] X.env)).any (·.1)=false:=by rfl):aU K cl E X (.Call (.Attribute o "get" apos) [e,f] [] cpos) (pR md ms):=by
 intro hK;subst hK;refine PE.imp (acJ o9 PySem.F.type_dict_get (X7 (by omega)) (ho rfl) (ha rfl) hbase hfew hline hs hplain) ?_
 rintro σ H Q ⟨p,S,ρ,s,ev,h⟩
 refine cO s ev h λq H1 d x S1 st s1 e1 r1 h1=>?_;obtain⟨hd,h1⟩:=E4 s1 r1 h1;refine⟨hd,cO s1 e1 h1 λq2 H2 ks ys S2 st2 s2 e2 r2 h2=>?_⟩;cases r2 with
 |nil=>exact h2.elim
 |cons r3 rr=>
  cases rr with
  |nil=>exact h2.elim
  |cons r4 rs=>
   cases rs with
   |nil=>
    obtain⟨a,b,vs,ex,ey,g⟩:=Sm s2 (st2.repA r1) r3 h2;exact⟨a,b,_,vs,ex,by rw[ey],Is g (λ_ h=>h) λ⟨w',e,q'⟩=>by cases e;exact q' _ r4⟩
   |cons _ _=>exact h2.elim
theorem aX.writeO(s:aX K p S H){D:Addr}{k:Nat}{o:SO}{ho:HO}(h:p.f[k]?=some D)(hk:k<S.length)(mo:Mb ho)(ob:bQ p H p (aW H D ho)->oM K p (aW H D ho) D o):bQ p H p (aW H D ho)/\aX K p (S.set k o) (aW H D ho):=by
 have w:p.w D:=s.sub D (dg h);have st:bQ p H p (aW H D ho):=⟨s.wc,s.mu,kh,λ_ h=>h,λ_ h=>h,λ_ h g=>absurd h g,λ_ h g=>absurd h g,λ_ h g=>absurd h g,λa u e nw=>by
  rw[bT (λz:a=D=>nw (by rw[z];exact w))];exact e⟩
 refine⟨st,s.nd,by rw[fk];exact s.len,s.sub,s.wc,λa x=>?_,λj a u e1 e2=>?_⟩
 .by_cases z:a=D
  .rw[z,fH]
   exact⟨ho,rfl,mo⟩
  .rw[bT z]
   exact s.mu a x
 .by_cases hj:k=j
  .subst hj
   rw[dj hk]at e2;cases e2;rw[h]at e1;cases e1;exact ob st
  .rw[fj hj]at e2
   have ne:a≠D:=λz=>hj (qQ s.nd h (by rw[z]at e1;exact e1));exact(s.obj j a u e1 e2).mono (λvs e=>by rw[bT ne];exact e) (λb w f=>⟨⟨w,f⟩,λvs e=>by rw[bT (λz:b=D=>f (z▸dg h))];exact e⟩) λ_ _ r=>st.reps r
theorem bI.setI{vs:List V}{us:AU}{x:V}{u:Value}(r:bI vs us)(rx:bS x u):∀i,bI (vs.set i x) (us.set i u):=λi=>r.set rx i
theorem aan{tpos:ai}(hu:X.A.units+8<cLine)(hv:aU K cl E X v mv)(ho:aU K cl E X o md)(hi:aU K cl E X i mk)
  (ha:∀v,assign (.Subscript o i tpos) X.env v=(do
   let ov <-holding [v] (eval o X.env)
   let iv <-holding [v,ov] (eval i X.env)
   standAt tpos
   holding [v,ov,iv] (setItem ov iv v)
   release [v,ov,iv] []):=by intro _;rfl)
  (hs:swapsWithSole [.Subscript o i tpos] v pos.line X.env=pure false:=by rfl)(hw:swappedStores [.Subscript o i tpos] v X.env=pure none:=by rfl)
  (h1:(assignEach [.Subscript o i tpos] X.env).map (·.2)=[assign (.Subscript o i tpos) X.env]:=by rfl):eZ K cl E X (.Assign [.Subscript o i tpos] v pos) (kK md mk mv):=by
 intro hK;subst hK;refine PS.imp (xL (hv rfl) (Ye (ho rfl) (hi rfl) (Q5 (by omega)) ha) hs hw h1) ?_
 rintro D σ H ⟨p,S,ρ,s,ev,h⟩
 refine jJ s ev h λq H1 v x S1 st s1 e1 r1 h1=>?_;refine jJ s1 e1 h1 λq2 H2 d y S2 st2 s2 e2 r2 h2=>?_;refine jJ s2 e2 h2 λq3 H3 k z S3 eM s3 e3 r3 h3=>?_;have r2:=eM.repA r2;have r1:=eM.repA (st2.repA r1);cases d with
 |pv _=>cases k<;>cases v<;>exact h3.elim
 |ref j=>
  cases k with
  |ref _=>cases v<;>exact h3.elim
  |pv k=>
   cases v with
   |ref _=>exact h3.elim
   |pv v=>
    obtain⟨a,ej,rfl⟩:=r2;have h3:eP X.K cl q3 H3 (cN.of (lE (.ref j) (.pv k) (.pv v) S3) λ_ S4=>.nx ρ S4) D E:=h3;unfold lE at h3;dsimp only at h3;cases hS:S3[j]? with
    |none=>simp only[hS]at h3;exact h3.elim
    |some o=>
     cases o with
     |lst _=>simp only[hS]at h3;exact h3.elim
     |lol _=>simp only[hS]at h3;exact h3.elim
     |dol _ _=>simp only[hS]at h3;exact h3.elim
     |dic n kvs=>
      simp only[hS]at h3
      by_cases hc:zD n k/\kvs.length<16777216
      .rw[if_pos hc]at h3
       obtain⟨⟨k',rfl⟩,hl⟩:=hc;obtain⟨us,vs,d,rv,r⟩:=s3.obj j a _ ej hS;have rk:aT X.K q3.c H3 (eF n k') z:=r3;have ez:∃b,z=.ref b:=by
        obtain⟨b,_,e,_⟩:=Ht (Q:=λ_=>True) (N:=True) s3 ej hS ⟨k',rfl⟩ rk (λ_ _ _ _=>trivial) λ_=>trivial;exact⟨b,e⟩
       obtain⟨b,rfl⟩:=ez;obtain⟨rs,dw,rr⟩:=Cf d;have lu:us.length=kvs.length:=by
        rw[<-rv.length,<-r.length,aj]
       refine⟨a,b,q3.c,n,k',_,rs,us,rfl,rfl,dw,rr,rk,by rw[lu,jF];exact hl,λu H' ru hp=>?_⟩;obtain⟨es,ep,rfl,hp⟩:=hp;have hj:=(br.mp hS).1;obtain⟨st4,sm4⟩:=s3.writeO (o:=.dic n (gU kvs (eF n k') v)) ej hj (show Mb (dO a es ep) from trivial) λst4=>by
        rcases hp with⟨i,hi,dw'⟩|⟨hn,dw'⟩
        .obtain⟨i',hi'⟩:=Ze hi
         obtain⟨w,hw'⟩:=mT hi';have ei:i'=i:=by
          obtain⟨xs,_,_,_,_,nd,ek,_⟩:=dw;have g1:(kvs.map (·.1))[i']?=some (eF n k'):=by rw[bo,hw'];rfl
          rw[ek,bo]at g1 hi;cases z1:xs[i']? with
          |none=>rw[z1]at g1;cases g1
          |some x1=>
           cases z2:xs[i]? with
           |none=>rw[z2]at hi;cases hi
           |some x2=>
            rw[z1]at g1;rw[z2]at hi;have e1:x1.1=k':=qV (ce g1);have e2:x2.1=k':=qV (ce hi);exact yn nd (p:=x1.2) (q:=x2.2) (k:=k') (by rw[z1,<-e1]) (by rw[z2,<-e2])
         subst ei;have ek:gU kvs (eF n k') v=kvs.set i' (eF n k',v):=by unfold gU;rw[hi']
         refine⟨us.set i' u,vs.set i' x,?_,bI.setI rv ru i',?_⟩
         .rw[ek]
          have e1:(kvs.set i' (eF n k',v)).map (·.1)=kvs.map (·.1):=by
           rw[qs];refine kq λt=>?_;rw[uq];split
           .rename_i ht
            subst ht;rw[if_pos (by rw[aj];exact(br.mp hw').1),bo,hw'];rfl
           .rfl
          rw[e1];exact dw'.at_ (st4.reps rr)
         .rw[ek,qs]
          exact aS.set (st4.rep r1) i' (st4.reps r)
        .have ei:jC kvs (eF n k')=none:=by
          cases z0:jC kvs (eF n k')with
          |none=>rfl
          |some i=>
           obtain⟨w,hw'⟩:=mT z0;exact absurd (by rw[bo,hw'];rfl) (hn i)
         have ek:gU kvs (eF n k') v=kvs++[(eF n k',v)]:=by unfold gU;rw[ei]
         refine⟨us++[u],vs++[x],?_,bI.append rv (.cons ru .nil),?_⟩
         .rw[ek,du]
          exact dw'.at_ ((st4.reps rr).append (.cons (st4.rep rk) .nil))
         .rw[ek,du]
          exact(st4.reps r).append (.cons (st4.rep r1) .nil)
       exact h3 _ _ _ st4 sm4 (st4.repE e3)
      .rw[if_neg hc]at h3
       exact h3.elim
end
end
end L2.Pp
namespace L2
open PySem PySem.Spec PyProof.Rows Bn L2.Pp
section
variable{prog:Program}{w:aq}{A:au}{E:Value->aa->Prop}{s:aa}{it d i ep:Nat}{es:Array DictEntry}
theorem Jq{h:i<es.size}:(if(i:Int)<0 then none else es[(i:Int).toNat]?)=some es[i]:=by
 rw[if_neg (by omega),mq,r8 h]
theorem Xr{h:¬i<es.size}:(if(i:Int)<0 then none else es[(i:Int).toNat]?)=none:=by
 rw[if_neg (by omega),mq,Array.getElem?_eq_none (by omega)]
theorem Us{Q:AW->aa->Prop}{h1:Heap}(hh:A.handled=none)(sb:ox it s.heap h1)(q:∀h',ox it s.heap h'->Q none {s with heap:=h'}):
  wpAny (model prog w) A.in1 (newExc (.type "StopIteration") [] >>= raiseNew (α:=pr)) (λ_ _=>False) (λe s'=>wpAny (model prog w) A (isInstance e (.type "StopIteration")) (λb s2=>b=true/\Q none s2) E s') {s with heap:=h1}:=by
 refine ae ?_;simp only[newExc,newTuple];refine ae (iu ?_ (by size_fits));refine ae (m:=firstArgMember _ _) (wpAny_of_eq (a:=cx) (by first |rfl |(simp only[firstArgMember];rfl)) ?_)
 refine iu ?_ (by size_fits);simp only[raiseNew];refine ae (wpAny_handled ?_);rw[show A.in1.handled=none from hh];refine ae (ao (wpAny_throw ?_));exact xx (T:="StopIteration") (b:=true) ⟨_,df _ rfl,rfl⟩ isSubtype_stop ⟨rfl,q _ ((sb.push _).push _)⟩
theorem Tq{Q:pr->aa->Prop}{E':Value->aa->Prop}(hit:s.heap.IsKeyIter it d i es.size ep)(hd:s.heap.get? d=some (oD es ep))
  (q1:∀h:i<es.size,∀h',h'.IsKeyIter it d (i+1) es.size ep->io it s.heap h'->Q (.done (.ret es[i].key)) {s with heap:=h'})
  (q2:¬i<es.size->∀h',io it s.heap h'->wpAny (model prog w) A.in1 (newExc (.type "StopIteration") [] >>= raiseNew (α:=pr)) Q E' {s with heap:=h'}):
  wpAny (model prog w) A.in1 (Builtin.«dict_keyiterator.__next__» ⟨[.ref it],[]⟩) Q E' s:=by
 obtain⟨o,ho,hc,hf⟩:=id hit;have nm:∀{s':aa}{R:Nat->aa->Prop},s'.TypeIs (.ref it) "dict_keyiterator"->R 0 s'->wpAny (model prog w) A.in1 (do let t <-typeNameOfWhole (.ref it);pure (if qu t then 2 else 0)) R E' s':=λhT r=>
  ae (wpAny_typeNameOfWhole_keyiter hT (ao (by rw[show qu "dict_keyiterator"=false by decide];exact r)))
 refine ae (ao (ae (ae (nm hit.typeIs (ae (wpAny_fieldsOf ho hf ?_))))));show wpAny _ _ (if(dy d==cx)=true then _ else _) _ _ s;rw[if_neg (show ¬((dy d==cx)=true) from iw)];refine ae (ao (ae (uv hd rfl ?_)));rw[if_neg (by simp)];refine ae (ao (ae (uw hd rfl ?_)));rw[if_neg (by simp)];refine ao ?_
 by_cases h:i<es.size
 .simp only[Jq (h:=h)]
  refine ae (nm hit.typeIs (ae (t7 hit.typeIs ?_)));show wpAny _ _ (setField (.ref it) 1 (rawInt ((i:Int)+1)) >>= _) _ _ s;refine ae (nh ho hf (by simp) ?_);have hit':(s.heap.update it (uz (·.setIfInBounds 1 (rawInt ((i:Int)+1))))).IsKeyIter it d (i+1) es.size ep:=
   ⟨_,ss _ ho (xq (ow hf _)),(xu ..).trans hc,by rw[ow hf];simp[rawInt]⟩
  have tt:t9 {s with heap:=s.heap.update it (uz (·.setIfInBounds 1 (rawInt ((i:Int)+1))))} (.ref it) "dict_keyiterator":=hit'.typeIs;exact ae (kx (ae (t7 tt (ao (ao (q1 h _ hit' (ou ..)))))))
 .simp only[Xr (h:=h)]
  refine ae (nm hit.typeIs ?_);exact ae (nh ho hf (by simp) (q2 h _ (ou ..)))
theorem Vr{Q:pr->aa->Prop}{E':Value->aa->Prop}(hit:s.heap.IsValIter it d i es.size ep)(hd:s.heap.get? d=some (oD es ep))
  (q1:∀h:i<es.size,∀h',h'.IsValIter it d (i+1) es.size ep->io it s.heap h'->Q (.done (.ret es[i].val)) {s with heap:=h'})
  (q2:¬i<es.size->∀h',io it s.heap h'->wpAny (model prog w) A.in1 (newExc (.type "StopIteration") [] >>= raiseNew (α:=pr)) Q E' {s with heap:=h'}):
  wpAny (model prog w) A.in1 (Builtin.«dict_valueiterator.__next__» ⟨[.ref it],[]⟩) Q E' s:=by
 obtain⟨o,ho,hc,hf⟩:=id hit;have nm:∀{s':aa}{R:Nat->aa->Prop},s'.TypeIs (.ref it) "dict_valueiterator"->R 0 s'->wpAny (model prog w) A.in1 (do let t <-typeNameOfWhole (.ref it);pure (if qu t then 2 else 0)) R E' s':=λhT r=>
  ae (wpAny_typeNameOfWhole_valiter hT (ao (by rw[show qu "dict_valueiterator"=false by decide];exact r)))
 refine ae (ao (ae (ae (nm hit.typeIs (ae (wpAny_fieldsOf ho hf ?_))))));show wpAny _ _ (if(dy d==cx)=true then _ else _) _ _ s;rw[if_neg (show ¬((dy d==cx)=true) from iw)];refine ae (ao (ae (uv hd rfl ?_)));rw[if_neg (by simp)];refine ae (ao (ae (uw hd rfl ?_)));rw[if_neg (by simp)];refine ao ?_
 by_cases h:i<es.size
 .simp only[Jq (h:=h)]
  refine ae (nm hit.typeIs (ae (yo hit.typeIs ?_)));show wpAny _ _ (setField (.ref it) 1 (rawInt ((i:Int)+1)) >>= _) _ _ s;refine ae (nh ho hf (by simp) ?_);have hit':(s.heap.update it (uz (·.setIfInBounds 1 (rawInt ((i:Int)+1))))).IsValIter it d (i+1) es.size ep:=
   ⟨_,ss _ ho (xq (ow hf _)),(xu ..).trans hc,by rw[ow hf];simp[rawInt]⟩
  have tt:t9 {s with heap:=s.heap.update it (uz (·.setIfInBounds 1 (rawInt ((i:Int)+1))))} (.ref it) "dict_valueiterator":=hit'.typeIs;exact ae (kx (ae (yo tt (ae (yo tt (ao (ao (q1 h _ hit' (ou ..)))))))))
 .simp only[Xr (h:=h)]
  refine ae (nm hit.typeIs ?_);exact ae (nh ho hf (by simp) (q2 h _ (ou ..)))
theorem aaE{Q:AW->aa->Prop}(hit:s.heap.IsKeyIter it d i es.size ep)(hd:s.heap.get? d=some (oD es ep))(h:i<es.size)
  (q:∀h',h'.IsKeyIter it d (i+1) es.size ep->io it s.heap h'->Q (some es[i].key) {s with heap:=h'}):wpAny (model prog w) A (pyNext (.ref it)) Q E s:=by
 unfold pyNext;exact ae (oz (km (name:=cy "__next__") hit.typeIs qv (jh qv hit.typeIs u4
  (Tq hit hd (λ_ h' a b=>⟨_,rfl,ao (q h' a b)⟩) λn=>absurd h n) (u5 _))))
theorem abP{Q:AW->aa->Prop}(hh:A.handled=none)(hit:s.heap.IsKeyIter it d i es.size ep)(hd:s.heap.get? d=some (oD es ep))(h:¬i<es.size)
  (q:∀h',ox it s.heap h'->Q none {s with heap:=h'}):wpAny (model prog w) A (pyNext (.ref it)) Q E s:=by
 unfold pyNext;exact ae (oz (km (name:=cy "__next__") hit.typeIs qv (jh qv hit.typeIs u4
  (Tq hit hd (λn=>absurd n h) λ_ h' sb=>gh (Us (E:=E) hh sb.extBut q) (λ_ _ z=>z.elim) λe s2 z=>ae (bK z λb s3 ⟨hb,q3⟩=>by subst hb;exact ao q3)) (u5 _))))
theorem Y5(hh:A.handled=none)(I d:Addr)(hne:d≠I)(es:Array DictEntry)(ep:Nat):
  Walks prog w A I [I,d] [I] es.size (λi v=>∃h:i<es.size,v=es[i].key) (λi h=>h.IsKeyIter I d i es.size ep/\h.get? d=some (oD es ep)) where
 sub:=λb hb=>by simp at hb;simp[hb]
 frame:=λ_ _ _ st hk=>⟨st.1.at λo e=>hk I (by simp) o e,hk d (by simp) _ st.2⟩
 item:=λi s Q E hi st hQ=>aaE st.1 st.2 hi λh' hit' sb=>hQ _ h' s.toks ⟨hi,rfl⟩ ⟨hit',(sb.2 d hne).trans st.2⟩ λb o hb e=>sb.extBut b o (λz=>hb (by simp[z])) e
 done:=λs Q E st hQ=>abP hh st.1 st.2 (je _) λh' eb=>hQ h' s.toks λb o hb e=>eb b o (λz=>hb (by simp[z])) e
 self:=λ_ _ _ _ st hQ=>wpAny_pyIter_keyiter st.1 hQ
theorem aaw{Q:AW->aa->Prop}(hit:s.heap.IsValIter it d i es.size ep)(hd:s.heap.get? d=some (oD es ep))(h:i<es.size)
  (q:∀h',h'.IsValIter it d (i+1) es.size ep->io it s.heap h'->Q (some es[i].val) {s with heap:=h'}):wpAny (model prog w) A (pyNext (.ref it)) Q E s:=by
 unfold pyNext;exact ae (oz (km (name:=cy "__next__") hit.typeIs qw (jh qw hit.typeIs u6
  (Vr hit hd (λ_ h' a b=>⟨_,rfl,ao (q h' a b)⟩) λn=>absurd h n) (u7 _))))
theorem acr{Q:AW->aa->Prop}(hh:A.handled=none)(hit:s.heap.IsValIter it d i es.size ep)(hd:s.heap.get? d=some (oD es ep))(h:¬i<es.size)
  (q:∀h',ox it s.heap h'->Q none {s with heap:=h'}):wpAny (model prog w) A (pyNext (.ref it)) Q E s:=by
 unfold pyNext;exact ae (oz (km (name:=cy "__next__") hit.typeIs qw (jh qw hit.typeIs u6
  (Vr hit hd (λn=>absurd n h) λ_ h' sb=>gh (Us (E:=E) hh sb.extBut q) (λ_ _ z=>z.elim) λe s2 z=>ae (bK z λb s3 ⟨hb,q3⟩=>by subst hb;exact ao q3)) (u7 _))))
theorem V4(hh:A.handled=none)(I d:Addr)(hne:d≠I)(es:Array DictEntry)(ep:Nat):
  Walks prog w A I [I,d] [I] es.size (λi v=>∃h:i<es.size,v=es[i].val) (λi h=>h.IsValIter I d i es.size ep/\h.get? d=some (oD es ep)) where
 sub:=λb hb=>by simp at hb;simp[hb]
 frame:=λ_ _ _ st hk=>⟨st.1.at λo e=>hk I (by simp) o e,hk d (by simp) _ st.2⟩
 item:=λi s Q E hi st hQ=>aaw st.1 st.2 hi λh' hit' sb=>hQ _ h' s.toks ⟨hi,rfl⟩ ⟨hit',(sb.2 d hne).trans st.2⟩ λb o hb e=>sb.extBut b o (λz=>hb (by simp[z])) e
 done:=λs Q E st hQ=>acr hh st.1 st.2 (je _) λh' eb=>hQ h' s.toks λb o hb e=>eb b o (λz=>hb (by simp[z])) e
 self:=λ_ _ _ _ st hQ=>wpAny_pyIter_valiter st.1 hQ
theorem ac3{Q:Value->aa->Prop}(ns:(d==sysModules)=false)(hd:s.heap.get? d=some (oD es ep))
  (q:Q (.ref s.heap.objs.size) {s with heap:=s.heap.push {cls:=.type "dict_keyiterator",data:=.fields #[.ref d,.int 0 0,.int es.size 0,.int ep 0]}}):wpAny (model prog w) A (pyIter (.ref d)) Q E s:=by
 have hT:s.TypeIs (.ref d) "dict":=⟨_,hd,rfl⟩;refine wpAny_pyIter_slot hT u8 (jh u8 hT F.entry_dict_iter ?_ (F.args_dict_iter_1 _));refine ae (ae (u9 hT (ao ?_)));show wpAny _ _ (va d >>= _) _ _ s;unfold va;rw[if_neg (by rw[ns];exact iw)];refine ae (ao (ae (uv hd rfl (ae (uw hd rfl ?_)))));exact ae (iu (ao ⟨_,rfl,"dict_keyiterator",_,⟨_,df _ rfl,rfl⟩,qv.lookup,q⟩))
theorem ad5(ns:(d==sysModules)=false):PySem.W.KdlSrc prog w "dict" d d es.size (λi v=>∃h:i<es.size,v=es[i].key) (λh=>h.get? d=some (oD es ep)) where
 type:=λ_ hm=>⟨_,hm,rfl⟩
 there:=λ_ hm=>⟨bj hm,bj hm⟩
 keep:=λ_ _ hm hk=>hk d (.inl rfl) _ hm
 notList:=by decide
 notTuple:=by decide
 hint:=λ_ _ _ _ hm hq=>PySem.W.kdl_hint_dict ⟨_,hm,rfl⟩ hq
 iter:=λ_ _ hh hm=>⟨_,_,(λ_ _ hq=>ac3 ns hm hq),Y5 hh _ d (de (bj hm)) es ep,⟨⟨_,df _ rfl,rfl,rfl⟩,ay _ hm⟩⟩
end
section
variable{X:Cx}
theorem Vy(hc:X.calm=true):iZ X (.type "list") (λxs H Q=>∃(a:Addr)(n:Bool)(ks:AZ)(rs:List V)(us:AU),xs=[.ref a]/\oR H a n ks rs us/\∀l,H l=none->Q (.ref l) (aW H l (.lst rs))):=by
 intro BD s σ H xs us Q I r h;obtain⟨a,n,ks,rs,us',rfl,d,q⟩:=h;obtain⟨u,rfl,ru⟩:=kL r;cases ru;obtain⟨ys,ep,e,z,l,nd,rfl,rfl,rfl⟩:=d;refine PySem.W.kdl_call (ad5 z) (I.ok.hd hc) (rL I e) (by simpa using l) λh' tk acc c hk hl hi=>?_;have ev:bI (ys.map λx=>V.ref x.2.1) acc.toList:=by
  have e1:acc.toList=ys.map λx=>dy x.2.1:=by
   refine kq λj=>?_;have hz:acc.size=ys.length:=by simpa using hi.1
   by_cases hj:j<ys.length
   .obtain⟨_,ej⟩:=hi.2 j acc[j] (by simp[hz,hj])
    rw[bo,ax hj,c8,r8 (by omega),ej];simp[jQ]
   .rw[uh (by simp;omega),uh (by simp;omega)]
  rw[e1];clear e1 hi e q l nd
  induction ys with
  |nil=>exact .nil
  |cons y ys ih=>exact .cons rfl ih
 refine⟨.ref s.heap.objs.size,_,I.laid (t':=tk) (o:=.lst (ys.map λx=>V.ref x.2.1)) hk (ak _) ⟨by rw[aj];exact l,acc.toList,c,ev,hl⟩,rfl,q _ (I.hok.fresh (ak _))⟩
def Xh(v a:Addr):HO:=.ext λh=>h.get? v=some {cls:=.type "dict_values",data:=.fields #[.ref a]}
theorem E9:vK X "dict.values" (λx xs H Q=>∃a es ep,x=.ref a/\xs=[]/\(a==sysModules)=false/\H a=some (dO a es ep)/\∀v,H v=none->Q (.ref v) (aW H v (Xh v a))):=by
 intro BD s σ H x xs v us Q I rx rv h;obtain⟨a,es,ep,rfl,rfl,ns,hH,q⟩:=h;cases rx;cases rv;have hd:=rL I hH;have hT:s.TypeIs (.ref a) "dict":=⟨_,hd,rfl⟩;refine jh v7 hT F.entry_dict_values ?_ (F.args_dict_values_1 _);refine ae (ae (u9 hT (ao ?_)));show wpAny _ _ (va a >>= _) _ _ s;unfold va;rw[if_neg (by rw[ns];exact iw)];refine ae (ao (ae (iu (ao ⟨_,rfl,?_⟩))));exact⟨.ref s.heap.objs.size,_,I.laid (t':=s.toks) (o:=Xh s.heap.objs.size a) (λ_ _ e=>ay _ e) (ak _) ⟨df _ rfl,⟨_,df _ rfl⟩,λh1 h2 p kk=>kk _ p⟩,rfl,q _ (I.hok.fresh (ak _))⟩
end
section
variable{prog:Program}{w:aq}{A:au}{E:Value->aa->Prop}{s:aa}{v d ep:Nat}{es:Array DictEntry}
theorem acE{Q:Value->aa->Prop}(hv:s.heap.get? v=some {cls:=.type "dict_values",data:=.fields #[.ref d]})(hd:s.heap.get? d=some (oD es ep))
  (q:Q (.ref s.heap.objs.size) {s with heap:=s.heap.push {cls:=.type "dict_valueiterator",data:=.fields #[.ref d,.int 0 0,.int es.size 0,.int ep 0]}}):wpAny (model prog w) A (pyIter (.ref v)) Q E s:=by
 have hT:s.TypeIs (.ref v) "dict_values":=⟨_,hv,rfl⟩;refine wpAny_pyIter_slot hT v8 (jh v8 hT F.entry_dict_values_iter ?_ (F.args_dict_values_iter_1 _));unfold Builtin.«dict_values.__iter__» AO AQ;refine ae (ao (ae (ae (gv hv rfl (x:=.ref d) rfl (ao (ae ?_))))));refine ae (uv hd rfl (ae (uw hd rfl ?_)));simp only[show qu "dict_valueiterator"=false by decide,ul,if_false];exact iu (ao ⟨_,rfl,"dict_valueiterator",_,⟨_,df _ rfl,rfl⟩,qw.lookup,q⟩)
end
section
variable{X:Cx}
theorem Lz(hc:X.calm=true):iZ X (.builtin "any") (λxs H Q=>∃(v a:Addr)(n:Bool)(ks:AZ)(rs:List V)(us:AU)(is:AR),xs=[.ref v]/\H v=some (Xh v a)/\oR H a n ks rs us/\bI (is.map V.int) us/\Q (.bl (is.any (· !=0))) H):=by
 intro BD s σ H xs us Q I r h;obtain⟨v,a,n,ks,rs,us',is,rfl,hv,d,rv,q⟩:=h;obtain⟨u,rfl,ru⟩:=kL r;cases ru;obtain⟨ys,ep,e,z,l,nd,rfl,rfl,rfl⟩:=d;have hd:=rL I e;have hl:is.length=ys.length:=by
  have:=rv.length
  rwa[aj,aj]at this
 have hw:s.heap.get? v=some {cls:=.type "dict_values",data:=.fields #[.ref a]}:=(I.hok v _ hv).1;have hsz:(ys.map (jQ n)).toArray.size=is.length:=by simp[hl]
 refine call_any_walk (acE hw hd ⟨_,_,_,_,_,_,λi=>is.getD i 0 !=0,rfl,V4 (show X.A.in1.handled=none from I.ok.hd hc) s.heap.objs.size a (de (bj hd)) _ ep,⟨⟨_,df _ rfl,rfl,rfl⟩,ay _ hd⟩,λi x s' Q' E' hx hQ=>?_,λh' tk kp=>?_⟩)
 .obtain⟨hi,ex⟩:=hx
  have hi':i<is.length:=by rw[<-hsz];exact hi
  obtain⟨y,ey,ry⟩:=rv.get (i:=i) (x:=.int is[i]) (by rw[bo,ax hi'];rfl);have eq:x=y:=by
   rw[ex];rw[bo,ax (by omega)]at ey;have ey:=ce ey;rw[<-ey];simp[jQ]
  subst eq;obtain⟨t,rfl⟩:=ry;have e1:is.getD i 0=is[i]:=by simp[cg,hi']
  have hQ':Q' (is.getD i 0 !=0) s':=hQ;rw[e1]at hQ';exact PySem.P.truthy_int hQ'
 .show EP X BD σ Q (.bool ((cu (ys.map (jQ n)).toArray.size).any λi=>is.getD i 0 !=0)) _
  rw[hsz,J7];have I1:aI X BD σ H {s with heap:=s.heap.push {cls:=.type "dict_valueiterator",data:=.fields #[.ref a,.int 0 0,.int (ys.map (jQ n)).toArray.size 0,.int ep 0]},toks:=s.toks}:=I.kept λb o z=>ay _ z;obtain⟨f0,f1,f2,f3,f4,f5⟩:=I.fpOk (ak s.heap.objs.size) (I.hok.fresh (ak _));exact⟨.bl (is.any (· !=0)),H,I1.turned (λb o hb z=>kp b o (by simpa using hb) z) f0 f1 f3 f4 f5,rfl,q⟩
theorem aa3{o:ah}{to:TE}{name:Str}{apos cpos:ai}{id:String}{r:V->List V->Hp->VK->Prop}(slot:Slot "dict" name id)(hty:typeOf (.builtin id)=pure (.type "method_descriptor"))(hm:vK X id r)(ho:PE X o to)
  (hbase:attributeBase o name X.env (eval o X.env)=eval o X.env:=by rfl)(hline:(apos.endLine==cpos.line)=true:=by rfl):PE X (.Call (.Attribute o name apos) [] [] cpos) (λσ H Q=>to σ H λx H1=>Kh x H1/\r x [] H1 Q):=by
 intro BD s σ H Q I h;refine wpAny_Call_method0_late hbase hline (bK (ho BD s σ H _ I h) λv s1 hq=>?_);rcases hq with⟨x,H1,I1,r1,⟨a,ds,ep,ex,hH⟩,q1⟩;subst ex;cases r1;have hg:=rL I1 hH;refine⟨"dict",id,r6,slot,hty,⟨_,hg,rfl⟩,λb eb=>?_,wz rfl (PySem.evalArgs_none (hm BD s1 σ H1 (.ref a) [] (.ref a) [] Q I1 rfl .nil q1))⟩;cases eb;exact⟨_,hg,rfl⟩
end
end L2
namespace L2.Pp
open PySem PySem.Spec PyProof.Rows Bn
def xZ(d:AV)(S:aH):bP AV:=match d with
 |.ref j=>(match S[j]? with
  |some (.dic _ kvs)=>.ok (.pv (.lst (kvs.map (·.1)))) S
  |_=>.fail)
 |_=>.fail
def uQ(ms:MA):ME:=λρ S=>(ms ρ S).bind λds S1=>match ds with
 |[d]=>xZ d S1
 |_=>.fail
def uO(d:AV)(S:aH):bP AV:=match d with
 |.ref j=>(match S[j]? with
  |some (.dic _ kvs)=>(match kH (kvs.map (·.2))with
   |some is=>.ok (.pv (.bl (is.any (· !=0)))) S
   |none=>.fail)
  |_=>.fail)
 |_=>.fail
def uV(m:ME):ME:=λρ S=>(m ρ S).bind λd S1=>uO d S1
section
variable{K:ag}{cl:Str->Addr}{E:XK}{X:Cx}{p q:Ph}{H H':Hp}{S:aH}{a b e o i v:ah}{es:List ah}{m md mk mv:ME}{ms:MA}{pos:ai}
theorem aaR{x:Str}{px:ai}(hc:X.calm=true)(hg:Gl X x)(hm:X.mg x=none)(hv:bootBuiltins x=some (.type "list"))(ha:eT K cl E X [e] ms)(hn:x≠"__name__":=by decide)(hdb:(x==("__debug__":Str))=false:=by decide)
  (he:starEach [e] X.env=(false,eval e X.env)::starEach [] X.env:=by rfl)(hpl:(backTo pos (starEach [] X.env)).any (·.1)=false:=by rfl):aU K cl E X (.Call (.Name x px) [e] [] pos) (uQ ms):=by
 intro hK;subst hK;refine PE.imp (tH (Vy hc) hg hm hv (ha rfl) hn hdb he hpl) ?_
 rintro σ H Q ⟨p,S,ρ,s,ev,h⟩
 refine cO s ev h λq H1 ds xs S1 st s1 e1 r1 h1=>?_;rcases r1 with _ |⟨rj,_ |⟨_,_⟩⟩
 .exact h1.elim
 .rename_i d _
  rcases d with _ |j
  .exact h1.elim
  obtain⟨a,ej,er⟩:=rj;subst er;have h1:bY X.K cl (cD X.K) q H1 (xZ (.ref j) S1) Q E:=h1;unfold xZ at h1;dsimp only at h1;split at h1
  .rename_i n kvs hS
   obtain⟨us,vs,d,rv,r⟩:=s1.obj j a _ ej hS;obtain⟨rs,dw,rr⟩:=Cf d;refine⟨a,n,_,rs,us,rfl,dw,λl hl=>?_⟩;have hz:rs.length<=sizeLine:=by
    obtain⟨ys,_,_,_,lz,_,_,er,_⟩:=dw;rw[er,aj];exact lz
   exact bY.same (R:=cD X.K) h1 s1 (iF hl) (nX s1 rr hz hl)
  .exact h1.elim
 .exact h1.elim
theorem abw{x:Str}{px apos cpos:ai}(hc:X.calm=true)(hg:Gl X x)(hm:X.mg x=none)(hv:bootBuiltins x=some (.builtin "any"))(ho:aU K cl E X o m)(hbase:attributeBase o "values" X.env (eval o X.env)=eval o X.env:=by rfl)(hline:(apos.endLine==cpos.line)=true:=by rfl)
  (hn:x≠"__name__":=by decide)(hdb:(x==("__debug__":Str))=false:=by decide)
  (he:starEach [.Call (.Attribute o "values" apos) [] [] cpos] X.env=(false,eval (.Call (.Attribute o "values" apos) [] [] cpos) X.env)::starEach [] X.env:=by rfl)(hpl:(backTo pos (starEach [] X.env)).any (·.1)=false:=by rfl):
  aU K cl E X (.Call (.Name x px) [.Call (.Attribute o "values" apos) [] [] cpos] [] pos) (uV m):=by
 intro hK;subst hK;refine PE.imp (Xc (Lz hc) hg hm hv (pG (aa3 v7 PySem.F.type_dict_values E9 (ho rfl) hbase hline) rJ he) hn hdb he hpl) ?_
 rintro σ H Q ⟨p,S,ρ,s,ev,h⟩
 refine cO s ev h λq H1 d x S1 st s1 e1 r1 h1=>?_;cases d with
 |pv _=>exact h1.elim
 |ref j=>
  obtain⟨a,ej,rfl⟩:=r1;have h1:bY X.K cl (cD X.K) q H1 (uO (.ref j) S1) Q E:=h1;unfold uO at h1;dsimp only at h1;split at h1
  .rename_i n kvs hS
   split at h1
   .rename_i is hi
    obtain⟨us,vs,d,rv,r⟩:=s1.obj j a _ ej hS;obtain⟨rs,dw,rr⟩:=Cf d;obtain⟨ys,ep,ey,ns,lz,nd,ek,er,eu⟩:=dw;refine⟨⟨a,_,_,rfl,ey⟩,a,_,_,rfl,rfl,ns,ey,λv hv=>⟨v,a,n,_,rs,us,is,rfl,fH,⟨ys,ep,by rw[bT (gD ey hv)];exact ey,ns,lz,nd,ek,er,eu⟩,?_,?_⟩⟩
    .rw[<-wI hi r]
     exact rv
    .exact bY.same (R:=cD X.K) h1 s1 (iF hv) (x:=.bl (is.any (· !=0))) (by unfold cD aT;rfl)
   .exact h1.elim
  .exact h1.elim
end
end L2.Pp
namespace L2
open PySem PySem.Spec PyProof.Rows Bn
section
variable{X:Cx}
end
section
variable{X:Cx}{sc:Scope}{own:List Str}{cap:List (Nat×Str)}{BD:List (Addr×Obj)}{σ:St}{H:Hp}{s:aa}{elt target iter:ah}{pos pos':ai}{wi:TI}{g:TG}{te:TE}{Q:VK}
end
end L2
namespace L2.Pp
open PySem PySem.Spec PyProof.Rows Bn
section
mutual
def oU:PV->Bool
 |.lst _=>false
 |.tup xs=>yP xs
 |_=>true
def yP:AZ->Bool
 |[]=>true
 |x::r=>oU x&&yP r
end
def nY(f:FM)(ms:MA):ME:=λρ S=>(ms ρ S).bind λxs S1=>match gK S1 xs with
 |some vs=>(match f (vs.map .pv) []with
  |.ok (.pv v) _=>if oU v=true then .ok (.pv v) S1 else .fail
  |_=>.fail)
 |none=>.fail
section
variable{K:ag}{cl:Str->Addr}{E:XK}{X:Cx}{p q:Ph}{H H':Hp}{S:aH}{a b e o i v:ah}{es:List ah}{m ma mb md mk mv:ME}{ms:MA}{pos:ai}
mutual
theorem Xq{c c':Addr->Prop}:∀{v:PV}{x:V},aT K c H v x->oU v=true->aT K c' H v x
 |.non,_,h,_=>by unfold aT at h⊢;exact h
 |.bl _,_,h,_=>by unfold aT at h⊢;exact h
 |.int _,_,h,_=>by unfold aT at h⊢;exact h
 |.str _,_,h,_=>by unfold aT at h⊢;exact h
 |.lst _,_,_,n=>by unfold oU at n;cases n
 |.tup xs,_,h,n=>by
  unfold oU at n;unfold aT at h⊢;obtain⟨a,vs,e,t,z,r⟩:=h;exact⟨a,vs,e,t,z,Yo r n⟩
theorem Yo{c c':Addr->Prop}:∀{v:AZ}{x:List V},aS K c H v x->yP v=true->aS K c' H v x
 |[],_,h,_=>by unfold aS at h⊢;exact h
 |p::ps,_,h,n=>by
  unfold yP at n;unfold aS at h⊢;obtain⟨v,r,e,h1,h2⟩:=h;have n:=yp.mp n;exact⟨v,r,e,Xq h1 n.1,Yo h2 n.2⟩
end
def Ph.none:Ph:=⟨[],λ_=>False,λ_=>False⟩
theorem M9:aX K Ph.none [] H:=⟨qq,rfl,λ_ h=>(nomatch h),λ_ h=>h,λ_ h=>h.elim,λk a o e=>(nomatch e)⟩
theorem Rj:∀{vs:AZ}{xs:List V},Cg K p H vs xs->gL K Ph.none H (vs.map .pv) xs
 |_,_,.nil=>.nil
 |_,_,.cons h t=>by
  refine .cons ?_ (Rj t);show aT K (λ_=>False) H _ _;rcases h with h |⟨xs,a,vs,rfl,rfl,h,z,r⟩
  .exact Ek (λ_ h=>h.elim) h
  .unfold aT
   exact⟨a,vs,rfl,.inl ⟨h,λz=>z⟩,z,oZ (λ_ h=>h.elim) r⟩
theorem ad1{g:FM}{k k0:Nat}{ps:List Str}{x:Str}{px:ai}(C:Ba X.prog X.w X.K X.mg X.base cl x k ps g)(hr:dJ k0 X.A)(hk:k<=k0)(hg:Gl X x)(ha:eT X.K cl E X (e::es) ms)(hdb:(x==("__debug__":Str))=false:=by decide)(he:starEach (e::es) X.env=(false,eval e X.env)::starEach es X.env:=by rfl)(hpl:(backTo pos (starEach es X.env)).any (·.1)=false:=by rfl):
  aU X.K cl E X (.Call (.Name x px) (e::es) [] pos) (nY g ms):=by
 obtain⟨a,d,G,b,kk,n⟩:=C;intro hK;refine PE.imp (xB G (hr.mono hk) hg n kk b .nil yF (ha rfl) hdb he hpl) ?_
 rintro σ H Q ⟨p,S,ρ,s,ev,h⟩
 refine cO s ev h λq H1 as xs S1 st sm ev r k=>?_;cases z:gK S1 as with
 |none=>simp only[z]at k;exact k.elim
 |some vs=>
  simp only[z]at k;have rr:=Rj (tE sm r z);have e0:xs++([]:List V)=xs:=ja xs;refine⟨Ph.none,[],vs.map .pv,M9,by first |exact rr |(rw[e0];exact rr),?_⟩
  cases y:g (vs.map .pv) []with
  |fail=>simp only[y]at k;exact k.elim
  |exc n S'=>simp only[y]at k;exact k.elim
  |ok w S'=>
   cases w with
   |ref j=>simp only[y]at k;exact k.elim
   |pv w=>
    simp only[y]at k
    by_cases hn:oU w=true
    .rw[if_pos hn]at k
     intro q' H' x' st' sm' r';have same:eD H1 H':=λa o e=>st'.keep a o e λz=>z;exact bY.same (R:=cD X.K) k sm same (Xq r' hn)
    .rw[if_neg hn]at k
     exact k.elim
variable{sc:Scope}{own:List Str}{cap:List (Nat×Str)}{elt target iter:ah}{mi:MI}{g:GM}{me:ME}
end
end
def uP(ma mb:ME):ME:=λρ S=>(ma ρ S).bind λx S1=>(mb ρ S1).bind λy S2=>match rd S2 x,rd S2 y with
 |some (.lst xs),some (.lst ys)=>if xs.length+ys.length<=16777216 then .ok (.ref S2.length) (S2++[.lst (xs++ys)])else .fail
 |_,_=>.fail
section
variable{K:ag}{cl:Str->Addr}{E:XK}{X:Cx}{a b:ah}{ma mb:ME}{pos:ai}
theorem aa1(ha:aU K cl E X a ma)(hb:aU K cl E X b mb):aU K cl E X (.BinOp a .Add b pos) (uP ma mb):=by
 intro hK;subst hK;refine PE.imp (Dg Rq (ha rfl) (hb rfl)) ?_
 rintro σ H Q ⟨p,S,ρ,s,e,h⟩
 refine cO s e h λq H1 x u S1 st s1 e1 r1 h1=>cO s1 e1 h1 λq2 H2 y w S2 st2 s2 e2 r2 h2=>?_;have r1:=st2.repA r1;cases z1:rd S2 x with
 |none=>simp only[z1]at h2;exact h2.elim
 |some vx=>
  cases z2:rd S2 y with
  |none=>simp only[z1,z2]at h2;exact h2.elim
  |some vy=>
   simp only[z1,z2]at h2;cases vx with
   |lst xs=>
    cases vy with
    |lst ys=>
     dsimp only at h2
     by_cases hl:xs.length+ys.length<=16777216
     .rw[if_pos hl]at h2
      obtain⟨a1,vs,rfl,l1,_,rr⟩:=(pI s2 r1 z1).lst;obtain⟨a2,ws,rfl,l2,_,rw'⟩:=(pI s2 r2 z2).lst;have hz:vs.length+ws.length<=sizeLine:=by rw[<-rr.length,<-rw'.length,jF];exact hl
      refine .inr (.inl ⟨a1,a2,vs,ws,rfl,rfl,l1,l2,hz,λt ht=>?_⟩);obtain⟨eM,sm3⟩:=s2.push ht (by rw[av];exact hz) (rr.append rw');exact h2 _ _ (.ref t) eM sm3 ⟨t,by show(q2.f++[t])[S2.length]?=some t;rw[<-s2.len,dz (ak _),ie];rfl,rfl⟩
     .rw[if_neg hl]at h2
      exact h2.elim
    |_=>exact h2.elim
   |_=>cases vy<;>exact h2.elim
end
section
variable{P:Program}{w:aq}{K:ag}{mg:Str->AW}{base:Heap}{cl:Str->Addr}{x qual:Str}{st:Stmt}{f:Addr}{fd:cf}{N ps:List Str}{k np n:Nat}{b:MS}
variable{so sc sc1:Scope}{own own1:List Str}{cap cap1:List (Nat×Str)}{cd:Value}{A:au}{outer:List bh}{s:aa}{H:Hp}{E:XK}{C:Addr}{BE:aa}{BF:Hp}{ex:List Addr}
theorem Gg(a:sc.kind=.function:=by rfl)(b:∀y∈sc.names,y.2=.local->sc.names.lookup y.1=some .local:=by decide+kernel)(c:∀y∈sc.names,y.2≠.cell:=by decide+kernel)(d:∀y∈sc.names,y.2=.free->so.names.lookup y.1=some .cell:=by decide+kernel)(e:∀p∈cap,N[p.1]?=some p.2:=by decide+kernel)(g:∀p∈cap,sc.names.lookup p.2=some .free:=by decide+kernel):iA (eV eL P w K mg base N qual so f cd A outer s H E).nox sc own cap:=Zs so N rfl rfl a b c d e g
theorem acC(a:sc.kind=.function:=by rfl)(b:∀y∈sc.names,y.2=.local->sc.names.lookup y.1=some .local:=by decide+kernel)(c:∀y∈sc.names,y.2=.cell->sc.names.lookup y.1=some .cell:=by decide+kernel)(d:∀y∈sc.names,y.2=.free->so.names.lookup y.1=some .cell:=by decide+kernel)(e:∀p∈cap,N[p.1]?=some p.2:=by decide+kernel)(g:∀p∈cap,sc.names.lookup p.2=some .free:=by decide+kernel):oC (eV eL P w K mg base N qual so f cd A outer s H E).nox sc own cap:=abv so N rfl rfl a b c d e g
theorem Ef(a:sc.kind=.function:=by rfl)(b:∀y∈sc.names,y.2=.local->sc.names.lookup y.1=some .local:=by decide+kernel)(c:∀y∈sc.names,y.2≠.cell:=by decide+kernel)(d:∀y∈sc.names,y.2=.free->sc1.names.lookup y.1=some .free/\so.names.lookup y.1=some .cell:=by decide+kernel)(e:∀p∈cap,(cR own1 cap1)[p.1]?=some p.2:=by decide+kernel)(g:∀p∈cap,sc.names.lookup p.2=some .free:=by decide+kernel)(hk:so.kind=.function:=by rfl):iA (eQ (eV eL P w K mg base N qual so f cd A outer s H E).nox sc1 (cR own1 cap1) C BE BF ex) sc own cap:=abc so rfl hk a b c d e g
theorem Rf(a:sc.kind=.function:=by rfl)(b:∀y∈sc.names,y.2=.local->sc.names.lookup y.1=some .local:=by decide+kernel)(c:∀y∈sc.names,y.2≠.cell:=by decide+kernel)(d:∀y∈sc.names,y.2=.free->sc1.names.lookup y.1=some .cell\/(sc1.names.lookup y.1=some .free/\so.names.lookup y.1=some .cell):=by decide+kernel)(e:∀p∈cap,(cR own1 cap1)[p.1]?=some p.2:=by decide+kernel)(g:∀p∈cap,sc.names.lookup p.2=some .free:=by decide+kernel)(hk:so.kind=.function:=by rfl):iA (iW (eV eL P w K mg base N qual so f cd A outer s H E).nox sc1 (cR own1 cap1) C BE BF ex) sc own cap:=aaM so rfl hk a b c d e g
theorem bV{N ps:List Str}{sc:Scope}(a:sc.kind=.function:=by rfl)(b:sc.isCoroutine=false:=by rfl)(c:sc.isGenerator=false:=by rfl)(d:N.Nodup:=by decide+kernel)(e:N.take ps.length=ps:=by rfl)(f:∀x∈ps,sc.names.lookup x=some .local\/sc.names.lookup x=some .cell:=by decide+kernel)(g:∀y∈sc.names,y.2≠.free:=by decide+kernel):hJ N ps sc:=⟨a,b,c,d,e,f,g⟩
def Gh(P:Program)(w:aq)(K:ag)(mg:Str->AW)(base:Heap)(cl:Str->Addr)(x:Str)(k:Nat)(ps:List Str)(g:FM):Prop:=∃(a:Addr)(d:cf),eG P w K mg base (iO P w) k a d ps (mL K cl g)/\eG P w K mg base eL k a d ps (jB K cl g)/\jA K d ps []/\fu K (.ref a)=true/\mg x=some (.ref a)
theorem Dw{g:FM}{a:Addr}{d:cf}(G:eG P w K mg base (iO P w) k a d ps (mL K cl g))(b:jA K d ps [])(kp:fu K (.ref a)=true)(n:mg x=some (.ref a)):Gh P w K mg base cl x k ps g:=⟨_,_,G,x0 G,b,kp,n⟩
theorem aej{X:Cx}{e:ah}{es:List ah}{ms:MA}{pos p:ai}{k0:Nat}{g:FM}(C:Gh X.prog X.w X.K X.mg X.base cl x k ps g)(hr:dJ k0 X.A)(hk:k<=k0)(hg:Gl X x)(ha:eT X.K cl E0 X (e::es) ms)(hdb:(x==("__debug__":Str))=false:=by decide)(he:starEach (e::es) X.env=(false,eval e X.env)::starEach es X.env:=by rfl)(hpl:(backTo pos (starEach es X.env)).any (·.1)=false:=by rfl):
  aU X.K cl E0 X (.Call (.Name x p) (e::es) [] pos) (pS g [] ms):=by
 obtain⟨a,d,_,G,b,kk,n⟩:=C;exact aa0 G (hr.mono hk) hg n kk b .nil Dv.nil ha hdb he hpl
end
structure Bx where
 P:Program
 w:aq
 K:ag
 mg:Str->AW
 base:Heap
 cl:Str->Addr
abbrev cB(B:Bx)(x:Str)(k:Nat)(ps:List Str)(g:FM):Prop:=Ba B.P B.w B.K B.mg B.base B.cl x k ps g
abbrev Rh(B:Bx)(x:Str)(k:Nat)(ps:List Str)(g:FM):Prop:=Gh B.P B.w B.K B.mg B.base B.cl x k ps g
def Qx(B:Bx)(x:Str)(k:Nat)(ps:List Str)(g:FM)(dv:AZ):Prop:=∃(a:Addr)(d:cf)(ds:AU)(dvs:List V),eG B.P B.w B.K B.mg B.base eL k a d ps (jB B.K B.cl g)/\jA B.K d ps []/\jA B.K d ps ds/\bI dvs ds/\Dv dv dvs/\fu B.K (.ref a)=true/\B.mg x=some (.ref a)
def HF(K:ag)(x:Str)(st:Stmt):Prop:=∃(f:Addr)(fd:cf),dr K mainGlobals x=some (some (.ref f))/\jD K x x st f fd
def XG(K:ag)(mg:Str->AW):Prop:=∃h:Heap,K.In h/\h.Ns mainGlobals mg
section
variable{B:Bx}{x:Str}{st:Stmt}{f:Addr}{fd:cf}{N ps:List Str}{k np n:Nat}{b:MS}
theorem Qe(X:XG B.K B.mg)(q:HF B.K x st):∃f fd,jD B.K x x st f fd/\fu B.K (.ref f)=true/\B.mg x=some (.ref f):=by
 obtain⟨f,fd,a,F⟩:=q;obtain⟨h,X,G⟩:=X;exact⟨f,fd,F,F.kp,lb X G a⟩
theorem adk{K:ag}{oc:Value}{od an:AX}{osl:Array AW}{kV doc pm cdv ct:Value}(a:dr K mainGlobals x=some (some (.ref f)))(l:K.lookup f=some ⟨oc,od,.func (fi x x (gR st) (eI st) (bX st) .none kV doc pm an cdv ct),osl⟩)
  (c:jz K cdv x=true)(k:fu K (.ref f)=true):HF K x st:=⟨_,_,a,Ut l c k⟩
theorem Th(F:jD B.K x x st f fd)(h:∀(kV doc pm:Value)(an:AX)(cdv ct:Value)(us:AU),us.length=ps.length->bindArgs (fi x x (gR st) (eI st) (bX st) .none kV doc pm an cdv ct) ⟨us,[]⟩=pure (ps.zip us)):jA B.K fd ps []:=F.binds λkV doc pm an cdv ct us hl=>h kV doc pm an cdv ct us hl
theorem cF(X:XG B.K B.mg)(q:HF B.K x st)(S:hJ N ps (bX st))(hb:N.Nodup->∀(f:Addr)(cdv:Value)(A:au)(outer:List bh)(s:aa)(H:Hp)(E:XK),dJ k (A.deeper (envOfC x (bX st) s.heap.objs.size f cdv))->fY B.K B.cl E0 (eV eL B.P B.w B.K B.mg B.base N x (bX st) f cdv A outer s H E).nox (eI st) b)(hnp:ps.length=np:=by rfl)(hn:N.length=n:=by rfl)
  (h:∀(kV doc pm:Value)(an:AX)(cdv ct:Value)(us:AU),us.length=ps.length->bindArgs (fi x x (gR st) (eI st) (bX st) .none kV doc pm an cdv ct) ⟨us,[]⟩=pure (ps.zip us):=by intro _ _ _ _ _ _ us h;rcases us with _ |⟨_,_ |⟨_,_ |⟨_,_ |⟨_,_ |⟨_,_ |⟨_,_⟩⟩⟩⟩⟩⟩<;>first |(cases h;done) |rfl |(simp at h)):cB B x (k+1) ps (aR np n b):=by
 obtain⟨f,fd,F,kp,m⟩:=Qe X q;exact⟨f,fd,Ex F S hnp hn λcdv A outer s H E hr=>hb S.nd f cdv A outer s H E hr,Th F h,kp,m⟩
theorem mkL(X:XG B.K B.mg)(q:HF B.K x st)(S:hJ N ps (bX st))(hb:N.Nodup->∀(f:Addr)(cdv:Value)(A:au)(outer:List bh)(s:aa)(H:Hp)(E:XK),dJ k (A.deeper (envOfC x (bX st) s.heap.objs.size f cdv))->fY B.K B.cl E0 (eV eL B.P B.w B.K B.mg B.base N x (bX st) f cdv A outer s H E).nox (eI st) b)(hnp:ps.length=np:=by rfl)(hn:N.length=n:=by rfl)
  (h:∀(kV doc pm:Value)(an:AX)(cdv ct:Value)(us:AU),us.length=ps.length->bindArgs (fi x x (gR st) (eI st) (bX st) .none kV doc pm an cdv ct) ⟨us,[]⟩=pure (ps.zip us):=by intro _ _ _ _ _ _ us h;rcases us with _ |⟨_,_ |⟨_,_ |⟨_,_ |⟨_,_ |⟨_,_ |⟨_,_⟩⟩⟩⟩⟩⟩<;>first |(cases h;done) |rfl |(simp at h)):cB B x (k+1) ps (pZ np n b):=by
 obtain⟨f,fd,F,kp,m⟩:=Qe X q;exact⟨f,fd,okL F S hnp hn λcdv A outer s H E hr=>hb S.nd f cdv A outer s H E hr,Th F h,kp,m⟩
theorem mkX(X:XG B.K B.mg)(q:HF B.K x st)(S:hJ N ps (bX st))(hb:N.Nodup->∀(f:Addr)(cdv:Value)(A:au)(outer:List bh)(s:aa)(H:Hp)(E:XK),dJ k (A.deeper (envOfC x (bX st) s.heap.objs.size f cdv))->fY B.K B.cl E (eV (iO B.P B.w) B.P B.w B.K B.mg B.base N x (bX st) f cdv A outer s H E) (eI st) b)(hnp:ps.length=np:=by rfl)(hn:N.length=n:=by rfl)
  (h:∀(kV doc pm:Value)(an:AX)(cdv ct:Value)(us:AU),us.length=ps.length->bindArgs (fi x x (gR st) (eI st) (bX st) .none kV doc pm an cdv ct) ⟨us,[]⟩=pure (ps.zip us):=by intro _ _ _ _ _ _ us h;rcases us with _ |⟨_,_ |⟨_,_ |⟨_,_ |⟨_,_ |⟨_,_ |⟨_,_⟩⟩⟩⟩⟩⟩<;>first |(cases h;done) |rfl |(simp at h)):Rh B x (k+1) ps (aR np n b):=by
 obtain⟨f,fd,F,kp,m⟩:=Qe X q;exact Dw (okX F S hnp hn λcdv A outer s H E hr=>hb S.nd f cdv A outer s H E hr) (Th F h) kp m
theorem mkR(F:jD B.K x x st f fd)(S:hJ N ps (bX st))(hb:N.Nodup->∀(f:Addr)(cdv:Value)(A:au)(outer:List bh)(s:aa)(H:Hp)(E:XK),dJ k (A.deeper (envOfC x (bX st) s.heap.objs.size f cdv))->fY B.K B.cl E0 (eV eL B.P B.w B.K B.mg B.base N x (bX st) f cdv A outer s H E).nox (eI st) b)(hnp:ps.length=np:=by rfl)(hn:N.length=n:=by rfl):eG B.P B.w B.K B.mg B.base eL (k+1) f fd ps (jB B.K B.cl (aR np n b)):=Ex F S hnp hn λcdv A outer s H E hr=>hb S.nd f cdv A outer s H E hr
theorem mkD{dsv:Array Value}(F:kC B.K x x st f fd dsv)(S:hJ N ps (bX st))(hb:N.Nodup->∀(f:Addr)(cdv:Value)(A:au)(outer:List bh)(s:aa)(H:Hp)(E:XK),dJ k (A.deeper (envOfC x (bX st) s.heap.objs.size f cdv))->fY B.K B.cl E0 (eV eL B.P B.w B.K B.mg B.base N x (bX st) f cdv A outer s H E).nox (eI st) b)(hnp:ps.length=np:=by rfl)(hn:N.length=n:=by rfl):eG B.P B.w B.K B.mg B.base eL (k+1) f fd ps (jB B.K B.cl (aR np n b)):=ae9 F S hnp hn λcdv A outer s H E hr=>hb S.nd f cdv A outer s H E hr
theorem ae3{dsv:Array Value}(F:kC B.K x x st f fd dsv)(S:hJ N ps (bX st))(hb:N.Nodup->∀(f:Addr)(cdv:Value)(A:au)(outer:List bh)(s:aa)(H:Hp)(E:XK),dJ k (A.deeper (envOfC x (bX st) s.heap.objs.size f cdv))->fY B.K B.cl E (eV (iO B.P B.w) B.P B.w B.K B.mg B.base N x (bX st) f cdv A outer s H E) (eI st) b)(hnp:ps.length=np:=by rfl)(hn:N.length=n:=by rfl):eG B.P B.w B.K B.mg B.base (iO B.P B.w) (k+1) f fd ps (mL B.K B.cl (aR np n b)):=aeX F S hnp hn λcdv A outer s H E hr=>hb S.nd f cdv A outer s H E hr
section
variable{X:Cx}{cl:Str->Addr}{E:XK}{e:ah}{es:List ah}{ms:MA}{pos p:ai}{k0:Nat}{g:FM}{dv:AZ}
def Ew(X:Cx)(cl:Str->Addr)(x:Str)(k:Nat)(ps:List Str)(g:FM)(dv:AZ):Prop:=Qx ⟨X.prog,X.w,X.K,X.mg,X.base,cl⟩ x k ps g dv
theorem adD(C:Ew X cl x k ps g dv)(hr:dJ k0 X.A)(hk:k<=k0)(hg:Gl X x)(ha:eT X.K cl E X (e::es) ms)(hdb:(x==("__debug__":Str))=false:=by decide)(he:starEach (e::es) X.env=(false,eval e X.env)::starEach es X.env:=by rfl)(hpl:(backTo pos (starEach es X.env)).any (·.1)=false:=by rfl):
  aU X.K cl E X (.Call (.Name x p) (e::es) [] pos) (aJ g dv ms):=by
 obtain⟨a,d,ds,dvs,G,b,bd,hv,hd,kk,n⟩:=C;exact Nc G (hr.mono hk) hg n kk bd hv hd ha hdb he hpl
theorem adC(C:Ew X cl x k ps g dv)(hr:dJ k0 X.A)(hk:k<=k0)(hg:Gl X x)(ha:eT X.K cl E X (e::es) ms)(hdb:(x==("__debug__":Str))=false:=by decide)(he:starEach (e::es) X.env=(false,eval e X.env)::starEach es X.env:=by rfl)(hpl:(backTo pos (starEach es X.env)).any (·.1)=false:=by rfl):
  aU X.K cl E X (.Call (.Name x p) (e::es) [] pos) (aJ g [] ms):=by
 obtain⟨a,d,ds,dvs,G,b,bd,hv,hd,kk,n⟩:=C;exact Nc G (hr.mono hk) hg n kk b .nil Dv.nil ha hdb he hpl
end
section
variable{P:Program}{w:aq}{K:ag}{mg:Str->AW}{base:Heap}{qual:Str}{so sc:Scope}{own:List Str}{cap:List (Nat×Str)}{cd:Value}{A:au}{outer:List bh}{s:aa}{H:Hp}{E:XK}
theorem Hf(a:sc.kind=.function:=by rfl)(b:∀y∈sc.names,y.2=.local->sc.names.lookup y.1=some .local:=by decide+kernel)(c:∀y∈sc.names,y.2≠.cell:=by decide+kernel)(d:∀y∈sc.names,y.2=.free->so.names.lookup y.1=some .cell:=by decide+kernel)(e:∀p∈cap,N[p.1]?=some p.2:=by decide+kernel)(g:∀p∈cap,sc.names.lookup p.2=some .free:=by decide+kernel):iA (eV (iO P w) P w K mg base N qual so f cd A outer s H E) sc own cap:=Zs so N rfl rfl a b c d e g
end
end
theorem ade:bootBuiltins "len"=some (.builtin "len"):=by decide+kernel
theorem ack:bootBuiltins "abs"=some (.builtin "abs"):=by decide+kernel
theorem acl:bootBuiltins "all"=some (.builtin "all"):=by decide+kernel
theorem acm:bootBuiltins "any"=some (.builtin "any"):=by decide+kernel
theorem ab9:bootBuiltins "sum"=some (.builtin "sum"):=by decide+kernel
theorem G0:bootBuiltins "sorted"=some (.builtin "sorted"):=by decide+kernel
theorem acN:bootBuiltins "int"=some (.type "int"):=by decide+kernel
theorem aav:bootBuiltins "bool"=some (.type "bool"):=by decide+kernel
theorem Ir:bootBuiltins "list"=some (.type "list"):=by decide+kernel
theorem Y9:bootBuiltins "tuple"=some (.type "tuple"):=by decide+kernel
end L2.Pp
set_option Elab.async false
set_option compiler.extract_closed false
set_option bootstrap.genMatcherCode false
set_option maxRecDepth 100000
set_option maxHeartbeats 4000000
namespace Sc
noncomputable section
open PySem L2 Bn L2.Pp
abbrev Hu:Stmt:=aV 5
abbrev Il:Stmt:=aV 6
abbrev Pm:Stmt:=aV 7
abbrev Wi:Stmt:=aV 8
abbrev uA:Stmt:=aV 10
abbrev Wq:Stmt:=aV 11
abbrev Xo:Stmt:=aV 13
abbrev Uj:Stmt:=aV 12
abbrev Oi:Stmt:=aV 14
abbrev Vu:Stmt:=aV 15
abbrev Dn:Stmt:=aV 16
abbrev Qi:Stmt:=aV 17
abbrev Yt:Stmt:=aV 18
abbrev Fl:Stmt:=aV 22
abbrev Cs:Stmt:=aV 23
abbrev Jj:Stmt:=aV 25
abbrev Tr:Stmt:=aV 26
abbrev Xj:Stmt:=aV 27
abbrev Eu:Stmt:=aV 28
abbrev Vm:Stmt:=aV 30
abbrev Ui:Stmt:=aV 31
abbrev Lr:Stmt:=aV 32
abbrev Uo:Stmt:=aV 33
abbrev Sk:Stmt:=aV 35
abbrev Vi:Stmt:=aV 36
abbrev Em:Stmt:=aV 37
abbrev Vt:Stmt:=aV 38
abbrev tR:Stmt:=aV 39
abbrev Vs:Stmt:=aV 41
abbrev Ls:Stmt:=aV 42
abbrev Pu:Stmt:=aV 43
abbrev Zk:Stmt:=aV 44
abbrev Bl:Stmt:=aV 45
abbrev Ur:Stmt:=aV 46
abbrev Im:Stmt:=aV 47
abbrev Qu:Stmt:=aV 48
abbrev Wn:Stmt:=aV 49
abbrev Nt:Stmt:=aV 50
abbrev Qs:Stmt:=aV 51
abbrev Wt:Stmt:=aV 52
abbrev Sj:Stmt:=aV 53
abbrev Zi:Stmt:=aV 54
abbrev Ri:Stmt:=aV 55
abbrev Ao:Stmt:=aV 56
abbrev Qp:Stmt:=aV 57
abbrev Et:Stmt:=aV 58
abbrev Kr:Stmt:=aV 59
abbrev Rs:Stmt:=aV 60
abbrev Cr:Stmt:=aV 61
abbrev Ym:Stmt:=aV 62
abbrev Kj:Stmt:=aV 64
abbrev Dt:Stmt:=aV 63
abbrev Er:Stmt:=aV 65
abbrev Ej:Stmt:=aV 66
abbrev Du:Stmt:=aV 67
abbrev Yj:Stmt:=aV 68
abbrev Ms:Stmt:=aV 69
abbrev Es:Stmt:=aV 70
abbrev Dl:Stmt:=aV 71
abbrev Ro:Stmt:=aV 72
abbrev Hl:Stmt:=aV 73
abbrev Io:Stmt:=aV 74
abbrev Tn:Stmt:=aV 75
abbrev Lo:Stmt:=aV 76
abbrev oH:Stmt:=aV 77
def Re:MS:=(aG (bW (bH (aC eJ (aA 0) (mC (.int 0)))) (bD (mC (.int 1))) cY)
 (aG (bW (bH (aC kP (aA 0) (mC (.int 0)))) (bD (bR bU (mC (.int 1)))) cY)
 (bD (mC (.int 0)))))
def pJ:FM:=aR 1 1 Re
def Eb:MS:=(aG (lD (bH (aC lO (aA 1) (mC (.int 0)))) (aG (aQ 2 (aC fR (aA 0) (aA 1)))
 (aG (aQ 0 (aA 1))
 (aQ 1 (aA 2)))))
 (bD (mR pY (aB (aA 0) aD))))
def tG:FM:=aR 2 3 Eb
def Fb:MS:=(aG (aQ 1 (mC (.int 0)))
 (aG (bJ (bA (aA 0)) (gN 2) (aQ 1 (aJ tG [] (aB (aA 1) (aB (aA 2) aD)))))
 (bD (bF ["number"] [(1,"common")] (bA (aA 0)) (gN 0) (aC iG (aA 0) (aA 1))))))
def sZ:FM:=aR 1 3 Fb
def La:MS:=(aG (aQ 1 (aC aE (xN ["number"] [] (bA (aA 0)) (gN 0) (bH (aC lO (aA 0) (mC (.int 0)))) (aA 0)) (mC (.int 0))))
 (bD (mR gI (aB (bF ["number"] [(1,"first")] (bA (aJ sZ [] (aB (aA 0) aD))) (gN 0) (aC bG (aJ pJ [] (aB (aA 1) aD)) (aA 0))) aD))))
def oY:FM:=aR 1 2 La
def Oe:MS:=(aG (bW (bH (aC cT (aA 1) (mC (.int 0)))) (xM "NoPoint") cY)
 (bD (mR gI (aB (bF ["number"] [(1,"bottom")] (bA (aJ sZ [] (aB (aC aF (mR kJ (aB (aA 0) aD)) (mN dZ (aB (aA 1) aD))) aD))) (gN 0) (aC bG (aJ pJ [] (aB (aA 1) aD)) (aA 0))) aD))))
def tW:FM:=aR 2 2 Oe
def Sd:MS:=(aG (aQ 2 (bF ["one","other"] [(1,"q"),(0,"p")] (iS (aB (dB (aA 0) dD (dA (bR bU (mC (.int 1))))) (aB (dB (aA 1) dD (dA (bR bU (mC (.int 1))))) aD))) (gT 2 (bO (gN 0) (bO (gN 1) dE))) (aC aF (aC bG (aA 0) (aC aE (aA 2) (bR bU (mC (.int 1))))) (aC bG (aA 1) (aC aE (aA 3) (bR bU (mC (.int 1))))))))
 (bD (pS tW [] (aB (aA 2) (aB (aC bG (aC aE (aA 0) (bR bU (mC (.int 1)))) (aC aE (aA 1) (bR bU (mC (.int 1))))) aD)))))
def tU:FM:=aR 2 3 Sd
def Mc:MS:=(bD (mR gI (aB (aC aF (bF ["number"] [] (bA (dB (aA 0) dD (dA (bR bU (mC (.int 1)))))) (gN 0) (bR bU (aA 0))) (mN dZ (aB (aC aE (aA 0) (bR bU (mC (.int 1)))) aD))) aD)))
def qT:FM:=aR 1 1 Mc
def Ra:MS:=(bD (aJ tU [] (aB (aA 0) (aB (aJ qT [] (aB (aA 1) aD)) aD))))
def vY:FM:=aR 2 2 Ra
def Ha:MS:=(bD (bF ["near","far"] [(0,"start"),(1,"end")] (iS (aB (dB (aA 0) dD (dA (bR bU (mC (.int 1))))) (aB (dB (aA 1) dD (dA (bR bU (mC (.int 1))))) aD))) (gT 2 (bO (gN 0) (bO (gN 1) dE))) (aC dN (aC bG (aA 1) (aC aE (aA 2) (bR bU (mC (.int 1))))) (aC bG (aA 0) (aC aE (aA 3) (bR bU (mC (.int 1))))))))
def lU:FM:=aR 2 2 Ha
def Fg:MS:=(bD (mR pV (aB (bF ["one","other"] [] (iS (aB (aA 0) (aB (aA 1) aD))) (gT 2 (bO (gN 0) (bO (gN 1) dE))) (aC bG (aA 0) (aA 1))) aD)))
def yD:FM:=aR 2 2 Fg
def wM:MS:=(aG (aQ 1 (aC aE (aA 0) (mC (.int 0))))
 (aG (bW (bH (aC cT (mR cV (aB (aA 0) aD)) (mC (.int 1)))) (bD (mN dZ (aB (bR bU (aC aE (aA 1) (mC (.int 1)))) (aB (aC aE (aA 1) (mC (.int 0))) aD)))) cY)
 (aG (aQ 2 (aC aE (aA 0) (mC (.int 1))))
 (bD (mN dZ (aB (aC dN (aC bG (aC aE (aA 1) (mC (.int 1))) (aC aE (aA 2) (mC (.int 2)))) (aC bG (aC aE (aA 1) (mC (.int 2))) (aC aE (aA 2) (mC (.int 1))))) (aB (aC dN (aC bG (aC aE (aA 1) (mC (.int 2))) (aC aE (aA 2) (mC (.int 0)))) (aC bG (aC aE (aA 1) (mC (.int 0))) (aC aE (aA 2) (mC (.int 2))))) (aB (aC dN (aC bG (aC aE (aA 1) (mC (.int 0))) (aC aE (aA 2) (mC (.int 1)))) (aC bG (aC aE (aA 1) (mC (.int 1))) (aC aE (aA 2) (mC (.int 0))))) aD))))))))
def pB:FM:=aR 1 3 wM
def vP:MS:=(aG (aQ 1 (bF ["p"] [(0,"points")] (bA (dB (aA 0) (dA (mC (.int 1))) dD)) (gN 0) (aJ lU [] (aB (aC aE (aA 1) (mC (.int 0))) (aB (aA 0) aD)))))
 (bD (aJ yD [] (aB (aJ pB [] (aB (dB (aA 1) dD (dA (bR bU (mC (.int 1))))) aD)) (aB (aC aE (aA 1) (bR bU (mC (.int 1)))) aD)))))
def qJ:FM:=aR 1 2 vP
def xW:MS:=(bD (aJ pJ [] (aB (aJ qJ [] (aB (aA 0) aD)) aD)))
def pK:FM:=aR 1 1 xW
def wF:MS:=(aG (aQ 1 (mR rA (aB (aA 0) aD)))
 (aG (aQ 2 (aJ pK [] (aB (aA 1) aD)))
 (aG (bW (bH (aC cT (aA 2) (mC (.int 0)))) (xM "Flat") cY)
 (aG (bW (bH (aC kP (aA 2) (mC (.int 0)))) (aQ 1 (aC aF (dB (aA 1) dD (dA (bR bU (mC (.int 2))))) (mN dZ (aB (aC aE (aA 1) (bR bU (mC (.int 1)))) (aB (aC aE (aA 1) (bR bU (mC (.int 2)))) aD))))) cY)
 (bD (mR gI (aB (aA 1) aD)))))))
def qS:FM:=aR 1 3 wF
def Ce:MS:=(aG (aQ 1 (zH (bH (aC cT (mR cV (aB (aA 0) aD)) (mC (.int 3)))) (mC (.tup [.tup [.int 0,.int 1],.tup [.int 1,.int 2],.tup [.int 2,.int 0]])) (mC (.tup [.tup [.int 1,.int 2,.int 3],.tup [.int 0,.int 3,.int 2],.tup [.int 0,.int 1,.int 3],.tup [.int 0,.int 2,.int 1]]))))
 (bD (bF ["wall"] [(0,"piece")] (bA (aA 1)) (gN 0) (mR gI (aB (bF ["k"] [(1,"piece")] (bA (aA 0)) (gN 0) (aC aE (aA 1) (aA 0))) aD)))))
def tT:FM:=aR 1 2 Ce
def vT:MS:=(bD (aJ oY [] (aB (aJ pB [] (aB (bF ["p"] [(0,"wall")] (bA (dB (aA 0) (dA (mC (.int 1))) dD)) (gN 0) (aJ lU [] (aB (aC aE (aA 1) (mC (.int 0))) (aB (aA 0) aD)))) aD)) aD)))
def nQ:FM:=aR 1 1 vT
def Qd:MS:=(aG (bW (bH (aC cT (mR cV (aB (aA 0) aD)) (mC (.int 2)))) (bD (mN dZ (aB (aA 0) aD))) cY)
 (bD (bF ["k"] [(0,"wall")] (cM (aB (mR cV (aB (aA 0) aD)) aD)) (gN 0) (mN cU (aB (aC aE (aA 1) (aC dN (aA 0) (mC (.int 1)))) (aB (aC aE (aA 1) (aA 0)) aD))))))
def uB:FM:=aR 1 1 Qd
def Va:MS:=(aG (aQ 3 (aJ nQ [] (aB (aA 1) aD)))
 (bJ (bA (aJ uB [] (aB (aA 1) aD))) (gT 2 (bO (gN 4) (bO (gN 5) dE))) (aG (aQ 6 (aJ oY [] (aB (aJ lU [] (aB (aA 4) (aB (aA 5) aD))) aD)))
 (bJ (bA (mN cU (aB (mN cU (aB (aA 4) (aB (aA 2) aD))) (aB (mN cU (aB (aA 5) (aB (bR bU (aA 2)) aD))) aD)))) (gT 2 (bO (gN 7) (bO (gN 8) dE))) (aG (aQ 9 (mN cU (aB (aA 3) (aB (aA 6) (aB (aA 7) aD)))))
 (kK (aA 0) (aA 9) (aC aF (pR (aA 0) (aB (aA 9) (aB (mC (.int 0)) aD))) (aA 8))))))))
def sW:FM:=aR 3 10 Va
def Bf:MS:=(aG (aQ 2 (jZ true))
 (aG (bJ (bA (mN cU (aB (mN cU (aB (aA 0) (aB (mC (.int 1)) aD))) (aB (mN cU (aB (aA 1) (aB (bR bU (mC (.int 1))) aD))) aD)))) (gT 2 (bO (gN 3) (bO (gN 4) dE))) (bJ (bA (aA 3)) (gN 5) (bJ (bA (aJ tT [] (aB (aA 5) aD))) (gN 6) (cZ (aJ sW [] (aB (aA 2) (aB (aA 6) (aB (aA 4) aD))))))))
 (bD (bR rY (uV (aA 2))))))
def pL:FM:=aR 2 7 Bf
def Kb:MS:=(bD (aC cT (aC aE (aA 0) (mC (.int 0))) (mC (.int 1))))
def qO:FM:=aR 1 1 Kb
def Ja:MS:=(aG (bW (bH (aJ qO [] (aB (aA 1) aD))) (bD (aJ tU [] (aB (aA 0) (aB (aC aE (aA 1) (mC (.int 1))) aD)))) cY)
 (bD (aJ vY [] (aB (aC aE (aA 1) (mC (.int 1))) (aB (aA 0) aD)))))
def nP:FM:=aR 2 2 Ja
def Dd:MS:=(bD (mR gI (aB (bF ["piece"] [(1,"move")] (bA (aA 0)) (gN 0) (pS qS [] (aB (bF ["p"] [(1,"move")] (bA (aA 0)) (gN 0) (aJ nP [] (aB (aA 0) (aB (aA 1) aD)))) aD))) aD)))
def xF:FM:=aR 2 2 Dd
def wR:MS:=(aG (bW (bH (aJ qO [] (aB (aA 0) aD))) (bD (mN cU (aB (mC (.int 1)) (aB (aJ qT [] (aB (aC aE (aA 0) (mC (.int 1))) aD)) aD)))) cY)
 (bD (aA 0)))
def mW:FM:=aR 1 1 wR
def Sa:MS:=(bD (mR gI (aB (bF ["row"] [] (bA (aA 0)) (gN 0) (aC aE (aA 0) (mC (.int 0)))) aD)))
def vW:FM:=aR 1 1 Sa
def Ga:MS:=(bD (aC aE (aJ xF [] (aB (mN cU (aB (aC aE (aA 0) (mC (.int 0))) aD)) (aB (aC aE (aA 0) (mC (.int 1))) aD))) (mC (.int 0))))
def oX:FM:=aR 1 1 Ga
def Hb:MS:=(bD (mR gI (aB (bF ["row"] [] (bA (aA 0)) (gN 0) (aJ oX [] (aB (aA 0) aD))) aD)))
def wL:FM:=aR 1 1 Hb
def Tf:MS:=(bD (mR gI (aB (bF ["row"] [] (bA (aA 0)) (gN 0) (mN cU (aB (aJ oX [] (aB (aA 0) aD)) (aB (aJ mW [] (aB (aC aE (aA 0) (mC (.int 1))) aD)) aD)))) aD)))
def uK:FM:=aR 1 1 Tf
def Me:MS:=(aG (bW (gS (bH (aA 3)) (vF (bH (mR kO (aB (bF ["row"] [] (bA (aA 0)) (gN 0) (aJ qO [] (aB (aC aE (aA 0) (mC (.int 1))) aD))) aD))))) (bD (mC (.bl false))) cY)
 (bD (rS (nY pL (aB (aJ vW [] (aB (aA 0) aD)) (aB (aA 1) aD))) (nY pL (aB (aJ wL [] (aB (aA 0) aD)) (aB (aA 2) aD))))))
def jW:FM:=aR 4 4 Me
def Of:MS:=(aG (aQ 1 (eO aD))
 (aG (bJ (yJ (aB (dB (aA 0) dD (dA (mC (.int 63)))) aD)) (gT 2 (bO (gN 2) (bO (gN 3) dE))) (bW (bH (aC sQ (aA 3) (aC iI (mC (.int 10)) (mC (.int 18))))) (cZ (dG (aA 1) (aB (aC dN (aA 3) (aC iI (mC (.int 10)) (mC (.int 18)))) aD))) (aG (aQ 4 (aC fR (aC bG (aC aF (aC aF (aC aF (aA 3) (aC bG (aC bG (mC (.int 7)) (aA 2)) (aA 2))) (aC bG (mC (.int 13)) (aA 2))) (mC (.int 5))) (mC (.int 48271))) (mC (.int 2147483647))))
 (aG (aQ 5 (aC fR (aC bG (aC aF (aC aF (aC aF (aA 3) (aC bG (aC bG (mC (.int 11)) (aA 2)) (aA 2))) (aC bG (mC (.int 17)) (aA 2))) (mC (.int 3))) (mC (.int 40692))) (mC (.int 2147483399))))
 (aG (aQ 6 (aC fR (aC bG (aC aF (aC aF (aC aF (aA 3) (aC bG (aC bG (mC (.int 5)) (aA 2)) (aA 2))) (aC bG (mC (.int 29)) (aA 2))) (mC (.int 8))) (mC (.int 39373))) (mC (.int 2147483587))))
 (aG (aQ 4 (aC fR (aC bG (aA 4) (mC (.int 52021))) (mC (.int 1000000007))))
 (aG (aQ 5 (aC fR (aC bG (aA 5) (mC (.int 30011))) (mC (.int 998244353))))
 (aG (aQ 6 (aC fR (aC bG (aA 6) (mC (.int 45989))) (mC (.int 1000000009))))
 (cZ (dG (aA 1) (aB (aC aF (aC bG (aC aF (aC bG (aA 4) (mC (.int 998244353))) (aA 5)) (mC (.int 1000000009))) (aA 6)) aD)))))))))))
 (bD (aA 1))))
def rK:FM:=aR 1 7 Of
def wX:MS:=(aG (lD (gS (bH (aC eJ (mR cV (aB (aA 0) aD)) (mC (.int 0)))) (bH (aC cT (aC aE (aA 0) (mC (.int 0))) (mC (.int 0))))) (cZ (lJ (aA 0) (aB (mC (.int 0)) aD))))
 (aG (bW (bH (aC cT (mR cV (aB (aA 0) aD)) (mC (.int 0)))) (bD (mC (.int 0))) cY)
 (aG (aQ 2 (aC fR (aC aE (aA 0) (mC (.int 0))) (aA 1)))
 (aG (kZ (aA 0) (mC (.int 0)) (aC iG (aC aE (aA 0) (mC (.int 0))) (aA 1)))
 (bD (aA 2))))))
def cE:FM:=aR 2 3 wX
def Pf:MS:=(aG (aQ 0 (mR pY (aB (aA 0) aD)))
 (aG (aQ 1 (mR pY (aB (aA 1) aD)))
 (aG (lD (bH (aC eJ (aA 1) (mC (.int 0)))) (uY 0 1 (aB (aA 1) (aB (aC fR (aA 0) (aA 1)) aD))))
 (bD (aA 0)))))
def uE:FM:=aR 2 2 Pf
def Db:MS:=(aG (aQ 1 (mC (.int 0)))
 (aG (bJ (bA (aA 0)) (gN 2) (aQ 1 (aJ uE [] (aB (aA 1) (aB (aA 2) aD)))))
 (aG (bW (bH (aC cT (aA 1) (mC (.int 0)))) (bD (mR gI (aB (aA 0) aD))) cY)
 (bD (mR gI (aB (bF ["_law_number"] [(1,"_law_by")] (bA (aA 0)) (gN 0) (aC iG (aA 0) (aA 1))) aD))))))
def jG:FM:=aR 1 3 Db
def Jb:MS:=(aG (aQ 1 (aJ jG [] (aB (aA 0) aD)))
 (aG (bJ (bA (aA 1)) (gN 2) (aG (bW (bH (aC eJ (aA 2) (mC (.int 0)))) (bD (aA 1)) cY)
 (bW (bH (aC kP (aA 2) (mC (.int 0)))) (bD (mR gI (aB (bF ["_law_one"] [] (bA (aA 1)) (gN 0) (aC dN (mC (.int 0)) (aA 0))) aD))) cY)))
 (bD (aA 1))))
def mP:FM:=aR 1 3 Jb
def Fd:MS:=(aG (bW (bH (aC kP (aA 1) (mC (.int 0)))) (bD (aJ jG [] (aB (mN dZ (aB (aC dN (mC (.int 0)) (aA 0)) (aB (aC dN (mC (.int 0)) (aA 1)) aD))) aD))) cY)
 (bD (aJ jG [] (aB (mN dZ (aB (aA 0) (aB (aA 1) aD))) aD))))
def uC:FM:=aR 2 2 Fd
def Rb:MS:=(aG (aQ 3 (bF ["_law_k"] [(2,"_law_way"),(1,"_law_q"),(0,"_law_p")] (cM (aB (aC dN (mR cV (aB (aA 0) aD)) (mC (.int 1))) aD)) (gN 0) (aC aF (aC bG (aC bG (aA 1) (aC aE (aA 3) (aA 0))) (aC aE (aA 2) (bR bU (mC (.int 1))))) (aC bG (aC aE (aA 2) (aA 0)) (aC aE (aA 3) (bR bU (mC (.int 1))))))))
 (bD (aJ jG [] (aB (aC aF (aA 3) (mN dZ (aB (aC bG (aC aE (aA 0) (bR bU (mC (.int 1)))) (aC aE (aA 1) (bR bU (mC (.int 1))))) aD))) aD))))
def kU:FM:=aR 3 4 Rb
def Uf:MS:=(bD (bF ["_law_k"] [(1,"_law_q"),(0,"_law_p")] (cM (aB (aC dN (mR cV (aB (aA 0) aD)) (mC (.int 1))) aD)) (gN 0) (aC dN (aC bG (aC aE (aA 1) (aA 0)) (aC aE (aA 2) (bR bU (mC (.int 1))))) (aC bG (aC aE (aA 2) (aA 0)) (aC aE (aA 1) (bR bU (mC (.int 1))))))))
def nE:FM:=aR 2 2 Uf
def wT:MS:=(aG (aQ 2 (aC dN (aC bG (aC aE (aA 0) (mC (.int 1))) (aC aE (aA 1) (mC (.int 2)))) (aC bG (aC aE (aA 0) (mC (.int 2))) (aC aE (aA 1) (mC (.int 1))))))
 (aG (aQ 3 (aC dN (aC bG (aC aE (aA 0) (mC (.int 2))) (aC aE (aA 1) (mC (.int 0)))) (aC bG (aC aE (aA 0) (mC (.int 0))) (aC aE (aA 1) (mC (.int 2))))))
 (aG (aQ 4 (aC dN (aC bG (aC aE (aA 0) (mC (.int 0))) (aC aE (aA 1) (mC (.int 1)))) (aC bG (aC aE (aA 0) (mC (.int 1))) (aC aE (aA 1) (mC (.int 0))))))
 (bD (mN dZ (aB (aA 2) (aB (aA 3) (aB (aA 4) aD))))))))
def mY:FM:=aR 2 5 wT
def Jf:MS:=(bD (mR pV (aB (bF ["_law_one","_law_other"] [] (iS (aB (aA 0) (aB (aA 1) aD))) (gT 2 (bO (gN 0) (bO (gN 1) dE))) (aC bG (aA 0) (aA 1))) aD)))
def uI:FM:=aR 2 2 Jf
def rC:MS:=(aG (bW (bH (aC cT (mR cV (aB (aA 0) aD)) (mC (.int 2)))) (bD (aC dN (aC bG (aC aE (aC aE (aA 0) (mC (.int 0))) (mC (.int 0))) (aC aE (aC aE (aA 0) (mC (.int 1))) (mC (.int 1)))) (aC bG (aC aE (aC aE (aA 0) (mC (.int 0))) (mC (.int 1))) (aC aE (aC aE (aA 0) (mC (.int 1))) (mC (.int 0)))))) cY)
 (bD (aJ uI [] (aB (aJ mY [] (aB (aC aE (aA 0) (mC (.int 0))) (aB (aC aE (aA 0) (mC (.int 1))) aD))) (aB (aC aE (aA 0) (mC (.int 2))) aD)))))
def kX:FM:=aR 1 1 rC
def xV:MS:=(bD (aJ kX [] (aB (bF ["_law_p"] [(0,"_law_points")] (bA (dB (aA 0) (dA (mC (.int 1))) dD)) (gN 0) (aJ nE [] (aB (aC aE (aA 1) (mC (.int 0))) (aB (aA 0) aD)))) aD)))
def pO:FM:=aR 1 1 xV
def vZ:MS:=(aG (aQ 1 (mR rA (aB (aA 0) aD)))
 (aG (bW (bH (aC kP (aJ pO [] (aB (aA 1) aD)) (mC (.int 0)))) (aQ 1 (aC aF (dB (aA 1) dD (dA (bR bU (mC (.int 2))))) (mN dZ (aB (aC aE (aA 1) (bR bU (mC (.int 1)))) (aB (aC aE (aA 1) (bR bU (mC (.int 2)))) aD))))) cY)
 (bD (mR gI (aB (aA 1) aD)))))
def kT:FM:=aR 1 2 vZ
def Ma:MS:=(bD (aJ mP [] (aB (aJ mY [] (aB (aA 0) (aB (aA 1) aD))) aD)))
def qL:FM:=aR 2 2 Ma
def Ia:MS:=(bD (aJ mP [] (aB (aC aF (aJ nE [] (aB (aA 0) (aB (aA 1) aD))) (aJ mY [] (aB (aA 0) (aB (aA 1) aD)))) aD)))
def qK:FM:=aR 2 2 Ia
def Cd:MS:=(aG (aQ 3 (aJ mY [] (aB (aJ nE [] (aB (aA 0) (aB (aA 1) aD))) (aB (aJ nE [] (aB (aA 0) (aB (aA 2) aD))) aD))))
 (bD (aJ mP [] (aB (aC aF (bF ["_law_number"] [(0,"_law_p")] (bA (aA 3)) (gN 0) (aC bG (aA 0) (aC aE (aA 1) (mC (.int 3))))) (mN dZ (aB (aC dN (mC (.int 0)) (aJ uI [] (aB (aA 3) (aB (aA 0) aD)))) aD))) aD))))
def qX:FM:=aR 3 4 Cd
def Ad:MS:=(aG (mJ (gT 4 (bO (gN 1) (bO (gN 2) (bO (gN 3) (bO (gN 4) dE))))) (aA 0))
 (bD (mN dZ (aB (mN cU (aB (aA 2) (aB (aA 3) (aB (aA 4) aD)))) (aB (mN cU (aB (aA 1) (aB (aA 4) (aB (aA 3) aD)))) (aB (mN cU (aB (aA 1) (aB (aA 2) (aB (aA 4) aD)))) (aB (mN cU (aB (aA 1) (aB (aA 3) (aB (aA 2) aD)))) aD)))))))
def mU:FM:=aR 1 5 Ad
def Se:MS:=(kK (aA 0) (aA 1) (aC aF (pR (aA 0) (aB (aA 1) (aB (mC (.int 0)) aD))) (aA 2)))
def lC:FM:=aR 3 3 Se
def xI:MS:=(aG (bW (bH (aC cT (mR cV (aB (aA 1) aD)) (mC (.int 3)))) (aG (bJ (cM (aB (mC (.int 3)) aD)) (gN 3) (aG (aQ 4 (aC aE (aA 1) (aC dN (aA 3) (mC (.int 1)))))
 (aG (aQ 5 (aC aE (aA 1) (aA 3)))
 (aG (aQ 6 (aJ qL [] (aB (aA 4) (aB (aA 5) aD))))
 (aG (cZ (aJ lC [] (aB (aA 0) (aB (mN cU (aB (aA 6) (aB (aA 4) aD))) (aB (aA 2) aD)))))
 (cZ (aJ lC [] (aB (aA 0) (aB (mN cU (aB (aA 6) (aB (aA 5) aD))) (aB (aC dN (mC (.int 0)) (aA 2)) aD))))))))))
 oI) cY)
 (aG (aQ 7 (jZ true))
 (aG (bJ (cM (aB (mC (.int 4)) aD)) (gN 3) (bJ (cM (aB (aA 3) aD)) (gN 8) (aG (aQ 6 (aJ qK [] (aB (aC aE (aA 1) (aA 8)) (aB (aC aE (aA 1) (aA 3)) aD))))
 (aG (kK (aA 7) (mN cU (aB (aC aE (aA 1) (aA 8)) (aB (aC aE (aA 1) (aA 3)) aD))) (aA 6))
 (kK (aA 7) (mN cU (aB (aC aE (aA 1) (aA 3)) (aB (aC aE (aA 1) (aA 8)) aD))) (aA 6))))))
 (bJ (bA (aJ mU [] (aB (aA 1) aD))) (gN 9) (aG (aQ 10 (aJ qX [] (aB (aC aE (aA 9) (mC (.int 0))) (aB (aC aE (aA 9) (mC (.int 1))) (aB (aC aE (aA 9) (mC (.int 2))) aD)))))
 (bJ (cM (aB (mC (.int 3)) aD)) (gN 3) (aG (aQ 4 (aC aE (aA 9) (aC dN (aA 3) (mC (.int 1)))))
 (aG (aQ 5 (aC aE (aA 9) (aA 3)))
 (aG (aQ 6 (mI (aA 7) (mN cU (aB (aA 4) (aB (aA 5) aD)))))
 (aG (cZ (aJ lC [] (aB (aA 0) (aB (mN cU (aB (aA 10) (aB (aA 6) (aB (aA 4) aD)))) (aB (aA 2) aD)))))
 (cZ (aJ lC [] (aB (aA 0) (aB (mN cU (aB (aA 10) (aB (aA 6) (aB (aA 5) aD)))) (aB (aC dN (mC (.int 0)) (aA 2)) aD)))))))))))))))
def nB:FM:=aR 3 11 xI
def Je:MS:=(aG (aQ 2 (jZ true))
 (aG (bJ (bA (aA 0)) (gN 3) (cZ (aJ nB [] (aB (aA 2) (aB (aA 3) (aB (mC (.int 1)) aD))))))
 (aG (bJ (bA (aA 1)) (gN 3) (cZ (aJ nB [] (aB (aA 2) (aB (aA 3) (aB (bR bU (mC (.int 1))) aD))))))
 (bD (mR kO (aB (bF ["_law_key"] [(2,"_law_table")] (bA (uQ (aB (aA 2) aD))) (gN 0) (aC cT (mI (aA 1) (aA 0)) (mC (.int 0)))) aD))))))
def rE:FM:=aR 2 4 Je
def Vd:MS:=(bD (aJ kT [] (aB (bF ["_law_p"] [(2,"_law_far_here"),(1,"_law_way")] (bA (aA 0)) (gN 0) (aJ kU [] (aB (aA 0) (aB (aA 1) (aB (aA 2) aD))))) aD)))
def mZ:FM:=aR 3 3 Vd
def Zb:MS:=(aG (bW (vF (bH (nY rE (aB (bF ["_law_row_here"] [] (bA (aA 0)) (gN 0) (aC aE (aA 0) (mC (.int 0)))) (aB (aA 1) aD))))) (bD (mC (.bl false))) cY)
 (bD (nY rE (aB (bF ["_law_row_here"] [] (bA (aA 0)) (gN 0) (aJ mZ [] (aB (aC aE (aA 0) (mC (.int 0))) (aB (aC aE (aC aE (aA 0) (mC (.int 1))) (mC (.int 0))) (aB (aC aE (aC aE (aA 0) (mC (.int 1))) (mC (.int 1))) aD))))) (aB (aA 2) aD)))))
def tL:FM:=aR 3 3 Zb
def vU:MS:=(bD (aJ kX [] (aB (bF ["_law_corner"] [(0,"_law_corners")] (bA (dB (aA 0) (dA (mC (.int 1))) dD)) (gN 0) (bF ["_law_b","_law_c"] [] (iS (aB (aC aE (aA 1) (mC (.int 0))) (aB (aA 0) aD))) (gT 2 (bO (gN 0) (bO (gN 1) dE))) (aC dN (aA 1) (aA 0)))) aD)))
def nR:FM:=aR 1 1 vU
def Vf:MS:=(aG (aQ 3 (eO aD))
 (aG (bJ (cM (aB (aC aF (aA 1) (mC (.int 1))) aD)) (gN 4) (cZ (dG (aA 3) (aB (bF ["_law_m"] [(0,"_law_row_here"),(2,"_law_wide")] (cM (aB (aA 1) aD)) (gN 0) (aJ cE [] (aB (aA 1) (aB (aC aF (aA 2) (mC (.int 1))) aD)))) aD))))
 (aG (bW (bH (aC lO (aJ nR [] (aB (aA 3) aD)) (mC (.int 0)))) (bD (aA 3)) cY)
 (bD (bF ["_law_k"] [(1,"_law_dims")] (nV (aB (bR bU (mC (.int 1))) (aB (aA 1) aD))) (gN 0) (bF ["_law_m"] [(0,"_law_k")] (cM (aB (aA 1) aD)) (gN 0) (mR jO (aB (aC cT (aA 0) (aA 1)) aD))))))))
def mE:FM:=aR 3 5 Vf
def xG:MS:=(aG (aQ 1 (eO (aB (mC (.int 0)) (aB (mC (.int 1)) (aB (mC (.int 2)) aD)))))
 (aG (aQ 2 (eO (aB (mC (.int 0)) (aB (mC (.int 0)) (aB (mC (.int 0)) aD)))))
 (aG (aQ 3 (vE (aB (aA 2) aD)))
 (aG (bJ (cM (aB (mC (.int 3)) aD)) (gN 4) (aG (kZ (aA 2) (lJ (aA 1) (aB (aJ cE [] (aB (aA 0) (aB (mR cV (aB (aA 1) aD)) aD))) aD)) (mC (.int 1)))
 (cZ (uU (aA 3) (aB (aA 2) aD)))))
 (aG (bJ (cM (aB (mC (.int 3)) aD)) (gN 5) (bW (bH (aC cT (aJ cE [] (aB (aA 0) (aB (mC (.int 4)) aD))) (mC (.int 3)))) (pU 3 2 5) cY))
 (bD (aA 3)))))))
def rD:FM:=pZ 1 6 xG
def Na:MS:=(aG (aQ 3 (eO aD))
 (aG (bJ (cM (aB (aJ cE [] (aB (aA 0) (aB (aC aF (aA 2) (mC (.int 1))) aD))) aD)) (gN 4) (aG (aQ 5 (aJ cE [] (aB (aA 0) (aB (mC (.int 6)) aD))))
 (bW (gS (bH (aC cT (aA 5) (mC (.int 5)))) (bH (aC eJ (mR cV (aB (aA 3) aD)) (mC (.int 0))))) (cZ (dG (aA 3) (aB (aC aE (aA 3) (bR bU (mC (.int 1)))) aD))) (bW (bH (aC cT (aA 1) (mC (.int 2)))) (cZ (dG (aA 3) (aB (aJ mE [] (aB (aA 0) (aB (mC (.int 2)) (aB (aC aF (mC (.int 1)) (mR jO (aB (aC cT (aA 5) (mC (.int 4))) aD))) aD)))) aD))) (bW (bH (aC eJ (aA 5) (mC (.int 3)))) (cZ (dG (aA 3) (aB (aJ mE [] (aB (aA 0) (aB (mC (.int 3)) (aB (mC (.int 1)) aD)))) aD))) (cZ (dG (aA 3) (aB (aJ rD [] (aB (aA 0) aD)) aD))))))))
 (bD (aA 3))))
def qM:FM:=aR 3 6 Na
def Mf:MS:=(aG (aQ 2 (aJ cE [] (aB (aA 0) (aB (mC (.int 4)) aD))))
 (aG (aQ 3 (aC aE (mN dZ (aB (mC (.int 0)) (aB (mC (.int 3)) (aB (mC (.int 9)) (aB (aC iI (mC (.int 10)) (mC (.int 12))) aD))))) (aA 2)))
 (aG (aQ 4 (aC aF (mC (.int 1)) (aC bG (aJ cE [] (aB (aA 0) (aB (mC (.int 9)) aD))) (aC iG (aA 2) (mC (.int 2))))))
 (aG (aQ 5 (bF ["_law_k"] [(3,"_law_wide"),(0,"_law_row_here")] (cM (aB (aA 1) aD)) (gN 0) (aC dN (aJ cE [] (aB (aA 2) (aB (aC aF (aC bG (mC (.int 2)) (aA 1)) (mC (.int 1))) aD))) (aA 1))))
 (bD (aJ jG [] (aB (aC aF (aA 5) (mN dZ (aB (aA 4) aD))) aD)))))))
def kI:FM:=aR 2 6 Mf
def Qa:MS:=(aG (aQ 2 (eO aD))
 (aG (bJ (cM (aB (aA 1) aD)) (gN 3) (aG (aQ 4 (aJ cE [] (aB (aA 0) (aB (mC (.int 3)) aD))))
 (cZ (dG (aA 2) (aB (aJ uC [] (aB (aC aF (mC (.int 1)) (aJ cE [] (aB (aA 0) (aB (aC aE (mN dZ (aB (mC (.int 1)) (aB (mC (.int 7)) (aB (aC iI (mC (.int 10)) (mC (.int 9))) aD)))) (aA 4)) aD)))) (aB (aC aF (mC (.int 1)) (aJ cE [] (aB (aA 0) (aB (aC aE (mN dZ (aB (mC (.int 1)) (aB (mC (.int 7)) (aB (aC iI (mC (.int 10)) (mC (.int 6))) aD)))) (aA 4)) aD)))) aD))) aD)))))
 (bD (aA 2))))
def sY:FM:=aR 2 5 Qa
def xE:MS:=(aG (aQ 2 (mC (.int 1)))
 (aG (bJ (bA (aA 1)) (gN 3) (aQ 2 (aC bG (aA 2) (aC aE (aA 3) (mC (.int 1))))))
 (aG (aQ 4 (bF ["_law_number","_law_part"] [(2,"_law_under")] (iS (aB (aA 0) (aB (aA 1) aD))) (gT 2 (bO (gN 0) (bO (gN 1) dE))) (aC bG (aC bG (aA 0) (aC aE (aA 1) (mC (.int 0)))) (aC iG (aA 2) (aC aE (aA 1) (mC (.int 1)))))))
 (bD (aJ jG [] (aB (aC aF (aA 4) (mN dZ (aB (aA 2) aD))) aD))))))
def pF:FM:=aR 2 5 xE
def Xd:MS:=(aG (aQ 3 (eO aD))
 (aG (bJ (bA (aA 1)) (gN 4) (aG (aQ 5 (aJ kI [] (aB (aA 0) (aB (mR cV (aB (aA 2) aD)) aD))))
 (cZ (dG (aA 3) (aB (aJ kT [] (aB (bF ["_law_corner"] [(5,"_law_far_here"),(2,"_law_stretch_here")] (bA (aA 4)) (gN 0) (aJ kU [] (aB (aJ pF [] (aB (aA 0) (aB (aA 2) aD))) (aB (aA 1) (aB (mC (.int 1)) aD))))) aD)) aD)))))
 (bD (aA 3))))
def tY:FM:=aR 3 6 Xd
def wH:MS:=(aG (bW (bH (aC cT (aJ cE [] (aB (aA 0) (aB (mC (.int 2)) aD))) (mC (.int 1)))) (bD (mR gI (aB (aA 1) aD))) cY)
 (bD (mR kJ (aB (aA 1) aD))))
def jV:FM:=aR 2 2 wH
def Gc:MS:=(aG (aQ 2 (aJ cE [] (aB (aA 0) (aB (mR cV (aB (aA 1) aD)) aD))))
 (aG (aQ 3 (aC fR (aC aF (aC aF (aA 2) (mC (.int 1))) (aJ cE [] (aB (aA 0) (aB (aC dN (mR cV (aB (aA 1) aD)) (mC (.int 1))) aD)))) (mR cV (aB (aA 1) aD))))
 (aG (aQ 4 (aC aF (mC (.int 1)) (aJ cE [] (aB (aA 0) (aB (mC (.int 3)) aD)))))
 (aG (aQ 5 (aC aF (mC (.int 1)) (aJ cE [] (aB (aA 0) (aB (mC (.int 3)) aD)))))
 (aG (aQ 6 (aC aE (aA 1) (aA 2)))
 (aG (aQ 7 (aC aE (aA 1) (aA 3)))
 (aG (aQ 8 (bF ["_law_k"] [(4,"_law_u"),(7,"_law_q"),(5,"_law_v"),(6,"_law_p")] (cM (aB (aC dN (mR cV (aB (aA 6) aD)) (mC (.int 1))) aD)) (gN 0) (aC aF (aC bG (aC bG (aA 1) (aC aE (aA 4) (aA 0))) (aC aE (aA 2) (bR bU (mC (.int 1))))) (aC bG (aC bG (aA 3) (aC aE (aA 2) (aA 0))) (aC aE (aA 4) (bR bU (mC (.int 1))))))))
 (aG (aQ 9 (aJ jG [] (aB (aC aF (aA 8) (mN dZ (aB (aC bG (aC bG (aC aF (aA 4) (aA 5)) (aC aE (aA 6) (bR bU (mC (.int 1))))) (aC aE (aA 7) (bR bU (mC (.int 1))))) aD))) aD)))
 (aG (aQ 10 (rP (aB (aA 1) aD)))
 (aG (kZ (aA 10) (aA 2) (aA 9))
 (aG (aQ 11 (rP (aB (aA 1) aD)))
 (aG (kZ (aA 11) (aA 3) (aA 9))
 (bD (mN dZ (aB (aJ kT [] (aB (aA 10) aD)) (aB (aJ kT [] (aB (aA 11) aD)) aD))))))))))))))))
def qW:FM:=aR 2 12 Gc
def Lb:MS:=(aG (aQ 2 (eO aD))
 (aG (bJ (bA (aA 1)) (gN 3) (bW (bH (aC eJ (aJ cE [] (aB (aA 0) (aB (mC (.int 3)) aD))) (mC (.int 0)))) (aQ 2 (uP (aA 2) (aJ qW [] (aB (aA 0) (aB (aA 3) aD))))) (cZ (dG (aA 2) (aB (aA 3) aD)))))
 (aG (aQ 4 (eO aD))
 (aG (lD (bH (aC eJ (mR cV (aB (aA 2) aD)) (mC (.int 0)))) (cZ (dG (aA 4) (aB (lJ (aA 2) (aB (aJ cE [] (aB (aA 0) (aB (mR cV (aB (aA 2) aD)) aD))) aD)) aD))))
 (bD (aA 4))))))
def kF:FM:=aR 2 5 Lb
def Kc:MS:=(aG (aQ 4 (eO aD))
 (aG (bJ (bA (aA 1)) (gN 5) (aG (aQ 6 (mC (.int 1)))
 (aG (bW (gS (bH (aA 3)) (bH (aC cT (aJ cE [] (aB (aA 0) (aB (mC (.int 2)) aD))) (mC (.int 1))))) (aQ 6 (bR bU (mC (.int 1)))) cY)
 (cZ (dG (aA 4) (aB (mN cU (aB (aA 5) (aB (mN cU (aB (aA 6) (aB (aJ kI [] (aB (aA 0) (aB (aA 2) aD))) aD))) aD))) aD))))))
 (bD (aA 4))))
def tI:FM:=aR 4 7 Kc
def Lc:MS:=(bD (bF ["_law_points","_law_by"] [] (bA (aA 0)) (gT 2 (bO (gN 0) (bO (gN 1) dE))) (aJ mZ [] (aB (aA 0) (aB (aC aE (aA 1) (mC (.int 0))) (aB (aC aE (aA 1) (mC (.int 1))) aD))))))
def tQ:FM:=aR 1 1 Lc
def qY:MS:=(aG (aQ 5 (aJ cE [] (aB (aA 0) (aB (mR cV (aB (aA 2) aD)) aD))))
 (aG (bW (bH (aC cT (aA 1) (mC (.int 2)))) (aG (aQ 6 (aJ cE [] (aB (aA 0) (aB (mR cV (aB (aA 3) aD)) aD))))
 (bD (mN cU (aB (aA 2) (aB (aC aF (dB (aA 3) dD (dA (aA 6))) (dB (aA 3) (dA (aC aF (aA 6) (mC (.int 1)))) dD)) (aB (aA 4) aD)))))) cY)
 (aG (bW (bH (aC cT (aA 1) (mC (.int 3)))) (aG (aQ 7 (aJ cE [] (aB (aA 0) (aB (mR cV (aB (aA 4) aD)) aD))))
 (aG (aQ 8 (aJ cE [] (aB (aA 0) (aB (aC aF (mR cV (aB (aA 4) aD)) (mC (.int 1))) aD))))
 (bD (mN cU (aB (aA 2) (aB (aA 3) (aB (aC aF (aC aF (dB (aA 4) dD (dA (aA 8))) (mN dZ (aB (aC aE (aA 4) (aA 7)) aD))) (dB (aA 4) (dA (aA 8)) dD)) aD))))))) cY)
 (aG (bW (bH (aC cT (aA 1) (mC (.int 4)))) (aG (mJ (gT 2 (bO (gN 9) (bO (gN 10) dE))) (aC aE (aA 2) (aA 5)))
 (aG (aQ 11 (aJ kU [] (aB (aC aE (aA 10) (mC (.int 1))) (aB (mR gI (aB (aC aF (aC vC (mN dZ (aB (mC (.int 0)) aD)) (aC dN (mR cV (aB (aA 9) aD)) (mC (.int 2)))) (mN dZ (aB (mC (.int 1)) (aB (mC (.int 3)) aD)))) aD)) (aB (mC (.int 1)) aD)))))
 (bD (mN cU (aB (aC aF (aC aF (dB (aA 2) dD (dA (aA 5))) (mN dZ (aB (mN cU (aB (aA 9) (aB (mN cU (aB (aC aE (aA 10) (mC (.int 0))) (aB (aA 11) aD))) aD))) aD))) (dB (aA 2) (dA (aC aF (aA 5) (mC (.int 1)))) dD)) (aB (aA 3) (aB (aA 4) aD))))))) cY)
 (aG (aQ 8 (aJ cE [] (aB (aA 0) (aB (aC aF (mR cV (aB (aA 2) aD)) (mC (.int 1))) aD))))
 (bD (mN cU (aB (aC aF (aC aF (dB (aA 2) dD (dA (aA 8))) (mN dZ (aB (aC aE (aA 2) (aA 5)) aD))) (dB (aA 2) (dA (aA 8)) dD)) (aB (aA 3) (aB (aA 4) aD))))))))))
def mQ:FM:=aR 5 12 qY
def Lg:MS:=(aG (aQ 1 (rH rK [] (aB (aA 0) aD)))
 (aG (aQ 2 (aC aF (mC (.int 2)) (aJ cE [] (aB (aA 1) (aB (mC (.int 2)) aD)))))
 (aG (aQ 3 (aJ tY [] (aB (aA 1) (aB (aJ qM [] (aB (aA 1) (aB (aA 2) (aB (mC (.int 3)) aD)))) (aB (aJ sY [] (aB (aA 1) (aB (aA 2) aD))) aD)))))
 (aG (aQ 4 (aJ tI [] (aB (aA 1) (aB (aJ kF [] (aB (aA 1) (aB (aA 3) aD))) (aB (aA 2) (aB (mC (.bl true)) aD))))))
 (aG (aQ 5 (aJ kF [] (aB (aA 1) (aB (aA 3) aD))))
 (aG (aQ 6 (aJ kF [] (aB (aA 1) (aB (aJ tQ [] (aB (aA 4) aD)) aD))))
 (aG (aQ 7 (aJ cE [] (aB (aA 1) (aB (mC (.int 6)) aD))))
 (aG (bW (bH (aC cT (mR cV (aB (aA 4) aD)) (mC (.int 0)))) (aQ 7 (mC (.int 0))) cY)
 (aG (bW (bH (aC eJ (aA 7) (mC (.int 1)))) (mJ (gT 3 (bO (gN 4) (bO (gN 5) (bO (gN 6) dE)))) (aJ mQ [] (aB (aA 1) (aB (aA 7) (aB (aA 4) (aB (aA 5) (aB (aA 6) aD))))))) cY)
 (aG (aQ 8 (aJ tL [] (aB (aA 4) (aB (aA 5) (aB (aA 6) aD)))))
 (aG (bW (gS (bH (aC eJ (mR cV (aB (aA 5) aD)) (mC (.int 0)))) (bH (aJ jW [.bl false] (aB (mN cU aD) (aB (aA 5) (aB (aA 6) aD)))))) (bD (mC (.bl false))) cY)
 (aG (aQ 9 (mN dZ (aB (aJ jW [.bl false] (aB (aJ jV [] (aB (aA 1) (aB (aA 4) aD))) (aB (aJ jV [] (aB (aA 1) (aB (aA 5) aD))) (aB (aJ jV [] (aB (aA 1) (aB (aA 6) aD))) aD)))) aD)))
 (aG (aQ 9 (aC aF (aA 9) (mN dZ (aB (aJ jW [] (aB (aA 4) (aB (aA 5) (aB (aA 6) (aB (mC (.bl false)) aD))))) (aB (aJ jW [.bl false] (aB (aJ uK [] (aB (aA 4) aD)) (aB (aA 6) (aB (aA 5) aD)))) aD)))))
 (bD (mR kO (aB (bF ["_law_found"] [(8,"_law_due")] (bA (aA 9)) (gN 0) (rS (bR (lI "bool") (aA 0)) (aC cT (aA 0) (aA 1)))) aD))))))))))))))))
def Hg:FM:=aR 1 10 Lg
abbrev xH(B:Bx):=cB B "sign" 1 ["number"] pJ
abbrev Fk(B:Bx):=cB B "divisor" 1 ["one","other"] tG
abbrev Ta(B:Bx):=cB B "reduced" 2 ["numbers"] sZ
abbrev Fa(B:Bx):=cB B "lowest_way" 3 ["numbers"] oY
abbrev Hn(B:Bx):=Rh B "point" 3 ["numbers","bottom"] tW
abbrev Tc(B:Bx):=cB B "added" 4 ["p","q"] tU
abbrev Wb(B:Bx):=cB B "turned" 1 ["p"] qT
abbrev Lj(B:Bx):=cB B "lessened" 5 ["p","q"] vY
abbrev vO(B:Bx):=cB B "whole_arrow" 1 ["start","end"] lU
abbrev Bt(B:Bx):=cB B "dot" 1 ["u","v"] yD
abbrev Cb(B:Bx):=cB B "normal" 1 ["arrows"] pB
abbrev Ni(B:Bx):=cB B "determinant" 2 ["points"] qJ
abbrev Ks(B:Bx):=cB B "side" 3 ["points"] pK
abbrev Qj(B:Bx):=Rh B "simplex" 4 ["points"] qS
abbrev Xm(B:Bx):=cB B "walls" 1 ["piece"] tT
abbrev Bj(B:Bx):=cB B "plane_way" 4 ["wall"] nQ
abbrev Gn(B:Bx):=cB B "sides" 1 ["wall"] uB
abbrev Dj(B:Bx):=cB B "put_wall" 5 ["marks","wall","number"] sW
abbrev Qq(B:Bx):=cB B "same" 6 ["one","other"] pL
abbrev wD(B:Bx):=cB B "is_push" 1 ["move"] qO
abbrev Mi(B:Bx):=cB B "moved_point" 6 ["p","move"] nP
abbrev Qn(B:Bx):=cB B "moved" 7 ["heap","move"] xF
abbrev Dm(B:Bx):=cB B "undone" 2 ["move"] mW
abbrev Fj(B:Bx):=cB B "comes_of" 1 ["cutting"] vW
abbrev Ea(B:Bx):=cB B "moved_piece" 8 ["row"] oX
abbrev Qk(B:Bx):=cB B "goes_to" 9 ["cutting"] wL
abbrev Zq(B:Bx):=cB B "back" 9 ["cutting"] uK
abbrev Xn(B:Bx):=Qx B "leads" 10 ["cutting","one","other","pushes"] jW [.bl false]
abbrev Hs(B:Bx):=cB B "_law_row" 1 ["_law_script"] rK
abbrev kG(B:Bx):=cB B "_law_take" 1 ["_law_row_here","_law_many"] cE
abbrev Cq(B:Bx):=cB B "_law_gcd" 1 ["_law_one","_law_other"] uE
abbrev pA(B:Bx):=cB B "_law_lowest" 2 ["_law_numbers"] jG
abbrev wA(B:Bx):=cB B "_law_upward" 3 ["_law_numbers"] mP
abbrev Np(B:Bx):=cB B "_law_frac" 3 ["_law_top","_law_bottom"] uC
abbrev wB(B:Bx):=cB B "_law_joined" 3 ["_law_p","_law_q","_law_way"] kU
abbrev wV(B:Bx):=cB B "_law_gap" 1 ["_law_p","_law_q"] nE
abbrev tF(B:Bx):=cB B "_law_cross" 1 ["_law_u","_law_v"] mY
abbrev Nd(B:Bx):=cB B "_law_dot" 1 ["_law_u","_law_v"] uI
abbrev Dc(B:Bx):=cB B "_law_turn" 2 ["_law_ways"] kX
abbrev Ds(B:Bx):=cB B "_law_det" 3 ["_law_points"] pO
abbrev vS(B:Bx):=cB B "_law_simplex" 4 ["_law_points"] kT
abbrev Ti(B:Bx):=cB B "_law_flat_line" 4 ["_law_p","_law_q"] qL
abbrev Li(B:Bx):=cB B "_law_space_line" 4 ["_law_p","_law_q"] qK
abbrev Hm(B:Bx):=cB B "_law_plane" 4 ["_law_p","_law_q","_law_r"] qX
abbrev El(B:Bx):=cB B "_law_shuts" 1 ["_law_points"] mU
abbrev Bs(B:Bx):=cB B "_law_put" 1 ["_law_table","_law_key","_law_number"] lC
abbrev Co(B:Bx):=cB B "_law_mark" 5 ["_law_table","_law_points","_law_number"] nB
abbrev Op(B:Bx):=cB B "_law_same" 6 ["_law_one","_law_other"] rE
abbrev Wc(B:Bx):=cB B "_law_gone" 5 ["_law_points","_law_way","_law_far_here"] mZ
abbrev Mm(B:Bx):=cB B "_law_leads" 7 ["_law_told","_law_one","_law_other"] tL
abbrev Aj(B:Bx):=cB B "_law_raw_turn" 3 ["_law_corners"] nR
abbrev Vq(B:Bx):=cB B "_law_raw" 4 ["_law_row_here","_law_dims","_law_wide"] mE
abbrev Jp(B:Bx):=cB B "_law_kuhn" 2 ["_law_row_here"] rD
abbrev Yi(B:Bx):=cB B "_law_raw_heap" 5 ["_law_row_here","_law_dims","_law_many"] qM
abbrev Pd(B:Bx):=cB B "_law_far" 3 ["_law_row_here","_law_dims"] kI
abbrev Ij(B:Bx):=cB B "_law_stretch" 4 ["_law_row_here","_law_dims"] sY
abbrev Bp(B:Bx):=cB B "_law_spot" 3 ["_law_corner","_law_stretch_here"] pF
abbrev Oo(B:Bx):=cB B "_law_laid" 5 ["_law_row_here","_law_heap","_law_stretch_here"] tY
abbrev Vj(B:Bx):=cB B "_law_handed" 2 ["_law_row_here","_law_rows"] jV
abbrev Om(B:Bx):=cB B "_law_split" 5 ["_law_row_here","_law_points"] qW
abbrev Oj(B:Bx):=cB B "_law_parted" 6 ["_law_row_here","_law_heap"] kF
abbrev Yk(B:Bx):=cB B "_law_moves" 4 ["_law_row_here","_law_pieces","_law_dims","_law_turns"] tI
abbrev Zl(B:Bx):=cB B "_law_there" 6 ["_law_rows"] tQ
abbrev Fm(B:Bx):=cB B "_law_amiss" 4 ["_law_row_here","_law_way","_law_rows","_law_one","_law_other"] mQ
structure Mg(mg:Str->AW):Prop where
 m_abs:mg "abs"=none
 m_all:mg "all"=none
 m_any:mg "any"=none
 m_bool:mg "bool"=none
 m_enumerate:mg "enumerate"=none
 m_int:mg "int"=none
 m_isinstance:mg "isinstance"=none
 m_len:mg "len"=none
 m_list:mg "list"=none
 m_range:mg "range"=none
 m_sorted:mg "sorted"=none
 m_sum:mg "sum"=none
 m_tuple:mg "tuple"=none
 m_zip:mg "zip"=none
set_option hygiene false
local macro_rules | `(tactic|trivial)=> `(tactic|(first
 |(with_reducible show eT _ _ _ _ _ aD);exact aa9
 |(with_reducible show eT _ _ _ _ _ (aB _ _));refine K5 ?_ ?_
 |(with_reducible show aU _ _ _ _ _ (aA _));exact acs _
 |(with_reducible show aU _ _ _ _ _ (mC (.int _)));(first |exact ab1 |exact Js rfl (by assumption))
 |(with_reducible show aU _ _ _ _ _ (mC (.bl _)));exact aec
 |(with_reducible show aU _ _ _ _ _ (mC (.tup _)));exact Js rfl (by assumption)
 |(with_reducible show aU _ _ _ _ _ (bR bU _));refine aee ada adM ?_
 |(with_reducible show aU _ _ _ _ _ (bR rY _));refine ach ?_
 |(with_reducible show aU _ _ _ _ _ (uP _ _));refine aa1 ?_ ?_
 |(with_reducible show aU _ _ _ _ _ (aC vC _ _));refine pQ abE adl ?_ ?_
 |(with_reducible show aU _ _ _ _ _ (aC aF _ _));refine pQ Rq adn ?_ ?_
 |(with_reducible show aU _ _ _ _ _ (aC dN _ _));refine pQ Ju adg ?_ ?_
 |(with_reducible show aU _ _ _ _ _ (aC bG _ _));refine pQ abd adf ?_ ?_
 |(with_reducible show aU _ _ _ _ _ (aC iG _ _));refine pQ Q6 ab5 ?_ ?_
 |(with_reducible show aU _ _ _ _ _ (aC fR _ _));refine pQ abb ad0 ?_ ?_
 |(with_reducible show aU _ _ _ _ _ (aC iI _ _));refine pQ ace aes ?_ ?_
 |(with_reducible show aU _ _ _ _ _ (aC aE _ _));refine aek ?_ ?_
 |(with_reducible show aU _ _ _ _ _ (aC cT _ _));refine uF (Jt (qB hr)) Yw ?_ ?_ (lZ _)
 |(with_reducible show aU _ _ _ _ _ (aC lO _ _));refine uF (Xs (qB hr)) Gw ?_ ?_ (lZ _)
 |(with_reducible show aU _ _ _ _ _ (aC kP _ _));refine uF Nv Bw ?_ ?_ (lZ _)
 |(with_reducible show aU _ _ _ _ _ (aC eJ _ _));refine uF Wv Zv ?_ ?_ (lZ _)
 |(with_reducible show aU _ _ _ _ _ (aC sQ _ _));refine uF Xv Fw ?_ ?_ (lZ _)
 |(with_reducible show gW _ _ _ _ _ (bH (aC cT _ _)));refine tV (Jt (qB hr)) Yw ?_ ?_ (lZ _)
 |(with_reducible show gW _ _ _ _ _ (bH (aC lO _ _)));refine tV (Xs (qB hr)) Gw ?_ ?_ (lZ _)
 |(with_reducible show gW _ _ _ _ _ (bH (aC kP _ _)));refine tV Nv Bw ?_ ?_ (lZ _)
 |(with_reducible show gW _ _ _ _ _ (bH (aC eJ _ _)));refine tV Wv Zv ?_ ?_ (lZ _)
 |(with_reducible show gW _ _ _ _ _ (bH (aC sQ _ _)));refine tV Xv Fw ?_ ?_ (lZ _)
 |(with_reducible show gW _ _ _ _ _ (bH _));refine abm ?_
 |(with_reducible show gW _ _ _ _ _ (vF _));refine aag ?_
 |(with_reducible show gW _ _ _ _ _ (gS _ _));refine oS.pt ?_
 |(with_reducible show oS _ _ _ _ _ (gS _ _));refine aax ?_ ?_
 |(with_reducible show oS _ _ _ _ _ _);refine Z5 ?_
 |(with_reducible show aU _ _ _ _ _ (rS _ _));refine acG ?_ ?_
 |(with_reducible show aU _ _ _ _ _ (zH _ _ _));refine aeo ?_ ?_ ?_
 |(with_reducible show aU _ _ _ _ _ (mN cU _));refine acH ?_
 |(with_reducible show aU _ _ _ _ _ (mN dZ _));refine adb ?_
 |(with_reducible show aU _ _ _ _ _ (eO _));refine abf ?_
 |(with_reducible show aU _ _ _ _ _ (dB _ _ _));refine adw ?_ ?_ ?_
 |(with_reducible show sM _ _ _ _ _ dD);exact P6
 |(with_reducible show sM _ _ _ _ _ (dA _));refine X6 ?_
 |(with_reducible show aU _ _ _ _ _ (pR _ _));refine abq (qB hr) ?_ ?_
 |(with_reducible show aU _ _ _ _ _ (mI _ _));refine abU (qB hr) ?_ ?_
 |(with_reducible show aU _ _ _ _ _ (jZ _));exact aaS _
 |(with_reducible show aU _ _ _ _ _ (uQ _));refine aaR rfl rfl m.m_list Ir ?_
 |(with_reducible show aU _ _ _ _ _ (uV _));refine abw rfl rfl m.m_any acm ?_
 |(with_reducible show aU _ _ _ _ _ (uU _ _));refine aaC rfl rfl m.m_list ?_ ?_
 |(with_reducible show aU _ _ _ _ _ (vE _));refine ac6 rfl rfl m.m_list ?_
 |(with_reducible show aU _ _ _ _ _ (dG _ _));refine F2 ?_ ?_
 |(with_reducible show aU _ _ _ _ _ (lJ _ _));refine aco ?_ ?_
 |(with_reducible show aU _ _ _ _ _ (nY _ _));refine ad1 (by assumption) hr (by decide) rfl ?_
 |(with_reducible show aU _ _ _ _ _ (pS _ [] _));refine aej (by assumption) hr (by decide) rfl ?_
 |(with_reducible show aU _ _ _ _ _ (aJ _ (_::_) _));refine adD (by assumption) hr (by decide) rfl ?_
 |(with_reducible show aU _ _ _ _ _ (aJ _ [] _));(first |refine ad9 (by assumption) hr (by decide) rfl ?_ |refine adC (by assumption) hr (by decide) rfl ?_)
 |(with_reducible show aU _ _ _ _ _ (rH _ [] _));refine aeb (by assumption) hr (by decide) rfl ?_
 |(with_reducible show aU _ _ _ _ _ (bR (lI "bool") _));refine ab7 (n:="bool") rfl m.m_isinstance rfl m.m_bool aav ?_
 |(with_reducible show aU _ _ _ _ _ (rP _));refine N7 rfl rfl m.m_list ?_
 |(with_reducible show aU _ _ _ _ _ (mR cV _));refine tJ Ly aeu rfl m.m_len ade ?_
 |(with_reducible show aU _ _ _ _ _ (mR pY _));refine tJ O6 adm rfl m.m_abs ack ?_
 |(with_reducible show aU _ _ _ _ _ (mR kO _));refine tJ (T9 rfl) adP rfl m.m_all acl ?_
 |(with_reducible show aU _ _ _ _ _ (mR gI _));refine Yb Ey abM rfl m.m_tuple Y9 ?_
 |(with_reducible show aU _ _ _ _ _ (mR kJ _));refine Yb vQ aau rfl m.m_list Ir ?_
 |(with_reducible show aU _ _ _ _ _ (mR jO _));refine Yb D0 ad2 rfl m.m_int acN ?_
 |(with_reducible show aU _ _ _ _ _ (mR pV _));refine tJ (F9 rfl) adZ rfl m.m_sum ab9 ?_
 |(with_reducible show aU _ _ _ _ _ (mR rA _));refine tJ Sz ac7 rfl m.m_sorted G0 ?_
 |(with_reducible show aU _ _ _ _ _ (bF _ _ _ _ _));(first |refine aaN (by first |exact Gg |exact Hf |exact Ef |exact Rf) ?_ rfl (λ_ _ _ _=> ?_) (λ_ _ _ _=> ?_) |refine M5 acC ?_ rfl (λ_ _ _ _=> ?_) (λ_ _ _ _=> ?_))
 |(with_reducible show aU _ _ _ _ _ (xN _ _ _ _ _ _));refine T6 (by first |exact Gg |exact Hf |exact Ef |exact Rf) ?_ rfl (λ_ _ _ _=> ?_) (λ_ _ _ _=> ?_) (λ_ _ _ _=> ?_)
 |(with_reducible show iU _ _ _ _ _ _ (iS _));refine aap rfl m.m_zip ?_
 |(with_reducible show iU _ _ _ _ _ _ (yJ _));refine X4 rfl m.m_enumerate ?_
 |(with_reducible show iU _ _ _ _ _ _ (cM _));refine Wz rfl m.m_range ?_
 |(with_reducible show iU _ _ _ _ _ _ (nV _));refine A9 rfl m.m_range ?_
 |(with_reducible show iU _ _ _ _ _ _ (bA _));refine aaA ?_
 |(with_reducible show lM _ _ _ (gN _));exact V8 (by first |exact nd |(show(cR _ _).Nodup;decide+kernel)) rfl (by first |exact jk rfl |exact jm rfl)
 |(with_reducible show lM _ _ _ (gT _ _));refine aao rfl ?_
 |(with_reducible show rW _ _ _ dE);exact V5
 |(with_reducible show rW _ _ _ (bO _ _));refine J6 ?_ ?_
 |(with_reducible show fY _ _ _ _ _ cY);exact aaa
 |(with_reducible show fY _ _ _ _ _ (aG _ _));refine J8 ?_ ?_
 |(with_reducible show fY _ _ _ _ _ _);refine U5 ?_
 |(with_reducible show eZ _ _ _ _ _ oI);exact M8
 |(with_reducible show eZ _ _ _ _ _ (bD _));refine abu ?_
 |(with_reducible show eZ _ _ _ _ _ (bW _ _ _));refine acp ?_ ?_ ?_
 |(with_reducible show eZ _ _ _ _ _ (cZ _));refine R6 ?_
 |(with_reducible show eZ _ _ _ _ _ (xM _));exact G8 rfl (by assumption) (by assumption)
 |(with_reducible show eZ _ _ _ _ _ (aQ _ (bF _ _ _ _ _)));(first |refine O8 nd rfl (by first |exact jk rfl |exact jm rfl) (by first |exact Gg |exact Hf |exact Ef |exact Rf) ?_ rfl (λ_ _ _ _=> ?_) (λ_ _ _ _=> ?_) |refine Hq nd rfl (by first |exact jk rfl |exact jm rfl) ?_)
 |(with_reducible show eZ _ _ _ _ _ (aQ _ _));refine Hq nd rfl (by first |exact jk rfl |exact jm rfl) ?_
 |(with_reducible show eZ _ _ _ _ _ (uY _ _ _));refine aaW rfl nd rfl rfl (by decide) rfl rfl ?_ rfl
 |(with_reducible show eZ _ _ _ _ _ (mJ _ _));refine aaO ?_ ?_
 |(with_reducible show eZ _ _ _ _ _ (kK _ _ _));refine aan (qB hr) ?_ ?_ ?_
 |(with_reducible show eZ _ _ _ _ _ (kZ _ _ _));refine F7 ?_ ?_ ?_
 |(with_reducible show eZ _ _ _ _ _ (lD _ _));refine H0 (by first |exact yq |exact yr) ?_ ?_
 |(with_reducible show eZ _ _ _ _ _ (pU _ _ _));exact aaP (by first |exact yq |exact yr) rfl nd rfl rfl rfl (by first |exact jk rfl |exact jm (jk rfl)) (by first |exact jk rfl |exact jm rfl) (by first |exact jk rfl |exact jm (jk rfl)) (by decide) (by decide)
 |(with_reducible show eZ _ _ _ _ _ (bJ _ _ _));refine aaj (by first |exact yq |exact yr) rfl ?_ ?_ ?_)<;>trivial)
set_option hygiene true
section
variable{B:Bx}(X:XG B.K B.mg)(m:Mg B.mg)
include X m
theorem aay(h:HF B.K "sign" Hu):xH B:=cF (N:=["number"]) X h bV λnd _ _ _ _ _ _ _ hr=>by unfold Re;trivial
theorem Pz(h:HF B.K "divisor" Il):Fk B:=cF (N:=["one","other","rest"]) X h bV λnd _ _ _ _ _ _ _ hr=>by unfold Eb;trivial
theorem A5(h:HF B.K "reduced" Pm)(C_divisor:Fk B):Ta B:=cF (N:=["numbers","common","number"]) X h bV λnd _ _ _ _ _ _ _ hr=>by unfold Fb;trivial
theorem Fy(h:HF B.K "lowest_way" Wi)(C_reduced:Ta B)(C_sign:xH B):Fa B:=cF (N:=["numbers","first"]) X h bV λnd _ _ _ _ _ _ _ hr=>by unfold La;trivial
theorem U7{f:Addr}{fd:cf}{dsv:Array Value}(F:kC B.K "point" "point" uA f fd dsv)(C_reduced:Ta B)(C_sign:xH B)(q_NoPoint:B.mg "NoPoint"=some (.ref (B.cl "NoPoint")))(x_NoPoint:ke B.K (B.cl "NoPoint") oB "ValueError.__new__"=true):eG B.P B.w B.K B.mg B.base (iO B.P B.w) 3 f fd ["numbers","bottom"] (mL B.K B.cl tW):=ae3 (N:=["numbers","bottom"]) F bV λnd _ _ _ _ _ _ _ hr=>by unfold Oe;trivial
theorem M4(h:HF B.K "added" Wq)(H_point:Hn B):Tc B:=cF (N:=["p","q","numbers"]) X h bV λnd _ _ _ _ _ _ _ hr=>by unfold Sd;trivial
theorem G9(h:HF B.K "turned" Xo):Wb B:=cF (N:=["p"]) X h bV λnd _ _ _ _ _ _ _ hr=>by unfold Mc;trivial
theorem Dz(h:HF B.K "lessened" Uj)(C_added:Tc B)(C_turned:Wb B):Lj B:=cF (N:=["p","q"]) X h bV λnd _ _ _ _ _ _ _ hr=>by unfold Ra;trivial
theorem Ay(h:HF B.K "whole_arrow" Oi):vO B:=cF (N:=["start","end"]) X h bV λnd _ _ _ _ _ _ _ hr=>by unfold Ha;trivial
theorem acT(h:HF B.K "dot" Vu):Bt B:=cF (N:=["u","v"]) X h bV λnd _ _ _ _ _ _ _ hr=>by unfold Fg;trivial
theorem J3(h:HF B.K "normal" Dn):Cb B:=cF (N:=["arrows","u","v"]) X h bV λnd _ _ _ _ _ _ _ hr=>by unfold wM;trivial
theorem Yx(h:HF B.K "determinant" Qi)(C_whole_arrow:vO B)(C_dot:Bt B)(C_normal:Cb B):Ni B:=cF (N:=["points","rows"]) X h bV λnd _ _ _ _ _ _ _ hr=>by unfold vP;trivial
theorem aa6(h:HF B.K "side" Yt)(C_sign:xH B)(C_determinant:Ni B):Ks B:=cF (N:=["points"]) X h bV λnd _ _ _ _ _ _ _ hr=>by unfold xW;trivial
theorem B8(h:HF B.K "simplex" Fl)(C_side:Ks B)(q_Flat:B.mg "Flat"=some (.ref (B.cl "Flat")))(x_Flat:ke B.K (B.cl "Flat") oB "ValueError.__new__"=true):Qj B:=mkX (N:=["points","corners","turn"]) X h bV λnd _ _ _ _ _ _ _ hr=>by unfold wF;trivial
theorem U9(h:HF B.K "walls" Cs)(gt_FLAT_WALLS:vI B.K B.mg "FLAT_WALLS" (.tup [.tup [.int 0,.int 1],.tup [.int 1,.int 2],.tup [.int 2,.int 0]]))(gt_SPACE_WALLS:vI B.K B.mg "SPACE_WALLS" (.tup [.tup [.int 1,.int 2,.int 3],.tup [.int 0,.int 3,.int 2],.tup [.int 0,.int 1,.int 3],.tup [.int 0,.int 2,.int 1]])):Xm B:=cF (N:=["piece","order"]) X h bV λnd _ _ _ _ _ _ _ hr=>by unfold Ce;trivial
theorem Ky(h:HF B.K "plane_way" Jj)(C_lowest_way:Fa B)(C_normal:Cb B)(C_whole_arrow:vO B):Bj B:=cF (N:=["wall"]) X h bV λnd _ _ _ _ _ _ _ hr=>by unfold vT;trivial
theorem T7(h:HF B.K "sides" Tr):Gn B:=cF (N:=["wall"]) X h bV λnd _ _ _ _ _ _ _ hr=>by unfold Qd;trivial
theorem Cz(h:HF B.K "put_wall" Xj)(C_plane_way:Bj B)(C_sides:Gn B)(C_lowest_way:Fa B)(C_whole_arrow:vO B):Dj B:=cF (N:=["marks","wall","number","plane","start","end","line","p","mark","key"]) X h bV λnd _ _ _ _ _ _ _ hr=>by unfold Va;trivial
theorem abJ(h:HF B.K "same" Eu)(C_walls:Xm B)(C_put_wall:Dj B):Qq B:=cF (N:=["one","other","marks","heap","number","piece","wall"]) X h bV λnd _ _ _ _ _ _ _ hr=>by unfold Bf;trivial
theorem A7(h:HF B.K "is_push" Vm):wD B:=cF (N:=["move"]) X h bV λnd _ _ _ _ _ _ _ hr=>by unfold Kb;trivial
theorem Xx(h:HF B.K "moved_point" Ui)(C_is_push:wD B)(C_added:Tc B)(C_lessened:Lj B):Mi B:=cF (N:=["p","move"]) X h bV λnd _ _ _ _ _ _ _ hr=>by unfold Ja;trivial
theorem K9(h:HF B.K "moved" Lr)(H_simplex:Qj B)(C_moved_point:Mi B):Qn B:=cF (N:=["heap","move"]) X h bV λnd _ _ _ _ _ _ _ hr=>by unfold Dd;trivial
theorem F8(h:HF B.K "undone" Uo)(C_is_push:wD B)(C_turned:Wb B):Dm B:=cF (N:=["move"]) X h bV λnd _ _ _ _ _ _ _ hr=>by unfold wR;trivial
theorem Wy(h:HF B.K "comes_of" Sk):Fj B:=cF (N:=["cutting"]) X h bV λnd _ _ _ _ _ _ _ hr=>by unfold Sa;trivial
theorem Wx(h:HF B.K "moved_piece" Vi)(C_moved:Qn B):Ea B:=cF (N:=["row"]) X h bV λnd _ _ _ _ _ _ _ hr=>by unfold Ga;trivial
theorem A4(h:HF B.K "goes_to" Em)(C_moved_piece:Ea B):Qk B:=cF (N:=["cutting"]) X h bV λnd _ _ _ _ _ _ _ hr=>by unfold Hb;trivial
theorem aaB(h:HF B.K "back" Vt)(C_undone:Dm B)(C_moved_piece:Ea B):Zq B:=cF (N:=["cutting"]) X h bV λnd _ _ _ _ _ _ _ hr=>by unfold Tf;trivial
theorem R7{f:Addr}{fd:cf}{dsv:Array Value}(F:kC B.K "leads" "leads" tR f fd dsv)(C_is_push:wD B)(C_same:Qq B)(C_comes_of:Fj B)(C_goes_to:Qk B):eG B.P B.w B.K B.mg B.base eL 10 f fd ["cutting","one","other","pushes"] (jB B.K B.cl jW):=mkD (N:=["cutting","one","other","pushes"]) F bV λnd _ _ _ _ _ _ _ hr=>by unfold Me;trivial
theorem aa4(h:HF B.K "_law_row" Vs):Hs B:=cF (N:=["_law_script","_law_row_here","_law_k","_law_cell","_law_one","_law_two","_law_three"]) X h bV λnd _ _ _ _ _ _ _ hr=>by unfold Of;trivial
theorem Q2(h:HF B.K "_law_take" Ls):kG B:=cF (N:=["_law_row_here","_law_many","_law_found"]) X h bV λnd _ _ _ _ _ _ _ hr=>by unfold wX;trivial
theorem aad(h:HF B.K "_law_gcd" Pu):Cq B:=cF (N:=["_law_one","_law_other"]) X h bV λnd _ _ _ _ _ _ _ hr=>by unfold Pf;trivial
theorem A8(h:HF B.K "_law_lowest" Zk)(C_wgcd:Cq B):pA B:=cF (N:=["_law_numbers","_law_by","_law_number"]) X h bV λnd _ _ _ _ _ _ _ hr=>by unfold Db;trivial
theorem A6(h:HF B.K "_law_upward" Bl)(C_wlowest:pA B):wA B:=cF (N:=["_law_numbers","_law_told","_law_number"]) X h bV λnd _ _ _ _ _ _ _ hr=>by unfold Jb;trivial
theorem P8(h:HF B.K "_law_frac" Ur)(C_wlowest:pA B):Np B:=cF (N:=["_law_top","_law_bottom"]) X h bV λnd _ _ _ _ _ _ _ hr=>by unfold Fd;trivial
theorem Mz(h:HF B.K "_law_joined" Im)(C_wlowest:pA B):wB B:=cF (N:=["_law_p","_law_q","_law_way","_law_far_here"]) X h bV λnd _ _ _ _ _ _ _ hr=>by unfold Rb;trivial
theorem aaU(h:HF B.K "_law_gap" Qu):wV B:=cF (N:=["_law_p","_law_q"]) X h bV λnd _ _ _ _ _ _ _ hr=>by unfold Uf;trivial
theorem C4(h:HF B.K "_law_cross" Wn):tF B:=cF (N:=["_law_u","_law_v","_law_x","_law_y","_law_z"]) X h bV λnd _ _ _ _ _ _ _ hr=>by unfold wT;trivial
theorem aba(h:HF B.K "_law_dot" Nt):Nd B:=cF (N:=["_law_u","_law_v"]) X h bV λnd _ _ _ _ _ _ _ hr=>by unfold Jf;trivial
theorem K7(h:HF B.K "_law_turn" Qs)(C_wdot:Nd B)(C_wcross:tF B):Dc B:=cF (N:=["_law_ways"]) X h bV λnd _ _ _ _ _ _ _ hr=>by unfold rC;trivial
theorem aal(h:HF B.K "_law_det" Wt)(C_wturn:Dc B)(C_wgap:wV B):Ds B:=cF (N:=["_law_points"]) X h bV λnd _ _ _ _ _ _ _ hr=>by unfold xV;trivial
theorem Ry(h:HF B.K "_law_simplex" Sj)(C_wdet:Ds B):vS B:=cF (N:=["_law_points","_law_told"]) X h bV λnd _ _ _ _ _ _ _ hr=>by unfold vZ;trivial
theorem Dy(h:HF B.K "_law_flat_line" Zi)(C_wupward:wA B)(C_wcross:tF B):Ti B:=cF (N:=["_law_p","_law_q"]) X h bV λnd _ _ _ _ _ _ _ hr=>by unfold Ma;trivial
theorem By(h:HF B.K "_law_space_line" Ri)(C_wupward:wA B)(C_wgap:wV B)(C_wcross:tF B):Li B:=cF (N:=["_law_p","_law_q"]) X h bV λnd _ _ _ _ _ _ _ hr=>by unfold Ia;trivial
theorem G4(h:HF B.K "_law_plane" Ao)(C_wcross:tF B)(C_wgap:wV B)(C_wupward:wA B)(C_wdot:Nd B):Hm B:=cF (N:=["_law_p","_law_q","_law_r","_law_out"]) X h bV λnd _ _ _ _ _ _ _ hr=>by unfold Cd;trivial
theorem K3(h:HF B.K "_law_shuts" Qp):El B:=cF (N:=["_law_points","_law_p","_law_q","_law_r","_law_s"]) X h bV λnd _ _ _ _ _ _ _ hr=>by unfold Ad;trivial
theorem abG(h:HF B.K "_law_put" Et):Bs B:=cF (N:=["_law_table","_law_key","_law_number"]) X h bV λnd _ _ _ _ _ _ _ hr=>by unfold Se;trivial
theorem L7(h:HF B.K "_law_mark" Kr)(C_wflat_line:Ti B)(C_wput:Bs B)(C_wspace_line:Li B)(C_wshuts:El B)(C_wplane:Hm B):Co B:=cF (N:=["_law_table","_law_points","_law_number","_law_k","_law_p","_law_q","_law_line","_law_lines","_law_m","_law_shut","_law_flat"]) X h bV λnd _ _ _ _ _ _ _ hr=>by unfold xI;trivial
theorem W8(h:HF B.K "_law_same" Rs)(C_wmark:Co B):Op B:=cF (N:=["_law_one","_law_other","_law_table","_law_points"]) X h bV λnd _ _ _ _ _ _ _ hr=>by unfold Je;trivial
theorem X9(h:HF B.K "_law_gone" Cr)(C_wsimplex:vS B)(C_wjoined:wB B):Wc B:=cF (N:=["_law_points","_law_way","_law_far_here"]) X h bV λnd _ _ _ _ _ _ _ hr=>by unfold Vd;trivial
theorem C9(h:HF B.K "_law_leads" Ym)(C_wsame:Op B)(C_wgone:Wc B):Mm B:=cF (N:=["_law_told","_law_one","_law_other"]) X h bV λnd _ _ _ _ _ _ _ hr=>by unfold Zb;trivial
theorem My(h:HF B.K "_law_raw_turn" Kj)(C_wturn:Dc B):Aj B:=cF (N:=["_law_corners"]) X h bV λnd _ _ _ _ _ _ _ hr=>by unfold vU;trivial
theorem aaG(h:HF B.K "_law_raw" Dt)(C_wtake:kG B)(C_wraw_turn:Aj B):Vq B:=cF (N:=["_law_row_here","_law_dims","_law_wide","_law_corners","_law_k"]) X h bV λnd _ _ _ _ _ _ _ hr=>by unfold Vf;trivial
theorem Z4(h:HF B.K "_law_kuhn" Er)(C_wtake:kG B):Jp B:=mkL (N:=["_law_row_here","_law_rest","_law_corner","_law_corners","_law_k","_law_m"]) X h bV λnd _ _ _ _ _ _ _ hr=>by unfold xG;trivial
theorem Ny(h:HF B.K "_law_raw_heap" Ej)(C_wtake:kG B)(C_wraw:Vq B)(C_wkuhn:Jp B):Yi B:=cF (N:=["_law_row_here","_law_dims","_law_many","_law_heap","_law_k","_law_kind"]) X h bV λnd _ _ _ _ _ _ _ hr=>by unfold Na;trivial
theorem aaD(h:HF B.K "_law_far" Du)(C_wtake:kG B)(C_wlowest:pA B):Pd B:=cF (N:=["_law_row_here","_law_dims","_law_kind","_law_wide","_law_under","_law_far_here"]) X h bV λnd _ _ _ _ _ _ _ hr=>by unfold Mf;trivial
theorem Xy(h:HF B.K "_law_stretch" Yj)(C_wtake:kG B)(C_wfrac:Np B):Ij B:=cF (N:=["_law_row_here","_law_dims","_law_told","_law_k","_law_kind"]) X h bV λnd _ _ _ _ _ _ _ hr=>by unfold Qa;trivial
theorem P4(h:HF B.K "_law_spot" Ms)(C_wlowest:pA B):Bp B:=cF (N:=["_law_corner","_law_stretch_here","_law_under","_law_part","_law_far_here"]) X h bV λnd _ _ _ _ _ _ _ hr=>by unfold xE;trivial
theorem Z8(h:HF B.K "_law_laid" Es)(C_wfar:Pd B)(C_wsimplex:vS B)(C_wjoined:wB B)(C_wspot:Bp B):Oo B:=cF (N:=["_law_row_here","_law_heap","_law_stretch_here","_law_told","_law_corners","_law_far_here"]) X h bV λnd _ _ _ _ _ _ _ hr=>by unfold Xd;trivial
theorem Jz(h:HF B.K "_law_handed" Dl)(C_wtake:kG B):Vj B:=cF (N:=["_law_row_here","_law_rows"]) X h bV λnd _ _ _ _ _ _ _ hr=>by unfold wH;trivial
theorem I0(h:HF B.K "_law_split" Ro)(C_wtake:kG B)(C_wlowest:pA B)(C_wsimplex:vS B):Om B:=cF (N:=["_law_row_here","_law_points","_law_i","_law_j","_law_u","_law_v","_law_p","_law_q","_law_far_here","_law_middle","_law_one","_law_other"]) X h bV λnd _ _ _ _ _ _ _ hr=>by unfold Gc;trivial
theorem Rz(h:HF B.K "_law_parted" Hl)(C_wtake:kG B)(C_wsplit:Om B):Oj B:=cF (N:=["_law_row_here","_law_heap","_law_left","_law_points","_law_told"]) X h bV λnd _ _ _ _ _ _ _ hr=>by unfold Lb;trivial
theorem E8(h:HF B.K "_law_moves" Io)(C_wtake:kG B)(C_wfar:Pd B):Yk B:=cF (N:=["_law_row_here","_law_pieces","_law_dims","_law_turns","_law_told","_law_points","_law_way"]) X h bV λnd _ _ _ _ _ _ _ hr=>by unfold Kc;trivial
theorem D6(h:HF B.K "_law_there" Tn)(C_wgone:Wc B):Zl B:=cF (N:=["_law_rows"]) X h bV λnd _ _ _ _ _ _ _ hr=>by unfold Lc;trivial
theorem D7(h:HF B.K "_law_amiss" Lo)(C_wtake:kG B)(C_wjoined:wB B):Fm B:=cF (N:=["_law_row_here","_law_way","_law_rows","_law_one","_law_other","_law_at","_law_gone_here","_law_twice","_law_place","_law_points","_law_by","_law_far_here"]) X h bV λnd _ _ _ _ _ _ _ hr=>by unfold qY;trivial
theorem acW{f:Addr}{fd:cf}(F:jD B.K "law" "law" oH f fd)(C_wrow:Hs B)(C_wtake:kG B)(C_wlaid:Oo B)(C_wstretch:Ij B)(C_wraw_heap:Yi B)(C_wmoves:Yk B)(C_wparted:Oj B)(C_wthere:Zl B)(C_wamiss:Fm B)(C_wleads:Mm B)(D_leads:Xn B)(C_whanded:Vj B)(C_back:Zq B):eG B.P B.w B.K B.mg B.base eL 11 f fd ["_law_script"] (jB B.K B.cl Hg):=mkR (N:=["_law_script","_law_row_here","_law_dims","_law_heap","_law_rows","_law_one","_law_other","_law_way","_law_due","_law_told"]) F bV λnd _ _ _ _ _ _ _ hr=>by unfold Lg;trivial
end
local macro_rules
 | `(tactic|simp! [$l,*] $[$loc:location]?)=>`(tactic|simp[jK,aG,bW,bH,vF,gS,mOr,rS,afg,zH,aC,bR,mR,mN,aB,aA,mC,aD,bP.bind,uW,lH,oK,Ng,gK,rd,oG,iD,cV,cU,dZ,bU,rY,lK,cN.of,bD,oI,cY,cZ,aQ,nZ,kA,aJ,pS,rH,pY,gI,kJ,cT,lO,frz,jY,$l,*] $[$loc]?)
theorem Po(S:aH)(k:Nat)(o:SO):(S.set k o).take S.length=S.set k o:=qx (by simp)
def dW(S:aH)(k:Nat)(ns:AR):Prop:=S[k]?=some (.lst (ns.map .int))
theorem dW.lt{S:aH}{k:Nat}{ns:AR}(h:dW S k ns):k<S.length:=(br.mp h).1
theorem dW.set{S:aH}{k:Nat}{ns:AR}(h:dW S k ns)(ms:AR):dW (S.set k (.lst (ms.map .int))) k ms:=dj h.lt
theorem Jk{r:bZ}{k:Nat}{m:AV}:∀(ns:AR)(S:aH),dW S k ns->∃n ns',eB (gS (bH (aC eJ (mR cV (aB (aA 0) aD)) (mC (.int 0)))) (bH (aC cT (aC aE (aA 0) (mC (.int 0))) (mC (.int 0))))) (cZ (lJ (aA 0) (aB (mC (.int 0)) aD))) n (some (.ref k)::some m::r) S=.nx (some (.ref k)::some m::r) (S.set k (.lst (ns'.map .int)))/\ns'.length<=ns.length/\(ns'=[]\/∃i t,ns'=i::t/\i≠0)
 |[],S,h=>by
  refine⟨1,[],?_,ak _,.inl rfl⟩;have h':S[k]?=some (.lst []):=h;have e:S.set k (.lst (([]:AR).map .int))=S:=kq λi=>by
   by_cases q:k=i
   .subst q;rw[dj h.lt,h'];rfl
   .rw[fj q]
  rw[e];simp[eB,gS,bH,aC,mR,aB,aA,mC,aD,bP.bind,oK,gK,rd,h',iD,cV,lH,eJ,i2,lK,cN.of]
 |i::t,S,h=>by
  have h':S[k]?=some (.lst (.int i::t.map .int)):=h
  by_cases hi:i=0
  .subst hi
   have hr:dW (S.set k (.lst (t.map .int))) k t:=h.set t;obtain⟨n,ns',e,l,q⟩:=Jk (r:=r) (m:=m) t _ hr;refine⟨n+1,ns',?_,by simp;omega,q⟩;rw[ki]at e;rw[<-e];have hl:(0:Int)<(t.length:Int)+1:=by omega
   simp[eB,gS,bH,aC,mR,aB,aA,mC,aD,bP.bind,oK,gK,rd,h',iD,cV,lH,eJ,i2,lK,cN.of,aE,aZ,aY,cT,aP,cZ,lJ,fB,pT,seqIndex?,hl]
  .refine⟨1,i::t,?_,ak _,.inr ⟨i,t,rfl,hi⟩⟩
   have e:S.set k (.lst ((i::t).map .int))=S:=kq λj=>by
    by_cases q:k=j
    .subst q;rw[dj h.lt,h'];rfl
    .rw[fj q]
   rw[e];have hl:(0:Int)<(t.length:Int)+1:=by omega
   simp[eB,gS,bH,aC,mR,aB,aA,mC,aD,bP.bind,oK,gK,rd,h',iD,cV,lH,eJ,i2,lK,cN.of,aE,aZ,aY,cT,aP,hl,hi]
theorem fX{S:aH}{k:Nat}{ns:AR}{m:Int}(h:dW S k ns)(hm:0<m)(b:Bd 8000 m):∃(v:Int)(ns':AR),cE [.ref k,.pv (.int m)] S=.ok (.pv (.int v)) (S.set k (.lst (ns'.map .int)))/\0<=v/\v<m/\ns'.length<=ns.length:=by
 obtain⟨n,ns',e,l,q⟩:=Jk (r:=[none]) (m:=.pv (.int m)) ns S h;have hr:=h.set ns';have hl1:(S.set k (.lst (ns'.map .int))).length=S.length:=by simp
 have hss:∀x,(S.set k (.lst (ns'.map .int))).set k x=S.set k x:=λx=>ki ..;generalize hS1:S.set k (.lst (ns'.map .int))=S1 at e hr hl1 hss;have w:=wE e (by simp);rcases q with rfl |⟨i,t,rfl,hi⟩
 .refine⟨0,[],?_,qm 0,hm,gn _⟩
  rw[hS1];have hr':S1[k]?=some (.lst []):=hr;have tk:List.take S.length S1=S1:=qx (by omega);unfold cE aR wX;simp[jK,aG,w,bW,bH,aC,mR,aB,aA,mC,aD,bP.bind,oK,gK,rd,hr',iD,cV,lH,cT,aP,lK,cN.of,bD,nZ,kA,tk]
 .have hr':S1[k]?=some (.lst (.int i::t.map .int)):=hr
  refine⟨i.fmod m,i.fdiv m::t,?_,w8 i hm,Int.fmod_lt_of_pos i hm,l⟩;rw[<-hss];have tk:∀x,List.take S.length (S1.set k x)=S1.set k x:=λx=>qx (by simp;omega);have hl:¬((t.length:Int)+1=0):=by omega
  have hq:rQ i m:=⟨by omega,b⟩;have hm0:m≠0:=by omega
  unfold cE aR wX;simp[jK,aG,w,bW,bH,aC,mR,aB,aA,mC,aD,bP.bind,oK,gK,rd,hr',iD,cV,lH,cT,aP,lK,cN.of,bD,nZ,kA,tk,cY,hl,aQ,fR,iG,i2,cI,aE,aZ,aY,hm0,hq,kZ,fB,oJ]
theorem aO(i j:Int):eJ (.int i) (.int j)=some (.bl (decide (j<i))):=rfl
theorem aN(i j:Int):kP (.int i) (.int j)=some (.bl (decide (i<j))):=rfl
theorem aL(i j:Int):sQ (.int i) (.int j)=some (.bl (decide (j<=i))):=rfl
theorem aM(i j:Int):fLe (.int i) (.int j)=some (.bl (decide (i<=j))):=rfl
theorem aK(i j:Int):dN (.int i) (.int j)=some (.int (i-j)):=rfl
theorem nW{i j:Int}(h:rN i j):bG (.int i) (.int j)=some (.int (i*j)):=by
 simp[bG,i2,cI,h]
theorem pD{i j:Int}(h:rQ i j):iG (.int i) (.int j)=some (.int (i.fdiv j)):=by
 simp[iG,i2,cI,h]
theorem nA{i j:Int}(h:j≠0):fR (.int i) (.int j)=some (.int (i.fmod j)):=by
 simp[fR,i2,cI,h]
theorem xJ{i j:Int}(h:yO i j):iI (.int i) (.int j)=some (.int (i^j.toNat)):=by
 simp[iI,i2,cI,h]
theorem Ke(n:Int)(S:aH):pJ [.pv (.int n)] S=.ok (.pv (.int (sg n))) S:=by
 unfold pJ aR Re sg
 by_cases h1:0<n
 .simp[jK,aG,bW,bH,aC,aA,mC,bP.bind,lH,rd,iD,eJ,i2,lK,cN.of,bD,nZ,kA,h1]
 .by_cases h2:n<0
  .simp[jK,aG,bW,bH,aC,aA,mC,bP.bind,lH,rd,iD,eJ,kP,i2,lK,cN.of,bD,nZ,kA,h1,h2,cY,bR,uW,bU]
  .simp[jK,aG,bW,bH,aC,aA,mC,bP.bind,lH,rd,iD,eJ,kP,i2,lK,cN.of,bD,nZ,kA,h1,h2,cY,bR,uW,bU]
theorem Si(S:aH):∀(m:Nat)(a b:Int)(x:BB),b.natAbs<=m->∃(n:Nat)(g:Int)(x':BB),eB (bH (aC lO (aA 1) (mC (.int 0)))) (aG (aQ 2 (aC fR (aA 0) (aA 1))) (aG (aQ 0 (aA 1)) (aQ 1 (aA 2)))) n [some (.pv (.int a)),some (.pv (.int b)),x] S=.nx [some (.pv (.int g)),some (.pv (.int 0)),x'] S/\g.natAbs=di a b
 |0,a,b,x,h=>by
  have hb:b=0:=by omega
  subst hb;refine⟨1,a,x,?_,by simp⟩;simp! [eB,aE,aZ,aY,aP,aO,aN,aL,aM,aF,aK]
 |m+1,a,b,x,h=>by
  by_cases hb:b=0
  .subst hb
   refine⟨1,a,x,?_,by simp⟩;simp! [eB,aE,aZ,aY,aP,aO,aN,aL,aM,aF,aK]
  .have hl:=Wk a hb
   obtain⟨n,g,x',e,q⟩:=Si S m b (a.fmod b) (some (.pv (.int (a.fmod b)))) (by omega);refine⟨n+1,g,x',?_,by rw[q,Vo]⟩;rw[<-e];simp! [eB,aE,aZ,aY,aP,aO,aN,aL,aM,aF,aK,nA hb,hb]
theorem Qz(a b:Int)(S:aH):tG [.pv (.int a),.pv (.int b)] S=.ok (.pv (.int (di a b:Nat))) S:=by
 obtain⟨n,g,x',e,q⟩:=Si S b.natAbs a b none (ak _);have w:=wE e (by simp);unfold tG aR Eb;have hg:(if g<0 then-g else g)=((di a b:Nat):Int):=by rw[<-q];exact Xf g
 simp! [aE,aZ,aY,aP,aO,aN,aL,aM,aF,aK,w,hg]
theorem Vk(S:aH):∀(m:Nat)(a b:Int),0<=a->0<=b->b.natAbs<=m->∃(n:Nat),eB (bH (aC eJ (aA 1) (mC (.int 0)))) (uY 0 1 (aB (aA 1) (aB (aC fR (aA 0) (aA 1)) aD))) n [some (.pv (.int a)),some (.pv (.int b))] S=.nx [some (.pv (.int (di a b:Nat))),some (.pv (.int 0))] S
 |0,a,b,ha,hb,h=>by
  have hb:b=0:=by omega
  subst hb;have ea:((di a 0:Nat):Int)=a:=by simp;omega
  refine⟨1,?_⟩;rw[ea];simp! [eB,aE,aZ,aY,aP,aO,aN,aL,aM,aF,aK]
 |m+1,a,b,ha,hb,h=>by
  by_cases h0:b=0
  .subst h0
   have ea:((di a 0:Nat):Int)=a:=by simp;omega
   refine⟨1,?_⟩;rw[ea];simp! [eB,aE,aZ,aY,aP,aO,aN,aL,aM,aF,aK]
  .have hl:=Wk a h0
   have hp:0<b:=by omega
   obtain⟨n,e⟩:=Vk S m b (a.fmod b) hb (w8 a hp) (by omega);refine⟨n+1,?_⟩;rw[<-Vo,<-e];simp! [eB,aE,aZ,aY,aP,aO,aN,aL,aM,aF,aK,nA h0,hp,uY]
theorem abN(a b:Int)(S:aH):uE [.pv (.int a),.pv (.int b)] S=.ok (.pv (.int (di a b:Nat))) S:=by
 have ha:0<=(if a<0 then-a else a):=by split<;>omega
 have hb:0<=(if b<0 then-b else b):=by split<;>omega
 obtain⟨n,e⟩:=Vk S _ _ _ ha hb (ak _);have w:=wE e (by simp);have eg:di (if a<0 then-a else a) (if b<0 then-b else b)=di a b:=by
  rw[Xf,Xf];simp[di]
 rw[eg]at w;unfold uE aR Pf;simp! [aE,aZ,aY,aP,aO,aN,aL,aM,aF,aK,w]
theorem Do(S:aH)(v2:BB):∀(ns:AR)(g:Int)(a:AV),∃v',dQ [] (gN 2) (aQ 1 (aJ uE [] (aB (aA 1) (aB (aA 2) aD)))) (ns.map .int) [some a,some (.pv (.int g)),v2] S=.nx [some a,some (.pv (.int (gl ns g))),v'] S
 |[],g,a=>⟨v2,fN⟩
 |n::ns,g,a=>by
  obtain⟨v',e⟩:=Do S (some (.pv (.int n))) ns (di g n:Nat) a;refine⟨v',?_⟩;show dQ [] _ _ (.int n::ns.map .int) _ S=_;rw[fA];simp! [gN,aE,aZ,aY,aP,aO,aN,aL,aM,aF,aK,abN];exact e
theorem Ec(S:aH)(g:Int)(hg:g≠0)(b:Bd 8000 g):∀(ns:AR)(x:BB),cG [] (gN 0) (aC iG (aA 0) (aA 1)) (ns.map .int) [x,some (.pv (.int g))] S=.ok ((ns.map λn=>n.fdiv g).map .int) S
 |[],x=>dX
 |n::ns,x=>by
  have ih:=Ec S g hg b ns (some (.pv (.int n)));show cG [] _ _ (.int n::ns.map .int) _ S=_;rw[eA];simp! [gN,aE,aZ,aY,aP,aO,aN,aL,aM,aF,aK,pD (show rQ n g from⟨hg,b⟩),ih]
theorem nT(ns:AR)(S:aH)(hb:∀n∈ns,Bd 8000 n):jG [.pv (.lst (ns.map .int))] S=.ok (.pv (.tup ((low ns).map .int))) S:=by
 obtain⟨v',e⟩:=Do S none ns 0 (.pv (.lst (ns.map .int)));unfold jG aR Db
 by_cases h:gl ns 0=0
 .have el:low ns=ns:=by unfold low;rw[if_pos h]
  simp! [aE,aZ,aY,aP,aO,aN,aL,aM,aF,aK,bJ,bA,cC,e,h,el]
 .have el:low ns=ns.map λn=>n.fdiv (gl ns 0):=by
   unfold low;rw[if_neg h];exact ee λn hn=>(xj ((jX ns 0).2 n hn)).symm
  have bg:Bd 8000 (gl ns 0):=Tg (Bd.of (n:=0) (by simp) (yt 8000)) hb;have ec:=Ec S (gl ns 0) h bg ns none;simp! [aE,aZ,aY,aP,aO,aN,aL,aM,aF,aK,bJ,bA,cC,e,h,el,bF,cJ,ec]
theorem nF(i:Int){j:Int}(h1:-(2^64)<j)(h2:j<2^64):bG (.int i) (.int j)=some (.int (i*j)):=nW (.inl (.inr ⟨h1,h2⟩))
theorem Zw:iI (.int 10) (.int 18)=some (.int 1000000000000000000):=xJ (i:=10) (j:=18) ⟨by decide,by decide,by decide⟩
theorem Zc{k:Nat}{a:AV}:∀(cs:AR)(n:Nat)(acc:AR)(S:aH)(v2 v3 v4 v5 v6:BB),dW S k acc->acc.length+cs.length<=63->n+cs.length<=63->∃(acc':AR)(w2 w3 w4 w5 w6:BB),dQ [] (gT 2 (bO (gN 2) (bO (gN 3) dE))) ((bW (bH (aC sQ (aA 3) (aC iI (mC (.int 10)) (mC (.int 18))))) (cZ (dG (aA 1) (aB (aC dN (aA 3) (aC iI (mC (.int 10)) (mC (.int 18)))) aD))) (aG (aQ 4 (aC fR (aC bG (aC aF (aC aF (aC aF (aA 3) (aC bG (aC bG (mC (.int 7)) (aA 2)) (aA 2))) (aC bG (mC (.int 13)) (aA 2))) (mC (.int 5))) (mC (.int 48271))) (mC (.int 2147483647))))
 (aG (aQ 5 (aC fR (aC bG (aC aF (aC aF (aC aF (aA 3) (aC bG (aC bG (mC (.int 11)) (aA 2)) (aA 2))) (aC bG (mC (.int 17)) (aA 2))) (mC (.int 3))) (mC (.int 40692))) (mC (.int 2147483399))))
 (aG (aQ 6 (aC fR (aC bG (aC aF (aC aF (aC aF (aA 3) (aC bG (aC bG (mC (.int 5)) (aA 2)) (aA 2))) (aC bG (mC (.int 29)) (aA 2))) (mC (.int 8))) (mC (.int 39373))) (mC (.int 2147483587))))
 (aG (aQ 4 (aC fR (aC bG (aA 4) (mC (.int 52021))) (mC (.int 1000000007))))
 (aG (aQ 5 (aC fR (aC bG (aA 5) (mC (.int 30011))) (mC (.int 998244353))))
 (aG (aQ 6 (aC fR (aC bG (aA 6) (mC (.int 45989))) (mC (.int 1000000009))))
 (cZ (dG (aA 1) (aB (aC aF (aC bG (aC aF (aC bG (aA 4) (mC (.int 998244353))) (aA 5)) (mC (.int 1000000009))) (aA 6)) aD))))))))))) (jM n (cs.map .int)) [some a,some (.ref k),v2,v3,v4,v5,v6] S=.nx [some a,some (.ref k),w2,w3,w4,w5,w6] (S.set k (.lst (acc'.map .int)))/\acc'.length<=63
 |[],n,acc,S,v2,v3,v4,v5,v6,h,hl,_=>by
  refine⟨acc,v2,v3,v4,v5,v6,?_,by simpa using hl⟩;have e:S.set k (.lst (acc.map .int))=S:=kq λj=>by
   by_cases q:k=j
   .subst q;rw[dj h.lt];exact h.symm
   .rw[fj q]
  rw[e];exact fN
 |x::cs,n,acc,S,v2,v3,v4,v5,v6,h,hl,hn=>by
  simp only[cv]at hl hn;have h':S[k]?=some (.lst (acc.map .int)):=h;have hlen:acc.length<16777216:=by omega
  have hk1:-(2^64)<(n:Int):=by omega
  have hk2:(n:Int)<2^64:=by omega
  by_cases c:(1000000000000000000:Int)<=x
  .obtain⟨acc',w2,w3,w4,w5,w6,e,q⟩:=Zc (k:=k) (a:=a) cs (n+1) (acc++[x-1000000000000000000]) (S.set k (.lst ((acc++[x-1000000000000000000]).map .int))) (some (.pv (.int n))) (some (.pv (.int x))) v4 v5 v6 (h.set _) (by simp;omega) (by omega)
   refine⟨acc',w2,w3,w4,w5,w6,?_,q⟩;rw[ki]at e;rw[<-e];show dQ [] _ _ (.tup [.int n,.int x]::jM (n+1) (cs.map .int)) _ S=_;rw[fA];simp! [gT,bO,dE,gN,aE,aZ,aY,aP,aO,aN,aL,aM,aF,aK,Zw,c,dG,fB,iH,h',hlen]
  .obtain⟨acc',w2,w3,w4,w5,w6,e,q⟩:=Zc (k:=k) (a:=a) cs (n+1) (acc++[((((x+7*n*n+13*n+5)*48271).fmod 2147483647*52021).fmod 1000000007*998244353+(((x+11*n*n+17*n+3)*40692).fmod 2147483399*30011).fmod 998244353)*1000000009+(((x+5*n*n+29*n+8)*39373).fmod 2147483587*45989).fmod 1000000009]) (S.set k (.lst ((acc++[((((x+7*n*n+13*n+5)*48271).fmod 2147483647*52021).fmod 1000000007*998244353+(((x+11*n*n+17*n+3)*40692).fmod 2147483399*30011).fmod 998244353)*1000000009+(((x+5*n*n+29*n+8)*39373).fmod 2147483587*45989).fmod 1000000009]).map .int))) (some (.pv (.int n))) (some (.pv (.int x))) (some (.pv (.int ((((x+7*n*n+13*n+5)*48271).fmod 2147483647*52021).fmod 1000000007)))) (some (.pv (.int ((((x+11*n*n+17*n+3)*40692).fmod 2147483399*30011).fmod 998244353)))) (some (.pv (.int ((((x+5*n*n+29*n+8)*39373).fmod 2147483587*45989).fmod 1000000009)))) (h.set _) (by simp;omega) (by omega)
   refine⟨acc',w2,w3,w4,w5,w6,?_,q⟩;rw[ki]at e;rw[<-e];show dQ [] _ _ (.tup [.int n,.int x]::jM (n+1) (cs.map .int)) _ S=_;rw[fA];simp! [gT,bO,dE,gN,aE,aZ,aY,aP,aO,aN,aL,aM,aF,aK,Zw,c,dG,fB,iH,h',hlen,nF _ hk1 hk2,nF _ (show-(2^64)<(48271:Int) by decide) (by decide),nF _ (show-(2^64)<(40692:Int) by decide) (by decide),nF _ (show-(2^64)<(39373:Int) by decide) (by decide),nF _ (show-(2^64)<(52021:Int) by decide) (by decide),nF _ (show-(2^64)<(30011:Int) by decide) (by decide),nF _ (show-(2^64)<(45989:Int) by decide) (by decide),nF _ (show-(2^64)<(998244353:Int) by decide) (by decide),nF _ (show-(2^64)<(1000000009:Int) by decide) (by decide),nA (show(2147483647:Int)≠0 by decide),nA (show(2147483399:Int)≠0 by decide),nA (show(2147483587:Int)≠0 by decide),nA (show(1000000007:Int)≠0 by decide),nA (show(998244353:Int)≠0 by decide),nA (show(1000000009:Int)≠0 by decide)]
theorem acY(ns:AR)(S:aH)(h:ns.length<=63):∃ms:AR,rK [.pv (.lst (ns.map .int))] S=.ok (.ref S.length) (S++[.lst (ms.map .int)])/\ms.length<=63:=by
 have hr:dW (S++[.lst []]) S.length []:=by unfold dW;simp
 obtain⟨ms,w2,w3,w4,w5,w6,e,q⟩:=Zc (a:=.pv (.lst (ns.map .int))) ns 0 [] (S++[.lst []]) none none none none none hr (by simpa using h) (by simpa using h);have ec:iT (ns.map .int) none (some 63)=ns.map .int:=by
  unfold iT;have e1:HT.sIx (ns.map PV.int).length 0 none=0:=rfl;have e2:HT.sIx (ns.map PV.int).length (ns.map PV.int).length (some 63)=(ns.map PV.int).length:=by
   have:=HT.sIx_nat (ns.map PV.int).length (ns.map PV.int).length 63;rw[show((63:Nat):Int)=63 from rfl]at this;rw[this,aj];omega
  rw[e1,e2,List.drop_zero,Nat.sub_zero,yg]
 refine⟨ms,?_,q⟩;have es:(S++[SO.lst []]).set S.length (.lst (ms.map .int))=S++[.lst (ms.map .int)]:=by simp
 rw[es]at e;unfold rK aR Of;simp! [aE,aZ,aY,aP,aO,aN,aL,aM,aF,aK,bJ,eO,kN,yJ,dB,dD,dA,fO,iP,Ue,ec,e]
theorem Fr{L:AR}(h:gl L 0≠0):(low L).map (gl L 0*·)=L:=by
 unfold low;rw[if_neg h,cw]
 conv=>rhs;rw[<-oq L]
 refine ee λn hn=>?_;show gl L 0*(n/gl L 0)=n;exact Int.mul_ediv_cancel' ((jX L 0).2 n hn)
theorem ab8{L:AR}(h:gl L 0≠0):gl (low L) 0=1:=by
 have e:=tN (gl L 0) (low L);rw[Fr h]at e;have p:=yG L 0 (qm 0);have q:((gl L 0).natAbs:Int)=gl L 0:=by omega
 rw[q]at e;have e2:gl L 0*1=gl L 0*gl (low L) 0:=by rw[mj];exact e
 exact(Int.eq_of_mul_eq_mul_left h e2).symm
theorem Ud{L:AR}(h:gl L 0=1):low L=L:=by
 unfold low;rw[h,if_neg (by decide)]
 conv=>rhs;rw[<-oq L]
 exact ee λn _=>Int.ediv_one n
def PT(L:AR)(b:Int):AR:=(low (L++[b])).map (sg b*·)
theorem Cw{L:AR}{b:Int}(hb:b≠0):gl (L++[b]) 0≠0:=uS (lX L b) hb
theorem acZ{L:AR}{b:Int}(hb:0<b):PT L b=low (L++[b]):=by
 unfold PT sg;rw[if_pos hb]
 conv=>rhs;rw[<-oq (low (L++[b]))]
 exact ee λn _=>jv n
theorem Jo(S:aH)(v2:BB):∀(ns:AR)(g:Int)(a:AV),∃v',dQ [] (gN 2) (aQ 1 (aJ tG [] (aB (aA 1) (aB (aA 2) aD)))) (ns.map .int) [some a,some (.pv (.int g)),v2] S=.nx [some a,some (.pv (.int (gl ns g))),v'] S
 |[],g,a=>⟨v2,fN⟩
 |n::ns,g,a=>by
  obtain⟨v',e⟩:=Jo S (some (.pv (.int n))) ns (di g n:Nat) a;refine⟨v',?_⟩;show dQ [] _ _ (.int n::ns.map .int) _ S=_;rw[fA];simp! [gN,aE,aZ,aY,aP,aO,aN,aL,aM,aF,aK,Qz];exact e
theorem Ik(ns:AR)(S:aH)(hb:∀n∈ns,Bd 8000 n)(h:gl ns 0≠0):sZ [.pv (.lst (ns.map .int))] S=.ok (.pv (.lst ((low ns).map .int))) S:=by
 obtain⟨v',e⟩:=Jo S none ns 0 (.pv (.lst (ns.map .int)));have el:low ns=ns.map λn=>n.fdiv (gl ns 0):=by
  unfold low;rw[if_neg h];exact ee λn hn=>(xj ((jX ns 0).2 n hn)).symm
 have bg:Bd 8000 (gl ns 0):=Tg (Bd.of (n:=0) (by simp) (yt 8000)) hb;have ec:=Ec S (gl ns 0) h bg ns none;unfold sZ aR Fb;simp! [aE,aZ,aY,aP,aO,aN,aL,aM,aF,aK,bJ,bA,cC,e,h,el,bF,cJ,ec]
theorem Ic(S:aH)(b:Int):∀(ns:AR)(x:BB),cG [] (gN 0) (aC bG (aJ pJ [] (aB (aA 1) aD)) (aA 0)) (ns.map .int) [x,some (.pv (.int b))] S=.ok ((ns.map (sg b*·)).map .int) S
 |[],x=>dX
 |n::ns,x=>by
  have ih:=Ic S b ns (some (.pv (.int n)));have hm:bG (.int (sg b)) (.int n)=some (.int (sg b*n)):=nW (.inl (.inl (O7 b)));show cG [] _ _ (.int n::ns.map .int) _ S=_;rw[eA];simp! [gN,aE,aZ,aY,aP,aO,aN,aL,aM,aF,aK,Ke,hm,ih]
theorem S9{w:PV}(L:AR)(b:Int)(S:aH)(hw:w=.lst (L.map .int)\/w=.tup (L.map .int))(hL:∀n∈L,Bd 8000 n)(bb:Bd 8000 b)(hb:b≠0)(hl:L.length<=100):tW [.pv w,.pv (.int b)] S=.ok (.pv (.tup ((PT L b).map .int))) S:=by
 have e1:=Ik (L++[b]) S (λn hn=>by
  rcases cj.mp hn with z |z
  .exact hL n z
  .have:n=b:=by simpa using z
   rw[this];exact bb) (Cw hb)
 have e2:=Ic S b (low (L++[b])) none;have hz:L.length+1<=16777216:=by omega
 simp only[du,aw,ck]at e1;unfold PT tW aR Oe;rcases hw with rfl |rfl<;>simp! [aE,aZ,aY,aP,aO,aN,aL,aM,aF,aK,hb,hz,e1,bA,cC,bF,cJ,e2]
theorem O2(zs:AR)(z:Int):iT ((zs++[z]).map .int) none (some (-1))=zs.map .int:=by
 unfold iT;have e1:HT.sIx ((zs++[z]).map PV.int).length 0 none=0:=rfl;have e2:HT.sIx ((zs++[z]).map PV.int).length ((zs++[z]).map PV.int).length (some (-1))=zs.length:=by
  rw[aj,av];exact Ac zs.length _
 rw[e1,e2];simp
theorem D8(zs:AR)(z:Int):¬(HT.sIx ((zs++[z]).map PV.int).length 0 none=0/\HT.sIx ((zs++[z]).map PV.int).length ((zs++[z]).map PV.int).length (some (-1))=((zs++[z]).map PV.int).length):=by
 rintro⟨_,e⟩
 have e2:HT.sIx ((zs++[z]).map PV.int).length ((zs++[z]).map PV.int).length (some (-1))=zs.length:=by
  rw[aj,av];exact Ac zs.length _
 rw[e2,aj,av]at e;simp at e
theorem tO(zs:AR)(z:Int):iP (.tup ((zs++[z]).map .int)) none (some (-1))=some (.tup (zs.map .int)):=by
 unfold iP;dsimp only;rw[if_neg (D8 zs z),O2]
theorem mV(zs:AR)(z:Int):aE (.tup ((zs++[z]).map .int)) (.int (-1))=some (.int z):=by
 show aZ ((zs++[z]).map PV.int) (-1)=_;rw[du];exact Y4 _ _
theorem gO{m:Int}(h0:0<=m)(h:m<1024):Bd 8000 m:=Bd.of (n:=1023) (by omega) (dm (show 1023<2^10 by decide) (c9 (by decide) (by decide)))
theorem bC(n:Nat)(a b:Int):aP n (.int a) (.int b)=some (a==b):=by cases n<;>rfl
theorem mB{a b:Int}(h:Bd 2000 a)(g:Bd 2000 b):bG (.int a) (.int b)=some (.int (a*b)):=nW (.inr ⟨h.mono (by decide),g.mono (by decide)⟩)
structure Pt(n:Nat)(xs:AR)(w:Int):Prop where
 len:xs.length=n
 pos:0<w
 low:low (xs++[w])=xs++[w]
 bx:∀x∈xs,Bd 300 x
 bw:Bd 300 w
theorem Kn(S:aH)(PL QL:AZ)(w v:Int)(hp:aE (.tup PL) (.int (-1))=some (.int w))(hq:aE (.tup QL) (.int (-1))=some (.int v))(bw:Bd 2000 w)(bv:Bd 2000 v):∀(xs ys:AR)(x y:BB),xs.length=ys.length->(∀x∈xs,Bd 2000 x)->(∀y∈ys,Bd 2000 y)->
  cG [] (gT 2 (bO (gN 0) (bO (gN 1) dE))) (aC aF (aC bG (aA 0) (aC aE (aA 2) (bR bU (mC (.int 1))))) (aC bG (aA 1) (aC aE (aA 3) (bR bU (mC (.int 1)))))) (fZ (xs.map .int) (ys.map .int)) [x,y,some (.pv (.tup QL)),some (.pv (.tup PL))] S=.ok ((sm xs w ys v).map .int) S
 |[],ys,x,y,hl,_,_=>by
  have:ys=[]:=qr.mp hl.symm;subst this;exact dX
 |a::xs,[],x,y,hl,_,_=>by cases hl
 |a::xs,b::ys,x,y,hl,hx,hy=>by
  have ih:=Kn S PL QL w v hp hq bw bv xs ys (some (.pv (.int a))) (some (.pv (.int b))) (by simpa using hl) (λm hm=>hx m (bn _ hm)) (λm hm=>hy m (bn _ hm));have m1:=mB (hx a bi) bv;have m2:=mB (hy b bi) bw;show cG [] _ _ (.tup [.int a,.int b]::fZ (xs.map .int) (ys.map .int)) _ S=_;rw[eA];simp! [gT,bO,dE,gN,bC,aO,aN,aL,aM,aF,aK,hp,hq,m1,m2,ih,sm]
theorem adL{xs ys:AR}{w v:Int}{k:Nat}(hx:∀x∈xs,Bd k x)(hy:∀y∈ys,Bd k y)(hw:Bd k w)(hv:Bd k v):∀n∈sm xs w ys v,Bd (k+k+1) n:=λn hn=>by
 unfold sm at hn;obtain⟨i,hi,e⟩:=ph hn;rw[vb]at e;rw[<-e];exact((hx _ (fe _)).mul hv).add ((hy _ (fe _)).mul hw)
theorem Wm{xs ys:AR}{w v:Int}(S:aH)(hl:xs.length=ys.length)(h9:xs.length<=9)(hw:0<w)(hv:0<v)(hx:∀x∈xs,Bd 2000 x)(hy:∀y∈ys,Bd 2000 y)(bw:Bd 2000 w)(bv:Bd 2000 v):
  tU [.pv (.tup ((xs++[w]).map .int)),.pv (.tup ((ys++[v]).map .int))] S=.ok (.pv (.tup ((low (sm xs w ys v++[w*v])).map .int))) S:=by
 have ip:=mV xs w;have iq:=mV ys v;have sp:=tO xs w;have sq:=tO ys v;have ec:=Kn S _ _ w v ip iq bw bv xs ys none none hl hx hy;have mm:=mB bw bv;have hp:=bf hw hv;have ep:=S9 (w:=.lst ((sm xs w ys v).map .int)) (sm xs w ys v) (w*v) S (.inl rfl) (λn hn=>(adL hx hy bw bv n hn).mono (by decide)) ((bw.mul bv).mono (by decide)) (by omega) (by rw[ac2 hl];omega);rw[acZ hp]at ep;generalize (xs++[w]).map PV.int=PL at ip sp ec;generalize (ys++[v]).map PV.int=QL at iq sq ec;unfold tU aR Sd;simp! [bC,aO,aN,aL,aM,aF,aK,bF,iS,mG,cC,dB,dD,dA,fO,sp,sq,cJ,ec,ip,iq,mm,ep]
theorem Jn(S:aH):∀(ns:AR)(x:BB),cG [] (gN 0) (bR bU (aA 0)) (ns.map .int) [x] S=.ok ((ns.map (- ·)).map .int) S
 |[],x=>dX
 |n::ns,x=>by
  have ih:=Jn S ns (some (.pv (.int n)));show cG [] _ _ (.int n::ns.map .int) _ S=_;rw[eA];simp! [gN,aE,aZ,aY,aP,aO,aN,aL,aM,aF,aK,ih]
theorem Jm(xs:AR)(w:Int)(S:aH)(h9:xs.length<=9):qT [.pv (.tup ((xs++[w]).map .int))] S=.ok (.pv (.tup ((xs.map (- ·)++[w]).map .int))) S:=by
 have ip:=mV xs w;have sp:=tO xs w;have ec:=Jn S xs none;have hz:xs.length+1<=16777216:=by omega
 generalize (xs++[w]).map PV.int=PL at ip sp;unfold qT aR Mc;simp! [bC,aO,aN,aL,aM,aF,aK,bF,bA,cC,dB,dD,dA,fO,sp,cJ,ec,ip,hz]
theorem Qy{xs ys:AR}{w v:Int}(S:aH)(hl:xs.length=ys.length)(h9:xs.length<=9)(hw:0<w)(hv:0<v)(hx:∀x∈xs,Bd 2000 x)(hy:∀y∈ys,Bd 2000 y)(bw:Bd 2000 w)(bv:Bd 2000 v):
  vY [.pv (.tup ((xs++[w]).map .int)),.pv (.tup ((ys++[v]).map .int))] S=.ok (.pv (.tup ((low (sm xs w (ys.map (- ·)) v++[w*v])).map .int))) S:=by
 have e1:=Jm ys v S (by omega);have e2:=Wm (ys:=ys.map (- ·)) S (by rw[aj];exact hl) h9 hw hv hx (λn hn=>by
  obtain⟨m,hm,rfl⟩:=ia.mp hn;exact(hy m hm).neg) bw bv
 generalize (xs++[w]).map PV.int=PL at e2;generalize (ys++[v]).map PV.int=QL at e1;generalize (ys.map (- ·)++[v]).map PV.int=RL at e1 e2;unfold vY aR Ra;simp! [aE,aZ,aY,aP,aO,aN,aL,aM,aF,aK,e1,e2]
theorem xD(way:Int)(a:PV)(S:aH):qO [.pv (.tup [.int way,a])] S=.ok (.pv (.bl (way==1))) S:=by
 unfold qO aR Kb;simp! [aE,aZ,aY,aP,aO,aN,aL,aM,aF,aK]
def mv(way:Int)(xs:AR)(w:Int)(ys:AR)(v:Int):AR:=if way=1 then low (sm xs w ys v++[w*v])else low (sm ys v (xs.map (- ·)) w++[v*w])
theorem P7{xs ys:AR}{w v:Int}(way:Int)(S:aH)(hl:xs.length=ys.length)(h9:xs.length<=9)(hw:0<w)(hv:0<v)(hx:∀x∈xs,Bd 2000 x)(hy:∀y∈ys,Bd 2000 y)(bw:Bd 2000 w)(bv:Bd 2000 v):
  nP [.pv (.tup ((xs++[w]).map .int)),.pv (.tup [.int way,.tup ((ys++[v]).map .int)])] S=.ok (.pv (.tup ((mv way xs w ys v).map .int))) S:=by
 have e1:=Wm S hl h9 hw hv hx hy bw bv;have e2:=Qy S hl.symm (by omega) hv hw hy hx bv bw;generalize (xs++[w]).map PV.int=PL at e1 e2;generalize (ys++[v]).map PV.int=QL at e1 e2;unfold mv nP aR Ja
 by_cases h:way=1
 .simp! [aE,aZ,aY,aP,aO,aN,aL,aM,aF,aK,xD,h,e1]
 .simp! [aE,aZ,aY,aP,aO,aN,aL,aM,aF,aK,xD,h,e2]
theorem xO(zs:AR)(z:Int)(j:Nat)(h:j<zs.length):aE (.tup ((zs++[z]).map .int)) (.int (j:Nat))=some (.int (zs.getD j 0)):=by
 show aZ ((zs++[z]).map PV.int) (j:Int)=_;refine eH ?_;rw[bo,fx h,ax h];simp[cg,h]
theorem Zp(S:aH)(PL QL:AZ)(xs ys:AR)(w v way:Int)(hp:aE (.tup PL) (.int (-1))=some (.int w))(hq:aE (.tup QL) (.int (-1))=some (.int v))(hpj:∀j:Nat,j<xs.length->aE (.tup PL) (.int (j:Nat))=some (.int (xs.getD j 0)))(hqj:∀j:Nat,j<xs.length->aE (.tup QL) (.int (j:Nat))=some (.int (ys.getD j 0)))
  (hway:way=1\/way=-1)(bw:Bd 1000 w)(bv:Bd 1000 v)(hx:∀j,Bd 1000 (xs.getD j 0))(hy:∀j,Bd 1000 (ys.getD j 0)):∀(js:List Nat)(x:BB),(∀j∈js,j<xs.length)->
  cG [] (gN 0) (aC aF (aC bG (aC bG (aA 1) (aC aE (aA 3) (aA 0))) (aC aE (aA 2) (bR bU (mC (.int 1))))) (aC bG (aC aE (aA 2) (aA 0)) (aC aE (aA 3) (bR bU (mC (.int 1)))))) (js.map λj=>.int (0+(j:Nat))) [x,some (.pv (.int way)),some (.pv (.tup QL)),some (.pv (.tup PL))] S=.ok ((js.map λj=>way*xs.getD j 0*v+ys.getD j 0*w).map .int) S
 |[],x,_=>dX
 |j::js,x,h=>by
  have ih:=Zp S PL QL xs ys w v way hp hq hpj hqj hway bw bv hx hy js (some (.pv (.int (0+(j:Nat))))) λi hi=>h i (bn _ hi);have e1:=hpj j (h j bi);have e2:=hqj j (h j bi);have b1:Bd 2 way:=by rcases hway with rfl |rfl<;>exact Bd.of (n:=1) (by decide) (by decide)
  have m0:=mB (b1.mono (show 2<=2000 by decide)) ((hx j).mono (show 1000<=2000 by decide));have m1:=mB ((b1.mul (hx j)).mono (show 2+1000<=2000 by decide)) (bv.mono (show 1000<=2000 by decide));have m2:=mB ((hy j).mono (show 1000<=2000 by decide)) (bw.mono (show 1000<=2000 by decide));show cG [] _ _ (.int (0+(j:Nat))::js.map λj=>.int (0+(j:Nat))) _ S=_;rw[eA];simp only[vd]at ih⊢;generalize hX:xs.getD j 0=X at e1 m0 m1;generalize hY:ys.getD j 0=Y at e2 m2;simp! [gN,bC,aO,aN,aL,aM,aF,aK,e1,e2,hp,hq,m0,m1,m2,ih];simp only[AA]at hX hY;rw[hX,hY]
theorem xA{xs:AR}{k:Nat}(h:∀x∈xs,Bd k x)(j:Nat):Bd k (xs.getD j 0):=by
 by_cases hj:j<xs.length
 .have e:xs.getD j 0=xs[j]:=by simp[cg,hj]
  rw[e];exact h _ (fe hj)
 .have e:xs.getD j 0=0:=by simp[cg,hj]
  rw[e];exact Bd.of (n:=0) (by decide) (yt k)
theorem Rl{xs ys:AR}(hl:xs.length=ys.length)(f:Int->Int->Int):(cu xs.length).map (λj=>f (xs.getD j 0) (ys.getD j 0))=cr f xs ys:=by
 refine ue (by simp[hl]) λi h1 h2=>?_;have hi:i<xs.length:=by simpa using h1
 have hj:i<ys.length:=by omega
 simp[cg,hi,hj]
theorem J1{xs ys:AR}{w v way:Int}(S:aH)(hl:xs.length=ys.length)(h9:xs.length<=9)(hway:way=1\/way=-1)(hx:∀x∈xs,Bd 1000 x)(hy:∀y∈ys,Bd 1000 y)(bw:Bd 1000 w)(bv:Bd 1000 v):
  kU [.pv (.tup ((xs++[w]).map .int)),.pv (.tup ((ys++[v]).map .int)),.pv (.int way)] S=.ok (.pv (.tup ((low (cr (λx y=>way*x*v+y*w) xs ys++[w*v])).map .int))) S:=by
 have ip:=mV xs w;have iq:=mV ys v;have ec:=Zp S _ _ xs ys w v way ip iq (λj h=>xO xs w j h) (λj h=>xO ys v j (by omega)) hway bw bv (xA hx) (xA hy) (cu xs.length) none λj hj=>by simpa using hj
 have er:(cu xs.length).map (λj=>way*xs.getD j 0*v+ys.getD j 0*w)=cr (λx y=>way*x*v+y*w) xs ys:=Rl hl λx y=>way*x*v+y*w;rw[er]at ec;have mm:=mB (bw.mono (show 1000<=2000 by decide)) (bv.mono (show 1000<=2000 by decide));have b1:Bd 2 way:=by rcases hway with rfl |rfl<;>exact Bd.of (n:=1) (by decide) (by decide)
 have el:=nT (cr (λx y=>way*x*v+y*w) xs ys++[w*v]) S (λn hn=>by
  rcases cj.mp hn with z |z
  .obtain⟨i,hi,e⟩:=ph z
   rw[vb]at e;rw[<-e];exact((((b1.mul (hx _ (fe _))).mul bv).mono (show 2+1000+1000<=3000 by decide)).add (((hy _ (fe _)).mul bw).mono (show 1000+1000<=3000 by decide))).mono (by decide)
  .have:n=w*v:=by simpa using z
   rw[this];exact(bw.mul bv).mono (by decide))
 have hlen:((xs++[w]).map PV.int).length=xs.length+1:=by simp
 have hz:xs.length+1<=16777216:=by omega
 have hr:gG [.pv (.int (((xs.length+1:Nat):Int)-1))] S=.ok ((cu xs.length).map λj=>.int (0+(j:Nat)),[]) S:=by
  unfold gG;dsimp only;rw[if_pos ⟨by omega,by omega⟩];have:(((xs.length+1:Nat):Int)-1).toNat=xs.length:=by omega
  rw[this];rfl
 have hzl:(cr (λx y=>way*x*v+y*w) xs ys).length+1<=16777216:=by rw[ka];omega
 simp only[du,aw,ck]at el;generalize hZ:(cr (λx y=>way*x*v+y*w) xs ys).map PV.int=ZL at ec el;have hzl2:ZL.length+1<=16777216:=by rw[<-hZ,aj];exact hzl
 generalize (cu xs.length).map (λj=>PV.int (0+(j:Nat)))=RL at ec hr;generalize hP:(xs++[w]).map PV.int=PL at ip ec hlen;generalize (ys++[v]).map PV.int=QL at iq ec;unfold kU aR Rb;have hr2:=hr;rw[<-hlen]at hr2;simp! [bC,aO,aN,aL,aM,aF,aK,bF,cM,hr2,cJ,ec,ip,iq,mm,hzl2,el]
theorem Zn{k:Nat}{W:Int}(W0:0<=W)(W1:W<=1000000000000):∀(is:AZ)(S:aH)(ns:AR)(x:BB),dW S k ns->∃(xs ns':AR),cG [] (gN 0) (aC dN (aJ cE [] (aB (aA 2) (aB (aC aF (aC bG (mC (.int 2)) (aA 1)) (mC (.int 1))) aD))) (aA 1)) is [x,some (.pv (.int W)),some (.ref k)] S=.ok (xs.map .int) (S.set k (.lst (ns'.map .int)))/\xs.length=is.length/\∀n∈xs,Bd 50 n
 |[],S,ns,x,h=>by
  refine⟨[],ns,?_,rfl,λ_ h=>absurd h fg⟩;have e:S.set k (.lst (ns.map .int))=S:=kq λj=>by
   by_cases q:k=j
   .subst q;rw[dj h.lt];exact h.symm
   .rw[fj q]
  rw[e];exact dX
 |i::is,S,ns,x,h=>by
  obtain⟨t,n1,e1,t0,t1,_⟩:=fX (m:=2*W+1) h (by omega) ((Bd.of (k:=50) (n:=2000000000001) (by omega) (by decide)).mono (by decide));obtain⟨xs,n2,e2,l2,b2⟩:=Zn W0 W1 is _ n1 (some (.pv i)) (h.set n1);rw[ki]at e2;have m2:bG (.int 2) (.int W)=some (.int (2*W)):=nW (.inl (.inl ⟨by decide,by decide⟩));refine⟨(t-W)::xs,n2,?_,by simp[l2],λn hn=>?_⟩
  .rw[eA]
   generalize S.set k (.lst (n1.map .int))=S1 at e1 e2;simp! [gN,aE,aZ,aY,aP,aO,aN,aL,aM,aF,aK,m2,e1,e2]
  .rcases cq.mp hn with rfl |hn
   .exact Bd.of (n:=1000000000000) (by omega) (by decide)
   .exact b2 n hn
theorem adV{v:Int}(h0:0<=v)(h1:v<4):∃M:Int,aE (.lst [.int 0,.int 3,.int 9,.int 1000000000000]) (.int v)=some (.int M)/\0<=M/\M<=1000000000000:=by
 have c:v=0\/v=1\/v=2\/v=3:=by omega
 rcases c with rfl |rfl |rfl |rfl
 .exact⟨0,rfl,by decide,by decide⟩
 .exact⟨3,rfl,by decide,by decide⟩
 .exact⟨9,rfl,by decide,by decide⟩
 .exact⟨1000000000000,rfl,by decide,by decide⟩
theorem p12:iI (.int 10) (.int 12)=some (.int 1000000000000):=xJ (i:=10) (j:=12) ⟨by decide,by decide,by decide⟩
theorem adU{v:Int}(h0:0<=v)(h1:v<4):0<=v.fdiv 2/\v.fdiv 2<=1:=by
 have c:v=0\/v=1\/v=2\/v=3:=by omega
 rcases c with rfl |rfl |rfl |rfl<;>decide
theorem acf{n k:Nat}{L:AR}{b:Int}(hb:0<b)(hl:L.length=n)(hk:k<=300)(hL:∀x∈L,Bd k x)(bb:Bd k b):∃(zs:AR)(z:Int),low (L++[b])=zs++[z]/\Pt n zs z/\(∀x∈zs,Bd k x)/\Bd k z:=by
 obtain⟨zs,z,g,e,hg,hz,_,_,hzl⟩:=xK L hb;have hbd:=xQ (k:=k) (ns:=L++[b]) λm hm=>by
  rcases cj.mp hm with y |y
  .exact hL m y
  .have:m=b:=by simpa using y
   rw[this];exact bb
 have hlow:=He L hb;rw[e]at hbd hlow;have b1:∀x∈zs,Bd k x:=λx hx=>hbd x (lq _ hx);have b2:Bd k z:=hbd z (lX zs z);exact⟨zs,z,e,⟨hzl.trans hl,hz,hlow,λx hx=>(b1 x hx).mono hk,b2.mono hk⟩,b1,b2⟩
theorem ac8{S:aH}{k:Nat}{ns:AR}(n:Nat)(hn:n=2\/n=3)(h:dW S k ns):∃(xs:AR)(w:Int)(ns':AR),kI [.ref k,.pv (.int n)] S=.ok (.pv (.tup ((xs++[w]).map .int))) (S.set k (.lst (ns'.map .int)))/\Pt n xs w/\(∀x∈xs,Bd 100 x)/\Bd 100 w:=by
 obtain⟨c,n1,e1,c0,c1,_⟩:=fX (m:=4) h (by decide) (gO (by decide) (by decide));obtain⟨M,em,M0,M1⟩:=adV c0 c1;obtain⟨t,n2,e2,t0,t1,_⟩:=fX (m:=9) (h.set n1) (by decide) (gO (by decide) (by decide));rw[ki]at e2;obtain⟨xs,n3,e3,l3,b3⟩:=Zn M0 M1 (dH 0 n) _ n2 none (h.set n2);rw[ki]at e3;have hc:=adU c0 c1;have mt:bG (.int t) (.int (c.fdiv 2))=some (.int (t*c.fdiv 2)):=nW (.inl (.inl ⟨by omega,by omega⟩));have qt:iG (.int c) (.int 2)=some (.int (c.fdiv 2)):=pD ⟨by decide,gO (by decide) (by decide)⟩;have hm:0<=t*c.fdiv 2/\t*c.fdiv 2<=8:=by
  have c2:c.fdiv 2=0\/c.fdiv 2=1:=by omega
  rcases c2 with z |z<;>rw[z]<;>omega
 have lx:xs.length=n:=by rw[l3];unfold dH;simp
 generalize t*c.fdiv 2=tc at mt hm;obtain⟨zs,z,ez,P,b1,b2⟩:=acf (n:=n) (k:=100) (L:=xs) (b:=1+tc) (by omega) lx (by decide) (λx hx=>(b3 x hx).mono (by decide)) (Bd.of (n:=9) (by omega) (by decide));have el:=nT (xs++[1+tc]) (S.set k (.lst (n3.map .int))) (λm hm=>by
  rcases cj.mp hm with y |y
  .exact(b3 m y).mono (by decide)
  .have:m=1+tc:=by simpa using y
   rw[this];exact(Bd.of (k:=4) (n:=9) (by omega) (by decide)).mono (by decide))
 rw[ez]at el;refine⟨zs,z,n3,?_,P,b1,b2⟩;have tk3:=Po S k (.lst (n3.map .int));have hz:xs.length+1<=16777216:=by omega
 generalize S.set k (.lst (n1.map .int))=S1 at e1 e2;generalize S.set k (.lst (n2.map .int))=S2 at e2 e3;generalize S.set k (.lst (n3.map .int))=S3 at e3 el tk3;have hr:gG [.pv (.int (n:Int))] S2=.ok (dH 0 n,[]) S2:=by
  unfold gG;dsimp only;rw[if_pos ⟨by omega,by omega⟩];rfl
 conv at el=>lhs;rw[du]
 simp only[aw,ck]at el;generalize (zs++[z]).map PV.int=ZL at el;unfold kI aR Mf;simp! [bC,aO,aN,aL,aM,aF,aK,p12,e1,em,e2,mt,qt,bF,cM,hr,cJ,e3,hz,el,tk3]
theorem Ll{way:Int}(h:way=1\/way=-1)(xs:AR)(w:Int)(ys:AR)(v:Int):low (cr (λx y=>way*x*v+y*w) xs ys++[w*v])=mv way xs w ys v:=by
 unfold mv;rcases h with rfl |rfl
 .rw[if_pos rfl,B5]
 .rw[if_neg (by decide),Bz,fm w v]
structure Pq(n k:Nat)(xs:AR)(w:Int):Prop where
 len:xs.length=n
 pos:0<w
 low:low (xs++[w])=xs++[w]
 bx:∀x∈xs,Bd k x
 bw:Bd k w
def Vl(n:Nat)(xs:AR)(w:Int)(N:Nat->Int)(D:Int):Prop:=∀j,j<n->xs.getD j 0*D=N j*w
theorem Vl.self(n:Nat)(xs:AR)(w:Int):Vl n xs w (λj=>xs.getD j 0) w:=λ_ _=>rfl
theorem uJ{a b c:Int}(h:0<c)(e:a*c=b*c):a=b:=Int.eq_of_mul_eq_mul_right (by omega) e
theorem Pq.same{n k k':Nat}{xs ys:AR}{w v:Int}(P:Pq n k xs w)(Q:Pq n k' ys v)(h:∀j,j<n->xs.getD j 0*v=ys.getD j 0*w):xs++[w]=ys++[v]:=by
 rw[<-P.low,<-Q.low];refine Pn (k:=v) (m:=w) Q.pos P.pos (uS (lX xs w) (by have:=P.pos;omega)) ?_;rw[du,du];congr 1
 .refine ue (by simp[P.len,Q.len]) λj h1 h2=>?_
  have hj:j<n:=by rw[<-P.len];simpa using h1
  have e:=h j hj;have a1:xs.getD j 0=xs[j]'(by rw[P.len];exact hj):=by simp[cg,P.len,hj]
  have a2:ys.getD j 0=ys[j]'(by rw[Q.len];exact hj):=by simp[cg,Q.len,hj]
  rw[a1,a2]at e;rw[yk,yk];rw[fm v,fm w];exact e
 .simp only[aw,ck]
  rw[fm]
theorem Pq.eq{n k k':Nat}{xs ys:AR}{w v:Int}{N M:Nat->Int}{D E:Int}(P:Pq n k xs w)(Q:Pq n k' ys v)(a:Vl n xs w N D)(b:Vl n ys v M E)(hD:0<D)(hE:0<E)(h:∀j,j<n->N j*E=M j*D):xs++[w]=ys++[v]:=by
 refine P.same Q λj hj=>?_;have e1:=a j hj;have e2:=b j hj;have e3:=h j hj;refine uJ (c:=D*E) (bf hD hE) ?_;grind
theorem aaJ{xs ys:AR}{f:Int->Int->Int}{j:Nat}(h1:j<xs.length)(h2:j<ys.length):(cr f xs ys).getD j 0=f (xs.getD j 0) (ys.getD j 0):=by
 have:j<(cr f xs ys).length:=by rw[ka];omega
 simp only[cg,ax this,ax h1,ax h2,o5,vb]
theorem Sg{n k l:Nat}{way:Int}{xs ys:AR}{w v:Int}(hway:way=1\/way=-1)(P:Pq n k xs w)(Q:Pq n l ys v):∃(zs:AR)(z:Int),mv way xs w ys v=zs++[z]/\Pq n (k+l+1) zs z/\
  ∀(N M:Nat->Int)(D E:Int),Vl n xs w N D->Vl n ys v M E->0<D->0<E->Vl n zs z (λj=>way*N j*E+M j*D) (D*E):=by
 rw[<-Ll hway];have hb:=bf P.pos Q.pos;have hl:(cr (λx y=>way*x*v+y*w) xs ys).length=n:=by rw[ka,P.len,Q.len];omega
 obtain⟨zs,z,g,e,hg,hz,g1,g2,hzl⟩:=xK (cr (λx y=>way*x*v+y*w) xs ys) hb;have hlow:=He (cr (λx y=>way*x*v+y*w) xs ys) hb;have hbd:=xQ (k:=k+l+1) (ns:=cr (λx y=>way*x*v+y*w) xs ys++[w*v]) λm hm=>by
  rcases cj.mp hm with y |y
  .obtain⟨i,hi,e⟩:=ph y
   rw[vb]at e;rw[<-e];have b1:=(P.bx _ (fe (l:=xs) (n:=i) (by rw[ka]at hi;omega))).mul Q.bw;have b2:=(Q.bx _ (fe (l:=ys) (n:=i) (by rw[ka]at hi;omega))).mul P.bw;have b3:Bd (k+l) (way*xs[i]'(by rw[ka]at hi;omega)*v):=by
    rcases hway with rfl |rfl
    .rw[jv];exact b1
    .have:(-1:Int)*xs[i]'(by rw[ka]at hi;omega)*v=-(xs[i]'(by rw[ka]at hi;omega)*v):=by rw[oo,jv,oo]
     rw[this];exact b1.neg
   exact b3.add (b2.mono (by omega))
  .have:m=w*v:=by simpa using y
   rw[this];exact(P.bw.mul Q.bw).mono (by omega)
 rw[e]at hbd hlow;refine⟨zs,z,e,⟨hzl.trans hl,hz,hlow,λx hx=>hbd x (lq _ hx),hbd z (lX zs z)⟩,λN M D E a b hD hE j hj=>?_⟩;have h1:(cr (λx y=>way*x*v+y*w) xs ys).getD j 0=g*zs.getD j 0:=by
  rw[g1];have:j<zs.length:=by rw[hzl,hl];exact hj
  simp[cg,this]
 rw[aaJ (by rw[P.len];exact hj) (by rw[Q.len];exact hj)]at h1;have a1:=a j hj;have b1:=b j hj;generalize xs.getD j 0=X at a1 h1;generalize ys.getD j 0=Y at b1 h1;generalize zs.getD j 0=Z at h1⊢;show Z*(D*E)=(way*N j*E+M j*D)*z;generalize M j=B,N j=A at *;refine uJ (c:=g*(w*v)) (bf hg hb) ?_;have p1:=P.pos;have p2:=Q.pos;have k1:(way*X*v+Y*w)*(D*E)=(way*A*E+B*D)*(w*v):=by grind
 have k2:Z*(D*E)*(g*(w*v))=(way*X*v+Y*w)*(D*E)*(w*v):=by rw[h1];grind
 rw[k2,k1,g2];grind
theorem Pt.pq{n k:Nat}{xs:AR}{w:Int}(P:Pt n xs w)(b:∀x∈xs,Bd k x)(bw:Bd k w):Pq n k xs w:=⟨P.len,P.pos,P.low,b,bw⟩
theorem Pq.mono{n k l:Nat}{xs:AR}{w:Int}(P:Pq n k xs w)(h:k<=l):Pq n l xs w:=⟨P.len,P.pos,P.low,λx hx=>(P.bx x hx).mono h,P.bw.mono h⟩
theorem acn{n k:Nat}{xs:AR}{w:Int}(P:Pq n k xs w):Pq n k (xs.map (- ·)) w:=by
 refine⟨by rw[aj];exact P.len,P.pos,?_,λx hx=>?_,P.bw⟩
 .have g1:=ab8 (Cw (L:=xs) (b:=w) (by have:=P.pos;omega))
  rw[P.low]at g1;refine Ud ?_;rw[wY];rw[wY]at g1;have e:gl (xs.map (- ·)) 0=gl xs 0:=by
   have:=Sr xs;rw[<-this];exact congrArg (λl=>gl l 0) (ee λx _=>by omega)
  rw[e];exact g1
 .obtain⟨a,ha,rfl⟩:=ia.mp hx
  exact(P.bx a ha).neg
theorem abT{n:Nat}{xs:AR}{w:Int}{N:Nat->Int}{D:Int}(a:Vl n xs w N D):Vl n (xs.map (- ·)) w (λj=>-N j) D:=λj hj=>by
 have e:=a j hj;have:(xs.map (- ·)).getD j 0=-xs.getD j 0:=by
  by_cases h:j<xs.length
  .simp[cg,h]
  .simp[cg,h]
 rw[this];grind
theorem acu{n k l:Nat}{way:Int}{xs ys:AR}{w v:Int}(S:aH)(hn:n=2\/n=3)(P:Pq n k xs w)(Q:Pq n l ys v)(hk:k<=2000)(hl:l<=2000):nP [.pv (.tup ((xs++[w]).map .int)),.pv (.tup [.int way,.tup ((ys++[v]).map .int)])] S=.ok (.pv (.tup ((mv way xs w ys v).map .int))) S:=
 P7 way S (P.len.trans Q.len.symm) (by rw[P.len];omega) P.pos Q.pos (λx hx=>(P.bx x hx).mono hk) (λx hx=>(Q.bx x hx).mono hl) (P.bw.mono hk) (Q.bw.mono hl)
theorem aaF{n k l:Nat}{way:Int}{xs ys:AR}{w v:Int}(S:aH)(hn:n=2\/n=3)(hway:way=1\/way=-1)(P:Pq n k xs w)(Q:Pq n l ys v)(hk:k<=1000)(hl:l<=1000):kU [.pv (.tup ((xs++[w]).map .int)),.pv (.tup ((ys++[v]).map .int)),.pv (.int way)] S=.ok (.pv (.tup ((mv way xs w ys v).map .int))) S:=by
 have e:=J1 (way:=way) S (P.len.trans Q.len.symm) (by rw[P.len];omega) hway (λx hx=>(P.bx x hx).mono hk) (λx hx=>(Q.bx x hx).mono hl) (P.bw.mono hk) (Q.bw.mono hl);rw[Ll hway]at e;exact e
theorem Qv(a b:PV):aE (.tup [a,b]) (.int 0)=some a:=rfl
theorem Iv(a b:PV):aE (.tup [a,b]) (.int 1)=some b:=rfl
theorem R8{AL BL:AZ}(S:aH)(h:qT [.pv (.tup AL)] S=.ok (.pv (.tup BL)) S):mW [.pv (.tup [.int 1,.tup AL])] S=.ok (.pv (.tup [.int 1,.tup BL])) S:=by
 have p:=xD 1 (.tup AL) S;unfold mW aR wR;simp! [bC,aO,aN,aL,aM,aF,aK,Qv,Iv,p,h]
theorem N4{AL:AZ}(S:aH):mW [.pv (.tup [.int (-1),.tup AL])] S=.ok (.pv (.tup [.int (-1),.tup AL])) S:=by
 have p:=xD (-1) (.tup AL) S;unfold mW aR wR;simp! [bC,aO,aN,aL,aM,aF,aK,Qv,Iv,p]
theorem sq1{a:Int}(h:a=1\/a=-1):a*a=1:=by rcases h with rfl |rfl<;>rfl
theorem hrg(S:aH):gG [.pv (.int 3)] S=.ok ([.int 0,.int 1,.int 2],[]) S:=by
 have h:dH 0 (3:Int).toNat=[.int 0,.int 1,.int 2]:=rfl;rw[<-h];unfold gG;dsimp only;rw[if_pos ⟨by omega,by omega⟩]
theorem abL(t b:Int)(S:aH)(ht:Bd 8000 t)(hb:Bd 8000 b):uC [.pv (.int t),.pv (.int b)] S=.ok (.pv (.tup ((fr t b).map .int))) S:=by
 unfold uC aR Fd fr;have e1:=nT [0-t,0-b] S (by
  intro n hn;rcases cq.mp hn with rfl |hn
  .rw[ju];exact ht.neg
  .have:n=0-b:=by simpa using hn
   rw[this,ju];exact hb.neg)
 have e2:=nT [t,b] S (by
  intro n hn;rcases cq.mp hn with rfl |hn
  .exact ht
  .have:n=b:=by simpa using hn
   rw[this];exact hb)
 by_cases h:b<0
 .simp only[aw,ck,ju]at e1
  simp! [aE,aZ,aY,aP,aO,aN,aL,aM,aF,aK,h,e1]
 .simp only[aw,ck]at e2
  simp! [aE,aZ,aY,aP,aO,aN,aL,aM,aF,aK,h,e2]
theorem Xa:∀is:AR,kH (is.map .int)=some is
 |[]=>rfl
 |i::is=>by
  have ih:=Xa is;show(match kH (is.map .int)with |some bs=>some (i::bs) |none=>none)=_
  rw[ih]
theorem Nm(is:AR):pV [.lst (is.map .int)]=some (.int is.sum):=by
 simp only[pV,Xa,yu]
def wa(xs:AR)(w:Int)(ys:AR)(v:Int):AR:=cr (λx y=>y*w-x*v) xs ys
theorem Fs(S:aH)(PL QL:AZ)(w v:Int)(hp:aE (.tup PL) (.int (-1))=some (.int w))(hq:aE (.tup QL) (.int (-1))=some (.int v))(bw:Bd 2000 w)(bv:Bd 2000 v):∀(xs ys:AR)(x y:BB),xs.length=ys.length->(∀x∈xs,Bd 2000 x)->(∀y∈ys,Bd 2000 y)->
  cG [] (gT 2 (bO (gN 0) (bO (gN 1) dE))) (aC dN (aC bG (aA 1) (aC aE (aA 2) (bR bU (mC (.int 1))))) (aC bG (aA 0) (aC aE (aA 3) (bR bU (mC (.int 1)))))) (fZ (xs.map .int) (ys.map .int)) [x,y,some (.pv (.tup PL)),some (.pv (.tup QL))] S=.ok ((wa xs w ys v).map .int) S
 |[],ys,x,y,hl,_,_=>by
  have:ys=[]:=qr.mp hl.symm;subst this;exact dX
 |a::xs,[],x,y,hl,_,_=>by cases hl
 |a::xs,b::ys,x,y,hl,hx,hy=>by
  have ih:=Fs S PL QL w v hp hq bw bv xs ys (some (.pv (.int a))) (some (.pv (.int b))) (by simpa using hl) (λm hm=>hx m (bn _ hm)) (λm hm=>hy m (bn _ hm));have m1:=mB (hx a bi) bv;have m2:=mB (hy b bi) bw;show cG [] _ _ (.tup [.int a,.int b]::fZ (xs.map .int) (ys.map .int)) _ S=_;rw[eA];simp! [gT,bO,dE,gN,bC,aO,aN,aL,aM,aF,aK,hp,hq,m1,m2,ih,wa]
theorem Fo{xs ys:AR}{w v:Int}(S:aH)(hl:xs.length=ys.length)(hx:∀x∈xs,Bd 2000 x)(hy:∀y∈ys,Bd 2000 y)(bw:Bd 2000 w)(bv:Bd 2000 v):
  lU [.pv (.tup ((xs++[w]).map .int)),.pv (.tup ((ys++[v]).map .int))] S=.ok (.pv (.lst ((wa xs w ys v).map .int))) S:=by
 have ip:=mV xs w;have iq:=mV ys v;have sp:=tO xs w;have sq:=tO ys v;have ec:=Fs S _ _ w v ip iq bw bv xs ys none none hl hx hy;generalize (xs++[w]).map PV.int=PL at ip sp ec;generalize (ys++[v]).map PV.int=QL at iq sq ec;unfold lU aR Ha;simp! [bC,aO,aN,aL,aM,aF,aK,bF,iS,mG,cC,dB,dD,dA,fO,sp,sq,cJ,ec]
theorem Fc(S:aH):∀(us vs:AR)(x y:BB),(∀x∈us,Bd 100000 x)->(∀y∈vs,Bd 100000 y)->
  cG [] (gT 2 (bO (gN 0) (bO (gN 1) dE))) (aC bG (aA 0) (aA 1)) (fZ (us.map .int) (vs.map .int)) [x,y] S=.ok ((cr (·*·) us vs).map .int) S
 |[],vs,x,y,_,_=>by
  show cG [] _ _ [] _ S=_;exact dX
 |a::us,[],x,y,_,_=>by
  show cG [] _ _ [] _ S=_;exact dX
 |a::us,b::vs,x,y,hx,hy=>by
  have ih:=Fc S us vs (some (.pv (.int a))) (some (.pv (.int b))) (λm hm=>hx m (bn _ hm)) (λm hm=>hy m (bn _ hm));have m1:bG (.int a) (.int b)=some (.int (a*b)):=nW (.inr ⟨(hx a bi).mono (by decide),(hy b bi).mono (by decide)⟩);show cG [] _ _ (.tup [.int a,.int b]::fZ (us.map .int) (vs.map .int)) _ S=_;rw[eA];simp! [gT,bO,dE,gN,bC,aO,aN,aL,aM,aF,aK,m1,ih]
def dt(us vs:AR):Int:=(cr (·*·) us vs).sum
def Sq(A:PV)(us:AR):Prop:=A=.lst (us.map .int)\/A=.tup (us.map .int)
theorem Zt{A B:PV}{us vs:AR}(S:aH)(hA:Sq A us)(hB:Sq B vs)(hx:∀x∈us,Bd 100000 x)(hy:∀y∈vs,Bd 100000 y):yD [.pv A,.pv B] S=.ok (.pv (.int (dt us vs))) S:=by
 have ec:=Fc S us vs none none hx hy;have es:=Nm (cr (·*·) us vs);unfold dt;generalize (cr (·*·) us vs).map PV.int=ZL at ec es;generalize (cr (·*·) us vs).sum=Z at es;unfold yD aR Fg;rcases hA with rfl |rfl<;>rcases hB with rfl |rfl<;>
  (generalize us.map PV.int=UL at ec⊢;generalize vs.map PV.int=VL at ec⊢;simp! [bC,aO,aN,aL,aM,aF,aK,bF,iS,mG,cC,cJ,ec,es])
theorem Ee{A B:PV}{us vs:AR}(S:aH)(hA:Sq A us)(hB:Sq B vs)(hx:∀x∈us,Bd 100000 x)(hy:∀y∈vs,Bd 100000 y):uI [.pv A,.pv B] S=.ok (.pv (.int (dt us vs))) S:=by
 have ec:=Fc S us vs none none hx hy;have es:=Nm (cr (·*·) us vs);unfold dt;generalize (cr (·*·) us vs).map PV.int=ZL at ec es;generalize (cr (·*·) us vs).sum=Z at es;unfold uI aR Jf;rcases hA with rfl |rfl<;>rcases hB with rfl |rfl<;>
  (generalize us.map PV.int=UL at ec⊢;generalize vs.map PV.int=VL at ec⊢;simp! [bC,aO,aN,aL,aM,aF,aK,bF,iS,mG,cC,cJ,ec,es])
theorem gC{k l:Nat}{a b:Int}(h:Bd k a)(g:Bd l b)(hk:k<=1000000:=by decide)(hl:l<=1000000:=by decide):bG (.int a) (.int b)=some (.int (a*b)):=nW (.inr ⟨h.mono hk,g.mono hl⟩)
theorem Fq(a b:Int)(S:aH):pB [.pv (.lst [.lst [.int a,.int b]])] S=.ok (.pv (.lst [.int (-b),.int a])) S:=by
 unfold pB aR wM;simp! [aE,aZ,aY,aP,aO,aN,aL,aM,aF,aK]
theorem Gq{a b c d e f:Int}(S:aH)(ha:Bd 10000 a)(hb:Bd 10000 b)(hc:Bd 10000 c)(hd:Bd 10000 d)(he:Bd 10000 e)(hf:Bd 10000 f):pB [.pv (.lst [.lst [.int a,.int b,.int c],.lst [.int d,.int e,.int f]])] S=.ok (.pv (.lst [.int (b*f-c*e),.int (c*d-a*f),.int (a*e-b*d)])) S:=by
 have m1:=gC hb hf;have m2:=gC hc he;have m3:=gC hc hd;have m4:=gC ha hf;have m5:=gC ha he;have m6:=gC hb hd;unfold pB aR wM;simp! [aE,aZ,aY,aP,aO,aN,aL,aM,aF,aK,m1,m2,m3,m4,m5,m6]
theorem Rc{A B:PV}{a b c d e f:Int}(S:aH)(hA:A=.lst [.int a,.int b,.int c])(hB:B=.lst [.int d,.int e,.int f])(ha:Bd 10000 a)(hb:Bd 10000 b)(hc:Bd 10000 c)(hd:Bd 10000 d)(he:Bd 10000 e)(hf:Bd 10000 f):mY [.pv A,.pv B] S=.ok (.pv (.lst [.int (b*f-c*e),.int (c*d-a*f),.int (a*e-b*d)])) S:=by
 have m1:=gC hb hf;have m2:=gC hc he;have m3:=gC hc hd;have m4:=gC ha hf;have m5:=gC ha he;have m6:=gC hb hd;unfold mY aR wT;subst hA hB;simp! [aE,aZ,aY,aP,aO,aN,aL,aM,aF,aK,m1,m2,m3,m4,m5,m6]
structure P2(x y w:Int):Prop where
 bx:Bd 1000 x
 by_:Bd 1000 y
 bw:Bd 1000 w
 pos:0<w
structure P3(x y z w:Int):Prop where
 bx:Bd 1000 x
 by_:Bd 1000 y
 bz:Bd 1000 z
 bw:Bd 1000 w
 pos:0<w
abbrev v2(x y w:Int):PV:=.tup [.int x,.int y,.int w]
abbrev v3(x y z w:Int):PV:=.tup [.int x,.int y,.int z,.int w]
def Sv(A:PV)(L:AZ):Prop:=A=.lst L\/A=.tup L
theorem Hw(p:PV)(L:AZ):iT (p::L) (some 1) none=L:=by
 unfold iT;have e1:HT.sIx (p::L).length 0 (some 1)=1:=by
  rw[show(some (1:Int))=some ((1:Nat):Int) from rfl,HT.sIx_nat,cv];omega
 rw[e1];show((p::L).drop 1).take ((p::L).length-1)=L;simp
theorem rO(p:PV)(L:AZ):iP (.lst (p::L)) (some 1) none=some (.lst L):=by
 unfold iP;dsimp only;rw[Hw]
theorem rM(p:PV)(L:AZ):iP (.tup (p::L)) (some 1) none=some (.tup L):=by
 unfold iP;dsimp only;have e1:HT.sIx (p::L).length 0 (some 1)=1:=by
  rw[show(some (1:Int))=some ((1:Nat):Int) from rfl,HT.sIx_nat,cv];omega
 rw[if_neg (by rw[e1];simp),Hw]
theorem Lu(L:AZ)(p:PV):iP (.lst (L++[p])) none (some (-1))=some (.lst L):=by
 unfold iP;dsimp only;unfold iT;have e1:HT.sIx (L++[p]).length (L++[p]).length (some (-1))=L.length:=by
  rw[av];exact Ac L.length _
 rw[e1];show some (PV.lst (((L++[p]).drop 0).take (L.length-0)))=_;simp
theorem xT{x0 y0 w0 x1 y1 w1:Int}(S:aH)(p:P2 x0 y0 w0)(q:P2 x1 y1 w1):lU [.pv (v2 x0 y0 w0),.pv (v2 x1 y1 w1)] S=.ok (.pv (.lst [.int (x1*w0-x0*w1),.int (y1*w0-y0*w1)])) S:=by
 have e:=Fo (xs:=[x0,y0]) (ys:=[x1,y1]) (w:=w0) (v:=w1) S rfl (by simp;exact⟨p.bx.mono (by decide),p.by_.mono (by decide)⟩) (by simp;exact⟨q.bx.mono (by decide),q.by_.mono (by decide)⟩) (p.bw.mono (by decide)) (q.bw.mono (by decide));exact e
theorem rG{x0 y0 z0 w0 x1 y1 z1 w1:Int}(S:aH)(p:P3 x0 y0 z0 w0)(q:P3 x1 y1 z1 w1):lU [.pv (v3 x0 y0 z0 w0),.pv (v3 x1 y1 z1 w1)] S=.ok (.pv (.lst [.int (x1*w0-x0*w1),.int (y1*w0-y0*w1),.int (z1*w0-z0*w1)])) S:=by
 have e:=Fo (xs:=[x0,y0,z0]) (ys:=[x1,y1,z1]) (w:=w0) (v:=w1) S rfl (by simp;exact⟨p.bx.mono (by decide),p.by_.mono (by decide),p.bz.mono (by decide)⟩) (by simp;exact⟨q.bx.mono (by decide),q.by_.mono (by decide),q.bz.mono (by decide)⟩) (p.bw.mono (by decide)) (q.bw.mono (by decide));exact e
theorem sb{x0 w0 x1 w1:Int}(a:Bd 1000 x0)(b:Bd 1000 w0)(c:Bd 1000 x1)(d:Bd 1000 w1):Bd 2001 (x1*w0-x0*w1):=((c.mul b).mono (show 1000+1000<=2000 by decide)).sub ((a.mul d).mono (show 1000+1000<=2000 by decide))
theorem cb{a b c d:Int}(h1:Bd 2001 a)(h2:Bd 2001 b)(h3:Bd 2001 c)(h4:Bd 2001 d):Bd 4003 (a*b-c*d):=((h1.mul h2).mono (show 2001+2001<=4002 by decide)).sub ((h3.mul h4).mono (show 2001+2001<=4002 by decide))
def D2(x0 y0 w0 x1 y1 w1 x2 y2 w2:Int):Int:=w0*(x1*y2-y1*x2)-w1*(x0*y2-y0*x2)+w2*(x0*y1-y0*x1)
def D3(x0 y0 z0 w0 x1 y1 z1 w1 x2 y2 z2 w2 x3 y3 z3 w3:Int):Int:=
 w0*((y1*z2-z1*y2)*x3+(z1*x2-x1*z2)*y3+(x1*y2-y1*x2)*z3)-w1*((y0*z2-z0*y2)*x3+(z0*x2-x0*z2)*y3+(x0*y2-y0*x2)*z3)
 +w2*((y0*z1-z0*y1)*x3+(z0*x1-x0*z1)*y3+(x0*y1-y0*x1)*z3)-w3*((y0*z1-z0*y1)*x2+(z0*x1-x0*z1)*y2+(x0*y1-y0*x1)*z2)
theorem adJ(x0 y0 w0 x1 y1 w1 x2 y2 w2:Int):dt [-(y1*w0-y0*w1),x1*w0-x0*w1] [x2*w0-x0*w2,y2*w0-y0*w2]=w0*D2 x0 y0 w0 x1 y1 w1 x2 y2 w2:=by
 simp only[dt,D2,yw,yx,ug,yy];grind
theorem Tv(x0 y0 z0 w0 x1 y1 z1 w1 x2 y2 z2 w2 x3 y3 z3 w3:Int):dt [(y1*w0-y0*w1)*(z2*w0-z0*w2)-(z1*w0-z0*w1)*(y2*w0-y0*w2),(z1*w0-z0*w1)*(x2*w0-x0*w2)-(x1*w0-x0*w1)*(z2*w0-z0*w2),(x1*w0-x0*w1)*(y2*w0-y0*w2)-(y1*w0-y0*w1)*(x2*w0-x0*w2)] [x3*w0-x0*w3,y3*w0-y0*w3,z3*w0-z0*w3]=w0*w0*D3 x0 y0 z0 w0 x1 y1 z1 w1 x2 y2 z2 w2 x3 y3 z3 w3:=by
 simp only[dt,D3,yw,yx,ug,yy];grind
theorem jL{w d:Int}(h:0<w):sg (w*d)=sg d:=by
 unfold sg
 by_cases h1:0<d
 .rw[if_pos (bf h h1),if_pos h1]
 .by_cases h2:d<0
  .have:w*d<0:=Int.mul_neg_of_pos_of_neg h h2
   rw[if_neg (by omega),if_pos this,if_neg h1,if_pos h2]
  .have:d=0:=by omega
   subst this;rw[ng]
theorem aaX{A:PV}{x0 y0 w0 x1 y1 w1 x2 y2 w2:Int}(S:aH)(hA:Sv A [v2 x0 y0 w0,v2 x1 y1 w1,v2 x2 y2 w2])(p:P2 x0 y0 w0)(q:P2 x1 y1 w1)(r:P2 x2 y2 w2):qJ [.pv A] S=.ok (.pv (.int (w0*D2 x0 y0 w0 x1 y1 w1 x2 y2 w2))) S:=by
 have a1:=xT S p q;have a2:=xT S p r;have bu:=sb p.bx p.bw q.bx q.bw;have bv:=sb p.by_ p.bw q.by_ q.bw;have bu2:=sb p.bx p.bw r.bx r.bw;have bv2:=sb p.by_ p.bw r.by_ r.bw;have id:=adJ x0 y0 w0 x1 y1 w1 x2 y2 w2;generalize y2*w0-y0*w2=V1,x2*w0-x0*w2=V0,y1*w0-y0*w1=U1,x1*w0-x0*w1=U0,w0*D2 x0 y0 w0 x1 y1 w1 x2 y2 w2=D at *;have en:=Fq U0 U1 S;have ed:=Zt (A:=.lst [.int (-U1),.int U0]) (B:=.lst [.int V0,.int V1]) (us:=[-U1,U0]) (vs:=[V0,V1]) S (.inl rfl) (.inl rfl) (by simp;exact⟨bv.neg.mono (by decide),bu.mono (by decide)⟩) (by simp;exact⟨bu2.mono (by decide),bv2.mono (by decide)⟩);rw[id]at ed;have pre:=Lu [.lst [.int U0,.int U1]] (.lst [.int V0,.int V1]);simp only[nj,jq]at pre;generalize v2 x2 y2 w2=R,v2 x1 y1 w1=Q,v2 x0 y0 w0=P at *;unfold qJ aR vP;rcases hA with rfl |rfl
 .have s1:=rO P [Q,R]
  simp! [aE,aZ,aY,aP,aO,aN,aL,aM,aF,aK,bF,bA,cC,dB,dD,dA,fO,s1,cJ,eA,dX,gN,a1,a2,pre,en,ed]
 .have s1:=rM P [Q,R]
  simp! [aE,aZ,aY,aP,aO,aN,aL,aM,aF,aK,bF,bA,cC,dB,dD,dA,fO,s1,cJ,eA,dX,gN,a1,a2,pre,en,ed]
theorem abp{A:PV}{x0 y0 z0 w0 x1 y1 z1 w1 x2 y2 z2 w2 x3 y3 z3 w3:Int}(S:aH)(hA:Sv A [v3 x0 y0 z0 w0,v3 x1 y1 z1 w1,v3 x2 y2 z2 w2,v3 x3 y3 z3 w3])(p:P3 x0 y0 z0 w0)(q:P3 x1 y1 z1 w1)(r:P3 x2 y2 z2 w2)(s:P3 x3 y3 z3 w3):qJ [.pv A] S=.ok (.pv (.int (w0*w0*D3 x0 y0 z0 w0 x1 y1 z1 w1 x2 y2 z2 w2 x3 y3 z3 w3))) S:=by
 have a1:=rG S p q;have a2:=rG S p r;have a3:=rG S p s;have b1:=sb p.bx p.bw q.bx q.bw;have b2:=sb p.by_ p.bw q.by_ q.bw;have b3:=sb p.bz p.bw q.bz q.bw;have b4:=sb p.bx p.bw r.bx r.bw;have b5:=sb p.by_ p.bw r.by_ r.bw;have b6:=sb p.bz p.bw r.bz r.bw;have b7:=sb p.bx p.bw s.bx s.bw;have b8:=sb p.by_ p.bw s.by_ s.bw;have b9:=sb p.bz p.bw s.bz s.bw;have id:=Tv x0 y0 z0 w0 x1 y1 z1 w1 x2 y2 z2 w2 x3 y3 z3 w3;generalize z3*w0-z0*w3=T2,y3*w0-y0*w3=T1,x3*w0-x0*w3=T0,z2*w0-z0*w2=V2,y2*w0-y0*w2=V1,x2*w0-x0*w2=V0,z1*w0-z0*w1=U2,y1*w0-y0*w1=U1,x1*w0-x0*w1=U0,w0*w0*D3 x0 y0 z0 w0 x1 y1 z1 w1 x2 y2 z2 w2 x3 y3 z3 w3=D at *;have h:∀{a:Int},Bd 2001 a->Bd 10000 a:=λh=>h.mono (by decide);have h4:∀{a:Int},Bd 4003 a->Bd 100000 a:=λh=>h.mono (by decide);have h2:∀{a:Int},Bd 2001 a->Bd 100000 a:=λh=>h.mono (by decide);have en:=Gq S (h b1) (h b2) (h b3) (h b4) (h b5) (h b6);have c1:=cb b2 b6 b3 b5;have c2:=cb b3 b4 b1 b6;have c3:=cb b1 b5 b2 b4;have ed:=Zt (A:=.lst [.int (U1*V2-U2*V1),.int (U2*V0-U0*V2),.int (U0*V1-U1*V0)]) (B:=.lst [.int T0,.int T1,.int T2]) (us:=[U1*V2-U2*V1,U2*V0-U0*V2,U0*V1-U1*V0]) (vs:=[T0,T1,T2]) S (.inl rfl) (.inl rfl) (by simp;exact⟨h4 c1,h4 c2,h4 c3⟩) (by simp;exact⟨h2 b7,h2 b8,h2 b9⟩);rw[id]at ed;generalize U0*V1-U1*V0=N2,U2*V0-U0*V2=N1,U1*V2-U2*V1=N0 at *;have pre:=Lu [.lst [.int U0,.int U1,.int U2],.lst [.int V0,.int V1,.int V2]] (.lst [.int T0,.int T1,.int T2]);simp only[nj,jq]at pre;generalize v3 x3 y3 z3 w3=T,v3 x2 y2 z2 w2=R,v3 x1 y1 z1 w1=Q,v3 x0 y0 z0 w0=P at *;unfold qJ aR vP;rcases hA with rfl |rfl
 .have s1:=rO P [Q,R,T]
  simp! [aE,aZ,aY,aP,aO,aN,aL,aM,aF,aK,bF,bA,cC,dB,dD,dA,fO,s1,cJ,eA,dX,gN,a1,a2,a3,pre,en,ed]
 .have s1:=rM P [Q,R,T]
  simp! [aE,aZ,aY,aP,aO,aN,aL,aM,aF,aK,bF,bA,cC,dB,dD,dA,fO,s1,cJ,eA,dX,gN,a1,a2,a3,pre,en,ed]
theorem S8{A:PV}{x0 y0 w0 x1 y1 w1 x2 y2 w2:Int}(S:aH)(hA:Sv A [v2 x0 y0 w0,v2 x1 y1 w1,v2 x2 y2 w2])(p:P2 x0 y0 w0)(q:P2 x1 y1 w1)(r:P2 x2 y2 w2):pK [.pv A] S=.ok (.pv (.int (sg (D2 x0 y0 w0 x1 y1 w1 x2 y2 w2)))) S:=by
 have e1:=aaX S hA p q r;have e2:=Ke (w0*D2 x0 y0 w0 x1 y1 w1 x2 y2 w2) S;rw[jL p.pos]at e2;unfold pK aR xW;simp! [aE,aZ,aY,aP,aO,aN,aL,aM,aF,aK,e1,e2]
theorem X5{A:PV}{x0 y0 z0 w0 x1 y1 z1 w1 x2 y2 z2 w2 x3 y3 z3 w3:Int}(S:aH)(hA:Sv A [v3 x0 y0 z0 w0,v3 x1 y1 z1 w1,v3 x2 y2 z2 w2,v3 x3 y3 z3 w3])(p:P3 x0 y0 z0 w0)(q:P3 x1 y1 z1 w1)(r:P3 x2 y2 z2 w2)(s:P3 x3 y3 z3 w3):pK [.pv A] S=.ok (.pv (.int (sg (D3 x0 y0 z0 w0 x1 y1 z1 w1 x2 y2 z2 w2 x3 y3 z3 w3)))) S:=by
 have e1:=abp S hA p q r s;have e2:=Ke (w0*w0*D3 x0 y0 z0 w0 x1 y1 z1 w1 x2 y2 z2 w2 x3 y3 z3 w3) S;rw[jL (bf p.pos p.pos)]at e2;unfold pK aR xW;simp! [aE,aZ,aY,aP,aO,aN,aL,aM,aF,aK,e1,e2]
def Gp(n k:Nat)(v:PV):Prop:=∃xs w,v=.tup ((xs++[w]).map .int)/\Pq n k xs w
theorem Gp.two{v:PV}(h:Gp 2 1000 v):∃x y w,v=v2 x y w/\P2 x y w:=by
 obtain⟨xs,w,rfl,P⟩:=h
 match xs,P.len with
 |[x,y],_=>exact⟨x,y,w,rfl,P.bx x (by simp),P.bx y (by simp),P.bw,P.pos⟩
theorem Gp.three{v:PV}(h:Gp 3 1000 v):∃x y z w,v=v3 x y z w/\P3 x y z w:=by
 obtain⟨xs,w,rfl,P⟩:=h
 match xs,P.len with
 |[x,y,z],_=>exact⟨x,y,z,w,rfl,P.bx x (by simp),P.bx y (by simp),P.bx z (by simp),P.bw,P.pos⟩
theorem So(S:aH)(PL QL:AZ)(xs ys:AR)(w v:Int)(hp:aE (.tup PL) (.int (-1))=some (.int w))(hq:aE (.tup QL) (.int (-1))=some (.int v))(hpj:∀j:Nat,j<xs.length->aE (.tup PL) (.int (j:Nat))=some (.int (xs.getD j 0)))(hqj:∀j:Nat,j<xs.length->aE (.tup QL) (.int (j:Nat))=some (.int (ys.getD j 0)))
  (bw:Bd 1000 w)(bv:Bd 1000 v)(hx:∀j,Bd 1000 (xs.getD j 0))(hy:∀j,Bd 1000 (ys.getD j 0)):∀(js:List Nat)(x:BB),(∀j∈js,j<xs.length)->
  cG [] (gN 0) (aC dN (aC bG (aC aE (aA 1) (aA 0)) (aC aE (aA 2) (bR bU (mC (.int 1))))) (aC bG (aC aE (aA 2) (aA 0)) (aC aE (aA 1) (bR bU (mC (.int 1)))))) (js.map λj=>.int (0+(j:Nat))) [x,some (.pv (.tup QL)),some (.pv (.tup PL))] S=.ok ((js.map λj=>ys.getD j 0*w-xs.getD j 0*v).map .int) S
 |[],x,_=>dX
 |j::js,x,h=>by
  have ih:=So S PL QL xs ys w v hp hq hpj hqj bw bv hx hy js (some (.pv (.int (0+(j:Nat))))) λi hi=>h i (bn _ hi);have e1:=hpj j (h j bi);have e2:=hqj j (h j bi);have m1:=mB ((hx j).mono (show 1000<=2000 by decide)) (bv.mono (show 1000<=2000 by decide));have m2:=mB ((hy j).mono (show 1000<=2000 by decide)) (bw.mono (show 1000<=2000 by decide));show cG [] _ _ (.int (0+(j:Nat))::js.map λj=>.int (0+(j:Nat))) _ S=_;rw[eA];simp only[vd]at ih⊢;generalize hX:xs.getD j 0=X at e1 m1;generalize hY:ys.getD j 0=Y at e2 m2;simp! [gN,bC,aO,aN,aL,aM,aF,aK,e1,e2,hp,hq,m1,m2,ih];simp only[AA]at hX hY;rw[hX,hY]
theorem Fu{xs ys:AR}{w v:Int}(S:aH)(hl:xs.length=ys.length)(h9:xs.length<=9)(hx:∀x∈xs,Bd 1000 x)(hy:∀y∈ys,Bd 1000 y)(bw:Bd 1000 w)(bv:Bd 1000 v):
  nE [.pv (.tup ((xs++[w]).map .int)),.pv (.tup ((ys++[v]).map .int))] S=.ok (.pv (.lst ((wa xs w ys v).map .int))) S:=by
 have ip:=mV xs w;have iq:=mV ys v;have ec:=So S _ _ xs ys w v ip iq (λj h=>xO xs w j h) (λj h=>xO ys v j (by omega)) bw bv (xA hx) (xA hy) (cu xs.length) none λj hj=>by simpa using hj
 have er:(cu xs.length).map (λj=>ys.getD j 0*w-xs.getD j 0*v)=wa xs w ys v:=Rl hl λx y=>y*w-x*v;rw[er]at ec;have hlen:((xs++[w]).map PV.int).length=xs.length+1:=by simp
 have hr:gG [.pv (.int (((xs.length+1:Nat):Int)-1))] S=.ok ((cu xs.length).map λj=>.int (0+(j:Nat)),[]) S:=by
  unfold gG;dsimp only;rw[if_pos ⟨by omega,by omega⟩];have:(((xs.length+1:Nat):Int)-1).toNat=xs.length:=by omega
  rw[this];rfl
 generalize (wa xs w ys v).map PV.int=ZL at ec;generalize (cu xs.length).map (λj=>PV.int (0+(j:Nat)))=RL at ec hr;generalize hP:(xs++[w]).map PV.int=PL at ip ec hlen;generalize (ys++[v]).map PV.int=QL at iq ec;unfold nE aR Uf;have hr2:=hr;rw[<-hlen]at hr2;simp! [bC,aO,aN,aL,aM,aF,aK,bF,cM,hr2,cJ,ec]
theorem Qw{x0 y0 w0 x1 y1 w1:Int}(S:aH)(p:P2 x0 y0 w0)(q:P2 x1 y1 w1):nE [.pv (v2 x0 y0 w0),.pv (v2 x1 y1 w1)] S=.ok (.pv (.lst [.int (x1*w0-x0*w1),.int (y1*w0-y0*w1)])) S:=by
 have e:=Fu (xs:=[x0,y0]) (ys:=[x1,y1]) (w:=w0) (v:=w1) S rfl (by simp) (by simp;exact⟨p.bx,p.by_⟩) (by simp;exact⟨q.bx,q.by_⟩) p.bw q.bw;exact e
theorem sD{x0 y0 z0 w0 x1 y1 z1 w1:Int}(S:aH)(p:P3 x0 y0 z0 w0)(q:P3 x1 y1 z1 w1):nE [.pv (v3 x0 y0 z0 w0),.pv (v3 x1 y1 z1 w1)] S=.ok (.pv (.lst [.int (x1*w0-x0*w1),.int (y1*w0-y0*w1),.int (z1*w0-z0*w1)])) S:=by
 have e:=Fu (xs:=[x0,y0,z0]) (ys:=[x1,y1,z1]) (w:=w0) (v:=w1) S rfl (by simp) (by simp;exact⟨p.bx,p.by_,p.bz⟩) (by simp;exact⟨q.bx,q.by_,q.bz⟩) p.bw q.bw;exact e
theorem R5{A:PV}{x0 y0 w0 x1 y1 w1 x2 y2 w2:Int}(S:aH)(hA:Sv A [v2 x0 y0 w0,v2 x1 y1 w1,v2 x2 y2 w2])(p:P2 x0 y0 w0)(q:P2 x1 y1 w1)(r:P2 x2 y2 w2):pO [.pv A] S=.ok (.pv (.int (w0*D2 x0 y0 w0 x1 y1 w1 x2 y2 w2))) S:=by
 have a1:=Qw S p q;have a2:=Qw S p r;have bu:=sb p.bx p.bw q.bx q.bw;have bv:=sb p.by_ p.bw q.by_ q.bw;have bu2:=sb p.bx p.bw r.bx r.bw;have bv2:=sb p.by_ p.bw r.by_ r.bw;have id:(x1*w0-x0*w1)*(y2*w0-y0*w2)-(y1*w0-y0*w1)*(x2*w0-x0*w2)=w0*D2 x0 y0 w0 x1 y1 w1 x2 y2 w2:=by
  unfold D2;grind
 generalize y2*w0-y0*w2=V1,x2*w0-x0*w2=V0,y1*w0-y0*w1=U1,x1*w0-x0*w1=U0,w0*D2 x0 y0 w0 x1 y1 w1 x2 y2 w2=D at *;have m1:=gC bu bv2;have m2:=gC bv bu2;generalize v2 x2 y2 w2=R,v2 x1 y1 w1=Q,v2 x0 y0 w0=P at *;have et:kX [.pv (.lst [.lst [.int U0,.int U1],.lst [.int V0,.int V1]])] S=.ok (.pv (.int D)) S:=by
  unfold kX aR rC;simp! [aE,aZ,aY,aP,aO,aN,aL,aM,aF,aK,m1,m2,id]
 unfold pO aR xV;rcases hA with rfl |rfl
 .have s1:=rO P [Q,R]
  simp! [aE,aZ,aY,aP,aO,aN,aL,aM,aF,aK,bF,bA,cC,dB,dD,dA,fO,s1,cJ,eA,dX,gN,a1,a2,et]
 .have s1:=rM P [Q,R]
  simp! [aE,aZ,aY,aP,aO,aN,aL,aM,aF,aK,bF,bA,cC,dB,dD,dA,fO,s1,cJ,eA,dX,gN,a1,a2,et]
theorem Q4{A:PV}{x0 y0 z0 w0 x1 y1 z1 w1 x2 y2 z2 w2 x3 y3 z3 w3:Int}(S:aH)(hA:Sv A [v3 x0 y0 z0 w0,v3 x1 y1 z1 w1,v3 x2 y2 z2 w2,v3 x3 y3 z3 w3])(p:P3 x0 y0 z0 w0)(q:P3 x1 y1 z1 w1)(r:P3 x2 y2 z2 w2)(s:P3 x3 y3 z3 w3):pO [.pv A] S=.ok (.pv (.int (w0*w0*D3 x0 y0 z0 w0 x1 y1 z1 w1 x2 y2 z2 w2 x3 y3 z3 w3))) S:=by
 have a1:=sD S p q;have a2:=sD S p r;have a3:=sD S p s;have b1:=sb p.bx p.bw q.bx q.bw;have b2:=sb p.by_ p.bw q.by_ q.bw;have b3:=sb p.bz p.bw q.bz q.bw;have b4:=sb p.bx p.bw r.bx r.bw;have b5:=sb p.by_ p.bw r.by_ r.bw;have b6:=sb p.bz p.bw r.bz r.bw;have b7:=sb p.bx p.bw s.bx s.bw;have b8:=sb p.by_ p.bw s.by_ s.bw;have b9:=sb p.bz p.bw s.bz s.bw;have id:=Tv x0 y0 z0 w0 x1 y1 z1 w1 x2 y2 z2 w2 x3 y3 z3 w3;generalize z3*w0-z0*w3=T2,y3*w0-y0*w3=T1,x3*w0-x0*w3=T0,z2*w0-z0*w2=V2,y2*w0-y0*w2=V1,x2*w0-x0*w2=V0,z1*w0-z0*w1=U2,y1*w0-y0*w1=U1,x1*w0-x0*w1=U0,w0*w0*D3 x0 y0 z0 w0 x1 y1 z1 w1 x2 y2 z2 w2 x3 y3 z3 w3=D at *;have h:∀{a:Int},Bd 2001 a->Bd 10000 a:=λh=>h.mono (by decide);have h4:∀{a:Int},Bd 4003 a->Bd 100000 a:=λh=>h.mono (by decide);have h2:∀{a:Int},Bd 2001 a->Bd 100000 a:=λh=>h.mono (by decide);have en:=Rc (A:=.lst [.int U0,.int U1,.int U2]) (B:=.lst [.int V0,.int V1,.int V2]) S rfl rfl (h b1) (h b2) (h b3) (h b4) (h b5) (h b6);have c1:=cb b2 b6 b3 b5;have c2:=cb b3 b4 b1 b6;have c3:=cb b1 b5 b2 b4;have ed:=Ee (A:=.lst [.int (U1*V2-U2*V1),.int (U2*V0-U0*V2),.int (U0*V1-U1*V0)]) (B:=.lst [.int T0,.int T1,.int T2]) (us:=[U1*V2-U2*V1,U2*V0-U0*V2,U0*V1-U1*V0]) (vs:=[T0,T1,T2]) S (.inl rfl) (.inl rfl) (by simp;exact⟨h4 c1,h4 c2,h4 c3⟩) (by simp;exact⟨h2 b7,h2 b8,h2 b9⟩);rw[id]at ed;generalize v3 x3 y3 z3 w3=T,v3 x2 y2 z2 w2=R,v3 x1 y1 z1 w1=Q,v3 x0 y0 z0 w0=P,U0*V1-U1*V0=N2,U2*V0-U0*V2=N1,U1*V2-U2*V1=N0 at *;have et:kX [.pv (.lst [.lst [.int U0,.int U1,.int U2],.lst [.int V0,.int V1,.int V2],.lst [.int T0,.int T1,.int T2]])] S=.ok (.pv (.int D)) S:=by
  unfold kX aR rC;simp! [aE,aZ,aY,aP,aO,aN,aL,aM,aF,aK,en,ed]
 unfold pO aR xV;rcases hA with rfl |rfl
 .have s1:=rO P [Q,R,T]
  simp! [aE,aZ,aY,aP,aO,aN,aL,aM,aF,aK,bF,bA,cC,dB,dD,dA,fO,s1,cJ,eA,dX,gN,a1,a2,a3,et]
 .have s1:=rM P [Q,R,T]
  simp! [aE,aZ,aY,aP,aO,aN,aL,aM,aF,aK,bF,bA,cC,dB,dD,dA,fO,s1,cJ,eA,dX,gN,a1,a2,a3,et]
theorem Jw{S:aH}{k:Nat}{ns:AR}(n:Nat)(hn:n=2\/n=3)(h:dW S k ns):∃(v:PV)(ns':AR),kI [.ref k,.pv (.int n)] S=.ok (.pv v) (S.set k (.lst (ns'.map .int)))/\Gp n 100 v:=by
 obtain⟨xs,w,n1,e1,P,b1,b2⟩:=ac8 n hn h;exact⟨_,n1,e1,xs,w,rfl,P.pq b1 b2⟩
theorem Wr(ns:AR):∃g:Int,0<g/\ns=(low ns).map (g*·):=by
 by_cases h:gl ns 0=0
 .refine⟨1,by decide,?_⟩
  unfold low;rw[if_pos h];simp
 .have:=yG ns 0 (qm 0)
  exact⟨gl ns 0,by omega,(Fr h).symm⟩
theorem M6(ns:AR):low (ns.map (- ·))=(low ns).map (- ·):=by
 have e:gl (ns.map (- ·)) 0=gl ns 0:=by
  rw[<-Sr ns];exact congrArg (λl=>gl l 0) (ee λx _=>by omega)
 unfold low;rw[e];split
 .rfl
 .rw[cw,cw]
  refine ee λx hx=>?_;exact Int.neg_ediv_of_dvd ((jX ns 0).2 x hx)
theorem Uc{S:aH}{k:Nat}{ns:AR}{L:AZ}(h:dW S k ns):∃(A:PV)(ns':AR),jV [.ref k,.pv (.lst L)] S=.ok (.pv A) (S.set k (.lst (ns'.map .int)))/\Sv A L:=by
 obtain⟨t,n1,e1,t0,t1,_⟩:=fX (m:=2) h (by decide) (gO (by decide) (by decide));have tk:=Po S k (.lst (n1.map .int));generalize hS:S.set k (.lst (n1.map .int))=S1 at e1 tk
 by_cases ht:t=1
 .subst ht
  refine⟨.tup L,n1,?_,.inr rfl⟩;rw[hS];unfold jV aR wH;simp! [aE,aZ,aY,aP,aO,aN,aL,aM,aF,aK,e1,tk]
 .refine⟨.lst L,n1,?_,.inl rfl⟩
  rw[hS];unfold jV aR wH;simp! [aE,aZ,aY,aP,aO,aN,aL,aM,aF,aK,e1,tk,ht]
def B2(x0 y0 w0 x1 y1 w1:Int):AR:=[-(y1*w0-y0*w1),x1*w0-x0*w1,x0*y1-y0*x1]
def N3(x0 y0 z0 w0 x1 y1 z1 w1 x2 y2 z2 w2:Int):AR:=[(y1*w0-y0*w1)*(z2*w0-z0*w2)-(z1*w0-z0*w1)*(y2*w0-y0*w2),(z1*w0-z0*w1)*(x2*w0-x0*w2)-(x1*w0-x0*w1)*(z2*w0-z0*w2),(x1*w0-x0*w1)*(y2*w0-y0*w2)-(y1*w0-y0*w1)*(x2*w0-x0*w2)]
def B3(w0 x0 y0 z0 a b c:Int):AR:=[w0*a,w0*b,w0*c,-(a*x0+b*y0+c*z0)]
theorem aar{G:Gd}{g:GM}{me:ME}{x:PV}{r:AZ}{ρ:bZ}{S:aH}(h:iQ G S):cG G g me (x::r) ρ S=(match g x ρ with
  |none=>.fail
  |some ρ1=>match me ρ1 S with
   |.ok (.pv y) S1=>match cG G g me r ρ1 S1 with
    |.ok ys S2=>.ok (y::ys) S2
    |_=>.fail
   |_=>.fail):=by
 rw[cG,if_pos h]
 all_goals rfl
theorem R0{G:Gd}{g:GM}{me:ME}{ρ:bZ}{S:aH}(h:iQ G S):cG G g me [] ρ S=.ok [] S:=by
 rw[cG,if_pos h]
theorem On(a b c x0 y0 w0 x1 y1 w1 x2 y2 w2:Int):D2 (a*x0) (a*y0) (a*w0) (b*x1) (b*y1) (b*w1) (c*x2) (c*y2) (c*w2)=a*b*c*D2 x0 y0 w0 x1 y1 w1 x2 y2 w2:=by
 unfold D2;grind
theorem Wo(a b c d x0 y0 z0 w0 x1 y1 z1 w1 x2 y2 z2 w2 x3 y3 z3 w3:Int):D3 (a*x0) (a*y0) (a*z0) (a*w0) (b*x1) (b*y1) (b*z1) (b*w1) (c*x2) (c*y2) (c*z2) (c*w2) (d*x3) (d*y3) (d*z3) (d*w3)=a*b*c*d*D3 x0 y0 z0 w0 x1 y1 z1 w1 x2 y2 z2 w2 x3 y3 z3 w3:=by
 unfold D3;grind
structure R2(x y w X Y D:Int):Prop where
 pos:0<w
 dos:0<D
 ex:x*D=X*w
 ey:y*D=Y*w
theorem Pq.p2{k:Nat}{x y w:Int}(P:Pq 2 k [x,y] w)(h:k<=1000):P2 x y w:=⟨(P.bx x (by simp)).mono h,(P.bx y (by simp)).mono h,P.bw.mono h,P.pos⟩
theorem Pq.p3{k:Nat}{x y z w:Int}(P:Pq 3 k [x,y,z] w)(h:k<=1000):P3 x y z w:=⟨(P.bx x (by simp)).mono h,(P.bx y (by simp)).mono h,(P.bx z (by simp)).mono h,P.bw.mono h,P.pos⟩
def jT:AZ->Int
 |[.tup [.int x0,.int y0,.int w0],.tup [.int x1,.int y1,.int w1],.tup [.int x2,.int y2,.int w2]]=>sg (D2 x0 y0 w0 x1 y1 w1 x2 y2 w2)
 |[.tup [.int x0,.int y0,.int z0,.int w0],.tup [.int x1,.int y1,.int z1,.int w1],.tup [.int x2,.int y2,.int z2,.int w2],.tup [.int x3,.int y3,.int z3,.int w3]]=>sg (D3 x0 y0 z0 w0 x1 y1 z1 w1 x2 y2 z2 w2 x3 y3 z3 w3)
 |_=>0
theorem abn{n:Nat}(hn:n=2\/n=3){A:PV}{L:AZ}(S:aH)(hl:L.length=n+1)(hg:∀v∈L,Gp n 1000 v)(hA:Sv A L):pK [.pv A] S=.ok (.pv (.int (jT L))) S:=by
 rcases hn with rfl |rfl
 .match L,hl with
  |[P,Q,R],_=>
   obtain⟨x0,y0,w0,rfl,p⟩:=(hg P (by simp)).two;obtain⟨x1,y1,w1,rfl,q⟩:=(hg Q (by simp)).two;obtain⟨x2,y2,w2,rfl,r⟩:=(hg R (by simp)).two;exact S8 S hA p q r
 .match L,hl with
  |[P,Q,R,T],_=>
   obtain⟨x0,y0,z0,w0,rfl,p⟩:=(hg P (by simp)).three;obtain⟨x1,y1,z1,w1,rfl,q⟩:=(hg Q (by simp)).three;obtain⟨x2,y2,z2,w2,rfl,r⟩:=(hg R (by simp)).three;obtain⟨x3,y3,z3,w3,rfl,s⟩:=(hg T (by simp)).three;exact X5 S hA p q r s
theorem Tt(D:Int):sg (-D)=-sg D:=by
 unfold sg;split<;>split<;>(try split)<;>(try split)<;>omega
abbrev tv(us:AR):PV:=.tup (us.map .int)
def Gu(n k:Nat)(us:AR):Prop:=∃xs w,us=xs++[w]/\Pq n k xs w
theorem Gu.gp{n k:Nat}{us:AR}(h:Gu n k us):Gp n k (tv us):=by
 obtain⟨xs,w,rfl,P⟩:=h;exact⟨xs,w,rfl,P⟩
theorem Gu.ne{n k:Nat}{us:AR}(h:Gu n k us):us≠[]:=by
 obtain⟨xs,w,rfl,P⟩:=h;simp
theorem Dx{n k:Nat}{uss:AS}(h:∀us∈uss,Gu n k us):∀v∈uss.map tv,Gp n k v:=λv hv=>by
 obtain⟨us,hu,rfl⟩:=ia.mp hv;exact(h us hu).gp
theorem Dk:∀uss:AS,oE (uss.map tv)=some uss
 |[]=>rfl
 |us::uss=>by
  have ih:=Dk uss;show(match kH (us.map .int),oE (uss.map tv)with |some is,some uss=>some (is::uss) |_,_=>none)=_
  rw[ih,Xa]
theorem Ml{uss:AS}{n:Nat}(hl:uss.length=n)(hp:(dY uss).Perm (cu n)):Wg (uss.map tv) uss=(eC uss).map tv:=by
 unfold Wg eC;rw[cw];refine ee λi hi=>?_;have h:i<uss.length:=by
  have:=hp.subset hi;rw[hl];simpa using this
 simp[cg,h]
theorem Rk{A:PV}{uss:AS}(hl:uss.length=3\/uss.length=4)(hA:Sv A (uss.map tv))(hne:∀us∈uss,us≠[]):rA [A]=some (.lst ((eC uss).map tv)):=by
 have e:rV (uss.map tv)=some (.lst ((eC uss).map tv)):=by
  unfold rV;rw[Dk];dsimp only;rcases hl with h |h
  .obtain⟨_,hp,_⟩:=Os h
   rw[if_pos (show Rg uss from⟨by omega,by omega,by rw[h];exact Wu,by rw[hp.length_eq];simp,hne⟩),Ml h hp]
  .obtain⟨_,hp,_⟩:=Yp h
   rw[if_pos (show Rg uss from⟨by omega,by omega,by rw[h];exact Cv,by rw[hp.length_eq];simp,hne⟩),Ml h hp]
 rcases hA with rfl |rfl
 .exact e
 .exact e
def qE{α:Type}:List α->List α
 |[a,b,c]=>[a,c,b]
 |[a,b,c,d]=>[a,b,d,c]
 |l=>l
theorem Nq{α β:Type}(f:α->β)(l:List α):(qE l).map f=qE (l.map f):=by
 rcases l with _ |⟨a,_ |⟨b,_ |⟨c,_ |⟨d,_ |⟨e,l⟩⟩⟩⟩⟩<;>rfl
theorem N6{α:Type}(l:List α):(qE l).Perm l:=by
 unfold qE;split
 .exact .cons _ (.swap _ _ _)
 .exact .cons _ (.cons _ (.swap _ _ _))
 .exact .refl _
def dU:AS->Int
 |[[x0,y0,w0],[x1,y1,w1],[x2,y2,w2]]=>D2 x0 y0 w0 x1 y1 w1 x2 y2 w2
 |[[x0,y0,z0,w0],[x1,y1,z1,w1],[x2,y2,z2,w2],[x3,y3,z3,w3]]=>D3 x0 y0 z0 w0 x1 y1 z1 w1 x2 y2 z2 w2 x3 y3 z3 w3
 |_=>0
theorem Gu.two{k:Nat}{us:AR}(h:Gu 2 k us)(hk:k<=1000):∃x y w,us=[x,y,w]/\P2 x y w:=by
 obtain⟨xs,w,rfl,P⟩:=h
 match xs,P.len,P with
 |[x,y],_,P=>exact⟨x,y,w,rfl,P.p2 hk⟩
theorem Gu.three{k:Nat}{us:AR}(h:Gu 3 k us)(hk:k<=1000):∃x y z w,us=[x,y,z,w]/\P3 x y z w:=by
 obtain⟨xs,w,rfl,P⟩:=h
 match xs,P.len,P with
 |[x,y,z],_,P=>exact⟨x,y,z,w,rfl,P.p3 hk⟩
theorem yA{n k:Nat}(hn:n=2\/n=3)(hk:k<=1000){uss:AS}(hl:uss.length=n+1)(hg:∀us∈uss,Gu n k us):jT (uss.map tv)=sg (dU uss):=by
 rcases hn with rfl |rfl
 .match uss,hl with
  |[a,b,c],_=>
   obtain⟨x0,y0,w0,rfl,_⟩:=(hg a (by simp)).two hk;obtain⟨x1,y1,w1,rfl,_⟩:=(hg b (by simp)).two hk;obtain⟨x2,y2,w2,rfl,_⟩:=(hg c (by simp)).two hk;rfl
 .match uss,hl with
  |[a,b,c,d],_=>
   obtain⟨x0,y0,z0,w0,rfl,_⟩:=(hg a (by simp)).three hk;obtain⟨x1,y1,z1,w1,rfl,_⟩:=(hg b (by simp)).three hk;obtain⟨x2,y2,z2,w2,rfl,_⟩:=(hg c (by simp)).three hk;obtain⟨x3,y3,z3,w3,rfl,_⟩:=(hg d (by simp)).three hk;rfl
def Pw(n:Nat)(us:AR):Prop:=∃xs w,us=xs++[w]/\xs.length=n/\0<w
theorem Pw.two{us:AR}(h:Pw 2 us):∃x y w,us=[x,y,w]/\0<w:=by
 obtain⟨xs,w,rfl,l,p⟩:=h
 match xs,l with
 |[x,y],_=>exact⟨x,y,w,rfl,p⟩
theorem Pw.three{us:AR}(h:Pw 3 us):∃x y z w,us=[x,y,z,w]/\0<w:=by
 obtain⟨xs,w,rfl,l,p⟩:=h
 match xs,l with
 |[x,y,z],_=>exact⟨x,y,z,w,rfl,p⟩
theorem Gu.pt{n k:Nat}{us:AR}(h:Gu n k us):Pw n us:=by
 obtain⟨xs,w,e,P⟩:=h;exact⟨xs,w,e,P.len,P.pos⟩
theorem dU2{x0 y0 w0 x1 y1 w1 x2 y2 w2:Int}:dU [[x0,y0,w0],[x1,y1,w1],[x2,y2,w2]]=D2 x0 y0 w0 x1 y1 w1 x2 y2 w2:=rfl
theorem dU3{x0 y0 z0 w0 x1 y1 z1 w1 x2 y2 z2 w2 x3 y3 z3 w3:Int}:dU [[x0,y0,z0,w0],[x1,y1,z1,w1],[x2,y2,z2,w2],[x3,y3,z3,w3]]=D3 x0 y0 z0 w0 x1 y1 z1 w1 x2 y2 z2 w2 x3 y3 z3 w3:=rfl
theorem abe{n:Nat}(hn:n=2\/n=3){pre l:AS}{x y:AR}(hl:(pre++y::x::l).length=n+1)(hp:∀u∈pre++y::x::l,Pw n u):dU (pre++x::y::l)=-dU (pre++y::x::l):=by
 have hx:=hp x (by simp);have hy:=hp y (by simp);rcases hn with rfl |rfl
 .obtain⟨x0,y0,w0,rfl,_⟩:=hx.two
  obtain⟨x1,y1,w1,rfl,_⟩:=hy.two;have fin:∀c∈pre++l,∃x y w,c=[x,y,w]:=λc hc=>by
   obtain⟨x,y,w,e,_⟩:=(hp c (by simp at hc⊢;rcases hc with h |h<;>simp[h])).two;exact⟨x,y,w,e⟩
  match pre,l,hl,fin with
  |[],[c],_,fin |[c],[],_,fin=>
   obtain⟨x2,y2,w2,rfl⟩:=fin c (by simp);simp only[jq,nj,dU2,D2];grind
  |[],[],h,_=>simp at h
  |[],_::_::_,h,_=>simp at h
  |_::_::_,_,h,_=>simp at h;omega
  |[_],_::_,h,_=>simp at h
 .obtain⟨x0,y0,z0,w0,rfl,_⟩:=hx.three
  obtain⟨x1,y1,z1,w1,rfl,_⟩:=hy.three;have fin:∀c∈pre++l,∃x y z w,c=[x,y,z,w]:=λc hc=>by
   obtain⟨x,y,z,w,e,_⟩:=(hp c (by simp at hc⊢;rcases hc with h |h<;>simp[h])).three;exact⟨x,y,z,w,e⟩
  match pre,l,hl,fin with
  |[],[c,d],_,fin |[c],[d],_,fin |[c,d],[],_,fin=>
   obtain⟨x2,y2,z2,w2,rfl⟩:=fin c (by simp);obtain⟨x3,y3,z3,w3,rfl⟩:=fin d (by simp);simp only[jq,nj,dU3,D3];grind
  |[],[],h,_=>simp at h
  |[],[_],h,_=>simp at h
  |[],_::_::_::_,h,_=>simp at h
  |[_],[],h,_=>simp at h
  |[_],_::_::_,h,_=>simp at h
  |[_,_],_::_,h,_=>simp at h
  |_::_::_::_,_,h,_=>simp at h;omega
theorem aae{n:Nat}(hn:n=2\/n=3){A B:AS}(h:A.Perm B):∀pre:AS,(pre++A).length=n+1->(∀u∈pre++A,Pw n u)->dU (pre++B)=dU (pre++A)\/dU (pre++B)=-dU (pre++A):=by
 induction h with
 |nil=>exact λpre _ _=>.inl rfl
 |cons x _ ih=>
  intro pre hl hp;have:=ih (pre++[x]) (by simpa using hl) (by simpa using hp);simpa using this
 |swap x y l=>exact λpre hl hp=>.inr (abe hn hl hp)
 |trans h1 h2 ih1 ih2=>
  intro pre hl hp;have q1:=ih1 pre hl hp;have q2:=ih2 pre (by rw[<-(h1.append_left pre).length_eq];exact hl) λu hu=>hp u ((h1.append_left pre).mem_iff.mpr hu);omega
theorem Jr{n k:Nat}(hn:n=2\/n=3)(hk:k<=1000){uss:AS}(hl:uss.length=n+1)(hg:∀us∈uss,Gu n k us):dU (eC uss)=dU uss\/dU (eC uss)=-dU uss:=
 aae hn (nS (by omega)).1.symm [] hl λu hu=>(hg u hu).pt
theorem lG{n:Nat}(hn:n=2\/n=3){uss:AS}(hl:uss.length=n+1):uss.length=3\/uss.length=4:=by
 rcases hn with rfl |rfl
 .exact .inl hl
 .exact .inr hl
theorem V6{n:Nat}(hn:n=2\/n=3){uss:AS}(hl:uss.length=n+1)(hg:∀us∈uss,Gu n 1000 us):jT ((eC uss).map tv)=jT (uss.map tv)\/jT ((eC uss).map tv)=-jT (uss.map tv):=by
 have hp:=(nS (lG hn hl)).1;rw[yA hn (ak 1000) (by rw[hp.length_eq,hl]) (λus hu=>hg us (hp.subset hu)),yA hn (ak 1000) hl hg];rcases Jr hn (ak 1000) hl hg with e |e
 .exact .inl (by rw[e])
 .exact .inr (by rw[e,Tt])
theorem aaK{n:Nat}(hn:n=2\/n=3){A:PV}{L:AZ}(S:aH)(hl:L.length=n+1)(hg:∀v∈L,Gp n 1000 v)(hA:Sv A L):∃d:Int,pO [.pv A] S=.ok (.pv (.int d)) S/\sg d=jT L:=by
 rcases hn with rfl |rfl
 .match L,hl with
  |[P,Q,R],_=>
   obtain⟨x0,y0,w0,rfl,p⟩:=(hg P (by simp)).two;obtain⟨x1,y1,w1,rfl,q⟩:=(hg Q (by simp)).two;obtain⟨x2,y2,w2,rfl,r⟩:=(hg R (by simp)).two;exact⟨_,R5 S hA p q r,jL p.pos⟩
 .match L,hl with
  |[P,Q,R,T],_=>
   obtain⟨x0,y0,z0,w0,rfl,p⟩:=(hg P (by simp)).three;obtain⟨x1,y1,z1,w1,rfl,q⟩:=(hg Q (by simp)).three;obtain⟨x2,y2,z2,w2,rfl,r⟩:=(hg R (by simp)).three;obtain⟨x3,y3,z3,w3,rfl,s⟩:=(hg T (by simp)).three;exact⟨_,Q4 S hA p q r s,jL (bf p.pos p.pos)⟩
def dR(uss:AS):AS:=if jT ((eC uss).map tv)<0 then qE (eC uss)else eC uss
theorem Av{n:Nat}(hn:n=2\/n=3){L:AZ}(hl:L.length=n+1):∃a b M,iP (.lst L) none (some (-2))=some (.lst M)/\aE (.lst L) (.int (-1))=some a/\aE (.lst L) (.int (-2))=some b/\aF (.lst M) (.lst [a,b])=some (.lst (qE L)):=by
 rcases hn with rfl |rfl
 .match L,hl with
  |[P,Q,R],_=>exact⟨R,Q,[P],rfl,rfl,rfl,rfl⟩
 .match L,hl with
  |[P,Q,R,T],_=>exact⟨T,R,[P,Q],rfl,rfl,rfl,rfl⟩
theorem Hj{n:Nat}(hn:n=2\/n=3){A:PV}{a:AV}{uss:AS}(S:aH)(ha:rd S a=some A)(hl:uss.length=n+1)(hg:∀us∈uss,Gu n 1000 us)(hA:Sv A (uss.map tv)):kT [a] S=.ok (.pv (.tup ((dR uss).map tv))) S:=by
 have h34:uss.length=3\/uss.length=4:=by omega
 have e1:=Rk h34 hA λus hu=>(hg us hu).ne;obtain⟨pm,_⟩:=nS h34;have hl2:((eC uss).map tv).length=n+1:=by rw[aj,pm.length_eq];exact hl
 have hg2:∀v∈(eC uss).map tv,Gp n 1000 v:=Dx λus hu=>hg us (pm.subset hu);obtain⟨d,e2,hd⟩:=aaK (A:=.lst ((eC uss).map tv)) hn S hl2 hg2 (.inl rfl);obtain⟨a1,b1,M,t1,t2,t3,t4⟩:=Av hn hl2;unfold dR;have hlt:d<0↔jT ((eC uss).map tv)<0:=by
  rw[<-hd];unfold sg;split
  .omega
  .split<;>omega
 by_cases h:d<0
 .rw[if_pos (hlt.mp h),Nq]
  generalize (eC uss).map tv=L at *;unfold kT aR vZ;simp! [-rd,rd.eq_1,bC,aO,aN,aL,aM,aK,ha,e1,e2,h,dB,dD,dA,fO,t1,t2,t3,t4]
 .rw[if_neg (λz=>h (hlt.mpr z))]
  generalize (eC uss).map tv=L at *;unfold kT aR vZ;simp! [-rd,rd.eq_1,bC,aO,aN,aL,aM,aK,ha,e1,e2,h]
theorem Nj{n:Nat}(hn:n=2\/n=3){A:PV}{uss:AS}(S:aH)(hl:uss.length=n+1)(hg:∀us∈uss,Gu n 1000 us)(hA:Sv A (uss.map tv)):kT [.pv A] S=.ok (.pv (.tup ((dR uss).map tv))) S:=Hj hn S rfl hl hg hA
theorem Nz{n:Nat}(hn:n=2\/n=3){A:PV}{uss:AS}(S:aH)(hl:uss.length=n+1)(hg:∀us∈uss,Gu n 1000 us)(hA:Sv A (uss.map tv))(h0:jT (uss.map tv)≠0):qS [.pv A] S=.ok (.pv (.tup ((dR uss).map tv))) S:=by
 have h34:uss.length=3\/uss.length=4:=by omega
 have e1:=Rk h34 hA λus hu=>(hg us hu).ne;obtain⟨pm,_⟩:=nS h34;have hl2:((eC uss).map tv).length=n+1:=by rw[aj,pm.length_eq];exact hl
 have hg2:∀v∈(eC uss).map tv,Gp n 1000 v:=Dx λus hu=>hg us (pm.subset hu);have e2:=abn (A:=.lst ((eC uss).map tv)) hn S hl2 hg2 (.inl rfl);have h1:jT ((eC uss).map tv)≠0:=by rcases V6 hn hl hg with e |e<;>omega
 obtain⟨a,b,M,t1,t2,t3,t4⟩:=Av hn hl2;unfold dR
 by_cases h:jT ((eC uss).map tv)<0
 .rw[if_pos h,Nq]
  generalize (eC uss).map tv=L at *;generalize jT L=D at *;unfold qS aR wF;simp! [bC,aO,aN,aL,aM,aK,e1,e2,h,h1,dB,dD,dA,fO,t1,t2,t3,t4]
 .rw[if_neg h]
  generalize (eC uss).map tv=L at *;generalize jT L=D at *;unfold qS aR wF;simp! [bC,aO,aN,aL,aM,aK,e1,e2,h,h1]
theorem Cc{uss:AS}(h:uss.length=3\/uss.length=4):(dR uss).Perm uss:=by
 obtain⟨pm,_⟩:=nS h;unfold dR;split
 .exact(N6 _).trans pm
 .exact pm
theorem aaT{uss:AS}(h:uss.length=3\/uss.length=4):dR (dR uss)=dR uss:=by
 have e:=Pi (Cc h) h;unfold dR at e⊢;rw[e]
theorem Ru{S:aH}{k j:Nat}{xs:AZ}{v:PV}(hS:S[k]?=some (.lst xs))(hv:xs[j]?=some v)(hj:j<1000):pT k [.pv (.int (j:Int))] S=.ok (.pv v) (S.set k (.lst (xs.eraseIdx j))):=by
 have hl:=(br.mp hv).1;have e:seqIndex? (j:Int) xs.length=some j:=by
  unfold seqIndex?;have h1:¬((j:Int)<0):=by omega
  have h2:(decide (0<=(j:Int))&&decide ((j:Int)<(xs.length:Int)))=true:=by
   simp only[ji,decide_eq_true_eq];omega
  simp only[h1,if_false];rw[if_pos h2,mq]
 unfold pT;dsimp only;rw[if_pos ⟨by omega,by omega⟩,hS];dsimp only;rw[e];dsimp only;rw[hv]
def wU:AS->Int
 |[]=>1
 |us::r=>us.getLastD 0*wU r
theorem Gu.mono{n k l:Nat}{us:AR}(h:Gu n k us)(hl:k<=l):Gu n l us:=by
 obtain⟨xs,w,e,P⟩:=h;exact⟨xs,w,e,P.mono hl⟩
theorem Yd{d:Int}:sg d=0↔d=0:=by
 unfold sg;split
 .omega
 .split<;>omega
theorem Kv{d:Int}:sg d<0↔d<0:=by
 unfold sg;split
 .omega
 .split<;>omega
theorem acz{n k:Nat}(hn:n=2\/n=3)(hk:k<=1000){uss:AS}(hl:uss.length=n+1)(hg:∀us∈uss,Gu n k us):dU (qE uss)=-dU uss:=by
 rcases hn with rfl |rfl
 .match uss,hl with
  |[a,b,c],_=>
   obtain⟨x0,y0,w0,rfl,_⟩:=(hg a (by simp)).two hk;obtain⟨x1,y1,w1,rfl,_⟩:=(hg b (by simp)).two hk;obtain⟨x2,y2,w2,rfl,_⟩:=(hg c (by simp)).two hk;show D2 x0 y0 w0 x2 y2 w2 x1 y1 w1=-(D2 x0 y0 w0 x1 y1 w1 x2 y2 w2);unfold D2;grind
 .match uss,hl with
  |[a,b,c,d],_=>
   obtain⟨x0,y0,z0,w0,rfl,_⟩:=(hg a (by simp)).three hk;obtain⟨x1,y1,z1,w1,rfl,_⟩:=(hg b (by simp)).three hk;obtain⟨x2,y2,z2,w2,rfl,_⟩:=(hg c (by simp)).three hk;obtain⟨x3,y3,z3,w3,rfl,_⟩:=(hg d (by simp)).three hk;show D3 x0 y0 z0 w0 x1 y1 z1 w1 x3 y3 z3 w3 x2 y2 z2 w2=-(D3 x0 y0 z0 w0 x1 y1 z1 w1 x2 y2 z2 w2 x3 y3 z3 w3);unfold D3;grind
theorem Te{n k:Nat}(hn:n=2\/n=3)(hk:k<=1000){uss:AS}(hl:uss.length=n+1)(hg:∀us∈uss,Gu n k us):dU (dR uss)=((dU uss).natAbs:Int):=by
 have hp:=(nS (lG hn hl)).1;have gs:∀us∈eC uss,Gu n k us:=λus hu=>hg us (hp.subset hu);have ls:(eC uss).length=n+1:=by rw[hp.length_eq,hl]
 have e:=Jr hn hk hl hg;have s:=acz hn hk ls gs;have q:=yA hn hk ls gs;unfold dR;split
 .rename_i h
  rw[q,Kv]at h;rw[s];omega
 .rename_i h
  rw[q,Kv]at h;omega
theorem uL{n k:Nat}:∀{uss:AS},(∀us∈uss,Gu n k us)->0<wU uss
 |[],_=>by decide
 |us::r,h=>by
  unfold wU;obtain⟨xs,w,rfl,P⟩:=h us bi;refine bf ?_ (uL λu hu=>h u (bn _ hu));rw[show(xs++[w]).getLastD 0=w by simp];exact P.pos
theorem vV{A B:AS}(hp:A.Perm B)(h:B.length=3\/B.length=4):dR A=dR B:=by
 unfold dR;rw[Pi hp h]
structure Sx(n k:Nat)(uss:AS):Prop where
 len:uss.length=n+1
 gu:∀us∈uss,Gu n k us
 nz:dU uss≠0
 cn:dR uss=uss
abbrev px(uss:AS):PV:=.tup (uss.map tv)
theorem yH{n k:Nat}(hn:n=2\/n=3)(hk:k<=1000){uss:AS}(hl:uss.length=n+1)(hg:∀us∈uss,Gu n k us)(nz:dU uss≠0):Sx n k (dR uss):=by
 have hp:=Cc (lG hn hl);refine⟨by rw[hp.length_eq,hl],λus hu=>hg us (hp.subset hu),?_,aaT (lG hn hl)⟩;rw[Te hn hk hl hg];omega
def jP(n:Nat)(A C:Nat->Int)(E:Int)(us us':AR):Prop:=∃xs w xs' w',us=xs++[w]/\us'=xs'++[w']/\xs.length=n/\xs'.length=n/\0<w/\0<w'/\∀j,j<n->xs'.getD j 0*(E*w)=(A j*xs.getD j 0+C j*w)*w'
theorem jP.two{A C:Nat->Int}{E:Int}{us us':AR}(h:jP 2 A C E us us'):∃x y w x' y' w',us=[x,y,w]/\us'=[x',y',w']/\x'*(E*w)=(A 0*x+C 0*w)*w'/\y'*(E*w)=(A 1*y+C 1*w)*w':=by
 obtain⟨xs,w,xs',w',rfl,rfl,l,l',_,_,h⟩:=h
 match xs,l,xs',l',h with
 |[x,y],_,[x',y'],_,h=>exact⟨x,y,w,x',y',w',rfl,rfl,h 0 (by decide),h 1 (by decide)⟩
theorem jP.three{A C:Nat->Int}{E:Int}{us us':AR}(h:jP 3 A C E us us'):∃x y z w x' y' z' w',us=[x,y,z,w]/\us'=[x',y',z',w']/\x'*(E*w)=(A 0*x+C 0*w)*w'/\y'*(E*w)=(A 1*y+C 1*w)*w'/\z'*(E*w)=(A 2*z+C 2*w)*w':=by
 obtain⟨xs,w,xs',w',rfl,rfl,l,l',_,_,h⟩:=h
 match xs,l,xs',l',h with
 |[x,y,z],_,[x',y',z'],_,h=>exact⟨x,y,z,w,x',y',z',w',rfl,rfl,h 0 (by decide),h 1 (by decide),h 2 (by decide)⟩
theorem adI(a b c d E x0 y0 w0 x1 y1 w1 x2 y2 w2:Int):D2 (a*x0+c*w0) (b*y0+d*w0) (E*w0) (a*x1+c*w1) (b*y1+d*w1) (E*w1) (a*x2+c*w2) (b*y2+d*w2) (E*w2)=a*b*E*D2 x0 y0 w0 x1 y1 w1 x2 y2 w2:=by
 unfold D2;grind
theorem adT(a b p c d e E x0 y0 z0 w0 x1 y1 z1 w1 x2 y2 z2 w2 x3 y3 z3 w3:Int):D3 (a*x0+c*w0) (b*y0+d*w0) (p*z0+e*w0) (E*w0) (a*x1+c*w1) (b*y1+d*w1) (p*z1+e*w1) (E*w1) (a*x2+c*w2) (b*y2+d*w2) (p*z2+e*w2) (E*w2) (a*x3+c*w3) (b*y3+d*w3) (p*z3+e*w3) (E*w3)=a*b*p*E*D3 x0 y0 z0 w0 x1 y1 z1 w1 x2 y2 z2 w2 x3 y3 z3 w3:=by
 unfold D3;grind
theorem cm(a b:Int){c:Int}(h:a*b=c):b*a=c:=by rw[fm];exact h
theorem Ww{A C:Nat->Int}{E:Int}{P Q R P' Q' R':AR}(h0:jP 2 A C E P P')(h1:jP 2 A C E Q Q')(h2:jP 2 A C E R R'):dU [P',Q',R']*(E*E*E*wU [P,Q,R])=A 0*A 1*E*dU [P,Q,R]*wU [P',Q',R']:=by
 obtain⟨x0,y0,w0,X0,Y0,W0,rfl,rfl,p,q⟩:=h0.two;obtain⟨x1,y1,w1,X1,Y1,W1,rfl,rfl,p1,q1⟩:=h1.two;obtain⟨x2,y2,w2,X2,Y2,W2,rfl,rfl,p2,q2⟩:=h2.two;have e:=On (E*w0) (E*w1) (E*w2) X0 Y0 W0 X1 Y1 W1 X2 Y2 W2;have f:=On W0 W1 W2 (A 0*x0+C 0*w0) (A 1*y0+C 1*w0) (E*w0) (A 0*x1+C 0*w1) (A 1*y1+C 1*w1) (E*w1) (A 0*x2+C 0*w2) (A 1*y2+C 1*w2) (E*w2);rw[adI]at f;rw[cm _ _ p,cm _ _ q,cm _ _ p1,cm _ _ q1,cm _ _ p2,cm _ _ q2,fm _ W0,fm _ W0,fm _ W0,fm _ W1,fm _ W1,fm _ W1,fm _ W2,fm _ W2,fm _ W2]at e;have g:=e.symm.trans f;show D2 X0 Y0 W0 X1 Y1 W1 X2 Y2 W2*(E*E*E*(w0*(w1*(w2*1))))=A 0*A 1*E*D2 x0 y0 w0 x1 y1 w1 x2 y2 w2*(W0*(W1*(W2*1)));generalize D2 X0 Y0 W0 X1 Y1 W1 X2 Y2 W2=d at g⊢;generalize D2 x0 y0 w0 x1 y1 w1 x2 y2 w2=d' at g⊢;clear e f p q p1 q1 p2 q2 h0 h1 h2;grind
theorem Tw{A C:Nat->Int}{E:Int}{P Q R T P' Q' R' T':AR}(h0:jP 3 A C E P P')(h1:jP 3 A C E Q Q')(h2:jP 3 A C E R R')(h3:jP 3 A C E T T'):dU [P',Q',R',T']*(E*E*E*E*wU [P,Q,R,T])=A 0*A 1*A 2*E*dU [P,Q,R,T]*wU [P',Q',R',T']:=by
 obtain⟨x0,y0,z0,w0,X0,Y0,Z0,W0,rfl,rfl,p,q,r⟩:=h0.three;obtain⟨x1,y1,z1,w1,X1,Y1,Z1,W1,rfl,rfl,p1,q1,r1⟩:=h1.three;obtain⟨x2,y2,z2,w2,X2,Y2,Z2,W2,rfl,rfl,p2,q2,r2⟩:=h2.three;obtain⟨x3,y3,z3,w3,X3,Y3,Z3,W3,rfl,rfl,p3,q3,r3⟩:=h3.three;have e:=Wo (E*w0) (E*w1) (E*w2) (E*w3) X0 Y0 Z0 W0 X1 Y1 Z1 W1 X2 Y2 Z2 W2 X3 Y3 Z3 W3;have f:=Wo W0 W1 W2 W3 (A 0*x0+C 0*w0) (A 1*y0+C 1*w0) (A 2*z0+C 2*w0) (E*w0) (A 0*x1+C 0*w1) (A 1*y1+C 1*w1) (A 2*z1+C 2*w1) (E*w1) (A 0*x2+C 0*w2) (A 1*y2+C 1*w2) (A 2*z2+C 2*w2) (E*w2) (A 0*x3+C 0*w3) (A 1*y3+C 1*w3) (A 2*z3+C 2*w3) (E*w3);rw[adT]at f;rw[cm _ _ p,cm _ _ q,cm _ _ r,cm _ _ p1,cm _ _ q1,cm _ _ r1,cm _ _ p2,cm _ _ q2,cm _ _ r2,cm _ _ p3,cm _ _ q3,cm _ _ r3]at e;have cW:∀a W:Int,a*W=W*a:=fm;rw[cW _ W0,cW _ W0,cW _ W0,cW _ W0,cW _ W1,cW _ W1,cW _ W1,cW _ W1,cW _ W2,cW _ W2,cW _ W2,cW _ W2,cW _ W3,cW _ W3,cW _ W3,cW _ W3]at e;have g:=e.symm.trans f;show D3 X0 Y0 Z0 W0 X1 Y1 Z1 W1 X2 Y2 Z2 W2 X3 Y3 Z3 W3*(E*E*E*E*(w0*(w1*(w2*(w3*1)))))=A 0*A 1*A 2*E*D3 x0 y0 z0 w0 x1 y1 z1 w1 x2 y2 z2 w2 x3 y3 z3 w3*(W0*(W1*(W2*(W3*1))));generalize D3 X0 Y0 Z0 W0 X1 Y1 Z1 W1 X2 Y2 Z2 W2 X3 Y3 Z3 W3=d at g⊢;generalize D3 x0 y0 z0 w0 x1 y1 z1 w1 x2 y2 z2 w2 x3 y3 z3 w3=d' at g⊢;clear e f p q r p1 q1 r1 p2 q2 r2 p3 q3 r3 h0 h1 h2 h3 cW;grind
def dC(way:Int)(f us:AR):AR:=mv way us.dropLast (us.getLastD 0) f.dropLast (f.getLastD 0)
theorem uG(way:Int)(xs:AR)(w:Int)(ys:AR)(v:Int):dC way (ys++[v]) (xs++[w])=mv way xs w ys v:=by
 unfold dC;simp
theorem nC{n k l:Nat}{way:Int}{us f:AR}(hway:way=1\/way=-1)(h:Gu n k us)(g:Gu n l f):Gu n (k+l+1) (dC way f us)/\jP n (λ_=>way*f.getLastD 0) (λj=>f.getD j 0) (f.getLastD 0) us (dC way f us):=by
 obtain⟨xs,w,rfl,P⟩:=h;obtain⟨ys,v,rfl,Q⟩:=g;rw[uG];obtain⟨zs,z,e,Z,hv⟩:=Sg hway P Q;rw[e];refine⟨⟨zs,z,rfl,Z⟩,xs,w,zs,z,rfl,rfl,P.len,Z.len,P.pos,Z.pos,λj hj=>?_⟩;have a:=hv _ _ _ _ (Vl.self n xs w) (Vl.self n ys v) P.pos Q.pos j hj;rw[show(ys++[v]).getLastD 0=v by simp];have eg:(ys++[v]).getD j 0=ys.getD j 0:=by
  have:j<ys.length:=by rw[Q.len];exact hj
  simp[cg,fx this]
 dsimp only at a⊢;rw[eg];generalize ys.getD j 0=y at a⊢;generalize xs.getD j 0=x at a⊢;generalize zs.getD j 0=t at a⊢;rw[fm v w,a];grind
theorem ab3{n k l:Nat}{way:Int}{us f:AR}(S:aH)(hn:n=2\/n=3)(h:Gu n k us)(g:Gu n l f)(hk:k<=2000)(hl:l<=2000):nP [.pv (tv us),.pv (.tup [.int way,tv f])] S=.ok (.pv (tv (dC way f us))) S:=by
 obtain⟨xs,w,rfl,P⟩:=h;obtain⟨ys,v,rfl,Q⟩:=g;rw[uG];exact acu S hn P Q hk hl
theorem Zd{n k l:Nat}{way:Int}{us f:AR}(S:aH)(hn:n=2\/n=3)(hway:way=1\/way=-1)(h:Gu n k us)(g:Gu n l f)(hk:k<=1000)(hl:l<=1000):kU [.pv (tv us),.pv (tv f),.pv (.int way)] S=.ok (.pv (tv (dC way f us))) S:=by
 obtain⟨xs,w,rfl,P⟩:=h;obtain⟨ys,v,rfl,Q⟩:=g;rw[uG];exact aaF S hn hway P Q hk hl
theorem K0{a b w v:Int}(hw:0<w)(hv:0<v)(h:a*w=b*v\/a*w=-(b*v)):(a.natAbs:Int)*w=(b.natAbs:Int)*v:=by
 have e:(a*w).natAbs=(b*v).natAbs:=by
  rcases h with h |h
  .rw[h]
  .rw[h,d7]
 rw[tf,tf]at e;have e1:((w.natAbs:Nat):Int)=w:=by omega
 have e2:((v.natAbs:Nat):Int)=v:=by omega
 have e3:((a.natAbs*w.natAbs:Nat):Int)=((b.natAbs*v.natAbs:Nat):Int):=by rw[e]
 rw[AB,AB,e1,e2]at e3;exact e3
theorem aeU{v d d' w w':Int}{way:Int}(hv:0<v)(hway:way=1\/way=-1)(h:d'*(v*v*v*w)=way*v*(way*v)*v*d*w'):d'*w=d*w':=by
 have e:(d'*w)*(v*v*v)=(d*w')*(v*v*v):=by rcases hway with rfl |rfl<;>grind
 exact uJ (bf (bf hv hv) hv) e
theorem afe{v d d' w w':Int}{way:Int}(hv:0<v)(hway:way=1\/way=-1)(h:d'*(v*v*v*v*w)=way*v*(way*v)*(way*v)*v*d*w'):d'*w=d*w'\/d'*w=-(d*w'):=by
 have p:=bf (bf (bf hv hv) hv) hv;rcases hway with rfl |rfl
 .left
  have e:(d'*w)*(v*v*v*v)=(d*w')*(v*v*v*v):=by grind
  exact uJ p e
 .right
  have e:(d'*w)*(v*v*v*v)=(-(d*w'))*(v*v*v*v):=by grind
  exact uJ p e
theorem pP{n k l:Nat}{way:Int}{f:AR}{uss:AS}(hway:way=1\/way=-1)(hg:∀us∈uss,Gu n k us)(g:Gu n l f):∀us∈uss.map (dC way f),Gu n (k+l+1) us:=λus hu=>by
 obtain⟨u,hm,rfl⟩:=ia.mp hu;exact(nC hway (hg u hm) g).1
theorem Gu.lastpos{n k:Nat}{f:AR}(h:Gu n k f):0<f.getLastD 0:=by
 obtain⟨xs,w,rfl,P⟩:=h;rw[show(xs++[w]).getLastD 0=w by simp];exact P.pos
theorem acj{n k l:Nat}(hn:n=2\/n=3){way:Int}{f:AR}{uss:AS}(hway:way=1\/way=-1)(hl:uss.length=n+1)(hg:∀us∈uss,Gu n k us)(g:Gu n l f):((dU (uss.map (dC way f))).natAbs:Int)*wU uss=((dU uss).natAbs:Int)*wU (uss.map (dC way f)):=by
 have hv:=g.lastpos;have p1:=uL hg;have p2:=uL (pP hway hg g);refine K0 p1 p2 ?_;rcases hn with rfl |rfl
 .match uss,hl,hg with
  |[a,b,c],_,hg=>
   have e:=Ww (nC hway (hg a (by simp)) g).2 (nC hway (hg b (by simp)) g).2 (nC hway (hg c (by simp)) g).2;exact .inl (aeU hv hway e)
 .match uss,hl,hg with
  |[a,b,c,d],_,hg=>
   have e:=Tw (nC hway (hg a (by simp)) g).2 (nC hway (hg b (by simp)) g).2 (nC hway (hg c (by simp)) g).2 (nC hway (hg d (by simp)) g).2;exact afe hv hway e
theorem Ig{n k l:Nat}(hn:n=2\/n=3){way:Int}{f:AR}{uss:AS}(hway:way=1\/way=-1)(hl:uss.length=n+1)(hg:∀us∈uss,Gu n k us)(g:Gu n l f)(h:dU uss≠0):dU (uss.map (dC way f))≠0:=λz=>by
 have e:=acj hn hway hl hg g;rw[z]at e;have p2:=uL (pP hway hg g);have:((dU uss).natAbs:Int)*wU (uss.map (dC way f))≠0:=gw (by omega) (qy p2);exact this (by rw[<-e];simp)
theorem kW{G:Gd}{S:aH}(hG:iQ G S){me:ME}{tail:bZ}{α:Type}(A B:α->PV):∀(L:List α)(x:BB),(∀v∈L,me (some (.pv (A v))::tail) S=.ok (.pv (B v)) S)->cG G (gN 0) me (L.map A) (x::tail) S=.ok (L.map B) S
 |[],x,_=>R0 hG
 |v::L,x,h=>by
  have e:=h v bi;have e':=kW hG A B L (some (.pv (A v))) λu hu=>h u (bn _ hu);rw[aw,aar hG];simp[gN,e,e']
def kS(way:Int)(f:AR)(uss:AS):AS:=dR (uss.map (dC way f))
theorem Kf{n k l:Nat}(hn:n=2\/n=3){way:Int}{f:AR}{uss:AS}(hway:way=1\/way=-1)(h:Sx n k uss)(g:Gu n l f)(hk:k+l+1<=1000):Sx n (k+l+1) (kS way f uss):=
 yH hn hk (by rw[aj];exact h.len) (pP hway h.gu g) (Ig hn hway h.len h.gu g h.nz)
theorem Q1{n k l:Nat}(hn:n=2\/n=3){way:Int}{f f':AR}{uss:AS}(h:Sx n k uss)(hb:∀l us,Gu n l us->dC way f' (dC way f us)=us):kS way f' (kS way f uss)=uss:=by
 unfold kS;have l1:(uss.map (dC way f)).length=n+1:=by rw[aj];exact h.len
 have hp:=(Cc (lG hn l1)).map (dC way f');have e:(uss.map (dC way f)).map (dC way f')=uss:=by
  rw[cw];have:∀us∈uss,(dC way f'∘dC way f) us=us:=λus hu=>hb k us (h.gu us hu);rw[ee this];simp
 rw[e]at hp;rw[vV hp (lG hn h.len),h.cn]
theorem abS{n k l:Nat}(hn:n=2\/n=3){way:Int}{f:AR}(S:aH)(hway:way=1\/way=-1){uss:AS}(h:Sx n k uss)(g:Gu n l f)(hk:k+l+1<=1000):cG [] (gN 0) (aJ nP [] (aB (aA 0) (aB (aA 1) aD))) (uss.map tv) [none,some (.pv (.tup [.int way,tv f]))] S=.ok ((uss.map (dC way f)).map tv) S:=by
 rw[cw];refine kW (iR S) tv (tv∘dC way f) uss none λus hu=>?_;have e:=ab3 (way:=way) S hn (h.gu us hu) g (by omega) (by omega);simp! [aE,aZ,aY,aP,aO,aN,aL,aM,aF,aK,e]
theorem B6{n k l:Nat}(hn:n=2\/n=3){way:Int}{f:AR}(S:aH)(hway:way=1\/way=-1){hs:AT}{A:PV}(hA:Sv A (hs.map px))(h:∀uss∈hs,Sx n k uss)(g:Gu n l f)(hk:k+l+1<=1000):xF [.pv A,.pv (.tup [.int way,tv f])] S=.ok (.pv (.tup ((hs.map (kS way f)).map px))) S:=by
 have e:cG [] (gN 0) (pS qS [] (aB (bF ["p"] [(1,"move")] (bA (aA 0)) (gN 0) (aJ nP [] (aB (aA 0) (aB (aA 1) aD)))) aD)) (hs.map px) [none,some (.pv (.tup [.int way,tv f]))] S=.ok (hs.map λuss=>px (kS way f uss)) S:=by
  refine kW (iR S) px (λuss=>px (kS way f uss)) hs none λuss hu=>?_;have s:=h uss hu;have e1:=abS hn S hway s g hk;have e2:=Nz (uss:=uss.map (dC way f)) hn S (by rw[aj];exact s.len) (λus hu=>(pP hway s.gu g us hu).mono hk) (.inl rfl) (by
   rw[yA hn (k:=k+l+1) hk (by rw[aj];exact s.len) (pP hway s.gu g)];exact λz=>Ig hn hway s.len s.gu g s.nz (Yd.mp z))
  rw[cw]at e1 e2;simp! [aE,aZ,aY,aP,aO,aN,aL,aM,aF,aK,bF,cJ,bA,cC,e1,e2,kS]
 unfold xF aR Dd;rcases hA with rfl |rfl<;>simp! [aE,aZ,aY,aP,aO,aN,aL,aM,aF,aK,bF,cJ,bA,cC,e,cw,Function.comp_def]
def sh(n:Nat):Int:=if n=2 then 2 else 6
theorem mk{k l:Nat}{a b:Int}(h:Bd k a)(g:Bd l b)(hk:k<=100000)(hl:l<=100000):bG (.int a) (.int b)=some (.int (a*b)):=nW (.inr ⟨h.mono (by omega),g.mono (by omega)⟩)
abbrev fv(u:Int×Int):PV:=.tup [.int u.1,.int u.2]
def pl(u v:Int×Int):Int×Int:=((fr (u.1*v.2+v.1*u.2) (u.2*v.2)).getD 0 0,(fr (u.1*v.2+v.1*u.2) (u.2*v.2)).getD 1 0)
theorem Nr{n k l:Nat}(hn:n=2\/n=3){way:Int}{f:AR}(S:aH)(hway:way=1\/way=-1){uss:AS}(h:Sx n k uss)(g:Gu n l f)(hk:k+l+1<=1000):mZ [.pv (px uss),.pv (.int way),.pv (tv f)] S=.ok (.pv (px (kS way f uss))) S:=by
 have e1:cG [] (gN 0) (aJ kU [] (aB (aA 0) (aB (aA 1) (aB (aA 2) aD)))) (uss.map tv) [none,some (.pv (tv f)),some (.pv (.int way))] S=.ok (uss.map (tv∘dC way f)) S:=by
  refine kW (iR S) tv (tv∘dC way f) uss none λus hu=>?_;have e:=Zd (way:=way) S hn hway (h.gu us hu) g (by omega) (by omega);simp! [aE,aZ,aY,aP,aO,aN,aL,aM,aF,aK,e]
 have e2:=Nj (uss:=uss.map (dC way f)) (A:=.lst ((uss.map (dC way f)).map tv)) hn S (by rw[aj];exact h.len) (λus hu=>(pP hway h.gu g us hu).mono hk) (.inl rfl);rw[cw]at e2;unfold mZ aR Vd;simp! [aE,aZ,aY,aP,aO,aN,aL,aM,aF,aK,bF,cJ,bA,cC,e1,e2,kS]
abbrev li(xs:AR):AZ:=xs.map .int
abbrev lv(xs:AR):PV:=.lst (li xs)
abbrev dF(xss:AS):PV:=.lst (xss.map lv)
structure Rw(n:Nat)(xss:AS):Prop where
 len:xss.length=n+1
 l:∀xs∈xss,xs.length=n
 b:∀xs∈xss,∀x∈xs,-8<x/\x<8
 nz:dU (xss.map (·++[1]))≠0
theorem Qb{α β:Type}(f:α->β):∀(R:List α)(j:Nat),(R.map f).eraseIdx j=(R.eraseIdx j).map f
 |[],j=>by simp
 |a::R,0=>by simp
 |a::R,j+1=>by simp[Qb f R j]
theorem ix3:∀v<3,aY 3 ((v:Nat):Int)=some v:=by decide
abbrev qH:MS:=(aG (kZ (aA 2) (lJ (aA 1) (aB (aJ cE [] (aB (aA 0) (aB (mR cV (aB (aA 1) aD)) aD))) aD)) (mC (.int 1)))
 (cZ (uU (aA 3) (aB (aA 2) aD))))
abbrev sH:MS:=(bW (bH (aC cT (aJ cE [] (aB (aA 0) (aB (mC (.int 4)) aD))) (mC (.int 3)))) (pU 3 2 5) cY)
theorem Ag(ns:AR)(hl:AZ)(R C:AR)(L:AS)(x4 x5:BB)(hR0:0<R.length)(hR3:R.length<=3)(hv:∀v∈R,0<=v/\v<3)(hC:C.length=3)(hL:L.length<=9):
  ∃(j v:Nat)(ns':AR),j<R.length/\R[j]?=some (v:Int)/\qH [some (.ref 0),some (.ref 2),some (.ref 3),some (.ref 4),x4,x5] [.lst (li ns),.lst hl,.lst (li R),.lst (li C),.lol (L.map li)]
   = .nx [some (.ref 0),some (.ref 2),some (.ref 3),some (.ref 4),x4,x5] [.lst (li ns'),.lst hl,.lst (li (R.eraseIdx j)),.lst (li (C.set v 1)),.lol ((L++[C.set v 1]).map li)]:=by
 have hr:dW [.lst (li ns),.lst hl,.lst (li R),.lst (li C),.lol (L.map li)] 0 ns:=rfl;obtain⟨t,n1,e1,t0,t1,_⟩:=fX (m:=(R.length:Int)) hr (by omega) (gO (by omega) (by omega));simp only[dn]at e1;obtain⟨j,rfl⟩:∃j:Nat,t=(j:Int):=⟨t.toNat,by omega⟩;have hj:j<R.length:=by omega
 obtain⟨v,ev⟩:∃v:Nat,R[j]=(v:Int):=⟨R[j].toNat,by have:=hv _ (fe hj);omega⟩;have hv3:v<3:=by have:=hv _ (fe hj);omega
 have hq:R[j]?=some (v:Int):=by rw[ax hj,ev]
 have ep:=Ru (S:=[.lst (li n1),.lst hl,.lst (li R),.lst (li C),.lol (L.map li)]) (k:=2) (j:=j) (xs:=li R) (v:=.int v) rfl (by rw[bo,hq];rfl) (by omega);simp only[jc,dn]at ep;have er:(li R).eraseIdx j=li (R.eraseIdx j):=Qb _ _ _;rw[er]at ep;have ei:aY (li C).length (v:Int)=some v:=by
  rw[aj,hC];exact ix3 v hv3
 have ec:(li C).set v (.int 1)=li (C.set v 1):=by simp[li,qs]
 refine⟨j,v,n1,hj,hq,?_⟩;have e1':cE [.ref 0,.pv (.int ((li R).length:Int))] [.lst (li ns),.lst hl,.lst (li R),.lst (li C),.lol (L.map li)]=.ok (.pv (.int (j:Int))) [.lst (li n1),.lst hl,.lst (li R),.lst (li C),.lol (L.map li)]:=by
  rw[aj];exact e1
 have el:(L++[C.set v 1]).map li=L.map li++[li (C.set v 1)]:=by simp
 rw[el];have lz:(L.map li).length<16777216:=by rw[aj];omega
 generalize li n1=NL1,li ns=NL,(j:Int)=J,li R=RL,li (R.eraseIdx j)=RE,li C=CL,li (C.set v 1)=CS,L.map li=LL at *;unfold qH;simp! [bC,aO,aN,aL,aM,aF,aK,kZ,oJ,lJ,uU,vA,fB,e1',ep,ei,ec,lz]
def k6:AT:=[[[0,0,0],[1,0,0],[1,1,0],[1,1,1]],[[0,0,0],[1,0,0],[1,0,1],[1,1,1]],[[0,0,0],[0,1,0],[1,1,0],[1,1,1]],[[0,0,0],[0,1,0],[0,1,1],[1,1,1]],[[0,0,0],[0,0,1],[1,0,1],[1,1,1]],[[0,0,0],[0,0,1],[0,1,1],[1,1,1]]]
theorem aeI{R:AR}{j v:Nat}{a b c:Int}(h:R=[a,b,c])(hj:j<R.length)(e:R[j]?=some (v:Int)):(j=0/\(v:Int)=a)\/(j=1/\(v:Int)=b)\/(j=2/\(v:Int)=c):=by
 subst h
 match j,hj,e with
 |0,_,e=>simp at e;exact .inl ⟨rfl,e.symm⟩
 |1,_,e=>simp at e;exact .inr (.inl ⟨rfl,e.symm⟩)
 |2,_,e=>simp at e;exact .inr (.inr ⟨rfl,e.symm⟩)
theorem aez{R:AR}{j v:Nat}{a b:Int}(h:R=[a,b])(hj:j<R.length)(e:R[j]?=some (v:Int)):(j=0/\(v:Int)=a)\/(j=1/\(v:Int)=b):=by
 subst h
 match j,hj,e with
 |0,_,e=>simp at e;exact .inl ⟨rfl,e.symm⟩
 |1,_,e=>simp at e;exact .inr ⟨rfl,e.symm⟩
theorem aeK{R:AR}{j v:Nat}{a:Int}(h:R=[a])(hj:j<R.length)(e:R[j]?=some (v:Int)):j=0/\(v:Int)=a:=by
 subst h
 match j,hj,e with
 |0,_,e=>simp at e;exact⟨rfl,e.symm⟩
theorem k3(ns:AR)(hl:AZ)(R C:AR)(A:AS)(a b c:Nat)(x4 x5:BB)(hR:R=[(c:Int)])(hc:c<3)(hC:C.length=3)(hA:A.length<=9)(ks:AT)(hk:A++[C.set c 1]∈ks):
  ∃(xss:AS)(ns':AR)(C':AR),xss∈ks/\dQ [] (gN 4) qH [.int 2] [some (.ref 0),some (.ref 2),some (.ref 3),some (.ref 4),x4,x5] [.lst (li ns),.lst hl,.lst (li R),.lst (li C),.lol (A.map li)]
   = .nx [some (.ref 0),some (.ref 2),some (.ref 3),some (.ref 4),some (.pv (.int 2)),x5] [.lst (li ns'),.lst hl,.lst [],.lst (li C'),.lol (xss.map li)]:=by
 obtain⟨j,v,n1,hj,e,h⟩:=Ag ns hl R C A (some (.pv (.int 2))) x5 (by rw[hR];simp) (by rw[hR];simp) (by rw[hR];simp;omega) hC hA;obtain⟨rfl,ev⟩:=aeK hR hj e;have:v=c:=by omega
 subst this;subst hR;refine⟨_,n1,C.set v 1,hk,?_⟩;rw[fA];simp only[gN,jc,dn];rw[h];exact fN
theorem k2(ns:AR)(hl:AZ)(R C:AR)(A:AS)(b c:Nat)(x4 x5:BB)(hR:R=[(b:Int),(c:Int)])(hb:b<3)(hc:c<3)(hC:C.length=3)(hA:A.length<=8)(ks:AT)(h1:A++[C.set b 1]++[(C.set b 1).set c 1]∈ks)(h2:A++[C.set c 1]++[(C.set c 1).set b 1]∈ks):
  ∃(xss:AS)(ns':AR)(C':AR),xss∈ks/\dQ [] (gN 4) qH [.int 1,.int 2] [some (.ref 0),some (.ref 2),some (.ref 3),some (.ref 4),x4,x5] [.lst (li ns),.lst hl,.lst (li R),.lst (li C),.lol (A.map li)]
   = .nx [some (.ref 0),some (.ref 2),some (.ref 3),some (.ref 4),some (.pv (.int 2)),x5] [.lst (li ns'),.lst hl,.lst [],.lst (li C'),.lol (xss.map li)]:=by
 obtain⟨j,v,n1,hj,e,h⟩:=Ag ns hl R C A (some (.pv (.int 1))) x5 (by rw[hR];simp) (by rw[hR];simp) (by rw[hR];simp;omega) hC (by omega);rw[fA];simp only[gN,jc,dn];rw[h];rcases aez hR hj e with⟨rfl,ev⟩|⟨rfl,ev⟩
 .have:v=b:=by omega
  subst this;subst hR;exact k3 n1 hl _ (C.set v 1) _ 0 0 c _ x5 rfl hc (by rw[fk];exact hC) (by simp;omega) ks h1
 .have:v=c:=by omega
  subst this;subst hR;exact k3 n1 hl _ (C.set v 1) _ 0 0 b _ x5 rfl hb (by rw[fk];exact hC) (by simp;omega) ks h2
theorem k1(ns:AR)(hl:AZ)(x4 x5:BB):
  ∃(xss:AS)(ns':AR)(C':AR),xss∈k6/\dQ [] (gN 4) qH [.int 0,.int 1,.int 2] [some (.ref 0),some (.ref 2),some (.ref 3),some (.ref 4),x4,x5] [.lst (li ns),.lst hl,.lst (li [0,1,2]),.lst (li [0,0,0]),.lol ([[0,0,0]].map li)]
   = .nx [some (.ref 0),some (.ref 2),some (.ref 3),some (.ref 4),some (.pv (.int 2)),x5] [.lst (li ns'),.lst hl,.lst [],.lst (li C'),.lol (xss.map li)]:=by
 obtain⟨j,v,n1,hj,e,h⟩:=Ag ns hl [0,1,2] [0,0,0] [[0,0,0]] (some (.pv (.int 0))) x5 (by decide) (by decide) (by decide) rfl (by decide);rw[fA];simp only[gN,jc,dn];rw[h];rcases aeI rfl hj e with⟨rfl,ev⟩|⟨rfl,ev⟩|⟨rfl,ev⟩
 .have:v=0:=by omega
  subst this;exact k2 n1 hl _ [1,0,0] _ 1 2 _ x5 rfl (by decide) (by decide) rfl (by decide) k6 (by decide) (by decide)
 .have:v=1:=by omega
  subst this;exact k2 n1 hl _ [0,1,0] _ 0 2 _ x5 rfl (by decide) (by decide) rfl (by decide) k6 (by decide) (by decide)
 .have:v=2:=by omega
  subst this;exact k2 n1 hl _ [0,0,1] _ 0 1 _ x5 rfl (by decide) (by decide) rfl (by decide) k6 (by decide) (by decide)
def sR(m:Nat)(xs:AR):AR:=xs.set m (1-xs.getD m 0)
theorem W5{m:Nat}{xs:AR}(h:xs.length=3)(hm:m<3):yL (m:Int) (li xs)=some (li (sR m xs)):=by
 match xs,h,m,hm with
 |[a,b,c],_,0,_=>rfl
 |[a,b,c],_,1,_=>rfl
 |[a,b,c],_,2,_=>rfl
theorem Ko{m:Nat}(hm:m<3):∀{L:AS},(∀xs∈L,xs.length=3)->rR (m:Int) (L.map li)=some ((L.map (sR m)).map li)
 |[],_=>rfl
 |xs::L,h=>by
  have e1:=W5 (h xs bi) hm;have e2:=Ko hm λys hy=>h ys (bn _ hy);simp only[aw];unfold rR;rw[e1,e2]
theorem adW{a b c d:AZ}{L:List AZ}:zG 4 [.lst a,.lst b,.lst c,.lst d,.lol L]:=λj o e n=>by
 match j,e with
 |0,e=>cases e;exact⟨_,rfl⟩
 |1,e=>cases e;exact⟨_,rfl⟩
 |2,e=>cases e;exact⟨_,rfl⟩
 |3,e=>cases e;exact⟨_,rfl⟩
 |4,e=>exact absurd rfl n
 |j+5,e=>simp at e
def lR(b:Bool)(m:Nat)(L:AS):AS:=if b then L.map (sR m)else L
theorem Jg(m:Nat)(hm:m<3)(ns:AR)(a b c:AZ)(L:AS)(hL:∀xs∈L,xs.length=3)(x2 x4:BB):
  ∃(f:Bool)(ns':AR)(y2:BB),sH [some (.ref 0),some (.ref 2),x2,some (.ref 4),x4,some (.pv (.int (m:Int)))] [.lst (li ns),.lst a,.lst b,.lst c,.lol (L.map li)]
   = .nx [some (.ref 0),some (.ref 2),y2,some (.ref 4),x4,some (.pv (.int (m:Int)))] [.lst (li ns'),.lst a,.lst b,.lst c,.lol ((lR f m L).map li)]:=by
 have hr:dW [.lst (li ns),.lst a,.lst b,.lst c,.lol (L.map li)] 0 ns:=rfl;obtain⟨t,n1,e1,t0,t1,_⟩:=fX (m:=4) hr (by decide) (gO (by decide) (by decide));simp only[dn]at e1;have e1:cE [.ref 0,.pv (.int 4)] [.lst (li ns),.lst a,.lst b,.lst c,.lol (L.map li)]=.ok (.pv (.int t)) [.lst (li n1),.lst a,.lst b,.lst c,.lol (L.map li)]:=e1;have ef:=Ko hm hL
 by_cases h:t=3
 .refine⟨true,n1,none,?_⟩
  have hf:pU 3 2 5 [some (.ref 0),some (.ref 2),x2,some (.ref 4),x4,some (.pv (.int (m:Int)))] [.lst (li n1),.lst a,.lst b,.lst c,.lol (L.map li)]=.nx [some (.ref 0),some (.ref 2),none,some (.ref 4),x4,some (.pv (.int (m:Int)))] [.lst (li n1),.lst a,.lst b,.lst c,.lol ((L.map (sR m)).map li)]:=by
   unfold pU;dsimp only[ve,kr];rw[if_pos ⟨adW,by simp⟩,ef];rfl
  unfold sH;have:lR true m L=L.map (sR m):=rfl;rw[this];simp! [aE,aZ,aY,aP,aO,aN,aL,aM,aF,aK,e1,h,hf]
 .refine⟨false,n1,x2,?_⟩
  unfold sH;have:lR false m L=L:=rfl;rw[this];simp! [aE,aZ,aY,aP,aO,aN,aL,aM,aF,aK,e1,h]
theorem Ae{b:Bool}{m:Nat}{L:AS}(h:∀xs∈L,xs.length=3):∀xs∈lR b m L,xs.length=3:=by
 unfold lR;split
 .intro xs hx
  obtain⟨ys,hy,rfl⟩:=ia.mp hx;unfold sR;rw[fk];exact h ys hy
 .exact h
def Qh(xss:AS):Bool:=decide (xss.length=4)&&xss.all (λxs=>decide (xs.length=3)&&xs.all λx=>decide (-8<x)&&decide (x<8))&&decide (dU (xss.map (·++[1]))≠0)
theorem abV{xss:AS}(h:Qh xss=true):Rw 3 xss:=by
 unfold Qh at h;simp only[ji,decide_eq_true_eq,kb]at h;exact⟨h.1.1,λxs hx=>(h.1.2 xs hx).1,λxs hx x hh=>(h.1.2 xs hx).2 x hh,h.2⟩
theorem k48:∀xss∈k6,∀a b c:Bool,Qh (lR c 2 (lR b 1 (lR a 0 xss)))=true:=by decide+kernel
theorem acD:∀xss∈k6,∀xs∈xss,xs.length=3:=by decide
theorem Jx{a b:AZ}:Pl [.lst a,.lst b]:=λj o e=>by
 match j,e with
 |0,e=>cases e;exact⟨_,rfl⟩
 |1,e=>cases e;exact⟨_,rfl⟩
 |j+2,e=>simp at e
theorem aa5(ns:AR)(hl:AZ):∃(xss:AS)(ns':AR),rD [.ref 0] [.lst (li ns),.lst hl]=.ok (.pv (dF xss)) [.lst (li ns'),.lst hl]/\Rw 3 xss:=by
 obtain⟨L,n1,C,hm,e1⟩:=k1 ns hl none none;have l0:=acD L hm;obtain⟨fa,n2,y2,e2⟩:=Jg 0 (by decide) n1 hl [] (li C) L l0 (some (.ref 3)) (some (.pv (.int 2)));obtain⟨fb,n3,y3,e3⟩:=Jg 1 (by decide) n2 hl [] (li C) _ (Ae l0) y2 (some (.pv (.int 2)));obtain⟨fc,n4,y4,e4⟩:=Jg 2 (by decide) n3 hl [] (li C) _ (Ae (Ae l0)) y3 (some (.pv (.int 2)));have c0:((0:Nat):Int)=0:=rfl;have c1:((1:Nat):Int)=1:=rfl;have c2:((2:Nat):Int)=2:=rfl;rw[c0]at e2;rw[c1]at e3;rw[c2]at e4;have hw:=k48 L hm fa fb fc;generalize lR fc 2 (lR fb 1 (lR fa 0 L))=X at hw e4;refine⟨X,n4,?_,abV hw⟩;have ex:(X.map li).map PV.lst=X.map lv:=by rw[cw];rfl
 have e5:dQ [] (gN 5) sH [.int 0,.int 1,.int 2] [some (.ref 0),some (.ref 2),some (.ref 3),some (.ref 4),some (.pv (.int 2)),none] [.lst (li n1),.lst hl,.lst [],.lst (li C),.lol (L.map li)]
   = .nx [some (.ref 0),some (.ref 2),y4,some (.ref 4),some (.pv (.int 2)),some (.pv (.int 2))] [.lst (li n4),.lst hl,.lst [],.lst (li C),.lol (X.map li)]:=by
  rw[fA];simp only[gN,jc,dn];rw[e2];dsimp only;rw[fA];simp only[gN,jc,dn];rw[e3];dsimp only;rw[fA];simp only[gN,jc,dn];rw[e4];exact fN
 unfold rD pZ;rw[if_pos ⟨rfl,Jx⟩];have eb:xG (jK 6 [.ref 0]) [.lst (li ns),.lst hl]=.rt (.ref 4) [.lst (li n4),.lst hl,.lst [],.lst (li C),.lol (X.map li)]:=by
  simp only[li,aw,ck]at e1;have hb:xG=(aG (aQ 1 (eO (aB (mC (.int 0)) (aB (mC (.int 1)) (aB (mC (.int 2)) aD)))))
   (aG (aQ 2 (eO (aB (mC (.int 0)) (aB (mC (.int 0)) (aB (mC (.int 0)) aD)))))
   (aG (aQ 3 (vE (aB (aA 2) aD)))
   (aG (bJ (cM (aB (mC (.int 3)) aD)) (gN 4) qH)
   (aG (bJ (cM (aB (mC (.int 3)) aD)) (gN 5) sH)
   (bD (aA 3))))))):=rfl
  rw[hb];generalize qH=B1,sH=B2 at *;simp! [aE,aZ,aY,aP,aO,aN,aL,aM,aF,aK,eO,kN,vE,Ug,bJ,cM,hrg,e1,e5]
 rw[eb];unfold xX;simp[Jx,ex]
theorem G3(L:AZ)(p:PV)(h:L≠[]):∃v∈L,aE (.lst L) (.int (-1))=some v:=by
 have hl:0<L.length:=AC.mpr h;refine⟨L[L.length-1]'(by omega),fe _,?_⟩;show aZ L (-1)=_;unfold aZ;have e:aY L.length (-1)=some (L.length-1):=by
  unfold aY;rw[if_neg (by decide),if_pos (by omega)];congr 1;omega
 rw[e];exact ax _
theorem vD{x:Int}(h:-1000<x)(g:x<1000):Bd 10 x:=by
 unfold Bd;have:x.natAbs<1000:=by omega
 omega
theorem sN(S:aH){n:Nat}(h:n<=9):gG [.pv (.int (n:Int))] S=.ok (dH 0 n,[]) S:=by
 have e:gG [.pv (.int (n:Int))] S=@ite _ ((n:Int)<=16777216/\-16777216<=(n:Int)) (pf _) (.ok (dH 0 (n:Int).toNat,[]) S) .fail:=rfl;rw[e,if_pos ⟨by omega,by omega⟩,mq]
theorem X8{S:aH}{k:Nat}{ns:AR}(h:dW S k ns):S.set k (.lst (ns.map .int))=S:=kq λj=>by
 by_cases q:k=j
 .subst q
  rw[dj h.lt];exact h.symm
 .rw[fj q]
theorem Mn{k:Nat}{W:Int}(W0:0<=W)(W1:W<=2):∀(is:AZ)(S:aH)(ns:AR)(x:BB),dW S k ns->∃(xs ns':AR),cG [] (gN 0) (aJ cE [] (aB (aA 1) (aB (aC aF (aA 2) (mC (.int 1))) aD))) is [x,some (.ref k),some (.pv (.int W))] S=.ok (li xs) (S.set k (.lst (li ns')))/\xs.length=is.length/\∀n∈xs,0<=n/\n<=2
 |[],S,ns,x,h=>by
  refine⟨[],ns,?_,rfl,λ_ h=>absurd h fg⟩;rw[show S.set k (.lst (li ns))=S from X8 h];exact dX
 |i::is,S,ns,x,h=>by
  obtain⟨t,n1,e1,t0,t1,_⟩:=fX (m:=W+1) h (by omega) (gO (by omega) (by omega));obtain⟨xs,n2,e2,l2,b2⟩:=Mn W0 W1 is _ n1 (some (.pv i)) (h.set n1);rw[ki]at e2;refine⟨t::xs,n2,?_,by simp[l2],λn hn=>?_⟩
  .rw[eA]
   generalize S.set k (.lst (n1.map .int))=S1 at e1 e2;simp! [gN,aE,aZ,aY,aP,aO,aN,aL,aM,aF,aK,e1,e2]
  .rcases cq.mp hn with rfl |hn
   .omega
   .exact b2 n hn
abbrev rB:MS:=(cZ (dG (aA 3) (aB (bF ["_law_m"] [(0,"_law_row_here"),(2,"_law_wide")] (cM (aB (aA 1) aD)) (gN 0) (aJ cE [] (aB (aA 1) (aB (aC aF (aA 2) (mC (.int 1))) aD)))) aD)))
theorem Ho{n:Nat}(hn:n<=9){W:Int}(W0:0<=W)(W1:W<=2)(hl:AZ):∀(is:AZ)(L:AS)(ns:AR)(x4:BB),L.length+is.length<=99->∃(L':AS)(ns':AR)(y4:BB),
  dQ [] (gN 4) rB is [some (.ref 0),some (.pv (.int (n:Int))),some (.pv (.int W)),some (.ref 2),x4] [.lst (li ns),.lst hl,.lst (L.map lv)]=.nx [some (.ref 0),some (.pv (.int (n:Int))),some (.pv (.int W)),some (.ref 2),y4] [.lst (li ns'),.lst hl,.lst ((L++L').map lv)]
   /\L'.length=is.length/\∀xs∈L',xs.length=n/\∀x∈xs,0<=x/\x<=2
 |[],L,ns,x4,h9=>⟨[],ns,x4,by rw[ja];exact fN,rfl,λ_ h=>absurd h fg⟩
 |i::is,L,ns,x4,h9=>by
  have hr:dW [.lst (li ns),.lst hl,.lst (L.map lv)] 0 ns:=rfl;obtain⟨xs,n1,e1,l1,b1⟩:=Mn W0 W1 (dH 0 n) _ ns none hr;simp only[dn]at e1;have h9:L.length+(is.length+1)<=99:=h9;obtain⟨L',n2,y4,e2,l2,b2⟩:=Ho hn W0 W1 hl is (L++[xs]) n1 (some (.pv i)) (by rw[av,jo];omega);refine⟨xs::L',n2,y4,?_,by simp[l2],λys hy=>?_⟩
  .rw[fA]
   have es:rB [some (.ref 0),some (.pv (.int (n:Int))),some (.pv (.int W)),some (.ref 2),some (.pv i)] [.lst (li ns),.lst hl,.lst (L.map lv)]=.nx [some (.ref 0),some (.pv (.int (n:Int))),some (.pv (.int W)),some (.ref 2),some (.pv i)] [.lst (li n1),.lst hl,.lst ((L++[xs]).map lv)]:=by
    have el:(L++[xs]).map lv=L.map lv++[lv xs]:=by simp
    rw[el];have lz:(L.map lv).length<16777216:=by rw[aj];omega
    have rg:=sN [.lst (li ns),.lst hl,.lst (L.map lv)] hn;unfold rB;generalize (n:Int)=N,dH 0 n=IP,li ns=NL,L.map lv=LL at *;simp! [aE,aZ,aY,aP,aO,aN,aL,aM,aF,aK,dG,fB,iH,bF,cJ,cM,rg,e1,lz]
   simp only[gN,jc,dn];rw[es];dsimp only;rw[e2,ix];rfl
  .rcases cq.mp hy with rfl |hy
   .exact⟨by rw[l1];unfold dH;simp,b1⟩
   .exact b2 ys hy
theorem acP{S:aH}{ti:Nat}{a b c d e f:Int}(h:S[ti]?=some (.lst [lv [a,b],lv [c,d],lv [e,f]]))(ha:0<=a/\a<=2)(hb:0<=b/\b<=2)(hc:0<=c/\c<=2)(hd:0<=d/\d<=2)(he:0<=e/\e<=2)(hf:0<=f/\f<=2):nR [.ref ti] S=.ok (.pv (.int (D2 a b 1 c d 1 e f 1))) S:=by
 have id:(c-a)*(f-b)-(d-b)*(e-a)=D2 a b 1 c d 1 e f 1:=by
  unfold D2;grind
 have b1:Bd 10 (c-a):=vD (by omega) (by omega);have b2:Bd 10 (d-b):=vD (by omega) (by omega);have b3:Bd 10 (e-a):=vD (by omega) (by omega);have b4:Bd 10 (f-b):=vD (by omega) (by omega);have m1:=gC b1 b4;have m2:=gC b2 b3;generalize D2 a b 1 c d 1 e f 1=D at *;have s1:=rO (lv [a,b]) [lv [c,d],lv [e,f]];have et:kX [.pv (.lst [.lst [.int (c-a),.int (d-b)],.lst [.int (e-a),.int (f-b)]])] S=.ok (.pv (.int D)) S:=by
  unfold kX aR rC;simp! [aE,aZ,aY,aP,aO,aN,aL,aM,aF,aK,m1,m2,id]
 unfold nR aR vU;simp only[lv,li,aw,ck]at h s1;simp! [aE,aZ,aY,aP,aO,aN,aL,aM,aF,aK,bF,bA,cC,dB,dD,dA,fO,h,s1,cJ,eA,dX,gN,gT,bO,dE,iS,mG,fZ,et]
theorem abZ{S:aH}{ti:Nat}{x0 y0 z0 x1 y1 z1 x2 y2 z2 x3 y3 z3:Int}(h:S[ti]?=some (.lst [lv [x0,y0,z0],lv [x1,y1,z1],lv [x2,y2,z2],lv [x3,y3,z3]]))(hb:∀x∈[x0,y0,z0,x1,y1,z1,x2,y2,z2,x3,y3,z3],0<=x/\x<=2):nR [.ref ti] S=.ok (.pv (.int (D3 x0 y0 z0 1 x1 y1 z1 1 x2 y2 z2 1 x3 y3 z3 1))) S:=by
 have id:dt [(y1-y0)*(z2-z0)-(z1-z0)*(y2-y0),(z1-z0)*(x2-x0)-(x1-x0)*(z2-z0),(x1-x0)*(y2-y0)-(y1-y0)*(x2-x0)] [x3-x0,y3-y0,z3-z0]=D3 x0 y0 z0 1 x1 y1 z1 1 x2 y2 z2 1 x3 y3 z3 1:=by
  simp only[dt,D3,yw,yx,ug,yy];grind
 simp only[cq,fg,or_false,forall_eq_or_imp,forall_eq]at hb;have q:∀{a b:Int},(0<=a/\a<=2)->(0<=b/\b<=2)->Bd 10 (a-b):=λh g=>vD (by omega) (by omega);obtain⟨hx0,hy0,hz0,hx1,hy1,hz1,hx2,hy2,hz2,hx3,hy3,hz3⟩:=hb;have b1:=q hx1 hx0;have b2:=q hy1 hy0;have b3:=q hz1 hz0;have b4:=q hx2 hx0;have b5:=q hy2 hy0;have b6:=q hz2 hz0;have b7:=q hx3 hx0;have b8:=q hy3 hy0;have b9:=q hz3 hz0;clear hx0 hy0 hz0 hx1 hy1 hz1 hx2 hy2 hz2 hx3 hy3 hz3 q;generalize D3 x0 y0 z0 1 x1 y1 z1 1 x2 y2 z2 1 x3 y3 z3 1=D at *;have s1:=rO (lv [x0,y0,z0]) [lv [x1,y1,z1],lv [x2,y2,z2],lv [x3,y3,z3]];have et:kX [.pv (.lst [.lst [.int (x1-x0),.int (y1-y0),.int (z1-z0)],.lst [.int (x2-x0),.int (y2-y0),.int (z2-z0)],.lst [.int (x3-x0),.int (y3-y0),.int (z3-z0)]])] S=.ok (.pv (.int D)) S:=by
  generalize z3-z0=T2,y3-y0=T1,x3-x0=T0,z2-z0=V2,y2-y0=V1,x2-x0=V0,z1-z0=U2,y1-y0=U1,x1-x0=U0 at *;have u:∀{a:Int},Bd 10 a->Bd 10000 a:=λh=>h.mono (by decide);have u2:∀{a:Int},Bd 10 a->Bd 100000 a:=λh=>h.mono (by decide);have cc:∀{a b c d:Int},Bd 10 a->Bd 10 b->Bd 10 c->Bd 10 d->Bd 100000 (a*b-c*d):=λh1 h2 h3 h4=>(((h1.mul h2).mono (show 10+10<=20 by decide)).sub ((h3.mul h4).mono (show 10+10<=20 by decide))).mono (by decide);have en:=Rc (A:=.lst [.int U0,.int U1,.int U2]) (B:=.lst [.int V0,.int V1,.int V2]) S rfl rfl (u b1) (u b2) (u b3) (u b4) (u b5) (u b6);have ed:=Ee (A:=.lst [.int (U1*V2-U2*V1),.int (U2*V0-U0*V2),.int (U0*V1-U1*V0)]) (B:=.lst [.int T0,.int T1,.int T2]) (us:=[U1*V2-U2*V1,U2*V0-U0*V2,U0*V1-U1*V0]) (vs:=[T0,T1,T2]) S (.inl rfl) (.inl rfl) (by simp;exact⟨cc b2 b6 b3 b5,cc b3 b4 b1 b6,cc b1 b5 b2 b4⟩) (by simp;exact⟨u2 b7,u2 b8,u2 b9⟩);rw[id]at ed;generalize U0*V1-U1*V0=N2,U2*V0-U0*V2=N1,U1*V2-U2*V1=N0 at *;unfold kX aR rC;simp! [aE,aZ,aY,aP,aO,aN,aL,aM,aF,aK,en,ed]
 unfold nR aR vU;simp only[lv,li,aw,ck]at h s1;simp! [aE,aZ,aY,aP,aO,aN,aL,aM,aF,aK,bF,bA,cC,dB,dD,dA,fO,h,s1,cJ,eA,dX,gN,gT,bO,dE,iS,mG,fZ,et]
theorem adR{n:Nat}(hn:n=2\/n=3){S:aH}{ti:Nat}{L:AS}(h:S[ti]?=some (.lst (L.map lv)))(hl:L.length=n+1)(hb:∀xs∈L,xs.length=n/\∀x∈xs,0<=x/\x<=2):nR [.ref ti] S=.ok (.pv (.int (dU (L.map (·++[1]))))) S:=by
 rcases hn with rfl |rfl
 .match L,hl,hb,h with
  |[A,B,C],_,hb,h=>
   have ga:=hb A (by simp);have gb:=hb B (by simp);have gc:=hb C (by simp);clear hb
   match A,ga.1,B,gb.1,C,gc.1 with
   |[a,b],_,[c,d],_,[e,f],_=>exact acP h (ga.2 a (by simp)) (ga.2 b (by simp)) (gb.2 c (by simp)) (gb.2 d (by simp)) (gc.2 e (by simp)) (gc.2 f (by simp))
 .match L,hl,hb,h with
  |[A,B,C,D],_,hb,h=>
   have ga:=hb A (by simp);have gb:=hb B (by simp);have gc:=hb C (by simp);have gd:=hb D (by simp);clear hb
   match A,ga.1,B,gb.1,C,gc.1,D,gd.1 with
   |[x0,y0,z0],_,[x1,y1,z1],_,[x2,y2,z2],_,[x3,y3,z3],_=>
    refine abZ h λx hx=>?_;rw[show[x0,y0,z0,x1,y1,z1,x2,y2,z2,x3,y3,z3]=[x0,y0,z0]++([x1,y1,z1]++([x2,y2,z2]++[x3,y3,z3])) from rfl]at hx;rcases cj.mp hx with z |z
    .exact ga.2 x z
    .rcases cj.mp z with z |z
     .exact gb.2 x z
     .rcases cj.mp z with z |z
      .exact gc.2 x z
      .exact gd.2 x z
def sL(n:Nat):AS:=if n=2 then[[0,0],[1,0],[0,1]] else[[0,0,0],[1,0,0],[0,1,0],[0,0,1]]
theorem ab4{n:Nat}(hn:n=2\/n=3):Rw n (sL n):=by
 rcases hn with rfl |rfl
 .exact⟨rfl,by decide,by decide,by decide⟩
 .exact⟨rfl,by decide,by decide,by decide⟩
theorem rgm(S:aH){n:Nat}(h:n<=9):zB [.pv (.int (-1)),.pv (.int (n:Int))] S=.ok (dH (-1) (n+1),[]) S:=by
 have e:zB [.pv (.int (-1)),.pv (.int (n:Int))] S=@ite _ ((-4611686018427387904<=(-1:Int)/\(-1:Int)<4611686018427387904/\-4611686018427387904<=(n:Int)/\(n:Int)<4611686018427387904)/\(n:Int)- -1<=16777216) (pf _) (.ok (dH (-1) ((n:Int)- -1).toNat,[]) S) .fail:=rfl;rw[e,if_pos ⟨⟨by decide,by decide,by omega,by omega⟩,by omega⟩];rw[show((n:Int)- -1).toNat=n+1 by omega]
theorem zM{α:Type}{a:α}{S:aH}:jY (.ok a S)=.ok a S:=rfl
theorem zP{n:Nat}{v:PV}{S:aH}:frz n (.ok (.pv v) S)=.ok (.pv v) S:=rfl
theorem aaq{n:Nat}(hn:n=2\/n=3)(S:aH)(x0 x2 x3 x4:BB):bF ["_law_k"] [(1,"_law_dims")] (nV (aB (bR bU (mC (.int 1))) (aB (aA 1) aD))) (gN 0) (bF ["_law_m"] [(0,"_law_k")] (cM (aB (aA 1) aD)) (gN 0) (mR jO (aB (aC cT (aA 0) (aA 1)) aD))) [x0,some (.pv (.int (n:Int))),x2,x3,x4] S=.ok (.pv (dF (sL n))) S:=by
 have r1:=λS=>sN S (n:=n) (by omega);have r2:=λS=>rgm S (n:=n) (by omega);rcases hn with rfl |rfl
 .have c2:((2:Nat):Int)=2:=rfl
  rw[c2]at r1 r2⊢;have i1:dH 0 2=[.int 0,.int 1]:=rfl;have i2:dH (-1) (2+1)=[.int (-1),.int 0,.int 1]:=rfl;rw[i1]at r1;rw[i2]at r2;simp! [bF,cJ,cM,nV,aE,aZ,aY,aP,aO,aN,aL,aM,aF,aK,r1,r2,eA,dX,gN,jO,sL]
 .have c2:((3:Nat):Int)=3:=rfl
  rw[c2]at r1 r2⊢;have i1:dH 0 3=[.int 0,.int 1,.int 2]:=rfl;have i2:dH (-1) (3+1)=[.int (-1),.int 0,.int 1,.int 2]:=rfl;rw[i1]at r1;rw[i2]at r2;simp! [bF,cJ,cM,nV,aE,aZ,aY,aP,aO,aN,aL,aM,aF,aK,r1,r2,eA,dX,gN,jO,sL]
theorem Mu{n:Nat}(hn:n=2\/n=3){W:Int}(W0:0<=W)(W1:W<=2)(ns:AR)(hl:AZ):∃(xss:AS)(ns':AR),frz 2 (jY (mE [.ref 0,.pv (.int (n:Int)),.pv (.int W)] [.lst (li ns),.lst hl]))=.ok (.pv (dF xss)) [.lst (li ns'),.lst hl]/\Rw n xss:=by
 obtain⟨L,n1,y4,e1,l1,b1⟩:=Ho (n:=n) (by omega) W0 W1 hl (dH 0 (n+1)) [] ns none (by unfold dH;simp;omega);have hi:(dH 0 (n+1)).length=n+1:=by unfold dH;simp
 rw[hi]at l1;simp only[jq,ck]at e1;have et:=adR (ti:=2) (S:=[.lst (li n1),.lst hl,.lst (L.map lv)]) hn rfl l1 b1;have rg:=sN [.lst (li ns),.lst hl,.lst []] (n:=n+1) (by omega);have cn:((n+1:Nat):Int)=(n:Int)+1:=by omega
 rw[cn]at rg;have ed:=aaq hn [.lst (li n1),.lst hl,.lst (L.map lv)] (some (.ref 0)) (some (.pv (.int W))) (some (.ref 2)) y4;have hb:Vf=(aG (aQ 3 (eO aD))
  (aG (bJ (cM (aB (aC aF (aA 1) (mC (.int 1))) aD)) (gN 4) rB)
  (aG (bW (bH (aC lO (aJ nR [] (aB (aA 3) aD)) (mC (.int 0)))) (bD (aA 3)) cY)
  (bD (bF ["_law_k"] [(1,"_law_dims")] (nV (aB (bR bU (mC (.int 1))) (aB (aA 1) aD))) (gN 0) (bF ["_law_m"] [(0,"_law_k")] (cM (aB (aA 1) aD)) (gN 0) (mR jO (aB (aC cT (aA 0) (aA 1)) aD)))))))):=rfl
 generalize (bF ["_law_k"] [(1,"_law_dims")] (nV (aB (bR bU (mC (.int 1))) (aB (aA 1) aD))) (gN 0) (bF ["_law_m"] [(0,"_law_k")] (cM (aB (aA 1) aD)) (gN 0) (mR jO (aB (aC cT (aA 0) (aA 1)) aD))))=CD at ed hb;generalize rB=RB at e1 hb
 by_cases hd:dU (L.map (·++[1]))=0
 .refine⟨sL n,n1,?_,ab4 hn⟩
  rw[hd]at et;unfold mE aR;rw[hb];generalize (n:Int)=N,dH 0 (n+1)=IP,li n1=NL1,li ns=NL,L.map lv=LL,dF (sL n)=RV at *;simp! [aE,aZ,aY,aP,aO,aN,aL,aM,aF,aK,eO,kN,bJ,cM,rg,e1,et,ed]
 .refine⟨L,n1,?_,⟨l1,λxs hx=>(b1 xs hx).1,λxs hx x hh=>by have:=(b1 xs hx).2 x hh;omega,hd⟩⟩
  unfold mE aR;rw[hb];have hv:dF L=.lst (L.map lv):=rfl;rw[hv];generalize (n:Int)=N,dH 0 (n+1)=IP,li n1=NL1,li ns=NL,L.map lv=LL,dU (L.map (·++[1]))=d at *;simp! [aE,aZ,aY,aP,aO,aN,aL,aM,aF,aK,eO,kN,bJ,cM,rg,e1,et,hd]
abbrev hB:MS:=(aG (aQ 5 (aJ cE [] (aB (aA 0) (aB (mC (.int 6)) aD))))
 (bW (gS (bH (aC cT (aA 5) (mC (.int 5)))) (bH (aC eJ (mR cV (aB (aA 3) aD)) (mC (.int 0))))) (cZ (dG (aA 3) (aB (aC aE (aA 3) (bR bU (mC (.int 1)))) aD))) (bW (bH (aC cT (aA 1) (mC (.int 2)))) (cZ (dG (aA 3) (aB (aJ mE [] (aB (aA 0) (aB (mC (.int 2)) (aB (aC aF (mC (.int 1)) (mR jO (aB (aC cT (aA 5) (mC (.int 4))) aD))) aD)))) aD))) (bW (bH (aC eJ (aA 5) (mC (.int 3)))) (cZ (dG (aA 3) (aB (aJ mE [] (aB (aA 0) (aB (mC (.int 3)) (aB (mC (.int 1)) aD)))) aD))) (cZ (dG (aA 3) (aB (aJ rD [] (aB (aA 0) aD)) aD)))))))
theorem aeg{n:Nat}(hn:n=2\/n=3)(ns:AR)(hs:AT)(hw:∀xss∈hs,Rw n xss)(hl:hs.length<=99)(x2 x4 x5:BB):∃(xss:AS)(ns':AR)(y5:BB),hB [some (.ref 0),some (.pv (.int (n:Int))),x2,some (.ref 1),x4,x5] [.lst (li ns),.lst (hs.map dF)]=.nx [some (.ref 0),some (.pv (.int (n:Int))),x2,some (.ref 1),x4,y5] [.lst (li ns'),.lst ((hs++[xss]).map dF)]/\Rw n xss:=by
 have hr:dW [.lst (li ns),.lst (hs.map dF)] 0 ns:=rfl;obtain⟨t,n1,e1,t0,t1,_⟩:=fX (m:=6) hr (by decide) (gO (by decide) (by decide));simp only[dn]at e1;have e1:cE [.ref 0,.pv (.int 6)] [.lst (li ns),.lst (hs.map dF)]=.ok (.pv (.int t)) [.lst (li n1),.lst (hs.map dF)]:=e1;have lz:(hs.map dF).length<16777216:=by rw[aj];omega
 have lz':hs.length<16777216:=by omega
 have el:∀xss,(hs++[xss]).map dF=hs.map dF++[dF xss]:=λxss=>by simp
 by_cases c1:t=5/\0<hs.length
 .obtain⟨v,hv,e2⟩:=G3 (hs.map dF) .non (by
   intro z;have:=congrArg si z;simp at this;rw[this]at c1;simp at c1)
  obtain⟨xss,hx,rfl⟩:=ia.mp hv;refine⟨xss,n1,some (.pv (.int t)),?_,hw xss hx⟩;rw[el];obtain⟨c1,c2⟩:=c1;subst c1;have c3:hs.map dF≠[]:=λz=>by
   have:=congrArg si z;simp at this;rw[this]at c2;simp at c2
  generalize hs.map dF=HL,dF xss=RV at *;unfold hB;simp! [-frz,-jY,bC,aO,aN,aL,aM,aF,aK,e1,dG,fB,iH,e2,lz,c3]
 .have c1':t=5->hs.map dF=[]:=λz=>by
   have:hs.length=0:=by
    by_cases y:0<hs.length
    .exact absurd ⟨z,y⟩ c1
    .omega
   rw[qr.mp this];rfl
  have cA:∀(S:aH)(ρ:bZ),ρ[5]?=some (some (.pv (.int t)))->ρ[3]?=some (some (.ref 1))->S[1]?=some (.lst (hs.map dF))->gS (bH (aC cT (aA 5) (mC (.int 5)))) (bH (aC eJ (mR cV (aB (aA 3) aD)) (mC (.int 0)))) ρ S=.ok false S:=λS ρ h5 h3 hS=>by
   cases z:t==5 with
   |false=>simp! [-frz,-jY,bC,aO,aN,aL,aM,aF,aK,h5,z]
   |true=>
    rw[c1' (by simpa using z)]at hS;simp! [-frz,-jY,bC,aO,aN,aL,aM,aF,aK,h5,h3,hS,z]
  generalize hA:gS (bH (aC cT (aA 5) (mC (.int 5)))) (bH (aC eJ (mR cV (aB (aA 3) aD)) (mC (.int 0))))=MA at cA;have hBe:hB=(aG (aQ 5 (aJ cE [] (aB (aA 0) (aB (mC (.int 6)) aD))))
   (bW MA (cZ (dG (aA 3) (aB (aC aE (aA 3) (bR bU (mC (.int 1)))) aD))) (bW (bH (aC cT (aA 1) (mC (.int 2)))) (cZ (dG (aA 3) (aB (aJ mE [] (aB (aA 0) (aB (mC (.int 2)) (aB (aC aF (mC (.int 1)) (mR jO (aB (aC cT (aA 5) (mC (.int 4))) aD))) aD)))) aD))) (bW (bH (aC eJ (aA 5) (mC (.int 3)))) (cZ (dG (aA 3) (aB (aJ mE [] (aB (aA 0) (aB (mC (.int 3)) (aB (mC (.int 1)) aD)))) aD))) (cZ (dG (aA 3) (aB (aJ rD [] (aB (aA 0) aD)) aD))))))):=by rw[<-hA]
  rw[hBe];rcases hn with rfl |rfl
  .obtain⟨xss,n2,e2,hw2⟩:=Mu (n:=2) (.inl rfl) (W:=1+(if t=4 then 1 else 0)) (by split<;>decide) (by split<;>decide) n1 (hs.map dF)
   refine⟨xss,n2,some (.pv (.int t)),?_,hw2⟩;rw[el];have c2:((2:Nat):Int)=2:=rfl;rw[c2]at e2⊢;have cA':=cA [.lst (li n1),.lst (hs.map dF)] [some (.ref 0),some (.pv (.int 2)),x2,some (.ref 1),x4,some (.pv (.int t))] rfl rfl rfl;generalize hs.map dF=HL,dF xss=RV at*
   by_cases z:t=4
   .subst z
    simp! [-frz,-jY,bC,aO,aN,aL,aM,aF,aK,e1,cA',dG,fB,iH,jO,zM,zP,lz]at e2⊢;simp[e2,lz,bP.bind,cN.of]
   .rw[if_neg z]at e2
    have z':(t==4)=false:=by simpa using z
    simp! [-frz,-jY,bC,aO,aN,aL,aM,aF,aK,e1,cA',dG,fB,iH,jO,zM,zP,lz,z']at e2⊢;simp[e2,lz,bP.bind,cN.of]
  .have c3:((3:Nat):Int)=3:=rfl
   rw[c3];have cA':=cA [.lst (li n1),.lst (hs.map dF)] [some (.ref 0),some (.pv (.int 3)),x2,some (.ref 1),x4,some (.pv (.int t))] rfl rfl rfl
   by_cases z:3<t
   .obtain⟨xss,n2,e2,hw2⟩:=Mu (n:=3) (.inr rfl) (W:=1) (by decide) (by decide) n1 (hs.map dF)
    refine⟨xss,n2,some (.pv (.int t)),?_,hw2⟩;rw[el];rw[c3]at e2;generalize hs.map dF=HL,dF xss=RV at *;simp! [-frz,-jY,bC,aO,aN,aL,aM,aF,aK,e1,cA',dG,fB,iH,zM,zP,z];simp[e2,lz,bP.bind,cN.of]
   .obtain⟨xss,n2,e2,hw2⟩:=aa5 n1 (hs.map dF)
    refine⟨xss,n2,some (.pv (.int t)),?_,hw2⟩;rw[el];generalize hs.map dF=HL,dF xss=RV at *;simp! [-frz,-jY,bC,aO,aN,aL,aM,aF,aK,e1,cA',dG,fB,iH,zM,zP,z,e2,lz]
theorem Ov{n:Nat}(hn:n=2\/n=3)(x2:BB):∀(is:AZ)(hs:AT)(ns:AR)(x4 x5:BB),(∀xss∈hs,Rw n xss)->hs.length+is.length<=99->∃(hs':AT)(ns':AR)(y4 y5:BB),
  dQ [] (gN 4) hB is [some (.ref 0),some (.pv (.int (n:Int))),x2,some (.ref 1),x4,x5] [.lst (li ns),.lst (hs.map dF)]=.nx [some (.ref 0),some (.pv (.int (n:Int))),x2,some (.ref 1),y4,y5] [.lst (li ns'),.lst (hs'.map dF)]/\hs'.length=hs.length+is.length/\∀xss∈hs',Rw n xss
 |[],hs,ns,x4,x5,hw,_=>⟨hs,ns,x4,x5,fN,rfl,hw⟩
 |i::is,hs,ns,x4,x5,hw,h9=>by
  have h9:hs.length+(is.length+1)<=99:=h9;obtain⟨xss,n1,y5,e1,r1⟩:=aeg hn ns hs hw (by omega) x2 (some (.pv i)) x5;obtain⟨hs',n2,z4,z5,e2,l2,r2⟩:=Ov hn x2 is (hs++[xss]) n1 (some (.pv i)) y5 (λy hy=>by
   rcases cj.mp hy with z |z
   .exact hw y z
   .have:y=xss:=by simpa using z
    rw[this];exact r1) (by rw[av,jo];omega)
  refine⟨hs',n2,z4,z5,?_,by rw[l2,av,jo];show _=hs.length+(is.length+1);omega,r2⟩;rw[fA];simp only[gN,jc,dn];rw[e1];exact e2
theorem Uy{n M:Nat}(hn:n=2\/n=3)(hM:M<=8)(ns:AR):∃(hs:AT)(ns':AR),qM [.ref 0,.pv (.int (n:Int)),.pv (.int (M:Int))] [.lst (li ns)]=.ok (.ref 1) [.lst (li ns'),.lst (hs.map dF)]/\hs.length<=M/\∀xss∈hs,Rw n xss:=by
 have hr:dW [.lst (li ns),.lst []] 0 ns:=rfl;obtain⟨t,n1,e1,t0,t1,_⟩:=fX (m:=(M:Int)+1) hr (by omega) (gO (by omega) (by omega));simp only[dn]at e1;have e1:cE [.ref 0,.pv (.int ((M:Int)+1))] [.lst (li ns),.lst []]=.ok (.pv (.int t)) [.lst (li n1),.lst []]:=e1;obtain⟨m,rfl⟩:∃m:Nat,t=(m:Int):=⟨t.toNat,by omega⟩;have rg:=sN [.lst (li n1),.lst []] (n:=m) (by omega);have hi:(dH 0 m).length=m:=by unfold dH;simp
 obtain⟨hs,n2,y4,y5,e2,l2,r2⟩:=Ov hn (some (.pv (.int (M:Int)))) (dH 0 m) [] n1 none none (λ_ h=>absurd h fg) (by rw[hi];show 0+m<=99;omega);rw[hi]at l2;refine⟨hs,n2,?_,by rw[l2];show 0+m<=M;omega,r2⟩;simp only[ck]at e2;have hb:Na=(aG (aQ 3 (eO aD))
  (aG (bJ (cM (aB (aJ cE [] (aB (aA 0) (aB (aC aF (aA 2) (mC (.int 1))) aD))) aD)) (gN 4) hB)
  (bD (aA 3)))):=rfl
 unfold qM aR;rw[hb];generalize (M:Int)=MM,(n:Int)=N,(m:Int)=mm,dH 0 m=IP,hs.map dF=HL,hB=HB at *;simp! [aE,aZ,aY,aP,aO,aN,aL,aM,aF,aK,eO,kN,bJ,cM,e1,rg,e2]
theorem Sf{n k:Nat}{L:AR}{b:Int}(hb:0<b)(hl:L.length=n)(hL:∀x∈L,Bd k x)(bb:Bd k b):∃(zs:AR)(z:Int),low (L++[b])=zs++[z]/\Pq n k zs z/\∀j,j<n->zs.getD j 0*b=L.getD j 0*z:=by
 obtain⟨zs,z,g,e,hg,hz,g1,g2,hzl⟩:=xK L hb;have hlow:=He L hb;have hbd:=xQ (k:=k) (ns:=L++[b]) λm hm=>by
  rcases cj.mp hm with y |y
  .exact hL m y
  .have:m=b:=by simpa using y
   rw[this];exact bb
 rw[e]at hlow hbd;refine⟨zs,z,e,⟨hzl.trans hl,hz,hlow,λx hx=>hbd x (lq _ hx),hbd z (lX zs z)⟩,λj hj=>?_⟩;have hj':j<zs.length:=by omega
 have e1:L.getD j 0=g*zs.getD j 0:=by
  rw[g1];simp[cg,hj']
 rw[e1,g2];grind
structure Sp(u:Int×Int):Prop where
 p:0<u.1
 q:0<u.2
 bp:Bd 30 u.1
 bq:Bd 30 u.2
theorem p9:iI (.int 10) (.int 9)=some (.int 1000000000):=xJ (i:=10) (j:=9) ⟨by decide,by decide,by decide⟩
theorem p6:iI (.int 10) (.int 6)=some (.int 1000000):=xJ (i:=10) (j:=6) ⟨by decide,by decide,by decide⟩
theorem eM{v:Int}(h0:0<=v)(h1:v<3):∃M N:Int,aE (.lst [.int 1,.int 7,.int 1000000000]) (.int v)=some (.int M)/\aE (.lst [.int 1,.int 7,.int 1000000]) (.int v)=some (.int N)/\0<M/\M<=1000000000/\0<N/\N<=1000000:=by
 have:v=0\/v=1\/v=2:=by omega
 rcases this with rfl |rfl |rfl
 .exact⟨1,1,rfl,rfl,by decide,by decide,by decide,by decide⟩
 .exact⟨7,7,rfl,rfl,by decide,by decide,by decide,by decide⟩
 .exact⟨1000000000,1000000,rfl,rfl,by decide,by decide,by decide,by decide⟩
abbrev sB:MS:=(aG (aQ 4 (aJ cE [] (aB (aA 0) (aB (mC (.int 3)) aD))))
 (cZ (dG (aA 2) (aB (aJ uC [] (aB (aC aF (mC (.int 1)) (aJ cE [] (aB (aA 0) (aB (aC aE (mN dZ (aB (mC (.int 1)) (aB (mC (.int 7)) (aB (aC iI (mC (.int 10)) (mC (.int 9))) aD)))) (aA 4)) aD)))) (aB (aC aF (mC (.int 1)) (aJ cE [] (aB (aA 0) (aB (aC aE (mN dZ (aB (mC (.int 1)) (aB (mC (.int 7)) (aB (aC iI (mC (.int 10)) (mC (.int 6))) aD)))) (aA 4)) aD)))) aD))) aD))))
theorem aen(ns:AR)(fs:List (Int×Int))(hl:fs.length<=9)(x1 x3 x4:BB):∃(u:Int×Int)(ns':AR)(y4:BB),sB [some (.ref 0),x1,some (.ref 1),x3,x4] [.lst (li ns),.lst (fs.map fv)]=.nx [some (.ref 0),x1,some (.ref 1),x3,y4] [.lst (li ns'),.lst ((fs++[u]).map fv)]/\Sp u:=by
 have hr:∀ms,dW [.lst (li ms),.lst (fs.map fv)] 0 ms:=λ_=>rfl;obtain⟨c,n1,e1,c0,c1,_⟩:=fX (m:=3) (hr ns) (by decide) (gO (by decide) (by decide));obtain⟨M,N,em,en,M0,M1,N0,N1⟩:=eM c0 c1;have bM:Bd 8000 M:=(Bd.of (k:=30) (n:=1000000000) (by omega) (by decide)).mono (by decide);have bN:Bd 8000 N:=(Bd.of (k:=30) (n:=1000000000) (by omega) (by decide)).mono (by decide);obtain⟨t,n2,e2,t0,t1,_⟩:=fX (m:=M) (hr n1) M0 bM;obtain⟨v,n3,e3,v0,v1,_⟩:=fX (m:=N) (hr n2) N0 bN;simp only[dn]at e1 e2 e3;have bt:Bd 30 (1+t):=Bd.of (n:=1000000000) (by omega) (by decide);have bv:Bd 30 (1+v):=Bd.of (n:=1000000000) (by omega) (by decide);have nz:1+v≠0:=by omega
 have e4:=abL (1+t) (1+v) [.lst (li n3),.lst (fs.map fv)] (bt.mono (by decide)) (bv.mono (by decide));obtain⟨p,q,ef,hq,hpq⟩:=ad7 (t:=1+t) nz;obtain⟨b1,b2⟩:=adp bt bv ef;have hp:0<p:=by
  have h1:0<(1+t)*q:=bf (by omega) hq;rw[<-hpq]at h1;exact xi h1 (by omega)
 rw[ef]at e4;simp only[aw,ck]at e4;refine⟨(p,q),n3,some (.pv (.int c)),?_,⟨hp,hq,b1,b2⟩⟩;have el:(fs++[(p,q)]).map fv=fs.map fv++[.tup [.int p,.int q]]:=by simp
 rw[el];have lz:(fs.map fv).length<16777216:=by rw[aj];omega
 have e1:cE [.ref 0,.pv (.int 3)] [.lst (li ns),.lst (fs.map fv)]=.ok (.pv (.int c)) [.lst (li n1),.lst (fs.map fv)]:=e1;have e2:cE [.ref 0,.pv (.int M)] [.lst (li n1),.lst (fs.map fv)]=.ok (.pv (.int t)) [.lst (li n2),.lst (fs.map fv)]:=e2;have e3:cE [.ref 0,.pv (.int N)] [.lst (li n2),.lst (fs.map fv)]=.ok (.pv (.int v)) [.lst (li n3),.lst (fs.map fv)]:=e3;generalize fs.map fv=FL at *;unfold sB;simp! [bC,aO,aN,aL,aM,aF,aK,e1,p9,p6,em,en,e2,e3,e4,dG,fB,iH,lz]
theorem Yu(x1:BB):∀(is:AZ)(fs:List (Int×Int))(ns:AR)(x3 x4:BB),(∀u∈fs,Sp u)->fs.length+is.length<=9->∃(fs':List (Int×Int))(ns':AR)(y3 y4:BB),
  dQ [] (gN 3) sB is [some (.ref 0),x1,some (.ref 1),x3,x4] [.lst (li ns),.lst (fs.map fv)]=.nx [some (.ref 0),x1,some (.ref 1),y3,y4] [.lst (li ns'),.lst (fs'.map fv)]/\fs'.length=fs.length+is.length/\∀u∈fs',Sp u
 |[],fs,ns,x3,x4,hw,_=>⟨fs,ns,x3,x4,fN,rfl,hw⟩
 |i::is,fs,ns,x3,x4,hw,h9=>by
  have h9:fs.length+(is.length+1)<=9:=h9;obtain⟨u,n1,y4,e1,r1⟩:=aen ns fs (by omega) x1 (some (.pv i)) x4;obtain⟨fs',n2,z3,z4,e2,l2,r2⟩:=Yu x1 is (fs++[u]) n1 (some (.pv i)) y4 (λy hy=>by
   rcases cj.mp hy with z |z
   .exact hw y z
   .have:y=u:=by simpa using z
    rw[this];exact r1) (by rw[av,jo];omega)
  refine⟨fs',n2,z3,z4,?_,by rw[l2,av,jo];show _=fs.length+(is.length+1);omega,r2⟩;rw[fA];simp only[gN,jc,dn];rw[e1];exact e2
theorem Zz{n:Nat}(hn:n=2\/n=3)(ns:AR):∃(fs:List (Int×Int))(ns':AR),sY [.ref 0,.pv (.int (n:Int))] [.lst (li ns)]=.ok (.ref 1) [.lst (li ns'),.lst (fs.map fv)]/\fs.length=n/\∀u∈fs,Sp u:=by
 have hi:(dH 0 n).length=n:=by unfold dH;simp
 have rg:=sN [.lst (li ns),.lst []] (n:=n) (by omega);obtain⟨fs,n2,y3,y4,e2,l2,r2⟩:=Yu (some (.pv (.int (n:Int)))) (dH 0 n) [] ns none none (λ_ h=>absurd h fg) (by rw[hi];show 0+n<=9;omega);rw[hi]at l2;refine⟨fs,n2,?_,by rw[l2];show 0+n=n;omega,r2⟩;simp only[ck]at e2;have hb:Qa=(aG (aQ 2 (eO aD)) (aG (bJ (cM (aB (aA 1) aD)) (gN 3) sB) (bD (aA 2)))):=rfl;unfold sY aR;rw[hb];generalize (n:Int)=N,dH 0 n=IP,fs.map fv=FL,sB=SB at *;simp! [aE,aZ,aY,aP,aO,aN,aL,aM,aF,aK,eO,kN,bJ,cM,rg,e2]
def eX:List (Int×Int)->AR->AR
 |[u,v],[a,b]=>low ([a*u.1*v.2,b*v.1*u.2]++[1*u.2*v.2])
 |[u,v,t],[a,b,c]=>low ([a*u.1*(v.2*t.2),b*v.1*(u.2*t.2),c*t.1*(u.2*v.2)]++[1*u.2*v.2*t.2])
 |_,_=>[]
def Bi:List (Int×Int)->Nat->Int
 |[u,v],0=>u.1*v.2
 |[u,v],1=>v.1*u.2
 |[u,v,t],0=>u.1*(v.2*t.2)
 |[u,v,t],1=>v.1*(u.2*t.2)
 |[u,v,t],2=>t.1*(u.2*v.2)
 |_,_=>1
def Ei:List (Int×Int)->Int
 |[u,v]=>1*u.2*v.2
 |[u,v,t]=>1*u.2*v.2*t.2
 |_=>1
theorem Ld{n:Nat}(hn:n=2\/n=3)(S:aH){fs:List (Int×Int)}{xs:AR}(hf:fs.length=n)(h:∀u∈fs,Sp u)(hx:xs.length=n)(hb:∀x∈xs,-8<x/\x<8):pF [.pv (lv xs),.pv (.lst (fs.map fv))] S=.ok (.pv (tv (eX fs xs))) S/\Gu n 93 (eX fs xs)/\jP n (Bi fs) (λ_=>0) (Ei fs) (xs++[1]) (eX fs xs):=by
 have b3:∀{x:Int},-8<x/\x<8->Bd 3 x:=λh=>by
  unfold Bd;have:(2:Nat)^3=8:=rfl;omega
 have o1:Bd 1 (1:Int):=by unfold Bd;decide
 rcases hn with rfl |rfl
 .match fs,hf,h,xs,hx,hb with
  |[u,v],_,h,[a,b],_,hb=>
   have hu:=h u (by simp);have hv:=h v (by simp);have ba:=b3 (hb a (by simp));have bb:=b3 (hb b (by simp));have m1:=mk o1 hu.bq (by decide) (by decide);have m2:=mk (o1.mul hu.bq) hv.bq (by decide) (by decide);have d1:(1*u.2*v.2).fdiv u.2=v.2:=by rw[jv];exact qN (by have:=hu.q;omega)
   have d2:(1*u.2*v.2).fdiv v.2=u.2:=by rw[jv,fm];exact qN (by have:=hv.q;omega)
   have q1:iG (.int (1*u.2*v.2)) (.int u.2)=some (.int v.2):=by
    have e:=pD (i:=1*u.2*v.2) (j:=u.2) ⟨by have:=hu.q;omega,hu.bq.mono (by decide)⟩;rw[d1]at e;exact e
   have q2:iG (.int (1*u.2*v.2)) (.int v.2)=some (.int u.2):=by
    have e:=pD (i:=1*u.2*v.2) (j:=v.2) ⟨by have:=hv.q;omega,hv.bq.mono (by decide)⟩;rw[d2]at e;exact e
   have m3:=mk ba hu.bp (by decide) (by decide);have m4:=mk (ba.mul hu.bp) hv.bq (by decide) (by decide);have m5:=mk bb hv.bp (by decide) (by decide);have m6:=mk (bb.mul hv.bp) hu.bq (by decide) (by decide);have pE:0<1*u.2*v.2:=bf (bf (by decide) hu.q) hv.q;have bL:∀x∈[a*u.1*v.2,b*v.1*u.2],Bd 93 x:=by
    simp;exact⟨((ba.mul hu.bp).mul hv.bq).mono (by decide),((bb.mul hv.bp).mul hu.bq).mono (by decide)⟩
   have bE:Bd 93 (1*u.2*v.2):=((o1.mul hu.bq).mul hv.bq).mono (by decide);obtain⟨zs,z,el,Z,rel⟩:=Sf (n:=2) pE rfl bL bE;have ew:=nT ([a*u.1*v.2,b*v.1*u.2]++[1*u.2*v.2]) S (by
    intro x hx;rcases cj.mp hx with y |y
    .exact(bL x y).mono (by decide)
    .have:x=1*u.2*v.2:=by simpa using y
     rw[this];exact bE.mono (by decide))
   have es:eX [u,v] [a,b]=zs++[z]:=el;refine⟨?_,by rw[es];exact⟨zs,z,rfl,Z⟩,[a,b],1,zs,z,rfl,es,rfl,Z.len,by decide,Z.pos,λj hj=>?_⟩
   .rw[el]at ew
    rw[es];simp only[aw,ck,nj,jq]at ew;generalize hQ:1*u.2*v.2=Q at *;generalize hA:a*u.1*v.2=A at *;generalize hB:b*v.1*u.2=B at *;unfold pF aR xE;simp only[lv,li,aw,ck];simp only[tv];generalize (zs++[z]).map PV.int=ZL at *;simp only[jv]at m1 m2 hQ;simp! [aE,aZ,aY,aP,aO,aN,aL,aM,aF,aK,bJ,bA,cC,fA,fN,gN,m1,m2,bF,cJ,iS,mG,fZ,eA,dX,gT,bO,dE,m3,m4,m5,m6,q1,q2,ew]
   .have r:=rel j hj
    match j,hj with
    |0,_=>
     have r:zs.getD 0 0*(1*u.2*v.2)=a*u.1*v.2*z:=r;show zs.getD 0 0*(1*u.2*v.2*1)=(u.1*v.2*a+0*1)*z;rw[mj,r];grind
    |1,_=>
     have r:zs.getD 1 0*(1*u.2*v.2)=b*v.1*u.2*z:=r;show zs.getD 1 0*(1*u.2*v.2*1)=(v.1*u.2*b+0*1)*z;rw[mj,r];grind
 .match fs,hf,h,xs,hx,hb with
  |[u,v,t],_,h,[a,b,c],_,hb=>
   have hu:=h u (by simp);have hv:=h v (by simp);have ht:=h t (by simp);have ba:=b3 (hb a (by simp));have bb:=b3 (hb b (by simp));have bc:=b3 (hb c (by simp));have m1:=mk o1 hu.bq (by decide) (by decide);have m2:=mk (o1.mul hu.bq) hv.bq (by decide) (by decide);have m2':=mk ((o1.mul hu.bq).mul hv.bq) ht.bq (by decide) (by decide);have d1:(1*u.2*v.2*t.2).fdiv u.2=v.2*t.2:=by rw[jv,Int.mul_assoc];exact qN (by have:=hu.q;omega)
   have d2:(1*u.2*v.2*t.2).fdiv v.2=u.2*t.2:=by rw[show 1*u.2*v.2*t.2=v.2*(u.2*t.2) by grind];exact qN (by have:=hv.q;omega)
   have d3:(1*u.2*v.2*t.2).fdiv t.2=u.2*v.2:=by rw[show 1*u.2*v.2*t.2=t.2*(u.2*v.2) by grind];exact qN (by have:=ht.q;omega)
   have q1:iG (.int (1*u.2*v.2*t.2)) (.int u.2)=some (.int (v.2*t.2)):=by
    have e:=pD (i:=1*u.2*v.2*t.2) (j:=u.2) ⟨by have:=hu.q;omega,hu.bq.mono (by decide)⟩;rw[d1]at e;exact e
   have q2:iG (.int (1*u.2*v.2*t.2)) (.int v.2)=some (.int (u.2*t.2)):=by
    have e:=pD (i:=1*u.2*v.2*t.2) (j:=v.2) ⟨by have:=hv.q;omega,hv.bq.mono (by decide)⟩;rw[d2]at e;exact e
   have q3:iG (.int (1*u.2*v.2*t.2)) (.int t.2)=some (.int (u.2*v.2)):=by
    have e:=pD (i:=1*u.2*v.2*t.2) (j:=t.2) ⟨by have:=ht.q;omega,ht.bq.mono (by decide)⟩;rw[d3]at e;exact e
   have m3:=mk ba hu.bp (by decide) (by decide);have m4:=mk (ba.mul hu.bp) (hv.bq.mul ht.bq) (by decide) (by decide);have m5:=mk bb hv.bp (by decide) (by decide);have m6:=mk (bb.mul hv.bp) (hu.bq.mul ht.bq) (by decide) (by decide);have m7:=mk bc ht.bp (by decide) (by decide);have m8:=mk (bc.mul ht.bp) (hu.bq.mul hv.bq) (by decide) (by decide);have pE:0<1*u.2*v.2*t.2:=bf (bf (bf (by decide) hu.q) hv.q) ht.q;have bL:∀x∈[a*u.1*(v.2*t.2),b*v.1*(u.2*t.2),c*t.1*(u.2*v.2)],Bd 93 x:=by
    simp;exact⟨((ba.mul hu.bp).mul (hv.bq.mul ht.bq)).mono (by decide),((bb.mul hv.bp).mul (hu.bq.mul ht.bq)).mono (by decide),((bc.mul ht.bp).mul (hu.bq.mul hv.bq)).mono (by decide)⟩
   have bE:Bd 93 (1*u.2*v.2*t.2):=(((o1.mul hu.bq).mul hv.bq).mul ht.bq).mono (by decide);obtain⟨zs,z,el,Z,rel⟩:=Sf (n:=3) pE rfl bL bE;have ew:=nT ([a*u.1*(v.2*t.2),b*v.1*(u.2*t.2),c*t.1*(u.2*v.2)]++[1*u.2*v.2*t.2]) S (by
    intro x hx;rcases cj.mp hx with y |y
    .exact(bL x y).mono (by decide)
    .have:x=1*u.2*v.2*t.2:=by simpa using y
     rw[this];exact bE.mono (by decide))
   have es:eX [u,v,t] [a,b,c]=zs++[z]:=el;refine⟨?_,by rw[es];exact⟨zs,z,rfl,Z⟩,[a,b,c],1,zs,z,rfl,es,rfl,Z.len,by decide,Z.pos,λj hj=>?_⟩
   .rw[el]at ew
    rw[es];simp only[aw,ck,nj,jq]at ew;generalize hQ:1*u.2*v.2*t.2=Q at *;generalize hA:a*u.1*(v.2*t.2)=A at *;generalize hB:b*v.1*(u.2*t.2)=B at *;generalize hC:c*t.1*(u.2*v.2)=C at *;unfold pF aR xE;simp only[lv,li,aw,ck];simp only[tv];generalize (zs++[z]).map PV.int=ZL at *;simp only[jv]at m1 m2 m2' hQ;simp! [aE,aZ,aY,aP,aO,aN,aL,aM,aF,aK,bJ,bA,cC,fA,fN,gN,m1,m2,m2',bF,cJ,iS,mG,fZ,eA,dX,gT,bO,dE,m3,m4,m5,m6,m7,m8,q1,q2,q3,ew]
   .have r:=rel j hj
    match j,hj with
    |0,_=>
     have r:zs.getD 0 0*(1*u.2*v.2*t.2)=a*u.1*(v.2*t.2)*z:=r;show zs.getD 0 0*(1*u.2*v.2*t.2*1)=(u.1*(v.2*t.2)*a+0*1)*z;rw[mj,r];grind
    |1,_=>
     have r:zs.getD 1 0*(1*u.2*v.2*t.2)=b*v.1*(u.2*t.2)*z:=r;show zs.getD 1 0*(1*u.2*v.2*t.2*1)=(v.1*(u.2*t.2)*b+0*1)*z;rw[mj,r];grind
    |2,_=>
     have r:zs.getD 2 0*(1*u.2*v.2*t.2)=c*t.1*(u.2*v.2)*z:=r;show zs.getD 2 0*(1*u.2*v.2*t.2*1)=(t.1*(u.2*v.2)*c+0*1)*z;rw[mj,r];grind
theorem abj{n:Nat}(hn:n=2\/n=3){fs:List (Int×Int)}(hf:fs.length=n)(h:∀u∈fs,Sp u):0<Ei fs/\∀j,j<n->0<Bi fs j:=by
 rcases hn with rfl |rfl
 .match fs,hf,h with
  |[u,v],_,h=>
   have hu:=h u (by simp);have hv:=h v (by simp);refine⟨bf (bf (by decide) hu.q) hv.q,λj hj=>?_⟩
   match j,hj with
   |0,_=>exact bf hu.p hv.q
   |1,_=>exact bf hv.p hu.q
 .match fs,hf,h with
  |[u,v,t],_,h=>
   have hu:=h u (by simp);have hv:=h v (by simp);have ht:=h t (by simp);refine⟨bf (bf (bf (by decide) hu.q) hv.q) ht.q,λj hj=>?_⟩
   match j,hj with
   |0,_=>exact bf hu.p (bf hv.q ht.q)
   |1,_=>exact bf hv.p (bf hu.q ht.q)
   |2,_=>exact bf ht.p (bf hu.q hv.q)
theorem R4{n:Nat}(hn:n=2\/n=3){fs:List (Int×Int)}(hf:fs.length=n)(h:∀u∈fs,Sp u){xss:AS}(w:Rw n xss):dU (xss.map (eX fs))≠0:=λz=>by
 have af:∀xs∈xss,jP n (Bi fs) (λ_=>0) (Ei fs) (xs++[1]) (eX fs xs):=λxs hx=>(Ld hn [] hf h (w.l xs hx) (w.b xs hx)).2.2;have gu:∀us∈xss.map (eX fs),Gu n 93 us:=λus hu=>by
  obtain⟨xs,hx,rfl⟩:=ia.mp hu;exact(Ld hn [] hf h (w.l xs hx) (w.b xs hx)).2.1
 have p2:=uL gu;obtain⟨pe,pa⟩:=abj hn hf h;have nz:=w.nz;have wl:=w.len;clear w;rcases hn with rfl |rfl
 .match xss,wl,af,nz,p2,z with
  |[a,b,c],_,af,nz,p2,z=>
   have e:=Ww (af a (by simp)) (af b (by simp)) (af c (by simp));have z:dU [eX fs a,eX fs b,eX fs c]=0:=z;rw[z,iy]at e;exact gw (gw (qy (bf (bf (pa 0 (by decide)) (pa 1 (by decide))) pe)) nz) (qy p2) e.symm
 .match xss,wl,af,nz,p2,z with
  |[a,b,c,d],_,af,nz,p2,z=>
   have e:=Tw (af a (by simp)) (af b (by simp)) (af c (by simp)) (af d (by simp));have z:dU [eX fs a,eX fs b,eX fs c,eX fs d]=0:=z;rw[z,iy]at e;exact gw (gw (qy (bf (bf (bf (pa 0 (by decide)) (pa 1 (by decide))) (pa 2 (by decide))) pe)) nz) (qy p2) e.symm
abbrev lB:MS:=(aG (aQ 5 (aJ kI [] (aB (aA 0) (aB (mR cV (aB (aA 2) aD)) aD))))
 (cZ (dG (aA 3) (aB (aJ kT [] (aB (bF ["_law_corner"] [(5,"_law_far_here"),(2,"_law_stretch_here")] (bA (aA 4)) (gN 0) (aJ kU [] (aB (aJ pF [] (aB (aA 0) (aB (aA 2) aD))) (aB (aA 1) (aB (mC (.int 1)) aD))))) aD)) aD))))
theorem ado{n:Nat}(hn:n=2\/n=3)(ns:AR){fs:List (Int×Int)}(hf:fs.length=n)(h:∀u∈fs,Sp u)(gs:AT)(hg:gs.length<=99){xss:AS}(w:Rw n xss)(x1 x5:BB):∃(uss:AS)(ns':AR)(y5:BB),lB [some (.ref 0),x1,some (.pv (.lst (fs.map fv))),some (.ref 1),some (.pv (dF xss)),x5] [.lst (li ns),.lst (gs.map px)]=.nx [some (.ref 0),x1,some (.pv (.lst (fs.map fv))),some (.ref 1),some (.pv (dF xss)),y5] [.lst (li ns'),.lst ((gs++[uss]).map px)]/\Sx n 194 uss:=by
 have hr:dW [.lst (li ns),.lst (gs.map px)] 0 ns:=rfl;obtain⟨v,n1,e1,G⟩:=Jw n hn hr;simp only[dn]at e1;have e1:kI [.ref 0,.pv (.int (n:Int))] [.lst (li ns),.lst (gs.map px)]=.ok (.pv v) [.lst (li n1),.lst (gs.map px)]:=e1;obtain⟨ys,y,rfl,P⟩:=G;have Gf:Gu n 100 (ys++[y]):=⟨ys,y,rfl,P⟩;generalize ys++[y]=f at *;have sp:=λS xs (hx:xs∈xss)=>Ld hn S hf h (w.l xs hx) (w.b xs hx);have gu:∀us∈xss.map (eX fs),Gu n 93 us:=λus hu=>by
  obtain⟨xs,hx,rfl⟩:=ia.mp hu;exact(sp [] xs hx).2.1
 have hl:(xss.map (eX fs)).length=n+1:=by rw[aj];exact w.len
 have nz:=R4 hn hf h w;have nz2:=Ig hn (way:=1) (.inl rfl) hl gu Gf nz;have gu2:=pP (way:=1) (.inl rfl) gu Gf;have l2:((xss.map (eX fs)).map (dC 1 f)).length=n+1:=by rw[aj];exact hl
 have S1:=yH hn (k:=93+100+1) (by decide) l2 gu2 nz2;refine⟨_,n1,some (.pv (tv f)),?_,S1⟩;have el:(gs++[dR ((xss.map (eX fs)).map (dC 1 f))]).map px=gs.map px++[px (dR ((xss.map (eX fs)).map (dC 1 f)))]:=by simp
 rw[el];have lz:(gs.map px).length<16777216:=by rw[aj];omega
 have ln:((fs.map fv).length:Int)=(n:Int):=by rw[aj,hf]
 have ec:cG [] (gN 0) (aJ kU [] (aB (aJ pF [] (aB (aA 0) (aB (aA 2) aD))) (aB (aA 1) (aB (mC (.int 1)) aD)))) (xss.map lv) [none,some (.pv (tv f)),some (.pv (.lst (fs.map fv)))] [.lst (li n1),.lst (gs.map px)]=.ok (xss.map λxs=>tv (dC 1 f (eX fs xs))) [.lst (li n1),.lst (gs.map px)]:=by
  refine kW (iR _) lv (λxs=>tv (dC 1 f (eX fs xs))) xss none λxs hx=>?_;have a1:=(sp [.lst (li n1),.lst (gs.map px)] xs hx).1;have a2:=Zd (way:=1) [.lst (li n1),.lst (gs.map px)] hn (.inl rfl) (sp [] xs hx).2.1 Gf (by decide) (by decide);generalize gs.map px=GL,fs.map fv=FL,tv f=T4,lv xs=T3,tv (eX fs xs)=T2,tv (dC 1 f (eX fs xs))=T1 at *;simp! [aE,aZ,aY,aP,aO,aN,aL,aM,aF,aK,a1,a2]
 have es:=Nj (uss:=(xss.map (eX fs)).map (dC 1 f)) (A:=.lst (((xss.map (eX fs)).map (dC 1 f)).map tv)) hn [.lst (li n1),.lst (gs.map px)] l2 (λus hu=>(gu2 us hu).mono (by decide)) (.inl rfl);have em:((xss.map (eX fs)).map (dC 1 f)).map tv=xss.map λxs=>tv (dC 1 f (eX fs xs)):=by rw[cw,cw];rfl
 rw[em]at es;have hv:dF xss=.lst (xss.map lv):=rfl;have hp:∀L:AS,px L=.tup (L.map tv):=λ_=>rfl;rw[hv,hp];clear S1 nz2 gu2 l2 nz hl gu sp;generalize (n:Int)=N,gs.map px=GL,fs.map fv=FL,xss.map lv=XL,(xss.map λxs=>tv (dC 1 f (eX fs xs)))=TL,(dR ((xss.map (eX fs)).map (dC 1 f))).map tv=PX at *;have e1:kI [.ref 0,.pv (.int N)] [.lst (li ns),.lst GL]=.ok (.pv (tv f)) [.lst (li n1),.lst GL]:=e1;generalize tv f=TF at *;unfold lB;simp! [aE,aZ,aY,aP,aO,aN,aL,aM,aF,aK,ln,e1,dG,fB,iH,bF,cJ,bA,cC,ec,es,lz]
theorem Jv{n:Nat}(hn:n=2\/n=3){fs:List (Int×Int)}(hf:fs.length=n)(h:∀u∈fs,Sp u)(x1:BB):∀(hs:AT)(gs:AT)(ns:AR)(x4 x5:BB),(∀xss∈hs,Rw n xss)->(∀uss∈gs,Sx n 194 uss)->gs.length+hs.length<=99->∃(gs':AT)(ns':AR)(y4 y5:BB),
  dQ [] (gN 4) lB (hs.map dF) [some (.ref 0),x1,some (.pv (.lst (fs.map fv))),some (.ref 1),x4,x5] [.lst (li ns),.lst (gs.map px)]=.nx [some (.ref 0),x1,some (.pv (.lst (fs.map fv))),some (.ref 1),y4,y5] [.lst (li ns'),.lst (gs'.map px)]/\gs'.length=gs.length+hs.length/\∀uss∈gs',Sx n 194 uss
 |[],gs,ns,x4,x5,_,hg,_=>⟨gs,ns,x4,x5,fN,rfl,hg⟩
 |xss::hs,gs,ns,x4,x5,hw,hg,h9=>by
  have h9:gs.length+(hs.length+1)<=99:=h9;obtain⟨uss,n1,y5,e1,r1⟩:=ado hn ns hf h gs (by omega) (hw xss bi) x1 x5;obtain⟨gs',n2,z4,z5,e2,l2,r2⟩:=Jv hn hf h x1 hs (gs++[uss]) n1 (some (.pv (dF xss))) y5 (λy hy=>hw y (bn _ hy)) (λy hy=>by
   rcases cj.mp hy with z |z
   .exact hg y z
   .have:y=uss:=by simpa using z
    rw[this];exact r1) (by rw[av,jo];omega)
  refine⟨gs',n2,z4,z5,?_,by rw[l2,av,jo];show _=gs.length+(hs.length+1);omega,r2⟩;rw[aw,fA];simp only[gN,jc,dn];rw[e1];exact e2
theorem aaZ{n:Nat}(hn:n=2\/n=3)(ns:AR){fs:List (Int×Int)}(hf:fs.length=n)(h:∀u∈fs,Sp u){hs:AT}(hw:∀xss∈hs,Rw n xss)(h9:hs.length<=90):∃(gs:AT)(ns':AR),tY [.ref 0,.pv (.lst (hs.map dF)),.pv (.lst (fs.map fv))] [.lst (li ns)]=.ok (.ref 1) [.lst (li ns'),.lst (gs.map px)]/\gs.length=hs.length/\∀uss∈gs,Sx n 194 uss:=by
 obtain⟨gs,n2,y4,y5,e2,l2,r2⟩:=Jv hn hf h (some (.pv (.lst (hs.map dF)))) hs [] ns none none hw (λ_ h=>absurd h fg) (by show 0+hs.length<=99;omega);refine⟨gs,n2,?_,by rw[l2];show 0+hs.length=_;omega,r2⟩;simp only[ck]at e2;have hb:Xd=(aG (aQ 3 (eO aD)) (aG (bJ (bA (aA 1)) (gN 4) lB) (bD (aA 3)))):=rfl;unfold tY aR;rw[hb];generalize fs.map fv=FL,hs.map dF=HL,gs.map px=GL,lB=LB at *;simp! [aE,aZ,aY,aP,aO,aN,aL,aM,aF,aK,eO,kN,bJ,bA,cC,e2]
def ra:AR->AR
 |[x,y,w]=>[x,y,0,w]
 |l=>l
theorem Y8(bs:List Bool):kO [.lst (bs.map .bl)]=some (.bl (bs.all id)):=by
 have e:oF (bs.map PV.bl)=some bs:=by
  induction bs with
  |nil=>rfl
  |cons v L ih=>
   show(match oF (L.map PV.bl)with |some bs=>some (v::bs) |none=>none)=_
   rw[ih]
 simp only[kO,e,yu]
def bd(p:List Nat):List Nat:=if p.head?=some 45 then p.tail else p
def kE(k:AS):PV:=.tup (k.map λr:AR=>PV.tup (r.map PV.int))
theorem Lf{k l:AS}(h:kE k=kE l):k=l:=qV (n:=true) h
abbrev cS:Type:=AS×Int
def cX:List cS->AS->Int
 |[],_=>0
 |c::C,k=>(if c.1=k then c.2 else 0)+cX C k
theorem qR(C D:List cS)(k:AS):cX (C++D) k=cX C k+cX D k:=by
 induction C with
 |nil=>simp[cX]
 |cons c C ih=>simp[cX,ih];omega
def nJ:BA->Int
 |some (.int i)=>i
 |_=>0
def gH(kvs:List (PV×PV))(c:cS):List (PV×PV):=gU kvs (kE c.1) (.int (nJ (fL kvs (kE c.1))+c.2))
def fE(kvs:List (PV×PV))(C:List cS):List (PV×PV):=C.foldl gH kvs
theorem kY(kvs:List (PV×PV))(C D:List cS):fE (fE kvs C) D=fE kvs (C++D):=by
 unfold fE;rw[List.foldl_append]
theorem At{kvs:List (PV×PV)}(nd:(kvs.map (·.1)).Nodup){i j:Nat}{k v w:PV}(h1:kvs[i]?=some (k,v))(h2:kvs[j]?=some (k,w)):i=j:=by
 have e1:(kvs.map (·.1))[i]?=some k:=by rw[bo,h1];rfl
 have e2:(kvs.map (·.1))[j]?=some k:=by rw[bo,h2];rfl
 exact(List.getElem?_inj (br.mp e1).1 nd).mp (e1.trans e2.symm)
theorem nU{kvs:List (PV×PV)}(nd:(kvs.map (·.1)).Nodup){k v:PV}(h:(k,v)∈kvs):fL kvs k=some v:=by
 obtain⟨i,hi⟩:=qz.mp h;obtain⟨j,hj⟩:=Ze (kvs:=kvs) (k:=k) (i:=i) (by rw[bo,hi];rfl);obtain⟨w,hw⟩:=mT hj;have e:=At nd hw hi;subst e;unfold fL;rw[hj];simp[hi]
theorem F5{kvs:List (PV×PV)}{k:PV}(h:∀v,(k,v)∉kvs):fL kvs k=none:=by
 unfold fL;cases z:jC kvs k with
 |none=>rfl
 |some i=>
  obtain⟨v,hv⟩:=mT z;exact absurd (dg hv) (h v)
theorem Qc{kvs:List (PV×PV)}(nd:(kvs.map (·.1)).Nodup){k v:PV}(x:PV×PV):x∈gU kvs k v↔(x=(k,v))\/(x.1≠k/\x∈kvs):=by
 unfold gU;cases z:jC kvs k with
 |none=>
  dsimp only;rw[cj,List.mem_singleton];constructor
  .rintro(h |h)
   .refine .inr ⟨λe=>?_,h⟩
    obtain⟨i,hi⟩:=qz.mp h;exact Hc z i (by rw[bo,hi,<-e];rfl)
   .exact .inl h
  .rintro(h |h)
   .exact .inr h
   .exact .inl h.2
 |some i=>
  dsimp only;obtain⟨w,hw⟩:=mT z;have hi:=(br.mp hw).1;constructor
  .intro h
   obtain⟨j,hj⟩:=qz.mp h;rw[uq]at hj
   by_cases e:i=j
   .subst e
    rw[if_pos rfl,if_pos hi]at hj;exact .inl (ce hj).symm
   .rw[if_neg e]at hj
    refine .inr ⟨λek=>e (At nd hw (w:=x.2) (by rw[hj,<-ek])),dg hj⟩
  .rintro(h |⟨h1,h2⟩)
   .rw[h]
    exact dg (dj hi)
   .obtain⟨j,hj⟩:=qz.mp h2
    have e:i≠j:=λe=>by
     subst e;rw[hw]at hj;cases hj;exact h1 rfl
    exact dg (i:=j) (by rw[fj e];exact hj)
theorem qZ{kvs:List (PV×PV)}(nd:(kvs.map (·.1)).Nodup){k v:PV}:((gU kvs k v).map (·.1)).Nodup/\(gU kvs k v).length<=kvs.length+1:=by
 unfold gU;cases z:jC kvs k with
 |none=>
  dsimp only;refine⟨?_,by rw[av];exact ak _⟩;rw[du,qp];refine⟨nd,by simp,λa ha b hb=>?_⟩;have hb:b=k:=by simpa using hb
  rintro rfl
  subst hb;obtain⟨i,hi⟩:=qz.mp ha;exact Hc z i hi
 |some i=>
  dsimp only;obtain⟨w,hw⟩:=mT z;refine⟨?_,by rw[fk];exact my _⟩;have e:(kvs.set i (k,v)).map (·.1)=kvs.map (·.1):=by
   rw[qs];refine kq λt=>?_;rw[uq];split
   .rename_i ht
    subst ht;rw[if_pos (by rw[aj];exact(br.mp hw).1),bo,hw];rfl
   .rfl
  rw[e];exact nd
structure Tb(kvs:List (PV×PV))(C:List cS):Prop where
 int:∀x∈kvs,∃k i,x=(kE k,.int i)
 nd:(kvs.map (·.1)).Nodup
 val:∀k,(kE k,PV.int (cX C k))∈kvs\/((∀v,(kE k,v)∉kvs)/\cX C k=0)
 len:kvs.length<=C.length
theorem Tb.nil:Tb [] []:=⟨λ_ h=>absurd h fg,qq,λk=>.inr ⟨λ_ h=>absurd h fg,rfl⟩,ak _⟩
theorem Tb.get{kvs:List (PV×PV)}{C:List cS}(h:Tb kvs C)(k:AS):fL kvs (kE k)=some (.int (cX C k))\/(fL kvs (kE k)=none/\cX C k=0):=by
 rcases h.val k with e |⟨e,z⟩
 .exact .inl (nU h.nd e)
 .exact .inr ⟨F5 e,z⟩
theorem Tb.vint{kvs:List (PV×PV)}{C:List cS}(h:Tb kvs C)(k:AS):nJ (fL kvs (kE k))=cX C k:=by
 rcases h.get k with e |⟨e,z⟩
 .rw[e];rfl
 .rw[e,z];rfl
theorem Tb.add{kvs:List (PV×PV)}{C:List cS}(h:Tb kvs C)(c:cS):Tb (gH kvs c) (C++[c]):=by
 have hm:=λx=>Qc h.nd (k:=kE c.1) (v:=.int (cX C c.1+c.2)) x;have en:=qZ h.nd (k:=kE c.1) (v:=.int (cX C c.1+c.2));unfold gH;rw[h.vint];have sm:∀k,cX (C++[c]) k=cX C k+if c.1=k then c.2 else 0:=λk=>by rw[qR];simp[cX]
 refine⟨λx hx=>?_,en.1,λk=>?_,by rw[av];exact ft en.2 (xb h.len)⟩
 .rcases(hm x).mp hx with e |⟨_,e⟩
  .exact⟨_,_,e⟩
  .exact h.int x e
 .rw[sm]
  by_cases e:c.1=k
  .subst e
   rw[if_pos rfl];exact .inl ((hm _).mpr (.inl rfl))
  .rw[if_neg e,Int.add_zero]
   have ne:kE k≠kE c.1:=λz=>e (Lf z).symm;rcases h.val k with g |⟨g,z⟩
   .exact .inl ((hm _).mpr (.inr ⟨ne,g⟩))
   .refine .inr ⟨λv hv=>?_,z⟩
    rcases(hm _).mp hv with q |⟨_,q⟩
    .exact ne (congrArg Prod.fst q)
    .exact g v q
theorem Tb.adds{kvs:List (PV×PV)}{C:List cS}(h:Tb kvs C):∀D:List cS,Tb (fE kvs D) (C++D)
 |[]=>by rw[ja];exact h
 |c::D=>by
  have:=(h.add c).adds D;rw[ix]at this;exact this
theorem Uk:∀{L:List (PV×PV)},(∀x∈L,∃k i,x=(kE k,.int i))->∃is,kH (L.map (·.2))=some is/\∀b:Int,b∈is↔∃k,(kE k,PV.int b)∈L
 |[],_=>⟨[],rfl,λb=>by simp⟩
 |x::L,h=>by
  obtain⟨is,e,g⟩:=Uk (L:=L) λy hy=>h y (bn _ hy);obtain⟨k,i,rfl⟩:=h x bi;refine⟨i::is,by rw[aw];show(match kH (L.map (·.2))with |some bs=>some (i::bs) |none=>none)=_;rw[e],λb=>?_⟩
  rw[cq,g];constructor
  .rintro(rfl |⟨k',h'⟩)
   .exact⟨k,bi⟩
   .exact⟨k',bn _ h'⟩
  .rintro⟨k',h'⟩
   rcases cq.mp h' with q |q
   .have q2:=congrArg Prod.snd q
    injection q2 with q2;exact .inl q2
   .exact .inr ⟨k',q⟩
theorem acy{kvs:List (PV×PV)}{C:List cS}(h:Tb kvs C):∃b,uO (.ref 0) [.dic true kvs]=.ok (.pv (.bl b)) [.dic true kvs]/\(b=false↔∀k,cX C k=0):=by
 obtain⟨is,e,g⟩:=Uk h.int;refine⟨is.any (· !=0),by unfold uO;simp[e],?_⟩;rw[zn];constructor
 .intro z k
  rcases h.val k with m |⟨_,m⟩
  .have:=z _ ((g _).mpr ⟨k,m⟩)
   simpa using this
  .exact m
 .intro z b hb
  obtain⟨k,hk⟩:=(g b).mp hb;rcases h.val k with m |⟨m,_⟩
  .have e1:=nU h.nd m
   have e2:=nU h.nd hk;rw[e1]at e2;have e3:cX C k=b:=by injection e2 with e2;injection e2
   rw[<-e3,z k];simp
  .exact absurd hk (m _)
theorem R9{kvs:List (PV×PV)}{C:List cS}(h:Tb kvs C)(k:AS):kM (.ref 0) (.pv (kE k)) [.dic true kvs] (some (.pv (.int 0)))=.ok (.pv (.int (cX C k))) [.dic true kvs]:=by
 unfold kM;simp only[kr];rw[if_pos ⟨k,rfl⟩];rcases h.get k with e |⟨e,z⟩
 .rw[e]
 .rw[e,z]
theorem O3{kvs:List (PV×PV)}{C:List cS}(h:Tb kvs C)(hl:C.length<=100000)(k:AS)(m:Int):lE (.ref 0) (.pv (kE k)) (.pv (.int (cX C k+m))) [.dic true kvs]=.ok (.pv .non) [.dic true (gH kvs (k,m))]:=by
 unfold lE gH;simp only[kr];have:=h.len;rw[if_pos ⟨⟨k,rfl⟩,by omega⟩,h.vint];rfl
def dS:AR->Int
 |[]=>0
 |n::r=>if n=0 then dS r else sg n
def bB(ns:AR):AR:=(low ns).map (dS ns*·)
theorem Lm(S:aH):∀(ns:AR)(x:BB),fU [] (gN 0) (bH (aC lO (aA 0) (mC (.int 0)))) (aA 0) (ns.map .int) [x] S=.ok ((ns.filter (λx=>!decide (x=0))).map .int) S
 |[],x=>Fz
 |n::ns,x=>by
  have ih:=Lm S ns (some (.pv (.int n)));show fU [] _ _ _ (.int n::ns.map .int) _ S=_;rw[Az]
  by_cases h:n=0
  .subst h
   simp! [gN,aE,aZ,aY,aP,aO,aN,aL,aM,aF,aK,ih]
  .have hb:(!n==0)=true:=by simpa using h
   simp! [gN,aE,aZ,aY,aP,aO,aN,aL,aM,aF,aK,hb,ih,h]
theorem Jl:∀{ns:AR},(∃n∈ns,n≠0)->∃m L,ns.filter (λx=>!decide (x=0))=m::L/\sg m=dS ns
 |[],h=>by
  obtain⟨n,h,_⟩:=h;cases h
 |n::ns,h=>by
  by_cases e:n=0
  .subst e
   obtain⟨m,L,e1,e2⟩:=Jl (ns:=ns) (by
    obtain⟨k,hk,nk⟩:=h;rcases cq.mp hk with rfl |hk
    .exact absurd rfl nk
    .exact⟨k,hk,nk⟩)
   exact⟨m,L,by simpa using e1,by rw[e2];simp[dS]⟩
  .exact⟨n,ns.filter (λx=>!decide (x=0)),by simp[e],by simp[dS,e]⟩
theorem adA{ns:AR}(h:∃n∈ns,n≠0):gl ns 0≠0:=λe=>by
 obtain⟨n,hn,z⟩:=h;obtain⟨m,hm⟩:=(jX ns 0).2 n hn;rw[e]at hm;exact z (by rw[hm,iy])
theorem Ie(ns:AR)(S:aH)(hb:∀n∈ns,Bd 8000 n)(nz:∃n∈ns,n≠0):oY [.pv (.lst (ns.map .int))] S=.ok (.pv (tv (bB ns))) S:=by
 obtain⟨m,L,e1,e2⟩:=Jl nz;have ef:=Lm S ns none;rw[e1]at ef;have er:=Ik ns S hb (adA nz);have ec:=Ic S m (low ns) none;rw[e2]at ec;have i0:aE (.lst ((m::L).map .int)) (.int 0)=some (.int m):=eH (j:=0) rfl;unfold oY aR La bB;generalize (m::L).map PV.int=ML at *;simp! [bC,aO,aN,aL,aM,aF,aK,xN,bA,cC,cJ,ef,i0,er,bF,ec]
theorem Z9{ns:AR}:bB (ns.map (- ·))=bB ns:=by
 unfold bB;have hf:∀l:AR,dS (l.map (- ·))=-dS l:=λl=>by
  induction l with
  |nil=>rfl
  |cons n l ih=>
   rw[aw];unfold dS
   by_cases h:n=0
   .subst h
    simpa using ih
   .rw[if_neg h,if_neg (by omega),Tt]
 rw[M6,hf,cw];refine ee λn _=>?_;simp[AD]
def dI:AR->AR->AR
 |[x0,y0,w0],[x1,y1,w1]=>[x1*w0-x0*w1,y1*w0-y0*w1]
 |[x0,y0,z0,w0],[x1,y1,z1,w1]=>[x1*w0-x0*w1,y1*w0-y0*w1,z1*w0-z0*w1]
 |_,_=>[]
theorem iM{x0 y0 w0 x1 y1 w1:Int}:dI [x0,y0,w0] [x1,y1,w1]=[x1*w0-x0*w1,y1*w0-y0*w1]:=rfl
theorem iL{x0 y0 z0 w0 x1 y1 z1 w1:Int}:dI [x0,y0,z0,w0] [x1,y1,z1,w1]=[x1*w0-x0*w1,y1*w0-y0*w1,z1*w0-z0*w1]:=rfl
def fD:AR->AR->AR
 |[a,b,c],[d,e,f]=>[b*f-c*e,c*d-a*f,a*e-b*d]
 |_,_=>[]
theorem sF{a b c d e f:Int}:fD [a,b,c] [d,e,f]=[b*f-c*e,c*d-a*f,a*e-b*d]:=rfl
def dL:AS->AR
 |[p,q]=>(match dI p q with
  |[a,b]=>[-b,a]
  |_=>[])
 |[p,q,r]=>fD (dI p q) (dI p r)
 |_=>[]
theorem pW{p q:AR}:dL [p,q]=(match dI p q with |[a,b]=>[-b,a] |_=>[]):=rfl
theorem pX{p q r:AR}:dL [p,q,r]=fD (dI p q) (dI p r):=rfl
def sd(pi s e:AR)(n:Int):List cS:=[([pi,bB (dI s e),s],n),([pi,bB (dI s e),e],-n)]
def gM:AS->List (AR×AR)
 |[p,q]=>[(p,q)]
 |[a,b,c]=>[(c,a),(a,b),(b,c)]
 |_=>[]
def cW(w:AS)(n:Int):List cS:=(gM w).flatMap λx=>sd (bB (dL w)) x.1 x.2 n
structure Ar(s e:AR):Prop where
 eq:∀S,lU [.pv (tv s),.pv (tv e)] S=.ok (.pv (.lst ((dI s e).map .int))) S
 bd:∀n∈dI s e,Bd 8000 n
 nz:∃n∈dI s e,n≠0
theorem Ar.way{s e:AR}(h:Ar s e)(S:aH):oY [.pv (.lst ((dI s e).map .int))] S=.ok (.pv (tv (bB (dI s e)))) S:=Ie _ S h.bd h.nz
def Ji:MS:=(aG (aQ 9 (mN cU (aB (aA 3) (aB (aA 6) (aB (aA 7) aD)))))
 (kK (aA 0) (aA 9) (aC aF (pR (aA 0) (aB (aA 9) (aB (mC (.int 0)) aD))) (aA 8))))
theorem Hv{kvs:List (PV×PV)}{C:List cS}(h:Tb kvs C)(hl:C.length<=100000)(pi d p:AR)(m:Int)(w1 w2 s4 s5 x9:BB):
  Ji [some (.ref 0),w1,w2,some (.pv (tv pi)),s4,s5,some (.pv (tv d)),some (.pv (tv p)),some (.pv (.int m)),x9] [.dic true kvs]=.nx [some (.ref 0),w1,w2,some (.pv (tv pi)),s4,s5,some (.pv (tv d)),some (.pv (tv p)),some (.pv (.int m)),some (.pv (kE [pi,d,p]))] [.dic true (gH kvs ([pi,d,p],m))]:=by
 have ek:PV.tup [tv pi,tv d,tv p]=kE [pi,d,p]:=rfl;have e1:=R9 h [pi,d,p];have e2:=O3 h hl [pi,d,p] m;unfold Ji;generalize tv p=T3,tv d=T2,tv pi=T1 at *;simp! [aE,aZ,aY,aP,aO,aN,aL,aM,aF,aK,pR,uR,kK,ek,e1,e2]
def zY:MS:=(aG (aQ 6 (aJ oY [] (aB (aJ lU [] (aB (aA 4) (aB (aA 5) aD))) aD)))
 (bJ (bA (mN cU (aB (mN cU (aB (aA 4) (aB (aA 2) aD))) (aB (mN cU (aB (aA 5) (aB (bR bU (aA 2)) aD))) aD)))) (gT 2 (bO (gN 7) (bO (gN 8) dE))) Ji))
theorem ad6{kvs:List (PV×PV)}{C:List cS}(h:Tb kvs C)(hl:C.length<=90000){s e:AR}(a:Ar s e)(pi:AR)(n:Int)(w1 x6 x7 x8 x9:BB):
  ∃y6 y7 y8 y9,zY [some (.ref 0),w1,some (.pv (.int n)),some (.pv (tv pi)),some (.pv (tv s)),some (.pv (tv e)),x6,x7,x8,x9] [.dic true kvs]=.nx [some (.ref 0),w1,some (.pv (.int n)),some (.pv (tv pi)),some (.pv (tv s)),some (.pv (tv e)),y6,y7,y8,y9] [.dic true (fE kvs (sd pi s e n))]:=by
 have h2:=h.add ([pi,bB (dI s e),s],n);have e1:=Hv h (by omega) pi (bB (dI s e)) s n w1 (some (.pv (.int n))) (some (.pv (tv s))) (some (.pv (tv e))) x9;have e2:=Hv h2 (by rw[av];simp;omega) pi (bB (dI s e)) e (-n) w1 (some (.pv (.int n))) (some (.pv (tv s))) (some (.pv (tv e))) (some (.pv (kE [pi,bB (dI s e),s])));have ea:=a.eq [.dic true kvs];have ew:=a.way [.dic true kvs];have et:fE kvs (sd pi s e n)=gH (gH kvs ([pi,bB (dI s e),s],n)) ([pi,bB (dI s e),e],-n):=rfl;rw[et];refine⟨some (.pv (tv (bB (dI s e)))),some (.pv (tv e)),some (.pv (.int (-n))),some (.pv (kE [pi,bB (dI s e),e])),?_⟩;unfold zY;generalize (dI s e).map PV.int=T5,tv pi=T4,tv (bB (dI s e))=T3,tv e=T2,tv s=T1 at *;simp! [aE,aZ,aY,aP,aO,aN,aL,aM,aF,aK,ea,ew,bJ,bA,cC,fA,fN,gT,bO,dE,gN,e1,e2]
structure Wl(w:AS):Prop where
 ln:w.length=2\/w.length=3
 ar:∀x∈gM w,Ar x.1 x.2
 pl:∀S,nQ [.pv (.tup (w.map tv))] S=.ok (.pv (tv (bB (dL w)))) S
theorem Q0{w:AS}(h:w.length=2\/w.length=3)(S:aH):uB [.pv (.tup (w.map tv))] S=.ok (.pv (.lst ((gM w).map λx=>.tup [tv x.1,tv x.2]))) S:=by
 have rg:gG [.pv (.int 3)] S=.ok ([.int 0,.int 1,.int 2],[]) S:=by
  unfold gG;dsimp only;rw[if_pos (by decide)];rfl
 unfold uB aR Qd;rcases h with h |h
 .match w,h with
  |[a,b],_=>
   generalize hA:tv a=TA;generalize hB:tv b=TB;simp! [aE,aZ,aY,aP,aO,aN,aL,aM,aF,aK,gM,hA,hB]
 .match w,h with
  |[a,b,c],_=>
   generalize hA:tv a=TA;generalize hB:tv b=TB;generalize hC:tv c=TC;simp! [aE,aZ,aY,aP,aO,aN,aL,aM,aF,aK,gM,hA,hB,hC,bF,cJ,cM,rg,eA,dX,gN]
def Ox:MS:=(aG (aQ 3 (aJ nQ [] (aB (aA 1) aD)))
 (bJ (bA (aJ uB [] (aB (aA 1) aD))) (gT 2 (bO (gN 4) (bO (gN 5) dE))) zY))
theorem Bk{kvs0:List (PV×PV)}{C:List cS}(pi:AR)(n:Int)(w1:BB):∀(L:List (AR×AR))(kvs:List (PV×PV))(D:List cS),Tb kvs (C++D)->(C++D).length+2*L.length<=90000->(∀x∈L,Ar x.1 x.2)->∀x4 x5 x6 x7 x8 x9,
  ∃y4 y5 y6 y7 y8 y9,dQ [] (gT 2 (bO (gN 4) (bO (gN 5) dE))) zY (L.map λx=>.tup [tv x.1,tv x.2]) [some (.ref 0),w1,some (.pv (.int n)),some (.pv (tv pi)),x4,x5,x6,x7,x8,x9] [.dic true kvs]=.nx [some (.ref 0),w1,some (.pv (.int n)),some (.pv (tv pi)),y4,y5,y6,y7,y8,y9] [.dic true (fE kvs (L.flatMap λx=>sd pi x.1 x.2 n))]
 |[],kvs,D,h,hl,ha,x4,x5,x6,x7,x8,x9=>⟨x4,x5,x6,x7,x8,x9,fN⟩
 |x::L,kvs,D,h,hl,ha,x4,x5,x6,x7,x8,x9=>by
  rw[cv]at hl;obtain⟨z6,z7,z8,z9,e⟩:=ad6 h (by omega) (ha x bi) pi n w1 x6 x7 x8 x9;have h2:=h.adds (sd pi x.1 x.2 n);rw[ix]at h2;obtain⟨y4,y5,y6,y7,y8,y9,e2⟩:=Bk (kvs0:=kvs0) pi n w1 L _ _ h2 (by
   rw[<-ix,av];have:(sd pi x.1 x.2 n).length=2:=rfl;omega) (λy hy=>ha y (bn _ hy)) (some (.pv (tv x.1))) (some (.pv (tv x.2))) z6 z7 z8 z9
  refine⟨y4,y5,y6,y7,y8,y9,?_⟩;rw[kY]at e2;rw[aw,fA,kj];simp[gT,bO,dE,gN,e,e2]
theorem aaI{kvs:List (PV×PV)}{C:List cS}(h:Tb kvs C)(hl:C.length<=80000){w:AS}(hw:Wl w)(n:Int):sW [.ref 0,.pv (.tup (w.map tv)),.pv (.int n)] [.dic true kvs]=.ok (.pv .non) [.dic true (fE kvs (cW w n))]:=by
 have l3:(gM w).length<=3:=by
  rcases hw.ln with e |e
  .match w,e with
   |[a,b],_=>simp[gM]
  .match w,e with
   |[a,b,c],_=>simp[gM]
 obtain⟨y4,y5,y6,y7,y8,y9,e⟩:=Bk (kvs0:=kvs) (C:=C) (bB (dL w)) n (some (.pv (.tup (w.map tv)))) (gM w) kvs [] (by rw[ja];exact h) (by rw[ja];omega) hw.ar none none none none none none;have e1:=hw.pl [.dic true kvs];have e2:=Q0 hw.ln [.dic true kvs];have hb:Va=Ox:=rfl;unfold sW aR cW;rw[hb];unfold Ox;generalize tv (bB (dL w))=T3,(gM w).map (λx=>PV.tup [tv x.1,tv x.2])=T2,PV.tup (w.map tv)=T1 at *;simp! [aE,aZ,aY,aP,aO,aN,aL,aM,aF,aK,e1,e2,bJ,bA,cC,e]
def fT:AS->AT
 |[a,b,c]=>[[a,b],[b,c],[c,a]]
 |[a,b,c,d]=>[[b,c,d],[a,d,c],[a,b,d],[a,c,b]]
 |_=>[]
def cP(uss:AS)(n:Int):List cS:=(fT uss).flatMap λw=>cW w n
def cH(hs:AT)(n:Int):List cS:=hs.flatMap λuss=>cP uss n
structure Pc(uss:AS):Prop where
 ln:uss.length=3\/uss.length=4
 wl:∀w∈fT uss,Wl w
theorem Z6{uss:AS}(h:uss.length=3\/uss.length=4)(S:aH):tT [.pv (px uss)] S=.ok (.pv (.lst ((fT uss).map λw=>.tup (w.map tv)))) S:=by
 unfold tT aR Ce;rcases h with h |h
 .match uss,h with
  |[a,b,c],_=>
   generalize hA:tv a=TA;generalize hB:tv b=TB;generalize hC:tv c=TC;simp! [aE,aZ,aY,aP,aO,aN,aL,aM,aF,aK,fT,hA,hB,hC,bF,cJ,bA,cC,eA,dX,gN]
 .match uss,h with
  |[a,b,c,d],_=>
   generalize hA:tv a=TA;generalize hB:tv b=TB;generalize hC:tv c=TC;generalize hD:tv d=TD;simp! [aE,aZ,aY,aP,aO,aN,aL,aM,aF,aK,fT,hA,hB,hC,hD,bF,cJ,bA,cC,eA,dX,gN]
theorem oA(w:AS)(n:Int):(cW w n).length<=6:=by
 unfold cW gM;split<;>simp[sd]
theorem Qt(uss:AS)(n:Int):(cP uss n).length<=24:=by
 unfold cP fT;split
 .rename_i a b c
  have h1:=oA [a,b] n;have h2:=oA [b,c] n;have h3:=oA [c,a] n;simp only[kj,AE,av,AF];omega
 .rename_i a b c d
  have h1:=oA [b,c,d] n;have h2:=oA [a,d,c] n;have h3:=oA [a,b,d] n;have h4:=oA [a,c,b] n;simp only[kj,AE,av,AF];omega
 .simp
def zN:MS:=(cZ (aJ sW [] (aB (aA 2) (aB (aA 6) (aB (aA 4) aD)))))
def Da:MS:=(bJ (bA (aJ tT [] (aB (aA 5) aD))) (gN 6) zN)
def Ki:MS:=(bJ (bA (aA 3)) (gN 5) Da)
def Gx:MS:=(aG (aQ 2 (jZ true))
 (aG (bJ (bA (mN cU (aB (mN cU (aB (aA 0) (aB (mC (.int 1)) aD))) (aB (mN cU (aB (aA 1) (aB (bR bU (mC (.int 1))) aD))) aD)))) (gT 2 (bO (gN 3) (bO (gN 4) dE))) Ki)
 (bD (bR rY (uV (aA 2))))))
theorem Hk{C:List cS}(n:Int)(a0 a1 a3 a5:BB):∀(L:AT)(kvs:List (PV×PV))(D:List cS),Tb kvs (C++D)->(C++D).length+6*L.length<=80000->(∀w∈L,Wl w)->∀x6,
  ∃y6,dQ [] (gN 6) zN (L.map λw=>.tup (w.map tv)) [a0,a1,some (.ref 0),a3,some (.pv (.int n)),a5,x6] [.dic true kvs]=.nx [a0,a1,some (.ref 0),a3,some (.pv (.int n)),a5,y6] [.dic true (fE kvs (L.flatMap λw=>cW w n))]
 |[],kvs,D,h,hl,ha,x6=>⟨x6,fN⟩
 |w::L,kvs,D,h,hl,ha,x6=>by
  rw[cv]at hl;have e:=aaI h (by omega) (ha w bi) n;have h2:=h.adds (cW w n);rw[ix]at h2;obtain⟨y6,e2⟩:=Hk n a0 a1 a3 a5 L _ _ h2 (by
   rw[<-ix,av];have:=oA w n;omega) (λy hy=>ha y (bn _ hy)) (some (.pv (.tup (w.map tv))))
  refine⟨y6,?_⟩;rw[kY]at e2;rw[aw,fA,kj];generalize PV.tup (w.map tv)=T1 at *;have e3:zN [a0,a1,some (.ref 0),a3,some (.pv (.int n)),a5,some (.pv T1)] [.dic true kvs]=.nx [a0,a1,some (.ref 0),a3,some (.pv (.int n)),a5,some (.pv T1)] [.dic true (fE kvs (cW w n))]:=by
   unfold zN;simp! [aE,aZ,aY,aP,aO,aN,aL,aM,aF,aK,e]
  simp[gN,e3,e2]
theorem Lp{C:List cS}(n:Int)(a0 a1 a3:BB):∀(L:AT)(kvs:List (PV×PV))(D:List cS),Tb kvs (C++D)->(C++D).length+24*L.length<=70000->(∀u∈L,Pc u)->∀x5 x6,
  ∃y5 y6,dQ [] (gN 5) Da (L.map px) [a0,a1,some (.ref 0),a3,some (.pv (.int n)),x5,x6] [.dic true kvs]=.nx [a0,a1,some (.ref 0),a3,some (.pv (.int n)),y5,y6] [.dic true (fE kvs (cH L n))]
 |[],kvs,D,h,hl,ha,x5,x6=>⟨x5,x6,fN⟩
 |u::L,kvs,D,h,hl,ha,x5,x6=>by
  rw[cv]at hl;have hp:=ha u bi;have lw:(fT u).length<=4:=by
   rcases hp.ln with e |e
   .match u,e with
    |[a,b,c],_=>simp[fT]
   .match u,e with
    |[a,b,c,d],_=>simp[fT]
  obtain⟨z6,e⟩:=Hk (C:=C) n a0 a1 a3 (some (.pv (px u))) (fT u) kvs D h (by omega) hp.wl x6;have e1:=Z6 hp.ln [.dic true kvs];have h2:=h.adds (cP u n);rw[ix]at h2;obtain⟨y5,y6,e2⟩:=Lp n a0 a1 a3 L _ _ h2 (by
   rw[<-ix,av];have:=Qt u n;omega) (λy hy=>ha y (bn _ hy)) (some (.pv (px u))) z6
  refine⟨y5,y6,?_⟩;rw[kY]at e2;have ec:cH (u::L) n=cP u n++cH L n:=kj;rw[aw,fA,ec];have e0:(fT u).flatMap (λw=>cW w n)=cP u n:=rfl;rw[e0]at e;generalize px u=T1,(fT u).map (λw=>PV.tup (w.map tv))=T2 at *;have e3:Da [a0,a1,some (.ref 0),a3,some (.pv (.int n)),some (.pv T1),x6] [.dic true kvs]=.nx [a0,a1,some (.ref 0),a3,some (.pv (.int n)),some (.pv T1),z6] [.dic true (fE kvs (cP u n))]:=by
   unfold Da;simp! [aE,aZ,aY,aP,aO,aN,aL,aM,aF,aK,bJ,bA,cC,e1,e]
  simp[gN,e3,e2]
theorem Lv{C:List cS}{n:Int}{a0 a1 x5 x6:BB}{A:PV}{hs:AT}{kvs:List (PV×PV)}(h:Tb kvs C)(hl:C.length+24*hs.length<=70000)(ha:∀u∈hs,Pc u)(hA:Sv A (hs.map px)):
  ∃y5 y6,Ki [a0,a1,some (.ref 0),some (.pv A),some (.pv (.int n)),x5,x6] [.dic true kvs]=.nx [a0,a1,some (.ref 0),some (.pv A),some (.pv (.int n)),y5,y6] [.dic true (fE kvs (cH hs n))]:=by
 obtain⟨y5,y6,e⟩:=Lp (C:=C) n a0 a1 (some (.pv A)) hs kvs [] (by rw[ja];exact h) (by rw[ja];exact hl) ha x5 x6;refine⟨y5,y6,?_⟩;unfold Ki;rcases hA with rfl |rfl<;>simp! [aE,aZ,aY,aP,aO,aN,aL,aM,aF,aK,bJ,bA,cC,e]
theorem abk{A B:PV}{hs gs:AT}(hA:Sv A (hs.map px))(hB:Sv B (gs.map px))(h:∀u∈hs,Pc u)(g:∀u∈gs,Pc u)(lh:hs.length<=1000)(lg:gs.length<=1000):
  ∃b,pL [.pv A,.pv B] []=.ok (.pv (.bl b)) []/\(b=true↔∀k,cX (cH hs 1++cH gs (-1)) k=0):=by
 have h0:=Tb.nil;have cl:∀(hs:AT)(n:Int),(cH hs n).length<=24*hs.length:=λhs n=>by
  induction hs with
  |nil=>simp[cH]
  |cons u hs ih=>
   have e:cH (u::hs) n=cP u n++cH hs n:=kj;rw[e,av,cv];have:=Qt u n;omega
 obtain⟨y5,y6,e1⟩:=Lv (n:=1) (a0:=some (.pv A)) (a1:=some (.pv B)) (x5:=none) (x6:=none) h0 (by simp;omega) h hA;have h1:=h0.adds (cH hs 1);rw[jq]at h1;have l1:=cl hs 1;obtain⟨z5,z6,e2⟩:=Lv (n:=-1) (a0:=some (.pv A)) (a1:=some (.pv B)) (x5:=y5) (x6:=y6) h1 (by omega) g hB;have h2:=h1.adds (cH gs (-1));obtain⟨b,e3,eb⟩:=acy h2;refine⟨!b,?_,by rw[<-eb];cases b<;>simp⟩;have hb:Bf=Gx:=rfl;unfold pL aR;rw[hb];unfold Gx;simp! [aE,aZ,aY,aP,aO,aN,aL,aM,aF,aK,jZ,bJ,bA,cC,fA,fN,gT,bO,dE,gN,e1,e2,uV,e3]
theorem ar2{x0 y0 w0 x1 y1 w1:Int}(p:P2 x0 y0 w0)(q:P2 x1 y1 w1)(nz:¬(x1*w0-x0*w1=0/\y1*w0-y0*w1=0)):Ar [x0,y0,w0] [x1,y1,w1]:=by
 refine⟨λS=>xT S p q,λn hn=>?_,?_⟩
 .have hn:n=x1*w0-x0*w1\/n=y1*w0-y0*w1:=by simpa[iM,iL]using hn
  rcases hn with rfl |rfl
  .exact(sb p.bx p.bw q.bx q.bw).mono (by decide)
  .exact(sb p.by_ p.bw q.by_ q.bw).mono (by decide)
 .by_cases h:x1*w0-x0*w1=0
  .exact⟨_,by simp[iM,iL],λh2=>nz ⟨h,h2⟩⟩
  .exact⟨_,by simp[iM,iL],h⟩
theorem Gi{x0 y0 z0 w0 x1 y1 z1 w1:Int}(p:P3 x0 y0 z0 w0)(q:P3 x1 y1 z1 w1)(nz:¬(x1*w0-x0*w1=0/\y1*w0-y0*w1=0/\z1*w0-z0*w1=0)):Ar [x0,y0,z0,w0] [x1,y1,z1,w1]:=by
 refine⟨λS=>rG S p q,λn hn=>?_,?_⟩
 .have hn:n=x1*w0-x0*w1\/n=y1*w0-y0*w1\/n=z1*w0-z0*w1:=by simpa[iM,iL]using hn
  rcases hn with rfl |rfl |rfl
  .exact(sb p.bx p.bw q.bx q.bw).mono (by decide)
  .exact(sb p.by_ p.bw q.by_ q.bw).mono (by decide)
  .exact(sb p.bz p.bw q.bz q.bw).mono (by decide)
 .by_cases h:x1*w0-x0*w1=0
  .by_cases h1:y1*w0-y0*w1=0
   .exact⟨_,by simp[iM,iL],λh2=>nz ⟨h,h1,h2⟩⟩
   .exact⟨y1*w0-y0*w1,by simp[iM,iL],h1⟩
  .exact⟨x1*w0-x0*w1,by simp[iM,iL],h⟩
theorem Ii{x0 y0 w0 x1 y1 w1:Int}(p:P2 x0 y0 w0)(q:P2 x1 y1 w1)(nz:¬(x1*w0-x0*w1=0/\y1*w0-y0*w1=0)):Wl [[x0,y0,w0],[x1,y1,w1]]:=by
 have a:=ar2 p q nz;refine⟨.inl rfl,λx hx=>?_,λS=>?_⟩
 .have hx:x=([x0,y0,w0],[x1,y1,w1]):=by simpa[gM]using hx
  subst hx;exact a
 .have e1:=xT S p q
  have e2:=Fq (x1*w0-x0*w1) (y1*w0-y0*w1) S;have e3:=Ie (dL [[x0,y0,w0],[x1,y1,w1]]) S (λn hn=>by
   have hn:n=-(y1*w0-y0*w1)\/n=x1*w0-x0*w1:=by simpa[pW,pX,iM,iL]using hn
   rcases hn with rfl |rfl
   .exact((sb p.by_ p.bw q.by_ q.bw).neg).mono (by decide)
   .exact(sb p.bx p.bw q.bx q.bw).mono (by decide)) (by
   by_cases h:x1*w0-x0*w1=0
   .exact⟨-(y1*w0-y0*w1),by simp[pW,pX,iM,iL],λh2=>nz ⟨h,by omega⟩⟩
   .exact⟨x1*w0-x0*w1,by simp[pW,pX,iM,iL],h⟩)
  have e4:(dL [[x0,y0,w0],[x1,y1,w1]]).map PV.int=[.int (-(y1*w0-y0*w1)),.int (x1*w0-x0*w1)]:=rfl;rw[e4]at e3;have i0:aE (.tup [v2 x0 y0 w0,v2 x1 y1 w1]) (.int 0)=some (v2 x0 y0 w0):=eH (j:=0) rfl;have sl:=rM (v2 x0 y0 w0) [v2 x1 y1 w1];show nQ [.pv (.tup [v2 x0 y0 w0,v2 x1 y1 w1])] S=_;generalize v2 x1 y1 w1=B,v2 x0 y0 w0=A,y1*w0-y0*w1=v,x1*w0-x0*w1=u,tv (bB (dL [[x0,y0,w0],[x1,y1,w1]]))=R at *;unfold nQ aR vT;simp! [bC,aO,aN,aL,aM,aF,aK,bF,cJ,bA,dB,dD,dA,fO,sl,cC,eA,dX,gN,i0,e1,e2,e3]
theorem zR{x0 y0 z0 w0 x1 y1 z1 w1 x2 y2 z2 w2:Int}(p:P3 x0 y0 z0 w0)(q:P3 x1 y1 z1 w1)(r:P3 x2 y2 z2 w2)(nz:∃n∈dL [[x0,y0,z0,w0],[x1,y1,z1,w1],[x2,y2,z2,w2]],n≠0):Wl [[x0,y0,z0,w0],[x1,y1,z1,w1],[x2,y2,z2,w2]]:=by
 have hn:dL [[x0,y0,z0,w0],[x1,y1,z1,w1],[x2,y2,z2,w2]]=[(y1*w0-y0*w1)*(z2*w0-z0*w2)-(z1*w0-z0*w1)*(y2*w0-y0*w2),(z1*w0-z0*w1)*(x2*w0-x0*w2)-(x1*w0-x0*w1)*(z2*w0-z0*w2),(x1*w0-x0*w1)*(y2*w0-y0*w2)-(y1*w0-y0*w1)*(x2*w0-x0*w2)]:=rfl;rw[hn]at nz;have q0:=p.pos;have q1:=q.pos;have q2:=r.pos;have n01:¬(x1*w0-x0*w1=0/\y1*w0-y0*w1=0/\z1*w0-z0*w1=0):=λ⟨h1,h2,h3⟩=>by
  obtain⟨n,hm,h⟩:=nz;rw[h1,h2,h3]at hm;simp at hm;exact h hm
 have n20:¬(x0*w2-x2*w0=0/\y0*w2-y2*w0=0/\z0*w2-z2*w0=0):=λ⟨h1,h2,h3⟩=>by
  obtain⟨n,hm,h⟩:=nz;rw[show x2*w0-x0*w2=0 by omega,show y2*w0-y0*w2=0 by omega,show z2*w0-z0*w2=0 by omega]at hm;simp at hm;exact h hm
 have n12:¬(x2*w1-x1*w2=0/\y2*w1-y1*w2=0/\z2*w1-z1*w2=0):=λ⟨h1,h2,h3⟩=>by
  obtain⟨n,hm,h⟩:=nz;have g:w1*n=0:=by
   simp only[cq,fg,or_false]at hm;rcases hm with rfl |rfl |rfl<;>grind
  rcases pw.mp g with g |g
  .omega
  .exact h g
 refine⟨.inr rfl,λx hx=>?_,λS=>?_⟩
 .have hx:x=([x2,y2,z2,w2],[x0,y0,z0,w0])\/x=([x0,y0,z0,w0],[x1,y1,z1,w1])\/x=([x1,y1,z1,w1],[x2,y2,z2,w2]):=by simpa[gM]using hx
  rcases hx with rfl |rfl |rfl
  .exact Gi r p n20
  .exact Gi p q n01
  .exact Gi q r n12
 .have e1:=rG S p q
  have e2:=rG S p r;have b1:=sb p.bx p.bw q.bx q.bw;have b2:=sb p.by_ p.bw q.by_ q.bw;have b3:=sb p.bz p.bw q.bz q.bw;have b4:=sb p.bx p.bw r.bx r.bw;have b5:=sb p.by_ p.bw r.by_ r.bw;have b6:=sb p.bz p.bw r.bz r.bw;have m:(2001:Nat)<=10000:=by decide
  have e3:=Gq S (b1.mono m) (b2.mono m) (b3.mono m) (b4.mono m) (b5.mono m) (b6.mono m);have e4:=Ie (dL [[x0,y0,z0,w0],[x1,y1,z1,w1],[x2,y2,z2,w2]]) S (λn hm=>by
   rw[hn]at hm;simp only[cq,fg,or_false]at hm;rcases hm with rfl |rfl |rfl
   .exact(cb b2 b6 b3 b5).mono (by decide)
   .exact(cb b3 b4 b1 b6).mono (by decide)
   .exact(cb b1 b5 b2 b4).mono (by decide)) (by rw[hn];exact nz)
  generalize tv (bB (dL [[x0,y0,z0,w0],[x1,y1,z1,w1],[x2,y2,z2,w2]]))=R at *;rw[hn]at e4;have i0:aE (.tup [v3 x0 y0 z0 w0,v3 x1 y1 z1 w1,v3 x2 y2 z2 w2]) (.int 0)=some (v3 x0 y0 z0 w0):=eH (j:=0) rfl;have sl:=rM (v3 x0 y0 z0 w0) [v3 x1 y1 z1 w1,v3 x2 y2 z2 w2];show nQ [.pv (.tup [v3 x0 y0 z0 w0,v3 x1 y1 z1 w1,v3 x2 y2 z2 w2])] S=_;clear nz hn n01 n12 n20 b1 b2 b3 b4 b5 b6;generalize L2.Pp.PV.tup [.int x2,.int y2,.int z2,.int w2]=T,L2.Pp.PV.tup [.int x1,.int y1,.int z1,.int w1]=B,L2.Pp.PV.tup [.int x0,.int y0,.int z0,.int w0]=A,z2*w0-z0*w2=v3,y2*w0-y0*w2=v2,x2*w0-x0*w2=v1,z1*w0-z0*w1=u3,y1*w0-y0*w1=u2,x1*w0-x0*w1=u1 at *;generalize u1*v2-u2*v1=k3,u3*v1-u1*v3=k2,u2*v3-u3*v2=k1 at *;simp only[aw,ck]at e4;unfold nQ aR vT;simp! [bC,aO,aN,aL,aM,aF,aK,bF,cJ,bA,dB,dD,dA,fO,sl,cC,eA,dX,gN,i0,e1,e2,e3,e4]
theorem xR{x0 y0 z0 w0 x1 y1 z1 w1 x2 y2 z2 w2 x3 y3 z3 w3:Int}(p0:0<w0)(d:D3 x0 y0 z0 w0 x1 y1 z1 w1 x2 y2 z2 w2 x3 y3 z3 w3≠0):∃n∈dL [[x0,y0,z0,w0],[x1,y1,z1,w1],[x2,y2,z2,w2]],n≠0:=by
 apply AG;intro h;have hz:∀n∈dL [[x0,y0,z0,w0],[x1,y1,z1,w1],[x2,y2,z2,w2]],n=0:=λn hn=>AG λc=>h ⟨n,hn,c⟩;have h1:(y1*w0-y0*w1)*(z2*w0-z0*w2)-(z1*w0-z0*w1)*(y2*w0-y0*w2)=0:=hz _ (by simp[pW,pX,sF,iM,iL]);have h2:(z1*w0-z0*w1)*(x2*w0-x0*w2)-(x1*w0-x0*w1)*(z2*w0-z0*w2)=0:=hz _ (by simp[pW,pX,sF,iM,iL]);have h3:(x1*w0-x0*w1)*(y2*w0-y0*w2)-(y1*w0-y0*w1)*(x2*w0-x0*w2)=0:=hz _ (by simp[pW,pX,sF,iM,iL]);have e:w0*w0*D3 x0 y0 z0 w0 x1 y1 z1 w1 x2 y2 z2 w2 x3 y3 z3 w3=((y1*w0-y0*w1)*(z2*w0-z0*w2)-(z1*w0-z0*w1)*(y2*w0-y0*w2))*(x3*w0-x0*w3)+((z1*w0-z0*w1)*(x2*w0-x0*w2)-(x1*w0-x0*w1)*(z2*w0-z0*w2))*(y3*w0-y0*w3)+((x1*w0-x0*w1)*(y2*w0-y0*w2)-(y1*w0-y0*w1)*(x2*w0-x0*w2))*(z3*w0-z0*w3):=by
  unfold D3;grind
 rw[h1,h2,h3,iy,iy,iy]at e;rcases pw.mp e with g |g
 .rcases pw.mp g with g |g<;>omega
 .exact d g
theorem aeL(x0 y0 z0 w0 x1 y1 z1 w1 x2 y2 z2 w2 x3 y3 z3 w3:Int):D3 x1 y1 z1 w1 x2 y2 z2 w2 x3 y3 z3 w3 x0 y0 z0 w0=-D3 x0 y0 z0 w0 x1 y1 z1 w1 x2 y2 z2 w2 x3 y3 z3 w3:=by
 unfold D3;grind
theorem aeO(x0 y0 z0 w0 x1 y1 z1 w1 x2 y2 z2 w2 x3 y3 z3 w3:Int):D3 x0 y0 z0 w0 x3 y3 z3 w3 x2 y2 z2 w2 x1 y1 z1 w1=-D3 x0 y0 z0 w0 x1 y1 z1 w1 x2 y2 z2 w2 x3 y3 z3 w3:=by
 unfold D3;grind
theorem aeS(x0 y0 z0 w0 x1 y1 z1 w1 x2 y2 z2 w2 x3 y3 z3 w3:Int):D3 x0 y0 z0 w0 x1 y1 z1 w1 x3 y3 z3 w3 x2 y2 z2 w2=-D3 x0 y0 z0 w0 x1 y1 z1 w1 x2 y2 z2 w2 x3 y3 z3 w3:=by
 unfold D3;grind
theorem aeW(x0 y0 z0 w0 x1 y1 z1 w1 x2 y2 z2 w2 x3 y3 z3 w3:Int):D3 x0 y0 z0 w0 x2 y2 z2 w2 x1 y1 z1 w1 x3 y3 z3 w3=-D3 x0 y0 z0 w0 x1 y1 z1 w1 x2 y2 z2 w2 x3 y3 z3 w3:=by
 unfold D3;grind
theorem Vv{n k:Nat}(hn:n=2\/n=3)(hk:k<=1000){uss:AS}(hl:uss.length=n+1)(hg:∀us∈uss,Gu n k us)(nz:dU uss≠0):Pc uss:=by
 rcases hn with rfl |rfl
 .match uss,hl with
  |[a,b,c],_=>
   obtain⟨x0,y0,w0,rfl,p0⟩:=(hg a (by simp)).two hk;obtain⟨x1,y1,w1,rfl,p1⟩:=(hg b (by simp)).two hk;obtain⟨x2,y2,w2,rfl,p2⟩:=(hg c (by simp)).two hk;have nz:D2 x0 y0 w0 x1 y1 w1 x2 y2 w2≠0:=nz;have q0:=p0.pos;have q1:=p1.pos;have q2:=p2.pos;refine⟨.inl rfl,λw hw=>?_⟩;have hw:w=[[x0,y0,w0],[x1,y1,w1]]\/w=[[x1,y1,w1],[x2,y2,w2]]\/w=[[x2,y2,w2],[x0,y0,w0]]:=by simpa[fT]using hw
   have key:∀{u D:Int},0<u->u*D=0->D=0:=λhu h=>by
    rcases pw.mp h with g |g
    .omega
    .exact g
   rcases hw with rfl |rfl |rfl
   .refine Ii p0 p1 λ⟨h1,h2⟩=>nz (key q0 ?_)
    have e:w0*D2 x0 y0 w0 x1 y1 w1 x2 y2 w2=(x1*w0-x0*w1)*(y2*w0-y0*w2)-(y1*w0-y0*w1)*(x2*w0-x0*w2):=by unfold D2;grind
    rw[e,h1,h2,iy,iy,yz]
   .refine Ii p1 p2 λ⟨h1,h2⟩=>nz (key q1 ?_)
    have e:w1*D2 x0 y0 w0 x1 y1 w1 x2 y2 w2=(x2*w1-x1*w2)*(y0*w1-y1*w0)-(y2*w1-y1*w2)*(x0*w1-x1*w0):=by unfold D2;grind
    rw[e,h1,h2,iy,iy,yz]
   .refine Ii p2 p0 λ⟨h1,h2⟩=>nz (key q2 ?_)
    have e:w2*D2 x0 y0 w0 x1 y1 w1 x2 y2 w2=(x0*w2-x2*w0)*(y1*w2-y2*w1)-(y0*w2-y2*w0)*(x1*w2-x2*w1):=by unfold D2;grind
    rw[e,h1,h2,iy,iy,yz]
 .match uss,hl with
  |[a,b,c,d],_=>
   obtain⟨x0,y0,z0,w0,rfl,p0⟩:=(hg a (by simp)).three hk;obtain⟨x1,y1,z1,w1,rfl,p1⟩:=(hg b (by simp)).three hk;obtain⟨x2,y2,z2,w2,rfl,p2⟩:=(hg c (by simp)).three hk;obtain⟨x3,y3,z3,w3,rfl,p3⟩:=(hg d (by simp)).three hk;have nz:D3 x0 y0 z0 w0 x1 y1 z1 w1 x2 y2 z2 w2 x3 y3 z3 w3≠0:=nz;refine⟨.inr rfl,λw hw=>?_⟩;have hw:w=[[x1,y1,z1,w1],[x2,y2,z2,w2],[x3,y3,z3,w3]]\/w=[[x0,y0,z0,w0],[x3,y3,z3,w3],[x2,y2,z2,w2]]\/w=[[x0,y0,z0,w0],[x1,y1,z1,w1],[x3,y3,z3,w3]]\/w=[[x0,y0,z0,w0],[x2,y2,z2,w2],[x1,y1,z1,w1]]:=by simpa[fT]using hw
   rcases hw with rfl |rfl |rfl |rfl
   .exact zR p1 p2 p3 (xR p1.pos (x3:=x0) (y3:=y0) (z3:=z0) (w3:=w0) (by rw[aeL];omega))
   .exact zR p0 p3 p2 (xR p0.pos (x3:=x1) (y3:=y1) (z3:=z1) (w3:=w1) (by rw[aeO];omega))
   .exact zR p0 p1 p3 (xR p0.pos (x3:=x2) (y3:=y2) (z3:=z2) (w3:=w2) (by rw[aeS];omega))
   .exact zR p0 p2 p1 (xR p0.pos (x3:=x3) (y3:=y3) (z3:=z3) (w3:=w3) (by rw[aeW];omega))
def PS(_:AS)(_:AS):Int:=0
def HS(_:AT)(_:AS):Int:=0
theorem Fv{k:Int}(h:k≠0):sg k*sg k=1:=by
 unfold sg;(repeat' split)<;>omega
theorem Fp{k:Int}(hk:0<k)(l:AR):bB (l.map (k*·))=bB l:=by
 by_cases z:gl l 0=0
 .have e:l.map (k*·)=l:=by
   have h:=Be z;clear z
   induction l with
   |nil=>rfl
   |cons n l ih=>rw[aw,ih λm hm=>h m (bn _ hm),h n (bi ..),ng]
  rw[e]
 .have hf:∀l:AR,dS (l.map (k*·))=dS l:=λl=>by
   induction l with
   |nil=>rfl
   |cons n l ih=>
    rw[aw];unfold dS
    by_cases h:n=0
    .subst h
     simpa using ih
    .rw[if_neg h,if_neg (gw (by omega) h),jL hk]
  unfold bB;rw[Ob hk l z,hf]
theorem Ep{k:Int}(hk:k≠0)(l:AR):bB (l.map (k*·))=bB l:=by
 by_cases h:0<k
 .exact Fp h l
 .have e:l.map (k*·)=(l.map ((-k)*·)).map (- ·):=by
   rw[cw];refine ee λn _=>?_;show k*n=-(-k*n);rw[oo,Int.neg_neg]
  rw[e,Z9,Fp (by omega) l]
theorem Yc{u v:AR}{a b:Int}(ha:a≠0)(hb:b≠0)(h:u.map (a*·)=v.map (b*·)):bB u=bB v:=by
 rw[<-Ep ha,h,Ep hb]
theorem W9(ns:AR):∃g:Int,ns=(bB ns).map (g*·):=by
 by_cases z:gl ns 0=0
 .have h:=Be z
  refine⟨0,?_⟩;have hl:(bB ns).length=ns.length:=by unfold bB;rw[aj,Oq]
  generalize bB ns=D at hl;clear z
  induction ns generalizing D with
  |nil=>cases D with
   |nil=>rfl
   |cons a D=>simp at hl
  |cons n ns ih=>
   cases D with
   |nil=>simp at hl
   |cons a D=>
    rw[aw,<-ih (λm hm=>h m (bn _ hm)) D (by simpa using hl),h n (bi ..),iy]
 .obtain⟨g,_,e⟩:=Wr ns
  have hf:dS ns*dS ns=1:=by
   have:∀l:AR,gl l 0≠0->dS l*dS l=1:=λl=>by
    induction l with
    |nil=>intro h;exact absurd rfl h
    |cons n l ih=>
     intro h;unfold dS
     by_cases e:n=0
     .subst e
      rw[if_pos rfl];exact ih (by simpa[gl]using h)
     .rw[if_neg e]
      exact Fv e
   exact this ns z
  refine⟨g*dS ns,?_⟩;unfold bB;rw[cw];refine e.trans ?_;refine ee λn _=>?_;show g*n=g*dS ns*(dS ns*n);grind
theorem l3{a b c d e f:Int}(h:a=d)(g:b=e)(i:c=f):[a,b,c]=[d,e,f]:=by rw[h,g,i]
theorem gx{S:aH}{x y:SO}{i:Nat}(h:S[i]?=some y):(S++[x])[i]?=some y:=by
 rw[fx (br.mp h).1];exact h
theorem gs{S:aH}{x y:SO}{i j:Nat}(h:S[i]?=some y)(n:j≠i):(S.set j x)[i]?=some y:=by
 rw[fj n];exact h
def qF(n:Nat)(u v:Int)(p q m:AR):Prop:=Pw n m/\∀j,j<=n->m.getD j 0*((u+v)*p.getD n 0*q.getD n 0)=(u*p.getD j 0*q.getD n 0+v*q.getD j 0*p.getD n 0)*m.getD n 0
theorem qF.three{u v:Int}{x0 y0 z0 w0 x1 y1 z1 w1:Int}{m:AR}(h:qF 3 u v [x0,y0,z0,w0] [x1,y1,z1,w1] m):∃x y z w,m=[x,y,z,w]/\0<w/\x*((u+v)*w0*w1)=(u*x0*w1+v*x1*w0)*w/\y*((u+v)*w0*w1)=(u*y0*w1+v*y1*w0)*w/\z*((u+v)*w0*w1)=(u*z0*w1+v*z1*w0)*w:=by
 obtain⟨x,y,z,w,rfl,p⟩:=h.1.three;exact⟨x,y,z,w,rfl,p,h.2 0 (by decide),h.2 1 (by decide),h.2 2 (by decide)⟩
theorem qF.two{u v:Int}{x0 y0 w0 x1 y1 w1:Int}{m:AR}(h:qF 2 u v [x0,y0,w0] [x1,y1,w1] m):∃x y w,m=[x,y,w]/\0<w/\x*((u+v)*w0*w1)=(u*x0*w1+v*x1*w0)*w/\y*((u+v)*w0*w1)=(u*y0*w1+v*y1*w0)*w:=by
 obtain⟨x,y,w,rfl,p⟩:=h.1.two;exact⟨x,y,w,rfl,p,h.2 0 (by decide),h.2 1 (by decide)⟩
theorem acg{n:Nat}(hn:n=2\/n=3){u v:Int}(hu:0<u)(hv:0<v){p q m:AR}{R:AS}(hl:(p::q::R).length=n+1)(hp:∀x∈p::q::R,Pw n x)(h:qF n u v p q m):(∀k,PS (m::q::R) k+PS (p::m::R) k=PS (p::q::R) k)/\sg (dU (m::q::R))=sg (dU (p::q::R))/\sg (dU (p::m::R))=sg (dU (p::q::R)):=by
 have h1:=hp p (by simp);have h2:=hp q (by simp);rcases hn with rfl |rfl
 .match R,hl with
  |[r],_=>
   have h3:=hp r (by simp);refine⟨λk=>rfl,?_⟩
   .obtain⟨x0,y0,w0,rfl,p0⟩:=h1.two
    obtain⟨x1,y1,w1,rfl,p1⟩:=h2.two;obtain⟨x2,y2,w2,rfl,p2⟩:=h3.two;obtain⟨x,y,w,rfl,p3,g1,g2⟩:=h.two;have c0:0<(u+v)*w0*w1:=bf (bf (by omega) p0) p1;have c1:(u+v)*w0*w1*D2 x y w x1 y1 w1 x2 y2 w2=u*w1*w*D2 x0 y0 w0 x1 y1 w1 x2 y2 w2:=by unfold D2;grind
    have c2:(u+v)*w0*w1*D2 x0 y0 w0 x y w x2 y2 w2=v*w0*w*D2 x0 y0 w0 x1 y1 w1 x2 y2 w2:=by unfold D2;grind
    show sg (D2 _ _ _ _ _ _ _ _ _)=sg (D2 _ _ _ _ _ _ _ _ _)/\sg (D2 _ _ _ _ _ _ _ _ _)=_;rw[<-jL c0,c1,jL (bf (bf hu p1) p3)];refine⟨rfl,?_⟩;rw[<-jL c0,c2,jL (bf (bf hv p0) p3)];rfl
 .match R,hl with
  |[r,s],_=>
   have h3:=hp r (by simp);have h4:=hp s (by simp);refine⟨λk=>rfl,?_⟩
   .obtain⟨x0,y0,z0,w0,rfl,p0⟩:=h1.three
    obtain⟨x1,y1,z1,w1,rfl,p1⟩:=h2.three;obtain⟨x2,y2,z2,w2,rfl,p2⟩:=h3.three;obtain⟨x3,y3,z3,w3,rfl,p4⟩:=h4.three;obtain⟨x,y,z,w,rfl,p3,g1,g2,g3⟩:=h.three;have c0:0<(u+v)*w0*w1:=bf (bf (by omega) p0) p1;have ex:∀(x y z w a b c d:Int),(x*a+y*b+z*c+w*d)*((u+v)*w0*w1)=x*((u+v)*w0*w1)*a+y*((u+v)*w0*w1)*b+z*((u+v)*w0*w1)*c+w*((u+v)*w0*w1)*d:=λx y z w a b c d=>by grind
    have c1:(u+v)*w0*w1*D3 x y z w x1 y1 z1 w1 x2 y2 z2 w2 x3 y3 z3 w3=u*w1*w*D3 x0 y0 z0 w0 x1 y1 z1 w1 x2 y2 z2 w2 x3 y3 z3 w3:=by
     unfold D3;grind
    have c2:(u+v)*w0*w1*D3 x0 y0 z0 w0 x y z w x2 y2 z2 w2 x3 y3 z3 w3=v*w0*w*D3 x0 y0 z0 w0 x1 y1 z1 w1 x2 y2 z2 w2 x3 y3 z3 w3:=by
     unfold D3;grind
    show sg (D3 _ _ _ _ _ _ _ _ _ _ _ _ _ _ _ _)=sg (D3 _ _ _ _ _ _ _ _ _ _ _ _ _ _ _ _)/\sg (D3 _ _ _ _ _ _ _ _ _ _ _ _ _ _ _ _)=_;rw[<-jL c0,c1,jL (bf (bf hu p1) p3)];refine⟨rfl,?_⟩;rw[<-jL c0,c2,jL (bf (bf hv p0) p3)];rfl
theorem Vc{α:Type}:∀{L:List α}{i:Nat}{x:α},L[i]?=some x->L.Perm (x::L.eraseIdx i)
 |a::L,0,x,h=>by
  simp at h;subst h;exact List.Perm.refl _
 |a::L,i+1,x,h=>((Vc (L:=L) (i:=i) (by simpa using h)).cons a).trans (List.Perm.swap x a _)
theorem Y6{α:Type}{P:List α}{i j:Nat}{p q m:α}(hij:i≠j)(hp:P[i]?=some p)(hq:P[j]?=some q):∃R,P.Perm (p::q::R)/\(P.set i m).Perm (m::q::R)/\(P.set j m).Perm (p::m::R):=by
 have one:∀{L:List α}{i:Nat}{x:α},L[i]?=some x->L.Perm (x::L.eraseIdx i):=Vc;have il:i<P.length:=(br.mp hp).1;have jl:j<P.length:=(br.mp hq).1;have s1:(P.set i m).Perm (m::P.eraseIdx i):=by
  have:=one (L:=P.set i m) (i:=i) (x:=m) (dj il);rw[za]at this;exact this
 have s2:(P.set j m).Perm (p::(P.set j m).eraseIdx i):=one (by rw[fj (ik hij)];exact hp);rcases Nat.lt_or_ge j i with c |c
 .have hq':(P.eraseIdx i)[j]?=some q:=by rw[List.getElem?_eraseIdx_of_lt c];exact hq
  have jl':j<(P.eraseIdx i).length:=(br.mp hq').1;refine⟨(P.eraseIdx i).eraseIdx j,(one hp).trans ((one hq').cons _),s1.trans ((one hq').cons _),?_⟩;rw[List.eraseIdx_set_gt c]at s2;have:=one (L:=(P.eraseIdx i).set j m) (i:=j) (x:=m) (dj jl');rw[za]at this;exact s2.trans (this.cons _)
 .have c':i<j:=by omega
  have hq':(P.eraseIdx i)[j-1]?=some q:=by rw[List.getElem?_eraseIdx_of_ge (by omega),Nat.sub_add_cancel (by omega)];exact hq
  have jl':j-1<(P.eraseIdx i).length:=(br.mp hq').1;refine⟨(P.eraseIdx i).eraseIdx (j-1),(one hp).trans ((one hq').cons _),s1.trans ((one hq').cons _),?_⟩;rw[List.eraseIdx_set_lt c']at s2;have:=one (L:=(P.eraseIdx i).set (j-1) m) (i:=j-1) (x:=m) (dj jl');rw[za]at this;exact s2.trans (this.cons _)
theorem acA{n k l:Nat}(hn:n=2\/n=3)(hkl:k<=l)(hl:l<=1000){u v:Int}(hu:0<u)(hv:0<v){P:AS}(h:Sx n k P){i j:Nat}{p q m:AR}(hij:i≠j)(hp:P[i]?=some p)(hq:P[j]?=some q)(hm:qF n u v p q m)(gm:Gu n l m):(∀kk,HS [dR (P.set i m),dR (P.set j m)] kk=PS P kk)/\Sx n l (dR (P.set i m))/\Sx n l (dR (P.set j m)):=by
 obtain⟨R,q0,q1,q2⟩:=Y6 (m:=m) hij hp hq;have g0:∀x∈p::q::R,Gu n k x:=λx hx=>h.gu x (q0.mem_iff.mpr hx);have l0:(p::q::R).length=n+1:=by rw[<-q0.length_eq];exact h.len
 have l1:(m::q::R).length=n+1:=l0;have l2:(p::m::R).length=n+1:=l0;have g1:∀x∈m::q::R,Gu n l x:=λx hx=>by
  rcases cq.mp hx with rfl |hx
  .exact gm
  .exact(g0 x (bn _ hx)).mono hkl
 have g2:∀x∈p::m::R,Gu n l x:=λx hx=>by
  rcases cq.mp hx with rfl |hx
  .exact(g0 x (by simp)).mono hkl
  .rcases cq.mp hx with rfl |hx
   .exact gm
   .exact(g0 x (by simp[hx])).mono hkl
 obtain⟨e,d1,d2⟩:=acg hn hu hv l0 (λx hx=>(g0 x hx).pt) hm;have c0:dR (p::q::R)=P:=by rw[<-vV q0 (lG hn l0)];exact h.cn
 have c1:dR (P.set i m)=dR (m::q::R):=vV q1 (lG hn l1);have c2:dR (P.set j m)=dR (p::m::R):=vV q2 (lG hn l2);have nz0:dU (p::q::R)≠0:=λz=>by
  have:=Te hn (ft hkl hl) l0 g0;rw[c0,z]at this;exact h.nz this
 have nz1:dU (m::q::R)≠0:=λz=>by
  rw[z]at d1;exact nz0 (Yd.mp d1.symm)
 have nz2:dU (p::m::R)≠0:=λz=>by
  rw[z]at d2;exact nz0 (Yd.mp d2.symm)
 rw[c1,c2];exact⟨λkk=>rfl,yH hn hl l1 g1 nz1,yH hn hl l2 g2 nz2⟩
theorem sq{a b:MS}{ρ ρ':bZ}{S S':aH}{r:cN}(h:a ρ S=.nx ρ' S')(g:b ρ' S'=r):aG a b ρ S=r:=by
 rw[aG,h];exact g
theorem uN{np n:Nat}{b:MS}{xs:BC}{S S':aH}{v:AV}{r:bP AV}(hl:xs.length=np)(h:b (jK n xs) S=.rt v S')(hc:kA S.length v S'=r):aR np n b xs S=r:=by
 unfold aR;rw[if_pos hl,h];exact hc
abbrev Di:ME:=(aC aF (aC bG (aC bG (aA 1) (aC aE (aA 4) (aA 0))) (aC aE (aA 2) (bR bU (mC (.int 1))))) (aC bG (aC bG (aA 3) (aC aE (aA 2) (aA 0))) (aC aE (aA 4) (bR bU (mC (.int 1))))))
theorem uD{S:aH}{p q:PV}{j u v x y a b:Int}{k:Nat}(hk:k<=1000)(e1:aE p (.int j)=some (.int x))(e2:aE q (.int j)=some (.int y))(e3:aE p (.int (-1))=some (.int a))(e4:aE q (.int (-1))=some (.int b))(hu:Bd 3 u)(hv:Bd 3 v)(hx:Bd k x)(hy:Bd k y)(ha:Bd k a)(hb:Bd k b):Di [some (.pv (.int j)),some (.pv (.int u)),some (.pv q),some (.pv (.int v)),some (.pv p)] S=.ok (.pv (.int (u*x*b+v*y*a))) S:=by
 have m1:=gC hu hx (by decide) (by omega);have m2:=gC (hu.mul hx) hb (by omega) (by omega);have m3:=gC hv hy (by decide) (by omega);have m4:=gC (hv.mul hy) ha (by omega) (by omega);unfold Di;simp! [bC,aO,aN,aL,aM,aF,aK,e1,e2,e3,e4,m1,m2,m3,m4]
theorem uX{k:Nat}{u v x y a b:Int}(hu:Bd 3 u)(hv:Bd 3 v)(hx:Bd k x)(hy:Bd k y)(ha:Bd k a)(hb:Bd k b):Bd (2*k+6) (u*x*b+v*y*a):=((((hu.mul hx).mul hb).mono (show 3+k+k<=2*k+3 by omega)).add (((hv.mul hy).mul ha).mono (show 3+k+k<=2*k+3 by omega))).mono (by omega)
theorem jN{n k:Nat}{us:AR}(h:Gu n k us):∀x∈us,Bd k x:=λx hx=>by
 obtain⟨xs,w,rfl,P⟩:=h;rcases cj.mp hx with h |h
 .exact P.bx x h
 .have:x=w:=by simpa using h
  rw[this];exact P.bw
theorem ads{n k:Nat}(hn:n=2\/n=3)(hk:k<=497){p q:AR}(gp:Gu n k p)(gq:Gu n k q){u v:Int}(u0:0<u)(u1:u<=3)(v0:0<v)(v1:v<=3):∃(L:AR)(a b:Int)(m:AR),L.length=n/\aE (tv p) (.int (-1))=some (.int a)/\aE (tv q) (.int (-1))=some (.int b)/\Bd k a/\Bd k b/\(∀S,cG [] (gN 0) Di (dH 0 n) [none,some (.pv (.int u)),some (.pv (tv q)),some (.pv (.int v)),some (.pv (tv p))] S=.ok (L.map .int) S)/\(∀S,jG [.pv (.lst (L.map .int++[.int ((u+v)*a*b)]))] S=.ok (.pv (tv m)) S)/\qF n u v p q m/\Gu n (2*k+6) m:=by
 have hu:Bd 3 u:=Bd.of (n:=3) (by omega) (by decide);have hv:Bd 3 v:=Bd.of (n:=3) (by omega) (by decide);have huv:Bd 6 (u+v):=Bd.of (n:=6) (by omega) (by decide);have fin:∀{L:AR}{a b:Int},L.length=n->(∀x∈L,Bd (2*k+6) x)->0<a->0<b->Bd k a->Bd k b->∃zs z,(∀S,jG [.pv (.lst (L.map .int++[.int ((u+v)*a*b)]))] S=.ok (.pv (tv (zs++[z]))) S)/\zs.length=n/\0<z/\(∀j,j<n->zs.getD j 0*((u+v)*a*b)=L.getD j 0*z)/\Gu n (2*k+6) (zs++[z]):=λ{L a b} hl hL a0 b0 ha hb=>by
  have bb:Bd (2*k+6) ((u+v)*a*b):=((huv.mul ha).mul hb).mono (by omega);obtain⟨zs,z,e1,P,e2⟩:=Sf (n:=n) (k:=2*k+6) (L:=L) (b:=(u+v)*a*b) (bf (bf (by omega) a0) b0) hl hL bb;refine⟨zs,z,λS=>?_,P.len,P.pos,e2,zs,z,rfl,P⟩;have e:=nT (L++[(u+v)*a*b]) S λx hx=>by
   rcases cj.mp hx with h |h
   .exact(hL x h).mono (by omega)
   .have:x=(u+v)*a*b:=by simpa using h
    rw[this];exact bb.mono (by omega)
  rw[e1,du]at e;exact e
 rcases hn with rfl |rfl
 .obtain⟨x0,y0,w0,rfl,P⟩:=gp.two (by omega)
  obtain⟨x1,y1,w1,rfl,Q⟩:=gq.two (by omega);have bp:Bd k x0/\Bd k y0/\Bd k w0:=⟨jN gp _ (by simp),jN gp _ (by simp),jN gp _ (by simp)⟩;have bq:Bd k x1/\Bd k y1/\Bd k w1:=⟨jN gq _ (by simp),jN gq _ (by simp),jN gq _ (by simp)⟩;obtain⟨p1,p2,p3⟩:=bp;obtain⟨q1,q2,q3⟩:=bq;obtain⟨zs,z,e1,l1,z0,e2,G⟩:=fin (L:=[u*x0*w1+v*x1*w0,u*y0*w1+v*y1*w0]) (a:=w0) (b:=w1) rfl (λx hx=>by
   simp only[cq,fg,or_false]at hx;rcases hx with rfl |rfl
   .exact uX hu hv p1 q1 p3 q3
   .exact uX hu hv p2 q2 p3 q3) P.pos Q.pos p3 q3
  have f3:aE (tv [x0,y0,w0]) (.int (-1))=some (.int w0):=rfl;have f4:aE (tv [x1,y1,w1]) (.int (-1))=some (.int w1):=rfl;refine⟨_,w0,w1,zs++[z],rfl,f3,f4,p3,q3,λS=>?_,e1,⟨⟨zs,z,rfl,l1,z0⟩,λj hj=>?_⟩,G⟩
  .have s0:=uD (S:=S) (k:=k) (by omega) (j:=0) (p:=tv [x0,y0,w0]) (q:=tv [x1,y1,w1]) rfl rfl f3 f4 hu hv p1 q1 p3 q3
   have s1:=uD (S:=S) (k:=k) (by omega) (j:=1) (p:=tv [x0,y0,w0]) (q:=tv [x1,y1,w1]) rfl rfl f3 f4 hu hv p2 q2 p3 q3;have i1:dH 0 2=[.int 0,.int 1]:=rfl;rw[i1];generalize tv [x1,y1,w1]=T2,tv [x0,y0,w0]=T1 at *;simp[eA,dX,gN,s0,s1]
  .match zs,l1 with
   |[a,b],_=>
    have h0:=e2 0 (by decide);have h1:=e2 1 (by decide)
    match j,hj with
    |0,_=>exact h0
    |1,_=>exact h1
    |2,_=>
     show z*((u+v)*w0*w1)=(u*w0*w1+v*w1*w0)*z;grind
 .obtain⟨x0,y0,t0,w0,rfl,P⟩:=gp.three (by omega)
  obtain⟨x1,y1,t1,w1,rfl,Q⟩:=gq.three (by omega);have bp:Bd k x0/\Bd k y0/\Bd k t0/\Bd k w0:=⟨jN gp _ (by simp),jN gp _ (by simp),jN gp _ (by simp),jN gp _ (by simp)⟩;have bq:Bd k x1/\Bd k y1/\Bd k t1/\Bd k w1:=⟨jN gq _ (by simp),jN gq _ (by simp),jN gq _ (by simp),jN gq _ (by simp)⟩;obtain⟨p1,p2,p4,p3⟩:=bp;obtain⟨q1,q2,q4,q3⟩:=bq;obtain⟨zs,z,e1,l1,z0,e2,G⟩:=fin (L:=[u*x0*w1+v*x1*w0,u*y0*w1+v*y1*w0,u*t0*w1+v*t1*w0]) (a:=w0) (b:=w1) rfl (λx hx=>by
   simp only[cq,fg,or_false]at hx;rcases hx with rfl |rfl |rfl
   .exact uX hu hv p1 q1 p3 q3
   .exact uX hu hv p2 q2 p3 q3
   .exact uX hu hv p4 q4 p3 q3) P.pos Q.pos p3 q3
  have f3:aE (tv [x0,y0,t0,w0]) (.int (-1))=some (.int w0):=rfl;have f4:aE (tv [x1,y1,t1,w1]) (.int (-1))=some (.int w1):=rfl;refine⟨_,w0,w1,zs++[z],rfl,f3,f4,p3,q3,λS=>?_,e1,⟨⟨zs,z,rfl,l1,z0⟩,λj hj=>?_⟩,G⟩
  .have s0:=uD (S:=S) (k:=k) (by omega) (j:=0) (p:=tv [x0,y0,t0,w0]) (q:=tv [x1,y1,t1,w1]) rfl rfl f3 f4 hu hv p1 q1 p3 q3
   have s1:=uD (S:=S) (k:=k) (by omega) (j:=1) (p:=tv [x0,y0,t0,w0]) (q:=tv [x1,y1,t1,w1]) rfl rfl f3 f4 hu hv p2 q2 p3 q3;have s2:=uD (S:=S) (k:=k) (by omega) (j:=2) (p:=tv [x0,y0,t0,w0]) (q:=tv [x1,y1,t1,w1]) rfl rfl f3 f4 hu hv p4 q4 p3 q3;have i1:dH 0 3=[.int 0,.int 1,.int 2]:=rfl;rw[i1];generalize tv [x1,y1,t1,w1]=T2,tv [x0,y0,t0,w0]=T1 at *;simp[eA,dX,gN,s0,s1,s2]
  .match zs,l1 with
   |[a,b,c],_=>
    have h0:=e2 0 (by decide);have h1:=e2 1 (by decide);have h2:=e2 2 (by decide)
    match j,hj with
    |0,_=>exact h0
    |1,_=>exact h1
    |2,_=>exact h2
    |3,_=>
     show z*((u+v)*w0*w1)=(u*w0*w1+v*w1*w0)*z;grind
theorem aac{n k:Nat}(hn:n=2\/n=3)(hk:k<=497){S:aH}{ns:AR}(h:dW S 0 ns){P:AS}(hP:Sx n k P):∃(A B:AS)(ns':AR),qW [.ref 0,.pv (px P)] S=.ok (.pv (.lst [px A,px B])) (S.set 0 (.lst (ns'.map .int)))/\(∀kk,HS [A,B] kk=PS P kk)/\Sx n (2*k+6) A/\Sx n (2*k+6) B:=by
 have hl:=hP.len;have l0:(P.map tv).length=n+1:=by rw[aj];exact hl
 obtain⟨i,n1,e1,i0,i1,_⟩:=fX (m:=((P.map tv).length:Int)) h (by omega) (gO (by omega) (by omega));obtain⟨t,n2,e2,t0,t1,_⟩:=fX (m:=(n:Int)) (h.set n1) (by omega) (gO (by omega) (by omega));obtain⟨u,n3,e3,u0,u1,_⟩:=fX (m:=3) ((h.set n1).set n2) (by decide) (gO (by decide) (by decide));obtain⟨v,n4,e4,v0,v1,_⟩:=fX (m:=3) (((h.set n1).set n2).set n3) (by decide) (gO (by decide) (by decide));simp only[ki]at e2 e3 e4;have h4:dW (S.set 0 (.lst (n4.map .int))) 0 n4:=h.set n4;obtain⟨jn,ej,jl,ij⟩:∃jn:Nat,(i+1+t).fmod ((P.map tv).length:Int)=(jn:Int)/\jn<n+1/\i≠(jn:Int):=by
  rw[l0];rw[Int.fmod_eq_emod_of_nonneg _ (by omega)];have b0:=d9 (i+1+t) (b:=((n+1:Nat):Int)) (by omega);have b1:=Int.emod_lt_of_pos (i+1+t) (b:=((n+1:Nat):Int)) (by omega);refine⟨((i+1+t)%((n+1:Nat):Int)).toNat,by omega,by omega,?_⟩;rcases hn with rfl |rfl<;>omega
 obtain⟨iN,rfl⟩:∃iN:Nat,i=(iN:Int):=⟨i.toNat,by omega⟩;have il:iN<P.length:=by omega
 have jl2:jn<P.length:=by omega
 have gp:=hP.gu _ (fe il);have gq:=hP.gu _ (fe jl2);obtain⟨L,a,b,m,hL,ea,eb,ba,bb,ec,el,Md,Gm⟩:=ads hn hk gp gq (u:=1+u) (v:=1+v) (by omega) (by omega) (by omega) (by omega);have ip:aE (.tup (P.map tv)) (.int (iN:Int))=some (tv P[iN]):=eH (by rw[bo,ax il];rfl);have iq:aE (.tup (P.map tv)) (.int (jn:Int))=some (tv P[jn]):=eH (by rw[bo,ax jl2];rfl);obtain⟨hh,sA,sB⟩:=acA hn (show k<=2*k+6 by omega) (by omega) (u:=1+u) (v:=1+v) (by omega) (by omega) hP (i:=iN) (j:=jn) (by omega) (ax il) (ax jl2) Md Gm;refine⟨dR (P.set iN m),dR (P.set jn m),n4,?_,hh,sA,sB⟩;have gA:∀(x:Nat),∀us∈P.set x m,Gu n 1000 us:=λx us hu=>by
  rcases List.mem_or_eq_of_mem_set hu with z |z
  .exact(hP.gu us z).mono (by omega)
  .rw[z];exact Gm.mono (by omega)
 have lA:∀x,(P.set x m).length=n+1:=λx=>by rw[fk];exact hl
 have mo:fR (.int ((iN:Int)+1+t)) (.int ((P.map tv).length:Int))=some (.int (jn:Int)):=by rw[<-ej];exact nA (by omega)
 have hn1:((P.map tv).length:Int)-1=(n:Int):=by omega
 have rg:=sN (S.set 0 (.lst (n4.map .int))) (n:=n) (by omega);have lp:∃TL,tv P[iN]=.tup TL/\(TL.length:Int)-1=(n:Int):=by
  obtain⟨xs,w,e,Q⟩:=gp;refine⟨(P[iN]).map .int,rfl,?_⟩;rw[e];have:=Q.len;simp;omega
 obtain⟨TL,lp,hn2⟩:=lp;have m1:=gC (show Bd 6 ((1+u)+(1+v)) from Bd.of (n:=6) (by omega) (by decide)) ba (by decide) (by omega);have m2:=gC ((show Bd 6 ((1+u)+(1+v)) from Bd.of (n:=6) (by omega) (by decide)).mul ba) bb (by omega) (by omega);have el:=el (S.set 0 (.lst (n4.map .int)));have ec:=ec (S.set 0 (.lst (n4.map .int)));have lz:(L.map PV.int).length+1<=16777216:=by
  have:=ec;have q:L.length=n:=hL;rw[aj];omega
 have s4:(S.set 0 (SO.lst (n4.map .int))).length=S.length:=by simp
 have rdx:∀(x c:Nat)(S':aH),S'[c]?=some (.lst ((P.map tv).set x (tv m)))->kT [.ref c] S'=.ok (.pv (.tup ((dR (P.set x m)).map tv))) S':=λx c S' hc=>Hj (A:=.lst ((P.set x m).map tv)) hn S' (by rw[qs];simp only[rd];rw[hc]) (lA x) (gA x) (.inl rfl);have hx:∀x:Nat,x<n+1->aY (P.map tv).length (x:Int)=some x:=λx hx=>by
  unfold aY;rw[if_pos (by omega),if_pos (by omega)];simp
 have hi:=hx iN (by omega);have hj:=hx jn jl;have lo:kJ [.tup (P.map tv)]=some (.lst (P.map tv)):=by simp[kJ]
 rw[lp]at ip ea ec;have e2:cE [.ref 0,.pv (.int (n:Int))] (S.set 0 (.lst (n1.map .int)))=.ok (.pv (.int t)) (S.set 0 (.lst (n2.map .int))):=e2;show qW [.ref 0,.pv (.tup (P.map tv))] S=.ok (.pv (.lst [.tup ((dR (P.set iN m)).map tv),.tup ((dR (P.set jn m)).map tv)])) (S.set 0 (.lst (n4.map .int)));have r1:=rdx iN;have r2:=rdx jn;clear gp gq hh sA sB gA lA hP Md Gm ij ej i1 hl h h4 l0 ba bb lp rdx hx;generalize L.map PV.int=LL,P.map tv=PL,tv m=TM,tv P[jn]=TQ,S.set 0 (SO.lst (n1.map .int))=S1,S.set 0 (SO.lst (n2.map .int))=S2,S.set 0 (SO.lst (n3.map .int))=S3,S.set 0 (SO.lst (n4.map .int))=S4,(dR (P.set jn m)).map tv=CB,(dR (P.set iN m)).map tv=CA at *;have g1:(S4++[SO.lst PL])[S4.length]?=some (.lst PL):=pz;have E5:(S4++[SO.lst PL]).set S4.length (.lst (PL.set iN TM))=S4++[.lst (PL.set iN TM)]:=by simp
 have q5:(S4++[SO.lst (PL.set iN TM)])[S4.length]?=some (.lst (PL.set iN TM)):=pz;have t5:(S4++[SO.lst (PL.set iN TM)]).take S.length=S4:=by rw[<-s4,j9]
 have l5:S.length<=(S4++[SO.lst (PL.set iN TM)]).length:=by simp;omega
 generalize S4++[SO.lst (PL.set iN TM)]=S5 at *;have g2:(S5++[SO.lst PL])[S5.length]?=some (.lst PL):=pz;have E6:(S5++[SO.lst PL]).set S5.length (.lst (PL.set jn TM))=S5++[.lst (PL.set jn TM)]:=by simp
 have rd1:=r1 S4.length (S5++[.lst (PL.set jn TM)]) (gx q5);have rd2:=r2 S5.length (S5++[.lst (PL.set jn TM)]) pz;have tk:(S5++[SO.lst (PL.set jn TM)]).take S.length=S4:=by rw[List.take_append_of_le_length l5,t5]
 generalize (jn:Int)=j,(iN:Int)=i,S5++[SO.lst (PL.set jn TM)]=S6 at *;unfold qW Gc;apply uN rfl;rw[show jK 12 [AV.ref 0,.pv (.tup PL)]=[some (.ref 0),some (.pv (.tup PL)),none,none,none,none,none,none,none,none,none,none] from rfl];apply sq;simp! [bC,aO,aN,aL,aM,aF,aK,e1];exact⟨rfl,rfl⟩;apply sq;simp! [bC,aO,aN,aL,aM,aF,aK,hn1,e2,mo];exact⟨rfl,rfl⟩;apply sq;simp! [bC,aO,aN,aL,aM,aF,aK,e3];exact⟨rfl,rfl⟩;apply sq;simp! [bC,aO,aN,aL,aM,aF,aK,e4];exact⟨rfl,rfl⟩;apply sq;simp! [bC,aO,aN,aL,aM,aF,aK,ip];exact⟨rfl,rfl⟩;apply sq;simp! [bC,aO,aN,aL,aM,aF,aK,iq];exact⟨rfl,rfl⟩;apply sq;simp! [bC,aO,aN,aL,aM,aF,aK,bF,cJ,cM,hn2,rg,ec];exact⟨rfl,rfl⟩;apply sq;simp! [bC,aO,aN,aL,aM,aF,aK,ea,eb,m1,m2,lz,el];exact⟨rfl,rfl⟩;apply sq;simp! [bC,aO,aN,aL,aM,aF,aK,rP,yQ,lo];exact⟨rfl,rfl⟩;apply sq;simp! [bC,aO,aN,aL,aM,aF,aK,kZ,oJ,fB,g1,hi,E5];exact⟨rfl,rfl⟩;apply sq;simp! [bC,aO,aN,aL,aM,aF,aK,rP,yQ,lo];exact⟨rfl,rfl⟩;apply sq;simp! [bC,aO,aN,aL,aM,aF,aK,kZ,oJ,fB,g2,hj,E6];exact⟨rfl,rfl⟩;simp! [bC,aO,aN,aL,aM,aF,aK,rd1,rd2];exact⟨rfl,rfl⟩;simp[kA,tk]
theorem Sx.mono{n k l:Nat}{u:AS}(h:Sx n k u)(hl:k<=l):Sx n l u:=⟨h.len,λus hu=>(h.gu us hu).mono hl,h.nz,h.cn⟩
def sT:MS:=(bW (bH (aC eJ (aJ cE [] (aB (aA 0) (aB (mC (.int 3)) aD))) (mC (.int 0)))) (aQ 2 (uP (aA 2) (aJ qW [] (aB (aA 0) (aB (aA 3) aD))))) (cZ (dG (aA 2) (aB (aA 3) aD))))
def sJ:MT:=(bH (aC eJ (mR cV (aB (aA 2) aD)) (mC (.int 0))))
def vM:MS:=(cZ (dG (aA 4) (aB (lJ (aA 2) (aB (aJ cE [] (aB (aA 0) (aB (mR cV (aB (aA 2) aD)) aD))) aD)) aD)))
theorem aam{n k:Nat}(hn:n=2\/n=3)(hk:k<=497){S:aH}{ns:AR}{c:Nat}{G:AT}(h:dW S 0 ns)(hc:S[c]?=some (.lst (G.map px)))(c1:1<=c)(hG:G.length<=1000){P:AS}(hP:Sx n k P)(x1 x4:BB):∃(S':aH)(c':Nat)(X:AT)(ns':AR),sT [some (.ref 0),x1,some (.ref c),some (.pv (px P)),x4] S=.nx [some (.ref 0),x1,some (.ref c'),some (.pv (px P)),x4] S'/\dW S' 0 ns'/\S'[c']?=some (.lst ((G++X).map px))/\1<=c'/\(∀kk,HS X kk=PS P kk)/\(∀u∈X,Sx n (2*k+6) u)/\X.length<=2/\0<X.length:=by
 obtain⟨t,n1,e1,t0,t1,_⟩:=fX (m:=3) h (by decide) (gO (by decide) (by decide));have h1:=h.set n1;have hc1:(S.set 0 (SO.lst (n1.map .int)))[c]?=some (.lst (G.map px)):=gs hc (by omega);have cl:c<S.length:=(br.mp hc).1
 by_cases z:0<t
 .obtain⟨A,B,n2,e2,hh,sA,sB⟩:=aac hn hk h1 hP
  rw[ki]at e2;have hc2:(S.set 0 (SO.lst (n2.map .int)))[c]?=some (.lst (G.map px)):=gs hc (by omega);refine⟨S.set 0 (SO.lst (n2.map .int))++[.lst (G.map px++[px A,px B])],S.length,[A,B],n2,?_,gx (h.set n2),?_,by omega,hh,?_,by simp,by simp⟩
  .have lz:(G.map px).length+2<=16777216:=by rw[aj];omega
   have ll:(S.set 0 (SO.lst (n2.map .int))).length=S.length:=by simp
   rw[<-ll];unfold sT;generalize S.set 0 (SO.lst (n2.map .int))=S2,S.set 0 (SO.lst (n1.map .int))=S1,G.map px=GL,px P=XP,px B=XB,px A=XA at *;simp! [bC,aO,aN,aL,aM,aF,aK,e1,z,uP,e2,hc2,lz]
  .have ll:(S.set 0 (SO.lst (n2.map .int))).length=S.length:=by simp
   rw[<-ll,pz];simp
  .intro u hu
   simp only[cq,fg,or_false]at hu;rcases hu with rfl |rfl
   .exact sA
   .exact sB
 .refine⟨(S.set 0 (SO.lst (n1.map .int))).set c (.lst (G.map px++[px P])),c,[P],n1,?_,gs h1 (by omega),?_,c1,λkk=>rfl,?_,by simp,by simp⟩
  .have lz:(G.map px).length<16777216:=by rw[aj];omega
   unfold sT;generalize S.set 0 (SO.lst (n1.map .int))=S1,G.map px=GL,px P=XP at *;simp! [bC,aO,aN,aL,aM,aF,aK,e1,z,dG,fB,iH,hc1,lz]
  .rw[dj (by simp;omega)]
   simp
  .intro u hu
   simp only[cq,fg,or_false]at hu;subst hu;exact hP.mono (by omega)
theorem Zr{n k:Nat}(hn:n=2\/n=3)(hk:k<=497)(x1 x4:BB):∀(hs G:AT)(S:aH)(ns:AR)(c:Nat)(x3:BB),dW S 0 ns->S[c]?=some (.lst (G.map px))->1<=c->(∀u∈hs,Sx n k u)->(∀u∈G,Sx n (2*k+6) u)->G.length+2*hs.length<=200->∃(S':aH)(c':Nat)(G':AT)(ns':AR)(y3:BB),dQ [] (gN 3) sT (hs.map px) [some (.ref 0),x1,some (.ref c),x3,x4] S=.nx [some (.ref 0),x1,some (.ref c'),y3,x4] S'/\dW S' 0 ns'/\S'[c']?=some (.lst (G'.map px))/\1<=c'/\(∀kk,HS G' kk=HS G kk+HS hs kk)/\(∀u∈G',Sx n (2*k+6) u)/\G'.length<=G.length+2*hs.length/\G.length+hs.length<=G'.length
 |[],G,S,ns,c,x3,h,hc,c1,_,hG,_=>⟨S,c,G,ns,x3,fN,h,hc,c1,λkk=>rfl,hG,by simp,by simp⟩
 |P::hs,G,S,ns,c,x3,h,hc,c1,hh,hG,hl=>by
  have hl:G.length+2*(hs.length+1)<=200:=hl;obtain⟨S1,cc,X,n1,e1,r1,g1,d1,q1,s1,l1,l2⟩:=aam hn hk h hc c1 (by omega) (hh P bi) x1 x4;obtain⟨S2,c2,G2,n2,y3,e2,r2,g2,d2,q2,s2,l3,l4⟩:=Zr hn hk x1 x4 hs (G++X) S1 n1 cc (some (.pv (px P))) r1 g1 d1 (λu hu=>hh u (bn _ hu)) (λu hu=>by
   rcases cj.mp hu with z |z
   .exact hG u z
   .exact s1 u z) (by rw[av];omega)
  refine⟨S2,c2,G2,n2,y3,?_,r2,g2,d2,λkk=>?_,s2,by rw[av]at l3;simp only[cv];omega,by rw[av]at l4;simp only[cv];omega⟩
  .rw[aw,fA]
   simp only[gN,jc,dn];rw[e1];exact e2
  .rfl
theorem Vp{n l:Nat}(x1 x3:BB){c d:Nat}(c1:1<=c)(d1:1<=d)(cd:c≠d):∀(m:Nat)(G T:AT)(S:aH)(ns:AR),G.length=m->dW S 0 ns->S[c]?=some (.lst (G.map px))->S[d]?=some (.lst (T.map px))->(∀u∈G,Sx n l u)->(∀u∈T,Sx n l u)->G.length+T.length<=500->∃(S':aH)(T':AT)(ns':AR),eB sJ vM (m+1) [some (.ref 0),x1,some (.ref c),x3,some (.ref d)] S=.nx [some (.ref 0),x1,some (.ref c),x3,some (.ref d)] S'/\dW S' 0 ns'/\S'[d]?=some (.lst (T'.map px))/\(∀kk,HS T' kk=HS T kk+HS G kk)/\(∀u∈T',Sx n l u)/\T'.length=T.length+G.length
 |0,G,T,S,ns,hm,h,hc,hd,_,hT,_=>by
  have e:G=[]:=qr.mp hm;subst e;refine⟨S,T,ns,?_,h,hd,λkk=>rfl,hT,by simp⟩;have hc:S[c]?=some (.lst []):=hc;unfold sJ;simp! [eB,bC,aO,aN,aL,aM,aF,aK,hc]
 |m+1,G,T,S,ns,hm,h,hc,hd,hG,hT,hl=>by
  obtain⟨t,n1,e1,t0,t1,_⟩:=fX (m:=((G.map px).length:Int)) h (by rw[aj];omega) (gO (by omega) (by rw[aj];omega));obtain⟨j,rfl⟩:∃j:Nat,t=j:=⟨t.toNat,by omega⟩;rw[aj]at t1;have jl:j<G.length:=by omega
  have hc1:(S.set 0 (SO.lst (n1.map .int)))[c]?=some (.lst (G.map px)):=gs hc (by omega);have hp:=Ru (k:=c) (j:=j) (v:=px G[j]) hc1 (by rw[bo,ax jl];rfl) (by omega);rw[Qb]at hp;have cl:c<S.length:=(br.mp hc).1;have dl:d<S.length:=(br.mp hd).1;have hd2:((S.set 0 (SO.lst (n1.map .int))).set c (.lst ((G.eraseIdx j).map px)))[d]?=some (.lst (T.map px)):=gs (gs hd (by omega)) cd;have pm:=Vc (L:=G) (ax jl);have le:(G.eraseIdx j).length=m:=by
   have:=pm.length_eq;simp only[cv]at this;omega
  obtain⟨S',T',n2,e2,r2,g2,q2,s2,l2⟩:=Vp x1 x3 c1 d1 cd m (G.eraseIdx j) (T++[G[j]]) (((S.set 0 (SO.lst (n1.map .int))).set c (.lst ((G.eraseIdx j).map px))).set d (.lst (T.map px++[px G[j]]))) n1 le (gs (gs (h.set n1) (by omega)) (by omega)) (gs (dj (by simp;omega)) (ik cd)) (by rw[dj (by simp;omega)];simp) (λu hu=>hG u (pm.mem_iff.mpr (bn _ hu))) (λu hu=>by
   rcases cj.mp hu with z |z
   .exact hT u z
   .have:u=G[j]:=by simpa using z
    rw[this];exact hG _ (fe jl)) (by rw[av,jo];omega)
  refine⟨S',T',n2,?_,r2,g2,λkk=>?_,s2,by rw[l2,av,jo];omega⟩
  .have ec:sJ [some (.ref 0),x1,some (.ref c),x3,some (.ref d)] S=.ok true S:=by
    have gl:0<(G.map px).length:=by rw[aj];omega
    unfold sJ;generalize G.map px=GL at *;simp! [bC,aO,aN,aL,aM,aF,aK,hc,gl]
   have eb:vM [some (.ref 0),x1,some (.ref c),x3,some (.ref d)] S=.nx [some (.ref 0),x1,some (.ref c),x3,some (.ref d)] (((S.set 0 (SO.lst (n1.map .int))).set c (.lst ((G.eraseIdx j).map px))).set d (.lst (T.map px++[px G[j]]))):=by
    have lz:(T.map px).length<16777216:=by rw[aj];omega
    unfold vM;clear ec e2 r2 g2 q2 s2 l2;generalize S.set 0 (SO.lst (n1.map .int))=S1,T.map px=TL,G.map px=GL,(G.eraseIdx j).map px=EL,px G[j]=XP at *;generalize S1.set c (.lst EL)=S2 at *;simp! [bC,aO,aN,aL,aM,aF,aK,dG,fB,hd,lJ,hc,e1,hc1,hp,iH,hd2,lz]
   rw[eB,ec];simp only[cN.of,↓reduceIte,eb,e2]
  .rfl
theorem Pb{n k:Nat}(hn:n=2\/n=3)(hk:k<=497)(ns:AR){hs:AT}(hh:∀u∈hs,Sx n k u)(hl:hs.length<=90):∃(gs:AT)(ns':AR),kF [.ref 0,.pv (.lst (hs.map px))] [.lst (ns.map .int)]=.ok (.ref 1) [.lst (ns'.map .int),.lst (gs.map px)]/\(∀kk,HS gs kk=HS hs kk)/\(∀u∈gs,Sx n (2*k+6) u)/\gs.length<=2*hs.length/\hs.length<=gs.length:=by
 obtain⟨S1,c,G,n1,y3,e1,r1,g1,c1,q1,s1,l1,l1'⟩:=Zr hn hk (some (.pv (.lst (hs.map px)))) none hs [] [.lst (ns.map .int),.lst []] ns 1 none rfl rfl (by decide) hh (by simp) (by simp;omega);have cl:c<S1.length:=(br.mp g1).1;obtain⟨S2,T,n2,e2,r2,g2,q2,s2,l2⟩:=Vp (some (.pv (.lst (hs.map px)))) y3 c1 (d:=S1.length) (by omega) (by omega) G.length G [] (S1++[.lst []]) n1 rfl (gx r1) (gx g1) pz s1 (by simp) (by simp at l1⊢;omega);have w:=wE e2 (by simp);refine⟨T,n2,?_,λkk=>rfl,s2,by simp at l1 l2;omega,by simp at l1' l2;omega⟩;have tk:S2.take 1=[.lst (n2.map .int)]:=by
  have h0:S2[0]?=some (.lst (n2.map .int)):=r2
  match S2,h0 with
  |x::_,h0=>simp at h0;subst h0;rfl
 have d1:¬S1.length<1:=by omega
 have hb:Lb=(aG (aQ 2 (eO aD)) (aG (bJ (bA (aA 1)) (gN 3) sT) (aG (aQ 4 (eO aD)) (aG (lD sJ vM) (bD (aA 4)))))):=rfl;unfold kF aR;rw[hb];clear e2;generalize sT=PB,lD sJ vM=WW,hs.map px=HL,T.map px=TL at *;have a1:(aQ 4 (eO aD)) [some (.ref 0),some (.pv (.lst HL)),some (.ref c),y3,none] S1=.nx [some (.ref 0),some (.pv (.lst HL)),some (.ref c),y3,some (.ref S1.length)] (S1++[.lst []]):=by
  simp! [bC,aO,aN,aL,aM,aF,aK,eO,kN]
 generalize S1.length=d,S1++[SO.lst []]=S3 at *;simp! [bC,aO,aN,aL,aM,aF,aK,eO,kN,bJ,bA,cC]at a1⊢;simp! [bC,aO,aN,aL,aM,aF,aK,e1,a1,w,g2,tk,d1]<;>omega
def jE(way:Int)(f:AR):AR:=if way=1 then f.dropLast.map (- ·)++[f.getLastD 0] else f
theorem We{n k:Nat}{a:Int}{f:AR}(hn:n=2\/n=3)(ha:a=1\/a=-1)(h:Gu n k f):(∀S,mW [.pv (.tup [.int a,tv f])] S=.ok (.pv (.tup [.int a,tv (jE a f)])) S)/\Gu n k (jE a f)/\(∀l us,Gu n l us->dC a (jE a f) (dC a f us)=us)/\jE a (jE a f)=f:=by
 obtain⟨ys,v,rfl,Q⟩:=h;have key:∃ts,jE a (ys++[v])=ts++[v]/\Pq n k ts v/\Vl n ts v (λj=>-a*ys.getD j 0) v/\(∀S,mW [.pv (.tup [.int a,tv (ys++[v])])] S=.ok (.pv (.tup [.int a,tv (ts++[v])])) S)/\jE a (ts++[v])=ys++[v]:=by
  rcases ha with rfl |rfl
  .refine⟨ys.map (- ·),by simp[jE],acn Q,λj hj=>?_,λS=>R8 S (Jm ys v S (by rw[Q.len];omega)),?_⟩
   .have e:=abT (Vl.self n ys v) j hj
    rw[e];grind
   .have:(ys.map (- ·)).map (- ·)=ys:=Yy ys
    simp only[jE,if_true,List.dropLast_concat,this];simp
  .refine⟨ys,by simp[jE],Q,λj hj=>by grind,λS=>N4 S,by simp[jE]⟩
 obtain⟨ts,e1,T,hv,e2,e3⟩:=key;rw[e1];refine⟨e2,⟨ts,v,rfl,T⟩,λl us hu=>?_,e3⟩;obtain⟨xs,w,rfl,P⟩:=hu;rw[uG];obtain⟨zs,z,ez,Z,hz⟩:=Sg ha P Q;rw[ez,uG];obtain⟨rs,r,er,R,hr⟩:=Sg ha Z T;rw[er];have a1:=hz _ _ _ _ (Vl.self n xs w) (Vl.self n ys v) P.pos Q.pos;have a2:=hr _ _ _ _ a1 hv (bf P.pos Q.pos) Q.pos;refine Pq.eq R P a2 (Vl.self n xs w) (bf (bf P.pos Q.pos) Q.pos) P.pos λj hj=>?_;have s1:=sq1 ha;generalize xs.getD j 0=x;generalize ys.getD j 0=y;rcases ha with rfl |rfl<;>grind
abbrev Rr:=AS×Int×AR
abbrev rv(r:Rr):PV:=.tup [px r.1,.tup [.int r.2.1,tv r.2.2]]
structure Rt(n k l:Nat)(r:Rr):Prop where
 sx:Sx n k r.1
 way:r.2.1=1\/r.2.1=-1
 gu:Gu n l r.2.2
def eY(r:Rr):AS:=kS r.2.1 r.2.2 r.1
def bk(r:Rr):Rr:=(eY r,r.2.1,jE r.2.1 r.2.2)
theorem adK{n k l:Nat}(hn:n=2\/n=3){r:Rr}(h:Rt n k l r)(hk:k+l+1<=1000):Rt n (k+l+1) l (bk r):=⟨Kf hn h.way h.sx h.gu hk,h.way,(We hn h.way h.gu).2.1⟩
theorem Zm{n k l:Nat}(hn:n=2\/n=3)(S:aH){r:Rr}(h:Rt n k l r)(hk:k+l+1<=1000):oX [.pv (rv r)] S=.ok (.pv (px (eY r))) S:=by
 have e:=B6 hn S h.way (hs:=[r.1]) (A:=.tup [px r.1]) (.inr rfl) (λu hu=>by
  have:u=r.1:=by simpa using hu
  rw[this];exact h.sx) h.gu hk
 unfold eY;simp only[aw,ck]at e;have hrv:rv r=.tup [px r.1,.tup [.int r.2.1,tv r.2.2]]:=rfl;rw[hrv];generalize tv r.2.2=T1,px r.1=P1,px (kS r.2.1 r.2.2 r.1)=PX at *;unfold oX aR Ga;simp! [aE,aZ,aY,aP,aO,aN,aL,aM,aF,aK,e]
theorem O9(S:aH){rs:List Rr}{A:PV}(hA:Sv A (rs.map rv)):vW [.pv A] S=.ok (.pv (.tup (rs.map λr=>px r.1))) S:=by
 have e:cG [] (gN 0) (aC aE (aA 0) (mC (.int 0))) (rs.map rv) [none] S=.ok (rs.map λr=>px r.1) S:=by
  refine kW (iR S) rv (λr=>px r.1) rs none λr hr=>?_;have hrv:rv r=.tup [px r.1,.tup [.int r.2.1,tv r.2.2]]:=rfl;rw[hrv];generalize px r.1=P1;simp! [aE,aZ,aY,aP,aO,aN,aL,aM,aF,aK]
 unfold vW aR Sa;rcases hA with rfl |rfl<;>simp! [aE,aZ,aY,aP,aO,aN,aL,aM,aF,aK,bF,cJ,bA,cC,e]
theorem abI{n k l:Nat}(hn:n=2\/n=3)(S:aH){rs:List Rr}{A:PV}(hA:Sv A (rs.map rv))(h:∀r∈rs,Rt n k l r)(hk:k+l+1<=1000):wL [.pv A] S=.ok (.pv (.tup ((rs.map eY).map px))) S:=by
 rw[cw];have e:cG [] (gN 0) (aJ oX [] (aB (aA 0) aD)) (rs.map rv) [none] S=.ok (rs.map (px∘eY)) S:=by
  refine kW (iR S) rv (px∘eY) rs none λr hr=>?_;have e1:=Zm hn S (h r hr) hk;generalize rv r=R1 at *;simp! [aE,aZ,aY,aP,aO,aN,aL,aM,aF,aK,e1]
 unfold wL aR Hb;rcases hA with rfl |rfl<;>simp! [aE,aZ,aY,aP,aO,aN,aL,aM,aF,aK,bF,cJ,bA,cC,e]
theorem abr{n k l:Nat}(hn:n=2\/n=3)(S:aH){rs:List Rr}{A:PV}(hA:Sv A (rs.map rv))(h:∀r∈rs,Rt n k l r)(hk:k+l+1<=1000):uK [.pv A] S=.ok (.pv (.tup ((rs.map bk).map rv))) S:=by
 rw[cw];have e:cG [] (gN 0) (mN cU (aB (aJ oX [] (aB (aA 0) aD)) (aB (aJ mW [] (aB (aC aE (aA 0) (mC (.int 1))) aD)) aD))) (rs.map rv) [none] S=.ok (rs.map (rv∘bk)) S:=by
  refine kW (iR S) rv (rv∘bk) rs none λr hr=>?_;have e1:=Zm hn S (h r hr) hk;have e2:=(We hn (h r hr).way (h r hr).gu).1 S;have e3:(rv∘bk) r=.tup [px (eY r),.tup [.int r.2.1,tv (jE r.2.1 r.2.2)]]:=rfl;have hrv:rv r=.tup [px r.1,.tup [.int r.2.1,tv r.2.2]]:=rfl;rw[e3];rw[hrv]at e1⊢;generalize tv r.2.2=T1,tv (jE r.2.1 r.2.2)=T2,px r.1=P1,px (eY r)=P2 at *;simp! [aE,aZ,aY,aP,aO,aN,aL,aM,aF,aK,e1,e2]
 unfold uK aR Tf;rcases hA with rfl |rfl<;>simp! [aE,aZ,aY,aP,aO,aN,aL,aM,aF,aK,bF,cJ,bA,cC,e]
abbrev sI:MS:=(bW (gS (bH (aA 3)) (bH (aC cT (aJ cE [] (aB (aA 0) (aB (mC (.int 2)) aD))) (mC (.int 1))))) (aQ 6 (bR bU (mC (.int 1)))) cY)
abbrev vL:MS:=(aG (aQ 6 (mC (.int 1))) (aG sI (cZ (dG (aA 4) (aB (mN cU (aB (aA 5) (aB (mN cU (aB (aA 6) (aB (aJ kI [] (aB (aA 0) (aB (aA 2) aD))) aD))) aD))) aD)))))
theorem adi{n k:Nat}(hn:n=2\/n=3)(ns:AR)(b:Bool)(rs:List Rr)(hl:rs.length<=99){u:AS}(hu:Sx n k u)(x1 x6:BB):∃(r:Rr)(ns':AR)(y6:BB),vL [some (.ref 0),x1,some (.pv (.int (n:Int))),some (.pv (.bl b)),some (.ref 1),some (.pv (px u)),x6] [.lst (li ns),.lst (rs.map rv)]=.nx [some (.ref 0),x1,some (.pv (.int (n:Int))),some (.pv (.bl b)),some (.ref 1),some (.pv (px u)),y6] [.lst (li ns'),.lst ((rs++[r]).map rv)]/\Rt n k 100 r/\r.1=u:=by
 have hr:∀ms,dW [.lst (li ms),.lst (rs.map rv)] 0 ms:=λ_=>rfl;obtain⟨a,n1,e1,ha⟩:∃(a:Int)(n1:AR),sI [some (.ref 0),x1,some (.pv (.int (n:Int))),some (.pv (.bl b)),some (.ref 1),some (.pv (px u)),some (.pv (.int 1))] [.lst (li ns),.lst (rs.map rv)]=.nx [some (.ref 0),x1,some (.pv (.int (n:Int))),some (.pv (.bl b)),some (.ref 1),some (.pv (px u)),some (.pv (.int a))] [.lst (li n1),.lst (rs.map rv)]/\(a=1\/a=-1):=by
  generalize px u=PU;cases b
  .refine⟨1,ns,?_,.inl rfl⟩
   generalize rs.map rv=RL;generalize (n:Int)=N;unfold sI;simp! [bC,aO,aN,aL,aM,aF,aK]
  .obtain⟨t,n1,e1,t0,t1,_⟩:=fX (m:=2) (hr ns) (by decide) (gO (by decide) (by decide))
   simp only[dn]at e1;have e1:cE [.ref 0,.pv (.int 2)] [.lst (li ns),.lst (rs.map rv)]=.ok (.pv (.int t)) [.lst (li n1),.lst (rs.map rv)]:=e1
   by_cases c:t=1
   .refine⟨-1,n1,?_,.inr rfl⟩
    generalize rs.map rv=RL at *;generalize (n:Int)=N;unfold sI;simp! [bC,aO,aN,aL,aM,aF,aK,e1,c]
   .refine⟨1,n1,?_,.inl rfl⟩
    generalize rs.map rv=RL at *;generalize (n:Int)=N;unfold sI;simp! [bC,aO,aN,aL,aM,aF,aK,e1,c]
 obtain⟨v,n2,e2,G⟩:=Jw n hn (hr n1);simp only[dn]at e2;have e2:kI [.ref 0,.pv (.int (n:Int))] [.lst (li n1),.lst (rs.map rv)]=.ok (.pv v) [.lst (li n2),.lst (rs.map rv)]:=e2;obtain⟨ys,y,rfl,P⟩:=G;have Gf:Gu n 100 (ys++[y]):=⟨ys,y,rfl,P⟩;have e2:kI [.ref 0,.pv (.int (n:Int))] [.lst (li n1),.lst (rs.map rv)]=.ok (.pv (tv (ys++[y]))) [.lst (li n2),.lst (rs.map rv)]:=e2;refine⟨(u,a,ys++[y]),n2,some (.pv (.int a)),?_,⟨hu,ha,Gf⟩,rfl⟩;have el:(rs++[(u,a,ys++[y])]).map rv=rs.map rv++[.tup [px u,.tup [.int a,tv (ys++[y])]]]:=by simp
 rw[el];have lz:(rs.map rv).length<16777216:=by rw[aj];omega
 unfold vL;generalize (n:Int)=N,px u=PU,tv (ys++[y])=TF,rs.map rv=RL,sI=WB at *;simp! [bC,aO,aN,aL,aM,aF,aK,e1,e2,dG,fB,iH,lz]
theorem Zu{n k:Nat}(hn:n=2\/n=3)(b:Bool)(x1:BB):∀(gs:AT)(rs:List Rr)(ns:AR)(x5 x6:BB),(∀u∈gs,Sx n k u)->rs.length+gs.length<=99->∃(ts:List Rr)(ns':AR)(y5 y6:BB),
  dQ [] (gN 5) vL (gs.map px) [some (.ref 0),x1,some (.pv (.int (n:Int))),some (.pv (.bl b)),some (.ref 1),x5,x6] [.lst (li ns),.lst (rs.map rv)]=.nx [some (.ref 0),x1,some (.pv (.int (n:Int))),some (.pv (.bl b)),some (.ref 1),y5,y6] [.lst (li ns'),.lst ((rs++ts).map rv)]/\(∀r∈ts,Rt n k 100 r)/\ts.map (·.1)=gs
 |[],rs,ns,x5,x6,_,_=>⟨[],ns,x5,x6,by rw[ja];exact fN,λ_ h=>absurd h fg,rfl⟩
 |u::gs,rs,ns,x5,x6,hg,h9=>by
  have h9:rs.length+(gs.length+1)<=99:=h9;obtain⟨r,n1,y6,e1,r1,f1⟩:=adi hn ns b rs (by omega) (hg u bi) x1 x6;obtain⟨ts,n2,z5,z6,e2,r2,f2⟩:=Zu hn b x1 gs (rs++[r]) n1 (some (.pv (px u))) y6 (λy hy=>hg y (bn _ hy)) (by rw[av,jo];omega);refine⟨r::ts,n2,z5,z6,?_,λt ht=>?_,by rw[aw,f1,f2]⟩
  .rw[aw,fA]
   simp only[gN,jc,dn];rw[e1];dsimp only;rw[e2,ix];rfl
  .rcases cq.mp ht with rfl |ht
   .exact r1
   .exact r2 t ht
theorem Q9{n k:Nat}(hn:n=2\/n=3)(b:Bool)(ns:AR){gs:AT}(hg:∀u∈gs,Sx n k u)(h9:gs.length<=90):∃(rs:List Rr)(ns':AR),tI [.ref 0,.pv (.lst (gs.map px)),.pv (.int (n:Int)),.pv (.bl b)] [.lst (li ns)]=.ok (.ref 1) [.lst (li ns'),.lst (rs.map rv)]/\(∀r∈rs,Rt n k 100 r)/\rs.map (·.1)=gs:=by
 obtain⟨rs,n2,y5,y6,e2,r2,f2⟩:=Zu hn b (some (.pv (.lst (gs.map px)))) gs [] ns none none hg (by show 0+gs.length<=99;omega);refine⟨rs,n2,?_,r2,f2⟩;simp only[ck,jq]at e2;have hb:Kc=(aG (aQ 4 (eO aD)) (aG (bJ (bA (aA 1)) (gN 5) vL) (bD (aA 4)))):=rfl;unfold tI aR;rw[hb];generalize (n:Int)=N,rs.map rv=RL,gs.map px=GL,vL=LB at *;simp! [aE,aZ,aY,aP,aO,aN,aL,aM,aF,aK,eO,kN,bJ,bA,cC,e2]
theorem Nl{S:aH}{me:ME}{α:Type}(A B C:α->PV):∀(L:List α)(x y:BB),(∀v∈L,me [some (.pv (A v)),some (.pv (B v))] S=.ok (.pv (C v)) S)->cG [] (gT 2 (bO (gN 0) (bO (gN 1) dE))) me (L.map λv=>.tup [A v,B v]) [x,y] S=.ok (L.map C) S
 |[],x,y,_=>dX
 |v::L,x,y,h=>by
  have e:=h v bi;have e':=Nl A B C L (some (.pv (A v))) (some (.pv (B v))) λu hu=>h u (bn _ hu);rw[aw,eA];simp[gN,gT,bO,dE,e,e']
theorem O4{n k l:Nat}(hn:n=2\/n=3)(S:aH){rs:List Rr}(h:∀r∈rs,Rt n k l r)(hk:k+l+1<=1000):tQ [.pv (.lst (rs.map rv))] S=.ok (.pv (.lst ((rs.map eY).map px))) S:=by
 rw[cw];have e:cG [] (gT 2 (bO (gN 0) (bO (gN 1) dE))) (aJ mZ [] (aB (aA 0) (aB (aC aE (aA 1) (mC (.int 0))) (aB (aC aE (aA 1) (mC (.int 1))) aD)))) (rs.map rv) [none,none] S=.ok (rs.map (px∘eY)) S:=by
  refine Nl (λr:Rr=>px r.1) (λr=>.tup [.int r.2.1,tv r.2.2]) (px∘eY) rs none none λr hr=>?_;have e1:=Nr hn S (h r hr).way (h r hr).sx (h r hr).gu hk;have e1:mZ [.pv (px r.1),.pv (.int r.2.1),.pv (tv r.2.2)] S=.ok (.pv ((px∘eY) r)) S:=e1;generalize r.2.1=W1,tv r.2.2=T1,px r.1=P1,(px∘eY) r=PX at *;simp! [aE,aZ,aY,aP,aO,aN,aL,aM,aF,aK,e1]
 unfold tQ aR Lc;simp! [aE,aZ,aY,aP,aO,aN,aL,aM,aF,aK,bF,cJ,bA,cC,e]
theorem Cl(S:aH):∀(ns:AR)(x:BB),cG [] (gN 0) (aC dN (mC (.int 0)) (aA 0)) (ns.map .int) [x] S=.ok ((ns.map (- ·)).map .int) S
 |[],x=>dX
 |n::ns,x=>by
  rw[aw,eA];simp! [gN,aE,aZ,aY,aP,aO,aN,aL,aM,aF,aK,Cl S ns]
theorem zA(L:AZ){a:Nat}(h:a<=L.length):iP (.lst L) none (some (a:Int))=some (.lst (L.take a)):=by
 unfold iP;dsimp only;unfold iT;rw[HT.sIx_nat];show some (PV.lst ((L.drop 0).take (_-0)))=_;simp
theorem Aw(L:AZ){a:Nat}(h:a<L.length):iP (.lst L) (some ((a:Int)+1)) none=some (.lst (L.drop (a+1))):=by
 unfold iP;dsimp only;unfold iT;rw[show((a:Int)+1)=((a+1:Nat):Int) by omega,HT.sIx_nat];show some (PV.lst ((L.drop (min (a+1) L.length)).take (L.length-min (a+1) L.length)))=_;rw[um (by omega),qx (by rw[qk];omega)]
theorem Td(ns:AR):∃g:Int,g≠0/\ns=(bB ns).map (g*·):=by
 obtain⟨g,e⟩:=W9 ns
 by_cases h:g=0
 .refine⟨1,by decide,?_⟩
  have z:∀n∈ns,n=0:=λn hn=>by
   rw[e,h]at hn;obtain⟨m,_,rfl⟩:=ia.mp hn;exact iy m
  have z2:∀n∈bB ns,n=0:=λn hn=>by
   unfold bB at hn;obtain⟨m,hm,rfl⟩:=ia.mp hn;have:m=0:=by
    unfold low at hm;split at hm
    .exact z m hm
    .obtain⟨x,hx,rfl⟩:=ia.mp hm
     rw[z x hx,Int.zero_ediv]
   rw[this,ng]
  have l:ns.length=(bB ns).length:=by unfold bB;rw[aj,Oq]
  have e1:=AH z;have e2:=AH z2;rw[e2,<-l,List.map_replicate];exact e1
 .exact⟨g,h,e⟩
abbrev Pr(u v:AR):Prop:=∃a b:Int,a≠0/\b≠0/\u.map (a*·)=v.map (b*·)
theorem gZ{u v:AR}:bB u=bB v↔Pr u v:=by
 constructor
 .intro h
  obtain⟨g,hg,e⟩:=Td u;obtain⟨k,hk,f⟩:=Td v;refine⟨k,g,hk,hg,?_⟩;have e1:=congrArg (ko (k*·)) e;have f1:=congrArg (ko (g*·)) f;rw[e1,f1,h,cw,cw];refine ee λx _=>?_;show k*(g*x)=g*(k*x);grind
 .rintro⟨a,b,ha,hb,e⟩
  exact Yc ha hb e
def ext:AR->AR->AR
 |[a,b,c],[x,y,z,t]=>[a*t,b*t,c*t,0-(a*x+b*y+c*z)]
 |_,_=>[]
theorem Mh{a b c x y z t:Int}:ext [a,b,c] [x,y,z,t]=[a*t,b*t,c*t,0-(a*x+b*y+c*z)]:=rfl
def sS:AR->AR->AR
 |[a,b,c],[x,y,z,t]=>[a*t,b*t,c*t,y*c-z*b,z*a-x*c,x*b-y*a]
 |_,_=>[]
theorem Ih{a b c x y z t:Int}:sS [a,b,c] [x,y,z,t]=[a*t,b*t,c*t,y*c-z*b,z*a-x*c,x*b-y*a]:=rfl
def exf:AR->AR->AR
 |[a,b],[x,y,t]=>[-(b*t),a*t,x*b-y*a]
 |_,_=>[]
def fW:AR->AR->AR
 |[x0,y0,z0,w0],[x1,y1,z1,w1]=>[x1*w0-x0*w1,y1*w0-y0*w1,z1*w0-z0*w1,y0*z1-z0*y1,z0*x1-x0*z1,x0*y1-y0*x1]
 |_,_=>[]
theorem Fh{x0 y0 z0 w0 x1 y1 z1 w1:Int}:fW [x0,y0,z0,w0] [x1,y1,z1,w1]=[x1*w0-x0*w1,y1*w0-y0*w1,z1*w0-z0*w1,y0*z1-z0*y1,z0*x1-x0*z1,x0*y1-y0*x1]:=rfl
theorem Yq{a b c d e f x y z t:Int}(ht:0<t):Pr (ext [a,b,c] [x,y,z,t]) (ext [d,e,f] [x,y,z,t])↔Pr [a,b,c] [d,e,f]:=by
 constructor
 .rintro⟨k,l,hk,hl,h⟩
  simp only[Mh,aw,ck,fh,and_true]at h;refine⟨k*t,l*t,gw hk (by omega),gw hl (by omega),?_⟩;obtain⟨h1,h2,h3,_⟩:=h;exact l3 (by grind) (by grind) (by grind)
 .rintro⟨k,l,hk,hl,h⟩
  simp only[aw,ck,fh,and_true]at h;obtain⟨h1,h2,h3⟩:=h;refine⟨k,l,hk,hl,?_⟩;simp only[Mh,aw,ck,fh,and_true];exact⟨by grind,by grind,by grind,by grind⟩
theorem Gs{a b c d e f x y z t:Int}(ht:0<t):Pr (sS [a,b,c] [x,y,z,t]) (sS [d,e,f] [x,y,z,t])↔Pr [a,b,c] [d,e,f]:=by
 constructor
 .rintro⟨k,l,hk,hl,h⟩
  simp only[Ih,aw,ck,fh,and_true]at h;refine⟨k*t,l*t,gw hk (by omega),gw hl (by omega),?_⟩;obtain⟨h1,h2,h3,_⟩:=h;exact l3 (by grind) (by grind) (by grind)
 .rintro⟨k,l,hk,hl,h⟩
  simp only[aw,ck,fh,and_true]at h;obtain⟨h1,h2,h3⟩:=h;refine⟨k,l,hk,hl,?_⟩;simp only[Ih,aw,ck,fh,and_true];exact⟨by grind,by grind,by grind,by grind,by grind,by grind⟩
theorem Mr{a b d e x y t:Int}(ht:0<t):Pr (exf [a,b] [x,y,t]) (exf [d,e] [x,y,t])↔Pr [a,b] [d,e]:=by
 constructor
 .rintro⟨k,l,hk,hl,h⟩
  simp only[exf,aw,ck,fh,and_true]at h;refine⟨k*t,l*t,gw hk (by omega),gw hl (by omega),?_⟩;obtain⟨h1,h2,_⟩:=h;simp only[aw,ck,fh,and_true];exact⟨by grind,by grind⟩
 .rintro⟨k,l,hk,hl,h⟩
  simp only[aw,ck,fh,and_true]at h;obtain⟨h1,h2⟩:=h;refine⟨k,l,hk,hl,?_⟩;simp only[exf,aw,ck,fh,and_true];exact⟨by grind,by grind,by grind⟩
theorem adz{x0 y0 z0 w0 x1 y1 z1 w1 x2 y2 z2 w2:Int}(h0:0<w0)(h1:0<w1)(h2:0<w2):Pr (ext (dL [[x0,y0,z0,w0],[x1,y1,z1,w1],[x2,y2,z2,w2]]) [x0,y0,z0,w0]) (ext (dL [[x0,y0,z0,w0],[x1,y1,z1,w1],[x2,y2,z2,w2]]) [x1,y1,z1,w1])/\Pr (ext (dL [[x0,y0,z0,w0],[x1,y1,z1,w1],[x2,y2,z2,w2]]) [x0,y0,z0,w0]) (ext (dL [[x0,y0,z0,w0],[x1,y1,z1,w1],[x2,y2,z2,w2]]) [x2,y2,z2,w2]):=by
 refine⟨⟨w1,w0,by omega,by omega,?_⟩,⟨w2,w0,by omega,by omega,?_⟩⟩<;>
 .simp only[Mh,pW,pX,sF,iM,iL,aw,ck,fh,and_true]
  exact⟨by grind,by grind,by grind,by grind⟩
theorem aci{x0 y0 z0 w0 x1 y1 z1 w1:Int}(h0:0<w0)(h1:0<w1):Pr (fW [x0,y0,z0,w0] [x1,y1,z1,w1]) (sS (dI [x0,y0,z0,w0] [x1,y1,z1,w1]) [x0,y0,z0,w0])/\Pr (fW [x0,y0,z0,w0] [x1,y1,z1,w1]) (sS (dI [x0,y0,z0,w0] [x1,y1,z1,w1]) [x1,y1,z1,w1]):=by
 refine⟨⟨w0,1,by omega,by omega,?_⟩,⟨w1,1,by omega,by omega,?_⟩⟩<;>
 .simp only[Fh,Ih,iM,iL,aw,ck,fh,and_true]
  exact⟨by grind,by grind,by grind,by grind,by grind,by grind⟩
theorem abQ{x0 y0 z0 w0 x1 y1 z1 w1:Int}:bB (fW [x1,y1,z1,w1] [x0,y0,z0,w0])=bB (fW [x0,y0,z0,w0] [x1,y1,z1,w1]):=Yc (a:=1) (b:=-1) (by decide) (by decide) (by
 simp only[Fh,aw,ck,fh,and_true];exact⟨by grind,by grind,by grind,by grind,by grind,by grind⟩)
theorem abW{x0 y0 w0 x1 y1 w1:Int}(h0:0<w0)(h1:0<w1):Pr (fD [x0,y0,w0] [x1,y1,w1]) (exf (dI [x0,y0,w0] [x1,y1,w1]) [x0,y0,w0])/\Pr (fD [x0,y0,w0] [x1,y1,w1]) (exf (dI [x0,y0,w0] [x1,y1,w1]) [x1,y1,w1]):=by
 refine⟨⟨w0,1,by omega,by omega,?_⟩,⟨w1,1,by omega,by omega,?_⟩⟩<;>
 .simp only[sF,exf,iM,iL,aw,ck,fh,and_true]
  exact⟨by grind,by grind,by grind⟩
def Lk(n:Nat)(k l:AS):Prop:=
 (n=3/\∃a b c d e f x y z t:Int,0<t/\k=[bB [a,b,c],bB [d,e,f],[x,y,z,t]]/\l=[bB (ext [a,b,c] [x,y,z,t]),bB (sS [d,e,f] [x,y,z,t]),[x,y,z,t]])\/
 (n=2/\∃a b x y t:Int,0<t/\k=[bB [-b,a],bB [a,b],[x,y,t]]/\l=[bB (exf [a,b] [x,y,t]),[x,y,t]])
theorem Lk.iff{n:Nat}{k l k' l':AS}(h:Lk n k l)(h':Lk n k' l'):k=k'↔l=l':=by
 rcases h with⟨hn,a,b,c,d,e,f,x,y,z,t,ht,rfl,rfl⟩|⟨hn,a,b,x,y,t,ht,rfl,rfl⟩<;>
 rcases h' with⟨hn',a',b',c',d',e',f',x',y',z',t',ht',rfl,rfl⟩|⟨hn',a',b',x',y',t',ht',rfl,rfl⟩
 .have key:∀P:Prop,(P/\[x,y,z,t]=[x',y',z',t'])=([x,y,z,t]=[x',y',z',t']/\P):=λP=>by rw[and_comm]
  simp only[fh,and_true];constructor
  .rintro⟨h1,h2,rfl,rfl,rfl,rfl⟩
   exact⟨gZ.mpr ((Yq ht).mpr (gZ.mp h1)),gZ.mpr ((Gs ht).mpr (gZ.mp h2)),rfl,rfl,rfl,rfl⟩
  .rintro⟨h1,h2,rfl,rfl,rfl,rfl⟩
   exact⟨gZ.mpr ((Yq ht).mp (gZ.mp h1)),gZ.mpr ((Gs ht).mp (gZ.mp h2)),rfl,rfl,rfl,rfl⟩
 .omega
 .omega
 .simp only[fh,and_true]
  constructor
  .rintro⟨_,h2,rfl,rfl,rfl⟩
   exact⟨gZ.mpr ((Mr ht).mpr (gZ.mp h2)),rfl,rfl,rfl⟩
  .rintro⟨h1,rfl,rfl,rfl⟩
   have q:=(Mr ht).mp (gZ.mp h1);refine⟨?_,gZ.mpr q,rfl,rfl,rfl⟩;obtain⟨k,l,hk,hl,h⟩:=q;simp only[aw,ck,fh,and_true]at h;refine Yc hk hl ?_;simp only[aw,ck,fh,and_true];exact⟨by grind,by grind⟩
def iE(n:Nat):List cS->List cS->Prop
 |[],[]=>True
 |c::C,d::D=>(Lk n c.1 d.1/\c.2=d.2)/\iE n C D
 |_,_=>False
theorem iE.app{n:Nat}:∀{C D C' D':List cS},iE n C D->iE n C' D'->iE n (C++C') (D++D')
 |[],[],_,_,_,h=>h
 |c::C,d::D,_,_,h,h'=>⟨h.1,h.2.app h'⟩
theorem iE.at{n:Nat}{k l:AS}(hk:Lk n k l):∀{C D:List cS},iE n C D->cX C k=cX D l
 |[],[],_=>rfl
 |c::C,d::D,h=>by
  unfold cX;rw[iE.at hk h.2,h.1.2]
  by_cases e:c.1=k
  .rw[if_pos e,if_pos ((h.1.1.iff hk).mp e)]
  .rw[if_neg e,if_neg λz=>e ((h.1.1.iff hk).mpr z)]
theorem iE.one{n:Nat}:∀{C D:List cS},iE n C D->(∀c∈C,∃d∈D,Lk n c.1 d.1)/\(∀d∈D,∃c∈C,Lk n c.1 d.1)
 |[],[],_=>⟨λ_ h=>absurd h fg,λ_ h=>absurd h fg⟩
 |c::C,d::D,h=>by
  have ih:=iE.one h.2;refine⟨λx hx=>?_,λx hx=>?_⟩
  .rcases cq.mp hx with rfl |hx
   .exact⟨d,bi,h.1.1⟩
   .obtain⟨y,hy,z⟩:=ih.1 x hx
    exact⟨y,bn _ hy,z⟩
  .rcases cq.mp hx with rfl |hx
   .exact⟨c,bi,h.1.1⟩
   .obtain⟨y,hy,z⟩:=ih.2 x hx
    exact⟨y,bn _ hy,z⟩
theorem Df{k:AS}:∀{C:List cS},(∀c∈C,c.1≠k)->cX C k=0
 |[],_=>rfl
 |c::C,h=>by
  unfold cX;rw[if_neg (h c bi),Df λd hd=>h d (bn _ hd)];rfl
theorem iE.iff{n:Nat}{C D:List cS}(h:iE n C D):(∀k,cX C k=0)↔∀l,cX D l=0:=by
 constructor
 .intro z l
  by_cases q:∃d∈D,d.1=l
  .obtain⟨d,hd,rfl⟩:=q
   obtain⟨c,_,hc⟩:=h.one.2 d hd;rw[<-h.at hc];exact z _
  .exact Df λd hd e=>q ⟨d,hd,e⟩
 .intro z k
  by_cases q:∃c∈C,c.1=k
  .obtain⟨c,hc,rfl⟩:=q
   obtain⟨d,_,hd⟩:=h.one.1 c hc;rw[h.at hd];exact z _
  .exact Df λc hc e=>q ⟨c,hc,e⟩
abbrev oP:MS:=(aG (bW (bH (aC eJ (aA 2) (mC (.int 0)))) (bD (aA 1)) cY) (bW (bH (aC kP (aA 2) (mC (.int 0)))) (bD (mR gI (aB (bF ["_law_one"] [] (bA (aA 1)) (gN 0) (aC dN (mC (.int 0)) (aA 0))) aD))) cY))
theorem Kq(S:aH)(TL:AR)(x0:BB):∀(L:AR)(x2:BB),(dS L=0/\∃y2,dQ [] (gN 2) oP (L.map .int) [x0,some (.pv (tv TL)),x2] S=.nx [x0,some (.pv (tv TL)),y2] S)\/(dS L≠0/\dQ [] (gN 2) oP (L.map .int) [x0,some (.pv (tv TL)),x2] S=.rt (.pv (tv (TL.map (dS L*·)))) S)
 |[],x2=>.inl ⟨rfl,x2,fN⟩
 |n::L,x2=>by
  rw[aw,fA];have ec:=Cl S TL none;rcases Int.lt_trichotomy n 0 with h |h |h
  .have hf:dS (n::L)=-1:=by
    unfold dS;rw[if_neg (by omega)];unfold sg
    (repeat' split)<;>omega
   rw[hf];refine .inr ⟨by decide,?_⟩;have e:TL.map (-1*·)=TL.map (- ·):=ee λx _=>by omega
   rw[e];have h1:¬0<n:=by omega
   unfold oP;show _=cN.rt (.pv (.tup ((TL.map (- ·)).map .int))) S;have ht:tv TL=.tup (TL.map .int):=rfl;rw[ht];generalize TL.map PV.int=T1,(TL.map (- ·)).map PV.int=T2 at *;simp! [gN,bC,aO,aN,aL,aM,aF,aK,h1,h,bF,cJ,bA,cC,ec]
  .subst h
   have hf:dS (0::L)=dS L:=by simp[dS]
   rw[hf];have ih:=Kq S TL x0 L (some (.pv (.int 0)));have e:oP [x0,some (.pv (tv TL)),some (.pv (.int 0))] S=.nx [x0,some (.pv (tv TL)),some (.pv (.int 0))] S:=by
    unfold oP;generalize tv TL=T1;simp! [bC,aO,aN,aL,aM,aF,aK]
   simp only[gN,jc,dn,e];exact ih
  .have hf:dS (n::L)=1:=by
    unfold dS;rw[if_neg (by omega)];unfold sg
    (repeat' split)<;>omega
   rw[hf];refine .inr ⟨by decide,?_⟩;have e:TL.map (1*·)=TL:=by simp
   rw[e];unfold oP;generalize tv TL=T1;simp! [gN,bC,aO,aN,aL,aM,aF,aK,h]
theorem Bb(ns:AR)(S:aH)(hb:∀n∈ns,Bd 8000 n):mP [.pv (.lst (ns.map .int))] S=.ok (.pv (tv (bB ns))) S:=by
 have e1:=nT ns S hb;have e1:jG [.pv (.lst (ns.map .int))] S=.ok (.pv (tv (low ns))) S:=e1;have hf:∀{k:Int}(_:0<k)(l:AR),dS (l.map (k*·))=dS l:=λ{k} hk l=>by
  induction l with
  |nil=>rfl
  |cons n l ih=>
   rw[aw];unfold dS
   by_cases h:n=0
   .subst h
    simpa using ih
   .rw[if_neg h,if_neg (gw (by omega) h),jL hk]
 have ef:dS ns=dS (low ns):=by
  obtain⟨g,hg,e⟩:=Wr ns;have:=hf hg (low ns);rw[<-e]at this;exact this
 have hb:Jb=(aG (aQ 1 (aJ jG [] (aB (aA 0) aD))) (aG (bJ (bA (aA 1)) (gN 2) oP) (bD (aA 1)))):=rfl;unfold mP aR bB;rw[hb,ef];have ht:∀l:AR,tv l=.tup (l.map .int):=λ_=>rfl;have ih:=Kq S (low ns) (some (.pv (.lst (ns.map .int)))) (low ns) none;rw[ht]at e1 ih;rw[ht];generalize oP=UB at *;rcases ih with⟨z,y2,e2⟩|⟨z,e2⟩
 .rw[z]
  have e:(low ns).map (0*·)=low ns:=by
   have q:∀l:AR,dS l=0->l.map (0*·)=l:=λl=>by
    induction l with
    |nil=>intro _;rfl
    |cons n l ih=>
     intro h;unfold dS at h
     by_cases c:n=0
     .rw[if_pos c]at h
      rw[aw,ih h,c,iy]
     .rw[if_neg c]at h
      have:=Fv c;rw[h]at this;exact absurd this (by decide)
   exact q _ z
  rw[e];generalize ns.map PV.int=T2,(low ns).map PV.int=T1 at *;simp! [bC,aO,aN,aL,aM,aF,aK,bJ,bA,cC,e1,e2]
 .rw[ht]at e2
  generalize ns.map PV.int=T2,(low ns).map PV.int=T1,((low ns).map (dS (low ns)*·)).map PV.int=T3 at *;simp! [bC,aO,aN,aL,aM,aF,aK,bJ,bA,cC,e1,e2]
theorem Ix{a b c d e f:Int}{A B:PV}(S:aH)(hA:A=.tup [.int a,.int b,.int c]\/∃w,A=.tup [.int a,.int b,.int c,.int w])(hB:B=.tup [.int d,.int e,.int f]\/∃w,B=.tup [.int d,.int e,.int f,.int w])(ha:Bd 1000 a)(hb:Bd 1000 b)(hc:Bd 1000 c)(hd:Bd 1000 d)(he:Bd 1000 e)(hf:Bd 1000 f):mY [.pv A,.pv B] S=.ok (.pv (.lst [.int (b*f-c*e),.int (c*d-a*f),.int (a*e-b*d)])) S:=by
 have m1:=mk hb hf (by decide) (by decide);have m2:=mk hc he (by decide) (by decide);have m3:=mk hc hd (by decide) (by decide);have m4:=mk ha hf (by decide) (by decide);have m5:=mk ha he (by decide) (by decide);have m6:=mk hb hd (by decide) (by decide);obtain⟨a0,a1,a2⟩:aE A (.int 0)=some (.int a)/\aE A (.int 1)=some (.int b)/\aE A (.int 2)=some (.int c):=by
  rcases hA with rfl |⟨w,rfl⟩<;>exact⟨eH (j:=0) rfl,eH (j:=1) rfl,eH (j:=2) rfl⟩
 obtain⟨b0,b1,b2⟩:aE B (.int 0)=some (.int d)/\aE B (.int 1)=some (.int e)/\aE B (.int 2)=some (.int f):=by
  rcases hB with rfl |⟨w,rfl⟩<;>exact⟨eH (j:=0) rfl,eH (j:=1) rfl,eH (j:=2) rfl⟩
 unfold mY aR wT;simp! [bC,aO,aN,aL,aM,aF,aK,a0,a1,a2,b0,b1,b2,m1,m2,m3,m4,m5,m6]
theorem iB{k:Nat}{a b c d:Int}(ha:Bd k a)(hb:Bd k b)(hc:Bd k c)(hd:Bd k d):Bd (k+k+1) (a*b-c*d):=(ha.mul hb).sub (hc.mul hd)
theorem Oc{x0 y0 w0 x1 y1 w1:Int}(S:aH)(p:P2 x0 y0 w0)(q:P2 x1 y1 w1):qL [.pv (tv [x0,y0,w0]),.pv (tv [x1,y1,w1])] S=.ok (.pv (tv (bB (fD [x0,y0,w0] [x1,y1,w1])))) S:=by
 have c:=Ix S (A:=.tup [.int x0,.int y0,.int w0]) (B:=.tup [.int x1,.int y1,.int w1]) (.inl rfl) (.inl rfl) p.bx p.by_ p.bw q.bx q.by_ q.bw;have e:=Bb (fD [x0,y0,w0] [x1,y1,w1]) S (λn hn=>by
  have hn:n=y0*w1-w0*y1\/n=w0*x1-x0*w1\/n=x0*y1-y0*x1:=by simpa[sF]using hn
  rcases hn with rfl |rfl |rfl
  .exact(iB p.by_ q.bw p.bw q.by_).mono (by decide)
  .exact(iB p.bw q.bx p.bx q.bw).mono (by decide)
  .exact(iB p.bx q.by_ p.by_ q.bx).mono (by decide))
 have e:mP [.pv (.lst [.int (y0*w1-w0*y1),.int (w0*x1-x0*w1),.int (x0*y1-y0*x1)])] S=_:=e;have ht:∀a b c:Int,tv [a,b,c]=.tup [.int a,.int b,.int c]:=λ_ _ _=>rfl;rw[ht,ht];generalize x0*y1-y0*x1=n3,w0*x1-x0*w1=n2,y0*w1-w0*y1=n1,tv (bB (fD [x0,y0,w0] [x1,y1,w1]))=R at *;unfold qL aR Ma;simp! [aE,aZ,aY,aP,aO,aN,aL,aM,aF,aK,c,e]
theorem qU{x0 y0 z0 w0 x1 y1 z1 w1:Int}(S:aH)(p:P3 x0 y0 z0 w0)(q:P3 x1 y1 z1 w1):qK [.pv (tv [x0,y0,z0,w0]),.pv (tv [x1,y1,z1,w1])] S=.ok (.pv (tv (bB (fW [x0,y0,z0,w0] [x1,y1,z1,w1])))) S:=by
 have g:=sD S p q;have c:=Ix S (A:=v3 x0 y0 z0 w0) (B:=v3 x1 y1 z1 w1) (.inr ⟨_,rfl⟩) (.inr ⟨_,rfl⟩) p.bx p.by_ p.bz q.bx q.by_ q.bz;have e:=Bb (fW [x0,y0,z0,w0] [x1,y1,z1,w1]) S (λn hn=>by
  have hn:n=x1*w0-x0*w1\/n=y1*w0-y0*w1\/n=z1*w0-z0*w1\/n=y0*z1-z0*y1\/n=z0*x1-x0*z1\/n=x0*y1-y0*x1:=by simpa[Fh]using hn
  rcases hn with rfl |rfl |rfl |rfl |rfl |rfl
  .exact(iB q.bx p.bw p.bx q.bw).mono (by decide)
  .exact(iB q.by_ p.bw p.by_ q.bw).mono (by decide)
  .exact(iB q.bz p.bw p.bz q.bw).mono (by decide)
  .exact(iB p.by_ q.bz p.bz q.by_).mono (by decide)
  .exact(iB p.bz q.bx p.bx q.bz).mono (by decide)
  .exact(iB p.bx q.by_ p.by_ q.bx).mono (by decide))
 have e:mP [.pv (.lst [.int (x1*w0-x0*w1),.int (y1*w0-y0*w1),.int (z1*w0-z0*w1),.int (y0*z1-z0*y1),.int (z0*x1-x0*z1),.int (x0*y1-y0*x1)])] S=_:=e;have ht:∀a b c d:Int,tv [a,b,c,d]=v3 a b c d:=λ_ _ _ _=>rfl;rw[ht,ht];generalize x0*y1-y0*x1=n6,z0*x1-x0*z1=n5,y0*z1-z0*y1=n4,z1*w0-z0*w1=n3,y1*w0-y0*w1=n2,x1*w0-x0*w1=n1,v3 x1 y1 z1 w1=B,v3 x0 y0 z0 w0=A,tv (bB (fW [x0,y0,z0,w0] [x1,y1,z1,w1]))=R at *;unfold qK aR Ia;simp! [aE,aZ,aY,aP,aO,aN,aL,aM,aF,aK,g,c,e]
theorem wN{x0 y0 z0 w0 x1 y1 z1 w1 x2 y2 z2 w2:Int}(S:aH)(p:P3 x0 y0 z0 w0)(q:P3 x1 y1 z1 w1)(r:P3 x2 y2 z2 w2):qX [.pv (tv [x0,y0,z0,w0]),.pv (tv [x1,y1,z1,w1]),.pv (tv [x2,y2,z2,w2])] S=.ok (.pv (tv (bB (ext (dL [[x0,y0,z0,w0],[x1,y1,z1,w1],[x2,y2,z2,w2]]) [x0,y0,z0,w0])))) S:=by
 have g1:=sD S p q;have g2:=sD S p r;have b1:=iB q.bx p.bw p.bx q.bw;have b2:=iB q.by_ p.bw p.by_ q.bw;have b3:=iB q.bz p.bw p.bz q.bw;have b4:=iB r.bx p.bw p.bx r.bw;have b5:=iB r.by_ p.bw p.by_ r.bw;have b6:=iB r.bz p.bw p.bz r.bw;have hn:dL [[x0,y0,z0,w0],[x1,y1,z1,w1],[x2,y2,z2,w2]]=fD [x1*w0-x0*w1,y1*w0-y0*w1,z1*w0-z0*w1] [x2*w0-x0*w2,y2*w0-y0*w2,z2*w0-z0*w2]:=rfl;rw[hn];have ht:∀a b c d:Int,tv [a,b,c,d]=v3 a b c d:=λ_ _ _ _=>rfl;rw[ht,ht,ht];generalize z2*w0-z0*w2=t3,y2*w0-y0*w2=t2,x2*w0-x0*w2=t1,z1*w0-z0*w1=u3,y1*w0-y0*w1=u2,x1*w0-x0*w1=u1 at *;have c:=Rc S (A:=.lst [.int u1,.int u2,.int u3]) (B:=.lst [.int t1,.int t2,.int t3]) rfl rfl (b1.mono (by decide)) (b2.mono (by decide)) (b3.mono (by decide)) (b4.mono (by decide)) (b5.mono (by decide)) (b6.mono (by decide));have d1:=iB b2 b6 b3 b5;have d2:=iB b3 b4 b1 b6;have d3:=iB b1 b5 b2 b4;have hc:fD [u1,u2,u3] [t1,t2,t3]=[u2*t3-u3*t2,u3*t1-u1*t3,u1*t2-u2*t1]:=rfl;rw[hc];generalize u1*t2-u2*t1=n3,u3*t1-u1*t3=n2,u2*t3-u3*t2=n1 at *;have f:=Ee S (A:=.lst [.int n1,.int n2,.int n3]) (B:=v3 x0 y0 z0 w0) (us:=[n1,n2,n3]) (vs:=[x0,y0,z0,w0]) (.inl rfl) (.inr rfl) (by simp;exact⟨d1.mono (by decide),d2.mono (by decide),d3.mono (by decide)⟩) (by simp;exact⟨p.bx.mono (by decide),p.by_.mono (by decide),p.bz.mono (by decide),p.bw.mono (by decide)⟩);have hd:dt [n1,n2,n3] [x0,y0,z0,w0]=n1*x0+n2*y0+n3*z0:=by
  unfold dt;simp;omega
 rw[hd]at f;have m1:=mk d1 p.bw (by decide) (by decide);have m2:=mk d2 p.bw (by decide) (by decide);have m3:=mk d3 p.bw (by decide) (by decide);have hx:ext [n1,n2,n3] [x0,y0,z0,w0]=[n1*w0,n2*w0,n3*w0,0-(n1*x0+n2*y0+n3*z0)]:=rfl;have e:=Bb (ext [n1,n2,n3] [x0,y0,z0,w0]) S (λn hn=>by
  rw[hx]at hn;have hn:n=n1*w0\/n=n2*w0\/n=n3*w0\/n=0-(n1*x0+n2*y0+n3*z0):=by simpa using hn
  rcases hn with rfl |rfl |rfl |rfl
  .exact(d1.mul p.bw).mono (by decide)
  .exact(d2.mul p.bw).mono (by decide)
  .exact(d3.mul p.bw).mono (by decide)
  .rw[ju]
   exact((((d1.mul p.bx).add (d2.mul p.by_)).add ((d3.mul p.bz).mono (by decide))).neg).mono (by decide))
 rw[hx]at e⊢;have e:mP [.pv (.lst [.int (n1*w0),.int (n2*w0),.int (n3*w0),.int (0-(n1*x0+n2*y0+n3*z0))])] S=_:=e;have i3:aE (v3 x0 y0 z0 w0) (.int 3)=some (.int w0):=eH (j:=3) rfl;generalize n1*x0+n2*y0+n3*z0=N,tv (bB [n1*w0,n2*w0,n3*w0,0-(n1*x0+n2*y0+n3*z0)])=R at *;rw[ju]at e;generalize v3 x2 y2 z2 w2=C,v3 x1 y1 z1 w1=B,v3 x0 y0 z0 w0=A at *;generalize hq1:n1*w0=q1 at *;generalize hq2:n2*w0=q2 at *;generalize hq3:n3*w0=q3 at *;unfold qX aR Cd;simp! [bC,aO,aN,aL,aM,aF,aK,bF,cJ,bA,cC,eA,dX,gN,g1,g2,c,f,i3,m1,m2,m3,e]
theorem xP{kvs:List (PV×PV)}{C:List cS}(h:Tb kvs C)(hl:C.length<=100000)(T:aH)(k:AS)(m:Int):lC [.ref 0,.pv (kE k),.pv (.int m)] (.dic true kvs::T)=.ok (.pv .non) (.dic true (gH kvs (k,m))::T):=by
 have e1:kM (.ref 0) (.pv (kE k)) (.dic true kvs::T) (some (.pv (.int 0)))=.ok (.pv (.int (cX C k))) (.dic true kvs::T):=by
  unfold kM;simp only[kr];rw[if_pos ⟨k,rfl⟩];rcases h.get k with e |⟨e,z⟩
  .rw[e]
  .rw[e,z]
 have e2:lE (.ref 0) (.pv (kE k)) (.pv (.int (cX C k+m))) (.dic true kvs::T)=.ok (.pv .non) (.dic true (gH kvs (k,m))::T):=by
  unfold lE gH;simp only[kr];have:=h.len;rw[if_pos ⟨⟨k,rfl⟩,by omega⟩,h.vint];rfl
 unfold lC aR Se;generalize kE k=K1 at *;simp! [aE,aZ,aY,aP,aO,aN,aL,aM,aF,aK,pR,uR,kK,e1,e2]
def lF(s e:AR)(n:Int):List cS:=[([bB (fD s e),s],n),([bB (fD s e),e],0-n)]
def lS(w:AS)(s e:AR)(n:Int):List cS:=[([bB (ext (dL w) (w.headD [])),bB (fW s e),s],n),([bB (ext (dL w) (w.headD [])),bB (fW s e),e],0-n)]
def lW(w:AS)(n:Int):List cS:=(gM w).flatMap λx=>lS w x.1 x.2 n
def lA(uss:AS)(n:Int):List cS:=match uss with
 |[a,b,c]=>lF c a n++lF a b n++lF b c n
 |[a,b,c,d]=>(fT [a,b,c,d]).flatMap λw=>lW w n
 |_=>[]
def sK:MS:=(aG (aQ 4 (aC aE (aA 1) (aC dN (aA 3) (mC (.int 1))))) (aG (aQ 5 (aC aE (aA 1) (aA 3))) (aG (aQ 6 (aJ qL [] (aB (aA 4) (aB (aA 5) aD)))) (aG (cZ (aJ lC [] (aB (aA 0) (aB (mN cU (aB (aA 6) (aB (aA 4) aD))) (aB (aA 2) aD))))) (cZ (aJ lC [] (aB (aA 0) (aB (mN cU (aB (aA 6) (aB (aA 5) aD))) (aB (aC dN (mC (.int 0)) (aA 2)) aD)))))))))
theorem Hi{kvs:List (PV×PV)}{C:List cS}(h:Tb kvs C)(hl:C.length<=90000){U:PV}{p q:AR}{k:Int}(i1:aE U (.int (k-1))=some (tv p))(i2:aE U (.int k)=some (tv q))(el:∀S,qL [.pv (tv p),.pv (tv q)] S=.ok (.pv (tv (bB (fD p q)))) S)(n:Int)(x4 x5 x6 x7 x8 x9 x10:BB):∃y4 y5 y6,sK [some (.ref 0),some (.pv U),some (.pv (.int n)),some (.pv (.int k)),x4,x5,x6,x7,x8,x9,x10] [.dic true kvs]=.nx [some (.ref 0),some (.pv U),some (.pv (.int n)),some (.pv (.int k)),y4,y5,y6,x7,x8,x9,x10] [.dic true (fE kvs (lF p q n))]:=by
 have h2:=h.add ([bB (fD p q),p],n);have e1:=xP h (by omega) [] [bB (fD p q),p] n;have e2:=xP h2 (by rw[av];simp;omega) [] [bB (fD p q),q] (0-n);have e0:=el [.dic true kvs];have et:fE kvs (lF p q n)=gH (gH kvs ([bB (fD p q),p],n)) ([bB (fD p q),q],0-n):=rfl;have k1:kE [bB (fD p q),p]=.tup [tv (bB (fD p q)),tv p]:=rfl;have k2:kE [bB (fD p q),q]=.tup [tv (bB (fD p q)),tv q]:=rfl;rw[et];rw[k1]at e1;rw[k2]at e2;refine⟨some (.pv (tv p)),some (.pv (tv q)),some (.pv (tv (bB (fD p q)))),?_⟩;unfold sK;generalize tv q=T3,tv p=T2,tv (bB (fD p q))=T1,gH kvs ([bB (fD p q),p],n)=K1,gH (gH kvs ([bB (fD p q),p],n)) ([bB (fD p q),q],0-n)=K2 at *;rw[ju]at e2;simp! [bC,aO,aN,aL,aM,aF,aK,i1,i2,e0,e1,e2]
theorem Wh(S:aH):gG [.pv (.int 3)] S=.ok ([.int 0,.int 1,.int 2],[]) S:=by
 unfold gG;dsimp only;rw[if_pos (by decide)];rfl
theorem Bq{ls:List (PV×PV)}(nd:(ls.map (·.1)).Nodup)(k v:PV):fL (gU ls k v) k=some v:=nU (qZ nd).1 ((Qc nd _).mpr (.inl rfl))
theorem Iq{ls:List (PV×PV)}(nd:(ls.map (·.1)).Nodup){k v k' u:PV}(h:k'≠k)(g:fL ls k'=some u):fL (gU ls k v) k'=some u:=by
 refine nU (qZ nd).1 ((Qc nd _).mpr (.inr ⟨h,?_⟩));unfold fL at g;cases z:jC ls k' with
 |none=>rw[z]at g;cases g
 |some i=>
  rw[z]at g;obtain⟨w,hw⟩:=mT z;simp only[hw,yu,Option.some.injEq]at g;subst g;exact dg hw
abbrev eU(p q:AR):PV:=tv (bB (fW p q))
def fG(ls:List (PV×PV))(p q:AR):List (PV×PV):=gU (gU ls (kE [p,q]) (eU p q)) (kE [q,p]) (eU p q)
structure Ln(ls:List (PV×PV))(E:List (AR×AR)):Prop where
 nd:(ls.map (·.1)).Nodup
 len:ls.length<=2*E.length
 at_:∀x∈E,fL ls (kE [x.1,x.2])=some (eU x.1 x.2)/\fL ls (kE [x.2,x.1])=some (eU x.1 x.2)
theorem Ln.add{ls:List (PV×PV)}{E:List (AR×AR)}(h:Ln ls E){p q:AR}(sw:eU q p=eU p q):Ln (fG ls p q) ((p,q)::E):=by
 have n1:=qZ h.nd (k:=kE [p,q]) (v:=eU p q);have n2:=qZ n1.1 (k:=kE [q,p]) (v:=eU p q);have key:∀{s t:AR}{v:PV},((s=p/\t=q)->v=eU p q)->((s=q/\t=p)->v=eU p q)->(fL ls (kE [s,t])=some v\/(s=p/\t=q)\/(s=q/\t=p))->fL (fG ls p q) (kE [s,t])=some v:=λ{s t v} h1 h2 h3=>by
  unfold fG
  by_cases c:s=q/\t=p
  .rw[c.1,c.2,h2 c]
   exact Bq n1.1 _ _
  .refine Iq n1.1 (λe=>c (by have:=Lf e;simpa using this)) ?_
   by_cases c':s=p/\t=q
   .rw[c'.1,c'.2,h1 c']
    exact Bq h.nd _ _
   .refine Iq h.nd (λe=>c' (by have:=Lf e;simpa using this)) ?_
    rcases h3 with g |g |g
    .exact g
    .exact absurd g c'
    .exact absurd g c
 refine⟨n2.1,?_,λx hx=>?_⟩
 .have:=h.len
  have:=n1.2;have:=n2.2;unfold fG;rw[cv];omega
 .rcases cq.mp hx with rfl |hx
  .exact⟨key (λ_=>rfl) (λ_=>rfl) (.inr (.inl ⟨rfl,rfl⟩)),key (λ_=>rfl) (λ_=>rfl) (.inr (.inr ⟨rfl,rfl⟩))⟩
  .have g:=h.at_ x hx
   refine⟨key (λe=>by rw[e.1,e.2]) (λe=>by rw[e.1,e.2,sw]) (.inl g.1),key (λe=>by rw[e.1,e.2,sw]) (λe=>by rw[e.1,e.2]) (.inl g.2)⟩
theorem Ln.nil:Ln [] []:=⟨qq,ak _,λ_ h=>absurd h fg⟩
def oQ:MS:=(aG (aQ 6 (aJ qK [] (aB (aC aE (aA 1) (aA 8)) (aB (aC aE (aA 1) (aA 3)) aD)))) (aG (kK (aA 7) (mN cU (aB (aC aE (aA 1) (aA 8)) (aB (aC aE (aA 1) (aA 3)) aD))) (aA 6)) (kK (aA 7) (mN cU (aB (aC aE (aA 1) (aA 3)) (aB (aC aE (aA 1) (aA 8)) aD))) (aA 6))))
theorem sG{kvs ls:List (PV×PV)}{E:List (AR×AR)}(h:Ln ls E)(hl:E.length<=1000){U:PV}{p q:AR}{k m:Int}(i1:aE U (.int m)=some (tv p))(i2:aE U (.int k)=some (tv q))(el:∀S,qK [.pv (tv p),.pv (tv q)] S=.ok (.pv (eU p q)) S)(x2 x4 x5 x6 x9 x10:BB):oQ [some (.ref 0),some (.pv U),x2,some (.pv (.int k)),x4,x5,x6,some (.ref 1),some (.pv (.int m)),x9,x10] [.dic true kvs,.dic true ls]=.nx [some (.ref 0),some (.pv U),x2,some (.pv (.int k)),x4,x5,some (.pv (eU p q)),some (.ref 1),some (.pv (.int m)),x9,x10] [.dic true kvs,.dic true (fG ls p q)]:=by
 have e0:=el [.dic true kvs,.dic true ls];have n1:=qZ h.nd (k:=kE [p,q]) (v:=eU p q);have hl':=h.len;have e1:lE (.ref 1) (.pv (kE [p,q])) (.pv (eU p q)) [.dic true kvs,.dic true ls]=.ok (.pv .non) [.dic true kvs,.dic true (gU ls (kE [p,q]) (eU p q))]:=by
  unfold lE;simp only[ve,kr];rw[if_pos ⟨⟨_,rfl⟩,by omega⟩];rfl
 have e2:lE (.ref 1) (.pv (kE [q,p])) (.pv (eU p q)) [.dic true kvs,.dic true (gU ls (kE [p,q]) (eU p q))]=.ok (.pv .non) [.dic true kvs,.dic true (fG ls p q)]:=by
  unfold lE;simp only[ve,kr];rw[if_pos ⟨⟨_,rfl⟩,by omega⟩];rfl
 have k1:kE [p,q]=.tup [tv p,tv q]:=rfl;have k2:kE [q,p]=.tup [tv q,tv p]:=rfl;rw[k1]at e1 e2;rw[k2]at e2;unfold oQ;generalize tv q=T2,tv p=T1,eU p q=V,gU ls (.tup [tv p,tv q]) (eU p q)=L1,fG ls p q=L2 at *;simp! [bC,aO,aN,aL,aM,aF,aK,kK,i1,i2,e0,e1,e2]
def zJ:MS:=(aG (aQ 4 (aC aE (aA 9) (aC dN (aA 3) (mC (.int 1))))) (aG (aQ 5 (aC aE (aA 9) (aA 3))) (aG (aQ 6 (mI (aA 7) (mN cU (aB (aA 4) (aB (aA 5) aD))))) (aG (cZ (aJ lC [] (aB (aA 0) (aB (mN cU (aB (aA 10) (aB (aA 6) (aB (aA 4) aD)))) (aB (aA 2) aD))))) (cZ (aJ lC [] (aB (aA 0) (aB (mN cU (aB (aA 10) (aB (aA 6) (aB (aA 5) aD)))) (aB (aC dN (mC (.int 0)) (aA 2)) aD)))))))))
theorem lL{kvs ls:List (PV×PV)}{C:List cS}(h:Tb kvs C)(hl:C.length<=90000){W:PV}{w:AS}{p q:AR}{k:Int}(i1:aE W (.int (k-1))=some (tv p))(i2:aE W (.int k)=some (tv q))(hg:fL ls (kE [p,q])=some (eU p q))(n:Int)(x1 x4 x5 x6 x8:BB):∃y4 y5 y6,zJ [some (.ref 0),x1,some (.pv (.int n)),some (.pv (.int k)),x4,x5,x6,some (.ref 1),x8,some (.pv W),some (.pv (tv (bB (ext (dL w) (w.headD [])))))] [.dic true kvs,.dic true ls]=.nx [some (.ref 0),x1,some (.pv (.int n)),some (.pv (.int k)),y4,y5,y6,some (.ref 1),x8,some (.pv W),some (.pv (tv (bB (ext (dL w) (w.headD [])))))] [.dic true (fE kvs (lS w p q n)),.dic true ls]:=by
 generalize hP:bB (ext (dL w) (w.headD []))=P at *;have h2:=h.add ([P,bB (fW p q),p],n);have e1:=xP h (by omega) [.dic true ls] [P,bB (fW p q),p] n;have e2:=xP h2 (by rw[av];simp;omega) [.dic true ls] [P,bB (fW p q),q] (0-n);have e0:kM (.ref 1) (.pv (kE [p,q])) [.dic true kvs,.dic true ls] none=.ok (.pv (eU p q)) [.dic true kvs,.dic true ls]:=by
  unfold kM;simp only[ve,kr];rw[if_pos ⟨_,rfl⟩,hg]
 have et:fE kvs (lS w p q n)=gH (gH kvs ([P,bB (fW p q),p],n)) ([P,bB (fW p q),q],0-n):=by rw[<-hP];rfl
 have k0:kE [p,q]=.tup [tv p,tv q]:=rfl;have k1:kE [P,bB (fW p q),p]=.tup [tv P,eU p q,tv p]:=rfl;have k2:kE [P,bB (fW p q),q]=.tup [tv P,eU p q,tv q]:=rfl;rw[et];rw[k0]at e0;rw[k1]at e1;rw[k2]at e2;refine⟨some (.pv (tv p)),some (.pv (tv q)),some (.pv (eU p q)),?_⟩;unfold zJ;generalize tv P=T4,tv q=T3,tv p=T2,eU p q=T1,gH kvs ([P,bB (fW p q),p],n)=K1,gH (gH kvs ([P,bB (fW p q),p],n)) ([P,bB (fW p q),q],0-n)=K2 at *;rw[ju]at e2;simp! [bC,aO,aN,aL,aM,aF,aK,mI,i1,i2,e0,e1,e2]
def sO:MS:=(aG (aQ 10 (aJ qX [] (aB (aC aE (aA 9) (mC (.int 0))) (aB (aC aE (aA 9) (mC (.int 1))) (aB (aC aE (aA 9) (mC (.int 2))) aD))))) (bJ (cM (aB (mC (.int 3)) aD)) (gN 3) zJ))
theorem zW{kvs ls:List (PV×PV)}{C:List cS}(h:Tb kvs C)(hl:C.length<=80000){a b c:AR}(ep:∀S,qX [.pv (tv a),.pv (tv b),.pv (tv c)] S=.ok (.pv (tv (bB (ext (dL [a,b,c]) a)))) S)(g1:fL ls (kE [c,a])=some (eU c a))(g2:fL ls (kE [a,b])=some (eU a b))(g3:fL ls (kE [b,c])=some (eU b c))(n:Int)(x1 x3 x4 x5 x6 x8 x10:BB):∃y3 y4 y5 y6 y10,sO [some (.ref 0),x1,some (.pv (.int n)),x3,x4,x5,x6,some (.ref 1),x8,some (.pv (.tup [tv a,tv b,tv c])),x10] [.dic true kvs,.dic true ls]=.nx [some (.ref 0),x1,some (.pv (.int n)),y3,y4,y5,y6,some (.ref 1),x8,some (.pv (.tup [tv a,tv b,tv c])),y10] [.dic true (fE kvs (lW [a,b,c] n)),.dic true ls]:=by
 have ll:∀s e:AR,(lS [a,b,c] s e n).length=2:=λ_ _=>rfl;obtain⟨y4,y5,y6,e1⟩:=lL (W:=.tup [tv a,tv b,tv c]) (w:=[a,b,c]) (p:=c) (q:=a) (k:=0) h (by omega) rfl (eH (j:=0) rfl) g1 n x1 x4 x5 x6 x8;have h1:=h.adds (lS [a,b,c] c a n);obtain⟨z4,z5,z6,e2⟩:=lL (W:=.tup [tv a,tv b,tv c]) (w:=[a,b,c]) (p:=a) (q:=b) (k:=1) h1 (by rw[av,ll];omega) (eH (j:=0) rfl) (eH (j:=1) rfl) g2 n x1 y4 y5 y6 x8;have h2:=h1.adds (lS [a,b,c] a b n);obtain⟨t4,t5,t6,e3⟩:=lL (W:=.tup [tv a,tv b,tv c]) (w:=[a,b,c]) (p:=b) (q:=c) (k:=2) h2 (by rw[av,av,ll,ll];omega) (eH (j:=1) rfl) (eH (j:=2) rfl) g3 n x1 z4 z5 z6 x8;rw[kY]at e2 e3;rw[kY]at e3;have hW:lW [a,b,c] n=lS [a,b,c] c a n++lS [a,b,c] a b n++lS [a,b,c] b c n:=rfl;have ep:=ep [.dic true kvs,.dic true ls];have hh:[a,b,c].headD []=a:=rfl;rw[hh]at e1 e2 e3;refine⟨some (.pv (.int 2)),t4,t5,t6,some (.pv (tv (bB (ext (dL [a,b,c]) a)))),?_⟩;rw[hW];have i0:aE (.tup [tv a,tv b,tv c]) (.int 0)=some (tv a):=eH (j:=0) rfl;have i1:aE (.tup [tv a,tv b,tv c]) (.int 1)=some (tv b):=eH (j:=1) rfl;have i2:aE (.tup [tv a,tv b,tv c]) (.int 2)=some (tv c):=eH (j:=2) rfl;unfold sO;generalize tv c=T3,tv b=T2,tv a=T1,PV.tup [tv a,tv b,tv c]=W,tv (bB (ext (dL [a,b,c]) a))=T4,zJ=FB at *;simp! [bC,aO,aN,aL,aM,aF,aK,i0,i1,i2,ep,bJ,cM,Wh,fA,fN,gN,e1,e2,e3]
theorem aed{kvs:List (PV×PV)}{C:List cS}(h:Tb kvs C)(hl:C.length<=80000){x0 y0 w0 x1 y1 w1 x2 y2 w2:Int}(p0:P2 x0 y0 w0)(p1:P2 x1 y1 w1)(p2:P2 x2 y2 w2)(n:Int):nB [.ref 0,.pv (px [[x0,y0,w0],[x1,y1,w1],[x2,y2,w2]]),.pv (.int n)] [.dic true kvs]=.ok (.pv .non) [.dic true (fE kvs (lA [[x0,y0,w0],[x1,y1,w1],[x2,y2,w2]] n))]:=by
 have l1:=λS=>Oc S p2 p0;have l2:=λS=>Oc S p0 p1;have l3':=λS=>Oc S p1 p2;have hA:lA [[x0,y0,w0],[x1,y1,w1],[x2,y2,w2]] n=lF [x2,y2,w2] [x0,y0,w0] n++lF [x0,y0,w0] [x1,y1,w1] n++lF [x1,y1,w1] [x2,y2,w2] n:=rfl;have hU:px [[x0,y0,w0],[x1,y1,w1],[x2,y2,w2]]=.tup [tv [x0,y0,w0],tv [x1,y1,w1],tv [x2,y2,w2]]:=rfl;rw[hA,hU];generalize [x2,y2,w2]=c,[x1,y1,w1]=b,[x0,y0,w0]=a at *;have ll:∀s e:AR,(lF s e n).length=2:=λ_ _=>rfl;obtain⟨y4,y5,y6,e1⟩:=Hi (U:=.tup [tv a,tv b,tv c]) (p:=c) (q:=a) (k:=0) h (by omega) rfl (eH (j:=0) rfl) l1 n none none none none none none none;have h1:=h.adds (lF c a n);obtain⟨z4,z5,z6,e2⟩:=Hi (U:=.tup [tv a,tv b,tv c]) (p:=a) (q:=b) (k:=1) h1 (by rw[av,ll];omega) (eH (j:=0) rfl) (eH (j:=1) rfl) l2 n y4 y5 y6 none none none none;have h2:=h1.adds (lF a b n);obtain⟨t4,t5,t6,e3⟩:=Hi (U:=.tup [tv a,tv b,tv c]) (p:=b) (q:=c) (k:=2) h2 (by rw[av,av,ll,ll];omega) (eH (j:=1) rfl) (eH (j:=2) rfl) l3' n z4 z5 z6 none none none none;rw[kY]at e2 e3;rw[kY]at e3;have hb:xI=(aG (bW (bH (aC cT (mR cV (aB (aA 1) aD)) (mC (.int 3)))) (aG (bJ (cM (aB (mC (.int 3)) aD)) (gN 3) sK) oI) cY) (aG (aQ 7 (jZ true)) (aG (bJ (cM (aB (mC (.int 4)) aD)) (gN 3) (bJ (cM (aB (aA 3) aD)) (gN 8) oQ)) (bJ (bA (aJ mU [] (aB (aA 1) aD))) (gN 9) sO)))):=rfl;unfold nB aR;rw[hb];generalize (aG (aQ 7 (jZ true)) (aG (bJ (cM (aB (mC (.int 4)) aD)) (gN 3) (bJ (cM (aB (aA 3) aD)) (gN 8) oQ)) (bJ (bA (aJ mU [] (aB (aA 1) aD))) (gN 9) sO)))=MR;generalize tv c=T3,tv b=T2,tv a=T1,sK=FB at *;simp! [bC,aO,aN,aL,aM,aF,aK,bJ,cM,Wh,fA,fN,gN,e1,e2,e3]
theorem rg0(S:aH):gG [.pv (.int 0)] S=.ok ([],[]) S/\gG [.pv (.int 1)] S=.ok ([.int 0],[]) S/\gG [.pv (.int 2)] S=.ok ([.int 0,.int 1],[]) S/\gG [.pv (.int 4)] S=.ok ([.int 0,.int 1,.int 2,.int 3],[]) S:=by
 refine⟨?_,?_,?_,?_⟩<;>
 .unfold gG
  dsimp only;rw[if_pos (by decide)];rfl
theorem rX{x0 y0 z0 w0 x1 y1 z1 w1:Int}:eU [x1,y1,z1,w1] [x0,y0,z0,w0]=eU [x0,y0,z0,w0] [x1,y1,z1,w1]:=congrArg tv abQ
theorem adS{kvs:List (PV×PV)}{C:List cS}(h:Tb kvs C)(hl:C.length<=70000){x0 y0 z0 w0 x1 y1 z1 w1 x2 y2 z2 w2 x3 y3 z3 w3:Int}(p0:P3 x0 y0 z0 w0)(p1:P3 x1 y1 z1 w1)(p2:P3 x2 y2 z2 w2)(p3:P3 x3 y3 z3 w3)(n:Int):nB [.ref 0,.pv (px [[x0,y0,z0,w0],[x1,y1,z1,w1],[x2,y2,z2,w2],[x3,y3,z3,w3]]),.pv (.int n)] [.dic true kvs]=.ok (.pv .non) [.dic true (fE kvs (lA [[x0,y0,z0,w0],[x1,y1,z1,w1],[x2,y2,z2,w2],[x3,y3,z3,w3]] n))]:=by
 have l1:=λS=>qU S p0 p1;have l2:=λS=>qU S p0 p2;have l3':=λS=>qU S p1 p2;have l4:=λS=>qU S p0 p3;have l5:=λS=>qU S p1 p3;have l6:=λS=>qU S p2 p3;have s1:=@rX x0 y0 z0 w0 x1 y1 z1 w1;have s2:=@rX x0 y0 z0 w0 x2 y2 z2 w2;have s3:=@rX x1 y1 z1 w1 x2 y2 z2 w2;have s4:=@rX x0 y0 z0 w0 x3 y3 z3 w3;have s5:=@rX x1 y1 z1 w1 x3 y3 z3 w3;have s6:=@rX x2 y2 z2 w2 x3 y3 z3 w3;have q1:=λS=>wN S p1 p2 p3;have q2:=λS=>wN S p0 p3 p2;have q3:=λS=>wN S p0 p1 p3;have q4:=λS=>wN S p0 p2 p1;generalize [x3,y3,z3,w3]=d,[x2,y2,z2,w2]=c,[x1,y1,z1,w1]=b,[x0,y0,z0,w0]=a at *;have hA:lA [a,b,c,d] n=lW [b,c,d] n++lW [a,d,c] n++lW [a,b,d] n++lW [a,c,b] n:=by
  show lW [b,c,d] n++(lW [a,d,c] n++(lW [a,b,d] n++(lW [a,c,b] n++[])))=_;rw[ja,ix,ix]
 have hU:px [a,b,c,d]=.tup [tv a,tv b,tv c,tv d]:=rfl;rw[hA,hU];have i0:aE (.tup [tv a,tv b,tv c,tv d]) (.int 0)=some (tv a):=eH (j:=0) rfl;have i1:aE (.tup [tv a,tv b,tv c,tv d]) (.int 1)=some (tv b):=eH (j:=1) rfl;have i2:aE (.tup [tv a,tv b,tv c,tv d]) (.int 2)=some (tv c):=eH (j:=2) rfl;have i3:aE (.tup [tv a,tv b,tv c,tv d]) (.int 3)=some (tv d):=eH (j:=3) rfl;have L1:=Ln.nil.add s1;have L2:=L1.add s2;have L3:=L2.add s3;have L4:=L3.add s4;have L5:=L4.add s5;have L6:=L5.add s6;have e1:=λx2 x4 x5 x6 x9 x10=>sG (kvs:=kvs) Ln.nil (by decide) i0 i1 l1 x2 x4 x5 x6 x9 x10;have e2:=λx2 x4 x5 x6 x9 x10=>sG (kvs:=kvs) L1 (by simp) i0 i2 l2 x2 x4 x5 x6 x9 x10;have e3:=λx2 x4 x5 x6 x9 x10=>sG (kvs:=kvs) L2 (by simp) i1 i2 l3' x2 x4 x5 x6 x9 x10;have e4:=λx2 x4 x5 x6 x9 x10=>sG (kvs:=kvs) L3 (by simp) i0 i3 l4 x2 x4 x5 x6 x9 x10;have e5:=λx2 x4 x5 x6 x9 x10=>sG (kvs:=kvs) L4 (by simp) i1 i3 l5 x2 x4 x5 x6 x9 x10;have e6:=λx2 x4 x5 x6 x9 x10=>sG (kvs:=kvs) L5 (by simp) i2 i3 l6 x2 x4 x5 x6 x9 x10;have g1:=L6.at_ (a,b) (by simp);have g2:=L6.at_ (a,c) (by simp);have g3:=L6.at_ (b,c) (by simp);have g4:=L6.at_ (a,d) (by simp);have g5:=L6.at_ (b,d) (by simp);have g6:=L6.at_ (c,d) (by simp);dsimp only at g1 g2 g3 g4 g5 g6;have ls:∃y3 y6 y8,(bJ (cM (aB (mC (.int 4)) aD)) (gN 3) (bJ (cM (aB (aA 3) aD)) (gN 8) oQ)) [some (.ref 0),some (.pv (.tup [tv a,tv b,tv c,tv d])),some (.pv (.int n)),none,none,none,none,some (.ref 1),none,none,none] [.dic true kvs,.dic true []]=.nx [some (.ref 0),some (.pv (.tup [tv a,tv b,tv c,tv d])),some (.pv (.int n)),y3,none,none,y6,some (.ref 1),y8,none,none] [.dic true kvs,.dic true (fG (fG (fG (fG (fG (fG [] a b) a c) b c) a d) b d) c d)]:=by
  refine⟨some (.pv (.int 3)),some (.pv (eU c d)),some (.pv (.int 2)),?_⟩;clear L1 L2 L3 L4 L5 L6 g1 g2 g3 g4 g5 g6 l1 l2 l3' l4 l5 l6 s1 s2 s3 s4 s5 s6 q1 q2 q3 q4 i0 i1 i2 i3;generalize PV.tup [tv a,tv b,tv c,tv d]=U,oQ=LB at *;simp! [bC,aO,aN,aL,aM,aF,aK,bJ,cM,Wh,rg0,fA,fN,gN,e1,e2,e3,e4,e5,e6]
 obtain⟨y3,y6,y8,el⟩:=ls;clear e1 e2 e3 e4 e5 e6 i0 i1 i2 i3 L1 L2 L3 L4 L5 L6;generalize fG (fG (fG (fG (fG (fG [] a b) a c) b c) a d) b d) c d=LS at *;have ll:∀u v t:AR,(lW [u,v,t] n).length=6:=λ_ _ _=>rfl;obtain⟨b3,b4,b5,b6,b10,f1⟩:=zW h (by omega) q1 (by rw[s5];exact g5.2) g3.1 g6.1 n (some (.pv (.tup [tv a,tv b,tv c,tv d]))) y3 none none y6 y8 none;have h1:=h.adds (lW [b,c,d] n);obtain⟨c3,c4,c5,c6,c10,f2⟩:=zW h1 (by rw[av,ll];omega) q2 (by rw[s2];exact g2.2) g4.1 (by rw[s6];exact g6.2) n (some (.pv (.tup [tv a,tv b,tv c,tv d]))) b3 b4 b5 b6 y8 b10;have h2:=h1.adds (lW [a,d,c] n);obtain⟨d3,d4,d5,d6,d10,f3⟩:=zW h2 (by rw[av,av,ll,ll];omega) q3 (by rw[s4];exact g4.2) g1.1 g5.1 n (some (.pv (.tup [tv a,tv b,tv c,tv d]))) c3 c4 c5 c6 y8 c10;have h3:=h2.adds (lW [a,b,d] n);obtain⟨j3,j4,j5,j6,j10,f4⟩:=zW h3 (by rw[av,av,av,ll,ll,ll];omega) q4 (by rw[s1];exact g1.2) g2.1 (by rw[s3];exact g3.2) n (some (.pv (.tup [tv a,tv b,tv c,tv d]))) d3 d4 d5 d6 y8 d10;rw[kY]at f2 f3 f4;rw[kY]at f3 f4;rw[kY]at f4;have es:∀S,mU [.pv (.tup [tv a,tv b,tv c,tv d])] S=.ok (.pv (.lst [.tup [tv b,tv c,tv d],.tup [tv a,tv d,tv c],.tup [tv a,tv b,tv d],.tup [tv a,tv c,tv b]])) S:=λS=>by
  generalize tv a=T1;generalize tv b=T2;generalize tv c=T3;generalize tv d=T4;unfold mU aR Ad;simp! [aE,aZ,aY,aP,aO,aN,aL,aM,aF,aK,mJ,gT,bO,dE,gN]
 have es:=es [.dic true kvs,.dic true LS];have hb:xI=(aG (bW (bH (aC cT (mR cV (aB (aA 1) aD)) (mC (.int 3)))) (aG (bJ (cM (aB (mC (.int 3)) aD)) (gN 3) sK) oI) cY) (aG (aQ 7 (jZ true)) (aG (bJ (cM (aB (mC (.int 4)) aD)) (gN 3) (bJ (cM (aB (aA 3) aD)) (gN 8) oQ)) (bJ (bA (aJ mU [] (aB (aA 1) aD))) (gN 9) sO)))):=rfl;unfold nB aR;rw[hb];clear g1 g2 g3 g4 g5 g6 l1 l2 l3' l4 l5 l6 s1 s2 s3 s4 s5 s6 q1 q2 q3 q4 hb hA hU h1 h2 h3;generalize tv d=T4,tv c=T3,tv b=T2,tv a=T1,PV.tup [tv a,tv c,tv b]=W4,PV.tup [tv a,tv b,tv d]=W3,PV.tup [tv a,tv d,tv c]=W2,PV.tup [tv b,tv c,tv d]=W1,sO=WB,sK=FB,(bJ (cM (aB (mC (.int 4)) aD)) (gN 3) (bJ (cM (aB (aA 3) aD)) (gN 8) oQ))=SL at *;have t1:(bW (bH (aC cT (mR cV (aB (aA 1) aD)) (mC (.int 3)))) (aG (bJ (cM (aB (mC (.int 3)) aD)) (gN 3) FB) oI) cY) [some (.ref 0),some (.pv (.tup [T1,T2,T3,T4])),some (.pv (.int n)),none,none,none,none,none,none,none,none] [.dic true kvs]=.nx [some (.ref 0),some (.pv (.tup [T1,T2,T3,T4])),some (.pv (.int n)),none,none,none,none,none,none,none,none] [.dic true kvs]:=by
  simp! [bC,aO,aN,aL,aM,aF,aK]
 have t2:(bJ (bA (aJ mU [] (aB (aA 1) aD))) (gN 9) WB) [some (.ref 0),some (.pv (.tup [T1,T2,T3,T4])),some (.pv (.int n)),y3,none,none,y6,some (.ref 1),y8,none,none] [.dic true kvs,.dic true LS]=.nx [some (.ref 0),some (.pv (.tup [T1,T2,T3,T4])),some (.pv (.int n)),j3,j4,j5,j6,some (.ref 1),y8,some (.pv W4),j10] [.dic true (fE kvs (lW [b,c,d] n++lW [a,d,c] n++lW [a,b,d] n++lW [a,c,b] n)),.dic true LS]:=by
  simp! [bC,aO,aN,aL,aM,aF,aK,bJ,bA,cC,es,fA,fN,gN,f1,f2,f3,f4]
 clear f1 f2 f3 f4 es;generalize (bW (bH (aC cT (mR cV (aB (aA 1) aD)) (mC (.int 3)))) (aG (bJ (cM (aB (mC (.int 3)) aD)) (gN 3) FB) oI) cY)=SI,(bJ (bA (aJ mU [] (aB (aA 1) aD))) (gN 9) WB)=SW,fE kvs (lW [b,c,d] n++lW [a,d,c] n++lW [a,b,d] n++lW [a,c,b] n)=KV at *;simp! [bC,aO,aN,aL,aM,aF,aK,jZ,t1,el,t2]
theorem adj{n k:Nat}(hn:n=2\/n=3)(hk:k<=1000){kvs:List (PV×PV)}{C:List cS}(h:Tb kvs C)(hl:C.length<=70000){u:AS}(s:Sx n k u)(m:Int):nB [.ref 0,.pv (px u),.pv (.int m)] [.dic true kvs]=.ok (.pv .non) [.dic true (fE kvs (lA u m))]:=by
 have hg:=s.gu;have sl:=s.len;rcases hn with rfl |rfl
 .match u,sl with
  |[a,b,c],_=>
   obtain⟨x0,y0,w0,rfl,p0⟩:=(hg a (by simp)).two hk;obtain⟨x1,y1,w1,rfl,p1⟩:=(hg b (by simp)).two hk;obtain⟨x2,y2,w2,rfl,p2⟩:=(hg c (by simp)).two hk;exact aed h (by omega) p0 p1 p2 m
 .match u,sl with
  |[a,b,c,d],_=>
   obtain⟨x0,y0,z0,w0,rfl,p0⟩:=(hg a (by simp)).three hk;obtain⟨x1,y1,z1,w1,rfl,p1⟩:=(hg b (by simp)).three hk;obtain⟨x2,y2,z2,w2,rfl,p2⟩:=(hg c (by simp)).three hk;obtain⟨x3,y3,z3,w3,rfl,p3⟩:=(hg d (by simp)).three hk;exact adS h hl p0 p1 p2 p3 m
def cL(hs:AT)(m:Int):List cS:=hs.flatMap λu=>lA u m
theorem Kt{u:AS}(h:u.length=3\/u.length=4)(m:Int):(lA u m).length<=24:=by
 rcases h with h |h
 .match u,h with
  |[a,b,c],_=>exact(by decide:6<=24)
 .match u,h with
  |[a,b,c,d],_=>exact ak 24
def qC(e:ME):MS:=(cZ (aJ nB [] (aB (aA 2) (aB (aA 3) (aB e aD)))))
theorem Ge{n k:Nat}(hn:n=2\/n=3)(hk:k<=1000){e:ME}{m:Int}(he:∀ρ S,e ρ S=.ok (.pv (.int m)) S)(a0 a1:BB):∀(L:AT)(kvs:List (PV×PV))(C:List cS)(x3:BB),Tb kvs C->C.length+24*L.length<=70000->(∀u∈L,Sx n k u)->∃y3,dQ [] (gN 3) (qC e) (L.map px) [a0,a1,some (.ref 0),x3] [.dic true kvs]=.nx [a0,a1,some (.ref 0),y3] [.dic true (fE kvs (cL L m))]
 |[],kvs,C,x3,h,hl,ha=>⟨x3,fN⟩
 |u::L,kvs,C,x3,h,hl,ha=>by
  rw[cv]at hl;have su:=ha u bi;have e1:=adj hn hk h (by omega) su m;have h2:=h.adds (lA u m);have:=Kt (lG hn su.len) m;obtain⟨y3,e2⟩:=Ge hn hk he a0 a1 L _ _ (some (.pv (px u))) h2 (by rw[av];omega) λy hy=>ha y (bn _ hy);refine⟨y3,?_⟩;rw[kY]at e2;have ec:cL (u::L) m=lA u m++cL L m:=kj;rw[aw,fA,ec];have e3:qC e [a0,a1,some (.ref 0),some (.pv (px u))] [.dic true kvs]=.nx [a0,a1,some (.ref 0),some (.pv (px u))] [.dic true (fE kvs (lA u m))]:=by
   unfold qC;generalize px u=T1 at *;simp! [aE,aZ,aY,aP,aO,aN,aL,aM,aF,aK,he,e1]
  simp[gN,e3,e2]
theorem ab6{kvs:List (PV×PV)}{C:List cS}(h:Tb kvs C):∃b L,cG [] (gN 0) (aC cT (mI (aA 1) (aA 0)) (mC (.int 0))) (kvs.map (·.1)) [none,some (.ref 0)] [.dic true kvs]=.ok L [.dic true kvs]/\kO [.lst L]=some (.bl b)/\(b=true↔∀k,cX C k=0):=by
 refine⟨kvs.all λx=>nJ (some x.2)==0,kvs.map λx=>.bl (nJ (some x.2)==0),?_,?_,?_⟩
 .refine kW (iR _) (λx:PV×PV=>x.1) (λx=>PV.bl (nJ (some x.2)==0)) kvs none λx hx=>?_
  obtain⟨k,i,rfl⟩:=h.int x hx;have e:=nU h.nd hx;have e1:kM (.ref 0) (.pv (kE k)) [.dic true kvs] none=.ok (.pv (.int i)) [.dic true kvs]:=by
   unfold kM;simp only[kr];rw[if_pos ⟨k,rfl⟩,e]
  dsimp only[nJ];generalize kE k=K1 at *;simp! [bC,aO,aN,aL,aM,aF,aK,mI,e1]
 .have e:=Y8 (kvs.map λx=>nJ (some x.2)==0)
  rw[cw]at e;refine e.trans ?_;rw[List.all_map];rfl
 .rw[kb]
  constructor
  .intro z k
   rcases h.val k with m |⟨_,m⟩
   .simpa[nJ]using z _ m
   .exact m
  .intro z x hx
   obtain⟨k,i,rfl⟩:=h.int x hx;rcases h.val k with m |⟨m,_⟩
   .have e1:=nU h.nd m
    rw[nU h.nd hx]at e1;injection e1 with e1;injection e1 with e1;simp[nJ,e1,z k]
   .exact absurd hx (m _)
theorem U8{n k:Nat}(hn:n=2\/n=3)(hk:k<=1000){hs gs:AT}(h:∀u∈hs,Sx n k u)(g:∀u∈gs,Sx n k u)(lh:hs.length<=1000)(lg:gs.length<=1000):∃b,rE [.pv (.lst (hs.map px)),.pv (.lst (gs.map px))] []=.ok (.pv (.bl b)) []/\(b=true↔∀l,cX (cL hs 1++cL gs (-1)) l=0):=by
 have cl:∀(hs:AT)(m:Int),(∀u∈hs,Sx n k u)->(cL hs m).length<=24*hs.length:=λhs m=>by
  induction hs with
  |nil=>intro _;simp[cL]
  |cons u hs ih=>
   intro h;have e:cL (u::hs) m=lA u m++cL hs m:=kj;rw[e,av,cv];have:=Kt (lG hn (h u bi).len) m;have:=ih λv hv=>h v (bn _ hv);omega
 obtain⟨y3,e1⟩:=Ge hn hk (e:=(mC (.int 1))) (m:=1) (λ_ _=>rfl) (some (.pv (.lst (hs.map px)))) (some (.pv (.lst (gs.map px)))) hs [] [] none Tb.nil (by simp;omega) h;have h1:=Tb.nil.adds (cL hs 1);rw[jq]at h1;have l1:=cl hs 1 h;obtain⟨z3,e2⟩:=Ge hn hk (e:=(bR bU (mC (.int 1)))) (m:=-1) (λ_ _=>rfl) (some (.pv (.lst (hs.map px)))) (some (.pv (.lst (gs.map px)))) gs _ _ y3 h1 (by omega) g;have h2:=h1.adds (cL gs (-1));obtain⟨b,L,e3,e4,eb⟩:=ab6 h2;refine⟨b,?_,eb⟩;have hb:Je=(aG (aQ 2 (jZ true)) (aG (bJ (bA (aA 0)) (gN 3) (qC (mC (.int 1)))) (aG (bJ (bA (aA 1)) (gN 3) (qC (bR bU (mC (.int 1))))) (bD (mR kO (aB (bF ["_law_key"] [(2,"_law_table")] (bA (uQ (aB (aA 2) aD))) (gN 0) (aC cT (mI (aA 1) (aA 0)) (mC (.int 0)))) aD)))))):=rfl;unfold rE aR;rw[hb];generalize fE [] (cL hs 1)=K1,fE (fE [] (cL hs 1)) (cL gs (-1))=K2,gs.map px=GL,hs.map px=HL,(aC cT (mI (aA 1) (aA 0)) (mC (.int 0)))=B3,qC (bR bU (mC (.int 1)))=B2,qC (mC (.int 1))=B1 at *;simp! [bC,aO,aN,aL,aM,aF,aK,jZ,bJ,bA,cC,e1,e2,bF,cJ,uQ,xZ,e3,e4]
theorem Fi{x0 y0 w0 x1 y1 w1:Int}(h0:0<w0)(h1:0<w1)(m:Int):iE 2 (cW [[x0,y0,w0],[x1,y1,w1]] m) (lF [x0,y0,w0] [x1,y1,w1] m):=by
 have c:=@abW x0 y0 w0 x1 y1 w1 h0 h1;have e1:=gZ.mpr c.1;have e2:=gZ.mpr c.2;refine⟨⟨.inr ⟨rfl,_,_,_,_,_,h0,rfl,?_⟩,rfl⟩,⟨.inr ⟨rfl,_,_,_,_,_,h1,rfl,?_⟩,?_⟩,trivial⟩
 .show[bB (fD [x0,y0,w0] [x1,y1,w1]),[x0,y0,w0]]=_
  rw[e1];rfl
 .show[bB (fD [x0,y0,w0] [x1,y1,w1]),[x1,y1,w1]]=_
  rw[e2];rfl
 .show-m=0-m
  omega
theorem Bh{w:AS}{n1 n2 n3:Int}(hN:dL w=[n1,n2,n3]){x0 y0 z0 w0 x1 y1 z1 w1:Int}(h0:0<w0)(h1:0<w1)(eS:Pr (ext (dL w) (w.headD [])) (ext (dL w) [x0,y0,z0,w0]))(eE:Pr (ext (dL w) (w.headD [])) (ext (dL w) [x1,y1,z1,w1]))(m:Int):iE 3 (sd (bB (dL w)) [x0,y0,z0,w0] [x1,y1,z1,w1] m) (lS w [x0,y0,z0,w0] [x1,y1,z1,w1] m):=by
 have c:=@aci x0 y0 z0 w0 x1 y1 z1 w1 h0 h1;have e1:=gZ.mpr c.1;have e2:=gZ.mpr c.2;have e3:=gZ.mpr eS;have e4:=gZ.mpr eE;refine⟨⟨.inl ⟨rfl,n1,n2,n3,x1*w0-x0*w1,y1*w0-y0*w1,z1*w0-z0*w1,x0,y0,z0,w0,h0,?_,?_⟩,rfl⟩,⟨.inl ⟨rfl,n1,n2,n3,x1*w0-x0*w1,y1*w0-y0*w1,z1*w0-z0*w1,x1,y1,z1,w1,h1,?_,?_⟩,?_⟩,trivial⟩
 .rw[<-hN]
  rfl
 .show[bB (ext (dL w) (w.headD [])),bB (fW [x0,y0,z0,w0] [x1,y1,z1,w1]),[x0,y0,z0,w0]]=_
  rw[e3,e1,hN];rfl
 .rw[<-hN]
  rfl
 .show[bB (ext (dL w) (w.headD [])),bB (fW [x0,y0,z0,w0] [x1,y1,z1,w1]),[x1,y1,z1,w1]]=_
  rw[e4,e2,hN];rfl
 .show-m=0-m
  omega
theorem Aa{a b c:AR}(ha:Pw 3 a)(hb:Pw 3 b)(hc:Pw 3 c)(m:Int):iE 3 (cW [a,b,c] m) (lW [a,b,c] m):=by
 obtain⟨x0,y0,z0,w0,rfl,h0⟩:=ha.three;obtain⟨x1,y1,z1,w1,rfl,h1⟩:=hb.three;obtain⟨x2,y2,z2,w2,rfl,h2⟩:=hc.three;have q:=@adz x0 y0 z0 w0 x1 y1 z1 w1 x2 y2 z2 w2 h0 h1 h2;have r:Pr (ext (dL [[x0,y0,z0,w0],[x1,y1,z1,w1],[x2,y2,z2,w2]]) [x0,y0,z0,w0]) (ext (dL [[x0,y0,z0,w0],[x1,y1,z1,w1],[x2,y2,z2,w2]]) [x0,y0,z0,w0]):=⟨1,1,by decide,by decide,rfl⟩;exact(Bh (w:=[[x0,y0,z0,w0],[x1,y1,z1,w1],[x2,y2,z2,w2]]) rfl h2 h0 q.2 r m).app ((Bh (w:=[[x0,y0,z0,w0],[x1,y1,z1,w1],[x2,y2,z2,w2]]) rfl h0 h1 r q.1 m).app ((Bh (w:=[[x0,y0,z0,w0],[x1,y1,z1,w1],[x2,y2,z2,w2]]) rfl h1 h2 q.1 q.2 m).app (C':=[]) (D':=[]) trivial))
theorem aei{n:Nat}(hn:n=2\/n=3){u:AS}(hl:u.length=n+1)(hp:∀v∈u,Pw n v)(m:Int):∃D,iE n (cP u m) D/\∀k,cX D k=cX (lA u m) k:=by
 rcases hn with rfl |rfl
 .match u,hl with
  |[a,b,c],_=>
   obtain⟨x0,y0,w0,rfl,h0⟩:=(hp a (by simp)).two;obtain⟨x1,y1,w1,rfl,h1⟩:=(hp b (by simp)).two;obtain⟨x2,y2,w2,rfl,h2⟩:=(hp c (by simp)).two;refine⟨_,(Fi h0 h1 m).app ((Fi h1 h2 m).app ((Fi h2 h0 m).app (C':=[]) (D':=[]) trivial)),λk=>?_⟩;show _=cX (lF _ _ m++lF _ _ m++lF _ _ m) k;simp only[qR,cX];omega
 .match u,hl with
  |[a,b,c,d],_=>
   have pa:=hp a (by simp);have pb:=hp b (by simp);have pc:=hp c (by simp);have pd:=hp d (by simp);exact⟨_,(Aa pb pc pd m).app ((Aa pa pd pc m).app ((Aa pa pb pd m).app ((Aa pa pc pb m).app (C':=[]) (D':=[]) trivial))),λk=>rfl⟩
theorem Pg{n k:Nat}(hn:n=2\/n=3)(m:Int):∀{hs:AT},(∀u∈hs,Sx n k u)->∃D,iE n (cH hs m) D/\∀k,cX D k=cX (cL hs m) k
 |[],_=>⟨[],trivial,λ_=>rfl⟩
 |u::hs,h=>by
  obtain⟨D,l1,s1⟩:=Pg hn m (hs:=hs) λv hv=>h v (bn _ hv);have su:=h u bi;obtain⟨E,l2,s2⟩:=aei hn su.len (λv hv=>(su.gu v hv).pt) m;refine⟨E++D,l2.app l1,λk=>?_⟩;have ec:cL (u::hs) m=lA u m++cL hs m:=kj;rw[ec,qR,qR,s1,s2]
abbrev g2(A B X Y:Rat):Rat:=-((A*X+B*Y)*(X*B-Y*A))/(A*A+B*B)
abbrev g3(L M K A B C X Y Z:Rat):Rat:=-((L*X+M*Y+K*Z)*(A*X+B*Y+C*Z)*((Y*C-Z*B)*L+(Z*A-X*C)*M+(X*B-Y*A)*K))/(A*A+B*B+C*C)/(L*L+M*M+K*K)
theorem ae8{A B X Y t:Rat}(nz:A*A+B*B≠0):g2 A B X Y-g2 A B (X+t*A) (Y+t*B)=X*(Y+t*B)-Y*(X+t*A):=by
 unfold g2;grind
theorem aeG{L M K A B C X Y Z t:Rat}(n1:A*A+B*B+C*C≠0)(n2:L*L+M*M+K*K≠0)(o:L*A+M*B+K*C=0):g3 L M K A B C X Y Z-g3 L M K A B C (X+t*A) (Y+t*B) (Z+t*C)=(L*X+M*Y+K*Z)/(L*L+M*M+K*K)*((Y*(Z+t*C)-Z*(Y+t*B))*L+(Z*(X+t*A)-X*(Z+t*C))*M+(X*(Y+t*B)-Y*(X+t*A))*K):=by
 unfold g3;have h1:L*(X+t*A)+M*(Y+t*B)+K*(Z+t*C)=L*X+M*Y+K*Z:=by grind
 have h2:A*(X+t*A)+B*(Y+t*B)+C*(Z+t*C)=A*X+B*Y+C*Z+t*(A*A+B*B+C*C):=by grind
 have h3:((Y+t*B)*C-(Z+t*C)*B)*L+((Z+t*C)*A-(X+t*A)*C)*M+((X+t*A)*B-(Y+t*B)*A)*K=(Y*C-Z*B)*L+(Z*A-X*C)*M+(X*B-Y*A)*K:=by grind
 have h4:(Y*(Z+t*C)-Z*(Y+t*B))*L+(Z*(X+t*A)-X*(Z+t*C))*M+(X*(Y+t*B)-Y*(X+t*A))*K=t*((Y*C-Z*B)*L+(Z*A-X*C)*M+(X*B-Y*A)*K):=by grind
 rw[h1,h2,h3,h4];generalize L*X+M*Y+K*Z=h;generalize (Y*C-Z*B)*L+(Z*A-X*C)*M+(X*B-Y*A)*K=m;generalize A*X+B*Y+C*Z=u;generalize L*L+M*M+K*K=N,A*A+B*B+C*C=D at *;grind
theorem ae7{L M K h T1 T2 T3 s:Rat}(n2:L*L+M*M+K*K≠0)(h1:T1=s*L)(h2:T2=s*M)(h3:T3=s*K):h/(L*L+M*M+K*K)*(T1*L+T2*M+T3*K)=s*h:=by
 subst h1 h2 h3;have e:s*L*L+s*M*M+s*K*K=s*(L*L+M*M+K*K):=by grind
 rw[e];generalize L*L+M*M+K*K=N at *;grind
theorem Iw{A B C X Y Z:Rat}:g3 0 0 0 A B C X Y Z=0:=by
 unfold g3;have z:(0*0+0*0+0*0:Rat)=0:=by grind
 rw[z,zb,Rat.inv_zero,Rat.mul_zero]
def fK:AS->Rat
 |[_,[a,b],[x,y,w]]=>g2 a b (x/w) (y/w)
 |[[l,m,k],[a,b,c],[x,y,z,w]]=>g3 l m k a b c (x/w) (y/w) (z/w)
 |_=>0
def val:List cS->Rat
 |[]=>0
 |c::C=>(c.2:Rat)*fK c.1+val C
theorem jI(C D:List cS):val (C++D)=val C+val D:=by
 induction C with
 |nil=>simp only[jq,val];grind
 |cons c C ih=>simp only[nj,val,ih];grind
theorem To(k:AS):∀C:List cS,val C=(cX C k:Rat)*fK k+val (C.filter λc=>c.1 !=k)
 |[]=>by simp[val,cX];grind
 |c::C=>by
  have ih:=To k C
  by_cases e:c.1=k
  .have e':(c.1 !=k)=false:=by simp[e]
   rw[re,e'];simp only[val,cX,if_pos e,ul,if_false];rw[ih,e,nr];grind
  .have e':(c.1 !=k)=true:=by simp[e]
   rw[re,e'];simp only[val,cX,if_neg e,if_true,vd];rw[ih];grind
theorem Mo(k l:AS):∀C:List cS,cX (C.filter λc=>c.1 !=k) l=if l=k then 0 else cX C l
 |[]=>by simp[cX]
 |c::C=>by
  have ih:=Mo k l C
  by_cases e:c.1=k
  .have e':(c.1 !=k)=false:=by simp[e]
   rw[re,e'];simp only[ul,if_false,ih,cX]
   by_cases f:l=k
   .rw[if_pos f,if_pos f]
   .rw[if_neg f,if_neg f,if_neg (λz=>f (z.symm.trans e)),vd]
  .have e':(c.1 !=k)=true:=by simp[e]
   rw[re,e'];simp only[if_true,cX,ih]
   by_cases f:l=k
   .rw[if_pos f,if_pos f,if_neg (λz=>e (z.trans f))]
    rfl
   .rw[if_neg f,if_neg f]
theorem Go:∀(n:Nat)(C:List cS),C.length<=n->(∀k,cX C k=0)->val C=0
 |_,[],_,_=>rfl
 |n+1,c::C,hl,h=>by
  rw[To c.1,h];have e':(c.1 !=c.1)=false:=by simp
  have ef:((c::C).filter λd=>d.1 !=c.1)=C.filter λd=>d.1 !=c.1:=by rw[re,e'];simp
  rw[ef,Go n (C.filter λd=>d.1 !=c.1) (ft (List.length_filter_le ..) (by simpa using hl)) λk=>?_]
  .grind
  .have:=Mo c.1 k (c::C)
   rw[ef]at this;rw[this,h];simp
theorem vN{x0 w0 x1 w1 g a:Int}(h0:0<w0)(h1:0<w1)(e:x1*w0-x0*w1=g*a):(x1:Rat)/w1=x0/w0+(g/(w0*w1))*a:=by
 have q0:(w0:Rat)≠0:=λz=>by have:=rf.mp (z.trans (by rfl:(0:Rat)=((0:Int):Rat)));omega
 have q1:(w1:Rat)≠0:=λz=>by have:=rf.mp (z.trans (by rfl:(0:Rat)=((0:Int):Rat)));omega
 have e':(x1:Rat)*w0-x0*w1=g*a:=by
  have:=congrArg (λi:Int=>(i:Rat)) e;simpa[rl,ku]using this
 grind
theorem yM{a b c:Int}(h:a≠0\/b≠0\/c≠0):(a:Rat)*a+b*b+c*c≠0:=λz=>by
 have z:((a*a+b*b+c*c:Int):Rat)=((0:Int):Rat):=by
  rw[nr,nr,ku,ku,ku];exact z
 have z:=rf.mp z;have p:∀x:Int,0<=x*x:=λx=>by
  rcases Int.le_total 0 x with h |h
  .exact AI h h
  .have:=AI (a:=-x) (b:=-x) (by omega) (by omega)
   rw[AD]at this;exact this
 have q:∀x:Int,x*x=0->x=0:=λx hx=>(pw.mp hx).elim id id;have:=p a;have:=p b;have:=p c;rcases h with h |h |h
 .exact h (q a (by omega))
 .exact h (q b (by omega))
 .exact h (q c (by omega))
theorem sd2{pi:AR}{a b g x0 y0 w0 x1 y1 w1:Int}(h0:0<w0)(h1:0<w1)(hd:bB (dI [x0,y0,w0] [x1,y1,w1])=[a,b])(e1:x1*w0-x0*w1=g*a)(e2:y1*w0-y0*w1=g*b)(nz:a≠0\/b≠0)(m:Int):val (sd pi [x0,y0,w0] [x1,y1,w1] m)=m*((x0:Rat)/w0*(y1/w1)-y0/w0*(x1/w1)):=by
 have f1:=vN h0 h1 e1;have f2:=vN h0 h1 e2;have n2:(a:Rat)*a+b*b≠0:=by
  have:=yM (a:=a) (b:=b) (c:=0) (by omega);intro z;apply this;rw[z,show((0:Int):Rat)=0 from rfl];grind
 have k:=ae8 (X:=(x0:Rat)/w0) (Y:=y0/w0) (t:=(g:Rat)/(w0*w1)) n2;unfold sd;rw[hd];show(m:Rat)*g2 a b (x0/w0) (y0/w0)+(((-m:Int):Rat)*g2 a b (x1/w1) (y1/w1)+0)=_;rw[f1,f2,<-k,AJ];grind
theorem sd3{l m k a b c g x0 y0 z0 w0 x1 y1 z1 w1:Int}(h0:0<w0)(h1:0<w1)(hd:bB (dI [x0,y0,z0,w0] [x1,y1,z1,w1])=[a,b,c])(e1:x1*w0-x0*w1=g*a)(e2:y1*w0-y0*w1=g*b)(e3:z1*w0-z0*w1=g*c)(nz:a≠0\/b≠0\/c≠0)(nN:l≠0\/m≠0\/k≠0)(o:l*a+m*b+k*c=0)(n:Int):val (sd [l,m,k] [x0,y0,z0,w0] [x1,y1,z1,w1] n)=n*((l*((x0:Rat)/w0)+m*(y0/w0)+k*(z0/w0))/(l*l+m*m+k*k)*(((y0:Rat)/w0*(z1/w1)-z0/w0*(y1/w1))*l+((z0:Rat)/w0*(x1/w1)-x0/w0*(z1/w1))*m+((x0:Rat)/w0*(y1/w1)-y0/w0*(x1/w1))*k)):=by
 have f1:=vN h0 h1 e1;have f2:=vN h0 h1 e2;have f3:=vN h0 h1 e3;have o':(l:Rat)*a+m*b+k*c=0:=by
  have:=congrArg (λi:Int=>(i:Rat)) o;simpa[nr,ku]using this
 have q:=aeG (X:=(x0:Rat)/w0) (Y:=y0/w0) (Z:=z0/w0) (t:=(g:Rat)/(w0*w1)) (yM nz) (yM nN) o';unfold sd;rw[hd];show(n:Rat)*g3 l m k a b c (x0/w0) (y0/w0) (z0/w0)+(((-n:Int):Rat)*g3 l m k a b c (x1/w1) (y1/w1) (z1/w1)+0)=_;rw[f1,f2,f3,<-q,AJ];generalize g3 (l:Rat) m k a b c (x0/w0) (y0/w0) (z0/w0)=u;generalize g3 (l:Rat) m k a b c (x0/w0+g/(w0*w1)*a) (y0/w0+g/(w0*w1)*b) (z0/w0+g/(w0*w1)*c)=v;grind
theorem zQ{u:AR}:∃g:Int,g≠0/\u=(bB u).map (g*·)/\(bB u).length=u.length:=by
 obtain⟨g,hg,e⟩:=Td u;refine⟨g,hg,e,?_⟩;have:=congrArg si e;rw[aj]at this;exact this.symm
theorem aeA{d:AR}(h:d.length=2):∃a b,d=[a,b]:=by
 match d,h with
 |[a,b],_=>exact⟨a,b,rfl⟩
theorem Ah{d:AR}(h:d.length=3):∃a b c,d=[a,b,c]:=by
 match d,h with
 |[a,b,c],_=>exact⟨a,b,c,rfl⟩
abbrev Kx(x0 y0 w0 x1 y1 w1:Int):Rat:=(x0:Rat)/w0*(y1/w1)-y0/w0*(x1/w1)
theorem Ci{x0 y0 w0 x1 y1 w1:Int}(h0:0<w0)(h1:0<w1)(nz:∃n∈dI [x0,y0,w0] [x1,y1,w1],n≠0)(m:Int):val (cW [[x0,y0,w0],[x1,y1,w1]] m)=m*Kx x0 y0 w0 x1 y1 w1:=by
 obtain⟨g,hg,e,hl⟩:=zQ (u:=dI [x0,y0,w0] [x1,y1,w1]);obtain⟨a,b,hd⟩:=aeA (hl.trans rfl);rw[hd]at e;have e:[x1*w0-x0*w1,y1*w0-y0*w1]=[g*a,g*b]:=e;simp only[fh,and_true]at e;have nz':a≠0\/b≠0:=by
  refine AK λc=>?_;have ca:a=0:=by omega
  have cb:b=0:=by omega
  obtain⟨n,hn,h⟩:=nz;have hn:n=x1*w0-x0*w1\/n=y1*w0-y0*w1:=by simpa[iM,iL]using hn
  rw[e.1,e.2,ca,cb,ng]at hn;exact h (by omega)
 have hc:cW [[x0,y0,w0],[x1,y1,w1]] m=sd (bB (dL [[x0,y0,w0],[x1,y1,w1]])) [x0,y0,w0] [x1,y1,w1] m:=by
  show sd _ _ _ m++[]=_;rw[ja]
 rw[hc];exact sd2 h0 h1 hd e.1 e.2 nz' m
abbrev sP(y0 z0 w0 y1 z1 w1 y2 z2 w2:Int):Rat:=((y2:Rat)/w2*(z0/w0)-z2/w2*(y0/w0))+((y0:Rat)/w0*(z1/w1)-z0/w0*(y1/w1))+((y1:Rat)/w1*(z2/w2)-z1/w1*(y2/w2))
abbrev zX(x0 y0 z0 w0 x1 y1 z1 w1 x2 y2 z2 w2:Int):Rat:=(x0:Rat)/w0*sP y0 z0 w0 y1 z1 w1 y2 z2 w2+y0/w0*sP z0 x0 w0 z1 x1 w1 z2 x2 w2+z0/w0*sP x0 y0 w0 x1 y1 w1 x2 y2 w2
theorem m0{a b:Rat}(ha:a≠0)(hb:b≠0):a*b≠0:=λz=>by
 rcases AM.mp z with z |z
 .exact ha z
 .exact hb z
theorem sU{B0 C0 B1 C1 B2 C2 w0 w1 w2 q l:Rat}(h0:w0≠0)(h1:w1≠0)(h2:w2≠0)(M:(B1*w1*w0-B0*w0*w1)*(C2*w2*w0-C0*w0*w2)-(C1*w1*w0-C0*w0*w1)*(B2*w2*w0-B0*w0*w2)=q*l):(B2*C0-C2*B0)+(B0*C1-C0*B1)+(B1*C2-C1*B2)=q/(w0*w0*w1*w2)*l:=by
 have e:(w0*w0*w1*w2)*((B2*C0-C2*B0)+(B0*C1-C0*B1)+(B1*C2-C1*B2))=q*l:=by
  rw[<-M];grind
 have hw:=m0 (m0 (m0 h0 h0) h1) h2;generalize w0*w0*w1*w2=W,(B2*C0-C2*B0)+(B0*C1-C0*B1)+(B1*C2-C1*B2)=T at *;clear M;grind
theorem Px{l m k A B C A' B' C' w w' q:Rat}(h:w≠0)(h':w'≠0)(hq:q≠0)(P:q*l*(A*w*w'-A'*w'*w)+q*m*(B*w*w'-B'*w'*w)+q*k*(C*w*w'-C'*w'*w)=0):l*A'+m*B'+k*C'=l*A+m*B+k*C:=by
 have e:(q*w*w')*((l*A+m*B+k*C)-(l*A'+m*B'+k*C'))=0:=by
  rw[<-P];grind
 rcases AM.mp e with z |z
 .exact absurd z (m0 (m0 hq h) h')
 .grind
theorem zZ{x0 y0 z0 w0 x1 y1 z1 w1 x2 y2 z2 w2:Int}(h0:0<w0)(h1:0<w1)(h2:0<w2)(n0:∃n∈dI [x0,y0,z0,w0] [x1,y1,z1,w1],n≠0)(n1:∃n∈dI [x1,y1,z1,w1] [x2,y2,z2,w2],n≠0)(n2:∃n∈dI [x2,y2,z2,w2] [x0,y0,z0,w0],n≠0)(n:Int):val (cW [[x0,y0,z0,w0],[x1,y1,z1,w1],[x2,y2,z2,w2]] n)=n*zX x0 y0 z0 w0 x1 y1 z1 w1 x2 y2 z2 w2:=by
 obtain⟨q,hq,eN,lN⟩:=zQ (u:=dL [[x0,y0,z0,w0],[x1,y1,z1,w1],[x2,y2,z2,w2]]);obtain⟨l,m,k,hN⟩:=Ah (lN.trans rfl);have nz3:∀{u1 u2 u3 g a b c:Int},[u1,u2,u3]=[g*a,g*b,g*c]->(∃n∈[u1,u2,u3],n≠0)->a≠0\/b≠0\/c≠0:=λ{u1 u2 u3 g a b c} e h=>by
  refine AK λd=>?_;have da:a=0:=by omega
  have db:b=0:=by omega
  have dc:c=0:=by omega
  obtain⟨n,hn,h⟩:=h;rw[e,da,db,dc,ng]at hn;exact h (by simpa using hn)
 rw[hN]at eN;have eN:[(y1*w0-y0*w1)*(z2*w0-z0*w2)-(z1*w0-z0*w1)*(y2*w0-y0*w2),(z1*w0-z0*w1)*(x2*w0-x0*w2)-(x1*w0-x0*w1)*(z2*w0-z0*w2),(x1*w0-x0*w1)*(y2*w0-y0*w2)-(y1*w0-y0*w1)*(x2*w0-x0*w2)]=[q*l,q*m,q*k]:=eN;simp only[fh,and_true]at eN;obtain⟨N1,N2,N3⟩:=eN;have c0:∀{i:Int},0<i->(i:Rat)≠0:=λ{i} hi z=>by
  have:=rf.mp (z.trans (by rfl:(0:Rat)=((0:Int):Rat)));omega
 have r0:=c0 h0;have r1:=c0 h1;have r2:=c0 h2;have ci:∀{i j:Int},i=j->(i:Rat)=j:=λh=>by rw[h]
 have M1:=ci N1;have M2:=ci N2;have M3:=ci N3;simp only[rl,ku]at M1 M2 M3;have mv:∀{x w X:Rat},w≠0->x/w=X->x=X*w:=λ{x w X} h e=>by rw[<-e];grind
 have hc:cW [[x0,y0,z0,w0],[x1,y1,z1,w1],[x2,y2,z2,w2]] n=sd [l,m,k] [x2,y2,z2,w2] [x0,y0,z0,w0] n++(sd [l,m,k] [x0,y0,z0,w0] [x1,y1,z1,w1] n++(sd [l,m,k] [x1,y1,z1,w1] [x2,y2,z2,w2] n++[])):=by rw[<-hN];rfl
 by_cases pN:l≠0\/m≠0\/k≠0
 rotate_left
 .have l0:l=0:=by omega
  have m0':m=0:=by omega
  have k0:k=0:=by omega
  have z0':∀a0 b0 c0' v0 a1 b1 c1 v1:Int,val (sd [l,m,k] [a0,b0,c0',v0] [a1,b1,c1,v1] n)=0:=λa0 b0 c0' v0 a1 b1 c1 v1=>by
   obtain⟨g,hg,e,hl⟩:=zQ (u:=dI [a0,b0,c0',v0] [a1,b1,c1,v1]);obtain⟨a,b,c,hd⟩:=Ah (hl.trans rfl);unfold sd;rw[hd,l0,m0',k0];show(n:Rat)*g3 ((0:Int):Rat) ((0:Int):Rat) ((0:Int):Rat) a b c (a0/v0) (b0/v0) (c0'/v0)+(((-n:Int):Rat)*g3 ((0:Int):Rat) ((0:Int):Rat) ((0:Int):Rat) a b c (a1/v1) (b1/v1) (c1/v1)+0)=0;rw[show((0:Int):Rat)=0 from rfl];rw[Iw,Iw];grind
  rw[hc,jI,jI,jI,z0',z0',z0'];unfold zX sP;generalize hx0:(x0:Rat)/w0=A0 at *;generalize hy0:(y0:Rat)/w0=B0 at *;generalize hz0:(z0:Rat)/w0=C0 at *;generalize hx1:(x1:Rat)/w1=A1 at *;generalize hy1:(y1:Rat)/w1=B1 at *;generalize hz1:(z1:Rat)/w1=C1 at *;generalize hx2:(x2:Rat)/w2=A2 at *;generalize hy2:(y2:Rat)/w2=B2 at *;generalize hz2:(z2:Rat)/w2=C2 at *;simp only[mv r0 hx0,mv r0 hy0,mv r0 hz0,mv r1 hx1,mv r1 hy1,mv r1 hz1,mv r2 hx2,mv r2 hy2,mv r2 hz2]at M1 M2 M3;have T1:=sU r0 r1 r2 M1;have T2:=sU r0 r1 r2 M2;have T3:=sU r0 r1 r2 M3;rw[T1,T2,T3,l0,m0',k0,show((0:Int):Rat)=0 from rfl];show(0:Rat)+(0+(0+0))=_;grind
 have orth:∀{g a b c u1 u2 u3:Int},g≠0->[u1,u2,u3]=[g*a,g*b,g*c]->q*l*u1+q*m*u2+q*k*u3=0->l*a+m*b+k*c=0:=λ{g a b c u1 u2 u3} hg e h=>by
  simp only[fh,and_true]at e;rw[e.1,e.2.1,e.2.2]at h;have:q*g*(l*a+m*b+k*c)=0:=by rw[<-h];grind
  rcases pw.mp this with z |z
  .exact absurd z (gw hq hg)
  .exact z
 have side:∀{a0 b0 c0 v0 a1 b1 c1 v1:Int},0<v0->0<v1->(∃n∈dI [a0,b0,c0,v0] [a1,b1,c1,v1],n≠0)->q*l*(a1*v0-a0*v1)+q*m*(b1*v0-b0*v1)+q*k*(c1*v0-c0*v1)=0->val (sd [l,m,k] [a0,b0,c0,v0] [a1,b1,c1,v1] n)=n*((l*((a0:Rat)/v0)+m*(b0/v0)+k*(c0/v0))/(l*l+m*m+k*k)*(((b0:Rat)/v0*(c1/v1)-c0/v0*(b1/v1))*l+((c0:Rat)/v0*(a1/v1)-a0/v0*(c1/v1))*m+((a0:Rat)/v0*(b1/v1)-b0/v0*(a1/v1))*k)):=λ{a0 b0 c0 v0 a1 b1 c1 v1} p0 p1 nz h=>by
  obtain⟨g,hg,e,hl⟩:=zQ (u:=dI [a0,b0,c0,v0] [a1,b1,c1,v1]);obtain⟨a,b,c,hd⟩:=Ah (hl.trans rfl);rw[hd]at e;have e:[a1*v0-a0*v1,b1*v0-b0*v1,c1*v0-c0*v1]=[g*a,g*b,g*c]:=e;have o:=orth hg e h;have nz':=nz3 e nz;simp only[fh,and_true]at e;exact sd3 p0 p1 hd e.1 e.2.1 e.2.2 nz' pN o n
 have o1:q*l*(x0*w2-x2*w0)+q*m*(y0*w2-y2*w0)+q*k*(z0*w2-z2*w0)=0:=by rw[<-N1,<-N2,<-N3];grind
 have o2:q*l*(x1*w0-x0*w1)+q*m*(y1*w0-y0*w1)+q*k*(z1*w0-z0*w1)=0:=by rw[<-N1,<-N2,<-N3];grind
 have o3:q*l*(x2*w1-x1*w2)+q*m*(y2*w1-y1*w2)+q*k*(z2*w1-z1*w2)=0:=by rw[<-N1,<-N2,<-N3];grind
 have s1:=side h2 h0 n2 o1;have s2:=side h0 h1 n0 o2;have s3:=side h1 h2 n1 o3;rw[hc,jI,jI,jI,s1,s2,s3];have P1:=ci o1;have P2:=ci o2;simp only[rl,ku,nr]at P1 P2;have q0:(q:Rat)≠0:=λz=>by
  have:=rf.mp (z.trans (by rfl:(0:Rat)=((0:Int):Rat)));exact hq this
 have nn:=yM pN;show _=(n:Rat)*_;clear s1 s2 s3 hc side orth N1 N2 N3 o1 o2 o3 hN lN nz3 n0 n1 n2 pN;unfold zX sP;generalize hx0:(x0:Rat)/w0=A0 at *;generalize hy0:(y0:Rat)/w0=B0 at *;generalize hz0:(z0:Rat)/w0=C0 at *;generalize hx1:(x1:Rat)/w1=A1 at *;generalize hy1:(y1:Rat)/w1=B1 at *;generalize hz1:(z1:Rat)/w1=C1 at *;generalize hx2:(x2:Rat)/w2=A2 at *;generalize hy2:(y2:Rat)/w2=B2 at *;generalize hz2:(z2:Rat)/w2=C2 at *;simp only[mv r0 hx0,mv r0 hy0,mv r0 hz0,mv r1 hx1,mv r1 hy1,mv r1 hz1,mv r2 hx2,mv r2 hy2,mv r2 hz2]at M1 M2 M3 P1 P2;clear hx0 hy0 hz0 hx1 hy1 hz1 hx2 hy2 hz2;have T1:=sU r0 r1 r2 M1;have T2:=sU r0 r1 r2 M2;have T3:=sU r0 r1 r2 M3;rw[show((0:Int):Rat)=0 from rfl]at P1 P2;have H1:(l:Rat)*A2+m*B2+k*C2=l*A0+m*B0+k*C0:=Px r0 r2 q0 P1;have H2:=(Px r1 r0 q0 P2).symm;clear M1 M2 M3 P1 P2;have w:=ae7 (h:=(l:Rat)*A0+m*B0+k*C0) nn T1 T2 T3;rw[H1,H2];rw[T1,T2,T3]at w;generalize hS:(q:Rat)/(w0*w0*w1*w2)=s at *;generalize hh:((l:Rat)*A0+m*B0+k*C0)/(l*l+m*m+k*k)=hN at *;have e:∀u1 u2 u3 v1 v2 v3 t1 t2 t3:Rat,(n:Rat)*(hN*(u1*l+u2*m+u3*k))+((n:Rat)*(hN*(v1*l+v2*m+v3*k))+((n:Rat)*(hN*(t1*l+t2*m+t3*k))+0))=n*(hN*((u1+v1+t1)*l+(u2+v2+t2)*m+(u3+v3+t3)*k)):=λ_ _ _ _ _ _ _ _ _=>by grind
 show(n:Rat)*_+((n:Rat)*_+((n:Rat)*_+0))=_;rw[e,T1,T2,T3,w];grind
theorem ct{i:Int}(h:0<i):(0:Rat)<i:=Rat.intCast_lt_intCast.mpr h
theorem aeH{A0 B0 C0 A1 B1 C1 A2 B2 C2 A3 B3 C3 w0 w1 w2 w3:Rat}:w0*((B1*w1*(C2*w2)-C1*w1*(B2*w2))*(A3*w3)+(C1*w1*(A2*w2)-A1*w1*(C2*w2))*(B3*w3)+(A1*w1*(B2*w2)-B1*w1*(A2*w2))*(C3*w3))-w1*((B0*w0*(C2*w2)-C0*w0*(B2*w2))*(A3*w3)+(C0*w0*(A2*w2)-A0*w0*(C2*w2))*(B3*w3)+(A0*w0*(B2*w2)-B0*w0*(A2*w2))*(C3*w3))+w2*((B0*w0*(C1*w1)-C0*w0*(B1*w1))*(A3*w3)+(C0*w0*(A1*w1)-A0*w0*(C1*w1))*(B3*w3)+(A0*w0*(B1*w1)-B0*w0*(A1*w1))*(C3*w3))-w3*((B0*w0*(C1*w1)-C0*w0*(B1*w1))*(A2*w2)+(C0*w0*(A1*w1)-A0*w0*(C1*w1))*(B2*w2)+(A0*w0*(B1*w1)-B0*w0*(A1*w1))*(C2*w2))=(w0*w1*w2*w3)*(((B1*C2-C1*B2)*A3+(C1*A2-A1*C2)*B3+(A1*B2-B1*A2)*C3)-((B0*C2-C0*B2)*A3+(C0*A2-A0*C2)*B3+(A0*B2-B0*A2)*C3)+((B0*C1-C0*B1)*A3+(C0*A1-A0*C1)*B3+(A0*B1-B0*A1)*C3)-((B0*C1-C0*B1)*A2+(C0*A1-A0*C1)*B2+(A0*B1-B0*A1)*C2)):=by
 grind
theorem acw{n k:Nat}(hn:n=2\/n=3)(hk:k<=1000){u:AS}(s:Sx n k u):∃v:Rat,0<v/\∀m:Int,val (cP u m)=m*v:=by
 have pc:=Vv hn hk s.len s.gu s.nz;have dp:0<dU u:=by
  have e:=Te hn hk s.len s.gu;rw[s.cn]at e;have:=s.nz;omega
 have hg:=s.gu;have sl:=s.len;rcases hn with rfl |rfl
 .match u,sl with
  |[a,b,c],_=>
   obtain⟨x0,y0,w0,rfl,p0⟩:=(hg a (by simp)).two hk;obtain⟨x1,y1,w1,rfl,p1⟩:=(hg b (by simp)).two hk;obtain⟨x2,y2,w2,rfl,p2⟩:=(hg c (by simp)).two hk;have q0:=ct p0.pos;have q1:=ct p1.pos;have q2:=ct p2.pos;have dp:0<D2 x0 y0 w0 x1 y1 w1 x2 y2 w2:=dp;have dq:=ct dp;refine⟨(D2 x0 y0 w0 x1 y1 w1 x2 y2 w2:Rat)/(w0*w1*w2),?_,λm=>?_⟩
   .rw[zb]
    exact nu dq (Rat.inv_pos.mpr (nu (nu q0 q1) q2))
   .have e1:=Ci p0.pos p1.pos ((pc.wl [[x0,y0,w0],[x1,y1,w1]] (by simp[fT])).ar ([x0,y0,w0],[x1,y1,w1]) (by simp[gM])).nz m
    have e2:=Ci p1.pos p2.pos ((pc.wl [[x1,y1,w1],[x2,y2,w2]] (by simp[fT])).ar ([x1,y1,w1],[x2,y2,w2]) (by simp[gM])).nz m;have e3:=Ci p2.pos p0.pos ((pc.wl [[x2,y2,w2],[x0,y0,w0]] (by simp[fT])).ar ([x2,y2,w2],[x0,y0,w0]) (by simp[gM])).nz m;have hc:cP [[x0,y0,w0],[x1,y1,w1],[x2,y2,w2]] m=cW [[x0,y0,w0],[x1,y1,w1]] m++(cW [[x1,y1,w1],[x2,y2,w2]] m++(cW [[x2,y2,w2],[x0,y0,w0]] m++[])):=rfl;rw[hc,jI,jI,jI,e1,e2,e3];show _+(_+(_+0))=_;have hD:(D2 x0 y0 w0 x1 y1 w1 x2 y2 w2:Rat)=w0*(x1*y2-y1*x2)-w1*(x0*y2-y0*x2)+w2*(x0*y1-y0*x1):=by
     unfold D2;simp only[rl,ku,nr]
    rw[hD];clear hD dq dp hc e1 e2 e3 pc;unfold Kx;have n0:(w0:Rat)≠0:=by grind
    have n1:(w1:Rat)≠0:=by grind
    have n2:(w2:Rat)≠0:=by grind
    have mv:∀{x w X:Rat},w≠0->x/w=X->x=X*w:=λ{x w X} h e=>by rw[<-e];grind
    generalize hx0:(x0:Rat)/w0=A0 at *;generalize hy0:(y0:Rat)/w0=B0 at *;generalize hx1:(x1:Rat)/w1=A1 at *;generalize hy1:(y1:Rat)/w1=B1 at *;generalize hx2:(x2:Rat)/w2=A2 at *;generalize hy2:(y2:Rat)/w2=B2 at *;rw[mv n0 hx0,mv n0 hy0,mv n1 hx1,mv n1 hy1,mv n2 hx2,mv n2 hy2];clear hx0 hy0 hx1 hy1 hx2 hy2 q0 q1 q2;have e:(w0:Rat)*(A1*w1*(B2*w2)-B1*w1*(A2*w2))-w1*(A0*w0*(B2*w2)-B0*w0*(A2*w2))+w2*(A0*w0*(B1*w1)-B0*w0*(A1*w1))=(w0*w1*w2)*((A1*B2-B1*A2)-(A0*B2-B0*A2)+(A0*B1-B0*A1)):=by grind
    rw[e];have hw:=m0 (m0 n0 n1) n2;generalize (w0:Rat)*w1*w2=W at *;grind
 .match u,sl with
  |[a,b,c,d],_=>
   obtain⟨x0,y0,z0,w0,rfl,p0⟩:=(hg a (by simp)).three hk;obtain⟨x1,y1,z1,w1,rfl,p1⟩:=(hg b (by simp)).three hk;obtain⟨x2,y2,z2,w2,rfl,p2⟩:=(hg c (by simp)).three hk;obtain⟨x3,y3,z3,w3,rfl,p3⟩:=(hg d (by simp)).three hk;have q0:=ct p0.pos;have q1:=ct p1.pos;have q2:=ct p2.pos;have q3:=ct p3.pos;have dp:0<D3 x0 y0 z0 w0 x1 y1 z1 w1 x2 y2 z2 w2 x3 y3 z3 w3:=dp;have dq:=ct dp;refine⟨(D3 x0 y0 z0 w0 x1 y1 z1 w1 x2 y2 z2 w2 x3 y3 z3 w3:Rat)/(w0*w1*w2*w3),?_,λm=>?_⟩
   .rw[zb]
    exact nu dq (Rat.inv_pos.mpr (nu (nu (nu q0 q1) q2) q3))
   .have nz:∀{p q r:AR},[p,q,r]∈fT [[x0,y0,z0,w0],[x1,y1,z1,w1],[x2,y2,z2,w2],[x3,y3,z3,w3]]->(∃n∈dI p q,n≠0)/\(∃n∈dI q r,n≠0)/\∃n∈dI r p,n≠0:=λ{p q r} hw=>⟨((pc.wl _ hw).ar (p,q) (by simp[gM])).nz,((pc.wl _ hw).ar (q,r) (by simp[gM])).nz,((pc.wl _ hw).ar (r,p) (by simp[gM])).nz⟩
    have a1:=nz (p:=[x1,y1,z1,w1]) (q:=[x2,y2,z2,w2]) (r:=[x3,y3,z3,w3]) (by simp[fT]);have a2:=nz (p:=[x0,y0,z0,w0]) (q:=[x3,y3,z3,w3]) (r:=[x2,y2,z2,w2]) (by simp[fT]);have a3:=nz (p:=[x0,y0,z0,w0]) (q:=[x1,y1,z1,w1]) (r:=[x3,y3,z3,w3]) (by simp[fT]);have a4:=nz (p:=[x0,y0,z0,w0]) (q:=[x2,y2,z2,w2]) (r:=[x1,y1,z1,w1]) (by simp[fT]);have e1:=zZ p1.pos p2.pos p3.pos a1.1 a1.2.1 a1.2.2 m;have e2:=zZ p0.pos p3.pos p2.pos a2.1 a2.2.1 a2.2.2 m;have e3:=zZ p0.pos p1.pos p3.pos a3.1 a3.2.1 a3.2.2 m;have e4:=zZ p0.pos p2.pos p1.pos a4.1 a4.2.1 a4.2.2 m;have hc:cP [[x0,y0,z0,w0],[x1,y1,z1,w1],[x2,y2,z2,w2],[x3,y3,z3,w3]] m=cW [[x1,y1,z1,w1],[x2,y2,z2,w2],[x3,y3,z3,w3]] m++(cW [[x0,y0,z0,w0],[x3,y3,z3,w3],[x2,y2,z2,w2]] m++(cW [[x0,y0,z0,w0],[x1,y1,z1,w1],[x3,y3,z3,w3]] m++(cW [[x0,y0,z0,w0],[x2,y2,z2,w2],[x1,y1,z1,w1]] m++[]))):=rfl;rw[hc,jI,jI,jI,jI,e1,e2,e3,e4];show _+(_+(_+(_+0)))=_;have hD:(D3 x0 y0 z0 w0 x1 y1 z1 w1 x2 y2 z2 w2 x3 y3 z3 w3:Rat)=w0*((y1*z2-z1*y2)*x3+(z1*x2-x1*z2)*y3+(x1*y2-y1*x2)*z3)-w1*((y0*z2-z0*y2)*x3+(z0*x2-x0*z2)*y3+(x0*y2-y0*x2)*z3)+w2*((y0*z1-z0*y1)*x3+(z0*x1-x0*z1)*y3+(x0*y1-y0*x1)*z3)-w3*((y0*z1-z0*y1)*x2+(z0*x1-x0*z1)*y2+(x0*y1-y0*x1)*z2):=by
     unfold D3;simp only[rl,ku,nr]
    rw[hD];clear hD dq dp hc e1 e2 e3 e4 pc a1 a2 a3 a4 nz;unfold zX sP;have n0:(w0:Rat)≠0:=by grind
    have n1:(w1:Rat)≠0:=by grind
    have n2:(w2:Rat)≠0:=by grind
    have n3:(w3:Rat)≠0:=by grind
    have mv:∀{x w X:Rat},w≠0->x/w=X->x=X*w:=λ{x w X} h e=>by rw[<-e];grind
    generalize hx0:(x0:Rat)/w0=A0 at *;generalize hy0:(y0:Rat)/w0=B0 at *;generalize hz0:(z0:Rat)/w0=C0 at *;generalize hx1:(x1:Rat)/w1=A1 at *;generalize hy1:(y1:Rat)/w1=B1 at *;generalize hz1:(z1:Rat)/w1=C1 at *;generalize hx2:(x2:Rat)/w2=A2 at *;generalize hy2:(y2:Rat)/w2=B2 at *;generalize hz2:(z2:Rat)/w2=C2 at *;generalize hx3:(x3:Rat)/w3=A3 at *;generalize hy3:(y3:Rat)/w3=B3 at *;generalize hz3:(z3:Rat)/w3=C3 at *;rw[mv n0 hx0,mv n0 hy0,mv n0 hz0,mv n1 hx1,mv n1 hy1,mv n1 hz1,mv n2 hx2,mv n2 hy2,mv n2 hz2,mv n3 hx3,mv n3 hy3,mv n3 hz3];clear hx0 hy0 hz0 hx1 hy1 hz1 hx2 hy2 hz2 hx3 hy3 hz3 q0 q1 q2 q3;have hw:=m0 (m0 (m0 n0 n1) n2) n3;rw[aeH (w0:=(w0:Rat)) (w1:=w1) (w2:=w2) (w3:=w3)];generalize (w0:Rat)*w1*w2*w3=W at *;grind
theorem Ap{n k:Nat}(hn:n=2\/n=3)(hk:k<=1000):∀{hs:AT},(∀u∈hs,Sx n k u)->∃v:Rat,0<=v/\(hs≠[]->0<v)/\∀m:Int,val (cH hs m)=m*v
 |[],_=>⟨0,Rat.le_refl,λh=>absurd rfl h,λm=>by show(0:Rat)=_;grind⟩
 |u::hs,h=>by
  obtain⟨v,v0,_,e⟩:=Ap hn hk (hs:=hs) λw hw=>h w (bn _ hw);obtain⟨w,w0,f⟩:=acw hn hk (h u bi);have p:0<w+v:=by grind
  refine⟨w+v,by grind,λ_=>p,λm=>?_⟩;have ec:cH (u::hs) m=cP u m++cH hs m:=kj;rw[ec,jI,e,f];grind
theorem aas{n k:Nat}(hn:n=2\/n=3)(hk:k<=1000){hs:AT}(h:∀u∈hs,Sx n k u)(ne:hs≠[]):¬∀l,cX (cH hs (-1)) l=0:=λz=>by
 obtain⟨v,_,p,e⟩:=Ap hn hk h;have q:=Go _ _ (ak _) z;rw[e]at q;have:=p ne;rw[show(((-1:Int)):Rat)=-1 from rfl]at q;grind
def iV(hs gs:AT):Bool:=@decide (∀l,cX (cH hs 1++cH gs (-1)) l=0) (pf _)
theorem Fe{hs gs:AT}:iV hs gs=true↔∀l,cX (cH hs 1++cH gs (-1)) l=0:=by
 unfold iV;exact @decide_eq_true_iff _ (pf _)
theorem Ou{n k:Nat}(hn:n=2\/n=3)(hk:k<=1000){A B:PV}{hs gs:AT}(hA:Sv A (hs.map px))(hB:Sv B (gs.map px))(h:∀u∈hs,Sx n k u)(g:∀u∈gs,Sx n k u)(lh:hs.length<=1000)(lg:gs.length<=1000):pL [.pv A,.pv B] []=.ok (.pv (.bl (iV hs gs))) []:=by
 have pc:∀u,Sx n k u->Pc u:=λu s=>Vv hn hk s.len s.gu s.nz;obtain⟨b,e,hb⟩:=abk hA hB (λu hu=>pc u (h u hu)) (λu hu=>pc u (g u hu)) lh lg;have:b=iV hs gs:=by rw[ot,hb,Fe]
 rw[e,this]
theorem As{n k:Nat}(hn:n=2\/n=3)(hk:k<=1000){hs gs:AT}(h:∀u∈hs,Sx n k u)(g:∀u∈gs,Sx n k u)(lh:hs.length<=1000)(lg:gs.length<=1000):rE [.pv (.lst (hs.map px)),.pv (.lst (gs.map px))] []=.ok (.pv (.bl (iV hs gs))) []:=by
 obtain⟨c,f,hc⟩:=U8 hn hk h g lh lg;obtain⟨D1,l1,s1⟩:=Pg hn 1 h;obtain⟨D2,l2,s2⟩:=Pg hn (-1) g;have:c=iV hs gs:=by
  rw[ot,hc,Fe,(l1.app l2).iff];refine forall_congr' λk=>?_;rw[qR,qR,s1,s2]
 rw[f,this]
theorem aah{n k:Nat}(hn:n=2\/n=3)(hk:k<=1000){hs:AT}(h:∀u∈hs,Sx n k u)(ne:hs≠[]):iV [] hs=false:=by
 cases z:iV [] hs with
 |false=>rfl
 |true=>exact absurd (Fe.mp z) (aas hn hk h ne)
abbrev kR(rs:List Rr)(hs gs:AT):Bool:=iV (rs.map (·.1)) hs&&iV (rs.map eY) gs
theorem Rt.mv{n k l:Nat}(hn:n=2\/n=3){rs:List Rr}(h:∀r∈rs,Rt n k l r)(hk:k+l+1<=1000):(∀u∈rs.map (·.1),Sx n 1000 u)/\∀u∈rs.map eY,Sx n 1000 u:=by
 refine⟨λu hu=>?_,λu hu=>?_⟩
 .obtain⟨r,hr,rfl⟩:=ia.mp hu
  exact(h r hr).sx.mono (by omega)
 .obtain⟨r,hr,rfl⟩:=ia.mp hu
  exact(Kf hn (h r hr).way (h r hr).sx (h r hr).gu hk).mono hk
theorem xC{n k l:Nat}(hn:n=2\/n=3)(S:aH){A B C:PV}{rs:List Rr}{hs gs:AT}(hA:Sv A (rs.map rv))(hB:Sv B (hs.map px))(hC:Sv C (gs.map px))(h:∀r∈rs,Rt n k l r)(hk:k+l+1<=1000)(sh:∀u∈hs,Sx n 1000 u)(sg:∀u∈gs,Sx n 1000 u)(lr:rs.length<=1000)(lh:hs.length<=1000)(lg:gs.length<=1000):jW [.pv A,.pv B,.pv C,.pv (.bl false)] S=.ok (.pv (.bl (kR rs hs gs))) S:=by
 have c1:=O9 S hA;have c2:=abI hn S hA h hk;obtain⟨m1,m2⟩:=Rt.mv hn h hk;have s1:=Ou hn (ak 1000) (A:=.tup ((rs.map (·.1)).map px)) (B:=B) (.inr rfl) hB m1 sh (by rw[aj];exact lr) lh;have s2:=Ou hn (ak 1000) (A:=.tup ((rs.map eY).map px)) (B:=C) (.inr rfl) hC m2 sg (by rw[aj];exact lr) lg;rw[cw]at s1;have s1:pL [.pv (.tup (rs.map λr=>px r.1)),.pv B] []=.ok (.pv (.bl (iV (rs.map (·.1)) hs))) []:=s1;unfold kR;generalize iV (rs.map eY) gs=t2,iV (rs.map (·.1)) hs=t1 at *;clear hB hC sh sg h m1 m2;generalize (rs.map λr=>px r.1)=M2,(rs.map eY).map px=M1 at *;unfold jW aR Me;cases t1<;>cases t2<;>simp! [aE,aZ,aY,aP,aO,aN,aL,aM,aF,aK,nY,oU,c1,c2,s1,s2]
theorem K4{n k l:Nat}(hn:n=2\/n=3)(S:aH){rs:List Rr}{hs gs:AT}(h:∀r∈rs,Rt n k l r)(hk:k+l+1<=1000)(sh:∀u∈hs,Sx n 1000 u)(sg:∀u∈gs,Sx n 1000 u)(lr:rs.length<=1000)(lh:hs.length<=1000)(lg:gs.length<=1000):tL [.pv (.lst (rs.map rv)),.pv (.lst (hs.map px)),.pv (.lst (gs.map px))] S=.ok (.pv (.bl (kR rs hs gs))) S:=by
 obtain⟨m1,m2⟩:=Rt.mv hn h hk;have s1:=As hn (ak 1000) m1 sh (by rw[aj];exact lr) lh;have s2:=As hn (ak 1000) m2 sg (by rw[aj];exact lr) lg;rw[cw]at s1 s2;have e1:cG [] (gN 0) (aC aE (aA 0) (mC (.int 0))) (rs.map rv) [none] S=.ok (rs.map (px∘(·.1))) S:=by
  refine kW (iR S) rv (px∘(·.1)) rs none λr hr=>?_;have hrv:rv r=.tup [px r.1,.tup [.int r.2.1,tv r.2.2]]:=rfl;have hp:(px∘(·.1)) r=px r.1:=rfl;rw[hrv,hp];generalize px r.1=P1;simp! [aE,aZ,aY,aP,aO,aN,aL,aM,aF,aK]
 have e2:cG [] (gN 0) (aJ mZ [] (aB (aC aE (aA 0) (mC (.int 0))) (aB (aC aE (aC aE (aA 0) (mC (.int 1))) (mC (.int 0))) (aB (aC aE (aC aE (aA 0) (mC (.int 1))) (mC (.int 1))) aD)))) (rs.map rv) [none] S=.ok (rs.map (px∘eY)) S:=by
  refine kW (iR S) rv (px∘eY) rs none λr hr=>?_;have e1:=Nr hn S (h r hr).way (h r hr).sx (h r hr).gu hk;have e1:mZ [.pv (px r.1),.pv (.int r.2.1),.pv (tv r.2.2)] S=.ok (.pv ((px∘eY) r)) S:=e1;have hrv:rv r=.tup [px r.1,.tup [.int r.2.1,tv r.2.2]]:=rfl;rw[hrv];generalize r.2.1=W1,tv r.2.2=T1,px r.1=P1,(px∘eY) r=PX at *;simp! [aE,aZ,aY,aP,aO,aN,aL,aM,aF,aK,e1]
 unfold kR;generalize iV (rs.map eY) gs=t2,iV (rs.map (·.1)) hs=t1 at *;clear sh sg h m1 m2;generalize gs.map px=GL,hs.map px=HL,rs.map rv=RL,rs.map (px∘(·.1))=M2,rs.map (px∘eY)=M1 at *;unfold tL aR Zb;cases t1<;>simp! [bC,aO,aN,aL,aM,aF,aK,nY,oU,bF,cJ,bA,cC,e1,e2,s1,s2]
theorem adE{n k l:Nat}(hn:n=2\/n=3){rs:List Rr}(h:∀r∈rs,Rt n k l r)(hs gs:AT):kR (rs.map bk) gs hs=kR rs hs gs:=by
 have e1:(rs.map bk).map (·.1)=rs.map eY:=by rw[cw];rfl
 have e2:(rs.map bk).map eY=rs.map (·.1):=by
  rw[cw];refine ee λr hr=>?_;have u:=We hn (h r hr).way (h r hr).gu;have sx:=(h r hr).sx;obtain⟨uss,w,f⟩:=r;simp only[Function.comp,eY,bk];exact Q1 (n:=n) (k:=k) (l:=0) (way:=w) (f:=f) (f':=jE w f) (uss:=uss) hn sx u.2.2.1
 unfold kR;rw[e1,e2,Bool.and_comm]
theorem Xw(L:AZ){a:Nat}(h:a<=L.length):iP (.lst L) (some (a:Int)) none=some (.lst (L.drop a)):=by
 unfold iP;dsimp only;unfold iT;rw[HT.sIx_nat];show some (PV.lst ((L.drop (min a L.length)).take (L.length-min a L.length)))=_;rw[um h,qx (by rw[qk];omega)]
theorem ad8{n:Nat}(hn:n=2\/n=3):∃(f:AR)(r:PV)(L:AZ),Gu n 2 f/\vC (.lst [.int 0]) (.int (n-1:Int))=some r/\aF r (.lst [.int 1,.int 3])=some (.lst L)/\PV.tup L=tv f:=by
 have l3:∀l:AR,gl (l++[1]++[3]) 0=1:=λl=>by
  have d:=(jX (l++[1]++[3]) 0).2 1 (by simp);have p:=Zf (ns:=l++[1]++[3]) (n:=1) (by simp) (by decide);have:=Int.le_of_dvd (by decide) d;omega
 have b1:Bd 2 (1:Int):=by unfold Bd;decide
 have b0:Bd 2 (0:Int):=by unfold Bd;decide
 have b3:Bd 2 (3:Int):=by unfold Bd;decide
 rcases hn with rfl |rfl
 .refine⟨[0,1,3],.lst [.int 0],_,⟨[0,1],3,rfl,rfl,by decide,Ud (l3 [0]),by simp;exact⟨b0,b1⟩,b3⟩,?_,by simp[aF],rfl⟩
  rw[Hd,if_pos ⟨by decide,by decide,by decide⟩];rfl
 .refine⟨[0,0,1,3],.lst [.int 0,.int 0],_,⟨[0,0,1],3,rfl,rfl,by decide,Ud (l3 [0,0]),by simp;exact⟨b0,b1⟩,b3⟩,?_,by simp[aF],rfl⟩
  rw[Hd,if_pos ⟨by decide,by decide,by decide⟩];rfl
theorem Uq{α:Type}{L:List α}{a:Nat}{x y:α}(h:y∈L.take a++[x]++L.drop a):y=x\/y∈L:=by
 rcases cj.mp h with z |z
 .rcases cj.mp z with z |z
  .exact .inr (zc z)
  .exact .inl (by simpa using z)
 .exact .inr (zd z)
theorem vJ{ns:AR}{L:AZ}{T:aH}{k:Nat}(hl:L.length+k<=1000)(h0:0<L.length+k):∃(a:Nat)(n1:AR),cE [.ref 0,.pv (.int ((L.length+k:Nat):Int))] (.lst (li ns)::T)=.ok (.pv (.int (a:Int))) (.lst (li n1)::T)/\a<L.length+k:=by
 obtain⟨a,n1,e,a0,a1,_⟩:=fX (m:=((L.length+k:Nat):Int)) (show dW (.lst (li ns)::T) 0 ns from rfl) (by omega) (gO (by omega) (by omega));exact⟨a.toNat,n1,by rw[show((a.toNat:Nat):Int)=a by omega];exact e,by omega⟩
abbrev Am(n:Nat)(rs:List Rr)(hs gs:AT):Prop:=(∀r∈rs,Rt n 394 103 r)/\(∀u∈hs,Sx n 1000 u)/\(∀u∈gs,Sx n 1000 u)/\rs.length<=200/\hs.length<=200/\gs.length<=200
theorem L0{n:Nat}(hn:n=2\/n=3)(ns:AR)(w:Int){rs:List Rr}{hs gs:AT}(h:∀r∈rs,Rt n 394 100 r)(sh:∀u∈hs,Sx n 1000 u)(sg:∀u∈gs,Sx n 1000 u)(r0:0<rs.length)(h0:0<hs.length)(g0:0<gs.length)(lr:rs.length<=90)(lh:hs.length<=90)(lg:gs.length<=90):∃(rs':List Rr)(hs' gs':AT)(ns':AR),mQ [.ref 0,.pv (.int w),.pv (.lst (rs.map rv)),.pv (.lst (hs.map px)),.pv (.lst (gs.map px))] [.lst (li ns)]=.ok (.pv (.tup [.lst (rs'.map rv),.lst (hs'.map px),.lst (gs'.map px)])) [.lst (li ns')]/\Am n rs' hs' gs':=by
 have h':∀r∈rs,Rt n 394 103 r:=λr hr=>⟨(h r hr).sx,(h r hr).way,(h r hr).gu.mono (by decide)⟩;obtain⟨a,n1,e1,al⟩:=vJ (ns:=ns) (L:=rs.map rv) (T:=[]) (k:=0) (by simp;omega) (by simp;omega);rw[aj]at al;have al:a<rs.length:=al;have ir:aE (.lst (rs.map rv)) (.int (a:Int))=some (rv rs[a]):=eH (by rw[bo,ax al];rfl);rw[uo]at e1
 by_cases c2:w=2
 .subst c2
  obtain⟨b,n2,e2,bl⟩:=vJ (ns:=n1) (L:=hs.map px) (T:=[]) (k:=0) (by simp;omega) (by simp;omega);rw[uo]at e2 bl;rw[aj]at bl;have k1:=zA (hs.map px) (a:=b) (by rw[aj];omega);have k2:=Aw (hs.map px) (a:=b) (by rw[aj];exact bl);rw[<-vf]at k1;rw[<-vg]at k2;have l1:((hs.take b).map px).length+((hs.drop (b+1)).map px).length<=16777216:=by simp;omega
  refine⟨rs,hs.take b++hs.drop (b+1),gs,n2,?_,h',λu hu=>?_,sg,by omega,by simp;omega,by omega⟩
  .rw[du]
   clear h h' sh sg ir;generalize rs.map rv=RL,gs.map px=GL,hs.map px=HL,(hs.drop (b+1)).map px=G2,(hs.take b).map px=G1 at *;unfold mQ qY;apply uN rfl;apply sq;simp! [bC,aO,aN,aL,aM,aF,aK,e1];exact⟨rfl,rfl⟩;simp! [bC,aO,aN,aL,aM,aF,aK,e2,dB,dD,dA,fO,k1,k2,l1];exact⟨rfl,rfl⟩;simp[kA]
  .rcases cj.mp hu with z |z
   .exact sh u (zc z)
   .exact sh u (zd z)
 have d2:(w==2)=false:=by simpa using c2
 by_cases c3:w=3
 .subst c3
  obtain⟨b,n2,e2,bl⟩:=vJ (ns:=n1) (L:=gs.map px) (T:=[]) (k:=0) (by simp;omega) (by simp;omega);rw[uo]at e2 bl;rw[aj]at bl;obtain⟨c,n3,e3,cl⟩:=vJ (ns:=n2) (L:=gs.map px) (T:=[]) (k:=1) (by simp;omega) (by simp);have e3:cE [.ref 0,.pv (.int (((gs.map px).length:Int)+1))] [.lst (li n2)]=.ok (.pv (.int (c:Int))) [.lst (li n3)]:=e3;rw[aj]at cl;have k1:=zA (gs.map px) (a:=c) (by rw[aj];omega);have k2:=Xw (gs.map px) (a:=c) (by rw[aj];omega);rw[<-vf]at k1;rw[<-vg]at k2;have ig:aE (.lst (gs.map px)) (.int (b:Int))=some (px gs[b]):=eH (by rw[bo,ax bl];rfl);have l1:((gs.take c).map px).length+1<=16777216:=by simp;omega
  have l2:((gs.take c).map px).length+1+((gs.drop c).map px).length<=16777216:=by simp;omega
  refine⟨rs,hs,gs.take c++[gs[b]]++gs.drop c,n3,?_,h',sh,λu hu=>?_,by omega,by omega,by simp;omega⟩
  .rw[du,du]
   clear h h' sh sg ir;show _=bP.ok (AV.pv (.tup [.lst (rs.map rv),.lst (hs.map px),.lst ((gs.take c).map px++[px gs[b]]++(gs.drop c).map px)])) _;generalize rs.map rv=RL,gs.map px=GL,hs.map px=HL,(gs.drop c).map px=G2,(gs.take c).map px=G1,px gs[b]=PB at *;have l2:(G1++[PB]).length+G2.length<=16777216:=by rw[av];exact l2
   unfold mQ qY;apply uN rfl;apply sq;simp! [bC,aO,aN,aL,aM,aF,aK,e1];exact⟨rfl,rfl⟩;apply sq;simp! [bC,aO,aN,aL,aM,aF,aK];exact⟨rfl,rfl⟩;simp! [bC,aO,aN,aL,aM,aF,aK,e2,e3,ig,dB,dD,dA,fO,k1,k2,l1]at l2⊢;simp[l2,iD,cN.of];first |exact⟨rfl,rfl⟩|rfl
   simp[kA]
  .rcases Uq hu with z |z
   .rw[z];exact sg _ (fe bl)
   .exact sg u z
 have d3:(w==3)=false:=by simpa using c3
 by_cases c4:w=4
 .subst c4
  obtain⟨f,r,L,gf,t1,t2,t3⟩:=ad8 hn;have ra:=h _ (fe al);have ej:=Zd (way:=1) [.lst (li n1)] hn (.inl rfl) ra.gu gf (by decide) (by decide);rw[<-t3]at ej;have gj:=(nC (way:=1) (.inl rfl) ra.gu gf).1;have k1:=zA (rs.map rv) (a:=a) (by rw[aj];omega);have k2:=Aw (rs.map rv) (a:=a) (by rw[aj];exact al);rw[<-vf]at k1;rw[<-vg]at k2;have l1:((rs.take a).map rv).length+1<=16777216:=by simp;omega
  have l2:((rs.take a).map rv).length+1+((rs.drop (a+1)).map rv).length<=16777216:=by simp;omega
  have lp:∃P,px rs[a].1=.tup P/\(P.length:Int)-2=(n:Int)-1:=⟨_,rfl,by rw[aj,ra.sx.len];omega⟩;obtain⟨P,hP,lP⟩:=lp;refine⟨rs.take a++[(rs[a].1,rs[a].2.1,dC 1 f rs[a].2.2)]++rs.drop (a+1),hs,gs,n1,?_,λq hq=>?_,sh,sg,by simp;omega,by omega,by omega⟩
  .rw[du,du]
   show _=bP.ok (AV.pv (.tup [.lst ((rs.take a).map rv++[.tup [px rs[a].1,.tup [.int rs[a].2.1,tv (dC 1 f rs[a].2.2)]]]++(rs.drop (a+1)).map rv),.lst (hs.map px),.lst (gs.map px)])) _;have hrv:rv rs[a]=.tup [px rs[a].1,.tup [.int rs[a].2.1,tv rs[a].2.2]]:=rfl;rw[hrv]at ir;rw[hP]at ir⊢;clear h h' sh sg gj ra hrv gf t3;generalize rs.map rv=RL,gs.map px=GL,hs.map px=HL,(rs.drop (a+1)).map rv=G2,(rs.take a).map rv=G1,rs[a].2.1=WA,tv rs[a].2.2=TF,tv (dC 1 f rs[a].2.2)=TJ at *;have l2:(G1++[PV.tup [.tup P,.tup [.int WA,TJ]]]).length+G2.length<=16777216:=by rw[av];exact l2
   unfold mQ qY;apply uN rfl;apply sq;simp! [bC,aO,aN,aL,aM,aF,aK,e1];exact⟨rfl,rfl⟩;apply sq;simp! [bC,aO,aN,aL,aM,aF,aK];exact⟨rfl,rfl⟩;apply sq;simp! [bC,aO,aN,aL,aM,aF,aK];exact⟨rfl,rfl⟩;have i0:aE (.tup [.int WA,TF]) (.int 0)=some (.int WA):=eH (j:=0) rfl;have i1:aE (.tup [.int WA,TF]) (.int 1)=some TF:=eH (j:=1) rfl;simp! [bC,aO,aN,aL,aM,aK,aK,aF.eq_1,mJ,gT,bO,dE,gN,ir,i0,i1,lP,t1,t2,ej,dB,dD,dA,fO,k1,k2,l1,aF.eq_2]at l2⊢;simp[l2,iD,cN.of];first |exact⟨rfl,rfl⟩|rfl
   simp[kA]
  .rcases cj.mp hq with z |z
   .rcases cj.mp z with z |z
    .exact h' q (zc z)
    .have:q=(rs[a].1,rs[a].2.1,dC 1 f rs[a].2.2):=by simpa using z
     rw[this];exact⟨ra.sx,ra.way,gj⟩
   .exact h' q (zd z)
 have d4:(w==4)=false:=by simpa using c4
 obtain⟨c,n3,e3,cl⟩:=vJ (ns:=n1) (L:=rs.map rv) (T:=[]) (k:=1) (by simp;omega) (by simp);have e3:cE [.ref 0,.pv (.int (((rs.map rv).length:Int)+1))] [.lst (li n1)]=.ok (.pv (.int (c:Int))) [.lst (li n3)]:=e3;rw[aj]at cl;have k1:=zA (rs.map rv) (a:=c) (by rw[aj];omega);have k2:=Xw (rs.map rv) (a:=c) (by rw[aj];omega);rw[<-vf]at k1;rw[<-vg]at k2;have l1:((rs.take c).map rv).length+1<=16777216:=by simp;omega
 have l2:((rs.take c).map rv).length+1+((rs.drop c).map rv).length<=16777216:=by simp;omega
 refine⟨rs.take c++[rs[a]]++rs.drop c,hs,gs,n3,?_,λq hq=>?_,sh,sg,by simp;omega,by omega,by omega⟩
 .rw[du,du]
  show _=bP.ok (AV.pv (.tup [.lst ((rs.take c).map rv++[rv rs[a]]++(rs.drop c).map rv),.lst (hs.map px),.lst (gs.map px)])) _;clear h h' sh sg;generalize rs.map rv=RL,gs.map px=GL,hs.map px=HL,(rs.drop c).map rv=G2,(rs.take c).map rv=G1,rv rs[a]=PB at *;have l2:(G1++[PB]).length+G2.length<=16777216:=by rw[av];exact l2
  unfold mQ qY;apply uN rfl;apply sq;simp! [bC,aO,aN,aL,aM,aF,aK,e1];exact⟨rfl,rfl⟩;apply sq;simp! [bC,aO,aN,aL,aM,aF,aK,d2];exact⟨rfl,rfl⟩;apply sq;simp! [bC,aO,aN,aL,aM,aF,aK,d3];exact⟨rfl,rfl⟩;apply sq;simp! [bC,aO,aN,aL,aM,aF,aK,d4];exact⟨rfl,rfl⟩;apply sq;simp! [bC,aO,aN,aL,aM,aF,aK,e3];exact⟨rfl,rfl⟩;simp! [bC,aO,aN,aL,aM,aF,aK,ir,dB,dD,dA,fO,k1,k2,l1]at l2⊢;simp[l2,iD,cN.of];first |exact⟨rfl,rfl⟩|rfl
  simp[kA]
 .rcases Uq hq with z |z
  .rw[z];exact h' _ (fe al)
  .exact h' q z
abbrev oL(L:AZ):BB:=some (.pv (.lst L))
abbrev rh(x0:BB)(N:Int)(a b c d e f g:BB):bZ:=[x0,some (.ref 0),some (.pv (.int N)),a,b,c,d,e,f,g]
def Zh:MS:=(aG (aQ 8 (aJ tL [] (aB (aA 4) (aB (aA 5) (aB (aA 6) aD))))) (aG (bW (gS (bH (aC eJ (mR cV (aB (aA 5) aD)) (mC (.int 0)))) (bH (aJ jW [.bl false] (aB (mN cU aD) (aB (aA 5) (aB (aA 6) aD)))))) (bD (mC (.bl false))) cY) (aG (aQ 9 (mN dZ (aB (aJ jW [.bl false] (aB (aJ jV [] (aB (aA 1) (aB (aA 4) aD))) (aB (aJ jV [] (aB (aA 1) (aB (aA 5) aD))) (aB (aJ jV [] (aB (aA 1) (aB (aA 6) aD))) aD)))) aD))) (aG (aQ 9 (aC aF (aA 9) (mN dZ (aB (aJ jW [] (aB (aA 4) (aB (aA 5) (aB (aA 6) (aB (mC (.bl false)) aD))))) (aB (aJ jW [.bl false] (aB (aJ uK [] (aB (aA 4) aD)) (aB (aA 6) (aB (aA 5) aD)))) aD))))) (bD (mR kO (aB (bF ["_law_found"] [(8,"_law_due")] (bA (aA 9)) (gN 0) (rS (bR (lI "bool") (aA 0)) (aC cT (aA 0) (aA 1)))) aD)))))))
theorem ady{n:Nat}(hn:n=2\/n=3)(x0 x3 x7:BB){rs:List Rr}{hs gs:AT}(A:Am n rs hs gs)(ns:AR):∃S',Zh (rh x0 n x3 (oL (rs.map rv)) (oL (hs.map px)) (oL (gs.map px)) x7 none none) [.lst (li ns)]=.rt (.pv (.bl true)) S':=by
 obtain⟨h,sh,sg,lr,lh,lg⟩:=A;have hr:∀k:AR,dW [.lst (li k)] 0 k:=λ_=>rfl;obtain⟨A,n1,e1,hA⟩:=Uc (L:=rs.map rv) (hr ns);obtain⟨B,n2,e2,hB⟩:=Uc (L:=hs.map px) (hr n1);obtain⟨C,n3,e3,hC⟩:=Uc (L:=gs.map px) (hr n2);have e1:jV [.ref 0,.pv (.lst (rs.map rv))] [.lst (li ns)]=.ok (.pv A) [.lst (li n1)]:=e1;have e2:jV [.ref 0,.pv (.lst (hs.map px))] [.lst (li n1)]=.ok (.pv B) [.lst (li n2)]:=e2;have e3:jV [.ref 0,.pv (.lst (gs.map px))] [.lst (li n2)]=.ok (.pv C) [.lst (li n3)]:=e3;have d0:=K4 hn [.lst (li ns)] h (by decide) sh sg (by omega) (by omega) (by omega);have d1:=xC hn [.lst (li n3)] hA hB hC h (by decide) sh sg (by omega) (by omega) (by omega);have d2:=xC hn [.lst (li n3)] (A:=.lst (rs.map rv)) (.inl rfl) (B:=.lst (hs.map px)) (.inl rfl) (C:=.lst (gs.map px)) (.inl rfl) h (by decide) sh sg (by omega) (by omega) (by omega);have d3:=abr hn [.lst (li n3)] (A:=.lst (rs.map rv)) (.inl rfl) h (by decide);have d4:=xC hn [.lst (li n3)] (A:=.tup ((rs.map bk).map rv)) (.inr rfl) (B:=.lst (gs.map px)) (.inl rfl) (C:=.lst (hs.map px)) (.inl rfl) (rs:=rs.map bk) (λr hr=>by
  obtain⟨q,hq,rfl⟩:=ia.mp hr;exact adK hn (h q hq) (by decide)) (by decide) sg sh (by rw[aj];omega) (by omega) (by omega)
 rw[adE hn h]at d4;have d5:=xC hn [.lst (li ns)] (A:=.tup []) (B:=.lst (hs.map px)) (C:=.lst (gs.map px)) (rs:=[]) (k:=0) (l:=0) (.inr rfl) (.inl rfl) (.inl rfl) (by simp) (by decide) sh sg (by decide) (by omega) (by omega);have t2:(bW (gS (bH (aC eJ (mR cV (aB (aA 5) aD)) (mC (.int 0)))) (bH (aJ jW [.bl false] (aB (mN cU aD) (aB (aA 5) (aB (aA 6) aD)))))) (bD (mC (.bl false))) cY) (rh x0 n x3 (oL (rs.map rv)) (oL (hs.map px)) (oL (gs.map px)) x7 (some (.pv (.bl (kR rs hs gs)))) none) [.lst (li ns)]=.nx (rh x0 n x3 (oL (rs.map rv)) (oL (hs.map px)) (oL (gs.map px)) x7 (some (.pv (.bl (kR rs hs gs)))) none) [.lst (li ns)]:=by
  by_cases z:hs=[]
  .subst z
   generalize gs.map px=GL;generalize rs.map rv=RL;generalize (n:Int)=N;simp! [bC,aO,aN,aL,aM,aF,aK,rh,oL]
  .have f:kR [] hs gs=false:=by
    show(iV [] hs&&_)=false;rw[aah hn (by decide) sh z];rfl
   rw[f]at d5;have p:0<(hs.map px).length:=by rw[aj];exact AC.mpr z
   generalize (n:Int)=N,rs.map rv=RL,gs.map px=GL,hs.map px=HL,kR rs hs gs=b at *;simp! [bC,aO,aN,aL,aM,aF,aK,rh,oL,p,d5]
 refine⟨[.lst (li n3)],?_⟩;clear d5 h sh sg hA hB hC;generalize (n:Int)=N,rs.map rv=RL,gs.map px=GL,hs.map px=HL,(rs.map bk).map rv=BL,kR rs hs gs=b at *;unfold Zh;apply sq;simp! [bC,aO,aN,aL,aM,aF,aK,rh,d0];exact⟨rfl,rfl⟩;refine sq t2 ?_;apply sq;simp! [bC,aO,aN,aL,aM,aF,aK,rh,oL,e1,e2,e3,d1];exact⟨rfl,rfl⟩;apply sq;simp! [bC,aO,aN,aL,aM,aF,aK,d2,d3,d4];exact⟨rfl,rfl⟩;cases b<;>simp! [aE,aZ,aY,aP,aO,aN,aL,aM,aF,aK,bF,cJ,bA,cC,eA,dX,gN,lI,kO,oF]
def yR:MS:=(aG (aQ 3 (aJ tY [] (aB (aA 1) (aB (aJ qM [] (aB (aA 1) (aB (aA 2) (aB (mC (.int 3)) aD)))) (aB (aJ sY [] (aB (aA 1) (aB (aA 2) aD))) aD))))) (aG (aQ 4 (aJ tI [] (aB (aA 1) (aB (aJ kF [] (aB (aA 1) (aB (aA 3) aD))) (aB (aA 2) (aB (mC (.bl true)) aD)))))) (aG (aQ 5 (aJ kF [] (aB (aA 1) (aB (aA 3) aD)))) (aG (aQ 6 (aJ kF [] (aB (aA 1) (aB (aJ tQ [] (aB (aA 4) aD)) aD)))) (aG (aQ 7 (aJ cE [] (aB (aA 1) (aB (mC (.int 6)) aD)))) (aG (bW (bH (aC cT (mR cV (aB (aA 4) aD)) (mC (.int 0)))) (aQ 7 (mC (.int 0))) cY) (aG (bW (bH (aC eJ (aA 7) (mC (.int 1)))) (mJ (gT 3 (bO (gN 4) (bO (gN 5) (bO (gN 6) dE)))) (aJ mQ [] (aB (aA 1) (aB (aA 7) (aB (aA 4) (aB (aA 5) (aB (aA 6) aD))))))) cY) Zh)))))))
theorem adH{n:Nat}(hn:n=2\/n=3)(ns:AR)(x0:BB):∃S',yR (rh x0 n none none none none none none none) [.lst (li ns)]=.rt (.pv (.bl true)) S':=by
 have hr:∀k:AR,dW [.lst (li k)] 0 k:=λ_=>rfl;obtain⟨hs,n1,e1,l1,r1⟩:=Uy hn (M:=3) (by decide) ns;have e1:qM [.ref 0,.pv (.int (n:Int)),.pv (.int 3)] [.lst (li ns)]=_:=e1;obtain⟨fs,n2,e2,l2,r2⟩:=Zz hn n1;obtain⟨gs,n3,e3,l3,r3⟩:=aaZ hn n2 l2 r2 r1 (by omega);obtain⟨ps,n4,e4,_,s4,l4,p4⟩:=Pb hn (k:=194) (by decide) n3 r3 (by omega);have e4:kF [.ref 0,.pv (.lst (gs.map px))] [.lst (li n3)]=.ok (.ref 1) [.lst (li n4),.lst (ps.map px)]:=e4;obtain⟨rs,n5,e5,r5,f5⟩:=Q9 hn true n4 s4 (by omega);have lr:rs.length=ps.length:=by rw[<-f5,aj]
 obtain⟨os,n6,e6,_,s6,l6,p6⟩:=Pb hn (k:=194) (by decide) n5 r3 (by omega);have e6:kF [.ref 0,.pv (.lst (gs.map px))] [.lst (li n5)]=.ok (.ref 1) [.lst (li n6),.lst (os.map px)]:=e6;have e7:=O4 hn [.lst (li n6)] r5 (by decide);obtain⟨ts,n7,e8,_,s8,l8,p8⟩:=Pb hn (k:=495) (by decide) n6 (hs:=rs.map eY) (λu hu=>by
  obtain⟨r,hr,rfl⟩:=ia.mp hu;exact Kf hn (r5 r hr).way (r5 r hr).sx (r5 r hr).gu (by decide)) (by rw[aj];omega)
 rw[aj]at l8 p8;have e8:kF [.ref 0,.pv (.lst ((rs.map eY).map px))] [.lst (li n6)]=.ok (.ref 1) [.lst (li n7),.lst (ts.map px)]:=e8;obtain⟨t,n8,e9,t0,t1',_⟩:=fX (m:=6) (hr n7) (by decide) (gO (by decide) (by decide));have e9:cE [.ref 0,.pv (.int 6)] [.lst (li n7)]=.ok (.pv (.int t)) [.lst (li n8)]:=e9;have am0:Am n rs os ts:=⟨λr hr=>⟨(r5 r hr).sx,(r5 r hr).way,(r5 r hr).gu.mono (by decide)⟩,λu hu=>(s6 u hu).mono (by decide),λu hu=>(s8 u hu).mono (by decide),by omega,by omega,by omega⟩;obtain⟨w,hw,tw⟩:∃w:Int,(rs.length=0->¬1<w)/\(bW (bH (aC cT (mR cV (aB (aA 4) aD)) (mC (.int 0)))) (aQ 7 (mC (.int 0))) cY) (rh x0 n (oL (gs.map px)) (oL (rs.map rv)) (oL (os.map px)) (oL (ts.map px)) (some (.pv (.int t))) none none) [.lst (li n8)]=.nx (rh x0 n (oL (gs.map px)) (oL (rs.map rv)) (oL (os.map px)) (oL (ts.map px)) (some (.pv (.int w))) none none) [.lst (li n8)]:=by
  by_cases z:rs.length=0
  .refine⟨0,λ_=>by decide,?_⟩
   have z':(rs.map rv).length=0:=by rw[aj];exact z
   clear am0 e3 e4 e5 e6 e7 e8;generalize (n:Int)=N,ts.map px=TL,os.map px=OL,gs.map px=GL,rs.map rv=RL at *;simp! [bC,aO,aN,aL,aM,aF,aK,rh,oL,z']
  .refine⟨t,λq=>absurd q z,?_⟩
   have z':(((rs.map rv).length:Int)==0)=false:=by rw[aj];simpa using z
   clear am0 e3 e4 e5 e6 e7 e8;generalize (n:Int)=N,ts.map px=TL,os.map px=OL,gs.map px=GL,rs.map rv=RL at *;simp! [bC,aO,aN,aL,aM,aF,aK,rh,oL,z']
 obtain⟨rs',hs',gs',n9,am,ta⟩:∃(rs':List Rr)(hs' gs':AT)(n9:AR),Am n rs' hs' gs'/\(bW (bH (aC eJ (aA 7) (mC (.int 1)))) (mJ (gT 3 (bO (gN 4) (bO (gN 5) (bO (gN 6) dE)))) (aJ mQ [] (aB (aA 1) (aB (aA 7) (aB (aA 4) (aB (aA 5) (aB (aA 6) aD))))))) cY) (rh x0 n (oL (gs.map px)) (oL (rs.map rv)) (oL (os.map px)) (oL (ts.map px)) (some (.pv (.int w))) none none) [.lst (li n8)]=.nx (rh x0 n (oL (gs.map px)) (oL (rs'.map rv)) (oL (hs'.map px)) (oL (gs'.map px)) (some (.pv (.int w))) none none) [.lst (li n9)]:=by
  by_cases z:1<w
  .obtain⟨rs',hs',gs',n9,e,am⟩:=L0 hn n8 w r5 am0.2.1 am0.2.2.1 (by omega) (by omega) (by omega) (by omega) (by omega) (by omega)
   refine⟨rs',hs',gs',n9,am,?_⟩;clear am am0 tw e3 e4 e5 e6 e7 e8;generalize rs'.map rv=RL' at *;generalize hs'.map px=HL' at *;generalize gs'.map px=GL' at *;generalize (n:Int)=N,ts.map px=TL,os.map px=OL,gs.map px=GL,rs.map rv=RL at *;simp! [bC,aO,aN,aL,aM,aF,aK,rh,oL,z,e,mJ,gT,bO,dE,gN]
  .refine⟨rs,os,ts,n8,am0,?_⟩
   clear am0 tw e3 e4 e5 e6 e7 e8;generalize (n:Int)=N,ts.map px=TL,os.map px=OL,gs.map px=GL,rs.map rv=RL at *;simp! [bC,aO,aN,aL,aM,aF,aK,rh,oL,z]
 obtain⟨S',t8⟩:=ady hn x0 (oL (gs.map px)) (some (.pv (.int w))) am n9;refine⟨S',?_⟩;clear am am0 r1 r2 r3 r5 s4 s6 s8 f5 hw;generalize rs'.map rv=RL' at *;generalize hs'.map px=HL' at *;generalize gs'.map px=GL' at *;generalize (n:Int)=N,fs.map fv=FL,hs.map dF=HL,ts.map px=TL,os.map px=OL,ps.map px=PL,gs.map px=GL,rs.map rv=RL,(rs.map eY).map px=ML at *;unfold yR;apply sq;simp! [bC,aO,aN,aL,aM,aF,aK,rh,e1,e2,e3];exact⟨rfl,rfl⟩;apply sq;simp! [bC,aO,aN,aL,aM,aF,aK,e4,e5];exact⟨rfl,rfl⟩;apply sq;simp! [bC,aO,aN,aL,aM,aF,aK,e6];exact⟨rfl,rfl⟩;apply sq;simp! [bC,aO,aN,aL,aM,aF,aK,e7,e8];exact⟨rfl,rfl⟩;apply sq;simp! [bC,aO,aN,aL,aM,aF,aK,e9];exact⟨rfl,rfl⟩;refine sq tw (sq ta ?_);exact t8
theorem T8(ns:AR)(h:ns.length<=63):∃S,Hg [.pv (.lst (ns.map .int))] []=.ok (.pv (.bl true)) S:=by
 obtain⟨ms,e0,_⟩:=acY ns [] h;have e0:rK [.pv (.lst (ns.map .int))] []=.ok (.ref 0) [.lst (li ms)]:=e0;obtain⟨d,n1,e1,d0,d1,_⟩:=fX (m:=2) (show dW [.lst (li ms)] 0 ms from rfl) (by decide) (gO (by decide) (by decide));have e1:cE [.ref 0,.pv (.int 2)] [.lst (li ms)]=.ok (.pv (.int d)) [.lst (li n1)]:=e1;obtain⟨n,en,hn⟩:∃n:Nat,2+d=(n:Int)/\(n=2\/n=3):=⟨(2+d).toNat,by omega,by omega⟩;have a2:aF (.int 2) (.int d)=some (.int n):=by rw[aF,en]
 obtain⟨S',ew⟩:=adH hn n1 (some (.pv (.lst (ns.map .int))));have hb:Lg=(aG (aQ 1 (rH rK [] (aB (aA 0) aD))) (aG (aQ 2 (aC aF (mC (.int 2)) (aJ cE [] (aB (aA 1) (aB (mC (.int 2)) aD))))) yR)):=rfl;refine⟨[],?_⟩;generalize (n:Int)=N,ns.map PV.int=NL at *;unfold Hg aR;rw[hb];generalize yR=WB at *;simp! [bC,aO,aN,aL,aM,aK,e0,e1,a2,ew]
theorem hF_k{K:ag}{x:Str}{st:Stmt}{f:Addr}{oc:Value}{od an:AX}{osl:Array AW}{kV doc pm cdv ct:Value}(a:dr K mainGlobals x=some (some (.ref f)):=by k_is)(l:K.lookup f=some ⟨oc,od,.func (fi x x (gR st) (eI st) (bX st) .none kV doc pm an cdv ct),osl⟩:=by k_is)(c:jz K cdv x=true:=by k_is)(k:fu K (.ref f)=true:=by k_is):HF K x st:=adk a l c k
theorem all_mk{l:om}{w:aq}{K:ag}{h:Heap}{mg:Str->AW}{fa:Addr}(X:K.In h)(G:h.Ns mainGlobals mg)(hfa:mg "law"=some (.ref fa))
  (h41:HF K "_law_row" Vs)
  (h42:HF K "_law_take" Ls)
  (h43:HF K "_law_gcd" Pu)
  (h44:HF K "_law_lowest" Zk)
  (h67:HF K "_law_far" Du)
  (h50:HF K "_law_dot" Nt)
  (h49:HF K "_law_cross" Wn)
  (h51:HF K "_law_turn" Qs)
  (h48:HF K "_law_gap" Qu)
  (h52:HF K "_law_det" Wt)
  (h53:HF K "_law_simplex" Sj)
  (h47:HF K "_law_joined" Im)
  (h69:HF K "_law_spot" Ms)
  (h70:HF K "_law_laid" Es)
  (h46:HF K "_law_frac" Ur)
  (h68:HF K "_law_stretch" Yj)
  (h64:HF K "_law_raw_turn" Kj)
  (h63:HF K "_law_raw" Dt)
  (h65:HF K "_law_kuhn" Er)
  (h66:HF K "_law_raw_heap" Ej)
  (h74:HF K "_law_moves" Io)
  (h72:HF K "_law_split" Ro)
  (h73:HF K "_law_parted" Hl)
  (h61:HF K "_law_gone" Cr)
  (h75:HF K "_law_there" Tn)
  (h76:HF K "_law_amiss" Lo)
  (h45:HF K "_law_upward" Bl)
  (h54:HF K "_law_flat_line" Zi)
  (h58:HF K "_law_put" Et)
  (h55:HF K "_law_space_line" Ri)
  (h57:HF K "_law_shuts" Qp)
  (h56:HF K "_law_plane" Ao)
  (h59:HF K "_law_mark" Kr)
  (h60:HF K "_law_same" Rs)
  (h62:HF K "_law_leads" Ym)
  (h30:HF K "is_push" Vm)
  (h23:HF K "walls" Cs)
  (h6:HF K "divisor" Il)
  (h7:HF K "reduced" Pm)
  (h5:HF K "sign" Hu)
  (h8:HF K "lowest_way" Wi)
  (h16:HF K "normal" Dn)
  (h14:HF K "whole_arrow" Oi)
  (h25:HF K "plane_way" Jj)
  (h26:HF K "sides" Tr)
  (h27:HF K "put_wall" Xj)
  (h28:HF K "same" Eu)
  (h35:HF K "comes_of" Sk)
  (h15:HF K "dot" Vu)
  (h17:HF K "determinant" Qi)
  (h18:HF K "side" Yt)
  (h22:HF K "simplex" Fl)
  (h11:HF K "added" Wq)
  (h13:HF K "turned" Xo)
  (h12:HF K "lessened" Uj)
  (h31:HF K "moved_point" Ui)
  (h32:HF K "moved" Lr)
  (h36:HF K "moved_piece" Vi)
  (h37:HF K "goes_to" Em)
  (h71:HF K "_law_handed" Dl)
  (h33:HF K "undone" Uo)
  (h38:HF K "back" Vt)
  {f10:Addr}{od10 an10:AX}{sl10:Array AW}{oc10 kV10 dc10 pm10 cd10 ct10:Value}
  {T10:Addr}{tc10:Value}{td10:AX}{tl10:Array AW}{tn10:Nat}{tt10:dh}
  (a10:dr K mainGlobals "point"=some (some (.ref f10)))(l10:K.lookup f10=some ⟨oc10,od10,.func (fi "point" "point" (gR uA) (eI uA) (bX uA) (.ref T10) kV10 dc10 pm10 an10 cd10 ct10),sl10⟩)(c10:jz K cd10 "point"=true)(k10:fu K (.ref f10)=true)
  (t10:K.lookup T10=some ⟨tc10,td10,.seq #[.int 1 tt10] tn10,tl10⟩)
  {f39:Addr}{od39 an39:AX}{sl39:Array AW}{oc39 kV39 dc39 pm39 cd39 ct39:Value}
  {T39:Addr}{tc39:Value}{td39:AX}{tl39:Array AW}{tn39:Nat}
  (a39:dr K mainGlobals "leads"=some (some (.ref f39)))(l39:K.lookup f39=some ⟨oc39,od39,.func (fi "leads" "leads" (gR tR) (eI tR) (bX tR) (.ref T39) kV39 dc39 pm39 an39 cd39 ct39),sl39⟩)(c39:jz K cd39 "leads"=true)(k39:fu K (.ref f39)=true)
  (t39:K.lookup T39=some ⟨tc39,td39,.seq #[.bool false] tn39,tl39⟩)
  {f77:Addr}{od77 an77:AX}{sl77:Array AW}{oc77 kV77 dc77 pm77 cd77 ct77:Value}
  (a77:dr K mainGlobals "law"=some (some (.ref f77)))(l77:K.lookup f77=some ⟨oc77,od77,.func (fi "law" "law" (gR oH) (eI oH) (bX oH) .none kV77 dc77 pm77 an77 cd77 ct77),sl77⟩)(c77:jz K cd77 "law"=true)(k77:fu K (.ref f77)=true)
  (z1:dr K mainGlobals "abs"=some none)
  (z2:dr K mainGlobals "all"=some none)
  (z3:dr K mainGlobals "any"=some none)
  (z4:dr K mainGlobals "bool"=some none)
  (z5:dr K mainGlobals "enumerate"=some none)
  (z6:dr K mainGlobals "int"=some none)
  (z7:dr K mainGlobals "isinstance"=some none)
  (z8:dr K mainGlobals "len"=some none)
  (z9:dr K mainGlobals "list"=some none)
  (z10:dr K mainGlobals "range"=some none)
  (z11:dr K mainGlobals "sorted"=some none)
  (z12:dr K mainGlobals "sum"=some none)
  (z13:dr K mainGlobals "tuple"=some none)
  (z14:dr K mainGlobals "zip"=some none)
  {C1 C2:Addr}
  (y1:dr K mainGlobals "Flat"=some (some (.ref C1)))(x1:ke K C1 oB "ValueError.__new__"=true)
  (y2:dr K mainGlobals "NoPoint"=some (some (.ref C2)))(x2:ke K C2 oB "ValueError.__new__"=true)
  {gk1:dh}
  {gk2:dh}
  {GA2:Addr}{gd2:AX}{gn2:Nat}{gs2:Array AW}
  {gk3:dh}
  {gk4:dh}
  {GA3:Addr}{gd3:AX}{gn3:Nat}{gs3:Array AW}
  {gk5:dh}
  {gk6:dh}
  {GA4:Addr}{gd4:AX}{gn4:Nat}{gs4:Array AW}
  {GA1:Addr}{gd1:AX}{gn1:Nat}{gs1:Array AW}
  {gk7:dh}
  {gk8:dh}
  {gk9:dh}
  {GA6:Addr}{gd6:AX}{gn6:Nat}{gs6:Array AW}
  {gk10:dh}
  {gk11:dh}
  {gk12:dh}
  {GA7:Addr}{gd7:AX}{gn7:Nat}{gs7:Array AW}
  {gk13:dh}
  {gk14:dh}
  {gk15:dh}
  {GA8:Addr}{gd8:AX}{gn8:Nat}{gs8:Array AW}
  {gk16:dh}
  {gk17:dh}
  {gk18:dh}
  {GA9:Addr}{gd9:AX}{gn9:Nat}{gs9:Array AW}
  {GA5:Addr}{gd5:AX}{gn5:Nat}{gs5:Array AW}
  (v1:dr K mainGlobals "FLAT_WALLS"=some (some (.ref GA1)))
  (v2:dr K mainGlobals "SPACE_WALLS"=some (some (.ref GA5)))
  (vl1:K.lookup GA1=some ⟨.type "tuple",gd1,.seq #[.ref GA2,.ref GA3,.ref GA4] gn1,gs1⟩)
  (vl2:K.lookup GA2=some ⟨.type "tuple",gd2,.seq #[.int 0 gk1,.int 1 gk2] gn2,gs2⟩)
  (vl3:K.lookup GA3=some ⟨.type "tuple",gd3,.seq #[.int 1 gk3,.int 2 gk4] gn3,gs3⟩)
  (vl4:K.lookup GA4=some ⟨.type "tuple",gd4,.seq #[.int 2 gk5,.int 0 gk6] gn4,gs4⟩)
  (vl5:K.lookup GA5=some ⟨.type "tuple",gd5,.seq #[.ref GA6,.ref GA7,.ref GA8,.ref GA9] gn5,gs5⟩)
  (vl6:K.lookup GA6=some ⟨.type "tuple",gd6,.seq #[.int 1 gk7,.int 2 gk8,.int 3 gk9] gn6,gs6⟩)
  (vl7:K.lookup GA7=some ⟨.type "tuple",gd7,.seq #[.int 0 gk10,.int 3 gk11,.int 2 gk12] gn7,gs7⟩)
  (vl8:K.lookup GA8=some ⟨.type "tuple",gd8,.seq #[.int 0 gk13,.int 1 gk14,.int 3 gk15] gn8,gs8⟩)
  (vl9:K.lookup GA9=some ⟨.type "tuple",gd9,.seq #[.int 0 gk16,.int 2 gk17,.int 1 gk18] gn9,gs9⟩)
  :∃fd:cf,(∀(s:aa)(v:Value),oi s fd ⟨[v],[]⟩ [("_law_script",v)])/\∀base:Heap,K.In base->base.Ns mainGlobals mg->eG l.prog w K mg base eL 11 fa fd ["_law_script"] (yN K):=by
 let cl:Str->Addr:=λn=>if n="Flat" then C1 else if n="NoPoint" then C2 else 0
 have e:=hfa.symm.trans (lb X G a77);cases e;have F10:=Dq (st:=uA) l10 c10 k10 t10 rfl;have b10:=F10.binds (ps:=["numbers","bottom"]) (dd:=[]) λ_ _ _ _ _ _ _ us hl=>match us,hl with |[_,_],_=>⟨_,rfl,rfl⟩
 have n10:=lb X G a10;have F39:=Dq (st:=tR) l39 c39 k39 t39 rfl;have b39:=F39.binds (ps:=["cutting","one","other","pushes"]) (dd:=[]) λ_ _ _ _ _ _ _ us hl=>match us,hl with |[_,_,_,_],_=>⟨_,rfl,rfl⟩
 have n39:=lb X G a39;have bD39:=F39.binds (ps:=["cutting","one","other","pushes"]) (dd:=[.bool false]) λ_ _ _ _ _ _ _ us hl=>match us,(show us.length=3 by simpa using hl)with |[_,_,_],_=>⟨_,rfl,rfl⟩
 have F77:=Ut (st:=oH) l77 c77 k77;have m:Mg mg:=⟨jd X G z1,jd X G z2,jd X G z3,jd X G z4,jd X G z5,jd X G z6,jd X G z7,jd X G z8,jd X G z9,jd X G z10,jd X G z11,jd X G z12,jd X G z13,jd X G z14⟩;have gt_FLAT_WALLS:vI K mg "FLAT_WALLS" (.tup [.tup [.int 0,.int 1],.tup [.int 1,.int 2],.tup [.int 2,.int 0]]):=⟨_,.ref GA1,lb X G v1,rfl,(mS (vs:=[.ref GA2,.ref GA3,.ref GA4]) vl1 (by show 3<=gg;decide) (.cons rfl (.cons rfl (.cons rfl .nil))) (by show 3<=gg;decide) (fI (mS (vs:=[.int 0,.int 1]) vl2 (by show 2<=gg;decide) (.cons ⟨_,rfl⟩ (.cons ⟨_,rfl⟩ .nil)) (by show 2<=gg;decide) (fI hV (fI hV mX))) (fI (mS (vs:=[.int 1,.int 2]) vl3 (by show 2<=gg;decide) (.cons ⟨_,rfl⟩ (.cons ⟨_,rfl⟩ .nil)) (by show 2<=gg;decide) (fI hV (fI hV mX))) (fI (mS (vs:=[.int 2,.int 0]) vl4 (by show 2<=gg;decide) (.cons ⟨_,rfl⟩ (.cons ⟨_,rfl⟩ .nil)) (by show 2<=gg;decide) (fI hV (fI hV mX))) mX))))⟩;have gt_SPACE_WALLS:vI K mg "SPACE_WALLS" (.tup [.tup [.int 1,.int 2,.int 3],.tup [.int 0,.int 3,.int 2],.tup [.int 0,.int 1,.int 3],.tup [.int 0,.int 2,.int 1]]):=⟨_,.ref GA5,lb X G v2,rfl,(mS (vs:=[.ref GA6,.ref GA7,.ref GA8,.ref GA9]) vl5 (by show 4<=gg;decide) (.cons rfl (.cons rfl (.cons rfl (.cons rfl .nil)))) (by show 4<=gg;decide) (fI (mS (vs:=[.int 1,.int 2,.int 3]) vl6 (by show 3<=gg;decide) (.cons ⟨_,rfl⟩ (.cons ⟨_,rfl⟩ (.cons ⟨_,rfl⟩ .nil))) (by show 3<=gg;decide) (fI hV (fI hV (fI hV mX)))) (fI (mS (vs:=[.int 0,.int 3,.int 2]) vl7 (by show 3<=gg;decide) (.cons ⟨_,rfl⟩ (.cons ⟨_,rfl⟩ (.cons ⟨_,rfl⟩ .nil))) (by show 3<=gg;decide) (fI hV (fI hV (fI hV mX)))) (fI (mS (vs:=[.int 0,.int 1,.int 3]) vl8 (by show 3<=gg;decide) (.cons ⟨_,rfl⟩ (.cons ⟨_,rfl⟩ (.cons ⟨_,rfl⟩ .nil))) (by show 3<=gg;decide) (fI hV (fI hV (fI hV mX)))) (fI (mS (vs:=[.int 0,.int 2,.int 1]) vl9 (by show 3<=gg;decide) (.cons ⟨_,rfl⟩ (.cons ⟨_,rfl⟩ (.cons ⟨_,rfl⟩ .nil))) (by show 3<=gg;decide) (fI hV (fI hV (fI hV mX)))) mX)))))⟩;refine⟨fi "law" "law" (gR oH) (eI oH) (bX oH) .none kV77 dc77 pm77 an77 cd77 ct77,λs v=>.of_eq rfl,λbase _ _=>?_⟩
 let B:Bx:=⟨l.prog,w,K,mg,base,cl⟩
 have Xg:XG B.K B.mg:=⟨h,X,G⟩;have m:Mg B.mg:=m;have q_Flat:B.mg "Flat"=some (.ref (B.cl "Flat")):=lb X G y1;have x_Flat:ke B.K (B.cl "Flat") oB "ValueError.__new__"=true:=x1;have q_NoPoint:B.mg "NoPoint"=some (.ref (B.cl "NoPoint")):=lb X G y2;have x_NoPoint:ke B.K (B.cl "NoPoint") oB "ValueError.__new__"=true:=x2;have C41:=aa4 Xg m h41;have C42:=Q2 Xg m h42;have C43:=aad Xg m h43;have C44:=A8 Xg m h44 C43;have C67:=aaD Xg m h67 C42 C44;have C50:=aba Xg m h50;have C49:=C4 Xg m h49;have C51:=K7 Xg m h51 C50 C49;have C48:=aaU Xg m h48;have C52:=aal Xg m h52 C51 C48;have C53:=Ry Xg m h53 C52;have C47:=Mz Xg m h47 C44;have C69:=P4 Xg m h69 C44;have C70:=Z8 Xg m h70 C67 C53 C47 C69;have C46:=P8 Xg m h46 C44;have C68:=Xy Xg m h68 C42 C46;have C64:=My Xg m h64 C51;have C63:=aaG Xg m h63 C42 C64;have C65:=Z4 Xg m h65 C42;have C66:=Ny Xg m h66 C42 C63 C65;have C74:=E8 Xg m h74 C42 C67;have C72:=I0 Xg m h72 C42 C44 C53;have C73:=Rz Xg m h73 C42 C72;have C61:=X9 Xg m h61 C53 C47;have C75:=D6 Xg m h75 C61;have C76:=D7 Xg m h76 C42 C47;have C45:=A6 Xg m h45 C44;have C54:=Dy Xg m h54 C45 C49;have C58:=abG Xg m h58;have C55:=By Xg m h55 C45 C48 C49;have C57:=K3 Xg m h57;have C56:=G4 Xg m h56 C49 C48 C45 C50;have C59:=L7 Xg m h59 C54 C58 C55 C57 C56;have C60:=W8 Xg m h60 C59;have C62:=C9 Xg m h62 C60 C61;have C30:=A7 Xg m h30;have C23:=U9 Xg m h23 gt_FLAT_WALLS gt_SPACE_WALLS;have C6:=Pz Xg m h6;have C7:=A5 Xg m h7 C6;have C5:=aay Xg m h5;have C8:=Fy Xg m h8 C7 C5;have C16:=J3 Xg m h16;have C14:=Ay Xg m h14;have C25:=Ky Xg m h25 C8 C16 C14;have C26:=T7 Xg m h26;have C27:=Cz Xg m h27 C25 C26 C8 C14;have C28:=abJ Xg m h28 C23 C27;have C35:=Wy Xg m h35;have C15:=acT Xg m h15;have C17:=Yx Xg m h17 C14 C15 C16;have C18:=aa6 Xg m h18 C5 C17;have H22:=B8 Xg m h22 C18 q_Flat x_Flat;have G10:=U7 Xg m F10 C7 C5 q_NoPoint x_NoPoint;have H10:Hn B:=Dw G10 b10 k10 n10;have C11:=M4 Xg m h11 H10;have C13:=G9 Xg m h13;have C12:=Dz Xg m h12 C11 C13;have C31:=Xx Xg m h31 C30 C11 C12;have C32:=K9 Xg m h32 H22 C31;have C36:=Wx Xg m h36 C32;have C37:=A4 Xg m h37 C36;have G39:=R7 Xg m F39 C30 C28 C35 C37;have D39:Xn B:=⟨_,_,_,_,G39,b39,bD39,.cons (show bS (.bl false) (.bool false) from rfl) .nil,Dv.bl Dv.nil,k39,n39⟩;have C71:=Jz Xg m h71 C42;have C33:=F8 Xg m h33 C30 C13;have C38:=aaB Xg m h38 C33 C36;exact(acW Xg m F77 C41 C42 C70 C68 C66 C74 C73 C75 C76 C62 D39 C71 C38).imp λvs H Q E h=>aaL T8 h
theorem walk{l:om}{q:Program}{loose:List Str}{XP:(Str->AW)->Heap->Prop}{YP:aq->Heap->Prop}{d:DefRec}{K:ny->ag}(hn:l.most=some 63)(hdf:d.params.defaults=[])
  (hY:∀(w:aq)(h:Heap),YP w h->(K w.params).In h)
  (F:∀(w:aq)(mg:Str->AW)(fa:Addr)(h:Heap),(K w.params).In h->h.Ns mainGlobals mg->mg d.name=some (.ref fa)->
   ∃fd:cf,(∀(s:aa)(u:Value),oi s fd ⟨[u],[]⟩ [("_law_script",u)])/\∀base:Heap,(K w.params).In base->base.Ns mainGlobals mg->eG l.prog w (K w.params) mg base eL 11 fa fd ["_law_script"] (yN (K w.params))):
  PySem.W.WalkO q loose XP YP l.row.toRowW d [] (λf vs=>xf f vs):=
 L2.walk_of (n:=63) (k:=11) (x:="_law_script") (CX:=λ_=>eL) (sp:=λw=>yN (K w.params)) hn (by decide) hdf ⟨rfl,by decide,by decide⟩ hY F (λ_ _ a ns hl _ hS=>⟨a,ns,rfl,hS,hl,λ_=>rfl⟩) λ_ _ _ _ _ z=>z
end
end Sc
open PySem PySem.W PyProof.Rows
set_option maxRecDepth 100000 in
set_option maxHeartbeats 0 in
theorem PySem.Challenge.cw_scissorhall_k24_leads_holds : PySem.Challenge.rw_scissorhall_k24_leads.Holds := by
 w_on; refine holds_law Sc.wsaid λsaid=>?_
 refine holds_open (q:=Sc.VW) (loose:=[cy "point",cy "leads"]) (Xt:=λs=>xlAt Sc.VW [] s && recOk (vk (vm (vn qa))) s) (XP:=XL Sc.VW []) (Yf:=vh (kHook Sc.KK Sc.KA Sc.KE)) (Ya:=vj (kHook Sc.KK Sc.KA Sc.KE)) (YP:=Hook.says (kHook Sc.KK Sc.KA Sc.KE)) (N:=5354) Sc.left (Hook.of (kHook Sc.KK Sc.KA Sc.KE)) (Hook.keeps (kHook Sc.KK Sc.KA Sc.KE)) (λs e=>xl_of s (yp.mp e).1) XL.keeps (by rfl) (by rfl) (by rfl) (λs e=>recFacts_of (yp.mp e).2) (by rfl) (by first | assumption | decide +kernel) (by decide +kernel) ⟨rfl,rfl,rfl,rfl,rfl,by decide +kernel⟩ ?hw ?hc
 case hw=>w_witness2
 k_fill
 refine Sc.walk (l:=qa) rfl rfl (λw h Y=>PySem.W.kIn_of Y) ?F
 case F =>
  intro w mg fa h KX G hmg;refine' Sc.all_mk KX G hmg Sc.hF_k Sc.hF_k Sc.hF_k Sc.hF_k Sc.hF_k Sc.hF_k Sc.hF_k Sc.hF_k Sc.hF_k Sc.hF_k Sc.hF_k Sc.hF_k Sc.hF_k Sc.hF_k Sc.hF_k Sc.hF_k Sc.hF_k Sc.hF_k Sc.hF_k Sc.hF_k Sc.hF_k Sc.hF_k Sc.hF_k Sc.hF_k Sc.hF_k Sc.hF_k Sc.hF_k Sc.hF_k Sc.hF_k Sc.hF_k Sc.hF_k Sc.hF_k Sc.hF_k Sc.hF_k Sc.hF_k Sc.hF_k Sc.hF_k Sc.hF_k Sc.hF_k Sc.hF_k Sc.hF_k Sc.hF_k Sc.hF_k Sc.hF_k Sc.hF_k Sc.hF_k Sc.hF_k Sc.hF_k Sc.hF_k Sc.hF_k Sc.hF_k Sc.hF_k Sc.hF_k Sc.hF_k Sc.hF_k Sc.hF_k Sc.hF_k Sc.hF_k Sc.hF_k Sc.hF_k Sc.hF_k Sc.hF_k ?a10 ?l10 ?c10 ?k10 ?t10 ?a39 ?l39 ?c39 ?k39 ?t39 ?a77 ?l77 ?c77 ?k77 ?z1 ?z2 ?z3 ?z4 ?z5 ?z6 ?z7 ?z8 ?z9 ?z10 ?z11 ?z12 ?z13 ?z14 ?y1 ?x1 ?y2 ?x2 ?v1 ?v2 ?vl1 ?vl2 ?vl3 ?vl4 ?vl5 ?vl6 ?vl7 ?vl8 ?vl9
  (case a10 | l10 | c10 | k10 | t10 | a39 | l39 | c39 | k39 | t39 | a77 | l77 | c77 | k77 | z1 | z2 | z3 | z4 | z5 | z6 | z7 | z8 | z9 | z10 | z11 | z12 | z13 | z14 | y1=>k_is)
  (case x1=>k_exc)
  (case y2=>k_is)
  (case x2=>k_exc)
  (case v1 | v2 | vl1 | vl2 | vl3 | vl4 | vl5 | vl6 | vl7 | vl8 | vl9=>k_is)
#print axioms PySem.Challenge.cw_scissorhall_k24_leads_holds
