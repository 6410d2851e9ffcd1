import PyProof.Rows.All
import KE.KFromBytes
import KE.KIsAll
import PyProof.EqAt
import PyProof.EqKinds
import PyProof.TupleCall
import PyProof.ZipIter
import PyProof.Draws
import PyProof.CompFree
import PyProof.NeKinds
import PyProof.NsDelKeeps
import PyProof.ExcArgsOwn
import PyProof.ExcAttrAll.ValueError
import KE.KSortTup
import PyProof.DictRoadsH
import Wide.Seal
import KE.KIntText
import PyProof.FitsReplace
import PyProof.StrWalks
import PyProof.CompMap
import KE.KDictList
import KE.RegKIsAll
import PySem.Challenge.RW_scissorhall_k31_layers_counted
set_option Elab.async false
set_option compiler.extract_closed false
set_option bootstrap.genMatcherCode false
set_option maxRecDepth 100000
set_option maxHeartbeats 0
open Array renaming length_toList->jx,toList->vk,append_assoc->yx
open Bool renaming and_eq_true->ji,false_ne_true->ng,not_eq_true'->j5,and_false->j8,false_eq_true->j9,and_eq_true_iff->AK
open Classical renaming propDecidable->nr
open False renaming elim->iz
open ForInStep renaming yield->e8
open Int renaming mul_pos->aq,gcd->ce,mul_comm->db,one_mul->iu,zero_sub->jc,le_of_lt->jd,ne_of_gt->jl,mul_le_mul_of_nonneg_right->ko,neg_mul->ky,mul_ne_zero->kz,mul_ediv_cancel_left->ni,mul_one->om,le_refl->oy,mul_zero->oz,zero_add->pf,fdiv_eq_ediv_of_dvd->ph,toNat_natCast->qs,fmod_nonneg_of_pos->qx,eq_of_mul_eq_mul_right->qy,zero_mul->rh,fmod_add_mul_fdiv->rk,natAbs_mul->sv,mul_neg->sy,mul_neg_of_pos_of_neg->td,gcd_zero_left->xb,pos_of_mul_pos_left->xc,fmod_lt_of_pos->ym,natAbs_neg->a8,emod_nonneg->c7,natCast_nonneg->c8,gcd_mul_left->c9,gcd_dvd_left->d5,gcd_dvd_right->d6,neg_mul_neg->d7,fdiv_eq_ediv_of_nonneg->d8,natCast_mul->t7,eq_one_of_dvd_one->t9,dvd_mul_of_dvd_right->v8,add_sub_cancel->w8,mul_pos_of_neg_of_neg->AG,mul_nonneg->AH,le_of_mul_le_mul_right->AI,mul_le_mul_of_nonneg_left->AJ
open List renaming length_map->aj,range->ak,getElem?_eq_getElem->au,map_cons->av,size_toArray->aw,mem_map->ax,mem_cons_of_mem->ay,zipWith->bf,length_append->bj,mem_cons_self->bo,mem_cons->cf,map_nil->cg,mem_append->ck,getElem?_eq_some_iff->cq,getD_eq_getElem?_getD->cu,length_cons->cv,set_cons_zero->cw,getD->cy,map_map->dg,getElem?_map->dj,length_zipWith->dn,length_range->dq,set_cons_succ->dw,map_append->dz,lookup_cons->ee,not_mem_nil->fe,getElem_mem->fj,getElem?_append_left->ft,length_set->fu,getElem?_set_self->gf,getElem?_append_right->gh,mem_of_getElem?->gi,getElem?_set_ne->gm,mem_append_right->gr,nil_append->ib,append_nil->ie,map_congr_left->ij,append_assoc->jf,getElem_of_mem->jo,cons_append->jq,mem_append_left->ju,length->kh,length_take->ki,length_singleton->kj,prefix_rfl->kl,mem_singleton->km,sum_cons->kn,mem_range->kq,set_set->lh,nodup_cons->nh,toArray->nv,count_cons->ny,mem_filterMap->oo,all_eq_true->qa,length_eq_zero_iff->qd,ext_getElem?->qe,getElem_zipWith->qg,flatMap_cons->qh,getElem?_zipWith->qw,zipWith_cons_cons->qz,zipWith_nil_left->re,sum_nil->rf,map_id->tf,getElem?_take->ub,nodup_append->uc,ext_getElem->uf,min?_eq_some_iff->uh,any_cons->ui,append_inj'->ul,getElem_range->um,mem_filter->vg,filterMap_cons->vh,of_mem_zip->vz,length_drop->wo,forIn_cons->xf,forIn_nil->xj,drop_eq_getElem_cons->xu,drop_length->xw,take_length->yb,getElem_map->yf,length_pos_iff->yh,max?_eq_some_iff->yi,take_of_length_le->yl,map_set->yn,mem_flatMap->yo,Nodup->yp,pairwise_map->yq,any_eq_false->ze,replicate->zo,getElem?_replicate->zt,zipIdx_cons->i3,zipIdx_nil->i4,getElem?_eq_none->k8,getElem_toArray->k9,map_inj_right->o6,set_getElem_self->o8,eq_nil_of_length_eq_zero->t5,mem_or_eq_of_mem_set->t8,perm_middle->u4,min?_eq_none_iff->u9,max?_eq_none_iff->v7,flatMap_assoc->AC,flatMap_map->AD,map_flatMap->AE,flatMap_nil->AF
open List.Pairwise renaming imp->AA
open List.cons renaming injEq->uo
open Nat renaming le_refl->ar,lt_of_lt_of_le->df,ne_of_lt->dm,le_trans->fk,zero_le->je,sub_self->jg,lt_irrefl->jh,ne_of_gt->oj,le_of_lt->qj,le_succ->qv,lt_of_le_of_lt->sx,two_pow_pos->uk,le_of_eq->wz,pow_succ->xa,lt_succ_self->xx,lt_succ_of_lt->ya,pow_le_pow_right->a7,eq_zero_or_pos->a9,exists_eq_add_of_le->k7,le_succ_of_le->o5,min_eq_left->o7,one_le_pow->u5,le_mul_of_pos_right->u6,mul_le_mul_right->u7,mul_le_mul_left->u8
open Ne renaming symm->jb
open Option renaming isSome_iff_exists->wd,getD_none->a5,getD_some->o4
open Option.some renaming inj->cj
open Or renaming inl->gj,inr->ig
open Prod renaming ext->jr
open Prod.mk renaming inj->yu
open PyProof.Rows renaming AllBare->jm,IntsAre->ow,callWith_type1->qo,slot_tuple_getitem->sk,boot_isinstance->ue,assignInOrder_cons->vn,get?_update_seq->yd,subscriptTail_builtinR->zw
open PyProof.Rows.IsTup renaming new->rp
open PySem renaming Shared->aa,Expr->ag,wpAny_bind->ah,Pos->ai,World->am,Around->ao,Env->bh,wpAny_pure->bi,FuncData->br,IsPair->eh,NameKind->gw,IsZip->ik,wpAny_field->io,wpAny_mono->iy,Model->jw,mem_of_lookup->jy,Draws->kd,wpAny_newObj_type->ke,Keyword->kg,CmpOp->kr,wpAny_holding->ku,sizeLine_eq->kw,IsPart->kx,wpAny_seqItems->lg,Paired->mf,wpAny_passesOwn->my,Params->og,wpAny_execs_nil->oh,wpAny_rule->oi,BindsTo->ot,wpAny_call_entry->ou,wpAny_setField_rec->pk,wpAny_truthy_bool->qk,Operator->ql,PassesOwn->qm,Result->qq,codeAny_mono->qr,wpAny_callSpecial?_slot->qu,wpAny_standAt->rn,wpAny_Call_Name_kw->sf,concat_meets->si,wpAny_letGo->tq,wpAny_onRaise->tz,numAt_eq->ug,wpAny_Name->vj,wpAny_execs_cons->vm,noFill_tuple_add->we,seq_tuple_add->wg,seqIndex_of->wr,seqIndex_neg->wt,call_meets->wu,call->ww,wpAny_setField->xh,wpAny_of_eq->xi,wpAny_updateSeq_pair->xk,wpAny_attempt->xl,wpAny_pyIter_list->xn,ExcAttrFacts->xp,pushCells_keeps->yg,Within->yw,wpAny_loadName_local->yz,wpAny_loadName_cell->zb,wpAny_isTrue_Compare1->zd,wpAny_Tuple_spliced->zm,wpAny_comprehension_free->f6,codeAny_compStart_list->f7,wpAny_pyIter_tuple->i8,codeAny_call_builtin->j6,sizeLine->t6
open PySem.Builtin.Int renaming intBits->e7
open PySem.Builtin.List renaming listTooLong->su
open PySem.Builtin.ObjectAttr renaming find->AN,dataDescriptor?->AO,getOf->AQ,bindTo->AR
open PySem.Builtin.Slice renaming slicePlaces->sj,sliceAdjust->wn,sliceApplied->zu
open PySem.Builtin.SmallTypes renaming nextOf->lc,ownedTupleIsFree->tx,ownedTupleHandOut->i5
open PySem.Builtin.Tuple renaming tupleExact->sr,tupleHashOf->k4
open PySem.Calls renaming spliced_cons->vw,Name_function_global->zc,spliced_nil->zk,evalArgs_plain->a6
open PySem.Challenge renaming pw_scissorhall_k31_layers_counted->oa,rw_scissorhall_k31_layers_counted->qi
open PySem.F renaming slot_tuple_iterator_next->tm,slot_zip_next->ua,slot_tuple_add->wj,entry_tuple_add->wk,args_tuple_add_2->wm,slot_list_append->wv,excAttr_ValueError->xq,plainAttrs_list->xy,entry_tuple_iterator_next->f9,args_tuple_iterator_next_1->g7,entry_zip_next->i6,args_zip_next_1->i7,type_list_append->o0,slot_list_iadd->q9
open PySem.Heap renaming get?_push_of_some->az,lt_size->bn,get?_push_size->du,size_push->jn,SameBut->mq,get?_update_ne->ye,get?_update_self->zx,get?_update_other->zy
open PySem.Heap.SameBut renaming update->g8
open PySem.NameKind renaming cell->gv,free->ia
open PySem.Obj renaming mapSeq->ir,data_mapFields->g9
open PySem.PassesOwn renaming never->yj,leaving->yk
open PySem.SeqAt renaming EqAt->nu,RcAt->qc
open PySem.SeqAt.EqAt renaming same->ud,of_refs->m9
open PySem.SeqAt.RcAt renaming none_none->l5,bool_bool->l6,int_int->l7,str_str->l8,tuples->l9,lists->n8,lists_lengths->n9
open PySem.Str renaming ofString->dk
open PySem.Value renaming none->di,ref->dy,type->ly,int->rm,str->uz,bool->va,builtin->j7
open PySem.W renaming Frag->ae,excIn->de,nsIn->dh,fnOf->fg,keepIn->fh,kitOne->gg,kia_one->il,mg_none_of->ja,kas_sort->jk,mg_of->jp,codeIn->kb,findIn->oq,OpenLaw->ox,kHook->rl,kitAny->uj,instObj->vb,methodObj->vd,hideAll->ve,hideAll_get->vf,lookIn->vo,specialIn->vp,mroIn->vq,kitx_list->vt,looks_findIn->xo,kat_nil->yc,xlAt->yr,recOk->yt,of_hideAll->yy,plainGet->zf,hasDictIn->zg,takesIn->zh,kitx_tuple->zi,kitx_dict->zj,callWith_K->zn,cellsFrom_some->zq,kitCls->i9,kitMeta->j3,subIn->j4
open PySem.W.Hook renaming obs->uq,val->ur
open PySem.W.OpenLaw renaming row->uw,wellSaid->AM
open PySem.W.OpenRow renaming toRowW->uv
open PySem.W.RowW renaming records->uu
open Sum renaming inl->lm,inr->lq
open True renaming intro->qp
abbrev AS:=List Int
abbrev AT:=List AS
abbrev AU:=List AT
abbrev AW:=List PySem.Value
abbrev AX:=Option PySem.Value
abbrev AY:=Option PySem.Addr
abbrev AZ:=Option Int
namespace L2
open PySem
def gD(s:Stmt):Arguments:=match s with
 |.FunctionDef _ a _ _ _ _ _ _ _ _=>a
 |_=>{posonlyargs:=[],args:=[],vararg:=none,kwonlyargs:=[],kw_defaults:=[],kwarg:=none,defaults:=[]}
def eG(s:Stmt):List Stmt:=match s with
 |.FunctionDef _ _ b _ _ _ _ _ _ _=>b
 |_=>[]
def cH(s:Stmt):Scope:=match s with
 |.FunctionDef _ _ _ _ _ _ sc _ _ _=>sc
 |_=>{kind:=.function,names:=[],isGenerator:=false,isCoroutine:=false}
end L2
namespace Sc
noncomputable section
open PySem L2
def aX(i:Nat):Stmt:=oa.main.body.getD i (.Pass ⟨0,0,0,0⟩)
abbrev vs(s:String)(t:Nat):Value:=.str (dk s) t
abbrev vi(i:Int):Value:=.int i 0
abbrev vr(a:Nat):Value:=.ref a
abbrev fo(n:String)(i:Nat)(dV dc pm cd ct:Value):Obj:=⟨.type "function",none,.func (fg (dk n) (dk n) (gD (aX i)) (eG (aX i)) (cH (aX i)) dV .none dc pm none cd ct),#[]⟩
abbrev fc(l:AW):Obj:=⟨.type "code",none,.fields l.toArray,#[]⟩
abbrev Tq(n:String)(t l a r g:Nat)(x:AW):Obj:=fc (vs n t::vs n (t+1)::vs "/claim/cut.py" (t+2)::vi l::vi a::vi 0::vi 0::vi 3::vr r:: .bool true::vi g::vr (r+1):: .none::x)
abbrev fL(n:String)(t l a r g u:Nat):Obj:=Tq n t l a r g [vr (r+2),vr (r+3),vr (r+4),vi u,vi l,vs "/claim/cut.py" (u+1)]
abbrev eU(n:String)(t l a r g:Nat):Obj:=Tq n t l a r g [.none,.none,vr (r+2),vi (t+3),vi l,vs "/claim/cut.py" (t+4)]
abbrev fd(P:og)(n:Nat)(l:List (String×Nat×Value)):Obj:=⟨.type "dict",none,.dict (l.map λe=>⟨PyData.keyHash P (dk e.1),.str (dk e.1) e.2.1,e.2.2⟩).toArray n,#[]⟩
abbrev vLq:Value:=vs "law_scissorhall_k31_layers_counted" 490
abbrev fzq (n:String)(i:Nat)(m:Value)(r:Nat):Obj:=fo n i .none .none m (vr r) .none
abbrev v0q:Value:=vs "scissorhall.points" 345
abbrev v1q:Value:=vs "scissorhall.folds" 450
abbrev v2q:Value:=vs "scissorhall.lowest" 303
noncomputable def KK(P:og):ae:=
 (nat_lit 3,fd P 68 [("__name__",165,vs "law_scissorhall_k31_layers_counted" 490),("__doc__",166,.none),("__package__",167,.none),("__loader__",168,(.builtin "__main__.__loader__#opaque")),("__spec__",169,.none),("__annotations__",170,vr 6),("__builtins__",171,vr 4),("__file__",173,vs "/claim/cut.py" 172),("__cached__",174,.none),("HallError",206,vr 24),("NoNumber",222,vr 37),("NoPoint",238,vr 49),("OnSide",254,vr 61),("NotSame",270,vr 73),("OtherSize",286,vr 85),("NoBox",302,vr 97),("sign",311,vr 106),("divisor",320,vr 113),("reduced",326,vr 118),("fraction",336,vr 126),("divided",344,vr 133),("point",353,vr 139),("measures",359,vr 144),("point_at",365,vr 149),("added",371,vr 154),("lessened",379,vr 161),("turned",385,vr 166),("whole_arrow",391,vr 171),("dot",397,vr 176),("normal",406,vr 183),("determinant",412,vr 188),("side",419,vr 195),("replaced",430,vr 202),("standing",436,vr 207),("count_at",449,vr 214),("in_steps",457,vr 219),("folded",463,vr 224),("in_first_cell",469,vr 229),("spots_over",475,vr 234),("layers",489,vr 241),("_law_row",504,vr 248),("_law_take",513,vr 255),("_law_gcd",521,vr 262),("_law_lowest",527,vr 267),("_law_whole",534,vr 274),("_law_frac",542,vr 281),("_law_joined",548,vr 286),("_law_gap",554,vr 291),("_law_cross",565,vr 298),("_law_dot",571,vr 303),("_law_turn",578,vr 310),("_law_det",584,vr 315),("_law_simplex",592,vr 322),("_law_raw",598,vr 327),("_law_raw_turn",604,vr 332),("_law_kuhn",616,vr 339),("_law_raw_heap",628,vr 346),("_law_far",634,vr 351),("_law_stretch",645,vr 358),("_law_spot",651,vr 363),("_law_laid",657,vr 368),("_law_handed",665,vr 375),("_law_standing",677,vr 382),("_law_arrows",683,vr 387),("_law_layers",689,vr 392),("_law_over",695,vr 397),("_law_asked",706,vr 404),("law",712,vr 409)])::
 (nat_lit 23,fd P 3 [("__module__",196,vs "scissorhall.errors" 187),("__firstlineno__",200,(.int 2 199)),("__static_attributes__",201,vr 22),("__weakref__",203,vr 25),("__doc__",204,.none)])::
 (nat_lit 24,⟨(.type "type"),none,.cls {name:="HallError",bases:=[(.type "ValueError")],mro:=[vr 24,(.type "ValueError"),(.type "Exception"),(.type "BaseException"),(.type "object")],ns:=23,qualname:="HallError",hasDict:=true,subclasses:=[vr 37,vr 49,vr 61,vr 73,vr 85,vr 97]},#[some (vr 15),none,some (vs "HallError" 189),some (vs "HallError" 197),some (.builtin "ValueError.__new__"),some (.bool true)]⟩)::
 (nat_lit 36,fd P 2 [("__module__",214,vs "scissorhall.errors" 187),("__firstlineno__",218,(.int 4 217)),("__static_attributes__",219,vr 35),("__doc__",220,.none)])::
 (nat_lit 37,⟨(.type "type"),none,.cls {name:="NoNumber",bases:=[vr 24],mro:=[vr 37,vr 24,(.type "ValueError"),(.type "Exception"),(.type "BaseException"),(.type "object")],ns:=36,qualname:="NoNumber",hasDict:=true,subclasses:=[]},#[some (vr 28),none,some (vs "NoNumber" 207),some (vs "NoNumber" 215),some (.builtin "ValueError.__new__"),some (.bool true)]⟩)::
 (nat_lit 48,fd P 2 [("__module__",230,vs "scissorhall.errors" 187),("__firstlineno__",234,(.int 6 233)),("__static_attributes__",235,vr 47),("__doc__",236,.none)])::
 (nat_lit 49,⟨(.type "type"),none,.cls {name:="NoPoint",bases:=[vr 24],mro:=[vr 49,vr 24,(.type "ValueError"),(.type "Exception"),(.type "BaseException"),(.type "object")],ns:=48,qualname:="NoPoint",hasDict:=true,subclasses:=[]},#[some (vr 40),none,some (vs "NoPoint" 223),some (vs "NoPoint" 231),some (.builtin "ValueError.__new__"),some (.bool true)]⟩)::
 (nat_lit 60,fd P 2 [("__module__",246,vs "scissorhall.errors" 187),("__firstlineno__",250,(.int 8 249)),("__static_attributes__",251,vr 59),("__doc__",252,.none)])::
 (nat_lit 61,⟨(.type "type"),none,.cls {name:="OnSide",bases:=[vr 24],mro:=[vr 61,vr 24,(.type "ValueError"),(.type "Exception"),(.type "BaseException"),(.type "object")],ns:=60,qualname:="OnSide",hasDict:=true,subclasses:=[]},#[some (vr 52),none,some (vs "OnSide" 239),some (vs "OnSide" 247),some (.builtin "ValueError.__new__"),some (.bool true)]⟩)::
 (nat_lit 72,fd P 2 [("__module__",262,vs "scissorhall.errors" 187),("__firstlineno__",266,(.int 10 265)),("__static_attributes__",267,vr 71),("__doc__",268,.none)])::
 (nat_lit 73,⟨(.type "type"),none,.cls {name:="NotSame",bases:=[vr 24],mro:=[vr 73,vr 24,(.type "ValueError"),(.type "Exception"),(.type "BaseException"),(.type "object")],ns:=72,qualname:="NotSame",hasDict:=true,subclasses:=[]},#[some (vr 64),none,some (vs "NotSame" 255),some (vs "NotSame" 263),some (.builtin "ValueError.__new__"),some (.bool true)]⟩)::
 (nat_lit 84,fd P 2 [("__module__",278,vs "scissorhall.errors" 187),("__firstlineno__",282,(.int 12 281)),("__static_attributes__",283,vr 83),("__doc__",284,.none)])::
 (nat_lit 85,⟨(.type "type"),none,.cls {name:="OtherSize",bases:=[vr 24],mro:=[vr 85,vr 24,(.type "ValueError"),(.type "Exception"),(.type "BaseException"),(.type "object")],ns:=84,qualname:="OtherSize",hasDict:=true,subclasses:=[]},#[some (vr 76),none,some (vs "OtherSize" 271),some (vs "OtherSize" 279),some (.builtin "ValueError.__new__"),some (.bool true)]⟩)::
 (nat_lit 96,fd P 2 [("__module__",294,vs "scissorhall.errors" 187),("__firstlineno__",298,(.int 14 297)),("__static_attributes__",299,vr 95),("__doc__",300,.none)])::
 (nat_lit 97,⟨(.type "type"),none,.cls {name:="NoBox",bases:=[vr 24],mro:=[vr 97,vr 24,(.type "ValueError"),(.type "Exception"),(.type "BaseException"),(.type "object")],ns:=96,qualname:="NoBox",hasDict:=true,subclasses:=[]},#[some (vr 88),none,some (vs "NoBox" 287),some (vs "NoBox" 295),some (.builtin "ValueError.__new__"),some (.bool true)]⟩)::
 (nat_lit 105,fL "sign" 305 17 1 100 181 309)::
 (nat_lit 106,fzq "sign" 9 v2q 105)::
 (nat_lit 112,fL "divisor" 312 23 2 107 181 318)::
 (nat_lit 113,fzq "divisor" 10 v2q 112)::
 (nat_lit 117,eU "reduced" 321 29 1 114 181)::
 (nat_lit 118,fzq "reduced" 11 v2q 117)::
 (nat_lit 119,⟨.type "tuple",none,.seq #[(.int 1 327)] 0,#[]⟩)::
 (nat_lit 125,fL "fraction" 328 34 2 120 181 334)::
 (nat_lit 126,fo "fraction" 12 (vr 119) .none v2q (vr 125) .none)::
 (nat_lit 132,fL "divided" 337 39 2 127 181 342)::
 (nat_lit 133,fzq "divided" 13 v2q 132)::
 (nat_lit 134,⟨.type "tuple",none,.seq #[(.int 1 347)] 0,#[]⟩)::
 (nat_lit 138,eU "point" 348 42 2 135 181)::
 (nat_lit 139,fo "point" 15 (vr 134) .none v0q (vr 138) .none)::
 (nat_lit 143,eU "measures" 354 46 1 140 181)::
 (nat_lit 144,fzq "measures" 16 v0q 143)::
 (nat_lit 148,eU "point_at" 360 48 1 145 181)::
 (nat_lit 149,fzq "point_at" 17 v0q 148)::
 (nat_lit 153,eU "added" 366 53 2 150 181)::
 (nat_lit 154,fzq "added" 18 v0q 153)::
 (nat_lit 160,fL "lessened" 372 56 2 155 181 377)::
 (nat_lit 161,fzq "lessened" 19 v0q 160)::
 (nat_lit 165,eU "turned" 380 58 1 162 181)::
 (nat_lit 166,fzq "turned" 20 v0q 165)::
 (nat_lit 170,eU "whole_arrow" 386 60 2 167 181)::
 (nat_lit 171,fzq "whole_arrow" 21 v0q 170)::
 (nat_lit 175,eU "dot" 392 62 2 172 181)::
 (nat_lit 176,fzq "dot" 22 v0q 175)::
 (nat_lit 182,fL "normal" 398 64 1 177 181 404)::
 (nat_lit 183,fzq "normal" 23 v0q 182)::
 (nat_lit 187,eU "determinant" 407 70 1 184 181)::
 (nat_lit 188,fzq "determinant" 24 v0q 187)::
 (nat_lit 194,fL "side" 413 73 1 189 181 417)::
 (nat_lit 195,fzq "side" 25 v0q 194)::
 (nat_lit 201,fL "replaced" 422 76 3 196 181 428)::
 (nat_lit 202,fzq "replaced" 27 (vs "scissorhall.simplexes" 420) 201)::
 (nat_lit 206,eU "standing" 431 78 2 203 181)::
 (nat_lit 207,fzq "standing" 28 (vs "scissorhall.simplexes" 420) 206)::
 (nat_lit 213,fL "count_at" 439 81 2 208 181 447)::
 (nat_lit 214,fzq "count_at" 30 (vs "scissorhall.heaps" 437) 213)::
 (nat_lit 218,eU "in_steps" 452 91 2 215 181)::
 (nat_lit 219,fzq "in_steps" 32 v1q 218)::
 (nat_lit 223,eU "folded" 458 93 2 220 181)::
 (nat_lit 224,fzq "folded" 33 v1q 223)::
 (nat_lit 228,eU "in_first_cell" 464 95 1 225 181)::
 (nat_lit 229,fzq "in_first_cell" 34 v1q 228)::
 (nat_lit 233,eU "spots_over" 470 97 2 230 181)::
 (nat_lit 234,fzq "spots_over" 35 v1q 233)::
 (nat_lit 240,fL "layers" 476 106 3 235 181 487)::
 (nat_lit 241,fzq "layers" 36 v1q 240)::
 (nat_lit 247,fL "_law_row" 492 115 1 242 181 502)::
 (nat_lit 248,fzq "_law_row" 38 vLq 247)::
 (nat_lit 254,fL "_law_take" 505 129 2 249 181 511)::
 (nat_lit 255,fzq "_law_take" 39 vLq 254)::
 (nat_lit 261,fL "_law_gcd" 514 137 2 256 181 519)::
 (nat_lit 262,fzq "_law_gcd" 40 vLq 261)::
 (nat_lit 266,eU "_law_lowest" 522 143 1 263 181)::
 (nat_lit 267,fzq "_law_lowest" 41 vLq 266)::
 (nat_lit 273,fL "_law_whole" 528 150 1 268 181 532)::
 (nat_lit 274,fzq "_law_whole" 42 vLq 273)::
 (nat_lit 280,fL "_law_frac" 535 152 2 275 181 540)::
 (nat_lit 281,fzq "_law_frac" 43 vLq 280)::
 (nat_lit 285,eU "_law_joined" 543 156 3 282 181)::
 (nat_lit 286,fzq "_law_joined" 44 vLq 285)::
 (nat_lit 290,eU "_law_gap" 549 159 2 287 181)::
 (nat_lit 291,fzq "_law_gap" 45 vLq 290)::
 (nat_lit 297,fL "_law_cross" 555 161 2 292 181 563)::
 (nat_lit 298,fzq "_law_cross" 46 vLq 297)::
 (nat_lit 302,eU "_law_dot" 566 166 2 299 181)::
 (nat_lit 303,fzq "_law_dot" 47 vLq 302)::
 (nat_lit 309,fL "_law_turn" 572 168 1 304 181 576)::
 (nat_lit 310,fzq "_law_turn" 48 vLq 309)::
 (nat_lit 314,eU "_law_det" 579 172 1 311 181)::
 (nat_lit 315,fzq "_law_det" 49 vLq 314)::
 (nat_lit 321,fL "_law_simplex" 585 174 1 316 181 590)::
 (nat_lit 322,fzq "_law_simplex" 50 vLq 321)::
 (nat_lit 326,eU "_law_raw" 593 179 3 323 181)::
 (nat_lit 327,fzq "_law_raw" 51 vLq 326)::
 (nat_lit 331,eU "_law_raw_turn" 599 186 1 328 181)::
 (nat_lit 332,fzq "_law_raw_turn" 52 vLq 331)::
 (nat_lit 338,fL "_law_kuhn" 605 188 1 333 181 614)::
 (nat_lit 339,fzq "_law_kuhn" 53 vLq 338)::
 (nat_lit 345,fL "_law_raw_heap" 617 200 3 340 181 626)::
 (nat_lit 346,fzq "_law_raw_heap" 54 vLq 345)::
 (nat_lit 350,eU "_law_far" 629 213 2 347 181)::
 (nat_lit 351,fzq "_law_far" 55 vLq 350)::
 (nat_lit 357,fL "_law_stretch" 635 219 2 352 181 643)::
 (nat_lit 358,fzq "_law_stretch" 56 vLq 357)::
 (nat_lit 362,eU "_law_spot" 646 225 2 359 181)::
 (nat_lit 363,fzq "_law_spot" 57 vLq 362)::
 (nat_lit 367,eU "_law_laid" 652 231 3 364 181)::
 (nat_lit 368,fzq "_law_laid" 58 vLq 367)::
 (nat_lit 374,fL "_law_handed" 658 237 2 369 181 663)::
 (nat_lit 375,fzq "_law_handed" 59 vLq 374)::
 (nat_lit 381,fL "_law_standing" 666 241 2 376 181 675)::
 (nat_lit 382,fzq "_law_standing" 60 vLq 381)::
 (nat_lit 386,eU "_law_arrows" 678 251 2 383 181)::
 (nat_lit 387,fzq "_law_arrows" 61 vLq 386)::
 (nat_lit 391,eU "_law_layers" 684 262 2 388 181)::
 (nat_lit 392,fzq "_law_layers" 62 vLq 391)::
 (nat_lit 396,eU "_law_over" 690 272 2 393 181)::
 (nat_lit 397,fzq "_law_over" 63 vLq 396)::
 (nat_lit 403,fL "_law_asked" 696 284 3 398 181 704)::
 (nat_lit 404,fzq "_law_asked" 64 vLq 403)::
 (nat_lit 408,eU "law" 707 291 1 405 181)::
 (nat_lit 409,fzq "law" 65 vLq 408)::[]
def KA:List Nat:=[3,23,24,36,37,48,49,60,61,72,73,84,85,96,97,105,106,112,113,117,118,119,125,126,132,133,134,138,139,143,144,148,149,153,154,160,161,165,166,170,171,175,176,182,183,187,188,194,195,201,202,206,207,213,214,218,219,223,224,228,229,233,234,240,241,247,248,254,255,261,262,266,267,273,274,280,281,285,286,290,291,297,298,302,303,309,310,314,315,321,322,326,327,331,332,338,339,345,346,350,351,357,358,362,363,367,368,374,375,381,382,386,387,391,392,396,397,403,404,408,409]
def VW:Program:={oa with main:={oa.main with body:=[aX 1,aX 2,aX 3,aX 4,aX 5,aX 6,aX 7,aX 9,aX 10,aX 11,aX 13,aX 16,aX 17,aX 18,aX 19,aX 20,aX 21,aX 22,aX 23,aX 24,aX 25,aX 27,aX 28,aX 30,aX 32,aX 33,aX 34,aX 35,aX 36,aX 38,aX 39,aX 40,aX 41,aX 42,aX 43,aX 44,aX 45,aX 46,aX 47,aX 48,aX 49,aX 50,aX 51,aX 52,aX 53,aX 54,aX 55,aX 56,aX 57,aX 58,aX 59,aX 60,aX 61,aX 62,aX 63,aX 64,aX 65]}}
theorem KE:∀P,KA=(KK P).map (·.1):=λ_=>by kernel_rfl
theorem wsaid:AM qi=true:=by kernel_rfl
open PySem.W PyProof.Rows PySem.Spec
abbrev RN(w:am):=openEnds treeTable oa w 6156
abbrev LW:=looseW VW [dk "fraction",dk "point"]
theorem aa6:∀w,(RN w).map (λs=>uq (rl KK KA KE) s)=some (ur (rl KK KA KE) w):=by
 intro w
 kernel_rfl
theorem Y5:∀w,(RN w).map (λs=>seen ((recsOf VW).map (·.name)) (ownsOf VW) [] {s with gens:=#[]})=some (expectedOf VW):=by
 intro w
 kernel_rfl
theorem aa7:∀w,(RN w).map (λs=>s.heap.bltView)=some (bltViewBooted):=by
 intro w
 kernel_rfl
theorem aaS:∀w,(RN w).map (λs=>s.heap.keysOk LW ((recsOf VW).map (·.name)) ((litsOf VW).map (·.1)) ((clssOf VW LW).map (·.name)))=some (true):=by
 intro w
 kernel_rfl
theorem aaj:∀w,(RN w).map (λs=>s.heap.accountedOkI (importedModules oa.main.body)&&(s.heap.isNs mainGlobals&&s.heap.isNs builtinsNs&&tablesOk VW s.heap)&&((λs=>yr VW [] s&&yt (uu (uv (uw qi))) s) s&&(s.gens.size==0)))=some (true):=by
 intro w
 kernel_rfl
theorem Y6:∀w,(RN w).map (λs=>tabsOk VW s)=some (true):=by
 intro w
 kernel_rfl
theorem aaI:∀w,(RN w).map (λs=>(pinSeenD VW (drecsOf VW) s,plainSeenD VW [dk "fraction",dk "point"] s,clsSeenW VW [dk "fraction",dk "point"] s))=some (pinGoodD (drecsOf VW),plainGoodD VW [dk "fraction",dk "point"],clsGoodW VW [dk "fraction",dk "point"]):=by
 intro w
 kernel_rfl
theorem aaG:∀w,(RN w).map (λs=>plainSeenE VW LW s)=some (plainGoodE VW LW):=by
 intro w
 kernel_rfl
theorem aaq:∀w,(RN w).map (λs=>wideSeen VW s)=some (wideGood VW):=by
 intro w
 kernel_rfl
theorem bz{k a n m t x g:Bool}(h:k=true)(h2:(a&&(n&&m&&t)&&(x&&g))=true):(k&&a&&n&&m&&t&&x&&g)=true:=by
 revert h h2
 cases k<;>cases a<;>cases n<;>cases m<;>cases t<;>cases x<;>cases g<;>decide
theorem abj{A B C P Q R T V Y:Type}{o:Option aa}{y:Y}{G:aa->Y}{k a n m t x g f:aa->Bool}{b:aa->B}{c:aa->C}{p:aa->P}{q:aa->Q}{r:aa->R}{u:aa->T}{v:aa->V}{b':B}{c':C}{p':P}{q':Q}{r':R}{u':T}{v':V}(hA:o.map G=some y)(hB:o.map b=some b')(hC:o.map c=some c')(hD:o.map k=some true)(hE:o.map (λs=>a s&&(n s&&m s&&t s)&&(x s&&g s))=some true)(hF:o.map f=some true)
  (hG:o.map (λs=>(p s,q s,r s))=some (p',q',r'))(hH:o.map u=some u')(hI:o.map v=some v'):o.map (λs=>((b s,c s,(k s&&a s&&n s&&m s&&t s&&x s&&g s),f s,p s,u s,q s,v s,r s),G s))=some ((b',c',true,true,p',u',q',v',r'),y):=by
 cases o with
 |none=>cases hA
 |some s=>
  have G1:=yu (cj hG);have G2:=yu G1.2;exact congrArg some (jr (jr (cj hB) (jr (cj hC) (jr (bz (cj hD) (cj hE)) (jr (cj hF) (jr G1.1 (jr (cj hH) (jr G2.1 (jr (cj hI) G2.2)))))))) (cj hA))
theorem left:LeftO oa VW [dk "fraction",dk "point"] (λs=>yr VW [] s&&yt (uu (uv (uw qi))) s) (uq (rl KK KA KE)) (ur (rl KK KA KE)) 6156:=λw=>abj (A:=Nat) (aa6 w) (Y5 w) (aa7 w) (aaS w) (aaj w) (Y6 w) (aaI w) (aaG w) (aaq w)
end
end Sc
set_option maxHeartbeats 200000
set_option Elab.async false
set_option compiler.extract_closed false
set_option bootstrap.genMatcherCode false
set_option linter.all false
set_option maxRecDepth 100000
namespace L2
open PySem PySem.Spec PyProof.Rows
abbrev gU:=Sum Int Str
def Lo:gU->Value->Bool
 |.inl k,v=>Value.isInt k v
 |.inr x,v=>Value.isStrOf x v
def abC(w:am):gU->Int
 |.inl k=>hashInt k
 |.inr x=>hashStr w x
theorem lC:∀{k:gU}{v:Value},Lo k v=true->(∃i t,k=lm i/\v=rm i t)\/(∃x t,k=lq x/\v=uz x t)
 |.inl i,v,h=>by
  obtain⟨t,e⟩:=Value.isInt_shape (k:=i) (v:=v) h;exact .inl ⟨i,t,rfl,e⟩
 |.inr x,v,h=>by
  obtain⟨t,e⟩:=Value.isStrOf_shape (x:=x) (v:=v) h;exact .inr ⟨x,t,rfl,e⟩
theorem P5(a b:Int):decide ((lm a:gU)=lm b)=(a==b):=by
 by_cases e:a=b
 .subst e;simp
 .have h:¬(lm a:gU)=lm b:=λq=>e (Sum.inl.inj q)
  rw[decide_eq_false h];exact(beq_eq_false_iff_ne.mpr e).symm
theorem S9(a b:Str):decide ((lq a:gU)=lq b)=decide (a=b):=by
 by_cases e:a=b
 .subst e;simp
 .have h:¬(lq a:gU)=lq b:=λq=>e (Sum.inr.inj q)
  rw[decide_eq_false h,decide_eq_false e]
theorem R7(a:Int)(b:Str):decide ((lm a:gU)=lq b)=false:=decide_eq_false (λq=>nomatch q)
theorem X5(a:Str)(b:Int):decide ((lq a:gU)=lm b)=false:=decide_eq_false (λq=>nomatch q)
def Fk(prog:Program)(w:am):PySem.KeyKind prog w gU where
 is:=Lo
 hash:=abC w
 inj:=λv a b ha hb=>by
  rcases lC ha with⟨i,t,rfl,rfl⟩|⟨x,t,rfl,rfl⟩
  .rcases lC hb with⟨j,u,rfl,e⟩|⟨y,u,rfl,e⟩
   .injection e with e1 _;rw[e1]
   .exact nomatch e
  .rcases lC hb with⟨j,u,rfl,e⟩|⟨y,u,rfl,e⟩
   .exact nomatch e
   .injection e with e1 _;rw[e1]
 byValue:=λk v h=>by
  rcases lC h with⟨i,t,rfl,rfl⟩|⟨x,t,rfl,rfl⟩<;>rfl
 pyHash:=λhv h=>by
  rcases lC hv with⟨i,t,rfl,rfl⟩|⟨x,t,rfl,rfl⟩
  .exact wpAny_pyHash_int h
  .exact wpAny_pyHash_str h
 eqBool:=λhu hv h=>by
  rcases lC hu with⟨i,t,rfl,rfl⟩|⟨x,t,rfl,rfl⟩
  .rcases lC hv with⟨j,u,rfl,rfl⟩|⟨y,u,rfl,rfl⟩
   .rw[P5]at h;exact wpAny_eqBool_int h
   .rw[R7]at h;exact SeqAt.EqAt.int_str i t y u _ _ _ _ h
  .rcases lC hv with⟨j,u,rfl,rfl⟩|⟨y,u,rfl,rfl⟩
   .rw[X5]at h;exact SeqAt.EqAt.str_int x t j u _ _ _ _ h
   .rw[S9]at h;exact wpAny_eqBool_str h
 «strs»:=λk x t v h=>by
  rcases lC h with⟨i,u,rfl,e⟩|⟨y,u,rfl,e⟩
  .exact nomatch e
  .injection e with e1 _
   subst e1;cases v<;>rfl
inductive V where
 |non |bl (b:Bool) |int (i:Int) |str (x:Str) |byt (b:Array UInt8) |flt (b:UInt64) |ref (a:Addr) |ty (n:String)
 deriving DecidableEq
def bY:V->Value->Prop
 |.non,u=>u=di
 |.bl b,u=>u=va b
 |.int i,u=>∃t,u=rm i t
 |.str x,u=>∃t,u=uz x t
 |.byt b,u=>∃t,u=Value.bytes b t
 |.flt b,u=>∃t,u=Value.float b t
 |.ref a,u=>u=dy a
 |.ty n,u=>u=ly n
abbrev bG:List V->AW->Prop:=mf bY
theorem bG.length{xs:List V}{us:AW}(r:bG xs us):xs.length=us.length:=Paired.length r
theorem bG.get:∀{xs:List V}{us:AW}{i:Nat}{x:V},bG xs us->xs[i]?=some x->∃u,us[i]?=some u/\bY x u
 |_,_,_,_,.nil,e=>by simp at e
 |_,_,0,_,.cons r _,e=>by simp at e;subst e;exact⟨_,rfl,r⟩
 |_,_,i+1,x,.cons _ t,e=>by
  obtain⟨u,h1,h2⟩:=bG.get (i:=i) (x:=x) t (by simpa using e);exact⟨u,by simpa using h1,h2⟩
theorem bG.set{x:V}{u:Value}(r:bY x u):∀{xs:List V}{us:AW}(i:Nat),bG xs us->bG (xs.set i x) (us.set i u)
 |_,_,_,.nil=>.nil
 |_,_,0,.cons _ t=>.cons r t
 |_,_,i+1,.cons q t=>.cons q (bG.set r i t)
theorem bG.append:∀{xs ys:List V}{us ws:AW},bG xs us->bG ys ws->bG (xs++ys) (us++ws)
 |_,_,_,_,.nil,s=>s
 |_,_,_,_,.cons r t,s=>.cons r (bG.append t s)
theorem bG.take:∀{xs:List V}{us:AW}(n:Nat),bG xs us->bG (xs.take n) (us.take n)
 |_,_,0,_=>.nil
 |_,_,_+1,.nil=>.nil
 |_,_,n+1,.cons r t=>.cons r (bG.take n t)
theorem bG.drop:∀{xs:List V}{us:AW}(n:Nat),bG xs us->bG (xs.drop n) (us.drop n)
 |_,_,0,r=>r
 |_,_,_+1,.nil=>.nil
 |_,_,n+1,.cons _ t=>bG.drop n t
def Nc:Option V->AX->Prop
 |some v,some u=>bY v u
 |none,none=>True
 |_,_=>False
def KV{κ:Type}:List (κ×V)->List (κ×Value)->Prop:=mf λ(p:κ×V) (q:κ×Value)=>p.1=q.1/\bY p.2 q.2
def kV:gU->V
 |.inl i=>.int i
 |.inr x=>.str x
inductive HO where
 /--a list -/
 |lst (xs:List V)
 /--a tuple (never changes) -/
 |tup (xs:List V)
 /--a dict whose keys are ints and texts;one whose keys are tuples of ints and texts (the empty one is both) -/
 |dK (kvs:List (gU×V)) |dT (kvs:List (List gU×V))
 /--a set of ints:its members,its size -/
 |set (S:Int->Bool) (n:Nat)
 /--an instance of the class at C,its dict at dx,its attributes -/
 |ins (C dx:Addr) (fs:List (Str×V))
 /--the dict of the instance at x -/
 |own (x:Addr)
 /--the dict of an exception -/
 |xd (fs:List (Str×V))
 /--a bound method,f of x -/
 |met (f x:Addr)
 /--a range object lo,lo+1,.. below hi -/
 |rng (lo hi:Int)
 /--a thing that is known to the object (the script;a dict while a loop walks it):read,never written while it is so -/
 |frz (o:Obj) (u:HO)
 /--a code object's table -/
 |tbl (ps:Array Value)
 /--any other thing,by what is true of its one object (a def of one's own:SetO a S n:=HO.ext λh=>..) -/
 |ext (φ:Heap->Prop)
abbrev Hp:=Addr->Option HO
def bA(H:Hp)(a:Addr)(o:HO):Hp:=λb=>if b=a then some o else H b
theorem fR{H:Hp}{a:Addr}{o:HO}:bA H a o a=some o:=by unfold bA;rw[if_pos rfl]
theorem bV{H:Hp}{a b:Addr}{o:HO}(h:b≠a):bA H a o b=H b:=by unfold bA;rw[if_neg h]
theorem fV{H:Hp}{a b:Addr}{o:HO}(h:H a=some o)(h':H b=none):a≠b:=by
 intro e;subst e;rw[h]at h';cases h'
section
variable(P:Program)(w:am)
def fN(H:Hp)(h:Heap)(a:Addr):HO->Prop
 |.lst xs=>xs.length<=sizeLine/\∃(its:AW)(n:Nat),bG xs its/\h.get? a=some {cls:=.type "list",data:=.seq its.toArray n}
 |.tup xs=>(xs.length<=sizeLine/\∃o,h.get? a=some o/\o.dict=none)/\∃its:AW,bG xs its/\IsTup h a its.toArray
 |.dK kvs=>kvs.length<=sizeLine/\(a==sysModules)=false/\∃vs,KV kvs vs/\h.DictOf (Fk P w) a vs
 |.dT kvs=>kvs.length<=sizeLine/\(a==sysModules)=false/\∃xs:List (List gU×Addr×Value),
   mf (λ(p:List gU×V) (q:List gU×Addr×Value)=>p.1=q.1/\H q.2.1=some (.tup (p.1.map kV))/\bY p.2 q.2.2) kvs xs/\
   ∃o es ep,h.get? a=some o/\o.ExactDict/\o.data=.dict es ep/\es.toList=xs.map (entryOfKey (tupleKind (Fk P w)))/\(xs.map (·.1)).Nodup
 |.set S n=>h.SetOf (intKind P w) a S n
 |.ins C dx fs=>H dx=some (.own a)/\fs.length<=1000/\dx≠a/\h.get? a=some (vb C dx)/\
   ∃mA,h.Ns1 dx mA/\(∀f,Nc (fs.lookup f) (mA f))/\yw mA (fs.map (·.1))
 |.own _=>∃o,h.get? a=some o
 |.xd fs=>∃mA,h.Ns1 a mA/\∀f,Nc (fs.lookup f) (mA f)
 |.rng lo hi=>∃t u v,h.get? a=some {cls:=.type "range",data:=.fields #[.int lo t,.int hi u,.int 1 v]}
 |.frz o u=>h.get? a=some o/\fN H h a u
 |.tbl ps=>h.get? a=some {cls:=.none,data:=.fields ps}
 |.met f x=>h.get? a=some (vd (.ref f) (.ref x))
 |.ext φ=>φ h/\(∃o,h.get? a=some o)/\∀h1 h2:Heap,φ h1->(∀o,h1.get? a=some o->h2.get? a=some o)->φ h2
def fE(H:Hp)(h:Heap):Prop:=∀a o,H a=some o->fN P w H h a o
end
section
variable{P:Program}{w:am}{H H':Hp}{h h':Heap}{a:Addr}{o:HO}
theorem fN.lt(x:fN P w H h a o):a<h.objs.size:=by
 cases o with
 |lst xs=>obtain⟨_,_,_,_,e⟩:=x;exact bn e
 |tup xs=>obtain⟨_,_,_,p⟩:=x;exact p.lt
 |dK kvs=>obtain⟨_,_,_,_,o,_,_,e,_⟩:=x;exact bn e
 |dT kvs=>obtain⟨_,_,_,_,o,_,_,e,_⟩:=x;exact bn e
 |set S n=>obtain⟨o,_,_,_,e,_⟩:=x;exact bn e
 |ins C dx fs=>obtain⟨_,_,_,e,_⟩:=x;exact bn e
 |own y=>obtain⟨_,e⟩:=x;exact bn e
 |xd fs=>obtain⟨_,⟨_,_,_,e,_⟩,_⟩:=x;exact bn e
 |rng lo hi=>obtain⟨_,_,_,e⟩:=x;exact bn e
 |frz ob u=>obtain⟨e,_⟩:=x;exact bn e
 |tbl ps=>exact bn (show h.get? a=some _ from x)
 |met f y=>exact bn (show h.get? a=some _ from x)
 |ext φ=>obtain⟨_,⟨_,e⟩,_⟩:=x;exact bn e
theorem Paired.mapP{α β:Type}{F G:α->β->Prop}:∀{l₁:List α}{l₂:List β},mf F l₁ l₂->(∀a b,F a b->G a b)->mf G l₁ l₂
 |_,_,.nil,_=>.nil
 |_,_,.cons r t,f=>.cons (f _ _ r) (Paired.mapP t f)
theorem fN.stay(x:fN P w H h a o)(k:∀b u,(b=a\/H b=some (.own a))->h.get? b=some u->h'.get? b=some u)
  (ho:∀b,H b=some (.own a)->H' b=some (.own a))(ht:∀b xs,H b=some (.tup xs)->H' b=some (.tup xs)):fN P w H' h' a o:=by
 induction o with
 |lst xs=>obtain⟨z,its,n,r,e⟩:=x;exact⟨z,its,n,r,k _ _ (.inl rfl) e⟩
 |tup xs=>obtain⟨⟨z,o9,e9,d9⟩,its,r,ob,e,c⟩:=x;exact⟨⟨z,o9,k _ _ (.inl rfl) e9,d9⟩,its,r,ob,k _ _ (.inl rfl) e,c⟩
 |dK kvs=>obtain⟨z,y,vs,r,ob,es,ep,e,c⟩:=x;exact⟨z,y,vs,r,ob,es,ep,k _ _ (.inl rfl) e,c⟩
 |dT kvs=>
  obtain⟨z,y,xs,r,ob,es,ep,e,c⟩:=x;exact⟨z,y,xs,Paired.mapP r λp q z=>⟨z.1,ht _ _ z.2.1,z.2.2⟩,ob,es,ep,k _ _ (.inl rfl) e,c⟩
 |set S n=>obtain⟨ob,es,ep,t,e,c⟩:=x;exact⟨ob,es,ep,t,k _ _ (.inl rfl) e,c⟩
 |ins C dx fs=>
  obtain⟨d,z,ne,e,mA,⟨od,es,ep,e2,c⟩,r⟩:=x;exact⟨ho _ d,z,ne,k _ _ (.inl rfl) e,mA,⟨od,es,ep,k _ _ (.inr d) e2,c⟩,r⟩
 |own y=>obtain⟨ob,e⟩:=x;exact⟨ob,k _ _ (.inl rfl) e⟩
 |xd fs=>obtain⟨mA,⟨od,es,ep,e,c⟩,r⟩:=x;exact⟨mA,⟨od,es,ep,k _ _ (.inl rfl) e,c⟩,r⟩
 |rng lo hi=>obtain⟨t,u,v,e⟩:=x;exact⟨t,u,v,k _ _ (.inl rfl) e⟩
 |frz ob u ih=>obtain⟨e,q⟩:=x;exact⟨k _ _ (.inl rfl) e,ih q⟩
 |tbl ps=>
  have e:h.get? a=some {cls:=.none,data:=.fields ps}:=x;show h'.get? a=some {cls:=.none,data:=.fields ps};exact k a _ (.inl rfl) e
 |met f y=>
  have e:h.get? a=some (vd (.ref f) (.ref y)):=x;show h'.get? a=some (vd (.ref f) (.ref y));exact k a _ (.inl rfl) e
 |ext φ=>obtain⟨p,⟨o,e⟩,st⟩:=x;exact⟨st _ _ p λo q=>k _ _ (.inl rfl) q,⟨o,k _ _ (.inl rfl) e⟩,st⟩
theorem fE.lt(x:fE P w H h)(e:H a=some o):a<h.objs.size:=(x a o e).lt
theorem fE.fresh(x:fE P w H h)(e:h.objs.size<=a):H a=none:=by
 cases q:H a with
 |none=>rfl
 |some u=>exact absurd (df (x.lt q) e) (jh _)
theorem fE.kept(x:fE P w H h)(k:∀b u,h.get? b=some u->h'.get? b=some u):fE P w H h':=λa o e=>
 (x a o e).stay (λb u _ q=>k b u q) (λ_ q=>q) λ_ _ q=>q
theorem fE.laid(x:fE P w H h)(k:∀b u,h.get? b=some u->h'.get? b=some u)(hp:h.objs.size<=a)(new:fN P w (bA H a o) h' a o):fE P w (bA H a o) h':=λb u e=>by
 have hn:=x.fresh hp
 by_cases hb:b=a
 .subst hb;rw[fR]at e;cases e;exact new
 .rw[bV hb]at e
  exact(x b u e).stay (λc v _ q=>k c v q) (λc q=>by rw[bV (fV q hn)];exact q) λc xs q=>by rw[bV (fV q hn)];exact q
end
def Rd(H:Hp)(a:Addr)(u:HO):Prop:=H a=some u\/∃o,H a=some (.frz o u)
theorem Rd.ok{P:Program}{w:am}{H:Hp}{h:Heap}{a:Addr}{u:HO}(r:Rd H a u)(x:fE P w H h):fN P w H h a u:=by
 rcases r with r |⟨o,r⟩
 .exact x a u r
 .obtain⟨_,q⟩:=x a _ r
  exact q
def xN:Option HO->Prop
 |some (.lst _)=>True
 |some (.dK _)=>True
 |some (.dT _)=>True
 |some (.set _ _)=>True
 |some (.ins _ _ _)=>True
 |some (.ext _)=>True
 |_=>False
section
variable{P:Program}{w:am}{H:Hp}{h h':Heap}{x e:Addr}{o':HO}
theorem fE.write(ok:fE P w H h)(mu:xN (H x))(he:e=x\/H e=some (.own x))(k:∀b u,b≠e->h.get? b=some u->h'.get? b=some u)(heo:∃u,h'.get? e=some u)
  (new:fN P w (bA H x o') h' x o'):fE P w (bA H x o') h':=λb u q=>by
 have nown:∀c y,H c=some (.own y)->c≠x:=λc y r z=>by subst z;rw[r]at mu;exact mu
 have ntup:∀c xs,H c=some (.tup xs)->c≠x:=λc xs r z=>by subst z;rw[r]at mu;exact mu
 by_cases hb:b=x
 .subst hb;rw[fR]at q;cases q;exact new
 .rw[bV hb]at q
  by_cases hbe:b=e
  .have q':H b=some (.own x):=by
    rcases he with z |z
    .exact absurd (hbe.trans z) hb
    .rw[hbe];exact z
   rw[q]at q';cases q';obtain⟨v,hv⟩:=heo;exact⟨v,by rw[hbe];exact hv⟩
  .refine(ok b u q).stay (λc v hc r=>k c v ?_ r) (λc r=>by rw[bV (nown c b r)];exact r) λc xs r=>by rw[bV (ntup c xs r)];exact r
   rcases hc with rfl |hc
   .exact hbe
   .rintro rfl
    rcases he with z |z
    .exact nown c b hc z
    .rw[hc]at z;cases z;exact hb rfl
end
structure Un(fs ex:List Addr)(H H':Hp)(h h':Heap):Prop where
 keep:∀b o,h.get? b=some o->H b=none->b∉fs->b∉ex->h'.get? b=some o
 slot:∀b o,h.get? b=some o->H b=none->b∈fs->b∉ex->∃sl,h'.get? b=some {o with slots:=sl}
 free:∀b o,h.get? b=some o->H b=none->b∉ex->H' b=none
 there:∀b o,h.get? b=some o->b∉ex->∃o',h'.get? b=some o'
 tups:∀b xs,H b=some (.tup xs)->H' b=some (.tup xs)
 frzs:∀b o u,H b=some (.frz o u)->H' b=some (.frz o u)
 tbls:∀b ps,H b=some (.tbl ps)->∃more,H' b=some (.tbl (ps++more))
section
variable{fs fs' ex ex':List Addr}{H H1 H2:Hp}{h h1 h2 h':Heap}{a x e:Addr}{o:HO}
theorem Un.any(u:Un fs ex H H1 h h1){b:Addr}{ob:Obj}(q:h.get? b=some ob)(n:H b=none)(hx:b∉ex):∃sl,h1.get? b=some {ob with slots:=sl}:=by
 by_cases hb:b∈fs
 .exact u.slot b ob q n hb hx
 .exact⟨ob.slots,u.keep b ob q n hb hx⟩
theorem Un.trans(a:Un fs ex H H1 h h1)(b:Un fs ex H1 H2 h1 h2):Un fs ex H H2 h h2 where
 keep:=λc ob q n hc hx=>b.keep c ob (a.keep c ob q n hc hx) (a.free c ob q n hx) hc hx
 slot:=λc ob q n hc hx=>by
  obtain⟨sl,e1⟩:=a.slot c ob q n hc hx;obtain⟨sl',e2⟩:=b.slot c _ e1 (a.free c ob q n hx) hc hx;exact⟨sl',e2⟩
 free:=λc ob q n hx=>by
  obtain⟨o',e1⟩:=a.there c ob q hx;exact b.free c o' e1 (a.free c ob q n hx) hx
 there:=λc ob q hx=>by
  obtain⟨o',e1⟩:=a.there c ob q hx;exact b.there c o' e1 hx
 tups:=λc xs q=>b.tups c xs (a.tups c xs q)
 frzs:=λc ob xs q=>b.frzs c ob xs (a.frzs c ob xs q)
 tbls:=λc ps q=>by
  obtain⟨m1,e1⟩:=a.tbls c ps q;obtain⟨m2,e2⟩:=b.tbls c _ e1;exact⟨m1++m2,by rw[e2,yx]⟩
theorem Un.kept(k:∀b u,h.get? b=some u->h'.get? b=some u):Un fs ex H H h h':=
 ⟨λb ob q _ _ _=>k b ob q,λb ob q _ _ _=>⟨ob.slots,k b ob q⟩,λ_ _ _ n _=>n,λb ob q _=>⟨ob,k b ob q⟩,λ_ _ q=>q,λ_ _ _ q=>q,λ_ ps q=>⟨#[],by rw[q];simp⟩⟩
theorem Un.refl:Un fs ex H H h h:=Un.kept λ_ _ q=>q
theorem Un.laid(k:∀b u,h.get? b=some u->h'.get? b=some u)(hp:h.objs.size<=a)(hn:H a=none):Un fs ex H (bA H a o) h h' where
 keep:=λb u q _ _ _=>k b u q
 slot:=λb u q _ _ _=>⟨u.slots,k b u q⟩
 free:=λb u q n _=>by rw[bV (dm (df (bn q) hp))];exact n
 there:=λb u q _=>⟨u,k b u q⟩
 tups:=λb xs q=>by rw[bV (fV q hn)];exact q
 frzs:=λb u xs q=>by rw[bV (fV q hn)];exact q
 tbls:=λb ps q=>⟨#[],by rw[bV (fV q hn),q];simp⟩
theorem Un.write(mu:xN (H x))(he:e=x\/H e=some (.own x))(k:∀b u,b≠e->h.get? b=some u->h'.get? b=some u)(heo:∃u,h'.get? e=some u):Un fs ex H (bA H x o) h h':=by
 have hx:∀b,H b=none->b≠x:=λb n z=>by subst z;rw[n]at mu;exact mu
 have hb:∀b,H b=none->b≠e:=λb n z=>by
  subst z;rcases he with r |r
  .exact hx b n r
  .rw[n]at r;cases r
 have hm:∀b u,H b=some u->¬xN (some u)->b≠x:=λb u q nm z=>by subst z;rw[q]at mu;exact nm mu
 refine⟨λb u q n _ _=>k b u (hb b n) q,λb u q n _ _=>⟨u.slots,k b u (hb b n) q⟩,λb u q n _=>by rw[bV (hx b n)];exact n,λb u q _=>?_,
  λb xs q=>by rw[bV (hm b _ q λz=>z)];exact q,λb u xs q=>by rw[bV (hm b _ q λz=>z)];exact q,λb ps q=>⟨#[],by rw[bV (hm b _ q λz=>z),q];simp⟩⟩
 by_cases hbe:b=e
 .subst hbe;exact heo
 .exact⟨u,k b u hbe q⟩
end
def xO(h:Heap)(H:Hp):List Addr:=(ak h.objs.size).filter λa=>(H a).isSome
def lK(h:Heap)(H:Hp):Heap:=ve h (xO h H)
theorem Nu(h:Heap)(H:Hp):(lK h H).objs.size=h.objs.size:=PySem.W.hideAll_size _ _
theorem Gy{h:Heap}{H:Hp}{b:Addr}{o:Obj}(e:h.get? b=some o)(n:H b=none):(lK h H).get? b=some o:=
 vf _ e λhm=>by
  have q:(H b).isSome=true:=(vg.mp hm).2;rw[n]at q;simp at q
theorem C0{h:Heap}{H:Hp}{b:Addr}{o:Obj}(e:(lK h H).get? b=some o):h.get? b=some o/\H b=none:=by
 have e':h.get? b=some o:=yy (xO h H) e;refine⟨e',?_⟩;cases q:H b with
 |none=>rfl
 |some x=>
  have hm:b∈xO h H:=vg.mpr ⟨kq.mpr (bn e'),by simp[q]⟩;have z:(lK h H).get? b=none:=PySem.W.hideAll_none (xO h H) hm;rw[z]at e;cases e
def Xz(g h:Heap)(L:Addr):List (Addr×Obj):=(ak h.objs.size).filterMap λa=>if a=L\/(g.get? a).isSome=true then none else(h.get? a).map λo=>(a,o)
def gI(g h:Heap)(L d:Addr):List (Addr×Obj):=(Xz g h L).filter λp=>decide (p.1≠d)
structure Mod(K:ae)(mg:Str->AX)(base:Heap):Prop where
 kin:K.In base
 glob:base.Ns mainGlobals mg
 blt:∃mb,base.Ns builtinsNs mb/\∀x:Str,x≠"__name__"->mb x=bootBuiltins x
 nolimit:base.NoLimit
structure Cx where
 prog:Program
 w:am
 K:ae
 mg:Str->AX
 base:Heap
 A:ao
 N:List Str
 BF:aa
 BG:Hp
 env:bh
 outer:List bh
 stack:List bh
 ex:List Addr
 fn:Str->Bool
 calm:Bool
 pn:List (Addr×Obj)
 xe:Value->aa->Prop
def dN(l:List bh):List Addr:=l.filterMap (·.frame)
abbrev Cx.fs(X:Cx):List Addr:=dN X.outer
def nG(sc:Scope)(x:Str):Prop:=sc.names.lookup x=some .local\/sc.names.lookup x=some .cell\/sc.names.lookup x=some .free
def iW(sc:Scope)(x:Str):Prop:=sc.names.lookup x=some .local\/sc.names.lookup x=some .cell
def abE(env:bh)(h:Heap)(m:Str->AX)(x:Str)(u:Value):Prop:=
 (env.kindOf x=some .local/\m x=some u)\/((env.kindOf x=some .cell\/env.kindOf x=some .free)/\∃c,env.cells.lookup x=some c/\h.IsCell c (some u))
structure Cx.Ok(X:Cx):Prop where
 mod:Mod X.K X.mg X.base
 kind:X.env.scope.kind=.function
 glob:X.env.globals=mainGlobals
 blt:X.env.builtins=builtinsNs
 above:X.BF.heap.objs.size<=X.env.locals
 inj:∀x y c,X.env.cells.lookup x=some c->X.env.cells.lookup y=some c->x=y
 has:∀x,(X.env.kindOf x=some .cell\/X.env.kindOf x=some .free)->∃c,X.env.cells.lookup x=some c
 cab:∀x c,X.fn x=true->X.env.cells.lookup x=some c->X.BF.heap.objs.size<=c
 hd:X.calm=true->X.A.handled=none
 frames:X.A.frames=some X.stack
 stk:X.stack=X.outer\/(X.stack=X.env::X.outer/\X.env.frame=some X.env.locals)
 exf:∀b∈X.ex,b≠X.env.locals/\∀x c,X.env.cells.lookup x=some c->c≠b
 bs:∀b o,X.base.get? b=some o->X.BF.heap.get? b=some o/\X.BG b=none
 bsz:X.base.objs.size<=X.BF.heap.objs.size
 noex:∀b o,X.base.get? b=some o->b∉X.ex
 exfs:∀b∈X.ex,b∉X.fs
 funs:X.BF.heap.FunFrames X.base X.outer
 frf:∀b∈X.fs,X.BG b=none
structure aH(X:Cx)(BE:List (Addr×Obj))(σ:List (Option V))(H:Hp)(s:aa):Prop where
 ok:X.Ok
 os:s.os=X.BF.os
 bare:jm s.gens
 base:Un X.fs X.ex X.BG H X.BF.heap s.heap
 loc:∃m,s.heap.Ns X.env.locals m/\∀(i:Nat)(x:Str)(v:V),X.N[i]?=some x->σ[i]?=some (some v)->nG X.env.scope x->∃u,bY v u/\abE X.env s.heap m x u
 cell:∀x c,X.env.cells.lookup x=some c->∃v,s.heap.IsCell c v
 free:H X.env.locals=none
 freeC:∀x c,X.env.cells.lookup x=some c->H c=none
 pin:∀p∈X.pn++BE,s.heap.get? p.1=some p.2/\H p.1=none/\p.1≠X.env.locals/\p.1∉X.fs/\∀v,p.2.data≠.cell v
 hok:fE X.prog X.w H s.heap
 len:σ.length=X.N.length
section
variable{X:Cx}{BE:List (Addr×Obj)}{σ:List (Option V)}{H H':Hp}{s:aa}{h':Heap}
theorem Cx.Ok.nofr(ok:X.Ok){b:Addr}{o:Obj}(e:X.base.get? b=some o):b∉X.fs:=λhb=>by
 have:=(ok.funs.mem hb).1;rw[e]at this;cases this
theorem aH.bs(I:aH X BE σ H s):∀b o,X.base.get? b=some o->s.heap.get? b=some o/\H b=none:=λb o e=>
 ⟨I.base.keep b o (I.ok.bs b o e).1 (I.ok.bs b o e).2 (I.ok.nofr e) (I.ok.noex b o e),I.base.free b o (I.ok.bs b o e).1 (I.ok.bs b o e).2 (I.ok.noex b o e)⟩
theorem aH.bk(I:aH X BE σ H s):∀b o,X.base.get? b=some o->s.heap.get? b=some o:=λb o e=>(I.bs b o e).1
theorem aH.mod(I:aH X BE σ H s):Mod X.K X.mg X.base:=I.ok.mod
theorem aH.kIn(I:aH X BE σ H s):X.K.In s.heap:=I.ok.mod.kin.keeps I.bk
theorem aH.lt(I:aH X BE σ H s):X.env.locals<s.heap.objs.size:=let⟨_,hn,_⟩:=I.loc;hn.lt
theorem aH.sz(I:aH X BE σ H s):X.BF.heap.objs.size<=s.heap.objs.size:=fk I.ok.above (qj I.lt)
theorem aH.nofs(I:aH X BE σ H s){a:Addr}(h:s.heap.objs.size<=a):a∉X.fs:=λhb=>by
 obtain⟨_,o,ho,_⟩:=I.ok.funs.mem hb;exact absurd (df (bn ho) (fk I.sz h)) (jh _)
theorem aH.cne(I:aH X BE σ H s):∀x c,X.env.cells.lookup x=some c->c≠X.env.locals:=λx c e z=>by
 obtain⟨v,o,ho,hd⟩:=I.cell x c e;obtain⟨m,⟨o',es,ep,ho',hd',_⟩,_⟩:=I.loc;rw[z,ho']at ho;cases ho;rw[hd']at hd;cases hd
theorem aH.funs(I:aH X BE σ H s):s.heap.FunFrames X.base X.outer:=by
 have all:∀(l:List bh),(∀b∈dN l,b∈X.fs)->X.BF.heap.FunFrames X.base l->s.heap.FunFrames X.base l:=by
  intro l
  induction l with
  |nil=>intro _ _;trivial
  |cons env r ih=>
   intro hs hl;obtain⟨hk,⟨L,o,hf,hn,ho,hd⟩,hr⟩:=hl;have hL:L∈X.fs:=hs L (by unfold dN;rw[vh,hf];exact bo);obtain⟨sl,e⟩:=I.base.slot L o ho (I.ok.frf L hL) hL λz=>I.ok.exfs L z hL;exact⟨hk,⟨L,_,hf,hn,e,hd⟩,ih (λb hb=>hs b (by unfold dN;rw[vh,hf];exact ay _ hb)) hr⟩
 exact all X.outer (λ_ hb=>hb) I.ok.funs
theorem aH.stack(I:aH X BE σ H s):s.heap.FunFrames X.base X.stack:=by
 rcases I.ok.stk with e |⟨e,hf⟩
 .rw[e];exact I.funs
 .rw[e]
  obtain⟨m,hn,_⟩:=I.loc;refine .cons (by rw[I.ok.kind];decide) hf hn ?_ I.funs;exact Heap.get?_none_of_le (fk I.ok.bsz I.ok.above)
theorem aH.stkSub(I:aH X BE σ H s):∀b∈dN X.stack,b∈X.env.locals::X.fs:=λb hb=>by
 rcases I.ok.stk with e |⟨e,hf⟩
 .rw[e]at hb;exact ay _ hb
 .rw[e]at hb
  unfold dN at hb;rw[vh,hf]at hb;exact hb
theorem aH.stkFree(I:aH X BE σ H s):∀b∈dN X.stack,H b=none:=λb hb=>by
 rcases cf.mp (I.stkSub b hb)with e |hb
 .rw[e];exact I.free
 .obtain⟨_,o,ho,_⟩:=I.ok.funs.mem hb
  exact I.base.free b o ho (I.ok.frf b hb) λz=>I.ok.exfs b z hb
theorem aH.step{g':Array GenState}{t':Nat}{d':Drawn}{ch:List Addr}(I:aH X BE σ H s)
  (hch:∀b∈ch,(b∈X.ex\/X.BF.heap.objs.size<=b)/\b≠X.env.locals/\(∀x c,X.env.cells.lookup x=some c->c≠b)/\∀p∈X.pn++BE,p.1≠b)
  (keep:∀b o,b≠X.env.locals->b∉X.fs->b∉ch->s.heap.get? b=some o->H b=none->h'.get? b=some o)
  (slot:∀b o,b≠X.env.locals->b∈X.fs->b∉ch->s.heap.get? b=some o->H b=none->∃sl,h'.get? b=some {o with slots:=sl})(free:∀b o,b∉ch->s.heap.get? b=some o->H b=none->H' b=none)
  (there:∀b o,b∉ch->s.heap.get? b=some o->∃o',h'.get? b=some o')
  (tups:∀b xs,H b=some (.tup xs)->H' b=some (.tup xs))(frzs:∀b o u,H b=some (.frz o u)->H' b=some (.frz o u))(tbls:∀b ps,H b=some (.tbl ps)->∃more,H' b=some (.tbl (ps++more)))
  (ns:∀m,s.heap.Ns X.env.locals m->h'.Ns X.env.locals m)(hok:fE X.prog X.w H' h')(hg:jm g'):
  aH X BE σ H' {s with heap:=h',gens:=g',drawn:=d',toks:=t'}:=by
 have neL:∀b o,X.BF.heap.get? b=some o->b≠X.env.locals:=λb o e=>dm (df (bn e) I.ok.above);have neC:∀b o,X.BF.heap.get? b=some o->b∉X.ex->b∉ch:=λb o e hx hb=>by
  rcases(hch b hb).1 with z |z
  .exact hx z
  .exact absurd (df (bn e) z) (jh _)
 have cellK:∀x c,X.env.cells.lookup x=some c->∀v,s.heap.IsCell c v->h'.IsCell c v:=λx c e v ⟨o,ho,hd⟩=>by
  have nch:c∉ch:=λz=>(hch c z).2.2.1 x c e rfl
  by_cases hc:c∈X.fs
  .obtain⟨sl,q⟩:=slot c o (I.cne x c e) hc nch ho (I.freeC x c e)
   exact⟨_,q,hd⟩
  .exact⟨o,keep c o (I.cne x c e) hc nch ho (I.freeC x c e),hd⟩
 refine⟨I.ok,I.os,hg,⟨λb o e n hb hx=>?_,λb o e n hb hx=>?_,λb o e n hx=>?_,λb o e hx=>?_,λb xs e=>tups b xs (I.base.tups b xs e),λb o xs e=>frzs b o xs (I.base.frzs b o xs e),λb ps e=>?_⟩,?_,λx c e=>?_,?_,λx c e=>?_,λp hp=>?_,hok,I.len⟩
 .exact keep b o (neL b o e) hb (neC b o e hx) (I.base.keep b o e n hb hx) (I.base.free b o e n hx)
 .obtain⟨sl,e1⟩:=I.base.slot b o e n hb hx
  obtain⟨sl',e2⟩:=slot b _ (neL b o e) hb (neC b o e hx) e1 (I.base.free b o e n hx);exact⟨sl',e2⟩
 .obtain⟨o',e1⟩:=I.base.there b o e hx
  exact free b o' (neC b o e hx) e1 (I.base.free b o e n hx)
 .obtain⟨o',e1⟩:=I.base.there b o e hx
  exact there b o' (neC b o e hx) e1
 .obtain⟨m1,e1⟩:=I.base.tbls b ps e
  obtain⟨m2,e2⟩:=tbls b _ e1;exact⟨m1++m2,by rw[e2,yx]⟩
 .obtain⟨m,hn,hl⟩:=I.loc
  refine⟨m,ns m hn,λi x v e1 e2 e3=>?_⟩;obtain⟨u,r,l⟩:=hl i x v e1 e2 e3;refine⟨u,r,?_⟩;rcases l with l |⟨k,c,e,z⟩
  .exact .inl l
  .exact .inr ⟨k,c,e,cellK x c e _ z⟩
 .obtain⟨v,z⟩:=I.cell x c e
  exact⟨v,cellK x c e v z⟩
 .obtain⟨m,⟨o,_,_,ho,_⟩,_⟩:=I.loc
  exact free _ o (λz=>(hch _ z).2.1 rfl) ho I.free
 .obtain⟨v,o,ho,hd⟩:=I.cell x c e
  exact free c o (λz=>(hch c z).2.2.1 x c e rfl) ho (I.freeC x c e)
 .obtain⟨e,n,ne,nf,d⟩:=I.pin p hp
  have nch:p.1∉ch:=λz=>(hch p.1 z).2.2.2 p hp rfl;exact⟨keep p.1 p.2 ne nf nch e n,free p.1 p.2 nch e n,ne,nf,d⟩
theorem aH.un{t':Nat}(I:aH X BE σ H s)(u:Un X.fs [] H H' s.heap h')(hok:fE X.prog X.w H' h'):aH X BE σ H' {s with heap:=h',toks:=t'}:=by
 obtain⟨m,⟨o,es,ep,ho,r⟩,_⟩:=id I.loc;obtain⟨sl,hL⟩:=u.any ho I.free (by simp);exact I.step (g':=s.gens) (d':=s.drawn) (ch:=[]) (λ_ z=>nomatch z) (λb o _ hb _ e n=>u.keep b o e n hb (by simp)) (λb o _ hb _ e n=>u.slot b o e n hb (by simp)) (λb o _ e n=>u.free b o e n (by simp)) (λb o _ e=>u.there b o e (by simp)) u.tups u.frzs u.tbls (λm' hm=>by
  obtain⟨o',es',ep',ho',r'⟩:=hm;rw[ho]at ho';cases ho';exact⟨_,es',ep',hL,r'⟩) hok I.bare
theorem aH.call{g':Array GenState}{t':Nat}{d':Drawn}{ch:List Addr}(I:aH X BE σ H s)(u:Un (dN X.stack) ch H H' s.heap h')(hok:fE X.prog X.w H' h')(hg:jm g')
  (hch:∀b∈ch,(b∈X.ex\/X.BF.heap.objs.size<=b)/\b≠X.env.locals/\(∀x c,X.env.cells.lookup x=some c->c≠b)/\∀p∈X.pn++BE,p.1≠b):
  aH X BE σ H' {s with heap:=h',gens:=g',drawn:=d',toks:=t'}:=by
 obtain⟨m,⟨o,es,ep,ho,r⟩,_⟩:=id I.loc;obtain⟨sl,hL⟩:=u.any ho I.free λz=>(hch _ z).2.1 rfl;exact I.step (ch:=ch) hch (λb o hL hb hc e n=>u.keep b o e n (λz=>(cf.mp (I.stkSub b z)).elim hL hb) hc) (λb o _ _ hc e n=>u.any e n hc) (λb o hc e n=>u.free b o e n hc) (λb o hc e=>u.there b o e hc) u.tups u.frzs u.tbls (λm' hm=>by
  obtain⟨o',es',ep',ho',r'⟩:=hm;rw[ho]at ho';cases ho';exact⟨_,es',ep',hL,r'⟩) hok hg
theorem aH.turned{t':Nat}{it:Addr}(I:aH X BE σ H s)(k:∀b o,b≠it->s.heap.get? b=some o->h'.get? b=some o)(hn:H it=none)(hL:it≠X.env.locals)
  (h1:it∈X.ex\/X.BF.heap.objs.size<=it)(h2:∀x c,X.env.cells.lookup x=some c->c≠it)(h3:∀p∈X.pn++BE,p.1≠it):aH X BE σ H {s with heap:=h',toks:=t'}:=by
 have nit:∀b u,H b=some u->b≠it:=λb u e z=>by rw[z,hn]at e;cases e
 refine I.step (g':=s.gens) (d':=s.drawn) (ch:=[it]) (λb hb=>?_) (λb o _ _ hc e _=>k b o (λz=>hc (by simp[z])) e) (λb o _ _ hc e _=>⟨o.slots,k b o (λz=>hc (by simp[z])) e⟩) (λ_ _ _ _ n=>n)
  (λb o hc e=>⟨o,k b o (λz=>hc (by simp[z])) e⟩) (λ_ _ e=>e) (λ_ _ _ e=>e) (λb ps e=>⟨#[],by rw[e];simp⟩) (λm hm=>?_) (λb u e=>?_) I.bare
 .have e:b=it:=by simpa using hb
  subst e;exact⟨h1,hL,h2,h3⟩
 .obtain⟨o,es,ep,ho,r⟩:=hm
  exact⟨o,es,ep,k _ o (jb hL) ho,r⟩
 .refine(I.hok b u e).stay (λc v hc q=>k c v ?_ q) (λ_ q=>q) λ_ _ q=>q
  rcases hc with z |z
  .rw[z];exact nit b u e
  .exact nit c _ z
theorem aH.tok(I:aH X BE σ H s)(t:Nat):aH X BE σ H {s with toks:=t}:=I.un (h':=s.heap) (t':=t) Un.refl I.hok
theorem aH.kept{t':Nat}(I:aH X BE σ H s)(k:∀b u,s.heap.get? b=some u->h'.get? b=some u):aH X BE σ H {s with heap:=h',toks:=t'}:=I.un (Un.kept k) (I.hok.kept k)
theorem aH.laid{a:Addr}{o:HO}{t':Nat}(I:aH X BE σ H s)(k:∀b u,s.heap.get? b=some u->h'.get? b=some u)(hp:s.heap.objs.size<=a)(new:fN X.prog X.w (bA H a o) h' a o):
  aH X BE σ (bA H a o) {s with heap:=h',toks:=t'}:=I.un (Un.laid k hp (I.hok.fresh hp)) (I.hok.laid k hp new)
theorem aH.write{x e:Addr}{o:HO}{t':Nat}(I:aH X BE σ H s)(mu:xN (H x))(he:e=x\/H e=some (.own x))(k:∀b u,b≠e->s.heap.get? b=some u->h'.get? b=some u)(heo:∃u,h'.get? e=some u)
  (new:fN X.prog X.w (bA H x o) h' x o):aH X BE σ (bA H x o) {s with heap:=h',toks:=t'}:=I.un (Un.write mu he k heo) (I.hok.write mu he k heo new)
theorem aH.pins_of{pins':List (Addr×Obj)}(I:aH X BE σ H s)(h:∀p∈pins',s.heap.get? p.1=some p.2/\H p.1=none/\p.1≠X.env.locals/\p.1∉X.fs/\∀v,p.2.data≠.cell v):aH X pins' σ H s:=
 ⟨I.ok,I.os,I.bare,I.base,I.loc,I.cell,I.free,I.freeC,λp hp=>(ck.mp hp).elim (λz=>I.pin p (ju _ z)) (h p),I.hok,I.len⟩
theorem zH{N:List Str}(hN:N.Nodup){i j:Nat}{x:Str}(a:N[i]?=some x)(b:N[j]?=some x):i=j:=by
 obtain⟨h1,e1⟩:=cq.mp a;obtain⟨h2,e2⟩:=cq.mp b;exact(List.getElem_inj hN).mp (e1.trans e2.symm)
theorem Uv{M:jw}{A:ao}{E:Value->aa->Prop}{i:Nat}{x:Str}{v:V}{u:Value}{Q:Unit->aa->Prop}(I:aH X BE σ H s)(hN:X.N.Nodup)(hi:X.N[i]?=some x)(hx:iW X.env.scope x)(r:bY v u)
  (h:∀s',aH X BE (σ.set i (some v)) H s'->(∃a,mq a s.heap s'.heap/\(a=X.env.locals\/X.env.cells.lookup x=some a))->Q () s')(hf:X.fn x=true\/X.env.scope.names.lookup x=some .local:=by first |exact .inl rfl |exact .inr rfl |assumption):wpAny M A (storeName X.env x u) Q E s:=by
 obtain⟨m,hn,hl⟩:=id I.loc;have hcls:(X.env.scope.kind== .class||(X.env.scope.kind== .module&&X.env.locals !=X.env.globals))=false:=by rw[I.ok.kind];rfl
 have hiσ:i<σ.length:=by rw[I.len];exact(cq.mp hi).1
 have cne:=I.cne;have tracked:∀{a:Addr}{h':Heap},(∃o,s.heap.get? a=some o/\H a=none)->mq a s.heap h'->fE X.prog X.w H h':=λ{a h'} ha hs b ob e=>by
  obtain⟨_,_,hfree⟩:=ha;refine(I.hok b ob e).stay (λc w' hc q=>(hs.2 c ?_).trans q) (λ_ q=>q) λ_ _ q=>q
  rintro rfl
  rcases hc with rfl |hc
  .rw[hfree]at e;cases e
  .rw[hfree]at hc;cases hc
 rcases hx with hk |hk
 .refine wpAny_storeName_local hk hn (λh' hn' hs=>?_) hcls
  obtain⟨oL,_,_,hoL,_⟩:=id hn;refine h _ ⟨I.ok,I.os,I.bare,⟨λb o e n hb hx=>?_,λb o e n hb hx=>?_,I.base.free,λb o e hx=>?_,I.base.tups,I.base.frzs,I.base.tbls⟩,⟨_,hn',λj y v' e1 e2 e3=>?_⟩,λy c e=>?_,I.free,I.freeC,λp hp=>?_,tracked ⟨oL,hoL,I.free⟩ hs,by simpa using I.len⟩ ⟨_,hs,.inl rfl⟩
  .exact(hs.2 b (dm (df (bn e) I.ok.above))).trans (I.base.keep b o e n hb hx)
  .obtain⟨sl,e1⟩:=I.base.slot b o e n hb hx
   exact⟨sl,(hs.2 b (dm (df (bn e) I.ok.above))).trans e1⟩
  .obtain⟨o',e1⟩:=I.base.there b o e hx
   exact⟨o',(hs.2 b (dm (df (bn e) I.ok.above))).trans e1⟩
  .by_cases hj:j=i
   .subst hj
    rw[hi]at e1;cases e1;rw[gf hiσ]at e2;cases e2;exact⟨u,r,.inl ⟨hk,by simp⟩⟩
   .rw[gm (jb hj)]at e2
    obtain⟨u',r',q⟩:=hl j y v' e1 e2 e3;refine⟨u',r',?_⟩;rcases q with⟨k,e⟩|⟨k,c,e,z⟩
    .refine .inl ⟨k,?_⟩
     have:y≠x:=λe=>hj (zH hN e1 (e▸hi));simp[this,e]
    .exact .inr ⟨k,c,e,z.sameBut hs (cne y c e)⟩
  .obtain⟨w',z⟩:=I.cell y c e
   exact⟨w',z.sameBut hs (cne y c e)⟩
  .obtain⟨e,n,ne,nf,d⟩:=I.pin p hp
   exact⟨(hs.2 p.1 ne).trans e,n,ne,nf,d⟩
 .have hfn:X.fn x=true:=by
   rcases hf with z |z
   .exact z
   .rw[z]at hk;cases hk
  obtain⟨c,hc⟩:=I.ok.has x (.inl hk);obtain⟨w',z⟩:=I.cell x c hc;refine wpAny_storeName_cell I.ok.kind hk hc z (λh' hc' hs=>?_);obtain⟨oc,hoc,hocd⟩:=id z;refine h {s with heap:=h'} ⟨I.ok,I.os,I.bare,⟨λb o e n hb hx=>?_,λb o e n hb hx=>?_,I.base.free,λb o e hx=>?_,I.base.tups,I.base.frzs,I.base.tbls⟩,⟨m,hn.sameBut hs (jb (cne x c hc)),λj y v' e1 e2 e3=>?_⟩,λy c' e=>?_,I.free,I.freeC,λp hp=>?_,tracked ⟨oc,hoc,I.freeC x c hc⟩ hs,by simpa using I.len⟩ ⟨c,hs,.inr hc⟩
  .exact(hs.2 b (dm (df (bn e) (I.ok.cab x c hfn hc)))).trans (I.base.keep b o e n hb hx)
  .obtain⟨sl,e1⟩:=I.base.slot b o e n hb hx
   exact⟨sl,(hs.2 b (dm (df (bn e) (I.ok.cab x c hfn hc)))).trans e1⟩
  .obtain⟨o',e1⟩:=I.base.there b o e hx
   exact⟨o',(hs.2 b (dm (df (bn e) (I.ok.cab x c hfn hc)))).trans e1⟩
  .by_cases hj:j=i
   .subst hj
    rw[hi]at e1;cases e1;rw[gf hiσ]at e2;cases e2;exact⟨u,r,.inr ⟨.inl hk,c,hc,hc'⟩⟩
   .rw[gm (jb hj)]at e2
    obtain⟨u',r',q⟩:=hl j y v' e1 e2 e3;refine⟨u',r',?_⟩;rcases q with q |⟨k,c',e,z'⟩
    .exact .inl q
    .refine .inr ⟨k,c',e,z'.sameBut hs ?_⟩
     rintro rfl
     exact hj (zH hN e1 (I.ok.inj _ _ _ e hc▸hi))
  .by_cases hcc:c'=c
   .subst hcc;exact⟨_,hc'⟩
   .obtain⟨w2,z2⟩:=I.cell y c' e
    exact⟨w2,z2.sameBut hs hcc⟩
  .obtain⟨e,n,ne,nf,d⟩:=I.pin p hp
   refine⟨(hs.2 p.1 ?_).trans e,n,ne,nf,d⟩;intro q;rw[q,hoc]at e;have q':oc=p.2:=cj e;exact d w' (by rw[<-q'];exact hocd)
theorem mG{M:jw}{A:ao}{E:Value->aa->Prop}{i:Nat}{x:Str}{v:V}{u:Value}{Q:Unit->aa->Prop}(I:aH X BE σ H s)(hN:X.N.Nodup)(hi:X.N[i]?=some x)(hx:iW X.env.scope x)(r:bY v u)
  (h:∀s',aH X BE (σ.set i (some v)) H s'->Q () s')(hf:X.fn x=true\/X.env.scope.names.lookup x=some .local:=by first |exact .inl rfl |exact .inr rfl |assumption):wpAny M A (storeName X.env x u) Q E s:=
 Uv I hN hi hx r (λs' I' _=>h s' I') hf
theorem aH.call'{s':aa}{ch:List Addr}(I:aH X BE σ H s)(ho:s'.os=s.os)(u:Un (dN X.stack) ch H H' s.heap s'.heap)(hok:fE X.prog X.w H' s'.heap)(hg:jm s'.gens)
  (hch:∀b∈ch,(b∈X.ex\/X.BF.heap.objs.size<=b)/\b≠X.env.locals/\(∀x c,X.env.cells.lookup x=some c->c≠b)/\∀p∈X.pn++BE,p.1≠b):aH X BE σ H' s':=by
 obtain⟨h',g',d',t',o'⟩:=s';have e:o'=s.os:=ho;subst e;exact I.call (g':=g') (t':=t') (d':=d') u hok hg hch
end
abbrev XK:=Value->AY->Hp->Prop
abbrev St:=List (Option V)
abbrev VK:=V->Hp->Prop
abbrev TE:=St->Hp->VK->Prop
abbrev TT:=St->Hp->(Bool->Hp->Prop)->Prop
abbrev TA:=St->Hp->(List V->Hp->Prop)->Prop
structure kW where
 nx:St->Hp->Prop
 rt:VK
 bk:St->Hp->Prop:=λ_ _=>False
 ct:St->Hp->Prop:=λ_ _=>False
abbrev TS:=kW->St->Hp->Prop
def EP(X:Cx)(BE:List (Addr×Obj))(σ:St)(Q:VK)(u:Value)(s':aa):Prop:=∃v H',aH X BE σ H' s'/\bY v u/\Q v H'
def TP(X:Cx)(BE:List (Addr×Obj))(σ:St)(Q:Bool->Hp->Prop)(b:Bool)(s':aa):Prop:=∃H',aH X BE σ H' s'/\Q b H'
def AP(X:Cx)(BE:List (Addr×Obj))(σ:St)(Q:List V->Hp->Prop)(us:AW)(s':aa):Prop:=∃vs H',aH X BE σ H' s'/\bG vs us/\Q vs H'
def SP(X:Cx)(BE:List (Addr×Obj))(D:kW)(f:Flow)(s':aa):Prop:=
 match f with
 |.next=>∃σ' H',aH X BE σ' H' s'/\D.nx σ' H'
 |.brk=>∃σ' H',aH X BE σ' H' s'/\D.bk σ' H'
 |.cont=>∃σ' H',aH X BE σ' H' s'/\D.ct σ' H'
 |.ret u=>∃v σ' H',aH X BE σ' H' s'/\bY v u/\D.rt v H'
def PE(X:Cx)(e:ag)(t:TE):Prop:=
 ∀(BE:List (Addr×Obj))(s:aa)(σ:St)(H:Hp)(Q:VK),aH X BE σ H s->t σ H Q->wpAny (model X.prog X.w) X.A (eval e X.env) (EP X BE σ Q) X.xe s
def PT(X:Cx)(e:ag)(t:TT):Prop:=
 ∀(BE:List (Addr×Obj))(s:aa)(σ:St)(H:Hp)(Q:Bool->Hp->Prop),aH X BE σ H s->t σ H Q->wpAny (model X.prog X.w) X.A (isTrue e X.env (eval e X.env)) (TP X BE σ Q) X.xe s
def PW(X:Cx)(e:ag)(t:TT):Prop:=
 ∀(whole:Sem Value)(BE:List (Addr×Obj))(s:aa)(σ:St)(H:Hp)(Q:Bool->Hp->Prop),aH X BE σ H s->t σ H Q->wpAny (model X.prog X.w) X.A (isTrue e X.env whole) (TP X BE σ Q) X.xe s
theorem PW.pt{X:Cx}{e:ag}{t:TT}(h:PW X e t):PT X e t:=h _
def PA(X:Cx)(es:List ag)(t:TA):Prop:=
 ∀(pos:ai)(BE:List (Addr×Obj))(s:aa)(σ:St)(H:Hp)(Q:List V->Hp->Prop),aH X BE σ H s->t σ H Q->wpAny (model X.prog X.w) X.A (spliced (backTo pos (starEach es X.env))) (AP X BE σ Q) X.xe s
def PS(X:Cx)(st:Stmt)(t:TS):Prop:=
 ∀(BE:List (Addr×Obj))(s:aa)(σ:St)(H:Hp)(D:kW),aH X BE σ H s->t D σ H->wpAny (model X.prog X.w) X.A (exec st X.env) (SP X BE D) X.xe s
def fO(X:Cx)(st:List Stmt)(t:TS):Prop:=
 ∀(BE:List (Addr×Obj))(s:aa)(σ:St)(H:Hp)(D:kW),aH X BE σ H s->t D σ H->wpAny (model X.prog X.w) X.A (execs st X.env) (SP X BE D) X.xe s
theorem bJ{α:Type}{t:Sem α}{Q Q':α->aa->Prop}{M:jw}{A:ao}{E:Value->aa->Prop}{s:aa}(h:wpAny M A t Q E s)(hQ:∀a s,Q a s->Q' a s):wpAny M A t Q' E s:=iy h hQ λ_ _ x=>x
section
variable{X:Cx}
theorem bin{a b:ag}{ta tb:TE}(ha:PE X a ta)(hb:PE X b tb){BE:List (Addr×Obj)}{s:aa}{σ:St}{H:Hp}{R:V->V->Hp->Prop}(I:aH X BE σ H s)(h:ta σ H λx H1=>tb σ H1 λy H2=>R x y H2)
  {α:Type}{Q:α->aa->Prop}{f:Value->Value->Sem α}
  (hf:∀v u s2 x y H2,aH X BE σ H2 s2->bY x v->bY y u->R x y H2->wpAny (model X.prog X.w) X.A (f v u) Q X.xe s2):
  wpAny (model X.prog X.w) X.A (eval a X.env) (λv BH=>wpAny (model X.prog X.w) X.A (eval b X.env) (λu BK=>wpAny (model X.prog X.w) X.A (f v u) Q X.xe BK) X.xe BH) X.xe s:=by
 refine bJ (ha BE s σ H _ I h) ?_
 rintro v s1 ⟨x,H1,I1,r1,q1⟩
 refine bJ (hb BE s1 σ H1 _ I1 q1) ?_
 rintro u s2 ⟨y,H2,I2,r2,q2⟩
 exact hf v u s2 x y H2 I2 r1 r2 q2
def Fq(i:Nat):TE:=λσ H Q=>∃v,σ[i]?=some (some v)/\Q v H
def tC(v:V):TE:=λ_ H Q=>Q v H
theorem nY{i:Nat}{x:Str}{pos:ai}(hN:X.N[i]?=some x)(hv:nG X.env.scope x)(hd:(x==("__debug__":Str))=false:=by decide)(hcd:(x==("__classdict__":Str))=false:=by decide):PE X (.Name x pos) (Fq i):=by
 intro BE s σ H Q I h;obtain⟨v,e,h⟩:=h;obtain⟨m,hn,hl⟩:=I.loc;obtain⟨u,r,l⟩:=hl i x v hN e hv;have fin:EP X BE σ Q u s:=⟨v,H,I,r,h⟩;rcases l with⟨hk,hm⟩|⟨hk,c,hc,hcell⟩
 .exact vj (yz I.ok.kind hk hn hm fin) hd
 .rcases hk with hk |hk
  .exact vj (zb I.ok.kind hk hc hcell fin) hd
  .exact vj (wpAny_loadName_free I.ok.kind hk hc hcell fin hcd) hd
theorem Va{i j pos}:PE X (.Constant (.int i) j pos) (tC (.int i)):=λ_ _ _ H _ I h=>wpAny_Constant_int ⟨.int i,H,I.tok _,⟨_,rfl⟩,h⟩
theorem aba{b j pos}:PE X (.Constant (.bool b) j pos) (tC (.bl b)):=λ_ _ _ H _ I h=>Constant_bool ⟨.bl b,H,I,rfl,h⟩
theorem S0{j pos}:PE X (.Constant .none j pos) (tC .non):=λ_ _ _ H _ I h=>Constant_none ⟨.non,H,I,rfl,h⟩
theorem Q4{x j pos}:PE X (.Constant (.str x) j pos) (tC (.str x)):=λ_ _ _ H _ I h=>Calls.Constant_str ⟨.str x,H,I.tok _,⟨_,rfl⟩,h⟩
def Gl(X:Cx)(x:Str):Prop:=X.env.kindOf x=some .globalImplicit
theorem rP{E:Value->aa->Prop}{BE:List (Addr×Obj)}{s:aa}{σ:St}{H:Hp}{x:Str}{u:Value}{pos:ai}{Q:Value->aa->Prop}(I:aH X BE σ H s)(hg:Gl X x)(hm:X.mg x=some u)(h:Q u s)
  (hd:(x==("__debug__":Str))=false:=by decide):wpAny (model X.prog X.w) X.A (eval (.Name x pos) X.env) Q E s:=
 zc I.ok.kind hg (Calls.loadGlobal_global (by rw[I.ok.glob];exact I.mod.glob.keeps I.bk) hm h) hd
theorem nX{E:Value->aa->Prop}{BE:List (Addr×Obj)}{s:aa}{σ:St}{H:Hp}{x:Str}{u:Value}{pos:ai}{Q:Value->aa->Prop}(I:aH X BE σ H s)(hg:Gl X x)(hm:X.mg x=none)(hv:bootBuiltins x=some u)(h:Q u s)
  (hn:x≠"__name__":=by decide)(hd:(x==("__debug__":Str))=false:=by decide):wpAny (model X.prog X.w) X.A (eval (.Name x pos) X.env) Q E s:=by
 obtain⟨mb,h1,h2⟩:=I.mod.blt;exact zc I.ok.kind hg (Calls.loadGlobal_builtin (by rw[I.ok.glob];exact I.mod.glob.keeps I.bk) hm (by rw[I.ok.blt];exact h1.keeps I.bk) ((h2 x hn).trans hv) h) hd
theorem vH{x:Str}{v:V}{u:Value}{pos:ai}(hg:Gl X x)(hm:X.mg x=some u)(r:bY v u)(hd:(x==("__debug__":Str))=false:=by decide):PE X (.Name x pos) (tC v):=
 λ_ _ _ H _ I h=>rP I hg hm ⟨v,H,I,r,h⟩ hd
theorem Hl{x:Str}{v:V}{u:Value}{pos:ai}(hg:Gl X x)(hm:X.mg x=none)(hv:bootBuiltins x=some u)(r:bY v u)(hn:x≠"__name__":=by decide)(hd:(x==("__debug__":Str))=false:=by decide):PE X (.Name x pos) (tC v):=
 λ_ _ _ H _ I h=>nX I hg hm hv ⟨v,H,I,r,h⟩ hn hd
variable{a b:ag}{ta tb:TE}{pos:ai}
def PC(X:Cx)(op:kr)(a b:ag)(t:TE):Prop:=
 ∀(BE:List (Addr×Obj))(s:aa)(σ:St)(H:Hp)(Q:VK),aH X BE σ H s->t σ H Q->
  wpAny (model X.prog X.w) X.A (eval a X.env) (λv BH=>wpAny (model X.prog X.w) X.A (eval b X.env) (λu BK=>wpAny (model X.prog X.w) X.A (compareOp op v u) (EP X BE σ Q) X.xe BK) X.xe BH) X.xe s
theorem Gx(b:ag){op:kr}(h:op≠.In)(h2:op≠.NotIn):behindInMarks op b=false:=by
 have e1:(op==CmpOp.In)=false:=by cases op<;>first |rfl |exact absurd rfl h
 have e2:(op==CmpOp.NotIn)=false:=by cases op<;>first |rfl |exact absurd rfl h2
 cases b<;>simp[behindInMarks,e1,e2]
def tB(t:TE):TT:=λσ H Q=>t σ H λx H1=>∃c,x=.bl c/\Q c H1
theorem abg{op:kr}{t:TE}(h:PC X op a b t)(h1:behindInMarks op b=false:=by first |exact Gx _ (by decide) (by decide) |rfl):PT X (.Compare a [op] [b] pos) (tB t):=by
 intro BE s σ H Q I hw;refine zd (bJ (h BE s σ H _ I hw) λv s1 h1=>bJ h1 λu s2 h2=>bJ h2 λc s3 hq=>?_) h1;rcases hq with⟨x,H1,I1,r1,q1⟩;obtain⟨d,rfl,q⟩:=q1;cases r1;exact qk ⟨H1,I1,q⟩
theorem U7{e:ag}{t:TE}(h:PE X e t)(he:∀whole,isTrue e X.env whole=(do let v <-whole;standAt e.pos;holding [v] (truthy v)):=by intro _;rfl):PT X e (tB t):=by
 intro BE s σ H Q I hw;refine isTrue_plain (bJ (h BE s σ H _ I hw) λv s1 hq=>?_) (he _);rcases hq with⟨x,H1,I1,r1,q1⟩;obtain⟨d,rfl,q⟩:=q1;cases r1;exact qk ⟨H1,I1,q⟩
variable{tA tB':TT}{gI:List ag}
def abV(t u:TT):TT:=λσ H Q=>t σ H λc H1=>if c=true then u σ H1 Q else Q false H1
def tOr(t u:TT):TT:=λσ H Q=>t σ H λc H1=>if c=true then Q true H1 else u σ H1 Q
def abD(t:TT):TT:=λσ H Q=>t σ H λc H1=>Q (!c) H1
theorem K8(ha:PT X a tA):PW X (.BoolOp .And [a] pos) tA:=by
 intro wh BE s σ H Q I h;refine isTrue_and (bJ (ha BE s σ H Q I h) λc s1 e=>?_);cases c with
 |true=>exact isTrue_and_nil e
 |false=>exact e
theorem N4(ha:PT X a tA):PW X (.BoolOp .Or [a] pos) tA:=by
 intro wh BE s σ H Q I h;refine isTrue_or (bJ (ha BE s σ H Q I h) λc s1 e=>?_);cases c with
 |false=>exact isTrue_or_nil e
 |true=>exact e
theorem N6(ha:PT X a tA)(hb:PW X (.BoolOp .And (b::gI) pos) tB'):PW X (.BoolOp .And (a::b::gI) pos) (abV tA tB'):=by
 intro wh BE s σ H Q I h;refine isTrue_and (bJ (ha BE s σ H _ I h) λc s1 hq=>?_);rcases hq with⟨H1,I1,q1⟩;cases c with
 |true=>exact hb wh BE s1 σ H1 Q I1 q1
 |false=>exact⟨H1,I1,q1⟩
theorem aaZ(ha:PT X a tA)(hb:PW X (.BoolOp .Or (b::gI) pos) tB'):PW X (.BoolOp .Or (a::b::gI) pos) (tOr tA tB'):=by
 intro wh BE s σ H Q I h;refine isTrue_or (bJ (ha BE s σ H _ I h) λc s1 hq=>?_);rcases hq with⟨H1,I1,q1⟩;cases c with
 |true=>exact⟨H1,I1,q1⟩
 |false=>exact hb wh BE s1 σ H1 Q I1 q1
theorem S5(ha:PT X a tA):PT X (.UnaryOp .Not a pos) (abD tA):=by
 intro BE s σ H Q I h;exact isTrue_not (ha BE s σ H (λc H1=>Q (!c) H1) I h)
def aaC(ta tb:TE):TE:=λσ H Q=>ta σ H λx H1=>∃c,x=.bl c/\if c=true then tb σ H1 Q else Q (.bl false) H1
def aaJ(ta:TE):TE:=λσ H Q=>ta σ H λx H1=>∃c,x=.bl c/\Q (.bl (!c)) H1
theorem R8{op}{t:TE}(h:PE X a t):PE X (.BoolOp op [a] pos) t:=λBE s σ H Q I hw=>BoolOp_one (h BE s σ H Q I hw)
theorem Jo(ha:PE X a ta)(hb:PE X (.BoolOp .And (b::gI) pos) tb):PE X (.BoolOp .And (a::b::gI) pos) (aaC ta tb):=by
 intro BE s σ H Q I h;refine BoolOp_and (bJ (ha BE s σ H _ I h) λv s1 hq=>?_);rcases hq with⟨x,H1,I1,r1,q1⟩;obtain⟨c,rfl,q1⟩:=q1;cases r1;refine qk ?_;cases c with
 |true=>exact hb BE s1 σ H1 Q I1 q1
 |false=>exact⟨.bl false,H1,I1,rfl,q1⟩
theorem Im(ha:PE X a ta):PE X (.UnaryOp .Not a pos) (aaJ ta):=by
 intro BE s σ H Q I h;refine UnaryOp_ (bJ (ha BE s σ H _ I h) λv s1 hq=>?_);rcases hq with⟨x,H1,I1,r1,q1⟩;obtain⟨c,rfl,q1⟩:=q1;cases r1;exact not_of (qk ⟨.bl (!c),H1,I1,rfl,q1⟩)
end
def bU(K:ae)(H:Hp)(a:Addr)(xs:List V):Prop:=
 Rd H a (.lst xs)\/
  ∃(o:Obj)(its:Array Value)(n:Nat),K.lookup a=some o/\o.cls=.type "list"/\o.dict=none/\o.data=.seq its n/\its.size<=sizeLine/\bG xs its.toList
def dA(K:ae)(H:Hp)(a:Addr)(xs:List V):Prop:=
 Rd H a (.tup xs)\/
  ∃(o:Obj)(its:Array Value)(n:Nat),K.lookup a=some o/\(o.cls=.type "tuple"/\o.dict=none)/\o.data=.seq its n/\its.size<=sizeLine/\bG xs its.toList
def abO:Value->Option V
 |.none=>some .non
 |.bool b=>some (.bl b)
 |.int i _=>some (.int i)
 |.str x _=>some (.str x)
 |.bytes b _=>some (.byt b)
 |.float b _=>some (.flt b)
 |.ref a=>some (.ref a)
 |.type n=>some (.ty n)
 |_=>none
theorem bY.abs{x:V}{u:Value}(r:bY x u):abO u=some x:=by
 cases x with
 |non=>cases r;rfl
 |bl _=>cases r;rfl
 |int _=>obtain⟨t,rfl⟩:=r;rfl
 |str _=>obtain⟨t,rfl⟩:=r;rfl
 |byt _=>obtain⟨t,rfl⟩:=r;rfl
 |flt _=>obtain⟨t,rfl⟩:=r;rfl
 |ref _=>cases r;rfl
 |ty _=>cases r;rfl
theorem bY.inj{x y:V}{u:Value}(r:bY x u)(q:bY y u):x=y:=cj (r.abs.symm.trans q.abs)
theorem bG.inj:∀{xs ys:List V}{us:AW},bG xs us->bG ys us->xs=ys
 |_,_,_,.nil,.nil=>rfl
 |_,_,_,.cons r t,.cons r' t'=>by rw[r.inj r',bG.inj t t']
section
variable{X:Cx}{BE:List (Addr×Obj)}{σ:St}{H:Hp}{s:aa}{a:Addr}{xs ys:List V}
theorem bU.of{K:ae}(h:H a=some (.lst xs)):bU K H a xs:=.inl (.inl h)
theorem dA.of{K:ae}(h:H a=some (.tup xs)):dA K H a xs:=.inl (.inl h)
theorem aH.list(I:aH X BE σ H s)(h:bU X.K H a xs):∃its:AW,bG xs its/\PlainL s.heap a its.toArray/\xs.length<=sizeLine:=by
 rcases h with h |⟨o,its,n,hk,hc,hd,hs,hz,r⟩
 .obtain⟨z,its,n,r,e⟩:=h.ok I.hok
  exact⟨its,r,⟨_,n,e,rfl,rfl,rfl⟩,z⟩
 .refine⟨its.toList,r,⟨o,n,I.kIn a o hk,hc,hd,by simpa using hs⟩,?_⟩
  have e:=r.length;simp only[jx]at e;omega
theorem aH.tuple(I:aH X BE σ H s)(h:dA X.K H a xs):∃its:AW,bG xs its/\IsTup s.heap a its.toArray/\xs.length<=sizeLine:=by
 rcases h with h |⟨o,its,n,hk,hc,hs,hz,r⟩
 .obtain⟨z,its,r,p⟩:=h.ok I.hok
  exact⟨its,r,p,z.1⟩
 .refine⟨its.toList,r,⟨o,I.kIn a o hk,hc.1,n,by simpa using hs⟩,?_⟩
  have e:=r.length;simp only[jx]at e;omega
theorem aH.list_inj(I:aH X BE σ H s)(h:bU X.K H a xs)(h':bU X.K H a ys):xs=ys:=by
 obtain⟨its,r,⟨o,n,e,_,_,d⟩,_⟩:=I.list h;obtain⟨its',r',⟨o',n',e',_,_,d'⟩,_⟩:=I.list h';rw[e]at e';cases e';rw[d]at d';injection d' with d1 _;have:its=its':=by simpa using congrArg vk d1
 subst this;exact r.inj r'
theorem aH.tuple_inj(I:aH X BE σ H s)(h:dA X.K H a xs)(h':dA X.K H a ys):xs=ys:=by
 obtain⟨its,r,⟨o,e,_,n,d⟩,_⟩:=I.tuple h;obtain⟨its',r',⟨o',e',_,n',d'⟩,_⟩:=I.tuple h';rw[e]at e';cases e';rw[d]at d';injection d' with d1 _;have:its=its':=by simpa using congrArg vk d1
 subst this;exact r.inj r'
end
abbrev Cx.wish(X:Cx)(E:Value->aa->Prop):Cx:={X with xe:=E}
abbrev Cx.nox(X:Cx):Cx:=X.wish λ_ _=>False
theorem Cx.Ok.wish{X:Cx}(ok:X.Ok)(E:Value->aa->Prop):(X.wish E).Ok:=
 ⟨ok.mod,ok.kind,ok.glob,ok.blt,ok.above,ok.inj,ok.has,ok.cab,ok.hd,ok.frames,ok.stk,ok.exf,ok.bs,ok.bsz,ok.noex,ok.exfs,ok.funs,ok.frf⟩
theorem Cx.Ok.unwish{X:Cx}{E:Value->aa->Prop}(ok:(X.wish E).Ok):X.Ok:=
 ⟨ok.mod,ok.kind,ok.glob,ok.blt,ok.above,ok.inj,ok.has,ok.cab,ok.hd,ok.frames,ok.stk,ok.exf,ok.bs,ok.bsz,ok.noex,ok.exfs,ok.funs,ok.frf⟩
section
variable{X:Cx}{BE:List (Addr×Obj)}{σ:St}{H:Hp}{s:aa}{E:Value->aa->Prop}
theorem aH.wish(I:aH X BE σ H s)(E:Value->aa->Prop):aH (X.wish E) BE σ H s:=⟨I.ok.wish E,I.os,I.bare,I.base,I.loc,I.cell,I.free,I.freeC,I.pin,I.hok,I.len⟩
theorem aH.unwish(I:aH (X.wish E) BE σ H s):aH X BE σ H s:=⟨I.ok.unwish,I.os,I.bare,I.base,I.loc,I.cell,I.free,I.freeC,I.pin,I.hok,I.len⟩
theorem SP.unwish{D:kW}{f:Flow}{s':aa}(h:SP (X.wish E) BE D f s'):SP X BE D f s':=by
 cases f with
 |next=>obtain⟨σ',H',I,q⟩:=h;exact⟨σ',H',I.unwish,q⟩
 |brk=>obtain⟨σ',H',I,q⟩:=h;exact⟨σ',H',I.unwish,q⟩
 |cont=>obtain⟨σ',H',I,q⟩:=h;exact⟨σ',H',I.unwish,q⟩
 |ret u=>obtain⟨v,σ',H',I,r,q⟩:=h;exact⟨v,σ',H',I.unwish,r,q⟩
theorem fO.nox{st:List Stmt}{t:TS}(h:fO X.nox st t):fO X st t:=λBE s σ H D I hw=>
 iy (h BE s σ H D (I.wish _) hw) (λ_ _ q=>q.unwish) λ_ _ z=>iz z
end
section
variable{X:Cx}{st:Stmt}{gI:List Stmt}{t u:TS}{e:ag}{te:TE}{pos:ai}
def aaP:TS:=λD σ H=>D.nx σ H
def abW(t u:TS):TS:=λD σ H=>t {D with nx:=u D} σ H
theorem Uz:fO X [] aaP:=λ_ _ σ H _ I h=>oh ⟨σ,H,I,h⟩
theorem Rx(h1:PS X st t)(h2:fO X gI u):fO X (st::gI) (abW t u):=by
 intro BE s σ H D I h;refine vm (bJ (h1 BE s σ H {D with nx:=u D} I h) λf s1 q=>?_);cases f with
 |next=>
  obtain⟨σ',H',I',q⟩:=q;exact h2 BE s1 σ' H' D I' q
 |ret v=>exact q
 |brk=>exact q
 |cont=>exact q
theorem Da(h1:PS X st t):fO X [st] t:=by
 intro BE s σ H D I h;refine vm (bJ (h1 BE s σ H D I h) λf s1 q=>?_);cases f with
 |next=>exact oh q
 |ret v=>exact q
 |brk=>exact q
 |cont=>exact q
theorem aH.quiet{BE:List (Addr×Obj)}{σ:St}{H:Hp}{s:aa}(I:aH X BE σ H s):interactive X.env=false:=by simp[interactive,I.ok.kind]
def aag(te:TE):TS:=λD σ H=>te σ H λ_ H1=>D.nx σ H1
theorem B3(he:PE X e te)(hs:swapsWith e none pos.line X.env=pure false:=by rfl):PS X (.Expr e pos) (aag te):=by
 intro BE s σ H D I h;exact wpAny_Expr_any (bJ (he BE s σ H _ I h) λv s1 ⟨x,H1,I1,r1,q1⟩=>⟨σ,H1,I1,q1⟩) I.quiet hs
def abS(te:TE):TS:=λD σ H=>te σ H D.rt
theorem Q1(he:PE X e te):PS X (.Return (some e) pos) (abS te):=by
 intro BE s σ H D I h;exact wpAny_Return_some (bJ (he BE s σ H _ I h) λv s1 ⟨x,H1,I1,r1,q1⟩=>⟨x,σ,H1,I1,r1,q1⟩)
def abQ(c:TT)(t u:TS):TS:=λD σ H=>c σ H λb H1=>if b=true then t D σ H1 else u D σ H1
theorem aaM{c:ag}{a b:List Stmt}{tc:TT}(hc:PT X c tc)(ha:fO X a t)(hb:fO X b u):PS X (.If c a b pos) (abQ tc t u):=by
 intro BE s σ H D I h;refine wpAny_If (bJ (hc BE s σ H _ I h) λd s1 hq=>?_);rcases hq with⟨H1,I1,q1⟩;cases d with
 |true=>exact ha BE s1 σ H1 D I1 q1
 |false=>exact hb BE s1 σ H1 D I1 q1
end
abbrev TG:=V->St->Hp->(St->Hp->Prop)->Prop
abbrev lQ:=List V->St->Hp->(St->Hp->Prop)->Prop
def PG(X:Cx)(target:ag)(t:TG):Prop:=
 ∀(BE:List (Addr×Obj))(s:aa)(σ:St)(H:Hp)(v:V)(u:Value)(Q:St->Hp->Prop),aH X BE σ H s->bY v u->t v σ H Q->
  wpAny (model X.prog X.w) X.A (assign target X.env u) (λ_ s'=>∃σ' H',aH X BE σ' H' s'/\Q σ' H') X.xe s
def kX(X:Cx)(ts:List ag)(t:lQ):Prop:=
 ∀(BE:List (Addr×Obj))(s:aa)(σ:St)(H:Hp)(vs:List V)(us:AW)(Q:St->Hp->Prop),aH X BE σ H s->bG vs us->t vs σ H Q->
  wpAny (model X.prog X.w) X.A (assignInOrder ((assignEach ts X.env).map (·.2)) us) (λ_ s'=>∃σ' H',aH X BE σ' H' s'/\Q σ' H') X.xe s
abbrev Qc:=V->V->V->Hp->(Hp->Prop)->Prop
def Bq(X:Cx)(t:Qc):Prop:=
 ∀(BE:List (Addr×Obj))(s:aa)(σ:St)(H:Hp)(o i v:V)(ov iv u:Value)(Q:Hp->Prop),aH X BE σ H s->bY o ov->bY i iv->bY v u->t o i v H Q->
  wpAny (model X.prog X.w) X.A (setItem ov iv u) (λ_ s'=>∃H',aH X BE σ H' s'/\Q H') X.xe s
abbrev tH:=V->V->Hp->VK->Prop
def PIp(X:Cx)(op:ql)(t:tH):Prop:=
 ∀(BE:List (Addr×Obj))(s:aa)(σ:St)(H:Hp)(x y:V)(v u:Value)(Q:VK),aH X BE σ H s->bY x v->bY y u->t x y H Q->
  wpAny (model X.prog X.w) X.A (inplaceOp op v u) (EP X BE σ Q) X.xe s
section
variable{X:Cx}{pos:ai}
def Xb(i:Nat):TG:=λv σ H Q=>Q (σ.set i (some v)) H
theorem Tj{i:Nat}{x:Str}(hN:X.N.Nodup)(hi:X.N[i]?=some x)(hx:iW X.env.scope x)(hf:X.fn x=true\/X.env.scope.names.lookup x=some .local:=by first |exact .inl rfl |exact .inr rfl |assumption):PG X (.Name x pos) (Xb i):=by
 intro BE s σ H v u Q I r h;exact wpAny_assign_Name (mG I hN hi hx r (λs' I'=>⟨_,H,I',h⟩) hf)
def abI:lQ:=λvs σ H Q=>vs=[]/\Q σ H
def aaz(t:TG)(u:lQ):lQ:=λvs σ H Q=>∃v r,vs=v::r/\t v σ H λσ' H'=>u r σ' H' Q
theorem F7:kX X [] abI:=by
 intro BE s σ H vs us Q I r h;obtain⟨e,h⟩:=h;subst e;cases r;exact assignInOrder_nil ⟨σ,H,I,h⟩
theorem Lx{e:ag}{es:List ag}{t:TG}{u:lQ}(h1:PG X e t)(h2:kX X es u)
  (hs:(assignEach (e::es) X.env).map (·.2)=assign e X.env::(assignEach es X.env).map (·.2):=by rfl):kX X (e::es) (aaz t u):=by
 intro BE s σ H vs us Q I r h;obtain⟨v,vr,e1,h⟩:=h;subst e1;cases r with
 |cons r rr=>
  rw[hs];refine vn (bJ (h1 BE s σ H _ _ _ I r h) λ_ s1 hq=>?_);rcases hq with⟨σ1,H1,I1,q1⟩;exact h2 BE s1 σ1 H1 _ _ Q I1 rr q1
def abz(K:ae)(n:Nat)(t:lQ):TG:=λv σ H Q=>∃a xs,v=.ref a/\dA K H a xs/\xs.length=n/\t xs σ H Q
theorem Q2{es:List ag}{k:Nat}{t:lQ}{n:Nat}(hc:X.calm=true)(h:kX X es t)
  (hn:(assignEach es X.env).length=n:=by rfl)(hst:(assignEach es X.env).findIdx? (·.1)=none:=by rfl):PG X (.Tuple es k pos) (abz X.K n t):=by
 intro BE s σ H v u Q I r hw;obtain⟨a,xs,e1,hq,hl,hw⟩:=hw;subst e1;cases r;obtain⟨its,rv,ht,hz⟩:=I.tuple hq;refine assign_Tuple_tuple (I.ok.hd hc) ht (by simp[hn,<-hl,rv.length]) hst λh' hx=>?_;have I1:aH X BE σ H {s with heap:=h'}:=I.kept (t':=s.toks) λb o e=>hx b o (dm (bn e)) e;exact h BE _ σ H xs _ Q I1 (by simpa using rv) hw
def abJ(to ti:TE)(t:Qc):TG:=λv σ H Q=>to σ H λo H1=>ti σ H1 λi H2=>t o i v H2 λH3=>Q σ H3
theorem Hn{o i:ag}{to ti:TE}{t:Qc}(ho:PE X o to)(hi:PE X i ti)(hs:Bq X t)
  (ha:∀v,assign (.Subscript o i pos) X.env v=(do
   let ov <-holding [v] (eval o X.env)
   let iv <-holding [v,ov] (eval i X.env)
   standAt pos
   holding [v,ov,iv] (setItem ov iv v)
   release [v,ov,iv] []):=by intro _;rfl):PG X (.Subscript o i pos) (abJ to ti t):=by
 intro BE s σ H v u Q I r h;rw[ha];refine ah (ku (bJ (ho BE s σ H _ I h) λov s1 hq=>?_));rcases hq with⟨x,H1,I1,r1,q1⟩;refine ah (ku (bJ (hi BE s1 σ H1 _ I1 q1) λiv s2 hq=>?_));rcases hq with⟨y,H2,I2,r2,q2⟩;refine ah (rn (ah (ku (bJ (hs BE s2 σ H2 x y v ov iv u _ I2 r1 r2 r q2) λ_ s3 hq=>?_))));rcases hq with⟨H3,I3,q3⟩;exact wpAny_release ⟨σ,H3,I3,q3⟩
def Jc(te:TE)(g:TG):TS:=λD σ H=>te σ H λx H1=>g x σ H1 D.nx
theorem Jn{tg e:ag}{te:TE}{g:TG}(he:PE X e te)(hg:PG X tg g)(hs:swapsWithSole [tg] e pos.line X.env=pure false:=by rfl)(hw:swappedStores [tg] e X.env=pure none:=by rfl)
  (h1:(assignEach [tg] X.env).map (·.2)=[assign tg X.env]:=by rfl):PS X (.Assign [tg] e pos) (Jc te g):=by
 intro BE s σ H D I h;refine wpAny_Assign_stores (bJ (he BE s σ H _ I h) λv s1 hq=>?_) hs hw;rcases hq with⟨x,H1,I1,r1,q1⟩;rw[h1];exact bJ (hg BE s1 σ H1 x v _ I1 r1 q1) λ_ s2 q=>q
theorem Km{i:Nat}{x:Str}{e:ag}{te:TE}{pos':ai}(hN:X.N.Nodup)(hi:X.N[i]?=some x)(hx:iW X.env.scope x)(he:PE X e te)(hs:swapsWith e (some (.Name x pos')) pos.line X.env=pure false:=by rfl)(hf:X.fn x=true\/X.env.scope.names.lookup x=some .local:=by first |exact .inl rfl |exact .inr rfl |assumption):
  PS X (.Assign [.Name x pos'] e pos) (Jc te (Xb i)):=by
 intro BE s σ H D I h;refine wpAny_Assign_Name (bJ (he BE s σ H _ I h) λv s1 hq=>?_) hs;rcases hq with⟨y,H1,I1,r1,q1⟩;exact mG I1 hN hi hx r1 (λs2 I2=>⟨_,H1,I2,q1⟩) hf
def abx(i j:Nat)(ta:TA):TS:=λD σ H=>ta σ H λvs H1=>∃v w,vs=[v,w]/\D.nx ((σ.set i (some v)).set j (some w)) H1
theorem W7{i j:Nat}{x y:Str}{a b:ag}{ta:TA}{px py pt:ai}{kt k2 pt2}(hc:X.calm=true)(hN:X.N.Nodup)(hi:X.N[i]?=some x)(hj:X.N[j]?=some y)(hij:i≠j)
  (hx:X.env.scope.names.lookup x=some .local)(hy:X.env.scope.names.lookup y=some .local)(ha:PA X [a,b] ta)
  (hw:swappedStores [.Tuple [.Name x px,.Name y py] kt pt] (.Tuple [a,b] k2 pt2) X.env=pure (some [x,y]))
  (hs:swapsWithSole [.Tuple [.Name x px,.Name y py] kt pt] (.Tuple [a,b] k2 pt2) pos.line X.env=pure false:=by rfl):
  PS X (.Assign [.Tuple [.Name x px,.Name y py] kt pt] (.Tuple [a,b] k2 pt2) pos) (abx i j ta):=by
 intro BE s σ H D I h;rw[exec_Assign_arm];refine ah (rn ?_);rw[hs];refine ah (bi ?_);rw[if_neg (by decide)];refine ah (Tuple_ (bJ (ha _ BE s σ H _ I h) λus s1 hq=>?_));rcases hq with⟨vs,H1,I1,r1,q1⟩;obtain⟨v,w,e1,q1⟩:=q1;subst e1;obtain⟨u1,u2,rfl,rv,rw'⟩:∃u1 u2,us=[u1,u2]/\bY v u1/\bY w u2:=by
  cases r1 with
  |cons p q=>
   cases q with
   |cons p' q'=>
    cases q';exact⟨_,_,rfl,p,p'⟩
 refine ke ?_ (by show 2<=sizeLine;decide);have I2:aH X BE σ H1 {s1 with heap:=s1.heap.push {cls:=.type "tuple",data:=.seq [u1,u2].toArray}}:=I1.kept (t':=s1.toks) λb o e=>az _ e;rw[hw];refine ah (bi ?_);show wpAny (model X.prog X.w) X.A (do rule "assign.swapped-stores";let items <-unpackItems (.ref s1.heap.objs.size) 2 none;assignInOrder [λv=>bindName X.env y v,λv=>bindName X.env x v] items.reverse;pure Flow.next) _ _ _
 refine ah (oi (ah (unpackItems_tuple (items:=#[u1,u2]) (I.ok.hd hc) (rp s1.heap _) λh' hx'=>?_)));have I3:=I2.kept (h':=h') (t':=s1.toks) λb o e=>hx' b o (dm (bn e)) e;show wpAny _ _ (assignInOrder [λv=>bindName X.env y v,λv=>bindName X.env x v] [u2,u1] >>= λ_=>pure Flow.next) _ _ _
 refine ah (vn (wpAny_bindName (mG I3 hN hj (.inl hy) rw' (λs2 I4=>?_) (.inr hy))));refine vn (wpAny_bindName (mG I4 hN hi (.inl hx) rv (λs3 I5=>assignInOrder_nil (bi ?_)) (.inr hx)));rw[List.set_comm _ _ (jb hij)]at I5;exact⟨_,H1,I5,q1⟩
def abh(i:Nat)(te:TE)(ti:tH):TS:=λD σ H=>∃x,σ[i]?=some (some x)/\te σ H λy H1=>ti x y H1 λz H2=>D.nx (σ.set i (some z)) H2
theorem Sn{i:Nat}{x:Str}{e:ag}{te:TE}{op:ql}{ti:tH}{pos':ai}(hN:X.N.Nodup)(hi:X.N[i]?=some x)(hx:iW X.env.scope x)(he:PE X e te)(ho:PIp X op ti)(hf:X.fn x=true\/X.env.scope.names.lookup x=some .local:=by first |exact .inl rfl |exact .inr rfl |assumption):
  PS X (.AugAssign (.Name x pos') op e pos) (abh i te ti):=by
 intro BE s σ H D I h;obtain⟨v,e1,h⟩:=h;obtain⟨m,hn,hl⟩:=I.loc;have vis:nG X.env.scope x:=by rcases hx with k |k;exact .inl k;exact .inr (.inl k)
 obtain⟨u,r,l⟩:=hl i x v hi e1 vis;refine wpAny_AugAssign_Name ?_;have go:wpAny (model X.prog X.w) X.A (eval e X.env) (λw BK=>wpAny (model X.prog X.w) X.A (inplaceOp op u w) (λr s₃=>wpAny (model X.prog X.w) X.A (storeName X.env x r) (λ_=>SP X BE D .next) X.xe s₃) X.xe BK) X.xe s:=by
  refine bJ (he BE s σ H _ I h) ?_
  rintro w s1 ⟨y,H1,I1,r1,q1⟩
  refine bJ (ho BE s1 σ H1 v y u w _ I1 r r1 q1) ?_
  rintro z s2 ⟨zv,H2,I2,r2,q2⟩
  exact mG I2 hN hi hx r2 (λs3 I3=>⟨_,H2,I3,q2⟩) hf
 rcases l with⟨hk,hm⟩|⟨hk,c,hc,hcell⟩
 .exact yz I.ok.kind hk hn hm go
 .rcases hk with hk |hk
  .exact zb I.ok.kind hk hc hcell go
  .rcases hx with k |k
   .have:X.env.scope.names.lookup x=some .free:=hk
    rw[k]at this;cases this
   .have:X.env.scope.names.lookup x=some .free:=hk
    rw[k]at this;cases this
def Jd(f:Int->Int->Int):tH:=λx y H Q=>∃i j,x=.int i/\y=.int j/\Q (.int (f i j)) H
theorem W5:PIp X .Add (Jd λi j=>i+j):=by
 intro BE s σ H x y v u Q I r1 r2 h;obtain⟨i,j,e1,e2,q⟩:=h;subst e1;subst e2;obtain⟨t,rfl⟩:=r1;obtain⟨t',rfl⟩:=r2;exact iadd_int ⟨.int _,H,I.tok _,⟨_,rfl⟩,q⟩
theorem T7:PIp X .Sub (Jd λi j=>i-j):=by
 intro BE s σ H x y v u Q I r1 r2 h;obtain⟨i,j,e1,e2,q⟩:=h;subst e1;subst e2;obtain⟨t,rfl⟩:=r1;obtain⟨t',rfl⟩:=r2;exact isub_int ⟨.int _,H,I.tok _,⟨_,rfl⟩,q⟩
end
section
variable{X:Cx}{pos:ai}
def O8(c:TT)(tb:TS):TS:=λD σ H=>∃W:Nat->St->Hp->Prop,(∃m,W m σ H)/\∀m σ H,W m σ H->
 c σ H λb H1=>if b=true then ∃N:St->Hp->Prop,(∀σ' H',N σ' H'->∃m',m'<m/\W m' σ' H')/\tb {D with nx:=N,ct:=N,bk:=D.nx} σ H1 else D.nx σ H1
theorem Dx{c:ag}{body:List Stmt}{tc:TT}{tb:TS}(hp:qm (model X.prog X.w) X.A X.env X.xe)(hc:PT X c tc)(hb:fO X body tb):PS X (.While c body [] pos) (O8 tc tb):=by
 intro BE s σ H D I h;obtain⟨W,⟨m0,w0⟩,turn⟩:=h;refine wpAny_While (codeAny_whileLoop (λn s'=>∃σ' H',aH X BE σ' H' s'/\W n σ' H') ?_ m0 ⟨σ,H,I,w0⟩)
 rintro n s1 ⟨σ1,H1,I1,w1⟩
 refine my hp (bJ (hc BE s1 σ1 H1 _ I1 (turn n σ1 H1 w1)) λb s2 hq=>?_);rcases hq with⟨H2,I2,q2⟩;cases b with
 |true=>
  obtain⟨N,hN,q2⟩:=q2;rw[if_pos rfl];refine my hp (bJ (hb BE s2 σ1 H2 _ I2 q2) λf s3 q3=>?_);cases f with
  |next=>
   obtain⟨σ3,H3,I3,n3⟩:=q3;obtain⟨m',hm,w3⟩:=hN σ3 H3 n3;exact⟨m',hm,σ3,H3,I3,w3⟩
  |cont=>
   obtain⟨σ3,H3,I3,n3⟩:=q3;obtain⟨m',hm,w3⟩:=hN σ3 H3 n3;exact⟨m',hm,σ3,H3,I3,w3⟩
  |brk=>exact q3
  |ret v=>exact q3
 |false=>
  rw[if_neg ng];exact oh ⟨σ1,H2,I2,q2⟩
end
structure It where
 go:Nat->Hp->Prop
 yld:Nat->Hp->V->Hp->Prop
 stop:Nat->Hp->Prop
def fX(X:Cx)(BE:List (Addr×Obj))(H:Hp)(b:Addr):Prop:=
 H b=none/\b≠X.env.locals/\b∉X.fs/\(b∈X.ex\/X.BF.heap.objs.size<=b)/\(∀x c,X.env.cells.lookup x=some c->c≠b)/\∀p∈X.pn++BE,p.1≠b
theorem aH.fpOk{X:Cx}{BE:List (Addr×Obj)}{σ:St}{H H':Hp}{s:aa}{b:Addr}(I:aH X BE σ H s)(hb:s.heap.objs.size<=b)(hn:H' b=none):fX X BE H' b:=by
 refine⟨hn,oj (df I.lt hb),I.nofs hb,.inr (fk I.sz hb),λx c e z=>?_,λp hp z=>?_⟩
 .obtain⟨v,q⟩:=I.cell x c e
  exact absurd (df q.lt (by rw[z];exact hb)) (jh _)
 .exact absurd (df (bn (I.pin p hp).1) (by rw[z];exact hb)) (jh _)
structure qI(P:Program)(w:am)(K:ae)(tg:ag)(J:It)(fp:List Addr)(it:Addr)(tn:Nat->Heap->Prop):Prop where
 mem:it∈fp
 obj:∀i h,tn i h->∀b∈fp,∃o,h.get? b=some o/\∀v,o.data≠.cell v
 keep:∀i h h',tn i h->(∀b∈fp,∀o,h.get? b=some o->h'.get? b=some o)->tn i h'
 item:∀(X:Cx),X.prog=P->X.w=w->X.K=K->X.calm=true->∀(i:Nat)(BE:List (Addr×Obj))(s:aa)(σ:St)(H:Hp)(E:Value->aa->Prop),aH X BE σ H s->(∀b∈fp,fX X BE H b)->tn i s.heap->J.go i H->
  wpAny (model P w) X.A (pyNext (.ref it)) (λr s1=>∃u,r=some u/\
   wpAny (model P w) X.A (letOwnedTupleGo tg (.ref it) u) (λ_ s2=>∃x H',aH X BE σ H' s2/\bY x u/\J.yld i H x H'/\tn (i+1) s2.heap/\∀b∈fp,H' b=none) E s1) E s
 done:∀(X:Cx),X.prog=P->X.w=w->X.K=K->X.calm=true->∀(i:Nat)(BE:List (Addr×Obj))(s:aa)(σ:St)(H:Hp)(E:Value->aa->Prop),aH X BE σ H s->(∀b∈fp,fX X BE H b)->tn i s.heap->J.stop i H->
  wpAny (model P w) X.A (pyNext (.ref it)) (λr s1=>r=none/\aH X BE σ H s1) E s
 self:∀(A:ao)(i:Nat)(s:aa)(Q:Value->aa->Prop)(E:Value->aa->Prop),tn i s.heap->Q (.ref it) s->wpAny (model P w) A (pyIter (.ref it)) Q E s
abbrev TI:=St->Hp->(It->Hp->Prop)->Prop
def Lq(X:Cx)(BE:List (Addr×Obj))(σ:St)(tg:ag)(R:It->Hp->Prop)(itv:Value)(s2:aa):Prop:=
 ∃(it:Addr)(fp:List Addr)(tn:Nat->Heap->Prop)(J:It)(H':Hp),itv=.ref it/\aH X BE σ H' s2/\qI X.prog X.w X.K tg J fp it tn/\tn 0 s2.heap/\(∀b∈fp,fX X BE H' b)/\R J H'
def PI(X:Cx)(tg iter:ag)(wi:TI):Prop:=
 ∀(BE:List (Addr×Obj))(s:aa)(σ:St)(H:Hp)(R:It->Hp->Prop),aH X BE σ H s->wi σ H R->
  wpAny (model X.prog X.w) X.A (eval iter X.env) (λv s1=>wpAny (model X.prog X.w) X.A (pyIter v) (Lq X BE σ tg R) X.xe s1) X.xe s
theorem Yb {M : jw} {A : ao} {E : Value → aa → Prop} {s : aa} {tg : ag} {it : Addr} {u : Value} {o : Obj} {n : String} {vs : Array Value} {Q : Unit → aa → Prop} (ho : s.heap.get? it = some o) (hc : o.cls = .type n) (hd : o.data = .fields vs)
    (hn : ["enumerate", "zip", "dict_itemiterator", "dict_reverseitemiterator", "odict_iterator", "itertools.zip_longest", "itertools.pairwise"].contains n = false) (hQ : Q () s) : wpAny M A (letOwnedTupleGo tg (.ref it) u) Q E s := by
  unfold letOwnedTupleGo;cases tg <;> first
    | exact bi hQ
    | (cases u <;> first
        | exact bi hQ
        | (refine ah (wpAny_load ho ?_)
           rw [hc, hd];show wpAny M A (if (["enumerate", "zip", "dict_itemiterator", "dict_reverseitemiterator", "odict_iterator", "itertools.zip_longest", "itertools.pairwise"].contains n && vs[0]? == some (rawInt _)) = true then _ else _) Q E s;rw [if_neg (by intro h; rw [hn, Bool.false_and] at h; cases h)];exact bi hQ))
def xK(K:ae)(a:Addr):It:=
 ⟨λi H=>∃xs x,bU K H a xs/\xs[i]?=some x,λi H x H'=>H'=H/\∀xs,bU K H a xs->xs[i]?=some x,λi H=>∃xs,bU K H a xs/\xs.length<=i⟩
def Fd(K:ae)(a:Addr):It:=
 ⟨λi H=>∃xs x,dA K H a xs/\xs[i]?=some x,λi H x H'=>H'=H/\∀xs,dA K H a xs->xs[i]?=some x,λi H=>∃xs,dA K H a xs/\xs.length<=i⟩
def tI(lo:Int)(n:Nat):It:=⟨λi _=>i<n,λi H x H'=>H'=H/\x=.int (lo+i),λi _=>n<=i⟩
theorem Uu{P:Program}{w:am}{K:ae}{tg:ag}(a it:Addr):qI P w K tg (xK K a) [it] it (λi h=>h.IsListIter it a i) where
 mem:=by simp
 obj:=λi h st b hb=>by
  have e:b=it:=by simpa using hb
  subst e;obtain⟨o,e,c,d⟩:=st;exact⟨o,e,λv z=>by rw[d]at z;cases z⟩
 keep:=λi h h' st k=>st.at λo e=>k it (by simp) o e
 item:=by
  intro X hP hw hK hc i BE s σ H E I hf st hg;subst hP hw hK;obtain⟨xs,x,hq,hx⟩:=hg;obtain⟨its,rv,p,hz⟩:=I.list hq;obtain⟨u,hu,ru⟩:=rv.get hx;obtain⟨f0,f1,f2,f3,f4,f5⟩:=hf it (by simp);refine wpAny_pyNext_list_item st p.isList (x:=u) (by simpa using hu) λh' st' sb=>?_;have I1:aH X BE σ H {s with heap:=h'}:=I.turned (t':=s.toks) (λb o hb e=>(sb.2 b hb).trans e) f0 f1 f3 f4 f5;obtain⟨o,e,c,d⟩:=id st';exact⟨u,rfl,Yb (s:={s with heap:=h'}) e c d (by decide) ⟨x,H,I1,ru,⟨rfl,λys hy=>by rw[I.list_inj hy hq];exact hx⟩,st',λb hb=>(hf b hb).1⟩⟩
 done:=by
  intro X hP hw hK hc i BE s σ H E I hf st hg;subst hP hw hK;obtain⟨xs,hq,hx⟩:=hg;obtain⟨its,rv,p,hz⟩:=I.list hq;obtain⟨f0,f1,f2,f3,f4,f5⟩:=hf it (by simp);have hl:=rv.length;exact wpAny_pyNext_list_end (I.ok.hd hc) st p.isList (by simp;omega) λh' eb=>⟨rfl,I.turned (t':=s.toks) (λb o hb e=>eb b o hb e) f0 f1 f3 f4 f5⟩
 self:=λ_ _ _ _ _ st h=>wpAny_pyIter_listiter st h
theorem At{P:Program}{w:am}{K:ae}{tg:ag}(a it:Addr):qI P w K tg (Fd K a) [it] it (λi h=>h.IsTupleIter it a i) where
 mem:=by simp
 obj:=λi h st b hb=>by
  have e:b=it:=by simpa using hb
  subst e;obtain⟨o,e,c,d⟩:=st;exact⟨o,e,λv z=>by rw[d]at z;cases z⟩
 keep:=λi h h' st k=>st.at λo e=>k it (by simp) o e
 item:=by
  intro X hP hw hK hc i BE s σ H E I hf st hg;subst hP hw hK;obtain⟨xs,x,hq,hx⟩:=hg;obtain⟨its,rv,p,hz⟩:=I.tuple hq;obtain⟨u,hu,ru⟩:=rv.get hx;obtain⟨f0,f1,f2,f3,f4,f5⟩:=hf it (by simp);refine wpAny_pyNext_tuple_item st (show s.heap.IsTuple a its.toArray from p) (x:=u) (by simpa using hu) λh' st' sb=>?_;have I1:aH X BE σ H {s with heap:=h'}:=I.turned (t':=s.toks) (λb o hb e=>(sb.2 b hb).trans e) f0 f1 f3 f4 f5;obtain⟨o,e,c,d⟩:=id st';exact⟨u,rfl,Yb (s:={s with heap:=h'}) e c d (by decide) ⟨x,H,I1,ru,⟨rfl,λys hy=>by rw[I.tuple_inj hy hq];exact hx⟩,st',λb hb=>(hf b hb).1⟩⟩
 done:=by
  intro X hP hw hK hc i BE s σ H E I hf st hg;subst hP hw hK;obtain⟨xs,hq,hx⟩:=hg;obtain⟨its,rv,p,hz⟩:=I.tuple hq;obtain⟨f0,f1,f2,f3,f4,f5⟩:=hf it (by simp);have hl:=rv.length;exact wpAny_pyNext_tuple_end (I.ok.hd hc) st (show s.heap.IsTuple a its.toArray from p) (by simp;omega) λh' eb=>⟨rfl,I.turned (t':=s.toks) (λb o hb e=>eb b o hb e) f0 f1 f3 f4 f5⟩
 self:=λ_ _ _ _ _ st h=>wpAny_pyIter_tupleiter st h
theorem Ys{P:Program}{w:am}{K:ae}{tg:ag}(it:Addr)(lo:Int)(n:Nat):qI P w K tg (tI lo n) [it] it (λi h=>IsRangeIter h it (lo+(i:Nat)*1) ((n:Int)-(i:Nat)) 1) where
 mem:=by simp
 obj:=λi h st b hb=>by
  have e:b=it:=by simpa using hb
  subst e;exact⟨_,st,λv z=>by
   have z':Data.fields _=Data.cell v:=z;cases z'⟩
 keep:=λi h h' st k=>k it (by simp) _ st
 item:=by
  intro X hP hw hK hc i BE s σ H E I hf st hg;subst hP hw hK;obtain⟨f0,f1,f2,f3,f4,f5⟩:=hf it (by simp);have W:=Walks.range (prog:=X.prog) (w:=X.w) (I.ok.hd hc) it lo 1 n;refine W.item i s _ _ hg st λv h' tk hv st' kk=>?_;obtain⟨t,rfl⟩:=hv;have I1:aH X BE σ H {s with heap:=h',toks:=tk}:=I.turned (λb o hb e=>kk b o (by simpa using hb) e) f0 f1 f3 f4 f5;refine⟨_,rfl,Yb (s:={s with heap:=h',toks:=tk}) (n:="range_iterator") st' rfl rfl (by decide) ⟨.int (lo+i),H,I1,⟨t,?_⟩,⟨rfl,rfl⟩,st',λb hb=>(hf b hb).1⟩⟩;rw[om]
 done:=by
  intro X hP hw hK hc i BE s σ H E I hf st hg;subst hP hw hK;obtain⟨f0,f1,f2,f3,f4,f5⟩:=hf it (by simp);exact wpAny_pyNext_range_end (I.ok.hd hc) st (by have:n<=i:=hg;omega) λh' eb=>⟨rfl,I.turned (t':=s.toks) (λb o hb e=>eb b o hb e) f0 f1 f3 f4 f5⟩
 self:=λ_ _ _ _ _ st h=>wpAny_pyIter_rangeiter st h
section
variable{X:Cx}{tg:ag}
theorem Nj{BE:List (Addr×Obj)}{σ:St}{H:Hp}{s:aa}{R:It->Hp->Prop}{E:Value->aa->Prop}{lo hi:Int}{t u v:Tok}{tk:Nat}(I:aH X BE σ H s)(h1:-(2^62)<=lo)(h2:lo<2^62)(h3:-(2^62)<=hi)(h4:hi<2^62)
  (q:R (tI lo (hi-lo).toNat) H):wpAny (model X.prog X.w) X.A (pyIter (.ref s.heap.objs.size)) (Lq X BE σ tg R) E {s with heap:=s.heap.push {cls:=.type "range",data:=.fields #[.int lo t,.int hi u,.int 1 v]},toks:=tk}:=by
 refine wpAny_pyIter_range (IsRange.new ..) (small_one h1 h2 h3 h4) ?_;have I1:aH X BE σ H {s with heap:=s.heap.push {cls:=.type "range",data:=.fields #[.int lo t,.int hi u,.int 1 v]},toks:=tk}:=I.kept λb o e=>az _ e;refine⟨(s.heap.push {cls:=.type "range",data:=.fields #[.int lo t,.int hi u,.int 1 v]}).objs.size,[(s.heap.push {cls:=.type "range",data:=.fields #[.int lo t,.int hi u,.int 1 v]}).objs.size],_,_,H,rfl,
  I1.kept (t':=tk) λb o e=>az _ e,Ys _ lo (hi-lo).toNat,?_,λb hb=>?_,q⟩
 .have e1:lo+((0:Nat):Int)*1=lo:=by simp
  have e2:(((hi-lo).toNat:Nat):Int)-((0:Nat):Int)=Builtin.Range.rangeSize lo hi 1:=by rw[rangeSize_one];split<;>omega
  show IsRangeIter _ _ (lo+((0:Nat):Int)*1) ((((hi-lo).toNat:Nat):Int)-((0:Nat):Int)) 1;rw[e1,e2];exact du _ rfl
 .have e:b=(s.heap.push {cls:=.type "range",data:=.fields #[.int lo t,.int hi u,.int 1 v]}).objs.size:=by simpa using hb
  subst e;exact I1.fpOk (ar _) (I1.hok.fresh (ar _))
def aay(ta:TA):TI:=λσ H R=>ta σ H λvs H1=>∃j:Int,vs=[.int j]/\-(2^62)<=j/\j<2^62/\R (tI 0 j.toNat) H1
def aan(ta:TA):TI:=λσ H R=>ta σ H λvs H1=>∃i j:Int,vs=[.int i,.int j]/\(-(2^62)<=i/\i<2^62/\-(2^62)<=j/\j<2^62)/\R (tI i (j-i).toNat) H1
theorem Vv{a:ag}{ta:TA}{p pos:ai}(hg:Gl X "range")(hm:X.mg "range"=none)(ha:PA X [a] ta)(hs:starEach [a] X.env=[(false,eval a X.env)]:=by rfl):PI X tg (.Call (.Name "range" p) [a] [] pos) (aay ta):=by
 intro BE s σ H R I h;refine Call_ (nX I hg hm boot_range (qo (bJ (ha pos BE s σ H _ I h) λus s1 hq=>?_) hs rfl));rcases hq with⟨vs,H1,I1,r1,q1⟩;obtain⟨j,e,q1,q2,q⟩:=q1;subst e;cases r1 with
 |cons r rr=>
  cases rr;obtain⟨t,rfl⟩:=r;exact call_range_1 (Nj I1 (by omega) (by omega) q1 q2 (by simpa using q))
theorem Eu{a b:ag}{ta:TA}{p pos:ai}(hg:Gl X "range")(hm:X.mg "range"=none)(ha:PA X [a,b] ta)(hs:starEach [a,b] X.env=[(false,eval a X.env),(false,eval b X.env)]:=by rfl)(hs2:starEach [b] X.env=[(false,eval b X.env)]:=by rfl):
  PI X tg (.Call (.Name "range" p) [a,b] [] pos) (aan ta):=by
 intro BE s σ H R I h;refine Call_ (nX I hg hm boot_range (qo (bJ (ha pos BE s σ H _ I h) λus s1 hq=>?_) (by rw[hs,hs2]) (by rw[hs2];rfl)));rcases hq with⟨vs,H1,I1,r1,q1⟩;obtain⟨i,j,e,⟨q1,q2,q3,q4⟩,q⟩:=q1;subst e;cases r1 with
 |cons r rr=>
  cases rr with
  |cons r' rr=>
   cases rr;obtain⟨t,rfl⟩:=r;obtain⟨t',rfl⟩:=r';exact call_range_2 (Nj I1 q1 q2 q3 q4 q)
def abP(wi:TI)(g:TG)(tb:TS):TS:=λD σ H=>wi σ H λJ H1=>∃W:Nat->Nat->St->Hp->Prop,(∃m,W 0 m σ H1)/\∀i m σ H,W i m σ H->
 (J.stop i H/\D.nx σ H)\/(J.go i H/\∃N:St->Hp->Prop,(∀σ' H',N σ' H'->∃m',m'<m/\W (i+1) m' σ' H')/\∀x H',J.yld i H x H'->g x σ H' λσ2 H2=>tb {D with nx:=N,ct:=N,bk:=D.nx} σ2 H2)
def vU(fp:List Addr)(h:Heap):List (Addr×Obj):=fp.filterMap λb=>(h.get? b).map λo=>(b,o)
theorem oZ{fp:List Addr}{h:Heap}{b:Addr}{o:Obj}(hb:b∈fp)(e:h.get? b=some o):(b,o)∈vU fp h:=oo.mpr ⟨b,hb,by rw[e];rfl⟩
theorem Jv{fp:List Addr}{h:Heap}{p:Addr×Obj}(hp:p∈vU fp h):p.1∈fp/\h.get? p.1=some p.2:=by
 obtain⟨b,hb,e⟩:=oo.mp hp;cases q:h.get? b with
 |none=>rw[q]at e;cases e
 |some o=>
  rw[q]at e;have e':(b,o)=p:=cj e;subst e';exact⟨hb,q⟩
theorem aH.pinned{BE:List (Addr×Obj)}{σ:St}{H:Hp}{s:aa}{fp:List Addr}(I:aH X BE σ H s)(hf:∀b∈fp,fX X BE H b)(ho:∀b∈fp,∃o,s.heap.get? b=some o/\∀v,o.data≠.cell v):aH X (BE++vU fp s.heap) σ H s:=
 I.pins_of λp hp=>(ck.mp hp).elim (λz=>I.pin p (gr _ z)) λz=>by
  obtain⟨hb,e⟩:=Jv z;obtain⟨f0,f1,f2,_⟩:=hf p.1 hb;obtain⟨o,e',d⟩:=ho p.1 hb;rw[e]at e';cases e';exact⟨e,f0,f1,f2,d⟩
theorem aH.unpinned{BE pl:List (Addr×Obj)}{σ:St}{H:Hp}{s:aa}(I:aH X (BE++pl) σ H s):aH X BE σ H s:=I.pins_of λp hp=>I.pin p (gr _ (ju _ hp))
theorem Pn{iter:ag}{body:List Stmt}{wi:TI}{g:TG}{tb:TS}{pos:ai}(hp:qm (model X.prog X.w) X.A X.env X.xe)(hc:X.calm=true)(hi:PI X tg iter wi)(hg:PG X tg g)(hb:fO X body tb)
  (hs:∀x,foldedSetIterable iter X.env x=pure x:=by intro _;rfl):PS X (.For tg iter body [] pos) (abP wi g tb):=by
 intro BE s σ H D I h;refine wpAny_For (bJ (hi BE s σ H _ I h) λv s1 h1=>bJ h1 λitv s2 h2=>?_) hs;obtain⟨it,fp,tn,J,H2,e,I2,T,st2,f2,W,⟨m0,w0⟩,turn⟩:=h2;subst e
 --what stays true of the iterator's objects through the loop
 have stat:∀{H':Hp},(∀b∈fp,H' b=none)->∀b∈fp,fX X BE H' b:=λhn b hb=>⟨hn b hb,(f2 b hb).2⟩;refine codeAny_forLoop_any (λn s'=>∃i σ' H',aH X BE σ' H' s'/\tn i s'.heap/\(∀b∈fp,H' b=none)/\W i n σ' H') ?_ m0 ⟨0,σ,H2,I2,st2,λb hb=>(f2 b hb).1,w0⟩
 rintro n s3 ⟨i,σ3,H3,I3,eK,fr3,w3⟩
 rcases turn i n σ3 H3 w3 with⟨stop,qn⟩|⟨go,N,hN,step⟩
 .refine my hp (bJ (T.done X rfl rfl rfl hc i BE s3 σ3 H3 X.xe I3 (stat fr3) eK stop) λr s4 hq=>?_)
  rcases hq with⟨hr,I4⟩;subst hr;exact oh ⟨σ3,H3,I4,qn⟩
 .refine my hp (bJ (T.item X rfl rfl rfl hc i BE s3 σ3 H3 X.xe I3 (stat fr3) eK go) λr s4 hq=>?_)
  rcases hq with⟨u,hr,h4⟩;subst hr;refine my hp (bJ h4 λ_ s5 hq=>?_);rcases hq with⟨x,H5,I5,r5,y5,st5,fr5⟩;have I5':=I5.pinned (stat fr5) (T.obj _ _ st5);refine my hp (bJ (hg _ s5 σ3 H5 x u _ I5' r5 (step x H5 y5)) λ_ s6 hq=>?_);rcases hq with⟨σ6,H6,I6,q6⟩;refine my hp (bJ (hb _ s6 σ6 H6 _ I6 q6) λf s7 q7=>?_);have again:∀{σ7:St}{H7:Hp},aH X (BE++vU fp s5.heap) σ7 H7 s7->N σ7 H7->∃m,m<n/\∃i σ' H',aH X BE σ' H' s7/\tn i s7.heap/\(∀b∈fp,H' b=none)/\W i m σ' H':=λ{σ7 H7} I7 n7=>by
   obtain⟨m',hm,w7⟩:=hN σ7 H7 n7;refine⟨m',hm,i+1,σ7,H7,I7.unpinned,T.keep _ _ _ st5 λb hb o e=>(I7.pin (b,o) (gr _ (gr _ (oZ hb e)))).1,λb hb=>?_,w7⟩;obtain⟨o,e,d⟩:=T.obj _ _ st5 b hb;exact(I7.pin (b,o) (gr _ (gr _ (oZ hb e)))).2.1
  cases f with
  |next=>obtain⟨σ7,H7,I7,n7⟩:=q7;exact again I7 n7
  |cont=>obtain⟨σ7,H7,I7,n7⟩:=q7;exact again I7 n7
  |brk=>obtain⟨σ7,H7,I7,q7⟩:=q7;exact⟨σ7,H7,I7.unpinned,q7⟩
  |ret v=>obtain⟨x7,σ7,H7,I7,r7,q7⟩:=q7;exact⟨x7,σ7,H7,I7.unpinned,r7,q7⟩
end
abbrev R2:=V->V->Hp->VK->Prop
def dX(X:Cx)(f:Value->Value->Sem Value)(r:R2):Prop:=
 ∀(BE:List (Addr×Obj))(s:aa)(σ:St)(H:Hp)(x y:V)(v u:Value)(Q:VK),aH X BE σ H s->bY x v->bY y u->r x y H Q->
  wpAny (model X.prog X.w) X.A (f v u) (EP X BE σ Q) X.xe s
def xM(X:Cx)(f:Value->Sem Value)(r:V->Hp->VK->Prop):Prop:=
 ∀(BE:List (Addr×Obj))(s:aa)(σ:St)(H:Hp)(x:V)(v:Value)(Q:VK),aH X BE σ H s->bY x v->r x H Q->
  wpAny (model X.prog X.w) X.A (f v) (EP X BE σ Q) X.xe s
def iE(X:Cx)(f:Value)(r:List V->Hp->VK->Prop):Prop:=
 ∀(BE:List (Addr×Obj))(s:aa)(σ:St)(H:Hp)(xs:List V)(us:AW)(Q:VK),aH X BE σ H s->bG xs us->r xs H Q->
  wpAny (model X.prog X.w) X.A (call f us) (EP X BE σ Q) X.xe s
def xH(r:R2)(ta tb:TE):TE:=λσ H Q=>ta σ H λx H1=>tb σ H1 λy H2=>r x y H2 Q
def tUn(r:V->Hp->VK->Prop)(ta:TE):TE:=λσ H Q=>ta σ H λx H1=>r x H1 Q
def rI(C:Int->Int->Prop)(g:Int->Int->V):R2:=λx y H Q=>∃i j,x=.int i/\y=.int j/\C i j/\Q (g i j) H
def jG(g:Int->Int->V):R2:=λx y H Q=>∃i j,x=.int i/\y=.int j/\Q (g i j) H
def rU(g:Int->V):V->Hp->VK->Prop:=λx H Q=>∃i,x=.int i/\Q (g i) H
section
variable{X:Cx}{a b c:ag}{ta tb tc:TE}{pos:ai}
theorem Lc(ha:PE X a ta)(hb:PE X b tb){BE:List (Addr×Obj)}{s:aa}{σ:St}{H:Hp}{R:V->V->Hp->Prop}(I:aH X BE σ H s)
  (h:ta σ H λx H1=>tb σ H1 λy H2=>R x y H2){Q:Value->aa->Prop}{f:Value->Value->Sem Value}
  (hf:∀v u s2 x y H2,aH X BE σ H2 s2->bY x v->bY y u->R x y H2->wpAny (model X.prog X.w) X.A (f v u) Q X.xe s2):
  wpAny (model X.prog X.w) X.A (eval a X.env) (λv BH=>wpAny (model X.prog X.w) X.A (eval b X.env) (λu BK=>wpAny (model X.prog X.w) X.A (f v u) Q X.xe BK) X.xe BH) X.xe s:=by
 refine bJ (ha BE s σ H _ I h) ?_
 rintro v s1 ⟨x,H1,I1,r1,q1⟩
 refine bJ (hb BE s1 σ H1 _ I1 q1) ?_
 rintro u s2 ⟨y,H2,I2,r2,q2⟩
 exact hf v u s2 x y H2 I2 r1 r2 q2
theorem Zo{op:ql}{r:R2}(ho:dX X (binaryOp op) r)(ha:PE X a ta)(hb:PE X b tb):PE X (.BinOp a op b pos) (xH r ta tb):=by
 intro BE s σ H Q I h;exact wpAny_BinOp (Lc ha hb I h λv u s2 x y H2 I2 rx ry q=>ho BE s2 σ H2 x y v u Q I2 rx ry q)
theorem aaH{op:UnaryOp}{r:V->Hp->VK->Prop}(ho:xM X (unaryOp op) r)(ha:PE X a ta):PE X (.UnaryOp op a pos) (tUn r ta):=by
 intro BE s σ H Q I h;exact UnaryOp_ (bJ (ha BE s σ H _ I h) λv s1 ⟨x,H1,I1,r1,q1⟩=>ho BE s1 σ H1 x v Q I1 r1 q1)
theorem xQ{f:Value->Value->Sem Value}{C:Int->Int->Prop}{g:Int->Int->Int}
  (rule:∀(i j:Int)(t u:Tok)(s:aa)(Q:Value->aa->Prop)(E:Value->aa->Prop),C i j->Q (.int (g i j) s.toks) {s with toks:=s.toks+1}->wpAny (model X.prog X.w) X.A (f (.int i t) (.int j u)) Q E s):
  dX X f (rI C λi j=>.int (g i j)):=by
 intro BE s σ H x y v u Q I rx ry h;obtain⟨i,j,rfl,rfl,hc,q⟩:=h;obtain⟨t,rfl⟩:=rx;obtain⟨t',rfl⟩:=ry;exact rule i j t t' s _ _ hc ⟨.int (g i j),H,I.tok _,⟨_,rfl⟩,q⟩
theorem Kq{f:Value->Value->Sem Value}{g:Int->Int->Int}
  (rule:∀(i j:Int)(t u:Tok)(s:aa)(Q:Value->aa->Prop)(E:Value->aa->Prop),Q (.int (g i j) s.toks) {s with toks:=s.toks+1}->wpAny (model X.prog X.w) X.A (f (.int i t) (.int j u)) Q E s):
  dX X f (jG λi j=>.int (g i j)):=by
 intro BE s σ H x y v u Q I rx ry h;obtain⟨i,j,rfl,rfl,q⟩:=h;obtain⟨t,rfl⟩:=rx;obtain⟨t',rfl⟩:=ry;exact rule i j t t' s _ _ ⟨.int (g i j),H,I.tok _,⟨_,rfl⟩,q⟩
theorem Vc{f:Value->Value->Sem Value}{g:Int->Int->Bool}
  (rule:∀(i j:Int)(t u:Tok)(s:aa)(Q:Value->aa->Prop)(E:Value->aa->Prop),Q (.bool (g i j)) s->wpAny (model X.prog X.w) X.A (f (.int i t) (.int j u)) Q E s):
  dX X f (jG λi j=>.bl (g i j)):=by
 intro BE s σ H x y v u Q I rx ry h;obtain⟨i,j,rfl,rfl,q⟩:=h;obtain⟨t,rfl⟩:=rx;obtain⟨t',rfl⟩:=ry;exact rule i j t t' s _ _ ⟨.bl (g i j),H,I,rfl,q⟩
def xB(i j:Int):Prop:=0<=j/\j<=1000000/\i.natAbs<2^64
def Kc(i j:Int):Prop:=(-(2^64)<i/\i<2^64)\/(-(2^64)<j/\j<2^64)
theorem Kc.ok{i j:Int}(h:Kc i j):IntMulOk i j:=by
 rcases h with⟨h1,h2⟩|⟨h1,h2⟩
 .exact .of_left (intBits_le_64 h1 h2)
 .exact .of_right (intBits_le_64 h1 h2)
theorem R5:dX X (binaryOp .Add) (jG λi j=>.int (i+j)):=Kq λ_ _ _ _ _ _ _ q=>add_int q
theorem Zm:dX X (binaryOp .Sub) (jG λi j=>.int (i-j)):=Kq λ_ _ _ _ _ _ _ q=>sub_int q
theorem Pz:dX X (binaryOp .Mod) (rI (λ_ j=>j≠0) λi j=>.int (i.fmod j)):=xQ λ_ _ _ _ _ _ _ hc q=>mod_int' hc q
theorem X6:dX X (binaryOp .Pow) (rI xB λi j=>.int (i^j.toNat)):=xQ λ_ _ _ _ _ _ _ hc q=>pow_int_small hc.1 hc.2.1 hc.2.2 q
theorem unI{f:Value->Sem Value}{g:Int->Int}
  (rule:∀(i:Int)(t:Tok)(s:aa)(Q:Value->aa->Prop)(E:Value->aa->Prop),Q (.int (g i) s.toks) {s with toks:=s.toks+1}->wpAny (model X.prog X.w) X.A (f (.int i t)) Q E s):
  xM X f (rU λi=>.int (g i)):=by
 intro BE s σ H x v Q I rx h;obtain⟨i,rfl,q⟩:=h;obtain⟨t,rfl⟩:=rx;exact rule i t s _ _ ⟨.int (g i),H,I.tok _,⟨_,rfl⟩,q⟩
theorem Q5:xM X (unaryOp .USub) (rU λi=>.int (-i)):=unI λ_ _ _ _ _ q=>neg_int q
end
section
variable{X:Cx}{a b c:ag}{ta tb tc:TE}{pos:ai}
theorem Mp:dX X (compareOp .Lt) (jG λi j=>.bl (decide (i<j))):=Vc λ_ _ _ _ _ _ _ q=>lt_int q
theorem Uo:dX X (compareOp .Gt) (jG λi j=>.bl (decide (j<i))):=Vc λ_ _ _ _ _ _ _ q=>gt_int q
theorem Fp:dX X (compareOp .GtE) (jG λi j=>.bl (decide (j<=i))):=Vc λ_ _ _ _ _ _ _ q=>ge_int q
theorem dX.or{f:Value->Value->Sem Value}{r r':R2}(h:dX X f r)(h':dX X f r'):dX X f (λx y H Q=>r x y H Q\/r' x y H Q):=by
 intro BE s σ H x y v u Q I rx ry q;rcases q with q |q
 .exact h BE s σ H x y v u Q I rx ry q
 .exact h' BE s σ H x y v u Q I rx ry q
theorem kQ(b:ag){op:kr}(h:op≠.In:=by decide)(h2:op≠.NotIn:=by decide):behindInMarks op b=false:=by
 have e1:(op==CmpOp.In)=false:=by cases op<;>first |rfl |exact absurd rfl h
 have e2:(op==CmpOp.NotIn)=false:=by cases op<;>first |rfl |exact absurd rfl h2
 cases b<;>simp[behindInMarks,e1,e2]
theorem Qz{op:kr}{r:R2}(ho:dX X (compareOp op) r)(ha:PE X a ta)(hb:PE X b tb)(hm:behindInMarks op b=false):PE X (.Compare a [op] [b] pos) (xH r ta tb):=by
 intro BE s σ H Q I h;exact wpAny_Compare1 (Lc ha hb I h λv u s2 x y H2 I2 rx ry q=>ho BE s2 σ H2 x y v u Q I2 rx ry q) hm
def Z8(t:TE):TT:=λσ H Q=>t σ H λx H'=>∃k,x=.bl k/\Q k H'
theorem K7{op:kr}{r:R2}(ho:dX X (compareOp op) r)(ha:PE X a ta)(hb:PE X b tb)(hm:behindInMarks op b=false):PT X (.Compare a [op] [b] pos) (Z8 (xH r ta tb)):=by
 intro BE s σ H Q I h;refine zd (bJ (ha BE s σ H _ I h) λv s1 ⟨x,H1,I1,r1,q1⟩=>bJ (hb BE s1 σ H1 _ I1 q1) λu s2 ⟨y,H2,I2,r2,q2⟩=>
  bJ (ho BE s2 σ H2 x y v u _ I2 r1 r2 q2) λc s3 ⟨z,H3,I3,r3,k,e,q3⟩=>?_) hm
 subst e;cases r3;exact qk ⟨H3,I3,q3⟩
theorem sE:(sizeLine:Nat)<2^63:=by rw[kw];decide
theorem kD{x:V}{us:AW}(r:bG [x] us):∃u,us=[u]/\bY x u:=by
 cases r with
 |cons r1 r2=>cases r2;exact⟨_,rfl,r1⟩
theorem wE{x y:V}{us:AW}(r:bG [x,y] us):∃u w',us=[u,w']/\bY x u/\bY y w':=by
 cases r with
 |cons r1 r2=>
  cases r2 with
  |cons r3 r4=>cases r4;exact⟨_,_,rfl,r1,r3⟩
theorem Ky:iE X (.builtin "abs") (λxs H Q=>∃i,xs=[.int i]/\Q (.int (if i<0 then-i else i)) H):=by
 intro BE s σ H xs us Q I r h;obtain⟨i,rfl,q⟩:=h;obtain⟨u,rfl,t,rfl⟩:=kD r;exact call_abs_int λu tk=>⟨.int (if i<0 then-i else i),H,I.tok _,⟨_,rfl⟩,q⟩
theorem Qu:iE X (.type "int") (λxs H Q=>(∃i,xs=[.int i]/\Q (.int i) H)\/∃k,xs=[.bl k]/\Q (.int (if k then 1 else 0)) H):=by
 intro BE s σ H xs us Q I r h;rcases h with⟨i,rfl,q⟩|⟨k,rfl,q⟩
 .obtain⟨u,rfl,t,rfl⟩:=kD r
  exact call_int_int ⟨.int i,H,I,⟨_,rfl⟩,q⟩
 .obtain⟨u,rfl,r1⟩:=kD r
  cases r1;exact call_int_bool ⟨.int (if k then 1 else 0),H,I.tok _,⟨_,rfl⟩,q⟩
end
structure Oc(h:Heap)(x dx C:Addr)(mA:Str->AX):Prop where
 obj:h.get? x=some (vb C dx)
 ns:h.Ns1 dx mA
 ne:dx≠x
theorem Zu{h:Heap}{dx:Addr}{mA:Str->AX}(n:h.Ns1 dx mA):∃od,h.get? dx=some od/\∀name,vo name od=some (mA name):=by
 obtain⟨o,es,ep,ho,hd,hk,_,hm⟩:=n;refine⟨o,ho,λname=>?_⟩;have e:=hm name;unfold nsFind findBy at e;rw[<-Array.find?_toList]at e;unfold vo;rw[hd];dsimp only;split
 .rename_i y q
  rw[q]at e;exact congrArg some e
 .rename_i q
  rw[q]at e;have a:es.toList.any (·.refKey)=false:=by
   rw[ze];intro y hy;obtain⟨z,t,hkey⟩:=hk y (Array.mem_toList_iff.mp hy);simp[DictEntry.refKey,hkey]
  have a':¬es.toList.any (·.refKey)=true:=by rw[a];exact ng
  rw[if_neg a'];exact congrArg some e
theorem Oc.look{h:Heap}{x dx C:Addr}{mA:Str->AX}(I:Oc h x dx C mA):∃od,PySem.W.InstAt h x (vb C dx) C (some od)/\∀name,vo name od=some (mA name):=
 let⟨od,ho,hl⟩:=Zu I.ns
 ⟨od,⟨I.obj,rfl,rfl,ho⟩,hl⟩
section
variable{prog:Program}{w:am}{A:ao}{E:Value->aa->Prop}{s:aa}{K:ae}{x dx C f:Addr}{mA:Str->AX}{name:Str}{v:Value}
end
section
variable{P:Program}{w:am}{H H':Hp}{h h':Heap}{a C dx:Addr}{fs fs':List (Str×V)}
theorem Vz(hok:fE P w H h)(e:H a=some (.ins C dx fs)):∃mA,Oc h a dx C mA/\(∀f,Nc (fs.lookup f) (mA f))/\yw mA (fs.map (·.1))/\fs.length<=1000/\H dx=some (.own a):=by
 obtain⟨d,z,ne,ob,mA,n,r,q⟩:=(show fN P w H h a (.ins C dx fs) from hok a _ e);exact⟨mA,⟨ob,n,ne⟩,r,q,z,d⟩
end
structure Dd(K:ae)(C:Addr):Prop where
 pg:zf K C Str.empty=true
 hd:zg K C=true
 po:PySem.W.plainOver K C=true
 sa:oq K (.ref C) "__setattr__"=some (some (.builtin "object.__setattr__"))
theorem Dd.get{K:ae}{C:Addr}(c:Dd K C)(f:Str):zf K C f=true:=c.pg
structure Hd(K:ae)(C:Addr)(f:Str)(v:V)(u:Value):Prop where
 at_:oq K (.ref C) f=some (some u)
 rel:bY v u
 get:vp K u "__get__"=some none
 cp:PySem.W.copiedNames.contains f=false
section
variable{X:Cx}{BE:List (Addr×Obj)}{σ:St}{H:Hp}{s:aa}{a C dx:Addr}{fs:List (Str×V)}{f:Str}{v:V}{A:ao}{E:Value->aa->Prop}
end
section
variable{X:Cx}{o e value:ag}{f:Str}{pos pos' tpos:ai}{ta tv:TE}
end
section
variable{X:Cx}{BE:List (Addr×Obj)}{σ:St}{H:Hp}{s:aa}{A:ao}{E:Value->aa->Prop}{Q:Value->aa->Prop}{c:Value}{b:Bool}
inductive jC(K:ae)(H:Hp):V->Value->Prop where
 |non:jC K H .non (.type "NoneType")
 |bl (x:Bool):jC K H (.bl x) (.type "bool")
 |int (i:Int):jC K H (.int i) (.type "int")
 |str (x:Str):jC K H (.str x) (.type "str")
 |flt (x:UInt64):jC K H (.flt x) (.type "float")
 |lst {a:Addr} {xs:List V} (e:H a=some (.lst xs)):jC K H (.ref a) (.type "list")
 |frz {a:Addr} {o:Obj} {xs:List V} (e:H a=some (.frz o (.lst xs))):jC K H (.ref a) (.type "list")
 |tup {a:Addr} {xs:List V} (e:H a=some (.tup xs)):jC K H (.ref a) (.type "tuple")
 |dK {a:Addr} {kvs:List (gU×V)} (e:H a=some (.dK kvs)):jC K H (.ref a) (.type "dict")
 |dT {a:Addr} {kvs:List (List gU×V)} (e:H a=some (.dT kvs)):jC K H (.ref a) (.type "dict")
 |ins {a C dx:Addr} {fs:List (Str×V)} (e:H a=some (.ins C dx fs)) (cl:Dd K C) (ha:oq K (.ref C) "__class__"=some (some (.builtin "object.__class__")))
   (hn:vp K (.builtin "object.__class__") "__get__"=some (some (.builtin "getset_descriptor.__get__"))) (htk:zh K (.builtin "object.__class__")=some true)
   (hm:vq K C (.type "object")=some true):jC K H (.ref a) (.ref C)
theorem Au{x:V}{u t:Value}(I:aH X BE σ H s)(rx:bY x u)(ty:jC X.K H x t)(e:gg X.K t c=some b)(h:∀tk,Q (.bool b) {s with toks:=tk}):
  wpAny (model X.prog X.w) A (call (.builtin "isinstance") [u,c]) Q E s:=by
 cases ty with
 |non=>cases(show u=di from rx);exact il PySem.W.kitx_none I.kIn qp e (λz=>nomatch z) h
 |bl y=>cases(show u=va y from rx);exact il PySem.W.kitx_bool I.kIn qp e (λz=>nomatch z) h
 |int i=>obtain⟨t,q⟩:=(show ∃t,u=rm i t from rx);cases q;exact il PySem.W.kitx_int I.kIn qp e (λz=>nomatch z) h
 |str y=>obtain⟨t,q⟩:=(show ∃t,u=uz y t from rx);cases q;exact il PySem.W.kitx_str I.kIn qp e (λz=>nomatch z) h
 |flt y=>obtain⟨t,q⟩:=(show ∃t,u=Value.float y t from rx);cases q;exact il PySem.W.kitx_float I.kIn qp e (λz=>nomatch z) h
 |@lst a xs ea=>
  cases(show u=dy a from rx);obtain⟨_,_,n,_,h1⟩:=(show fN X.prog X.w H s.heap a (.lst xs) from I.hok a _ ea);exact il vt I.kIn ⟨_,h1,rfl⟩ e (λz=>nomatch z) h
 |@frz a ob xs ea=>
  cases(show u=dy a from rx);obtain⟨_,_,_,n,_,h1⟩:=(show fN X.prog X.w H s.heap a (.frz ob (.lst xs)) from I.hok a _ ea);exact il vt I.kIn ⟨_,h1,rfl⟩ e (λz=>nomatch z) h
 |@tup a xs ea=>
  cases(show u=dy a from rx);obtain⟨_,_,_,p⟩:=(show fN X.prog X.w H s.heap a (.tup xs) from I.hok a _ ea);obtain⟨o,h1,h2,_⟩:=p;exact il zi I.kIn ⟨o,h1,h2⟩ e (λz=>nomatch z) h
 |@dK a kvs ea=>
  cases(show u=dy a from rx);obtain⟨_,_,vs,_,p⟩:=(show fN X.prog X.w H s.heap a (.dK kvs) from I.hok a _ ea);obtain⟨o,es,ep,h1,h2,_⟩:=p;exact il zj I.kIn ⟨o,h1,h2.1⟩ e (λz=>nomatch z) h
 |@dT a kvs ea=>
  cases(show u=dy a from rx);obtain⟨_,_,xs,_,o,es,ep,h1,h2,_⟩:=(show fN X.prog X.w H s.heap a (.dT kvs) from I.hok a _ ea);exact il zj I.kIn ⟨o,h1,h2.1⟩ e (λz=>nomatch z) h
 |@ins a C dx fs ea cl ha hn htk hm=>
  cases(show u=dy a from rx);obtain⟨mA,O,_⟩:=Vz I.hok ea;obtain⟨od,J,_⟩:=O.look;exact il (PySem.W.kitx_own (cl.get _) cl.hd ha hn htk hm) I.kIn J e (λz=>nomatch z) h
end
structure dF(k:Nat)(A:ao):Prop where
 hd:A.handled=none
 dp:A.depth+3*k+5<recursionLimit
 un:A.units+16*k+200<cLine
theorem dF.mono{j k:Nat}{A:ao}(r:dF k A)(h:j<=k):dF j A:=⟨r.hd,by have:=r.dp;omega,by have:=r.un;omega⟩
theorem dF.deeper{k:Nat}{A:ao}(r:dF (k+1) A)(env:bh):dF k (A.deeper env):=
 ⟨r.hd,by have:=r.dp;show A.depth+1+3*k+5<_;omega,by have:=r.un;show A.units+3+16*k+200<_;omega⟩
theorem dF.depth{k:Nat}{A:ao}(r:dF k A):A.depth<recursionLimit:=by have:=r.dp;omega
theorem dF.units{k:Nat}{A:ao}(r:dF k A):A.units+64<cLine:=by have:=r.un;omega
def abt:TA:=λ_ H Q=>Q [] H
def aak(ta:TE)(tr:TA):TA:=λσ H Q=>ta σ H λx H1=>tr σ H1 λxs H2=>Q (x::xs) H2
section
variable{X:Cx}{e:ag}{es:List ag}{te:TE}{t:TA}{pos:ai}
theorem kR:PA X [] abt:=λ_ _ _ _ H Q I h=>zk ⟨[],H,I,.nil,h⟩
theorem gX(ha:PE X e te)(hr:PA X es t)(hs:starEach (e::es) X.env=(false,eval e X.env)::starEach es X.env:=by rfl):PA X (e::es) (aak te t):=by
 intro pos BE s σ H Q I h;rw[hs];show wpAny _ _ (spliced ((false,eval e X.env)::backTo pos (starEach es X.env))) _ _ s;refine vw (bJ (ha BE s σ H _ I h) λu s1 hq=>?_);rcases hq with⟨x,H1,I1,r1,q1⟩;exact bJ (hr pos BE s1 σ H1 _ I1 q1) λus s2 ⟨xs,H2,I2,r2,q2⟩=>⟨x::xs,H2,I2,.cons r1 r2,q2⟩
def abL(t:TA):TE:=λσ H Q=>t σ H λxs H1=>xs.length<=sizeLine/\∀p,H1 p=none->Q (.ref p) (bA H1 p (.tup xs))
def abB(t:TA):TE:=λσ H Q=>t σ H λxs H1=>xs.length<=sizeLine/\∀p,H1 p=none->Q (.ref p) (bA H1 p (.lst xs))
theorem Hb{x1}(h:PA X es t):PE X (.Tuple es x1 pos) (abL t):=by
 intro BE s σ H Q I hq;refine zm (bJ (h pos BE s σ H _ I hq) λus s1 ⟨xs,H1,I1,r,z,q⟩=>⟨by rw[<-r.length];exact z,?_⟩);have hf:H1 s1.heap.objs.size=none:=I1.hok.fresh (ar _);refine⟨.ref s1.heap.objs.size,bA H1 s1.heap.objs.size (.tup xs),I1.laid (t':=s1.toks) (λb u e=>az _ e) (ar _) ?_,rfl,q _ hf⟩;exact⟨⟨z,_,du _ rfl,rfl⟩,us,r,⟨_,du _ rfl,rfl,_,rfl⟩⟩
theorem Bb(h:PA X es t):PE X (.List es pos) (abB t):=by
 intro BE s σ H Q I hq;refine wpAny_List_spliced (bJ (h pos BE s σ H _ I hq) λus s1 ⟨xs,H1,I1,r,z,q⟩=>⟨by rw[<-r.length];exact z,?_⟩);have hf:H1 s1.heap.objs.size=none:=I1.hok.fresh (ar _);refine⟨.ref s1.heap.objs.size,bA H1 s1.heap.objs.size (.lst xs),I1.laid (t':=s1.toks) (λb u e=>az _ e) (ar _) ?_,rfl,q _ hf⟩;exact⟨z,us,0,r,du _ rfl⟩
end
abbrev Sp:=List V->Hp->VK->XK->Prop
abbrev iV:=List bh->Hp->aa->XK->Value->aa->Prop
structure wQ(P:Program)(w:am)(K:ae)(mg:Str->AX)(base:Heap)(A:ao)(outer:List bh)(s:aa)(H:Hp):Prop where
 frames:A.frames=some outer
 mod:Mod K mg base
 bs:∀b o,base.get? b=some o->s.heap.get? b=some o/\H b=none
 bsz:base.objs.size<=s.heap.objs.size
 funs:s.heap.FunFrames base outer
 frf:∀b∈dN outer,H b=none
 hok:fE P w H s.heap
 bare:jm s.gens
def CE(outer:List bh)(P:Program)(w:am)(H:Hp)(s:aa)(Q:VK)(u:Value)(s':aa):Prop:=
 ∃v H',s'.os=s.os/\jm s'.gens/\Un (dN outer) [] H H' s.heap s'.heap/\fE P w H' s'.heap/\bY v u/\Q v H'
def CR(CX:iV)(outer:List bh)(P:Program)(w:am)(H:Hp)(s:aa)(Q:VK)(E:XK)(r:qq)(s':aa):Prop:=
 match r with
 |.ok (.ret u)=>CE outer P w H s Q u s'
 |.ok _=>False
 |.error e=>CX outer H s E e s'
structure dQ(P:Program)(w:am)(K:ae)(mg:Str->AX)(base:Heap)(CX:iV)(k:Nat)(f:Addr)(fd:br)(ps:List Str)(sp:Sp):Prop where
 len:∀vs H Q E,sp vs H Q E->vs.length=ps.length
 run:∀(A:ao)(outer:List bh)(s:aa)(H:Hp)(args:Args)(us:AW)(vs:List V)(Q:VK)(E:XK),dF k A->wQ P w K mg base A outer s H->ot s fd args (ps.zip us)->bG vs us->sp vs H Q E->
  codeAny (model P w) A (.call (.ref f) args) (CR CX outer P w H s Q E) s
theorem dQ.imp{P:Program}{w:am}{K:ae}{mg:Str->AX}{base:Heap}{CX:iV}{k:Nat}{f:Addr}{fd:br}{ps:List Str}{sp sp':Sp}(F:dQ P w K mg base CX k f fd ps sp)
  (h:∀vs H Q E,sp' vs H Q E->sp vs H Q E):dQ P w K mg base CX k f fd ps sp':=
 ⟨λvs H Q E q=>F.len vs H Q E (h _ _ _ _ q),λA outer s H args us vs Q E hr he hb hv hs=>F.run A outer s H args us vs Q E hr he hb hv (h _ _ _ _ hs)⟩
section
variable{X:Cx}{BE:List (Addr×Obj)}{σ:St}{H:Hp}{s s':aa}
theorem aH.env0(I:aH X BE σ H s):wQ X.prog X.w X.K X.mg X.base X.A X.stack s H:=
 ⟨I.ok.frames,I.ok.mod,I.bs,fk I.ok.bsz I.sz,I.stack,I.stkFree,I.hok,I.bare⟩
theorem aH.after{Q:VK}{u:Value}(I:aH X BE σ H s)(h:CE X.stack X.prog X.w H s Q u s'):EP X BE σ Q u s':=by
 obtain⟨v,H',os,bare,un,hok,r,q⟩:=h;obtain⟨hh,g,d,t,os'⟩:=s';obtain rfl:os'=s.os:=os;exact⟨v,H',I.call (h':=hh) (g':=g) (d':=d) (t':=t) (ch:=[]) un hok bare (λb z=>absurd z (by simp)),r,q⟩
end
def aaT(sp:Sp)(dvs:List V)(E:XK)(t:TA):TE:=λσ H Q=>t σ H λvs H1=>sp (vs++dvs) H1 Q E
def gR(K:ae)(fd:br)(ps:List Str)(ds:AW):Prop:=
 ∀(s:aa)(us:AW),K.In s.heap->(us++ds).length=ps.length->ot s fd ⟨us,[]⟩ (ps.zip (us++ds))
theorem gR.all{K:ae}{fd:br}{ps:List Str}(h:∀us:AW,us.length=ps.length->bindArgs fd ⟨us,[]⟩=pure (ps.zip us)):gR K fd ps []:=λs us _ hl=>by
 rw[ie]at hl⊢;exact .of_eq (h us hl)
def vO(CX:iV)(X:Cx)(E:XK):Prop:=∀(BE:List (Addr×Obj))(σ:St)(H:Hp)(s:aa)(e:Value)(s':aa),aH X BE σ H s->CX X.stack H s E e s'->X.xe e s'
section
variable{X:Cx}{CX:iV}{k:Nat}{f C:Addr}{fd:br}{ps:List Str}{sp:Sp}{dvs:List V}{ds:AW}{E:XK}{x m:Str}{p pos apos:ai}{e o:ag}{es:List ag}{ta:TE}{t:TA}
theorem M6{BE:List (Addr×Obj)}{σ:St}{H:Hp}{s:aa}{Q:VK}{us:AW}{vs:List V}(F:dQ X.prog X.w X.K X.mg X.base CX k f fd ps sp)(hr:dF k X.A)(hb:gR X.K fd ps ds)(hd:bG dvs ds)(hx:vO CX X E)
  (I:aH X BE σ H s)(r:bG vs us)(h:sp (vs++dvs) H Q E):wpAny (model X.prog X.w) X.A (call (.ref f) us) (EP X BE σ Q) X.xe s:=by
 have r2:bG (vs++dvs) (us++ds):=r.append hd;have hl:(us++ds).length=ps.length:=by rw[<-r2.length];exact F.len _ _ _ _ h
 refine wpAny_call (qr (F.run X.A X.stack s H ⟨us,[]⟩ (us++ds) (vs++dvs) Q E hr I.env0 (hb s us I.kIn hl) r2 h) λr s' hq=>?_);cases r with
 |error e=>exact hx BE σ H s e s' I hq
 |ok fl=>
  cases fl with
  |ret u=>exact I.after hq
  |next=>exact iz hq
  |brk=>exact iz hq
  |cont=>exact iz hq
theorem vK(F:dQ X.prog X.w X.K X.mg X.base CX k f fd ps sp)(hr:dF k X.A)(hg:Gl X x)(hm:X.mg x=some (.ref f))(hk:fh X.K (.ref f)=true)(hb:gR X.K fd ps ds)(hd:bG dvs ds)(hx:vO CX X E)
  (ha:PA X (e::es) t)(hdb:(x==("__debug__":Str))=false:=by decide)(he:starEach (e::es) X.env=(false,eval e X.env)::starEach es X.env:=by rfl)(hpl:(backTo pos (starEach es X.env)).any (·.1)=false:=by rfl):
  PE X (.Call (.Name x p) (e::es) [] pos) (aaT sp dvs E t):=by
 intro BE s σ H Q I h;refine sf (rP I hg hm ?_ hdb);refine zn (h₀:=X.base) I.ok.mod.kin hk (bJ (ha pos BE s σ H _ I h) λus s1 ⟨vs,H1,I1,r,q⟩=>⟨I1.kIn,?_⟩) he hpl;exact M6 F hr hb hd hx I1 r q
end
section
variable{X:Cx}{CX:iV}{k:Nat}{f C:Addr}{fd:br}{ps ks:List Str}{sp:Sp}{E:XK}{x m:Str}{p pos apos kpos:ai}{e o:ag}{es:List ag}{kws:List kg}{te ta:TE}{t tk:TA}{nm:Option Str}
variable{g:AW->AW->AW}{gV:List V->List V->List V}
end
structure iF(N P:List Str)(sc:Scope):Prop where
 kind:sc.kind=.function
 co:sc.isCoroutine=false
 gen:sc.isGenerator=false
 nd:N.Nodup
 pre:N.take P.length=P
 par:∀x∈P,sc.names.lookup x=some .local\/sc.names.lookup x=some .cell
 nofree:∀y∈sc.names,y.2≠.free
theorem Mh{kindOf:Str->Option gw}{x:Str}:∀{binds:List (Str×Value)}{m:Str->AX},(∀v,(x,v)∉binds)->bindL kindOf binds m x=m x
 |[],_,_=>rfl
 |(n,v)::r,m,h=>by
  unfold bindL;rw[Mh λw hw=>h w (ay _ hw)];split
  .have:x≠n:=by rintro rfl;exact h v bo
   simp[this]
  .rfl
theorem Fg{kindOf:Str->Option gw}{x:Str}:∀{binds:List (Str×Value)}{m:Str->AX},(∀v,(x,v)∉binds)->bindC kindOf binds m x=m x
 |[],_,_=>rfl
 |(n,v)::r,m,h=>by
  unfold bindC;rw[Fg λw hw=>h w (ay _ hw)];split
  .rfl
  .have:x≠n:=by rintro rfl;exact h v bo
   simp[this]
theorem Uf{kindOf:Str->Option gw}{x:Str}{v:Value}:∀{P:List Str}{vs:AW}{i:Nat}{m:Str->AX},P.Nodup->P[i]?=some x->vs[i]?=some v->kindOf x=some .local->
  bindL kindOf (P.zip vs) m x=some v
 |[],_,_,_,_,h,_,_=>by simp at h
 |_::_,[],_,_,_,_,h,_=>by simp at h
 |p::P,w::vs,0,m,nd,h1,h2,hk=>by
  simp at h1 h2;subst h1;subst h2;show bindL kindOf ((p,w)::P.zip vs) m p=_;unfold bindL;rw[Mh λv hv=>(nh.mp nd).1 (vz hv).1,if_pos hk];simp
 |p::P,w::vs,i+1,m,nd,h1,h2,hk=>by
  show bindL kindOf ((p,w)::P.zip vs) m x=_;unfold bindL;exact Uf (i:=i) (nh.mp nd).2 (by simpa using h1) (by simpa using h2) hk
theorem Nh{kindOf:Str->Option gw}{x:Str}{v:Value}:∀{P:List Str}{vs:AW}{i:Nat}{m:Str->AX},P.Nodup->P[i]?=some x->vs[i]?=some v->kindOf x≠some .local->
  bindC kindOf (P.zip vs) m x=some v
 |[],_,_,_,_,h,_,_=>by simp at h
 |_::_,[],_,_,_,_,h,_=>by simp at h
 |p::P,w::vs,0,m,nd,h1,h2,hk=>by
  simp at h1 h2;subst h1;subst h2;show bindC kindOf ((p,w)::P.zip vs) m p=_;unfold bindC;rw[Fg λv hv=>(nh.mp nd).1 (vz hv).1,if_neg hk];simp
 |p::P,w::vs,i+1,m,nd,h1,h2,hk=>by
  show bindC kindOf ((p,w)::P.zip vs) m x=_;unfold bindC;exact Nh (i:=i) (nh.mp nd).2 (by simpa using h1) (by simpa using h2) hk
def start(N:List Str)(vs:List V):St:=vs.map some++zo (N.length-vs.length) none
def cX(CX:iV)(P:Program)(w:am)(K:ae)(mg:Str->AX)(base:Heap)(N:List Str)(qual:Str)(scope:Scope)(f:Addr)(cd:Value)(A:ao)(outer:List bh)(s:aa)(H:Hp)(E:XK):Cx where
 prog:=P
 w:=w
 K:=K
 mg:=mg
 base:=base
 A:=A.deeper (envOfC qual scope s.heap.objs.size f cd)
 N:=N
 BF:=s
 BG:=H
 env:=envOfC qual scope s.heap.objs.size f cd
 outer:=outer
 stack:=envOfC qual scope s.heap.objs.size f cd::outer
 ex:=[]
 calm:=true
 fn:=λ_=>true
 pn:=[]
 xe:=λe s'=>wpAny (model P w) (A.deeper (envOfC qual scope s.heap.objs.size f cd)) (leaving (envOfC qual scope s.heap.objs.size f cd) e) (λ_ s''=>CX outer H s E e s'') (λe' s''=>CX outer H s E e' s'') s'
theorem Gj{sc:Scope}{n:Nat}{x:Str}(h:sc.names.lookup x=some .cell):∃c,(cellsFrom n sc.names []).lookup x=some c:=by
 have q:=zq sc.names n [] (.inl h);exact wd.mp q
theorem Ju{CX:iV}{P:Program}{w:am}{K:ae}{mg:Str->AX}{base:Heap}{N ps:List Str}{qual:Str}{scope:Scope}{f:Addr}{cd:Value}{A:ao}{outer:List bh}{s s1:aa}{H:Hp}{E:XK}{us:AW}{vs:List V}
  (S:iF N ps scope)(hd:A.handled=none)(e0:wQ P w K mg base A outer s H)(hl:vs.length=ps.length)(r:bG vs us)
  (x:InCallC s s.heap.objs.size (bindL (envOfC qual scope s.heap.objs.size f cd).kindOf (ps.zip us) λ_=>none) (cellsFrom (s.heap.objs.size+1) scope.names []) (bindC (envOfC qual scope s.heap.objs.size f cd).kindOf (ps.zip us) λ_=>none) s1):
  aH (cX CX P w K mg base N qual scope f cd A outer s H E) [] (start N vs) H s1:=by
 have hpl:ps.length<=N.length:=by have:=congrArg kh S.pre;rw[ki]at this;omega
 obtain⟨h1,tk,rfl,hk⟩:=x.done;have noA:∀b:Addr,b∉(cX CX P w K mg base N qual scope f cd A outer s H E).ex:=λb z=>absurd (show b∈([]:List Addr) from z) (by simp);refine⟨⟨e0.mod,S.kind,rfl,rfl,ar _,λy z c h1 h2=>?_,λy hy=>?_,λy c _ h=>?_,λ_=>hd,Around.frames_deeper e0.frames,.inr ⟨rfl,rfl⟩,λb z=>absurd z (noA b),e0.bs,e0.bsz,λb _ _=>noA b,λb z=>absurd z (noA b),e0.funs,e0.frf⟩,
  rfl,e0.bare,Un.kept hk,⟨_,x.toInCall.ns,λi y v h1 h2 h3=>?_⟩,λy c h=>⟨_,x.cell y c h⟩,e0.hok.fresh (ar _),λy c h=>?_,λp hp=>absurd (show p∈([]:List (Addr×Obj)) from hp) (by simp),e0.hok.kept hk,?_⟩
 .exact name_of_addr x.apart (jy h1) (jy h2)
 .have hy:scope.names.lookup y=some .cell\/scope.names.lookup y=some .free:=hy
  rcases hy with hy |hy
  .exact Gj hy
  .exact absurd rfl (S.nofree _ (jy hy))
 .exact qj (x.above y c (jy h))
 .have hi:i<vs.length:=by
   unfold start at h2
   by_cases hi:i<vs.length
   .exact hi
   .rw[gh (by simpa using hi)]at h2
    rw[zt]at h2;split at h2<;>cases h2
  have ha:vs[i]?=some v:=by
   unfold start at h2;rw[ft (by simpa using hi),dj]at h2;cases e:vs[i]? with
   |none=>rw[e]at h2;cases h2
   |some a=>rw[e]at h2;cases h2;rfl
  obtain⟨u,hu,rv⟩:=r.get ha;have hp:ps[i]?=some y:=by
   rw[<-S.pre,List.getElem?_take_of_lt (by omega)];exact h1
  have ndP:ps.Nodup:=by rw[<-S.pre];exact S.nd.sublist (List.take_sublist _ _)
  refine⟨u,rv,?_⟩;rcases S.par y (gi hp)with k |k
  .exact .inl ⟨k,Uf ndP hp hu k⟩
  .obtain⟨c,e⟩:=Gj (n:=s.heap.objs.size+1) k
   refine .inr ⟨.inl k,c,e,?_⟩;have q:=x.cell y c e;rw[Nh ndP hp hu (by show scope.names.lookup y≠_;rw[k];decide)]at q;exact q
 .exact e0.hok.fresh (qj (x.above y c (jy h)))
 .unfold start
  show _=N.length;rw[bj,aj,List.length_replicate];omega
theorem Sb{CX:iV}{P:Program}{w:am}{K:ae}{mg:Str->AX}{base:Heap}{k:Nat}{f:Addr}{name qual:Str}{params:Arguments}{body:List Stmt}{scope:Scope}{dV kV doc pm cdv ct oc:Value}{an od:AY}
  {osl:Array AX}{N ps:List Str}{sp:Sp}(lk:K.lookup f=some ⟨oc,od,.func (fg name qual params body scope dV kV doc pm an cdv ct),osl⟩)(hcd:kb K cdv qual=true)(S:iF N ps scope)
  (len:∀vs H Q E,sp vs H Q E->vs.length=ps.length)
  (hbody:∀(A:ao)(outer:List bh)(s:aa)(H:Hp)(vs:List V)(Q:VK)(E:XK),dF k (A.deeper (envOfC qual scope s.heap.objs.size f cdv))->sp vs H Q E->
   ∃t,fO (cX CX P w K mg base N qual scope f cdv A outer s H E) body t/\t {nx:=λ_ H'=>Q .non H',rt:=Q} (start N vs) H):
  dQ P w K mg base CX (k+1) f (fg name qual params body scope dV kV doc pm an cdv ct) ps sp:=by
 refine⟨len,λA outer s H args us vs Q E hr e0 hb r hsp=>?_⟩;have hl:=len _ _ _ _ hsp;have KX:K.In s.heap:=e0.mod.kin.keeps λb o e=>(e0.bs b o e).1;have lim:s.heap.NoLimit:=e0.mod.nolimit.keeps λb o e=>(e0.bs b o e).1;have hkind:∀y∈ps.zip us,scope.names.lookup y.1=some .local\/(scope.names.lookup y.1=some .cell/\((cellsFrom (s.heap.objs.size+1) scope.names []).lookup y.1).isSome=true):=λ⟨n,v⟩ hy=>by
  rcases S.par n (vz hy).1 with q |q
  .exact .inl q
  .exact .inr ⟨q,zq _ _ _ (.inl q)⟩
 refine codeAny_call_function hr.depth (KX _ _ lk) rfl S.co S.gen rfl (PySem.W.codeRec_of KX hcd) (hb _ _ _ _ ?_);refine wpAny_newFunctionEnv_cells S.kind hkind λenv he s1 x=>?_;subst he;refine⟨lim.keeps x.toInCall.keep,codeAny_func ?_⟩;obtain⟨t,ht,hq⟩:=hbody A outer s H vs Q E (hr.deeper _) hsp;have I:aH (cX CX P w K mg base N qual scope f cdv A outer s H E) [] (start N vs) H s1:=Ju S hr.hd e0 hl r x;refine iy (ht [] s1 (start N vs) H _ I hq) (λfl s' hs=>?_) λe s' hs=>hs;have fin:∀{σ':St}{H':Hp}{v:V}{u:Value},aH (cX CX P w K mg base N qual scope f cdv A outer s H E) [] σ' H' s'->bY v u->Q v H'->CE outer P w H s Q u s':=
  λ{σ' H' v u} J rv q=>⟨v,H',J.os,J.bare,J.base,J.hok,rv,q⟩
 cases fl with
 |ret u=>
  obtain⟨v,σ',H',J,rv,q⟩:=hs;exact fin J rv q
 |next=>
  obtain⟨σ',H',J,q⟩:=hs;exact fin (v:=V.non) (u:=di) J rfl q
 |brk=>
  obtain⟨_,_,_,q⟩:=hs;exact iz q
 |cont=>
  obtain⟨_,_,_,q⟩:=hs;exact iz q
section
variable{X:Cx}{x:Str}{p pos:ai}{e:ag}{es:List ag}{t:TA}{id T:String}{r:List V->Hp->VK->Prop}
def Vq(r:List V->Hp->VK->Prop)(t:TA):TE:=λσ H Q=>t σ H λvs H1=>r vs H1 Q
theorem rK(hc:iE X (.builtin id) r)(hg:Gl X x)(hm:X.mg x=none)(hv:bootBuiltins x=some (.builtin id))(ha:PA X (e::es) t)(hn:x≠"__name__":=by decide)(hdb:(x==("__debug__":Str))=false:=by decide)
  (he:starEach (e::es) X.env=(false,eval e X.env)::starEach es X.env:=by rfl)(hpl:(backTo pos (starEach es X.env)).any (·.1)=false:=by rfl):PE X (.Call (.Name x p) (e::es) [] pos) (Vq r t):=by
 intro BE s σ H Q I h;refine sf (nX I hg hm hv ?_ hn hdb);exact PyProof.Rows.callWith_builtin1 (bJ (ha pos BE s σ H _ I h) λus s1 ⟨vs,H1,I1,r1,q1⟩=>hc BE s1 σ H1 vs us Q I1 r1 q1) he hpl
theorem yW(hc:iE X (.type T) r)(hg:Gl X x)(hm:X.mg x=none)(hv:bootBuiltins x=some (.type T))(ha:PA X (e::es) t)(hn:x≠"__name__":=by decide)(hdb:(x==("__debug__":Str))=false:=by decide)
  (he:starEach (e::es) X.env=(false,eval e X.env)::starEach es X.env:=by rfl)(hpl:(backTo pos (starEach es X.env)).any (·.1)=false:=by rfl):PE X (.Call (.Name x p) (e::es) [] pos) (Vq r t):=by
 intro BE s σ H Q I h;refine sf (nX I hg hm hv ?_ hn hdb);exact qo (bJ (ha pos BE s σ H _ I h) λus s1 ⟨vs,H1,I1,r1,q1⟩=>hc BE s1 σ H1 vs us Q I1 r1 q1) he hpl
end
end L2
namespace HT
open PySem PyProof.Rows
def lexLt:AS->AS->Bool
 |[],[]=>false
 |[],_::_=>true
 |_::_,[]=>false
 |x::xs,y::ys=>if x=y then lexLt xs ys else decide (x<y)
theorem lexLt_cons(x y:Int)(xs ys:AS):lexLt (x::xs) (y::ys)=if x=y then lexLt xs ys else decide (x<y):=rfl
section
open PySem.SeqAt
open PySem.AutoSeq1 (wpAny_loadPart')
open PySem.MeetsSeq PySem.MeetsSeq2 PySem.MeetsSeq3
end
section
variable{prog:Program}{w:am}{A:ao}{E:Value->aa->Prop}{s:aa}
theorem cat_tup{t b:Addr}{vs ws:AW}{Q:Value->aa->Prop}(ht:IsTup s.heap t vs.toArray)(hb:IsTup s.heap b ws.toArray)(hv:vs≠[])
  (h1:ws=[]->Q (.ref t) s)(h2:ws≠[]->Q (.ref s.heap.objs.size) {s with heap:=s.heap.push {cls:=.type "tuple",data:=.seq (vs++ws).toArray}})
  (hsz:vs.length+ws.length<=sizeLine):wpAny (model prog w) A (binaryOp .Add (.ref t) (.ref b)) Q E s:=by
 obtain⟨⟨cls,dd,data,sl⟩,ho,hc,n,hd⟩:=id ht;obtain⟨⟨cls2,dd2,data2,sl2⟩,ho2,hc2,n2,hd2⟩:=id hb;simp only at hc hd hc2 hd2;subst hc hd hc2 hd2;have e:vs.toArray++ws.toArray=(vs++ws).toArray:=by simp
 by_cases hw:ws=[]
 .exact si ⟨_,ho,rfl⟩ ⟨_,ho2,rfl⟩ we wg wj wk (wm _ _)
   (tuple_addW1 t b vs.toArray ws.toArray n n2 dd dd2 sl sl2 (by simpa using hv) (by simp[hw])) ⟨ho,ho2,h1 hw⟩
 .refine si ⟨_,ho,rfl⟩ ⟨_,ho2,rfl⟩ we wg wj wk (wm _ _)
   (tuple_addW2 t b vs.toArray ws.toArray n n2 dd dd2 sl sl2 (by simpa using hv) (by simpa using hw) (by rw[aw,aw];exact hsz)) ⟨ho,ho2,?_⟩
  rw[e];exact h2 hw
def sIx(n d:Nat):AZ->Nat
 |none=>d
 |some v=>if v<0 then(v+(n:Int)).toNat else min v.toNat n
theorem sIx_nat(n d k:Nat):sIx n d (some (k:Int))=min k n:=by
 show(if(k:Int)<0 then((k:Int)+(n:Int)).toNat else min (k:Int).toNat n)=min k n;rw[if_neg (by omega),qs]
theorem W4(n d:Nat)(hd:d<=n)(o:AZ):sIx n d o<=n:=by
 cases o with
 |none=>exact hd
 |some v=>
  show(if v<0 then(v+(n:Int)).toNat else min v.toNat n)<=n
  by_cases hv:v<0
  .rw[if_pos hv];omega
  .rw[if_neg hv];exact Nat.min_le_right _ _
theorem Al(v:Int)(n d:Nat):(if v<0 then max (v+(n:Int)) 0 else min v (n:Int))=((sIx n d (some v):Nat):Int):=by
 show(if v<0 then max (v+(n:Int)) 0 else min v (n:Int))=(((if v<0 then(v+(n:Int)).toNat else min v.toNat n):Nat):Int)
 by_cases hv:v<0
 .simp only[if_pos hv];omega
 .simp only[if_neg hv];omega
theorem Vt(lo hi:AZ)(n:Nat):wn lo hi 1 (n:Int)=(((sIx n 0 lo:Nat):Int),((sIx n n hi:Nat):Int)):=by
 have h1:¬((1:Int)<0):=by omega
 unfold wn;simp only[h1,if_false];refine jr ?_ ?_
 .cases lo with
  |none=>rfl
  |some v=>exact Al v n 0
 .cases hi with
  |none=>rfl
  |some v=>exact Al v n n
theorem Et(i j:Nat):sj (i:Int) (j:Int) 1=j-i:=by
 unfold sj;have h1:(1:Int)>0:=by omega
 simp only[h1,if_true,Int.ediv_one];split<;>omega
theorem Pf{v:Value}{o:AZ}{Q:AZ->aa->Prop}(p:kx v o)(h:Q o s):wpAny (model prog w) A (Builtin.Slice.slicePartIndex v) Q E s:=by
 cases p with
 |none=>exact slicePart_none h
 |int i t=>exact slicePart_int h
theorem Ar{sl:Addr}{vl vu:Value}{lo hi:AZ}{n:Nat}{Q:Int×Int×Nat->aa->Prop}(hs:s.heap.IsSliceOf sl vl vu .none)(pl:kx vl lo)(pu:kx vu hi)
  (h:Q (((sIx n 0 lo:Nat):Int),1,sIx n n hi-sIx n 0 lo) s):wpAny (model prog w) A (zu (.ref sl) (pure (n:Int))) Q E s:=by
 obtain⟨os,hos,hcs,hds⟩:=id hs;unfold zu Builtin.Slice.sliceFields;refine ah (ah (io hos hds (x:=vl) rfl (ah (io hos hds (x:=vu) rfl (ah (io hos hds (x:=.none) rfl (bi ?_)))))));refine ah (slicePart_none ?_);show wpAny _ _ (if((1:Int)==0)=true then _ else _) _ _ s;rw[if_neg (by decide)];refine ah (Pf pl (ah (Pf pu (ah (bi ?_)))));show wpAny _ _ (match wn lo hi 1 (n:Int)with |(lo,hi)=>pure (lo,(1:Int),sj lo hi 1)) _ _ s
 rw[Vt lo hi n];show wpAny _ _ (pure (((sIx n 0 lo:Nat):Int),(1:Int),sj ((sIx n 0 lo:Nat):Int) ((sIx n n hi:Nat):Int) 1)) _ _ s;rw[Et];exact bi h
theorem Oy(xs:Array Value)(i k:Nat):((ak k).filterMap λ(m:Nat)=>xs[((i:Int)+(m:Int)*1).toNat]?).toArray=((xs.toList.drop i).take k).toArray:=by
 have e:(λ(m:Nat)=>xs[((i:Int)+(m:Int)*1).toNat]?)=λm=>xs[i+m]?:=by
  funext m
  have:((i:Int)+(m:Int)*1).toNat=i+m:=by omega
  rw[this]
 rw[e];have:=pick_run xs i k;rw[List.filterMap_map]at this;have e2:((λx=>xs[x]?)∘λx=>i+x)=λm=>xs[i+m]?:=rfl;rw[e2]at this;rw[this]
theorem getItem_tuple_cut{t sl:Addr}{items:Array Value}{vl vu:Value}{lo hi:AZ}{Q:Value->aa->Prop}(ht:IsTup s.heap t items)(hs:s.heap.IsSliceOf sl vl vu .none)(pl:kx vl lo)(pu:kx vu hi)
  (hw:¬(sIx items.size 0 lo=0/\sIx items.size items.size hi=items.size))
  (h:Q (.ref s.heap.objs.size) {s with heap:=s.heap.push {cls:=.type "tuple",data:=.seq ((items.toList.drop (sIx items.size 0 lo)).take (sIx items.size items.size hi-sIx items.size 0 lo)).toArray}})
  (hsz:items.size<=sizeLine):wpAny (model prog w) A (getItem (.ref t) (.ref sl)) Q E s:=by
 have htake:sizeOk (.seq ((items.toList.drop (sIx items.size 0 lo)).take (sIx items.size items.size hi-sIx items.size 0 lo)).toArray):=by
  show((items.toList.drop (sIx items.size 0 lo)).take (sIx items.size items.size hi-sIx items.size 0 lo)).toArray.size<=sizeLine;rw[aw,ki,wo,jx];omega
 have hj:sIx items.size items.size hi<=items.size:=W4 _ _ (ar _) hi;obtain⟨os,hos,hcs,hds⟩:=id hs;have hTs:s.TypeIs (.ref sl) "slice":=⟨os,hos,hcs⟩;unfold getItem
 try with_reducible refine ku ?_
 first |refine ah (bi ?_) |skip
 refine ah (wpAny_sequenceKey ht.typeIs (by decide) ?_);refine ah (qu (name:=dk "__getitem__") ht.typeIs sk
  (ou sk ht.typeIs entry_tuple_getitem ?_ (args_tuple_getitem _ _)))
 show wpAny _ _ (Builtin.Tuple.tupleItemsOf (.ref t) >>= _) _ _ s;refine ah (tupleItemsOf_ ht ?_);refine ah (wpAny_typeOf hTs ?_);rw[if_pos (by decide)];refine ah (Ar hs pl pu ?_);have hno:¬((((sIx items.size 0 lo:Nat):Int)==0&&(1:Int)==1&&(sIx items.size items.size hi-sIx items.size 0 lo)==items.size)=true):=by
  intro q;rw[ji,ji]at q;have q1:((sIx items.size 0 lo:Nat):Int)=0:=eq_of_beq q.1.1;have q2:sIx items.size items.size hi-sIx items.size 0 lo=items.size:=eq_of_beq q.2;exact hw ⟨by omega,by omega⟩
 show wpAny _ _ (if(((sIx items.size 0 lo:Nat):Int)==0&&(1:Int)==1&&(sIx items.size items.size hi-sIx items.size 0 lo)==items.size)=true then _ else _) _ _ s;rw[if_neg hno,Oy]
 first
  |exact ah (m:=sr _) (ke (bi ⟨_,rfl,bi h⟩) htake)
  |exact ah (m:=sr _) (ke (ah (bi (bi ⟨_,rfl,bi h⟩))) htake)
  |exact ah (ah (m:=sr _) (ke (bi (bi ⟨_,rfl,bi h⟩)) htake))
  |exact ah (ah (m:=sr _) (ke (bi ⟨_,rfl,bi h⟩) htake))
end
end HT
namespace L2
open PySem PySem.Spec PyProof.Rows
abbrev TO:=St->Hp->(AZ->Hp->Prop)->Prop
def PO(X:Cx)(e:Option ag)(t:TO):Prop:=
 ∀(BE:List (Addr×Obj))(s:aa)(σ:St)(H:Hp)(Q:AZ->Hp->Prop),aH X BE σ H s->t σ H Q->
  wpAny (model X.prog X.w) X.A (evalPart e X.env) (λu s'=>∃o H',aH X BE σ H' s'/\kx u o/\Q o H') X.xe s
def Hz:TO:=λ_ H Q=>Q none H
def aat(t:TE):TO:=λσ H Q=>t σ H λx H1=>∃i,x=.int i/\Q (some i) H1
section
variable{X:Cx}{e:ag}{te:TE}{lo hi:Option ag}{tl th:TO}{pos p2:ai}
theorem H0:PO X none Hz:=by
 intro BE s σ H Q I h;rw[evalPart_none];exact bi ⟨none,H,I,.none,h⟩
theorem L4(h:PE X e te):PO X (some e) (aat te):=by
 intro BE s σ H Q I hw;rw[evalPart_some];refine bJ (h BE s σ H _ I hw) ?_
 rintro u s1 ⟨x,H1,I1,r1,q1⟩
 obtain⟨i,rfl,q⟩:=q1;obtain⟨t,rfl⟩:=r1;exact⟨some i,H1,I1,.int i t,q⟩
def nC(X:Cx)(r:V->AZ->AZ->Hp->VK->Prop):Prop:=
 ∀(BE:List (Addr×Obj))(s:aa)(σ:St)(H:Hp)(x:V)(v vl vu:Value)(lo hi:AZ)(sl:Addr)(Q:VK),aH X BE σ H s->bY x v->s.heap.IsSliceOf sl vl vu .none->kx vl lo->kx vu hi->r x lo hi H Q->
  ∃T id,typeLookup (.type T) "__getitem__"=pure (some (.builtin id))/\s.TypeIs v T/\wpAny (model X.prog X.w) X.A (getItem v (.ref sl)) (EP X BE σ Q) X.xe s
theorem nC.or{r r':V->AZ->AZ->Hp->VK->Prop}(h:nC X r)(h':nC X r'):nC X (λx lo hi H Q=>r x lo hi H Q\/r' x lo hi H Q):=by
 intro BE s σ H x v vl vu lo hi sl Q I rx hs pl pu q;rcases q with q |q
 .exact h BE s σ H x v vl vu lo hi sl Q I rx hs pl pu q
 .exact h' BE s σ H x v vl vu lo hi sl Q I rx hs pl pu q
def tSl(r:V->AZ->AZ->Hp->VK->Prop)(te:TE)(tl th:TO):TE:=λσ H Q=>te σ H λx H1=>tl σ H1 λl H2=>th σ H2 λu H3=>r x l u H3 Q
theorem Xv{r:V->AZ->AZ->Hp->VK->Prop}(hr:nC X r)(he:PE X e te)(hl:PO X lo tl)(hu:PO X hi th):PE X (.Subscript e (.Slice lo hi none p2) pos) (tSl r te tl th):=by
 intro BE s σ H Q I h;refine Subscript_ (bJ (he BE s σ H _ I h) λv s1 hq=>?_);rcases hq with⟨x,H1,I1,r1,q1⟩;refine wpAny_Slice (bJ (hl BE s1 σ H1 _ I1 q1) λvl s2 ⟨l,H2,I2,pl,q2⟩=>bJ (hu BE s2 σ H2 _ I2 q2) λvu s3 hq=>?_);rcases hq with⟨u,H3,I3,pu,q3⟩;rw[evalPart_none];refine bi ?_;have I4:aH X BE σ H3 {s3 with heap:=s3.heap.push {cls:=.type "slice",data:=.fields #[vl,vu,.none]}}:=I3.kept (t':=s3.toks) λb ob q=>az _ q;obtain⟨T,id,hT,ht,hg⟩:=hr BE {s3 with heap:=s3.heap.push {cls:=.type "slice",data:=.fields #[vl,vu,.none]}} σ H3 x v vl vu l u s3.heap.objs.size Q I4 r1 (Heap.IsSliceOf.new ..) pl pu q3;show wpAny (model X.prog X.w) X.A (subscriptTail e (.Slice lo hi none p2) v (.ref s3.heap.objs.size)) (EP X BE σ Q) X.xe {s3 with heap:=s3.heap.push {cls:=.type "slice",data:=.fields #[vl,vu,.none]}};exact tail_any (ops:=[.ref s3.heap.objs.size,v]) ht hT hg (by with_unfolding_all rfl)
def mZ(xs:List V)(lo hi:AZ):List V:=(xs.drop (HT.sIx xs.length 0 lo)).take (HT.sIx xs.length xs.length hi-HT.sIx xs.length 0 lo)
theorem tU(xs:List V)(lo hi:AZ):(mZ xs lo hi).length<=xs.length:=by
 unfold mZ;rw[ki,wo];omega
def abF(K:ae):V->AZ->AZ->Hp->VK->Prop:=λx lo hi H Q=>∃a xs,x=.ref a/\dA K H a xs/\
 ¬(HT.sIx xs.length 0 lo=0/\HT.sIx xs.length xs.length hi=xs.length)/\∀p,H p=none->Q (.ref p) (bA H p (.tup (mZ xs lo hi)))
theorem N5:nC X (abF X.K):=by
 intro BE s σ H x v vl vu lo hi sl Q I rx hs pl pu h;obtain⟨a,xs,rfl,hx,hw,q⟩:=h;cases rx;obtain⟨its,r,ht,hz⟩:=I.tuple hx;have hlen:its.toArray.size=xs.length:=by rw[aw];exact r.length.symm
 refine⟨"tuple",_,sk.lookup,ht.typeIs,?_⟩;refine HT.getItem_tuple_cut ht hs pl pu (by rw[hlen];exact hw) ?_ (by rw[hlen];exact hz);rw[hlen];refine⟨.ref s.heap.objs.size,_,I.laid (t':=s.toks) (o:=.tup (mZ xs lo hi)) (λb ob q=>az _ q) (ar _) ?_,rfl,q _ (I.hok.fresh (ar _))⟩;exact⟨⟨fk (tU xs lo hi) hz,_,du _ rfl,rfl⟩,_,(r.drop (HT.sIx xs.length 0 lo)).take (HT.sIx xs.length xs.length hi-HT.sIx xs.length 0 lo),rp _ _⟩
def Cc(K:ae):R2:=λx y H Q=>∃a b xs ys,x=.ref a/\y=.ref b/\dA K H a xs/\dA K H b ys/\xs≠[]/\xs.length+ys.length<=sizeLine/\
 (ys=[]->Q (.ref a) H)/\(ys≠[]->∀p,H p=none->Q (.ref p) (bA H p (.tup (xs++ys))))
theorem bG.nil_iff{xs:List V}{us:AW}(r:bG xs us):us=[]↔xs=[]:=by
 cases r with
 |nil=>simp
 |cons _ _=>simp
theorem Sj:dX X (binaryOp .Add) (Cc X.K):=by
 intro BE s σ H x y v u Q I rx ry h;obtain⟨a,b,xs,ys,rfl,rfl,ha,hb,hx,hz,q1,q2⟩:=h;cases rx;cases ry;obtain⟨its,r1,p1,_⟩:=I.tuple ha;obtain⟨its2,r2,p2,_⟩:=I.tuple hb;refine HT.cat_tup p1 p2 (λz=>hx (r1.nil_iff.mp z)) (λz=>⟨.ref a,H,I,rfl,q1 (r2.nil_iff.mp z)⟩) (λz=>?_) (by rw[<-r1.length,<-r2.length];exact hz);refine⟨.ref s.heap.objs.size,_,I.laid (t':=s.toks) (o:=.tup (xs++ys)) (λb ob q=>az _ q) (ar _) ?_,rfl,q2 (λw=>z (r2.nil_iff.mpr w)) _ (I.hok.fresh (ar _))⟩;exact⟨⟨by rw[bj];exact hz,_,du _ rfl,rfl⟩,_,r1.append r2,rp _ _⟩
end
def aW(n:Nat)(i:Int):Option Nat:=if 0<=i then(if i<n then some i.toNat else none)else if-(n:Int)<=i then some (i+n).toNat else none
def aV{α:Type}(xs:List α)(i:Int):Option α:=(aW xs.length i).bind λj=>xs[j]?
theorem Yl{n:Nat}{i:Int}{j:Nat}(h:aW n i=some j):seqIndex? i n=some j/\j<n/\-(n:Int)<=i/\i<n:=by
 unfold aW at h
 by_cases h0:0<=i
 .rw[if_pos h0]at h
  by_cases h1:i<n
  .rw[if_pos h1]at h
   have e:i.toNat=j:=cj h;exact⟨by rw[wr h0 h1,e],by omega,by omega,h1⟩
  .rw[if_neg h1]at h;cases h
 .rw[if_neg h0]at h
  by_cases h1:-(n:Int)<=i
  .rw[if_pos h1]at h
   have e:(i+n).toNat=j:=cj h;exact⟨by rw[wt (by omega) h1,e],by omega,h1,by omega⟩
  .rw[if_neg h1]at h;cases h
theorem Na{α:Type}{xs:List α}{i:Int}{v:α}(h:aV xs i=some v):∃j,seqIndex? i xs.length=some j/\xs[j]?=some v/\j<xs.length/\-(xs.length:Int)<=i/\i<xs.length:=by
 unfold aV at h;cases e:aW xs.length i with
 |none=>rw[e]at h;cases h
 |some j=>
  rw[e]at h;obtain⟨h1,h2,h3,h4⟩:=Yl e;exact⟨j,h1,h,h2,h3,h4⟩
theorem jO{α:Type}{xs:List α}{j:Nat}{v:α}(h:xs[j]?=some v):aV xs (j:Int)=some v:=by
 have hj:j<xs.length:=(cq.mp h).1;have e:aW xs.length (j:Int)=some j:=by
  unfold aW;rw[if_pos (by omega),if_pos (by omega)];simp
 unfold aV;rw[e];exact h
theorem Dz{α:Type}(xs:List α)(v:α):aV (xs++[v]) (-1)=some v:=by
 have hl:(xs++[v]).length=xs.length+1:=by simp
 have e:aW (xs++[v]).length (-1)=some xs.length:=by
  unfold aW;rw[hl,if_neg (by decide),if_pos (by omega)];congr 1;omega
 unfold aV;rw[e];show(xs++[v])[xs.length]?=some v;simp
def Ja(b:ag):Prop:=∀o i,subscripted b false o i=operate [o,i] (getItem o i)
def lR(X:Cx)(r:R2):Prop:=
 ∀(value slice:ag)(BE:List (Addr×Obj))(s:aa)(σ:St)(H:Hp)(x y:V)(v u:Value)(Q:VK),aH X BE σ H s->bY x v->bY y u->r x y H Q->
  subscripted slice false v u=operate [v,u] (getItem v u)->wpAny (model X.prog X.w) X.A (subscriptTail value slice v u) (EP X BE σ Q) X.xe s
def MtR(X:Cx)(id:String)(r:V->List V->Hp->VK->Prop):Prop:=
 ∀(BE:List (Addr×Obj))(s:aa)(σ:St)(H:Hp)(x:V)(xs:List V)(v:Value)(us:AW)(Q:VK),aH X BE σ H s->bY x v->bG xs us->r x xs H Q->
  wpAny (model X.prog X.w) X.A (call (.builtin id) (v::us)) (EP X BE σ Q) X.xe s
section
variable{X:Cx}{a b:ag}{ta tb:TE}{pos:ai}
theorem lR.or{r r':R2}(h:lR X r)(h':lR X r'):lR X (λx y H Q=>r x y H Q\/r' x y H Q):=by
 intro value slice BE s σ H x y v u Q I rx ry q hs;rcases q with q |q
 .exact h value slice BE s σ H x y v u Q I rx ry q hs
 .exact h' value slice BE s σ H x y v u Q I rx ry q hs
theorem Rp{r:R2}(hr:lR X r)(ha:PE X a ta)(hb:PE X b tb)(hs:Ja b):PE X (.Subscript a b pos) (xH r ta tb):=by
 intro BE s σ H Q I h;exact Subscript_ (Lc ha hb I h λv u s2 x y H2 I2 rx ry q=>hr a b BE s2 σ H2 x y v u Q I2 rx ry q (hs _ _))
def Hq(K:ae):R2:=λx y H Q=>∃p xs i v,x=.ref p/\y=.int i/\bU K H p xs/\aV xs i=some v/\Q v H
def Xp(K:ae):R2:=λx y H Q=>∃p xs i v,x=.ref p/\y=.int i/\dA K H p xs/\aV xs i=some v/\Q v H
def Gq:R2:=λx y H Q=>∃z i c,x=.str z/\y=.int i/\z.length<=sizeLine/\aV z.cps.toList i=some c/\Q (.str ⟨#[c]⟩) H
theorem J9:lR X (Hq X.K):=by
 intro value slice BE s σ H x y v u Q I rx ry h hs;obtain⟨p,xs,i,z,rfl,rfl,hq,he,q⟩:=h;cases rx;obtain⟨t,rfl⟩:=ry;obtain⟨its,r,pl,hz⟩:=I.list hq;obtain⟨j,h1,h2,h3,h4,h5⟩:=Na he;obtain⟨w,ew,rw'⟩:=r.get h2;have hl:=r.length;have hn:=sE;have fin:EP X BE σ Q w s:=⟨z,H,I,rw',q⟩
 by_cases h0:0<=i
 .have hj:i.toNat=j:=by
   rw[wr h0 h5]at h1;exact cj h1
  exact item_listR pl.isList h0 (by omega) (by rw[hj];simpa using ew) fin hs
 .have hj:(i+(its.toArray.size:Int)).toNat=j:=by
   rw[wt (by omega) h4]at h1;rw[aw,<-hl];exact cj h1
  exact zw (x:=w) pl.isList.typeIs slot_list_getitem.lookup
   (wpAny_getItem_list_neg (Q:=λr s'=>r=w/\EP X BE σ Q r s') pl.isList (by omega) (by rw[aw]<;>omega) (by omega) (by rw[hj];simpa using ew) ⟨rfl,fin⟩) hs
theorem V4:lR X (Xp X.K):=by
 intro value slice BE s σ H x y v u Q I rx ry h hs;obtain⟨p,xs,i,z,rfl,rfl,hq,he,q⟩:=h;cases rx;obtain⟨t,rfl⟩:=ry;obtain⟨its,r,pl,hz⟩:=I.tuple hq;obtain⟨j,h1,h2,h3,h4,h5⟩:=Na he;obtain⟨w,ew,rw'⟩:=r.get h2;have hl:=r.length;have hn:=sE;have fin:EP X BE σ Q w s:=⟨z,H,I,rw',q⟩;exact zw (x:=w) pl.typeIs sk.lookup
  (getItem_tuple (j:=j) (Q:=λr s'=>r=w/\EP X BE σ Q r s') pl (by omega) (by omega) (by rw[aw,<-hl];exact h1) (by simpa using ew) ⟨rfl,fin⟩) hs
theorem V6:lR X Gq:=by
 intro value slice BE s σ H x y v u Q I rx ry h hs;obtain⟨z,i,c,rfl,rfl,hz,he,q⟩:=h;obtain⟨t,rfl⟩:=rx;obtain⟨t',rfl⟩:=ry;obtain⟨j,h1,h2,h3,h4,h5⟩:=Na he;have hl:z.cps.toList.length=z.length:=by simp[Str.length]
 rw[hl]at h1 h4 h5;have hn:=sE;exact tail_any (typeIs_str s z t) slot_str_getitem.lookup (getItem_str (c:=c) (by
  have e1:decide (i< -(2^63:Int))=false:=decide_eq_false (by omega);have e2:decide (i>=2^63)=false:=decide_eq_false (by omega);rw[e1,e2,Bool.or_false]) (by rw[h1];simpa using h2) ⟨.str ⟨#[c]⟩,H,I.tok _,⟨_,rfl⟩,q⟩) hs
def Wq(K:ae):R2:=λx y H Q=>Hq K x y H Q\/Xp K x y H Q\/Gq x y H Q
theorem En:lR X (Wq X.K):=J9.or (V4.or V6)
theorem Vs(its:AW)(n j:Nat)(u:Value):ir (·.setIfInBounds j u) {cls:=.type "list",data:=.seq its.toArray n}={cls:=.type "list",data:=.seq (its.set j u).toArray n}:=by
 simp[ir]
theorem aH.lst{BE:List (Addr×Obj)}{σ:St}{H:Hp}{s:aa}{p:Addr}{xs:List V}(I:aH X BE σ H s)(h:H p=some (.lst xs)):
  ∃(its:AW)(n:Nat),bG xs its/\s.heap.get? p=some {cls:=.type "list",data:=.seq its.toArray n}/\xs.length<=sizeLine:=by
 obtain⟨z,its,n,r,e⟩:=I.hok p _ h;exact⟨its,n,r,e,z⟩
theorem aH.lstUpd{BE:List (Addr×Obj)}{σ:St}{H:Hp}{s:aa}{p:Addr}{xs ys:List V}{its its':AW}{n n':Nat}{f:Obj->Obj}(I:aH X BE σ H s)(h:H p=some (.lst xs))
  (ho:s.heap.get? p=some {cls:=.type "list",data:=.seq its.toArray n})(hf:f {cls:=.type "list",data:=.seq its.toArray n}={cls:=.type "list",data:=.seq its'.toArray n'})(r:bG ys its')(hz:ys.length<=sizeLine)(t:Nat):
  aH X BE σ (bA H p (.lst ys)) {s with heap:=s.heap.update p f,toks:=t}:=by
 have e:(s.heap.update p f).get? p=some {cls:=.type "list",data:=.seq its'.toArray n'}:=by
  rw[zx f ho (by rw[hf]<;>rfl),hf]
 refine I.write (x:=p) (e:=p) (by rw[h];trivial) (.inl rfl) (λb u hb q=>(zy _ _ (jb hb)).trans q) ⟨_,e⟩ ?_;exact⟨hz,its',n',r,e⟩
def aaX:V->V->V->Hp->(Hp->Prop)->Prop:=λo i v H Q=>∃p xs k j,o=.ref p/\i=.int k/\H p=some (.lst xs)/\aW xs.length k=some j/\Q (bA H p (.lst (xs.set j v)))
theorem Qj:Bq X aaX:=by
 intro BE s σ H o i v ov iv u Q I ro ri rv h;obtain⟨p,xs,k,j,rfl,rfl,hp,hj,q⟩:=h;cases ro;obtain⟨t,rfl⟩:=ri;obtain⟨its,n,r,ho,hz⟩:=I.lst hp;obtain⟨h1,h2,h3,h4⟩:=Yl hj;have hl:=r.length;have hn:=sE;have I':aH X BE σ (bA H p (.lst (xs.set j v))) {s with heap:=s.heap.update p (ir (·.setIfInBounds j u))}:=
  I.lstUpd hp ho (Vs its n j u) (r.set rv j) (by rw[fu];exact hz) s.toks
 by_cases h0:0<=k
 .have hk:k.toNat=j:=by
   rw[wr h0 h4]at h1;exact cj h1
  exact PySem.W.ki_setAt ho h0 (by omega) (by rw[aw,<-hl];exact h4) (by rw[hk];exact⟨_,I',q⟩)
 .have hk:(k+(its.toArray.size:Int)).toNat=j:=by
   rw[wt (by omega) h3]at h1;rw[aw,<-hl];exact cj h1
  exact PySem.W.ki_setBack ho (by omega) (by rw[aw,<-hl];exact h3) (by omega) (by rw[hk];exact⟨_,I',q⟩)
theorem Lr(lo hi:AZ)(n:Nat):(sliceBounds lo hi none n).1=((HT.sIx n 0 lo:Nat):Int)/\(sliceBounds lo hi none n).2.1=((HT.sIx n n hi:Nat):Int)/\(sliceBounds lo hi none n).2.2=1:=by
 refine⟨?_,?_,rfl⟩
 .cases lo with
  |none=>simp[sliceBounds,HT.sIx]
  |some i=>
   simp only[sliceBounds,HT.sIx,a5,show(1:Int)>0 by decide,if_true]
   by_cases h:i<0
   .simp only[h,if_true]<;>omega
   .simp only[h,if_false]<;>omega
 .cases hi with
  |none=>simp[sliceBounds,HT.sIx]
  |some i=>
   simp only[sliceBounds,HT.sIx,a5,show(1:Int)>0 by decide,if_true]
   by_cases h:i<0
   .simp only[h,if_true]<;>omega
   .simp only[h,if_false]<;>omega
theorem Ir(its:AW)(lo hi:AZ):slicePick its.toArray lo hi none=((its.drop (HT.sIx its.length 0 lo)).take (HT.sIx its.length its.length hi-HT.sIx its.length 0 lo)).toArray:=by
 obtain⟨h1,h2,h3⟩:=Lr lo hi its.toArray.size;unfold slicePick;rw[h1,h2,h3];simp only[sliceRange_one,pick_run,aw]<;>rfl
def abu(K:ae):V->AZ->AZ->Hp->VK->Prop:=λx lo hi H Q=>∃a xs,x=.ref a/\bU K H a xs/\∀p,H p=none->Q (.ref p) (bA H p (.lst (mZ xs lo hi)))
theorem A6:nC X (abu X.K):=by
 intro BE s σ H x v vl vu lo hi sl Q I rx hs pl pu h;obtain⟨a,xs,rfl,hx,q⟩:=h;cases rx;obtain⟨its,r,ht,hz⟩:=I.list hx;have hlen:=r.length;refine⟨"list",_,slot_list_getitem.lookup,ht.isList.typeIs,?_⟩;refine wpAny_getItem_list_slice ht.isList hs pl pu .none (by simp) ?_ (by rw[aw]<;>omega);rw[Ir,<-hlen];refine⟨.ref s.heap.objs.size,_,I.laid (t':=s.toks) (o:=.lst (mZ xs lo hi)) (λb ob q=>az _ q) (ar _) ?_,rfl,q _ (I.hok.fresh (ar _))⟩;exact⟨fk (tU xs lo hi) hz,_,0,(r.drop (HT.sIx xs.length 0 lo)).take (HT.sIx xs.length xs.length hi-HT.sIx xs.length 0 lo),du _ rfl⟩
theorem Pr:iE X (.builtin "len") (λxs H Q=>∃p ys,xs=[.ref p]/\(bU X.K H p ys\/dA X.K H p ys)/\Q (.int ys.length) H):=by
 intro BE s σ H xs us Q I r h;obtain⟨p,ys,rfl,hq,q⟩:=h;obtain⟨u,rfl,rx⟩:=kD r;cases rx;have hn:=sE;rcases hq with hq |hq
 .obtain⟨its,r',pl,hz⟩:=I.list hq
  have hlen:=r'.length;exact Calls.call_len_list pl.isList (by simp only[aw]<;>omega) ⟨.int ys.length,H,I.tok _,⟨s.toks+1,by rw[aw,hlen]⟩,q⟩
 .obtain⟨its,r',pl,hz⟩:=I.tuple hq
  have hlen:=r'.length;exact len_tuple pl (by simp only[aw]<;>omega) ⟨.int ys.length,H,I.tok _,⟨s.toks+1,by rw[aw,hlen]⟩,q⟩
theorem xV:iE X (.type "list") (λxs H Q=>∃p ys,xs=[.ref p]/\(bU X.K H p ys\/dA X.K H p ys)/\∀l,H l=none->Q (.ref l) (bA H l (.lst ys))):=by
 intro BE s σ H xs us Q I r h;obtain⟨p,ys,rfl,hq,q⟩:=h;obtain⟨u,rfl,rx⟩:=kD r;cases rx;have fin:∀(its:AW),bG ys its->ys.length<=sizeLine->∀(h':Heap)(c':Nat),(∀b o',s.heap.get? b=some o'->h'.get? b=some o')->
   h'.get? s.heap.objs.size=some {cls:=.type "list",dict:=none,data:=.seq its.toArray c',slots:=#[]}->EP X BE σ Q (.ref s.heap.objs.size) {s with heap:=h'}:=λits r' hz h' c' kp e=>
  ⟨.ref s.heap.objs.size,_,I.laid (t':=s.toks) kp (ar _) (show fN X.prog X.w _ h' _ (.lst ys) from⟨hz,its,c',r',e⟩),rfl,q _ (I.hok.fresh (ar _))⟩
 rcases hq with hq |hq
 .obtain⟨its,r',pl,hz⟩:=I.list hq
  have hlen:=r'.length;obtain⟨o,ho,hc,n,hd⟩:=pl.isList;exact call_list_seq p (.inl rfl) ho hc hd (λh' c' kp e=>fin its r' hz h' c' kp e) (by simp only[aw]<;>omega)
 .obtain⟨its,r',pl,hz⟩:=I.tuple hq
  have hlen:=r'.length;obtain⟨o,ho,hc,n,hd⟩:=pl;exact call_list_seq p (.inr rfl) ho hc hd (λh' c' kp e=>fin its r' hz h' c' kp e) (by simp only[aw]<;>omega)
theorem Kr:iE X (.type "tuple") (λxs H Q=>∃p ys,xs=[.ref p]/\((bU X.K H p ys/\∀l,H l=none->Q (.ref l) (bA H l (.tup ys)))\/(dA X.K H p ys/\Q (.ref p) H))):=by
 intro BE s σ H xs us Q I r h;obtain⟨p,ys,rfl,h⟩:=h;obtain⟨u,rfl,rx⟩:=kD r;cases rx;rcases h with⟨hq,q⟩|⟨hq,q⟩
 .obtain⟨its,r',pl,hz⟩:=I.list hq
  have hlen:=r'.length;refine call_tuple_list pl.isList (λh' kp=>?_) (by simp only[aw]<;>omega);have I1:aH X BE σ H {s with heap:=h'}:=I.kept (t':=s.toks) kp;have I2:aH X BE σ (bA H h'.objs.size (.tup ys)) {s with heap:=h'.push {cls:=.type "tuple",data:=.seq its.toArray}}:=
   I1.laid (t':=s.toks) (λb o e=>az _ e) (ar _) (show fN X.prog X.w _ _ _ (.tup ys) from⟨⟨hz,_,du _ rfl,rfl⟩,its,r',rp _ _⟩)
  exact⟨.ref h'.objs.size,_,I2,rfl,q _ (I1.hok.fresh (ar _))⟩
 .obtain⟨its,r',pl,hz⟩:=I.tuple hq
  exact call_tuple_same pl ⟨.ref p,H,I,rfl,q⟩
def Kd(K:ae)(T:String)(x:V)(H:Hp):Prop:=match x with
 |.str _=>T="str"
 |.int _=>T="int"
 |.ref p=>(T="list"/\∃xs,bU K H p xs)\/(T="tuple"/\∃o,K.lookup p=some o/\o.cls=.type "tuple"/\o.dict=none)\/
   (T="dict"/\((∃kvs,H p=some (.dK kvs))\/∃kvs,H p=some (.dT kvs)))\/(T="set"/\∃S n,H p=some (.set S n))
 |_=>False
theorem N3{BE:List (Addr×Obj)}{σ:St}{H:Hp}{s:aa}{T:String}{x:V}{v:Value}(I:aH X BE σ H s)(r:bY x v)(ty:Kd X.K T x H):
  s.TypeIs v T/\∀a,v=.ref a->∃ob,s.heap.get? a=some ob/\ob.dict=none:=by
 cases x with
 |str z=>
  obtain⟨t,rfl⟩:=r;cases(show T="str" from ty);exact⟨typeIs_str s z t,λ_ e=>nomatch e⟩
 |int i=>
  obtain⟨t,rfl⟩:=r;cases(show T="int" from ty);exact⟨typeIs_int s i t,λ_ e=>nomatch e⟩
 |ref p=>
  cases r;rcases ty with⟨rfl,xs,hq⟩|⟨rfl,o,hk,hc,hd⟩|⟨rfl,hk⟩|⟨rfl,S,n,hk⟩
  .obtain⟨its,_,pl,_⟩:=I.list hq
   refine⟨pl.isList.typeIs,λa e=>?_⟩;cases e;obtain⟨o,n,e,c,hd,_⟩:=pl;exact⟨o,e,hd⟩
  .refine⟨⟨o,I.kIn p o hk,hc⟩,λa e=>?_⟩
   cases e;exact⟨o,I.kIn _ o hk,hd⟩
  .have z:∃o,s.heap.get? p=some o/\o.ExactDict:=by
    rcases hk with⟨kvs,hk⟩|⟨kvs,hk⟩
    .obtain⟨_,_,_,_,o,_,_,e,ex,_⟩:=I.hok p _ hk
     exact⟨o,e,ex⟩
    .obtain⟨_,_,_,_,o,_,_,e,ex,_⟩:=I.hok p _ hk
     exact⟨o,e,ex⟩
   obtain⟨o,e,ex⟩:=z;refine⟨⟨o,e,ex.1⟩,λa e2=>?_⟩;cases e2;exact⟨o,e,ex.2.1⟩
  .obtain⟨o,_,_,_,e,ex,_⟩:=I.hok p _ hk
   refine⟨⟨o,e,ex.1⟩,λa e2=>?_⟩;cases e2;exact⟨o,e,ex.2.1⟩
 |_=>exact iz ty
def tBM(K:ae)(T:String)(r:V->List V->Hp->VK->Prop)(to:TE)(t:TA):TE:=λσ H Q=>to σ H λx H1=>Kd K T x H1/\t σ H1 λxs H2=>r x xs H2 Q
variable{o e:ag}{es:List ag}{to:TE}{t:TA}{name:Str}{apos cpos:ai}{T id:String}{r:V->List V->Hp->VK->Prop}
theorem Dc(pa:PlainAttrs T)(slot:Slot T name id)(hty:typeOf (.builtin id)=pure (.type "method_descriptor"))(hm:MtR X id r)(ho:PE X o to)(ha:PA X (e::es) t)
  (hbase:attributeBase o name X.env (eval o X.env)=eval o X.env:=by rfl)
  (hfew:((backTo cpos (starEach (e::es) X.env)).all (λx=>!x.1)&&(backToKw cpos (keywordEach [] X.env)).all (λx=>x.1.isSome)
   &&decide ((e::es).length+([]:List kg).length+(if([]:List kg).isEmpty then 0 else 1)<30))=true:=by rfl)
  (hline:(apos.endLine==cpos.line)=true:=by rfl)(hs:starEach (e::es) X.env=(false,eval e X.env)::starEach es X.env:=by rfl)(hplain:(backTo cpos (starEach es X.env)).any (·.1)=false:=by rfl):
  PE X (.Call (.Attribute o name apos) (e::es) [] cpos) (tBM X.K T r to t):=by
 intro BE s σ H Q I h;refine wpAny_Call_method_late hbase hfew hline rfl (bJ (ho BE s σ H _ I h) λv s1 hq=>?_);rcases hq with⟨x,H1,I1,r1,ty,q1⟩;obtain⟨h1,h2⟩:=N3 I1 r1 ty;refine⟨T,id,pa,slot,hty,h1,h2,?_⟩;have hA:=ha cpos BE s1 σ H1 _ I1 q1;rw[hs]at hA⊢;refine Calls.callWith_builtin (by show(false||(backTo cpos (starEach es X.env)).any (·.1))=false;rw[hplain]<;>rfl) (a6 ?_);exact bJ hA λus s2 ⟨vs,H2,I2,r2,q2⟩=>hm BE s2 σ H2 x vs v us Q I2 r1 r2 q2
end
def Nq(X:Cx)(id:String)(r:V->List V->Hp->VK->Prop):Prop:=
 ∀(BE:List (Addr×Obj))(s:aa)(σ:St)(H:Hp)(x:V)(xs:List V)(v:Value)(us:AW)(Q:VK),aH X BE σ H s->bY x v->bG xs us->r x xs H Q->
  wpAny (model X.prog X.w) X.A (call (.builtin id) (v::us)) (EP X BE σ Q) X.xe s
theorem bG.one:∀{x:V}{us:AW},bG [x] us->∃u,us=[u]/\bY x u:=by
 rintro _ _ (_ |⟨r,_ |_⟩)
 exact⟨_,rfl,r⟩
theorem bG.eraseIdx:∀{xs:List V}{us:AW}(i:Nat),bG xs us->bG (xs.eraseIdx i) (us.eraseIdx i)
 |_,_,_,.nil=>.nil
 |_,_,0,.cons _ t=>t
 |_,_,i+1,.cons r t=>.cons r (bG.eraseIdx i t)
theorem yS{α:Type}:∀(l:List α)(i:Nat),(l.eraseIdx i).length<=l.length
 |[],_=>ar _
 |_::_,0=>qv _
 |_::r,i+1=>Nat.succ_le_succ (yS r i)
section
variable{X:Cx}{BE:List (Addr×Obj)}{σ:St}{H:Hp}{s:aa}{l b:Addr}{xs ys zs:List V}
theorem aH.lset{its its':AW}{n:Nat}{f:Array Value->Array Value}{t':Nat}(I:aH X BE σ H s)(hH:H l=some (.lst xs))
  (e:s.heap.get? l=some {cls:=.type "list",data:=.seq its.toArray n})(hf:f its.toArray=its'.toArray)(hv:bG ys its')(hz:ys.length<=sizeLine):
  aH X BE σ (bA H l (.lst ys)) {s with heap:=s.heap.update l (ir f),toks:=t'}:=by
 have q:=PySem.IsL.update e f;rw[hf]at q;refine I.write (x:=l) (e:=l) (by rw[hH];exact trivial) (.inl rfl) (λb' u hb hu=>(zy s.heap (ir f) (jb hb)).trans hu) ⟨_,q⟩ ?_;exact⟨hz,its',_,hv,q⟩
theorem aH.lnew{its:AW}{t':Nat}(I:aH X BE σ H s)(hv:bG ys its)(hz:ys.length<=sizeLine):
  aH X BE σ (bA H s.heap.objs.size (.lst ys)) {s with heap:=s.heap.push {cls:=.type "list",data:=.seq its.toArray},toks:=t'}:=
 I.laid (λ_ _ q=>az _ q) (ar _) ⟨hz,its,0,hv,du _ rfl⟩
theorem aH.fresh(I:aH X BE σ H s):H s.heap.objs.size=none:=I.hok.fresh (ar _)
theorem aH.lstM(I:aH X BE σ H s)(hH:H l=some (.lst xs)):xs.length<=sizeLine/\∃(its:AW)(n:Nat),bG xs its/\xs.length=its.length/\s.heap.get? l=some {cls:=.type "list",data:=.seq its.toArray n}:=by
 obtain⟨z,its,n,r,e⟩:=I.hok l _ hH;exact⟨z,its,n,r,r.length,e⟩
theorem Zv{n:Nat}(h:n<=sizeLine):su n=false:=by
 unfold su;exact decide_eq_false (by omega)
end
section
variable{X:Cx}
def E2:V->List V->Hp->VK->Prop:=λx vs H Q=>∃l xs y,x=.ref l/\vs=[y]/\H l=some (.lst xs)/\xs.length<sizeLine/\Q .non (bA H l (.lst (xs++[y])))
theorem uJ:Nq X "list.append" E2:=by
 intro BE s σ H x vs v us Q I rx rv h;obtain⟨l,xs,y,rfl,rfl,hH,hz,q⟩:=h;cases rx;obtain⟨u,rfl,ru⟩:=rv.one;obtain⟨z,its,n,r,hl,e⟩:=I.lstM hH;refine wu wv ⟨_,e,rfl⟩ F.entry_list_append (F.args_list_append_2 _ _) (PySem.list_append l its.toArray n u (by rw[aw];omega)) ⟨e,?_⟩;refine⟨.non,_,I.lset (its':=its++[u]) hH e (by simp) (r.append (.cons ru .nil)) ?_,rfl,q⟩;rw[bj,kj];omega
def V8:V->List V->Hp->VK->Prop:=λx vs H Q=>∃l xs i k y,x=.ref l/\vs=[.int i]/\H l=some (.lst xs)/\-(2^63)<=i/\i<2^63/\seqIndex? i xs.length=some k/\xs[k]?=some y/\Q y (bA H l (.lst (xs.eraseIdx k)))
theorem Ly:Nq X "list.pop" V8:=by
 intro BE s σ H x vs v us Q I rx rv h;obtain⟨l,xs,i,k,y,rfl,rfl,hH,h1,h2,hk,hy,q⟩:=h;cases rx;obtain⟨u,rfl,ru⟩:=rv.one;obtain⟨t,rfl⟩:=ru;obtain⟨z,its,n,r,hl,e⟩:=I.lstM hH;obtain⟨w,hw,rw'⟩:=r.get hy;refine wu F.slot_list_pop ⟨_,e,rfl⟩ F.entry_list_pop (F.args_list_pop_2 _ _)
  (MeetsSeq.list_pop_at l its.toArray n i t k w (fitsIndex_both h1 h2) (by rw[aw,<-hl];exact hk) (by rw[<-Array.getElem?_toList];exact hw) (by rw[aw];omega)) ⟨e,?_⟩
 refine⟨y,_,I.lset (its':=its.eraseIdx k) hH e ?_ (r.eraseIdx k) ?_,rw',q⟩
 .show its.toArray.eraseIdxIfInBounds k=(its.eraseIdx k).toArray
  rw[List.eraseIdxIfInBounds_toArray]
 .have:=yS xs k
  omega
end
section
variable{prog:Program}{w:am}{A:ao}{E:Value->aa->Prop}{s:aa}
end
section
variable{X:Cx}
end
end L2
namespace Att
open PySem PySem.W PySem.Calls PyProof.Rows
theorem Cr{P:og}{h:Heap}:∀(ns:AS)(vs:AW),WellAll P h vs (ns.map WData.int)->ow vs ns:=by
 intro ns
 induction ns with
 |nil=>
  intro vs w;rw[cg]at w;cases w;exact .nil
 |cons n ns ih=>
  intro vs w;rw[av]at w;cases w with
  |cons a b=>
   cases a;exact .cons _ _ (ih _ b)
theorem Kv{l:ox}{n:Nat}(hn:l.most=some n){P:og}{h:Heap}{args:List WData}{vals:AW}
  (hpre:l.row.toRowW.claim.pre args=true)(hwl:WellAll P h vals args):
  ∃a vs ns,vals=[dy a]/\args=[WData.list (ns.map WData.int)]/\h.get? a=some {cls:=.type "list",data:=.seq vs.toArray}/\ow vs ns/\ns.length<=n:=by
 have hsh:WShape.hasAll [] args [.list .int]=true:=(pre_splitW hpre).1;have hc:l.pre.holds [] {args:=args}=true:=(pre_splitW hpre).2;obtain⟨d,r,rfl,h1,h2⟩:=hasAllW_cons hsh;obtain rfl:=hasAllW_nil h2;obtain⟨xs,rfl,h3⟩:=hasW_list h1;obtain⟨ns,rfl⟩:=items_int h3;have hlen:ns.length<=n:=by
  unfold OpenLaw.pre at hc;have h4:(WTm.not (.lt (.lit (.int (n:Int))) (.len (.arg 0)))).holds [] {args:=[.list (ns.map .int)]}=true:=by
   have h4:=(holds_andW hc).1;rw[hn]at h4;exact h4
  have h5:=condW_of h4 (w_not (w_lt w_lit (w_len_list (w_arg rfl))));rw[aj]at h5;refine Nat.le_of_not_lt λq=>?_;have q':(n:Int)<((ns.length:Nat):Int):=by omega
  first
   |(rw[decide_eq_true q']at h5;exact absurd h5 (by decide))
   |(simp at h5;omega)
 cases hwl with
 |cons w1 w2=>
  cases w2;cases w1 with
  |list ho hall=>exact⟨_,_,ns,rfl,rfl,ho,Cr ns _ hall,hlen⟩
theorem Lv(l:ox)(args:List WData):l.row.toRowW.claim.post args (.bool true) args=true:=
 postW_of (r:=l.row.toRowW) (X:=(true==true))
  (show WShape.has [] (.bool true) .bool=true by first |rfl |decide |simp[WShape.has,WShape.arms,WShape.armsAll])
  (show(WTm.eq .res (.lit (.bool true))).value [] {args:=args,res:=some (.bool true),after:=args}=some (.bool (true==true)) from w_eq_bool (w_res rfl) w_lit) rfl
theorem attach_call{l:ox}{n:Nat}{q:Program}{loose:List Str}{XP:(Str->AX)->Heap->Prop}{YP:am->Heap->Prop}{d:DefRec}
  (hn:l.most=some n)(hdf:d.params.defaults=[])
  (call:∀(w:am)(BF BH:aa)(mg mb:Str->AX)(fa:Addr)(o:Obj)(pm cd doc:Value)(a:Addr)(vs:AW)(ns:AS),
   Ground q loose [] XP w BF mg mb BH.heap->YP w BH.heap->
   BH.heap.get? fa=some o->o.data=.func (docDef d.name d.params d.body d.scope pm cd doc)->BH.heap.CodeRec cd d.name->mg d.name=some (.ref fa)->
   BH.heap.get? a=some {cls:=.type "list",data:=.seq vs.toArray}->ow vs ns->ns.length<=n->BH.gens=#[]->
   codeAny (model l.prog w) callerA (.call (.ref fa) ⟨[.ref a],[]⟩) (λr s'=>r=.ok (.ret (.bool true))/\OldK BH.heap s'.heap/\s'.os=BH.os/\jm s'.gens) BH):
  WalkO q loose XP YP l.row.toRowW d [] (λf vs=>ww f vs):=by
 intro w BF BH mg mb G Y fa o pm cd doc dV kV ho hd hcd hD hmg hg args vals as hpre hlay hrd hwl hlo;obtain rfl:dV=.none:=Dflts.none hD hdf;obtain rfl:kV=.none:=Dflts.noKw hD;obtain⟨a,vs,ns,rfl,rfl,hobj,hints,hlen⟩:=Kv hn hpre hwl;refine enter_call (qr (call w BF BH mg mb fa o pm cd doc a vs ns G Y ho (fd_plain hd) hcd hmg hobj hints hlen hg) λr s' hq=>?_);obtain⟨rfl,h2,h3,h4⟩:=hq;exact⟨.inl ⟨.bool true,.bool true,[],rfl,λ_=>rfl,.bool true,Lv l _,λ_=>⟨List.Pairwise.nil,λ_ hm=>(nomatch hm)⟩⟩,h2,h3,h4⟩
section
variable{prog:Program}{w:am}{A:ao}{E:Value->aa->Prop}{s:aa}{K:Frag}
end
end Att
namespace L2
open PySem PySem.Spec PyProof.Rows
theorem Eg:∀{vs:AW}{ns:AS},ow vs ns->bG (ns.map V.int) vs
 |_,_,.nil=>.nil
 |_,_,.cons n t h=>.cons ⟨t,rfl⟩ (Eg h)
def Hc(H:Hp):Prop:=∀b,H b=none\/∃o xs,H b=some (.frz o (.lst xs))
theorem Xy{P:Program}{w:am}{K:ae}{mg mb:Str->AX}{CX:iV}{k:Nat}{fa a:Addr}{fd:br}{x:Str}{sp:Sp}{BH:aa}{vs:AW}{ns:AS}
  (KX:K.In BH.heap)(hns:BH.heap.Ns mainGlobals mg)(hb:BH.heap.Ns builtinsNs mb)(hbb:∀x:Str,x≠"__name__"->mb x=bootBuiltins x)(hlim:BH.heap.NoLimit)(hg:BH.gens=#[])
  (ha:BH.heap.get? a=some {cls:=.type "list",data:=.seq vs.toArray})(hi:ow vs ns)(hl:ns.length<=sizeLine)(hr:dF k callerA)
  (F:∀base:Heap,K.In base->base.Ns mainGlobals mg->dQ P w K mg base CX k fa fd [x] sp)(hbind:∀(s:aa)(u:Value),ot s fd ⟨[u],[]⟩ [(x,u)])
  (hsp:∀H:Hp,Hc H->bU K H a (ns.map V.int)->sp [.ref a] H (λv _=>v=.bl true) λ_ _ _=>False)
  (hCX:∀H e s',CX [] H BH (λ_ _ _=>False) e s'->False):
  codeAny (model P w) callerA (.call (.ref fa) ⟨[.ref a],[]⟩) (λr s'=>r=.ok (.ret (.bool true))/\OldK BH.heap s'.heap/\s'.os=BH.os/\jm s'.gens) BH:=by
 have rv:=Eg hi;have lenV:=hi.length
 --from an abstract heap in which nothing but the script may be tracked
 have core:∀H:Hp,Hc H->bU K H a (ns.map V.int)->fE P w H BH.heap->(∀b,H b≠none->b=a)->(H a≠none->K.lookup a=none)->
   codeAny (model P w) callerA (.call (.ref fa) ⟨[.ref a],[]⟩) (λr s'=>r=.ok (.ret (.bool true))/\OldK BH.heap s'.heap/\s'.os=BH.os/\jm s'.gens) BH:=by
  intro H hO hS hok hA hK;have base_of:∀{b:Addr}{o:Obj},BH.heap.get? b=some o->H b=none->(lK BH.heap H).get? b=some o:=λe n=>Gy e n;have noA:∀{b:Addr}{o:Obj}{es:Array DictEntry}{ep:Nat},BH.heap.get? b=some o->o.data=.dict es ep->H b=none:=λ{b o es ep} e d=>by
   cases q:H b with
   |none=>rfl
   |some u=>
    have e':b=a:=hA b (by rw[q];simp);subst e';rw[ha]at e;cases e;have d':Data.seq vs.toArray _=Data.dict es ep:=d;cases d'
  have nsK:∀{b:Addr}{m:Str->AX},BH.heap.Ns b m->(lK BH.heap H).Ns b m:=λ{b m} ⟨o,es,ep,e,d,r⟩=>⟨o,es,ep,base_of e (noA e d),d,r⟩;have hKb:K.In (lK BH.heap H):=λb o e=>base_of (KX b o e) (by
   cases q:H b with
   |none=>rfl
   |some u=>
    have e':b=a:=hA b (by rw[q];simp);subst e';rw[hK (by rw[q];simp)]at e;cases e)
  have hM:Mod K mg (lK BH.heap H):=⟨hKb,nsK hns,⟨mb,nsK hb,hbb⟩,let⟨mc,h1,h2⟩:=hlim;⟨mc,nsK h1,h2⟩⟩;have e0:wQ P w K mg (lK BH.heap H) callerA [] BH H:=⟨rfl,hM,λb o e=>C0 e,wz (Nu _ _),trivial,λb hb=>absurd (show b∈([]:List Addr) from hb) (by simp),hok,.of_eq hg⟩;refine qr ((F _ hKb (nsK hns)).run callerA [] BH H ⟨[.ref a],[]⟩ [.ref a] [.ref a] _ _ hr e0 (hbind BH (.ref a)) (.cons rfl .nil) (hsp H hO hS)) λr s' h=>?_;cases r with
  |error e=>exact(hCX H e s' h).elim
  |ok fl=>
   cases fl with
   |next=>exact iz h
   |brk=>exact iz h
   |cont=>exact iz h
   |ret u=>
    obtain⟨v,H',os,bare,un,hok',r',q⟩:=h;have q':v=.bl true:=q;subst q';obtain rfl:u=va true:=r';refine⟨rfl,OldK.of_keep λb o e=>?_,os,bare⟩;cases q:H b with
    |none=>exact un.keep b o e q (by intro z;exact absurd (show b∈([]:List Addr) from z) (by simp)) (by simp)
    |some u=>
     rcases hO b with z |⟨ob,xs,z⟩
     .rw[q]at z;cases z
     .have z2:=un.frzs b ob _ z
      obtain⟨e1,_⟩:=hok b _ z;obtain⟨e2,_⟩:=hok' b _ z2;rw[e]at e1;cases e1;exact e2
 cases hk:K.lookup a with
 |some o=>
  --the script is one of the module's own objects
  have e:=KX a o hk;rw[ha]at e;cases e;refine core (λ_=>none) (λ_=>.inl rfl) (.inr ⟨_,vs.toArray,_,hk,rfl,rfl,rfl,by rw[aw,lenV];exact hl,by simpa using rv⟩) (λb u z=>by have z':(none:Option HO)=some u:=z;cases z') (λb z=>absurd rfl z) λz=>absurd rfl z
 |none=>
  refine core (λb=>if b=a then some (.frz {cls:=.type "list",data:=.seq vs.toArray} (.lst (ns.map V.int)))else none) (λb=>?_) (.inl (.inr ⟨{cls:=.type "list",data:=.seq vs.toArray},if_pos rfl⟩)) (λb u z=>?_) (λb z=>?_) λ_=>hk
  .by_cases hb:b=a
   .exact .inr ⟨_,_,if_pos hb⟩
   .exact .inl (if_neg hb)
  .by_cases hb:b=a
   .have z':=(if_pos hb).symm.trans z
    cases z';subst hb;exact⟨ha,by rw[aj];exact hl,vs,_,rv,ha⟩
   .have z':=(if_neg hb).symm.trans z
    cases z'
  .by_cases hb:b=a
   .exact hb
   .exact absurd (if_neg hb) z
theorem walk_of{l:ox}{n k:Nat}{q:Program}{loose:List Str}{XP:(Str->AX)->Heap->Prop}{YP:am->Heap->Prop}{d:DefRec}{K:og->ae}{CX:am->iV}{sp:am->Sp}{x:Str}
  (hn:l.most=some n)(hn2:n<=sizeLine)(hdf:d.params.defaults=[])(hr:dF k callerA)
  (hY:∀(w:am)(h:Heap),YP w h->(K w.params).In h)
  (F:∀(w:am)(mg:Str->AX)(fa:Addr)(h:Heap),(K w.params).In h->h.Ns mainGlobals mg->mg d.name=some (.ref fa)->
   ∃fd:br,(∀(s:aa)(u:Value),ot s fd ⟨[u],[]⟩ [(x,u)])/\
    ∀base:Heap,(K w.params).In base->base.Ns mainGlobals mg->dQ l.prog w (K w.params) mg base (CX w) k fa fd [x] (sp w))
  (hsp:∀(w:am)(H:Hp)(a:Addr)(ns:AS),ns.length<=n->Hc H->bU (K w.params) H a (ns.map V.int)->sp w [.ref a] H (λv _=>v=.bl true) λ_ _ _=>False)
  (hCX:∀(w:am)(H:Hp)(s:aa)(e:Value)(s':aa),CX w [] H s (λ_ _ _=>False) e s'->False):
  PySem.W.WalkO q loose XP YP l.row.toRowW d [] (λf vs=>ww f vs):=by
 refine Att.attach_call hn hdf λw BF BH mg mb fa o pm cd doc a vs ns G Y ho hd hcd hmg hobj hints hlen hg=>?_;have KX:=hY w _ Y;obtain⟨fd,hb,hF⟩:=F w mg fa _ KX G.T.g hmg;exact Xy KX G.T.g G.T.b G.T.builtins G.T.nolimit hg hobj hints (fk hlen hn2) hr hF hb (λH hO hS=>hsp w H a ns hlen hO hS) λH e s'=>hCX w H BH e s'
abbrev fH:iV:=λ_ _ _ _ _ _=>False
abbrev E0:XK:=λ_ _ _=>False
theorem Ub{X:Cx}:vO fH X E0:=λ_ _ _ _ _ _ _ h=>h.elim
structure iO(K:ae)(x qual:Str)(st:Stmt)(f:Addr)(fd:br):Prop where
 ex:∃(oc:Value)(od:AY)(kV doc pm:Value)(an:AY)(cdv ct:Value)(osl:Array AX),
  fd=fg x qual (gD st) (eG st) (cH st) .none kV doc pm an cdv ct/\K.lookup f=some ⟨oc,od,.func fd,osl⟩/\kb K cdv qual=true
 kp:fh K (.ref f)=true
section
variable{P:Program}{w:am}{K:ae}{mg:Str->AX}{base:Heap}
theorem iO.ok{x qual:Str}{st:Stmt}{f:Addr}{fd:br}{N ps:List Str}{k:Nat}{sp:Sp}(F:iO K x qual st f fd)(S:iF N ps (cH st))(len:∀vs H Q E,sp vs H Q E->vs.length=ps.length)
  (hbody:∀(cdv:Value)(A:ao)(outer:List bh)(s:aa)(H:Hp)(vs:List V)(Q:VK)(E:XK),dF k (A.deeper (envOfC qual (cH st) s.heap.objs.size f cdv))->sp vs H Q E->
   ∃t,fO (cX fH P w K mg base N qual (cH st) f cdv A outer s H E).nox (eG st) t/\t {nx:=λ_ H'=>Q .non H',rt:=Q} (start N vs) H):dQ P w K mg base fH (k+1) f fd ps sp:=by
 obtain⟨oc,od,kV,doc,pm,an,cdv,ct,osl,rfl,lk,hcd⟩:=F.ex;refine Sb lk hcd S len λA outer s H vs Q E hr hsp=>?_;obtain⟨t,h,q⟩:=hbody cdv A outer s H vs Q E hr hsp;exact⟨t,h.nox,q⟩
theorem iO.binds{x qual:Str}{st:Stmt}{f:Addr}{fd:br}{ps:List Str}(F:iO K x qual st f fd)
  (h:∀(kV doc pm:Value)(an:AY)(cdv ct:Value)(us:AW),us.length=ps.length->bindArgs (fg x qual (gD st) (eG st) (cH st) .none kV doc pm an cdv ct) ⟨us,[]⟩=pure (ps.zip us)):gR K fd ps []:=by
 obtain⟨oc,od,kV,doc,pm,an,cdv,ct,osl,rfl,lk,hcd⟩:=F.ex;exact .all (h kV doc pm an cdv ct)
theorem Vn{x qual:Str}{st:Stmt}{f:Addr}{oc:Value}{od an:AY}{osl:Array AX}{kV doc pm cdv ct:Value}(l:K.lookup f=some ⟨oc,od,.func (fg x qual (gD st) (eG st) (cH st) .none kV doc pm an cdv ct),osl⟩)
  (c:kb K cdv qual=true)(k:fh K (.ref f)=true):iO K x qual st f (fg x qual (gD st) (eG st) (cH st) .none kV doc pm an cdv ct):=⟨⟨oc,od,kV,doc,pm,an,cdv,ct,osl,rfl,l,c⟩,k⟩
end
section
variable{X:Cx}
theorem pv(i:Nat){x:Str}{pos:ai}(hN:X.N[i]?=some x:=by rfl)(hv:nG X.env.scope x:=by first |exact gj rfl |exact ig (gj rfl) |exact ig (ig rfl))(hd:(x==("__debug__":Str))=false:=by decide)
  (hcd:(x==("__classdict__":Str))=false:=by decide):PE X (.Name x pos) (Fq i):=nY hN hv hd hcd
end
theorem abX{A B:Prop}(h:A):if true=true then A else B:=by
 rw[if_pos rfl];exact h
def dH(H H':Hp):Prop:=∀b o,H b=some o->H' b=some o
theorem dH.refl(H:Hp):dH H H:=λ_ _ h=>h
end L2
namespace Bn
def Bd(k:Nat)(i:Int):Prop:=i.natAbs<2^k
theorem Bd.mono{j k:Nat}{i:Int}(h:Bd j i)(l:j<=k):Bd k i:=df h (a7 (by decide) l)
theorem Bd.mul{j k:Nat}{a b:Int}(h:Bd j a)(g:Bd k b):Bd (j+k) (a*b):=by
 unfold Bd at *;rw[sv,Nat.pow_add];exact Nat.mul_lt_mul'' h g
theorem Bd.add{k:Nat}{a b:Int}(h:Bd k a)(g:Bd k b):Bd (k+1) (a+b):=by
 unfold Bd at *;rw[xa];have:=Int.natAbs_add_le a b;omega
theorem Bd.neg{k:Nat}{a:Int}(h:Bd k a):Bd k (-a):=by
 unfold Bd at *;rw[a8];exact h
theorem Bd.sub{k:Nat}{a b:Int}(h:Bd k a)(g:Bd k b):Bd (k+1) (a-b):=by
 rw[Int.sub_eq_add_neg];exact h.add g.neg
theorem Bd.le{k:Nat}{a b:Int}(h:Bd k b)(l:a.natAbs<=b.natAbs):Bd k a:=sx l h
theorem Bd.of{k n:Nat}{a:Int}(l:a.natAbs<=n)(h:n<2^k):Bd k a:=sx l h
theorem Bd.log{k:Nat}{a:Int}(h:Bd k a)(hk:0<k):a.natAbs.log2<k:=by
 rcases a9 a.natAbs with z |z
 .rw[z]
  exact sx (wz (by decide)) hk
 .exact(Nat.log2_lt (oj z)).mpr h
theorem Jh(a:Int){b:Int}(h:b≠0):(a.fmod b).natAbs<b.natAbs:=by
 rw[Int.fmod_eq_emod];have h1:=c7 a h;have h2:a%b<(b.natAbs:Int):=Int.emod_lt a h
 by_cases c:0<=b\/b∣a
 .rw[if_pos c]
  omega
 .rw[if_neg c]
  have hb:b<0:=by omega
  have h3:a%b≠0:=λz=>c (.inr (Int.dvd_of_emod_eq_zero z));have h4:b.natAbs=(-b).toNat:=by omega
  omega
theorem Vi(a b:Int):ce b (a.fmod b)=ce a b:=by
 rw[Int.fmod_def,db,Int.gcd_sub_mul_right_right,Int.gcd_comm]
theorem Ib(x:Int):(if x<0 then-x else x)=(x.natAbs:Int):=by
 split<;>omega
def gl:AS->Int->Int
 |[],g=>g
 |n::r,g=>gl r (ce g n:Nat)
def low(ns:AS):AS:=if gl ns 0=0 then ns else ns.map (· /gl ns 0)
theorem wF:∀(ns:AS)(g:Int),0<=g->0<=gl ns g
 |[],_,h=>h
 |_::r,_,_=>wF r _ (c8 _)
theorem Hm(k:Int):∀(ns:AS)(g:Int),0<=g->gl (ns.map (k*·)) ((k.natAbs:Int)*g)=(k.natAbs:Int)*gl ns g
 |[],_,_=>rfl
 |n::r,g,h=>by
  show gl (r.map (k*·)) ((ce ((k.natAbs:Int)*g) (k*n):Nat):Int)=(k.natAbs:Int)*gl r _;have e:((ce ((k.natAbs:Int)*g) (k*n):Nat):Int)=(k.natAbs:Int)*((ce g n:Nat):Int):=by
   rcases Int.natAbs_eq k with q |q
   .rw[<-q,c9]
    have:(k.natAbs:Int)=k:=q.symm
    push_cast
    rw[this]
   .have e2:k*n=(k.natAbs:Int)*(-n):=by rw[sy,<-ky,<-q]
    rw[e2,c9,Int.gcd_neg]
    push_cast
    simp
  rw[e];exact Hm k r _ (c8 _)
theorem zQ(k:Int)(ns:AS):gl (ns.map (k*·)) 0=(k.natAbs:Int)*gl ns 0:=by
 have:=Hm k ns 0 (oy 0)
 rwa[oz]at this
theorem uM{k:Int}(h:0<k)(ns:AS):gl ns 0≠0->low (ns.map (k*·))=low ns:=λz=>by
 have hk:(k.natAbs:Int)=k:=by omega
 have e:=zQ k ns;rw[hk]at e;have nz:k*gl ns 0≠0:=kz (by omega) z;unfold low;rw[e,if_neg nz,if_neg z,dg];refine ij λn _=>?_;show k*n/(k*gl ns 0)=n/gl ns 0;exact Int.mul_ediv_mul_of_pos _ _ h
theorem jP:∀(ns:AS)(g:Int),gl ns g∣g/\∀n∈ns,gl ns g∣n
 |[],g=>⟨Int.dvd_refl g,λ_ h=>nomatch h⟩
 |m::r,g=>by
  obtain⟨h1,h2⟩:=jP r ((ce g m:Nat):Int);refine⟨Int.dvd_trans h1 (d5 ..),λn hn=>?_⟩;rcases cf.mp hn with q |q
  .subst q
   exact Int.dvd_trans h1 (d6 ..)
  .exact h2 n q
theorem Zz{ns:AS}(h:gl ns 0=0):∀n∈ns,n=0:=λn hn=>by
 have:=(jP ns 0).2 n hn;rw[h]at this;exact Int.zero_dvd.mp this
theorem mV{ns:AS}{n:Int}(hn:n∈ns)(h:n≠0):gl ns 0≠0:=λz=>h (Zz z n hn)
theorem sA{ns:AS}{n:Int}(hn:n∈ns)(h:n≠0):0<gl ns 0:=by
 have h1:=wF ns 0 (oy 0);have h2:=mV hn h;omega
theorem rX{ns:AS}{n:Int}(hn:n∈ns)(h:n≠0):low ns=ns.map (· /gl ns 0):=by
 unfold low;rw[if_neg (mV hn h)]
theorem Bd.gcd{k:Nat}{a b:Int}(h:Bd k a)(g:Bd k b):Bd k (ce a b:Nat):=by
 unfold Bd at *;rw[Int.natAbs_natCast];rcases a9 a.natAbs with z |z
 .have:a=0:=by omega
  subst this;rw[xb];exact g
 .exact sx (Nat.gcd_le_left _ z) h
theorem wB{k:Nat}:∀{ns:AS}{g:Int},Bd k g->(∀n∈ns,Bd k n)->Bd k (gl ns g)
 |[],_,h,_=>h
 |n::r,g,h,hn=>by
  show Bd k (gl r _);exact wB (ns:=r) (h.gcd (hn n bo)) λm hm=>hn m (ay _ hm)
theorem vP{k:Nat}{ns:AS}(h:∀n∈ns,Bd k n):∀n∈low ns,Bd k n:=λn hn=>by
 unfold low at hn
 by_cases c:gl ns 0=0
 .rw[if_pos c]at hn
  exact h n hn
 .rw[if_neg c]at hn
  obtain⟨m,hm,rfl⟩:=ax.mp hn;refine(h m hm).le ?_;have d:=(jP ns 0).2 m hm;obtain⟨q,e⟩:=d;rw[e,ni _ c,sv];exact Nat.le_mul_of_pos_left _ (by omega)
def fr(t b:Int):AS:=if b<0 then low [0-t,0-b] else low [t,b]
theorem kF(a b:Int):b∈[a,b]:=ay _ bo
theorem W6{t b:Int}(h:b≠0):fr (-t) (-b)=fr t b:=by
 unfold fr
 by_cases c:b<0
 .have c':¬(-b<0):=by omega
  rw[if_pos c,if_neg c',jc,jc]
 .have c':-b<0:=by omega
  rw[if_neg c,if_pos c',Int.sub_neg,Int.sub_neg,pf,pf]
theorem tT{k t b:Int}(hk:0<k)(h:b≠0):fr (k*t) (k*b)=fr t b:=by
 unfold fr;have e1:([k*t,k*b]:AS)=[t,b].map (k*·):=rfl;have e2:([0-k*t,0-k*b]:AS)=[0-t,0-b].map (k*·):=by
  show _=[k*(0-t),k*(0-b)];rw[Int.mul_sub,Int.mul_sub,oz]
 by_cases c:b<0
 .rw[if_pos c,if_pos (td hk c),e2]
  exact uM hk _ (mV (kF _ _) (by omega))
 .have c':¬(k*b<0):=by
   have:0<k*b:=aq hk (by omega);omega
  rw[if_neg c,if_neg c',e1];exact uM hk _ (mV (kF _ _) h)
theorem Bi{k t b:Int}(hk:k≠0)(h:b≠0):fr (k*t) (k*b)=fr t b:=by
 by_cases c:0<k
 .exact tT c h
 .have c':0< -k:=by omega
  have hb:k*b≠0:=kz hk h;rw[<-W6 hb,<-ky,<-ky];exact tT c' h
theorem Fj{t b t' b':Int}(h:b≠0)(h':b'≠0)(e:t*b'=t'*b):fr t b=fr t' b':=by
 rw[<-Bi h' h,<-Bi (k:=b) h h',db b' t,e,db t' b,db b' b]
theorem Gc{t b:Int}(h:b≠0):∃p q:Int,fr t b=[p,q]/\0<q/\p*b=t*q:=by
 have go:∀{t b:Int},0<b->∃p q:Int,low [t,b]=[p,q]/\0<q/\p*b=t*q:=λ{t b} hb=>by
  have nz:b≠0:=by omega
  have gp:=sA (kF t b) nz;refine⟨t/gl [t,b] 0,b/gl [t,b] 0,rX (kF t b) nz,?_,?_⟩
  .obtain⟨m,e⟩:=(jP [t,b] 0).2 b (kF t b)
   have:b/gl [t,b] 0=m:=by
    conv=>lhs;lhs;rw[e]
    exact ni _ (by omega)
   rw[this];have hm:0<m*gl [t,b] 0:=by rw[db,<-e];exact hb
   exact xc hm gp
  .obtain⟨m,e⟩:=(jP [t,b] 0).2 b (kF t b)
   obtain⟨n,f⟩:=(jP [t,b] 0).2 t bo;have e1:b/gl [t,b] 0=m:=by
    conv=>lhs;lhs;rw[e]
    exact ni _ (by omega)
   have e2:t/gl [t,b] 0=n:=by
    conv=>lhs;lhs;rw[f]
    exact ni _ (by omega)
   rw[e1,e2]
   conv=>lhs;rhs;rw[e]
   conv=>rhs;lhs;rw[f]
   rw[Int.mul_left_comm,Int.mul_assoc]
 unfold fr
 by_cases c:b<0
 .rw[if_pos c]
  obtain⟨p,q,e1,e2,e3⟩:=go (t:=0-t) (b:=0-b) (by omega);refine⟨p,q,e1,e2,?_⟩;rw[jc,jc,sy,ky]at e3;omega
 .rw[if_neg c]
  exact go (by omega)
def sg(n:Int):Int:=if 0<n then 1 else if n<0 then-1 else 0
theorem Uh{b:Int}(h:b≠0):(0<b/\sg b=1)\/(b<0/\sg b=-1):=by
 unfold sg
 by_cases c:0<b
 .exact .inl ⟨c,if_pos c⟩
 .have d:b<0:=by omega
  exact .inr ⟨d,by rw[if_neg c,if_pos d]⟩
theorem Jy(b:Int):-(2^64)<sg b/\sg b<2^64:=by
 unfold sg;split
 .decide
 .split<;>decide
theorem vM(t b:Int):gl [t,b] 0=(ce t b:Nat):=by
 show((ce ((ce 0 t:Nat):Int) b:Nat):Int)=_;rw[xb];congr 1
theorem nN{g n:Int}(h:g≠0):(g*n).fdiv g=n:=by
 rw[ph ⟨n,rfl⟩,ni _ h]
theorem Sd{g n:Int}(h:g≠0):(g*n).fdiv (-1*g)=-n:=by
 have e:g*n=(-1*g)*(-n):=by
  rw[ky,iu,d7]
 rw[e];exact nN (by omega)
theorem Wu{t b:Int}(h:b≠0):[t.fdiv (sg b*(ce t b:Nat)),b.fdiv (sg b*(ce t b:Nat))]=fr t b:=by
 have gp:=sA (kF t b) h;rw[vM]at gp;have gn:((ce t b:Nat):Int)≠0:=by omega
 obtain⟨n,en⟩:=d5 (a:=t) (b:=b);obtain⟨m,em⟩:=d6 (a:=t) (b:=b);have ht:t=((ce t b:Nat):Int)*n:=en;have hb:b=((ce t b:Nat):Int)*m:=em;generalize hg:((ce t b:Nat):Int)=g at *;rcases Uh h with⟨c,s⟩|⟨c,s⟩
 .rw[s,iu]
  have e1:fr t b=[t/g,b/g]:=by
   unfold fr;rw[if_neg (by omega),rX (kF t b) h,vM,hg];rfl
  have e2:t.fdiv g=t/g:=ph ⟨n,ht⟩;have e3:b.fdiv g=b/g:=ph ⟨m,hb⟩;rw[e1,e2,e3]
 .rw[s]
  have e1:fr t b=[(0-t)/g,(0-b)/g]:=by
   unfold fr;rw[if_pos c,rX (kF (0-t) (0-b)) (by omega),vM,jc,jc,Int.neg_gcd,Int.gcd_neg,hg];rfl
  have e2:t.fdiv (-1*g)=-n:=by
   conv=>lhs;lhs;rw[ht]
   exact Sd gn
  have e3:b.fdiv (-1*g)=-m:=by
   conv=>lhs;lhs;rw[hb]
   exact Sd gn
  have e4:(0-t)/g=-n:=by
   rw[ht,jc,<-sy,ni _ gn]
  have e5:(0-b)/g=-m:=by
   rw[hb,jc,<-sy,ni _ gn]
  rw[e1,e2,e3,e4,e5]
theorem Bl(n:Int):∀(l:AS)(g:Int),gl (l++[n]) g=(ce (gl l g) n:Nat)
 |[],g=>rfl
 |m::r,g=>Bl n r _
theorem aaQ{k:Nat}{t b p q:Int}(ht:Bd k t)(hb:Bd k b)(e:fr t b=[p,q]):Bd k p/\Bd k q:=by
 have go:∀{x y:Int},Bd k x->Bd k y->low [x,y]=[p,q]->Bd k p/\Bd k q:=λ{x y} hx hy e=>by
  have h:=vP (k:=k) (ns:=[x,y]) λn hn=>by
   rcases cf.mp hn with z |z
   .rw[z];exact hx
   .have z':n=y:=by simpa using z
    rw[z'];exact hy
  rw[e]at h;exact⟨h p bo,h q (kF _ _)⟩
 unfold fr at e;split at e
 .exact go (by rw[jc];exact ht.neg) (by rw[jc];exact hb.neg) e
 .exact go ht hb e
theorem zY{k m:Int}(hk:0<k)(hm:0<m){A B:AS}(hA:gl A 0≠0)(e:A.map (k*·)=B.map (m*·)):low A=low B:=by
 have hB:gl B 0≠0:=λz=>by
  have h:=zQ k A;rw[e,zQ m B,z,oz]at h;have:(k.natAbs:Int)*gl A 0≠0:=kz (by omega) hA;exact this h.symm
 rw[<-uM hk A hA,e,uM hm B hB]
theorem Rn(b:Int):∀(ns:AS)(g:Int),gl ns (ce g b:Nat)=(ce (gl ns g) b:Nat)
 |[],_=>rfl
 |n::r,g=>by
  show gl r ((ce ((ce g b:Nat):Int) n:Nat):Int)=((ce (gl r _) b:Nat):Int);rw[<-Rn b r,Int.gcd_assoc,Int.gcd_comm b n,<-Int.gcd_assoc]
theorem Pa{ns:AS}{b:Int}(hb:0<b):gl (ns++[b]) 0=gl ns b:=by
 rw[Bl,<-Rn,xb];congr 1;omega
theorem jK(ns:AS)(b:Int):b∈ns++[b]:=gr _ bo
theorem U4{ns:AS}{b:Int}(hb:0<b):low (ns++[b])=(ns.map λn=>n.fdiv (gl ns b))++[b.fdiv (gl ns b)]/\0<gl ns b:=by
 have gp:=sA (jK ns b) (by omega);rw[Pa hb]at gp;refine⟨?_,gp⟩;rw[rX (jK ns b) (by omega),Pa hb,dz];have e:∀n:Int,n/gl ns b=n.fdiv (gl ns b):=λn=>(d8 n (jd gp)).symm;simp only[e,av,cg]
theorem vV(ns:AS){b:Int}(hb:0<b):∃(zs:AS)(z g:Int),low (ns++[b])=zs++[z]/\0<g/\0<z/\ns=zs.map (g*·)/\b=g*z/\zs.length=ns.length:=by
 obtain⟨e,gp⟩:=U4 (ns:=ns) hb;have dv:=jP (ns++[b]) 0;rw[Pa hb]at dv;have ex:∀n∈ns++[b],gl ns b*n.fdiv (gl ns b)=n:=λn hn=>by
  obtain⟨q,e⟩:=dv.2 n hn
  conv=>lhs;rhs;rw[e]
  rw[nN (by omega)];exact e.symm
 refine⟨_,_,gl ns b,e,gp,?_,?_,(ex b (jK ns b)).symm,aj _⟩
 .have h:=ex b (jK ns b)
  have:0<b.fdiv (gl ns b)*gl ns b:=by rw[db,h];exact hb
  exact xc this gp
 .rw[dg]
  conv=>lhs;rw[<-tf ns]
  refine ij λn hn=>?_;exact(ex n (ju _ hn)).symm
theorem La(ns:AS){b:Int}(hb:0<b):low (low (ns++[b]))=low (ns++[b]):=by
 obtain⟨zs,z,g,e,hg,hz,e1,e2,_⟩:=vV ns hb;rw[e];refine zY (k:=g) (m:=1) hg (by decide) (mV (jK zs z) (by omega)) ?_ |>.trans e;rw[dz,<-e1];show ns++[g*z]=(ns++[b]).map (1*·);rw[<-e2]
 conv=>lhs;rw[<-tf (ns++[b])]
 refine ij λn _=>?_;exact(iu n).symm
def sm(xs:AS)(w:Int)(ys:AS)(v:Int):AS:=bf (λx y=>x*v+y*w) xs ys
theorem Up{xs ys:AS}{f g:Int->Int->Int}(h:∀x y,f x y=g x y):bf f xs ys=bf g xs ys:=by
 have:f=g:=funext λx=>funext λy=>h x y;rw[this]
theorem Ss(xs:AS)(w:Int)(ys:AS)(v:Int):bf (λx y=>1*x*v+y*w) xs ys=sm xs w ys v:=Up λx y=>by rw[iu]
theorem Js(xs:AS)(w:Int)(ys:AS)(v:Int):bf (λy x=>-1*y*w+x*v) ys xs=sm xs w (ys.map (- ·)) v:=by
 unfold sm;rw[List.zipWith_map_right,List.zipWith_comm];refine Up λx y=>?_;rw[ky,iu];exact Int.add_comm _ _
theorem T8{xs ys:AS}{w v:Int}(h:xs.length=ys.length):(sm xs w ys v).length=xs.length:=by
 unfold sm;rw[dn];omega
end Bn
namespace L2
open PySem PySem.Spec PyProof.Rows Bn
section
variable{X:Cx}
theorem Sk{k:Nat}{i:Int}(h:Bd k i):e7 i<=k:=by
 unfold e7;split
 .exact je _
 .rename_i c
  have z:i.natAbs≠0:=by
   intro q;have:i=0:=by omega
   subst this;exact c rfl
  have:=(Nat.log2_lt z).mpr h;omega
def oH(_ j:Int):Prop:=j≠0/\Bd 8000 j
theorem Dy:dX X (binaryOp .FloorDiv) (rI oH λi j=>.int (i.fdiv j)):=
 xQ λ_ _ _ _ _ _ _ hc q=>floordiv_int hc.1 q (.inl (PyProof.noPylong_of_log2 (Nat.lt_trans (hc.2.log (by decide)) (by decide))))
theorem PS.imp{st:Stmt}{t t':TS}(h:PS X st t)(i:∀D σ H,t' D σ H->t D σ H):PS X st t':=λBE s σ H D I q=>h BE s σ H D I (i D σ H q)
theorem fO.imp{st:List Stmt}{t t':TS}(h:fO X st t)(i:∀D σ H,t' D σ H->t D σ H):fO X st t':=λBE s σ H D I q=>h BE s σ H D I (i D σ H q)
theorem PE.imp{e:ag}{t t':TE}(h:PE X e t)(i:∀σ H Q,t' σ H Q->t σ H Q):PE X e t':=λBE s σ H Q I q=>h BE s σ H Q I (i σ H Q q)
theorem PT.imp{e:ag}{t t':TT}(h:PT X e t)(i:∀σ H Q,t' σ H Q->t σ H Q):PT X e t':=λBE s σ H Q I q=>h BE s σ H Q I (i σ H Q q)
theorem aH.turnedNew{BE:List (Addr×Obj)}{σ:St}{H:Hp}{s:aa}{h':Heap}{t':Nat}{ch:List Addr}{a:Addr}{o:HO}(I:aH X BE σ H s)(hf:∀b∈ch,fX X BE H b)
  (k:∀b u,b∉ch->s.heap.get? b=some u->h'.get? b=some u)(hp:s.heap.objs.size<=a)(new:fN X.prog X.w (bA H a o) h' a o):
  aH X BE σ (bA H a o) {s with heap:=h',toks:=t'}:=by
 have hn:H a=none:=I.hok.fresh hp;have nch:∀b u,H b=some u->b∉ch:=λb u e z=>by
  rw[(hf b z).1]at e;cases e
 have nea:∀b u,H b=some u->b≠a:=λb u e=>fV e hn;refine I.step (g':=s.gens) (d':=s.drawn) (ch:=ch) (λb hb=>?_) (λb u _ _ hc e _=>k b u hc e) (λb u _ _ hc e _=>⟨u.slots,k b u hc e⟩) (λb u _ e n=>?_)
  (λb u hc e=>⟨u,k b u hc e⟩) (λb xs e=>?_) (λb u v e=>?_) (λb ps e=>⟨#[],?_⟩) (λm hm=>?_) (λb u e=>?_) I.bare
 .obtain⟨_,f1,_,f3,f4,f5⟩:=hf b hb
  exact⟨f3,f1,f4,f5⟩
 .rw[bV (dm (df (bn e) hp))]
  exact n
 .rw[bV (nea b _ e)]
  exact e
 .rw[bV (nea b _ e)]
  exact e
 .rw[bV (nea b _ e),e]
  simp
 .obtain⟨ob,es,ep,ho,r⟩:=hm
  exact⟨ob,es,ep,k _ ob (λz=>(hf _ z).2.1 rfl) ho,r⟩
 .by_cases hb:b=a
  .subst hb
   rw[fR]at e;cases e;exact new
  .rw[bV hb]at e
   refine(I.hok b u e).stay (λc v hc q=>k c v ?_ q) (λc q=>?_) λc xs q=>?_
   .rcases hc with z |z
    .rw[z]
     exact nch b u e
    .exact nch c _ z
   .rw[bV (nea c _ q)]
    exact q
   .rw[bV (nea c _ q)]
    exact q
theorem aH.turnedL{BE:List (Addr×Obj)}{σ:St}{H:Hp}{s:aa}{h':Heap}{t':Nat}{ch:List Addr}(I:aH X BE σ H s)(hf:∀b∈ch,fX X BE H b)
  (k:∀b u,b∉ch->s.heap.get? b=some u->h'.get? b=some u):aH X BE σ H {s with heap:=h',toks:=t'}:=by
 have nch:∀b u,H b=some u->b∉ch:=λb u e z=>by
  rw[(hf b z).1]at e;cases e
 refine I.step (g':=s.gens) (d':=s.drawn) (ch:=ch) (λb hb=>?_) (λb u _ _ hc e _=>k b u hc e) (λb u _ _ hc e _=>⟨u.slots,k b u hc e⟩) (λb u _ e n=>n)
  (λb u hc e=>⟨u,k b u hc e⟩) (λb xs e=>e) (λb u v e=>e) (λb ps e=>⟨#[],?_⟩) (λm hm=>?_) (λb u e=>?_) I.bare
 .obtain⟨_,f1,_,f3,f4,f5⟩:=hf b hb
  exact⟨f3,f1,f4,f5⟩
 .rw[e]
  simp
 .obtain⟨ob,es,ep,ho,r⟩:=hm
  exact⟨ob,es,ep,k _ ob (λz=>(hf _ z).2.1 rfl) ho,r⟩
 .refine(I.hok b u e).stay (λc v hc q=>k c v ?_ q) (λc q=>q) λc xs q=>q
  rcases hc with z |z
  .rw[z]
   exact nch b u e
  .exact nch c _ z
end
def Cd (K : ae) (a : Addr) : It :=
  ⟨λi H => ∃ xs x, bU K H a xs ∧ xs[i]? = some x,
   λi H x H' => ∃ p y, H p = none ∧ x = .ref p ∧ H' = bA H p (.tup [.int i, y]) ∧ ∀ xs, bU K H a xs → xs[i]? = some y,
   λi H => ∃ xs, bU K H a xs ∧ xs.length ≤ i⟩
theorem Fu{P:Program}{w:am}{K:ae}{elts:List ag}{x1:Nat}{tp:ai}(a e it:Addr)(hne:e≠it):
  qI P w K (.Tuple elts x1 tp) (Cd K a) [e,it] e (λi h=>(∃old,IsEnum h e it (i:Int) old)/\h.IsListIter it a i) where
 mem:=by simp
 obj:=λi h st b hb=>by
  obtain⟨⟨old,q⟩,o,e1,c,d⟩:=st;rcases cf.mp hb with z |z
  .subst z
   exact⟨_,q,λv z=>nomatch z⟩
  .have z':b=it:=by simpa using z
   subst z';exact⟨o,e1,λv z=>by rw[d]at z;cases z⟩
 keep:=λi h h' st k=>⟨let⟨old,q⟩:=st.1;⟨old,k e (by simp) _ q⟩,st.2.at λo q=>k it (by simp) o q⟩
 item:=by
  intro X hP hw hK hc i BE s σ H E I hf st hg;subst hP hw hK;obtain⟨xs,x,hq,hx⟩:=hg;obtain⟨its,rv,pl,hz⟩:=I.list hq;obtain⟨u,hu,ru⟩:=rv.get hx;obtain⟨⟨old,he⟩,hit⟩:=st;refine wpAny_pyNext_enum_item he hit pl.isList (x:=u) (by simpa using hu) hne λh1 ho1 hit1 ht1 hs1 hk1=>⟨_,rfl,?_⟩;have lt1:e<s.heap.objs.size:=bn he;refine wpAny_letOwnedTupleGo_enum (s:={s with heap:=h1,toks:=s.toks+1}) ho1 λh2 he2 sb2=>?_;have ht2:h2.get? s.heap.objs.size=some {cls:=.type "tuple",data:=.seq #[.int i s.toks,u]}:=(sb2.2 _ (oj lt1)).trans ht1;have I2:aH X BE σ (bA H s.heap.objs.size (.tup [.int i,x])) {s with heap:=h2,toks:=s.toks+1}:=
   I.turnedNew hf (λb o hb q=>(sb2.2 b (λz=>hb (by simp[z]))).trans (hk1 b o (λz=>hb (by simp[z])) (λz=>hb (by simp[z])) q)) (ar _)
    ⟨⟨by show 2<=sizeLine;decide,_,ht2,rfl⟩,[.int i s.toks,u],.cons ⟨_,rfl⟩ (.cons ru .nil),⟨_,ht2,rfl,_,rfl⟩⟩
  refine⟨.ref s.heap.objs.size,_,I2,rfl,⟨_,x,I.hok.fresh (ar _),rfl,rfl,λys hy=>by rw[I.list_inj hy hq];exact hx⟩,⟨⟨_,by simpa using he2⟩,hit1.at λo q=>(sb2.2 it hne.symm).trans q⟩,λb hb=>?_⟩;have hb':=(hf b hb).1;have lt:b≠s.heap.objs.size:=by
   rcases cf.mp hb with z |z
   .subst z
    exact dm lt1
   .have z':b=it:=by simpa using z
    subst z';obtain⟨o,q,_⟩:=hit;exact dm (bn q)
  rw[bV lt];exact hb'
 done:=by
  intro X hP hw hK hc i BE s σ H E I hf st hg;subst hP hw hK;obtain⟨xs,hq,hx⟩:=hg;obtain⟨its,rv,pl,hz⟩:=I.list hq;obtain⟨⟨old,he⟩,hit⟩:=st;have hl:=rv.length;exact wpAny_pyNext_enum_end (I.ok.hd hc) he hit pl.isList (by simp;omega) λh' eb=>⟨rfl,I.turnedL (t':=s.toks) hf λb o hb q=>eb b o (λz=>hb (by simp[z])) q⟩
 self:=λ_ _ _ _ _ st h=>let⟨_,q⟩:=st.1;wpAny_pyIter_enum q h
section
variable{X:Cx}{elts:List ag}{x1:Nat}{tp:ai}
def Z9(K:ae)(tl:TA):TI:=λσ H R=>tl σ H λvs H1=>∃a,vs=[.ref a]/\(∃xs,bU K H1 a xs)/\R (Cd K a) H1
theorem J2{l:ag}{tl:TA}{p pos:ai}(hg:Gl X "enumerate")(hm:X.mg "enumerate"=none)(hl:PA X [l] tl)(hs:starEach [l] X.env=[(false,eval l X.env)]:=by rfl):
  PI X (.Tuple elts x1 tp) (.Call (.Name "enumerate" p) [l] [] pos) (Z9 X.K tl):=by
 intro BE s σ H R I h;refine Call_ (nX I hg hm boot_enumerate (qo (bJ (hl pos BE s σ H _ I h) λus s1 hq=>?_) hs rfl));rcases hq with⟨vs,H1,I1,r1,q1⟩;obtain⟨a,rfl,⟨xs,hq⟩,q⟩:=q1;obtain⟨u,rfl,ru⟩:=kD r1;cases ru;obtain⟨its,rv,pl,hz⟩:=I1.list hq;refine call_enumerate_list pl.isList λh' he hit hsz k=>?_;have I2:aH X BE σ H1 {s1 with heap:=h'}:=I1.kept (t':=s1.toks) k;refine wpAny_pyIter_enum (s:={s1 with heap:=h'}) he ?_;refine⟨s1.heap.objs.size+1,[s1.heap.objs.size+1,s1.heap.objs.size],_,_,H1,rfl,I2,Fu a _ _ (Nat.succ_ne_self _),⟨⟨_,he⟩,hit⟩,λb hb=>?_,q⟩;have hb':s1.heap.objs.size<=b:=by
  rcases cf.mp hb with z |z
  .rw[z]
   exact qv _
  .have z':b=s1.heap.objs.size:=by simpa using z
   rw[z'];exact ar _
 exact I1.fpOk hb' (I1.hok.fresh hb')
end
def gG(env:bh):List (Str×gw)->List (Str×Addr)->List (Str×Addr)
 |[],acc=>acc
 |p::r,acc=>if(p.2== .free)=true then gG env r ((p.1,(env.cells.lookup p.1).getD 0)::acc)else gG env r acc
theorem Ul{sc:Scope}{env:bh}(h:∀p∈sc.names,p.2=.free->∃c,env.cells.lookup p.1=some c):closureFor sc env=pure (gG env sc.names []):=by
 unfold closureFor;have go:∀(l:List (Str×gw))(acc:List (Str×Addr)),(∀p∈l,p.2=.free->∃c,env.cells.lookup p.1=some c)->
   (forIn l acc (λx r=>if(x.2==ia)=true then do let a <-cellOf env x.1;pure (e8 ((x.1,a)::r))else pure (e8 r)):Sem _)=pure (gG env l acc):=by
  intro l
  induction l with
  |nil=>intro acc _;rfl
  |cons p r ih=>
   intro acc hp;rw[xf];have hr:=λacc'=>ih acc' λq hq=>hp q (ay _ hq)
   by_cases c:(p.2==ia)=true
   .obtain⟨a,ea⟩:=hp p bo (by simpa using c)
    have e1:cellOf env p.1=pure a:=by unfold cellOf;rw[ea]
    rw[if_pos c,e1];simp only[pure_bind];rw[hr];show _=pure (if(p.2== .free)=true then _ else _);rw[if_pos c,ea];rfl
   .rw[if_neg c]
    simp only[pure_bind];rw[hr];show _=pure (if(p.2== .free)=true then _ else _);rw[if_neg c]
 have e:=go sc.names [] h;show(forIn sc.names [] _ >>= λr=>pure r)=_;rw[bind_pure];exact e
theorem tY{env:bh}:∀(l:List (Str×gw))(acc:List (Str×Addr)),(∀p∈l,p.2=.free->∃c,env.cells.lookup p.1=some c)->
  ∀y c,(gG env l acc).lookup y=some c->acc.lookup y=some c\/env.cells.lookup y=some c
 |[],acc,_,y,c,e=>.inl e
 |p::r,acc,h,y,c,e=>by
  have hr:∀q∈r,q.2=.free->∃c,env.cells.lookup q.1=some c:=λq hq=>h q (ay _ hq);unfold gG at e
  by_cases k:(p.2==ia)=true
  .rw[if_pos k]at e
   obtain⟨a,ea⟩:=h p bo (by simpa using k);rcases tY r _ hr y c e with z |z
   .rw[ee]at z
    cases w:y==p.1 with
    |true=>
     rw[w,ea]at z;have hy:y=p.1:=by simpa using w
     rw[hy,ea];exact .inr z
    |false=>
     rw[w]at z;exact .inl z
   .exact .inr z
  .rw[if_neg k]at e
   exact tY r acc hr y c e
theorem pF{env:bh}:∀(l:List (Str×gw))(acc:List (Str×Addr))(y:Str),((∃c,acc.lookup y=some c)\/(y,ia)∈l)->∃c,(gG env l acc).lookup y=some c
 |[],acc,y,h=>by
  rcases h with h |h
  .exact h
  .cases h
 |p::r,acc,y,h=>by
  unfold gG
  by_cases k:(p.2==ia)=true
  .rw[if_pos k]
   refine pF r _ y ?_;cases w:y==p.1 with
   |true=>exact .inl ⟨_,by rw[ee,w]⟩
   |false=>
    rcases h with⟨c,h⟩|h
    .exact .inl ⟨c,by rw[ee,w];exact h⟩
    .rcases cf.mp h with z |z
     .rw[<-z]at w
      simp at w
     .exact .inr z
  .rw[if_neg k]
   refine pF r _ y ?_;rcases h with h |h
   .exact .inl h
   .rcases cf.mp h with z |z
    .rw[<-z]at k
     simp at k
    .exact .inr z
theorem Be{env:bh}:∀{names:List (Str×gw)}{x:Str},(∀y∈names,y.2≠.cell)->
  (let l:=(names.map λ(n,k)=>if(k==ia&&env.scope.kind== .function&&env.kindOf n==some .cell)then(n,gv)else(n,k)).lookup x;l=some .cell\/l=some .free)->(x,ia)∈names
 |[],x,_,h=>by
  rcases h with h |h<;>cases h
 |(n,k)::r,x,hc,h=>by
  dsimp only at h;rw[av]at h;have ih:=@Be env r x λy hy=>hc y (ay _ hy);have nk:k≠.cell:=hc (n,k) bo
  by_cases c:(k==ia&&env.scope.kind== .function&&env.kindOf n==some .cell)=true
  .have kf:k=.free:=by
    simp only[ji,beq_iff_eq]at c;exact c.1.1
   dsimp only at h;rw[if_pos c,ee]at h;cases w:x==n with
   |true=>
    have hx:x=n:=by simpa using w
    rw[hx,<-kf];exact bo
   |false=>
    rw[w]at h;exact ay _ (ih h)
  .dsimp only at h
   rw[if_neg c,ee]at h;cases w:x==n with
   |true=>
    rw[w]at h;have hx:x=n:=by simpa using w
    have kf:k=.free:=by
     rcases h with h |h
     .exact absurd (cj h) nk
     .exact cj h
    rw[hx,<-kf];exact bo
   |false=>
    rw[w]at h;exact ay _ (ih h)
def gO(X:Cx)(sc:Scope)(N:List Str)(C:Addr)(BF:aa)(BG:Hp)(ex:List Addr):Cx where
 prog:=X.prog
 w:=X.w
 K:=X.K
 mg:=X.mg
 base:=X.base
 A:=X.A
 N:=N
 BF:=BF
 BG:=BG
 env:=compEnvC sc (gG X.env sc.names []) C X.env
 outer:=X.stack
 stack:=X.stack
 ex:=ex
 fn:=λ_=>false
 calm:=X.calm
 pn:=[]
 xe:=λ_ _=>False
def jV(own:List Str)(cap:List (Nat×Str))(σ:St):St:=own.map (λ_=>none)++cap.map λp=>(σ[p.1]?).join
def dC(own:List Str)(cap:List (Nat×Str)):List Str:=own++cap.map (·.2)
def wO(J:It)(g:TG)(te:TE)(BI:St)(H1:Hp)(D:Addr)(Q:VK):Prop:=
 ∃W:Nat->Nat->St->Hp->List V->Prop,(∃m,W 0 m BI (bA H1 D (.lst [])) [])/\∀i m σ H ys,W i m σ H ys->H D=some (.lst ys)/\
  ((J.stop i H/\Q (.ref D) H)\/(J.go i H/\ys.length<sizeLine/\∀x H2,J.yld i H x H2->g x σ H2 λσ3 H3=>te σ3 H3 λy H4=>H4 D=some (.lst ys)/\∃m',m'<m/\W (i+1) m' σ3 (bA H4 D (.lst (ys++[y]))) (ys++[y])))
def sN(own:List Str)(cap:List (Nat×Str))(wi:TI)(g:TG)(te:TE):TE:=λσ H Q=>wi σ H λJ H1=>∀D,H1 D=none->wO J g te (jV own cap σ) H1 D Q
def Nx(n:Nat)(Pv:Nat->St->Hp->List V->Prop)(D:Addr)(i:Nat)(ys:List V)(σ:St)(y:V)(H:Hp):Prop:=
 H D=some (.lst ys)/\∃m,m<n-i/\(m=n-(i+1)/\i+1<=n/\Pv (i+1) σ (bA H D (.lst (ys++[y]))) (ys++[y]))
theorem Y9{n:Nat}{Pv:Nat->St->Hp->List V->Prop}{D:Addr}{i:Nat}{ys:List V}{σ:St}{y:V}{H:Hp}(h:i<n)(hD:H D=some (.lst ys))(p:Pv (i+1) σ (bA H D (.lst (ys++[y]))) (ys++[y])):Nx n Pv D i ys σ y H:=
 ⟨hD,n-(i+1),by omega,rfl,h,p⟩
theorem G5{J:It}{g:TG}{te:TE}{BI:St}{H1:Hp}{D:Addr}{Q:VK}(n:Nat)(hn:n<=sizeLine)(Pv:Nat->St->Hp->List V->Prop)(h0:Pv 0 BI (bA H1 D (.lst [])) [])
  (hl:∀i σ H ys,Pv i σ H ys->ys.length=i/\H D=some (.lst ys))(hgo:∀i σ H ys,i<n->Pv i σ H ys->J.go i H)
  (hs:∀i σ H ys x H2,i<n->Pv i σ H ys->J.yld i H x H2->g x σ H2 λσ3 H3=>te σ3 H3 λy H4=>Nx n Pv D i ys σ3 y H4)
  (hd:∀σ H ys,Pv n σ H ys->J.stop n H/\Q (.ref D) H):wO J g te BI H1 D Q:=by
 refine⟨λi m σ H ys=>m=n-i/\i<=n/\Pv i σ H ys,⟨n,rfl,je _,h0⟩,?_⟩
 rintro i m σ H ys ⟨rfl,hi,p⟩
 obtain⟨l1,l2⟩:=hl i σ H ys p;refine⟨l2,?_⟩
 by_cases hlt:i<n
 .exact .inr ⟨hgo i σ H ys hlt p,by omega,λx H2 y=>hs i σ H ys x H2 hlt p y⟩
 .have e:i=n:=by omega
  subst e;exact .inl (hd σ H ys p)
section
variable{prog:Program}{w:am}{A:ao}{R:qq->aa->Prop}{s:aa}
theorem Zf{elt target iter:ag}{sc:Scope}{pos:ai}{it acc:Value}{env:bh}(I:Nat->aa->Prop)
  (turn:∀n s,I n s->wpAny (model prog w) A (pyNext it) (λr s1=>match r with
   |none=>R (.ok .next) s1
   |some v=>wpAny (model prog w) A (letOwnedTupleGo target it v) (λ_ s2=>wpAny (model prog w) A (assign target env v) (λ_ s3=>wpAny (model prog w) A (eval elt env)
     (λx s4=>wpAny (model prog w) A (call (.builtin "list.append") [acc,x]) (λ_ s5=>∃m,m<n/\I m s5) (λ_ _=>False) s4) (λ_ _=>False) s3) (λ_ _=>False) s2) (λ_ _=>False) s1) (λ_ _=>False) s)
  (n:Nat)(h:I n s):codeAny (model prog w) A (.compLoop (.ListComp elt [⟨target,iter,[],0⟩] sc pos) 0 it acc env) R s:=by
 refine codeAny_loop rfl I (λn s hI=>?_) n h;show wpAny _ _ ((compTurn (.ListComp elt [⟨target,iter,[],0⟩] sc pos) 0 it acc env).onRaise (λx=>do noteFrame x env;theTreesLotGoes x)) _ _ s;refine wpAny_noted ?_;rw[compTurn_list1];refine ah (rn (ah ?_));refine iy (turn n s hI) (λr s1 h1=>?_) λ_ _ z=>z.elim;cases r with
 |none=>exact bi h1
 |some v=>
  refine ah (iy h1 (λ_ s2 h2=>?_) λ_ _ z=>z.elim);refine ah (iy h2 (λ_ s3 h3=>?_) λ_ _ z=>z.elim);refine ah (ah (iy h3 (λx s4 h4=>?_) λ_ _ z=>z.elim));refine ah (iy h4 (λ_ s5 h5=>?_) λ_ _ z=>z.elim);exact bi (bi ⟨rfl,h5⟩)
end
structure iK(X:Cx)(sc:Scope)(own:List Str)(cap:List (Nat×Str)):Prop where
 kind:sc.kind=.function
 names:∀y∈sc.names,y.2=.local->sc.names.lookup y.1=some .local
 nocell:∀y∈sc.names,y.2≠.cell
 free:∀y∈sc.names,y.2=.free->X.env.kindOf y.1=some .cell
 at':∀p∈cap,X.N[p.1]?=some p.2
 cap:∀p∈cap,sc.names.lookup p.2=some .free
section
variable{X:Cx}{sc:Scope}{own:List Str}{cap:List (Nat×Str)}{BE:List (Addr×Obj)}{σ:St}{H:Hp}{s:aa}
theorem iK.has(k:iK X sc own cap)(ok:X.Ok):∀p∈sc.names,p.2=.free->∃c,X.env.cells.lookup p.1=some c:=λp hp e=>ok.has p.1 (.inl (k.free p hp e))
theorem qX{env:bh}:∀{names:List (Str×gw)}{x:Str},env.scope.kind=.function->names.lookup x=some .free->env.kindOf x=some .cell->
  (names.map λ(n,k)=>if(k==ia&&env.scope.kind== .function&&env.kindOf n==some .cell)then(n,gv)else(n,k)).lookup x=some .cell
 |[],x,_,h,_=>by cases h
 |(n,k)::r,x,hk,h,hx=>by
  rw[av];dsimp only;rw[ee]at h;cases w:x==n with
  |true=>
   rw[w]at h;have e:x=n:=by simpa using w
   have kf:k=.free:=cj h;have c:(k==ia&&env.scope.kind== .function&&env.kindOf n==some .cell)=true:=by
    rw[kf,hk,<-e,hx];decide
   rw[if_pos c,ee,w]
  |false=>
   rw[w]at h;have ih:=@qX env r x hk h hx
   by_cases c:(k==ia&&env.scope.kind== .function&&env.kindOf n==some .cell)=true
   .rw[if_pos c,ee,w]
    exact ih
   .rw[if_neg c,ee,w]
    exact ih
theorem aH.cmp(k:iK X sc own cap){h4:Heap}{fp:List Addr}{m:Str->AX}{t':Nat}(I:aH X BE σ H s)(hf:∀b∈fp,fX X BE H b)(hlt:∀b∈fp,b<s.heap.objs.size)(hns:h4.Ns s.heap.objs.size m)
  (kp:∀b o,s.heap.get? b=some o->h4.get? b=some o):aH (gO X sc (dC own cap) s.heap.objs.size s H fp) [] (jV own cap σ) H {s with heap:=h4,toks:=t'}:=by
 have hcl:∀y c,(gG X.env sc.names []).lookup y=some c->X.env.cells.lookup y=some c:=λy c e=>by
  rcases tY sc.names [] (k.has I.ok) y c e with z |z
  .cases z
  .exact z
 have nst:∀b∈fp,b∉dN X.stack:=λb hb z=>by
  rcases cf.mp (I.stkSub b z)with e |e
  .exact(hf b hb).2.1 e
  .exact(hf b hb).2.2.1 e
 refine⟨⟨I.ok.mod,k.kind,I.ok.glob,I.ok.blt,ar _,λx y c h1 h2=>I.ok.inj x y c (hcl x c h1) (hcl y c h2),λx hx=>?_,λx c e=>(nomatch e),I.ok.hd,I.ok.frames,.inl rfl,λb hb=>⟨dm (hlt b hb),λx c e=>(hf b hb).2.2.2.2.1 x c (hcl x c e)⟩,
  I.bs,fk I.ok.bsz I.sz,λb o e hb=>?_,nst,I.stack,I.stkFree⟩,rfl,I.bare,Un.kept kp,⟨m,hns,λi x v h1 h2 h3=>?_⟩,λx c e=>?_,I.hok.fresh (ar _),λx c e=>I.freeC x c (hcl x c e),λp hp=>absurd (show p∈([]:List (Addr×Obj)) from hp) (by simp),I.hok.kept kp,?_⟩
 .exact pF sc.names [] x (.inr (Be k.nocell hx))
 .rcases(hf b hb).2.2.2.1 with z |z
  .exact I.ok.noex b o e z
  .exact absurd (df (bn (I.ok.bs b o e).1) z) (jh _)
 .have hN:(dC own cap)[i]?=some x:=h1
  unfold dC at hN;unfold jV at h2
  by_cases hi:i<own.length
  .rw[ft (by simpa using hi),dj]at h2
   cases e:own[i]? with
   |none=>rw[e]at h2;cases h2
   |some z=>rw[e]at h2;cases h2
  .rw[gh (by simpa using hi),dj,aj]at h2
   rw[gh (by omega),dj]at hN;cases e:cap[i-own.length]? with
   |none=>rw[e]at h2;cases h2
   |some p=>
    rw[e]at h2 hN;have hp:p∈cap:=gi e;have hx:p.2=x:=cj hN;have hv:(σ[p.1]?).join=some v:=cj h2;have hv':σ[p.1]?=some (some v):=by
     cases e2:σ[p.1]? with
     |none=>rw[e2]at hv;cases hv
     |some z=>rw[e2]at hv;exact congrArg some hv
    have fr:=k.cap p hp;have kc:X.env.kindOf p.2=some .cell:=k.free (p.2,.free) (jy fr) rfl;obtain⟨m0,_,hl⟩:=I.loc;obtain⟨u,ru,lk⟩:=hl p.1 p.2 v (k.at' p hp) hv' (.inr (.inl kc));refine⟨u,ru,?_⟩;rcases lk with⟨k1,_⟩|⟨_,c,ec,cell⟩
    .rw[kc]at k1
     cases k1
    .rw[<-hx]
     obtain⟨c',ec'⟩:=pF (env:=X.env) sc.names [] p.2 (.inr (jy fr));have:=(hcl _ _ ec').symm.trans ec;cases this;obtain⟨o,ho,hd⟩:=cell;exact .inr ⟨.inl (qX I.ok.kind fr kc),c,ec',o,kp c o ho,hd⟩
 .obtain⟨v,o,ho,hd⟩:=I.cell x c (hcl x c e)
  exact⟨v,o,kp c o ho,hd⟩
 .unfold jV
  show _=(dC own cap).length;unfold dC;rw[bj,bj,aj,aj,aj]
theorem aH.uncmp{s3 s':aa}{H3 H':Hp}{N:List Str}{σ':St}{C:Addr}{fp:List Addr}{pl:List (Addr×Obj)}(I:aH X BE σ H s)(hf:∀b∈fp,fX X BE H b)(u:Un (dN X.stack) fp H H3 s.heap s3.heap)(os:s3.os=s.os)
  (J:aH (gO X sc N C s3 H3 fp) pl σ' H' s'):aH X BE σ H' s':=by
 have os':s'.os=s.os:=(show s'.os=s3.os from J.os).trans os;refine I.call' (ch:=fp) os' (u.trans J.base) J.hok J.bare λb hb=>?_;obtain⟨_,f1,_,f3,f4,f5⟩:=hf b hb;exact⟨f3,f1,f4,f5⟩
end
section
variable{X:Cx}{sc:Scope}{own:List Str}{cap:List (Nat×Str)}{BE:List (Addr×Obj)}{σ:St}{H:Hp}{s:aa}{elt target iter:ag}{pos pos':ai}{wi:TI}{g:TG}{te:TE}{Q:VK}
theorem Wf{use:Option (Value->Sem Unit)}{Qf:Value->aa->Prop}(k:iK X sc own cap)(hi:PI X target iter wi)(hc:X.calm=true)
  (hg:∀C BF BG ex,PG (gO X sc (dC own cap) C BF BG ex) target g)(he:∀C BF BG ex,PE (gO X sc (dC own cap) C BF BG ex) elt te)(I:aH X BE σ H s)(h:sN own cap wi g te σ H Q)
  (fin:∀D C s' H' m,aH X BE σ H' s'->fX X BE H' C->s'.heap.Ns C m->Q (.ref D) H'->compPost (model X.prog X.w) X.A X.xe use Qf (.ref D) C (.ok .next) s')
  (hs:∀x,foldedSetIterable iter X.env x=pure x):
  wpAny (model X.prog X.w) X.A (comprehension (.ListComp elt [⟨target,iter,[],0⟩] sc pos) sc X.env pos' (newList []) false (eval iter X.env) use) Qf X.xe s:=by
 refine f6 (use:=use) rfl hs (Ul (k.has I.ok)) k.kind k.names ?_;refine bJ (hi BE s σ H _ I h) λv s1 h1=>bJ h1 λitv s2 h2=>?_;obtain⟨it,fp,tn,J,H2,e,I2,T,st2,f2,hW⟩:=h2;subst e;refine ke (wpAny_newFunctionEnv k.nocell (λy hy=>nomatch hy) (λh4 hns hsb=>?_) k.kind);have I3:aH X BE σ (bA H2 s2.heap.objs.size (.lst [])) {s2 with heap:=s2.heap.push {cls:=.type "list",data:=.seq ([]:AW).toArray},toks:=s2.toks}:=I2.lnew (ys:=[]) (its:=[]) .nil (je _);have hD:H2 s2.heap.objs.size=none:=I2.fresh;have ltf:∀b∈fp,b<s2.heap.objs.size:=λb hb=>by
  obtain⟨o,ho,_⟩:=T.obj _ _ st2 b hb;exact bn ho
 have f3:∀b∈fp,fX X BE (bA H2 s2.heap.objs.size (.lst [])) b:=λb hb=>⟨by rw[bV (dm (ltf b hb))];exact(f2 b hb).1,(f2 b hb).2⟩;have un:Un (dN X.stack) fp H2 (bA H2 s2.heap.objs.size (.lst [])) s2.heap (s2.heap.push {cls:=.type "list",data:=.seq ([]:AW).toArray}):=Un.laid (λb u q=>az _ q) (ar _) hD;have kp:∀b o,(s2.heap.push {cls:=.type "list",data:=.seq ([]:AW).toArray}).get? b=some o->h4.get? b=some o:=λb o q=>hsb.extBut b o (dm (bn q)) (az _ q);have J0:=I3.cmp (t':=s2.toks+([]:List (Str×Value)).length) k f3 (λb hb=>df (ltf b hb) (by rw[jn];exact qv _)) hns kp;have stat:∀{H':Hp},(∀b∈fp,H' b=none)->∀b∈fp,fX (gO X sc (dC own cap) (s2.heap.push {cls:=.type "list",data:=.seq ([]:AW).toArray}).objs.size {s2 with heap:=s2.heap.push {cls:=.type "list",data:=.seq ([]:AW).toArray},toks:=s2.toks} (bA H2 s2.heap.objs.size (.lst [])) fp) [] H' b:=λhn b hb=>
  ⟨hn b hb,(J0.ok.exf b hb).1,J0.ok.exfs b hb,.inl hb,(J0.ok.exf b hb).2,λp hp=>absurd (show p∈([]:List (Addr×Obj)) from hp) (by simp)⟩
 have st4:tn 0 h4:=T.keep _ _ _ st2 λb hb o q=>kp b o (az _ q);have fr0:∀b∈fp,(bA H2 s2.heap.objs.size (.lst [])) b=none:=λb hb=>(f3 b hb).1;have loop:codeAny (model X.prog X.w) X.A (.compLoop (.ListComp elt [⟨target,iter,[],0⟩] sc pos) 0 (.ref it) (.ref s2.heap.objs.size) (compEnvC sc (gG X.env sc.names []) (s2.heap.push {cls:=.type "list",data:=.seq ([]:AW).toArray}).objs.size X.env))
   (compPost (model X.prog X.w) X.A X.xe use Qf (.ref s2.heap.objs.size) (s2.heap.push {cls:=.type "list",data:=.seq ([]:AW).toArray}).objs.size) {s2 with heap:=h4,toks:=s2.toks+([]:List (Str×Value)).length}:=by
  obtain⟨W,⟨m0,w0⟩,turn⟩:=hW s2.heap.objs.size hD;refine Zf (λn s'=>∃i σ' H' ys,aH (gO X sc (dC own cap) (s2.heap.push {cls:=.type "list",data:=.seq ([]:AW).toArray}).objs.size {s2 with heap:=s2.heap.push {cls:=.type "list",data:=.seq ([]:AW).toArray},toks:=s2.toks} (bA H2 s2.heap.objs.size (.lst [])) fp) [] σ' H' s'/\tn i s'.heap/\(∀b∈fp,H' b=none)/\W i n σ' H' ys) ?_ m0
   ⟨0,_,_,[],J0,st4,fr0,w0⟩
  rintro n s5 ⟨i,σ5,H5,ys,I5,st5,fr5,w5⟩
  obtain⟨hD5,w5⟩:=turn i n σ5 H5 ys w5;rcases w5 with⟨stop,qn⟩|⟨go,hlt,step⟩
  .refine bJ (T.done (gO X sc (dC own cap) (s2.heap.push {cls:=.type "list",data:=.seq ([]:AW).toArray}).objs.size {s2 with heap:=s2.heap.push {cls:=.type "list",data:=.seq ([]:AW).toArray},toks:=s2.toks} (bA H2 s2.heap.objs.size (.lst [])) fp) rfl rfl rfl hc i [] s5 σ5 H5 _ I5 (stat fr5) st5 stop) ?_
   rintro r s6 ⟨hr,I6⟩
   subst hr;obtain⟨m,hn,_⟩:=id I6.loc;exact fin _ _ s6 H5 m (I2.uncmp (s3:={s2 with heap:=s2.heap.push {cls:=.type "list",data:=.seq ([]:AW).toArray},toks:=s2.toks}) f2 un rfl I6) (I3.fpOk (ar _) I6.free) hn qn
  .refine bJ (T.item (gO X sc (dC own cap) (s2.heap.push {cls:=.type "list",data:=.seq ([]:AW).toArray}).objs.size {s2 with heap:=s2.heap.push {cls:=.type "list",data:=.seq ([]:AW).toArray},toks:=s2.toks} (bA H2 s2.heap.objs.size (.lst [])) fp) rfl rfl rfl hc i [] s5 σ5 H5 _ I5 (stat fr5) st5 go) ?_
   rintro r s6 ⟨u,hr,h6⟩
   subst hr;refine bJ h6 ?_
   rintro _ s7 ⟨x,H7,I7,r7,y7,st7,fr7⟩
   have I7':=I7.pinned (stat fr7) (T.obj _ _ st7);refine bJ (hg _ _ _ _ _ s7 σ5 H7 x u _ I7' r7 (step x H7 y7)) ?_
   rintro _ s8 ⟨σ8,H8,I8,q8⟩
   refine bJ (he _ _ _ _ _ s8 σ8 H8 _ I8 q8) ?_
   rintro v9 s9 ⟨y,H9,I9,r9,hD9,m',hm,w9⟩
   refine bJ (uJ _ s9 σ8 H9 (.ref s2.heap.objs.size) [y] (.ref s2.heap.objs.size) [v9] (λ_ H'=>H'=bA H9 s2.heap.objs.size (.lst (ys++[y]))) I9 rfl (.cons r9 .nil) ⟨_,ys,y,rfl,rfl,hD9,hlt,rfl⟩) ?_
   rintro _ s10 ⟨_,H10,I10,_,q10⟩
   subst q10;refine⟨m',hm,i+1,σ8,_,_,I10.unpinned,T.keep _ _ _ st7 λb hb o q=>(I10.pin (b,o) (gr _ (gr _ (oZ hb q)))).1,λb hb=>?_,w9⟩;obtain⟨o,q,d⟩:=T.obj _ _ st7 b hb;exact(I10.pin (b,o) (gr _ (gr _ (oZ hb q)))).2.1
 exact f7 loop (T.self _ 0 _ _ _ st4 loop)
theorem Nz(k:iK X sc own cap)(hi:PI X target iter wi)(hc:X.calm=true)
  (hg:∀C BF BG ex,PG (gO X sc (dC own cap) C BF BG ex) target g)(he:∀C BF BG ex,PE (gO X sc (dC own cap) C BF BG ex) elt te)
  (hs:∀x,foldedSetIterable iter X.env x=pure x:=by intro _;rfl):PE X (.ListComp elt [⟨target,iter,[],0⟩] sc pos) (sN own cap wi g te):=by
 intro BE s σ H Q I h;rw[eval_ListComp];refine Wf (use:=none) k hi hc hg he I h (λD C s' H' m I' fC hn q=>?_) hs;refine⟨m,hn,λh' sb=>⟨.ref D,H',?_,rfl,q⟩⟩;obtain⟨f0,f1,f2,f3,f4,f5⟩:=fC;exact I'.turned (t':=s'.toks) (λb o hb e=>(sb.2 b hb).trans e) f0 f1 f3 f4 f5
theorem K3{i:Nat}{x:Str}{py spos:ai}(hN:X.N.Nodup)(hx:X.N[i]?=some x)(hl:iW X.env.scope x)(k:iK X sc own cap)(hi:PI X target iter wi)(hc:X.calm=true)
  (hg:∀C BF BG ex,PG (gO X sc (dC own cap) C BF BG ex) target g)(he:∀C BF BG ex,PE (gO X sc (dC own cap) C BF BG ex) elt te)
  (hs:∀x,foldedSetIterable iter X.env x=pure x:=by intro _;rfl)(hsw:swapsWith (.ListComp elt [⟨target,iter,[],0⟩] sc pos) (some (.Name x py)) spos.line X.env=pure true:=by rfl)
  (hf:X.fn x=true\/X.env.scope.names.lookup x=some .local:=by first |exact .inl rfl |exact .inr rfl |assumption):
  PS X (.Assign [.Name x py] (.ListComp elt [⟨target,iter,[],0⟩] sc pos) spos) (Jc (sN own cap wi g te) (Xb i)):=by
 intro BE s σ H D I h;rw[exec_Assign_Name_used _ _ _ _ hsw];refine ah (rn (ah ?_));show wpAny _ X.A (comprehension (.ListComp elt [⟨target,iter,[],0⟩] sc pos) sc X.env _ (newList []) false (eval iter X.env) (some (assign (.Name x py) X.env)) >>= λ_=>pure ()) _ _ s;refine ah (bJ (Wf (use:=some (assign (.Name x py) X.env)) (Qf:=λ_ s'=>SP X BE D .next s') k hi hc hg he I h (λB C s' H' m I' fC hn q=>?_) hs) λ_ s' hq=>bi (bi hq))
 show wpAny _ _ (assign (.Name x py) X.env (.ref B)) _ _ s';obtain⟨o,es,ep,ho,hd,r⟩:=hn;obtain⟨f0,f1,f2,f3,f4,f5⟩:=fC;have I'':aH X (BE++[(C,o)]) σ H' s':=I'.pins_of λp hp=>(ck.mp hp).elim (λz=>I'.pin p (gr _ z)) λz=>by
  have e:p=(C,o):=by simpa using z
  subst e;exact⟨ho,f0,f1,f2,λv z=>by rw[hd]at z;cases z⟩
 refine wpAny_assign_Name (mG I'' hN hx hl (v:=.ref B) rfl (λs2 I2=>?_) hf);have pC:=I2.pin (C,o) (by simp);refine⟨m,⟨o,es,ep,pC.1,hd,r⟩,λh' sb=>⟨_,H',?_,q⟩⟩;exact(I2.unpinned).turned (t':=s2.toks) (λb o hb e=>(sb.2 b hb).trans e) f0 f1 f3 f4 f5
end
section
variable{X:Cx}
end
section
variable{prog:Program}{w:am}{A:ao}{E:Value->aa->Prop}{s:aa}
theorem Ct{it t:Addr}{i:Nat}{items:Array Value}{x:Value}{Q:Value->aa->Prop}(git:s.heap.IsTupleIter it t i)(gt:s.heap.IsTuple t items)(gx:items[i]?=some x)
  (gQ:∀h',h'.IsTupleIter it t (i+1)->mq it s.heap h'->Q x {s with heap:=h'}):wpAny (model prog w) A (lc (.ref it)) Q E s:=by
 obtain⟨o,go,gc,gd⟩:=id git;obtain⟨ol,gol,_,nl,gdl⟩:=gt;unfold lc;refine ah (qu (name:=dk "__next__") git.typeIs tm (ou tm git.typeIs f9 ?_ (g7 _)));show wpAny _ _ (field (.ref it) 0 >>= _) _ _ s;refine ah (io go gd (x:=.ref t) rfl ?_);show wpAny _ _ (if(dy t==di)=true then _ else _) _ _ s;rw[if_neg (show ¬((dy t==di)=true) from ng)];show wpAny _ _ (field (.ref it) 1 >>= _) _ _ s;refine ah (io go gd (x:=.int i 0) rfl ?_);show wpAny _ _ (seqItems? (.ref t) >>= _) _ _ s;refine ah (lg gol gdl ?_);simp only[qs,gx];refine ah (xh go gd (by simp) (bi ⟨_,rfl,bi (gQ _ ?_ (g8 ..))⟩));refine⟨_,zx _ go (Obj.isFreed_of_fields (g9 gd _)),(Obj.cls_mapFields ..).trans gc,?_⟩;rw[g9 gd];simp[rawInt]
theorem Fr{it t:Addr}{i:Nat}{items:Array Value}{Q:Value->aa->Prop}(hh:A.handled=none)(git:s.heap.IsTupleIter it t i)(gt:s.heap.IsTuple t items)(gx:items[i]?=none)
  (gE:∀h' e,Heap.ExtBut it s.heap h'->(∃o,h'.get? e=some o/\o.cls=.type "StopIteration")->E (.ref e) {s with heap:=h'}):wpAny (model prog w) A (lc (.ref it)) Q E s:=by
 obtain⟨o,go,gc,gd⟩:=id git;obtain⟨ol,gol,_,nl,gdl⟩:=gt;unfold lc;refine ah (qu (name:=dk "__next__") git.typeIs tm (ou tm git.typeIs f9 ?_ (g7 _)));show wpAny _ _ (field (.ref it) 0 >>= _) _ _ s;refine ah (io go gd (x:=.ref t) rfl ?_);show wpAny _ _ (if(dy t==di)=true then _ else _) _ _ s;rw[if_neg (show ¬((dy t==di)=true) from ng)];show wpAny _ _ (field (.ref it) 1 >>= _) _ _ s;refine ah (io go gd (x:=.int i 0) rfl ?_);show wpAny _ _ (seqItems? (.ref t) >>= _) _ _ s;refine ah (lg gol gdl ?_);simp only[qs,gx]
 first
  |refine ah (oi (ah (xh go gd (by simp) (ah (tq ?_)))))
  |refine ah (oi (ah (xh go gd (by simp) ?_)))
 show wpAny _ _ (newExc (.type "StopIteration") [] >>= _) _ _ _;refine ah ?_;simp only[newExc,newTuple];refine ah (ke ?_ (by size_fits));refine ah (m:=firstArgMember _ _) (xi (a:=di) (by first |rfl |(simp only[firstArgMember];rfl)) ?_)
 refine ke ?_ (by size_fits);simp only[raiseNew];refine ah (wpAny_handled ?_)
 first
  |rw[show A.in1.handled=none from hh]
  |rw[hh]
 refine ah (bi (wpAny_throw ?_));exact gE _ _ (((g8 ..).extBut.push _).push _) ⟨_,du _ rfl,rfl⟩
end
theorem Kx{prog:Program}{w:am}{A:ao}(hh:A.handled=none)(it t:Addr)(hne:t≠it)(items:Array Value):
  kd prog w A it [it,t] items.size (λi v=>items[i]?=some v) (λi h=>h.IsTupleIter it t i/\h.IsTuple t items) where
 live:=λ_ _ st=>let⟨o,ho,_⟩:=st.1;⟨o,ho⟩
 frame:=λ_ _ _ st hk=>⟨let⟨o,ho,r⟩:=st.1;⟨o,hk it (by simp) o ho,r⟩,let⟨o,ho,r⟩:=st.2;⟨o,hk t (by simp) o ho,r⟩⟩
 item:=λi s Q E hi st hQ=>by
  refine Ct st.1 st.2 (x:=items[i]) (by simp[hi]) λh' hit' hs'=>?_;exact hQ _ h' s.toks (by simp[hi]) ⟨hit',st.2.extBut hs'.extBut hne⟩ hs'
 done:=λs Q E st hE=>Fr hh st.1 st.2 (by simp) hE
structure tD(z TI TO i1 i2:Addr)(fp1 fp2:List Addr):Prop where
 tiz:TI≠z
 toz:TO≠z
 tito:TI≠TO
 ti1:TI≠i1
 ti2:TI≠i2
 z1:z∉fp1
 z2:z∉fp2
 to1:TO∉fp1
 to2:TO∉fp2
 i12:i1∉fp2
 i21:i2∉fp1
 m1:i1∈fp1
 m2:i2∈fp2
section
variable{prog:Program}{w:am}{A:ao}{E:Value->aa->Prop}{s:aa}{z TI TO i1 i2:Addr}{fp1 fp2:List Addr}{n1 n2 i:Nat}{P1 P2:Nat->Value->Prop}{S1 S2:Nat->Heap->Prop}{a b:Value}
theorem Mu{Q:Value->aa->Prop}(D1:kd prog w A i1 fp1 n1 P1 S1)(D2:kd prog w A i2 fp2 n2 P2 S2)(ap:tD z TI TO i1 i2 fp1 fp2)(gz:ik s.heap z TI TO .none)(gTI:eh s.heap TI (.ref i1) (.ref i2))(gTO:eh s.heap TO a b)
  (g1:S1 i s.heap)(g2:S2 i s.heap)(l1:i<n1)(l2:i<n2)
  (gQ:∀h' tk x y,P1 i x->P2 i y->ik h' z TI TO (rawInt s.heap.objs.size)->eh h' TO x y->S1 (i+1) h'->S2 (i+1) h'->eh h' s.heap.objs.size x y->
   (∀c o,c≠z->c≠TO->c≠i1->c≠i2->s.heap.get? c=some o->h'.get? c=some o)->Q (.ref s.heap.objs.size) {s with heap:=h',toks:=tk}):
  wpAny (model prog w) A (Builtin.«zip.__next__» ⟨[.ref z],[]⟩) (λfin s'=>∃v,fin=.done (.ret v)/\Q v s') E s:=by
 have nz1:i1≠z:=λq=>ap.z1 (q▸ap.m1);have nz2:i2≠z:=λq=>ap.z2 (q▸ap.m2);have nt1:TO≠i1:=λq=>ap.to1 (q▸ap.m1);have nt2:TO≠i2:=λq=>ap.to2 (q▸ap.m2);show wpAny _ _ (field (.ref z) 2 >>= _) _ _ _;refine ah (io gz rfl (x:=.bool false) rfl ?_);show wpAny _ _ (field (.ref z) 3 >>= _) _ _ _;refine ah (io gz rfl (x:=.ref TI) rfl ?_);refine ah (lg gTI rfl ?_);show wpAny _ _ (tx (.ref z) >>= _) _ _ _;refine ah ?_;unfold tx;refine ah (io gz rfl (x:=.none) rfl (bi ?_));simp only[if_true];refine ah (oi ?_);refine ah (io gz rfl (x:=.ref TO) rfl ?_);refine ah (pk gz (by simp) λh1 gz1 s1=>?_)
 replace gz1:ik h1 z TI TO .ellipsis:=gz1
 refine ah ?_;simp only[i3,i4,xf,xj];refine ah (ah (tz ?_));show wpAny _ _ (lc (.ref i1) >>= _) _ _ _;refine ah (D1.item i _ _ _ l1 (D1.frame _ _ _ g1 λc hc o q=>s1.extBut c o (λe=>ap.z1 (e▸hc)) q) λx h2 tk2 px g1' s2=>bi ?_);have gTO2:eh h2 TO a b:=s2.extBut _ _ nt1 (s1.extBut _ _ ap.toz gTO);refine ah (lg gTO2 rfl ?_);refine ah (xk (s:={s with heap:=h2,toks:=tk2}) gTO2 λh3 gTO3 s3=>?_)
 replace gTO3:eh h3 TO x b:=gTO3
 replace s3:mq TO h2 h3:=s3
 refine ah (tq (bi ?_));refine ah (ah (tz ?_));show wpAny _ _ (lc (.ref i2) >>= _) _ _ _;have g2':S2 i h3:=D2.frame _ _ _ g2 λc hc o q=>s3.extBut c o (λe=>ap.to2 (e▸hc)) (s2.extBut c o (λe=>ap.i12 (e▸hc)) (s1.extBut c o (λe=>ap.z2 (e▸hc)) q));refine ah (D2.item i _ _ _ l2 g2' λy h4 tk4 py g2'' s4=>bi ?_)
 replace s4:mq i2 h3 h4:=s4
 have gTO4:eh h4 TO x b:=s4.extBut _ _ nt2 gTO3;refine ah (lg gTO4 rfl ?_);refine ah (xk (s:={s with heap:=h4,toks:=tk4}) gTO4 λh5 gTO5 s5=>?_)
 replace gTO5:eh h5 TO x y:=gTO5
 replace s5:mq TO h4 h5:=s5
 refine ah (tq (bi (bi ?_)));refine ah (lg gTO5 rfl ?_);refine ah (wpAny_newTuple ?_);have hsz:h5.objs.size=s.heap.objs.size:=by rw[s5.1,s4.1,s3.1,s2.1,s1.1]
 have gz5:ik h5 z TI TO .ellipsis:=s5.extBut _ _ ap.toz.symm (s4.extBut _ _ nz2.symm (s3.extBut _ _ ap.toz.symm (s2.extBut _ _ nz1.symm gz1)));have k5:∀c o,c≠z->c≠TO->c≠i1->c≠i2->s.heap.get? c=some o->h5.get? c=some o:=λc o c1 c2 c3 c4 q=>s5.extBut _ _ c2 (s4.extBut _ _ c4 (s3.extBut _ _ c2 (s2.extBut _ _ c3 (s1.extBut _ _ c1 q))));have g15:S1 (i+1) h5:=D1.frame _ _ _ g1' λc hc o q=>s5.extBut c o (λe=>ap.to1 (e▸hc)) (s4.extBut c o (λe=>ap.i21 (e▸hc)) (s3.extBut c o (λe=>ap.to1 (e▸hc)) q));have g25:S2 (i+1) h5:=D2.frame _ _ _ g2'' λc hc o q=>s5.extBut c o (λe=>ap.to2 (e▸hc)) q;have zlt:z<h5.objs.size:=bn gz5;show wpAny _ _ (i5 (.ref z) (.ref h5.objs.size) >>= _) _ _ _;refine ah ?_;unfold i5;have gz6:ik (h5.push {cls:=.type "tuple",data:=.seq #[x,y]}) z TI TO .ellipsis:=az _ gz5;refine ah (pk gz6 (by simp) λh7 gz7 s7=>?_)
 replace gz7:ik h7 z TI TO (rawInt h5.objs.size):=gz7
 refine pk gz7 (by simp) λh8 gz8 s8=>?_
 replace gz8:ik h8 z TI TO (rawInt h5.objs.size):=gz8
 have up:∀c o,c≠z->h5.get? c=some o->h8.get? c=some o:=λc o c1 q=>s8.extBut _ _ c1 (s7.extBut _ _ c1 (az _ q));have gT8:eh h8 h5.objs.size x y:=s8.extBut _ _ (oj zlt) (s7.extBut _ _ (oj zlt) (du _ rfl));rw[hsz]at gz8 gT8;refine bi ⟨_,rfl,?_⟩;show Q (.ref h5.objs.size) _;rw[hsz];exact gQ h8 _ x y px py gz8 (up _ _ ap.toz gTO5) (D1.frame _ _ _ g15 λc hc o q=>up c o (λe=>ap.z1 (e▸hc)) q) (D2.frame _ _ _ g25 λc hc o q=>up c o (λe=>ap.z2 (e▸hc)) q) gT8 λc o c1 c2 c3 c4 q=>up c o c1 (k5 c o c1 c2 c3 c4 q)
theorem Xu{Q:Fin->aa->Prop}(D1:kd prog w A i1 fp1 n1 P1 S1)(D2:kd prog w A i2 fp2 n2 P2 S2)(ap:tD z TI TO i1 i2 fp1 fp2)(gz:ik s.heap z TI TO .none)(gTI:eh s.heap TI (.ref i1) (.ref i2))(gTO:eh s.heap TO a b)
  (g1:S1 i s.heap)(g2:S2 i s.heap)(fin:i=n1\/(i<n1/\i=n2))
  (gE:∀h' tk e,(∀c o,c≠z->c≠TO->c≠i1->c≠i2->s.heap.get? c=some o->h'.get? c=some o)->(∃o,h'.get? e=some o/\o.cls=.type "StopIteration")->E (.ref e) {s with heap:=h',toks:=tk}):
  wpAny (model prog w) A (Builtin.«zip.__next__» ⟨[.ref z],[]⟩) Q E s:=by
 have nz1:i1≠z:=λq=>ap.z1 (q▸ap.m1);have nz2:i2≠z:=λq=>ap.z2 (q▸ap.m2);have nt1:TO≠i1:=λq=>ap.to1 (q▸ap.m1);have nt2:TO≠i2:=λq=>ap.to2 (q▸ap.m2);show wpAny _ _ (field (.ref z) 2 >>= _) _ _ _;refine ah (io gz rfl (x:=.bool false) rfl ?_);show wpAny _ _ (field (.ref z) 3 >>= _) _ _ _;refine ah (io gz rfl (x:=.ref TI) rfl ?_);refine ah (lg gTI rfl ?_);show wpAny _ _ (tx (.ref z) >>= _) _ _ _;refine ah ?_;unfold tx;refine ah (io gz rfl (x:=.none) rfl (bi ?_));simp only[if_true];refine ah (oi ?_);refine ah (io gz rfl (x:=.ref TO) rfl ?_);refine ah (pk gz (by simp) λh1 gz1 s1=>?_)
 replace gz1:ik h1 z TI TO .ellipsis:=gz1
 refine ah ?_;simp only[i3,i4,xf,xj];refine ah (ah (tz ?_));show wpAny _ _ (lc (.ref i1) >>= _) _ _ _;have g1':S1 i h1:=D1.frame _ _ _ g1 λc hc o q=>s1.extBut c o (λe=>ap.z1 (e▸hc)) q;rcases fin with e1 |⟨l1,e2⟩
 .subst e1
  refine ah (D1.done _ _ _ g1' λh2 e s2 he=>?_);obtain⟨oe,hoe,hce⟩:=he;have gz2:ik h2 z TI TO .ellipsis:=s2 _ _ nz1.symm gz1;have hez:e≠z:=λq=>by
   subst q;rw[gz2]at hoe;cases hoe;simp at hce
  refine pk (s:={s with heap:=h2}) gz2 (by simp) λh3 _ s3=>?_;exact gE h3 _ e (λc o c1 _ c3 _ q=>s3.extBut _ _ c1 (s2 _ _ c3 (s1.extBut _ _ c1 q))) ⟨oe,s3.extBut _ _ hez hoe,hce⟩
 .subst e2
  refine ah (D1.item i _ _ _ l1 g1' λx h2 tk2 px g1'' s2=>bi ?_);have gTO2:eh h2 TO a b:=s2.extBut _ _ nt1 (s1.extBut _ _ ap.toz gTO);refine ah (lg gTO2 rfl ?_);refine ah (xk (s:={s with heap:=h2,toks:=tk2}) gTO2 λh3 gTO3 s3=>?_)
  replace s3:mq TO h2 h3:=s3
  refine ah (tq (bi ?_));refine ah (ah (tz ?_));show wpAny _ _ (lc (.ref i2) >>= _) _ _ _;have g2':S2 i h3:=D2.frame _ _ _ g2 λc hc o q=>s3.extBut c o (λe=>ap.to2 (e▸hc)) (s2.extBut c o (λe=>ap.i12 (e▸hc)) (s1.extBut c o (λe=>ap.z2 (e▸hc)) q));refine ah (D2.done _ _ _ g2' λh4 e s4 he=>?_)
  replace s4:Heap.ExtBut i2 h3 h4:=s4
  obtain⟨oe,hoe,hce⟩:=he;have gz4:ik h4 z TI TO .ellipsis:=s4 _ _ nz2.symm (s3.extBut _ _ ap.toz.symm (s2.extBut _ _ nz1.symm gz1));have hez:e≠z:=λq=>by
   subst q;rw[gz4]at hoe;cases hoe;simp at hce
  refine pk (s:={s with heap:=h4,toks:=tk2}) gz4 (by simp) λh5 _ s5=>?_;exact gE h5 _ e (λc o c1 c2 c3 c4 q=>s5.extBut _ _ c1 (s4 _ _ c4 (s3.extBut _ _ c2 (s2.extBut _ _ c3 (s1.extBut _ _ c1 q))))) ⟨oe,s5.extBut _ _ hez hoe,hce⟩
theorem Tr{Q:AX->aa->Prop}(D1:kd prog w A.in1 i1 fp1 n1 P1 S1)(D2:kd prog w A.in1 i2 fp2 n2 P2 S2)(ap:tD z TI TO i1 i2 fp1 fp2)(gz:ik s.heap z TI TO .none)(gTI:eh s.heap TI (.ref i1) (.ref i2))(gTO:eh s.heap TO a b)
  (g1:S1 i s.heap)(g2:S2 i s.heap)(l1:i<n1)(l2:i<n2)
  (gQ:∀h' tk x y,P1 i x->P2 i y->ik h' z TI TO (rawInt s.heap.objs.size)->eh h' TO x y->S1 (i+1) h'->S2 (i+1) h'->eh h' s.heap.objs.size x y->
   (∀c o,c≠z->c≠TO->c≠i1->c≠i2->s.heap.get? c=some o->h'.get? c=some o)->Q (some (.ref s.heap.objs.size)) {s with heap:=h',toks:=tk}):
  wpAny (model prog w) A (pyNext (.ref z)) Q E s:=by
 have gT:s.TypeIs (.ref z) "zip":=⟨_,gz,rfl⟩;unfold pyNext;refine ah (xl (qu (name:=dk "__next__") gT ua (ou ua gT i6 ?_ (i7 _))));exact Mu D1 D2 ap gz gTI gTO g1 g2 l1 l2 λh' tk x y p1 p2 e1 e2 e3 e4 e5 e6=>bi (gQ h' tk x y p1 p2 e1 e2 e3 e4 e5 e6)
theorem Dr{Q:AX->aa->Prop}(D1:kd prog w A.in1 i1 fp1 n1 P1 S1)(D2:kd prog w A.in1 i2 fp2 n2 P2 S2)(ap:tD z TI TO i1 i2 fp1 fp2)(gz:ik s.heap z TI TO .none)(gTI:eh s.heap TI (.ref i1) (.ref i2))(gTO:eh s.heap TO a b)
  (g1:S1 i s.heap)(g2:S2 i s.heap)(fin:i=n1\/(i<n1/\i=n2))
  (gQ:∀h' tk,(∀c o,c≠z->c≠TO->c≠i1->c≠i2->s.heap.get? c=some o->h'.get? c=some o)->Q none {s with heap:=h',toks:=tk}):wpAny (model prog w) A (pyNext (.ref z)) Q E s:=by
 have gT:s.TypeIs (.ref z) "zip":=⟨_,gz,rfl⟩;unfold pyNext;refine ah (xl (qu (name:=dk "__next__") gT ua (ou ua gT i6 ?_ (i7 _))));refine Xu D1 D2 ap gz gTI gTO g1 g2 fin λh' tk e hk he=>?_;obtain⟨o,ho,hc⟩:=he;refine ah (wpAny_isInstance (T:="StopIteration") (b:=true) ⟨o,ho,hc⟩ isSubtype_stop ?_);exact bi (gQ _ _ hk)
end
abbrev wN(h:Heap)(o1:Obj):Heap:=h.push o1
abbrev wS(h:Heap)(o1 o2:Obj):Heap:=(wN h o1).push o2
abbrev wZ(h:Heap)(o1 o2:Obj):Heap:=(wS h o1 o2).push {cls:=.type "tuple",data:=.seq #[.ref h.objs.size,.ref (wN h o1).objs.size]}
abbrev wR(h:Heap)(o1 o2:Obj):Heap:=(wZ h o1 o2).push {cls:=.type "tuple",data:=.seq #[.none,.none]}
abbrev qE(h:Heap)(o1 o2:Obj):Heap:=(wR h o1 o2).push {cls:=.type "zip",data:=.fields #[.none,.bool false,.bool false,.ref (wS h o1 o2).objs.size,.ref (wZ h o1 o2).objs.size]}
def sR(l:Addr)(o:Obj)(G:Heap->Prop):Prop:=
 ∀(prog:Program)(w:am)(A:ao)(E:Value->aa->Prop)(s:aa)(Q:Value->aa->Prop),G s.heap->Q (.ref s.heap.objs.size) {s with heap:=s.heap.push o}->wpAny (model prog w) A (pyIter (.ref l)) Q E s
theorem Ru(l1 l2:Addr)(o1 o2:Obj)(G1 G2:Heap->Prop)(p1:sR l1 o1 G1)(p2:sR l2 o2 G2)(k2:∀h,G2 h->G2 (h.push o1)):
  Meets (Builtin.«zip.__new__» ⟨[.type "zip",.ref l1,.ref l2],[]⟩) (λ_ R s=>G1 s.heap/\G2 s.heap/\R (.ok (.ret (.ref (wR s.heap o1 o2).objs.size))) {s with heap:=qE s.heap o1 o2}):=
 .of_wp λprog w A R s h=>by
  obtain⟨hp,g,d,tk,os⟩:=s;obtain⟨g1,g2,h⟩:=h;have hsub:=sub_zip;have q1:=λ(A':ao) (E':Value->aa->Prop) (Q':Value->aa->Prop)=>p1 prog w A' E' ⟨hp,g,d,tk,os⟩ Q' g1;have q2:=λ(A':ao) (E':Value->aa->Prop) (Q':Value->aa->Prop)=>p2 prog w A' E' ⟨hp.push o1,g,d,tk,os⟩ Q' (k2 _ g2)
  wp_walk using q1 _ _ _,q2 _ _ _
  exact⟨_,rfl,h⟩
theorem Sr{prog:Program}{w:am}{A:ao}{E:Value->aa->Prop}{s:aa}{l1 l2:Addr}{o1 o2:Obj}{G1 G2:Heap->Prop}{Q:Value->aa->Prop}(p1:sR l1 o1 G1)(p2:sR l2 o2 G2)(k2:∀h,G2 h->G2 (h.push o1))(g1:G1 s.heap)(g2:G2 s.heap)
  (f1:o1.isFreed=false)(f2:o2.isFreed=false)
  (h:∀h',ik h' (s.heap.objs.size+4) (s.heap.objs.size+2) (s.heap.objs.size+3) .none->eh h' (s.heap.objs.size+2) (.ref s.heap.objs.size) (.ref (s.heap.objs.size+1))->eh h' (s.heap.objs.size+3) .none .none->
   h'.get? s.heap.objs.size=some o1->h'.get? (s.heap.objs.size+1)=some o2->(∀c o,s.heap.get? c=some o->h'.get? c=some o)->Q (.ref (s.heap.objs.size+4)) {s with heap:=h'}):
  wpAny (model prog w) A (call (.type "zip") [.ref l1,.ref l2]) Q E s:=by
 refine callType_new F.called_zip (by decide) (F.typeCall_zip_2 _ _) (F.newCall_zip_2 _ _) (λobj=>F.args_object_init_3 obj _ _) F.entry_zip_new (Ru l1 l2 o1 o2 G1 G2 p1 p2 k2) ⟨g1,g2,?_⟩;have e1:(wN s.heap o1).objs.size=s.heap.objs.size+1:=jn ..;have e2:(wS s.heap o1 o2).objs.size=s.heap.objs.size+2:=by rw[jn,e1]
 have e3:(wZ s.heap o1 o2).objs.size=s.heap.objs.size+3:=by rw[jn,e2]
 have e4:(wR s.heap o1 o2).objs.size=s.heap.objs.size+4:=by rw[jn,e3]
 have r5:(qE s.heap o1 o2).get? (wR s.heap o1 o2).objs.size=some _:=du _ rfl;have r4:(qE s.heap o1 o2).get? (wZ s.heap o1 o2).objs.size=some _:=az _ (du _ rfl);have r3:(qE s.heap o1 o2).get? (wS s.heap o1 o2).objs.size=some _:=az _ (az _ (du _ rfl));have r2:(qE s.heap o1 o2).get? (wN s.heap o1).objs.size=some o2:=az _ (az _ (az _ (du _ f2)));have r1:(qE s.heap o1 o2).get? s.heap.objs.size=some o1:=az _ (az _ (az _ (az _ (du _ f1))));show _/\_;rw[e2,e3,e4]at r5;rw[e1,e2]at r3;rw[e3]at r4;rw[e1]at r2;rw[e4];exact⟨⟨_,r5,rfl⟩,h _ r5 r3 r4 r1 r2 λc o q=>az _ (az _ (az _ (az _ (az _ q))))⟩
def iX(f:Bool)(K:ae)(H:Hp)(a:Addr)(xs:List V):Prop:=match f with
 |true=>dA K H a xs
 |false=>bU K H a xs
def lV(f:Bool)(it a:Addr)(i:Nat)(h:Heap):Prop:=match f with
 |true=>h.IsTupleIter it a i
 |false=>h.IsListIter it a i
def qK(f:Bool)(a:Addr)(items:Array Value)(h:Heap):Prop:=match f with
 |true=>h.IsTuple a items
 |false=>h.IsList a items
def Yc(f:Bool)(a:Addr):Obj:=match f with
 |true=>{cls:=.type "tuple_iterator",data:=.fields #[.ref a,.int 0 0]}
 |false=>{cls:=.type "list_iterator",data:=.fields #[.ref a,.int 0 0]}
section
variable{X:Cx}{BE:List (Addr×Obj)}{σ:St}{H:Hp}{s:aa}{a:Addr}{xs ys:List V}{f:Bool}
theorem aH.seqF(I:aH X BE σ H s)(h:iX f X.K H a xs):∃its:AW,bG xs its/\qK f a its.toArray s.heap/\xs.length<=sizeLine:=by
 cases f with
 |true=>
  obtain⟨its,r,p,z⟩:=I.tuple h;exact⟨its,r,p,z⟩
 |false=>
  obtain⟨its,r,p,z⟩:=I.list h;exact⟨its,r,p.isList,z⟩
theorem aH.seqF_inj(I:aH X BE σ H s)(h:iX f X.K H a xs)(h':iX f X.K H a ys):xs=ys:=by
 cases f with
 |true=>exact I.tuple_inj h h'
 |false=>exact I.list_inj h h'
theorem aH.apart{b:Addr}(I:aH X BE σ H s)(fb:fX X BE H b)(h:iX f X.K H a xs):a≠b:=by
 have viaK:∀{o:Obj},X.K.lookup a=some o->a≠b:=λ{o} q e=>by
  have hb:X.base.get? b=some o:=e▸I.ok.mod.kin a o q;rcases fb.2.2.2.1 with z |z
  .exact I.ok.noex b o hb z
  .exact absurd (df (bn (I.ok.bs b o hb).1) z) (jh _)
 cases f with
 |true=>
  rcases h with(h |⟨o,h⟩) |⟨o,_,_,q,_⟩
  .exact fV h fb.1
  .exact fV h fb.1
  .exact viaK q
 |false=>
  rcases h with(h |⟨o,h⟩) |⟨o,_,_,q,_⟩
  .exact fV h fb.1
  .exact fV h fb.1
  .exact viaK q
end
theorem vW{prog:Program}{w:am}{A:ao}(f:Bool)(hh:A.handled=none)(it a:Addr)(hne:a≠it)(items:Array Value):
  kd prog w A it [it,a] items.size (λi v=>items[i]?=some v) (λi h=>lV f it a i h/\qK f a items h):=by
 cases f with
 |true=>exact Kx hh it a hne items
 |false=>exact Draws.list hh it a hne items
theorem Np(f:Bool)(a:Addr)(items:Array Value):sR a (Yc f a) (qK f a items):=by
 cases f with
 |true=>exact λprog w A E s Q g q=>i8 g q
 |false=>exact λprog w A E s Q g q=>xn g q
theorem lV.keep{f:Bool}{it a:Addr}{i:Nat}{h h':Heap}(x:lV f it a i h)(k:∀o,h.get? it=some o->h'.get? it=some o):lV f it a i h':=by
 cases f with
 |true=>obtain⟨o,e,r⟩:=x;exact⟨o,k o e,r⟩
 |false=>obtain⟨o,e,r⟩:=x;exact⟨o,k o e,r⟩
theorem qK.keep{f:Bool}{a:Addr}{items:Array Value}{h h':Heap}(x:qK f a items h)(k:∀o,h.get? a=some o->h'.get? a=some o):qK f a items h':=by
 cases f with
 |true=>obtain⟨o,e,r⟩:=x;exact⟨o,k o e,r⟩
 |false=>obtain⟨o,e,r⟩:=x;exact⟨o,k o e,r⟩
theorem lV.obj{f:Bool}{it a:Addr}{i:Nat}{h:Heap}(x:lV f it a i h):∃o,h.get? it=some o/\∀v,o.data≠.cell v:=by
 cases f with
 |true=>obtain⟨o,e,_,d⟩:=x;exact⟨o,e,λv z=>by rw[d]at z;cases z⟩
 |false=>obtain⟨o,e,_,d⟩:=x;exact⟨o,e,λv z=>by rw[d]at z;cases z⟩
theorem Gh(f:Bool)(a it:Addr){h:Heap}(e:h.get? it=some (Yc f a)):lV f it a 0 h:=by
 cases f with
 |true=>exact⟨_,e,rfl,rfl⟩
 |false=>exact⟨_,e,rfl,rfl⟩
theorem Ji(f:Bool)(a:Addr):(Yc f a).isFreed=false:=by cases f<;>rfl
def Mq (K : ae) (f1 : Bool) (a : Addr) (f2 : Bool) (b : Addr) : It :=
  ⟨λi H => ∃ xs ys x y, iX f1 K H a xs ∧ iX f2 K H b ys ∧ xs[i]? = some x ∧ ys[i]? = some y,
   λi H v H' => ∃ p x y, H p = none ∧ v = .ref p ∧ H' = bA H p (.tup [x, y]) ∧ (∀ xs, iX f1 K H a xs → xs[i]? = some x) ∧ ∀ ys, iX f2 K H b ys → ys[i]? = some y,
   λi H => ∃ xs ys, iX f1 K H a xs ∧ iX f2 K H b ys ∧ (i = xs.length ∨ (i < xs.length ∧ i = ys.length))⟩
structure xD(z TI TO i1 i2:Addr):Prop where
 tiz:TI≠z
 toz:TO≠z
 i1z:i1≠z
 i2z:i2≠z
 tito:TI≠TO
 ti1:TI≠i1
 ti2:TI≠i2
 to1:TO≠i1
 to2:TO≠i2
 i12:i1≠i2
theorem xD.ap{z TI TO i1 i2 a b:Addr}(r:xD z TI TO i1 i2)(h:∀c∈[z,TI,TO,i1,i2],a≠c)(g:∀c∈[z,TI,TO,i1,i2],b≠c):tD z TI TO i1 i2 [i1,a] [i2,b] where
 tiz:=r.tiz
 toz:=r.toz
 tito:=r.tito
 ti1:=r.ti1
 ti2:=r.ti2
 z1:=λq=>by simp at q;rcases q with q |q;exact r.i1z q.symm;exact h z (by simp) q.symm
 z2:=λq=>by simp at q;rcases q with q |q;exact r.i2z q.symm;exact g z (by simp) q.symm
 to1:=λq=>by simp at q;rcases q with q |q;exact r.to1 q;exact h TO (by simp) q.symm
 to2:=λq=>by simp at q;rcases q with q |q;exact r.to2 q;exact g TO (by simp) q.symm
 i12:=λq=>by simp at q;rcases q with q |q;exact r.i12 q;exact g i1 (by simp) q.symm
 i21:=λq=>by simp at q;rcases q with q |q;exact r.i12 q.symm;exact h i2 (by simp) q.symm
 m1:=by simp
 m2:=by simp
theorem Iy{P:Program}{w:am}{K:ae}{elts:List ag}{x1:Nat}{tp:ai}(f1 f2:Bool)(a b z TI TO i1 i2:Addr)(zr:xD z TI TO i1 i2):
  qI P w K (.Tuple elts x1 tp) (Mq K f1 a f2 b) [z,TI,TO,i1,i2] z (λi h=>ik h z TI TO .none/\eh h TI (.ref i1) (.ref i2)/\(∃u v,eh h TO u v)/\lV f1 i1 a i h/\lV f2 i2 b i h) where
 mem:=by simp
 obj:=λi h st c hc=>by
  obtain⟨e1,e2,⟨u,v,e3⟩,e4,e5⟩:=st;simp at hc;rcases hc with q |q |q |q |q
  .subst q
   exact⟨_,e1,λv z=>nomatch z⟩
  .subst q
   exact⟨_,e2,λv z=>nomatch z⟩
  .subst q
   exact⟨_,e3,λv z=>nomatch z⟩
  .subst q
   exact e4.obj
  .subst q
   exact e5.obj
 keep:=λi h h' st k=>by
  obtain⟨e1,e2,⟨u,v,e3⟩,e4,e5⟩:=st;exact⟨k z (by simp) _ e1,k TI (by simp) _ e2,⟨u,v,k TO (by simp) _ e3⟩,e4.keep λo q=>k i1 (by simp) o q,e5.keep λo q=>k i2 (by simp) o q⟩
 item:=by
  intro X hP hw hK hc i BE s σ H E I hf st hg;subst hP hw hK;obtain⟨xs,ys,x,y,hx,hy,ex,ey⟩:=hg;obtain⟨its,r1,p1,_⟩:=I.seqF hx;obtain⟨jts,r2,p2,_⟩:=I.seqF hy;obtain⟨ux,gx,rx⟩:=r1.get ex;obtain⟨uy,gy,ry⟩:=r2.get ey;obtain⟨e1,e2,⟨u,v,e3⟩,e4,e5⟩:=st;have na:∀c∈[z,TI,TO,i1,i2],a≠c:=λc hc=>I.apart (hf c hc) hx;have nb:∀c∈[z,TI,TO,i1,i2],b≠c:=λc hc=>I.apart (hf c hc) hy;have hd:X.A.in1.handled=none:=I.ok.hd hc;have D1:=vW (prog:=X.prog) (w:=X.w) f1 hd i1 a (na i1 (by simp)) its.toArray;have D2:=vW (prog:=X.prog) (w:=X.w) f2 hd i2 b (nb i2 (by simp)) jts.toArray;refine Tr D1 D2 (zr.ap na nb) e1 e2 e3 ⟨e4,p1⟩ ⟨e5,p2⟩ (cq.mp gx).1 (cq.mp gy).1 λh1 tk vx vy px py q1 q2 q3 q4 q5 k1=>⟨_,rfl,?_⟩;have ex':vx=ux:=by
   have:its[i]?=some vx:=by simpa using px
   rw[gx]at this;exact(cj this).symm
  have ey':vy=uy:=by
   have:jts[i]?=some vy:=by simpa using py
   rw[gy]at this;exact(cj this).symm
  subst ex' ey';have lt:∀c∈[z,TI,TO,i1,i2],c≠s.heap.objs.size:=λc hc=>by
   have:∃o,s.heap.get? c=some o:=by
    simp at hc;rcases hc with q |q |q |q |q
    .exact⟨_,q▸e1⟩
    .exact⟨_,q▸e2⟩
    .exact⟨_,q▸e3⟩
    .obtain⟨o,ho,_⟩:=e4.obj
     exact⟨o,q▸ho⟩
    .obtain⟨o,ho,_⟩:=e5.obj
     exact⟨o,q▸ho⟩
   obtain⟨o,ho⟩:=this;exact dm (bn ho)
  refine wpAny_letOwnedTupleGo_zip (s:={s with heap:=h1,toks:=tk}) q1 λh2 z2 sb2=>?_;have t2:h2.get? s.heap.objs.size=some {cls:=.type "tuple",data:=.seq #[vx,vy]}:=(sb2.2 _ (lt z (by simp)).symm).trans q5;have I2:aH X BE σ (bA H s.heap.objs.size (.tup [x,y])) {s with heap:=h2,toks:=tk}:=
   I.turnedNew hf (λc o hc q=>(sb2.2 c (λe=>hc (by simp[e]))).trans (k1 c o (λe=>hc (by simp[e])) (λe=>hc (by simp[e])) (λe=>hc (by simp[e])) (λe=>hc (by simp[e])) q)) (ar _)
    ⟨⟨by show 2<=sizeLine;decide,_,t2,rfl⟩,[vx,vy],.cons rx (.cons ry .nil),⟨_,t2,rfl,_,rfl⟩⟩
  refine⟨.ref s.heap.objs.size,_,I2,rfl,⟨_,x,y,I.hok.fresh (ar _),rfl,rfl,λzs hz=>by rw[I.seqF_inj hz hx];exact ex,λzs hz=>by rw[I.seqF_inj hz hy];exact ey⟩,
   ⟨z2,(sb2.2 _ zr.tiz).trans (k1 _ _ zr.tiz zr.tito zr.ti1 zr.ti2 e2),⟨_,_,(sb2.2 _ zr.toz).trans q2⟩,q3.1.keep λo q=>(sb2.2 _ zr.i1z).trans q,q4.1.keep λo q=>(sb2.2 _ zr.i2z).trans q⟩,λc hc=>?_⟩
  rw[bV (lt c hc)];exact(hf c hc).1
 done:=by
  intro X hP hw hK hc i BE s σ H E I hf st hg;subst hP hw hK;obtain⟨xs,ys,hx,hy,fin⟩:=hg;obtain⟨its,r1,p1,_⟩:=I.seqF hx;obtain⟨jts,r2,p2,_⟩:=I.seqF hy;have l1:=r1.length;have l2:=r2.length;obtain⟨e1,e2,⟨u,v,e3⟩,e4,e5⟩:=st;have na:∀c∈[z,TI,TO,i1,i2],a≠c:=λc hc=>I.apart (hf c hc) hx;have nb:∀c∈[z,TI,TO,i1,i2],b≠c:=λc hc=>I.apart (hf c hc) hy;have hd:X.A.in1.handled=none:=I.ok.hd hc;have D1:=vW (prog:=X.prog) (w:=X.w) f1 hd i1 a (na i1 (by simp)) its.toArray;have D2:=vW (prog:=X.prog) (w:=X.w) f2 hd i2 b (nb i2 (by simp)) jts.toArray;refine Dr D1 D2 (zr.ap na nb) e1 e2 e3 ⟨e4,p1⟩ ⟨e5,p2⟩ (by rw[aw,aw,<-l1,<-l2];exact fin) λh' tk k=>⟨rfl,?_⟩;exact I.turnedL hf λc o hc q=>k c o (λe=>hc (by simp[e])) (λe=>hc (by simp[e])) (λe=>hc (by simp[e])) (λe=>hc (by simp[e])) q
 self:=λ_ _ _ _ _ st h=>wpAny_pyIter_zip st.1 h
section
variable{X:Cx}{elts:List ag}{x1:Nat}{tp:ai}
def aby(K:ae)(tl:TA):TI:=λσ H R=>tl σ H λvs H1=>∃f1 a f2 b xs ys,vs=[.ref a,.ref b]/\iX f1 K H1 a xs/\iX f2 K H1 b ys/\R (Mq K f1 a f2 b) H1
theorem V3{l r:ag}{tl:TA}{p pos:ai}(hg:Gl X "zip")(hm:X.mg "zip"=none)(hl:PA X [l,r] tl)(hs:starEach [l,r] X.env=[(false,eval l X.env),(false,eval r X.env)]:=by rfl)(hs2:starEach [r] X.env=[(false,eval r X.env)]:=by rfl):
  PI X (.Tuple elts x1 tp) (.Call (.Name "zip" p) [l,r] [] pos) (aby X.K tl):=by
 intro BE s σ H R I h;refine Call_ (nX I hg hm boot_zip (qo (bJ (hl pos BE s σ H _ I h) λus s1 hq=>?_) (by rw[hs,hs2]) (by rw[hs2];rfl)));rcases hq with⟨vs,H1,I1,r1,q1⟩;obtain⟨f1,a,f2,b,xs,ys,rfl,hx,hy,q⟩:=q1;obtain⟨u,v,rfl,ru,rv⟩:=wE r1;cases ru;cases rv;obtain⟨its,_,p1,_⟩:=I1.seqF hx;obtain⟨jts,_,p2,_⟩:=I1.seqF hy;refine Sr (Np f1 a its.toArray) (Np f2 b jts.toArray) (λh g=>g.keep λo z=>az _ z) p1 p2 (Ji _ _) (Ji _ _) λh' e1 e2 e3 e4 e5 k=>?_;refine wpAny_pyIter_zip (s:={s1 with heap:=h'}) e1 ?_;have zr:xD (s1.heap.objs.size+4) (s1.heap.objs.size+2) (s1.heap.objs.size+3) s1.heap.objs.size (s1.heap.objs.size+1):=by
  generalize s1.heap.objs.size=n;have g:∀i j:Nat,i≠j->((n:Nat)+i:Nat)≠n+j:=λi j h=>by omega
  exact⟨g 2 4 (by decide),g 3 4 (by decide),g 0 4 (by decide),g 1 4 (by decide),g 2 3 (by decide),g 2 0 (by decide),g 2 1 (by decide),g 3 0 (by decide),g 3 1 (by decide),g 0 1 (by decide)⟩
 refine⟨_,[s1.heap.objs.size+4,s1.heap.objs.size+2,s1.heap.objs.size+3,s1.heap.objs.size,s1.heap.objs.size+1],_,_,H1,rfl,I1.kept (t':=s1.toks) k,Iy f1 f2 a b _ _ _ _ _ zr,⟨e1,e2,⟨_,_,e3⟩,Gh f1 a _ e4,Gh f2 b _ e5⟩,λc hc=>?_,q⟩;have hb:s1.heap.objs.size<=c:=by
  simp only[cf,fe,or_false]at hc;rcases hc with q |q |q |q |q
  all_goals rw[q]
  all_goals first |exact ar _ |exact Nat.le_add_right _ _
 exact I1.fpOk hb (I1.hok.fresh hb)
end
theorem R0(K:ae):gg K (.type "int") (.type "bool")=some false:=by
 unfold gg i9;rw[if_neg (by decide)];show(if j3 "bool"=true then j4 K (.type "int") (.type "bool")else none)=some false;rw[if_pos (by decide+kernel)];show(fastBuiltinMro "int").map (·.contains (.type "bool"))=some false;decide+kernel
structure lM(K:ae)(x qual:Str)(st:Stmt)(f:Addr)(fd:br)(ds:Array Value):Prop where
 ex:∃(oc:Value)(od:AY)(T:Addr)(oT:Obj)(n:Nat)(kV doc pm:Value)(an:AY)(cdv ct:Value)(osl:Array AX),
  fd=fg x qual (gD st) (eG st) (cH st) (.ref T) kV doc pm an cdv ct/\K.lookup f=some ⟨oc,od,.func fd,osl⟩/\kb K cdv qual=true/\K.lookup T=some oT/\oT.data=.seq ds n
 kp:fh K (.ref f)=true
section
variable{P:Program}{w:am}{K:ae}{mg:Str->AX}{base:Heap}
theorem lM.binds{x qual:Str}{st:Stmt}{f:Addr}{fd:br}{ds:Array Value}{ps:List Str}{dd:AW}(F:lM K x qual st f fd ds)
  (h:∀(T:Addr)(kV doc pm:Value)(an:AY)(cdv ct:Value)(us:AW),(us++dd).length=ps.length->
   ∃k,bindArgs (fg x qual (gD st) (eG st) (cH st) (.ref T) kV doc pm an cdv ct) ⟨us,[]⟩=seqItems? (.ref T) >>= k/\k (some ds)=pure (ps.zip (us++dd))):gR K fd ps dd:=by
 obtain⟨oc,od,T,oT,n,kV,doc,pm,an,cdv,ct,osl,rfl,lk,hcd,lT,hT⟩:=F.ex;intro s us hK hl;obtain⟨k,h1,h2⟩:=h T kV doc pm an cdv ct us hl;exact PySem.W.binds_K hK rfl lT hT h1 h2
theorem Yj{x qual:Str}{st:Stmt}{f T:Addr}{oT:Obj}{n:Nat}{ds:Array Value}{oc:Value}{od an:AY}{osl:Array AX}{kV doc pm cdv ct:Value}(l:K.lookup f=some ⟨oc,od,.func (fg x qual (gD st) (eG st) (cH st) (.ref T) kV doc pm an cdv ct),osl⟩)
  (c:kb K cdv qual=true)(k:fh K (.ref f)=true)(lT:K.lookup T=some oT)(hT:oT.data=.seq ds n):lM K x qual st f (fg x qual (gD st) (eG st) (cH st) (.ref T) kV doc pm an cdv ct) ds:=
 ⟨⟨oc,od,T,oT,n,kV,doc,pm,an,cdv,ct,osl,rfl,l,c,lT,hT⟩,k⟩
end
theorem Tn{X:Cx}{sc:Scope}{own:List Str}{cap:List (Nat×Str)}(so:Scope)(N:List Str)(hso:X.env.scope=so)(hN:X.N=N)(kind:sc.kind=.function)(names:∀y∈sc.names,y.2=.local->sc.names.lookup y.1=some .local)
  (nocell:∀y∈sc.names,y.2≠.cell)(free:∀y∈sc.names,y.2=.free->so.names.lookup y.1=some .cell)(at':∀p∈cap,N[p.1]?=some p.2)(hcap:∀p∈cap,sc.names.lookup p.2=some .free):iK X sc own cap:=
 ⟨kind,names,nocell,λy hy e=>by show X.env.scope.names.lookup y.1=_;rw[hso];exact free y hy e,λp hp=>by rw[hN];exact at' p hp,hcap⟩
theorem zJ(n d:Nat):HT.sIx (n+1) d (some (-1))=n:=by
 unfold HT.sIx;simp;omega
section
variable{X:Cx}
end
theorem fN.has{P:Program}{w:am}{H:Hp}{h:Heap}{a:Addr}{o:HO}(x:fN P w H h a o):∃u,h.get? a=some u:=by
 cases o with
 |lst xs=>obtain⟨_,_,_,_,e⟩:=x;exact⟨_,e⟩
 |tup xs=>obtain⟨_,_,_,u,e,_⟩:=x;exact⟨u,e⟩
 |dK kvs=>obtain⟨_,_,_,_,o,_,_,e,_⟩:=x;exact⟨_,e⟩
 |dT kvs=>obtain⟨_,_,_,_,o,_,_,e,_⟩:=x;exact⟨_,e⟩
 |set S n=>obtain⟨o,_,_,_,e,_⟩:=x;exact⟨_,e⟩
 |ins C dx fs=>obtain⟨_,_,_,e,_⟩:=x;exact⟨_,e⟩
 |own y=>exact x
 |xd fs=>obtain⟨_,⟨_,_,_,e,_⟩,_⟩:=x;exact⟨_,e⟩
 |rng lo hi=>obtain⟨_,_,_,e⟩:=x;exact⟨_,e⟩
 |frz ob u=>obtain⟨e,_⟩:=x;exact⟨_,e⟩
 |tbl ps=>exact⟨_,show h.get? a=some _ from x⟩
 |met f y=>exact⟨_,show h.get? a=some _ from x⟩
 |ext φ=>exact x.2.1
abbrev eY:AW:=[.type "ValueError",.type "Exception",.type "BaseException",.type "object"]
theorem Jk{K:ae}{h:Heap}{C:Addr}{bmB:AW}{newId:String}(X:K.In h)(q:de K C bmB newId=true):
  ∃bm N nm qn bs hdct sn sub ab col dd k0 k1 k2 k3 k5 mN,h.get? C=some (excClassObj nm qn C N bs bm hdct sn sub ab col dd k0 k1 k2 k3 k5 newId)/\h.Ns N mN/\mN "__init__"=none/\OwnTail h bmB bm:=by
 unfold de at q;split at q
 .rename_i dd cd sl ho
  split at q
  .rename_i C' bm k0 k1 k2 k3 n k5 hm hs
   simp only[ji,beq_iff_eq,j5]at q;obtain⟨⟨⟨⟨⟨z1,z2⟩,hdel⟩,ht⟩,hok⟩,hni⟩:=q;subst z1 z2;obtain⟨nm,bs,mro,ns,qn,hd,sn,sub,ab,col,del⟩:=cd;dsimp only at hm hdel hok hni;subst hm hdel;have hsl:sl=#[k0,k1,k2,k3,some (.builtin n),k5]:=by
    obtain⟨l⟩:=sl;simp only at hs;rw[hs]
   subst hsl;refine⟨bm,ns,nm,qn,bs,hd,sn,sub,ab,col,dd,k0,k1,k2,k3,k5,_,X _ _ ho,.of_isNs (PySem.W.isNs_of_in X hok),PySem.W.nsMap_none_of_in X hok hni,PySem.W.tail_of_in X ht⟩
  .cases q
 .cases q
def cY(P:Program)(w:am):iV:=λouter H s E e s'=>∃(x C t:Addr)(B:Heap)(H':Hp),e=.ref x/\s'.os=s.os/\jm s'.gens/\Un (dN outer) [] H H' s.heap s'.heap/\fE P w H' s'.heap/\
 Heap.FlyingW B outer x (.ref C) (.ref t) s'.heap/\(∀b o,s'.heap.get? b=some o->(∃u,H' b=some u)\/(∃o',s.heap.get? b=some o'/\b∉dN outer)->B.get? b=some o)/\E (.ref C) none H'
theorem Tx{P:Program}{w:am}{K:ae}{mg:Str->AX}{base:Heap}{N:List Str}{qual:Str}{scope:Scope}{f:Addr}{cd:Value}{A:ao}{outer:List bh}{BF:aa}{BG:Hp}{E:XK}
  {x:Str}{C:Addr}{txt:Str}{j:Nat}{np p1 cpos pos:ai}(hg:Gl (cX (cY P w) P w K mg base N qual scope f cd A outer BF BG E) x)(hm:mg x=some (.ref C))(hx:de K C eY "ValueError.__new__"=true)
  (hd:(x==("__debug__":Str))=false:=by decide):
  PS (cX (cY P w) P w K mg base N qual scope f cd A outer BF BG E) (.Raise (some (.Call (.Name x np) [.Constant (.str txt) j p1] [] cpos)) none pos) (λ_ _ H=>E (.ref C) none H):=by
 intro BE s σ H D I h;obtain⟨bm,Nn,nm,qn,bs,hdct,sn,sub,ab,col,dd,k0,k1,k2,k3,k5,mN,hC,hN,hni,T⟩:=Jk I.ok.mod.kin hx;refine wpAny_Raise_call_subT (C:=C) (nm:=nm) (q:=qn) (N:=Nn) (bs:=bs) (bm:=bm) (hdct:=hdct) (sn:=sn) (sub:=sub) (ab:=ab) (col:=col) (dd:=dd) (k0:=k0) (k1:=k1) (k2:=k2) (k3:=k3) (k5:=k5)
  PySem.F.excBase_ValueError (mN:=mN) (T.hasType (by decide)) (I.ok.hd rfl) rfl hni (rP I hg hm ⟨rfl,?_⟩ hd)
 refine a6 (bJ ((gX Q4 kR) cpos BE s σ H (λvs H1=>vs=[.str txt]/\H1=H) I ⟨rfl,rfl⟩) λus s2 q2=>?_);obtain⟨vs,H2,I2,r2,rfl,rfl⟩:=q2;have l2:=r2.length;refine⟨rfl,by rw[<-l2];show 1<=sizeLine;decide,I2.bk _ _ hC,hN.keeps I2.bk,T.keeps I2.bk,λh' e made=>?_⟩
 --the frame is left
 have stk:(cX (cY P w) P w K mg base N qual scope f cd A outer BF BG E).stack=envOfC qual scope BF.heap.objs.size f cd::outer:=rfl;have nfr:∀{b u},H2 b=some u->b∉dN (envOfC qual scope BF.heap.objs.size f cd::outer):=λ{b u} q z=>by
  rw[I2.stkFree b z]at q;cases q
 have nL:∀{b o},BF.heap.get? b=some o->b∉dN outer->b∉dN (envOfC qual scope BF.heap.objs.size f cd::outer):=λ{b o} q z y=>by
  rcases cf.mp (I2.stkSub b y)with g |g
  .exact absurd (df (bn q) I2.ok.above) (by rw[g];exact jh _)
  .exact z g
 refine wpAny_leaves_madeW (base:=ve s2.heap (dN (envOfC qual scope BF.heap.objs.size f cd::outer))) (h:=s2.heap) (s:={s2 with heap:=h'}) I2.ok.frames rfl (λb o q=>yy _ q)
  (PySem.W.funFrames_hide I2.stack λenv he b hb=>oo.mpr ⟨env,he,hb⟩) made λh'' t fl tup nb ups=>?_
 have keepB:∀b o,s2.heap.get? b=some o->b∉dN (envOfC qual scope BF.heap.objs.size f cd::outer)->h''.get? b=some o:=λb o q z=>fl.1 b o (vf _ q z);have upS:∀b o,s2.heap.get? b=some o->(∀vs,o.data≠.fields vs)->∃sl,h''.get? b=some {o with slots:=sl}:=λb o q z=>ups b o (made.keeps b o q) z;refine⟨e,C,t,_,H2,rfl,I2.os,I2.bare,⟨λb o q n hb _=>?_,λb o q n hb _=>?_,λb o q n _=>I2.base.free b o q n (by intro z;cases z),λb o q _=>?_,I2.base.tups,I2.base.frzs,I2.base.tbls⟩,λb u q=>?_,fl,λb o q z=>?_,h⟩
 .exact keepB b o (I2.base.keep b o q n hb (by intro z;cases z)) (nL q hb)
 .obtain⟨sl,g⟩:=I2.base.slot b o q n hb (by intro z;cases z)
  obtain⟨_,o',ho',hd'⟩:=I2.ok.funs.mem hb;have eo:o'=o:=by
   have ho2:BF.heap.get? b=some o':=ho';rw[q]at ho2;exact(cj ho2).symm
  subst eo;obtain⟨sl',g'⟩:=upS b _ g hd';exact⟨sl',g'⟩
 .obtain⟨o',g⟩:=I2.base.there b o q (by intro z;cases z)
  by_cases c:b∈dN (envOfC qual scope BF.heap.objs.size f cd::outer)
  .obtain⟨_,o2,ho2,hd2⟩:=I2.stack.mem c
   obtain⟨sl,g'⟩:=upS b o2 ho2 hd2;exact⟨_,g'⟩
  .exact⟨o',keepB b o' g c⟩
 .refine(I2.hok b u q).stay (λc v hc g=>keepB c v g ?_) (λ_ g=>g) λ_ _ g=>g
  rcases hc with z |z
  .rw[z]
   exact nfr q
  .exact nfr z
 .have go:∀{o2},s2.heap.get? b=some o2->b∉dN (envOfC qual scope BF.heap.objs.size f cd::outer)->(ve s2.heap (dN (envOfC qual scope BF.heap.objs.size f cd::outer))).get? b=some o:=λ{o2} g n=>by
   have:=keepB b o2 g n;have q':h''.get? b=some o:=q;rw[q']at this;cases this;exact vf _ g n
  rcases z with⟨u,z⟩|⟨o',z,nz⟩
  .obtain⟨o2,g⟩:=(I2.hok b u z).has
   exact go g (nfr z)
  .obtain⟨o2,g⟩:=I2.base.there b o' z (by intro z;cases z)
   exact go g (nL z nz)
section
variable{X:Cx}{BE:List (Addr×Obj)}{σ:St}{H H':Hp}{s s':aa}
theorem aH.flown{B h5:Heap}(I:aH X BE σ H s)(os:s'.os=s.os)(bare:jm s'.gens)(un:Un (dN X.stack) [] H H' s.heap s'.heap)(hok:fE X.prog X.w H' s'.heap)
  (cov:∀b o,s'.heap.get? b=some o->(∃u,H' b=some u)\/(∃o',s.heap.get? b=some o'/\b∉dN X.stack)->B.get? b=some o)(fr:∀b∈dN X.stack,H' b=none)
  (st:B.StaysIn h5)(up:s'.heap.UpToSlots h5):aH X BE σ H' {s' with heap:=h5}:=by
 have nofr:∀{b u},H' b=some u->b∉dN X.stack:=λ{b u} q z=>by
  rw[fr b z]at q;cases q
 have frame:∀b∈dN X.stack,∃o sl,s.heap.get? b=some o/\H b=none/\h5.get? b=some {o with slots:=sl}:=λb hb=>by
  obtain⟨_,o,ho,hd⟩:=I.stack.mem hb;have hn:=I.stkFree b hb;obtain⟨sl,g⟩:=un.slot b o ho hn hb (by intro z;cases z);obtain⟨sl',g'⟩:=up b _ g hd;exact⟨o,sl',ho,hn,g'⟩
 refine I.call' (s':={s' with heap:=h5}) (ch:=[]) os ⟨λb o q n hb _=>?_,λb o q n hb _=>?_,un.free,λb o q _=>?_,un.tups,un.frzs,un.tbls⟩ (λb u q=>?_) bare λb z=>nomatch z
 .exact st b o (cov b o (un.keep b o q n hb (by intro z;cases z)) (.inr ⟨o,q,hb⟩))
 .obtain⟨o',sl,g1,_,g2⟩:=frame b hb
  rw[q]at g1;cases g1;exact⟨sl,g2⟩
 .by_cases c:b∈dN X.stack
  .obtain⟨o',sl,_,_,g2⟩:=frame b c
   exact⟨_,g2⟩
  .obtain⟨o',g⟩:=un.there b o q (by intro z;cases z)
   exact⟨o',st b o' (cov b o' g (.inr ⟨o,q,c⟩))⟩
 .refine(hok b u q).stay (λc v hc g=>st c v (cov c v g (.inl ?_))) (λ_ g=>g) λ_ _ g=>g
  rcases hc with z |z
  .exact⟨u,by rw[z];exact q⟩
  .exact⟨_,z⟩
end
section
variable{X:Cx}{k:Nat}{f:Addr}{fd:br}{ps:List Str}{sp:Sp}{dvs:List V}{ds:AW}{E:XK}{x:Str}{p pos:ai}{e:ag}{es:List ag}{t:TA}
theorem Ez{BE:List (Addr×Obj)}{σ:St}{H:Hp}{s:aa}{Q:VK}{us:AW}{vs:List V}{Ex:Value->aa->Prop}(F:dQ X.prog X.w X.K X.mg X.base (cY X.prog X.w) k f fd ps sp)(hr:dF k X.A)(hb:gR X.K fd ps ds)(hd:bG dvs ds)
  (I:aH X BE σ H s)(r:bG vs us)(h:sp (vs++dvs) H Q E)(hx:∀e s',cY X.prog X.w X.stack H s E e s'->Ex e s'):wpAny (model X.prog X.w) X.A (call (.ref f) us) (EP X BE σ Q) Ex s:=by
 have r2:bG (vs++dvs) (us++ds):=r.append hd;have hl:(us++ds).length=ps.length:=by rw[<-r2.length];exact F.len _ _ _ _ h
 refine wpAny_call (qr (F.run X.A X.stack s H ⟨us,[]⟩ (us++ds) (vs++dvs) Q E hr I.env0 (hb s us I.kIn hl) r2 h) λrr s' hq=>?_);cases rr with
 |error e=>exact hx e s' hq
 |ok fl=>
  cases fl with
  |ret u=>exact I.after hq
  |next=>exact iz hq
  |brk=>exact iz hq
  |cont=>exact iz hq
theorem Bw{BE:List (Addr×Obj)}{σ:St}{H:Hp}{s:aa}{Q:VK}{Ex:Value->aa->Prop}(hxe:X.xe=λ_ _=>False)(F:dQ X.prog X.w X.K X.mg X.base (cY X.prog X.w) k f fd ps sp)(hr:dF k X.A)(hg:Gl X x)(hm:X.mg x=some (.ref f))(hk:fh X.K (.ref f)=true)
  (hb:gR X.K fd ps ds)(hd:bG dvs ds)(ha:PA X (e::es) t)(I:aH X BE σ H s)(h:t σ H λvs H1=>sp (vs++dvs) H1 Q E)
  (hx:∀s1 H1 e s',aH X BE σ H1 s1->cY X.prog X.w X.stack H1 s1 E e s'->Ex e s')
  (hdb:(x==("__debug__":Str))=false:=by decide)(he:starEach (e::es) X.env=(false,eval e X.env)::starEach es X.env:=by rfl)(hpl:(backTo pos (starEach es X.env)).any (·.1)=false:=by rfl):
  wpAny (model X.prog X.w) X.A (eval (.Call (.Name x p) (e::es) [] pos) X.env) (EP X BE σ Q) Ex s:=by
 refine sf (rP I hg hm ?_ hdb);refine zn (h₀:=X.base) I.ok.mod.kin hk (iy (ha pos BE s σ H _ I h) (λus s1 q1=>?_) λ_ _ z=>?_) he hpl
 .obtain⟨vs,H1,I1,r,q⟩:=q1
  exact⟨I1.kIn,Ez F hr hb hd I1 r q λe s' c=>hx s1 H1 e s' I1 c⟩
 .rw[hxe]at z
  exact z.elim
end
section
variable{P:Program}{w:am}{K:ae}{mg:Str->AX}{base:Heap}{CX:iV}
theorem iO.okX{x qual:Str}{st:Stmt}{f:Addr}{fd:br}{N ps:List Str}{k:Nat}{sp:Sp}(F:iO K x qual st f fd)(S:iF N ps (cH st))(len:∀vs H Q E,sp vs H Q E->vs.length=ps.length)
  (hbody:∀(cdv:Value)(A:ao)(outer:List bh)(s:aa)(H:Hp)(vs:List V)(Q:VK)(E:XK),dF k (A.deeper (envOfC qual (cH st) s.heap.objs.size f cdv))->sp vs H Q E->
   ∃t,fO (cX CX P w K mg base N qual (cH st) f cdv A outer s H E) (eG st) t/\t {nx:=λ_ H'=>Q .non H',rt:=Q} (start N vs) H):dQ P w K mg base CX (k+1) f fd ps sp:=by
 obtain⟨oc,od,kV,doc,pm,an,cdv,ct,osl,rfl,lk,hcd⟩:=F.ex;exact Sb lk hcd S len λA outer s H vs Q E hr hsp=>hbody cdv A outer s H vs Q E hr hsp
theorem lM.okX{x qual:Str}{st:Stmt}{f:Addr}{fd:br}{ds:Array Value}{N ps:List Str}{k:Nat}{sp:Sp}(F:lM K x qual st f fd ds)(S:iF N ps (cH st))(len:∀vs H Q E,sp vs H Q E->vs.length=ps.length)
  (hbody:∀(cdv:Value)(A:ao)(outer:List bh)(s:aa)(H:Hp)(vs:List V)(Q:VK)(E:XK),dF k (A.deeper (envOfC qual (cH st) s.heap.objs.size f cdv))->sp vs H Q E->
   ∃t,fO (cX CX P w K mg base N qual (cH st) f cdv A outer s H E) (eG st) t/\t {nx:=λ_ H'=>Q .non H',rt:=Q} (start N vs) H):dQ P w K mg base CX (k+1) f fd ps sp:=by
 obtain⟨oc,od,T,oT,n,kV,doc,pm,an,cdv,ct,osl,rfl,lk,hcd,_,_⟩:=F.ex;exact Sb lk hcd S len λA outer s H vs Q E hr hsp=>hbody cdv A outer s H vs Q E hr hsp
end
theorem aas{P:Program}{w:am}{K:ae}{mg:Str->AX}{base:Heap}{N:List Str}{qual:Str}{scope:Scope}{f:Addr}{cd:Value}{A:ao}{outer:List bh}{BF:aa}{BG:Hp}{E:XK}:
  vO (cY P w) (cX (cY P w) P w K mg base N qual scope f cd A outer BF BG E) E:=by
 intro BE σ H s e s' I c;obtain⟨x,C,t,B,H',rfl,os,bare,un,hok,fl,cov,hE⟩:=c;have fr:∀b∈dN (cX (cY P w) P w K mg base N qual scope f cd A outer BF BG E).stack,H' b=none:=λb hb=>by
  obtain⟨_,o,ho,hd⟩:=I.stack.mem hb;exact un.free b o ho (I.stkFree b hb) (by intro z;cases z)
 have nL:∀{b o},BF.heap.get? b=some o->b∉dN outer->b∉dN (envOfC qual scope BF.heap.objs.size f cd::outer):=λ{b o} q z y=>by
  rcases cf.mp (I.stkSub b y)with g |g
  .exact absurd (df (bn q) I.ok.above) (by rw[g];exact jh _)
  .exact z g
 refine wpAny_leaves_onW (base:=B) I.ok.frames rfl fl λh' fl' up=>?_;have I5:=I.flown os bare un hok cov fr fl'.1 up;refine⟨x,C,t,B,H',rfl,os.trans I.os,bare,I5.base,I5.hok,fl',λb o q z=>?_,hE⟩;have go:∀{o2},B.get? b=some o2->B.get? b=some o:=λ{o2} g=>by
  have:=fl'.1 b o2 g;have q':h'.get? b=some o:=q;rw[q']at this;cases this;exact g
 rcases z with⟨u,z⟩|⟨o',z,nz⟩
 .obtain⟨o2,g⟩:=(hok b u z).has
  exact go (cov b o2 g (.inl ⟨u,z⟩))
 .obtain⟨o2,g⟩:=I.base.there b o' z (by intro z;cases z)
  obtain⟨o3,g3⟩:=un.there b o2 g (by intro z;cases z);exact go (cov b o3 g3 (.inr ⟨o2,g,nL z nz⟩))
section
variable{X:Cx}{BE:List (Addr×Obj)}{σ:St}{H:Hp}{s:aa}
theorem tV{M:jw}{A:ao}{E:Value->aa->Prop}{i:Nat}{n:Str}{pos:ai}{Q:Unit->aa->Prop}(I:aH X BE σ H s)(hN:X.N.Nodup)(hi:X.N[i]?=some n)(hk:X.env.scope.names.lookup n=some .local)
  (h:∀s',aH X BE (σ.set i none) H s'->Q () s'):wpAny M A (do bindName X.env n di;unbindBehindTheSuite X.env n pos) Q E s:=by
 obtain⟨m,hn,hl⟩:=id I.loc;have hcls:(X.env.scope.kind== .class||(X.env.scope.kind== .module&&X.env.locals !=X.env.globals))=false:=by rw[I.ok.kind];rfl
 have hiσ:i<σ.length:=by rw[I.len];exact(cq.mp hi).1
 have cne:=I.cne;refine wpAny_nameGoes_keeps hk hn hcls λh' v hn' hs=>?_;obtain⟨oL,_,_,hoL,_⟩:=id hn;refine h _ ⟨I.ok,I.os,I.bare,⟨λb o e n hb hx=>?_,λb o e n hb hx=>?_,I.base.free,λb o e hx=>?_,I.base.tups,I.base.frzs,I.base.tbls⟩,⟨_,hn',λj y v' e1 e2 e3=>?_⟩,λy c e=>?_,I.free,I.freeC,λp hp=>?_,λb ob e=>?_,by simpa using I.len⟩
 .exact(hs.2 b (dm (df (bn e) I.ok.above))).trans (I.base.keep b o e n hb hx)
 .obtain⟨sl,e1⟩:=I.base.slot b o e n hb hx
  exact⟨sl,(hs.2 b (dm (df (bn e) I.ok.above))).trans e1⟩
 .obtain⟨o',e1⟩:=I.base.there b o e hx
  exact⟨o',(hs.2 b (dm (df (bn e) I.ok.above))).trans e1⟩
 .by_cases hj:j=i
  .subst hj
   rw[gf hiσ]at e2;cases e2
  .rw[gm (jb hj)]at e2
   obtain⟨u',r',q⟩:=hl j y v' e1 e2 e3;refine⟨u',r',?_⟩;rcases q with⟨k,e⟩|⟨k,c,e,z⟩
   .refine .inl ⟨k,?_⟩
    have:y≠n:=λe=>hj (zH hN e1 (e▸hi));simp[this,e]
   .exact .inr ⟨k,c,e,z.sameBut hs (cne y c e)⟩
 .obtain⟨w',z⟩:=I.cell y c e
  exact⟨w',z.sameBut hs (cne y c e)⟩
 .obtain⟨e,n,ne,nf,d⟩:=I.pin p hp
  exact⟨(hs.2 p.1 ne).trans e,n,ne,nf,d⟩
 .refine(I.hok b ob e).stay (λc w' hc q=>(hs.2 c ?_).trans q) (λ_ q=>q) λ_ _ q=>q
  have hfree:=I.free
  rintro rfl
  rcases hc with rfl |hc
  .rw[hfree]at e;cases e
  .rw[hfree]at hc;cases hc
end
abbrev Cx.mk1(X:Cx)(x:Addr)(l:List (Addr×Obj)):Cx:={X with A:=X.A.mark (some (.ref x)),calm:=false,pn:=l++X.pn,xe:=λ_ _=>False}
section
variable{X:Cx}{BE:List (Addr×Obj)}{σ:St}{H:Hp}{s:aa}
theorem Cx.Ok.mk1(ok:X.Ok)(x:Addr)(l:List (Addr×Obj)):(X.mk1 x l).Ok:=
 ⟨ok.mod,ok.kind,ok.glob,ok.blt,ok.above,ok.inj,ok.has,ok.cab,λz=>(by cases z),ok.frames,ok.stk,ok.exf,ok.bs,ok.bsz,ok.noex,ok.exfs,ok.funs,ok.frf⟩
theorem aH.mk1(I:aH X BE σ H s)(x:Addr)(l:List (Addr×Obj))(h:∀p∈l,s.heap.get? p.1=some p.2/\H p.1=none/\p.1≠X.env.locals/\p.1∉X.fs/\∀v,p.2.data≠.cell v):aH (X.mk1 x l) BE σ H s:=
 ⟨I.ok.mk1 x l,I.os,I.bare,I.base,I.loc,I.cell,I.free,I.freeC,λp hp=>by
  rw[jf]at hp;exact(ck.mp hp).elim (h p) (I.pin p),I.hok,I.len⟩
theorem aH.unmk1{x:Addr}{l:List (Addr×Obj)}(ok:X.Ok)(I:aH (X.mk1 x l) BE σ H s):aH X BE σ H s:=
 ⟨ok,I.os,I.bare,I.base,I.loc,I.cell,I.free,I.freeC,λp hp=>I.pin p (by rw[jf];exact gr _ hp),I.hok,I.len⟩
end
theorem Gk{a b c:Heap}(h1:a.UpToSlots b)(h2:b.UpToSlots c):a.UpToSlots c:=λx o q d=>by
 obtain⟨sl,g⟩:=h1 x o q d;obtain⟨sl',g'⟩:=h2 x _ g d;exact⟨sl',g'⟩
section
variable{X:Cx}{k:Nat}{f:Addr}{fd:br}{ps:List Str}{sp:Sp}{dvs:List V}{ds:AW}{x:Str}{p pos pos1 pos2 pos3 pc:ai}{e:ag}{es:List ag}{t:TA}{c n:Str}{C:Addr}{i:Nat}{BJ:Stmt}{body:List Stmt}{newId:String}
end
open PySem.W PySem.Calls PySem.Builtin PySem.Builtin.Getset_descriptor
section
variable{prog:Program}{w:am}{A:ao}{E:Value->aa->Prop}{s:aa}{K:ae}{x D:Addr}{B:String}{R:qq->aa->Prop}
def mU(h:Heap)(x D:Addr):Prop:=∃o,h.get? x=some o/\o.cls=.ref D
theorem mU.ty{M:jw}{h:Heap}(I:mU h x D):Looks M h (typeOf (.ref x)) (.ref D):=by
 obtain⟨o,h1,h2⟩:=I;rw[<-h2];exact(Looks.ld h1).andThen .now
structure lO(K:ae)(D:Addr):Prop where
 ga:findIn K (.ref D) "__getattribute__"=some (some (.builtin "BaseException.__getattribute__"))
 gt:findIn K (.ref D) "__getattr__"=some none
 be:mroIn K D (.type "BaseException")=some true
 ob:mroIn K D (.type "object")=some true
 cl:findIn K (.ref D) "__class__"=some (some (.builtin "object.__class__"))
 sp:specialIn K (.builtin "object.__class__") "__get__"=some (some (.builtin "getset_descriptor.__get__"))
 tk:takesIn K (.builtin "object.__class__")=some true
 ci:(clsIn K D).isSome=true
theorem Zx{M:jw}{h:Heap}(Z:lO K D)(X:K.In h):Looks M h (AN (.ref x) (.ref D) "__class__") (.bind (.builtin "getset_descriptor.__get__") (.builtin "object.__class__")):=by
 have d:Looks M h (AO (some (.builtin "object.__class__")) (some (.builtin "getset_descriptor.__get__"))) (some (.builtin "getset_descriptor.__get__",.builtin "object.__class__")):=
  (looks_takesIn X Z.tk).andThen .now
 have g:Looks M h (AQ (some (.builtin "object.__class__"))) (some (.builtin "getset_descriptor.__get__")):=looks_specialIn X Z.sp;exact(xo X Z.cl).andThen (g.andThen (d.andThen (Looks.tag .now)))
theorem A7{tp:Value}(Z:lO K D)(X:K.In s.heap)(I:mU s.heap x D)(h:R (.ok (.ret (.ref D))) s):
  codeAny (model prog w) A (.call (.builtin "getset_descriptor.__get__") ⟨[.builtin "object.__class__",.ref x,tp],[]⟩) R s:=by
 obtain⟨hh,g,dr,t,os⟩:=s;have l0:=I.ty (M:=model prog w);have l1:=looks_mroIn (M:=model prog w) X Z.ob;refine j6 KF.slot_gs.plain KF.entry_gs
  (KF.slot_gs.check _ _ _ _ _ _ _ _ KF.type_class (KF.args_gs _ _ _) ?_)
 unfold Builtin.«getset_descriptor.__get__» descrGet;rw[dga_obj];refine ah (bi ?_);unfold descrGetter descrCheckInstance descrNameAndClass isInstance;simp only[KF.owner_class];repeat lk
 refine⟨Code.quiet_builtin _ (by decide+kernel),
  codeAny_builtin KF.entry_class ?_⟩
 unfold Builtin.«object.__class__» shownTypeOf;repeat lk
 exact h
theorem W9{tk:Tok}(FB:xp B)(Z:lO K D)(X:K.In s.heap)(I:mU s.heap x D)(h:R (.ok (.ret (.ref D))) s):
  codeAny (model prog w) A (.call (.builtin "BaseException.__getattribute__") ⟨[.ref x,.str "__class__" tk],[]⟩) R s:=by
 obtain⟨hh,g,d,t,os⟩:=s;have l0:=I.ty (M:=model prog w);have lb:=looks_mroIn (M:=model prog w) X Z.be;have l1:=Zx (M:=model prog w) (x:=x) Z X;refine j6 FB.ga.plain F.entry_bexc_ga ?_;have e1:builtinKind "BaseException.__getattribute__"=some .slot:=by decide+kernel
 have e2:splitId "BaseException.__getattribute__"=some ("BaseException","__getattribute__"):=by decide+kernel
 have ha:=F.args_bexc_ga (.ref x) (.str "__class__" tk);simp only[checkBuiltinCall,e1,e2];refine ah ?_;unfold isInstance;refine ah (l0.at (lb.at ?_))
 repeat (any_goals (first |wp_step))
 obtain⟨o,h1,h2⟩:=id I;refine wpAny_loadPart h1 (bi ?_);rw[h2];refine ah (l1.at ?_);unfold AR
 repeat (any_goals (first |wp_step))
 exact A7 Z X I (bi h)
theorem Av{Q:AX->aa->Prop}(FB:xp B)(Z:lO K D)(X:K.In s.heap)(I:mU s.heap x D)(h:Q (some (.ref D)) {s with toks:=s.toks+1}):
  wpAny (model prog w) A (getAttr? (.ref x) "__class__") Q E s:=by
 obtain⟨hh,g,d,t,os⟩:=s;have l0:=I.ty (M:=model prog w);have l1:=xo (M:=model prog w) X Z.ga;have l2:=xo (M:=model prog w) X Z.gt;have f3:=FB.ga.bind (.ref x);have e2:(j7 "BaseException.__getattribute__"==j7 "object.__getattribute__")=false:=by decide+kernel
 unfold getAttr? getAttrBy? getAttrBy;refine ah (wpAny_mkText (ah (xl (ku (ah (l0.at (ah (l1.at ?_))))))));dsimp only;rw[e2];simp only[j8,j9,if_false];unfold getAttrByItsOwn hookBefore onTheHeap;simp only[if_true];refine ah (l2.at ?_)
 repeat (any_goals (first |assumption |wp_step))
 refine W9 (s:=⟨hh,g,d,t+1,os⟩) FB Z X I ?_;exact handed_on rfl (bi h)
theorem zR(FB:xp B)(Z:lO K D):KitX K (.ref x) (.ref D) (λh=>mU h x D) where
 ty:=λ_ _ _ I=>I.ty
 it:=λ_ _ X _=>by
  obtain⟨cd,hc⟩:=wd.mp Z.ci;unfold clsIn at hc;split at hc
  .rename_i _ _ _ _ ho
   exact(Looks.ld (X _ _ ho)).andThen .now
  .cases hc
 ne:=λh tp dd its n sl X htp=>by
  obtain⟨cd,hc⟩:=wd.mp Z.ci;cases q:(dy D==dy tp)with
  |false=>rfl
  |true=>
   cases Value.ref.inj (beq_iff_eq.mp q);unfold clsIn at hc;split at hc
   .rename_i _ _ _ _ ho
    cases(X _ _ ho).symm.trans htp
   .cases hc
 ca:=λX I k=>Av FB Z X I k
end
section
variable{X:Cx}{y D:Addr}{oe:Obj}
theorem Vx(Z:lO X.K D)(hp:(y,oe)∈X.pn)(hc:oe.cls=.ref D):iE X (.builtin "isinstance") (λxs H Q=>∃c b,((∃n,c=V.ty n/\gg X.K (.ref D) (.type n)=some b)\/∃C,c=V.ref C/\gg X.K (.ref D) (.ref C)=some b)/\xs=[.ref y,c]/\Q (.bl b) H):=by
 intro BE s σ H xs us Q I r h;obtain⟨c,b,e,rfl,q⟩:=h;obtain⟨u,c',rfl,rx,rc⟩:=wE r;cases(show u=dy y from rx);have of:mU s.heap y D:=⟨oe,(I.pin _ (ju _ hp)).1,hc⟩;rcases e with⟨n,rfl,e⟩|⟨C,rfl,e⟩
 .cases(show c'=ly n from rc)
  exact il (zR xq Z) I.kIn of e (by intro q;cases q) λtk=>⟨.bl b,H,I.tok tk,rfl,q⟩
 .cases(show c'=dy C from rc)
  exact il (zR xq Z) I.kIn of e (by intro q;cases q) λtk=>⟨.bl b,H,I.tok tk,rfl,q⟩
end
def hF(l:AS):Int:=reduceHash (k4 (l.map hashInt))
def hN(l:AT):Int:=reduceHash (k4 (l.map hF))
section
variable{prog:Program}{w:am}{A:ao}{E:Value->aa->Prop}{s:aa}{h h':Heap}{a b d:Addr}
end
def qF:Bool->Type
 |false=>AS
 |true=>AT
instance decK:(n:Bool)->DecidableEq (qF n)
 |false=>inferInstanceAs (DecidableEq AS)
 |true=>inferInstanceAs (DecidableEq AT)
def abc:(n:Bool)->qF n->Int
 |false=>hF
 |true=>hN
end L2
namespace L2.Pp
open PySem PySem.Spec PyProof.Rows Bn
section
inductive PV where
 |non |bl (b:Bool) |int (i:Int) |str (x:Str) |tup (xs:List PV) |lst (xs:List PV)
abbrev BA:=List PV
abbrev BB:=Option PV
inductive SO where
 |lst (xs:BA)
 |lol (xss:List BA)
 |dic (n:Bool) (kvs:List (PV×PV))
 |dol (n:Bool) (kvs:List (PV×BA))
abbrev aG:=List SO
inductive AV where
 |pv (v:PV) |ref (k:Nat)
abbrev BC:=Option AV
abbrev BD:=List AV
abbrev bP:=List BC
inductive bQ(α:Type) where
 |ok (a:α) (S:aG) |exc (n:Str) (S:aG) |fail
def bQ.bind{α β:Type}(r:bQ α)(k:α->aG->bQ β):bQ β:=match r with
 |.ok a S=>k a S
 |.exc n S=>.exc n S
 |.fail=>.fail
inductive cN where
 |nx (ρ:bP) (S:aG) |rt (v:AV) (S:aG) |bk (ρ:bP) (S:aG) |ct (ρ:bP) (S:aG) |exc (n:Str) (S:aG) |fail
def jZ(K:ae)(c:Addr->Prop)(H:Hp)(a:Addr)(vs:List V):Prop:=
 (H a=some (.lst vs)/\¬c a)\/(∃o,H a=some (.frz o (.lst vs)))\/
  ∃(o:Obj)(its:Array Value)(n:Nat),K.lookup a=some o/\o.cls=.type "list"/\o.dict=none/\o.data=.seq its n/\its.size<=sizeLine/\bG vs its.toList
theorem jZ.sq{K:ae}{c:Addr->Prop}{H:Hp}{a:Addr}{vs:List V}(h:jZ K c H a vs):bU K H a vs:=by
 rcases h with h |h |h
 .exact .inl (.inl h.1)
 .exact .inl (.inr h)
 .exact .inr h
mutual
def aT(K:ae)(c:Addr->Prop)(H:Hp):PV->V->Prop
 |.non,x=>x=.non
 |.bl b,x=>x=.bl b
 |.int i,x=>x=.int i
 |.str s,x=>x=.str s
 |.tup xs,x=>∃a vs,x=.ref a/\dA K H a vs/\vs.length<=sizeLine/\aU K c H xs vs
 |.lst xs,x=>∃a vs,x=.ref a/\jZ K c H a vs/\vs.length<=sizeLine/\aU K c H xs vs
def aU(K:ae)(c:Addr->Prop)(H:Hp):BA->List V->Prop
 |[],vs=>vs=[]
 |p::ps,vs=>∃v r,vs=v::r/\aT K c H p v/\aU K c H ps r
end
section
variable{K:ae}{c c':Addr->Prop}{H H':Hp}
mutual
theorem aT.mono(hT:∀a vs,dA K H a vs->dA K H' a vs)(hL:∀a vs,jZ K c H a vs->jZ K c' H' a vs):∀(v:PV)(x:V),aT K c H v x->aT K c' H' v x
 |.non,x,h=>h
 |.bl b,x,h=>h
 |.int i,x,h=>h
 |.str s,x,h=>h
 |.tup xs,x,h=>by
  unfold aT at h⊢;obtain⟨a,vs,e,t,z,r⟩:=h;exact⟨a,vs,e,hT a vs t,z,aU.mono hT hL xs vs r⟩
 |.lst xs,x,h=>by
  unfold aT at h⊢;obtain⟨a,vs,e,t,z,r⟩:=h;exact⟨a,vs,e,hL a vs t,z,aU.mono hT hL xs vs r⟩
theorem aU.mono(hT:∀a vs,dA K H a vs->dA K H' a vs)(hL:∀a vs,jZ K c H a vs->jZ K c' H' a vs):∀(v:BA)(x:List V),aU K c H v x->aU K c' H' v x
 |[],vs,h=>by
  unfold aU at h⊢;exact h
 |p::ps,vs,h=>by
  unfold aU at h⊢;obtain⟨v,r,e,h1,h2⟩:=h;exact⟨v,r,e,aT.mono hT hL p v h1,aU.mono hT hL ps r h2⟩
end
theorem aU.length:∀{xs:BA}{vs:List V},aU K c H xs vs->xs.length=vs.length
 |[],vs,h=>by
  unfold aU at h;rw[h];rfl
 |p::ps,vs,h=>by
  unfold aU at h;obtain⟨v,r,rfl,_,h2⟩:=h;rw[cv,cv,aU.length h2]
theorem aU.get:∀{xs:BA}{vs:List V}{i:Nat}{p:PV},aU K c H xs vs->xs[i]?=some p->∃v,vs[i]?=some v/\aT K c H p v
 |[],vs,i,p,h,e=>by simp at e
 |q::ps,vs,0,p,h,e=>by
  unfold aU at h;obtain⟨v,r,rfl,h1,_⟩:=h;simp at e;subst e;exact⟨v,rfl,h1⟩
 |q::ps,vs,i+1,p,h,e=>by
  unfold aU at h;obtain⟨v,r,rfl,_,h2⟩:=h;obtain⟨u,e1,e2⟩:=aU.get (i:=i) h2 (by simpa using e);exact⟨u,by simpa using e1,e2⟩
theorem aU.nil:aU K c H [] []:=by
 unfold aU;rfl
theorem aU.cons{p:PV}{v:V}{ps:BA}{vs:List V}(h:aT K c H p v)(t:aU K c H ps vs):aU K c H (p::ps) (v::vs):=by
 unfold aU;exact⟨v,vs,rfl,h,t⟩
theorem aU.append:∀{xs ys:BA}{vs ws:List V},aU K c H xs vs->aU K c H ys ws->aU K c H (xs++ys) (vs++ws)
 |[],ys,vs,ws,h,g=>by
  unfold aU at h;subst h;exact g
 |p::ps,ys,vs,ws,h,g=>by
  unfold aU at h;obtain⟨v,r,rfl,h1,h2⟩:=h;exact .cons h1 (h2.append g)
theorem aU.drop:∀{xs:BA}{vs:List V}(n:Nat),aU K c H xs vs->aU K c H (xs.drop n) (vs.drop n)
 |xs,vs,0,h=>by simpa using h
 |[],vs,n+1,h=>by
  unfold aU at h;subst h;simpa using aU.nil
 |p::ps,vs,n+1,h=>by
  unfold aU at h;obtain⟨v,r,rfl,_,h2⟩:=h;simpa using h2.drop n
theorem aU.take:∀{xs:BA}{vs:List V}(n:Nat),aU K c H xs vs->aU K c H (xs.take n) (vs.take n)
 |xs,vs,0,h=>by simpa using aU.nil
 |[],vs,n+1,h=>by
  unfold aU at h;subst h;simpa using aU.nil
 |p::ps,vs,n+1,h=>by
  unfold aU at h;obtain⟨v,r,rfl,h1,h2⟩:=h;simpa using aU.cons h1 (h2.take n)
theorem aU.eraseIdx:∀{xs:BA}{vs:List V}(n:Nat),aU K c H xs vs->aU K c H (xs.eraseIdx n) (vs.eraseIdx n)
 |[],vs,n,h=>by
  unfold aU at h;subst h;simpa using aU.nil
 |p::ps,vs,0,h=>by
  unfold aU at h;obtain⟨v,r,rfl,h1,h2⟩:=h;simpa using h2
 |p::ps,vs,n+1,h=>by
  unfold aU at h;obtain⟨v,r,rfl,h1,h2⟩:=h;simpa using aU.cons h1 (h2.eraseIdx n)
theorem aU.set{p:PV}{v:V}(g:aT K c H p v):∀{xs:BA}{vs:List V}(n:Nat),aU K c H xs vs->aU K c H (xs.set n p) (vs.set n v)
 |[],vs,n,h=>by
  unfold aU at h;subst h;simpa using aU.nil
 |q::ps,vs,0,h=>by
  unfold aU at h;obtain⟨v,r,rfl,h1,h2⟩:=h;simpa using aU.cons g h2
 |q::ps,vs,n+1,h=>by
  unfold aU at h;obtain⟨v,r,rfl,h1,h2⟩:=h;simpa using aU.cons h1 (aU.set g n h2)
end
structure Ph where
 f:List Addr
 w:Addr->Prop
 c:Addr->Prop
def wC(K:ae)(c:Addr->Prop)(H:Hp)(xss:List BA)(bs:List Addr):Prop:=
 xss.length=bs.length/\∀(i:Nat)(xs:BA)(b:Addr),xss[i]?=some xs->bs[i]?=some b->∃vs,H b=some (.lst vs)/\vs.length<=sizeLine/\aU K c H xs vs
def abH:(n:Bool)->qF n->PV
 |false,l=>.tup (List.map PV.int l)
 |true,l=>.tup (List.map (λr:AS=>PV.tup (r.map PV.int)) l)
def oD(es:Array DictEntry)(ep:Nat):Obj:={cls:=.type "dict",data:=.dict es ep}
def dO(a:Addr)(es:Array DictEntry)(ep:Nat):HO:=.ext λh=>h.get? a=some (oD es ep)
def enK(n:Bool)(x:qF n×Addr×Value):DictEntry:=⟨abc n x.1,.ref x.2.1,x.2.2⟩
def tL(K:ae)(c:Addr->Prop)(H:Hp)(a:Addr)(n:Bool)(ks:BA)(us:AW):Prop:=
 ∃(xs:List (qF n×Addr×Value))(ep:Nat),H a=some (dO a (xs.map (enK n)).toArray ep)/\(a==sysModules)=false/\xs.length<=sizeLine/\(xs.map (·.1)).Nodup/\ks=xs.map (λx=>abH n x.1)/\aU K c H ks (xs.map λx=>V.ref x.2.1)/\us=xs.map (·.2.2)
def qH(K:ae)(p:Ph)(H:Hp)(a:Addr):SO->Prop
 |.lst xs=>∃vs,H a=some (.lst vs)/\vs.length<=sizeLine/\aU K p.c H xs vs
 |.lol xss=>∃bs:List Addr,H a=some (.lst (bs.map V.ref))/\bs.length<=sizeLine/\bs.Nodup/\(∀b∈bs,p.w b/\b∉p.f)/\wC K p.c H xss bs
 |.dic n kvs=>∃us vs,tL K p.c H a n (kvs.map (·.1)) us/\bG vs us/\aU K p.c H (kvs.map (·.2)) vs
 |.dol n kvs=>∃bs:List Addr,tL K p.c H a n (kvs.map (·.1)) (bs.map dy)/\bs.Nodup/\(∀b∈bs,p.w b/\b∉p.f)/\wC K p.c H (kvs.map (·.2)) bs
theorem tL.mono{K:ae}{c c':Addr->Prop}{H H':Hp}{a:Addr}{n:Bool}{ks:BA}{us:AW}(h:tL K c H a n ks us)(ha:∀o,H a=some o->H' a=some o)(hR:∀xs vs,aU K c H xs vs->aU K c' H' xs vs):tL K c' H' a n ks us:=by
 obtain⟨xs,ep,e,z,l,nd,ek,r,eu⟩:=h;exact⟨xs,ep,ha _ e,z,l,nd,ek,hR _ _ r,eu⟩
theorem qH.mono{K:ae}{p p':Ph}{H H':Hp}{a:Addr}{o:SO}(h:qH K p H a o)(ha:∀o,H a=some o->H' a=some o)
  (hb:∀b,p.w b->b∉p.f->(p'.w b/\b∉p'.f)/\∀vs,H b=some (.lst vs)->H' b=some (.lst vs))(hR:∀xs vs,aU K p.c H xs vs->aU K p'.c H' xs vs):qH K p' H' a o:=by
 have lol:∀{xss:List BA}{bs:List Addr},(∀b∈bs,p.w b/\b∉p.f)->wC K p.c H xss bs->wC K p'.c H' xss bs:=λwf ⟨z,at_⟩=>⟨z,λi xs b e1 e2=>by
  obtain⟨vs,g1,g2,g3⟩:=at_ i xs b e1 e2;have m:=wf b (gi e2);exact⟨vs,(hb b m.1 m.2).2 vs g1,g2,hR xs vs g3⟩⟩
 cases o with
 |lst xs=>
  obtain⟨vs,e,l,r⟩:=h;exact⟨vs,ha _ e,l,hR xs vs r⟩
 |lol xss=>
  obtain⟨bs,e,l,nd,wf,z⟩:=h;exact⟨bs,ha _ e,l,nd,λb m=>(hb b (wf b m).1 (wf b m).2).1,lol wf z⟩
 |dic n kvs=>
  obtain⟨us,vs,d,v,r⟩:=h;exact⟨us,vs,d.mono ha hR,v,hR _ _ r⟩
 |dol n kvs=>
  obtain⟨bs,d,nd,wf,z⟩:=h;exact⟨bs,d.mono ha hR,nd,λb m=>(hb b (wf b m).1 (wf b m).2).1,lol wf z⟩
def Mb:HO->Prop
 |.lst _=>True
 |.dK _=>True
 |.dT _=>True
 |.ins _ _ _=>True
 |.ext _=>True
 |_=>False
structure aY(K:ae)(p:Ph)(S:aG)(H:Hp):Prop where
 nd:p.f.Nodup
 len:p.f.length=S.length
 sub:∀a∈p.f,p.w a
 wc:∀a,p.w a->p.c a
 mu:∀a,p.c a->∃o,H a=some o/\Mb o
 obj:∀(k:Nat)(a:Addr)(o:SO),p.f[k]?=some a->S[k]?=some o->qH K p H a o
structure bR(p:Ph)(H:Hp)(q:Ph)(H':Hp):Prop where
 wc:∀a,p.w a->p.c a
 mu:∀a,p.c a->∃o,H a=some o/\Mb o
 pre:p.f <+:q.f
 mw:∀a,p.w a->q.w a
 mono:∀a,p.c a->q.c a
 nf:∀a∈q.f,a∉p.f->H a=none
 nw:∀a,q.w a->¬p.w a->H a=none
 nc:∀a,q.c a->¬p.c a->H a=none
 keep:∀a o,H a=some o->¬p.w a->H' a=some o
def cU(K:ae)(p:Ph)(H:Hp):AV->V->Prop
 |.pv v,x=>aT K p.c H v x
 |.ref k,x=>∃a,p.f[k]?=some a/\x=.ref a
abbrev gH(K:ae)(p:Ph)(H:Hp):BD->List V->Prop:=mf (cU K p H)
structure dJ(K:ae)(p:Ph)(H:Hp)(ρ:bP)(σ:St):Prop where
 len:ρ.length=σ.length
 at_:∀(i:Nat)(v:AV),ρ[i]?=some (some v)->∃x,σ[i]?=some (some x)/\cU K p H v x
section
variable{K:ae}{p q r:Ph}{H H' H'':Hp}{S:aG}
theorem aY.step(s:aY K p S H):bR p H p H:=⟨s.wc,s.mu,kl,λ_ h=>h,λ_ h=>h,λ_ h g=>absurd h g,λ_ h g=>absurd h g,λ_ h g=>absurd h g,λ_ _ h _=>h⟩
theorem bR.trans(a:bR p H q H')(b:bR q H' r H''):bR p H r H'':=by
 have back:∀x,H' x=none->¬p.w x->H x=none:=λx h n=>by
  cases e:H x with
  |none=>rfl
  |some o=>rw[a.keep x o e n]at h;cases h
 refine⟨a.wc,a.mu,a.pre.trans b.pre,λx h=>b.mw x (a.mw x h),λx h=>b.mono x (a.mono x h),λx h n=>?_,λx h n=>?_,λx h n=>?_,λx o e n=>?_⟩
 .by_cases m:x∈q.f
  .exact a.nf x m n
  .have hn:=b.nf x h m
   refine back x hn λz=>?_;obtain⟨o,ho,_⟩:=b.mu x (a.mono x (a.wc x z));rw[hn]at ho;cases ho
 .by_cases m:q.w x
  .exact a.nw x m n
  .exact back x (b.nw x h m) n
 .by_cases m:q.c x
  .exact a.nc x m n
  .exact back x (b.nc x h m) λz=>n (a.wc x z)
 .refine b.keep x o (a.keep x o e n) λz=>?_
  rw[a.nw x z n]at e;cases e
theorem bR.tup(s:bR p H q H'){a:Addr}{vs:List V}(h:dA K H a vs):dA K H' a vs:=by
 have go:∀o,H a=some o->¬Mb o->H' a=some o:=λo e n=>s.keep a o e λz=>by
  obtain⟨u,e',m⟩:=s.mu a (s.wc a z);rw[e]at e';cases e';exact n m
 rcases h with(h |⟨o,h⟩) |h
 .exact .inl (.inl (go _ h (λz=>z)))
 .exact .inl (.inr ⟨o,go _ h (λz=>z)⟩)
 .exact .inr h
theorem bR.lat(s:bR p H q H'){a:Addr}{vs:List V}(h:jZ K p.c H a vs):jZ K q.c H' a vs:=by
 rcases h with⟨h,n⟩|⟨o,h⟩|h
 .refine .inl ⟨s.keep a _ h λz=>n (s.wc a z),λz=>?_⟩
  rw[s.nc a z n]at h;cases h
 .refine .inr (.inl ⟨o,s.keep a _ h λz=>?_⟩)
  obtain⟨u,e',m⟩:=s.mu a (s.wc a z);rw[h]at e';cases e';exact m
 .exact .inr (.inr h)
theorem bR.rep(s:bR p H q H'){v:PV}{x:V}(h:aT K p.c H v x):aT K q.c H' v x:=aT.mono (λ_ _=>s.tup) (λ_ _=>s.lat) v x h
theorem bR.reps(s:bR p H q H'){v:BA}{x:List V}(h:aU K p.c H v x):aU K q.c H' v x:=aU.mono (λ_ _=>s.tup) (λ_ _=>s.lat) v x h
theorem bR.at_(s:bR p H q H'){k:Nat}{a:Addr}(h:p.f[k]?=some a):q.f[k]?=some a:=by
 obtain⟨t,e⟩:=s.pre;rw[<-e,ft (by
  have:=cq.mp h;exact this.1)]
 exact h
theorem bR.repA(s:bR p H q H'){v:AV}{x:V}(h:cU K p H v x):cU K q H' v x:=by
 cases v with
 |pv v=>exact s.rep h
 |ref k=>
  obtain⟨a,e,f⟩:=h;exact⟨a,s.at_ e,f⟩
theorem bR.repE(s:bR p H q H'){ρ:bP}{σ:St}(h:dJ K p H ρ σ):dJ K q H' ρ σ:=
 ⟨h.len,λi v e=>let⟨x,e1,e2⟩:=h.at_ i v e;⟨x,e1,s.repA e2⟩⟩
theorem aY.same(s:aY K p S H)(h:dH H H'):bR p H p H':=⟨s.wc,s.mu,kl,λ_ h=>h,λ_ h=>h,λ_ h g=>absurd h g,λ_ h g=>absurd h g,λ_ h g=>absurd h g,λa o e _=>h a o e⟩
theorem aY.ofSame(s:aY K p S H)(h:dH H H'):aY K p S H':=
 ⟨s.nd,s.len,s.sub,s.wc,λa m=>let⟨o,e,m⟩:=s.mu a m;⟨o,h a o e,m⟩,λk a o e1 e2=>by
  exact(s.obj k a o e1 e2).mono (λvs e=>h _ _ e) (λb w f=>⟨⟨w,f⟩,λvs e=>h _ _ e⟩) λxs vs=>(s.same h).reps⟩
theorem fS{a:Addr}{o:HO}(h:H a=none):dH H (bA H a o):=λb u e=>by
 rw[bV (fV e h)];exact e
end
section
variable{α β γ δ:Type}
def cC(K:ae)(cl:Str->Addr)(R:Ph->Hp->α->β->Prop)(p:Ph)(H:Hp)(r:bQ α)(Q:β->Hp->Prop)(E:XK):Prop:=match r with
 |.ok a S=>∀q H' x,bR p H q H'->aY K q S H'->R q H' a x->Q x H'
 |.exc n S=>∀q H',bR p H q H'->aY K q S H'->E (.ref (cl n)) none H'
 |.fail=>False
def eH(K:ae)(cl:Str->Addr)(p:Ph)(H:Hp)(r:cN)(D:kW)(E:XK):Prop:=match r with
 |.nx ρ S=>∀q H' σ,bR p H q H'->aY K q S H'->dJ K q H' ρ σ->D.nx σ H'
 |.bk ρ S=>∀q H' σ,bR p H q H'->aY K q S H'->dJ K q H' ρ σ->D.bk σ H'
 |.ct ρ S=>∀q H' σ,bR p H q H'->aY K q S H'->dJ K q H' ρ σ->D.ct σ H'
 |.rt v S=>∀q H' x,bR p H q H'->aY K q S H'->cU K q H' v x->D.rt x H'
 |.exc n S=>∀q H',bR p H q H'->aY K q S H'->E (.ref (cl n)) none H'
 |.fail=>False
variable{K:ae}{cl:Str->Addr}{p q:Ph}{H H':Hp}{S:aG}{E:XK}{R:Ph->Hp->α->β->Prop}{R':Ph->Hp->γ->δ->Prop}
theorem cC.mono{r:bQ α}{Q:β->Hp->Prop}(h:cC K cl R p H r Q E)(s:bR p H q H'):cC K cl R q H' r Q E:=by
 cases r with
 |ok a S=>exact λq' H'' x s'=>h q' H'' x (s.trans s')
 |exc n S=>exact λq' H'' s'=>h q' H'' (s.trans s')
 |fail=>exact h
theorem eH.mono{r:cN}{D:kW}(h:eH K cl p H r D E)(s:bR p H q H'):eH K cl q H' r D E:=by
 cases r with
 |nx ρ S=>exact λq' H'' x s'=>h q' H'' x (s.trans s')
 |bk ρ S=>exact λq' H'' x s'=>h q' H'' x (s.trans s')
 |ct ρ S=>exact λq' H'' x s'=>h q' H'' x (s.trans s')
 |rt v S=>exact λq' H'' x s'=>h q' H'' x (s.trans s')
 |exc n S=>exact λq' H'' s'=>h q' H'' (s.trans s')
 |fail=>exact h
theorem cC.ret{a:α}{x:β}{Q:β->Hp->Prop}(h:cC K cl R p H (.ok a S) Q E)(s:aY K p S H)(r:R p H a x):Q x H:=h p H x s.step s r
theorem cC.same{a:α}{x:β}{Q:β->Hp->Prop}(h:cC K cl R p H (.ok a S) Q E)(s:aY K p S H)(e:dH H H')(r:R p H' a x):Q x H':=h p H' x (s.same e) (s.ofSame e) r
def tP(K:ae)(cl:Str->Addr)(E:XK)(R:Ph->Hp->α->β->Prop)(m:bP->aG->bQ α)(σ:St)(H:Hp)(Q:β->Hp->Prop):Prop:=
 ∃p S ρ,aY K p S H/\dJ K p H ρ σ/\cC K cl R p H (m ρ S) Q E
def tS(K:ae)(cl:Str->Addr)(E:XK)(m:bP->aG->cN):TS:=λD σ H=>
 ∃p S ρ,aY K p S H/\dJ K p H ρ σ/\eH K cl p H (m ρ S) D E
theorem cR{m:bP->aG->bQ α}{k:α->aG->bQ γ}{ρ:bP}{σ:St}{Q:δ->Hp->Prop}{T:β->Hp->Prop}(s:aY K p S H)(e:dJ K p H ρ σ)(h:cC K cl R' p H ((m ρ S).bind k) Q E)
  (g:∀q H' a b S',bR p H q H'->aY K q S' H'->dJ K q H' ρ σ->R q H' a b->cC K cl R' q H' (k a S') Q E->T b H'):tP K cl E R m σ H T:=by
 refine⟨p,S,ρ,s,e,?_⟩;cases z:m ρ S with
 |ok a S1=>
  rw[z]at h;exact λq H' b st sm r=>g q H' a b S1 st sm (st.repE e) r (cC.mono (r:=k a S1) h st)
 |exc n S1=>
  rw[z]at h;exact h
 |fail=>
  rw[z]at h;exact h
def cN.of{α:Type}(r:bQ α)(k:α->aG->cN):cN:=match r with
 |.ok a S=>k a S
 |.exc n S=>.exc n S
 |.fail=>.fail
theorem jN{m:bP->aG->bQ α}{k:α->aG->cN}{ρ:bP}{σ:St}{D:kW}{T:β->Hp->Prop}(s:aY K p S H)(e:dJ K p H ρ σ)(h:eH K cl p H (cN.of (m ρ S) k) D E)
  (g:∀q H' a b S',bR p H q H'->aY K q S' H'->dJ K q H' ρ σ->R q H' a b->eH K cl q H' (k a S') D E->T b H'):tP K cl E R m σ H T:=by
 refine⟨p,S,ρ,s,e,?_⟩;cases z:m ρ S with
 |ok a S1=>
  rw[z]at h;exact λq H' b st sm r=>g q H' a b S1 st sm (st.repE e) r (eH.mono (r:=k a S1) h st)
 |exc n S1=>
  rw[z]at h;exact h
 |fail=>
  rw[z]at h;exact h
end
end
abbrev RB:Ph->Hp->Bool->Bool->Prop:=λ_ _ a b=>a=b
abbrev ME:=bP->aG->bQ AV
abbrev MT:=bP->aG->bQ Bool
abbrev MA:=bP->aG->bQ BD
abbrev MS:=bP->aG->cN
section
variable(K:ae)(cl:Str->Addr)(E:XK)(X:Cx)
def aZ(e:ag)(m:ME):Prop:=X.K=K->PE X e (tP K cl E (cU K) m)
def fU(e:ag)(m:MT):Prop:=X.K=K->PT X e (tP K cl E RB m)
def jI(e:ag)(m:MT):Prop:=X.K=K->PW X e (tP K cl E RB m)
def eX(es:List ag)(m:MA):Prop:=X.K=K->PA X es (tP K cl E (gH K) m)
def eT(st:Stmt)(m:MS):Prop:=X.K=K->PS X st (tS K cl E m)
def fY(st:List Stmt)(m:MS):Prop:=X.K=K->fO X st (tS K cl E m)
end
theorem PA.imp{X:Cx}{es:List ag}{t t':TA}(h:PA X es t)(i:∀σ H Q,t' σ H Q->t σ H Q):PA X es t':=λpos BE s σ H Q I q=>h pos BE s σ H Q I (i σ H Q q)
theorem PW.imp{X:Cx}{e:ag}{t t':TT}(h:PW X e t)(i:∀σ H Q,t' σ H Q->t σ H Q):PW X e t':=λwh BE s σ H Q I q=>h wh BE s σ H Q I (i σ H Q q)
def aA(i:Nat):ME:=λρ S=>match ρ[i]? with
 |some (some v)=>.ok v S
 |_=>.fail
def mC(v:PV):ME:=λ_ S=>.ok (.pv v) S
def rd(S:aG):AV->BB
 |.pv v=>some v
 |.ref k=>match S[k]? with
  |some (.lst xs)=>some (.lst xs)
  |_=>none
def iC(S:aG):BD->Option BA
 |[]=>some []
 |a::r=>match rd S a with
  |some v=>match iC S r with
   |some vs=>some (v::vs)
   |none=>none
  |none=>none
def iP(o:BB)(S:aG):bQ AV:=match o with
 |some r=>.ok (.pv r) S
 |none=>.fail
def sM(f:PV->BB)(a:AV)(S:aG):bQ AV:=iP ((rd S a).bind f) S
def kE(f:PV->PV->BB)(a b:AV)(S:aG):bQ AV:=iP ((rd S a).bind λx=>(rd S b).bind λy=>f x y) S
def bK(f:PV->BB)(ma:ME):ME:=λρ S=>(ma ρ S).bind λx S1=>sM f x S1
def aC(f:PV->PV->BB)(ma mb:ME):ME:=λρ S=>(ma ρ S).bind λx S1=>(mb ρ S1).bind λy S2=>kE f x y S2
def aD:MA:=λ_ S=>.ok [] S
def aB(ma:ME)(mr:MA):MA:=λρ S=>(ma ρ S).bind λx S1=>(mr ρ S1).bind λxs S2=>.ok (x::xs) S2
def mX:BD->Option BA
 |[]=>some []
 |.pv v::r=>match mX r with
  |some vs=>some (v::vs)
  |none=>none
 |.ref _::_=>none
def pX(f:BA->BB)(xs:BD)(S:aG):bQ AV:=iP ((mX xs).bind f) S
def mW(f:BA->BB)(xs:BD)(S:aG):bQ AV:=iP ((iC S xs).bind f) S
def mR(f:BA->BB)(ma:MA):ME:=λρ S=>(ma ρ S).bind λxs S1=>mW f xs S1
def mN(f:BA->BB)(ma:MA):ME:=λρ S=>(ma ρ S).bind λxs S1=>pX f xs S1
def dL(vs:BA):BB:=if vs.length<=16777216 then some (.tup vs)else none
def eC(vs:BA):BB:=if vs.length<=16777216 then some (.lst vs)else none
def kK:AV->aG->bQ Bool
 |.pv (.bl b),S=>.ok b S
 |_,_=>.fail
def bH(m:ME):MT:=λρ S=>(m ρ S).bind kK
def sV(m:MT):MT:=λρ S=>(m ρ S).bind λb S1=>.ok (!b) S1
def iM(m n:MT):MT:=λρ S=>(m ρ S).bind λb S1=>if b=true then n ρ S1 else .ok false S1
def qM(m n:MT):MT:=λρ S=>(m ρ S).bind λb S1=>if b=true then .ok true S1 else n ρ S1
def wH(m n:ME):ME:=λρ S=>(m ρ S).bind λx S1=>match x with
 |.pv (.bl true)=>n ρ S1
 |.pv (.bl false)=>.ok (.pv (.bl false)) S1
 |_=>.fail
def abn(m n:ME):ME:=λρ S=>(m ρ S).bind λx S1=>match x with
 |.pv (.bl false)=>n ρ S1
 |.pv (.bl true)=>.ok (.pv (.bl true)) S1
 |_=>.fail
def sQ:PV->BB
 |.bl b=>some (.bl (!b))
 |_=>none
def mIf(c:MT)(a b:ME):ME:=λρ S=>(c ρ S).bind λt S1=>if t=true then a ρ S1 else b ρ S1
section
variable{K:ae}{cl:Str->Addr}{E:XK}{X:Cx}{a b c e:ag}{es:List ag}{ma mb mc m:ME}{mt nt:MT}{ms:MA}{pos:ai}
theorem sF(i:Nat){x:Str}(hN:X.N[i]?=some x:=by rfl)(hv:nG X.env.scope x:=by first |exact gj rfl |exact ig (gj rfl) |exact ig (ig rfl))(hd:(x==("__debug__":Str))=false:=by decide)
  (hcd:(x==("__classdict__":Str))=false:=by decide):aZ K cl E X (.Name x pos) (aA i):=λ_=>(nY hN hv hd hcd).imp λσ H Q ⟨p,S,ρ,s,e,h⟩=>by
 unfold aA at h;cases z:ρ[i]? with
 |none=>rw[z]at h;exact h.elim
 |some o=>
  cases o with
  |none=>rw[z]at h;exact h.elim
  |some v=>
   rw[z]at h;obtain⟨x,e1,e2⟩:=e.at_ i v z;exact⟨x,e1,cC.ret h s e2⟩
theorem Fo{i:Int}{j}:aZ K cl E X (.Constant (.int i) j pos) (mC (.int i)):=λ_=>Va.imp λσ H Q ⟨p,S,ρ,s,e,h⟩=>cC.ret (R:=cU K) (x:=.int i) h s (by show aT K p.c H (.int i) (.int i);unfold aT;rfl)
theorem aaW{i:Bool}{j}:aZ K cl E X (.Constant (.bool i) j pos) (mC (.bl i)):=λ_=>aba.imp λσ H Q ⟨p,S,ρ,s,e,h⟩=>cC.ret (R:=cU K) (x:=.bl i) h s (by show aT K p.c H (.bl i) (.bl i);unfold aT;rfl)
theorem Go{j}:aZ K cl E X (.Constant .none j pos) (mC .non):=λ_=>S0.imp λσ H Q ⟨p,S,ρ,s,e,h⟩=>cC.ret (R:=cU K) (x:=.non) h s (by show aT K p.c H .non .non;unfold aT;rfl)
def eR(K:ae)(p:Ph)(H:Hp)(v:PV)(x:V):Prop:=aT K p.c H v x\/∃xs a vs,v=.lst xs/\x=.ref a/\H a=some (.lst vs)/\vs.length<=sizeLine/\aU K p.c H xs vs
theorem eR.int{p:Ph}{H:Hp}{i:Int}{x:V}(h:eR K p H (.int i) x):x=.int i:=by
 rcases h with h |⟨_,_,_,e,_⟩
 .unfold aT at h;exact h
 .cases e
theorem eR.bl{p:Ph}{H:Hp}{i:Bool}{x:V}(h:eR K p H (.bl i) x):x=.bl i:=by
 rcases h with h |⟨_,_,_,e,_⟩
 .unfold aT at h;exact h
 .cases e
theorem eR.str{p:Ph}{H:Hp}{i:Str}{x:V}(h:eR K p H (.str i) x):x=.str i:=by
 rcases h with h |⟨_,_,_,e,_⟩
 .unfold aT at h;exact h
 .cases e
theorem eR.non{p:Ph}{H:Hp}{x:V}(h:eR K p H .non x):x=.non:=by
 rcases h with h |⟨_,_,_,e,_⟩
 .unfold aT at h;exact h
 .cases e
theorem eR.tup{p:Ph}{H:Hp}{xs:BA}{x:V}(h:eR K p H (.tup xs) x):∃a vs,x=.ref a/\dA K H a vs/\vs.length<=sizeLine/\aU K p.c H xs vs:=by
 rcases h with h |⟨_,_,_,e,_⟩
 .unfold aT at h;exact h
 .cases e
theorem eR.lst{p:Ph}{H:Hp}{xs:BA}{x:V}(h:eR K p H (.lst xs) x):∃a vs,x=.ref a/\bU K H a vs/\vs.length<=sizeLine/\aU K p.c H xs vs:=by
 rcases h with h |⟨ys,a,vs,e,e2,h,z,r⟩
 .unfold aT at h
  obtain⟨a,vs,e,l,z,r⟩:=h;exact⟨a,vs,e,l.sq,z,r⟩
 .cases e
  exact⟨a,vs,e2,bU.of h,z,r⟩
theorem rY{p:Ph}{S:aG}{H:Hp}{a:AV}{v:PV}{x:V}(s:aY K p S H)(r:cU K p H a x)(e:rd S a=some v):eR K p H v x:=by
 cases a with
 |pv u=>cases e;exact .inl r
 |ref k=>
  obtain⟨a,e1,rfl⟩:=r;unfold rd at e;cases z:S[k]? with
  |none=>simp only[z]at e;cases e
  |some o=>
   cases o with
   |lst xs=>
    simp only[z]at e;cases e;obtain⟨vs,h,l,r⟩:=s.obj k a _ e1 z;exact .inr ⟨xs,a,vs,rfl,rfl,h,l,r⟩
   |lol _=>simp only[z]at e;cases e
   |dic _ _=>simp only[z]at e;cases e
   |dol _ _=>simp only[z]at e;cases e
abbrev Ep(K:ae)(p:Ph)(H:Hp):BA->List V->Prop:=mf (eR K p H)
theorem yU{p:Ph}{S:aG}{H:Hp}(s:aY K p S H):∀{as:BD}{vs:BA}{xs:List V},gH K p H as xs->iC S as=some vs->Ep K p H vs xs
 |[],vs,_,.nil,e=>by
  cases e;exact .nil
 |a::r,vs,_,.cons h t,e=>by
  unfold iC at e;cases z:rd S a with
  |none=>simp only[z]at e;cases e
  |some v=>
   simp only[z]at e;cases y:iC S r with
   |none=>simp only[y]at e;cases e
   |some us=>
    simp only[y]at e;cases e;exact .cons (rY s h z) (yU s t y)
def fZ(K:ae)(r:R2)(f:PV->PV->BB):Prop:=∀{p:Ph}{S:aG}{H:Hp}{a b c:PV}{x y:V}{Q:VK},aY K p S H->eR K p H a x->eR K p H b y->f a b=some c->
 (∀H' z,dH H H'->aT K p.c H' c z->Q z H')->r x y H Q
def tO(K:ae)(r:V->Hp->VK->Prop)(f:PV->BB):Prop:=∀{p:Ph}{S:aG}{H:Hp}{a c:PV}{x:V}{Q:VK},aY K p S H->eR K p H a x->f a=some c->
 (∀H' z,dH H H'->aT K p.c H' c z->Q z H')->r x H Q
def CaS(K:ae)(r:List V->Hp->VK->Prop)(f:BA->BB):Prop:=∀{p:Ph}{S:aG}{H:Hp}{as:BA}{c:PV}{xs:List V}{Q:VK},aY K p S H->aU K p.c H as xs->f as=some c->
 (∀H' z,dH H H'->aT K p.c H' c z->Q z H')->r xs H Q
def kA(K:ae)(r:List V->Hp->VK->Prop)(f:BA->BB):Prop:=∀{p:Ph}{S:aG}{H:Hp}{as:BA}{c:PV}{xs:List V}{Q:VK},aY K p S H->Ep K p H as xs->f as=some c->
 (∀H' z,dH H H'->aT K p.c H' c z->Q z H')->r xs H Q
theorem rN{p:Ph}{S:aG}{H:Hp}{o:BB}{Q:VK}(s:aY K p S H)(h:cC K cl (cU K) p H (iP o S) Q E):∃c,o=some c/\∀H' z,dH H H'->aT K p.c H' c z->Q z H':=by
 cases o with
 |none=>exact h.elim
 |some c=>exact⟨c,rfl,λH' z sm rz=>cC.same (R:=cU K) h s sm rz⟩
theorem uF{r:R2}{f:PV->PV->BB}(hf:fZ K r f){p:Ph}{S:aG}{H:Hp}{a b:AV}{x y:V}{Q:VK}(s:aY K p S H)(ra:cU K p H a x)(rb:cU K p H b y)(h:cC K cl (cU K) p H (kE f a b S) Q E):r x y H Q:=by
 obtain⟨c,e,k⟩:=rN s h;cases z:rd S a with
 |none=>rw[z]at e;cases e
 |some v=>
  cases y:rd S b with
  |none=>rw[z,y]at e;cases e
  |some w=>
   rw[z,y]at e;exact hf s (rY s ra z) (rY s rb y) e k
theorem uG{r:V->Hp->VK->Prop}{f:PV->BB}(hf:tO K r f){p:Ph}{S:aG}{H:Hp}{a:AV}{x:V}{Q:VK}(s:aY K p S H)(ra:cU K p H a x)(h:cC K cl (cU K) p H (sM f a S) Q E):r x H Q:=by
 obtain⟨c,e,k⟩:=rN s h;cases z:rd S a with
 |none=>rw[z]at e;cases e
 |some v=>
  rw[z]at e;exact hf s (rY s ra z) e k
theorem Sg{r:List V->Hp->VK->Prop}{f:BA->BB}(hf:kA K r f){p:Ph}{S:aG}{H:Hp}{as:BD}{xs:List V}{Q:VK}(s:aY K p S H)(ra:gH K p H as xs)(h:cC K cl (cU K) p H (mW f as S) Q E):r xs H Q:=by
 obtain⟨c,e,k⟩:=rN s h;cases z:iC S as with
 |none=>rw[z]at e;cases e
 |some v=>
  rw[z]at e;exact hf s (yU s ra z) e k
theorem yM{p:Ph}{H:Hp}:∀{as:BD}{vs:BA}{xs:List V},mX as=some vs->gH K p H as xs->aU K p.c H vs xs
 |[],vs,_,e,.nil=>by
  cases e;exact .nil
 |.pv v::r,vs,_,e,.cons h t=>by
  unfold mX at e;cases z:mX r with
  |none=>simp only[z]at e;cases e
  |some us=>
   simp only[z]at e;cases e;exact .cons h (yM z t)
 |.ref k::r,vs,_,e,.cons h t=>by
  cases e
theorem yZ{r:List V->Hp->VK->Prop}{f:BA->BB}(hf:CaS K r f){p:Ph}{S:aG}{H:Hp}{as:BD}{xs:List V}{Q:VK}(s:aY K p S H)(ra:gH K p H as xs)(h:cC K cl (cU K) p H (pX f as S) Q E):r xs H Q:=by
 obtain⟨c,e,k⟩:=rN s h;cases z:mX as with
 |none=>rw[z]at e;cases e
 |some v=>
  rw[z]at e;exact hf s (yM z ra) e k
theorem oJ{op:ql}{r:R2}{f:PV->PV->BB}(ho:dX X (binaryOp op) r)(hf:fZ X.K r f)(ha:aZ K cl E X a ma)(hb:aZ K cl E X b mb):aZ K cl E X (.BinOp a op b pos) (aC f ma mb):=by
 intro hK;subst hK;refine(Zo ho (ha rfl) (hb rfl)).imp ?_
 rintro σ H Q ⟨p,S,ρ,s,e,h⟩
 exact cR s e h λq H1 a x S1 st s1 e1 r1 h1=>cR s1 e1 h1 λq2 H2 b y S2 st2 s2 e2 r2 h2=>uF hf s2 (st2.repA r1) r2 h2
theorem aa4{op:UnaryOp}{r:V->Hp->VK->Prop}{f:PV->BB}(ho:xM X (unaryOp op) r)(hf:tO X.K r f)(ha:aZ K cl E X a ma):aZ K cl E X (.UnaryOp op a pos) (bK f ma):=by
 intro hK;subst hK;refine(aaH ho (ha rfl)).imp ?_
 rintro σ H Q ⟨p,S,ρ,s,e,h⟩
 exact cR s e h λq H1 a x S1 st s1 e1 r1 h1=>uG hf s1 r1 h1
theorem pR{op:kr}{r:R2}{f:PV->PV->BB}(ho:dX X (compareOp op) r)(hf:fZ X.K r f)(ha:aZ K cl E X a ma)(hb:aZ K cl E X b mb)(hm:behindInMarks op b=false):aZ K cl E X (.Compare a [op] [b] pos) (aC f ma mb):=by
 intro hK;subst hK;refine(Qz ho (ha rfl) (hb rfl) hm).imp ?_
 rintro σ H Q ⟨p,S,ρ,s,e,h⟩
 exact cR s e h λq H1 a x S1 st s1 e1 r1 h1=>cR s1 e1 h1 λq2 H2 b y S2 st2 s2 e2 r2 h2=>uF hf s2 (st2.repA r1) r2 h2
theorem Ip{p:Ph}{H:Hp}{v:AV}{x:V}(r:cU K p H v x){b:Bool}(e:v=.pv (.bl b)):x=.bl b:=by
 subst e;unfold cU aT at r;exact r
theorem Ni{p:Ph}{S:aG}{H:Hp}{v:AV}{x:V}{Q:Bool->Hp->Prop}(s:aY K p S H)(r:cU K p H v x)
  (h:cC K cl RB p H (kK v S) Q E):∃k,x=.bl k/\Q k H:=by
 cases v with
 |ref k=>exact h.elim
 |pv v=>
  cases v with
  |bl b=>exact⟨b,Ip r rfl,cC.ret (R:=RB) h s rfl⟩
  |_=>exact h.elim
theorem pL{op:kr}{r:R2}{f:PV->PV->BB}(ho:dX X (compareOp op) r)(hf:fZ X.K r f)(ha:aZ K cl E X a ma)(hb:aZ K cl E X b mb)(hm:behindInMarks op b=false):fU K cl E X (.Compare a [op] [b] pos) (bH (aC f ma mb)):=by
 intro hK;subst hK;refine(K7 ho (ha rfl) (hb rfl) hm).imp ?_
 rintro σ H Q ⟨p,S,ρ,s,e,h⟩
 have z:tP X.K cl E (cU X.K) (aC f ma mb) σ H λx H'=>∃k,x=.bl k/\Q k H':=cR s e h λq H1 a x S1 st s1 e1 r1 h1=>Ni s1 r1 h1;obtain⟨p',S',ρ',s',e',h'⟩:=z;exact cR s' e' h' λq H1 a x S1 st s1 e1 r1 h1=>cR s1 e1 h1 λq2 H2 b y S2 st2 s2 e2 r2 h2=>uF hf s2 (st2.repA r1) r2 h2
theorem D6(ha:aZ K cl E X a ma)(he:∀whole,isTrue a X.env whole=(do let v <-whole;standAt a.pos;holding [v] (truthy v)):=by intro _;rfl):fU K cl E X a (bH ma):=by
 intro hK;subst hK;refine(U7 (ha rfl) he).imp ?_
 rintro σ H Q ⟨p,S,ρ,s,e,h⟩
 exact cR s e h λq H1 a x S1 st s1 e1 r1 h1=>Ni s1 r1 h1
theorem Tz(ha:fU K cl E X a mt):fU K cl E X (.UnaryOp .Not a pos) (sV mt):=by
 intro hK;subst hK;refine(S5 (ha rfl)).imp ?_
 rintro σ H Q ⟨p,S,ρ,s,e,h⟩
 exact cR s e h λq H1 a x S1 st s1 e1 r1 h1=>by
  cases r1;exact cC.ret (R:=RB) h1 s1 rfl
theorem Ry(ha:fU K cl E X a mt):jI K cl E X (.BoolOp .And [a] pos) mt:=λhK=>K8 (ha hK)
theorem D9(ha:fU K cl E X a mt):jI K cl E X (.BoolOp .Or [a] pos) mt:=λhK=>N4 (ha hK)
theorem jI.pt(h:jI K cl E X a mt):fU K cl E X a mt:=λhK=>PW.pt (h hK)
theorem K5{gI:List ag}(ha:fU K cl E X a mt)(hb:jI K cl E X (.BoolOp .And (b::gI) pos) nt):jI K cl E X (.BoolOp .And (a::b::gI) pos) (iM mt nt):=by
 intro hK;subst hK;refine PW.imp (N6 (ha rfl) (hb rfl)) ?_
 rintro σ H Q ⟨p,S,ρ,s,e,h⟩
 refine cR s e h λq H1 a x S1 st s1 e1 r1 h1=>?_;cases r1;cases a with
 |true=>exact⟨q,S1,ρ,s1,e1,h1⟩
 |false=>exact cC.ret (R:=RB) h1 s1 rfl
theorem P9{gI:List ag}(ha:fU K cl E X a mt)(hb:jI K cl E X (.BoolOp .Or (b::gI) pos) nt):jI K cl E X (.BoolOp .Or (a::b::gI) pos) (qM mt nt):=by
 intro hK;subst hK;refine PW.imp (aaZ (ha rfl) (hb rfl)) ?_
 rintro σ H Q ⟨p,S,ρ,s,e,h⟩
 refine cR s e h λq H1 a x S1 st s1 e1 r1 h1=>?_;cases r1;cases a with
 |true=>exact cC.ret (R:=RB) h1 s1 rfl
 |false=>exact⟨q,S1,ρ,s1,e1,h1⟩
theorem O9{gI:List ag}(ha:aZ K cl E X a ma)(hb:aZ K cl E X (.BoolOp .And (b::gI) pos) mb):aZ K cl E X (.BoolOp .And (a::b::gI) pos) (wH ma mb):=by
 intro hK;subst hK;refine(Jo (ha rfl) (hb rfl)).imp ?_
 rintro σ H Q ⟨p,S,ρ,s,e,h⟩
 refine cR s e h λq H1 a x S1 st s1 e1 r1 h1=>?_;cases a with
 |ref k=>exact h1.elim
 |pv v=>
  cases v with
  |bl b=>
   refine⟨b,Ip r1 rfl,?_⟩;cases b with
   |true=>exact⟨q,S1,ρ,s1,e1,h1⟩
   |false=>exact cC.ret (R:=cU X.K) h1 s1 (by show aT X.K q.c H1 _ _;unfold aT;rfl)
  |_=>exact h1.elim
theorem O2(ha:aZ K cl E X a ma):aZ K cl E X (.UnaryOp .Not a pos) (bK sQ ma):=by
 intro hK;subst hK;refine(Im (ha rfl)).imp ?_
 rintro σ H Q ⟨p,S,ρ,s,e,h⟩
 refine cR s e h λq H1 a x S1 st s1 e1 r1 h1=>?_;refine uG (r:=λx H Q=>∃c,x=.bl c/\Q (.bl (!c)) H) (f:=sQ) (λ{p S H a c x Q} s r e k=>?_) s1 r1 h1;cases a with
 |bl b=>
  cases e;exact⟨b,r.bl,k H _ (dH.refl H) (by unfold aT;rfl)⟩
 |_=>cases e
theorem Xl:eX K cl E X [] aD:=λ_=>(PA.imp kR λσ H Q ⟨p,S,ρ,s,e,h⟩=>cC.ret (R:=gH K) h s .nil)
theorem uN(ha:aZ K cl E X e m)(hr:eX K cl E X es ms)(hs:starEach (e::es) X.env=(false,eval e X.env)::starEach es X.env:=by rfl):eX K cl E X (e::es) (aB m ms):=by
 intro hK;subst hK;refine PA.imp (gX (ha rfl) (hr rfl) hs) ?_
 rintro σ H Q ⟨p,S,ρ,s,e,h⟩
 exact cR s e h λq H1 a x S1 st s1 e1 r1 h1=>cR s1 e1 h1 λq2 H2 b y S2 st2 s2 e2 r2 h2=>cC.ret (R:=gH X.K) h2 s2 (.cons (st2.repA r1) r2)
theorem lH{p:Ph}{S:aG}{H:Hp}{vs:BA}{xs:List V}{t:Addr}(s:aY K p S H)(r:aU K p.c H vs xs)(z:xs.length<=sizeLine)(ht:H t=none):aT K p.c (bA H t (.tup xs)) (.tup vs) (.ref t):=by
 unfold aT;exact⟨t,xs,rfl,dA.of fR,z,(s.same (fS ht)).reps r⟩
theorem pN{p:Ph}{S:aG}{H:Hp}{vs:BA}{xs:List V}{t:Addr}(s:aY K p S H)(r:aU K p.c H vs xs)(z:xs.length<=sizeLine)(ht:H t=none):aT K p.c (bA H t (.lst xs)) (.lst vs) (.ref t):=by
 unfold aT;refine⟨t,xs,rfl,.inl ⟨fR,λc=>?_⟩,z,(s.same (fS ht)).reps r⟩;obtain⟨o,e,_⟩:=s.mu t c;rw[ht]at e;cases e
theorem iQ:sizeLine=16777216:=kw
theorem R1{x1}(h:eX K cl E X es ms):aZ K cl E X (.Tuple es x1 pos) (mN dL ms):=by
 intro hK;subst hK;refine(Hb (h rfl)).imp ?_
 rintro σ H Q ⟨p,S,ρ,s,e,h⟩
 refine cR s e h λq H1 as xs S1 st s1 e1 r1 h1=>?_;refine yZ (r:=λxs H Q=>xs.length<=sizeLine/\∀t,H t=none->Q (.ref t) (bA H t (.tup xs))) (f:=dL) (λ{p S H as c xs Q} s r e k=>?_) s1 r1 h1;unfold dL at e;split at e
 .rename_i hl
  cases e;rw[r.length,<-iQ]at hl;exact⟨hl,λt ht=>k _ _ (fS ht) (lH s r hl ht)⟩
 .cases e
theorem Q6(h:eX K cl E X es ms):aZ K cl E X (.List es pos) (mN eC ms):=by
 intro hK;subst hK;refine(Bb (h rfl)).imp ?_
 rintro σ H Q ⟨p,S,ρ,s,e,h⟩
 refine cR s e h λq H1 as xs S1 st s1 e1 r1 h1=>?_;refine yZ (r:=λxs H Q=>xs.length<=sizeLine/\∀t,H t=none->Q (.ref t) (bA H t (.lst xs))) (f:=eC) (λ{p S H as c xs Q} s r e k=>?_) s1 r1 h1;unfold eC at e;split at e
 .rename_i hl
  cases e;rw[r.length,<-iQ]at hl;exact⟨hl,λt ht=>k _ _ (fS ht) (pN s r hl ht)⟩
 .cases e
end
noncomputable section
open PySem PySem.Spec PyProof.Rows Bn
def dE:MS:=λρ S=>.nx ρ S
def aI(a b:MS):MS:=λρ S=>match a ρ S with
 |.nx ρ1 S1=>b ρ1 S1
 |r=>r
def dS(m:ME):MS:=λρ S=>cN.of (m ρ S) λ_ S1=>.nx ρ S1
def bF(m:ME):MS:=λρ S=>cN.of (m ρ S) λv S1=>.rt v S1
def aao:MS:=λ_ S=>.rt (.pv .non) S
def cK(c:MT)(a b:MS):MS:=λρ S=>cN.of (c ρ S) λt S1=>if t=true then a ρ S1 else b ρ S1
def aP(i:Nat)(m:ME):MS:=λρ S=>cN.of (m ρ S) λv S1=>.nx (ρ.set i (some v)) S1
def sU(i j:Nat)(m:MA):MS:=λρ S=>cN.of (m ρ S) λvs S1=>match vs with
 |[v,w]=>.nx ((ρ.set i (some v)).set j (some w)) S1
 |_=>.fail
abbrev GM:=PV->bP->Option bP
abbrev nJ:=BA->bP->Option bP
def gN(i:Nat):GM:=λv ρ=>some (ρ.set i (some (.pv v)))
def fG:nJ:=λvs ρ=>match vs with
 |[]=>some ρ
 |_=>none
def dM(g:GM)(gs:nJ):nJ:=λvs ρ=>match vs with
 |[]=>none
 |v::r=>match g v ρ with
  |some ρ1=>gs r ρ1
  |none=>none
def gT(n:Nat)(gs:nJ):GM:=λv ρ=>match v with
 |.tup vs=>if vs.length=n then gs vs ρ else none
 |_=>none
abbrev Gd:=List (Nat×BA)
def gA(G:Gd)(S:aG):Prop:=∀g∈G,S[g.1]?=some (.lst g.2)
theorem gL(S:aG):gA [] S:=λ_ h=>nomatch h
abbrev MI:=bP->aG->bQ (BA×Gd)
open Classical in
def cJ(G:Gd)(g:GM)(mb:MS):BA->bP->aG->cN
 |[],ρ,S=>if gA G S then .nx ρ S else .fail
 |x::r,ρ,S=>if gA G S then(match g x ρ with
  |none=>.fail
  |some ρ1=>match mb ρ1 S with
   |.nx ρ2 S2=>cJ G g mb r ρ2 S2
   |.ct ρ2 S2=>cJ G g mb r ρ2 S2
   |.bk ρ2 S2=>.nx ρ2 S2
   |.rt v S2=>.rt v S2
   |.exc n S2=>.exc n S2
   |.fail=>.fail)else .fail
def bI(mi:MI)(g:GM)(mb:MS):MS:=λρ S=>cN.of (mi ρ S) λxs S1=>cJ xs.2 g mb xs.1 ρ S1
theorem fF{g:GM}{mb:MS}{ρ:bP}{S:aG}:cJ [] g mb [] ρ S=.nx ρ S:=by
 unfold cJ;rw[if_pos (gL S)]
theorem dY{g:GM}{mb:MS}{x:PV}{r:BA}{ρ:bP}{S:aG}:cJ [] g mb (x::r) ρ S=(match g x ρ with
  |none=>.fail
  |some ρ1=>match mb ρ1 S with
   |.nx ρ2 S2=>cJ [] g mb r ρ2 S2
   |.ct ρ2 S2=>cJ [] g mb r ρ2 S2
   |.bk ρ2 S2=>.nx ρ2 S2
   |.rt v S2=>.rt v S2
   |.exc n S2=>.exc n S2
   |.fail=>.fail):=by
 rw[cJ,if_pos (gL S)]
def eA(c:MT)(mb:MS):Nat->bP->aG->cN
 |0,_,_=>.fail
 |n+1,ρ,S=>cN.of (c ρ S) λt S1=>if t=true then(match mb ρ S1 with
   |.nx ρ2 S2=>eA c mb n ρ2 S2
   |.ct ρ2 S2=>eA c mb n ρ2 S2
   |.bk ρ2 S2=>.nx ρ2 S2
   |.rt v S2=>.rt v S2
   |.exc n S2=>.exc n S2
   |.fail=>.fail)else .nx ρ S1
open Classical in
def mQ(c:MT)(mb:MS):MS:=λρ S=>if h:∃n,eA c mb n ρ S≠.fail then eA c mb h.choose ρ S else .fail
theorem cN.of_ok{α:Type}{r:bQ α}{k k':α->aG->cN}(h:∀a S,k a S≠.fail->k' a S=k a S)(n:cN.of r k≠.fail):cN.of r k'=cN.of r k:=by
 cases r with
 |ok a S=>exact h a S n
 |exc=>rfl
 |fail=>rfl
theorem xY{c:MT}{mb:MS}:∀{n:Nat}{ρ:bP}{S:aG},eA c mb n ρ S≠.fail->eA c mb (n+1) ρ S=eA c mb n ρ S
 |0,_,_,h=>absurd rfl h
 |n+1,ρ,S,h=>by
  unfold eA at h;rw[eA]
  conv=>rhs;rw[eA]
  refine cN.of_ok (λt S1 h1=>?_) h
  by_cases ht:t=true
  .simp only[if_pos ht]at h1⊢
   cases z:mb ρ S1 with
   |nx ρ2 S2=>rw[z]at h1;exact xY h1
   |ct ρ2 S2=>rw[z]at h1;exact xY h1
   |_=>rfl
  .simp only[if_neg ht]at h1⊢
theorem yN{c:MT}{mb:MS}{n:Nat}{ρ:bP}{S:aG}(h:eA c mb n ρ S≠.fail):∀k,eA c mb (n+k) ρ S=eA c mb n ρ S
 |0=>rfl
 |k+1=>by
  have ih:=yN h k;rw[<-Nat.add_assoc,xY (by rw[ih];exact h),ih]
theorem yY{c:MT}{mb:MS}{n:Nat}{ρ:bP}{S:aG}{r:cN}(e:eA c mb n ρ S=r)(h:r≠.fail):mQ c mb ρ S=r:=by
 have h':∃n,eA c mb n ρ S≠.fail:=⟨n,by rw[e];exact h⟩;unfold mQ;rw[dif_pos h'];have e2:=h'.choose_spec;rcases Nat.le_total n h'.choose with l |l
 .obtain⟨k,q⟩:=k7 l
  rw[q,yN (by rw[e];exact h),e]
 .obtain⟨k,q⟩:=k7 l
  have z:=yN e2 k;rw[<-q,e]at z;exact z.symm
section
variable{K:ae}{cl:Str->Addr}{E:XK}{X:Cx}{a b c e tg:ag}{es:List ag}{m:ME}{mt:MT}{ms:MA}{b1 b2:MS}{st:Stmt}{sts sts':List Stmt}{pos:ai}
theorem dJ.set{p:Ph}{H:Hp}{ρ:bP}{σ:St}{v:AV}{x:V}(h:dJ K p H ρ σ)(r:cU K p H v x)(i:Nat):dJ K p H (ρ.set i (some v)) (σ.set i (some x)):=by
 refine⟨by rw[fu,fu,h.len],λj u e=>?_⟩
 by_cases q:i=j
 .subst q
  by_cases l:i<ρ.length
  .rw[gf l]at e
   cases e;exact⟨x,gf (by rw[<-h.len];exact l),r⟩
  .rw[k8 (by rw[fu];omega)]at e
   cases e
 .rw[gm q]at e⊢
  exact h.at_ j u e
theorem Ax:fY K cl E X [] dE:=λ_=>fO.imp Uz λD σ H ⟨p,S,ρ,s,e,h⟩=>h p H σ s.step s e
theorem eH.nxD{p:Ph}{H:Hp}{ρ:bP}{S:aG}{D:kW}(h:eH K cl p H (.nx ρ S) D E){σ:St}(s:aY K p S H)(e:dJ K p H ρ σ):D.nx σ H:=h p H σ s.step s e
theorem yX(h1:eT K cl E X st b1)(h2:fY K cl E X sts b2):fY K cl E X (st::sts) (aI b1 b2):=by
 intro hK;subst hK;refine fO.imp (Rx (h1 rfl) (h2 rfl)) λD σ H ⟨p,S,ρ,s,e,h⟩=>⟨p,S,ρ,s,e,?_⟩;unfold aI at h;cases z:b1 ρ S with
 |nx ρ1 S1=>
  rw[z]at h;exact λq H' σ' stp sm ev=>⟨q,S1,ρ1,sm,ev,eH.mono (r:=b2 ρ1 S1) h stp⟩
 |bk ρ1 S1=>rw[z]at h;exact h
 |ct ρ1 S1=>rw[z]at h;exact h
 |rt v S1=>rw[z]at h;exact h
 |exc n S1=>rw[z]at h;exact h
 |fail=>rw[z]at h;exact h
theorem Zi(h1:eT K cl E X st b1):fY K cl E X [st] b1:=λhK=>Da (h1 hK)
theorem Px(he:aZ K cl E X e m)(hs:swapsWith e none pos.line X.env=pure false:=by rfl):eT K cl E X (.Expr e pos) (dS m):=by
 intro hK;subst hK;refine PS.imp (B3 (he rfl) hs) ?_
 rintro D σ H ⟨p,S,ρ,s,e,h⟩
 exact jN s e h λq H' a b S' stp sm ev r k=>eH.nxD k sm ev
theorem Zk(he:aZ K cl E X e m):eT K cl E X (.Return (some e) pos) (bF m):=by
 intro hK;subst hK;refine PS.imp (Q1 (he rfl)) ?_
 rintro D σ H ⟨p,S,ρ,s,e,h⟩
 exact jN s e h λq H' a b S' stp sm ev r k=>k q H' b sm.step sm r
theorem W8(hc:fU K cl E X c mt)(ha:fY K cl E X sts b1)(hb:fY K cl E X sts' b2):eT K cl E X (.If c sts sts' pos) (cK mt b1 b2):=by
 intro hK;subst hK;refine PS.imp (aaM (hc rfl) (ha rfl) (hb rfl)) ?_
 rintro D σ H ⟨p,S,ρ,s,e,h⟩
 refine jN s e h λq H' a b S' stp sm ev r k=>?_;cases r;cases a with
 |true=>exact⟨q,S',ρ,sm,ev,k⟩
 |false=>exact⟨q,S',ρ,sm,ev,k⟩
theorem Sa{i:Nat}{x:Str}{pos':ai}(hN:X.N.Nodup)(hi:X.N[i]?=some x)(hx:iW X.env.scope x)(he:aZ K cl E X e m)(hs:swapsWith e (some (.Name x pos')) pos.line X.env=pure false:=by rfl)
  (hf:X.fn x=true\/X.env.scope.names.lookup x=some .local:=by first |exact .inl rfl |exact .inr rfl |assumption):eT K cl E X (.Assign [.Name x pos'] e pos) (aP i m):=by
 intro hK;subst hK;refine PS.imp (Km hN hi hx (he rfl) hs hf) ?_
 rintro D σ H ⟨p,S,ρ,s,e,h⟩
 exact jN s e h λq H' a b S' stp sm ev r k=>eH.nxD k sm (ev.set r i)
theorem J6{i j:Nat}{x y:Str}{px py pt:ai}{kt k2 pt2}(hc:X.calm=true)(hN:X.N.Nodup)(hi:X.N[i]?=some x)(hj:X.N[j]?=some y)(hij:i≠j)
  (hx:X.env.scope.names.lookup x=some .local)(hy:X.env.scope.names.lookup y=some .local)(ha:eX K cl E X [a,b] ms)
  (hw:swappedStores [.Tuple [.Name x px,.Name y py] kt pt] (.Tuple [a,b] k2 pt2) X.env=pure (some [x,y]))
  (hs:swapsWithSole [.Tuple [.Name x px,.Name y py] kt pt] (.Tuple [a,b] k2 pt2) pos.line X.env=pure false:=by rfl):
  eT K cl E X (.Assign [.Tuple [.Name x px,.Name y py] kt pt] (.Tuple [a,b] k2 pt2) pos) (sU i j ms):=by
 intro hK;subst hK;refine PS.imp (W7 hc hN hi hj hij hx hy (ha rfl) hw hs) ?_
 rintro D σ H ⟨p,S,ρ,s,e,h⟩
 refine jN s e h λq H' vs xs S' stp sm ev r k=>?_;cases r with
 |nil=>exact k.elim
 |cons r1 rr=>
  cases rr with
  |nil=>exact k.elim
  |cons r2 rs=>
   cases rs with
   |nil=>exact⟨_,_,rfl,eH.nxD k sm ((ev.set r1 i).set r2 j)⟩
   |cons _ _=>exact k.elim
def gP(K:ae)(g:GM):TG:=λx σ H Q=>∃p S ρ v ρ',aY K p S H/\dJ K p H ρ σ/\aT K p.c H v x/\g v ρ=some ρ'/\∀σ',dJ K p H ρ' σ'->Q σ' H
def gPs(K:ae)(g:nJ):lQ:=λxs σ H Q=>∃p S ρ vs ρ',aY K p S H/\dJ K p H ρ σ/\aU K p.c H vs xs/\g vs ρ=some ρ'/\∀σ',dJ K p H ρ' σ'->Q σ' H
variable(K X)
def lU(tg:ag)(g:GM):Prop:=X.K=K->PG X tg (gP K g)
def qG(ts:List ag)(g:nJ):Prop:=X.K=K->kX X ts (gPs K g)
variable{K X}
theorem PG.imp{tg:ag}{t t':TG}(h:PG X tg t)(i:∀x σ H Q,t' x σ H Q->t x σ H Q):PG X tg t':=λBE s σ H v u Q I r q=>h BE s σ H v u Q I r (i v σ H Q q)
theorem kX.imp{ts:List ag}{t t':lQ}(h:kX X ts t)(i:∀x σ H Q,t' x σ H Q->t x σ H Q):kX X ts t':=λBE s σ H v u Q I r q=>h BE s σ H v u Q I r (i v σ H Q q)
theorem Uw{i:Nat}{x:Str}(hN:X.N.Nodup)(hi:X.N[i]?=some x)(hx:iW X.env.scope x)(hf:X.fn x=true\/X.env.scope.names.lookup x=some .local:=by first |exact .inl rfl |exact .inr rfl |assumption):lU K X (.Name x pos) (gN i):=
 λ_=>PG.imp (Tj hN hi hx hf) λx σ H Q ⟨p,S,ρ,v,ρ',s,ev,r,g,k⟩=>by
  cases g;exact k _ (ev.set (v:=.pv v) r i)
theorem Nw:qG K X [] fG:=λ_=>kX.imp F7 λxs σ H Q ⟨p,S,ρ,vs,ρ',s,ev,r,g,k⟩=>by
 cases vs with
 |nil=>
  cases g;unfold aU at r;exact⟨r,k _ ev⟩
 |cons _ _=>cases g
theorem Tv{g:GM}{gs:nJ}(h1:lU K X e g)(h2:qG K X es gs)(hs:(assignEach (e::es) X.env).map (·.2)=assign e X.env::(assignEach es X.env).map (·.2):=by rfl):qG K X (e::es) (dM g gs):=by
 intro hK;subst hK;refine kX.imp (Lx (h1 rfl) (h2 rfl) hs) ?_
 rintro xs σ H Q ⟨p,S,ρ,vs,ρ',s,ev,r,g1,k⟩
 cases vs with
 |nil=>cases g1
 |cons v vr=>
  unfold aU at r;obtain⟨x,xr,rfl,r1,r2⟩:=r;unfold dM at g1;cases z:g v ρ with
  |none=>simp only[z]at g1;cases g1
  |some ρ1=>
   simp only[z]at g1;exact⟨x,xr,rfl,p,S,ρ,v,ρ1,s,ev,r1,z,λσ' ev'=>⟨p,S,ρ1,vr,ρ',s,ev',r2,g1,k⟩⟩
theorem B5{k:Nat}{gs:nJ}{n:Nat}(hc:X.calm=true)(h:qG K X es gs)(hn:(assignEach es X.env).length=n:=by rfl)(hst:(assignEach es X.env).findIdx? (·.1)=none:=by rfl):lU K X (.Tuple es k pos) (gT n gs):=by
 intro hK;subst hK;refine PG.imp (Q2 hc (h rfl) hn hst) ?_
 rintro x σ H Q ⟨p,S,ρ,v,ρ',s,ev,r,g1,k⟩
 cases v with
 |tup vs=>
  unfold aT at r;obtain⟨a,xs,rfl,t,z,r⟩:=r;unfold gT at g1;dsimp only at g1;split at g1
  .rename_i hl
   exact⟨a,xs,rfl,t,r.length.symm.trans hl,p,S,ρ,vs,ρ',s,ev,r,g1,k⟩
  .cases g1
 |_=>cases g1
def fQ(K:ae)(p:Ph)(H:Hp)(xs:BA×Gd)(J:It):Prop:=xs.1.length<=sizeLine/\∀q H1 S1,bR p H q H1->aY K q S1 H1->gA xs.2 S1->
 (∀(i:Nat)(v:PV),xs.1[i]?=some v->J.go i H1/\∀x H2,J.yld i H1 x H2->dH H1 H2/\aT K q.c H2 v x)/\J.stop xs.1.length H1
theorem fQ.step{p q:Ph}{H H':Hp}{xs:BA×Gd}{J:It}(h:fQ K p H xs J)(s:bR p H q H'):fQ K q H' xs J:=⟨h.1,λr H1 S1 t=>h.2 r H1 S1 (s.trans t)⟩
variable(K cl E X)
def PIp(tg iter:ag)(m:MI):Prop:=X.K=K->PI X tg iter (tP K cl E (fQ K) m)
variable{K cl E X}
theorem PI.imp{tg iter:ag}{t t':TI}(h:PI X tg iter t)(i:∀σ H Q,t' σ H Q->t σ H Q):PI X tg iter t':=λBE s σ H R I q=>h BE s σ H R I (i σ H R q)
def abr(K:ae)(tl:TE):TI:=λσ H R=>tl σ H λx H1=>∃a,x=.ref a/\(((∃xs,bU K H1 a xs)/\R (xK K a) H1)\/((∃xs,dA K H1 a xs)/\R (Fd K a) H1))
theorem Wm{l:ag}{tl:TE}(hl:PE X l tl):PI X tg l (abr X.K tl):=by
 intro BE s σ H R I h;refine bJ (hl BE s σ H _ I h) ?_
 rintro v s1 ⟨x,H1,I1,r1,q1⟩
 obtain⟨a,e,q⟩:=q1;subst e;cases r1;rcases q with⟨⟨xs,hq⟩,q⟩|⟨⟨xs,hq⟩,q⟩
 .obtain⟨its,rv,p,hz⟩:=I1.list hq
  refine xn p.isList ?_;refine⟨s1.heap.objs.size,[s1.heap.objs.size],_,_,H1,rfl,I1.kept (t':=s1.toks) λb o e=>az _ e,Uu a _,⟨_,du _ rfl,rfl,rfl⟩,λb hb=>?_,q⟩;have e:b=s1.heap.objs.size:=by simpa using hb
  subst e;exact I1.fpOk (ar _) (I1.hok.fresh (ar _))
 .obtain⟨its,rv,p,hz⟩:=I1.tuple hq
  refine i8 (show s1.heap.IsTuple a its.toArray from p) ?_;refine⟨s1.heap.objs.size,[s1.heap.objs.size],_,_,H1,rfl,I1.kept (t':=s1.toks) λb o e=>az _ e,At a _,⟨_,du _ rfl,rfl,rfl⟩,λb hb=>?_,q⟩;have e:b=s1.heap.objs.size:=by simpa using hb
  subst e;exact I1.fpOk (ar _) (I1.hok.fresh (ar _))
def bT:AV->aG->bQ (BA×Gd)
 |.pv (.lst xs),S=>.ok (xs,[]) S
 |.pv (.tup xs),S=>.ok (xs,[]) S
 |.ref k,S=>match S[k]? with
  |some (.lst xs)=>.ok (xs,[(k,xs)]) S
  |_=>.fail
 |_,_=>.fail
def bD(m:ME):MI:=λρ S=>(m ρ S).bind bT
theorem M8{p:Ph}{H:Hp}{xs:BA}{a:Addr}{vs:List V}(l:jZ K p.c H a vs)(z:vs.length<=sizeLine)(r:aU K p.c H xs vs):fQ K p H (xs,[]) (xK K a):=by
 refine⟨by rw[r.length];exact z,λq H1 S1 st _ _=>⟨λi v e=>?_,?_⟩⟩
 .have l1:=(st.lat l).sq
  obtain⟨x,e1,r1⟩:=(st.reps r).get e;refine⟨⟨vs,x,l1,e1⟩,λy H2 hy=>?_⟩;obtain⟨rfl,hy⟩:=hy;have:=(hy vs l1).symm.trans e1;cases this;exact⟨dH.refl _,r1⟩
 .exact⟨vs,(st.lat l).sq,by rw[r.length];exact ar _⟩
theorem X7{p:Ph}{H:Hp}{xs:BA}{a:Addr}{vs:List V}(l:dA K H a vs)(z:vs.length<=sizeLine)(r:aU K p.c H xs vs):fQ K p H (xs,[]) (Fd K a):=by
 refine⟨by rw[r.length];exact z,λq H1 S1 st _ _=>⟨λi v e=>?_,?_⟩⟩
 .have l1:=st.tup l
  obtain⟨x,e1,r1⟩:=(st.reps r).get e;refine⟨⟨vs,x,l1,e1⟩,λy H2 hy=>?_⟩;obtain⟨rfl,hy⟩:=hy;have:=(hy vs l1).symm.trans e1;cases this;exact⟨dH.refl _,r1⟩
 .exact⟨vs,st.tup l,by rw[r.length];exact ar _⟩
theorem P7{p:Ph}{H:Hp}{xs:BA}{a:Addr}{k:Nat}{n:xs.length<=sizeLine}(hf:p.f[k]?=some a):fQ K p H (xs,[(k,xs)]) (xK K a):=by
 refine⟨n,λq H1 S1 st sm g=>?_⟩;have e0:S1[k]?=some (.lst xs):=g (k,xs) bo;obtain⟨vs,h1,l1,r1⟩:=sm.obj k a _ (st.at_ hf) e0;refine⟨λi v e=>?_,?_⟩
 .obtain⟨x,e1,r2⟩:=r1.get e
  refine⟨⟨vs,x,bU.of h1,e1⟩,λy H2 hy=>?_⟩;obtain⟨rfl,hy⟩:=hy;have:=(hy vs (bU.of h1)).symm.trans e1;cases this;exact⟨dH.refl _,r2⟩
 .exact⟨vs,bU.of h1,by rw[r1.length];exact ar _⟩
theorem F9(h:aZ K cl E X e m):PIp K cl E X tg e (bD m):=by
 intro hK;subst hK;refine PI.imp (Wm (h rfl)) ?_
 rintro σ H R ⟨p,S,ρ,s,ev,h⟩
 refine cR s ev h λq H' v x S' stp sm ev r k=>?_;cases v with
 |ref j=>
  obtain⟨a,e,rfl⟩:=r;unfold bT at k;dsimp only at k;cases z:S'[j]? with
  |none=>rw[z]at k;exact k.elim
  |some o=>
   cases o with
   |lst xs=>
    rw[z]at k;obtain⟨vs,h1,l1,r1⟩:=sm.obj j a _ e z;exact⟨a,rfl,.inl ⟨⟨vs,bU.of h1⟩,cC.ret (R:=fQ X.K) k sm (P7 (n:=by rw[r1.length];exact l1) e)⟩⟩
   |lol _=>rw[z]at k;exact k.elim
   |dic _ _=>rw[z]at k;exact k.elim
   |dol _ _=>rw[z]at k;exact k.elim
 |pv v=>
  cases v with
  |lst xs=>
   have r:aT X.K q.c H' (.lst xs) x:=r;unfold aT at r;obtain⟨a,vs,rfl,l,z,r⟩:=r;exact⟨a,rfl,.inl ⟨⟨vs,l.sq⟩,cC.ret (R:=fQ X.K) k sm (M8 l z r)⟩⟩
  |tup xs=>
   have r:aT X.K q.c H' (.tup xs) x:=r;unfold aT at r;obtain⟨a,vs,rfl,l,z,r⟩:=r;exact⟨a,rfl,.inr ⟨⟨vs,l⟩,cC.ret (R:=fQ X.K) k sm (X7 l z r)⟩⟩
  |_=>exact k.elim
def cS(lo:Int)(n:Nat):BA:=(ak n).map λi=>.int (lo+(i:Nat))
def jD:BD->aG->bQ (BA×Gd)
 |[.pv (.int j)],S1=>@ite _ (j<=16777216/\-16777216<=j) (nr _) (.ok (cS 0 j.toNat,[]) S1) .fail
 |_,_=>.fail
def cM(ms:MA):MI:=λρ S=>(ms ρ S).bind jD
def qD:BD->aG->bQ (BA×Gd)
 |[.pv (.int i),.pv (.int j)],S1=>@ite _ ((-4611686018427387904<=i/\i<4611686018427387904/\-4611686018427387904<=j/\j<4611686018427387904)/\j-i<=16777216) (nr _) (.ok (cS i (j-i).toNat,[]) S1) .fail
 |_,_=>.fail
def iR(ms:MA):MI:=λρ S=>(ms ρ S).bind qD
theorem Ym{p:Ph}{H:Hp}{lo:Int}{n:Nat}(h:n<=sizeLine):fQ K p H (cS lo n,[]) (tI lo n):=by
 have hl:(cS lo n).length=n:=by unfold cS;rw[aj,dq]
 refine⟨by show(cS lo n).length<=_;rw[hl];exact h,λq H1 S1 st _ _=>⟨λi v e=>?_,?_⟩⟩
 .have hi:i<n:=by
   have:=(cq.mp (show(cS lo n)[i]?=some v from e)).1;omega
  refine⟨hi,λx H2 hy=>?_⟩;obtain⟨rfl,rfl⟩:=hy;have e:(cS lo n)[i]?=some v:=e;unfold cS at e;rw[dj,List.getElem?_range hi]at e;cases e;refine⟨dH.refl _,?_⟩;unfold aT;rfl
 .show n<=(cS lo n).length
  rw[hl];exact ar n
theorem Rt{p:ai}(hg:Gl X "range")(hm:X.mg "range"=none)(ha:eX K cl E X [a] ms)(hs:starEach [a] X.env=[(false,eval a X.env)]:=by rfl):PIp K cl E X tg (.Call (.Name "range" p) [a] [] pos) (cM ms):=by
 intro hK;subst hK;refine PI.imp (Vv hg hm (ha rfl) hs) ?_
 rintro σ H R ⟨p,S,ρ,s,ev,h⟩
 refine cR s ev h λq H' vs xs S' stp sm ev r k=>?_;unfold jD at k;split at k
 .rename_i j
  cases r with
  |cons r1 r2=>
   cases r2;rename_i x;have e:x=.int j:=by
    have r1:aT X.K q.c H' (.int j) x:=r1;unfold aT at r1;exact r1
   subst e;split at k
   .rename_i hj
    have hz:=iQ;exact⟨j,rfl,by omega,by omega,cC.ret (R:=fQ X.K) k sm (Ym (by omega))⟩
   .exact k.elim
 .exact k.elim
theorem Wt{p:ai}(hg:Gl X "range")(hm:X.mg "range"=none)(ha:eX K cl E X [a,b] ms)(hs:starEach [a,b] X.env=[(false,eval a X.env),(false,eval b X.env)]:=by rfl)(hs2:starEach [b] X.env=[(false,eval b X.env)]:=by rfl):PIp K cl E X tg (.Call (.Name "range" p) [a,b] [] pos) (iR ms):=by
 intro hK;subst hK;refine PI.imp (Eu hg hm (ha rfl) hs hs2) ?_
 rintro σ H R ⟨p,S,ρ,s,ev,h⟩
 refine cR s ev h λq H' vs xs S' stp sm ev r k=>?_;unfold qD at k;split at k
 .rename_i i j
  cases r with
  |cons r1 r2=>
   cases r2 with
   |cons r2 r3=>
    cases r3;rename_i x y;have e:x=.int i:=by
     have r1:aT X.K q.c H' (.int i) x:=r1;unfold aT at r1;exact r1
    have e2:y=.int j:=by
     have r1:aT X.K q.c H' (.int j) y:=r2;unfold aT at r1;exact r1
    subst e e2;split at k
    .rename_i hj
     have hz:=iQ;exact⟨i,j,rfl,by omega,cC.ret (R:=fQ X.K) k sm (Ym (by omega))⟩
    .exact k.elim
 .exact k.elim
theorem F3{mi:MI}{g:GM}(hp:qm (model X.prog X.w) X.A X.env X.xe)(hc:X.calm=true)(hi:PIp K cl E X tg e mi)(hg:lU K X tg g)(hb:fY K cl E X sts b1)
  (hs:∀x,foldedSetIterable e X.env x=pure x:=by intro _;rfl):eT K cl E X (.For tg e sts [] pos) (bI mi g b1):=by
 intro hK;subst hK;refine PS.imp (Pn hp hc (hi rfl) (hg rfl) (hb rfl) hs) ?_
 rintro D σ H ⟨p,S,ρ,s,ev,h⟩
 refine jN s ev h λq H' xg J S' stp sm ev it k=>?_;obtain⟨xs,G⟩:=xg;refine⟨λi n σ H=>n=xs.length-i/\i<=xs.length/\∃p S ρ,aY X.K p S H/\dJ X.K p H ρ σ/\fQ X.K p H (xs,G) J/\eH X.K cl p H (cJ G g b1 (xs.drop i) ρ S) D E,⟨xs.length,by simp,je _,q,S',ρ,sm,ev,it,by simpa using k⟩,?_⟩
 rintro i n σ1 H1 ⟨rfl,hi,p1,S1,ρ1,sm1,ev1,it1,k1⟩
 by_cases hlt:i<xs.length
 .have hx:xs[i]?=some xs[i]:=au hlt
  rw[xu hlt]at k1;unfold cJ at k1;split at k1
  .rename_i gk
   obtain⟨g1,y1⟩:=(it1.2 p1 H1 S1 sm1.step sm1 gk).1 i _ hx;cases z:g xs[i] ρ1 with
   |none=>simp only[z]at k1;exact k1.elim
   |some ρ2=>
    simp only[z]at k1;refine .inr ⟨g1,λσ' H'=>i+1<=xs.length/\∃p S ρ,aY X.K p S H'/\dJ X.K p H' ρ σ'/\fQ X.K p H' (xs,G) J/\eH X.K cl p H' (cJ G g b1 (xs.drop (i+1)) ρ S) D E,λσ' H' hN=>⟨xs.length-(i+1),by omega,rfl,hN⟩,λx H2 hy=>?_⟩;obtain⟨same,rx⟩:=y1 x H2 hy;have st2:=sm1.same same;have sm2:=sm1.ofSame same;refine⟨p1,S1,ρ1,xs[i],ρ2,sm2,st2.repE ev1,rx,z,λσ3 ev3=>⟨p1,S1,ρ2,sm2,ev3,?_⟩⟩;have it2:=it1.step st2;cases y:b1 ρ2 S1 with
    |nx ρ4 S4=>
     rw[y]at k1;exact λq5 H5 σ5 st5 sm5 ev5=>⟨hlt,q5,S4,ρ4,sm5,ev5,it2.step st5,eH.mono (r:=cJ G g b1 (xs.drop (i+1)) ρ4 S4) k1 (st2.trans st5)⟩
    |ct ρ4 S4=>
     rw[y]at k1;exact λq5 H5 σ5 st5 sm5 ev5=>⟨hlt,q5,S4,ρ4,sm5,ev5,it2.step st5,eH.mono (r:=cJ G g b1 (xs.drop (i+1)) ρ4 S4) k1 (st2.trans st5)⟩
    |bk ρ4 S4=>rw[y]at k1;exact eH.mono (r:=.nx ρ4 S4) k1 st2
    |rt v S4=>rw[y]at k1;exact eH.mono (r:=.rt v S4) k1 st2
    |exc v S4=>rw[y]at k1;exact eH.mono (r:=.exc v S4) k1 st2
    |fail=>rw[y]at k1;exact k1.elim
  .exact k1.elim
 .have e:i=xs.length:=by omega
  subst e;rw[xw]at k1;unfold cJ at k1;split at k1
  .rename_i gk
   exact .inl ⟨(it1.2 p1 H1 S1 sm1.step sm1 gk).2,eH.nxD k1 sm1 ev1⟩
  .exact k1.elim
theorem Yu(hp:qm (model X.prog X.w) X.A X.env X.xe)(hc:fU K cl E X c mt)(hb:fY K cl E X sts b1):eT K cl E X (.While c sts [] pos) (mQ mt b1):=by
 intro hK;subst hK;refine PS.imp (Dx hp (hc rfl) (hb rfl)) ?_
 rintro D σ H ⟨p,S,ρ,s,ev,h⟩
 unfold mQ at h;split at h
 .rename_i hh
  refine⟨λn σ H=>∃p S ρ,aY X.K p S H/\dJ X.K p H ρ σ/\eH X.K cl p H (eA mt b1 n ρ S) D E,⟨_,p,S,ρ,s,ev,h⟩,?_⟩
  rintro n σ1 H1 ⟨p1,S1,ρ1,sm1,ev1,k1⟩
  cases n with
  |zero=>exact k1.elim
  |succ n=>
   unfold eA at k1;refine jN sm1 ev1 k1 λq H2 t t' S2 stp sm2 ev2 r k2=>?_;cases r;cases t with
   |true=>
    rw[if_pos rfl]at k2⊢;refine⟨λσ' H'=>∃p S ρ,aY X.K p S H'/\dJ X.K p H' ρ σ'/\eH X.K cl p H' (eA mt b1 n ρ S) D E,λσ' H' hN=>⟨n,xx n,hN⟩,q,S2,ρ1,sm2,ev2,?_⟩;cases y:b1 ρ1 S2 with
    |nx ρ4 S4=>
     rw[y]at k2;exact λq5 H5 σ5 st5 sm5 ev5=>⟨q5,S4,ρ4,sm5,ev5,eH.mono (r:=eA mt b1 n ρ4 S4) k2 st5⟩
    |ct ρ4 S4=>
     rw[y]at k2;exact λq5 H5 σ5 st5 sm5 ev5=>⟨q5,S4,ρ4,sm5,ev5,eH.mono (r:=eA mt b1 n ρ4 S4) k2 st5⟩
    |bk ρ4 S4=>rw[y]at k2;exact k2
    |rt v S4=>rw[y]at k2;exact k2
    |exc v S4=>rw[y]at k2;exact k2
    |fail=>rw[y]at k2;exact k2.elim
   |false=>
    rw[if_neg ng]at k2⊢;exact eH.nxD k2 sm2 ev2
 .exact h.elim
end
end
def gZ(n:Nat)(xs:BD):bP:=xs.map some++zo (n-xs.length) none
def jT(n:Nat):AV->aG->bQ AV
 |.pv v,S=>.ok (.pv v) (S.take n)
 |.ref k,S=>if k<n then .ok (.ref k) (S.take n)else match S[k]? with
  |some (.lst xs)=>.ok (.ref n) (S.take n++[.lst xs])
  |some (.dic b kvs)=>.ok (.ref n) (S.take n++[.dic b kvs])
  |_=>.fail
def frz(n:Nat):bQ AV->bQ AV
 |.ok (.ref k) S=>if k<n then .ok (.ref k) S else match S[k]? with
  |some (.lst xs)=>.ok (.pv (.lst xs)) (S.take n)
  |_=>.fail
 |r=>r
def mO(n:Nat):cN->bQ AV
 |.rt v S=>jT n v S
 |.nx _ S=>.ok (.pv .non) (S.take n)
 |.exc e S=>.exc e (S.take n)
 |_=>.fail
def aR(np n:Nat)(b:MS)(xs:BD)(S:aG):bQ AV:=if xs.length=np then mO S.length (b (gZ n xs) S)else .fail
def gF{α:Type}:bQ α->bQ α
 |.ok a S=>.ok a S
 |_=>.fail
abbrev FM:=BD->aG->bQ AV
def iJ(f:FM)(ds:BA)(ms:MA):ME:=λρ S=>(ms ρ S).bind λxs S1=>frz S1.length (f (xs++ds.map .pv) S1)
def aQ(f:FM)(ds:BA)(ms:MA):ME:=λρ S=>(ms ρ S).bind λxs S1=>frz S1.length (gF (f (xs++ds.map .pv) S1))
def pS(f:FM)(ds:BA)(ms:MA):ME:=λρ S=>(ms ρ S).bind λxs S1=>gF (f (xs++ds.map .pv) S1)
def jE(K:ae)(cl:Str->Addr)(f:FM):Sp:=λvs H Q E=>∃p S xs,aY K p S H/\gH K p H xs vs/\cC K cl (cU K) p H (f xs S) Q E
def kH(K:ae)(cl:Str->Addr)(f:FM):Sp:=λvs H Q _=>jE K cl f vs H Q E0
section
variable{K:ae}{cl:Str->Addr}{p q:Ph}{H H':Hp}{S S':aG}
theorem Ue{c c':Addr->Prop}(h:∀a,c a->c' a){a:Addr}{vs:List V}(l:jZ K c' H a vs):jZ K c H a vs:=by
 rcases l with⟨l,n⟩|l |l
 .exact .inl ⟨l,λz=>n (h a z)⟩
 .exact .inr (.inl l)
 .exact .inr (.inr l)
theorem qY{c c':Addr->Prop}(h:∀a,c a->c' a){ps:BA}{vs:List V}(r:aU K c' H ps vs):aU K c H ps vs:=aU.mono (λ_ _ t=>t) (λ_ _ l=>Ue h l) ps vs r
theorem Ft{c c':Addr->Prop}(h:∀a,c a->c' a){v:PV}{x:V}(r:aT K c' H v x):aT K c H v x:=aT.mono (λ_ _ t=>t) (λ_ _ l=>Ue h l) v x r
theorem Os{f g:List Addr}(h:f <+:g):g.take f.length=f:=by
 obtain⟨t,e⟩:=h;rw[<-e,List.take_left]
theorem rF{α:Type}:∀{l:List α}{i j:Nat}{a:α},l.Nodup->l[i]?=some a->l[j]?=some a->i=j
 |[],i,j,a,_,e,_=>by simp at e
 |b::l,0,0,a,_,_,_=>rfl
 |b::l,0,j+1,a,n,e,f=>by
  simp at e f;subst e;exact absurd (gi f) (nh.mp n).1
 |b::l,i+1,0,a,n,e,f=>by
  simp at e f;subst f;exact absurd (gi e) (nh.mp n).1
 |b::l,i+1,j+1,a,n,e,f=>by
  exact congrArg (·+1) (rF (l:=l) (a:=a) (nh.mp n).2 (by simpa using e) (by simpa using f))
theorem aY.cutX(D:Addr->Prop)(s:aY K p S H)(st:bR p H q H')(s':aY K q S' H')(hD:∀b,D b->H b=none)(hq:(∀b,D b->b∈q.f)\/∀k o,S'[k]?=some o->k<S.length->∃xs,o=.lst xs):
  let r:Ph:=⟨p.f,λb=>q.w b/\¬D b,λb=>q.c b/\¬D b⟩
  bR p H r H'/\aY K r (S'.take S.length) H':=by
 intro r;have nD:∀a,p.c a->¬D a:=λa c d=>by
  obtain⟨o,ho,_⟩:=s.mu a c;rw[hD a d]at ho;cases ho
 have le:S.length<=S'.length:=by
  have:=st.pre.length_le;rw[<-s.len,<-s'.len];exact this
 refine⟨⟨s.wc,s.mu,kl,λa h=>⟨st.mw a h,nD a (s.wc a h)⟩,λa h=>⟨st.mono a h,nD a h⟩,λ_ h g=>absurd h g,λa h=>st.nw a h.1,λa h=>st.nc a h.1,st.keep⟩,s.nd,by rw[s.len,ki];omega,λa h=>⟨st.mw a (s.sub a h),nD a (s.wc a (s.sub a h))⟩,λa h=>⟨s'.wc a h.1,h.2⟩,λa h=>s'.mu a h.1,λk a o e1 e2=>?_⟩;have hk:k<S.length:=by
  have:=(cq.mp e1).1;rw[<-s.len];exact this
 have e2':S'[k]?=some o:=by
  rw[ub,if_pos hk]at e2;exact e2
 have z:=s'.obj k a o (st.at_ e1) e2';have shr:∀xs vs,aU K q.c H' xs vs->aU K r.c H' xs vs:=λxs vs=>qY (λb h=>h.1);have sub:∀b,b∉q.f->b∉p.f:=λb n h=>n (st.pre.subset h);rcases hq with hq |hq
 .exact z.mono (λ_ e=>e) (λb w f=>⟨⟨⟨w,λd=>f (hq b d)⟩,sub b f⟩,λ_ e=>e⟩) shr
 .obtain⟨xs,rfl⟩:=hq k o e2' hk
  obtain⟨vs,e,l,g⟩:=z;exact⟨vs,e,l,shr xs vs g⟩
theorem aY.cut(s:aY K p S H)(st:bR p H q H')(s':aY K q S' H'):bR p H ⟨p.f,λb=>q.w b/\¬False,λb=>q.c b/\¬False⟩ H'/\aY K ⟨p.f,λb=>q.w b/\¬False,λb=>q.c b/\¬False⟩ (S'.take S.length) H':=
 s.cutX (λ_=>False) st s' (λ_ h=>h.elim) (.inl λ_ h=>h.elim)
theorem yT(s:aY K p S H)(st:bR p H q H')(sm:aY K q S' H'){k:Nat}{a:Addr}(e:q.f[k]?=some a)(hk:¬k<S.length):a∉p.f/\H a=none/\¬p.c a:=by
 have na:a∉p.f:=λhm=>by
  obtain⟨j,hj,ej⟩:=jo hm;have e2:q.f[j]?=some a:=st.at_ (by rw[au hj,ej]);have hjk:j=k:=rF sm.nd e2 e;rw[s.len]at hj;omega
 have hn:=st.nf a (gi e) na;refine⟨na,hn,λc=>?_⟩;obtain⟨o,ho,_⟩:=s.mu a c;rw[hn]at ho;cases ho
theorem uT{r:bQ AV}{Q:VK}{E:XK}(s:aY K p S H)(h:cC K cl (cU K) p H (frz S.length r) Q E):cC K cl (cU K) p H r Q E:=by
 cases r with
 |exc n S1=>exact h
 |fail=>exact h
 |ok v S1=>
  cases v with
  |pv v=>exact h
  |ref k=>
   have h:cC K cl (cU K) p H (if k<S.length then .ok (.ref k) S1 else match S1[k]? with
    |some (.lst xs)=>.ok (.pv (.lst xs)) (S1.take S.length)
    |_=>.fail) Q E:=h
   split at h
   .exact h
   .rename_i hk
    cases z:S1[k]? with
    |none=>rw[z]at h;exact h.elim
    |some o=>
     cases o with
     |lol _=>rw[z]at h;exact h.elim
     |dic _ _=>rw[z]at h;exact h.elim
     |dol _ _=>rw[z]at h;exact h.elim
     |lst xs=>
      rw[z]at h;intro q H' x st sm r;obtain⟨a,e,rfl⟩:=r;obtain⟨na,hn,nc⟩:=yT s st sm e hk;obtain⟨st1,sm1⟩:=s.cutX (λb=>b=a) st sm (λb d=>d▸hn) (.inl λb d=>d▸gi e);obtain⟨vs,h1,l,r⟩:=sm.obj k a _ e z;refine h _ H' (.ref a) st1 sm1 ?_;show aT K (λb=>q.c b/\¬b=a) H' (.lst xs) (.ref a);unfold aT;exact⟨a,vs,rfl,.inl ⟨h1,λd=>d.2 rfl⟩,l,qY (λb h=>h.1) r⟩
theorem yC{r:cN}{Q:VK}{E:XK}(s:aY K p S H)(h:cC K cl (cU K) p H (mO S.length r) Q E):eH K cl p H r {nx:=λ_ H'=>Q .non H',rt:=Q} E:=by
 cases r with
 |nx ρ S1=>
  intro q H' σ st sm ev;obtain⟨st1,sm1⟩:=s.cut st sm;exact h _ H' .non st1 sm1 (by show aT K (λb=>q.c b/\¬False) H' .non .non;unfold aT;rfl)
 |exc n S1=>
  intro q H' st sm;obtain⟨st1,sm1⟩:=s.cut st sm;exact h _ H' st1 sm1
 |rt v S1=>
  intro q H' x st sm r;obtain⟨st1,sm1⟩:=s.cut st sm;cases v with
  |pv v=>exact h _ H' x st1 sm1 (show aT K (λb=>q.c b/\¬False) H' v x from Ft (λb h=>h.1) r)
  |ref k=>
   obtain⟨a,e,rfl⟩:=r;have h:cC K cl (cU K) p H (if k<S.length then .ok (.ref k) (S1.take S.length)else match S1[k]? with
    |some (.lst xs)=>.ok (.ref S.length) (S1.take S.length++[.lst xs])
    |some (.dic b kvs)=>.ok (.ref S.length) (S1.take S.length++[.dic b kvs])
    |_=>.fail) Q E:=h
   split at h
   .rename_i hk
    refine h _ H' (.ref a) st1 sm1 ⟨a,?_,rfl⟩;show p.f[k]?=some a;have hf:=Os st.pre;rw[<-hf,ub,if_pos (by rw[s.len];exact hk)];exact e
   .rename_i hk
    have fin:∀o,S1[k]?=some o->cC K cl (cU K) p H (.ok (.ref S.length) (S1.take S.length++[o])) Q E->Q (.ref a) H':=λo z h=>by
     obtain⟨na,hn,nc⟩:=yT s st sm e hk;have l1:(S1.take S.length).length=S.length:=by rw[<-sm1.len,<-s.len]
     have ma:a∈q.f:=gi e;refine h ⟨p.f++[a],q.w,q.c⟩ H' (.ref a) ⟨s.wc,s.mu,⟨[a],rfl⟩,st.mw,st.mono,λb hb n=>?_,st.nw,st.nc,st.keep⟩ ⟨?_,?_,λb hb=>?_,sm.wc,sm.mu,λj b o e1 e2=>?_⟩ ⟨a,?_,rfl⟩
     .rcases ck.mp hb with z |z
      .exact absurd z n
      .have:b=a:=by simpa using z
       rw[this];exact hn
     .show(p.f++[a]).Nodup
      rw[uc];refine⟨s.nd,by simp,λb hb c hc z=>?_⟩;have:c=a:=by simpa using hc
      exact na (this▸z▸hb)
     .show(p.f++[a]).length=_
      rw[bj,bj,l1,s.len];rfl
     .rcases ck.mp hb with z |z
      .exact st.mw b (s.sub b z)
      .have:b=a:=by simpa using z
       rw[this];exact sm.sub a ma
     .by_cases hj:j<S.length
      .have e1':p.f[j]?=some b:=by
        have e1:(p.f++[a])[j]?=some b:=e1
        rwa[ft (by rw[s.len];exact hj)]at e1
       rw[ft (by rw[l1];exact hj),ub,if_pos hj]at e2;refine(sm.obj j b o (st.at_ e1') e2).mono (λ_ e=>e) (λc w f=>⟨⟨w,λm=>?_⟩,λ_ e=>e⟩) λ_ _ r=>r;rcases ck.mp m with z |z
       .exact f (st.pre.subset z)
       .have:c=a:=by simpa using z
        exact f (this▸ma)
      .have hj':j=S.length:=by
        have:=(cq.mp e2).1;rw[bj,l1]at this;simp at this;omega
       subst hj';rw[gh (by rw[l1];exact ar _),l1,jg]at e2;have e1:(p.f++[a])[S.length]?=some b:=e1;rw[<-s.len,gh (ar _),jg]at e1;cases e1;cases e2;refine(sm.obj k a _ e z).mono (λ_ e=>e) (λc w f=>⟨⟨w,λm=>?_⟩,λ_ e=>e⟩) λ_ _ r=>r;rcases ck.mp m with z |z
       .exact f (st.pre.subset z)
       .have:c=a:=by simpa using z
        exact f (this▸ma)
     .show(p.f++[a])[S.length]?=some a
      rw[<-s.len,gh (ar _),jg];rfl
    split at h
    .rename_i z
     exact fin _ z h
    .rename_i z
     exact fin _ z h
    .exact h.elim
 |bk ρ S1=>exact h.elim
 |ct ρ S1=>exact h.elim
 |fail=>exact h.elim
theorem uD{N:List Str}{xs:BD}{vs:List V}(r:gH K p H xs vs):dJ K p H (gZ N.length xs) (L2.start N vs):=by
 have go:∀{xs:BD}{vs:List V},gH K p H xs vs->xs.length=vs.length:=λ{xs vs} r=>by
  induction r with
  |nil=>rfl
  |cons _ _ ih=>rw[cv,cv,ih]
 have get:∀{xs:BD}{vs:List V},gH K p H xs vs->∀(i:Nat)(v:AV),xs[i]?=some v->∃x,vs[i]?=some x/\cU K p H v x:=λ{xs vs} r=>by
  induction r with
  |nil=>intro i v e;simp at e
  |cons h _ ih=>
   intro i v e;cases i with
   |zero=>
    simp at e;subst e;exact⟨_,rfl,h⟩
   |succ i=>simpa using ih i v (by simpa using e)
 have hl:=go r;refine⟨by unfold gZ L2.start;simp[hl],λi v e=>?_⟩;unfold gZ at e;unfold L2.start
 by_cases hi:i<xs.length
 .rw[ft (by simpa using hi),dj]at e
  cases z:xs[i]? with
  |none=>rw[z]at e;cases e
  |some u=>
   rw[z]at e;cases e;obtain⟨x,e1,e2⟩:=get r i v z;refine⟨x,?_,e2⟩;rw[ft (by rw[aj,<-hl];exact hi),dj,e1];rfl
 .rw[gh (by rw[aj];omega),zt]at e
  split at e
  .cases e
  .cases e
end
section
variable{P:Program}{w:am}{K:ae}{mg:Str->AX}{base:Heap}{cl:Str->Addr}
theorem Kg{K:ae}{p:Ph}{H:Hp}{xs:BD}{vs:List V}(h:gH K p H xs vs):xs.length=vs.length:=by
 induction h with
 |nil=>rfl
 |cons _ _ ih=>rw[cv,cv,ih]
theorem Ua{np n:Nat}{b:MS}{vs:List V}{H:Hp}{Q:VK}{E:XK}(h:jE K cl (aR np n b) vs H Q E):vs.length=np:=by
 obtain⟨p,S,xs,sm,ra,h⟩:=h;unfold aR at h;split at h
 .rename_i e
  rw[<-Kg ra,e]
 .exact h.elim
theorem Xq{x qual:Str}{st:Stmt}{f:Addr}{fd:br}{N ps:List Str}{k np n:Nat}{b:MS}(F:iO K x qual st f fd)(S:iF N ps (cH st))(hnp:ps.length=np)(hn:N.length=n)
  (hb:∀(cdv:Value)(A:ao)(outer:List bh)(s:aa)(H:Hp)(E:XK),dF k (A.deeper (envOfC qual (cH st) s.heap.objs.size f cdv))->fY K cl E0 (cX fH P w K mg base N qual (cH st) f cdv A outer s H E).nox (eG st) b):
  dQ P w K mg base fH (k+1) f fd ps (kH K cl (aR np n b)):=by
 subst hnp hn;refine F.ok S (λvs H Q E h=>Ua h) λcdv A outer s H vs Q E hr h=>⟨_,hb cdv A outer s H E hr rfl,?_⟩;obtain⟨p,S,xs,sm,ra,h⟩:=h;unfold aR at h;split at h
 .exact⟨p,S,_,sm,uD ra,yC sm h⟩
 .exact h.elim
theorem okX{x qual:Str}{st:Stmt}{f:Addr}{fd:br}{N ps:List Str}{k np n:Nat}{b:MS}(F:iO K x qual st f fd)(S:iF N ps (cH st))(hnp:ps.length=np)(hn:N.length=n)
  (hb:∀(cdv:Value)(A:ao)(outer:List bh)(s:aa)(H:Hp)(E:XK),dF k (A.deeper (envOfC qual (cH st) s.heap.objs.size f cdv))->fY K cl E (cX (cY P w) P w K mg base N qual (cH st) f cdv A outer s H E) (eG st) b):
  dQ P w K mg base (cY P w) (k+1) f fd ps (jE K cl (aR np n b)):=by
 subst hnp hn;refine F.okX S (λvs H Q E h=>Ua h) λcdv A outer s H vs Q E hr h=>⟨_,hb cdv A outer s H E hr rfl,?_⟩;obtain⟨p,S,xs,sm,ra,h⟩:=h;unfold aR at h;split at h
 .exact⟨p,S,_,sm,uD ra,yC sm h⟩
 .exact h.elim
theorem abA{x qual:Str}{st:Stmt}{f:Addr}{fd:br}{ds:Array Value}{N ps:List Str}{k np n:Nat}{b:MS}(F:lM K x qual st f fd ds)(S:iF N ps (cH st))(hnp:ps.length=np)(hn:N.length=n)
  (hb:∀(cdv:Value)(A:ao)(outer:List bh)(s:aa)(H:Hp)(E:XK),dF k (A.deeper (envOfC qual (cH st) s.heap.objs.size f cdv))->fY K cl E (cX (cY P w) P w K mg base N qual (cH st) f cdv A outer s H E) (eG st) b):
  dQ P w K mg base (cY P w) (k+1) f fd ps (jE K cl (aR np n b)):=by
 subst hnp hn;refine F.okX S (λvs H Q E h=>Ua h) λcdv A outer s H vs Q E hr h=>⟨_,hb cdv A outer s H E hr rfl,?_⟩;obtain⟨p,S,xs,sm,ra,h⟩:=h;unfold aR at h;split at h
 .exact⟨p,S,_,sm,uD ra,yC sm h⟩
 .exact h.elim
theorem x0{f:Addr}{fd:br}{ps:List Str}{k:Nat}{g:FM}(F:dQ P w K mg base (cY P w) k f fd ps (jE K cl g)):dQ P w K mg base fH k f fd ps (kH K cl g):=
 ⟨λvs H Q E h=>F.len vs H Q E0 h,λA outer s H args us vs Q E hr e0 hb hv h=>qr (F.run A outer s H args us vs Q E0 hr e0 hb hv h) λr s' hq=>by
  cases r with
  |error e=>
   obtain⟨_,_,_,_,_,_,_,_,_,_,_,_,z⟩:=hq;exact z
  |ok fl=>
   cases fl with
   |ret u=>exact hq
   |next=>exact hq
   |brk=>exact hq
   |cont=>exact hq⟩
end
section
variable{K:ae}{cl:Str->Addr}{E:XK}{X:Cx}{e:ag}{es:List ag}{ms:MA}{pos p:ai}{k n:Nat}{f:Addr}{fd:br}{ps:List Str}{g:FM}{x:Str}{dvs:List V}{ds:AW}{dv:BA}
theorem qW{p:Ph}{H:Hp}{xs ys:BD}{vs ws:List V}(h:gH K p H xs vs)(g:gH K p H ys ws):gH K p H (xs++ys) (vs++ws):=by
 induction h with
 |nil=>exact g
 |cons h _ ih=>exact .cons h ih
def Dv(dv:BA)(dvs:List V):Prop:=∀K p H,gH K p H (dv.map .pv) dvs
theorem Dv.nil:Dv [] []:=λ_ _ _=>.nil
theorem F6(F:dQ X.prog X.w X.K X.mg X.base fH k f fd ps (kH K cl g))(hr:dF k X.A)(hg:Gl X x)(hm:X.mg x=some (.ref f))(hk:fh X.K (.ref f)=true)(hb:gR X.K fd ps ds)(hd:bG dvs ds)(hv:Dv dv dvs)
  (ha:eX K cl E0 X (e::es) ms)(hdb:(x==("__debug__":Str))=false:=by decide)(he:starEach (e::es) X.env=(false,eval e X.env)::starEach es X.env:=by rfl)(hpl:(backTo pos (starEach es X.env)).any (·.1)=false:=by rfl):
  aZ K cl E0 X (.Call (.Name x p) (e::es) [] pos) (iJ g dv ms):=by
 intro hK;refine PE.imp (vK F hr hg hm hk hb hd Ub (ha hK) hdb he hpl) ?_
 rintro σ H Q ⟨p,S,ρ,s,ev,h⟩
 exact cR s ev h λq H' as xs S' stp sm ev r k=>⟨q,S',_,sm,qW r (hv K q H'),uT sm k⟩
theorem Lf{α β:Type}{R:Ph->Hp->α->β->Prop}{p:Ph}{H:Hp}{r:bQ α}{Q:β->Hp->Prop}(h:cC K cl R p H (gF r) Q E):cC K cl R p H r Q E0:=by
 cases r with
 |ok a S=>exact h
 |exc n S=>exact h.elim
 |fail=>exact h.elim
theorem Sw(F:dQ X.prog X.w X.K X.mg X.base fH k f fd ps (kH K cl g))(hr:dF k X.A)(hg:Gl X x)(hm:X.mg x=some (.ref f))(hk:fh X.K (.ref f)=true)(hb:gR X.K fd ps ds)(hd:bG dvs ds)(hv:Dv dv dvs)
  (ha:eX K cl E X (e::es) ms)(hdb:(x==("__debug__":Str))=false:=by decide)(he:starEach (e::es) X.env=(false,eval e X.env)::starEach es X.env:=by rfl)(hpl:(backTo pos (starEach es X.env)).any (·.1)=false:=by rfl):
  aZ K cl E X (.Call (.Name x p) (e::es) [] pos) (aQ g dv ms):=by
 intro hK;refine PE.imp (vK F hr hg hm hk hb hd Ub (ha hK) hdb he hpl) ?_
 rintro σ H Q ⟨p,S,ρ,s,ev,h⟩
 exact cR s ev h λq H' as xs S' stp sm ev r k=>⟨q,S',_,sm,qW r (hv K q H'),Lf (uT sm k)⟩
theorem By(F:dQ X.prog X.w X.K X.mg X.base fH k f fd ps (kH K cl g))(hr:dF k X.A)(hg:Gl X x)(hm:X.mg x=some (.ref f))(hk:fh X.K (.ref f)=true)(hb:gR X.K fd ps ds)(hd:bG dvs ds)(hv:Dv dv dvs)
  (ha:eX K cl E X (e::es) ms)(hdb:(x==("__debug__":Str))=false:=by decide)(he:starEach (e::es) X.env=(false,eval e X.env)::starEach es X.env:=by rfl)(hpl:(backTo pos (starEach es X.env)).any (·.1)=false:=by rfl):
  aZ K cl E X (.Call (.Name x p) (e::es) [] pos) (pS g dv ms):=by
 intro hK;refine PE.imp (vK F hr hg hm hk hb hd Ub (ha hK) hdb he hpl) ?_
 rintro σ H Q ⟨p,S,ρ,s,ev,h⟩
 exact cR s ev h λq H' as xs S' stp sm ev r k=>⟨q,S',_,sm,qW r (hv K q H'),Lf k⟩
theorem Tw{P:Program}{w:am}{mg:Str->AX}{base:Heap}{N:List Str}{qual:Str}{scope:Scope}{fo:Addr}{cd:Value}{A:ao}{outer:List bh}{BF:aa}{BG:Hp}
  (F:dQ P w K mg base (cY P w) k f fd ps (jE K cl g))(hr:dF k (cX (cY P w) P w K mg base N qual scope fo cd A outer BF BG E).A)(hg:Gl (cX (cY P w) P w K mg base N qual scope fo cd A outer BF BG E) x)(hm:mg x=some (.ref f))(hk:fh K (.ref f)=true)(hb:gR K fd ps ds)(hd:bG dvs ds)(hv:Dv dv dvs)
  (ha:eX K cl E (cX (cY P w) P w K mg base N qual scope fo cd A outer BF BG E) (e::es) ms)(hdb:(x==("__debug__":Str))=false:=by decide)
  (he:starEach (e::es) (cX (cY P w) P w K mg base N qual scope fo cd A outer BF BG E).env=(false,eval e (cX (cY P w) P w K mg base N qual scope fo cd A outer BF BG E).env)::starEach es (cX (cY P w) P w K mg base N qual scope fo cd A outer BF BG E).env:=by rfl)
  (hpl:(backTo pos (starEach es (cX (cY P w) P w K mg base N qual scope fo cd A outer BF BG E).env)).any (·.1)=false:=by rfl):
  aZ K cl E (cX (cY P w) P w K mg base N qual scope fo cd A outer BF BG E) (.Call (.Name x p) (e::es) [] pos) (iJ g dv ms):=by
 intro hK;refine PE.imp (vK F hr hg hm hk hb hd aas (ha hK) hdb he hpl) ?_
 rintro σ H Q ⟨p,S,ρ,s,ev,h⟩
 exact cR s ev h λq H' as xs S' stp sm ev r k=>⟨q,S',_,sm,qW r (hv K q H'),uT sm k⟩
def oB(n:Str):MS:=λ_ S=>.exc n S
theorem Vu{P:Program}{w:am}{mg:Str->AX}{base:Heap}{N:List Str}{qual:Str}{scope:Scope}{f:Addr}{cd:Value}{A:ao}{outer:List bh}{BF:aa}{BG:Hp}
  {txt:Str}{j:Nat}{np p1 cpos:ai}(hg:Gl (cX (cY P w) P w K mg base N qual scope f cd A outer BF BG E) x)(hm:mg x=some (.ref (cl x)))(hx:de K (cl x) eY "ValueError.__new__"=true)
  (hd:(x==("__debug__":Str))=false:=by decide):
  eT K cl E (cX (cY P w) P w K mg base N qual scope f cd A outer BF BG E) (.Raise (some (.Call (.Name x np) [.Constant (.str txt) j p1] [] cpos)) none pos) (oB x):=
 λ_=>PS.imp (Tx hg hm hx hd) λD σ H ⟨p,S,ρ,s,ev,h⟩=>h p H s.step s
end
def cD(own:List Str)(cap:List (Nat×Str))(ρ:bP):bP:=own.map (λ_=>none)++cap.map λp=>(ρ[p.1]?).join
open Classical in
noncomputable def bZ(G:Gd)(g:GM)(me:ME):BA->bP->aG->bQ BA
 |[],_,S=>if gA G S then .ok [] S else .fail
 |x::r,ρ,S=>if gA G S then(match g x ρ with
  |none=>.fail
  |some ρ1=>match me ρ1 S with
   |.ok (.pv y) S1=>match bZ G g me r ρ1 S1 with
    |.ok ys S2=>.ok (y::ys) S2
    |_=>.fail
   |_=>.fail)else .fail
theorem dZ{g:GM}{me:ME}{ρ:bP}{S:aG}:bZ [] g me [] ρ S=.ok [] S:=by
 unfold bZ;rw[if_pos (gL S)]
theorem eE{g:GM}{me:ME}{x:PV}{r:BA}{ρ:bP}{S:aG}:bZ [] g me (x::r) ρ S=(match g x ρ with
  |none=>.fail
  |some ρ1=>match me ρ1 S with
   |.ok (.pv y) S1=>match bZ [] g me r ρ1 S1 with
    |.ok ys S2=>.ok (y::ys) S2
    |_=>.fail
   |_=>.fail):=by
 rw[bZ,if_pos (gL S)]
noncomputable def bB(own:List Str)(cap:List (Nat×Str))(mi:MI)(g:GM)(me:ME):ME:=λρ S=>(mi ρ S).bind λxs S1=>(bZ xs.2 g me xs.1 (cD own cap ρ) S1).bind λys S2=>.ok (.pv (.lst ys)) S2
theorem Cs{G:Gd}{g:GM}{me:ME}:∀(xs:BA)(ρ:bP)(S:aG)(n:Str)(S':aG),bZ G g me xs ρ S≠.exc n S'
 |[],_,_,_,_,e=>by
  unfold bZ at e;split at e<;>cases e
 |x::r,ρ,S,n,S',e=>by
  unfold bZ at e;split at e
  .split at e
   .cases e
   .split at e
    .split at e
     .cases e
     .cases e
    .cases e
  .cases e
theorem Wi{G:Gd}{g:GM}{me:ME}{xs zs:BA}{ρ:bP}{S S':aG}(e:bZ G g me xs ρ S=.ok zs S'):gA G S:=by
 cases xs with
 |nil=>
  unfold bZ at e;split at e
  .assumption
  .cases e
 |cons x r=>
  unfold bZ at e;split at e
  .assumption
  .cases e
section
variable{K:ae}{cl:Str->Addr}{E:XK}{X:Cx}{p q:Ph}{H H':Hp}{S:aG}
theorem Wv{ρ:bP}{σ:St}{own:List Str}{cap:List (Nat×Str)}(h:dJ K p H ρ σ):dJ K p H (cD own cap ρ) (jV own cap σ):=by
 refine⟨by unfold cD jV;simp,λi v e=>?_⟩;unfold cD at e;unfold jV
 by_cases hi:i<own.length
 .rw[ft (by simpa using hi),dj,au hi]at e
  cases e
 .rw[gh (by rw[aj];omega),dj,aj]at e⊢
  cases z:cap[i-own.length]? with
  |none=>rw[z]at e;cases e
  |some c=>
   rw[z]at e;have e:(ρ[c.1]?).join=some v:=cj e;have e':ρ[c.1]?=some (some v):=by
    cases y:ρ[c.1]? with
    |none=>rw[y]at e;cases e
    |some o=>rw[y]at e;exact congrArg some e
   obtain⟨x,e1,e2⟩:=h.at_ c.1 v e';refine⟨x,?_,e2⟩;show some ((σ[c.1]?).join)=some (some x);rw[e1];rfl
def Ph.res(p:Ph)(D:Addr):Ph:=⟨p.f,λa=>p.w a\/a=D,λa=>p.c a\/a=D⟩
def Ph.hold(p:Ph)(D:Addr):Ph:=⟨p.f,λa=>p.w a/\a≠D,p.c⟩
def Ph.less(p:Ph)(D:Addr):Ph:=⟨p.f,λa=>p.w a/\a≠D,λa=>p.c a/\a≠D⟩
theorem aY.notin(s:aY K p S H){D:Addr}(h:H D=none):¬p.c D:=λc=>by
 obtain⟨o,e,_⟩:=s.mu D c;rw[h]at e;cases e
theorem aY.res(s:aY K p S H){D:Addr}{o:HO}(h:H D=none)(mo:Mb o):bR p H (p.res D) (bA H D o)/\aY K (p.res D) S (bA H D o):=by
 have st:bR p H (p.res D) (bA H D o):=⟨s.wc,s.mu,kl,λa h=>.inl h,λa h=>.inl h,λa h g=>absurd h g,λa x n=>x.elim (λz=>absurd z n) (λz=>by rw[z];exact h),λa x n=>x.elim (λz=>absurd z n) (λz=>by rw[z];exact h),λa u e _=>by
  rw[bV (fV e h)];exact e⟩
 refine⟨st,s.nd,s.len,λa h=>.inl (s.sub a h),λa x=>x.elim (λz=>.inl (s.wc a z)) .inr,λa x=>?_,λk a u e1 e2=>?_⟩
 .by_cases z:a=D
  .rw[z,fR]
   exact⟨o,rfl,mo⟩
  .rw[bV z]
   exact s.mu a (x.elim id λy=>absurd y z)
 .exact(s.obj k a u e1 e2).mono (λvs e=>by rw[bV (fV e h)];exact e) (λb w f=>⟨⟨.inl w,f⟩,λvs e=>by rw[bV (fV e h)];exact e⟩) λ_ _ r=>st.reps r
theorem aY.resHold(s:aY K p S H){D:Addr}{o:HO}(h:H D=none)(mo:Mb o):aY K ((p.res D).hold D) S (bA H D o):=by
 obtain⟨st,sm⟩:=s.res (o:=o) h mo;have ne:∀a,p.w a->a≠D:=λa w z=>s.notin h (z▸s.wc a w);refine⟨sm.nd,sm.len,λa m=>⟨sm.sub a m,ne a (s.sub a m)⟩,λa x=>sm.wc a x.1,sm.mu,λk a u e1 e2=>?_⟩;exact(s.obj k a u e1 e2).mono (λvs e=>by rw[bV (fV e h)];exact e) (λb w f=>⟨⟨⟨.inl w,ne b w⟩,f⟩,λvs e=>by rw[bV (fV e h)];exact e⟩) λ_ _ r=>st.reps r
theorem bR.unhold{D:Addr}(h:p.w D)(st:bR (p.hold D) H q H')(s:aY K p S H):bR p H ⟨q.f,λa=>q.w a\/a=D,q.c⟩ H':=
 ⟨s.wc,s.mu,st.pre,λa x=>by
  by_cases z:a=D
  .exact .inr z
  .exact .inl (st.mw a ⟨x,z⟩),st.mono,st.nf,λa x n=>by
  rcases x with x |x
  .exact st.nw a x λz=>n z.1
  .exact absurd (x▸h) n,st.nc,λa o e n=>st.keep a o e λz=>n z.1⟩
theorem aY.grow{D:Addr}{ys:List V}{o:HO}(s:aY K p S H)(sh:aY K (p.hold D) S H)(w:p.w D)(n:D∉p.f)(mo:Mb o):bR p H p (bA H D o)/\aY K p S (bA H D o)/\aY K (p.hold D) S (bA H D o):=by
 have st:bR p H p (bA H D o):=⟨s.wc,s.mu,kl,λ_ h=>h,λ_ h=>h,λ_ h g=>absurd h g,λ_ h g=>absurd h g,λ_ h g=>absurd h g,λa u e nw=>by
  rw[bV (λz:a=D=>nw (by rw[z];exact w))];exact e⟩
 have hm:∀a,p.c a->∃u,bA H D o a=some u/\Mb u:=λa x=>by
  by_cases z:a=D
  .rw[z,fR]
   exact⟨o,rfl,mo⟩
  .rw[bV z]
   exact s.mu a x
 refine⟨st,⟨s.nd,s.len,s.sub,s.wc,hm,λk a u e1 e2=>?_⟩,⟨sh.nd,sh.len,sh.sub,sh.wc,hm,λk a u e1 e2=>?_⟩⟩
 .have ne:a≠D:=λz=>n (z▸gi e1)
  exact(sh.obj k a u e1 e2).mono (λvs e=>by rw[bV ne];exact e) (λb w f=>⟨⟨w.1,f⟩,λvs e=>by rw[bV w.2];exact e⟩) λ_ _ r=>st.reps r
 .have ne:a≠D:=λz=>n (z▸gi e1)
  exact(sh.obj k a u e1 e2).mono (λvs e=>by rw[bV ne];exact e) (λb w f=>⟨⟨w,f⟩,λvs e=>by rw[bV w.2];exact e⟩) λ_ _ r=>st.reps r
theorem aY.toLess{D:Addr}(s:aY K (p.hold D) S H):aY K (p.less D) S H:=
 ⟨s.nd,s.len,s.sub,λa h=>⟨s.wc a h,h.2⟩,λa h=>s.mu a h.1,λk a o e1 e2=>
  (s.obj k a o e1 e2).mono (λ_ e=>e) (λb w f=>⟨⟨w,f⟩,λ_ e=>e⟩) λ_ _ r=>qY (λa h=>h.1) r⟩
theorem bR.toLess{D:Addr}(st:bR p H q H')(h:H D=none):bR p H (q.less D) H':=by
 have nD:∀a,p.c a->a≠D:=λa c z=>by
  obtain⟨o,e,_⟩:=st.mu a c;rw[z,h]at e;cases e
 exact⟨st.wc,st.mu,st.pre,λa x=>⟨st.mw a x,nD a (st.wc a x)⟩,λa x=>⟨st.mono a x,nD a x⟩,st.nf,λa x=>st.nw a x.1,λa x=>st.nc a x.1,st.keep⟩
variable{sc:Scope}{own:List Str}{cap:List (Nat×Str)}{elt target iter:ag}{pos:ai}{mi:MI}{g:GM}{me:ME}
theorem Cu{σ:St}{ρ:bP}{xs zs:BA}{G:Gd}{J:It}{Q:VK}{D:Addr}{S2:aG}(sm:aY K p S H)(ev:dJ K p H ρ σ)(it:fQ K p H (xs,G) J)(z:bZ G g me xs (cD own cap ρ) S=.ok zs S2)(hD:H D=none)
  (k:∀q H' vs,bR p H q H'->aY K q S2 H'->aY K (q.hold D) S2 H'->q.w D->D∉q.f->H' D=some (.lst vs)->vs.length<=sizeLine->aU K q.c H' zs vs->Q (.ref D) H'):
  wO J (gP K g) (tP K cl E0 (cU K) me) (jV own cap σ) H D Q:=by
 obtain⟨st0,sm0⟩:=sm.res (D:=D) (o:=.lst []) hD trivial;have sh0:=sm.resHold (D:=D) (o:=.lst []) hD trivial;have nf0:D∉p.f:=λh=>sm.notin hD (sm.wc D (sm.sub D h));refine G5 xs.length it.1 (λi σ1 H1 ys=>ys.length=i/\i<=xs.length/\H1 D=some (.lst ys)/\∃p1 S1 ρ1 us ws,(aY K p1 S1 H1/\aY K (p1.hold D) S1 H1)/\bR p H p1 H1/\p1.w D/\D∉p1.f/\dJ K p1 H1 ρ1 σ1/\fQ K p1 H1 (xs,G) J/\gA G S1/\aU K p1.c H1 us ys/\zs=us++ws/\bZ G g me (xs.drop i) ρ1 S1=.ok ws S2) ?_ ?_ ?_ ?_ ?_
 .refine⟨rfl,je _,fR,p.res D,S,cD own cap ρ,[],zs,⟨sm0,sh0⟩,st0,.inr rfl,nf0,Wv (st0.repE ev),it.step st0,?_,.nil,rfl,by simpa using z⟩
  exact Wi z
 .rintro i σ1 H1 ys ⟨h1,_,h2,_⟩
  exact⟨h1,h2⟩
 .rintro i σ1 H1 ys hi ⟨_,_,_,p1,S1,ρ1,us,ws,⟨sm1,sh1⟩,st1,w1,f1,ev1,it1,g1,_⟩
  exact((it1.2 p1 H1 S1 sm1.step sm1 g1).1 i xs[i] (au hi)).1
 .rintro i σ1 H1 ys x H2 hi ⟨hl,_,hH,p1,S1,ρ1,us,ws,⟨sm1,sh1⟩,st1,w1,f1,ev1,it1,g1,r1,e1,c1⟩ hy
  obtain⟨same,rx⟩:=((it1.2 p1 H1 S1 sm1.step sm1 g1).1 i xs[i] (au hi)).2 x H2 hy;rw[xu hi]at c1;unfold bZ at c1;rw[if_pos g1]at c1;split at c1
  .cases c1
  .rename_i ρ2 gz
   split at c1
   .rename_i y S3 mz
    split at c1
    .rename_i vs S4 cz
     cases c1;have st2:=sm1.same same;have sm2:=sm1.ofSame same;have smh:=sh1.ofSame same;have stS:bR p H p1 H2:=st1.trans st2;refine⟨p1,S1,ρ1,xs[i],ρ2,sm2,st2.repE ev1,rx,gz,λσ3 ev3=>⟨p1.hold D,S1,ρ2,smh,⟨ev3.len,ev3.at_⟩,?_⟩⟩;rw[mz];intro q H4 y' st4 sm4 ry;have hD2:H2 D=some (.lst ys):=same _ _ hH;have hD4:H4 D=some (.lst ys):=st4.keep D _ hD2 λz=>z.2 rfl;have fq:D∉q.f:=λh=>by
      have:=st4.nf D h f1;rw[hD2]at this;cases this
     have stU:=bR.unhold w1 st4 sm2;have nq:¬q.w D:=λz=>by
      have:=st4.nw D z λy=>y.2 rfl;rw[hD2]at this;cases this
     have smU:aY K ⟨q.f,λa=>q.w a\/a=D,q.c⟩ S3 H4:=⟨sm4.nd,sm4.len,λa h=>.inl (sm4.sub a h),λa h=>h.elim (sm4.wc a) λz=>z▸st4.mono D (sm2.wc D w1),sm4.mu,λk a o e1 e2=>
      (sm4.obj k a o e1 e2).mono (λ_ e=>e) (λb w f=>⟨⟨.inl w,f⟩,λ_ e=>e⟩) λ_ _ r=>r⟩
     have shU:aY K (Ph.hold ⟨q.f,λa=>q.w a\/a=D,q.c⟩ D) S3 H4:=⟨sm4.nd,sm4.len,λa h=>⟨.inl (sm4.sub a h),λz=>nq (z▸sm4.sub a h)⟩,λa h=>smU.wc a h.1,sm4.mu,λk a o e1 e2=>
      (sm4.obj k a o e1 e2).mono (λ_ e=>e) (λb w f=>⟨⟨⟨.inl w,λz=>nq (z▸w)⟩,f⟩,λ_ e=>e⟩) λ_ _ r=>r⟩
     obtain⟨stG,smG,shG⟩:=smU.grow (ys:=ys) (D:=D) (o:=.lst (ys++[y'])) shU (.inr rfl) fq trivial;have stA:=st2.trans (stU.trans stG);refine Y9 hi hD4 ⟨by rw[bj,hl];rfl,hi,fR,_,S3,ρ2,us++[y],vs,⟨smG,shG⟩,st1.trans stA,.inr rfl,fq,stG.repE (stU.repE ev3),it1.step stA,Wi cz,?_,by rw[e1,jf];rfl,cz⟩;exact(stA.reps r1).append (.cons (stG.rep ry) .nil)
    .cases c1
   .cases c1
 .rintro σ1 H1 ys ⟨hl,_,hH,p1,S1,ρ1,us,ws,⟨sm1,sh1⟩,st1,w1,f1,ev1,it1,g1,r1,e1,c1⟩
  rw[xw]at c1;unfold bZ at c1;rw[if_pos g1]at c1;cases c1;refine⟨(it1.2 p1 H1 _ sm1.step sm1 g1).2,?_⟩;rw[ie]at e1;subst e1;exact k p1 H1 ys st1 sm1 sh1 w1 f1 hH (by rw[hl];exact it.1) r1
theorem yQ{σ:St}{ρ:bP}{xs:BA×Gd}{J:It}{Q:VK}{D:Addr}(sm:aY K p S H)(ev:dJ K p H ρ σ)(it:fQ K p H xs J)(k:cC K cl (cU K) p H ((bZ xs.2 g me xs.1 (cD own cap ρ) S).bind λys S2=>.ok (.pv (.lst ys)) S2) Q E)(hD:H D=none):
  wO J (gP K g) (tP K cl E0 (cU K) me) (jV own cap σ) H D Q:=by
 cases z:bZ xs.2 g me xs.1 (cD own cap ρ) S with
 |fail=>rw[z]at k;exact k.elim
 |exc n S'=>exact absurd z (Cs _ _ _ _ _)
 |ok zs S2=>
  rw[z]at k;have k:∀q H' x,bR p H q H'->aY K q S2 H'->aT K q.c H' (.lst zs) x->Q x H':=k;refine Cu sm ev it z hD λq H' vs st1 sm1 sh1 w1 f1 hH l1 r1=>?_;refine k (q.less D) H' (.ref D) (st1.toLess hD) sh1.toLess ?_;unfold aT;exact⟨D,vs,rfl,.inl ⟨hH,λz=>z.2 rfl⟩,l1,qY (λa h=>h.1) r1⟩
theorem E4(k:iK X sc own cap)(hi:PIp K cl E X target iter mi)(hc:X.calm=true)(hg:∀C BF BG ex,lU K (gO X sc (dC own cap) C BF BG ex) target g)(he:∀C BF BG ex,aZ K cl E0 (gO X sc (dC own cap) C BF BG ex) elt me)
  (hs:∀x,foldedSetIterable iter X.env x=pure x:=by intro _;rfl):aZ K cl E X (.ListComp elt [⟨target,iter,[],0⟩] sc pos) (bB own cap mi g me):=by
 intro hK;refine PE.imp (Nz k (hi hK) hc (λC BF BG ex=>hg C BF BG ex hK) (λC BF BG ex=>he C BF BG ex hK) hs) ?_
 rintro σ H Q ⟨p,S,ρ,s,ev,h⟩
 exact cR s ev h λq H' xs J S' stp sm ev it kk D hD=>yQ sm ev it kk hD
theorem Az{i:Nat}{x:Str}{py spos:ai}(hN:X.N.Nodup)(hx:X.N[i]?=some x)(hl:iW X.env.scope x)(k:iK X sc own cap)(hi:PIp K cl E X target iter mi)(hc:X.calm=true)(hg:∀C BF BG ex,lU K (gO X sc (dC own cap) C BF BG ex) target g)(he:∀C BF BG ex,aZ K cl E0 (gO X sc (dC own cap) C BF BG ex) elt me)
  (hs:∀x,foldedSetIterable iter X.env x=pure x:=by intro _;rfl)(hsw:swapsWith (.ListComp elt [⟨target,iter,[],0⟩] sc pos) (some (.Name x py)) spos.line X.env=pure true:=by rfl)
  (hf:X.fn x=true\/X.env.scope.names.lookup x=some .local:=by first |exact .inl rfl |exact .inr rfl |assumption):
  eT K cl E X (.Assign [.Name x py] (.ListComp elt [⟨target,iter,[],0⟩] sc pos) spos) (aP i (bB own cap mi g me)):=by
 intro hK;refine PS.imp (K3 hN hx hl k (hi hK) hc (λC BF BG ex=>hg C BF BG ex hK) (λC BF BG ex=>he C BF BG ex hK) hs hsw hf) ?_
 rintro D σ H ⟨p,S,ρ,s,ev,h⟩
 have h2:tP K cl E (cU K) (bB own cap mi g me) σ H λy H1=>D.nx (σ.set i (some y)) H1:=by
  refine⟨p,S,ρ,s,ev,?_⟩;unfold aP at h;cases z:bB own cap mi g me ρ S with
  |ok v S1=>
   rw[z]at h;exact λq H' y st sm r=>h q H' _ st sm ((st.repE ev).set r i)
  |exc n S1=>rw[z]at h;exact h
  |fail=>rw[z]at h;exact h
 obtain⟨p,S,ρ,s,ev,h⟩:=h2;exact cR s ev h λq H' xs J S' stp sm ev it kk B hB=>yQ sm ev it kk hB
end
def jQ:List (Option Bool)->Option (List Bool)
 |[]=>some []
 |some b::r=>match jQ r with
  |some bs=>some (b::bs)
  |none=>none
 |none::_=>none
theorem Tf:∀{l:List (Option Bool)}{bs:List Bool},jQ l=some bs->bs.length=l.length
 |[],_,e=>by cases e;rfl
 |some b::r,bs,e=>by
  unfold jQ at e;split at e
  .rename_i cs h
   cases e;rw[cv,cv,Tf h]
  .cases e
 |none::r,_,e=>by cases e
theorem yF:∀{l:List (Option Bool)}{bs:List Bool}{i:Nat}{o:Option Bool},jQ l=some bs->l[i]?=some o->∃b,o=some b/\bs[i]?=some b
 |[],_,i,o,_,h=>by simp at h
 |some b::r,bs,i,o,e,h=>by
  unfold jQ at e;split at e
  .rename_i cs h'
   cases e;cases i with
   |zero=>
    simp at h;exact⟨b,h.symm,rfl⟩
   |succ i=>simpa using yF h' (by simpa using h)
  .cases e
 |none::r,_,_,_,e,_=>by cases e
def aO:Nat->PV->PV->Option Bool
 |_,.non,.non=>some true
 |_,.bl a,.bl b=>some (a==b)
 |_,.int a,.int b=>some (a==b)
 |_,.str a,.str b=>some (a==b)
 |n+1,.tup xs,.tup ys=>match jQ (bf (aO n) xs ys)with
  |some bs=>some (bs.all id&&xs.length==ys.length)
  |none=>none
 |n+1,.lst xs,.lst ys=>if xs.length=ys.length then(match jQ (bf (aO n) xs ys)with
  |some bs=>some (bs.all id)
  |none=>none)else some false
 |_,_,_=>none
theorem uK(bs:List Bool):((ak bs.length).all λj=>bs.getD j true)=bs.all id:=by
 rw[Bool.eq_iff_iff,qa,qa];constructor
 .intro h b hb
  obtain⟨j,hj,e⟩:=jo hb;have:=h j (by simpa using hj);simpa[cy,hj,e]using this
 .intro h j hj
  have hj:j<bs.length:=by simpa using hj
  have:=h bs[j] (fj hj);simpa[cy,hj]using this
section
variable{X:Cx}{BE:List (Addr×Obj)}{σ:St}{H:Hp}{s:aa}{c:Addr->Prop}
theorem uW{n:Nat}{xs ys:BA}{vs ws:List V}{its jts:AW}{bs:List Bool}{A:ao}
  (ih:∀(v w:PV)(x y:V)(u u':Value)(b:Bool),aT X.K c H v x->aT X.K c H w y->bY x u->bY y u'->aO n v w=some b->nu A s u u' b)
  (r1:aU X.K c H xs vs)(r2:aU X.K c H ys ws)(q1:bG vs its)(q2:bG ws jts)(e:jQ (bf (aO n) xs ys)=some bs):
  ∀j(h1:j<its.toArray.size)(h2:j<jts.toArray.size),nu A s its.toArray[j] jts.toArray[j] (bs.getD j true):=λj h1 h2=>by
 have l1:=r1.length.trans q1.length;have l2:=r2.length.trans q2.length;have g1:j<xs.length:=by rw[l1];simpa using h1
 have g2:j<ys.length:=by rw[l2];simpa using h2
 obtain⟨x,ex,rx⟩:=r1.get (au g1);obtain⟨y,ey,ry⟩:=r2.get (au g2);obtain⟨u,eu,ru⟩:=q1.get ex;obtain⟨u',eu',ru'⟩:=q2.get ey;have hz:(bf (aO n) xs ys)[j]?=some (aO n xs[j] ys[j]):=by
  rw[qw,au g1,au g2]
 obtain⟨b,eb,eb'⟩:=yF e hz;have e1:its.toArray[j]=u:=by
  rw[k9];rw[au (by simpa using h1)]at eu;exact cj eu
 have e2:jts.toArray[j]=u':=by
  rw[k9];rw[au (by simpa using h2)]at eu';exact cj eu'
 rw[e1,e2];have e3:bs.getD j true=b:=by simp[cy,eb']
 rw[e3];exact ih _ _ _ _ _ _ _ rx ry ru ru' eb
theorem rV{n:Nat}{xs ys:BA}{bs:List Bool}(e:jQ (bf (aO n) xs ys)=some bs):bs.length=min xs.length ys.length:=by
 rw[Tf e,dn]
theorem Ag(n:Nat)(v w:PV)(x:V)(b:Bool)(nt:∀xs,v≠.tup xs)(nl:∀xs,v≠.lst xs)(h:aT X.K c H v x)(g:aT X.K c H w x)(e:aO n v w=some b):b=true:=by
 cases v with
 |tup xs=>exact absurd rfl (nt xs)
 |lst xs=>exact absurd rfl (nl xs)
 |non=>
  cases w<;>first |(unfold aO at e;simp at e;done) |skip
  unfold aO at e;cases e;rfl
 |bl i=>
  cases w<;>first |(unfold aO at e;simp at e;done) |skip
  unfold aT at h g;subst h;injection g with g';subst g';unfold aO at e;cases e;exact beq_self_eq_true _
 |int i=>
  cases w<;>first |(unfold aO at e;simp at e;done) |skip
  unfold aT at h g;subst h;injection g with g';subst g';unfold aO at e;cases e;exact beq_self_eq_true _
 |str i=>
  cases w<;>first |(unfold aO at e;simp at e;done) |skip
  unfold aT at h g;subst h;injection g with g';subst g';unfold aO at e;cases e;exact beq_self_eq_true _
theorem Cj(I:aH X BE σ H s):∀(n:Nat)(v w:PV)(x:V)(b:Bool),aT X.K c H v x->aT X.K c H w x->aO n v w=some b->b=true:=by
 intro n
 induction n with
 |zero=>
  intro v w x b h g e;cases v with
  |tup xs=>unfold aO at e;simp at e
  |lst xs=>unfold aO at e;simp at e
  |_=>exact Ag 0 _ w x b (by intro _ z;cases z) (by intro _ z;cases z) h g e
 |succ n ih=>
  have items:∀(xs ys:BA)(vs:List V)(bs:List Bool),aU X.K c H xs vs->aU X.K c H ys vs->jQ (bf (aO n) xs ys)=some bs->bs.all id=true/\xs.length=ys.length:=λxs ys vs bs r1 r2 e=>by
   have ll:=r1.length.trans r2.length.symm;refine⟨?_,ll⟩;rw[qa];intro b hb;obtain⟨j,hj,ej⟩:=jo hb;have hj':=hj;rw[rV e]at hj';have g1:j<xs.length:=by omega
   have g2:j<ys.length:=by omega
   obtain⟨x,ex,rx⟩:=r1.get (au g1);obtain⟨y,ey,ry⟩:=r2.get (au g2);have:=ex.symm.trans ey;cases this;have hz:(bf (aO n) xs ys)[j]?=some (aO n xs[j] ys[j]):=by
    rw[qw,au g1,au g2]
   obtain⟨b',eb,eb'⟩:=yF e hz;rw[au hj,ej]at eb';cases eb';exact ih _ _ _ _ rx ry eb
  intro v w x b h g e;cases v with
  |tup xs=>
   cases w with
   |tup ys=>
    unfold aT at h g;obtain⟨a,vs,rfl,t1,_,r1⟩:=h;obtain⟨a',ws,e1,t2,_,r2⟩:=g;cases e1;have:=I.tuple_inj t1 t2;subst this;unfold aO at e;split at e
    .rename_i bs hb
     obtain⟨z1,z2⟩:=items xs ys vs bs r1 r2 hb;rw[z1,z2,beq_self_eq_true]at e;cases e;rfl
    .cases e
   |_=>unfold aO at e;simp at e
  |lst xs=>
   cases w with
   |lst ys=>
    unfold aT at h g;obtain⟨a,vs,rfl,t1,_,r1⟩:=h;obtain⟨a',ws,e1,t2,_,r2⟩:=g;cases e1;have:=I.list_inj t1.sq t2.sq;subst this;unfold aO at e;rw[if_pos (r1.length.trans r2.length.symm)]at e;split at e
    .rename_i bs hb
     obtain⟨z1,z2⟩:=items xs ys vs bs r1 r2 hb;rw[z1]at e;cases e;rfl
    .cases e
   |_=>unfold aO at e;simp at e
  |_=>exact Ag (n+1) _ w x b (by intro _ z;cases z) (by intro _ z;cases z) h g e
theorem Gn(I:aH X BE σ H s):∀(n:Nat)(v w:PV)(x y:V)(u u':Value)(b:Bool)(A:ao),A.units+n<cLine->aT X.K c H v x->aT X.K c H w y->bY x u->bY y u'->aO n v w=some b->qc A s u u' b/\nu A s u u' b:=by
 have flat:∀(n:Nat)(v w:PV)(x y:V)(u u':Value)(b:Bool)(A:ao),(∀xs,v≠.tup xs)->(∀xs,v≠.lst xs)->aT X.K c H v x->aT X.K c H w y->bY x u->bY y u'->aO n v w=some b->qc A s u u' b/\nu A s u u' b:=by
  intro n v w x y u u' b A nt nl h g r r' e;cases v with
  |tup xs=>exact absurd rfl (nt xs)
  |lst xs=>exact absurd rfl (nl xs)
  |non=>
   cases w<;>first |(unfold aO at e;simp at e;done) |skip
   unfold aT at h g;subst h g;cases r;cases r';unfold aO at e;cases e;exact⟨l5,ud _⟩
  |bl i=>
   cases w<;>first |(unfold aO at e;simp at e;done) |skip
   unfold aT at h g;subst h g;cases r;cases r';unfold aO at e;cases e;exact⟨l6 _ _,SeqAt.EqAt.bool_bool _ _⟩
  |int i=>
   cases w<;>first |(unfold aO at e;simp at e;done) |skip
   unfold aT at h g;subst h g;obtain⟨t,rfl⟩:=r;obtain⟨t',rfl⟩:=r';unfold aO at e;cases e;exact⟨l7 _ _ _ _,SeqAt.EqAt.int_int _ _ _ _⟩
  |str i=>
   cases w<;>first |(unfold aO at e;simp at e;done) |skip
   unfold aT at h g;subst h g;obtain⟨t,rfl⟩:=r;obtain⟨t',rfl⟩:=r';unfold aO at e;cases e;exact⟨l8 _ _ _ _,SeqAt.EqAt.str_str _ _ _ _⟩
 have main:∀(n:Nat)(v w:PV)(x y:V)(u u':Value)(b:Bool)(A:ao),A.units+n<cLine->aT X.K c H v x->aT X.K c H w y->bY x u->bY y u'->aO n v w=some b->qc A s u u' b/\nu A s u u' b:=by
  intro n
  induction n with
  |zero=>
   intro v w x y u u' b A hu h g r r' e;cases v with
   |tup xs=>unfold aO at e;simp at e
   |lst xs=>unfold aO at e;simp at e
   |_=>exact flat 0 _ w x y u u' b A (by intro _ z;cases z) (by intro _ z;cases z) h g r r' e
  |succ n ih=>
   intro v w x y u u' b A hu h g r r' e;have hin:A.in1.units+n<cLine:=by show A.units+1+n<cLine;omega
   cases v with
   |tup xs=>
    cases w with
    |tup ys=>
     have hs:x=y->b=true:=λz=>Cj I (n+1) _ _ x b h (z▸g) e;unfold aT at h g;obtain⟨a,vs,rfl,t1,_,r1⟩:=h;obtain⟨a',ws,rfl,t2,_,r2⟩:=g;cases r;cases r';obtain⟨its,q1,p1,_⟩:=I.tuple t1;obtain⟨jts,q2,p2,_⟩:=I.tuple t2;unfold aO at e;split at e
     .rename_i bs hb
      cases e;have z:=l9 (A:=A) (s:=s) (e:=λj=>bs.getD j true) (show s.heap.IsTuple a its.toArray from p1) (show s.heap.IsTuple a' jts.toArray from p2) (by omega)
       (uW (A:=A.in1) (λv w x y u u' b h1 h2 h3 h4 h5=>(ih v w x y u u' b A.in1 hin h1 h2 h3 h4 h5).2) r1 r2 q1 q2 hb)
      have l1:=r1.length.trans q1.length;have l2:=r2.length.trans q2.length;rw[aw,aw,<-l1,<-l2,<-rV hb,uK]at z;refine⟨z,?_⟩
      by_cases ha:a=a'
      .subst ha
       rw[hs rfl];exact ud _
      .exact m9 ha z
     .cases e
    |_=>unfold aO at e;simp at e
   |lst xs=>
    cases w with
    |lst ys=>
     have hs:x=y->b=true:=λz=>Cj I (n+1) _ _ x b h (z▸g) e;unfold aT at h g;obtain⟨a,vs,rfl,t1,_,r1⟩:=h;obtain⟨a',ws,rfl,t2,_,r2⟩:=g;cases r;cases r';obtain⟨its,q1,p1,_⟩:=I.list t1.sq;obtain⟨jts,q2,p2,_⟩:=I.list t2.sq;have l1:=r1.length.trans q1.length;have l2:=r2.length.trans q2.length;have fin:qc A s (.ref a) (.ref a') b->qc A s (.ref a) (.ref a') b/\nu A s (.ref a) (.ref a') b:=λz=>by
      refine⟨z,?_⟩
      by_cases ha:a=a'
      .subst ha
       rw[hs rfl];exact ud _
      .exact m9 ha z
     unfold aO at e;split at e
     .rename_i hl
      split at e
      .rename_i bs hb
       cases e;have z:=n8 (A:=A) (s:=s) (e:=λj=>bs.getD j true) p1.isList p2.isList (by rw[aw,aw];omega) (by omega)
        (uW (A:=A.in1) (λv w x y u u' b h1 h2 h3 h4 h5=>(ih v w x y u u' b A.in1 hin h1 h2 h3 h4 h5).2) r1 r2 q1 q2 hb)
       have hm:its.length=bs.length:=by rw[rV hb];omega
       rw[aw,hm,uK]at z;exact fin z
      .cases e
     .rename_i hl
      cases e;exact fin (n9 p1.isList p2.isList (by rw[aw,aw];simp;omega) (by omega))
    |_=>unfold aO at e;simp at e
   |_=>exact flat (n+1) _ w x y u u' b A (by intro _ z;cases z) (by intro _ z;cases z) h g r r' e
 exact main
end
noncomputable section
open PySem PySem.Spec PyProof.Rows Bn
section
variable{X:Cx}
theorem Op{BE:List (Addr×Obj)}{σ:St}{H:Hp}{s:aa}(I:aH X BE σ H s){p:Ph}{v w:PV}{x y:V}{u u':Value}{b:Bool}{A:ao}(hu:A.units+8<cLine)(h:eR X.K p H v x)(g:eR X.K p H w y)(r:bY x u)(r':bY y u')(e:aO 8 v w=some b):
  qc A s u u' b/\SeqAt.RcNeAt A s u u' (!b):=by
 have hin:A.in1.units+7<cLine:=by show A.units+1+7<cLine;omega
 cases v with
 |non=>
  cases w<;>first |(unfold aO at e;simp at e;done) |skip
  have h:=h.non;have g:=g.non;subst h g;cases r;cases r';unfold aO at e;cases e;exact⟨l5,SeqAt.RcNeAt.none_none⟩
 |bl i=>
  cases w<;>first |(unfold aO at e;simp at e;done) |skip
  have h:=h.bl;have g:=g.bl;subst h g;cases r;cases r';unfold aO at e;cases e;exact⟨l6 _ _,SeqAt.RcNeAt.bool_bool _ _⟩
 |int i=>
  cases w<;>first |(unfold aO at e;simp at e;done) |skip
  have h:=h.int;have g:=g.int;subst h g;obtain⟨t,rfl⟩:=r;obtain⟨t',rfl⟩:=r';unfold aO at e;cases e;exact⟨l7 _ _ _ _,SeqAt.RcNeAt.int_int _ _ _ _⟩
 |str i=>
  cases w<;>first |(unfold aO at e;simp at e;done) |skip
  have h:=h.str;have g:=g.str;subst h g;obtain⟨t,rfl⟩:=r;obtain⟨t',rfl⟩:=r';unfold aO at e;cases e;exact⟨l8 _ _ _ _,SeqAt.RcNeAt.str_str _ _ _ _⟩
 |tup xs=>
  cases w with
  |tup ys=>
   obtain⟨a,vs,rfl,t1,_,r1⟩:=h.tup;obtain⟨a',ws,rfl,t2,_,r2⟩:=g.tup;cases r;cases r';obtain⟨its,q1,p1,_⟩:=I.tuple t1;obtain⟨jts,q2,p2,_⟩:=I.tuple t2;unfold aO at e;split at e
   .rename_i bs hb
    cases e;have it:=uW (s:=s) (A:=A.in1) (λv w x y u u' b h1 h2 h3 h4 h5=>(Gn I 7 v w x y u u' b A.in1 hin h1 h2 h3 h4 h5).2) r1 r2 q1 q2 hb;have z:=l9 (A:=A) (s:=s) (e:=λj=>bs.getD j true) (show s.heap.IsTuple a its.toArray from p1) (show s.heap.IsTuple a' jts.toArray from p2) (by omega) it;have z':=SeqAt.RcNeAt.tuples (A:=A) (s:=s) (e:=λj=>bs.getD j true) (show s.heap.IsTuple a its.toArray from p1) (show s.heap.IsTuple a' jts.toArray from p2) (by omega) it;have l1:=r1.length.trans q1.length;have l2:=r2.length.trans q2.length;rw[aw,aw,<-l1,<-l2,<-rV hb,uK]at z z';exact⟨z,z'⟩
   .cases e
  |_=>unfold aO at e;simp at e
 |lst xs=>
  cases w with
  |lst ys=>
   obtain⟨a,vs,rfl,t1,_,r1⟩:=h.lst;obtain⟨a',ws,rfl,t2,_,r2⟩:=g.lst;cases r;cases r';obtain⟨its,q1,p1,_⟩:=I.list t1;obtain⟨jts,q2,p2,_⟩:=I.list t2;have l1:=r1.length.trans q1.length;have l2:=r2.length.trans q2.length;unfold aO at e;split at e
   .rename_i hl
    split at e
    .rename_i bs hb
     cases e;have it:=uW (s:=s) (A:=A.in1) (λv w x y u u' b h1 h2 h3 h4 h5=>(Gn I 7 v w x y u u' b A.in1 hin h1 h2 h3 h4 h5).2) r1 r2 q1 q2 hb;have z:=n8 (A:=A) (s:=s) (e:=λj=>bs.getD j true) p1.isList p2.isList (by rw[aw,aw];omega) (by omega) it;have z':=SeqAt.RcNeAt.lists (A:=A) (s:=s) (e:=λj=>bs.getD j true) p1.isList p2.isList (by rw[aw,aw];omega) (by omega) it;have hm:its.length=bs.length:=by rw[rV hb];omega
     rw[aw,hm,uK]at z z';exact⟨z,z'⟩
    .cases e
   .rename_i hl
    cases e;exact⟨n9 p1.isList p2.isList (by rw[aw,aw];simp;omega) (by omega),SeqAt.RcNeAt.lists_lengths p1.isList p2.isList (by rw[aw,aw];simp;omega) (by omega)⟩
  |_=>unfold aO at e;simp at e
def wW(K:ae)(neg:Bool):R2:=λx y H Q=>∃p v w b,eR K p H v x/\eR K p H w y/\aO 8 v w=some b/\Q (.bl (if neg then !b else b)) H
theorem Dn(hu:X.A.units+8<cLine):dX X (compareOp .Eq) (wW X.K false):=by
 intro BE s σ H x y v u Q I rx ry h;obtain⟨p,a,b,k,h1,h2,e,q⟩:=h;exact(Op I hu h1 h2 rx ry e).1 X.prog X.w X.xe _ ⟨.bl k,H,I,rfl,q⟩
theorem Eo(hu:X.A.units+8<cLine):dX X (compareOp .NotEq) (wW X.K true):=by
 intro BE s σ H x y v u Q I rx ry h;obtain⟨p,a,b,k,h1,h2,e,q⟩:=h;exact(Op I hu h1 h2 rx ry e).2 X.prog X.w X.xe _ ⟨.bl (!k),H,I,rfl,q⟩
def cZ(a b:PV):BB:=(aO 8 a b).map .bl
def jF(a b:PV):BB:=(aO 8 a b).map λk=>.bl (!k)
theorem Cq{K:ae}:fZ K (wW K false) cZ:=λ{p S H a b c x y Q} s ra rb e k=>by
 unfold cZ at e;cases z:aO 8 a b with
 |none=>rw[z]at e;cases e
 |some t=>
  rw[z]at e;cases e;exact⟨p,a,b,t,ra,rb,z,k H _ (dH.refl H) (by unfold aT;rfl)⟩
theorem Yp{K:ae}:fZ K (wW K true) jF:=λ{p S H a b c x y Q} s ra rb e k=>by
 unfold jF at e;cases z:aO 8 a b with
 |none=>rw[z]at e;cases e
 |some t=>
  rw[z]at e;cases e;exact⟨p,a,b,t,ra,rb,z,k H _ (dH.refl H) (by unfold aT;rfl)⟩
def i2(f:Int->Int->BB):PV->PV->BB
 |.int a,.int b=>f a b
 |_,_=>none
open Classical in
def cI(C:Int->Int->Prop)(g:Int->Int->PV)(a b:Int):BB:=if C a b then some (g a b)else none
def qR:PV->V
 |.int i=>.int i
 |.bl b=>.bl b
 |.str s=>.str s
 |_=>.non
def sH:PV->Bool
 |.int _=>true
 |.bl _=>true
 |.str _=>true
 |.non=>true
 |_=>false
theorem gW{K:ae}{c:Addr->Prop}{H:Hp}{v:PV}(h:sH v=true):aT K c H v (qR v):=by
 cases v with
 |tup _=>cases h
 |lst _=>cases h
 |_=>unfold aT qR;rfl
theorem wV{K:ae}{C:Int->Int->Prop}{g:Int->Int->PV}{h:Int->Int->V}(fl:∀i j,sH (g i j)=true/\qR (g i j)=h i j):fZ K (rI C h) (i2 (cI C g)):=λ{p S H a b c x y Q} s ra rb e k=>by
 cases a with
 |int i=>
  cases b with
  |int j=>
   unfold i2 cI at e;dsimp only at e;split at e
   .rename_i hc
    cases e;refine⟨i,j,ra.int,rb.int,hc,?_⟩;rw[<-(fl i j).2];exact k H _ (dH.refl H) (gW (fl i j).1)
   .cases e
  |_=>cases e
 |_=>cases e
theorem xF{K:ae}{g:Int->Int->PV}{h:Int->Int->V}(fl:∀i j,sH (g i j)=true/\qR (g i j)=h i j):fZ K (jG h) (i2 λi j=>some (g i j)):=λ{p S H a b c x y Q} s ra rb e k=>by
 cases a with
 |int i=>
  cases b with
  |int j=>
   cases e;refine⟨i,j,ra.int,rb.int,?_⟩;rw[<-(fl i j).2];exact k H _ (dH.refl H) (gW (fl i j).1)
  |_=>cases e
 |_=>cases e
def oF(i j:Int):Prop:=Kc i j\/(Bd 1000000 i/\Bd 1000000 j)
theorem oF.ok{i j:Int}(h:oF i j):IntMulOk i j:=by
 rcases h with h |h
 .exact h.ok
 have h1:=Sk h.1;have h2:=Sk h.2;unfold IntMulOk Builtin.Int.intTooBig bitsLine;intro c;simp only[ji,decide_eq_true_eq]at c;have:=c.2;omega
theorem E8:dX X (binaryOp .Mult) (rI oF λi j=>.int (i*j)):=xQ λ_ _ _ _ _ _ _ hc q=>mul_int q hc.ok
def aS:=i2 (cI oF λi j=>.int (i*j))
def dW:=i2 (cI oH λi j=>.int (i.fdiv j))
def fK:=i2 (cI (λ_ j=>j≠0) λi j=>.int (i.fmod j))
def hJ:=i2 (cI xB λi j=>.int (i^j.toNat))
def dG:=i2 λi j=>some (.int (i-j))
def kM:=i2 λi j=>some (.bl (decide (i<j)))
def fLe:=i2 λi j=>some (.bl (decide (i<=j)))
def fB:=i2 λi j=>some (.bl (decide (j<i)))
def qL:=i2 λi j=>some (.bl (decide (j<=i)))
theorem abb{K:ae}:fZ K (rI oF λi j=>.int (i*j)) aS:=wV λ_ _=>⟨rfl,rfl⟩
theorem V7{K:ae}:fZ K (rI oH λi j=>.int (i.fdiv j)) dW:=wV λ_ _=>⟨rfl,rfl⟩
theorem aa9{K:ae}:fZ K (rI (λ_ j=>j≠0) λi j=>.int (i.fmod j)) fK:=wV λ_ _=>⟨rfl,rfl⟩
theorem aaV{K:ae}:fZ K (rI xB λi j=>.int (i^j.toNat)) hJ:=wV λ_ _=>⟨rfl,rfl⟩
theorem aaY{K:ae}:fZ K (jG λi j=>.int (i-j)) dG:=xF λ_ _=>⟨rfl,rfl⟩
theorem Aq{K:ae}:fZ K (jG λi j=>.bl (decide (i<j))) kM:=xF λ_ _=>⟨rfl,rfl⟩
theorem Vp{K:ae}:fZ K (jG λi j=>.bl (decide (j<i))) fB:=xF λ_ _=>⟨rfl,rfl⟩
theorem Jq{K:ae}:fZ K (jG λi j=>.bl (decide (j<=i))) qL:=xF λ_ _=>⟨rfl,rfl⟩
def bO:PV->BB
 |.int i=>some (.int (-i))
 |_=>none
theorem Z7{K:ae}:tO K (rU λi=>.int (-i)) bO:=λ{p S H a c x Q} s ra e k=>by
 cases a with
 |int i=>
  cases e;exact⟨i,ra.int,k H _ (dH.refl H) (gW (v:=.int (-i)) rfl)⟩
 |_=>cases e
def Yo(K:ae):R2:=λx y H Q=>∃l b xs zs,x=.ref l/\y=.ref b/\bU K H l xs/\bU K H b zs/\xs.length+zs.length<=sizeLine/\∀p,H p=none->Q (.ref p) (bA H p (.lst (xs++zs)))
theorem J1:dX X (binaryOp .Add) (Yo X.K):=by
 intro BE s σ H x y v u Q I rx ry h;obtain⟨l,b,xs,zs,rfl,rfl,hx,hy,hz,q⟩:=h;cases rx;cases ry;obtain⟨its,r1,p1,_⟩:=I.list hx;obtain⟨jts,r2,p2,_⟩:=I.list hy;obtain⟨⟨cls,dd,data,sl⟩,n,ho,hc,_,hd⟩:=p1;obtain⟨⟨cls2,dd2,data2,sl2⟩,n2,ho2,hc2,_,hd2⟩:=p2;simp only at hc hd hc2 hd2;subst hc hd hc2 hd2;have e:its.toArray++jts.toArray=(its++jts).toArray:=by simp
 have l1:=r1.length;have l2:=r2.length;refine si ⟨_,ho,rfl⟩ ⟨_,ho2,rfl⟩ noFill_list_add seq_list_add PySem.F.slot_list_add PySem.F.entry_list_add (PySem.F.args_list_add_2 _ _) (list_addW l b its.toArray jts.toArray n n2 dd dd2 sl sl2 (by rw[aw,aw];omega)) ⟨ho,ho2,?_⟩;rw[e];exact⟨.ref _,_,I.lnew (t':=s.toks) (r1.append r2) (by rw[bj];omega),rfl,q _ I.fresh⟩
def aF:PV->PV->BB
 |.int a,.int b=>some (.int (a+b))
 |.lst xs,.lst ys=>if xs.length+ys.length<=16777216 then some (.lst (xs++ys))else none
 |.tup xs,.tup ys=>if xs.length≠0/\ys.length≠0/\xs.length+ys.length<=16777216 then some (.tup (xs++ys))else none
 |_,_=>none
def Vo(K:ae):R2:=λx y H Q=>(jG λi j=>.int (i+j)) x y H Q\/Yo K x y H Q\/Cc K x y H Q
theorem J7:dX X (binaryOp .Add) (Vo X.K):=dX.or R5 (dX.or J1 Sj)
theorem aa8{K:ae}:fZ K (Vo K) aF:=λ{p S H a b c x y Q} s ra rb e k=>by
 cases a with
 |int i=>
  cases b with
  |int j=>
   cases e;exact .inl ⟨i,j,ra.int,rb.int,k H _ (dH.refl H) (gW (v:=.int (i+j)) rfl)⟩
  |_=>cases e
 |lst xs=>
  cases b with
  |lst ys=>
   have e:(if xs.length+ys.length<=16777216 then some (PV.lst (xs++ys))else none)=some c:=e;split at e
   .rename_i hl
    cases e;obtain⟨a1,vs,rfl,l1,z1,r1⟩:=ra.lst;obtain⟨a2,ws,rfl,l2,z2,r2⟩:=rb.lst;have hz:vs.length+ws.length<=sizeLine:=by rw[<-r1.length,<-r2.length,iQ];exact hl
    exact .inr (.inl ⟨a1,a2,vs,ws,rfl,rfl,l1,l2,hz,λt ht=>k _ _ (fS ht) (pN s (r1.append r2) (by rw[bj];exact hz) ht)⟩)
   .cases e
  |_=>cases e
 |tup xs=>
  cases b with
  |tup ys=>
   have e:(if xs.length≠0/\ys.length≠0/\xs.length+ys.length<=16777216 then some (PV.tup (xs++ys))else none)=some c:=e;split at e
   .rename_i hl
    cases e;obtain⟨a1,vs,rfl,l1,z1,r1⟩:=ra.tup;obtain⟨a2,ws,rfl,l2,z2,r2⟩:=rb.tup;have hz:vs.length+ws.length<=sizeLine:=by rw[<-r1.length,<-r2.length,iQ];exact hl.2.2
    refine .inr (.inr ⟨a1,a2,vs,ws,rfl,rfl,l1,l2,λq=>hl.1 (by rw[r1.length,q];rfl),hz,λq=>absurd (show ys.length=0 by rw[r2.length,q];rfl) hl.2.1,λ_ t ht=>k _ _ (fS ht) (lH s (r1.append r2) (by rw[bj];exact hz) ht)⟩)
   .cases e
  |_=>cases e
 |_=>cases e
end
section
variable{K:ae}{cl:Str->Addr}{E:XK}{X:Cx}{a b e:ag}{es:List ag}{ma mb m:ME}{ms:MA}{pos p2:ai}
def aE:PV->PV->BB
 |.lst xs,.int i=>aV xs i
 |.tup xs,.int i=>aV xs i
 |_,_=>none
theorem Ka{c:Addr->Prop}{H:Hp}{xs:BA}{vs:List V}{i:Int}{v:PV}(r:aU K c H xs vs)(e:aV xs i=some v):∃x,aV vs i=some x/\aT K c H v x:=by
 unfold aV at e⊢;rw[<-r.length];cases z:aW xs.length i with
 |none=>rw[z]at e;cases e
 |some j=>
  rw[z]at e;exact r.get e
theorem abm:fZ K (Wq K) aE:=λ{p S H a b c x y Q} s ra rb e k=>by
 cases b with
 |int i=>
  cases a with
  |lst xs=>
   obtain⟨a1,vs,rfl,l1,z1,r1⟩:=ra.lst;obtain⟨x,e1,r2⟩:=Ka r1 e;exact .inl ⟨a1,vs,i,x,rfl,rb.int,l1,e1,k H x (dH.refl H) r2⟩
  |tup xs=>
   obtain⟨a1,vs,rfl,l1,z1,r1⟩:=ra.tup;obtain⟨x,e1,r2⟩:=Ka r1 e;exact .inr (.inl ⟨a1,vs,i,x,rfl,rb.int,l1,e1,k H x (dH.refl H) r2⟩)
  |_=>cases e
 |_=>cases a<;>cases e
theorem Y7(ha:aZ K cl E X a ma)(hb:aZ K cl E X b mb)(hs:Ja b:=by intro _ _;rfl):aZ K cl E X (.Subscript a b pos) (aC aE ma mb):=by
 intro hK;subst hK;refine(Rp En (ha rfl) (hb rfl) hs).imp ?_
 rintro σ H Q ⟨p,S,ρ,s,e,h⟩
 exact cR s e h λq H1 a x S1 st s1 e1 r1 h1=>cR s1 e1 h1 λq2 H2 b y S2 st2 s2 e2 r2 h2=>uF abm s2 (st2.repA r1) r2 h2
abbrev MO:=bP->aG->bQ AZ
def cE:MO:=λ_ S=>.ok none S
def eN:AV->aG->bQ AZ
 |.pv (.int i),S=>.ok (some i) S
 |_,_=>.fail
def cG(m:ME):MO:=λρ S=>(m ρ S).bind eN
abbrev RO:Ph->Hp->AZ->AZ->Prop:=λ_ _ a b=>a=b
variable(K cl E X)
def qP(e:Option ag)(m:MO):Prop:=X.K=K->PO X e (tP K cl E RO m)
variable{K cl E X}
theorem PO.imp{e:Option ag}{t t':TO}(h:PO X e t)(i:∀σ H Q,t' σ H Q->t σ H Q):PO X e t':=λBE s σ H Q I q=>h BE s σ H Q I (i σ H Q q)
theorem Ny:qP K cl E X none cE:=λ_=>PO.imp H0 λσ H Q ⟨p,S,ρ,s,e,h⟩=>cC.ret (R:=RO) h s rfl
theorem Ow(h:aZ K cl E X e m):qP K cl E X (some e) (cG m):=by
 intro hK;subst hK;refine PO.imp (L4 (h rfl)) ?_
 rintro σ H Q ⟨p,S,ρ,s,e,h⟩
 refine cR s e h λq H1 a x S1 st s1 e1 r1 h1=>?_;unfold eN at h1;split at h1
 .rename_i i
  exact⟨i,(show eR X.K q H1 (.int i) x from .inl r1).int,cC.ret (R:=RO) h1 s1 rfl⟩
 .exact h1.elim
def jB(xs:BA)(lo hi:AZ):BA:=(xs.drop (HT.sIx xs.length 0 lo)).take (HT.sIx xs.length xs.length hi-HT.sIx xs.length 0 lo)
def gB(v:PV)(lo hi:AZ):BB:=match v with
 |.lst xs=>some (.lst (jB xs lo hi))
 |.tup xs=>if HT.sIx xs.length 0 lo=0/\HT.sIx xs.length xs.length hi=xs.length then none else some (.tup (jB xs lo hi))
 |_=>none
def cF(m:ME)(ml mh:MO):ME:=λρ S=>(m ρ S).bind λv S1=>(ml ρ S1).bind λlo S2=>(mh ρ S2).bind λhi S3=>iP ((rd S3 v).bind λx=>gB x lo hi) S3
theorem Bj{c:Addr->Prop}{H:Hp}{xs:BA}{vs:List V}{lo hi:AZ}(r:aU K c H xs vs):aU K c H (jB xs lo hi) (mZ vs lo hi):=by
 unfold jB mZ;rw[<-r.length];exact(r.drop _).take _
theorem aah{lo hi:Option ag}{ml mh:MO}(he:aZ K cl E X e m)(hl:qP K cl E X lo ml)(hu:qP K cl E X hi mh):aZ K cl E X (.Subscript e (.Slice lo hi none p2) pos) (cF m ml mh):=by
 intro hK;subst hK;refine(Xv (nC.or A6 N5) (he rfl) (hl rfl) (hu rfl)).imp ?_
 rintro σ H Q ⟨p,S,ρ,s,e,h⟩
 refine cR s e h λq H1 a x S1 st s1 e1 r1 h1=>cR s1 e1 h1 λq2 H2 lo lo' S2 st2 s2 e2 r2 h2=>cR s2 e2 h2 λq3 H3 hi hi' S3 eK s3 e3 r3 h3=>?_;cases r2;cases r3;have ra:=eK.repA (st2.repA r1);obtain⟨c,ec,k⟩:=rN s3 h3;cases z:rd S3 a with
 |none=>rw[z]at ec;cases ec
 |some v=>
  rw[z]at ec;have rv:=rY s3 ra z;cases v with
  |lst xs=>
   have ec:some (PV.lst (jB xs lo hi))=some c:=ec;cases ec;obtain⟨a1,vs,rfl,l1,z1,r1⟩:=rv.lst;exact .inl ⟨a1,vs,rfl,l1,λt ht=>k _ _ (fS ht) (pN s3 (Bj r1) (fk (tU vs lo hi) z1) ht)⟩
  |tup xs=>
   obtain⟨a1,vs,rfl,l1,z1,r1⟩:=rv.tup;have ec:(if HT.sIx xs.length 0 lo=0/\HT.sIx xs.length xs.length hi=xs.length then none else some (PV.tup (jB xs lo hi)))=some c:=ec;split at ec
   .cases ec
   .rename_i hw
    cases ec;rw[r1.length]at hw;exact .inr ⟨a1,vs,rfl,l1,hw,λt ht=>k _ _ (fS ht) (lH s3 (Bj r1) (fk (tU vs lo hi) z1) ht)⟩
  |_=>cases ec
theorem pI{id:String}{r:List V->Hp->VK->Prop}{f:BA->BB}{x:Str}{p:ai}(hc:iE X (.builtin id) r)(hf:kA X.K r f)(hg:Gl X x)(hm:X.mg x=none)(hv:bootBuiltins x=some (.builtin id))(ha:eX K cl E X (e::es) ms)(hn:x≠"__name__":=by decide)(hdb:(x==("__debug__":Str))=false:=by decide)
  (he:starEach (e::es) X.env=(false,eval e X.env)::starEach es X.env:=by rfl)(hpl:(backTo pos (starEach es X.env)).any (·.1)=false:=by rfl):aZ K cl E X (.Call (.Name x p) (e::es) [] pos) (mR f ms):=by
 intro hK;subst hK;refine PE.imp (rK hc hg hm hv (ha rfl) hn hdb he hpl) ?_
 rintro σ H Q ⟨p,S,ρ,s,ev,h⟩
 exact cR s ev h λq H' as xs S' stp sm ev r k=>Sg hf sm r k
theorem zA{T:String}{r:List V->Hp->VK->Prop}{f:BA->BB}{x:Str}{p:ai}(hc:iE X (.type T) r)(hf:kA X.K r f)(hg:Gl X x)(hm:X.mg x=none)(hv:bootBuiltins x=some (.type T))(ha:eX K cl E X (e::es) ms)(hn:x≠"__name__":=by decide)(hdb:(x==("__debug__":Str))=false:=by decide)
  (he:starEach (e::es) X.env=(false,eval e X.env)::starEach es X.env:=by rfl)(hpl:(backTo pos (starEach es X.env)).any (·.1)=false:=by rfl):aZ K cl E X (.Call (.Name x p) (e::es) [] pos) (mR f ms):=by
 intro hK;subst hK;refine PE.imp (yW hc hg hm hv (ha rfl) hn hdb he hpl) ?_
 rintro σ H Q ⟨p,S,ρ,s,ev,h⟩
 exact cR s ev h λq H' as xs S' stp sm ev r k=>Sg hf sm r k
def eI:BA->BB
 |[.lst xs]=>some (.int xs.length)
 |[.tup xs]=>some (.int xs.length)
 |_=>none
theorem aar:kA K (λxs H Q=>∃p ys,xs=[.ref p]/\(bU K H p ys\/dA K H p ys)/\Q (.int ys.length) H) eI:=λ{p S H as c xs Q} s ra e k=>by
 unfold eI at e;split at e
 .rename_i zs
  cases e;cases ra with
  |cons h t=>
   cases t;obtain⟨a,vs,rfl,l,z,r⟩:=h.lst;refine⟨a,vs,rfl,.inl l,?_⟩;rw[<-r.length];exact k H _ (dH.refl H) (gW (v:=.int zs.length) rfl)
 .rename_i zs
  cases e;cases ra with
  |cons h t=>
   cases t;obtain⟨a,vs,rfl,l,z,r⟩:=h.tup;refine⟨a,vs,rfl,.inr l,?_⟩;rw[<-r.length];exact k H _ (dH.refl H) (gW (v:=.int zs.length) rfl)
 .cases e
def oK:BA->BB
 |[.int i]=>some (.int (if i<0 then-i else i))
 |_=>none
theorem Z6:kA K (λxs H Q=>∃i,xs=[.int i]/\Q (.int (if i<0 then-i else i)) H) oK:=λ{p S H as c xs Q} s ra e k=>by
 unfold oK at e;split at e
 .rename_i i
  cases e;cases ra with
  |cons h t=>
   cases t;cases h.int;exact⟨i,rfl,k H _ (dH.refl H) (gW (v:=.int _) rfl)⟩
 .cases e
def fM:BA->BB
 |[.lst xs]=>some (.tup xs)
 |[.tup xs]=>some (.tup xs)
 |_=>none
theorem G3:kA K (λxs H Q=>∃p ys,xs=[.ref p]/\((bU K H p ys/\∀l,H l=none->Q (.ref l) (bA H l (.tup ys)))\/(dA K H p ys/\Q (.ref p) H))) fM:=λ{p S H as c xs Q} s ra e k=>by
 unfold fM at e;split at e
 .rename_i zs
  cases e;cases ra with
  |cons h t=>
   cases t;obtain⟨a,vs,rfl,l,z,r⟩:=h.lst;exact⟨a,vs,rfl,.inl ⟨l,λt ht=>k _ _ (fS ht) (lH s r z ht)⟩⟩
 .rename_i zs
  cases e;cases ra with
  |cons h t=>
   cases t;obtain⟨a,vs,rfl,l,z,r⟩:=h.tup;refine⟨a,vs,rfl,.inr ⟨l,k H _ (dH.refl H) ?_⟩⟩;unfold aT;exact⟨a,vs,rfl,l,z,r⟩
 .cases e
def lI:BA->BB
 |[.lst xs]=>some (.lst xs)
 |[.tup xs]=>some (.lst xs)
 |_=>none
theorem J4:kA K (λxs H Q=>∃p ys,xs=[.ref p]/\(bU K H p ys\/dA K H p ys)/\∀l,H l=none->Q (.ref l) (bA H l (.lst ys))) lI:=λ{p S H as c xs Q} s ra e k=>by
 unfold lI at e;split at e
 .rename_i zs
  cases e;cases ra with
  |cons h t=>
   cases t;obtain⟨a,vs,rfl,l,z,r⟩:=h.lst;exact⟨a,vs,rfl,.inl l,λt ht=>k _ _ (fS ht) (pN s r z ht)⟩
 .rename_i zs
  cases e;cases ra with
  |cons h t=>
   cases t;obtain⟨a,vs,rfl,l,z,r⟩:=h.tup;exact⟨a,vs,rfl,.inr l,λt ht=>k _ _ (fS ht) (pN s r z ht)⟩
 .cases e
def iU:BA->BB
 |[.int i]=>some (.int i)
 |[.bl b]=>some (.int (if b then 1 else 0))
 |_=>none
theorem Y8:kA K (λxs H Q=>(∃i,xs=[.int i]/\Q (.int i) H)\/∃k,xs=[.bl k]/\Q (.int (if k then 1 else 0)) H) iU:=λ{p S H as c xs Q} s ra e k=>by
 unfold iU at e;split at e
 .rename_i i
  cases e;cases ra with
  |cons h t=>
   cases t;cases h.int;exact .inl ⟨i,rfl,k H _ (dH.refl H) (gW (v:=.int _) rfl)⟩
 .rename_i i
  cases e;cases ra with
  |cons h t=>
   cases t;cases h.bl;exact .inr ⟨i,rfl,k H _ (dH.refl H) (gW (v:=.int _) rfl)⟩
 .cases e
end
end
section
variable{K:ae}{cl:Str->Addr}{E:XK}{X:Cx}{a b c e l tg:ag}{es:List ag}{m ma mb:ME}{ms:MA}{pos:ai}{p q:Ph}{H H':Hp}{S:aG}
theorem aY.push(s:aY K p S H){D:Addr}{ps:BA}{vs:List V}(h:H D=none)(l:vs.length<=sizeLine)(r:aU K p.c H ps vs):
  let q:Ph:=⟨p.f++[D],λa=>p.w a\/a=D,λa=>p.c a\/a=D⟩
  bR p H q (bA H D (.lst vs))/\aY K q (S++[.lst ps]) (bA H D (.lst vs)):=by
 intro q;obtain⟨st0,sm0⟩:=s.res (D:=D) (o:=.lst vs) h trivial;have nf0:D∉p.f:=λz=>s.notin h (s.wc D (s.sub D z));refine⟨⟨st0.wc,st0.mu,⟨[D],rfl⟩,st0.mw,st0.mono,λa x n=>?_,st0.nw,st0.nc,st0.keep⟩,?_,by simp[q,s.len],λa x=>?_,sm0.wc,sm0.mu,λk a o e1 e2=>?_⟩
 .rcases ck.mp x with z |z
  .exact absurd z n
  .have:a=D:=by simpa using z
   rw[this];exact h
 .show(p.f++[D]).Nodup
  rw[uc];refine⟨s.nd,by simp,λa ha b hb z=>?_⟩;have:b=D:=by simpa using hb
  exact nf0 (this▸z▸ha)
 .rcases ck.mp x with z |z
  .exact .inl (s.sub a z)
  .exact .inr (by simpa using z)
 .by_cases hk:k<S.length
  .have e1':p.f[k]?=some a:=by
    have e1:(p.f++[D])[k]?=some a:=e1
    rwa[ft (by rw[s.len];exact hk)]at e1
   rw[ft hk]at e2;refine(s.obj k a o e1' e2).mono (λvs e=>by rw[bV (fV e h)];exact e) (λb w f=>⟨⟨.inl w,λm=>?_⟩,λvs e=>by rw[bV (fV e h)];exact e⟩) λ_ _ r=>st0.reps r;rcases ck.mp m with z |z
   .exact f z
   .have:b=D:=by simpa using z
    exact s.notin h (this▸s.wc b w)
  .have hk':k=S.length:=by
    have:=(cq.mp e2).1;simp at this;omega
   subst hk';rw[gh (ar _),jg]at e2;have e1:(p.f++[D])[S.length]?=some a:=e1;rw[<-s.len,gh (ar _),jg]at e1;cases e1;cases e2;exact⟨vs,fR,l,st0.reps r⟩
theorem aY.write(s:aY K p S H){D:Addr}{k:Nat}{ps:BA}{vs:List V}(h:p.f[k]?=some D)(hk:k<S.length)(l:vs.length<=sizeLine)(r:aU K p.c H ps vs):
  bR p H p (bA H D (.lst vs))/\aY K p (S.set k (.lst ps)) (bA H D (.lst vs)):=by
 have w:p.w D:=s.sub D (gi h);have st:bR p H p (bA H D (.lst vs)):=⟨s.wc,s.mu,kl,λ_ h=>h,λ_ h=>h,λ_ h g=>absurd h g,λ_ h g=>absurd h g,λ_ h g=>absurd h g,λa u e nw=>by
  rw[bV (λz:a=D=>nw (by rw[z];exact w))];exact e⟩
 refine⟨st,s.nd,by rw[fu];exact s.len,s.sub,s.wc,λa x=>?_,λj a o e1 e2=>?_⟩
 .by_cases z:a=D
  .rw[z,fR]
   exact⟨_,rfl,trivial⟩
  .rw[bV z]
   exact s.mu a x
 .by_cases hj:k=j
  .subst hj
   rw[h]at e1;cases e1;rw[gf hk]at e2;cases e2;exact⟨vs,fR,l,st.reps r⟩
  .rw[gm hj]at e2
   have ne:a≠D:=λq=>hj (rF s.nd h (q▸e1));exact(s.obj j a o e1 e2).mono (λvs e=>by rw[bV ne];exact e) (λb w f=>⟨⟨w,f⟩,λvs e=>by rw[bV (λz:b=D=>f (z▸gi h))];exact e⟩) λ_ _ r=>st.reps r
def jU(xs:BD)(S:aG):bQ AV:=match mX xs with
 |some vs=>if vs.length<=16777216 then .ok (.ref S.length) (S++[.lst vs])else .fail
 |none=>.fail
def eJ(ms:MA):ME:=λρ S=>(ms ρ S).bind jU
theorem K0(h:eX K cl E X es ms):aZ K cl E X (.List es pos) (eJ ms):=by
 intro hK;subst hK;refine(Bb (h rfl)).imp ?_
 rintro σ H Q ⟨p,S,ρ,s,e,h⟩
 refine cR s e h λq H1 as xs S1 st s1 e1 r1 h1=>?_;unfold jU at h1;split at h1
 .rename_i vs hv
  split at h1
  .rename_i hl
   have r:=yM hv r1;rw[r.length,<-iQ]at hl;refine⟨hl,λt ht=>?_⟩;obtain⟨st2,sm2⟩:=s1.push ht hl r;exact h1 _ _ (.ref t) st2 sm2 ⟨t,by show(q.f++[t])[S1.length]?=some t;rw[<-s1.len,gh (ar _),jg];rfl,rfl⟩
  .exact h1.elim
 .exact h1.elim
def iD(k:Nat)(ys:BD)(S:aG):bQ AV:=match ys with
 |[.pv y]=>match S[k]? with
  |some (.lst xs)=>if xs.length<16777216 then .ok (.pv .non) (S.set k (.lst (xs++[y])))else .fail
  |_=>.fail
 |_=>.fail
def eZ{α:Type}(k:AV)(S:aG)(f:Nat->bQ α):bQ α:=match k with
 |.ref k=>(match S[k]? with
  |some (.dic _ _)=>.fail
  |some (.dol _ _)=>.fail
  |_=>f k)
 |_=>.fail
theorem uS{α:Type}(k:Nat)(S:aG)(f:Nat->bQ α):eZ (.ref k) S f=.fail\/(eZ (.ref k) S f=f k/\(∀n l,S[k]?≠some (.dic n l))/\∀n l,S[k]?≠some (.dol n l)):=by
 have e:eZ (.ref k) S f=(match S[k]? with
  |some (.dic _ _)=>.fail
  |some (.dol _ _)=>.fail
  |_=>f k):=rfl
 rw[e];cases S[k]? with
 |none=>exact .inr ⟨rfl,λ_ _ z=>(nomatch z),λ_ _ z=>(nomatch z)⟩
 |some o=>
  cases o with
  |dic n l=>exact .inl rfl
  |dol n l=>exact .inl rfl
  |lst xs=>exact .inr ⟨rfl,λ_ _ z=>(nomatch z),λ_ _ z=>(nomatch z)⟩
  |lol xs=>exact .inr ⟨rfl,λ_ _ z=>(nomatch z),λ_ _ z=>(nomatch z)⟩
def dI(m:ME)(ms:MA):ME:=λρ S=>(m ρ S).bind λk S1=>eZ k S1 λk=>(ms ρ S1).bind λys S2=>iD k ys S2
theorem Ba{k:Nat}{x:V}(s:aY K p S H)(r:cU K p H (.ref k) x)(n1:∀n l,S[k]?≠some (.dic n l))(n2:∀n l,S[k]?≠some (.dol n l)):Kd K "list" x H:=by
 obtain⟨a,e,rfl⟩:=r;have hk:k<S.length:=by
  have:=(cq.mp e).1;rw[<-s.len];exact this
 have z:=s.obj k a S[k] e (au hk);cases y:S[k]with
 |lst xs=>
  rw[y]at z;obtain⟨vs,h,_⟩:=z;exact .inl ⟨rfl,vs,bU.of h⟩
 |lol xss=>
  rw[y]at z;obtain⟨bs,h,_⟩:=z;exact .inl ⟨rfl,_,bU.of h⟩
 |dic n l=>exact absurd (by rw[au hk,y]) (n1 n l)
 |dol n l=>exact absurd (by rw[au hk,y]) (n2 n l)
theorem Pu{apos cpos:ai}(ho:aZ K cl E X a m)(ha:eX K cl E X [e] ms)(hbase:attributeBase a "append" X.env (eval a X.env)=eval a X.env:=by rfl)
  (hfew:((backTo cpos (starEach [e] X.env)).all (λx=>!x.1)&&(backToKw cpos (keywordEach [] X.env)).all (λx=>x.1.isSome)&&decide (([e]:List ag).length+([]:List kg).length+(if([]:List kg).isEmpty then 0 else 1)<30))=true:=by rfl)
  (hline:(apos.endLine==cpos.line)=true:=by rfl)(hs:starEach [e] X.env=[(false,eval e X.env)]:=by rfl):aZ K cl E X (.Call (.Attribute a "append" apos) [e] [] cpos) (dI m ms):=by
 intro hK;subst hK;refine PE.imp (Dc xy wv o0 uJ (ho rfl) (ha rfl) hbase hfew hline hs rfl) ?_
 rintro σ H Q ⟨p,S,ρ,s,ev,h⟩
 refine cR s ev h λq H1 k x S1 st s1 e1 r1 h1=>?_;cases k with
 |pv v=>exact h1.elim
 |ref k=>
  have h1:cC X.K cl (cU X.K) q H1 (eZ (.ref k) S1 λk=>(ms ρ S1).bind λys S2=>iD k ys S2) Q E:=h1;rcases uS k S1 (λk=>(ms ρ S1).bind λys S2=>iD k ys S2)with z |⟨z,n1,n2⟩
  .rw[z]at h1
   exact h1.elim
  rw[z]at h1;refine⟨Ba s1 r1 n1 n2,cR s1 e1 h1 λq2 H2 ys xs S2 st2 s2 e2 r2 h2=>?_⟩;obtain⟨a,ea,rfl⟩:=st2.repA r1;unfold iD at h2;split at h2
  .rename_i y
   cases r2 with
   |cons r3 r4=>
    cases r4;rename_i x;cases z:S2[k]? with
    |none=>rw[z]at h2;exact h2.elim
    |some o=>
     cases o with
     |lol _=>simp only[z]at h2;exact h2.elim
     |dic _ _=>simp only[z]at h2;exact h2.elim
     |dol _ _=>simp only[z]at h2;exact h2.elim
     |lst zs=>
      simp only[z]at h2;obtain⟨vs,h3,l3,r4⟩:=s2.obj k a _ ea z;split at h2
      .rename_i hl
       rw[r4.length]at hl;have hz:=iQ;refine⟨a,vs,x,rfl,rfl,h3,by omega,?_⟩;obtain⟨eK,sm3⟩:=s2.write ea (cq.mp z).1 (ps:=zs++[y]) (vs:=vs++[x]) (by rw[bj,kj];omega) (r4.append (.cons r3 .nil));exact h2 _ _ .non eK sm3 (by show aT X.K q2.c (bA H2 a (.lst (vs++[x]))) .non .non;unfold aT;rfl)
      .exact h2.elim
  .exact h2.elim
def oI(k:Nat)(ys:BD)(S:aG):bQ AV:=match ys with
 |[.pv (.int i)]=>if-9223372036854775808<=i/\i<9223372036854775808 then(match S[k]? with
  |some (.lst xs)=>match seqIndex? i xs.length with
   |some j=>match xs[j]? with
    |some v=>.ok (.pv v) (S.set k (.lst (xs.eraseIdx j)))
    |none=>.fail
   |none=>.fail
  |_=>.fail)else .fail
 |_=>.fail
def nA(m:ME)(ms:MA):ME:=λρ S=>(m ρ S).bind λk S1=>eZ k S1 λk=>(ms ρ S1).bind λys S2=>oI k ys S2
theorem N9{apos cpos:ai}(ho:aZ K cl E X a m)(ha:eX K cl E X [e] ms)(hbase:attributeBase a "pop" X.env (eval a X.env)=eval a X.env:=by rfl)
  (hfew:((backTo cpos (starEach [e] X.env)).all (λx=>!x.1)&&(backToKw cpos (keywordEach [] X.env)).all (λx=>x.1.isSome)&&decide (([e]:List ag).length+([]:List kg).length+(if([]:List kg).isEmpty then 0 else 1)<30))=true:=by rfl)
  (hline:(apos.endLine==cpos.line)=true:=by rfl)(hs:starEach [e] X.env=[(false,eval e X.env)]:=by rfl):aZ K cl E X (.Call (.Attribute a "pop" apos) [e] [] cpos) (nA m ms):=by
 intro hK;subst hK;refine PE.imp (Dc xy PySem.F.slot_list_pop PySem.F.type_list_pop Ly (ho rfl) (ha rfl) hbase hfew hline hs rfl) ?_
 rintro σ H Q ⟨p,S,ρ,s,ev,h⟩
 refine cR s ev h λq H1 k x S1 st s1 e1 r1 h1=>?_;cases k with
 |pv v=>exact h1.elim
 |ref k=>
  have h1:cC X.K cl (cU X.K) q H1 (eZ (.ref k) S1 λk=>(ms ρ S1).bind λys S2=>oI k ys S2) Q E:=h1;rcases uS k S1 (λk=>(ms ρ S1).bind λys S2=>oI k ys S2)with z |⟨z,n1,n2⟩
  .rw[z]at h1
   exact h1.elim
  rw[z]at h1;refine⟨Ba s1 r1 n1 n2,cR s1 e1 h1 λq2 H2 ys xs S2 st2 s2 e2 r2 h2=>?_⟩;obtain⟨a,ea,rfl⟩:=st2.repA r1;unfold oI at h2;split at h2
  .rename_i i
   cases r2 with
   |cons r3 r4=>
    cases r4;rename_i x;have ex:x=.int i:=(show eR X.K q2 H2 (.int i) x from .inl r3).int;subst ex;split at h2
    .rename_i hi
     cases z:S2[k]? with
     |none=>rw[z]at h2;exact h2.elim
     |some o=>
      cases o with
      |lol _=>simp only[z]at h2;exact h2.elim
      |dic _ _=>simp only[z]at h2;exact h2.elim
      |dol _ _=>simp only[z]at h2;exact h2.elim
      |lst zs=>
       simp only[z]at h2;obtain⟨vs,h3,l3,r4⟩:=s2.obj k a _ ea z;cases y:seqIndex? i zs.length with
       |none=>simp only[y]at h2;exact h2.elim
       |some j=>
        simp only[y]at h2;cases yv:zs[j]? with
        |none=>simp only[yv]at h2;exact h2.elim
        |some v=>
         simp only[yv]at h2;obtain⟨u,eu,ru⟩:=r4.get yv;refine⟨a,vs,i,j,u,rfl,rfl,h3,hi.1,hi.2,by rw[<-r4.length];exact y,eu,?_⟩;obtain⟨eK,sm3⟩:=s2.write ea (cq.mp z).1 (ps:=zs.eraseIdx j) (vs:=vs.eraseIdx j) (fk (yS vs j) l3) (r4.eraseIdx j);exact h2 _ _ u eK sm3 (eK.rep ru)
    .exact h2.elim
  .exact h2.elim
def qA(k:Nat)(i:AV)(v:AV)(S:aG):bQ Unit:=match i,v with
 |.pv (.int i),.pv v=>match S[k]? with
  |some (.lst xs)=>match aW xs.length i with
   |some j=>.ok () (S.set k (.lst (xs.set j v)))
   |none=>.fail
  |_=>.fail
 |_,_=>.fail
def nZ(mo mi mv:ME):MS:=λρ S=>cN.of (mv ρ S) λv S1=>cN.of (mo ρ S1) λk S2=>cN.of (mi ρ S2) λi S3=>cN.of (eZ k S3 λk=>qA k i v S3) λ_ S4=>.nx ρ S4
theorem Cv{o i v:ag}{mo mi mv:ME}{tpos:ai}(hv:aZ K cl E X v mv)(ho:aZ K cl E X o mo)(hi:aZ K cl E X i mi)
  (ha:∀v,assign (.Subscript o i tpos) X.env v=(do
   let ov <-holding [v] (eval o X.env)
   let iv <-holding [v,ov] (eval i X.env)
   standAt tpos
   holding [v,ov,iv] (setItem ov iv v)
   release [v,ov,iv] []):=by intro _;rfl)
  (hs:swapsWithSole [.Subscript o i tpos] v pos.line X.env=pure false:=by rfl)(hw:swappedStores [.Subscript o i tpos] v X.env=pure none:=by rfl)
  (h1:(assignEach [.Subscript o i tpos] X.env).map (·.2)=[assign (.Subscript o i tpos) X.env]:=by rfl):eT K cl E X (.Assign [.Subscript o i tpos] v pos) (nZ mo mi mv):=by
 intro hK;subst hK;refine PS.imp (Jn (hv rfl) (Hn (ho rfl) (hi rfl) Qj ha) hs hw h1) ?_
 rintro D σ H ⟨p,S,ρ,s,ev,h⟩
 refine jN s ev h λq H1 v x S1 st s1 e1 r1 h1=>?_;refine jN s1 e1 h1 λq2 H2 k y S2 st2 s2 e2 r2 h2=>?_;refine jN s2 e2 h2 λq3 H3 i z S3 eK s3 e3 r3 h3=>?_;cases k with
 |pv _=>exact h3.elim
 |ref k=>
  obtain⟨a,ea,rfl⟩:=eK.repA r2;have rv:=eK.repA (st2.repA r1);have h3:eH X.K cl q3 H3 (cN.of (eZ (.ref k) S3 λk=>qA k i v S3) λ_ S4=>.nx ρ S4) D E:=h3;rcases uS k S3 (λk=>qA k i v S3)with z0 |⟨z0,_,_⟩
  .rw[z0]at h3
   exact h3.elim
  rw[z0]at h3;unfold qA at h3;split at h3
  .rename_i ii vv _
   have ez:z=.int ii:=(show eR X.K q3 H3 (.int ii) z from .inl r3).int;subst ez;cases w:S3[k]? with
   |none=>rw[w]at h3;exact h3.elim
   |some o=>
    cases o with
    |lol _=>simp only[w]at h3;exact h3.elim
    |dic _ _=>simp only[w]at h3;exact h3.elim
    |dol _ _=>simp only[w]at h3;exact h3.elim
    |lst zs=>
     simp only[w]at h3;obtain⟨vs,hh,ll,rr⟩:=s3.obj k a _ ea w;cases y:aW zs.length ii with
     |none=>simp only[y]at h3;exact h3.elim
     |some j=>
      simp only[y]at h3;refine⟨a,vs,ii,j,rfl,rfl,hh,by rw[<-rr.length];exact y,?_⟩;obtain⟨st4,sm4⟩:=s3.write ea (cq.mp w).1 (ps:=zs.set j vv) (vs:=vs.set j x) (by rw[fu];exact ll) (aU.set rv j rr);exact h3 _ _ _ st4 sm4 (st4.repE e3)
  .exact h3.elim
def fJ:BA->BA->BA
 |x::xs,y::ys=>.tup [x,y]::fJ xs ys
 |_,_=>[]
theorem zW:∀(xs ys:BA),(fJ xs ys).length=min xs.length ys.length
 |[],ys=>by cases ys<;>simp[fJ]
 |x::xs,[]=>by simp[fJ]
 |x::xs,y::ys=>by
  unfold fJ;rw[cv,zW xs ys,cv,cv];omega
theorem Lj:∀{xs ys:BA}{i:Nat}{v:PV},(fJ xs ys)[i]?=some v->∃x y,xs[i]?=some x/\ys[i]?=some y/\v=.tup [x,y]
 |[],ys,i,v,e=>by cases ys<;>simp[fJ]at e
 |x::xs,[],i,v,e=>by simp[fJ]at e
 |x::xs,y::ys,0,v,e=>by
  unfold fJ at e;simp at e;exact⟨x,y,rfl,rfl,e.symm⟩
 |x::xs,y::ys,i+1,v,e=>by
  unfold fJ at e;obtain⟨a,b,h1,h2,h3⟩:=Lj (xs:=xs) (ys:=ys) (i:=i) (v:=v) (by simpa using e);exact⟨a,b,by simpa using h1,by simpa using h2,h3⟩
def jS:BD->aG->bQ (BA×Gd)
 |[a,b],S=>match bT a S with
  |.ok xs _=>match bT b S with
   |.ok ys _=>.ok (fJ xs.1 ys.1,xs.2++ys.2) S
   |_=>.fail
  |_=>.fail
 |_,_=>.fail
def gJ(ms:MA):MI:=λρ S=>(ms ρ S).bind jS
theorem Oj{a:AV}{x:V}{xs:BA×Gd}{S':aG}(s:aY K p S H)(r:cU K p H a x)(e:bT a S=.ok xs S'):∃f ad vs,x=.ref ad/\iX f K H ad vs/\xs.1.length<=sizeLine/\∀q H1 S1,bR p H q H1->aY K q S1 H1->gA xs.2 S1->∃vs,iX f K H1 ad vs/\aU K q.c H1 xs.1 vs:=by
 cases a with
 |ref j=>
  obtain⟨a,e1,rfl⟩:=r;unfold bT at e;dsimp only at e;cases z:S[j]? with
  |none=>rw[z]at e;cases e
  |some o=>
   cases o with
   |lol _=>rw[z]at e;cases e
   |dic _ _=>rw[z]at e;cases e
   |dol _ _=>rw[z]at e;cases e
   |lst ys=>
    rw[z]at e;cases e;obtain⟨vs,h1,l1,r1⟩:=s.obj j a _ e1 z;refine⟨false,a,vs,rfl,bU.of h1,by rw[r1.length];exact l1,λq H1 S1 st sm g=>?_⟩;obtain⟨ws,h2,l2,r2⟩:=sm.obj j a _ (st.at_ e1) (g (j,ys) bo);exact⟨ws,bU.of h2,r2⟩
 |pv v=>
  cases v with
  |lst ys=>
   cases e;have r:aT K p.c H (.lst ys) x:=r;unfold aT at r;obtain⟨a,vs,rfl,l,z,r⟩:=r;exact⟨false,a,vs,rfl,l.sq,by rw[r.length];exact z,λq H1 S1 st sm g=>⟨vs,(st.lat l).sq,st.reps r⟩⟩
  |tup ys=>
   cases e;have r:aT K p.c H (.tup ys) x:=r;unfold aT at r;obtain⟨a,vs,rfl,l,z,r⟩:=r;exact⟨true,a,vs,rfl,l,by rw[r.length];exact z,λq H1 S1 st sm g=>⟨vs,st.tup l,st.reps r⟩⟩
  |_=>cases e
theorem J5{elts:List ag}{x1:Nat}{tp p:ai}(hg:Gl X "zip")(hm:X.mg "zip"=none)(hl:eX K cl E X [a,b] ms)(hs:starEach [a,b] X.env=[(false,eval a X.env),(false,eval b X.env)]:=by rfl)(hs2:starEach [b] X.env=[(false,eval b X.env)]:=by rfl):
  PIp K cl E X (.Tuple elts x1 tp) (.Call (.Name "zip" p) [a,b] [] pos) (gJ ms):=by
 intro hK;subst hK;refine PI.imp (V3 hg hm (hl rfl) hs hs2) ?_
 rintro σ H R ⟨p,S,ρ,s,ev,h⟩
 refine cR s ev h λq H' as xs S' stp sm ev r k=>?_;unfold jS at k;split at k
 .rename_i u v
  cases r with
  |cons r1 r2=>
   cases r2 with
   |cons r2 r3=>
    cases r3;split at k
    .rename_i xs1 S1 hx
     split at k
     .rename_i ys1 S2 hy
      obtain⟨f1,a1,vs1,rfl,q1,z1,st1⟩:=Oj sm r1 hx;obtain⟨f2,a2,vs2,rfl,q2,z2,st2⟩:=Oj sm r2 hy;refine⟨f1,a1,f2,a2,vs1,vs2,rfl,q1,q2,cC.ret (R:=fQ X.K) k sm ?_⟩;refine⟨by rw[zW];omega,λq3 H3 S3 eK sm3 g3=>?_⟩;obtain⟨ws1,w1,rr1⟩:=st1 q3 H3 S3 eK sm3 λg hg=>g3 g (ju _ hg);obtain⟨ws2,w2,rr2⟩:=st2 q3 H3 S3 eK sm3 λg hg=>g3 g (gr _ hg);refine⟨λi v e=>?_,?_⟩
      .obtain⟨x,y,ex,ey,rfl⟩:=Lj e
       obtain⟨x',ex',rx⟩:=rr1.get ex;obtain⟨y',ey',ry⟩:=rr2.get ey;refine⟨⟨ws1,ws2,x',y',w1,w2,ex',ey'⟩,λz H4 hz=>?_⟩;obtain⟨t,x2,y2,ht,rfl,rfl,g1,g2⟩:=hz;have e1:=(g1 ws1 w1).symm.trans ex';have e2:=(g2 ws2 w2).symm.trans ey';cases e1;cases e2;refine⟨fS ht,lH sm3 (.cons rx (.cons ry .nil)) (by show 2<=sizeLine;decide) ht⟩
      .refine⟨ws1,ws2,w1,w2,?_⟩
       show(fJ xs1.1 ys1.1).length=_\/_;rw[zW,rr1.length,rr2.length];omega
     .exact k.elim
    .exact k.elim
 .exact k.elim
def iT:Nat->BA->BA
 |_,[]=>[]
 |n,x::xs=>.tup [.int n,x]::iT (n+1) xs
theorem zE:∀(n:Nat)(xs:BA),(iT n xs).length=xs.length
 |_,[]=>rfl
 |n,x::xs=>by
  unfold iT;rw[cv,zE (n+1) xs,cv]
theorem Ng:∀{n:Nat}{xs:BA}{i:Nat}{v:PV},(iT n xs)[i]?=some v->∃x,xs[i]?=some x/\v=.tup [.int ((n+i:Nat):Int),x]
 |n,[],i,v,e=>by simp[iT]at e
 |n,x::xs,0,v,e=>by
  unfold iT at e;simp at e;exact⟨x,rfl,e.symm⟩
 |n,x::xs,i+1,v,e=>by
  unfold iT at e;obtain⟨y,h1,h2⟩:=Ng (n:=n+1) (xs:=xs) (i:=i) (v:=v) (by simpa using e);refine⟨y,by simpa using h1,?_⟩;rw[h2,show n+1+i=n+(i+1) by omega]
def Ob:BD->aG->bQ (BA×Gd)
 |[.pv (.lst xs)],S=>.ok (iT 0 xs,[]) S
 |[.ref k],S=>match bT (.ref k) S with
  |.ok xs _=>.ok (iT 0 xs.1,xs.2) S
  |_=>.fail
 |_,_=>.fail
def wD(ms:MA):MI:=λρ S=>(ms ρ S).bind Ob
theorem Am{xs:BA}{G:Gd}{a:Addr}(z:xs.length<=sizeLine)(st1:∀q H1 S1,bR p H q H1->aY K q S1 H1->gA G S1->∃vs,bU K H1 a vs/\aU K q.c H1 xs vs):fQ K p H (iT 0 xs,G) (Cd K a):=by
 refine⟨by rw[zE];exact z,λq3 H3 S3 eK sm3 g3=>?_⟩;obtain⟨ws1,w1,rr1⟩:=st1 q3 H3 S3 eK sm3 g3;refine⟨λi v e=>?_,?_⟩
 .obtain⟨x,ex,rfl⟩:=Ng e
  obtain⟨x',ex',rx⟩:=rr1.get ex;refine⟨⟨ws1,x',w1,ex'⟩,λz H4 hz=>?_⟩;obtain⟨t,y2,ht,rfl,rfl,g1⟩:=hz;have e1:=(g1 ws1 w1).symm.trans ex';cases e1;refine⟨fS ht,lH sm3 (.cons ?_ (.cons rx .nil)) (by show 2<=sizeLine;decide) ht⟩;rw[Nat.zero_add];exact gW (v:=.int _) rfl
 .refine⟨ws1,w1,?_⟩
  show _<=(iT 0 xs).length;rw[zE,rr1.length];exact ar _
theorem Cz{elts:List ag}{x1:Nat}{tp p:ai}(hg:Gl X "enumerate")(hm:X.mg "enumerate"=none)(hl:eX K cl E X [l] ms)(hs:starEach [l] X.env=[(false,eval l X.env)]:=by rfl):
  PIp K cl E X (.Tuple elts x1 tp) (.Call (.Name "enumerate" p) [l] [] pos) (wD ms):=by
 intro hK;subst hK;refine PI.imp (J2 hg hm (hl rfl) hs) ?_
 rintro σ H R ⟨p,S,ρ,s,ev,h⟩
 refine cR s ev h λq H' as xs S' stp sm ev r k=>?_;unfold Ob at k;split at k
 .rename_i ys
  cases r with
  |cons r1 r2=>
   cases r2;rename_i x;have r1:aT X.K q.c H' (.lst ys) x:=r1;unfold aT at r1;obtain⟨a,vs,rfl,l,z,r⟩:=r1;exact⟨a,rfl,⟨vs,l.sq⟩,cC.ret (R:=fQ X.K) k sm (Am (by rw[r.length];exact z) λq H1 S1 st sm g=>⟨vs,(st.lat l).sq,st.reps r⟩)⟩
 .rename_i j
  cases r with
  |cons r1 r2=>
   cases r2;split at k
   .rename_i xs1 S1 hx
    obtain⟨a,e1,rfl⟩:=r1;cases z:S'[j]? with
    |none=>unfold bT at hx;simp only[z]at hx;cases hx
    |some o=>
     cases o with
     |lol _=>unfold bT at hx;simp only[z]at hx;cases hx
     |dic _ _=>unfold bT at hx;simp only[z]at hx;cases hx
     |dol _ _=>unfold bT at hx;simp only[z]at hx;cases hx
     |lst ys=>
      unfold bT at hx;simp only[z]at hx;cases hx;obtain⟨vs,h1,l1,r1⟩:=sm.obj j a _ e1 z;refine⟨a,rfl,⟨vs,bU.of h1⟩,cC.ret (R:=fQ X.K) k sm (Am (by rw[r1.length];exact l1) λq H1 S1 st sm g=>?_)⟩;obtain⟨ws,h2,l2,r2⟩:=sm.obj j a _ (st.at_ e1) (g (j,ys) bo);exact⟨ws,bU.of h2,r2⟩
   .exact k.elim
 .exact k.elim
end
theorem qS{A:ao}{k:Nat}(hr:dF k A):A.units+8<cLine:=by
 have:=hr.units;omega
section
variable{K:ae}{cl:Str->Addr}{E:XK}{X:Cx}{a b c e l tg:ag}{es:List ag}{m ma mb:ME}{ms:MA}{pos:ai}{p q:Ph}{H H':Hp}{S:aG}
def kG(n:String):PV->BB
 |.int _=>if n="int" then some (.bl true)else if n="bool" then some (.bl false)else none
 |.tup _=>if n="tuple" then some (.bl true)else none
 |.lst _=>if n="list" then some (.bl true)else none
 |.str _=>if n="str" then some (.bl true)else none
 |.bl _=>if n="bool" then some (.bl true)else none
 |_=>none
theorem pJ(K:ae)(n:String):gg K (.type n) (.type n)=some true:=by
 unfold gg;rw[if_pos (beq_self_eq_true _)]
def Mc(K:ae)(n:String):V->Hp->VK->Prop:=λx H Q=>(∃t b,jC K H x t/\gg K t (.type n)=some b/\Q (.bl b) H)\/(n="tuple"/\∃a xs,x=.ref a/\dA K H a xs/\Q (.bl true) H)\/(n="list"/\∃a xs,x=.ref a/\bU K H a xs/\Q (.bl true) H)
theorem Ug(n:String):iE X (.builtin "isinstance") (λxs H Q=>∃x,xs=[x,.ty n]/\Mc X.K n x H Q):=by
 intro BE s σ H xs us Q I r h;obtain⟨x,rfl,h⟩:=h;obtain⟨u,c,rfl,rx,rc⟩:=wE r;cases(show c=ly n from rc);rcases h with⟨t,b,ty,e,q⟩|⟨rfl,a,xs,rfl,t,q⟩|⟨rfl,a,xs,rfl,t,q⟩
 .exact Au I rx ty e λtk=>⟨.bl b,H,I.tok tk,rfl,q⟩
 .cases rx
  obtain⟨its,_,⟨o,h1,h2,_⟩,_⟩:=I.tuple t;exact il zi I.kIn ⟨o,h1,h2⟩ (pJ X.K "tuple") (λz=>nomatch z) λtk=>⟨.bl true,H,I.tok tk,rfl,q⟩
 .cases rx
  obtain⟨its,_,pl,_⟩:=I.list t;obtain⟨o,h1,h2,_⟩:=pl.isList;exact il vt I.kIn ⟨o,h1,h2⟩ (pJ X.K "list") (λz=>nomatch z) λtk=>⟨.bl true,H,I.tok tk,rfl,q⟩
theorem aaB(n:String):tO K (Mc K n) (kG n):=λ{p S H a c x Q} s ra e k=>by
 have fin:∀b,c=.bl b->Q (.bl b) H:=λb h=>by
  subst h;exact k H _ (dH.refl H) (by unfold aT;rfl)
 cases a with
 |int i=>
  cases ra.int;unfold kG at e;dsimp only at e;split at e
  .rename_i hn
   cases e;subst hn;exact .inl ⟨_,true,.int i,pJ K _,fin _ rfl⟩
  .split at e
   .rename_i hn
    cases e;subst hn;exact .inl ⟨_,false,.int i,R0 K,fin _ rfl⟩
   .cases e
 |bl i=>
  cases ra.bl;unfold kG at e;dsimp only at e;split at e
  .rename_i hn
   cases e;subst hn;exact .inl ⟨_,true,.bl i,pJ K _,fin _ rfl⟩
  .cases e
 |str i=>
  cases ra.str;unfold kG at e;dsimp only at e;split at e
  .rename_i hn
   cases e;subst hn;exact .inl ⟨_,true,.str i,pJ K _,fin _ rfl⟩
  .cases e
 |tup xs=>
  obtain⟨a,vs,rfl,t,_,_⟩:=ra.tup;unfold kG at e;dsimp only at e;split at e
  .rename_i hn
   cases e;exact .inr (.inl ⟨hn,a,vs,rfl,t,fin _ rfl⟩)
  .cases e
 |lst xs=>
  obtain⟨a,vs,rfl,t,_,_⟩:=ra.lst;unfold kG at e;dsimp only at e;split at e
  .rename_i hn
   cases e;exact .inr (.inr ⟨hn,a,vs,rfl,t,fin _ rfl⟩)
  .cases e
 |non=>cases e
theorem P4{n:String}{t:Str}{p p2:ai}(hg:Gl X "isinstance")(hm:X.mg "isinstance"=none)(hgt:Gl X t)(hmt:X.mg t=none)(hv:bootBuiltins t=some (.type n))(ha:aZ K cl E X a m)
  (htn:t≠"__name__":=by decide)(htd:(t==("__debug__":Str))=false:=by decide)
  (he:starEach [a,.Name t p2] X.env=(false,eval a X.env)::starEach [.Name t p2] X.env:=by rfl)(he2:starEach [.Name t p2] X.env=[(false,eval (.Name t p2) X.env)]:=by rfl)(hpl:(backTo pos (starEach [.Name t p2] X.env)).any (·.1)=false:=by rfl):
  aZ K cl E X (.Call (.Name "isinstance" p) [a,.Name t p2] [] pos) (bK (kG n) m):=by
 intro hK;subst hK;refine PE.imp (rK (Ug n) hg hm ue (gX (ha rfl) (gX (Hl hgt hmt hv (v:=.ty n) rfl htn htd) kR he2) he) (by decide) (by decide) he hpl) ?_
 rintro σ H Q ⟨p,S,ρ,s,ev,h⟩
 exact cR s ev h λq H' as x S' stp sm ev r k=>⟨x,rfl,uG (aaB n) sm r k⟩
def xA(f:Int->Int->Int)(i:Nat)(ρ:bP)(v:AV)(S:aG):cN:=match ρ[i]? with
 |some (some (.pv (.int x)))=>match v with
  |.pv (.int y)=>.nx (ρ.set i (some (.pv (.int (f x y))))) S
  |_=>.fail
 |_=>.fail
def kS(f:Int->Int->Int)(i:Nat)(m:ME):MS:=λρ S=>match ρ[i]? with
 |some (some (.pv (.int _)))=>cN.of (m ρ S) (xA f i ρ)
 |_=>.fail
theorem Mi{i:Nat}{x:Str}{op:ql}{f:Int->Int->Int}{pos':ai}(hN:X.N.Nodup)(hi:X.N[i]?=some x)(hx:iW X.env.scope x)(he:aZ K cl E X e m)(ho:L2.PIp X op (Jd f))
  (hf:X.fn x=true\/X.env.scope.names.lookup x=some .local:=by first |exact .inl rfl |exact .inr rfl |assumption):eT K cl E X (.AugAssign (.Name x pos') op e pos) (kS f i m):=by
 intro hK;subst hK;refine PS.imp (Sn hN hi hx (he rfl) ho hf) ?_
 rintro D σ H ⟨p,S,ρ,s,ev,h⟩
 unfold kS at h;split at h
 .rename_i x0 hx0
  obtain⟨v,e1,r1⟩:=ev.at_ i _ hx0;refine⟨v,e1,jN s ev h λq H' a b S' stp sm ev' r k=>?_⟩;have ev2:v=.int x0:=(show eR X.K p H (.int x0) v from .inl r1).int;unfold xA at k;rw[hx0]at k;dsimp only at k;split at k
  .rename_i y0
   have eb:b=.int y0:=(show eR X.K q H' (.int y0) b from .inl r).int;exact⟨x0,y0,ev2,eb,eH.nxD k sm (ev'.set (v:=.pv (.int (f x0 y0))) (x:=.int (f x0 y0)) (by show aT X.K q.c H' _ _;unfold aT;rfl) i)⟩
  .exact k.elim
 .exact h.elim
def wG(K:ae):Sp:=λvs H Q _=>∃(a:Addr)(ns:AS),vs=[.ref a]/\bU K H a (ns.map V.int)/\ns.length<=63/\∀H',Q (.bl true) H'
theorem B7{f:FM}(ht:∀ns:AS,ns.length<=63->∃S,f [.pv (.lst (ns.map .int))] []=.ok (.pv (.bl true)) S){vs:List V}{H:Hp}{Q:VK}{E:XK}(h:wG K vs H Q E):kH K cl f vs H Q E:=by
 obtain⟨a,ns,rfl,hS,hl,hQ⟩:=h;obtain⟨S,e⟩:=ht ns hl;have rs:∀(ns:AS),aU K (λ_=>False) H (ns.map .int) (ns.map V.int):=λns=>by
  induction ns with
  |nil=>exact .nil
  |cons n ns ih=>exact .cons (by unfold aT;rfl) ih
 refine⟨⟨[],λ_=>False,λ_=>False⟩,[],[.pv (.lst (ns.map .int))],⟨List.nodup_nil,rfl,(λ_ h=>absurd h (fe)),(λ_ h=>h),(λ_ h=>h.elim),(λk a o e=>by simp at e)⟩,.cons ?_ .nil,?_⟩
 .show aT K (λ_=>False) H (.lst (ns.map .int)) (.ref a)
  unfold aT;refine⟨a,_,rfl,?_,?_,rs ns⟩
  .rcases hS with(h |h) |h
   .exact .inl ⟨h,λz=>z⟩
   .exact .inr (.inl h)
   .exact .inr (.inr h)
  .rw[aj,iQ]
   omega
 .rw[e]
  intro q H' x st sm r;have r:aT K q.c H' (.bl true) x:=r;unfold aT at r;rw[r];exact hQ H'
end
section
variable{K:ae}{cl:Str->Addr}{E:XK}{X:Cx}{e:ag}{es:List ag}{ms:MA}{p q:Ph}{H H':Hp}{S:aG}
theorem dJ.forget{ρ:bP}{σ:St}(h:dJ K p H ρ σ)(i:Nat)(x:Option V):dJ K p H (ρ.set i none) (σ.set i x):=by
 refine⟨by rw[fu,fu,h.len],λj u e=>?_⟩
 by_cases q:i=j
 .subst q
  by_cases l:i<ρ.length
  .rw[gf l]at e
   cases e
  .rw[k8 (by rw[fu];omega)]at e
   cases e
 .rw[gm q]at e⊢
  exact h.at_ j u e
variable{k:Nat}{f:Addr}{fd:br}{ps:List Str}{g:FM}{dvs:List V}{ds:AW}{dv:BA}{x:Str}{pp pos pos1 pos2 pos3 pc:ai}{c n:Str}{i nn:Nat}{BJ:Stmt}{body:List Stmt}{newId:String}{up:bP->bP}
end
end L2.Pp
namespace L2
open PySem PySem.Spec PyProof.Rows Bn
section
variable{X:Cx}{k:Nat}{f:Addr}{fd:br}{ps:List Str}{sp:Sp}{dvs:List V}{ds:AW}{x:Str}{p pos pos1 pos2 pos3 pc:ai}{e:ag}{es:List ag}{t:TA}{c n:Str}{C:Addr}{i:Nat}{BJ:Stmt}{body:List Stmt}{newId:String}
end
end L2
namespace L2.Pp
open PySem PySem.Spec PyProof.Rows Bn
section
variable{K:ae}{cl:Str->Addr}{E:XK}{X:Cx}{e:ag}{es:List ag}{ms:MA}{p q:Ph}{H H':Hp}{S:aG}
variable{k:Nat}{f:Addr}{fd:br}{ps:List Str}{g:FM}{dvs:List V}{ds:AW}{dv:BA}{x:Str}{pp pos pos1 pos2 pos3 pc:ai}{c n:Str}{i nn:Nat}{BJ:Stmt}{body:List Stmt}{newId:String}{up:bP->bP}
end
section
variable{prog:Program}{w:am}{A:ao}{E:Value->aa->Prop}{s:aa}
end
end L2.Pp
namespace L2
open PySem PyProof.Rows
end L2
namespace L2.Pp
open PySem
end L2.Pp
namespace L2
open PySem PySem.Spec PyProof.Rows Bn
section
variable{X:Cx}
theorem Ke(is:AS):∀j,j<=is.length->preSum (λi=>is.getD i 0) j=(is.take j).sum
 |0,_=>by simp[preSum]
 |j+1,h=>by
  have hj:j<is.length:=h;rw[preSum,Ke is j (by omega),List.take_add_one,au hj,Option.toList_some,List.sum_append,List.sum_singleton];simp only[cy,au hj,o4]
theorem Ov(hc:X.calm=true):iE X (.builtin "sum") (λxs H Q=>∃(a:Addr)(is:AS),xs=[.ref a]/\bU X.K H a (is.map V.int)/\Q (.int is.sum) H):=by
 intro BE s σ H xs us Q I r h;obtain⟨a,is,rfl,hq,q⟩:=h;obtain⟨u,rfl,ru⟩:=kD r;cases ru;obtain⟨its,rv,pl,hz⟩:=I.list hq;have hl:is.length=its.length:=by
  have:=rv.length
  rwa[aj]at this
 refine call_sum_walkG (xn pl.isList ?_);have ha:a<s.heap.objs.size:=by
  obtain⟨o,ho,_⟩:=pl.isList;exact bn ho
 refine⟨_,_,_,_,_,_,λi=>is.getD i 0,rfl,Walks.list (prog:=X.prog) (w:=X.w) (A:=X.A.in1) (show X.A.in1.handled=none from I.ok.hd hc) s.heap.objs.size a (dm ha) its.toArray,⟨⟨_,du _ rfl,rfl,rfl⟩,Heap.IsList.at pl.isList λo e=>az _ e⟩,λb hb=>?_,λi v hv=>?_,λh' tk t' kp=>?_⟩
 .have hb':b=s.heap.objs.size\/b=a:=by simpa using hb
  rw[jn];rcases hb' with e |e<;>rw[e]
  .exact xx _
  .exact ya ha
 .have hv':its[i]?=some v:=by simpa using hv
  have hi:i<is.length:=by
   have:=(cq.mp hv').1;omega
  obtain⟨u,hu,ru⟩:=rv.get (i:=i) (x:=.int is[i]) (by rw[dj,au hi];rfl);rw[hv']at hu;cases hu;obtain⟨t,ht⟩:=(show ∃t,v=rm is[i] t from ru);exact⟨t,by rw[ht];simp[cy,hi]⟩
 .have e:preSum (λi=>is.getD i 0) its.toArray.size=is.sum:=by
   rw[aw,<-hl,Ke is _ (ar _),yb]
  show EP X BE σ Q (.int (preSum (λi=>is.getD i 0) its.toArray.size) t') _;rw[e];have I1:aH X BE σ H {s with heap:=s.heap.push {cls:=.type "list_iterator",data:=.fields #[.ref a,.int 0 0]},toks:=s.toks}:=I.kept λb o z=>az _ z;have fp:fX X BE H s.heap.objs.size:=I.fpOk (ar _) (I.hok.fresh (ar _));obtain⟨f0,f1,f2,f3,f4,f5⟩:=fp;exact⟨.int is.sum,H,I1.turned (λb o hb z=>kp b o (by simpa using hb) z) f0 f1 f3 f4 f5,⟨t',rfl⟩,q⟩
end
end L2
namespace L2.Pp
open PySem PySem.Spec PyProof.Rows Bn
section
variable{K:ae}{cl:Str->Addr}{E:XK}{X:Cx}
def iB:BA->Option AS
 |[]=>some []
 |.int b::r=>match iB r with
  |some bs=>some (b::bs)
  |none=>none
 |_::_=>none
theorem rE{c:Addr->Prop}{H:Hp}:∀{xs:BA}{bs:AS}{vs:List V},iB xs=some bs->aU K c H xs vs->vs=bs.map V.int
 |[],bs,vs,e,r=>by
  cases e;unfold aU at r;exact r
 |.int b::xs,bs,vs,e,r=>by
  unfold iB at e;split at e
  .rename_i cs h
   cases e;unfold aU at r;obtain⟨v,w,rfl,r1,r2⟩:=r;unfold aT at r1;rw[r1,rE h r2];rfl
  .cases e
 |.non::_,_,_,e,_=>by cases e
 |.bl _::_,_,_,e,_=>by cases e
 |.str _::_,_,_,e,_=>by cases e
 |.tup _::_,_,_,e,_=>by cases e
 |.lst _::_,_,_,e,_=>by cases e
def kI:BA->BB
 |[.lst xs]=>(iB xs).map λbs=>.int bs.sum
 |_=>none
theorem aae:kA K (λxs H Q=>∃(a:Addr)(is:AS),xs=[.ref a]/\bU K H a (is.map V.int)/\Q (.int is.sum) H) kI:=λ{p S H as c xs Q} s ra e k=>by
 unfold kI at e;split at e
 .rename_i zs
  cases y:iB zs with
  |none=>rw[y]at e;cases e
  |some bs=>
   rw[y]at e;cases e;cases ra with
   |cons h t=>
    cases t;obtain⟨a,vs,rfl,l,z,r⟩:=h.lst;rw[rE y r]at l;exact⟨a,bs,rfl,l,k H _ (dH.refl H) (gW (v:=.int _) rfl)⟩
 .cases e
end
section
variable{K:ae}{cl:Str->Addr}{E:XK}{X:Cx}{p q:Ph}{H H':Hp}{S:aG}
variable{sc:Scope}{own:List Str}{cap:List (Nat×Str)}{elt target iter:ag}{pos:ai}{mi:MI}{g:GM}{me:ME}
end
section
variable{K:ae}{cl:Str->Addr}{E:XK}{X:Cx}{e:ag}{m:ME}{pos p2:ai}
end
section
variable{K:ae}{cl:Str->Addr}{E:XK}{X:Cx}
end
end L2.Pp
namespace L2
open PySem PySem.Spec PyProof.Rows Bn
open PySem.W (KasT kas_sort kas_ask KatLex KatGo KatTups kat_run kat_kind kat_lt kat_one kas_item kat_snds)
def lN{α:Type}(lt:Nat->Nat->Bool):KasT α->α
 |.ret a=>a
 |.ask i j k=>lN lt (k (lt i j))
def iI{α:Type}(n:Nat):KasT α->Bool
 |.ret _=>true
 |.ask i j k=>decide (i<n)&&decide (j<n)&&iI n (k true)&&iI n (k false)
theorem Rh{α:Type}{cmp:Nat->Nat->(Bool->aa->Prop)->aa->Prop}{lt:Nat->Nat->Bool}{n:Nat}{s:aa}(hc:∀i j(C:Bool->aa->Prop),i<n->j<n->C (lt i j) s->cmp i j C s):∀(t:KasT α)(Q:α->aa->Prop),iI n t=true->Q (lN lt t) s->t.kasWp cmp Q s
 |.ret a,Q,_,h=>h
 |.ask i j k,Q,ok,h=>by
  unfold iI at ok;simp only[ji,decide_eq_true_eq]at ok;obtain⟨⟨⟨hi,hj⟩,h1⟩,h2⟩:=ok;refine hc i j _ hi hj (Rh hc (k (lt i j)) Q ?_ h);cases lt i j
  .exact h2
  .exact h1
def qB(h:Heap)(v:Value)(us:AS):Prop:=∃a o its n,v=.ref a/\h.get? a=some o/\o.cls=.type "tuple"/\o.data=.seq (nv its) n/\bG (us.map V.int) its
section
variable{prog:Program}{w:am}{A:ao}{E:Value->aa->Prop}{s:aa}
theorem Tl{Q:Bool->aa->Prop}:∀(us vs:AS)(its jts:AW)(i:Nat)(fin:Bool),bG (us.map V.int) its->bG (vs.map V.int) jts->fin=decide (us.length<vs.length)->Q (HT.lexLt us vs) s->KatLex prog w A true fin Q (its.zip jts) i s
 |[],vs,its,jts,i,fin,h1,h2,hf,hQ=>by
  cases h1;cases vs with
  |nil=>
   subst hf;exact yc hQ
  |cons v vs=>
   have e:fin=true:=by rw[hf];simp
   subst e;exact yc hQ
 |u::us,[],its,jts,i,fin,h1,h2,hf,hQ=>by
  cases h2;have e:fin=false:=by rw[hf];simp
  subst e;rw[List.zip_nil_right];exact yc hQ
 |u::us,v::vs,its,jts,i,fin,h1,h2,hf,hQ=>by
  cases h1 with
  |cons r1 t1=>
   cases h2 with
   |cons r2 t2=>
    obtain⟨k1,rfl⟩:=r1;obtain⟨k2,rfl⟩:=r2;rw[List.zip_cons_cons];refine PySem.W.kat_cons (wpAny_eqBool_int ?_);rw[HT.lexLt_cons]at hQ
    by_cases e:u=v
    .rw[if_pos e]at hQ
     have b:(u==v)=true:=by simpa using e
     rw[b];exact PySem.W.kat_yes (Tl us vs _ _ (i+1) fin t1 t2 (by rw[hf];simp) hQ)
    .rw[if_neg e]at hQ
     have b:(u==v)=false:=by simpa using e
     rw[b];refine PySem.W.kat_no ?_
     by_cases hi:i=0
     .subst hi
      exact oneLt_int hQ
     .have b2:(true&&i==0)=false:=by simpa using hi
      rw[b2];exact kat_one _ _ (PySem.P.lt_int hQ)
theorem S6{x y:Value}{us vs:AS}{Q:Bool->aa->Prop}(hx:qB s.heap x us)(hy:qB s.heap y vs)(h:Q (HT.lexLt us vs) s):wpAny (model prog w) A (keyLt' (tuples' true) x y) Q E s:=by
 obtain⟨a,o,its,n,rfl,ho,hc,hd,r⟩:=hx;obtain⟨b,o2,jts,k,rfl,ho2,hc2,hd2,r2⟩:=hy;refine kat_lt ho hd ho2 hd2 ?_;have l1:=r.length;have l2:=r2.length;rw[aj]at l1 l2;refine Tl us vs its jts 0 _ r r2 ?_ h;rw[aw,aw,l1,l2]
theorem Bf:∀(vs:AW)(uss:AT),vs.length=uss.length->(∀i,i<vs.length->qB s.heap (vs.getD i di) (uss.getD i [])/\uss.getD i []≠[])->∃fs,KatTups s.heap vs fs/\fs.length=vs.length/\∀v∈fs,∃i t,v=.int i t
 |[],uss,_,_=>⟨[],trivial,rfl,λ_ h=>absurd h fe⟩
 |v::vs,[],hl,_=>by cases hl
 |v::vs,us::uss,hl,h=>by
  obtain⟨fs,k,l,q⟩:=Bf vs uss (by simpa using hl) λi hi=>by
   have:=h (i+1) (by simp;omega);simpa using this
  obtain⟨⟨a,o,its,n,e,ho,hc,hd,r⟩,ne⟩:=h 0 (by simp);have e:v=.ref a:=e;subst e;cases us with
  |nil=>exact absurd rfl ne
  |cons u us=>
   have r:bG (V.int u::us.map V.int) its:=r;cases r with
   |cons r1 t1=>
    obtain⟨t,rfl⟩:=r1;refine⟨.int u t::fs,KatTups.cons ho hc hd (by simp) k,by simp[l],λx hx=>?_⟩;rcases cf.mp hx with rfl |hx
    .exact⟨u,t,rfl⟩
    .exact q x hx
def dP(uss:AT):List Nat:=(lN (λi j=>HT.lexLt (uss.getD i []) (uss.getD j [])) (jk uss.length)).toList
theorem Jr{a:Addr}{vs:AW}{uss:AT}{n:Nat}{P:PySem.Fin->aa->Prop}(ho:s.heap.get? a=some (seqObj "list" vs.toArray n))(hl:vs.length=uss.length)(h2:2<=vs.length)(h64:vs.length<64)(ok:iI uss.length (jk uss.length)=true)
  (tu:∀i,i<vs.length->qB s.heap (vs.getD i di) (uss.getD i [])/\uss.getD i []≠[])
  (h:P (.done (.ret .none)) {s with heap:=sortedHeap s.heap a vs (nv ((dP uss).map λi=>vs.getD i di))}):
  wpAny (model prog w) A (Builtin.«list.sort» ⟨[.ref a],[]⟩) P E s:=by
 have ha:a<s.heap.objs.size:=bn ho;obtain⟨e1,ho1⟩:∃e1,(s.heap.update a (ir λ_=>(#[]:Array Value))).get? a=some (seqObj "list" #[] e1):=⟨_,yd ho λ_=>#[]⟩;have kp:∀b o,b≠a->s.heap.get? b=some o->(((s.heap.update a (ir λ_=>(#[]:Array Value))).push (seqObj "tuple" vs.toArray 0)).push (seqObj "list" #[] 0)).get? b=some o:=λb o hb e=>
  az _ (az _ ((ye _ _ _ _ hb).trans e))
 have tu2:∀i,i<vs.length->qB (((s.heap.update a (ir λ_=>(#[]:Array Value))).push (seqObj "tuple" vs.toArray 0)).push (seqObj "list" #[] 0)) (vs.getD i di) (uss.getD i [])/\uss.getD i []≠[]:=λi hi=>by
  obtain⟨⟨b,o,its,m,e,hb,hc,hd,r⟩,ne⟩:=tu i hi;refine⟨⟨b,o,its,m,e,kp b o (λz=>?_) hb,hc,hd,r⟩,ne⟩;subst z;rw[ho]at hb;cases hb;have hc:ly "list"=ly "tuple":=hc;injection hc with hc;exact absurd hc (by decide)
 have na:(((s.heap.update a (ir λ_=>(#[]:Array Value))).push (seqObj "tuple" vs.toArray 0)).push (seqObj "list" #[] 0)).get? a=some (seqObj "list" #[] e1):=az _ (az _ ho1);rw[list_sort_plain];refine ah (listItems_at ho rfl ?_);refine ah (listUpdate_at ho rfl ?_ (by rw[aw,kw];omega) (je _));refine ah (seqEpoch_at ho1 rfl ?_);refine ah (wpAny_newTuple ?_ (by show vs.length<=_;rw[kw];omega));refine ah (wpAny_newList ?_ (je _));refine ku ?_;show wpAny (model prog w) A _ P E {s with heap:=((s.heap.update a (ir λ_=>(#[]:Array Value))).push (seqObj "tuple" vs.toArray 0)).push (seqObj "list" #[] 0)};dsimp only;have hn2:¬vs.toArray.size<2:=by rw[aw];omega
 rw[if_neg hn2,if_neg hn2];obtain⟨fs,kt,lf,qf⟩:=Bf (s:={s with heap:=((s.heap.update a (ir λ_=>(#[]:Array Value))).push (seqObj "tuple" vs.toArray 0)).push (seqObj "list" #[] 0)}) vs uss hl tu2;refine ah (kat_kind (T:=.type "int") kt (by omega) (λv hv=>?_) rfl ?_)
 .obtain⟨i,t,rfl⟩:=qf v hv
  exact .now
 have bt:(ly "int" !=ly "tuple")=true:=by decide
 rw[bt];refine ah (iy (kat_run (Q:=λst' s'=>∃p:Array Nat,p.size=vs.length/\arrOf st'=p.map (kas_item (vs.toArray.zip vs.toArray))/\failedOf st'=none/\p.toList=dP uss/\s'={s with heap:=((s.heap.update a (ir λ_=>(#[]:Array Value))).push (seqObj "tuple" vs.toArray 0)).push (seqObj "list" #[] 0)})
  (G:=λp s'=>p.toList=dP uss/\s'={s with heap:=((s.heap.update a (ir λ_=>(#[]:Array Value))).push (seqObj "tuple" vs.toArray 0)).push (seqObj "list" #[] 0)})
  rfl h2 h64 (λp' st' s' a1 a2 a3 a4=>⟨p',a1,a2,a3,a4⟩) ?_) ?_ λ_ _ e=>e)
 .rw[hl]
  refine Rh (lt:=λi j=>HT.lexLt (uss.getD i []) (uss.getD j [])) (n:=uss.length) (λi j C hi hj hC=>?_) _ _ ok ⟨rfl,rfl⟩;exact S6 (tu2 i (by omega)).1 (tu2 j (by omega)).1 hC
 rintro⟨⟨⟩,st'⟩ s' ⟨p,hp,har,hf,hpl,rfl⟩
 dsimp only;have hout:=kat_snds rfl har;have hsz:(nv (p.toList.map λi=>vs.getD i di)).size=vs.length:=by rw[aw,aj,jx,hp]
 rw[hout];refine ah (seqEpoch_at na rfl ?_);refine ah (listUpdate_at na rfl ?_ (je _) (fk (wz hsz) (by rw[kw];omega)));rw[hf];simp only[bne_self_eq_false,j9,if_false];refine bi ?_;rw[hpl];exact h
theorem Jt{l:Addr}{o:Obj}{T:String}{vs:AW}{uss:AT}{n:Nat}{Q:Value->aa->Prop}(hT:T="list"\/T="tuple")(ho:s.heap.get? l=some o)(hc:o.cls=.type T)(hd:o.data=.seq vs.toArray n)(hl:vs.length=uss.length)(h2:2<=vs.length)(h64:vs.length<64)(ok:iI uss.length (jk uss.length)=true)
  (tu:∀i,i<vs.length->qB s.heap (vs.getD i di) (uss.getD i [])/\uss.getD i []≠[])
  (h:∀(h1 h':Heap)(c:Nat),(∀b o',s.heap.get? b=some o'->h1.get? b=some o')->(∀b o',h1.get? b=some o'->h'.get? b=some o')->h'.get? h1.objs.size=some (seqObj "list" (nv ((dP uss).map λi=>vs.getD i di)) c)->Q (.ref h1.objs.size) {s with heap:=h'}):
  wpAny (model prog w) A (call (.builtin "sorted") [.ref l]) Q E s:=by
 refine PySem.Calls.call_function_entry kind_sorted plain_sorted entry_sorted (args_sorted1 _) ?_;unfold Builtin.«sorted»;refine ah (m:=checkCount "sorted" 1 1 _) (bi ?_);refine ah (wpAny_collect_seq l hT ho hc hd (λh1 k1=>?_) (by rw[aw,kw];omega));refine ah (wpAny_newList ?_ (by rw[kw];simp;omega));have hoL:(h1.push (seqObj "list" vs.toArray 0)).get? h1.objs.size=some (seqObj "list" vs.toArray 0):=du _ rfl;show wpAny _ _ _ _ _ {s with heap:=h1.push (seqObj "list" vs.toArray 0)};refine ah (ku (ou slot_list_sort ⟨_,hoL,rfl⟩ entry_list_sort ?body (args_list_sort _)))
 case body=>
  refine Jr (s:={s with heap:=h1.push (seqObj "list" vs.toArray 0)}) hoL hl h2 h64 ok (λi hi=>?_) ⟨_,rfl,bi ⟨_,rfl,?_⟩⟩
  .obtain⟨⟨b,o,its,m,e,hb,hc,hd,r⟩,ne⟩:=tu i hi
   exact⟨⟨b,o,its,m,e,az _ (k1 b o hb),hc,hd,r⟩,ne⟩
  .obtain⟨e1,ho1⟩:∃e1,((h1.push (seqObj "list" vs.toArray 0)).update h1.objs.size (ir λ_=>(#[]:Array Value))).get? h1.objs.size=some (seqObj "list" #[] e1):=⟨_,yd hoL λ_=>#[]⟩
   have ho2:=az (seqObj "list" #[] 0) (az (seqObj "tuple" vs.toArray 0) ho1);obtain⟨e2,ho3⟩:∃e2,(sortedHeap (h1.push (seqObj "list" vs.toArray 0)) h1.objs.size vs (nv ((dP uss).map λi=>vs.getD i di))).get? h1.objs.size=some (seqObj "list" (nv ((dP uss).map λi=>vs.getD i di)) e2):=⟨_,yd ho2 λ_=>nv ((dP uss).map λi=>vs.getD i di)⟩;refine h h1 _ e2 k1 (λb o' hb1=>?_) ho3;have hne:b≠h1.objs.size:=dm (bn hb1);exact(ye _ _ _ _ hne).trans (az _ (az _ ((ye _ _ _ _ hne).trans (az _ hb1))))
end
def Zb(K:ae)(H:Hp)(ts:List V)(uss:AT):Prop:=ts.length=uss.length/\∀i t,ts[i]?=some t->∃a,t=.ref a/\dA K H a ((uss.getD i []).map V.int)/\uss.getD i []≠[]
theorem Bt{X:Cx}:iE X (.builtin "sorted") (λxs H Q=>∃(a:Addr)(ts:List V)(uss:AT),xs=[.ref a]/\(bU X.K H a ts\/dA X.K H a ts)/\Zb X.K H ts uss/\2<=ts.length/\ts.length<64/\iI uss.length (jk uss.length)=true/\(dP uss).length<=64/\
  ∀l,H l=none->Q (.ref l) (bA H l (.lst ((dP uss).map λi=>ts.getD i .non)))):=by
 intro BE s σ H xs us Q I r h;obtain⟨a,ts,uss,rfl,hq,⟨hl,ht⟩,h2,h64,ok,hpl,q⟩:=h;obtain⟨u,rfl,ru⟩:=kD r;cases ru;have go:∀(its:AW)(T:String)(o:Obj)(n:Nat),bG ts its->(T="list"\/T="tuple")->s.heap.get? a=some o->o.cls=.type T->o.data=.seq its.toArray n->ts.length<=sizeLine->
   wpAny (model X.prog X.w) X.A (call (.builtin "sorted") [.ref a]) (EP X BE σ Q) X.xe s:=λits T o n rv hT ho hc hd hz=>by
  have hlen:=rv.length;refine Jt (uss:=uss) hT ho hc hd (by omega) (by omega) (by omega) ok (λi hi=>?_) λh1 h' c k1 k2 e=>?_
  .have hi':i<ts.length:=by omega
   obtain⟨b,e1,sq,ne⟩:=ht i ts[i] (au hi');obtain⟨v,e2,rel⟩:=rv.get (au hi');rw[e1]at rel;cases rel;obtain⟨jts,rj,⟨o2,ho2,hc2,m,hd2⟩,_⟩:=I.tuple sq;refine⟨⟨b,o2,jts,m,?_,ho2,hc2,hd2,rj⟩,ne⟩;rw[cy,e2];rfl
  .have I1:aH X BE σ H {s with heap:=h1,toks:=s.toks}:=I.kept k1
   have hz2:((dP uss).map λi=>ts.getD i .non).length<=sizeLine:=by
    rw[aj,kw];omega
   have rel:∀ps:List Nat,bG (ps.map λi=>ts.getD i .non) (ps.map λi=>its.getD i di):=λps=>by
    induction ps with
    |nil=>exact .nil
    |cons i ps ih=>
     refine .cons ?_ ih
     by_cases hi:i<ts.length
     .obtain⟨v,e2,rr⟩:=rv.get (au hi)
      have q1:ts.getD i .non=ts[i]:=by simp[cy,hi]
      have q2:its.getD i di=v:=by simp[cy,e2]
      show bY (ts.getD i .non) (its.getD i di);rw[q1,q2];exact rr
     .have q1:ts.getD i .non=.non:=by simp[cy,hi]
      have q2:its.getD i di=di:=by simp[cy,show its.length<=i by omega]
      show bY (ts.getD i .non) (its.getD i di);rw[q1,q2];rfl
   refine⟨.ref h1.objs.size,_,I1.laid (t':=s.toks) (o:=.lst ((dP uss).map λi=>ts.getD i .non)) k2 (ar _) ?_,rfl,q _ (I1.hok.fresh (ar _))⟩;exact⟨hz2,_,c,rel _,e⟩
 rcases hq with hq |hq
 .obtain⟨its,rv,pl,hz⟩:=I.list hq
  obtain⟨o,ho,hc,n,hd⟩:=pl.isList;exact go its "list" o n rv (.inl rfl) ho hc hd hz
 .obtain⟨its,rv,⟨o,ho,hc,n,hd⟩,hz⟩:=I.tuple hq
  exact go its "tuple" o n rv (.inr rfl) ho hc hd hz
end L2
namespace L2.Pp
open PySem PySem.Spec PyProof.Rows Bn
open PySem.W (kas_sort)
section
variable{K:ae}
def mP:BA->Option AT
 |[]=>some []
 |.tup us::r=>match iB us,mP r with
  |some is,some uss=>some (is::uss)
  |_,_=>none
 |_::_=>none
theorem Si:∀{xs:BA}{uss:AT},mP xs=some uss->xs.length=uss.length
 |[],uss,e=>by cases e;rfl
 |.tup us::r,uss,e=>by
  unfold mP at e;split at e
  .rename_i is uss' h1 h2
   cases e;rw[cv,cv,Si h2]
  .cases e
 |.non::_,_,e=>by cases e
 |.bl _::_,_,e=>by cases e
 |.int _::_,_,e=>by cases e
 |.str _::_,_,e=>by cases e
 |.lst _::_,_,e=>by cases e
theorem Vk{c:Addr->Prop}{H:Hp}:∀{xs:BA}{uss:AT}{vs:List V},mP xs=some uss->aU K c H xs vs->∀i t,vs[i]?=some t->∃a,t=.ref a/\dA K H a ((uss.getD i []).map V.int)
 |[],uss,vs,e,r,i,t,h=>by
  unfold aU at r;subst r;simp at h
 |.tup us::r,uss,vs,e,rr,i,t,h=>by
  unfold mP at e;split at e
  .rename_i is uss' h1 h2
   cases e;unfold aU at rr;obtain⟨v,w,rfl,r1,r2⟩:=rr;cases i with
   |zero=>
    cases h;unfold aT at r1;obtain⟨a,ws,rfl,sq,_,r3⟩:=r1;rw[rE h1 r3]at sq;exact⟨a,rfl,sq⟩
   |succ i=>
    have:=Vk h2 r2 i t (by simpa using h);simpa using this
  .cases e
 |.non::_,_,_,e,_,_,_,_=>by cases e
 |.bl _::_,_,_,e,_,_,_,_=>by cases e
 |.int _::_,_,_,e,_,_,_,_=>by cases e
 |.str _::_,_,_,e,_,_,_,_=>by cases e
 |.lst _::_,_,_,e,_,_,_,_=>by cases e
def Bc(uss:AT):Prop:=2<=uss.length/\uss.length<64/\iI uss.length (jk uss.length)=true/\(dP uss).length<=64/\∀us∈uss,us≠[]
def Vb(xs:BA)(uss:AT):BA:=(dP uss).map λi=>xs.getD i .non
open Classical in
noncomputable def qC(xs:BA):BB:=match mP xs with
 |some uss=>if Bc uss then some (.lst (Vb xs uss))else none
 |none=>none
noncomputable def rO:BA->BB
 |[.lst xs]=>qC xs
 |[.tup xs]=>qC xs
 |_=>none
theorem Cg{c:Addr->Prop}{H:Hp}{xs:BA}{vs:List V}(r:aU K c H xs vs):∀ps:List Nat,aU K c H (ps.map λi=>xs.getD i .non) (ps.map λi=>vs.getD i .non)
 |[]=>.nil
 |i::ps=>by
  refine .cons ?_ (Cg r ps)
  by_cases hi:i<xs.length
  .obtain⟨v,e1,e2⟩:=r.get (au hi)
   have q1:xs.getD i .non=xs[i]:=by simp[cy,hi]
   have q2:vs.getD i .non=v:=by simp[cy,e1]
   show aT K c H (xs.getD i .non) (vs.getD i .non);rw[q1,q2];exact e2
  .have hl:=r.length
   have q1:xs.getD i .non=.non:=by simp[cy,hi]
   have q2:vs.getD i .non=.non:=by simp[cy,show vs.length<=i by omega]
   show aT K c H (xs.getD i .non) (vs.getD i .non);rw[q1,q2];unfold aT;rfl
theorem M5:kA K (λxs H Q=>∃(a:Addr)(ts:List V)(uss:AT),xs=[.ref a]/\(bU K H a ts\/dA K H a ts)/\Zb K H ts uss/\2<=ts.length/\ts.length<64/\iI uss.length (jk uss.length)=true/\(dP uss).length<=64/\
  ∀l,H l=none->Q (.ref l) (bA H l (.lst ((dP uss).map λi=>ts.getD i .non)))) rO:=λ{p S H as c xs Q} s ra e k=>by
 have key:∀(zs:BA)(a:Addr)(vs:List V),qC zs=some c->(bU K H a vs\/dA K H a vs)->aU K p.c H zs vs->∃(a':Addr)(ts:List V)(uss:AT),[V.ref a]=[.ref a']/\(bU K H a' ts\/dA K H a' ts)/\Zb K H ts uss/\2<=ts.length/\ts.length<64/\iI uss.length (jk uss.length)=true/\(dP uss).length<=64/\
   ∀l,H l=none->Q (.ref l) (bA H l (.lst ((dP uss).map λi=>ts.getD i .non))):=λzs a vs e sq r=>by
  unfold qC at e;split at e
  .rename_i uss hu
   split at e
   .rename_i hc
    cases e;obtain⟨c1,c2,c3,c4,c5⟩:=hc;have l1:=Si hu;have l2:=r.length;refine⟨a,vs,uss,rfl,sq,⟨by omega,λi t h=>?_⟩,by omega,by omega,c3,c4,λl hl=>?_⟩
    .obtain⟨b,e1,e2⟩:=Vk hu r i t h
     have hi:i<uss.length:=by
      have:=(cq.mp h).1;omega
     refine⟨b,e1,e2,?_⟩;rw[cy,au hi];exact c5 _ (fj hi)
    .refine k _ _ (fS hl) (pN s (Cg r _) ?_ hl)
     rw[aj,iQ];omega
   .cases e
  .cases e
 unfold rO at e;split at e
 .rename_i zs
  cases ra with
  |cons h t=>
   cases t;obtain⟨a,vs,rfl,l,z,r⟩:=h.lst;exact key zs a vs e (.inl l) r
 .rename_i zs
  cases ra with
  |cons h t=>
   cases t;obtain⟨a,vs,rfl,l,z,r⟩:=h.tup;exact key zs a vs e (.inr l) r
 .cases e
end
end L2.Pp
namespace L2
section
open PySem.W (KasT kas_sort)
theorem Cf{α:Type}{lt lt':Nat->Nat->Bool}{n:Nat}(h:∀i j,i<n->j<n->lt i j=lt' i j):∀t:KasT α,iI n t=true->lN lt t=lN lt' t
 |.ret a,_=>rfl
 |.ask i j k,ok=>by
  unfold iI at ok;simp only[ji,decide_eq_true_eq]at ok;obtain⟨⟨⟨hi,hj⟩,h1⟩,h2⟩:=ok;show lN lt (k (lt i j))=lN lt' (k (lt' i j));rw[<-h i j hi hj];refine Cf h (k (lt i j)) ?_;cases lt i j
  .exact h2
  .exact h1
theorem kO:∀u:AS,HT.lexLt u u=false
 |[]=>rfl
 |x::u=>by rw[HT.lexLt_cons,if_pos rfl,kO u]
theorem Wj:∀u v:AS,u=v\/HT.lexLt u v=true\/HT.lexLt v u=true
 |[],[]=>.inl rfl
 |[],_::_=>.inr (.inl rfl)
 |_::_,[]=>.inr (.inr rfl)
 |x::u,y::v=>by
  rw[HT.lexLt_cons,HT.lexLt_cons]
  by_cases h:x=y
  .subst h
   rw[if_pos rfl,if_pos rfl];rcases Wj u v with h |h |h
   .exact .inl (by rw[h])
   .exact .inr (.inl h)
   .exact .inr (.inr h)
  .rw[if_neg h,if_neg (λz=>h z.symm)]
   by_cases q:x<y
   .exact .inr (.inl (by simpa using q))
   .exact .inr (.inr (by simp;omega))
theorem uH:∀u v w:AS,HT.lexLt u v=true->HT.lexLt v w=true->HT.lexLt u w=true
 |[],[],_,h,_=>by cases h
 |[],_::_,[],_,h=>by cases h
 |[],_::_,_::_,_,_=>rfl
 |_::_,[],_,h,_=>by cases h
 |_::_,_::_,[],_,h=>by cases h
 |x::u,y::v,z::w,h1,h2=>by
  rw[HT.lexLt_cons]at h1 h2⊢
  by_cases e1:x=y
  .subst e1
   rw[if_pos rfl]at h1
   by_cases e2:x=z
   .rw[if_pos e2]at h2⊢
    exact uH u v w h1 h2
   .rw[if_neg e2]at h2⊢
    exact h2
  .rw[if_neg e1]at h1
   have h1:x<y:=by simpa using h1
   by_cases e2:y=z
   .subst e2
    rw[if_neg e1];simpa using h1
   .rw[if_neg e2]at h2
    have h2:y<z:=by simpa using h2
    rw[if_neg (by omega)];simp;omega
theorem Zw{u v:AS}(h:HT.lexLt u v=true):HT.lexLt v u=false:=by
 cases q:HT.lexLt v u with
 |false=>rfl
 |true=>
  have:=uH u v u h q;rw[kO]at this;cases this
def r3(a b c d e f:Bool):Bool:=(!(a&&b)||c)&&(!(d&&e)||f)
def xR(b:Nat->Nat->Bool)(n:Nat):Bool:=(ak n).all λi=>!(b i i)&&(ak n).all λj=>!(b i j&&b j i)&&(ak n).all λk=>(!(b i j&&b j k)||b i k)&&(b i j||b j k|| !(b i k))
def wI(b:Nat->Nat->Bool)(n:Nat)(ps:List (List Nat)):Bool:=let p:=(lN b (jk n)).toList
 ps.contains p&&(ak n).all λi=>(ak n).all λj=>!(decide (i<j))|| !(b (p.getD j 0) (p.getD i 0))
def Lb:List (List Nat):=[[0,1,2],[0,2,1],[1,0,2],[1,2,0],[2,0,1],[2,1,0]]
def Fb:List (List Nat):=[[0,1,2,3],[0,1,3,2],[0,2,1,3],[0,2,3,1],[0,3,1,2],[0,3,2,1],[1,0,2,3],[1,0,3,2],[1,2,0,3],[1,2,3,0],[1,3,0,2],[1,3,2,0],
 [2,0,1,3],[2,0,3,1],[2,1,0,3],[2,1,3,0],[2,3,0,1],[2,3,1,0],[3,0,1,2],[3,0,2,1],[3,1,0,2],[3,1,2,0],[3,2,0,1],[3,2,1,0]]
def Ad(b01 b02 b10 b12 b20 b21:Bool)(i j:Nat):Bool:=match i,j with
 |0,1=>b01 |0,2=>b02 |1,0=>b10 |1,2=>b12 |2,0=>b20 |2,1=>b21 |_,_=>false
def Xc(b01 b02 b03 b10 b12 b13 b20 b21 b23 b30 b31 b32:Bool)(i j:Nat):Bool:=match i,j with
 |0,1=>b01 |0,2=>b02 |0,3=>b03 |1,0=>b10 |1,2=>b12 |1,3=>b13 |2,0=>b20 |2,1=>b21 |2,3=>b23 |3,0=>b30 |3,1=>b31 |3,2=>b32 |_,_=>false
theorem To:iI 3 (jk 3)=true:=by decide+kernel
theorem Qo:iI 4 (jk 4)=true:=by decide+kernel
theorem abU:∀b01 b02 b10 b12 b20 b21:Bool,xR (Ad b01 b02 b10 b12 b20 b21) 3=true->wI (Ad b01 b02 b10 b12 b20 b21) 3 Lb=true:=by decide+kernel
theorem abl:∀b01 b02 b03 b10 b12 b13 b20 b21 b23 b30 b31 b32:Bool,xR (Xc b01 b02 b03 b10 b12 b13 b20 b21 b23 b30 b31 b32) 4=true->wI (Xc b01 b02 b03 b10 b12 b13 b20 b21 b23 b30 b31 b32) 4 Fb=true:=by decide+kernel
theorem Ho{b:Nat->Nat->Bool}{n:Nat}{uss:AT}(h:∀i j,i<n->j<n->b i j=HT.lexLt (uss.getD i []) (uss.getD j [])):xR b n=true:=by
 unfold xR;simp only[qa,kq,ji,j5,Bool.or_eq_true,Bool.and_eq_false_imp];intro i hi;refine⟨by rw[h i i hi hi,kO],λj hj=>⟨λq=>?_,λk hk=>⟨?_,?_⟩⟩⟩
 .rw[h i j hi hj]at q
  rw[h j i hj hi,Zw q]
 .rw[h i j hi hj,h j k hj hk,h i k hi hk]
  cases q1:HT.lexLt (uss.getD i []) (uss.getD j [])with
  |false=>exact .inl λz=>by cases z
  |true=>
   cases q2:HT.lexLt (uss.getD j []) (uss.getD k [])with
   |false=>exact .inl λ_=>rfl
   |true=>exact .inr (uH _ _ _ q1 q2)
 .rw[h i j hi hj,h j k hj hk,h i k hi hk]
  cases q1:HT.lexLt (uss.getD i []) (uss.getD j [])with
  |true=>exact .inl (.inl rfl)
  |false=>
   cases q2:HT.lexLt (uss.getD j []) (uss.getD k [])with
   |true=>exact .inl (.inr rfl)
   |false=>
    refine .inr ?_;cases q3:HT.lexLt (uss.getD i []) (uss.getD k [])with
    |false=>rfl
    |true=>
     rcases Wj (uss.getD i []) (uss.getD j [])with e |e |e
     .rw[e]at q3;rw[q2]at q3;cases q3
     .rw[q1]at e;cases e
     .have:=uH _ _ _ e q3
      rw[q2]at this;cases this
end
section
open PySem.W (KasT kas_sort)
def fI(uss:AT):AT:=(dP uss).map λi=>uss.getD i []
def tQ(u v:AS):Prop:=HT.lexLt v u=false
theorem Ch{uss:AT}{n:Nat}{ps:List (List Nat)}(hl:uss.length=n)(ok:iI n (jk n)=true){b:Nat->Nat->Bool}(hb:∀i j,i<n->j<n->b i j=HT.lexLt (uss.getD i []) (uss.getD j []))(good:wI b n ps=true)(hp:∀p∈ps,p.Perm (ak n)):
  dP uss∈ps/\(dP uss).Perm (ak n)/\(fI uss).Pairwise tQ:=by
 have e:dP uss=(lN b (jk n)).toList:=by
  unfold dP;rw[hl];exact congrArg vk (Cf (n:=n) (λi j hi hj=>(hb i j hi hj).symm) _ ok)
 unfold wI at good;simp only[ji,qa,kq]at good;rw[<-e]at good;obtain⟨g1,g2⟩:=good;have m:dP uss∈ps:=by simpa using g1
 have pm:=hp _ m;refine⟨m,pm,?_⟩;have ln:(dP uss).length=n:=by rw[pm.length_eq,dq]
 unfold fI;rw[List.pairwise_iff_getElem];intro i j hi hj hij;rw[aj]at hi hj;have q:=g2 i (by omega) j (by omega);have pi:(dP uss).getD i 0=(dP uss)[i]:=by simp[cy,hi]
 have pj:(dP uss).getD j 0=(dP uss)[j]:=by simp[cy,hj]
 rw[pi,pj]at q;have li:(dP uss)[i]<n:=by
  have:=pm.subset (fj hi);simpa using this
 have lj:(dP uss)[j]<n:=by
  have:=pm.subset (fj hj);simpa using this
 rw[hb _ _ lj li]at q;simp only[yf];unfold tQ;have d:decide (i<j)=true:=by simpa using hij
 rw[d]at q;simpa using q
theorem Vw:∀p∈Lb,p.Perm (ak 3):=by decide
theorem Wy:∀p∈Fb,p.Perm (ak 4):=by decide
theorem Yk{uss:AT}(h:uss.length=3):dP uss∈Lb/\(dP uss).Perm (ak 3)/\(fI uss).Pairwise tQ:=by
 match uss,h with
 |[u0,u1,u2],_=>
  have hb:∀i j,i<3->j<3->Ad (HT.lexLt u0 u1) (HT.lexLt u0 u2) (HT.lexLt u1 u0) (HT.lexLt u1 u2) (HT.lexLt u2 u0) (HT.lexLt u2 u1) i j=HT.lexLt (([u0,u1,u2]:AT).getD i []) (([u0,u1,u2]:AT).getD j []):=λi j hi hj=>by
   match i,j,hi,hj with
   |0,0,_,_=>exact(kO u0).symm
   |0,1,_,_=>rfl
   |0,2,_,_=>rfl
   |1,0,_,_=>rfl
   |1,1,_,_=>exact(kO u1).symm
   |1,2,_,_=>rfl
   |2,0,_,_=>rfl
   |2,1,_,_=>rfl
   |2,2,_,_=>exact(kO u2).symm
  exact Ch rfl To hb (abU _ _ _ _ _ _ (Ho hb)) Vw
theorem Hk{uss:AT}(h:uss.length=4):dP uss∈Fb/\(dP uss).Perm (ak 4)/\(fI uss).Pairwise tQ:=by
 match uss,h with
 |[u0,u1,u2,u3],_=>
  have hb:∀i j,i<4->j<4->Xc (HT.lexLt u0 u1) (HT.lexLt u0 u2) (HT.lexLt u0 u3) (HT.lexLt u1 u0) (HT.lexLt u1 u2) (HT.lexLt u1 u3) (HT.lexLt u2 u0) (HT.lexLt u2 u1) (HT.lexLt u2 u3) (HT.lexLt u3 u0) (HT.lexLt u3 u1) (HT.lexLt u3 u2) i j=HT.lexLt (([u0,u1,u2,u3]:AT).getD i []) (([u0,u1,u2,u3]:AT).getD j []):=λi j hi hj=>by
   match i,j,hi,hj with
   |0,0,_,_=>exact(kO u0).symm
   |0,1,_,_=>rfl
   |0,2,_,_=>rfl
   |0,3,_,_=>rfl
   |1,0,_,_=>rfl
   |1,1,_,_=>exact(kO u1).symm
   |1,2,_,_=>rfl
   |1,3,_,_=>rfl
   |2,0,_,_=>rfl
   |2,1,_,_=>rfl
   |2,2,_,_=>exact(kO u2).symm
   |2,3,_,_=>rfl
   |3,0,_,_=>rfl
   |3,1,_,_=>rfl
   |3,2,_,_=>rfl
   |3,3,_,_=>exact(kO u3).symm
  exact Ch rfl Qo hb (abl _ _ _ _ _ _ _ _ _ _ _ _ (Ho hb)) Wy
theorem uC{uss:AT}(h:uss.length=3\/uss.length=4):(fI uss).Perm uss/\(fI uss).Pairwise tQ:=by
 have key:∀n,uss.length=n->(dP uss).Perm (ak n)->(fI uss).Perm uss:=λn hn hp=>by
  have e:(ak n).map (λi=>uss.getD i [])=uss:=by
   refine uf (by simp[hn]) λi h1 h2=>?_;have hi:i<uss.length:=h2;simp[cy,hi]
  have:=hp.map (λi=>uss.getD i []);rw[e]at this;exact this
 rcases h with h |h
 .obtain⟨_,hp,hs⟩:=Yk h
  exact⟨key 3 h hp,hs⟩
 .obtain⟨_,hp,hs⟩:=Hk h
  exact⟨key 4 h hp,hs⟩
end
open PySem PySem.Spec PyProof.Rows Bn
theorem L6{X:Cx}{sc1 sc:Scope}{own1 own:List Str}{cap1 cap:List (Nat×Str)}{C:Addr}{BF:aa}{BG:Hp}{ex:List Addr}(so:Scope)(hso:X.env.scope=so)(hk:so.kind=.function)(kind:sc.kind=.function)(names:∀y∈sc.names,y.2=.local->sc.names.lookup y.1=some .local)
  (nocell:∀y∈sc.names,y.2≠.cell)(free:∀y∈sc.names,y.2=.free->sc1.names.lookup y.1=some .free/\so.names.lookup y.1=some .cell)(at':∀p∈cap,(dC own1 cap1)[p.1]?=some p.2)(hcap:∀p∈cap,sc.names.lookup p.2=some .free):
  iK (gO X sc1 (dC own1 cap1) C BF BG ex) sc own cap:=
 ⟨kind,names,nocell,λy hy e=>by
  obtain⟨f1,f2⟩:=free y hy e;exact qX (env:=X.env) (by rw[hso];exact hk) f1 (by show X.env.scope.names.lookup y.1=_;rw[hso];exact f2),at',hcap⟩
section
variable{M:jw}{A:ao}{E:Value->aa->Prop}{s:aa}
theorem Rr{scope:Scope}{globals:Addr}{closure:List (Str×Addr)}{qual:Str}{outer:bh}{Q:bh->aa->Prop}
  (hQ:Q (newEnv scope s.heap.objs.size globals (cellsFrom (s.heap.objs.size+1) scope.names closure) qual none .none (some outer) builtinsNs) {s with heap:=pushCells (s.heap.push {cls:=.type "dict",data:=.dict #[]}) scope.names}):
  wpAny M A (newFunctionEnv scope globals closure [] qual none .none (some outer)) Q E s:=by
 simp only[newFunctionEnv,Option.isSome_some,if_true];refine ah (wpAny_alloc ?_);refine ah (wpAny_layCells _ (λname kind cells=>by cases hkc:kind==gv<;>simp[hkc]) _ _ _ _ ?_);rw[show({s with heap:=s.heap.push {cls:=.type "dict",data:=.dict #[]}}:aa).heap.objs.size=s.heap.objs.size+1 from jn ..];refine ah ?_;rw[xj];exact bi (bi hQ)
end
theorem Gb:∀(names:List (Str×gw))(n:Nat)(acc:List (Str×Addr)),(∀x y c,acc.lookup x=some c->acc.lookup y=some c->x=y)->(∀x c,acc.lookup x=some c->c<n)->
  ∀x y c,(cellsFrom n names acc).lookup x=some c->(cellsFrom n names acc).lookup y=some c->x=y
 |[],n,acc,hi,_,x,y,c,e1,e2=>hi x y c e1 e2
 |(name,kind)::r,n,acc,hi,hb,x,y,c,e1,e2=>by
  unfold cellsFrom at e1 e2
  by_cases k:(kind==gv)=true
  .rw[if_pos k]at e1 e2
   refine Gb r (n+1) _ (λx y c e1 e2=>?_) (λx c e=>?_) x y c e1 e2
   .rw[ee]at e1 e2
    cases wx:x==name with
    |true=>
     cases wy:y==name with
     |true=>rw[beq_iff_eq.mp wx,beq_iff_eq.mp wy]
     |false=>
      rw[wx]at e1;rw[wy]at e2;cases e1;exact absurd (hb y _ e2) (jh _)
    |false=>
     cases wy:y==name with
     |true=>
      rw[wx]at e1;rw[wy]at e2;cases e2;exact absurd (hb x _ e1) (jh _)
     |false=>
      rw[wx]at e1;rw[wy]at e2;exact hi x y c e1 e2
   .rw[ee]at e
    cases wx:x==name with
    |true=>
     rw[wx]at e;cases e;exact xx _
    |false=>
     rw[wx]at e;exact ya (hb x c e)
  .rw[if_neg k]at e1 e2
   exact Gb r n acc hi hb x y c e1 e2
theorem rZ{n0:Nat}:∀(names:List (Str×gw))(n:Nat)(acc:List (Str×Addr))(x:Str),((∃c,acc.lookup x=some c/\n0<=c)\/(x,gv)∈names)->n0<=n->∃c,(cellsFrom n names acc).lookup x=some c/\n0<=c
 |[],n,acc,x,h,hn=>by
  rcases h with h |h
  .exact h
  .cases h
 |(name,kind)::r,n,acc,x,h,hn=>by
  unfold cellsFrom
  by_cases k:(kind==gv)=true
  .rw[if_pos k]
   refine rZ r (n+1) _ x ?_ (o5 hn);cases w:x==name with
   |true=>exact .inl ⟨n,by rw[ee,w],hn⟩
   |false=>
    rcases h with⟨c,h,z⟩|h
    .exact .inl ⟨c,by rw[ee,w];exact h,z⟩
    .rcases cf.mp h with z |z
     .cases z
      simp at w
     .exact .inr z
  .rw[if_neg k]
   refine rZ r n acc x ?_ hn;rcases h with h |h
   .exact .inl h
   .rcases cf.mp h with z |z
    .cases z
     simp at k
    .exact .inr z
theorem Fa{n0:Nat}:∀(names:List (Str×gw))(n:Nat)(acc:List (Str×Addr))(x:Str)(c:Addr),n0<=n->(cellsFrom n names acc).lookup x=some c->n0<=c\/acc.lookup x=some c
 |[],n,acc,x,c,hn,e=>.inr e
 |(name,kind)::r,n,acc,x,c,hn,e=>by
  unfold cellsFrom at e
  by_cases k:(kind==gv)=true
  .rw[if_pos k]at e
   rcases Fa r (n+1) _ x c (o5 hn) e with z |z
   .exact .inl z
   .rw[ee]at z
    cases w:x==name with
    |true=>
     rw[w]at z;cases z;exact .inl hn
    |false=>
     rw[w]at z;exact .inr z
  .rw[if_neg k]at e
   exact Fa r n acc x c hn e
theorem vL:∀(names:List (Str×gw))(n:Nat)(acc:List (Str×Addr))(x:Str),(x,gv)∉names->(cellsFrom n names acc).lookup x=acc.lookup x
 |[],n,acc,x,h=>rfl
 |(name,kind)::r,n,acc,x,h=>by
  unfold cellsFrom;have hr:(x,gv)∉r:=λz=>h (ay _ z)
  by_cases k:(kind==gv)=true
  .rw[if_pos k,vL r _ _ x hr,ee]
   cases w:x==name with
   |true=>
    refine absurd ?_ h;have e1:x=name:=by simpa using w
    have e2:kind=.cell:=by simpa using k
    rw[e1,e2];exact bo
   |false=>rfl
  .rw[if_neg k,vL r _ _ x hr]
theorem Ha:∀(names:List (Str×gw))(h:Heap)(acc:List (Str×Addr)),(∀x c,acc.lookup x=some c->∃v,h.IsCell c v)->∀x c,(cellsFrom h.objs.size names acc).lookup x=some c->∃v,(pushCells h names).IsCell c v
 |[],h,acc,hc,x,c,e=>hc x c e
 |(name,kind)::r,h,acc,hc,x,c,e=>by
  unfold cellsFrom at e;unfold pushCells
  by_cases k:(kind==gv)=true
  .rw[if_pos k]at e⊢
   rw[<-jn h {cls:=.type "cell",data:=.cell none}]at e;refine Ha r _ _ (λy c e=>?_) x c e;rw[ee]at e;cases w:y==name with
   |true=>
    rw[w]at e;cases e;exact⟨none,_,du _ rfl,rfl⟩
   |false=>
    rw[w]at e;obtain⟨v,z⟩:=hc y c e;exact⟨v,z.keeps λb o e=>az _ e⟩
  .rw[if_neg k]at e⊢
   exact Ha r h acc hc x c e
theorem Nf{env:bh}:∀{names:List (Str×gw)}{x:Str},
  (let l:=(names.map λ(n,k)=>if(k==ia&&env.scope.kind== .function&&env.kindOf n==some .cell)then(n,gv)else(n,k)).lookup x;l=some .cell\/l=some .free)->(x,ia)∈names\/(x,gv)∈names
 |[],x,h=>by
  rcases h with h |h<;>cases h
 |(n,k)::r,x,h=>by
  dsimp only at h;rw[av]at h;have ih:=@Nf env r x
  by_cases c:(k==ia&&env.scope.kind== .function&&env.kindOf n==some .cell)=true
  .have kf:k=.free:=by
    simp only[ji,beq_iff_eq]at c;exact c.1.1
   dsimp only at h;rw[if_pos c,ee]at h;cases w:x==n with
   |true=>
    have hx:x=n:=by simpa using w
    rw[hx,<-kf];exact .inl bo
   |false=>
    rw[w]at h;exact(ih h).imp (ay _) (ay _)
  .dsimp only at h
   rw[if_neg c,ee]at h;cases w:x==n with
   |true=>
    rw[w]at h;have hx:x=n:=by simpa using w
    rcases h with h |h
    .have kf:k=.cell:=cj h
     rw[hx,<-kf];exact .inr bo
    .have kf:k=.free:=cj h
     rw[hx,<-kf];exact .inl bo
   |false=>
    rw[w]at h;exact(ih h).imp (ay _) (ay _)
theorem Ef{env:bh}:∀{names:List (Str×gw)}{x:Str},names.lookup x=some .cell->
  (names.map λ(n,k)=>if(k==ia&&env.scope.kind== .function&&env.kindOf n==some .cell)then(n,gv)else(n,k)).lookup x=some .cell
 |[],x,h=>by cases h
 |(n,k)::r,x,h=>by
  rw[av];dsimp only;rw[ee]at h;cases w:x==n with
  |true=>
   rw[w]at h;have kf:k=.cell:=cj h;subst kf;rw[if_neg (by rw[show(gv==ia)=false from rfl];simp),ee,w]
  |false=>
   rw[w]at h;have ih:=@Ef env r x h
   by_cases c:(k==ia&&env.scope.kind== .function&&env.kindOf n==some .cell)=true
   .rw[if_pos c,ee,w]
    exact ih
   .rw[if_neg c,ee,w]
    exact ih
def iH(X:Cx)(sc:Scope)(N:List Str)(C:Addr)(BF:aa)(BG:Hp)(ex:List Addr):Cx where
 prog:=X.prog
 w:=X.w
 K:=X.K
 mg:=X.mg
 base:=X.base
 A:=X.A
 N:=N
 BF:=BF
 BG:=BG
 env:=compEnvC sc (cellsFrom (C+1) sc.names (gG X.env sc.names [])) C X.env
 outer:=X.stack
 stack:=X.stack
 ex:=ex
 fn:=λx=>sc.names.lookup x==some .cell
 calm:=X.calm
 pn:=[]
 xe:=λ_ _=>False
structure mK(X:Cx)(sc:Scope)(own:List Str)(cap:List (Nat×Str)):Prop where
 kind:sc.kind=.function
 names:∀y∈sc.names,y.2=.local->sc.names.lookup y.1=some .local
 cells:∀y∈sc.names,y.2=.cell->sc.names.lookup y.1=some .cell
 free:∀y∈sc.names,y.2=.free->X.env.kindOf y.1=some .cell
 at':∀p∈cap,X.N[p.1]?=some p.2
 cap:∀p∈cap,sc.names.lookup p.2=some .free
section
variable{X:Cx}{sc:Scope}{own:List Str}{cap:List (Nat×Str)}{BE:List (Addr×Obj)}{σ:St}{H:Hp}{s:aa}{elt target iter:ag}{pos pos':ai}{wi:TI}{g:TG}{te:TE}{Q:VK}
theorem mK.has(k:mK X sc own cap)(ok:X.Ok):∀p∈sc.names,p.2=.free->∃c,X.env.cells.lookup p.1=some c:=λp hp e=>ok.has p.1 (.inl (k.free p hp e))
theorem aH.cmpC(k:mK X sc own cap){h4:Heap}{fp:List Addr}{t':Nat}(I:aH X BE σ H s)(hf:∀b∈fp,fX X BE H b)(hlt:∀b∈fp,b<s.heap.objs.size)
  (e4:h4=pushCells (s.heap.push {cls:=.type "dict",data:=.dict #[]}) sc.names):aH (iH X sc (dC own cap) s.heap.objs.size s H fp) [] (jV own cap σ) H {s with heap:=h4,toks:=t'}:=by
 have kp:∀b o,s.heap.get? b=some o->h4.get? b=some o:=λb o e=>by
  rw[e4];exact yg _ _ b o (az _ e)
 have hns:h4.Ns s.heap.objs.size (λ_=>none):=by
  rw[e4];exact(Heap.Ns.new ..).keeps λb o e=>yg _ _ b o e
 have hcl:∀y c,(gG X.env sc.names []).lookup y=some c->X.env.cells.lookup y=some c:=λy c e=>by
  rcases tY sc.names [] (k.has I.ok) y c e with z |z
  .cases z
  .exact z
 have clt:∀y c,X.env.cells.lookup y=some c->c<s.heap.objs.size:=λy c e=>by
  obtain⟨v,o,ho,_⟩:=I.cell y c e;exact bn ho
 have hfr:∀y c,(cellsFrom (s.heap.objs.size+1) sc.names (gG X.env sc.names [])).lookup y=some c->s.heap.objs.size<c\/X.env.cells.lookup y=some c:=λy c e=>
  (Fa (n0:=s.heap.objs.size+1) sc.names _ _ y c (ar _) e).imp (λz=>z) (hcl y c)
 have nst:∀b∈fp,b∉dN X.stack:=λb hb z=>by
  rcases cf.mp (I.stkSub b z)with e |e
  .exact(hf b hb).2.1 e
  .exact(hf b hb).2.2.1 e
 refine⟨⟨I.ok.mod,k.kind,I.ok.glob,I.ok.blt,ar _,λx y c h1 h2=>?_,λx hx=>?_,λx c hfn e=>?_,I.ok.hd,I.ok.frames,.inl rfl,λb hb=>⟨dm (hlt b hb),λx c e=>?_⟩,
  I.bs,fk I.ok.bsz I.sz,λb o e hb=>?_,nst,I.stack,I.stkFree⟩,rfl,I.bare,Un.kept kp,⟨_,hns,λi x v h1 h2 h3=>?_⟩,λx c e=>?_,I.hok.fresh (ar _),λx c e=>?_,λp hp=>absurd (show p∈([]:List (Addr×Obj)) from hp) (by simp),I.hok.kept kp,?_⟩
 .exact Gb sc.names _ _ (λx y c h1 h2=>I.ok.inj x y c (hcl x c h1) (hcl y c h2)) (λx c e=>ya (clt x c (hcl x c e))) x y c h1 h2
 .rcases Nf hx with z |z
  .by_cases m:(x,gv)∈sc.names
   .obtain⟨c,e,_⟩:=rZ (n0:=0) sc.names (s.heap.objs.size+1) (gG X.env sc.names []) x (.inr m) (je _)
    exact⟨c,e⟩
   .obtain⟨c,e⟩:=pF (env:=X.env) sc.names [] x (.inr z)
    exact⟨c,(vL sc.names _ _ x m).trans e⟩
  .obtain⟨c,e,_⟩:=rZ (n0:=0) sc.names (s.heap.objs.size+1) (gG X.env sc.names []) x (.inr z) (je _)
   exact⟨c,e⟩
 .have hm:(x,gv)∈sc.names:=jy (by simpa[iH]using hfn)
  obtain⟨c',e',hc'⟩:=rZ (n0:=s.heap.objs.size) sc.names (s.heap.objs.size+1) (gG X.env sc.names []) x (.inr hm) (qv _);have:=e'.symm.trans e;cases this;exact hc'
 .rcases hfr x c e with z |z
  .exact oj (Nat.lt_trans (hlt b hb) z)
  .exact(hf b hb).2.2.2.2.1 x c z
 .rcases(hf b hb).2.2.2.1 with z |z
  .exact I.ok.noex b o e z
  .exact absurd (df (bn (I.ok.bs b o e).1) z) (jh _)
 .have hN:(dC own cap)[i]?=some x:=h1
  unfold dC at hN;unfold jV at h2
  by_cases hi:i<own.length
  .rw[ft (by simpa using hi),dj]at h2
   cases e:own[i]? with
   |none=>rw[e]at h2;cases h2
   |some z=>rw[e]at h2;cases h2
  .rw[gh (by simpa using hi),dj,aj]at h2
   rw[gh (by omega),dj]at hN;cases e:cap[i-own.length]? with
   |none=>rw[e]at h2;cases h2
   |some p=>
    rw[e]at h2 hN;have hp:p∈cap:=gi e;have hx:p.2=x:=cj hN;have hv:(σ[p.1]?).join=some v:=cj h2;have hv':σ[p.1]?=some (some v):=by
     cases e2:σ[p.1]? with
     |none=>rw[e2]at hv;cases hv
     |some z=>rw[e2]at hv;exact congrArg some hv
    have fr:=k.cap p hp;have nc:(p.2,gv)∉sc.names:=λz=>by
     have:=k.cells _ z rfl;rw[fr]at this;cases this
    have kc:X.env.kindOf p.2=some .cell:=k.free (p.2,.free) (jy fr) rfl;obtain⟨m0,_,hl⟩:=I.loc;obtain⟨u,ru,lk⟩:=hl p.1 p.2 v (k.at' p hp) hv' (.inr (.inl kc));refine⟨u,ru,?_⟩;rcases lk with⟨k1,_⟩|⟨_,c,ec,cell⟩
    .rw[kc]at k1
     cases k1
    .rw[<-hx]
     obtain⟨c',ec'⟩:=pF (env:=X.env) sc.names [] p.2 (.inr (jy fr));have:=(hcl _ _ ec').symm.trans ec;cases this;obtain⟨o,ho,hd⟩:=cell;exact .inr ⟨.inl (qX I.ok.kind fr kc),c,(vL sc.names _ _ p.2 nc).trans ec',o,kp c o ho,hd⟩
 .show ∃v,h4.IsCell c v
  rw[e4];refine Ha sc.names _ (gG X.env sc.names []) (λy c e=>?_) x c (by rw[jn];exact e);obtain⟨v,z⟩:=I.cell y c (hcl y c e);exact⟨v,z.keeps λb o e=>az _ e⟩
 .rcases hfr x c e with z |z
  .exact I.hok.fresh (qj z)
  .exact I.freeC x c z
 .unfold jV
  show _=(dC own cap).length;unfold dC;rw[bj,bj,aj,aj,aj]
theorem aH.uncmpC{s3 s':aa}{H3 H':Hp}{N:List Str}{σ':St}{C:Addr}{fp:List Addr}{pl:List (Addr×Obj)}(I:aH X BE σ H s)(hf:∀b∈fp,fX X BE H b)(u:Un (dN X.stack) fp H H3 s.heap s3.heap)(os:s3.os=s.os)
  (J:aH (iH X sc N C s3 H3 fp) pl σ' H' s'):aH X BE σ H' s':=by
 have os':s'.os=s.os:=(show s'.os=s3.os from J.os).trans os;refine I.call' (ch:=fp) os' (u.trans J.base) J.hok J.bare λb hb=>?_;obtain⟨_,f1,_,f3,f4,f5⟩:=hf b hb;exact⟨f3,f1,f4,f5⟩
theorem Kt{use:Option (Value->Sem Unit)}{Qf:Value->aa->Prop}(k:mK X sc own cap)(hi:PI X target iter wi)(hc:X.calm=true)
  (hg:∀C BF BG ex,PG (iH X sc (dC own cap) C BF BG ex) target g)(he:∀C BF BG ex,PE (iH X sc (dC own cap) C BF BG ex) elt te)(I:aH X BE σ H s)(h:sN own cap wi g te σ H Q)
  (fin:∀D C s' H' m,aH X BE σ H' s'->fX X BE H' C->s'.heap.Ns C m->Q (.ref D) H'->compPost (model X.prog X.w) X.A X.xe use Qf (.ref D) C (.ok .next) s')
  (hs:∀x,foldedSetIterable iter X.env x=pure x):
  wpAny (model X.prog X.w) X.A (comprehension (.ListComp elt [⟨target,iter,[],0⟩] sc pos) sc X.env pos' (newList []) false (eval iter X.env) use) Qf X.xe s:=by
 refine f6 (use:=use) rfl hs (Ul (k.has I.ok)) k.kind k.names ?_;refine bJ (hi BE s σ H _ I h) λv s1 h1=>bJ h1 λitv s2 h2=>?_;obtain⟨it,fp,tn,J,H2,e,I2,T,st2,f2,hW⟩:=h2;subst e;refine ke (Rr ?_);have hsz:(s2.heap.push {cls:=.type "list",data:=.seq ([]:AW).toArray}).objs.size=s2.heap.objs.size+1:=jn ..;have I3:aH X BE σ (bA H2 s2.heap.objs.size (.lst [])) {s2 with heap:=s2.heap.push {cls:=.type "list",data:=.seq ([]:AW).toArray},toks:=s2.toks}:=I2.lnew (ys:=[]) (its:=[]) .nil (je _);have hD:H2 s2.heap.objs.size=none:=I2.fresh;have ltf:∀b∈fp,b<s2.heap.objs.size:=λb hb=>by
  obtain⟨o,ho,_⟩:=T.obj _ _ st2 b hb;exact bn ho
 have f3:∀b∈fp,fX X BE (bA H2 s2.heap.objs.size (.lst [])) b:=λb hb=>⟨by rw[bV (dm (ltf b hb))];exact(f2 b hb).1,(f2 b hb).2⟩;have un:Un (dN X.stack) fp H2 (bA H2 s2.heap.objs.size (.lst [])) s2.heap (s2.heap.push {cls:=.type "list",data:=.seq ([]:AW).toArray}):=Un.laid (λb u q=>az _ q) (ar _) hD;have kp:∀b o,(s2.heap.push {cls:=.type "list",data:=.seq ([]:AW).toArray}).get? b=some o->(pushCells ((s2.heap.push {cls:=.type "list",data:=.seq ([]:AW).toArray}).push {cls:=.type "dict",data:=.dict #[]}) sc.names).get? b=some o:=λb o q=>yg _ _ b o (az _ q);have J0:=I3.cmpC (t':=s2.toks) k f3 (λb hb=>df (ltf b hb) (by rw[jn];exact qv _)) rfl;have stat:∀{H':Hp},(∀b∈fp,H' b=none)->∀b∈fp,fX (iH X sc (dC own cap) (s2.heap.push {cls:=.type "list",data:=.seq ([]:AW).toArray}).objs.size {s2 with heap:=s2.heap.push {cls:=.type "list",data:=.seq ([]:AW).toArray},toks:=s2.toks} (bA H2 s2.heap.objs.size (.lst [])) fp) [] H' b:=λhn b hb=>
  ⟨hn b hb,(J0.ok.exf b hb).1,J0.ok.exfs b hb,.inl hb,(J0.ok.exf b hb).2,λp hp=>absurd (show p∈([]:List (Addr×Obj)) from hp) (by simp)⟩
 have st4:tn 0 (pushCells ((s2.heap.push {cls:=.type "list",data:=.seq ([]:AW).toArray}).push {cls:=.type "dict",data:=.dict #[]}) sc.names):=T.keep _ _ _ st2 λb hb o q=>kp b o (az _ q);have fr0:∀b∈fp,(bA H2 s2.heap.objs.size (.lst [])) b=none:=λb hb=>(f3 b hb).1;have loop:codeAny (model X.prog X.w) X.A (.compLoop (.ListComp elt [⟨target,iter,[],0⟩] sc pos) 0 (.ref it) (.ref s2.heap.objs.size) (compEnvC sc (cellsFrom ((s2.heap.push {cls:=.type "list",data:=.seq ([]:AW).toArray}).objs.size+1) sc.names (gG X.env sc.names [])) (s2.heap.push {cls:=.type "list",data:=.seq ([]:AW).toArray}).objs.size X.env))
   (compPost (model X.prog X.w) X.A X.xe use Qf (.ref s2.heap.objs.size) (s2.heap.push {cls:=.type "list",data:=.seq ([]:AW).toArray}).objs.size) {s2 with heap:=(pushCells ((s2.heap.push {cls:=.type "list",data:=.seq ([]:AW).toArray}).push {cls:=.type "dict",data:=.dict #[]}) sc.names),toks:=s2.toks}:=by
  obtain⟨W,⟨m0,w0⟩,turn⟩:=hW s2.heap.objs.size hD;refine Zf (λn s'=>∃i σ' H' ys,aH (iH X sc (dC own cap) (s2.heap.push {cls:=.type "list",data:=.seq ([]:AW).toArray}).objs.size {s2 with heap:=s2.heap.push {cls:=.type "list",data:=.seq ([]:AW).toArray},toks:=s2.toks} (bA H2 s2.heap.objs.size (.lst [])) fp) [] σ' H' s'/\tn i s'.heap/\(∀b∈fp,H' b=none)/\W i n σ' H' ys) ?_ m0
   ⟨0,_,_,[],J0,st4,fr0,w0⟩
  rintro n s5 ⟨i,σ5,H5,ys,I5,st5,fr5,w5⟩
  obtain⟨hD5,w5⟩:=turn i n σ5 H5 ys w5;rcases w5 with⟨stop,qn⟩|⟨go,hlt,step⟩
  .refine bJ (T.done (iH X sc (dC own cap) (s2.heap.push {cls:=.type "list",data:=.seq ([]:AW).toArray}).objs.size {s2 with heap:=s2.heap.push {cls:=.type "list",data:=.seq ([]:AW).toArray},toks:=s2.toks} (bA H2 s2.heap.objs.size (.lst [])) fp) rfl rfl rfl hc i [] s5 σ5 H5 _ I5 (stat fr5) st5 stop) ?_
   rintro r s6 ⟨hr,I6⟩
   subst hr;obtain⟨m,hn,_⟩:=id I6.loc;exact fin _ _ s6 H5 m (I2.uncmpC (s3:={s2 with heap:=s2.heap.push {cls:=.type "list",data:=.seq ([]:AW).toArray},toks:=s2.toks}) f2 un rfl I6) (I3.fpOk (ar _) I6.free) hn qn
  .refine bJ (T.item (iH X sc (dC own cap) (s2.heap.push {cls:=.type "list",data:=.seq ([]:AW).toArray}).objs.size {s2 with heap:=s2.heap.push {cls:=.type "list",data:=.seq ([]:AW).toArray},toks:=s2.toks} (bA H2 s2.heap.objs.size (.lst [])) fp) rfl rfl rfl hc i [] s5 σ5 H5 _ I5 (stat fr5) st5 go) ?_
   rintro r s6 ⟨u,hr,h6⟩
   subst hr;refine bJ h6 ?_
   rintro _ s7 ⟨x,H7,I7,r7,y7,st7,fr7⟩
   have I7':=I7.pinned (stat fr7) (T.obj _ _ st7);refine bJ (hg _ _ _ _ _ s7 σ5 H7 x u _ I7' r7 (step x H7 y7)) ?_
   rintro _ s8 ⟨σ8,H8,I8,q8⟩
   refine bJ (he _ _ _ _ _ s8 σ8 H8 _ I8 q8) ?_
   rintro v9 s9 ⟨y,H9,I9,r9,hD9,m',hm,w9⟩
   refine bJ (uJ _ s9 σ8 H9 (.ref s2.heap.objs.size) [y] (.ref s2.heap.objs.size) [v9] (λ_ H'=>H'=bA H9 s2.heap.objs.size (.lst (ys++[y]))) I9 rfl (.cons r9 .nil) ⟨_,ys,y,rfl,rfl,hD9,hlt,rfl⟩) ?_
   rintro _ s10 ⟨_,H10,I10,_,q10⟩
   subst q10;refine⟨m',hm,i+1,σ8,_,_,I10.unpinned,T.keep _ _ _ st7 λb hb o q=>(I10.pin (b,o) (gr _ (gr _ (oZ hb q)))).1,λb hb=>?_,w9⟩;obtain⟨o,q,d⟩:=T.obj _ _ st7 b hb;exact(I10.pin (b,o) (gr _ (gr _ (oZ hb q)))).2.1
 exact f7 loop (T.self _ 0 _ _ _ st4 loop)
theorem Fw(k:mK X sc own cap)(hi:PI X target iter wi)(hc:X.calm=true)
  (hg:∀C BF BG ex,PG (iH X sc (dC own cap) C BF BG ex) target g)(he:∀C BF BG ex,PE (iH X sc (dC own cap) C BF BG ex) elt te)
  (hs:∀x,foldedSetIterable iter X.env x=pure x:=by intro _;rfl):PE X (.ListComp elt [⟨target,iter,[],0⟩] sc pos) (sN own cap wi g te):=by
 intro BE s σ H Q I h;rw[eval_ListComp];refine Kt (use:=none) k hi hc hg he I h (λD C s' H' m I' fC hn q=>?_) hs;refine⟨m,hn,λh' sb=>⟨.ref D,H',?_,rfl,q⟩⟩;obtain⟨f0,f1,f2,f3,f4,f5⟩:=fC;exact I'.turned (t':=s'.toks) (λb o hb e=>(sb.2 b hb).trans e) f0 f1 f3 f4 f5
theorem D7{X:Cx}{sc:Scope}{own:List Str}{cap:List (Nat×Str)}(so:Scope)(N:List Str)(hso:X.env.scope=so)(hN:X.N=N)(kind:sc.kind=.function)(names:∀y∈sc.names,y.2=.local->sc.names.lookup y.1=some .local)
  (cells:∀y∈sc.names,y.2=.cell->sc.names.lookup y.1=some .cell)(free:∀y∈sc.names,y.2=.free->so.names.lookup y.1=some .cell)(at':∀p∈cap,N[p.1]?=some p.2)(hcap:∀p∈cap,sc.names.lookup p.2=some .free):mK X sc own cap:=
 ⟨kind,names,cells,λy hy e=>by show X.env.scope.names.lookup y.1=_;rw[hso];exact free y hy e,λp hp=>by rw[hN];exact at' p hp,hcap⟩
theorem D4{X:Cx}{sc1 sc:Scope}{own1 own:List Str}{cap1 cap:List (Nat×Str)}{C:Addr}{BF:aa}{BG:Hp}{ex:List Addr}(so:Scope)(hso:X.env.scope=so)(hk:so.kind=.function)(kind:sc.kind=.function)(names:∀y∈sc.names,y.2=.local->sc.names.lookup y.1=some .local)
  (nocell:∀y∈sc.names,y.2≠.cell)(free:∀y∈sc.names,y.2=.free->sc1.names.lookup y.1=some .cell\/(sc1.names.lookup y.1=some .free/\so.names.lookup y.1=some .cell))(at':∀p∈cap,(dC own1 cap1)[p.1]?=some p.2)(hcap:∀p∈cap,sc.names.lookup p.2=some .free):
  iK (iH X sc1 (dC own1 cap1) C BF BG ex) sc own cap:=
 ⟨kind,names,nocell,λy hy e=>by
  rcases free y hy e with f |⟨f1,f2⟩
  .exact Ef (env:=X.env) f
  .exact qX (env:=X.env) (by rw[hso];exact hk) f1 (by show X.env.scope.names.lookup y.1=_;rw[hso];exact f2),at',hcap⟩
end
end L2
namespace L2.Pp
open PySem PySem.Spec PyProof.Rows Bn
section
variable{K:ae}{cl:Str->Addr}{E:XK}{X:Cx}{p q:Ph}{H H':Hp}{S:aG}
variable{sc:Scope}{own:List Str}{cap:List (Nat×Str)}{elt target iter:ag}{pos:ai}{mi:MI}{g:GM}{me:ME}
theorem Qy(k:mK X sc own cap)(hi:PIp K cl E X target iter mi)(hc:X.calm=true)(hg:∀C BF BG ex,lU K (iH X sc (dC own cap) C BF BG ex) target g)(he:∀C BF BG ex,aZ K cl E0 (iH X sc (dC own cap) C BF BG ex) elt me)
  (hs:∀x,foldedSetIterable iter X.env x=pure x:=by intro _;rfl):aZ K cl E X (.ListComp elt [⟨target,iter,[],0⟩] sc pos) (bB own cap mi g me):=by
 intro hK;refine PE.imp (Fw k (hi hK) hc (λC BF BG ex=>hg C BF BG ex hK) (λC BF BG ex=>he C BF BG ex hK) hs) ?_
 rintro σ H Q ⟨p,S,ρ,s,ev,h⟩
 exact cR s ev h λq H' xs J S' stp sm ev it kk D hD=>yQ sm ev it kk hD
end
noncomputable section
open PySem PySem.Spec PyProof.Rows Bn
def xI(k:Nat)(S:aG):Prop:=∀(j:Nat)(o:SO),S[j]?=some o->j≠k->∃xs,o=.lst xs
def Pl(S:aG):Prop:=∀(j:Nat)(o:SO),S[j]?=some o->∃xs,o=.lst xs
section
variable{K:ae}{cl:Str->Addr}{E:XK}{X:Cx}{a e:ag}{m:ME}{ms:MA}{pos:ai}{p q:Ph}{H H':Hp}{S:aG}
theorem aY.pushO(s:aY K p S H){D:Addr}{o:SO}{ho:HO}(h:H D=none)(mo:Mb ho)(ob:qH K ⟨p.f++[D],λa=>p.w a\/a=D,λa=>p.c a\/a=D⟩ (bA H D ho) D o):
  let q:Ph:=⟨p.f++[D],λa=>p.w a\/a=D,λa=>p.c a\/a=D⟩
  bR p H q (bA H D ho)/\aY K q (S++[o]) (bA H D ho):=by
 intro q;obtain⟨st0,sm0⟩:=s.res (D:=D) (o:=ho) h mo;have nf0:D∉p.f:=λz=>s.notin h (s.wc D (s.sub D z));refine⟨⟨st0.wc,st0.mu,⟨[D],rfl⟩,st0.mw,st0.mono,λa x n=>?_,st0.nw,st0.nc,st0.keep⟩,?_,by simp[q,s.len],λa x=>?_,sm0.wc,sm0.mu,λk a u e1 e2=>?_⟩
 .rcases ck.mp x with z |z
  .exact absurd z n
  .have:a=D:=by simpa using z
   rw[this];exact h
 .show(p.f++[D]).Nodup
  rw[uc];refine⟨s.nd,by simp,λa ha b hb z=>?_⟩;have:b=D:=by simpa using hb
  exact nf0 (this▸z▸ha)
 .rcases ck.mp x with z |z
  .exact .inl (s.sub a z)
  .exact .inr (by simpa using z)
 .by_cases hk:k<S.length
  .have e1':p.f[k]?=some a:=by
    have e1:(p.f++[D])[k]?=some a:=e1
    rwa[ft (by rw[s.len];exact hk)]at e1
   rw[ft hk]at e2;refine(s.obj k a u e1' e2).mono (λvs e=>by rw[bV (fV e h)];exact e) (λb w f=>⟨⟨.inl w,λm=>?_⟩,λvs e=>by rw[bV (fV e h)];exact e⟩) λ_ _ r=>st0.reps r;rcases ck.mp m with z |z
   .exact f z
   .have:b=D:=by simpa using z
    exact s.notin h (this▸s.wc b w)
  .have hk':k=S.length:=by
    have:=(cq.mp e2).1;simp at this;omega
   subst hk';rw[gh (ar _),jg]at e2;have e1:(p.f++[D])[S.length]?=some a:=e1;rw[<-s.len,gh (ar _),jg]at e1;cases e1;cases e2;exact ob
def Rb(xs:BD)(S:aG):bQ AV:=match(iC S xs).bind lI with
 |some (.lst vs)=>.ok (.ref S.length) (S++[.lol [vs]])
 |_=>.fail
def sT(ms:MA):ME:=λρ S=>(ms ρ S).bind Rb
theorem Kl{as:BD}{xs:List V}{vs:BA}(s:aY K p S H)(r:gH K p H as xs)(h:(iC S as).bind lI=some (.lst vs)):
  ∃b ws,xs=[.ref b]/\(bU K H b ws\/dA K H b ws)/\ws.length<=sizeLine/\aU K p.c H vs ws:=by
 cases z:iC S as with
 |none=>rw[z]at h;cases h
 |some us=>
  rw[z]at h;have rr:=yU s r z;cases rr with
  |nil=>cases h
  |cons g t=>
   rename_i u x ut xt;cases t with
   |cons _ _=>cases u<;>cases h
   |nil=>
    cases u with
    |lst ws=>
     cases h;obtain⟨a,ws,rfl,l,z,r⟩:=g.lst;exact⟨a,ws,rfl,.inl l,z,r⟩
    |tup ws=>
     cases h;obtain⟨a,ws,rfl,l,z,r⟩:=g.tup;exact⟨a,ws,rfl,.inr l,z,r⟩
    |_=>cases h
theorem X4{x:Str}{p lp:ai}(hx:x="list")(hg:Gl X "list")(hm:X.mg "list"=none)(ha:eX K cl E X [e] ms)(he:starEach [e] X.env=[(false,eval e X.env)]:=by rfl)
  (hs:starEach [.Call (.Name x p) [e] [] pos] X.env=[(false,eval (.Call (.Name x p) [e] [] pos) X.env)]:=by rfl):aZ K cl E X (.List [.Call (.Name x p) [e] [] pos] lp) (sT ms):=by
 intro hK;subst hK hx;refine PE.imp (Bb (gX (yW xV hg hm (by decide+kernel) (ha rfl) (by decide) (by decide) he rfl) kR hs)) ?_
 rintro σ H Q ⟨p,S,ρ,s,ev,h⟩
 refine cR s ev h λq H1 as xs S1 st s1 e1 r1 h1=>?_;unfold Rb at h1;split at h1
 .rename_i vs hv
  obtain⟨b,ws,rfl,sq,hl,r⟩:=Kl s1 r1 hv;refine⟨b,ws,rfl,sq,λl hn=>⟨by show 1<=sizeLine;decide,λt ht=>?_⟩⟩;obtain⟨st2,sm2⟩:=s1.res (D:=l) (o:=.lst ws) hn trivial;have ne:l≠t:=λz=>by rw[<-z,fR]at ht;cases ht
  have nf:l∉q.f:=λz=>s1.notin hn (s1.wc l (s1.sub l z));have eK:=(sm2.res (D:=t) (o:=.lst [.ref l]) ht trivial).1;have ob:qH X.K ⟨(q.res l).f++[t],λa=>(q.res l).w a\/a=t,λa=>(q.res l).c a\/a=t⟩ (bA (bA H1 l (.lst ws)) t (.lst [.ref l])) t (.lol [vs]):=by
   refine⟨[l],fR,by show 1<=sizeLine;decide,by simp,λc hc=>?_,rfl,λi ys c e1 e2=>?_⟩
   .have:c=l:=by simpa using hc
    subst this;refine⟨.inl (.inr rfl),λm=>?_⟩;rcases ck.mp m with z |z
    .exact nf z
    .exact ne (by simpa using z)
   .cases i with
    |zero=>
     cases e1;cases e2;exact⟨ws,by rw[bV ne,fR],hl,eK.reps (st2.reps r)⟩
    |succ i=>simp at e1
  obtain⟨st4,sm4⟩:=sm2.pushO (D:=t) (ho:=.lst [.ref l]) ht trivial ob;exact h1 _ _ (.ref t) (st2.trans st4) sm4 ⟨t,by show(q.f++[t])[S1.length]?=some t;rw[<-s1.len,gh (ar _),jg];rfl,rfl⟩
 .exact h1.elim
def sS(k:Nat)(ys:BD)(S:aG):bQ AV:=match(iC S ys).bind lI,S[k]? with
 |some (.lst vs),some (.lol xss)=>if xss.length<16777216 then .ok (.pv .non) (S.set k (.lol (xss++[vs])))else .fail
 |_,_=>.fail
def sJ(m:ME)(ms:MA):ME:=λρ S=>(m ρ S).bind λk S1=>eZ k S1 λk=>(ms ρ S1).bind λys S2=>sS k ys S2
theorem aY.growL(s:aY K p S H){k:Nat}{D l:Addr}{xss:List BA}{bs:List Addr}{ys:BA}{ws:List V}(h:p.f[k]?=some D)(hS:S[k]?=some (.lol xss))(hn:H l=none)(hl:ws.length<=sizeLine)(r:aU K p.c H ys ws)(hH:H D=some (.lst (bs.map V.ref)))(hz:bs.length<sizeLine):
  bR p H (p.res l) (bA (bA H l (.lst ws)) D (.lst ((bs++[l]).map V.ref)))/\aY K (p.res l) (S.set k (.lol (xss++[ys]))) (bA (bA H l (.lst ws)) D (.lst ((bs++[l]).map V.ref))):=by
 obtain⟨st2,sm2⟩:=s.res (D:=l) (o:=.lst ws) hn trivial;have hk:k<S.length:=(cq.mp hS).1;have mD:D∈p.f:=gi h;have w:(p.res l).w D:=.inl (s.sub D mD);have neD:D≠l:=λz=>by rw[z,hn]at hH;cases hH
 have nl:l∉p.f:=λz=>s.notin hn (s.wc l (s.sub l z));have eK:bR (p.res l) (bA H l (.lst ws)) (p.res l) (bA (bA H l (.lst ws)) D (.lst ((bs++[l]).map V.ref))):=⟨sm2.wc,sm2.mu,kl,λ_ h=>h,λ_ h=>h,λ_ h g=>absurd h g,λ_ h g=>absurd h g,λ_ h g=>absurd h g,λa u e nw=>by
  rw[bV (λz:a=D=>nw (by rw[z];exact w))];exact e⟩
 refine⟨st2.trans eK,sm2.nd,by rw[fu];exact sm2.len,sm2.sub,sm2.wc,λa x=>?_,λj a o e1 e2=>?_⟩
 .by_cases z:a=D
  .rw[z,fR]
   exact⟨_,rfl,trivial⟩
  .rw[bV z]
   exact sm2.mu a x
 .by_cases hj:k=j
  .subst hj
   have e1:p.f[k]?=some a:=e1;rw[h]at e1;cases e1;rw[gf hk]at e2;cases e2;obtain⟨cs,g1,g2,g3,g4,g5,g6⟩:=s.obj k D _ h hS;rw[hH]at g1;have ec:bs=cs:=by
    have:=congrArg (λo=>match o with |some (HO.lst v)=>v |_=>[]) g1
    have:bs.map V.ref=cs.map V.ref:=this;exact o6 (λx y h=>by cases h;rfl) |>.mp this
   subst ec;have nb:∀b∈bs,b≠l:=λb hb z=>s.notin hn (z▸s.wc b (g4 b hb).1);refine⟨bs++[l],fR,by rw[bj];exact hz,?_,λb hb=>?_,by rw[bj,bj,g5];rfl,λi xs b e1 e2=>?_⟩
   .rw[uc]
    exact⟨g3,by simp,λx hx y hy z=>nb x hx (by rw[z];simpa using hy)⟩
   .rcases ck.mp hb with z |z
    .exact⟨.inl (g4 b z).1,(g4 b z).2⟩
    .have:b=l:=by simpa using z
     subst this;exact⟨.inr rfl,nl⟩
   .by_cases hi:i<bs.length
    .rw[ft hi]at e2
     rw[ft (by rw[g5];exact hi)]at e1;obtain⟨vs,h1,h2,h3⟩:=g6 i xs b e1 e2;have hb:=g4 b (gi e2);exact⟨vs,by rw[bV (λz:b=D=>hb.2 (z▸mD)),bV (nb b (gi e2))];exact h1,h2,eK.reps (st2.reps h3)⟩
    .have hi':i=bs.length:=by
      have:=(cq.mp e2).1;rw[bj]at this;have:i<bs.length+1:=this;omega
     subst hi';rw[gh (ar _),jg]at e2;rw[<-g5,gh (ar _),jg]at e1;cases e1;cases e2;exact⟨ws,by rw[bV (jb neD),fR],hl,eK.reps (st2.reps r)⟩
  .rw[gm hj]at e2
   have ne:a≠D:=λq=>hj (rF s.nd h (q▸e1));exact(sm2.obj j a o e1 e2).mono (λvs e=>by rw[bV ne];exact e) (λb w f=>⟨⟨w,f⟩,λvs e=>by rw[bV (λz:b=D=>f (z▸mD))];exact e⟩) λ_ _ r=>eK.reps r
theorem Gz{x:Str}{p apos cpos:ai}(hx:x="list")(hg:Gl X "list")(hm:X.mg "list"=none)(ho:aZ K cl E X a m)(ha:eX K cl E X [e] ms)(hbase:attributeBase a "append" X.env (eval a X.env)=eval a X.env:=by rfl)
  (hfew:((backTo cpos (starEach [.Call (.Name x p) [e] [] pos] X.env)).all (λx=>!x.1)&&(backToKw cpos (keywordEach [] X.env)).all (λx=>x.1.isSome)&&decide (([.Call (.Name x p) [e] [] pos]:List ag).length+([]:List kg).length+(if([]:List kg).isEmpty then 0 else 1)<30))=true:=by rfl)
  (hline:(apos.endLine==cpos.line)=true:=by rfl)(he:starEach [e] X.env=[(false,eval e X.env)]:=by rfl)(hs:starEach [.Call (.Name x p) [e] [] pos] X.env=[(false,eval (.Call (.Name x p) [e] [] pos) X.env)]:=by rfl):
  aZ K cl E X (.Call (.Attribute a "append" apos) [.Call (.Name x p) [e] [] pos] [] cpos) (sJ m ms):=by
 intro hK;subst hK hx;refine PE.imp (Dc xy wv o0 uJ (ho rfl) (gX (yW xV hg hm (by decide+kernel) (ha rfl) (by decide) (by decide) he rfl) kR hs) hbase hfew hline hs rfl) ?_
 rintro σ H Q ⟨p,S,ρ,s,ev,h⟩
 refine cR s ev h λq H1 k x S1 st s1 e1 r1 h1=>?_;cases k with
 |pv v=>exact h1.elim
 |ref k=>
  have h1:cC X.K cl (cU X.K) q H1 (eZ (.ref k) S1 λk=>(ms ρ S1).bind λys S2=>sS k ys S2) Q E:=h1;rcases uS k S1 (λk=>(ms ρ S1).bind λys S2=>sS k ys S2)with z |⟨z,n1,n2⟩
  .rw[z]at h1
   exact h1.elim
  rw[z]at h1;refine⟨Ba s1 r1 n1 n2,cR s1 e1 h1 λq2 H2 ys xs S2 st2 s2 e2 r2 h2=>?_⟩;obtain⟨a,ea,rfl⟩:=st2.repA r1;unfold sS at h2;split at h2
  .rename_i vs xss hv hS
   obtain⟨b,ws,rfl,sq,hl,r⟩:=Kl s2 r2 hv;split at h2
   .rename_i hz
    refine⟨b,ws,rfl,sq,λl hn=>?_⟩;obtain⟨bs,g1,g2,g3,g4,g5,g6⟩:=s2.obj k a _ ea hS;have hzz:=iQ;have neA:a≠l:=λz=>by rw[z,hn]at g1;cases g1
    obtain⟨eK,sm3⟩:=s2.growL ea hS hn hl r g1 (by rw[<-g5];omega);refine⟨a,bs.map V.ref,.ref l,rfl,rfl,by rw[bV neA];exact g1,by rw[aj,<-g5];omega,?_⟩;have:=h2 _ _ .non eK sm3 (by show aT X.K (q2.res l).c (bA (bA H2 l (.lst ws)) a (.lst ((bs++[l]).map V.ref))) .non .non;exact gW (v:=.non) rfl);rw[dz]at this;exact this
   .exact h2.elim
  .exact h2.elim
def wK(m:Int)(xs:BA):Option BA:=match aW xs.length m with
 |some j=>match xs[j]? with
  |some (.int v)=>some (xs.set j (.int (1-v)))
  |_=>none
 |none=>none
def pY(m:Int):List BA->Option (List BA)
 |[]=>some []
 |xs::r=>match wK m xs,pY m r with
  |some y,some ys=>some (y::ys)
  |_,_=>none
theorem Wg{m:Int}:∀{xss yss:List BA},pY m xss=some yss->xss.length=yss.length/\∀(i:Nat)(xs:BA),xss[i]?=some xs->∃ys:BA,yss[i]?=some ys/\wK m xs=some ys
 |[],yss,e=>by
  cases e;exact⟨rfl,λi xs h=>by simp at h⟩
 |xs::r,yss,e=>by
  unfold pY at e;split at e
  .rename_i y ys h1 h2
   cases e;obtain⟨l,g⟩:=Wg h2;refine⟨by rw[cv,cv,l],λi zs h=>?_⟩;cases i with
   |zero=>
    cases h;exact⟨y,rfl,h1⟩
   |succ i=>simpa using g i zs (by simpa using h)
  .cases e
open Classical in
def oG(ics ic im:Nat):MS:=λρ S=>match ρ[ics]?,ρ[im]? with
 |some (some (.ref k)),some (some (.pv (.int m)))=>match S[k]? with
  |some (.lol xss)=>if xI k S/\ic<ρ.length then(match pY m xss with
   |some yss=>.nx (ρ.set ic none) (S.set k (.lol yss))
   |none=>.fail)else .fail
  |_=>.fail
 |_,_=>.fail
theorem aY.inner(s:aY K p S H){k i:Nat}{D b:Addr}{xss:List BA}{bs:List Addr}{ys:BA}{ws:List V}(h:p.f[k]?=some D)(hS:S[k]?=some (.lol xss))(pl:xI k S)(hH:H D=some (.lst (bs.map V.ref)))(hb:bs[i]?=some b)(hl:ws.length<=sizeLine)(r:aU K p.c H ys ws):
  bR p H p (bA H b (.lst ws))/\aY K p (S.set k (.lol (xss.set i ys))) (bA H b (.lst ws)):=by
 have hk:k<S.length:=(cq.mp hS).1;have mD:D∈p.f:=gi h;obtain⟨cs,g1,g2,g3,g4,g5,g6⟩:=s.obj k D _ h hS;rw[hH]at g1;have ec:bs=cs:=by
  have:=congrArg (λo=>match o with |some (HO.lst v)=>v |_=>[]) g1
  have:bs.map V.ref=cs.map V.ref:=this;exact o6 (λx y h=>by cases h;rfl) |>.mp this
 subst ec;have wb:=g4 b (gi hb);have st:bR p H p (bA H b (.lst ws)):=⟨s.wc,s.mu,kl,λ_ h=>h,λ_ h=>h,λ_ h g=>absurd h g,λ_ h g=>absurd h g,λ_ h g=>absurd h g,λa u e nw=>by
  rw[bV (λz:a=b=>nw (by rw[z];exact wb.1))];exact e⟩
 refine⟨st,s.nd,by rw[fu];exact s.len,s.sub,s.wc,λa x=>?_,λj a o e1 e2=>?_⟩
 .by_cases z:a=b
  .rw[z,fR]
   exact⟨_,rfl,trivial⟩
  .rw[bV z]
   exact s.mu a x
 .have ne:a≠b:=λz=>wb.2 (z▸gi e1)
  by_cases hj:k=j
  .subst hj
   rw[h]at e1;cases e1;rw[gf hk]at e2;cases e2;refine⟨bs,by rw[bV ne];exact hH,g2,g3,g4,by rw[fu];exact g5,λi' xs c e1 e2=>?_⟩
   by_cases hi:i=i'
   .subst hi
    rw[hb]at e2;cases e2;have hx:i<xss.length:=by
     rw[g5];exact(cq.mp hb).1
    rw[gf hx]at e1;cases e1;exact⟨ws,fR,hl,st.reps r⟩
   .rw[gm hi]at e1
    obtain⟨vs,h1,h2,h3⟩:=g6 i' xs c e1 e2;exact⟨vs,by rw[bV (λz:c=b=>hi (rF g3 hb (z▸e2)))];exact h1,h2,st.reps h3⟩
  .rw[gm hj]at e2
   obtain⟨xs,rfl⟩:=pl j o e2 (jb hj);obtain⟨vs,e,l,g⟩:=s.obj j a _ e1 e2;exact⟨vs,by rw[bV ne];exact e,l,st.reps g⟩
theorem Vy{α:Type}{ys xs:List α}{i:Nat}{y:α}(l:xs.length=ys.length)(h:ys[i]?=some y):(ys.take i++xs.drop i).set i y=ys.take (i+1)++xs.drop (i+1):=by
 have hi:i<ys.length:=(cq.mp h).1;have hx:i<xs.length:=by omega
 have e:ys[i]=y:=(cq.mp h).2;rw[xu hx,List.set_append,if_neg (by rw[ki];omega),ki,o7 (qj hi),jg,cw,List.take_succ_eq_append_getElem hi,e,jf];rfl
theorem Ai{α:Type}{l:List α}{i:Nat}{a b:α}:(l.set i a).set i b=l.set i b:=by simp
theorem C8{ics ic im:Nat}{c cs mm:Str}{p1 p2 p3 p4 p5 p6 p7 p8 p9 apos:ai}{j:Nat}(hp:qm (model X.prog X.w) X.A X.env X.xe)(hc:X.calm=true)(hN:X.N.Nodup)(h1:X.N[ics]?=some cs)(h2:X.N[ic]?=some c)(h3:X.N[im]?=some mm)
  (v1:nG X.env.scope cs)(v2:iW X.env.scope c)(v3:nG X.env.scope mm)(ne1:ics≠ic)(ne2:im≠ic)
  (ha:∀v,assign (.Subscript (.Name c p3) (.Name mm p4) p5) X.env v=(do
   let ov <-holding [v] (eval (.Name c p3) X.env)
   let iv <-holding [v,ov] (eval (.Name mm p4) X.env)
   standAt p5
   holding [v,ov,iv] (setItem ov iv v)
   release [v,ov,iv] []):=by intro _;rfl)
  (hs:swapsWithSole [.Subscript (.Name c p3) (.Name mm p4) p5] (.BinOp (.Constant (.int 1) j p6) .Sub (.Subscript (.Name c p7) (.Name mm p8) p9) p2) apos.line X.env=pure false:=by rfl)(hw:swappedStores [.Subscript (.Name c p3) (.Name mm p4) p5] (.BinOp (.Constant (.int 1) j p6) .Sub (.Subscript (.Name c p7) (.Name mm p8) p9) p2) X.env=pure none:=by rfl)
  (ht:(assignEach [.Subscript (.Name c p3) (.Name mm p4) p5] X.env).map (·.2)=[assign (.Subscript (.Name c p3) (.Name mm p4) p5) X.env]:=by rfl)
  (hpl:Ja (.Name mm p8):=by intro _ _;rfl)
  (d1:(cs==("__debug__":Str))=false:=by decide)(d2:(c==("__debug__":Str))=false:=by decide)(d3:(mm==("__debug__":Str))=false:=by decide)
  (k1:(cs==("__classdict__":Str))=false:=by decide)(k2:(c==("__classdict__":Str))=false:=by decide)(k3:(mm==("__classdict__":Str))=false:=by decide)
  (hf:X.fn c=true\/X.env.scope.names.lookup c=some .local:=by first |exact .inl rfl |exact .inr rfl |assumption)
  (hfs:∀x,foldedSetIterable (.Name cs p1) X.env x=pure x:=by intro _;rfl){cp:ai}:
  eT K cl E X (.For (.Name c cp) (.Name cs p1) [.Assign [.Subscript (.Name c p3) (.Name mm p4) p5] (.BinOp (.Constant (.int 1) j p6) .Sub (.Subscript (.Name c p7) (.Name mm p8) p9) p2) apos] [] pos) (oG ics ic im):=by
 intro hK;subst hK;have vc:nG X.env.scope c:=v2.elim .inl λz=>.inr (.inl z);refine PS.imp (Pn hp hc (Wm (nY h1 v1 d1 k1)) (Tj hN h2 v2 hf) (Da (Jn (Zo Zm Va (Rp En (nY h2 vc d2 k2) (nY h3 v3 d3 k3) hpl)) (Hn (nY h2 vc d2 k2) (nY h3 v3 d3 k3) Qj ha) hs hw ht)) hfs) ?_
 rintro D σ H ⟨p,S,ρ,s,ev,h⟩
 unfold oG at h;split at h
 .rename_i k m q1 q2
  split at h
  .rename_i xss hS
   split at h
   .rename_i fP
    obtain⟨pl,hic⟩:=fP;split at h
    .rename_i yss hy
     obtain⟨x,ex,rx⟩:=ev.at_ ics _ q1;obtain⟨a,ea,rfl⟩:=rx;obtain⟨ll,fl⟩:=Wg hy;have hk:k<S.length:=(cq.mp hS).1;obtain⟨bs0,b1,b2,b3,b4,b5,b6⟩:=s.obj k a _ ea hS;have plx:∀zss,xI k (S.set k (.lol zss)):=λzss j o e n=>by
      rw[gm (jb n)]at e;exact pl j o e n
     refine⟨.ref a,ex,a,rfl,.inl ⟨⟨_,bU.of b1⟩,λi n σ1 H1=>n=xss.length-i/\i<=xss.length/\∃p1,bR p H p1 H1/\aY X.K p1 (S.set k (.lol (yss.take i++xss.drop i))) H1/\dJ X.K p1 H1 (ρ.set ic none) σ1,⟨_,rfl,je _,p,s.step,?_,?_⟩,?_⟩⟩
     .have e0:S.set k (.lol xss)=S:=by
       obtain⟨g1,g2⟩:=cq.mp hS;rw[<-g2];exact o8 g1
      simpa[e0]using s
     .have:=ev.forget ic ((σ[ic]?).join)
      have e0:σ.set ic (σ[ic]?).join=σ:=by
       by_cases hi:ic<σ.length
       .rw[au hi]
        exact o8 hi
       .exact List.set_eq_of_length_le (by omega)
      rwa[e0]at this
     .rintro i n σ1 H1 ⟨rfl,hi,p1,st1,sm1,ev1⟩
      have e1:=st1.at_ ea;have hS1:(S.set k (.lol (yss.take i++xss.drop i)))[k]?=some (.lol (yss.take i++xss.drop i)):=gf hk;obtain⟨bs,c1,c2,c3,c4,c5,c6⟩:=sm1.obj k a _ e1 hS1;have lz:(yss.take i++xss.drop i).length=xss.length:=by
       rw[bj,ki,wo];omega
      by_cases hlt:i<xss.length
      .have hib:i<bs.length:=by omega
       obtain⟨ys,ey,fy⟩:=fl i _ (au hlt);have ez:(yss.take i++xss.drop i)[i]?=some xss[i]:=by
        rw[gh (by rw[ki];omega),ki,o7 (by omega),jg,List.getElem?_drop,Nat.add_zero];exact au hlt
       obtain⟨vs,g1,g2,g3⟩:=c6 i _ _ ez (au hib);unfold wK at fy;split at fy
       .rename_i jj hj
        split at fy
        .rename_i v hv
         cases fy;obtain⟨u,eu,ru⟩:=g3.get hv;have:u=.int v:=by unfold aT at ru;exact ru
         subst this;obtain⟨xm,exm,rxm⟩:=ev1.at_ im (.pv (.int m)) (by rw[gm (jb ne2)];exact q2);have:xm=.int m:=by
          have rxm:aT X.K p1.c H1 (.int m) xm:=rxm;unfold aT at rxm;exact rxm
         subst this;refine .inr ⟨⟨_,.ref bs[i],bU.of c1,by rw[dj,au hib];rfl⟩,λσ' H'=>∃p2,bR p H p2 H'/\aY X.K p2 (S.set k (.lol (yss.take (i+1)++xss.drop (i+1)))) H'/\dJ X.K p2 H' (ρ.set ic none) σ',λσ' H' hn=>⟨xss.length-(i+1),by omega,rfl,hlt,hn⟩,λx H2 hy=>?_⟩;obtain⟨rfl,hy⟩:=hy;have ey2:=hy _ (bU.of c1);rw[dj,au hib]at ey2;cases ey2;have hic1:ic<σ1.length:=by
          rw[<-ev1.len,fu];exact hic
         have sc:(σ1.set ic (some (V.ref bs[i])))[ic]?=some (some (.ref bs[i])):=gf hic1;have sm':(σ1.set ic (some (V.ref bs[i])))[im]?=some (some (.int m)):=by rw[gm (jb ne2)];exact exm
         have hj':aW vs.length m=some jj:=by rw[<-g3.length];exact hj
         have ha1:aV vs m=some (.int v):=by unfold aV;rw[hj'];exact eu
         obtain⟨st2,sm2⟩:=sm1.inner (ys:=xss[i].set jj (.int (1-v))) (ws:=vs.set jj (.int (1-v))) e1 hS1 (plx _) c1 (au hib) (by rw[fu];exact g2) (aU.set (gW (v:=.int (1-v)) rfl) jj g3);rw[Ai,Vy ll ey]at sm2;have ev2:=(st2.repE ev1).forget ic (some (V.ref bs[i]));rw[Ai]at ev2;exact⟨_,sc,_,sm',.inl ⟨_,_,_,_,rfl,rfl,bU.of g1,ha1,1,v,rfl,rfl,_,sc,_,sm',_,_,_,_,rfl,rfl,g1,hj',p1,st1.trans st2,sm2,ev2⟩⟩
        .cases fy
       .cases fy
      .have e:i=xss.length:=by omega
       subst e;refine .inl ⟨⟨_,bU.of c1,by rw[aj];omega⟩,?_⟩;rw[xw,ie,ll,yb]at sm1;exact h p1 H1 σ1 st1 sm1 ev1
    .exact h.elim
   .exact h.elim
  .exact h.elim
 .exact h.elim
open Classical in
def vQ(n:Nat):cN->bQ AV
 |.rt (.ref k) S=>match S[k]? with
  |some (.lol xss)=>if ¬k<n/\Pl (S.take n)then .ok (.pv (.lst (xss.map .lst))) (S.take n)else .fail
  |_=>.fail
 |_=>.fail
open Classical in
def oQ(np n:Nat)(b:MS)(xs:BD)(S:aG):bQ AV:=if xs.length=np/\Pl S then vQ S.length (b (gZ n xs) S)else .fail
def Ph.only(p:Ph):Ph:=⟨p.f,λa=>a∈p.f,p.c⟩
theorem aY.only(s:aY K p S H)(pl:Pl S):aY K p.only S H:=
 ⟨s.nd,s.len,λ_ h=>h,λa h=>s.wc a (s.sub a h),s.mu,λk a o e1 e2=>by
  obtain⟨xs,rfl⟩:=pl k o e2;exact s.obj k a _ e1 e2⟩
theorem Xs{as:BD}{vs:List V}(h:gH K p H as vs):gH K p.only H as vs:=by
 induction h with
 |nil=>exact .nil
 |cons h _ ih=>
  refine .cons ?_ ih;rename_i v x _ _ _;cases v with
  |pv v=>exact h
  |ref k=>exact h
theorem Zr{r:cN}{Q:VK}{E:XK}(s:aY K p S H)(pl:Pl S)(h:cC K cl (cU K) p H (vQ S.length r) Q E):eH K cl p.only H r {nx:=λ_ H'=>Q .non H',rt:=Q} E:=by
 cases r with
 |rt v S1=>
  cases v with
  |pv v=>exact h.elim
  |ref k=>
   unfold vQ at h;dsimp only at h;split at h
   .rename_i xss hS
    split at h
    .rename_i hc
     obtain⟨hk,plt⟩:=hc
     rintro q H' x st sm ⟨a,e,rfl⟩
     have s1:=s.only pl;obtain⟨na,hn,nc⟩:=yT s1 st sm e hk;obtain⟨bs,g1,g2,g3,g4,g5,g6⟩:=sm.obj k a _ e hS;have fresh:∀b∈bs,H b=none:=λb hb=>st.nw b (g4 b hb).1 λm=>(g4 b hb).2 (st.pre.subset m);obtain⟨st1,sm1⟩:=s1.cutX (λb=>b=a\/b∈bs) st sm (λb d=>d.elim (λz=>z▸hn) (fresh b)) (.inr λj o e hj=>plt j o (by rw[ub,if_pos hj];exact e));refine h ⟨p.f,λb=>(q.w b/\¬(b=a\/b∈bs))\/p.w b,λb=>q.c b/\¬(b=a\/b∈bs)⟩ H' (.ref a) ⟨s.wc,s.mu,kl,λb h=>.inr h,st1.mono,λ_ h g=>absurd h g,λb h n=>?_,st1.nc,λb o e n=>st1.keep b o e λz=>n (s.sub b z)⟩
      ⟨s.nd,sm1.len,λb h=>.inr (s.sub b h),λb h=>h.elim (sm1.wc b) λz=>st1.mono b (s.wc b z),sm1.mu,λj b o e1 e2=>(sm1.obj j b o e1 e2).mono (λ_ e=>e) (λc w f=>⟨⟨.inl w,f⟩,λ_ e=>e⟩) λ_ _ r=>r⟩ ?_
     .rcases h with h |h
      .exact st1.nw b h λz=>n (s.sub b z)
      .exact absurd h n
     .show aT K (λb=>q.c b/\¬(b=a\/b∈bs)) H' (.lst (xss.map .lst)) (.ref a)
      unfold aT;refine⟨a,bs.map V.ref,rfl,.inl ⟨g1,λd=>d.2 (.inl rfl)⟩,by rw[aj];exact g2,?_⟩;have go:∀(yss:List BA)(cs:List Addr),yss.length=cs.length->(∀c∈cs,c∈bs)->(∀(i:Nat)(xs:BA)(b:Addr),yss[i]?=some xs->cs[i]?=some b->∃vs,H' b=some (.lst vs)/\vs.length<=sizeLine/\aU K q.c H' xs vs)->aU K (λb=>q.c b/\¬(b=a\/b∈bs)) H' (yss.map .lst) (cs.map V.ref):=by
       intro yss
       induction yss with
       |nil=>
        intro cs l _ _;have:cs=[]:=qd.mp l.symm;subst this;exact .nil
       |cons ys r ih=>
        intro cs l hm hh;cases cs with
        |nil=>cases l
        |cons c t=>
         obtain⟨vs,k1,k2,k3⟩:=hh 0 ys c rfl rfl;refine .cons ?_ (ih t (by simpa using l) (λc h=>hm c (ay _ h)) λi xs b e1 e2=>hh (i+1) xs b (by simpa using e1) (by simpa using e2));unfold aT;exact⟨c,vs,rfl,.inl ⟨k1,λd=>d.2 (.inr (hm c bo))⟩,k2,qY (λb h=>h.1) k3⟩
      exact go xss bs g5 (λ_ h=>h) g6
    .exact h.elim
   .exact h.elim
 |nx ρ S1=>exact h.elim
 |exc n S1=>exact h.elim
 |bk ρ S1=>exact h.elim
 |ct ρ S1=>exact h.elim
 |fail=>exact h.elim
end
section
variable{P:Program}{w:am}{K:ae}{mg:Str->AX}{base:Heap}{cl:Str->Addr}
theorem Lz{np n:Nat}{b:MS}{vs:List V}{H:Hp}{Q:VK}{E:XK}(h:jE K cl (oQ np n b) vs H Q E):vs.length=np:=by
 obtain⟨p,S,xs,sm,ra,h⟩:=h;unfold oQ at h;split at h
 .rename_i e
  rw[<-Kg ra,e.1]
 .exact h.elim
theorem okL{x qual:Str}{st:Stmt}{f:Addr}{fd:br}{N ps:List Str}{k np n:Nat}{b:MS}(F:iO K x qual st f fd)(S:iF N ps (cH st))(hnp:ps.length=np)(hn:N.length=n)
  (hb:∀(cdv:Value)(A:ao)(outer:List bh)(s:aa)(H:Hp)(E:XK),dF k (A.deeper (envOfC qual (cH st) s.heap.objs.size f cdv))->fY K cl E0 (cX fH P w K mg base N qual (cH st) f cdv A outer s H E).nox (eG st) b):
  dQ P w K mg base fH (k+1) f fd ps (kH K cl (oQ np n b)):=by
 subst hnp hn;refine F.ok S (λvs H Q E h=>Lz h) λcdv A outer s H vs Q E hr h=>⟨_,hb cdv A outer s H E hr rfl,?_⟩;obtain⟨p,S,xs,sm,ra,h⟩:=h;unfold oQ at h;split at h
 .rename_i e
  exact⟨p.only,S,_,sm.only e.2,uD (Xs ra),Zr sm e.2 h⟩
 .exact h.elim
end
end
def Md(P:Program)(w:am)(K:ae)(mg:Str->AX)(base:Heap)(cl:Str->Addr)(x:Str)(k:Nat)(ps:List Str)(g:FM):Prop:=∃(a:Addr)(d:br),dQ P w K mg base fH k a d ps (kH K cl g)/\gR K d ps []/\fh K (.ref a)=true/\mg x=some (.ref a)
section
variable{cl:Str->Addr}{E:XK}{X:Cx}{e:ag}{es:List ag}{ms:MA}{pos p:ai}{k k0:Nat}{ps:List Str}{g:FM}{x:Str}
theorem aad(C:Md X.prog X.w X.K X.mg X.base cl x k ps g)(hr:dF k0 X.A)(hk:k<=k0)(hg:Gl X x)(ha:eX X.K cl E X (e::es) ms)(hdb:(x==("__debug__":Str))=false:=by decide)(he:starEach (e::es) X.env=(false,eval e X.env)::starEach es X.env:=by rfl)(hpl:(backTo pos (starEach es X.env)).any (·.1)=false:=by rfl):
  aZ X.K cl E X (.Call (.Name x p) (e::es) [] pos) (aQ g [] ms):=by
 obtain⟨a,d,G,b,kk,n⟩:=C;exact Sw G (hr.mono hk) hg n kk b .nil Dv.nil ha hdb he hpl
theorem aaU(C:Md X.prog X.w X.K X.mg X.base cl x k ps g)(hr:dF k0 X.A)(hk:k<=k0)(hg:Gl X x)(ha:eX X.K cl E X (e::es) ms)(hdb:(x==("__debug__":Str))=false:=by decide)(he:starEach (e::es) X.env=(false,eval e X.env)::starEach es X.env:=by rfl)(hpl:(backTo pos (starEach es X.env)).any (·.1)=false:=by rfl):
  aZ X.K cl E X (.Call (.Name x p) (e::es) [] pos) (pS g [] ms):=by
 obtain⟨a,d,G,b,kk,n⟩:=C;exact By G (hr.mono hk) hg n kk b .nil Dv.nil ha hdb he hpl
end
theorem Yt(l:Addr)(its:Array Value)(n:Nat)(b:Addr)(jts:Array Value)(k:Nat)(dd:AY)(sl:Array AX)(h0:¬(!its.isEmpty&&su (its.size+jts.size))=true)(h1:its.size<=sizeLine)(h2:its.size+jts.size<=sizeLine+1):
  Meets (Builtin.«list.__iadd__» ⟨[.ref l,.ref b],[]⟩) (λ_ R s=>s.heap.get? l=some ⟨.type "list",none,.seq its n,#[]⟩/\s.heap.get? b=some ⟨.type "list",dd,.seq jts k,sl⟩/\R (.ok (.ret (dy l))) {s with heap:=s.heap.update l (ir λx=>x++jts),toks:=s.toks}):=
 .of_wp λprog w A R s h=>by
  obtain⟨hp,g,d,tk,os⟩:=s;obtain⟨hl,hb,h⟩:=h;have f1:=PySem.AutoSeq1.idx_int;have f2:=PySem.AutoSeq1.sub_tuple_tuple;have f3:=PySem.AutoSeq1.sub_list_list;have f4:=PySem.AutoSeq1.sub_tuple_list;have f5:=PySem.AutoSeq1.sub_list_tuple;have hz':(its++jts).size<=sizeLine+1:=by
   rw[Array.size_append];exact h2
  wp_walk using(wpAny_updateSeq hl rfl (hz:=h1) (_hz':=hz')),wpAny_loadPart' hl,wpAny_loadPart' hb
  exact⟨_,rfl,h⟩
section
variable{X:Cx}
def aa2(K:ae):tH:=λx y H Q=>∃l b xs zs,x=.ref l/\y=.ref b/\H l=some (.lst xs)/\bU K H b zs/\xs.length+zs.length<=sizeLine/\Q (.ref l) (bA H l (.lst (xs++zs)))
theorem M9:L2.PIp X .Add (aa2 X.K):=by
 intro BE s σ H x y v u Q I rx ry h;obtain⟨l,b,xs,zs,rfl,rfl,hx,hy,hz,q⟩:=h;cases rx;cases ry;obtain⟨z,its,n,r1,hl,e⟩:=I.lstM hx;obtain⟨jts,r2,p2,_⟩:=I.list hy;obtain⟨⟨cls2,dd2,data2,sl2⟩,n2,ho2,hc2,_,hd2⟩:=p2;simp only at hc2 hd2;subst hc2 hd2;have l1:=r1.length;have l2:=r2.length;have hsz:its.toArray.size+jts.toArray.size<=sizeLine:=by rw[aw,aw];omega
 have hlong:¬(!its.toArray.isEmpty&&su (its.toArray.size+jts.toArray.size))=true:=by
  rw[Zv hsz,j8];exact ng
 have ta:s.TypeIs (.ref l) "list":=⟨_,e,rfl⟩;have tb:s.TypeIs (.ref b) "list":=⟨_,ho2,rfl⟩;have hf:=q9.lookup;have hq:isSeqSlot (some (.builtin "list.__iadd__"))=true:=by decide+kernel
 have hfi:fillsInplaceSlot (.type "list") "add" (Operator.Add== .Add)=pure false:=by
  unfold fillsInplaceSlot;show(typeLookup (.type "list") (dunderI "add") >>= λfi=>pure (fi.isSome&& !isSeqSlot fi))=pure false;rw[hf,pure_bind,hq];rfl
 have hsi:seqSlot? (.type "list") (dunderI "add")=pure (some (.builtin "list.__iadd__")):=PySem.seqSlot_of hf hq;unfold inplaceOp;refine ku ?_;refine ah (wpAny_typeOf ta (ah (xi hfi ?_)));show wpAny _ _ (if false=true then _ else _) _ _ s;rw[if_neg ng];refine ah (wpAny_binaryOp1_none (nm:="add") ta tb noFill_list_add ?_);refine ah (xi hsi ?_);refine ah (oi ?_);refine wu q9 ⟨_,e,rfl⟩ PySem.F.entry_list_iadd (PySem.F.args_list_iadd_2 _ _) (Yt l its.toArray n b jts.toArray n2 dd2 sl2 hlong (by rw[aw];omega) (by omega)) ⟨e,ho2,?_⟩;refine⟨.ref l,_,I.lset (its':=its++jts) hx e (by simp) (r1.append r2) ?_,rfl,q⟩;rw[bj];omega
end
section
variable{K:ae}{cl:Str->Addr}{E:XK}{X:Cx}{e:ag}{m:ME}{pos:ai}
def wT(k:Nat)(ρ:bP)(v:AV)(S:aG):cN:=match v with
 |.pv (.lst ys)=>match S[k]? with
  |some (.lst xs)=>if xs.length+ys.length<=16777216 then .nx ρ (S.set k (.lst (xs++ys)))else .fail
  |_=>.fail
 |_=>.fail
def oE(i:Nat)(m:ME):MS:=λρ S=>match ρ[i]? with
 |some (some (.ref k))=>cN.of (m ρ S) (wT k ρ)
 |_=>.fail
theorem Yy{i:Nat}{x:Str}{pos':ai}(hN:X.N.Nodup)(hi:X.N[i]?=some x)(hx:iW X.env.scope x)(he:aZ K cl E X e m)
  (hf:X.fn x=true\/X.env.scope.names.lookup x=some .local:=by first |exact .inl rfl |exact .inr rfl |assumption):eT K cl E X (.AugAssign (.Name x pos') .Add e pos) (oE i m):=by
 intro hK;subst hK;refine PS.imp (Sn hN hi hx (he rfl) M9 hf) ?_
 rintro D σ H ⟨p,S,ρ,s,ev,h⟩
 unfold oE at h;split at h
 .rename_i k hx0
  obtain⟨v,e1,r1⟩:=ev.at_ i _ hx0;refine⟨v,e1,jN s ev h λq H' a b S' stp sm ev' r z=>?_⟩;obtain⟨D0,ea,rfl⟩:=stp.repA r1;unfold wT at z;split at z
  .rename_i ys
   obtain⟨b0,ws,rfl,sq,lw,rw0⟩:=(show eR X.K q H' (.lst ys) b from .inl r).lst;split at z
   .rename_i xs hS
    split at z
    .rename_i hl
     obtain⟨vs,h3,l3,r4⟩:=sm.obj k D0 _ ea hS;have hz:=iQ;have n1:=r4.length;have n2:=rw0.length;obtain⟨eK,sm3⟩:=sm.write ea (cq.mp hS).1 (ps:=xs++ys) (vs:=vs++ws) (by rw[bj];omega) (r4.append rw0);refine⟨D0,b0,vs,ws,rfl,rfl,h3,sq,by omega,?_⟩;have es:σ.set i (some (.ref D0))=σ:=by
      refine qe λj=>?_
      by_cases hj:i=j
      .subst hj
       rw[gf (cq.mp e1).1,e1]
      .rw[gm hj]
     show D.nx (σ.set i (some (.ref D0))) _;rw[es];exact eH.nxD (z.mono eK) sm3 (eK.repE ev')
    .exact z.elim
   .exact z.elim
  .exact z.elim
 .exact h.elim
end
section
variable{K:ae}{cl:Str->Addr}{E:XK}{X:Cx}
theorem Oa:∀{is:AS}{its:AW},bG (is.map V.int) its->ow its is
 |[],_,.nil=>.nil
 |_::_,_,.cons r t=>by
  obtain⟨tk,rfl⟩:=r;exact .cons _ tk (Oa t)
theorem Ev(hc:X.calm=true):iE X (.builtin "min") (λxs H Q=>∃(a:Addr)(is:AS),xs=[.ref a]/\bU X.K H a (is.map V.int)/\is≠[]/\∀M,M∈is->(∀b∈is,M<=b)->Q (.int M) H):=by
 intro BE s σ H xs us Q I r h;obtain⟨a,is,rfl,hq,hne,q⟩:=h;obtain⟨u,rfl,ru⟩:=kD r;cases ru;obtain⟨its,rv,pl,hz⟩:=I.list hq;have hi:=Oa rv;have hl:=pl.isList;obtain⟨xs,e⟩:=hi.allInts.items;have hns:is=xs.toList.map (·.1):=by rw[<-hi.numsOf,<-nums_intItems,<-e]
 have hsz:0<xs.size:=by
  have h3:0<is.length:=yh.mpr hne;rw[hns,aj,jx]at h3;exact h3
 rw[e]at hl;refine min_intList (I.ok.hd hc) hl hsz λv h' tk hv hk=>?_;obtain⟨t,rfl⟩:=intItems_at hv;obtain⟨h1,h2⟩:=argBest_lt (numAt xs) (xs.size-1);refine⟨.int _,H,I.kept (h':=h') (t':=tk) hk,⟨t,rfl⟩,q _ ?_ λa ha=>?_⟩
 .rw[hns,ug]
  exact getD_mem (by rw[aj,jx];omega)
 .rw[hns]at ha
  obtain⟨j,hj,rfl⟩:=mem_getD ha;rw[aj,jx]at hj;rw[<-ug];exact h2 j (by omega)
def kU:BA->BB
 |[.lst xs]=>(iB xs).bind λbs=>bs.min?.map .int
 |_=>none
theorem aam:kA K (λxs H Q=>∃(a:Addr)(is:AS),xs=[.ref a]/\bU K H a (is.map V.int)/\is≠[]/\∀M,M∈is->(∀b∈is,M<=b)->Q (.int M) H) kU:=λ{p S H as c xs Q} s ra e k=>by
 unfold kU at e;split at e
 .rename_i zs
  cases y:iB zs with
  |none=>rw[y]at e;cases e
  |some bs=>
   rw[y]at e;cases ra with
   |cons h t=>
    cases t;obtain⟨a,vs,rfl,l,z,r⟩:=h.lst;rw[rE y r]at l;have e:bs.min?.map PV.int=some c:=e;cases y2:bs.min? with
    |none=>rw[y2]at e;cases e
    |some m=>
     rw[y2]at e;cases e;refine⟨a,bs,rfl,l,λz=>?_,λM hM hle=>?_⟩
     .rw[z]at y2
      cases y2
     .have e2:bs.min?=some M:=uh.mpr ⟨hM,hle⟩
      rw[y2]at e2;cases e2;exact k H _ (dH.refl H) (gW (v:=.int _) rfl)
 .cases e
variable{a e:ag}{m:ME}{ms:MA}{pos:ai}
end
section
variable{K:ae}{cl:Str->Addr}{E:XK}{X:Cx}
def Fm(K:ae):R2:=λx y H Q=>∃a b ys,x=.ref a/\y=.ref b/\dA K H a []/\dA K H b ys/\Q (.ref b) H
theorem Lw:dX X (binaryOp .Add) (Fm X.K):=by
 intro BE s σ H x y v u Q I rx ry h;obtain⟨a,b,ys,rfl,rfl,ha,hb,q⟩:=h;cases rx;cases ry;obtain⟨its,r1,p1,_⟩:=I.tuple ha;obtain⟨jts,r2,p2,_⟩:=I.tuple hb;cases r1;obtain⟨⟨cls,dd,data,sl⟩,ho,hc,n,hd⟩:=p1;obtain⟨⟨cls2,dd2,data2,sl2⟩,ho2,hc2,n2,hd2⟩:=p2;simp only at hc hd hc2 hd2;subst hc hd hc2 hd2;exact si ⟨_,ho,rfl⟩ ⟨_,ho2,rfl⟩ we wg wj wk (wm _ _)
  (tuple_addW0 a b _ jts.toArray n n2 dd dd2 sl sl2 (by simp)) ⟨ho,ho2,⟨.ref b,H,I,rfl,q⟩⟩
def eO:PV->PV->BB
 |.tup xs,.tup ys=>if xs.length+ys.length<=16777216 then some (.tup (xs++ys))else none
 |_,_=>none
def Jp(K:ae):R2:=λx y H Q=>Fm K x y H Q\/Cc K x y H Q
theorem G7:dX X (binaryOp .Add) (Jp X.K):=dX.or Lw Sj
theorem eR.tupR{p:Ph}{H:Hp}{xs:BA}{x:V}(h:eR K p H (.tup xs) x):aT K p.c H (.tup xs) x:=by
 rcases h with h |⟨ys,a,vs,e,_⟩
 .exact h
 .cases e
theorem O1:fZ K (Jp K) eO:=λ{p S H a b c x y Q} s ra rb e k=>by
 cases a with
 |tup xs=>
  cases b with
  |tup ys=>
   have e:(if xs.length+ys.length<=16777216 then some (PV.tup (xs++ys))else none)=some c:=e;split at e
   .rename_i hl
    cases e;have ra':=ra.tupR;have rb':=rb.tupR;obtain⟨a1,vs,rfl,l1,z1,r1⟩:=ra.tup;obtain⟨a2,ws,rfl,l2,z2,r2⟩:=rb.tup;have hz:vs.length+ws.length<=sizeLine:=by rw[<-r1.length,<-r2.length,iQ];exact hl
    cases xs with
    |nil=>
     have hv:vs=[]:=t5 (by rw[<-r1.length];rfl);subst hv;exact .inl ⟨a1,a2,ws,rfl,rfl,l1,l2,k H _ (dH.refl H) rb'⟩
    |cons x0 xs=>
     refine .inr ⟨a1,a2,vs,ws,rfl,rfl,l1,l2,λq=>?_,hz,λq=>?_,λ_ t ht=>k _ _ (fS ht) (lH s (r1.append r2) (by rw[bj];exact hz) ht)⟩
     .have:=r1.length
      rw[q]at this;cases this
     .have hy:ys=[]:=by
       have:=r2.length;rw[q]at this;exact t5 this
      subst hy;have e0:x0::xs++[]=x0::xs:=ie _;refine k H _ (dH.refl H) ?_;rw[e0];exact ra'
   .cases e
  |_=>cases e
 |_=>cases e
end
section
variable{K:ae}{cl:Str->Addr}{E:XK}{X:Cx}
end
section
variable{K:ae}{cl:Str->Addr}{E:XK}{X:Cx}
theorem Lu(hc:X.calm=true):iE X (.builtin "max") (λxs H Q=>∃(a:Addr)(is:AS),xs=[.ref a]/\bU X.K H a (is.map V.int)/\is≠[]/\∀M,M∈is->(∀b∈is,b<=M)->Q (.int M) H):=by
 intro BE s σ H xs us Q I r h;obtain⟨a,is,rfl,hq,hne,q⟩:=h;obtain⟨u,rfl,ru⟩:=kD r;cases ru;obtain⟨its,rv,pl,hz⟩:=I.list hq;have hi:=Oa rv;have hl:=pl.isList;obtain⟨xs,e⟩:=hi.allInts.items;have hns:is=xs.toList.map (·.1):=by rw[<-hi.numsOf,<-nums_intItems,<-e]
 have hsz:0<xs.size:=by
  have h3:0<is.length:=yh.mpr hne;rw[hns,aj,jx]at h3;exact h3
 rw[e]at hl;refine max_intList (I.ok.hd hc) hl hsz λv h' tk hv hk=>?_;obtain⟨t,rfl⟩:=intItems_at hv;obtain⟨h1,h2⟩:=argBest_gt (numAt xs) (xs.size-1);refine⟨.int _,H,I.kept (h':=h') (t':=tk) hk,⟨t,rfl⟩,q _ ?_ λa ha=>?_⟩
 .rw[hns,ug]
  exact getD_mem (by rw[aj,jx];omega)
 .rw[hns]at ha
  obtain⟨j,hj,rfl⟩:=mem_getD ha;rw[aj,jx]at hj;rw[<-ug];exact h2 j (by omega)
def nB:BA->BB
 |[.lst xs]=>(iB xs).bind λbs=>bs.max?.map .int
 |_=>none
theorem aaD:kA K (λxs H Q=>∃(a:Addr)(is:AS),xs=[.ref a]/\bU K H a (is.map V.int)/\is≠[]/\∀M,M∈is->(∀b∈is,b<=M)->Q (.int M) H) nB:=λ{p S H as c xs Q} s ra e k=>by
 unfold nB at e;split at e
 .rename_i zs
  cases y:iB zs with
  |none=>rw[y]at e;cases e
  |some bs=>
   rw[y]at e;cases ra with
   |cons h t=>
    cases t;obtain⟨a,vs,rfl,l,z,r⟩:=h.lst;rw[rE y r]at l;have e:bs.max?.map PV.int=some c:=e;cases y2:bs.max? with
    |none=>rw[y2]at e;cases e
    |some m=>
     rw[y2]at e;cases e;refine⟨a,bs,rfl,l,λz=>?_,λM hM hle=>?_⟩
     .rw[z]at y2
      cases y2
     .have e2:bs.max?=some M:=yi.mpr ⟨hM,hle⟩
      rw[y2]at e2;cases e2;exact k H _ (dH.refl H) (gW (v:=.int _) rfl)
 .cases e
end
section
variable{K:ae}{cl:Str->Addr}{E:XK}{X:Cx}
variable{a e:ag}{m:ME}{ms:MA}{pos:ai}
end
section
variable{M:jw}{A:ao}{E:Value->aa->Prop}{s:aa}{env:bh}
end
section
variable{prog:Program}{w:am}{A:ao}{R:qq->aa->Prop}{s:aa}
end
end L2.Pp
namespace L2
open PySem PySem.Spec PyProof.Rows Bn
section
variable{X:Cx}{BE:List (Addr×Obj)}{σ:St}{H H':Hp}{s s':aa}
end
open L2.Pp
section
variable{P:Program}{w:am}{K:ae}{mg:Str->AX}{base:Heap}{N:List Str}{qual:Str}{scope:Scope}{f:Addr}{cd:Value}{A:ao}{outer:List bh}{BF:aa}{BG:Hp}{E:XK}
end
section
variable{P:Program}{w:am}{K:ae}{mg:Str->AX}{base:Heap}{N:List Str}{qual:Str}{scope:Scope}{f:Addr}{cd:Value}{A:ao}{outer:List bh}{BF:aa}{BG:Hp}{E:XK}
variable{sc:Scope}{own:List Str}{cap:List (Nat×Str)}{BE:List (Addr×Obj)}{σ:St}{H:Hp}{s:aa}{elt target iter:ag}{pos pos':ai}{wi:TI}{g:TG}{te:TE}{Q:VK}
end
end L2
namespace L2.Pp
open PySem PySem.Spec PyProof.Rows Bn
section
variable{K:ae}{cl:Str->Addr}{E:XK}{X:Cx}{p q:Ph}{H H':Hp}{S:aG}
variable{sc:Scope}{own:List Str}{cap:List (Nat×Str)}{elt target iter:ag}{pos:ai}{mi:MI}{g:GM}{me:ME}
end
section
variable{P:Program}{w:am}{K:ae}{mg:Str->AX}{base:Heap}{N:List Str}{qual:Str}{scope:Scope}{f:Addr}{cd:Value}{A:ao}{outer:List bh}{BF:aa}{BG:Hp}{E:XK}{cl:Str->Addr}
variable{sc:Scope}{own:List Str}{cap:List (Nat×Str)}{elt target iter:ag}{pos:ai}{mi:MI}{g:GM}{me:ME}{wi:TI}{tg:TG}{te:TE}
end
section
variable{K:ae}{cl:Str->Addr}{E:XK}{X:Cx}{e:ag}{es:List ag}{ms:MA}{pos p:ai}{k n:Nat}{f:Addr}{fd:br}{ps:List Str}{g:FM}{x:Str}{dvs:List V}{ds:AW}{dv:BA}
end
section
variable{K:ae}{cl:Str->Addr}{E:XK}{X:Cx}
end
section
variable{K:ae}{cl:Str->Addr}{E:XK}{X:Cx}{a b e:ag}{m:ME}{ms:MA}{pos:ai}
end
end L2.Pp
namespace L2
open PySem PySem.Spec PyProof.Rows Bn
def lA(X:Cx)(e:ag)(te:XK->TE):Prop:=
 ∀(BE:List (Addr×Obj))(s:aa)(σ:St)(H:Hp)(Q:VK)(E:XK)(Ex:Value->aa->Prop),aH X BE σ H s->te E σ H Q->
  (∀s1 H1 e' s',aH X BE σ H1 s1->cY X.prog X.w X.stack H1 s1 E e' s'->Ex e' s')->wpAny (model X.prog X.w) X.A (eval e X.env) (EP X BE σ Q) Ex s
section
variable{X:Cx}{k:Nat}{f:Addr}{fd:br}{ps:List Str}{sp:Sp}{dvs:List V}{ds:AW}{x:Str}{p pos pos1 pos2 pos3 pc:ai}{e a:ag}{es:List ag}{t:TA}{ta:TE}{te:XK->TE}{c n:Str}{C:Addr}{i:Nat}{BJ:Stmt}{body:List Stmt}{newId:String}
theorem Hx(hxe:X.xe=λ_ _=>False)(F:dQ X.prog X.w X.K X.mg X.base (cY X.prog X.w) k f fd ps sp)(hr:dF k X.A)(hg:Gl X x)(hm:X.mg x=some (.ref f))(hkp:fh X.K (.ref f)=true)
  (hb:gR X.K fd ps ds)(hd:bG dvs ds)(ha:PA X (e::es) t)
  (hdb:(x==("__debug__":Str))=false:=by decide)(he:starEach (e::es) X.env=(false,eval e X.env)::starEach es X.env:=by rfl)(hpl:(backTo pos (starEach es X.env)).any (·.1)=false:=by rfl):
  lA X (.Call (.Name x p) (e::es) [] pos) (λE σ H Q=>t σ H λvs H1=>sp (vs++dvs) H1 Q E):=
 λBE s σ H Q E Ex I h hx=>Bw hxe F hr hg hm hkp hb hd ha I h hx hdb he hpl
theorem Aw{x1}(hxe:X.xe=λ_ _=>False)(ha:PE X a ta)(he:lA X e te)
  (hs:starEach [a,e] X.env=[(false,eval a X.env),(false,eval e X.env)]:=by rfl):
  lA X (.Tuple [a,e] x1 pos) (λE σ H Q=>ta σ H λu H1=>te E σ H1 λv H2=>∀t,H2 t=none->Q (.ref t) (bA H2 t (.tup [u,v]))):=by
 intro BE s σ H Q E Ex I h hx;refine zm ?_;rw[hs];show wpAny _ _ (spliced ((false,eval a X.env)::[(false,eval e X.env)])) _ _ s;refine vw (iy (ha BE s σ H _ I h) (λu s1 hq=>?_) λ_ _ z=>by rw[hxe]at z;exact z.elim);rcases hq with⟨x,H1,I1,r1,q1⟩;refine vw (iy (he BE s1 σ H1 _ E Ex I1 q1 hx) (λv s2 hq=>?_) λ_ _ z=>z);rcases hq with⟨y,H2,I2,r2,q2⟩;refine zk ⟨by show 2<=sizeLine;decide,?_⟩;have hf:H2 s2.heap.objs.size=none:=I2.hok.fresh (ar _);refine⟨.ref s2.heap.objs.size,bA H2 s2.heap.objs.size (.tup [x,y]),I2.laid (t':=s2.toks) (λb u e=>az _ e) (ar _) ?_,rfl,q2 _ hf⟩;exact⟨⟨by show 2<=sizeLine;decide,_,du _ rfl,rfl⟩,[u,v],.cons r1 (.cons r2 .nil),⟨_,du _ rfl,rfl,_,rfl⟩⟩
theorem G4{jv:Nat}{xv:Str}{posv:ai}{ts:Addr->Obj->TS}(stk:X.stack=X.env::X.outer)(hN:X.N.Nodup)(hi:X.N[i]?=some n)(hk:X.env.scope.names.lookup n=some .local)
  (hgc:Gl X c)(hmc:X.mg c=some (.ref C))(hxC:de X.K C eY newId=true)(he:lA X e te)
  (hjv:X.N[jv]?=some xv)(hxv:iW X.env.scope xv)(hs:∀y oe,oe.cls=.ref C->fO (X.mk1 y [(y,oe)]) (BJ::body) (ts y oe))
  (hsw:swapsWith e (some (.Name xv posv)) pos1.line X.env=pure false:=by rfl)
  (hfv:X.fn xv=true\/X.env.scope.names.lookup xv=some .local:=by first |exact .inl rfl |exact .inr rfl |assumption)
  (hfr:X.env.frame=some X.env.locals:=by rfl)
  (hdc:(c==("__debug__":Str))=false:=by decide):
  PS X (.Try [.Assign [.Name xv posv] e pos1] [.ExceptHandler (some (.Name c pc)) (some n) (BJ::body) pos2] [] [] pos3)
   (λD σ H=>te (λcls _ H2=>cls=.ref C/\∀y oe,oe.cls=.ref C->ts y oe {nx:=λσ' H'=>D.nx (σ'.set i none) H',rt:=D.rt,bk:=λσ' H'=>D.bk (σ'.set i none) H',ct:=λσ' H'=>D.ct (σ'.set i none) H'} (σ.set i (some (.ref y))) H2) σ H (λv H2=>D.nx (σ.set jv (some v)) H2)):=by
 intro BE s σ H D I h;refine wpAny_Try_except (vm (wpAny_Assign_Name (iy (he BE s σ H _ _ _ I h (λs1 H1 e' s' I1 cx=>?_)) (λv s1 q=>?_) λe' s1 z=>z) hsw));rotate_left
 .obtain⟨v,H1,I1,rv,q⟩:=q
  exact mG I1 hN hjv hxv rv (λs2 I2=>oh (oh ⟨_,H1,I2,q⟩)) hfv
 obtain⟨y,C',tt,B,H',rfl,os,bare,un,hok,fl,cov,hE⟩:=cx;obtain⟨hC',hts⟩:=hE;cases hC';rw[stk]at fl;have fr:∀b∈dN X.stack,H' b=none:=λb hb=>by
  obtain⟨_,o,ho,hd⟩:=I1.stack.mem hb;exact un.free b o ho (I1.stkFree b hb) (by intro z;cases z)
 have ff:X.A.frames=some (X.env::X.outer):=by rw[I.ok.frames,stk]
 refine wpAny_looks_onW (base:=B) ff hfr fl λh2 held up2=>?_;refine wpAny_landsW (base:=B) held λh3 fl3 up3=>?_;have up:=Gk up2 up3;have I3:=I1.flown os bare un hok cov fr fl3.1 up;refine wpAny_handleBy_cons ?_ (by intro z;cases z);refine codeAny_handlers_test (rP (X:=X.mk1 y []) (I3.mk1 y [] λp hp=>nomatch hp) hgc hmc ?_ hdc);obtain⟨bm,Nn,nm,qn,bs,hdct,sn,sub,ab,col,dd,k0,k1,k2,k3,k5,mN,hC,hNs,hni,T⟩:=Jk I.ok.mod.kin hxC;obtain⟨oe,vs,TT,oT,tts,hoe,⟨hcls,_⟩,hdat,_⟩:=fl3.2.2.2;refine wpAny_excMatches_sub_self (I3.bk _ _ hC) hoe hcls (T.hasType (by decide)) ?_;refine codeAny_handlers_suite_as (lands_againW (base:=B) fl3 λh4 fl4 up4=>?_);have I4:=I1.flown os bare un hok cov fr fl4.1 (Gk up up4);obtain⟨oe,vs,TT,oT,tts,hoe,⟨hcls,_⟩,hdat,_⟩:=fl4.2.2.2;have I5:aH (X.mk1 y [(y,oe)]) BE σ H' _:=I4.mk1 y [(y,oe)] λp hp=>by
  rw[km]at hp;subst hp;have nfr:y∉dN X.stack:=λz=>by
   obtain⟨_,o,ho,hd⟩:=I4.stack.mem z;have hoe':h4.get? y=some oe:=hoe;have ho':h4.get? y=some o:=ho;rw[hoe']at ho';cases ho';exact hd vs hdat
  refine⟨hoe,?_,?_,?_,λv z=>?_⟩
  .cases hq:H' y with
   |none=>rfl
   |some u=>
    obtain⟨o2,g⟩:=(hok y u hq).has;have:=cov y o2 g (.inl ⟨u,hq⟩);rw[fl4.2.1]at this;cases this
  .intro z
   refine nfr ?_;rw[stk];exact oo.mpr ⟨X.env,bo,by rw[hfr];exact congrArg some z.symm⟩
  .intro z
   refine nfr ?_;rw[stk];obtain⟨env,hm,hq⟩:=oo.mp z;exact oo.mpr ⟨env,ay _ hm,hq⟩
  .have:oe.data=.cell v:=z
   rw[hdat]at this;cases this
 refine mG (X:=X.mk1 y [(y,oe)]) (v:=.ref y) I5 hN hi (.inl hk) rfl (λs6 I6=>?_) (.inr hk);refine iy (hs y oe hcls BE s6 _ H' _ I6 (hts y oe hcls)) (λfl s7 q7=>?_) λ_ _ z=>iz z;cases fl with
 |next=>obtain⟨σ',H7,I7,q⟩:=q7;exact tV (I7.unmk1 I.ok) hN hi hk λs8 I8=>⟨_,_,I8,q⟩
 |brk=>obtain⟨σ',H7,I7,q⟩:=q7;exact tV (I7.unmk1 I.ok) hN hi hk λs8 I8=>⟨_,_,I8,q⟩
 |cont=>obtain⟨σ',H7,I7,q⟩:=q7;exact tV (I7.unmk1 I.ok) hN hi hk λs8 I8=>⟨_,_,I8,q⟩
 |ret u=>obtain⟨v,σ',H7,I7,r,q⟩:=q7;exact tV (I7.unmk1 I.ok) hN hi hk λs8 I8=>⟨v,_,_,I8,r,q⟩
end
end L2
namespace L2.Pp
open PySem PySem.Spec PyProof.Rows Bn
section
variable{K:ae}{cl:Str->Addr}{E:XK}{X:Cx}{a b c e:ag}{m mc:ME}{ms:MA}{pos:ai}{tg:ag}{ma mb:ME}
end
section
variable{K:ae}{cl:Str->Addr}{E:XK}{X:Cx}{e a:ag}{es:List ag}{ms:MA}{ma me:ME}{p q:Ph}{H H':Hp}{S:aG}
variable{k:Nat}{f:Addr}{fd:br}{ps:List Str}{g:FM}{dvs:List V}{ds:AW}{dv:BA}{x:Str}{pp pos pos1 pos2 pos3 pc:ai}{c n:Str}{i nn:Nat}{BJ:Stmt}{body:List Stmt}{newId:String}{up:bP->bP}
variable(K cl X)
def xP(e:ag)(m:ME):Prop:=X.K=K->lA X e λE=>tP K cl E (cU K) m
variable{K cl X}
def sG(f:FM)(ds:BA)(ms:MA):ME:=λρ S=>(gF (ms ρ S)).bind λxs S1=>frz S1.length (f (xs++ds.map .pv) S1)
def sK(ma me:ME):ME:=λρ S=>(gF (ma ρ S)).bind λu S1=>(me ρ S1).bind λv S2=>pX dL [u,v] S2
theorem lA.imp{te te':XK->TE}(h:lA X e te)(i:∀E σ H Q,te' E σ H Q->te E σ H Q):lA X e te':=λBE s σ H Q E Ex I q hx=>h BE s σ H Q E Ex I (i E σ H Q q) hx
theorem F8(hxe:X.xe=λ_ _=>False)(F:dQ X.prog X.w X.K X.mg X.base (cY X.prog X.w) k f fd ps (jE K cl g))(hr:dF k X.A)(hg:Gl X x)(hm:X.mg x=some (.ref f))(hkp:fh X.K (.ref f)=true)
  (hb:gR X.K fd ps ds)(hd:bG dvs ds)(hv:Dv dv dvs)(ha:eX K cl E0 X (e::es) ms)
  (hdb:(x==("__debug__":Str))=false:=by decide)(he:starEach (e::es) X.env=(false,eval e X.env)::starEach es X.env:=by rfl)(hpl:(backTo pos (starEach es X.env)).any (·.1)=false:=by rfl):
  xP K cl X (.Call (.Name x pp) (e::es) [] pos) (sG g dv ms):=by
 intro hK;refine lA.imp (Hx hxe F hr hg hm hkp hb hd (ha hK) hdb he hpl) ?_
 rintro E σ H Q ⟨p,S,ρ,s,ev,h⟩
 refine⟨p,S,ρ,s,ev,?_⟩;unfold sG at h;cases z:ms ρ S with
 |ok xs S1=>
  rw[z]at h;intro q H1 vs st sm r;exact⟨q,S1,xs++dv.map .pv,sm,qW r (hv K q H1),uT sm (cC.mono h st)⟩
 |exc m S1=>rw[z]at h;exact h.elim
 |fail=>rw[z]at h;exact h.elim
theorem Rz{x1}(hxe:X.xe=λ_ _=>False)(ha:aZ K cl E0 X a ma)(he:xP K cl X e me)
  (hs:starEach [a,e] X.env=[(false,eval a X.env),(false,eval e X.env)]:=by rfl):xP K cl X (.Tuple [a,e] x1 pos) (sK ma me):=by
 intro hK;refine lA.imp (Aw hxe (ha hK) (he hK) hs) ?_
 rintro E σ H Q ⟨p,S,ρ,s,ev,h⟩
 refine⟨p,S,ρ,s,ev,?_⟩;unfold sK at h;cases z:ma ρ S with
 |exc m S1=>rw[z]at h;exact h.elim
 |fail=>rw[z]at h;exact h.elim
 |ok u S1=>
  rw[z]at h;have h:cC K cl (cU K) p H ((me ρ S1).bind λv S2=>pX dL [u,v] S2) Q E:=h;intro q H1 u' st sm r;refine⟨q,S1,ρ,sm,st.repE ev,?_⟩;cases z2:me ρ S1 with
  |fail=>rw[z2]at h;exact h.elim
  |exc n S2=>
   rw[z2]at h;intro q2 H2 st2 sm2;exact h q2 H2 (st.trans st2) sm2
  |ok v S2=>
   rw[z2]at h;have h:cC K cl (cU K) p H (pX dL [u,v] S2) Q E:=h;intro q2 H2 v' st2 sm2 r2 t ht;have h:=cC.mono h (st.trans st2);refine yZ (r:=λxs H Q=>xs.length<=sizeLine/\∀t,H t=none->Q (.ref t) (bA H t (.tup xs))) (f:=dL) (λ{p S H as c xs Q} s r e k=>?_) sm2 (.cons (st2.repA r) (.cons r2 .nil)) h |>.2 t ht;unfold dL at e;split at e
   .rename_i hl
    cases e;rw[r.length,<-iQ]at hl;exact⟨hl,λt ht=>k _ _ (fS ht) (lH s r hl ht)⟩
   .cases e
theorem Vf{c:Addr->Prop}:∀{vs:BA},(∀v∈vs,sH v=true)->aU K c H vs (vs.map qR)
 |[],_=>.nil
 |v::vs,h=>.cons (gW (h v bo)) (Vf λu hu=>h u (ay _ hu))
theorem dJ.setT{ρ:bP}{σ:St}(s:aY K p S H)(ev:dJ K p H ρ σ){t:Addr}(ht:H t=none){vs:BA}(fl:∀v∈vs,sH v=true)(hl:vs.length<=sizeLine)(i:Nat):dJ K p (bA H t (.tup (vs.map qR))) (ρ.set i (some (.pv (.tup vs)))) (σ.set i (some (.ref t))):=
 ((s.same (fS ht)).repE ev).set (v:=.pv (.tup vs)) (x:=.ref t) (lH s (Vf fl) (by rw[aj];exact hl) ht) i
def sL(me:ME)(c:Str)(nn j:Nat)(up:bP->bP):MS:=λρ S=>if ρ.length=nn then(match me ρ S with
 |.ok v S2=>.nx (ρ.set j (some v)) S2
 |.exc n S2=>if n=c then .nx (up ρ) S2 else .fail
 |.fail=>.fail)else .fail
theorem Mx{jv:Nat}{xv:Str}{posv:ai}{ts:Addr->Obj->TS}(stk:X.stack=X.env::X.outer)(hN:X.N.Nodup)(hi:X.N[i]?=some n)(hk:X.env.scope.names.lookup n=some .local)
  (hgc:Gl X c)(hmc:X.mg c=some (.ref (cl c)))(hxC:de X.K (cl c) eY newId=true)(he:xP K cl X e me)
  (hjv:X.N[jv]?=some xv)(hxv:iW X.env.scope xv)(hs:∀y oe,oe.cls=.ref (cl c)->fO (X.mk1 y [(y,oe)]) (BJ::body) (ts y oe))
  (hts:∀(y:Addr)(oe:Obj)(D:kW)(σ:St)(H:Hp)(p:Ph)(S:aG)(ρ:bP),aY K p S H->σ.length=nn->dJ K p H ρ σ->(∀H' σ',dH H H'->dJ K p H' (up ρ) σ'->D.nx σ' H')->
   ts y oe {nx:=λσ' H'=>D.nx (σ'.set i none) H',rt:=D.rt,bk:=λσ' H'=>D.bk (σ'.set i none) H',ct:=λσ' H'=>D.ct (σ'.set i none) H'} (σ.set i (some (.ref y))) H)
  (hsw:swapsWith e (some (.Name xv posv)) pos1.line X.env=pure false:=by rfl)
  (hfv:X.fn xv=true\/X.env.scope.names.lookup xv=some .local:=by first |exact .inl rfl |exact .inr rfl |assumption)
  (hfr:X.env.frame=some X.env.locals:=by rfl)
  (hdc:(c==("__debug__":Str))=false:=by decide):
  eT K cl E0 X (.Try [.Assign [.Name xv posv] e pos1] [.ExceptHandler (some (.Name c pc)) (some n) (BJ::body) pos2] [] [] pos3) (sL me c nn jv up):=by
 intro hK;refine PS.imp (G4 stk hN hi hk hgc hmc hxC (he hK) hjv hxv hs hsw hfv hfr hdc) ?_
 rintro D σ H ⟨p,S,ρ,s,ev,h⟩
 unfold sL at h;split at h
 .rename_i hl
  refine⟨p,S,ρ,s,ev,?_⟩;cases z:me ρ S with
  |ok v S2=>
   simp only[z]at h;intro q2 H2 y st2 sm2 r2;exact h q2 H2 _ st2 sm2 ((st2.repE ev).set r2 jv)
  |exc m S2=>
   simp only[z]at h;split at h
   .rename_i hm
    subst hm;intro q2 H2 st2 sm2;refine⟨rfl,λy oe hc=>hts y oe D σ H2 q2 S2 ρ sm2 (by rw[<-ev.len];exact hl) (st2.repE ev) λH' σ' hs e'=>h q2 H' σ' (st2.trans (sm2.same hs)) (sm2.ofSame hs) e'⟩
   .exact h.elim
  |fail=>simp only[z]at h;exact h.elim
 .exact h.elim
end
section
variable{K:ae}{cl:Str->Addr}{E:XK}{X:Cx}{a b:ag}{ma mb:ME}{pos:ai}
end
end L2.Pp
namespace L2
open PySem PySem.Spec PyProof.Rows Bn
section
variable{X:Cx}{k:Nat}{p pos pos1 pos2 pos3 pc:ai}{e:ag}{te:XK->TE}{c:Str}{C:Addr}{BJ:Stmt}{body:List Stmt}{newId:String}
end
end L2
namespace L2.Pp
open PySem PySem.Spec PyProof.Rows Bn
section
variable{K:ae}{cl:Str->Addr}{E:XK}{X:Cx}{a b e:ag}{m me:ME}{ms:MA}{pos pos1 pos2 pos3 pc:ai}{c:Str}{nn:Nat}{BJ:Stmt}{body:List Stmt}{newId:String}{up:bP->bP}
def xC:V->Bool
 |.non=>true
 |_=>false
def sX:Value->Bool
 |.none=>true
 |_=>false
def tJ(K:ae)(H:Hp):V->Prop
 |.non=>True
 |.bl _=>True
 |.int _=>True
 |.str _=>True
 |.ref a=>(∃xs,bU K H a xs)\/∃xs,dA K H a xs
 |_=>False
theorem Cl{H:Hp}:∀{xs:List V}{us:AW},bG xs us->(∀v∈xs,tJ K H v)->us.any sX=xs.any xC
 |_,_,.nil,_=>rfl
 |y::xs,u::us,.cons r t,f=>by
  rw[ui,ui,Cl t λv hv=>f v (ay _ hv)];have h:=f y bo;cases y with
  |non=>cases r;rfl
  |bl b=>cases r;rfl
  |int i=>obtain⟨t,rfl⟩:=r;rfl
  |str z=>obtain⟨t,rfl⟩:=r;rfl
  |ref a=>cases r;rfl
  |_=>exact h.elim
theorem Hg{BE:List (Addr×Obj)}{σ:St}{H:Hp}{s:aa}(I:aH X BE σ H s){A:ao}(hu:A.units<cLine):∀{xs:List V}{us:AW},bG xs us->(∀v∈xs,tJ X.K H v)->∀u∈us,nu A s u .none (sX u)
 |_,_,.nil,_=>λu hu=>by cases hu
 |y::xs,u::us,.cons r t,f=>λu' hm=>by
  rcases cf.mp hm with rfl |hm
  .have h:=f y bo
   cases y with
   |non=>cases r;exact ud _
   |bl b=>cases r;exact SeqAt.EqAt.bool_none b
   |int i=>obtain⟨t,rfl⟩:=r;exact SeqAt.EqAt.int_none i t
   |str z=>obtain⟨t,rfl⟩:=r;exact SeqAt.EqAt.str_none z t
   |ref a=>
    cases r;rcases h with⟨zs,h⟩|⟨zs,h⟩
    .obtain⟨its,_,pl,_⟩:=I.list h
     exact SeqAt.EqAt.list_none pl.isList hu
    .obtain⟨its,_,pl,_⟩:=I.tuple h
     exact SeqAt.EqAt.tuple_none pl hu
   |_=>exact h.elim
  .exact Hg I hu t (λv hv=>f v (ay _ hv)) u' hm
def kT:PV->Bool
 |.non=>true
 |_=>false
theorem P6{c:Addr->Prop}{H:Hp}{v:PV}{x:V}(h:aT K c H v x):tJ K H x/\xC x=kT v:=by
 cases v with
 |non=>unfold aT at h;subst h;exact⟨trivial,rfl⟩
 |bl b=>unfold aT at h;subst h;exact⟨trivial,rfl⟩
 |int i=>unfold aT at h;subst h;exact⟨trivial,rfl⟩
 |str z=>unfold aT at h;subst h;exact⟨trivial,rfl⟩
 |tup xs=>
  unfold aT at h;obtain⟨a,vs,rfl,t,_,_⟩:=h;exact⟨.inr ⟨vs,t⟩,rfl⟩
 |lst xs=>
  unfold aT at h;obtain⟨a,vs,rfl,t,_,_⟩:=h;exact⟨.inl ⟨vs,t.sq⟩,rfl⟩
theorem Uj{c:Addr->Prop}{H:Hp}:∀{xs:BA}{vs:List V},aU K c H xs vs->(∀v∈vs,tJ K H v)/\vs.any xC=xs.any kT
 |[],vs,r=>by
  unfold aU at r;subst r;exact⟨λv hv=>absurd hv fe,rfl⟩
 |x::xs,vs,r=>by
  unfold aU at r;obtain⟨v,r1,rfl,h,t⟩:=r;obtain⟨a,b⟩:=P6 h;obtain⟨c1,d⟩:=Uj t;refine⟨λw hw=>?_,by rw[ui,ui,b,d]⟩;rcases cf.mp hw with rfl |hw
  .exact a
  .exact c1 w hw
end
section
variable{M:jw}{A:ao}{E:Value->aa->Prop}{s:aa}{env:bh}
end
end L2.Pp
namespace L2
open PySem PySem.Spec PyProof.Rows Bn L2.Pp
section
variable{P:Program}{w:am}{K:ae}{mg:Str->AX}{base:Heap}{N:List Str}{qual:Str}{scope:Scope}{f:Addr}{cd:Value}{A:ao}{outer:List bh}{BF:aa}{BG:Hp}{E:XK}
variable{sc:Scope}{own:List Str}{cap:List (Nat×Str)}{BE:List (Addr×Obj)}{σ:St}{H:Hp}{s:aa}{elt target iter:ag}{pos pos':ai}{wi:TI}{g:TG}{te:TE}{Q:VK}
end
end L2
namespace L2.Pp
open PySem PySem.Spec PyProof.Rows Bn
section
variable{P:Program}{w:am}{K:ae}{mg:Str->AX}{base:Heap}{N:List Str}{qual:Str}{scope:Scope}{f:Addr}{cd:Value}{A:ao}{outer:List bh}{BF:aa}{BG:Hp}{E:XK}{cl:Str->Addr}
variable{sc:Scope}{own:List Str}{cap:List (Nat×Str)}{elt target iter:ag}{pos:ai}{mi:MI}{g:GM}{me:ME}
end
section
variable{K:ae}
end
section
variable{K:ae}{X:Cx}
end
end L2.Pp
namespace L2
open PySem PySem.Spec PyProof.Rows Bn
section
variable{prog:Program}{w:am}{A:ao}{R:qq->aa->Prop}{s:aa}
end
section
variable{X:Cx}{sc:Scope}{own:List Str}{cap:List (Nat×Str)}{BE:List (Addr×Obj)}{σ:St}{H:Hp}{s:aa}{elt target iter cnd:ag}{pos pos':ai}{wi:TI}{g:TG}{tc:TT}{te:TE}{Q:VK}
end
end L2
namespace L2.Pp
open PySem PySem.Spec PyProof.Rows Bn
theorem n1{n i:Nat}{P:Prop}(h:i<n)(p:P):∃m',m'<n-i/\(m'=n-(i+1)/\i+1<=n/\P):=⟨n-(i+1),by omega,rfl,h,p⟩
section
variable{K:ae}{cl:Str->Addr}{E:XK}{X:Cx}{p q:Ph}{H H':Hp}{S:aG}{sc:Scope}{own:List Str}{cap:List (Nat×Str)}{elt target iter cnd:ag}{pos:ai}{mi:MI}{g:GM}{mc:MT}{me:ME}
end
end L2.Pp
namespace L2
open PySem PySem.Spec PyProof.Rows Bn
open L2.Pp
section
variable{X:Cx}{BE:List (Addr×Obj)}{σ:St}{H:Hp}{s:aa}{c:Addr->Prop}{a b:Addr}{n:Bool}{k:qF n}{ks:BA}{us:AW}
theorem Ka:∀{ps:BA}{vs:List V}{i:Nat}{v:V},aU X.K c H ps vs->vs[i]?=some v->∃p,ps[i]?=some p/\aT X.K c H p v:=λ{ps vs i v} r e=>by
 have hi:i<ps.length:=by
  rw[r.length];exact(cq.mp e).1
 obtain⟨u,e1,e2⟩:=r.get (au hi);rw[e]at e1;cases e1;exact⟨_,au hi,e2⟩
end
end L2
namespace L2.Pp
open PySem PySem.Spec PyProof.Rows Bn
section
variable{K:ae}{cl:Str->Addr}{E:XK}{X:Cx}{p q:Ph}{H H':Hp}{S:aG}{a b e o i v:ag}{es:List ag}{m md mk mv:ME}{ms:MA}{pos:ai}
end
end L2.Pp
namespace L2
open PySem PySem.Spec PyProof.Rows Bn L2.Pp
section
variable{prog:Program}{w:am}{A:ao}{E:Value->aa->Prop}{s:aa}{it d i ep:Nat}{es:Array DictEntry}
end
section
variable{X:Cx}
end
section
variable{prog:Program}{w:am}{A:ao}{E:Value->aa->Prop}{s:aa}{v d ep:Nat}{es:Array DictEntry}
end
section
variable{X:Cx}
end
end L2
namespace L2.Pp
open PySem PySem.Spec PyProof.Rows Bn
section
variable{K:ae}{cl:Str->Addr}{E:XK}{X:Cx}{p q:Ph}{H H':Hp}{S:aG}{a b e o i v:ag}{es:List ag}{m md mk mv:ME}{ms:MA}{pos:ai}
end
end L2.Pp
namespace L2
open PySem PySem.Spec PyProof.Rows Bn
section
variable{X:Cx}
end
section
variable{X:Cx}{sc:Scope}{own:List Str}{cap:List (Nat×Str)}{BE:List (Addr×Obj)}{σ:St}{H:Hp}{s:aa}{elt target iter:ag}{pos pos':ai}{wi:TI}{g:TG}{te:TE}{Q:VK}
end
end L2
namespace L2.Pp
open PySem PySem.Spec PyProof.Rows Bn
section
variable{K:ae}{cl:Str->Addr}{E:XK}{X:Cx}{p q:Ph}{H H':Hp}{S:aG}{a b e o i v:ag}{es:List ag}{m ma mb md mk mv:ME}{ms:MA}{pos:ai}
variable{sc:Scope}{own:List Str}{cap:List (Nat×Str)}{elt target iter:ag}{mi:MI}{g:GM}{me:ME}
end
section
variable{K:ae}{cl:Str->Addr}{E:XK}{X:Cx}{a b:ag}{ma mb:ME}{pos:ai}
end
section
variable{P:Program}{w:am}{K:ae}{mg:Str->AX}{base:Heap}{cl:Str->Addr}{x qual:Str}{st:Stmt}{f:Addr}{fd:br}{N ps:List Str}{k np n:Nat}{b:MS}
variable{so sc sc1:Scope}{own own1:List Str}{cap cap1:List (Nat×Str)}{cd:Value}{A:ao}{outer:List bh}{s:aa}{H:Hp}{E:XK}{C:Addr}{BF:aa}{BG:Hp}{ex:List Addr}
theorem Oo(a:sc.kind=.function:=by rfl)(b:∀y∈sc.names,y.2=.local->sc.names.lookup y.1=some .local:=by decide+kernel)(c:∀y∈sc.names,y.2≠.cell:=by decide+kernel)(d:∀y∈sc.names,y.2=.free->so.names.lookup y.1=some .cell:=by decide+kernel)(e:∀p∈cap,N[p.1]?=some p.2:=by decide+kernel)(g:∀p∈cap,sc.names.lookup p.2=some .free:=by decide+kernel):iK (cX fH P w K mg base N qual so f cd A outer s H E).nox sc own cap:=Tn so N rfl rfl a b c d e g
theorem O4(a:sc.kind=.function:=by rfl)(b:∀y∈sc.names,y.2=.local->sc.names.lookup y.1=some .local:=by decide+kernel)(c:∀y∈sc.names,y.2=.cell->sc.names.lookup y.1=some .cell:=by decide+kernel)(d:∀y∈sc.names,y.2=.free->so.names.lookup y.1=some .cell:=by decide+kernel)(e:∀p∈cap,N[p.1]?=some p.2:=by decide+kernel)(g:∀p∈cap,sc.names.lookup p.2=some .free:=by decide+kernel):mK (cX fH P w K mg base N qual so f cd A outer s H E).nox sc own cap:=D7 so N rfl rfl a b c d e g
theorem Io(a:sc.kind=.function:=by rfl)(b:∀y∈sc.names,y.2=.local->sc.names.lookup y.1=some .local:=by decide+kernel)(c:∀y∈sc.names,y.2≠.cell:=by decide+kernel)(d:∀y∈sc.names,y.2=.free->sc1.names.lookup y.1=some .free/\so.names.lookup y.1=some .cell:=by decide+kernel)(e:∀p∈cap,(dC own1 cap1)[p.1]?=some p.2:=by decide+kernel)(g:∀p∈cap,sc.names.lookup p.2=some .free:=by decide+kernel)(hk:so.kind=.function:=by rfl):iK (gO (cX fH P w K mg base N qual so f cd A outer s H E).nox sc1 (dC own1 cap1) C BF BG ex) sc own cap:=L6 so rfl hk a b c d e g
theorem Om(a:sc.kind=.function:=by rfl)(b:∀y∈sc.names,y.2=.local->sc.names.lookup y.1=some .local:=by decide+kernel)(c:∀y∈sc.names,y.2≠.cell:=by decide+kernel)(d:∀y∈sc.names,y.2=.free->sc1.names.lookup y.1=some .cell\/(sc1.names.lookup y.1=some .free/\so.names.lookup y.1=some .cell):=by decide+kernel)(e:∀p∈cap,(dC own1 cap1)[p.1]?=some p.2:=by decide+kernel)(g:∀p∈cap,sc.names.lookup p.2=some .free:=by decide+kernel)(hk:so.kind=.function:=by rfl):iK (iH (cX fH P w K mg base N qual so f cd A outer s H E).nox sc1 (dC own1 cap1) C BF BG ex) sc own cap:=D4 so rfl hk a b c d e g
theorem cL{N ps:List Str}{sc:Scope}(a:sc.kind=.function:=by rfl)(b:sc.isCoroutine=false:=by rfl)(c:sc.isGenerator=false:=by rfl)(d:N.Nodup:=by decide+kernel)(e:N.take ps.length=ps:=by rfl)(f:∀x∈ps,sc.names.lookup x=some .local\/sc.names.lookup x=some .cell:=by decide+kernel)(g:∀y∈sc.names,y.2≠.free:=by decide+kernel):iF N ps sc:=⟨a,b,c,d,e,f,g⟩
def xE(P:Program)(w:am)(K:ae)(mg:Str->AX)(base:Heap)(cl:Str->Addr)(x:Str)(k:Nat)(ps:List Str)(g:FM):Prop:=∃(a:Addr)(d:br),dQ P w K mg base (cY P w) k a d ps (jE K cl g)/\dQ P w K mg base fH k a d ps (kH K cl g)/\gR K d ps []/\fh K (.ref a)=true/\mg x=some (.ref a)
theorem Uc{g:FM}{a:Addr}{d:br}(G:dQ P w K mg base (cY P w) k a d ps (jE K cl g))(b:gR K d ps [])(kp:fh K (.ref a)=true)(n:mg x=some (.ref a)):xE P w K mg base cl x k ps g:=⟨_,_,G,x0 G,b,kp,n⟩
theorem Z4{X:Cx}{e:ag}{es:List ag}{ms:MA}{pos p:ai}{k0:Nat}{g:FM}(C:xE X.prog X.w X.K X.mg X.base cl x k ps g)(hr:dF k0 X.A)(hk:k<=k0)(hg:Gl X x)(ha:eX X.K cl E0 X (e::es) ms)(hdb:(x==("__debug__":Str))=false:=by decide)(he:starEach (e::es) X.env=(false,eval e X.env)::starEach es X.env:=by rfl)(hpl:(backTo pos (starEach es X.env)).any (·.1)=false:=by rfl):
  aZ X.K cl E0 X (.Call (.Name x p) (e::es) [] pos) (iJ g [] ms):=by
 obtain⟨a,d,_,G,b,kk,n⟩:=C;exact F6 G (hr.mono hk) hg n kk b .nil Dv.nil ha hdb he hpl
end
structure Bx where
 P:Program
 w:am
 K:ae
 mg:Str->AX
 base:Heap
 cl:Str->Addr
abbrev cP(B:Bx)(x:Str)(k:Nat)(ps:List Str)(g:FM):Prop:=Md B.P B.w B.K B.mg B.base B.cl x k ps g
abbrev tM(B:Bx)(x:Str)(k:Nat)(ps:List Str)(g:FM):Prop:=xE B.P B.w B.K B.mg B.base B.cl x k ps g
def HF(K:ae)(x:Str)(st:Stmt):Prop:=∃(f:Addr)(fd:br),dh K mainGlobals x=some (some (.ref f))/\iO K x x st f fd
def XG(K:ae)(mg:Str->AX):Prop:=∃h:Heap,K.In h/\h.Ns mainGlobals mg
section
variable{B:Bx}{x:Str}{st:Stmt}{f:Addr}{fd:br}{N ps:List Str}{k np n:Nat}{b:MS}
theorem Eb(X:XG B.K B.mg)(q:HF B.K x st):∃f fd,iO B.K x x st f fd/\fh B.K (.ref f)=true/\B.mg x=some (.ref f):=by
 obtain⟨f,fd,a,F⟩:=q;obtain⟨h,X,G⟩:=X;exact⟨f,fd,F,F.kp,jp X G a⟩
theorem aau{K:ae}{oc:Value}{od an:AY}{osl:Array AX}{kV doc pm cdv ct:Value}(a:dh K mainGlobals x=some (some (.ref f)))(l:K.lookup f=some ⟨oc,od,.func (fg x x (gD st) (eG st) (cH st) .none kV doc pm an cdv ct),osl⟩)
  (c:kb K cdv x=true)(k:fh K (.ref f)=true):HF K x st:=⟨_,_,a,Vn l c k⟩
theorem Ld(F:iO B.K x x st f fd)(h:∀(kV doc pm:Value)(an:AY)(cdv ct:Value)(us:AW),us.length=ps.length->bindArgs (fg x x (gD st) (eG st) (cH st) .none kV doc pm an cdv ct) ⟨us,[]⟩=pure (ps.zip us)):gR B.K fd ps []:=F.binds λkV doc pm an cdv ct us hl=>h kV doc pm an cdv ct us hl
theorem cV(X:XG B.K B.mg)(q:HF B.K x st)(S:iF N ps (cH st))(hb:N.Nodup->∀(f:Addr)(cdv:Value)(A:ao)(outer:List bh)(s:aa)(H:Hp)(E:XK),dF k (A.deeper (envOfC x (cH st) s.heap.objs.size f cdv))->fY B.K B.cl E0 (cX fH B.P B.w B.K B.mg B.base N x (cH st) f cdv A outer s H E).nox (eG st) b)(hnp:ps.length=np:=by rfl)(hn:N.length=n:=by rfl)
  (h:∀(kV doc pm:Value)(an:AY)(cdv ct:Value)(us:AW),us.length=ps.length->bindArgs (fg x x (gD st) (eG st) (cH st) .none kV doc pm an cdv ct) ⟨us,[]⟩=pure (ps.zip us):=by intro _ _ _ _ _ _ us h;rcases us with _ |⟨_,_ |⟨_,_ |⟨_,_ |⟨_,_ |⟨_,_ |⟨_,_⟩⟩⟩⟩⟩⟩<;>first |(cases h;done) |rfl |(simp at h)):cP B x (k+1) ps (aR np n b):=by
 obtain⟨f,fd,F,kp,m⟩:=Eb X q;exact⟨f,fd,Xq F S hnp hn λcdv A outer s H E hr=>hb S.nd f cdv A outer s H E hr,Ld F h,kp,m⟩
theorem mkL(X:XG B.K B.mg)(q:HF B.K x st)(S:iF N ps (cH st))(hb:N.Nodup->∀(f:Addr)(cdv:Value)(A:ao)(outer:List bh)(s:aa)(H:Hp)(E:XK),dF k (A.deeper (envOfC x (cH st) s.heap.objs.size f cdv))->fY B.K B.cl E0 (cX fH B.P B.w B.K B.mg B.base N x (cH st) f cdv A outer s H E).nox (eG st) b)(hnp:ps.length=np:=by rfl)(hn:N.length=n:=by rfl)
  (h:∀(kV doc pm:Value)(an:AY)(cdv ct:Value)(us:AW),us.length=ps.length->bindArgs (fg x x (gD st) (eG st) (cH st) .none kV doc pm an cdv ct) ⟨us,[]⟩=pure (ps.zip us):=by intro _ _ _ _ _ _ us h;rcases us with _ |⟨_,_ |⟨_,_ |⟨_,_ |⟨_,_ |⟨_,_ |⟨_,_⟩⟩⟩⟩⟩⟩<;>first |(cases h;done) |rfl |(simp at h)):cP B x (k+1) ps (oQ np n b):=by
 obtain⟨f,fd,F,kp,m⟩:=Eb X q;exact⟨f,fd,okL F S hnp hn λcdv A outer s H E hr=>hb S.nd f cdv A outer s H E hr,Ld F h,kp,m⟩
theorem Oq(X:XG B.K B.mg)(q:HF B.K x st)(S:iF N ps (cH st))(hb:N.Nodup->∀(f:Addr)(cdv:Value)(A:ao)(outer:List bh)(s:aa)(H:Hp)(E:XK),dF k (A.deeper (envOfC x (cH st) s.heap.objs.size f cdv))->fY B.K B.cl E (cX (cY B.P B.w) B.P B.w B.K B.mg B.base N x (cH st) f cdv A outer s H E) (eG st) b)(hnp:ps.length=np:=by rfl)(hn:N.length=n:=by rfl)
  (h:∀(kV doc pm:Value)(an:AY)(cdv ct:Value)(us:AW),us.length=ps.length->bindArgs (fg x x (gD st) (eG st) (cH st) .none kV doc pm an cdv ct) ⟨us,[]⟩=pure (ps.zip us):=by intro _ _ _ _ _ _ us h;rcases us with _ |⟨_,_ |⟨_,_ |⟨_,_ |⟨_,_ |⟨_,_ |⟨_,_⟩⟩⟩⟩⟩⟩<;>first |(cases h;done) |rfl |(simp at h)):tM B x (k+1) ps (aR np n b):=by
 obtain⟨f,fd,F,kp,m⟩:=Eb X q;exact Uc (okX F S hnp hn λcdv A outer s H E hr=>hb S.nd f cdv A outer s H E hr) (Ld F h) kp m
theorem mkR(F:iO B.K x x st f fd)(S:iF N ps (cH st))(hb:N.Nodup->∀(f:Addr)(cdv:Value)(A:ao)(outer:List bh)(s:aa)(H:Hp)(E:XK),dF k (A.deeper (envOfC x (cH st) s.heap.objs.size f cdv))->fY B.K B.cl E0 (cX fH B.P B.w B.K B.mg B.base N x (cH st) f cdv A outer s H E).nox (eG st) b)(hnp:ps.length=np:=by rfl)(hn:N.length=n:=by rfl):dQ B.P B.w B.K B.mg B.base fH (k+1) f fd ps (kH B.K B.cl (aR np n b)):=Xq F S hnp hn λcdv A outer s H E hr=>hb S.nd f cdv A outer s H E hr
theorem Zp{dsv:Array Value}(F:lM B.K x x st f fd dsv)(S:iF N ps (cH st))(hb:N.Nodup->∀(f:Addr)(cdv:Value)(A:ao)(outer:List bh)(s:aa)(H:Hp)(E:XK),dF k (A.deeper (envOfC x (cH st) s.heap.objs.size f cdv))->fY B.K B.cl E (cX (cY B.P B.w) B.P B.w B.K B.mg B.base N x (cH st) f cdv A outer s H E) (eG st) b)(hnp:ps.length=np:=by rfl)(hn:N.length=n:=by rfl):dQ B.P B.w B.K B.mg B.base (cY B.P B.w) (k+1) f fd ps (jE B.K B.cl (aR np n b)):=abA F S hnp hn λcdv A outer s H E hr=>hb S.nd f cdv A outer s H E hr
section
variable{X:Cx}{cl:Str->Addr}{E:XK}{e:ag}{es:List ag}{ms:MA}{pos p:ai}{k0:Nat}{g:FM}{dv:BA}
end
section
variable{P:Program}{w:am}{K:ae}{mg:Str->AX}{base:Heap}{qual:Str}{so sc:Scope}{own:List Str}{cap:List (Nat×Str)}{cd:Value}{A:ao}{outer:List bh}{s:aa}{H:Hp}{E:XK}
theorem Yn(a:sc.kind=.function:=by rfl)(b:∀y∈sc.names,y.2=.local->sc.names.lookup y.1=some .local:=by decide+kernel)(c:∀y∈sc.names,y.2≠.cell:=by decide+kernel)(d:∀y∈sc.names,y.2=.free->so.names.lookup y.1=some .cell:=by decide+kernel)(e:∀p∈cap,N[p.1]?=some p.2:=by decide+kernel)(g:∀p∈cap,sc.names.lookup p.2=some .free:=by decide+kernel):iK (cX (cY P w) P w K mg base N qual so f cd A outer s H E) sc own cap:=Tn so N rfl rfl a b c d e g
end
end
section
variable{P:Program}{w:am}{K:ae}{mg:Str->AX}{base:Heap}{cl:Str->Addr}{E:XK}{x:Str}{k k0:Nat}{ps:List Str}{g:FM}{e:ag}{es:List ag}{ms:MA}{pos p:ai}
theorem aaf{N:List Str}{qual:Str}{scope:Scope}{fo:Addr}{cd:Value}{A:ao}{outer:List bh}{BF:aa}{BG:Hp}(C:xE P w K mg base cl x k ps g)(hr:dF k0 (cX (cY P w) P w K mg base N qual scope fo cd A outer BF BG E).A)(hk:k<=k0)(hg:Gl (cX (cY P w) P w K mg base N qual scope fo cd A outer BF BG E) x)
  (ha:eX K cl E (cX (cY P w) P w K mg base N qual scope fo cd A outer BF BG E) (e::es) ms)(hdb:(x==("__debug__":Str))=false:=by decide)
  (he:starEach (e::es) (cX (cY P w) P w K mg base N qual scope fo cd A outer BF BG E).env=(false,eval e (cX (cY P w) P w K mg base N qual scope fo cd A outer BF BG E).env)::starEach es (cX (cY P w) P w K mg base N qual scope fo cd A outer BF BG E).env:=by rfl)
  (hpl:(backTo pos (starEach es (cX (cY P w) P w K mg base N qual scope fo cd A outer BF BG E).env)).any (·.1)=false:=by rfl):
  aZ K cl E (cX (cY P w) P w K mg base N qual scope fo cd A outer BF BG E) (.Call (.Name x p) (e::es) [] pos) (iJ g [] ms):=by
 obtain⟨a,d,GX,_,b,kk,n⟩:=C;exact Tw GX (hr.mono hk) hg n kk b .nil Dv.nil ha hdb he hpl
end
end L2.Pp
namespace L2
open PySem PySem.Spec PySem.W PyProof.Rows Bn
section
variable{K:ae}{x D C:Addr}
end
section
variable{X:Cx}{p pos pos1 pos2 pos3 pos4 pc pd:ai}{e:ag}{te:XK->TE}{c1 c2 n:Str}{C1 C2:Addr}{i:Nat}{b₁ b₂:Stmt}{body1 body2:List Stmt}{newId1 newId2:String}
end
end L2
namespace L2.Pp
open PySem PySem.Spec PyProof.Rows Bn
section
variable{K:ae}{cl:Str->Addr}{E:XK}{X:Cx}{p pos pos1 pos2 pos3 pos4 pc pd:ai}{e:ag}{me:ME}{c1 c2 n:Str}{i nn:Nat}{b₁ b₂:Stmt}{body1 body2:List Stmt}{newId1 newId2:String}{up1 up2:bP->bP}
end
end L2.Pp
namespace L2
open PySem PySem.Spec PyProof.Rows Bn
section
open PySem.W (KasT kas_sort kas_asc kas_desc kas_rev kas_tail3 kas_descPart kas_count kas_place kas_bin)
section
variable{lt:Nat->Nat->Bool}{n:Nat}
end
section
variable{α:Type}{lt:α->α->Bool}
def ins(lt:α->α->Bool)(x:α):List α->List α
 |[]=>[x]
 |y::r=>if lt x y then x::y::r else y::ins lt x r
end
end
section
open PySem.W (KasT kas_sort kas_ask KatTups kat_run kat_kind kas_item kat_snds KdlSrc kdl_extend)
section
variable{prog:Program}{w:am}{A:ao}{E:Value->aa->Prop}{s:aa}
end
end
open L2.Pp
section
variable{X:Cx}{BE:List (Addr×Obj)}{σ:St}{H:Hp}{s:aa}
end
end L2
namespace L2.Pp
open PySem PySem.Spec PyProof.Rows Bn
section
variable{K:ae}
end
section
variable{K:ae}{cl:Str->Addr}{E:XK}{X:Cx}{p q:Ph}{H H':Hp}{S:aG}{a b e o i v:ag}{es:List ag}{m md mk mv:ME}{ms:MA}{pos:ai}
end
end L2.Pp
namespace L2
open PySem PySem.Spec PyProof.Rows Bn
open L2.Pp
section
variable{prog:Program}{w:am}{K:Type}[DecidableEq K]{knd:HeapKind prog w K}{A:ao}{E:Value->aa->Prop}{s:aa}{d a:Addr}{k:K}{xs:List (K×Addr×Value)}
end
section
variable{X:Cx}{BE:List (Addr×Obj)}{σ:St}{H:Hp}{s:aa}
end
end L2
namespace L2.Pp
open PySem PySem.Spec PyProof.Rows Bn
section
variable{K:ae}{cl:Str->Addr}{E:XK}{X:Cx}{p q:Ph}{H H':Hp}{S:aG}{e:ag}{es:List ag}{m md mk mv:ME}{ms:MA}{pos:ai}
end
section
variable{K:ae}{cl:Str->Addr}{E:XK}{X:Cx}{p q:Ph}{H H':Hp}{S:aG}{a b e o i v:ag}{es:List ag}{m md mk mv:ME}{ms:MA}{pos:ai}
end
end L2.Pp
namespace L2
end L2
namespace L2.Pp
open PySem PySem.Spec PyProof.Rows Bn
section
variable{K:ae}{cl:Str->Addr}{E:XK}{X:Cx}{a:ag}{m:ME}{pos:ai}
end
end L2.Pp
namespace L2
open PySem PySem.Spec PyProof.Rows Bn
open L2.Pp
open PySem.W (KatLex KatTups)
section
variable{prog:Program}{w:am}{A:ao}{E:Value->aa->Prop}{s:aa}
end
section
variable{X:Cx}{BE:List (Addr×Obj)}{σ:St}{H:Hp}{s:aa}
end
end L2
namespace L2.Pp
open PySem PySem.Spec PyProof.Rows Bn
section
variable{K:ae}
end
section
variable{K:ae}{cl:Str->Addr}{E:XK}{X:Cx}{e:ag}{ms:MA}{pos:ai}
end
section
variable{prog:Program}{w:am}{A:ao}{E:Value->aa->Prop}{s:aa}
end
section
open PySem.AutoSeq1 (wpAny_loadPart')
open PySem.MeetsSeq PySem.MeetsSeq2 PySem.MeetsSeq3 PySem.SeqRoads2
end
section
variable{K:ae}{cl:Str->Addr}{E:XK}{X:Cx}
variable{a e:ag}{m:ME}{ms:MA}{pos:ai}
end
section
variable{K:ae}{cl:Str->Addr}{E:XK}{X:Cx}
def Wp(K:ae):R2:=λx y H Q=>∃p xs,x=.non/\y=.ref p/\bU K H p xs/\(∀v∈xs,tJ K H v)/\Q (.bl (!(xs.any xC))) H
theorem Cm(hu:X.A.units+8<cLine):dX X (compareOp .NotIn) (Wp X.K):=by
 intro BE s σ H x y v u Q I rx ry h;obtain⟨p,xs,rfl,rfl,hq,f,q⟩:=h;cases rx;cases ry;obtain⟨its,r,pl,hz⟩:=I.list hq;refine SeqAt.notIn_listAt sX pl.isList (λw hw=>Hg I (A:=X.A.in1) (by show X.A.units+1<cLine;omega) r f w (by simpa using hw)) ⟨.bl _,H,I,rfl,?_⟩;rw[show its.toArray.any sX=its.any sX by simp,Cl r f];exact q
def mY:PV->PV->BB
 |.non,.lst xs=>some (.bl (!(xs.any kT)))
 |_,_=>none
theorem Wo:fZ K (Wp K) mY:=λ{p S H a b c x y Q} s ra rb e k=>by
 unfold mY at e;split at e
 .cases e
  obtain⟨a1,vs,rfl,l1,z1,r1⟩:=rb.lst;obtain⟨f,g⟩:=Uj r1;refine⟨a1,vs,ra.non,rfl,l1,f,?_⟩;rw[g];exact k H _ (dH.refl H) (gW (v:=.bl _) rfl)
 .cases e
theorem Ci:∀{cs:List Addr}{its:AW},bG (cs.map V.ref) its->its=cs.map dy
 |[],_,.nil=>rfl
 |_::cs,_,.cons r t=>by
  cases r;rw[Ci t];rfl
theorem Gv{y D:Addr}{oe:Obj}(Z:lO X.K D)(hp:(y,oe)∈X.pn)(hc:oe.cls=.ref D):iE X (.builtin "isinstance") (λxs H Q=>∃(t:Addr)(cs:List Addr)(b:Bool),xs=[.ref y,.ref t]/\dA X.K H t (cs.map V.ref)/\uj X.K (.ref D) (cs.map dy)=some b/\Q (.bl b) H):=by
 intro BE s σ H xs us Q I r h;obtain⟨t,cs,b,rfl,hq,e,q⟩:=h;obtain⟨u,c',rfl,rx,rc⟩:=wE r;cases(show u=dy y from rx);cases(show c'=dy t from rc);have of:mU s.heap y D:=⟨oe,(I.pin _ (ju _ hp)).1,hc⟩;obtain⟨its,rv,⟨⟨cls,dd,data,sl⟩,ho,hcl,n,hd⟩,_⟩:=I.tuple hq;have ei:=Ci rv;subst ei;simp only at hcl hd;subst hcl hd;exact PySem.W.kia_tup (zR xq Z) I.kIn of ho e (by intro q;cases q) λtk=>⟨.bl b,H,I.tok tk,rfl,q⟩
theorem zV{t c:Value}{r:AW}{b:Bool}(h:gg K t c=some false)(g:uj K t r=some b):uj K t (c::r)=some b:=by
 rw[uj,h];exact g
end
end L2.Pp
namespace L2
theorem N7(K:ae):gg K (.type "bool") (.type "int")=some true:=by
 unfold gg i9;rw[if_neg (by decide)];show(if j3 "int"=true then j4 K (.type "bool") (.type "int")else none)=some true;rw[if_pos (by decide+kernel)];show(PySem.fastBuiltinMro "bool").map (·.contains (.type "int"))=some true;decide+kernel
end L2
namespace L2.Pp
open PySem PySem.Spec PyProof.Rows Bn
def pZ:PV->BB
 |.int _=>some (.bl true)
 |.bl _=>some (.bl true)
 |_=>none
section
variable{K:ae}{cl:Str->Addr}{E:XK}{X:Cx}{a:ag}{m:ME}{pos:ai}
theorem O6:tO K (Mc K "int") pZ:=λ{p S H a c x Q} s ra e k=>by
 have fin:∀b,c=.bl b->Q (.bl b) H:=λb h=>by
  subst h;exact k H _ (dH.refl H) (by unfold aT;rfl)
 cases a with
 |int i=>
  cases ra.int;cases e;exact .inl ⟨_,true,.int i,pJ K _,fin _ rfl⟩
 |bl i=>
  cases ra.bl;cases e;exact .inl ⟨_,true,.bl i,N7 K,fin _ rfl⟩
 |_=>cases e
theorem G0{t:Str}{p p2:ai}(hg:Gl X "isinstance")(hm:X.mg "isinstance"=none)(hgt:Gl X t)(hmt:X.mg t=none)(hv:bootBuiltins t=some (.type "int"))(ha:aZ K cl E X a m)
  (htn:t≠"__name__":=by decide)(htd:(t==("__debug__":Str))=false:=by decide)
  (he:starEach [a,.Name t p2] X.env=(false,eval a X.env)::starEach [.Name t p2] X.env:=by rfl)(he2:starEach [.Name t p2] X.env=[(false,eval (.Name t p2) X.env)]:=by rfl)(hpl:(backTo pos (starEach [.Name t p2] X.env)).any (·.1)=false:=by rfl):
  aZ K cl E X (.Call (.Name "isinstance" p) [a,.Name t p2] [] pos) (bK pZ m):=by
 intro hK;subst hK;refine PE.imp (rK (Ug "int") hg hm ue (gX (ha rfl) (gX (Hl hgt hmt hv (v:=.ty "int") rfl htn htd) kR he2) he) (by decide) (by decide) he hpl) ?_
 rintro σ H Q ⟨p,S,ρ,s,ev,h⟩
 exact cR s ev h λq H' as x S' stp sm ev r k=>⟨x,rfl,uG O6 sm r k⟩
end
theorem M7:bootBuiltins "len"=some (.builtin "len"):=by decide+kernel
theorem R9:bootBuiltins "abs"=some (.builtin "abs"):=by decide+kernel
theorem S7:bootBuiltins "sum"=some (.builtin "sum"):=by decide+kernel
theorem R3:bootBuiltins "min"=some (.builtin "min"):=by decide+kernel
theorem O0:bootBuiltins "max"=some (.builtin "max"):=by decide+kernel
theorem Ku:bootBuiltins "sorted"=some (.builtin "sorted"):=by decide+kernel
theorem Qn:bootBuiltins "int"=some (.type "int"):=by decide+kernel
theorem J8:bootBuiltins "bool"=some (.type "bool"):=by decide+kernel
theorem L7:bootBuiltins "list"=some (.type "list"):=by decide+kernel
theorem Ay:bootBuiltins "tuple"=some (.type "tuple"):=by decide+kernel
end L2.Pp
set_option Elab.async false
set_option compiler.extract_closed false
set_option bootstrap.genMatcherCode false
set_option maxRecDepth 100000
set_option maxHeartbeats 4000000
namespace Sc
noncomputable section
open PySem L2 Bn L2.Pp
abbrev Kn:Stmt:=aX 9
abbrev Qg:Stmt:=aX 10
abbrev Tg:Stmt:=aX 11
abbrev rA:Stmt:=aX 12
abbrev Yg:Stmt:=aX 13
abbrev rS:Stmt:=aX 15
abbrev Ze:Stmt:=aX 16
abbrev Xe:Stmt:=aX 17
abbrev Rj:Stmt:=aX 18
abbrev Hi:Stmt:=aX 20
abbrev Sf:Stmt:=aX 19
abbrev Vd:Stmt:=aX 21
abbrev Ko:Stmt:=aX 22
abbrev Zh:Stmt:=aX 23
abbrev Ud:Stmt:=aX 24
abbrev Pm:Stmt:=aX 25
abbrev Ff:Stmt:=aX 27
abbrev Jf:Stmt:=aX 28
abbrev We:Stmt:=aX 30
abbrev Of:Stmt:=aX 32
abbrev Aj:Stmt:=aX 33
abbrev Od:Stmt:=aX 34
abbrev Zd:Stmt:=aX 35
abbrev Wh:Stmt:=aX 36
abbrev Tm:Stmt:=aX 38
abbrev Ml:Stmt:=aX 39
abbrev Cn:Stmt:=aX 40
abbrev Rg:Stmt:=aX 41
abbrev Ei:Stmt:=aX 42
abbrev Xk:Stmt:=aX 43
abbrev Lg:Stmt:=aX 44
abbrev Do:Stmt:=aX 45
abbrev Jj:Stmt:=aX 46
abbrev Jm:Stmt:=aX 47
abbrev El:Stmt:=aX 48
abbrev An:Stmt:=aX 49
abbrev Rf:Stmt:=aX 50
abbrev Oe:Stmt:=aX 52
abbrev Nm:Stmt:=aX 51
abbrev Ll:Stmt:=aX 53
abbrev Pe:Stmt:=aX 54
abbrev Mn:Stmt:=aX 55
abbrev Df:Stmt:=aX 56
abbrev Sl:Stmt:=aX 57
abbrev Zl:Stmt:=aX 58
abbrev Hh:Stmt:=aX 59
abbrev He:Stmt:=aX 60
abbrev Vg:Stmt:=aX 61
abbrev Jg:Stmt:=aX 62
abbrev Zj:Stmt:=aX 63
abbrev Qh:Stmt:=aX 64
abbrev mS:Stmt:=aX 65
def Wa:MS:=(aI (cK (bH (aC fB (aA 0) (mC (.int 0)))) (bF (mC (.int 1))) dE)
 (aI (cK (bH (aC kM (aA 0) (mC (.int 0)))) (bF (bK bO (mC (.int 1)))) dE)
 (bF (mC (.int 0)))))
def nW:FM:=aR 1 1 Wa
def yP:MS:=(aI (mQ (bH (aC jF (aA 1) (mC (.int 0)))) (aI (aP 2 (aC fK (aA 0) (aA 1)))
 (aI (aP 0 (aA 1))
 (aP 1 (aA 2)))))
 (bF (mR oK (aB (aA 0) aD))))
def pG:FM:=aR 2 3 yP
def zB:MS:=(aI (aP 1 (mC (.int 0)))
 (aI (bI (bD (aA 0)) (gN 2) (aP 1 (aQ pG [] (aB (aA 1) (aB (aA 2) aD)))))
 (bF (bB ["number"] [(1,"common")] (bD (aA 0)) (gN 0) (aC dW (aA 0) (aA 1))))))
def uE:FM:=aR 1 3 zB
def yH:MS:=(aI (cK (bH (aC cZ (aA 1) (mC (.int 0)))) (oB "NoNumber") dE)
 (aI (aP 2 (aC aS (aQ nW [] (aB (aA 1) aD)) (aQ pG [] (aB (aA 0) (aB (aA 1) aD)))))
 (bF (mN dL (aB (aC dW (aA 0) (aA 2)) (aB (aC dW (aA 1) (aA 2)) aD))))))
def lD:FM:=aR 2 3 yH
def yO:MS:=(bF (iJ lD [] (aB (aC aS (aC aE (aA 0) (mC (.int 0))) (aC aE (aA 1) (mC (.int 1)))) (aB (aC aS (aC aE (aA 0) (mC (.int 1))) (aC aE (aA 1) (mC (.int 0)))) aD))))
def rG:FM:=aR 2 2 yO
def Ga:MS:=(aI (cK (bH (aC cZ (aA 1) (mC (.int 0)))) (oB "NoPoint") dE)
 (bF (mR fM (aB (bB ["number"] [(1,"bottom")] (bD (aQ uE [] (aB (aC aF (mR lI (aB (aA 0) aD)) (mN eC (aB (aA 1) aD))) aD))) (gN 0) (aC aS (aQ nW [] (aB (aA 1) aD)) (aA 0))) aD))))
def mH:FM:=aR 2 2 Ga
def yL:MS:=(bF (mR fM (aB (bB ["number"] [(0,"p")] (bD (cF (aA 0) cE (cG (bK bO (mC (.int 1)))))) (gN 0) (iJ lD [] (aB (aA 0) (aB (aC aE (aA 1) (bK bO (mC (.int 1)))) aD)))) aD)))
def tZ:FM:=aR 1 1 yL
def uB:MS:=(aI (aP 1 (mC (.int 1)))
 (aI (bI (bD (aA 0)) (gN 2) (aP 1 (aC aS (aA 1) (aC aE (aA 2) (mC (.int 1))))))
 (bF (iJ mH [] (aB (bB ["part"] [(1,"bottom")] (bD (aA 0)) (gN 0) (aC aS (aC aE (aA 0) (mC (.int 0))) (aC dW (aA 1) (aC aE (aA 0) (mC (.int 1)))))) (aB (aA 1) aD))))))
def nO:FM:=aR 1 3 uB
def Ia:MS:=(aI (aP 2 (bB ["one","other"] [(1,"q"),(0,"p")] (gJ (aB (cF (aA 0) cE (cG (bK bO (mC (.int 1))))) (aB (cF (aA 1) cE (cG (bK bO (mC (.int 1))))) aD))) (gT 2 (dM (gN 0) (dM (gN 1) fG))) (aC aF (aC aS (aA 0) (aC aE (aA 2) (bK bO (mC (.int 1))))) (aC aS (aA 1) (aC aE (aA 3) (bK bO (mC (.int 1))))))))
 (bF (iJ mH [] (aB (aA 2) (aB (aC aS (aC aE (aA 0) (bK bO (mC (.int 1)))) (aC aE (aA 1) (bK bO (mC (.int 1))))) aD)))))
def vC:FM:=aR 2 3 Ia
def zM:MS:=(bF (mR fM (aB (aC aF (bB ["number"] [] (bD (cF (aA 0) cE (cG (bK bO (mC (.int 1)))))) (gN 0) (bK bO (aA 0))) (mN eC (aB (aC aE (aA 0) (bK bO (mC (.int 1)))) aD))) aD)))
def uO:FM:=aR 1 1 zM
def yB:MS:=(bF (aQ vC [] (aB (aA 0) (aB (aQ uO [] (aB (aA 1) aD)) aD))))
def nK:FM:=aR 2 2 yB
def xT:MS:=(bF (bB ["near","far"] [(0,"start"),(1,"end")] (gJ (aB (cF (aA 0) cE (cG (bK bO (mC (.int 1))))) (aB (cF (aA 1) cE (cG (bK bO (mC (.int 1))))) aD))) (gT 2 (dM (gN 0) (dM (gN 1) fG))) (aC dG (aC aS (aA 1) (aC aE (aA 2) (bK bO (mC (.int 1))))) (aC aS (aA 0) (aC aE (aA 3) (bK bO (mC (.int 1))))))))
def oR:FM:=aR 2 2 xT
def Ec:MS:=(bF (mR kI (aB (bB ["one","other"] [] (gJ (aB (aA 0) (aB (aA 1) aD))) (gT 2 (dM (gN 0) (dM (gN 1) fG))) (aC aS (aA 0) (aA 1))) aD)))
def wA:FM:=aR 2 2 Ec
def uU:MS:=(aI (aP 1 (aC aE (aA 0) (mC (.int 0))))
 (aI (cK (bH (aC cZ (mR eI (aB (aA 0) aD)) (mC (.int 1)))) (bF (mN eC (aB (bK bO (aC aE (aA 1) (mC (.int 1)))) (aB (aC aE (aA 1) (mC (.int 0))) aD)))) dE)
 (aI (aP 2 (aC aE (aA 0) (mC (.int 1))))
 (bF (mN eC (aB (aC dG (aC aS (aC aE (aA 1) (mC (.int 1))) (aC aE (aA 2) (mC (.int 2)))) (aC aS (aC aE (aA 1) (mC (.int 2))) (aC aE (aA 2) (mC (.int 1))))) (aB (aC dG (aC aS (aC aE (aA 1) (mC (.int 2))) (aC aE (aA 2) (mC (.int 0)))) (aC aS (aC aE (aA 1) (mC (.int 0))) (aC aE (aA 2) (mC (.int 2))))) (aB (aC dG (aC aS (aC aE (aA 1) (mC (.int 0))) (aC aE (aA 2) (mC (.int 1)))) (aC aS (aC aE (aA 1) (mC (.int 1))) (aC aE (aA 2) (mC (.int 0))))) aD))))))))
def pK:FM:=aR 1 3 uU
def tR:MS:=(aI (aP 1 (bB ["p"] [(0,"points")] (bD (cF (aA 0) (cG (mC (.int 1))) cE)) (gN 0) (aQ oR [] (aB (aC aE (aA 1) (mC (.int 0))) (aB (aA 0) aD)))))
 (bF (aQ wA [] (aB (aQ pK [] (aB (cF (aA 1) cE (cG (bK bO (mC (.int 1))))) aD)) (aB (aC aE (aA 1) (bK bO (mC (.int 1)))) aD)))))
def oS:FM:=aR 1 2 tR
def vT:MS:=(bF (aQ nW [] (aB (aQ oS [] (aB (aA 0) aD)) aD)))
def mL:FM:=aR 1 1 vT
def yG:MS:=(bF (aC eO (aC eO (cF (aA 0) cE (cG (aA 1))) (mN dL (aB (aA 2) aD))) (cF (aA 0) (cG (aC aF (aA 1) (mC (.int 1)))) cE)))
def oX:FM:=aR 3 3 yG
def yJ:MS:=(bF (mR kU (aB (bB ["k"] [(0,"piece"),(1,"p")] (cM (aB (mR eI (aB (aA 0) aD)) aD)) (gN 0) (aQ mL [] (aB (aQ oX [] (aB (aA 1) (aB (aA 0) (aB (aA 2) aD)))) aD))) aD)))
def qZ:FM:=aR 2 2 yJ
def yE:MS:=(aI (aP 2 (mC (.int 0)))
 (aI (bI (bD (aA 0)) (gN 3) (aI (aP 4 (aQ qZ [] (aB (aA 3) (aB (aA 1) aD))))
 (aI (cK (bH (aC cZ (aA 4) (mC (.int 0)))) (oB "OnSide") dE)
 (cK (bH (aC fB (aA 4) (mC (.int 0)))) (kS (λi j=>i+j) 2 (mC (.int 1))) dE))))
 (bF (aA 2))))
def oY:FM:=aR 2 5 yE
def uA:MS:=(bF (aQ nO [] (aB (bB ["one","step"] [] (gJ (aB (aQ tZ [] (aB (aA 0) aD)) (aB (aA 1) aD))) (gT 2 (dM (gN 0) (dM (gN 1) fG))) (aQ rG [] (aB (aA 0) (aB (aA 1) aD)))) aD)))
def kB:FM:=aR 2 2 uA
def zO:MS:=(bF (mR fM (aB (bB ["corner"] [(1,"grid"),(0,"piece")] (bD (aA 0)) (gN 0) (aQ kB [] (aB (aQ nK [] (aB (aA 0) (aB (aC aE (aA 2) (mC (.int 0))) aD))) (aB (aA 1) aD)))) aD)))
def pH:FM:=aR 2 2 zO
def xS:MS:=(bF (mR fM (aB (aC aF (bB ["number"] [(0,"p")] (bD (cF (aA 0) cE (cG (bK bO (mC (.int 1)))))) (gN 0) (aC fK (aA 0) (aC aE (aA 1) (bK bO (mC (.int 1)))))) (mN eC (aB (aC aE (aA 0) (bK bO (mC (.int 1)))) aD))) aD)))
def qV:FM:=aR 1 1 xS
def xU:MS:=(aI (aP 2 (mN eC (aB (mN dL aD) aD)))
 (aI (bI (cM (aB (aC dG (mR eI (aB (aA 1) aD)) (mC (.int 1))) aD)) (gN 3) (aI (aP 4 (bB ["corner"] [(3,"k")] (bD (aA 0)) (gN 0) (aC aE (aA 0) (aA 1))))
 (aI (aP 5 (eJ aD))
 (aI (bI (bD (aA 2)) (gN 6) (oE 5 (bB ["cell"] [(6,"row"),(1,"p"),(3,"k")] (iR (aB (mR kU (aB (aA 4) aD)) (aB (aC aF (mR nB (aB (aA 4) aD)) (mC (.int 1))) aD))) (gN 0) (aC eO (aA 1) (mN dL (aB (aC aF (aC aE (aA 2) (aA 3)) (aC aS (aA 0) (aC aE (aA 2) (bK bO (mC (.int 1)))))) aD))))))
 (aP 2 (aA 5))))))
 (bF (bB ["row"] [(1,"p")] (bD (aA 2)) (gN 0) (aC eO (aA 0) (mN dL (aB (aC aE (aA 1) (bK bO (mC (.int 1)))) aD)))))))
def oU:FM:=aR 2 7 xU
def rJ:MS:=(aI (aP 3 (aQ qV [] (aB (aQ kB [] (aB (aA 2) (aB (aA 1) aD))) aD)))
 (aI (aP 4 (mC (.int 0)))
 (aI (bI (bD (aA 0)) (gN 5) (aI (aP 6 (aQ pH [] (aB (aA 5) (aB (aA 1) aD))))
 (bI (bD (aQ oU [] (aB (aA 6) (aB (aA 3) aD)))) (gN 7) (kS (λi j=>i+j) 4 (iJ oY [] (aB (mN dL (aB (aA 6) aD)) (aB (aA 7) aD)))))))
 (bF (aA 4)))))
def nV:FM:=aR 3 8 rJ
def Za:MS:=(aI (aP 1 (eJ aD))
 (aI (bI (wD (aB (cF (aA 0) cE (cG (mC (.int 63)))) aD)) (gT 2 (dM (gN 2) (dM (gN 3) fG))) (cK (bH (aC qL (aA 3) (aC hJ (mC (.int 10)) (mC (.int 18))))) (dS (dI (aA 1) (aB (aC dG (aA 3) (aC hJ (mC (.int 10)) (mC (.int 18)))) aD))) (aI (aP 4 (aC fK (aC aS (aC aF (aC aF (aC aF (aA 3) (aC aS (aC aS (mC (.int 7)) (aA 2)) (aA 2))) (aC aS (mC (.int 13)) (aA 2))) (mC (.int 5))) (mC (.int 48271))) (mC (.int 2147483647))))
 (aI (aP 5 (aC fK (aC aS (aC aF (aC aF (aC aF (aA 3) (aC aS (aC aS (mC (.int 11)) (aA 2)) (aA 2))) (aC aS (mC (.int 17)) (aA 2))) (mC (.int 3))) (mC (.int 40692))) (mC (.int 2147483399))))
 (aI (aP 6 (aC fK (aC aS (aC aF (aC aF (aC aF (aA 3) (aC aS (aC aS (mC (.int 5)) (aA 2)) (aA 2))) (aC aS (mC (.int 29)) (aA 2))) (mC (.int 8))) (mC (.int 39373))) (mC (.int 2147483587))))
 (aI (aP 4 (aC fK (aC aS (aA 4) (mC (.int 52021))) (mC (.int 1000000007))))
 (aI (aP 5 (aC fK (aC aS (aA 5) (mC (.int 30011))) (mC (.int 998244353))))
 (aI (aP 6 (aC fK (aC aS (aA 6) (mC (.int 45989))) (mC (.int 1000000009))))
 (dS (dI (aA 1) (aB (aC aF (aC aS (aC aF (aC aS (aA 4) (mC (.int 998244353))) (aA 5)) (mC (.int 1000000009))) (aA 6)) aD)))))))))))
 (bF (aA 1))))
def pW:FM:=aR 1 7 Za
def vD:MS:=(aI (mQ (iM (bH (aC fB (mR eI (aB (aA 0) aD)) (mC (.int 0)))) (bH (aC cZ (aC aE (aA 0) (mC (.int 0))) (mC (.int 0))))) (dS (nA (aA 0) (aB (mC (.int 0)) aD))))
 (aI (cK (bH (aC cZ (mR eI (aB (aA 0) aD)) (mC (.int 0)))) (bF (mC (.int 0))) dE)
 (aI (aP 2 (aC fK (aC aE (aA 0) (mC (.int 0))) (aA 1)))
 (aI (nZ (aA 0) (mC (.int 0)) (aC dW (aC aE (aA 0) (mC (.int 0))) (aA 1)))
 (bF (aA 2))))))
def cQ:FM:=aR 2 3 vD
def Cb:MS:=(aI (aP 0 (mR oK (aB (aA 0) aD)))
 (aI (aP 1 (mR oK (aB (aA 1) aD)))
 (aI (mQ (bH (aC fB (aA 1) (mC (.int 0)))) (sU 0 1 (aB (aA 1) (aB (aC fK (aA 0) (aA 1)) aD))))
 (bF (aA 0)))))
def sD:FM:=aR 2 2 Cb
def uL:MS:=(aI (aP 1 (mC (.int 0)))
 (aI (bI (bD (aA 0)) (gN 2) (aP 1 (aQ sD [] (aB (aA 1) (aB (aA 2) aD)))))
 (aI (cK (bH (aC cZ (aA 1) (mC (.int 0)))) (bF (mR fM (aB (aA 0) aD))) dE)
 (bF (mR fM (aB (bB ["_law_number"] [(1,"_law_by")] (bD (aA 0)) (gN 0) (aC dW (aA 0) (aA 1))) aD))))))
def fW:FM:=aR 1 3 uL
def uP:MS:=(bF (wH (bK pZ (aA 0)) (bK sQ (bK (kG "bool") (aA 0)))))
def nS:FM:=aR 1 1 uP
def Ta:MS:=(aI (cK (bH (aC kM (aA 1) (mC (.int 0)))) (bF (aQ fW [] (aB (mN eC (aB (aC dG (mC (.int 0)) (aA 0)) (aB (aC dG (mC (.int 0)) (aA 1)) aD))) aD))) dE)
 (bF (aQ fW [] (aB (mN eC (aB (aA 0) (aB (aA 1) aD))) aD))))
def rM:FM:=aR 2 2 Ta
def zC:MS:=(aI (aP 3 (bB ["_law_k"] [(2,"_law_way"),(1,"_law_q"),(0,"_law_p")] (cM (aB (aC dG (mR eI (aB (aA 0) aD)) (mC (.int 1))) aD)) (gN 0) (aC aF (aC aS (aC aS (aA 1) (aC aE (aA 3) (aA 0))) (aC aE (aA 2) (bK bO (mC (.int 1))))) (aC aS (aC aE (aA 2) (aA 0)) (aC aE (aA 3) (bK bO (mC (.int 1))))))))
 (bF (aQ fW [] (aB (aC aF (aA 3) (mN eC (aB (aC aS (aC aE (aA 0) (bK bO (mC (.int 1)))) (aC aE (aA 1) (bK bO (mC (.int 1))))) aD))) aD))))
def kN:FM:=aR 3 4 zC
def Jb:MS:=(bF (bB ["_law_k"] [(1,"_law_q"),(0,"_law_p")] (cM (aB (aC dG (mR eI (aB (aA 0) aD)) (mC (.int 1))) aD)) (gN 0) (aC dG (aC aS (aC aE (aA 1) (aA 0)) (aC aE (aA 2) (bK bO (mC (.int 1))))) (aC aS (aC aE (aA 2) (aA 0)) (aC aE (aA 1) (bK bO (mC (.int 1))))))))
def pV:FM:=aR 2 2 Jb
def zI:MS:=(aI (aP 2 (aC dG (aC aS (aC aE (aA 0) (mC (.int 1))) (aC aE (aA 1) (mC (.int 2)))) (aC aS (aC aE (aA 0) (mC (.int 2))) (aC aE (aA 1) (mC (.int 1))))))
 (aI (aP 3 (aC dG (aC aS (aC aE (aA 0) (mC (.int 2))) (aC aE (aA 1) (mC (.int 0)))) (aC aS (aC aE (aA 0) (mC (.int 0))) (aC aE (aA 1) (mC (.int 2))))))
 (aI (aP 4 (aC dG (aC aS (aC aE (aA 0) (mC (.int 0))) (aC aE (aA 1) (mC (.int 1)))) (aC aS (aC aE (aA 0) (mC (.int 1))) (aC aE (aA 1) (mC (.int 0))))))
 (bF (mN eC (aB (aA 2) (aB (aA 3) (aB (aA 4) aD))))))))
def uV:FM:=aR 2 5 zI
def Db:MS:=(bF (mR kI (aB (bB ["_law_one","_law_other"] [] (gJ (aB (aA 0) (aB (aA 1) aD))) (gT 2 (dM (gN 0) (dM (gN 1) fG))) (aC aS (aA 0) (aA 1))) aD)))
def vN:FM:=aR 2 2 Db
def mI:MS:=(aI (cK (bH (aC cZ (mR eI (aB (aA 0) aD)) (mC (.int 2)))) (bF (aC dG (aC aS (aC aE (aC aE (aA 0) (mC (.int 0))) (mC (.int 0))) (aC aE (aC aE (aA 0) (mC (.int 1))) (mC (.int 1)))) (aC aS (aC aE (aC aE (aA 0) (mC (.int 0))) (mC (.int 1))) (aC aE (aC aE (aA 0) (mC (.int 1))) (mC (.int 0)))))) dE)
 (bF (aQ vN [] (aB (aQ uV [] (aB (aC aE (aA 0) (mC (.int 0))) (aB (aC aE (aA 0) (mC (.int 1))) aD))) (aB (aC aE (aA 0) (mC (.int 2))) aD)))))
def iG:FM:=aR 1 1 mI
def pQ:MS:=(bF (aQ iG [] (aB (bB ["_law_p"] [(0,"_law_points")] (bD (cF (aA 0) (cG (mC (.int 1))) cE)) (gN 0) (aQ pV [] (aB (aC aE (aA 1) (mC (.int 0))) (aB (aA 0) aD)))) aD)))
def gY:FM:=aR 1 1 pQ
def tX:MS:=(aI (aP 1 (mR rO (aB (aA 0) aD)))
 (aI (cK (bH (aC kM (aQ gY [] (aB (aA 1) aD)) (mC (.int 0)))) (aP 1 (aC aF (cF (aA 1) cE (cG (bK bO (mC (.int 2))))) (mN eC (aB (aC aE (aA 1) (bK bO (mC (.int 1)))) (aB (aC aE (aA 1) (bK bO (mC (.int 2)))) aD))))) dE)
 (bF (mR fM (aB (aA 1) aD)))))
def nP:FM:=aR 1 2 tX
def tW:MS:=(bF (aQ iG [] (aB (bB ["_law_corner"] [(0,"_law_corners")] (bD (cF (aA 0) (cG (mC (.int 1))) cE)) (gN 0) (bB ["_law_b","_law_c"] [] (gJ (aB (aC aE (aA 1) (mC (.int 0))) (aB (aA 0) aD))) (gT 2 (dM (gN 0) (dM (gN 1) fG))) (aC dG (aA 1) (aA 0)))) aD)))
def mE:FM:=aR 1 1 tW
def Xa:MS:=(aI (aP 3 (eJ aD))
 (aI (bI (cM (aB (aC aF (aA 1) (mC (.int 1))) aD)) (gN 4) (dS (dI (aA 3) (aB (bB ["_law_m"] [(0,"_law_row_here"),(2,"_law_wide")] (cM (aB (aA 1) aD)) (gN 0) (aQ cQ [] (aB (aA 1) (aB (aC aF (aA 2) (mC (.int 1))) aD)))) aD))))
 (aI (cK (bH (aC jF (aQ mE [] (aB (aA 3) aD)) (mC (.int 0)))) (bF (aA 3)) dE)
 (bF (bB ["_law_k"] [(1,"_law_dims")] (iR (aB (bK bO (mC (.int 1))) (aB (aA 1) aD))) (gN 0) (bB ["_law_m"] [(0,"_law_k")] (cM (aB (aA 1) aD)) (gN 0) (mR iU (aB (aC cZ (aA 0) (aA 1)) aD))))))))
def kP:FM:=aR 3 5 Xa
def vI:MS:=(aI (aP 1 (eJ (aB (mC (.int 0)) (aB (mC (.int 1)) (aB (mC (.int 2)) aD)))))
 (aI (aP 2 (eJ (aB (mC (.int 0)) (aB (mC (.int 0)) (aB (mC (.int 0)) aD)))))
 (aI (aP 3 (sT (aB (aA 2) aD)))
 (aI (bI (cM (aB (mC (.int 3)) aD)) (gN 4) (aI (nZ (aA 2) (nA (aA 1) (aB (aQ cQ [] (aB (aA 0) (aB (mR eI (aB (aA 1) aD)) aD))) aD)) (mC (.int 1)))
 (dS (sJ (aA 3) (aB (aA 2) aD)))))
 (aI (bI (cM (aB (mC (.int 3)) aD)) (gN 5) (cK (bH (aC cZ (aQ cQ [] (aB (aA 0) (aB (mC (.int 4)) aD))) (mC (.int 3)))) (oG 3 2 5) dE))
 (bF (aA 3)))))))
def pO:FM:=oQ 1 6 vI
def xW:MS:=(aI (aP 3 (eJ aD))
 (aI (bI (cM (aB (aQ cQ [] (aB (aA 0) (aB (aC aF (aA 2) (mC (.int 1))) aD))) aD)) (gN 4) (aI (aP 5 (aQ cQ [] (aB (aA 0) (aB (mC (.int 6)) aD))))
 (cK (iM (bH (aC cZ (aA 5) (mC (.int 5)))) (bH (aC fB (mR eI (aB (aA 3) aD)) (mC (.int 0))))) (dS (dI (aA 3) (aB (aC aE (aA 3) (bK bO (mC (.int 1)))) aD))) (cK (bH (aC cZ (aA 1) (mC (.int 2)))) (dS (dI (aA 3) (aB (aQ kP [] (aB (aA 0) (aB (mC (.int 2)) (aB (aC aF (mC (.int 1)) (mR iU (aB (aC cZ (aA 5) (mC (.int 4))) aD))) aD)))) aD))) (cK (bH (aC fB (aA 5) (mC (.int 3)))) (dS (dI (aA 3) (aB (aQ kP [] (aB (aA 0) (aB (mC (.int 3)) (aB (mC (.int 1)) aD)))) aD))) (dS (dI (aA 3) (aB (aQ pO [] (aB (aA 0) aD)) aD))))))))
 (bF (aA 3))))
def oW:FM:=aR 3 6 xW
def Ab:MS:=(aI (aP 2 (aQ cQ [] (aB (aA 0) (aB (mC (.int 4)) aD))))
 (aI (aP 3 (aC aE (mN eC (aB (mC (.int 0)) (aB (mC (.int 3)) (aB (mC (.int 9)) (aB (aC hJ (mC (.int 10)) (mC (.int 12))) aD))))) (aA 2)))
 (aI (aP 4 (aC aF (mC (.int 1)) (aC aS (aQ cQ [] (aB (aA 0) (aB (mC (.int 9)) aD))) (aC dW (aA 2) (mC (.int 2))))))
 (aI (aP 5 (bB ["_law_k"] [(3,"_law_wide"),(0,"_law_row_here")] (cM (aB (aA 1) aD)) (gN 0) (aC dG (aQ cQ [] (aB (aA 2) (aB (aC aF (aC aS (mC (.int 2)) (aA 1)) (mC (.int 1))) aD))) (aA 1))))
 (bF (aQ fW [] (aB (aC aF (aA 5) (mN eC (aB (aA 4) aD))) aD)))))))
def mM:FM:=aR 2 6 Ab
def yK:MS:=(aI (aP 2 (eJ aD))
 (aI (bI (cM (aB (aA 1) aD)) (gN 3) (aI (aP 4 (aQ cQ [] (aB (aA 0) (aB (mC (.int 3)) aD))))
 (dS (dI (aA 2) (aB (aQ rM [] (aB (aC aF (mC (.int 1)) (aQ cQ [] (aB (aA 0) (aB (aC aE (mN eC (aB (mC (.int 1)) (aB (mC (.int 7)) (aB (aC hJ (mC (.int 10)) (mC (.int 9))) aD)))) (aA 4)) aD)))) (aB (aC aF (mC (.int 1)) (aQ cQ [] (aB (aA 0) (aB (aC aE (mN eC (aB (mC (.int 1)) (aB (mC (.int 7)) (aB (aC hJ (mC (.int 10)) (mC (.int 6))) aD)))) (aA 4)) aD)))) aD))) aD)))))
 (bF (aA 2))))
def rC:FM:=aR 2 5 yK
def vE:MS:=(aI (aP 2 (mC (.int 1)))
 (aI (bI (bD (aA 1)) (gN 3) (aP 2 (aC aS (aA 2) (aC aE (aA 3) (mC (.int 1))))))
 (aI (aP 4 (bB ["_law_number","_law_part"] [(2,"_law_under")] (gJ (aB (aA 0) (aB (aA 1) aD))) (gT 2 (dM (gN 0) (dM (gN 1) fG))) (aC aS (aC aS (aA 0) (aC aE (aA 1) (mC (.int 0)))) (aC dW (aA 2) (aC aE (aA 1) (mC (.int 1)))))))
 (bF (aQ fW [] (aB (aC aF (aA 4) (mN eC (aB (aA 2) aD))) aD))))))
def jM:FM:=aR 2 5 vE
def Aa:MS:=(aI (aP 3 (eJ aD))
 (aI (bI (bD (aA 1)) (gN 4) (aI (aP 5 (aQ mM [] (aB (aA 0) (aB (mR eI (aB (aA 2) aD)) aD))))
 (dS (dI (aA 3) (aB (aQ nP [] (aB (bB ["_law_corner"] [(5,"_law_far_here"),(2,"_law_stretch_here")] (bD (aA 4)) (gN 0) (aQ kN [] (aB (aQ jM [] (aB (aA 0) (aB (aA 2) aD))) (aB (aA 1) (aB (mC (.int 1)) aD))))) aD)) aD)))))
 (bF (aA 3))))
def rT:FM:=aR 3 6 Aa
def uI:MS:=(aI (cK (bH (aC cZ (aQ cQ [] (aB (aA 0) (aB (mC (.int 2)) aD))) (mC (.int 1)))) (bF (mR fM (aB (aA 1) aD))) dE)
 (bF (mR lI (aB (aA 1) aD))))
def nR:FM:=aR 2 2 uI
def xZ:MS:=(aI (aP 2 (mC (.int 1)))
 (aI (aP 3 (aQ gY [] (aB (aA 0) aD)))
 (aI (bI (cM (aB (mR eI (aB (aA 0) aD)) aD)) (gN 4) (aI (aP 5 (aC aS (aQ gY [] (aB (aC eO (aC eO (cF (aA 0) cE (cG (aA 4))) (mN dL (aB (aA 1) aD))) (cF (aA 0) (cG (aC aF (aA 4) (mC (.int 1)))) cE)) aD)) (aA 3)))
 (aI (cK (bH (aC kM (aA 5) (mC (.int 0)))) (bF (bK bO (mC (.int 1)))) dE)
 (cK (bH (aC cZ (aA 5) (mC (.int 0)))) (aP 2 (mC (.int 0))) dE))))
 (bF (aA 2)))))
def oV:FM:=aR 2 6 xZ
def yR:MS:=(aI (aP 2 (mN eC (aB (mN dL aD) aD)))
 (aI (bI (cM (aB (aC dG (mR eI (aB (aA 1) aD)) (mC (.int 1))) aD)) (gN 3) (aI (aP 4 (aC dG (aC dG (mR kU (aB (bB ["_law_corner"] [(3,"_law_k")] (bD (aA 0)) (gN 0) (aC aE (aA 0) (aA 1))) aD)) (aC dW (aC aE (aA 1) (aA 3)) (aC aE (aA 1) (bK bO (mC (.int 1)))))) (mC (.int 1))))
 (aI (aP 5 (aC aF (aC dG (mR nB (aB (bB ["_law_corner"] [(3,"_law_k")] (bD (aA 0)) (gN 0) (aC aE (aA 0) (aA 1))) aD)) (aC dW (aC aE (aA 1) (aA 3)) (aC aE (aA 1) (bK bO (mC (.int 1)))))) (mC (.int 1))))
 (aI (aP 6 (eJ aD))
 (aI (bI (bD (aA 2)) (gN 7) (bI (iR (aB (aA 4) (aB (aC aF (aA 5) (mC (.int 1))) aD))) (gN 8) (dS (dI (aA 6) (aB (aC eO (aA 7) (mN dL (aB (aA 8) aD))) aD)))))
 (aP 2 (aA 6)))))))
 (bF (aA 2))))
def mF:FM:=aR 2 9 yR
def yV:MS:=(aI (aP 2 (mR fM (aB (bB ["_law_corner"] [] (bD (aA 0)) (gN 0) (aC eO (mR fM (aB (aA 0) aD)) (mN dL (aB (mC (.int 1)) aD)))) aD)))
 (aI (aP 3 (mC (.int 0)))
 (aI (bI (bD (aQ mF [] (aB (aA 2) (aB (aA 1) aD)))) (gN 4) (aI (aP 5 (aQ oV [] (aB (aA 2) (aB (aQ kN [] (aB (aC eO (aA 4) (mN dL (aB (mC (.int 1)) aD))) (aB (aA 1) (aB (mC (.int 1)) aD)))) aD))))
 (aI (cK (bH (aC cZ (aA 5) (mC (.int 0)))) (bF (mC .non)) dE)
 (cK (bH (aC fB (aA 5) (mC (.int 0)))) (aP 3 (aC aF (aA 3) (mC (.int 1)))) dE))))
 (bF (aA 3)))))
def lE:FM:=aR 2 6 yV
def vF:MS:=(aI (cK (bH (aC cZ (aQ cQ [] (aB (aA 0) (aB (mC (.int 2)) aD))) (mC (.int 1)))) (aI (aP 2 (aC aF (mC (.int 1)) (aQ cQ [] (aB (aA 0) (aB (mC (.int 4)) aD)))))
 (bF (aQ fW [] (aB (aC aF (bB ["_law_k"] [(0,"_law_row_here"),(2,"_law_under")] (cM (aB (aA 1) aD)) (gN 0) (aC dG (aQ cQ [] (aB (aA 1) (aB (aC aF (aC aS (mC (.int 4)) (aA 2)) (mC (.int 1))) aD))) (aC aS (mC (.int 2)) (aA 2)))) (mN eC (aB (aA 2) aD))) aD)))) dE)
 (aI (aP 3 (cF (mN eC (aB (mC (.int 1009)) (aB (mC (.int 1013)) (aB (mC (.int 1019)) aD)))) cE (cG (aA 1))))
 (aI (aP 2 (mC (.int 1)))
 (aI (bI (bD (aA 3)) (gN 4) (aP 2 (aC aS (aA 2) (aA 4))))
 (aI (aP 5 (eJ aD))
 (aI (bI (bD (aA 3)) (gN 4) (dS (dI (aA 5) (aB (aC aF (aC aS (aC aF (mC (.int 1)) (aQ cQ [] (aB (aA 0) (aB (aC dG (aA 4) (mC (.int 1))) aD)))) (aC dW (aA 2) (aA 4))) (aC aS (aC dG (aQ cQ [] (aB (aA 0) (aB (mC (.int 5)) aD))) (mC (.int 2))) (aA 2))) aD))))
 (bF (aQ fW [] (aB (aC aF (aA 5) (mN eC (aB (aA 2) aD))) aD)))))))))
def mJ:FM:=aR 2 6 vF
def zS:MS:=(aI (aP 3 (mC .non))
 (aI (sL (sK (mC (.int 0)) (sG nV [] (aB (aA 0) (aB (aA 1) (aB (aA 2) aD))))) "OnSide" 5 3 (λρ=>(((ρ.set 4 none).set 3 (some (.pv (.tup [.int 1,.bl true])))).set 4 none)))
 (bF (aA 3))))
def kC:FM:=aR 3 5 zS
def Ac:MS:=(aI (aP 1 (pS pW [] (aB (aA 0) aD)))
 (aI (aP 2 (aC aF (mC (.int 2)) (aQ cQ [] (aB (aA 1) (aB (mC (.int 2)) aD)))))
 (aI (aP 3 (aQ rC [] (aB (aA 1) (aB (aA 2) aD))))
 (aI (aP 4 (aQ oW [] (aB (aA 1) (aB (aA 2) (aB (mC (.int 4)) aD)))))
 (aI (aP 5 (aQ nR [] (aB (aA 1) (aB (aQ rT [] (aB (aA 1) (aB (aA 4) (aB (aA 3) aD)))) aD))))
 (aI (bI (cM (aB (mC (.int 3)) aD)) (gN 6) (aI (aP 7 (aQ mJ [] (aB (aA 1) (aB (aA 2) aD))))
 (aI (aP 8 (bB ["_law_corners"] [(7,"_law_p")] (bD (aA 4)) (gN 0) (aQ lE [] (aB (aA 0) (aB (aA 1) aD)))))
 (aI (aP 9 (mN dL (aB (mC (.int 1)) (aB (mC (.bl true)) aD))))
 (aI (cK (bH (aC mY (mC .non) (aA 8))) (aP 9 (mN dL (aB (mC (.int 0)) (aB (mR kI (aB (aA 8) aD)) aD)))) dE)
 (aI (aP 10 (aQ jM [] (aB (cF (aA 7) cE (cG (aA 2))) (aB (aA 3) aD))))
 (aI (aP 10 (aQ fW [] (aB (aC aF (cF (aA 10) cE (cG (aA 2))) (mN dL (aB (aC aS (aC aE (aA 10) (aA 2)) (aC aE (aA 7) (aA 2))) aD))) aD)))
 (aI (aP 11 (aQ kC [] (aB (aA 5) (aB (mR fM (aB (aA 3) aD)) (aB (aA 10) aD)))))
 (aI (cK (qM (bH (aC jF (aA 11) (aA 9))) (iM (sV (bH (aQ nS [] (aB (aC aE (aA 11) (mC (.int 1))) aD)))) (bH (aC cZ (aC aE (aA 11) (mC (.int 0))) (mC (.int 0)))))) (bF (mC (.bl false))) dE)
 (cK (bH (aC jF (aQ kC [] (aB (aA 5) (aB (mR fM (aB (aA 3) aD)) (aB (aA 10) aD)))) (aA 9))) (bF (mC (.bl false))) dE))))))))))
 (bF (mC (.bl true)))))))))
def Fc:FM:=aR 1 12 Ac
abbrev vB(B:Bx):=cP B "sign" 1 ["number"] nW
abbrev yI(B:Bx):=cP B "divisor" 1 ["one","other"] pG
abbrev Se(B:Bx):=cP B "reduced" 2 ["numbers"] uE
abbrev yA(B:Bx):=tM B "fraction" 2 ["top","bottom"] lD
abbrev Re(B:Bx):=cP B "divided" 3 ["one","other"] rG
abbrev zG(B:Bx):=tM B "point" 3 ["numbers","bottom"] mH
abbrev Le(B:Bx):=cP B "measures" 3 ["p"] tZ
abbrev Ce(B:Bx):=cP B "point_at" 4 ["parts"] nO
abbrev Xi(B:Bx):=cP B "added" 4 ["p","q"] vC
abbrev Gg(B:Bx):=cP B "turned" 1 ["p"] uO
abbrev De(B:Bx):=cP B "lessened" 5 ["p","q"] nK
abbrev Pd(B:Bx):=cP B "whole_arrow" 1 ["start","end"] oR
abbrev Ao(B:Bx):=cP B "dot" 1 ["u","v"] wA
abbrev Ig(B:Bx):=cP B "normal" 1 ["arrows"] pK
abbrev Qd(B:Bx):=cP B "determinant" 2 ["points"] oS
abbrev Uk(B:Bx):=cP B "side" 3 ["points"] mL
abbrev Je(B:Bx):=cP B "replaced" 1 ["row","place","value"] oX
abbrev Fe(B:Bx):=cP B "standing" 4 ["piece","p"] qZ
abbrev Ie(B:Bx):=tM B "count_at" 5 ["heap","p"] oY
abbrev xX(B:Bx):=cP B "in_steps" 5 ["p","grid"] kB
abbrev Xf(B:Bx):=cP B "folded" 6 ["piece","grid"] pH
abbrev Nd(B:Bx):=cP B "in_first_cell" 1 ["p"] qV
abbrev Wd(B:Bx):=cP B "spots_over" 1 ["piece","p"] oU
abbrev Og(B:Bx):=tM B "layers" 7 ["heap","grid","p"] nV
abbrev Pk(B:Bx):=cP B "_law_row" 1 ["_law_script"] pW
abbrev lF(B:Bx):=cP B "_law_take" 1 ["_law_row_here","_law_many"] cQ
abbrev Dl(B:Bx):=cP B "_law_gcd" 1 ["_law_one","_law_other"] sD
abbrev nM(B:Bx):=cP B "_law_lowest" 2 ["_law_numbers"] fW
abbrev Dg(B:Bx):=cP B "_law_whole" 1 ["_law_number"] nS
abbrev Pi(B:Bx):=cP B "_law_frac" 3 ["_law_top","_law_bottom"] rM
abbrev yD(B:Bx):=cP B "_law_joined" 3 ["_law_p","_law_q","_law_way"] kN
abbrev Nk(B:Bx):=cP B "_law_gap" 1 ["_law_p","_law_q"] pV
abbrev Dh(B:Bx):=cP B "_law_cross" 1 ["_law_u","_law_v"] uV
abbrev Xj(B:Bx):=cP B "_law_dot" 1 ["_law_u","_law_v"] vN
abbrev zZ(B:Bx):=cP B "_law_turn" 2 ["_law_ways"] iG
abbrev Ea(B:Bx):=cP B "_law_det" 3 ["_law_points"] gY
abbrev Ge(B:Bx):=cP B "_law_simplex" 4 ["_law_points"] nP
abbrev Ae(B:Bx):=cP B "_law_raw_turn" 3 ["_law_corners"] mE
abbrev Il(B:Bx):=cP B "_law_raw" 4 ["_law_row_here","_law_dims","_law_wide"] kP
abbrev Ri(B:Bx):=cP B "_law_kuhn" 2 ["_law_row_here"] pO
abbrev Xd(B:Bx):=cP B "_law_raw_heap" 5 ["_law_row_here","_law_dims","_law_many"] oW
abbrev Ak(B:Bx):=cP B "_law_far" 3 ["_law_row_here","_law_dims"] mM
abbrev Me(B:Bx):=cP B "_law_stretch" 4 ["_law_row_here","_law_dims"] rC
abbrev zL(B:Bx):=cP B "_law_spot" 3 ["_law_corner","_law_stretch_here"] jM
abbrev Oi(B:Bx):=cP B "_law_laid" 5 ["_law_row_here","_law_heap","_law_stretch_here"] rT
abbrev Af(B:Bx):=cP B "_law_handed" 2 ["_law_row_here","_law_rows"] nR
abbrev Yd(B:Bx):=cP B "_law_standing" 4 ["_law_points","_law_p"] oV
abbrev Ye(B:Bx):=cP B "_law_arrows" 1 ["_law_points","_law_p"] mF
abbrev Qe(B:Bx):=cP B "_law_layers" 5 ["_law_corners","_law_p"] lE
abbrev Yh(B:Bx):=cP B "_law_over" 3 ["_law_row_here","_law_dims"] mJ
abbrev Eh(B:Bx):=cP B "_law_asked" 8 ["_law_heap","_law_grid","_law_p"] kC
structure Mg(mg:Str->AX):Prop where
 m_abs:mg "abs"=none
 m_bool:mg "bool"=none
 m_enumerate:mg "enumerate"=none
 m_int:mg "int"=none
 m_isinstance:mg "isinstance"=none
 m_len:mg "len"=none
 m_list:mg "list"=none
 m_max:mg "max"=none
 m_min:mg "min"=none
 m_range:mg "range"=none
 m_sorted:mg "sorted"=none
 m_sum:mg "sum"=none
 m_tuple:mg "tuple"=none
 m_zip:mg "zip"=none
set_option hygiene false
local macro_rules | `(tactic|trivial)=> `(tactic|(first
 |(with_reducible show aZ _ _ _ _ _ (aC mY _ _));refine pR (Cm (qS hr)) Wo ?_ ?_ rfl
 |(with_reducible show fU _ _ _ _ _ (bH (aC mY _ _)));refine pL (Cm (qS hr)) Wo ?_ ?_ rfl
 |(with_reducible show aZ _ _ _ _ _ (bK pZ _));refine G0 rfl m.m_isinstance rfl m.m_int Qn ?_
 |(with_reducible show eX _ _ _ _ _ aD);exact Xl
 |(with_reducible show eX _ _ _ _ _ (aB _ _));refine uN ?_ ?_
 |(with_reducible show aZ _ _ _ _ _ (aA _));exact sF _
 |(with_reducible show aZ _ _ _ _ _ (mC (.int _)));exact Fo
 |(with_reducible show aZ _ _ _ _ _ (mC (.bl _)));exact aaW
 |(with_reducible show aZ _ _ _ _ _ (mC .non));exact Go
 |(with_reducible show aZ _ _ _ _ _ (bK bO _));refine aa4 Q5 Z7 ?_
 |(with_reducible show aZ _ _ _ _ _ (bK sQ _));refine O2 ?_
 |(with_reducible show aZ _ _ _ _ _ (aC eO _ _));refine oJ G7 O1 ?_ ?_
 |(with_reducible show aZ _ _ _ _ _ (aC aF _ _));refine oJ J7 aa8 ?_ ?_
 |(with_reducible show aZ _ _ _ _ _ (aC dG _ _));refine oJ Zm aaY ?_ ?_
 |(with_reducible show aZ _ _ _ _ _ (aC aS _ _));refine oJ E8 abb ?_ ?_
 |(with_reducible show aZ _ _ _ _ _ (aC dW _ _));refine oJ Dy V7 ?_ ?_
 |(with_reducible show aZ _ _ _ _ _ (aC fK _ _));refine oJ Pz aa9 ?_ ?_
 |(with_reducible show aZ _ _ _ _ _ (aC hJ _ _));refine oJ X6 aaV ?_ ?_
 |(with_reducible show aZ _ _ _ _ _ (aC aE _ _));refine Y7 ?_ ?_
 |(with_reducible show aZ _ _ _ _ _ (aC cZ _ _));refine pR (Dn (qS hr)) Cq ?_ ?_ (kQ _)
 |(with_reducible show aZ _ _ _ _ _ (aC jF _ _));refine pR (Eo (qS hr)) Yp ?_ ?_ (kQ _)
 |(with_reducible show aZ _ _ _ _ _ (aC kM _ _));refine pR Mp Aq ?_ ?_ (kQ _)
 |(with_reducible show aZ _ _ _ _ _ (aC fB _ _));refine pR Uo Vp ?_ ?_ (kQ _)
 |(with_reducible show aZ _ _ _ _ _ (aC qL _ _));refine pR Fp Jq ?_ ?_ (kQ _)
 |(with_reducible show fU _ _ _ _ _ (bH (aC cZ _ _)));refine pL (Dn (qS hr)) Cq ?_ ?_ (kQ _)
 |(with_reducible show fU _ _ _ _ _ (bH (aC jF _ _)));refine pL (Eo (qS hr)) Yp ?_ ?_ (kQ _)
 |(with_reducible show fU _ _ _ _ _ (bH (aC kM _ _)));refine pL Mp Aq ?_ ?_ (kQ _)
 |(with_reducible show fU _ _ _ _ _ (bH (aC fB _ _)));refine pL Uo Vp ?_ ?_ (kQ _)
 |(with_reducible show fU _ _ _ _ _ (bH (aC qL _ _)));refine pL Fp Jq ?_ ?_ (kQ _)
 |(with_reducible show fU _ _ _ _ _ (bH _));refine D6 ?_
 |(with_reducible show fU _ _ _ _ _ (sV _));refine Tz ?_
 |(with_reducible show fU _ _ _ _ _ (iM _ _));refine jI.pt ?_
 |(with_reducible show fU _ _ _ _ _ (qM _ _));refine jI.pt ?_
 |(with_reducible show jI _ _ _ _ _ (iM _ _));refine K5 ?_ ?_
 |(with_reducible show jI _ _ _ _ _ (qM _ _));refine P9 ?_ ?_
 |(with_reducible show jI _ _ _ _ _ _);(first |refine Ry ?_ |refine D9 ?_)
 |(with_reducible show aZ _ _ _ _ _ (wH _ _));refine O9 ?_ ?_
 |(with_reducible show aZ _ _ _ _ _ (mN dL _));refine R1 ?_
 |(with_reducible show aZ _ _ _ _ _ (mN eC _));refine Q6 ?_
 |(with_reducible show aZ _ _ _ _ _ (eJ _));refine K0 ?_
 |(with_reducible show aZ _ _ _ _ _ (cF _ _ _));refine aah ?_ ?_ ?_
 |(with_reducible show qP _ _ _ _ _ cE);exact Ny
 |(with_reducible show qP _ _ _ _ _ (cG _));refine Ow ?_
 |(with_reducible show aZ _ _ _ _ _ (sJ _ _));refine Gz rfl rfl m.m_list ?_ ?_
 |(with_reducible show aZ _ _ _ _ _ (sT _));refine X4 rfl rfl m.m_list ?_
 |(with_reducible show aZ _ _ _ _ _ (dI _ _));refine Pu ?_ ?_
 |(with_reducible show aZ _ _ _ _ _ (nA _ _));refine N9 ?_ ?_
 |(with_reducible show aZ _ _ _ _ _ (iJ _ [] _));(first |refine aaf (by assumption) hr (by decide) rfl ?_ |refine Z4 (by assumption) hr (by decide) rfl ?_)
 |(with_reducible show aZ _ _ _ _ _ (aQ _ [] _));refine aad (by assumption) hr (by decide) rfl ?_
 |(with_reducible show aZ _ _ _ _ _ (pS _ [] _));refine aaU (by assumption) hr (by decide) rfl ?_
 |(with_reducible show aZ _ _ _ _ _ (bK (kG "bool") _));refine P4 (n:="bool") rfl m.m_isinstance rfl m.m_bool J8 ?_
 |(with_reducible show aZ _ _ _ _ _ (mR eI _));refine pI Pr aar rfl m.m_len M7 ?_
 |(with_reducible show aZ _ _ _ _ _ (mR oK _));refine pI Ky Z6 rfl m.m_abs R9 ?_
 |(with_reducible show aZ _ _ _ _ _ (mR fM _));refine zA Kr G3 rfl m.m_tuple Ay ?_
 |(with_reducible show aZ _ _ _ _ _ (mR lI _));refine zA xV J4 rfl m.m_list L7 ?_
 |(with_reducible show aZ _ _ _ _ _ (mR iU _));refine zA Qu Y8 rfl m.m_int Qn ?_
 |(with_reducible show aZ _ _ _ _ _ (mR kI _));refine pI (Ov rfl) aae rfl m.m_sum S7 ?_
 |(with_reducible show aZ _ _ _ _ _ (mR rO _));refine pI Bt M5 rfl m.m_sorted Ku ?_
 |(with_reducible show aZ _ _ _ _ _ (mR kU _));refine pI (Ev rfl) aam rfl m.m_min R3 ?_
 |(with_reducible show aZ _ _ _ _ _ (mR nB _));refine pI (Lu rfl) aaD rfl m.m_max O0 ?_
 |(with_reducible show aZ _ _ _ _ _ (bB _ _ _ _ _));(first |refine E4 (by first |exact Oo |exact Yn |exact Io |exact Om) ?_ rfl (λ_ _ _ _=> ?_) (λ_ _ _ _=> ?_) |refine Qy O4 ?_ rfl (λ_ _ _ _=> ?_) (λ_ _ _ _=> ?_))
 |(with_reducible show PIp _ _ _ _ _ _ (gJ _));refine J5 rfl m.m_zip ?_
 |(with_reducible show PIp _ _ _ _ _ _ (wD _));refine Cz rfl m.m_enumerate ?_
 |(with_reducible show PIp _ _ _ _ _ _ (cM _));refine Rt rfl m.m_range ?_
 |(with_reducible show PIp _ _ _ _ _ _ (iR _));refine Wt rfl m.m_range ?_
 |(with_reducible show PIp _ _ _ _ _ _ (bD _));refine F9 ?_
 |(with_reducible show lU _ _ _ (gN _));exact Uw (by first |exact nd |(show(dC _ _).Nodup;decide+kernel)) rfl (by first |exact gj rfl |exact ig rfl)
 |(with_reducible show lU _ _ _ (gT _ _));refine B5 rfl ?_
 |(with_reducible show qG _ _ _ fG);exact Nw
 |(with_reducible show qG _ _ _ (dM _ _));refine Tv ?_ ?_
 |(with_reducible show fY _ _ _ _ _ dE);exact Ax
 |(with_reducible show fY _ _ _ _ _ (aI _ _));refine yX ?_ ?_
 |(with_reducible show fY _ _ _ _ _ _);refine Zi ?_
 |(with_reducible show eT _ _ _ _ _ (bF _));refine Zk ?_
 |(with_reducible show eT _ _ _ _ _ (cK _ _ _));refine W8 ?_ ?_ ?_
 |(with_reducible show eT _ _ _ _ _ (dS _));refine Px ?_
 |(with_reducible show eT _ _ _ _ _ (oB _));exact Vu rfl (by assumption) (by assumption)
 |(with_reducible show eT _ _ _ _ _ (aP _ (bB _ _ _ _ _)));(first |refine Az nd rfl (by first |exact gj rfl |exact ig rfl) (by first |exact Oo |exact Yn |exact Io |exact Om) ?_ rfl (λ_ _ _ _=> ?_) (λ_ _ _ _=> ?_) |refine Sa nd rfl (by first |exact gj rfl |exact ig rfl) ?_)
 |(with_reducible show eT _ _ _ _ _ (aP _ _));refine Sa nd rfl (by first |exact gj rfl |exact ig rfl) ?_
 |(with_reducible show eT _ _ _ _ _ (sU _ _ _));refine J6 rfl nd rfl rfl (by decide) rfl rfl ?_ rfl
 |(with_reducible show eT _ _ _ _ _ (nZ _ _ _));refine Cv ?_ ?_ ?_
 |(with_reducible show eT _ _ _ _ _ (oE _ _));refine Yy nd rfl (by first |exact gj rfl |exact ig rfl) ?_
 |(with_reducible show eT _ _ _ _ _ (kS _ _ _));(first |refine Mi nd rfl (by first |exact gj rfl |exact ig rfl) ?_ W5 |refine Mi nd rfl (by first |exact gj rfl |exact ig rfl) ?_ T7)
 |(with_reducible show eT _ _ _ _ _ (mQ _ _));refine Yu (by first |exact yj |exact yk) ?_ ?_
 |(with_reducible show eT _ _ _ _ _ (oG _ _ _));exact C8 (by first |exact yj |exact yk) rfl nd rfl rfl rfl (by first |exact gj rfl |exact ig (gj rfl)) (by first |exact gj rfl |exact ig rfl) (by first |exact gj rfl |exact ig (gj rfl)) (by decide) (by decide)
 |(with_reducible show eT _ _ _ _ _ (bI _ _ _));refine F3 (by first |exact yj |exact yk) rfl ?_ ?_ ?_)<;>trivial)
set_option hygiene true
section
variable{B:Bx}(X:XG B.K B.mg)(m:Mg B.mg)
include X m
theorem A8(h:HF B.K "sign" Kn):vB B:=cV (N:=["number"]) X h cL λnd _ _ _ _ _ _ _ hr=>by unfold Wa;trivial
theorem Rs(h:HF B.K "divisor" Qg):yI B:=cV (N:=["one","other","rest"]) X h cL λnd _ _ _ _ _ _ _ hr=>by unfold yP;trivial
theorem Tt(h:HF B.K "reduced" Tg)(C_divisor:yI B):Se B:=cV (N:=["numbers","common","number"]) X h cL λnd _ _ _ _ _ _ _ hr=>by unfold zB;trivial
theorem Yr{f:Addr}{fd:br}{dsv:Array Value}(F:lM B.K "fraction" "fraction" rA f fd dsv)(C_sign:vB B)(C_divisor:yI B)(q_NoNumber:B.mg "NoNumber"=some (.ref (B.cl "NoNumber")))(x_NoNumber:de B.K (B.cl "NoNumber") eY "ValueError.__new__"=true):dQ B.P B.w B.K B.mg B.base (cY B.P B.w) 2 f fd ["top","bottom"] (jE B.K B.cl lD):=Zp (N:=["top","bottom","common"]) F cL λnd _ _ _ _ _ _ _ hr=>by unfold yH;trivial
theorem Zt(h:HF B.K "divided" Yg)(H_fraction:yA B):Re B:=cV (N:=["one","other"]) X h cL λnd _ _ _ _ _ _ _ hr=>by unfold yO;trivial
theorem Kw{f:Addr}{fd:br}{dsv:Array Value}(F:lM B.K "point" "point" rS f fd dsv)(C_reduced:Se B)(C_sign:vB B)(q_NoPoint:B.mg "NoPoint"=some (.ref (B.cl "NoPoint")))(x_NoPoint:de B.K (B.cl "NoPoint") eY "ValueError.__new__"=true):dQ B.P B.w B.K B.mg B.base (cY B.P B.w) 3 f fd ["numbers","bottom"] (jE B.K B.cl mH):=Zp (N:=["numbers","bottom"]) F cL λnd _ _ _ _ _ _ _ hr=>by unfold Ga;trivial
theorem Qs(h:HF B.K "measures" Ze)(H_fraction:yA B):Le B:=cV (N:=["p"]) X h cL λnd _ _ _ _ _ _ _ hr=>by unfold yL;trivial
theorem Xr(h:HF B.K "point_at" Xe)(H_point:zG B):Ce B:=cV (N:=["parts","bottom","part"]) X h cL λnd _ _ _ _ _ _ _ hr=>by unfold uB;trivial
theorem My(h:HF B.K "added" Rj)(H_point:zG B):Xi B:=cV (N:=["p","q","numbers"]) X h cL λnd _ _ _ _ _ _ _ hr=>by unfold Ia;trivial
theorem Su(h:HF B.K "turned" Hi):Gg B:=cV (N:=["p"]) X h cL λnd _ _ _ _ _ _ _ hr=>by unfold zM;trivial
theorem Vr(h:HF B.K "lessened" Sf)(C_added:Xi B)(C_turned:Gg B):De B:=cV (N:=["p","q"]) X h cL λnd _ _ _ _ _ _ _ hr=>by unfold yB;trivial
theorem Gr(h:HF B.K "whole_arrow" Vd):Pd B:=cV (N:=["start","end"]) X h cL λnd _ _ _ _ _ _ _ hr=>by unfold xT;trivial
theorem T9(h:HF B.K "dot" Ko):Ao B:=cV (N:=["u","v"]) X h cL λnd _ _ _ _ _ _ _ hr=>by unfold Ec;trivial
theorem Hu(h:HF B.K "normal" Zh):Ig B:=cV (N:=["arrows","u","v"]) X h cL λnd _ _ _ _ _ _ _ hr=>by unfold uU;trivial
theorem Er(h:HF B.K "determinant" Ud)(C_whole_arrow:Pd B)(C_dot:Ao B)(C_normal:Ig B):Qd B:=cV (N:=["points","rows"]) X h cL λnd _ _ _ _ _ _ _ hr=>by unfold tR;trivial
theorem B0(h:HF B.K "side" Pm)(C_sign:vB B)(C_determinant:Qd B):Uk B:=cV (N:=["points"]) X h cL λnd _ _ _ _ _ _ _ hr=>by unfold vT;trivial
theorem Ds(h:HF B.K "replaced" Ff):Je B:=cV (N:=["row","place","value"]) X h cL λnd _ _ _ _ _ _ _ hr=>by unfold yG;trivial
theorem Is(h:HF B.K "standing" Jf)(C_side:Uk B)(C_replaced:Je B):Fe B:=cV (N:=["piece","p"]) X h cL λnd _ _ _ _ _ _ _ hr=>by unfold yJ;trivial
theorem Ms(h:HF B.K "count_at" We)(C_standing:Fe B)(q_OnSide:B.mg "OnSide"=some (.ref (B.cl "OnSide")))(x_OnSide:de B.K (B.cl "OnSide") eY "ValueError.__new__"=true):Ie B:=Oq (N:=["heap","p","count","piece","stand"]) X h cL λnd _ _ _ _ _ _ _ hr=>by unfold yE;trivial
theorem Es(h:HF B.K "in_steps" Of)(C_point_at:Ce B)(C_measures:Le B)(C_divided:Re B):xX B:=cV (N:=["p","grid"]) X h cL λnd _ _ _ _ _ _ _ hr=>by unfold uA;trivial
theorem Iv(h:HF B.K "folded" Aj)(C_in_steps:xX B)(C_lessened:De B):Xf B:=cV (N:=["piece","grid"]) X h cL λnd _ _ _ _ _ _ _ hr=>by unfold zO;trivial
theorem Br(h:HF B.K "in_first_cell" Od):Nd B:=cV (N:=["p"]) X h cL λnd _ _ _ _ _ _ _ hr=>by unfold xS;trivial
theorem Hr(h:HF B.K "spots_over" Zd):Wd B:=cV (N:=["piece","p","rows","k","numbers","longer","row"]) X h cL λnd _ _ _ _ _ _ _ hr=>by unfold xU;trivial
theorem Hv(h:HF B.K "layers" Wh)(C_in_first_cell:Nd B)(C_in_steps:xX B)(C_folded:Xf B)(C_spots_over:Wd B)(H_count_at:Ie B):Og B:=Oq (N:=["heap","grid","p","near","count","piece","pushed","spot"]) X h cL λnd _ _ _ _ _ _ _ hr=>by unfold rJ;trivial
theorem Kz(h:HF B.K "_law_row" Tm):Pk B:=cV (N:=["_law_script","_law_row_here","_law_k","_law_cell","_law_one","_law_two","_law_three"]) X h cL λnd _ _ _ _ _ _ _ hr=>by unfold Za;trivial
theorem Mw(h:HF B.K "_law_take" Ml):lF B:=cV (N:=["_law_row_here","_law_many","_law_found"]) X h cL λnd _ _ _ _ _ _ _ hr=>by unfold vD;trivial
theorem F5(h:HF B.K "_law_gcd" Cn):Dl B:=cV (N:=["_law_one","_law_other"]) X h cL λnd _ _ _ _ _ _ _ hr=>by unfold Cb;trivial
theorem Ws(h:HF B.K "_law_lowest" Rg)(C_wgcd:Dl B):nM B:=cV (N:=["_law_numbers","_law_by","_law_number"]) X h cL λnd _ _ _ _ _ _ _ hr=>by unfold uL;trivial
theorem Du(h:HF B.K "_law_whole" Ei):Dg B:=cV (N:=["_law_number"]) X h cL λnd _ _ _ _ _ _ _ hr=>by unfold uP;trivial
theorem Uy(h:HF B.K "_law_frac" Xk)(C_wlowest:nM B):Pi B:=cV (N:=["_law_top","_law_bottom"]) X h cL λnd _ _ _ _ _ _ _ hr=>by unfold Ta;trivial
theorem Ht(h:HF B.K "_law_joined" Lg)(C_wlowest:nM B):yD B:=cV (N:=["_law_p","_law_q","_law_way","_law_far_here"]) X h cL λnd _ _ _ _ _ _ _ hr=>by unfold zC;trivial
theorem Yz(h:HF B.K "_law_gap" Do):Nk B:=cV (N:=["_law_p","_law_q"]) X h cL λnd _ _ _ _ _ _ _ hr=>by unfold Jb;trivial
theorem Mv(h:HF B.K "_law_cross" Jj):Dh B:=cV (N:=["_law_u","_law_v","_law_x","_law_y","_law_z"]) X h cL λnd _ _ _ _ _ _ _ hr=>by unfold zI;trivial
theorem G6(h:HF B.K "_law_dot" Jm):Xj B:=cV (N:=["_law_u","_law_v"]) X h cL λnd _ _ _ _ _ _ _ hr=>by unfold Db;trivial
theorem Zy(h:HF B.K "_law_turn" El)(C_wdot:Xj B)(C_wcross:Dh B):zZ B:=cV (N:=["_law_ways"]) X h cL λnd _ _ _ _ _ _ _ hr=>by unfold mI;trivial
theorem F4(h:HF B.K "_law_det" An)(C_wturn:zZ B)(C_wgap:Nk B):Ea B:=cV (N:=["_law_points"]) X h cL λnd _ _ _ _ _ _ _ hr=>by unfold pQ;trivial
theorem As(h:HF B.K "_law_simplex" Rf)(C_wdet:Ea B):Ge B:=cV (N:=["_law_points","_law_told"]) X h cL λnd _ _ _ _ _ _ _ hr=>by unfold tX;trivial
theorem Qr(h:HF B.K "_law_raw_turn" Oe)(C_wturn:zZ B):Ae B:=cV (N:=["_law_corners"]) X h cL λnd _ _ _ _ _ _ _ hr=>by unfold tW;trivial
theorem Sz(h:HF B.K "_law_raw" Nm)(C_wtake:lF B)(C_wraw_turn:Ae B):Il B:=cV (N:=["_law_row_here","_law_dims","_law_wide","_law_corners","_law_k"]) X h cL λnd _ _ _ _ _ _ _ hr=>by unfold Xa;trivial
theorem Jx(h:HF B.K "_law_kuhn" Ll)(C_wtake:lF B):Ri B:=mkL (N:=["_law_row_here","_law_rest","_law_corner","_law_corners","_law_k","_law_m"]) X h cL λnd _ _ _ _ _ _ _ hr=>by unfold vI;trivial
theorem Mr(h:HF B.K "_law_raw_heap" Pe)(C_wtake:lF B)(C_wraw:Il B)(C_wkuhn:Ri B):Xd B:=cV (N:=["_law_row_here","_law_dims","_law_many","_law_heap","_law_k","_law_kind"]) X h cL λnd _ _ _ _ _ _ _ hr=>by unfold xW;trivial
theorem G8(h:HF B.K "_law_far" Mn)(C_wtake:lF B)(C_wlowest:nM B):Ak B:=cV (N:=["_law_row_here","_law_dims","_law_kind","_law_wide","_law_under","_law_far_here"]) X h cL λnd _ _ _ _ _ _ _ hr=>by unfold Ab;trivial
theorem Ps(h:HF B.K "_law_stretch" Df)(C_wtake:lF B)(C_wfrac:Pi B):Me B:=cV (N:=["_law_row_here","_law_dims","_law_told","_law_k","_law_kind"]) X h cL λnd _ _ _ _ _ _ _ hr=>by unfold yK;trivial
theorem Xw(h:HF B.K "_law_spot" Sl)(C_wlowest:nM B):zL B:=cV (N:=["_law_corner","_law_stretch_here","_law_under","_law_part","_law_far_here"]) X h cL λnd _ _ _ _ _ _ _ hr=>by unfold vE;trivial
theorem Ix(h:HF B.K "_law_laid" Zl)(C_wfar:Ak B)(C_wsimplex:Ge B)(C_wjoined:yD B)(C_wspot:zL B):Oi B:=cV (N:=["_law_row_here","_law_heap","_law_stretch_here","_law_told","_law_corners","_law_far_here"]) X h cL λnd _ _ _ _ _ _ _ hr=>by unfold Aa;trivial
theorem Us(h:HF B.K "_law_handed" Hh)(C_wtake:lF B):Af B:=cV (N:=["_law_row_here","_law_rows"]) X h cL λnd _ _ _ _ _ _ _ hr=>by unfold uI;trivial
theorem Nr(h:HF B.K "_law_standing" He)(C_wdet:Ea B):Yd B:=cV (N:=["_law_points","_law_p","_law_found","_law_whole_here","_law_k","_law_one"]) X h cL λnd _ _ _ _ _ _ _ hr=>by unfold xZ;trivial
theorem Mt(h:HF B.K "_law_arrows" Vg):Ye B:=cV (N:=["_law_points","_law_p","_law_rows","_law_k","_law_low","_law_high","_law_longer","_law_one","_law_many"]) X h cL λnd _ _ _ _ _ _ _ hr=>by unfold yR;trivial
theorem Ot(h:HF B.K "_law_layers" Jg)(C_warrows:Ye B)(C_wstanding:Yd B)(C_wjoined:yD B):Qe B:=cV (N:=["_law_corners","_law_p","_law_points","_law_found","_law_far_here","_law_place"]) X h cL λnd _ _ _ _ _ _ _ hr=>by unfold yV;trivial
theorem Bz(h:HF B.K "_law_over" Zj)(C_wtake:lF B)(C_wlowest:nM B):Yh B:=cV (N:=["_law_row_here","_law_dims","_law_under","_law_primes","_law_prime","_law_far_here"]) X h cL λnd _ _ _ _ _ _ _ hr=>by unfold vF;trivial
theorem Bv(h:HF B.K "_law_asked" Qh)(H_layers:Og B)(q_HallError:B.mg "HallError"=some (.ref (B.cl "HallError")))(x_HallError:de B.K (B.cl "HallError") eY "ValueError.__new__"=true)(q_NoBox:B.mg "NoBox"=some (.ref (B.cl "NoBox")))(x_NoBox:de B.K (B.cl "NoBox") eY "ValueError.__new__"=true)(q_NotSame:B.mg "NotSame"=some (.ref (B.cl "NotSame")))(x_NotSame:de B.K (B.cl "NotSame") eY "ValueError.__new__"=true)(q_OnSide:B.mg "OnSide"=some (.ref (B.cl "OnSide")))(x_OnSide:de B.K (B.cl "OnSide") eY "ValueError.__new__"=true)(q_OtherSize:B.mg "OtherSize"=some (.ref (B.cl "OtherSize")))(x_OtherSize:de B.K (B.cl "OtherSize") eY "ValueError.__new__"=true)(Z_OnSide:lO B.K (B.cl "OnSide"))(kt_OnSide_HallError:gg B.K (.ref (B.cl "OnSide")) (.ref (B.cl "HallError"))=some true)(kt_OnSide_NoBox:gg B.K (.ref (B.cl "OnSide")) (.ref (B.cl "NoBox"))=some false)(kt_OnSide_NotSame:gg B.K (.ref (B.cl "OnSide")) (.ref (B.cl "NotSame"))=some false)(kt_OnSide_OtherSize:gg B.K (.ref (B.cl "OnSide")) (.ref (B.cl "OtherSize"))=some false):Eh B:=cV (N:=["_law_heap","_law_grid","_law_p","_law_found","e"]) X h cL λnd _ _ _ _ _ _ _ hr=>by obtain⟨a_layers,d_layers,GX_layers,G_layers,rJ,k_layers,n_layers⟩:=H_layers;have m_isinstance:=m.m_isinstance;exact(yX (Sa (i:=3) nd rfl (gj rfl) Go) (yX (Mx (i:=4) (jv:=3) (nn:=5) (c:="OnSide") (up:=λρ=>(((ρ.set 4 none).set 3 (some (.pv (.tup [.int 1,.bl true])))).set 4 none)) rfl nd rfl rfl rfl q_OnSide x_OnSide (Rz rfl Fo (F8 rfl GX_layers (hr.mono (by decide)) rfl n_layers k_layers rJ .nil Dv.nil (uN (sF 0) (uN (sF 1) (uN (sF 2) Xl))))) rfl (gj rfl) (λy oe hc=>(Da (Km (i:=3) nd rfl (gj rfl) (Hb (gX Va (gX (Jo (rK (Vx Z_OnSide bo hc) rfl m_isinstance ue (gX (pv 4) (gX (vH (v:=.ref (B.cl "HallError")) rfl q_HallError rfl) kR))) (R8 (Im (rK (Gv Z_OnSide bo hc) rfl m_isinstance ue (gX (pv 4) (gX (Hb (gX (vH (v:=.ref (B.cl "NotSame")) rfl q_NotSame rfl) (gX (vH (v:=.ref (B.cl "NoBox")) rfl q_NoBox rfl) (gX (vH (v:=.ref (B.cl "OtherSize")) rfl q_OtherSize rfl) kR)))) kR)))))) kR)))))) (λy oe D σ H p S ρ sm hl ev k=>by match σ,hl,ev with |[s0,s1,s2,s3,s4],_,ev=>exact⟨_,rfl,_,true,.inr ⟨_,rfl,kt_OnSide_HallError⟩,rfl,true,rfl,abX ⟨_,rfl,(by show 3<=t6;decide),λt0 ht0=>⟨_,[(B.cl "NotSame"),(B.cl "NoBox"),(B.cl "OtherSize")],false,rfl,dA.of fR,(zV kt_OnSide_NotSame (zV kt_OnSide_NoBox (zV kt_OnSide_OtherSize rfl))),false,rfl,(by show 2<=t6;decide),λt ht=>k _ _ (λa o e=>fS ht a o (fS ht0 a o e)) ((dJ.setT (vs:=[.int 1,.bl true]) (sm.ofSame (fS ht0)) ((sm.same (fS ht0)).repE (ev.forget 4 (some (.ref y)))) ht (by decide) (by decide) 3).forget 4 none)⟩⟩⟩)) (Zi (Zk (sF 3)))))
theorem P8{f:Addr}{fd:br}(F:iO B.K "law" "law" mS f fd)(C_wrow:Pk B)(C_wtake:lF B)(C_wstretch:Me B)(C_wraw_heap:Xd B)(C_whanded:Af B)(C_wlaid:Oi B)(C_wover:Yh B)(C_wlayers:Qe B)(C_wspot:zL B)(C_wlowest:nM B)(C_wasked:Eh B)(C_wwhole:Dg B):dQ B.P B.w B.K B.mg B.base fH 9 f fd ["_law_script"] (kH B.K B.cl Fc):=mkR (N:=["_law_script","_law_row_here","_law_dims","_law_stretch_here","_law_raw_here","_law_heap","_law_k","_law_p","_law_parts","_law_due","_law_there","_law_found"]) F cL λnd _ _ _ _ _ _ _ hr=>by unfold Ac;trivial
end
local macro_rules
 | `(tactic|simp! [$l,*] $[$loc:location]?)=>`(tactic|simp[gZ,aI,cK,bH,sV,iM,qM,wH,abn,mIf,aC,bK,mR,mN,aB,aA,mC,aD,bQ.bind,sM,kE,mW,pX,iC,rd,mX,iP,eI,dL,eC,bO,sQ,kK,cN.of,bF,aao,dE,dS,aP,mO,jT,aQ,iJ,pS,oK,fM,lI,cZ,jF,frz,gF,$l,*] $[$loc]?)
theorem Ii(S:aG)(k:Nat)(o:SO):(S.set k o).take S.length=S.set k o:=yl (by simp)
def fA(S:aG)(k:Nat)(ns:AS):Prop:=S[k]?=some (.lst (ns.map .int))
theorem fA.lt{S:aG}{k:Nat}{ns:AS}(h:fA S k ns):k<S.length:=(cq.mp h).1
theorem fA.set{S:aG}{k:Nat}{ns:AS}(h:fA S k ns)(ms:AS):fA (S.set k (.lst (ms.map .int))) k ms:=gf h.lt
theorem Hf{r:bP}{k:Nat}{m:AV}:∀(ns:AS)(S:aG),fA S k ns->∃n ns',eA (iM (bH (aC fB (mR eI (aB (aA 0) aD)) (mC (.int 0)))) (bH (aC cZ (aC aE (aA 0) (mC (.int 0))) (mC (.int 0))))) (dS (nA (aA 0) (aB (mC (.int 0)) aD))) n (some (.ref k)::some m::r) S=.nx (some (.ref k)::some m::r) (S.set k (.lst (ns'.map .int)))/\ns'.length<=ns.length/\(ns'=[]\/∃i t,ns'=i::t/\i≠0)
 |[],S,h=>by
  refine⟨1,[],?_,ar _,.inl rfl⟩;have h':S[k]?=some (.lst []):=h;have e:S.set k (.lst (([]:AS).map .int))=S:=qe λi=>by
   by_cases q:k=i
   .subst q;rw[gf h.lt,h'];rfl
   .rw[gm q]
  rw[e];simp[eA,iM,bH,aC,mR,aB,aA,mC,aD,bQ.bind,mW,iC,rd,h',iP,eI,kE,fB,i2,kK,cN.of]
 |i::t,S,h=>by
  have h':S[k]?=some (.lst (.int i::t.map .int)):=h
  by_cases hi:i=0
  .subst hi
   have hr:fA (S.set k (.lst (t.map .int))) k t:=h.set t;obtain⟨n,ns',e,l,q⟩:=Hf (r:=r) (m:=m) t _ hr;refine⟨n+1,ns',?_,by simp;omega,q⟩;rw[lh]at e;rw[<-e];have hl:(0:Int)<(t.length:Int)+1:=by omega
   simp[eA,iM,bH,aC,mR,aB,aA,mC,aD,bQ.bind,mW,iC,rd,h',iP,eI,kE,fB,i2,kK,cN.of,aE,aV,aW,cZ,aO,dS,nA,eZ,oI,seqIndex?,hl]
  .refine⟨1,i::t,?_,ar _,.inr ⟨i,t,rfl,hi⟩⟩
   have e:S.set k (.lst ((i::t).map .int))=S:=qe λj=>by
    by_cases q:k=j
    .subst q;rw[gf h.lt,h'];rfl
    .rw[gm q]
   rw[e];have hl:(0:Int)<(t.length:Int)+1:=by omega
   simp[eA,iM,bH,aC,mR,aB,aA,mC,aD,bQ.bind,mW,iC,rd,h',iP,eI,kE,fB,i2,kK,cN.of,aE,aV,aW,cZ,aO,hl,hi]
theorem iZ{S:aG}{k:Nat}{ns:AS}{m:Int}(h:fA S k ns)(hm:0<m)(b:Bd 8000 m):∃(v:Int)(ns':AS),cQ [.ref k,.pv (.int m)] S=.ok (.pv (.int v)) (S.set k (.lst (ns'.map .int)))/\0<=v/\v<m/\ns'.length<=ns.length:=by
 obtain⟨n,ns',e,l,q⟩:=Hf (r:=[none]) (m:=.pv (.int m)) ns S h;have hr:=h.set ns';have hl1:(S.set k (.lst (ns'.map .int))).length=S.length:=by simp
 have hss:∀x,(S.set k (.lst (ns'.map .int))).set k x=S.set k x:=λx=>lh ..;generalize hS1:S.set k (.lst (ns'.map .int))=S1 at e hr hl1 hss;have w:=yY e (by simp);rcases q with rfl |⟨i,t,rfl,hi⟩
 .refine⟨0,[],?_,oy 0,hm,je _⟩
  rw[hS1];have hr':S1[k]?=some (.lst []):=hr;have tk:List.take S.length S1=S1:=yl (by omega);unfold cQ aR vD;simp[gZ,aI,w,cK,bH,aC,mR,aB,aA,mC,aD,bQ.bind,mW,iC,rd,hr',iP,eI,kE,cZ,aO,kK,cN.of,bF,mO,jT,tk]
 .have hr':S1[k]?=some (.lst (.int i::t.map .int)):=hr
  refine⟨i.fmod m,i.fdiv m::t,?_,qx i hm,ym i hm,l⟩;rw[<-hss];have tk:∀x,List.take S.length (S1.set k x)=S1.set k x:=λx=>yl (by simp;omega);have hl:¬((t.length:Int)+1=0):=by omega
  have hq:oH i m:=⟨by omega,b⟩;have hm0:m≠0:=by omega
  unfold cQ aR vD;simp[gZ,aI,w,cK,bH,aC,mR,aB,aA,mC,aD,bQ.bind,mW,iC,rd,hr',iP,eI,kE,cZ,aO,kK,cN.of,bF,mO,jT,tk,dE,hl,aP,fK,dW,i2,cI,aE,aV,aW,hm0,hq,nZ,eZ,qA]
theorem aK(i j:Int):fB (.int i) (.int j)=some (.bl (decide (j<i))):=rfl
theorem aN(i j:Int):kM (.int i) (.int j)=some (.bl (decide (i<j))):=rfl
theorem aL(i j:Int):qL (.int i) (.int j)=some (.bl (decide (j<=i))):=rfl
theorem aM(i j:Int):fLe (.int i) (.int j)=some (.bl (decide (i<=j))):=rfl
theorem aJ(i j:Int):dG (.int i) (.int j)=some (.int (i-j)):=rfl
theorem iS{i j:Int}(h:oF i j):aS (.int i) (.int j)=some (.int (i*j)):=by
 simp[aS,i2,cI,h]
theorem jL{i j:Int}(h:oH i j):dW (.int i) (.int j)=some (.int (i.fdiv j)):=by
 simp[dW,i2,cI,h]
theorem lG{i j:Int}(h:j≠0):fK (.int i) (.int j)=some (.int (i.fmod j)):=by
 simp[fK,i2,cI,h]
theorem uY{i j:Int}(h:xB i j):hJ (.int i) (.int j)=some (.int (i^j.toNat)):=by
 simp[hJ,i2,cI,h]
theorem vG(n:Int)(S:aG):nW [.pv (.int n)] S=.ok (.pv (.int (sg n))) S:=by
 unfold nW aR Wa sg
 by_cases h1:0<n
 .simp[gZ,aI,cK,bH,aC,aA,mC,bQ.bind,kE,rd,iP,fB,i2,kK,cN.of,bF,mO,jT,h1]
 .by_cases h2:n<0
  .simp[gZ,aI,cK,bH,aC,aA,mC,bQ.bind,kE,rd,iP,fB,kM,i2,kK,cN.of,bF,mO,jT,h1,h2,dE,bK,sM,bO]
  .simp[gZ,aI,cK,bH,aC,aA,mC,bQ.bind,kE,rd,iP,fB,kM,i2,kK,cN.of,bF,mO,jT,h1,h2,dE,bK,sM,bO]
theorem Td(S:aG):∀(m:Nat)(a b:Int)(x:BC),b.natAbs<=m->∃(n:Nat)(g:Int)(x':BC),eA (bH (aC jF (aA 1) (mC (.int 0)))) (aI (aP 2 (aC fK (aA 0) (aA 1))) (aI (aP 0 (aA 1)) (aP 1 (aA 2)))) n [some (.pv (.int a)),some (.pv (.int b)),x] S=.nx [some (.pv (.int g)),some (.pv (.int 0)),x'] S/\g.natAbs=ce a b
 |0,a,b,x,h=>by
  have hb:b=0:=by omega
  subst hb;refine⟨1,a,x,?_,by simp⟩;simp! [eA,aE,aV,aW,aO,aK,aN,aL,aM,aF,aJ]
 |m+1,a,b,x,h=>by
  by_cases hb:b=0
  .subst hb
   refine⟨1,a,x,?_,by simp⟩;simp! [eA,aE,aV,aW,aO,aK,aN,aL,aM,aF,aJ]
  .have hl:=Jh a hb
   obtain⟨n,g,x',e,q⟩:=Td S m b (a.fmod b) (some (.pv (.int (a.fmod b)))) (by omega);refine⟨n+1,g,x',?_,by rw[q,Vi]⟩;rw[<-e];simp! [eA,aE,aV,aW,aO,aK,aN,aL,aM,aF,aJ,lG hb,hb]
theorem Te(a b:Int)(S:aG):pG [.pv (.int a),.pv (.int b)] S=.ok (.pv (.int (ce a b:Nat))) S:=by
 obtain⟨n,g,x',e,q⟩:=Td S b.natAbs a b none (ar _);have w:=yY e (by simp);unfold pG aR yP;have hg:(if g<0 then-g else g)=((ce a b:Nat):Int):=by rw[<-q];exact Ib g
 simp! [aE,aV,aW,aO,aK,aN,aL,aM,aF,aJ,w,hg]
theorem Ah(S:aG):∀(m:Nat)(a b:Int),0<=a->0<=b->b.natAbs<=m->∃(n:Nat),eA (bH (aC fB (aA 1) (mC (.int 0)))) (sU 0 1 (aB (aA 1) (aB (aC fK (aA 0) (aA 1)) aD))) n [some (.pv (.int a)),some (.pv (.int b))] S=.nx [some (.pv (.int (ce a b:Nat))),some (.pv (.int 0))] S
 |0,a,b,ha,hb,h=>by
  have hb:b=0:=by omega
  subst hb;have ea:((ce a 0:Nat):Int)=a:=by simp;omega
  refine⟨1,?_⟩;rw[ea];simp! [eA,aE,aV,aW,aO,aK,aN,aL,aM,aF,aJ]
 |m+1,a,b,ha,hb,h=>by
  by_cases h0:b=0
  .subst h0
   have ea:((ce a 0:Nat):Int)=a:=by simp;omega
   refine⟨1,?_⟩;rw[ea];simp! [eA,aE,aV,aW,aO,aK,aN,aL,aM,aF,aJ]
  .have hl:=Jh a h0
   have hp:0<b:=by omega
   obtain⟨n,e⟩:=Ah S m b (a.fmod b) hb (qx a hp) (by omega);refine⟨n+1,?_⟩;rw[<-Vi,<-e];simp! [eA,aE,aV,aW,aO,aK,aN,aL,aM,aF,aJ,lG h0,hp,sU]
theorem V9(a b:Int)(S:aG):sD [.pv (.int a),.pv (.int b)] S=.ok (.pv (.int (ce a b:Nat))) S:=by
 have ha:0<=(if a<0 then-a else a):=by split<;>omega
 have hb:0<=(if b<0 then-b else b):=by split<;>omega
 obtain⟨n,e⟩:=Ah S _ _ _ ha hb (ar _);have w:=yY e (by simp);have eg:ce (if a<0 then-a else a) (if b<0 then-b else b)=ce a b:=by
  rw[Ib,Ib];simp[ce]
 rw[eg]at w;unfold sD aR Cb;simp! [aE,aV,aW,aO,aK,aN,aL,aM,aF,aJ,w]
theorem zT(S:aG)(v2:BC):∀(ns:AS)(g:Int)(a:AV),∃v',cJ [] (gN 2) (aP 1 (aQ sD [] (aB (aA 1) (aB (aA 2) aD)))) (ns.map .int) [some a,some (.pv (.int g)),v2] S=.nx [some a,some (.pv (.int (gl ns g))),v'] S
 |[],g,a=>⟨v2,fF⟩
 |n::ns,g,a=>by
  obtain⟨v',e⟩:=zT S (some (.pv (.int n))) ns (ce g n:Nat) a;refine⟨v',?_⟩;show cJ [] _ _ (.int n::ns.map .int) _ S=_;rw[dY];simp! [gN,aE,aV,aW,aO,aK,aN,aL,aM,aF,aJ,V9];exact e
theorem uQ(S:aG)(g:Int)(hg:g≠0)(b:Bd 8000 g):∀(ns:AS)(x:BC),bZ [] (gN 0) (aC dW (aA 0) (aA 1)) (ns.map .int) [x,some (.pv (.int g))] S=.ok ((ns.map λn=>n.fdiv g).map .int) S
 |[],x=>dZ
 |n::ns,x=>by
  have ih:=uQ S g hg b ns (some (.pv (.int n)));show bZ [] _ _ (.int n::ns.map .int) _ S=_;rw[eE];simp! [gN,aE,aV,aW,aO,aK,aN,aL,aM,aF,aJ,jL (show oH n g from⟨hg,b⟩),ih]
theorem nQ(ns:AS)(S:aG)(hb:∀n∈ns,Bd 8000 n):fW [.pv (.lst (ns.map .int))] S=.ok (.pv (.tup ((low ns).map .int))) S:=by
 obtain⟨v',e⟩:=zT S none ns 0 (.pv (.lst (ns.map .int)));unfold fW aR uL
 by_cases h:gl ns 0=0
 .have el:low ns=ns:=by unfold low;rw[if_pos h]
  simp! [aE,aV,aW,aO,aK,aN,aL,aM,aF,aJ,bI,bD,bT,e,h,el]
 .have el:low ns=ns.map λn=>n.fdiv (gl ns 0):=by
   unfold low;rw[if_neg h];exact ij λn hn=>(ph ((jP ns 0).2 n hn)).symm
  have bg:Bd 8000 (gl ns 0):=wB (Bd.of (n:=0) (by simp) (uk 8000)) hb;have ec:=uQ S (gl ns 0) h bg ns none;simp! [aE,aV,aW,aO,aK,aN,aL,aM,aF,aJ,bI,bD,bT,e,h,el,bB,cD,ec]
theorem lJ(i:Int){j:Int}(h1:-(2^64)<j)(h2:j<2^64):aS (.int i) (.int j)=some (.int (i*j)):=iS (.inl (.inr ⟨h1,h2⟩))
theorem Yq:hJ (.int 10) (.int 18)=some (.int 1000000000000000000):=uY (i:=10) (j:=18) ⟨by decide,by decide,by decide⟩
theorem zK{k:Nat}{a:AV}:∀(cs:AS)(n:Nat)(acc:AS)(S:aG)(v2 v3 v4 v5 v6:BC),fA S k acc->acc.length+cs.length<=63->n+cs.length<=63->∃(acc':AS)(w2 w3 w4 w5 w6:BC),cJ [] (gT 2 (dM (gN 2) (dM (gN 3) fG))) ((cK (bH (aC qL (aA 3) (aC hJ (mC (.int 10)) (mC (.int 18))))) (dS (dI (aA 1) (aB (aC dG (aA 3) (aC hJ (mC (.int 10)) (mC (.int 18)))) aD))) (aI (aP 4 (aC fK (aC aS (aC aF (aC aF (aC aF (aA 3) (aC aS (aC aS (mC (.int 7)) (aA 2)) (aA 2))) (aC aS (mC (.int 13)) (aA 2))) (mC (.int 5))) (mC (.int 48271))) (mC (.int 2147483647))))
 (aI (aP 5 (aC fK (aC aS (aC aF (aC aF (aC aF (aA 3) (aC aS (aC aS (mC (.int 11)) (aA 2)) (aA 2))) (aC aS (mC (.int 17)) (aA 2))) (mC (.int 3))) (mC (.int 40692))) (mC (.int 2147483399))))
 (aI (aP 6 (aC fK (aC aS (aC aF (aC aF (aC aF (aA 3) (aC aS (aC aS (mC (.int 5)) (aA 2)) (aA 2))) (aC aS (mC (.int 29)) (aA 2))) (mC (.int 8))) (mC (.int 39373))) (mC (.int 2147483587))))
 (aI (aP 4 (aC fK (aC aS (aA 4) (mC (.int 52021))) (mC (.int 1000000007))))
 (aI (aP 5 (aC fK (aC aS (aA 5) (mC (.int 30011))) (mC (.int 998244353))))
 (aI (aP 6 (aC fK (aC aS (aA 6) (mC (.int 45989))) (mC (.int 1000000009))))
 (dS (dI (aA 1) (aB (aC aF (aC aS (aC aF (aC aS (aA 4) (mC (.int 998244353))) (aA 5)) (mC (.int 1000000009))) (aA 6)) aD))))))))))) (iT n (cs.map .int)) [some a,some (.ref k),v2,v3,v4,v5,v6] S=.nx [some a,some (.ref k),w2,w3,w4,w5,w6] (S.set k (.lst (acc'.map .int)))/\acc'.length<=63
 |[],n,acc,S,v2,v3,v4,v5,v6,h,hl,_=>by
  refine⟨acc,v2,v3,v4,v5,v6,?_,by simpa using hl⟩;have e:S.set k (.lst (acc.map .int))=S:=qe λj=>by
   by_cases q:k=j
   .subst q;rw[gf h.lt];exact h.symm
   .rw[gm q]
  rw[e];exact fF
 |x::cs,n,acc,S,v2,v3,v4,v5,v6,h,hl,hn=>by
  simp only[cv]at hl hn;have h':S[k]?=some (.lst (acc.map .int)):=h;have hlen:acc.length<16777216:=by omega
  have hk1:-(2^64)<(n:Int):=by omega
  have hk2:(n:Int)<2^64:=by omega
  by_cases c:(1000000000000000000:Int)<=x
  .obtain⟨acc',w2,w3,w4,w5,w6,e,q⟩:=zK (k:=k) (a:=a) cs (n+1) (acc++[x-1000000000000000000]) (S.set k (.lst ((acc++[x-1000000000000000000]).map .int))) (some (.pv (.int n))) (some (.pv (.int x))) v4 v5 v6 (h.set _) (by simp;omega) (by omega)
   refine⟨acc',w2,w3,w4,w5,w6,?_,q⟩;rw[lh]at e;rw[<-e];show cJ [] _ _ (.tup [.int n,.int x]::iT (n+1) (cs.map .int)) _ S=_;rw[dY];simp! [gT,dM,fG,gN,aE,aV,aW,aO,aK,aN,aL,aM,aF,aJ,Yq,c,dI,eZ,iD,h',hlen]
  .obtain⟨acc',w2,w3,w4,w5,w6,e,q⟩:=zK (k:=k) (a:=a) cs (n+1) (acc++[((((x+7*n*n+13*n+5)*48271).fmod 2147483647*52021).fmod 1000000007*998244353+(((x+11*n*n+17*n+3)*40692).fmod 2147483399*30011).fmod 998244353)*1000000009+(((x+5*n*n+29*n+8)*39373).fmod 2147483587*45989).fmod 1000000009]) (S.set k (.lst ((acc++[((((x+7*n*n+13*n+5)*48271).fmod 2147483647*52021).fmod 1000000007*998244353+(((x+11*n*n+17*n+3)*40692).fmod 2147483399*30011).fmod 998244353)*1000000009+(((x+5*n*n+29*n+8)*39373).fmod 2147483587*45989).fmod 1000000009]).map .int))) (some (.pv (.int n))) (some (.pv (.int x))) (some (.pv (.int ((((x+7*n*n+13*n+5)*48271).fmod 2147483647*52021).fmod 1000000007)))) (some (.pv (.int ((((x+11*n*n+17*n+3)*40692).fmod 2147483399*30011).fmod 998244353)))) (some (.pv (.int ((((x+5*n*n+29*n+8)*39373).fmod 2147483587*45989).fmod 1000000009)))) (h.set _) (by simp;omega) (by omega)
   refine⟨acc',w2,w3,w4,w5,w6,?_,q⟩;rw[lh]at e;rw[<-e];show cJ [] _ _ (.tup [.int n,.int x]::iT (n+1) (cs.map .int)) _ S=_;rw[dY];simp! [gT,dM,fG,gN,aE,aV,aW,aO,aK,aN,aL,aM,aF,aJ,Yq,c,dI,eZ,iD,h',hlen,lJ _ hk1 hk2,lJ _ (show-(2^64)<(48271:Int) by decide) (by decide),lJ _ (show-(2^64)<(40692:Int) by decide) (by decide),lJ _ (show-(2^64)<(39373:Int) by decide) (by decide),lJ _ (show-(2^64)<(52021:Int) by decide) (by decide),lJ _ (show-(2^64)<(30011:Int) by decide) (by decide),lJ _ (show-(2^64)<(45989:Int) by decide) (by decide),lJ _ (show-(2^64)<(998244353:Int) by decide) (by decide),lJ _ (show-(2^64)<(1000000009:Int) by decide) (by decide),lG (show(2147483647:Int)≠0 by decide),lG (show(2147483399:Int)≠0 by decide),lG (show(2147483587:Int)≠0 by decide),lG (show(1000000007:Int)≠0 by decide),lG (show(998244353:Int)≠0 by decide),lG (show(1000000009:Int)≠0 by decide)]
theorem T5(ns:AS)(S:aG)(h:ns.length<=63):∃ms:AS,pW [.pv (.lst (ns.map .int))] S=.ok (.ref S.length) (S++[.lst (ms.map .int)])/\ms.length<=63:=by
 have hr:fA (S++[.lst []]) S.length []:=by unfold fA;simp
 obtain⟨ms,w2,w3,w4,w5,w6,e,q⟩:=zK (a:=.pv (.lst (ns.map .int))) ns 0 [] (S++[.lst []]) none none none none none hr (by simpa using h) (by simpa using h);have ec:jB (ns.map .int) none (some 63)=ns.map .int:=by
  unfold jB;have e1:HT.sIx (ns.map PV.int).length 0 none=0:=rfl;have e2:HT.sIx (ns.map PV.int).length (ns.map PV.int).length (some 63)=(ns.map PV.int).length:=by
   have:=HT.sIx_nat (ns.map PV.int).length (ns.map PV.int).length 63;rw[show((63:Nat):Int)=63 from rfl]at this;rw[this,aj];omega
  rw[e1,e2,List.drop_zero,Nat.sub_zero,yb]
 refine⟨ms,?_,q⟩;have es:(S++[SO.lst []]).set S.length (.lst (ms.map .int))=S++[.lst (ms.map .int)]:=by simp
 rw[es]at e;unfold pW aR Za;simp! [aE,aV,aW,aO,aK,aN,aL,aM,aF,aJ,bI,eJ,jU,wD,cF,cE,cG,eN,gB,Ob,ec,e]
theorem Ol{L:AS}(h:gl L 0=1):low L=L:=by
 unfold low;rw[h,if_neg (by decide)]
 conv=>rhs;rw[<-tf L]
 exact ij λn _=>Int.ediv_one n
def PT(L:AS)(b:Int):AS:=(low (L++[b])).map (sg b*·)
theorem abo{L:AS}{b:Int}(hb:b≠0):gl (L++[b]) 0≠0:=mV (jK L b) hb
theorem Zn{L:AS}{b:Int}(hb:0<b):PT L b=low (L++[b]):=by
 unfold PT sg;rw[if_pos hb]
 conv=>rhs;rw[<-tf (low (L++[b]))]
 exact ij λn _=>iu n
theorem Oh(S:aG)(v2:BC):∀(ns:AS)(g:Int)(a:AV),∃v',cJ [] (gN 2) (aP 1 (aQ pG [] (aB (aA 1) (aB (aA 2) aD)))) (ns.map .int) [some a,some (.pv (.int g)),v2] S=.nx [some a,some (.pv (.int (gl ns g))),v'] S
 |[],g,a=>⟨v2,fF⟩
 |n::ns,g,a=>by
  obtain⟨v',e⟩:=Oh S (some (.pv (.int n))) ns (ce g n:Nat) a;refine⟨v',?_⟩;show cJ [] _ _ (.int n::ns.map .int) _ S=_;rw[dY];simp! [gN,aE,aV,aW,aO,aK,aN,aL,aM,aF,aJ,Te];exact e
theorem Qt(ns:AS)(S:aG)(hb:∀n∈ns,Bd 8000 n)(h:gl ns 0≠0):uE [.pv (.lst (ns.map .int))] S=.ok (.pv (.lst ((low ns).map .int))) S:=by
 obtain⟨v',e⟩:=Oh S none ns 0 (.pv (.lst (ns.map .int)));have el:low ns=ns.map λn=>n.fdiv (gl ns 0):=by
  unfold low;rw[if_neg h];exact ij λn hn=>(ph ((jP ns 0).2 n hn)).symm
 have bg:Bd 8000 (gl ns 0):=wB (Bd.of (n:=0) (by simp) (uk 8000)) hb;have ec:=uQ S (gl ns 0) h bg ns none;unfold uE aR zB;simp! [aE,aV,aW,aO,aK,aN,aL,aM,aF,aJ,bI,bD,bT,e,h,el,bB,cD,ec]
theorem Pj(S:aG)(b:Int):∀(ns:AS)(x:BC),bZ [] (gN 0) (aC aS (aQ nW [] (aB (aA 1) aD)) (aA 0)) (ns.map .int) [x,some (.pv (.int b))] S=.ok ((ns.map (sg b*·)).map .int) S
 |[],x=>dZ
 |n::ns,x=>by
  have ih:=Pj S b ns (some (.pv (.int n)));have hm:aS (.int (sg b)) (.int n)=some (.int (sg b*n)):=iS (.inl (.inl (Jy b)));show bZ [] _ _ (.int n::ns.map .int) _ S=_;rw[eE];simp! [gN,aE,aV,aW,aO,aK,aN,aL,aM,aF,aJ,vG,hm,ih]
theorem Fi{w:PV}(L:AS)(b:Int)(S:aG)(hw:w=.lst (L.map .int)\/w=.tup (L.map .int))(hL:∀n∈L,Bd 8000 n)(bb:Bd 8000 b)(hb:b≠0)(hl:L.length<=100):mH [.pv w,.pv (.int b)] S=.ok (.pv (.tup ((PT L b).map .int))) S:=by
 have e1:=Qt (L++[b]) S (λn hn=>by
  rcases ck.mp hn with z |z
  .exact hL n z
  .have:n=b:=by simpa using z
   rw[this];exact bb) (abo hb)
 have e2:=Pj S b (low (L++[b])) none;have hz:L.length+1<=16777216:=by omega
 simp only[dz,av,cg]at e1;unfold PT mH aR Ga;rcases hw with rfl |rfl<;>simp! [aE,aV,aW,aO,aK,aN,aL,aM,aF,aJ,hb,hz,e1,bD,bT,bB,cD,e2]
theorem Ww(zs:AS)(z:Int):jB ((zs++[z]).map .int) none (some (-1))=zs.map .int:=by
 unfold jB;have e1:HT.sIx ((zs++[z]).map PV.int).length 0 none=0:=rfl;have e2:HT.sIx ((zs++[z]).map PV.int).length ((zs++[z]).map PV.int).length (some (-1))=zs.length:=by
  rw[aj,bj];exact zJ zs.length _
 rw[e1,e2];simp
theorem Iu(zs:AS)(z:Int):¬(HT.sIx ((zs++[z]).map PV.int).length 0 none=0/\HT.sIx ((zs++[z]).map PV.int).length ((zs++[z]).map PV.int).length (some (-1))=((zs++[z]).map PV.int).length):=by
 rintro⟨_,e⟩
 have e2:HT.sIx ((zs++[z]).map PV.int).length ((zs++[z]).map PV.int).length (some (-1))=zs.length:=by
  rw[aj,bj];exact zJ zs.length _
 rw[e2,aj,bj]at e;simp at e
theorem nU(zs:AS)(z:Int):gB (.tup ((zs++[z]).map .int)) none (some (-1))=some (.tup (zs.map .int)):=by
 unfold gB;dsimp only;rw[if_neg (Iu zs z),Ww]
theorem iY(zs:AS)(z:Int):aE (.tup ((zs++[z]).map .int)) (.int (-1))=some (.int z):=by
 show aV ((zs++[z]).map PV.int) (-1)=_;rw[dz];exact Dz _ _
theorem kY{m:Int}(h0:0<=m)(h:m<1024):Bd 8000 m:=Bd.of (n:=1023) (by omega) (df (show 1023<2^10 by decide) (a7 (by decide) (by decide)))
theorem bC(n:Nat)(a b:Int):aO n (.int a) (.int b)=some (a==b):=by cases n<;>rfl
theorem mB{a b:Int}(h:Bd 2000 a)(g:Bd 2000 b):aS (.int a) (.int b)=some (.int (a*b)):=iS (.inr ⟨h.mono (by decide),g.mono (by decide)⟩)
structure Pt(n:Nat)(xs:AS)(w:Int):Prop where
 len:xs.length=n
 pos:0<w
 low:low (xs++[w])=xs++[w]
 bx:∀x∈xs,Bd 300 x
 bw:Bd 300 w
theorem Th(S:aG)(PL QL:BA)(w v:Int)(hp:aE (.tup PL) (.int (-1))=some (.int w))(hq:aE (.tup QL) (.int (-1))=some (.int v))(bw:Bd 2000 w)(bv:Bd 2000 v):∀(xs ys:AS)(x y:BC),xs.length=ys.length->(∀x∈xs,Bd 2000 x)->(∀y∈ys,Bd 2000 y)->
  bZ [] (gT 2 (dM (gN 0) (dM (gN 1) fG))) (aC aF (aC aS (aA 0) (aC aE (aA 2) (bK bO (mC (.int 1))))) (aC aS (aA 1) (aC aE (aA 3) (bK bO (mC (.int 1)))))) (fJ (xs.map .int) (ys.map .int)) [x,y,some (.pv (.tup QL)),some (.pv (.tup PL))] S=.ok ((sm xs w ys v).map .int) S
 |[],ys,x,y,hl,_,_=>by
  have:ys=[]:=qd.mp hl.symm;subst this;exact dZ
 |a::xs,[],x,y,hl,_,_=>by cases hl
 |a::xs,b::ys,x,y,hl,hx,hy=>by
  have ih:=Th S PL QL w v hp hq bw bv xs ys (some (.pv (.int a))) (some (.pv (.int b))) (by simpa using hl) (λm hm=>hx m (ay _ hm)) (λm hm=>hy m (ay _ hm));have m1:=mB (hx a bo) bv;have m2:=mB (hy b bo) bw;show bZ [] _ _ (.tup [.int a,.int b]::fJ (xs.map .int) (ys.map .int)) _ S=_;rw[eE];simp! [gT,dM,fG,gN,bC,aK,aN,aL,aM,aF,aJ,hp,hq,m1,m2,ih,sm]
theorem aaE{xs ys:AS}{w v:Int}{k:Nat}(hx:∀x∈xs,Bd k x)(hy:∀y∈ys,Bd k y)(hw:Bd k w)(hv:Bd k v):∀n∈sm xs w ys v,Bd (k+k+1) n:=λn hn=>by
 unfold sm at hn;obtain⟨i,hi,e⟩:=jo hn;rw[qg]at e;rw[<-e];exact((hx _ (fj _)).mul hv).add ((hy _ (fj _)).mul hw)
theorem Qw{xs ys:AS}{w v:Int}(S:aG)(hl:xs.length=ys.length)(h9:xs.length<=9)(hw:0<w)(hv:0<v)(hx:∀x∈xs,Bd 2000 x)(hy:∀y∈ys,Bd 2000 y)(bw:Bd 2000 w)(bv:Bd 2000 v):
  vC [.pv (.tup ((xs++[w]).map .int)),.pv (.tup ((ys++[v]).map .int))] S=.ok (.pv (.tup ((low (sm xs w ys v++[w*v])).map .int))) S:=by
 have ip:=iY xs w;have iq:=iY ys v;have sp:=nU xs w;have sq:=nU ys v;have ec:=Th S _ _ w v ip iq bw bv xs ys none none hl hx hy;have mm:=mB bw bv;have hp:=aq hw hv;have ep:=Fi (w:=.lst ((sm xs w ys v).map .int)) (sm xs w ys v) (w*v) S (.inl rfl) (λn hn=>(aaE hx hy bw bv n hn).mono (by decide)) ((bw.mul bv).mono (by decide)) (by omega) (by rw[T8 hl];omega);rw[Zn hp]at ep;generalize (xs++[w]).map PV.int=PL at ip sp ec;generalize (ys++[v]).map PV.int=QL at iq sq ec;unfold vC aR Ia;simp! [bC,aK,aN,aL,aM,aF,aJ,bB,gJ,jS,bT,cF,cE,cG,eN,sp,sq,cD,ec,ip,iq,mm,ep]
theorem Kj(S:aG):∀(ns:AS)(x:BC),bZ [] (gN 0) (bK bO (aA 0)) (ns.map .int) [x] S=.ok ((ns.map (- ·)).map .int) S
 |[],x=>dZ
 |n::ns,x=>by
  have ih:=Kj S ns (some (.pv (.int n)));show bZ [] _ _ (.int n::ns.map .int) _ S=_;rw[eE];simp! [gN,aE,aV,aW,aO,aK,aN,aL,aM,aF,aJ,ih]
theorem Ou(xs:AS)(w:Int)(S:aG)(h9:xs.length<=9):uO [.pv (.tup ((xs++[w]).map .int))] S=.ok (.pv (.tup ((xs.map (- ·)++[w]).map .int))) S:=by
 have ip:=iY xs w;have sp:=nU xs w;have ec:=Kj S xs none;have hz:xs.length+1<=16777216:=by omega
 generalize (xs++[w]).map PV.int=PL at ip sp;unfold uO aR zM;simp! [bC,aK,aN,aL,aM,aF,aJ,bB,bD,bT,cF,cE,cG,eN,sp,cD,ec,ip,hz]
theorem Wr{xs ys:AS}{w v:Int}(S:aG)(hl:xs.length=ys.length)(h9:xs.length<=9)(hw:0<w)(hv:0<v)(hx:∀x∈xs,Bd 2000 x)(hy:∀y∈ys,Bd 2000 y)(bw:Bd 2000 w)(bv:Bd 2000 v):
  nK [.pv (.tup ((xs++[w]).map .int)),.pv (.tup ((ys++[v]).map .int))] S=.ok (.pv (.tup ((low (sm xs w (ys.map (- ·)) v++[w*v])).map .int))) S:=by
 have e1:=Ou ys v S (by omega);have e2:=Qw (ys:=ys.map (- ·)) S (by rw[aj];exact hl) h9 hw hv hx (λn hn=>by
  obtain⟨m,hm,rfl⟩:=ax.mp hn;exact(hy m hm).neg) bw bv
 generalize (xs++[w]).map PV.int=PL at e2;generalize (ys++[v]).map PV.int=QL at e1;generalize (ys.map (- ·)++[v]).map PV.int=RL at e1 e2;unfold nK aR yB;simp! [aE,aV,aW,aO,aK,aN,aL,aM,aF,aJ,e1,e2]
def mv(way:Int)(xs:AS)(w:Int)(ys:AS)(v:Int):AS:=if way=1 then low (sm xs w ys v++[w*v])else low (sm ys v (xs.map (- ·)) w++[v*w])
theorem vS(zs:AS)(z:Int)(j:Nat)(h:j<zs.length):aE (.tup ((zs++[z]).map .int)) (.int (j:Nat))=some (.int (zs.getD j 0)):=by
 show aV ((zs++[z]).map PV.int) (j:Int)=_;refine jO ?_;rw[dj,ft h,au h];simp[cy,h]
theorem Qk(S:aG)(PL QL:BA)(xs ys:AS)(w v way:Int)(hp:aE (.tup PL) (.int (-1))=some (.int w))(hq:aE (.tup QL) (.int (-1))=some (.int v))(hpj:∀j:Nat,j<xs.length->aE (.tup PL) (.int (j:Nat))=some (.int (xs.getD j 0)))(hqj:∀j:Nat,j<xs.length->aE (.tup QL) (.int (j:Nat))=some (.int (ys.getD j 0)))
  (hway:way=1\/way=-1)(bw:Bd 1000 w)(bv:Bd 1000 v)(hx:∀j,Bd 1000 (xs.getD j 0))(hy:∀j,Bd 1000 (ys.getD j 0)):∀(js:List Nat)(x:BC),(∀j∈js,j<xs.length)->
  bZ [] (gN 0) (aC aF (aC aS (aC aS (aA 1) (aC aE (aA 3) (aA 0))) (aC aE (aA 2) (bK bO (mC (.int 1))))) (aC aS (aC aE (aA 2) (aA 0)) (aC aE (aA 3) (bK bO (mC (.int 1)))))) (js.map λj=>.int (0+(j:Nat))) [x,some (.pv (.int way)),some (.pv (.tup QL)),some (.pv (.tup PL))] S=.ok ((js.map λj=>way*xs.getD j 0*v+ys.getD j 0*w).map .int) S
 |[],x,_=>dZ
 |j::js,x,h=>by
  have ih:=Qk S PL QL xs ys w v way hp hq hpj hqj hway bw bv hx hy js (some (.pv (.int (0+(j:Nat))))) λi hi=>h i (ay _ hi);have e1:=hpj j (h j bo);have e2:=hqj j (h j bo);have b1:Bd 2 way:=by rcases hway with rfl |rfl<;>exact Bd.of (n:=1) (by decide) (by decide)
  have m0:=mB (b1.mono (show 2<=2000 by decide)) ((hx j).mono (show 1000<=2000 by decide));have m1:=mB ((b1.mul (hx j)).mono (show 2+1000<=2000 by decide)) (bv.mono (show 1000<=2000 by decide));have m2:=mB ((hy j).mono (show 1000<=2000 by decide)) (bw.mono (show 1000<=2000 by decide));show bZ [] _ _ (.int (0+(j:Nat))::js.map λj=>.int (0+(j:Nat))) _ S=_;rw[eE];simp only[pf]at ih⊢;generalize hX:xs.getD j 0=X at e1 m0 m1;generalize hY:ys.getD j 0=Y at e2 m2;simp! [gN,bC,aK,aN,aL,aM,aF,aJ,e1,e2,hp,hq,m0,m1,m2,ih];simp only[cu]at hX hY;rw[hX,hY]
theorem vA{xs:AS}{k:Nat}(h:∀x∈xs,Bd k x)(j:Nat):Bd k (xs.getD j 0):=by
 by_cases hj:j<xs.length
 .have e:xs.getD j 0=xs[j]:=by simp[cy,hj]
  rw[e];exact h _ (fj hj)
 .have e:xs.getD j 0=0:=by simp[cy,hj]
  rw[e];exact Bd.of (n:=0) (by decide) (uk k)
theorem Bg{xs ys:AS}(hl:xs.length=ys.length)(f:Int->Int->Int):(ak xs.length).map (λj=>f (xs.getD j 0) (ys.getD j 0))=bf f xs ys:=by
 refine uf (by simp[hl]) λi h1 h2=>?_;have hi:i<xs.length:=by simpa using h1
 have hj:i<ys.length:=by omega
 simp[cy,hi,hj]
theorem Qv{xs ys:AS}{w v way:Int}(S:aG)(hl:xs.length=ys.length)(h9:xs.length<=9)(hway:way=1\/way=-1)(hx:∀x∈xs,Bd 1000 x)(hy:∀y∈ys,Bd 1000 y)(bw:Bd 1000 w)(bv:Bd 1000 v):
  kN [.pv (.tup ((xs++[w]).map .int)),.pv (.tup ((ys++[v]).map .int)),.pv (.int way)] S=.ok (.pv (.tup ((low (bf (λx y=>way*x*v+y*w) xs ys++[w*v])).map .int))) S:=by
 have ip:=iY xs w;have iq:=iY ys v;have ec:=Qk S _ _ xs ys w v way ip iq (λj h=>vS xs w j h) (λj h=>vS ys v j (by omega)) hway bw bv (vA hx) (vA hy) (ak xs.length) none λj hj=>by simpa using hj
 have er:(ak xs.length).map (λj=>way*xs.getD j 0*v+ys.getD j 0*w)=bf (λx y=>way*x*v+y*w) xs ys:=Bg hl λx y=>way*x*v+y*w;rw[er]at ec;have mm:=mB (bw.mono (show 1000<=2000 by decide)) (bv.mono (show 1000<=2000 by decide));have b1:Bd 2 way:=by rcases hway with rfl |rfl<;>exact Bd.of (n:=1) (by decide) (by decide)
 have el:=nQ (bf (λx y=>way*x*v+y*w) xs ys++[w*v]) S (λn hn=>by
  rcases ck.mp hn with z |z
  .obtain⟨i,hi,e⟩:=jo z
   rw[qg]at e;rw[<-e];exact((((b1.mul (hx _ (fj _))).mul bv).mono (show 2+1000+1000<=3000 by decide)).add (((hy _ (fj _)).mul bw).mono (show 1000+1000<=3000 by decide))).mono (by decide)
  .have:n=w*v:=by simpa using z
   rw[this];exact(bw.mul bv).mono (by decide))
 have hlen:((xs++[w]).map PV.int).length=xs.length+1:=by simp
 have hz:xs.length+1<=16777216:=by omega
 have hr:jD [.pv (.int (((xs.length+1:Nat):Int)-1))] S=.ok ((ak xs.length).map λj=>.int (0+(j:Nat)),[]) S:=by
  unfold jD;dsimp only;rw[if_pos ⟨by omega,by omega⟩];have:(((xs.length+1:Nat):Int)-1).toNat=xs.length:=by omega
  rw[this];rfl
 have hzl:(bf (λx y=>way*x*v+y*w) xs ys).length+1<=16777216:=by rw[dn];omega
 simp only[dz,av,cg]at el;generalize hZ:(bf (λx y=>way*x*v+y*w) xs ys).map PV.int=ZL at ec el;have hzl2:ZL.length+1<=16777216:=by rw[<-hZ,aj];exact hzl
 generalize (ak xs.length).map (λj=>PV.int (0+(j:Nat)))=RL at ec hr;generalize hP:(xs++[w]).map PV.int=PL at ip ec hlen;generalize (ys++[v]).map PV.int=QL at iq ec;unfold kN aR zC;have hr2:=hr;rw[<-hlen]at hr2;simp! [bC,aK,aN,aL,aM,aF,aJ,bB,cM,hr2,cD,ec,ip,iq,mm,hzl2,el]
theorem Ej{k:Nat}{W:Int}(W0:0<=W)(W1:W<=1000000000000):∀(is:BA)(S:aG)(ns:AS)(x:BC),fA S k ns->∃(xs ns':AS),bZ [] (gN 0) (aC dG (aQ cQ [] (aB (aA 2) (aB (aC aF (aC aS (mC (.int 2)) (aA 1)) (mC (.int 1))) aD))) (aA 1)) is [x,some (.pv (.int W)),some (.ref k)] S=.ok (xs.map .int) (S.set k (.lst (ns'.map .int)))/\xs.length=is.length/\∀n∈xs,Bd 50 n
 |[],S,ns,x,h=>by
  refine⟨[],ns,?_,rfl,λ_ h=>absurd h fe⟩;have e:S.set k (.lst (ns.map .int))=S:=qe λj=>by
   by_cases q:k=j
   .subst q;rw[gf h.lt];exact h.symm
   .rw[gm q]
  rw[e];exact dZ
 |i::is,S,ns,x,h=>by
  obtain⟨t,n1,e1,t0,t1,_⟩:=iZ (m:=2*W+1) h (by omega) ((Bd.of (k:=50) (n:=2000000000001) (by omega) (by decide)).mono (by decide));obtain⟨xs,n2,e2,l2,b2⟩:=Ej W0 W1 is _ n1 (some (.pv i)) (h.set n1);rw[lh]at e2;have m2:aS (.int 2) (.int W)=some (.int (2*W)):=iS (.inl (.inl ⟨by decide,by decide⟩));refine⟨(t-W)::xs,n2,?_,by simp[l2],λn hn=>?_⟩
  .rw[eE]
   generalize S.set k (.lst (n1.map .int))=S1 at e1 e2;simp! [gN,aE,aV,aW,aO,aK,aN,aL,aM,aF,aJ,m2,e1,e2]
  .rcases cf.mp hn with rfl |hn
   .exact Bd.of (n:=1000000000000) (by omega) (by decide)
   .exact b2 n hn
theorem aab{v:Int}(h0:0<=v)(h1:v<4):∃M:Int,aE (.lst [.int 0,.int 3,.int 9,.int 1000000000000]) (.int v)=some (.int M)/\0<=M/\M<=1000000000000:=by
 have c:v=0\/v=1\/v=2\/v=3:=by omega
 rcases c with rfl |rfl |rfl |rfl
 .exact⟨0,rfl,by decide,by decide⟩
 .exact⟨3,rfl,by decide,by decide⟩
 .exact⟨9,rfl,by decide,by decide⟩
 .exact⟨1000000000000,rfl,by decide,by decide⟩
theorem p12:hJ (.int 10) (.int 12)=some (.int 1000000000000):=uY (i:=10) (j:=12) ⟨by decide,by decide,by decide⟩
theorem aav{v:Int}(h0:0<=v)(h1:v<4):0<=v.fdiv 2/\v.fdiv 2<=1:=by
 have c:v=0\/v=1\/v=2\/v=3:=by omega
 rcases c with rfl |rfl |rfl |rfl<;>decide
theorem R6{n k:Nat}{L:AS}{b:Int}(hb:0<b)(hl:L.length=n)(hk:k<=300)(hL:∀x∈L,Bd k x)(bb:Bd k b):∃(zs:AS)(z:Int),low (L++[b])=zs++[z]/\Pt n zs z/\(∀x∈zs,Bd k x)/\Bd k z:=by
 obtain⟨zs,z,g,e,hg,hz,_,_,hzl⟩:=vV L hb;have hbd:=vP (k:=k) (ns:=L++[b]) λm hm=>by
  rcases ck.mp hm with y |y
  .exact hL m y
  .have:m=b:=by simpa using y
   rw[this];exact bb
 have hlow:=La L hb;rw[e]at hbd hlow;have b1:∀x∈zs,Bd k x:=λx hx=>hbd x (ju _ hx);have b2:Bd k z:=hbd z (jK zs z);exact⟨zs,z,e,⟨hzl.trans hl,hz,hlow,λx hx=>(b1 x hx).mono hk,b2.mono hk⟩,b1,b2⟩
theorem R4{S:aG}{k:Nat}{ns:AS}(n:Nat)(hn:n=2\/n=3)(h:fA S k ns):∃(xs:AS)(w:Int)(ns':AS),mM [.ref k,.pv (.int n)] S=.ok (.pv (.tup ((xs++[w]).map .int))) (S.set k (.lst (ns'.map .int)))/\Pt n xs w/\(∀x∈xs,Bd 100 x)/\Bd 100 w:=by
 obtain⟨c,n1,e1,c0,c1,_⟩:=iZ (m:=4) h (by decide) (kY (by decide) (by decide));obtain⟨M,em,M0,M1⟩:=aab c0 c1;obtain⟨t,n2,e2,t0,t1,_⟩:=iZ (m:=9) (h.set n1) (by decide) (kY (by decide) (by decide));rw[lh]at e2;obtain⟨xs,n3,e3,l3,b3⟩:=Ej M0 M1 (cS 0 n) _ n2 none (h.set n2);rw[lh]at e3;have hc:=aav c0 c1;have mt:aS (.int t) (.int (c.fdiv 2))=some (.int (t*c.fdiv 2)):=iS (.inl (.inl ⟨by omega,by omega⟩));have qt:dW (.int c) (.int 2)=some (.int (c.fdiv 2)):=jL ⟨by decide,kY (by decide) (by decide)⟩;have hm:0<=t*c.fdiv 2/\t*c.fdiv 2<=8:=by
  have c2:c.fdiv 2=0\/c.fdiv 2=1:=by omega
  rcases c2 with z |z<;>rw[z]<;>omega
 have lx:xs.length=n:=by rw[l3];unfold cS;simp
 generalize t*c.fdiv 2=tc at mt hm;obtain⟨zs,z,ez,P,b1,b2⟩:=R6 (n:=n) (k:=100) (L:=xs) (b:=1+tc) (by omega) lx (by decide) (λx hx=>(b3 x hx).mono (by decide)) (Bd.of (n:=9) (by omega) (by decide));have el:=nQ (xs++[1+tc]) (S.set k (.lst (n3.map .int))) (λm hm=>by
  rcases ck.mp hm with y |y
  .exact(b3 m y).mono (by decide)
  .have:m=1+tc:=by simpa using y
   rw[this];exact(Bd.of (k:=4) (n:=9) (by omega) (by decide)).mono (by decide))
 rw[ez]at el;refine⟨zs,z,n3,?_,P,b1,b2⟩;have tk3:=Ii S k (.lst (n3.map .int));have hz:xs.length+1<=16777216:=by omega
 generalize S.set k (.lst (n1.map .int))=S1 at e1 e2;generalize S.set k (.lst (n2.map .int))=S2 at e2 e3;generalize S.set k (.lst (n3.map .int))=S3 at e3 el tk3;have hr:jD [.pv (.int (n:Int))] S2=.ok (cS 0 n,[]) S2:=by
  unfold jD;dsimp only;rw[if_pos ⟨by omega,by omega⟩];rfl
 conv at el=>lhs;rw[dz]
 simp only[av,cg]at el;generalize (zs++[z]).map PV.int=ZL at el;unfold mM aR Ab;simp! [bC,aK,aN,aL,aM,aF,aJ,p12,e1,em,e2,mt,qt,bB,cM,hr,cD,e3,hz,el,tk3]
theorem Kh{way:Int}(h:way=1\/way=-1)(xs:AS)(w:Int)(ys:AS)(v:Int):low (bf (λx y=>way*x*v+y*w) xs ys++[w*v])=mv way xs w ys v:=by
 unfold mv;rcases h with rfl |rfl
 .rw[if_pos rfl,Ss]
 .rw[if_neg (by decide),Js,db w v]
structure Pq(n k:Nat)(xs:AS)(w:Int):Prop where
 len:xs.length=n
 pos:0<w
 low:low (xs++[w])=xs++[w]
 bx:∀x∈xs,Bd k x
 bw:Bd k w
def Vl(n:Nat)(xs:AS)(w:Int)(N:Nat->Int)(D:Int):Prop:=∀j,j<n->xs.getD j 0*D=N j*w
theorem Vl.self(n:Nat)(xs:AS)(w:Int):Vl n xs w (λj=>xs.getD j 0) w:=λ_ _=>rfl
theorem rW{a b c:Int}(h:0<c)(e:a*c=b*c):a=b:=qy (by omega) e
theorem Pq.same{n k k':Nat}{xs ys:AS}{w v:Int}(P:Pq n k xs w)(Q:Pq n k' ys v)(h:∀j,j<n->xs.getD j 0*v=ys.getD j 0*w):xs++[w]=ys++[v]:=by
 rw[<-P.low,<-Q.low];refine zY (k:=v) (m:=w) Q.pos P.pos (mV (jK xs w) (by have:=P.pos;omega)) ?_;rw[dz,dz];congr 1
 .refine uf (by simp[P.len,Q.len]) λj h1 h2=>?_
  have hj:j<n:=by rw[<-P.len];simpa using h1
  have e:=h j hj;have a1:xs.getD j 0=xs[j]'(by rw[P.len];exact hj):=by simp[cy,P.len,hj]
  have a2:ys.getD j 0=ys[j]'(by rw[Q.len];exact hj):=by simp[cy,Q.len,hj]
  rw[a1,a2]at e;rw[yf,yf];rw[db v,db w];exact e
 .simp only[av,cg]
  rw[db]
theorem Pq.eq{n k k':Nat}{xs ys:AS}{w v:Int}{N M:Nat->Int}{D E:Int}(P:Pq n k xs w)(Q:Pq n k' ys v)(a:Vl n xs w N D)(b:Vl n ys v M E)(hD:0<D)(hE:0<E)(h:∀j,j<n->N j*E=M j*D):xs++[w]=ys++[v]:=by
 refine P.same Q λj hj=>?_;have e1:=a j hj;have e2:=b j hj;have e3:=h j hj;refine rW (c:=D*E) (aq hD hE) ?_;grind
theorem E6{xs ys:AS}{f:Int->Int->Int}{j:Nat}(h1:j<xs.length)(h2:j<ys.length):(bf f xs ys).getD j 0=f (xs.getD j 0) (ys.getD j 0):=by
 have:j<(bf f xs ys).length:=by rw[dn];omega
 simp only[cy,au this,au h1,au h2,o4,qg]
theorem Kp{n k l:Nat}{way:Int}{xs ys:AS}{w v:Int}(hway:way=1\/way=-1)(P:Pq n k xs w)(Q:Pq n l ys v):∃(zs:AS)(z:Int),mv way xs w ys v=zs++[z]/\Pq n (k+l+1) zs z/\
  ∀(N M:Nat->Int)(D E:Int),Vl n xs w N D->Vl n ys v M E->0<D->0<E->Vl n zs z (λj=>way*N j*E+M j*D) (D*E):=by
 rw[<-Kh hway];have hb:=aq P.pos Q.pos;have hl:(bf (λx y=>way*x*v+y*w) xs ys).length=n:=by rw[dn,P.len,Q.len];omega
 obtain⟨zs,z,g,e,hg,hz,g1,g2,hzl⟩:=vV (bf (λx y=>way*x*v+y*w) xs ys) hb;have hlow:=La (bf (λx y=>way*x*v+y*w) xs ys) hb;have hbd:=vP (k:=k+l+1) (ns:=bf (λx y=>way*x*v+y*w) xs ys++[w*v]) λm hm=>by
  rcases ck.mp hm with y |y
  .obtain⟨i,hi,e⟩:=jo y
   rw[qg]at e;rw[<-e];have b1:=(P.bx _ (fj (l:=xs) (n:=i) (by rw[dn]at hi;omega))).mul Q.bw;have b2:=(Q.bx _ (fj (l:=ys) (n:=i) (by rw[dn]at hi;omega))).mul P.bw;have b3:Bd (k+l) (way*xs[i]'(by rw[dn]at hi;omega)*v):=by
    rcases hway with rfl |rfl
    .rw[iu];exact b1
    .have:(-1:Int)*xs[i]'(by rw[dn]at hi;omega)*v=-(xs[i]'(by rw[dn]at hi;omega)*v):=by rw[ky,iu,ky]
     rw[this];exact b1.neg
   exact b3.add (b2.mono (by omega))
  .have:m=w*v:=by simpa using y
   rw[this];exact(P.bw.mul Q.bw).mono (by omega)
 rw[e]at hbd hlow;refine⟨zs,z,e,⟨hzl.trans hl,hz,hlow,λx hx=>hbd x (ju _ hx),hbd z (jK zs z)⟩,λN M D E a b hD hE j hj=>?_⟩;have h1:(bf (λx y=>way*x*v+y*w) xs ys).getD j 0=g*zs.getD j 0:=by
  rw[g1];have:j<zs.length:=by rw[hzl,hl];exact hj
  simp[cy,this]
 rw[E6 (by rw[P.len];exact hj) (by rw[Q.len];exact hj)]at h1;have a1:=a j hj;have b1:=b j hj;generalize xs.getD j 0=X at a1 h1;generalize ys.getD j 0=Y at b1 h1;generalize zs.getD j 0=Z at h1⊢;show Z*(D*E)=(way*N j*E+M j*D)*z;generalize M j=B,N j=A at *;refine rW (c:=g*(w*v)) (aq hg hb) ?_;have p1:=P.pos;have p2:=Q.pos;have k1:(way*X*v+Y*w)*(D*E)=(way*A*E+B*D)*(w*v):=by grind
 have k2:Z*(D*E)*(g*(w*v))=(way*X*v+Y*w)*(D*E)*(w*v):=by rw[h1];grind
 rw[k2,k1,g2];grind
theorem Pt.pq{n k:Nat}{xs:AS}{w:Int}(P:Pt n xs w)(b:∀x∈xs,Bd k x)(bw:Bd k w):Pq n k xs w:=⟨P.len,P.pos,P.low,b,bw⟩
theorem Pq.mono{n k l:Nat}{xs:AS}{w:Int}(P:Pq n k xs w)(h:k<=l):Pq n l xs w:=⟨P.len,P.pos,P.low,λx hx=>(P.bx x hx).mono h,P.bw.mono h⟩
theorem Jz{n k l:Nat}{way:Int}{xs ys:AS}{w v:Int}(S:aG)(hn:n=2\/n=3)(hway:way=1\/way=-1)(P:Pq n k xs w)(Q:Pq n l ys v)(hk:k<=1000)(hl:l<=1000):kN [.pv (.tup ((xs++[w]).map .int)),.pv (.tup ((ys++[v]).map .int)),.pv (.int way)] S=.ok (.pv (.tup ((mv way xs w ys v).map .int))) S:=by
 have e:=Qv (way:=way) S (P.len.trans Q.len.symm) (by rw[P.len];omega) hway (λx hx=>(P.bx x hx).mono hk) (λx hx=>(Q.bx x hx).mono hl) (P.bw.mono hk) (Q.bw.mono hl);rw[Kh hway]at e;exact e
theorem hrg(S:aG):jD [.pv (.int 3)] S=.ok ([.int 0,.int 1,.int 2],[]) S:=by
 have h:cS 0 (3:Int).toNat=[.int 0,.int 1,.int 2]:=rfl;rw[<-h];unfold jD;dsimp only;rw[if_pos ⟨by omega,by omega⟩]
theorem L5(t b:Int)(S:aG)(ht:Bd 8000 t)(hb:Bd 8000 b):rM [.pv (.int t),.pv (.int b)] S=.ok (.pv (.tup ((fr t b).map .int))) S:=by
 unfold rM aR Ta fr;have e1:=nQ [0-t,0-b] S (by
  intro n hn;rcases cf.mp hn with rfl |hn
  .rw[jc];exact ht.neg
  .have:n=0-b:=by simpa using hn
   rw[this,jc];exact hb.neg)
 have e2:=nQ [t,b] S (by
  intro n hn;rcases cf.mp hn with rfl |hn
  .exact ht
  .have:n=b:=by simpa using hn
   rw[this];exact hb)
 by_cases h:b<0
 .simp only[av,cg,jc]at e1
  simp! [aE,aV,aW,aO,aK,aN,aL,aM,aF,aJ,h,e1]
 .simp only[av,cg]at e2
  simp! [aE,aV,aW,aO,aK,aN,aL,aM,aF,aJ,h,e2]
theorem Ee(t b:Int)(S:aG)(ht:Bd 7000 t)(hb:Bd 7000 b)(h:b≠0):lD [.pv (.int t),.pv (.int b)] S=.ok (.pv (.tup ((fr t b).map .int))) S:=by
 have gb:Bd 7000 ((ce t b:Nat):Int):=ht.gcd hb;have sb:Bd 2 (sg b):=by
  unfold sg;split
  .unfold Bd;simp
  .split<;>(unfold Bd;simp)
 have mb:oF (sg b) (ce t b:Nat):=.inr ⟨sb.mono (by decide),gb.mono (by decide)⟩;have nz:sg b*(ce t b:Nat)≠0:=by
  have gp:=sA (kF t b) h;rw[vM]at gp;rcases Uh h with⟨_,s⟩|⟨_,s⟩<;>rw[s]<;>omega
 have qb:∀x,oH x (sg b*(ce t b:Nat)):=λx=>⟨nz,(sb.mul gb).mono (by decide)⟩;rw[<-Wu h];unfold lD aR yH;simp! [aE,aV,aW,aO,aK,aN,aL,aM,aF,aJ,h,vG,Te,iS mb,jL (qb t),jL (qb b)]
theorem pA:∀is:AS,iB (is.map .int)=some is
 |[]=>rfl
 |i::is=>by
  have ih:=pA is;show(match iB (is.map .int)with |some bs=>some (i::bs) |none=>none)=_
  rw[ih]
theorem zF(is:AS):kI [.lst (is.map .int)]=some (.int is.sum):=by
 simp only[kI,pA,Option.map_some]
def wa(xs:AS)(w:Int)(ys:AS)(v:Int):AS:=bf (λx y=>y*w-x*v) xs ys
theorem Rl(S:aG)(PL QL:BA)(w v:Int)(hp:aE (.tup PL) (.int (-1))=some (.int w))(hq:aE (.tup QL) (.int (-1))=some (.int v))(bw:Bd 2000 w)(bv:Bd 2000 v):∀(xs ys:AS)(x y:BC),xs.length=ys.length->(∀x∈xs,Bd 2000 x)->(∀y∈ys,Bd 2000 y)->
  bZ [] (gT 2 (dM (gN 0) (dM (gN 1) fG))) (aC dG (aC aS (aA 1) (aC aE (aA 2) (bK bO (mC (.int 1))))) (aC aS (aA 0) (aC aE (aA 3) (bK bO (mC (.int 1)))))) (fJ (xs.map .int) (ys.map .int)) [x,y,some (.pv (.tup PL)),some (.pv (.tup QL))] S=.ok ((wa xs w ys v).map .int) S
 |[],ys,x,y,hl,_,_=>by
  have:ys=[]:=qd.mp hl.symm;subst this;exact dZ
 |a::xs,[],x,y,hl,_,_=>by cases hl
 |a::xs,b::ys,x,y,hl,hx,hy=>by
  have ih:=Rl S PL QL w v hp hq bw bv xs ys (some (.pv (.int a))) (some (.pv (.int b))) (by simpa using hl) (λm hm=>hx m (ay _ hm)) (λm hm=>hy m (ay _ hm));have m1:=mB (hx a bo) bv;have m2:=mB (hy b bo) bw;show bZ [] _ _ (.tup [.int a,.int b]::fJ (xs.map .int) (ys.map .int)) _ S=_;rw[eE];simp! [gT,dM,fG,gN,bC,aK,aN,aL,aM,aF,aJ,hp,hq,m1,m2,ih,wa]
theorem Di{xs ys:AS}{w v:Int}(S:aG)(hl:xs.length=ys.length)(hx:∀x∈xs,Bd 2000 x)(hy:∀y∈ys,Bd 2000 y)(bw:Bd 2000 w)(bv:Bd 2000 v):
  oR [.pv (.tup ((xs++[w]).map .int)),.pv (.tup ((ys++[v]).map .int))] S=.ok (.pv (.lst ((wa xs w ys v).map .int))) S:=by
 have ip:=iY xs w;have iq:=iY ys v;have sp:=nU xs w;have sq:=nU ys v;have ec:=Rl S _ _ w v ip iq bw bv xs ys none none hl hx hy;generalize (xs++[w]).map PV.int=PL at ip sp ec;generalize (ys++[v]).map PV.int=QL at iq sq ec;unfold oR aR xT;simp! [bC,aK,aN,aL,aM,aF,aJ,bB,gJ,jS,bT,cF,cE,cG,eN,sp,sq,cD,ec]
theorem zP(S:aG):∀(us vs:AS)(x y:BC),(∀x∈us,Bd 100000 x)->(∀y∈vs,Bd 100000 y)->
  bZ [] (gT 2 (dM (gN 0) (dM (gN 1) fG))) (aC aS (aA 0) (aA 1)) (fJ (us.map .int) (vs.map .int)) [x,y] S=.ok ((bf (·*·) us vs).map .int) S
 |[],vs,x,y,_,_=>by
  show bZ [] _ _ [] _ S=_;exact dZ
 |a::us,[],x,y,_,_=>by
  show bZ [] _ _ [] _ S=_;exact dZ
 |a::us,b::vs,x,y,hx,hy=>by
  have ih:=zP S us vs (some (.pv (.int a))) (some (.pv (.int b))) (λm hm=>hx m (ay _ hm)) (λm hm=>hy m (ay _ hm));have m1:aS (.int a) (.int b)=some (.int (a*b)):=iS (.inr ⟨(hx a bo).mono (by decide),(hy b bo).mono (by decide)⟩);show bZ [] _ _ (.tup [.int a,.int b]::fJ (us.map .int) (vs.map .int)) _ S=_;rw[eE];simp! [gT,dM,fG,gN,bC,aK,aN,aL,aM,aF,aJ,m1,ih]
def dt(us vs:AS):Int:=(bf (·*·) us vs).sum
def Sq(A:PV)(us:AS):Prop:=A=.lst (us.map .int)\/A=.tup (us.map .int)
theorem Um{A B:PV}{us vs:AS}(S:aG)(hA:Sq A us)(hB:Sq B vs)(hx:∀x∈us,Bd 100000 x)(hy:∀y∈vs,Bd 100000 y):wA [.pv A,.pv B] S=.ok (.pv (.int (dt us vs))) S:=by
 have ec:=zP S us vs none none hx hy;have es:=zF (bf (·*·) us vs);unfold dt;generalize (bf (·*·) us vs).map PV.int=ZL at ec es;generalize (bf (·*·) us vs).sum=Z at es;unfold wA aR Ec;rcases hA with rfl |rfl<;>rcases hB with rfl |rfl<;>
  (generalize us.map PV.int=UL at ec⊢;generalize vs.map PV.int=VL at ec⊢;simp! [bC,aK,aN,aL,aM,aF,aJ,bB,gJ,jS,bT,cD,ec,es])
theorem Ra{A B:PV}{us vs:AS}(S:aG)(hA:Sq A us)(hB:Sq B vs)(hx:∀x∈us,Bd 100000 x)(hy:∀y∈vs,Bd 100000 y):vN [.pv A,.pv B] S=.ok (.pv (.int (dt us vs))) S:=by
 have ec:=zP S us vs none none hx hy;have es:=zF (bf (·*·) us vs);unfold dt;generalize (bf (·*·) us vs).map PV.int=ZL at ec es;generalize (bf (·*·) us vs).sum=Z at es;unfold vN aR Db;rcases hA with rfl |rfl<;>rcases hB with rfl |rfl<;>
  (generalize us.map PV.int=UL at ec⊢;generalize vs.map PV.int=VL at ec⊢;simp! [bC,aK,aN,aL,aM,aF,aJ,bB,gJ,jS,bT,cD,ec,es])
theorem dR{k l:Nat}{a b:Int}(h:Bd k a)(g:Bd l b)(hk:k<=1000000:=by decide)(hl:l<=1000000:=by decide):aS (.int a) (.int b)=some (.int (a*b)):=iS (.inr ⟨h.mono hk,g.mono hl⟩)
theorem K4(a b:Int)(S:aG):pK [.pv (.lst [.lst [.int a,.int b]])] S=.ok (.pv (.lst [.int (-b),.int a])) S:=by
 unfold pK aR uU;simp! [aE,aV,aW,aO,aK,aN,aL,aM,aF,aJ]
theorem D8{a b c d e f:Int}(S:aG)(ha:Bd 10000 a)(hb:Bd 10000 b)(hc:Bd 10000 c)(hd:Bd 10000 d)(he:Bd 10000 e)(hf:Bd 10000 f):pK [.pv (.lst [.lst [.int a,.int b,.int c],.lst [.int d,.int e,.int f]])] S=.ok (.pv (.lst [.int (b*f-c*e),.int (c*d-a*f),.int (a*e-b*d)])) S:=by
 have m1:=dR hb hf;have m2:=dR hc he;have m3:=dR hc hd;have m4:=dR ha hf;have m5:=dR ha he;have m6:=dR hb hd;unfold pK aR uU;simp! [aE,aV,aW,aO,aK,aN,aL,aM,aF,aJ,m1,m2,m3,m4,m5,m6]
theorem zN{A B:PV}{a b c d e f:Int}(S:aG)(hA:A=.lst [.int a,.int b,.int c])(hB:B=.lst [.int d,.int e,.int f])(ha:Bd 10000 a)(hb:Bd 10000 b)(hc:Bd 10000 c)(hd:Bd 10000 d)(he:Bd 10000 e)(hf:Bd 10000 f):uV [.pv A,.pv B] S=.ok (.pv (.lst [.int (b*f-c*e),.int (c*d-a*f),.int (a*e-b*d)])) S:=by
 have m1:=dR hb hf;have m2:=dR hc he;have m3:=dR hc hd;have m4:=dR ha hf;have m5:=dR ha he;have m6:=dR hb hd;unfold uV aR zI;subst hA hB;simp! [aE,aV,aW,aO,aK,aN,aL,aM,aF,aJ,m1,m2,m3,m4,m5,m6]
structure P2(x y w:Int):Prop where
 bx:Bd 1000 x
 by_:Bd 1000 y
 bw:Bd 1000 w
 pos:0<w
structure P3(x y z w:Int):Prop where
 bx:Bd 1000 x
 by_:Bd 1000 y
 bz:Bd 1000 z
 bw:Bd 1000 w
 pos:0<w
abbrev v2(x y w:Int):PV:=.tup [.int x,.int y,.int w]
abbrev v3(x y z w:Int):PV:=.tup [.int x,.int y,.int z,.int w]
def Sv(A:PV)(L:BA):Prop:=A=.lst L\/A=.tup L
theorem Iq(p:PV)(L:BA):jB (p::L) (some 1) none=L:=by
 unfold jB;have e1:HT.sIx (p::L).length 0 (some 1)=1:=by
  rw[show(some (1:Int))=some ((1:Nat):Int) from rfl,HT.sIx_nat,cv];omega
 rw[e1];show((p::L).drop 1).take ((p::L).length-1)=L;simp
theorem mT(p:PV)(L:BA):gB (.lst (p::L)) (some 1) none=some (.lst L):=by
 unfold gB;dsimp only;rw[Iq]
theorem wJ(p:PV)(L:BA):gB (.tup (p::L)) (some 1) none=some (.tup L):=by
 unfold gB;dsimp only;have e1:HT.sIx (p::L).length 0 (some 1)=1:=by
  rw[show(some (1:Int))=some ((1:Nat):Int) from rfl,HT.sIx_nat,cv];omega
 rw[if_neg (by rw[e1];simp),Iq]
theorem Gm(L:BA)(p:PV):gB (.lst (L++[p])) none (some (-1))=some (.lst L):=by
 unfold gB;dsimp only;unfold jB;have e1:HT.sIx (L++[p]).length (L++[p]).length (some (-1))=L.length:=by
  rw[bj];exact zJ L.length _
 rw[e1];show some (PV.lst (((L++[p]).drop 0).take (L.length-0)))=_;simp
theorem Qm{x0 y0 w0 x1 y1 w1:Int}(S:aG)(p:P2 x0 y0 w0)(q:P2 x1 y1 w1):oR [.pv (v2 x0 y0 w0),.pv (v2 x1 y1 w1)] S=.ok (.pv (.lst [.int (x1*w0-x0*w1),.int (y1*w0-y0*w1)])) S:=by
 have e:=Di (xs:=[x0,y0]) (ys:=[x1,y1]) (w:=w0) (v:=w1) S rfl (by simp;exact⟨p.bx.mono (by decide),p.by_.mono (by decide)⟩) (by simp;exact⟨q.bx.mono (by decide),q.by_.mono (by decide)⟩) (p.bw.mono (by decide)) (q.bw.mono (by decide));exact e
theorem Pb{x0 y0 z0 w0 x1 y1 z1 w1:Int}(S:aG)(p:P3 x0 y0 z0 w0)(q:P3 x1 y1 z1 w1):oR [.pv (v3 x0 y0 z0 w0),.pv (v3 x1 y1 z1 w1)] S=.ok (.pv (.lst [.int (x1*w0-x0*w1),.int (y1*w0-y0*w1),.int (z1*w0-z0*w1)])) S:=by
 have e:=Di (xs:=[x0,y0,z0]) (ys:=[x1,y1,z1]) (w:=w0) (v:=w1) S rfl (by simp;exact⟨p.bx.mono (by decide),p.by_.mono (by decide),p.bz.mono (by decide)⟩) (by simp;exact⟨q.bx.mono (by decide),q.by_.mono (by decide),q.bz.mono (by decide)⟩) (p.bw.mono (by decide)) (q.bw.mono (by decide));exact e
theorem sb{x0 w0 x1 w1:Int}(a:Bd 1000 x0)(b:Bd 1000 w0)(c:Bd 1000 x1)(d:Bd 1000 w1):Bd 2001 (x1*w0-x0*w1):=((c.mul b).mono (show 1000+1000<=2000 by decide)).sub ((a.mul d).mono (show 1000+1000<=2000 by decide))
theorem cb{a b c d:Int}(h1:Bd 2001 a)(h2:Bd 2001 b)(h3:Bd 2001 c)(h4:Bd 2001 d):Bd 4003 (a*b-c*d):=((h1.mul h2).mono (show 2001+2001<=4002 by decide)).sub ((h3.mul h4).mono (show 2001+2001<=4002 by decide))
def D2(x0 y0 w0 x1 y1 w1 x2 y2 w2:Int):Int:=w0*(x1*y2-y1*x2)-w1*(x0*y2-y0*x2)+w2*(x0*y1-y0*x1)
def D3(x0 y0 z0 w0 x1 y1 z1 w1 x2 y2 z2 w2 x3 y3 z3 w3:Int):Int:=
 w0*((y1*z2-z1*y2)*x3+(z1*x2-x1*z2)*y3+(x1*y2-y1*x2)*z3)-w1*((y0*z2-z0*y2)*x3+(z0*x2-x0*z2)*y3+(x0*y2-y0*x2)*z3)
 +w2*((y0*z1-z0*y1)*x3+(z0*x1-x0*z1)*y3+(x0*y1-y0*x1)*z3)-w3*((y0*z1-z0*y1)*x2+(z0*x1-x0*z1)*y2+(x0*y1-y0*x1)*z2)
theorem aax(x0 y0 w0 x1 y1 w1 x2 y2 w2:Int):dt [-(y1*w0-y0*w1),x1*w0-x0*w1] [x2*w0-x0*w2,y2*w0-y0*w2]=w0*D2 x0 y0 w0 x1 y1 w1 x2 y2 w2:=by
 simp only[dt,D2,qz,re,kn,rf];grind
theorem Tb(x0 y0 z0 w0 x1 y1 z1 w1 x2 y2 z2 w2 x3 y3 z3 w3:Int):dt [(y1*w0-y0*w1)*(z2*w0-z0*w2)-(z1*w0-z0*w1)*(y2*w0-y0*w2),(z1*w0-z0*w1)*(x2*w0-x0*w2)-(x1*w0-x0*w1)*(z2*w0-z0*w2),(x1*w0-x0*w1)*(y2*w0-y0*w2)-(y1*w0-y0*w1)*(x2*w0-x0*w2)] [x3*w0-x0*w3,y3*w0-y0*w3,z3*w0-z0*w3]=w0*w0*D3 x0 y0 z0 w0 x1 y1 z1 w1 x2 y2 z2 w2 x3 y3 z3 w3:=by
 simp only[dt,D3,qz,re,kn,rf];grind
theorem pP{w d:Int}(h:0<w):sg (w*d)=sg d:=by
 unfold sg
 by_cases h1:0<d
 .rw[if_pos (aq h h1),if_pos h1]
 .by_cases h2:d<0
  .have:w*d<0:=td h h2
   rw[if_neg (by omega),if_pos this,if_neg h1,if_pos h2]
  .have:d=0:=by omega
   subst this;rw[oz]
theorem I0{A:PV}{x0 y0 w0 x1 y1 w1 x2 y2 w2:Int}(S:aG)(hA:Sv A [v2 x0 y0 w0,v2 x1 y1 w1,v2 x2 y2 w2])(p:P2 x0 y0 w0)(q:P2 x1 y1 w1)(r:P2 x2 y2 w2):oS [.pv A] S=.ok (.pv (.int (w0*D2 x0 y0 w0 x1 y1 w1 x2 y2 w2))) S:=by
 have a1:=Qm S p q;have a2:=Qm S p r;have bu:=sb p.bx p.bw q.bx q.bw;have bv:=sb p.by_ p.bw q.by_ q.bw;have bu2:=sb p.bx p.bw r.bx r.bw;have bv2:=sb p.by_ p.bw r.by_ r.bw;have id:=aax x0 y0 w0 x1 y1 w1 x2 y2 w2;generalize y2*w0-y0*w2=V1,x2*w0-x0*w2=V0,y1*w0-y0*w1=U1,x1*w0-x0*w1=U0,w0*D2 x0 y0 w0 x1 y1 w1 x2 y2 w2=D at *;have en:=K4 U0 U1 S;have ed:=Um (A:=.lst [.int (-U1),.int U0]) (B:=.lst [.int V0,.int V1]) (us:=[-U1,U0]) (vs:=[V0,V1]) S (.inl rfl) (.inl rfl) (by simp;exact⟨bv.neg.mono (by decide),bu.mono (by decide)⟩) (by simp;exact⟨bu2.mono (by decide),bv2.mono (by decide)⟩);rw[id]at ed;have pre:=Gm [.lst [.int U0,.int U1]] (.lst [.int V0,.int V1]);simp only[jq,ib]at pre;generalize v2 x2 y2 w2=R,v2 x1 y1 w1=Q,v2 x0 y0 w0=P at *;unfold oS aR tR;rcases hA with rfl |rfl
 .have s1:=mT P [Q,R]
  simp! [aE,aV,aW,aO,aK,aN,aL,aM,aF,aJ,bB,bD,bT,cF,cE,cG,eN,s1,cD,eE,dZ,gN,a1,a2,pre,en,ed]
 .have s1:=wJ P [Q,R]
  simp! [aE,aV,aW,aO,aK,aN,aL,aM,aF,aJ,bB,bD,bT,cF,cE,cG,eN,s1,cD,eE,dZ,gN,a1,a2,pre,en,ed]
theorem B4{A:PV}{x0 y0 z0 w0 x1 y1 z1 w1 x2 y2 z2 w2 x3 y3 z3 w3:Int}(S:aG)(hA:Sv A [v3 x0 y0 z0 w0,v3 x1 y1 z1 w1,v3 x2 y2 z2 w2,v3 x3 y3 z3 w3])(p:P3 x0 y0 z0 w0)(q:P3 x1 y1 z1 w1)(r:P3 x2 y2 z2 w2)(s:P3 x3 y3 z3 w3):oS [.pv A] S=.ok (.pv (.int (w0*w0*D3 x0 y0 z0 w0 x1 y1 z1 w1 x2 y2 z2 w2 x3 y3 z3 w3))) S:=by
 have a1:=Pb S p q;have a2:=Pb S p r;have a3:=Pb S p s;have b1:=sb p.bx p.bw q.bx q.bw;have b2:=sb p.by_ p.bw q.by_ q.bw;have b3:=sb p.bz p.bw q.bz q.bw;have b4:=sb p.bx p.bw r.bx r.bw;have b5:=sb p.by_ p.bw r.by_ r.bw;have b6:=sb p.bz p.bw r.bz r.bw;have b7:=sb p.bx p.bw s.bx s.bw;have b8:=sb p.by_ p.bw s.by_ s.bw;have b9:=sb p.bz p.bw s.bz s.bw;have id:=Tb x0 y0 z0 w0 x1 y1 z1 w1 x2 y2 z2 w2 x3 y3 z3 w3;generalize z3*w0-z0*w3=T2,y3*w0-y0*w3=T1,x3*w0-x0*w3=T0,z2*w0-z0*w2=V2,y2*w0-y0*w2=V1,x2*w0-x0*w2=V0,z1*w0-z0*w1=U2,y1*w0-y0*w1=U1,x1*w0-x0*w1=U0,w0*w0*D3 x0 y0 z0 w0 x1 y1 z1 w1 x2 y2 z2 w2 x3 y3 z3 w3=D at *;have h:∀{a:Int},Bd 2001 a->Bd 10000 a:=λh=>h.mono (by decide);have h4:∀{a:Int},Bd 4003 a->Bd 100000 a:=λh=>h.mono (by decide);have h2:∀{a:Int},Bd 2001 a->Bd 100000 a:=λh=>h.mono (by decide);have en:=D8 S (h b1) (h b2) (h b3) (h b4) (h b5) (h b6);have c1:=cb b2 b6 b3 b5;have c2:=cb b3 b4 b1 b6;have c3:=cb b1 b5 b2 b4;have ed:=Um (A:=.lst [.int (U1*V2-U2*V1),.int (U2*V0-U0*V2),.int (U0*V1-U1*V0)]) (B:=.lst [.int T0,.int T1,.int T2]) (us:=[U1*V2-U2*V1,U2*V0-U0*V2,U0*V1-U1*V0]) (vs:=[T0,T1,T2]) S (.inl rfl) (.inl rfl) (by simp;exact⟨h4 c1,h4 c2,h4 c3⟩) (by simp;exact⟨h2 b7,h2 b8,h2 b9⟩);rw[id]at ed;generalize U0*V1-U1*V0=N2,U2*V0-U0*V2=N1,U1*V2-U2*V1=N0 at *;have pre:=Gm [.lst [.int U0,.int U1,.int U2],.lst [.int V0,.int V1,.int V2]] (.lst [.int T0,.int T1,.int T2]);simp only[jq,ib]at pre;generalize v3 x3 y3 z3 w3=T,v3 x2 y2 z2 w2=R,v3 x1 y1 z1 w1=Q,v3 x0 y0 z0 w0=P at *;unfold oS aR tR;rcases hA with rfl |rfl
 .have s1:=mT P [Q,R,T]
  simp! [aE,aV,aW,aO,aK,aN,aL,aM,aF,aJ,bB,bD,bT,cF,cE,cG,eN,s1,cD,eE,dZ,gN,a1,a2,a3,pre,en,ed]
 .have s1:=wJ P [Q,R,T]
  simp! [aE,aV,aW,aO,aK,aN,aL,aM,aF,aJ,bB,bD,bT,cF,cE,cG,eN,s1,cD,eE,dZ,gN,a1,a2,a3,pre,en,ed]
theorem Xx{A:PV}{x0 y0 w0 x1 y1 w1 x2 y2 w2:Int}(S:aG)(hA:Sv A [v2 x0 y0 w0,v2 x1 y1 w1,v2 x2 y2 w2])(p:P2 x0 y0 w0)(q:P2 x1 y1 w1)(r:P2 x2 y2 w2):mL [.pv A] S=.ok (.pv (.int (sg (D2 x0 y0 w0 x1 y1 w1 x2 y2 w2)))) S:=by
 have e1:=I0 S hA p q r;have e2:=vG (w0*D2 x0 y0 w0 x1 y1 w1 x2 y2 w2) S;rw[pP p.pos]at e2;unfold mL aR vT;simp! [aE,aV,aW,aO,aK,aN,aL,aM,aF,aJ,e1,e2]
theorem Py{A:PV}{x0 y0 z0 w0 x1 y1 z1 w1 x2 y2 z2 w2 x3 y3 z3 w3:Int}(S:aG)(hA:Sv A [v3 x0 y0 z0 w0,v3 x1 y1 z1 w1,v3 x2 y2 z2 w2,v3 x3 y3 z3 w3])(p:P3 x0 y0 z0 w0)(q:P3 x1 y1 z1 w1)(r:P3 x2 y2 z2 w2)(s:P3 x3 y3 z3 w3):mL [.pv A] S=.ok (.pv (.int (sg (D3 x0 y0 z0 w0 x1 y1 z1 w1 x2 y2 z2 w2 x3 y3 z3 w3)))) S:=by
 have e1:=B4 S hA p q r s;have e2:=vG (w0*w0*D3 x0 y0 z0 w0 x1 y1 z1 w1 x2 y2 z2 w2 x3 y3 z3 w3) S;rw[pP (aq p.pos p.pos)]at e2;unfold mL aR vT;simp! [aE,aV,aW,aO,aK,aN,aL,aM,aF,aJ,e1,e2]
def Gp(n k:Nat)(v:PV):Prop:=∃xs w,v=.tup ((xs++[w]).map .int)/\Pq n k xs w
theorem Gp.two{v:PV}(h:Gp 2 1000 v):∃x y w,v=v2 x y w/\P2 x y w:=by
 obtain⟨xs,w,rfl,P⟩:=h
 match xs,P.len with
 |[x,y],_=>exact⟨x,y,w,rfl,P.bx x (by simp),P.bx y (by simp),P.bw,P.pos⟩
theorem Gp.three{v:PV}(h:Gp 3 1000 v):∃x y z w,v=v3 x y z w/\P3 x y z w:=by
 obtain⟨xs,w,rfl,P⟩:=h
 match xs,P.len with
 |[x,y,z],_=>exact⟨x,y,z,w,rfl,P.bx x (by simp),P.bx y (by simp),P.bx z (by simp),P.bw,P.pos⟩
theorem Li(S:aG)(PL QL:BA)(xs ys:AS)(w v:Int)(hp:aE (.tup PL) (.int (-1))=some (.int w))(hq:aE (.tup QL) (.int (-1))=some (.int v))(hpj:∀j:Nat,j<xs.length->aE (.tup PL) (.int (j:Nat))=some (.int (xs.getD j 0)))(hqj:∀j:Nat,j<xs.length->aE (.tup QL) (.int (j:Nat))=some (.int (ys.getD j 0)))
  (bw:Bd 1000 w)(bv:Bd 1000 v)(hx:∀j,Bd 1000 (xs.getD j 0))(hy:∀j,Bd 1000 (ys.getD j 0)):∀(js:List Nat)(x:BC),(∀j∈js,j<xs.length)->
  bZ [] (gN 0) (aC dG (aC aS (aC aE (aA 1) (aA 0)) (aC aE (aA 2) (bK bO (mC (.int 1))))) (aC aS (aC aE (aA 2) (aA 0)) (aC aE (aA 1) (bK bO (mC (.int 1)))))) (js.map λj=>.int (0+(j:Nat))) [x,some (.pv (.tup QL)),some (.pv (.tup PL))] S=.ok ((js.map λj=>ys.getD j 0*w-xs.getD j 0*v).map .int) S
 |[],x,_=>dZ
 |j::js,x,h=>by
  have ih:=Li S PL QL xs ys w v hp hq hpj hqj bw bv hx hy js (some (.pv (.int (0+(j:Nat))))) λi hi=>h i (ay _ hi);have e1:=hpj j (h j bo);have e2:=hqj j (h j bo);have m1:=mB ((hx j).mono (show 1000<=2000 by decide)) (bv.mono (show 1000<=2000 by decide));have m2:=mB ((hy j).mono (show 1000<=2000 by decide)) (bw.mono (show 1000<=2000 by decide));show bZ [] _ _ (.int (0+(j:Nat))::js.map λj=>.int (0+(j:Nat))) _ S=_;rw[eE];simp only[pf]at ih⊢;generalize hX:xs.getD j 0=X at e1 m1;generalize hY:ys.getD j 0=Y at e2 m2;simp! [gN,bC,aK,aN,aL,aM,aF,aJ,e1,e2,hp,hq,m1,m2,ih];simp only[cu]at hX hY;rw[hX,hY]
theorem Vm{xs ys:AS}{w v:Int}(S:aG)(hl:xs.length=ys.length)(h9:xs.length<=9)(hx:∀x∈xs,Bd 1000 x)(hy:∀y∈ys,Bd 1000 y)(bw:Bd 1000 w)(bv:Bd 1000 v):
  pV [.pv (.tup ((xs++[w]).map .int)),.pv (.tup ((ys++[v]).map .int))] S=.ok (.pv (.lst ((wa xs w ys v).map .int))) S:=by
 have ip:=iY xs w;have iq:=iY ys v;have ec:=Li S _ _ xs ys w v ip iq (λj h=>vS xs w j h) (λj h=>vS ys v j (by omega)) bw bv (vA hx) (vA hy) (ak xs.length) none λj hj=>by simpa using hj
 have er:(ak xs.length).map (λj=>ys.getD j 0*w-xs.getD j 0*v)=wa xs w ys v:=Bg hl λx y=>y*w-x*v;rw[er]at ec;have hlen:((xs++[w]).map PV.int).length=xs.length+1:=by simp
 have hr:jD [.pv (.int (((xs.length+1:Nat):Int)-1))] S=.ok ((ak xs.length).map λj=>.int (0+(j:Nat)),[]) S:=by
  unfold jD;dsimp only;rw[if_pos ⟨by omega,by omega⟩];have:(((xs.length+1:Nat):Int)-1).toNat=xs.length:=by omega
  rw[this];rfl
 generalize (wa xs w ys v).map PV.int=ZL at ec;generalize (ak xs.length).map (λj=>PV.int (0+(j:Nat)))=RL at ec hr;generalize hP:(xs++[w]).map PV.int=PL at ip ec hlen;generalize (ys++[v]).map PV.int=QL at iq ec;unfold pV aR Jb;have hr2:=hr;rw[<-hlen]at hr2;simp! [bC,aK,aN,aL,aM,aF,aJ,bB,cM,hr2,cD,ec]
theorem wP{x0 y0 w0 x1 y1 w1:Int}(S:aG)(p:P2 x0 y0 w0)(q:P2 x1 y1 w1):pV [.pv (v2 x0 y0 w0),.pv (v2 x1 y1 w1)] S=.ok (.pv (.lst [.int (x1*w0-x0*w1),.int (y1*w0-y0*w1)])) S:=by
 have e:=Vm (xs:=[x0,y0]) (ys:=[x1,y1]) (w:=w0) (v:=w1) S rfl (by simp) (by simp;exact⟨p.bx,p.by_⟩) (by simp;exact⟨q.bx,q.by_⟩) p.bw q.bw;exact e
theorem qJ{x0 y0 z0 w0 x1 y1 z1 w1:Int}(S:aG)(p:P3 x0 y0 z0 w0)(q:P3 x1 y1 z1 w1):pV [.pv (v3 x0 y0 z0 w0),.pv (v3 x1 y1 z1 w1)] S=.ok (.pv (.lst [.int (x1*w0-x0*w1),.int (y1*w0-y0*w1),.int (z1*w0-z0*w1)])) S:=by
 have e:=Vm (xs:=[x0,y0,z0]) (ys:=[x1,y1,z1]) (w:=w0) (v:=w1) S rfl (by simp) (by simp;exact⟨p.bx,p.by_,p.bz⟩) (by simp;exact⟨q.bx,q.by_,q.bz⟩) p.bw q.bw;exact e
theorem Ki{A:PV}{x0 y0 w0 x1 y1 w1 x2 y2 w2:Int}(S:aG)(hA:Sv A [v2 x0 y0 w0,v2 x1 y1 w1,v2 x2 y2 w2])(p:P2 x0 y0 w0)(q:P2 x1 y1 w1)(r:P2 x2 y2 w2):gY [.pv A] S=.ok (.pv (.int (w0*D2 x0 y0 w0 x1 y1 w1 x2 y2 w2))) S:=by
 have a1:=wP S p q;have a2:=wP S p r;have bu:=sb p.bx p.bw q.bx q.bw;have bv:=sb p.by_ p.bw q.by_ q.bw;have bu2:=sb p.bx p.bw r.bx r.bw;have bv2:=sb p.by_ p.bw r.by_ r.bw;have id:(x1*w0-x0*w1)*(y2*w0-y0*w2)-(y1*w0-y0*w1)*(x2*w0-x0*w2)=w0*D2 x0 y0 w0 x1 y1 w1 x2 y2 w2:=by
  unfold D2;grind
 generalize y2*w0-y0*w2=V1,x2*w0-x0*w2=V0,y1*w0-y0*w1=U1,x1*w0-x0*w1=U0,w0*D2 x0 y0 w0 x1 y1 w1 x2 y2 w2=D at *;have m1:=dR bu bv2;have m2:=dR bv bu2;generalize v2 x2 y2 w2=R,v2 x1 y1 w1=Q,v2 x0 y0 w0=P at *;have et:iG [.pv (.lst [.lst [.int U0,.int U1],.lst [.int V0,.int V1]])] S=.ok (.pv (.int D)) S:=by
  unfold iG aR mI;simp! [aE,aV,aW,aO,aK,aN,aL,aM,aF,aJ,m1,m2,id]
 unfold gY aR pQ;rcases hA with rfl |rfl
 .have s1:=mT P [Q,R]
  simp! [aE,aV,aW,aO,aK,aN,aL,aM,aF,aJ,bB,bD,bT,cF,cE,cG,eN,s1,cD,eE,dZ,gN,a1,a2,et]
 .have s1:=wJ P [Q,R]
  simp! [aE,aV,aW,aO,aK,aN,aL,aM,aF,aJ,bB,bD,bT,cF,cE,cG,eN,s1,cD,eE,dZ,gN,a1,a2,et]
theorem Dj{A:PV}{x0 y0 z0 w0 x1 y1 z1 w1 x2 y2 z2 w2 x3 y3 z3 w3:Int}(S:aG)(hA:Sv A [v3 x0 y0 z0 w0,v3 x1 y1 z1 w1,v3 x2 y2 z2 w2,v3 x3 y3 z3 w3])(p:P3 x0 y0 z0 w0)(q:P3 x1 y1 z1 w1)(r:P3 x2 y2 z2 w2)(s:P3 x3 y3 z3 w3):gY [.pv A] S=.ok (.pv (.int (w0*w0*D3 x0 y0 z0 w0 x1 y1 z1 w1 x2 y2 z2 w2 x3 y3 z3 w3))) S:=by
 have a1:=qJ S p q;have a2:=qJ S p r;have a3:=qJ S p s;have b1:=sb p.bx p.bw q.bx q.bw;have b2:=sb p.by_ p.bw q.by_ q.bw;have b3:=sb p.bz p.bw q.bz q.bw;have b4:=sb p.bx p.bw r.bx r.bw;have b5:=sb p.by_ p.bw r.by_ r.bw;have b6:=sb p.bz p.bw r.bz r.bw;have b7:=sb p.bx p.bw s.bx s.bw;have b8:=sb p.by_ p.bw s.by_ s.bw;have b9:=sb p.bz p.bw s.bz s.bw;have id:=Tb x0 y0 z0 w0 x1 y1 z1 w1 x2 y2 z2 w2 x3 y3 z3 w3;generalize z3*w0-z0*w3=T2,y3*w0-y0*w3=T1,x3*w0-x0*w3=T0,z2*w0-z0*w2=V2,y2*w0-y0*w2=V1,x2*w0-x0*w2=V0,z1*w0-z0*w1=U2,y1*w0-y0*w1=U1,x1*w0-x0*w1=U0,w0*w0*D3 x0 y0 z0 w0 x1 y1 z1 w1 x2 y2 z2 w2 x3 y3 z3 w3=D at *;have h:∀{a:Int},Bd 2001 a->Bd 10000 a:=λh=>h.mono (by decide);have h4:∀{a:Int},Bd 4003 a->Bd 100000 a:=λh=>h.mono (by decide);have h2:∀{a:Int},Bd 2001 a->Bd 100000 a:=λh=>h.mono (by decide);have en:=zN (A:=.lst [.int U0,.int U1,.int U2]) (B:=.lst [.int V0,.int V1,.int V2]) S rfl rfl (h b1) (h b2) (h b3) (h b4) (h b5) (h b6);have c1:=cb b2 b6 b3 b5;have c2:=cb b3 b4 b1 b6;have c3:=cb b1 b5 b2 b4;have ed:=Ra (A:=.lst [.int (U1*V2-U2*V1),.int (U2*V0-U0*V2),.int (U0*V1-U1*V0)]) (B:=.lst [.int T0,.int T1,.int T2]) (us:=[U1*V2-U2*V1,U2*V0-U0*V2,U0*V1-U1*V0]) (vs:=[T0,T1,T2]) S (.inl rfl) (.inl rfl) (by simp;exact⟨h4 c1,h4 c2,h4 c3⟩) (by simp;exact⟨h2 b7,h2 b8,h2 b9⟩);rw[id]at ed;generalize v3 x3 y3 z3 w3=T,v3 x2 y2 z2 w2=R,v3 x1 y1 z1 w1=Q,v3 x0 y0 z0 w0=P,U0*V1-U1*V0=N2,U2*V0-U0*V2=N1,U1*V2-U2*V1=N0 at *;have et:iG [.pv (.lst [.lst [.int U0,.int U1,.int U2],.lst [.int V0,.int V1,.int V2],.lst [.int T0,.int T1,.int T2]])] S=.ok (.pv (.int D)) S:=by
  unfold iG aR mI;simp! [aE,aV,aW,aO,aK,aN,aL,aM,aF,aJ,en,ed]
 unfold gY aR pQ;rcases hA with rfl |rfl
 .have s1:=mT P [Q,R,T]
  simp! [aE,aV,aW,aO,aK,aN,aL,aM,aF,aJ,bB,bD,bT,cF,cE,cG,eN,s1,cD,eE,dZ,gN,a1,a2,a3,et]
 .have s1:=wJ P [Q,R,T]
  simp! [aE,aV,aW,aO,aK,aN,aL,aM,aF,aJ,bB,bD,bT,cF,cE,cG,eN,s1,cD,eE,dZ,gN,a1,a2,a3,et]
theorem abR{S:aG}{k:Nat}{ns:AS}(n:Nat)(hn:n=2\/n=3)(h:fA S k ns):∃(v:PV)(ns':AS),mM [.ref k,.pv (.int n)] S=.ok (.pv v) (S.set k (.lst (ns'.map .int)))/\Gp n 100 v:=by
 obtain⟨xs,w,n1,e1,P,b1,b2⟩:=R4 n hn h;exact⟨_,n1,e1,xs,w,rfl,P.pq b1 b2⟩
theorem T6(n:Nat)(a b:Bool):aO n (.bl a) (.bl b)=some (a==b):=by
 cases n<;>rfl
theorem Gw{S:aG}{k:Nat}{ns:AS}{L:BA}(h:fA S k ns):∃(A:PV)(ns':AS),nR [.ref k,.pv (.lst L)] S=.ok (.pv A) (S.set k (.lst (ns'.map .int)))/\Sv A L:=by
 obtain⟨t,n1,e1,t0,t1,_⟩:=iZ (m:=2) h (by decide) (kY (by decide) (by decide));have tk:=Ii S k (.lst (n1.map .int));generalize hS:S.set k (.lst (n1.map .int))=S1 at e1 tk
 by_cases ht:t=1
 .subst ht
  refine⟨.tup L,n1,?_,.inr rfl⟩;rw[hS];unfold nR aR uI;simp! [aE,aV,aW,aO,aK,aN,aL,aM,aF,aJ,e1,tk]
 .refine⟨.lst L,n1,?_,.inl rfl⟩
  rw[hS];unfold nR aR uI;simp! [aE,aV,aW,aO,aK,aN,aL,aM,aF,aJ,e1,tk,ht]
def B2(x0 y0 w0 x1 y1 w1:Int):AS:=[-(y1*w0-y0*w1),x1*w0-x0*w1,x0*y1-y0*x1]
theorem J3{G:Gd}{g:GM}{me:ME}{x:PV}{r:BA}{ρ:bP}{S:aG}(h:gA G S):bZ G g me (x::r) ρ S=(match g x ρ with
  |none=>.fail
  |some ρ1=>match me ρ1 S with
   |.ok (.pv y) S1=>match bZ G g me r ρ1 S1 with
    |.ok ys S2=>.ok (y::ys) S2
    |_=>.fail
   |_=>.fail):=by
 rw[bZ,if_pos h]
 all_goals rfl
theorem Ew{G:Gd}{g:GM}{me:ME}{ρ:bP}{S:aG}(h:gA G S):bZ G g me [] ρ S=.ok [] S:=by
 rw[bZ,if_pos h]
theorem Xh(a b c x0 y0 w0 x1 y1 w1 x2 y2 w2:Int):D2 (a*x0) (a*y0) (a*w0) (b*x1) (b*y1) (b*w1) (c*x2) (c*y2) (c*w2)=a*b*c*D2 x0 y0 w0 x1 y1 w1 x2 y2 w2:=by
 unfold D2;grind
theorem Ij(a b c d x0 y0 z0 w0 x1 y1 z1 w1 x2 y2 z2 w2 x3 y3 z3 w3:Int):D3 (a*x0) (a*y0) (a*z0) (a*w0) (b*x1) (b*y1) (b*z1) (b*w1) (c*x2) (c*y2) (c*z2) (c*w2) (d*x3) (d*y3) (d*z3) (d*w3)=a*b*c*d*D3 x0 y0 z0 w0 x1 y1 z1 w1 x2 y2 z2 w2 x3 y3 z3 w3:=by
 unfold D3;grind
structure R2(x y w X Y D:Int):Prop where
 pos:0<w
 dos:0<D
 ex:x*D=X*w
 ey:y*D=Y*w
theorem aaw{n k l:Nat}{xs ys:AS}{w v:Int}(hn:n=2\/n=3)(P:Pq n k xs w)(Q:Pq n l ys v)(hk:k<=2000)(hl:l<=2000):∃(zs:AS)(z:Int),(∀S,nK [.pv (.tup ((xs++[w]).map .int)),.pv (.tup ((ys++[v]).map .int))] S=.ok (.pv (.tup ((zs++[z]).map .int))) S)/\Pq n (l+k+1) zs z/\∀j,j<n->zs.getD j 0*(w*v)=(xs.getD j 0*v-ys.getD j 0*w)*z:=by
 obtain⟨zs,z,e,R,vl⟩:=Kp (way:=-1) (.inr rfl) Q P;refine⟨zs,z,λS=>?_,R,λj hj=>?_⟩
 .have h:=Wr S (P.len.trans Q.len.symm) (by rw[P.len];omega) P.pos Q.pos (λx hx=>(P.bx x hx).mono hk) (λx hx=>(Q.bx x hx).mono hl) (P.bw.mono hk) (Q.bw.mono hl)
  have e2:mv (-1) ys v xs w=low (sm xs w (ys.map (- ·)) v++[w*v]):=if_neg (by decide);rw[<-e2,e]at h;exact h
 .have h:=vl _ _ _ _ (Vl.self n ys v) (Vl.self n xs w) Q.pos P.pos j hj
  dsimp only at h;have c:w*v=v*w:=db w v;rw[c,h];congr 1;grind
theorem Pq.p2{k:Nat}{x y w:Int}(P:Pq 2 k [x,y] w)(h:k<=1000):P2 x y w:=⟨(P.bx x (by simp)).mono h,(P.bx y (by simp)).mono h,P.bw.mono h,P.pos⟩
theorem Pq.p3{k:Nat}{x y z w:Int}(P:Pq 3 k [x,y,z] w)(h:k<=1000):P3 x y z w:=⟨(P.bx x (by simp)).mono h,(P.bx y (by simp)).mono h,(P.bx z (by simp)).mono h,P.bw.mono h,P.pos⟩
def tG:BA->Int
 |[.tup [.int x0,.int y0,.int w0],.tup [.int x1,.int y1,.int w1],.tup [.int x2,.int y2,.int w2]]=>sg (D2 x0 y0 w0 x1 y1 w1 x2 y2 w2)
 |[.tup [.int x0,.int y0,.int z0,.int w0],.tup [.int x1,.int y1,.int z1,.int w1],.tup [.int x2,.int y2,.int z2,.int w2],.tup [.int x3,.int y3,.int z3,.int w3]]=>sg (D3 x0 y0 z0 w0 x1 y1 z1 w1 x2 y2 z2 w2 x3 y3 z3 w3)
 |_=>0
theorem B8{n:Nat}(hn:n=2\/n=3){A:PV}{L:BA}(S:aG)(hl:L.length=n+1)(hg:∀v∈L,Gp n 1000 v)(hA:Sv A L):mL [.pv A] S=.ok (.pv (.int (tG L))) S:=by
 rcases hn with rfl |rfl
 .match L,hl with
  |[P,Q,R],_=>
   obtain⟨x0,y0,w0,rfl,p⟩:=(hg P (by simp)).two;obtain⟨x1,y1,w1,rfl,q⟩:=(hg Q (by simp)).two;obtain⟨x2,y2,w2,rfl,r⟩:=(hg R (by simp)).two;exact Xx S hA p q r
 .match L,hl with
  |[P,Q,R,T],_=>
   obtain⟨x0,y0,z0,w0,rfl,p⟩:=(hg P (by simp)).three;obtain⟨x1,y1,z1,w1,rfl,q⟩:=(hg Q (by simp)).three;obtain⟨x2,y2,z2,w2,rfl,r⟩:=(hg R (by simp)).three;obtain⟨x3,y3,z3,w3,rfl,s⟩:=(hg T (by simp)).three;exact Py S hA p q r s
theorem Wn(D:Int):sg (-D)=-sg D:=by
 unfold sg;split<;>split<;>(try split)<;>(try split)<;>omega
abbrev tv(us:AS):PV:=.tup (us.map .int)
def Gu(n k:Nat)(us:AS):Prop:=∃xs w,us=xs++[w]/\Pq n k xs w
theorem Gu.gp{n k:Nat}{us:AS}(h:Gu n k us):Gp n k (tv us):=by
 obtain⟨xs,w,rfl,P⟩:=h;exact⟨xs,w,rfl,P⟩
theorem Gu.ne{n k:Nat}{us:AS}(h:Gu n k us):us≠[]:=by
 obtain⟨xs,w,rfl,P⟩:=h;simp
theorem Rq{n k:Nat}{uss:AT}(h:∀us∈uss,Gu n k us):∀v∈uss.map tv,Gp n k v:=λv hv=>by
 obtain⟨us,hu,rfl⟩:=ax.mp hv;exact(h us hu).gp
theorem Ve:∀uss:AT,mP (uss.map tv)=some uss
 |[]=>rfl
 |us::uss=>by
  have ih:=Ve uss;show(match iB (us.map .int),mP (uss.map tv)with |some is,some uss=>some (is::uss) |_,_=>none)=_
  rw[ih,pA]
theorem Ih{uss:AT}{n:Nat}(hl:uss.length=n)(hp:(dP uss).Perm (ak n)):Vb (uss.map tv) uss=(fI uss).map tv:=by
 unfold Vb fI;rw[dg];refine ij λi hi=>?_;have h:i<uss.length:=by
  have:=hp.subset hi;rw[hl];simpa using this
 simp[cy,h]
theorem Dt{A:PV}{uss:AT}(hl:uss.length=3\/uss.length=4)(hA:Sv A (uss.map tv))(hne:∀us∈uss,us≠[]):rO [A]=some (.lst ((fI uss).map tv)):=by
 have e:qC (uss.map tv)=some (.lst ((fI uss).map tv)):=by
  unfold qC;rw[Ve];dsimp only;rcases hl with h |h
  .obtain⟨_,hp,_⟩:=Yk h
   rw[if_pos (show Bc uss from⟨by omega,by omega,by rw[h];exact To,by rw[hp.length_eq];simp,hne⟩),Ih h hp]
  .obtain⟨_,hp,_⟩:=Hk h
   rw[if_pos (show Bc uss from⟨by omega,by omega,by rw[h];exact Qo,by rw[hp.length_eq];simp,hne⟩),Ih h hp]
 rcases hA with rfl |rfl
 .exact e
 .exact e
def oM{α:Type}:List α->List α
 |[a,b,c]=>[a,c,b]
 |[a,b,c,d]=>[a,b,d,c]
 |l=>l
theorem Iz{α β:Type}(f:α->β)(l:List α):(oM l).map f=oM (l.map f):=by
 rcases l with _ |⟨a,_ |⟨b,_ |⟨c,_ |⟨d,_ |⟨e,l⟩⟩⟩⟩⟩<;>rfl
theorem Yx{α:Type}(l:List α):(oM l).Perm l:=by
 unfold oM;split
 .exact .cons _ (.swap _ _ _)
 .exact .cons _ (.cons _ (.swap _ _ _))
 .exact .refl _
def dU:AT->Int
 |[[x0,y0,w0],[x1,y1,w1],[x2,y2,w2]]=>D2 x0 y0 w0 x1 y1 w1 x2 y2 w2
 |[[x0,y0,z0,w0],[x1,y1,z1,w1],[x2,y2,z2,w2],[x3,y3,z3,w3]]=>D3 x0 y0 z0 w0 x1 y1 z1 w1 x2 y2 z2 w2 x3 y3 z3 w3
 |_=>0
theorem Gu.two{k:Nat}{us:AS}(h:Gu 2 k us)(hk:k<=1000):∃x y w,us=[x,y,w]/\P2 x y w:=by
 obtain⟨xs,w,rfl,P⟩:=h
 match xs,P.len,P with
 |[x,y],_,P=>exact⟨x,y,w,rfl,P.p2 hk⟩
theorem Gu.three{k:Nat}{us:AS}(h:Gu 3 k us)(hk:k<=1000):∃x y z w,us=[x,y,z,w]/\P3 x y z w:=by
 obtain⟨xs,w,rfl,P⟩:=h
 match xs,P.len,P with
 |[x,y,z],_,P=>exact⟨x,y,z,w,rfl,P.p3 hk⟩
theorem Co{n k:Nat}(hn:n=2\/n=3)(hk:k<=1000){uss:AT}(hl:uss.length=n+1)(hg:∀us∈uss,Gu n k us):tG (uss.map tv)=sg (dU uss):=by
 rcases hn with rfl |rfl
 .match uss,hl with
  |[a,b,c],_=>
   obtain⟨x0,y0,w0,rfl,_⟩:=(hg a (by simp)).two hk;obtain⟨x1,y1,w1,rfl,_⟩:=(hg b (by simp)).two hk;obtain⟨x2,y2,w2,rfl,_⟩:=(hg c (by simp)).two hk;rfl
 .match uss,hl with
  |[a,b,c,d],_=>
   obtain⟨x0,y0,z0,w0,rfl,_⟩:=(hg a (by simp)).three hk;obtain⟨x1,y1,z1,w1,rfl,_⟩:=(hg b (by simp)).three hk;obtain⟨x2,y2,z2,w2,rfl,_⟩:=(hg c (by simp)).three hk;obtain⟨x3,y3,z3,w3,rfl,_⟩:=(hg d (by simp)).three hk;rfl
def Pw(n:Nat)(us:AS):Prop:=∃xs w,us=xs++[w]/\xs.length=n/\0<w
theorem Pw.two{us:AS}(h:Pw 2 us):∃x y w,us=[x,y,w]/\0<w:=by
 obtain⟨xs,w,rfl,l,p⟩:=h
 match xs,l with
 |[x,y],_=>exact⟨x,y,w,rfl,p⟩
theorem Pw.three{us:AS}(h:Pw 3 us):∃x y z w,us=[x,y,z,w]/\0<w:=by
 obtain⟨xs,w,rfl,l,p⟩:=h
 match xs,l with
 |[x,y,z],_=>exact⟨x,y,z,w,rfl,p⟩
theorem Gu.pt{n k:Nat}{us:AS}(h:Gu n k us):Pw n us:=by
 obtain⟨xs,w,e,P⟩:=h;exact⟨xs,w,e,P.len,P.pos⟩
theorem dU2{x0 y0 w0 x1 y1 w1 x2 y2 w2:Int}:dU [[x0,y0,w0],[x1,y1,w1],[x2,y2,w2]]=D2 x0 y0 w0 x1 y1 w1 x2 y2 w2:=rfl
theorem dU3{x0 y0 z0 w0 x1 y1 z1 w1 x2 y2 z2 w2 x3 y3 z3 w3:Int}:dU [[x0,y0,z0,w0],[x1,y1,z1,w1],[x2,y2,z2,w2],[x3,y3,z3,w3]]=D3 x0 y0 z0 w0 x1 y1 z1 w1 x2 y2 z2 w2 x3 y3 z3 w3:=rfl
theorem Dk{n:Nat}(hn:n=2\/n=3){pre l:AT}{x y:AS}(hl:(pre++y::x::l).length=n+1)(hp:∀u∈pre++y::x::l,Pw n u):dU (pre++x::y::l)=-dU (pre++y::x::l):=by
 have hx:=hp x (by simp);have hy:=hp y (by simp);rcases hn with rfl |rfl
 .obtain⟨x0,y0,w0,rfl,_⟩:=hx.two
  obtain⟨x1,y1,w1,rfl,_⟩:=hy.two;have fin:∀c∈pre++l,∃x y w,c=[x,y,w]:=λc hc=>by
   obtain⟨x,y,w,e,_⟩:=(hp c (by simp at hc⊢;rcases hc with h |h<;>simp[h])).two;exact⟨x,y,w,e⟩
  match pre,l,hl,fin with
  |[],[c],_,fin |[c],[],_,fin=>
   obtain⟨x2,y2,w2,rfl⟩:=fin c (by simp);simp only[ib,jq,dU2,D2];grind
  |[],[],h,_=>simp at h
  |[],_::_::_,h,_=>simp at h
  |_::_::_,_,h,_=>simp at h;omega
  |[_],_::_,h,_=>simp at h
 .obtain⟨x0,y0,z0,w0,rfl,_⟩:=hx.three
  obtain⟨x1,y1,z1,w1,rfl,_⟩:=hy.three;have fin:∀c∈pre++l,∃x y z w,c=[x,y,z,w]:=λc hc=>by
   obtain⟨x,y,z,w,e,_⟩:=(hp c (by simp at hc⊢;rcases hc with h |h<;>simp[h])).three;exact⟨x,y,z,w,e⟩
  match pre,l,hl,fin with
  |[],[c,d],_,fin |[c],[d],_,fin |[c,d],[],_,fin=>
   obtain⟨x2,y2,z2,w2,rfl⟩:=fin c (by simp);obtain⟨x3,y3,z3,w3,rfl⟩:=fin d (by simp);simp only[ib,jq,dU3,D3];grind
  |[],[],h,_=>simp at h
  |[],[_],h,_=>simp at h
  |[],_::_::_::_,h,_=>simp at h
  |[_],[],h,_=>simp at h
  |[_],_::_::_,h,_=>simp at h
  |[_,_],_::_,h,_=>simp at h
  |_::_::_::_,_,h,_=>simp at h;omega
theorem E5{n:Nat}(hn:n=2\/n=3){A B:AT}(h:A.Perm B):∀pre:AT,(pre++A).length=n+1->(∀u∈pre++A,Pw n u)->dU (pre++B)=dU (pre++A)\/dU (pre++B)=-dU (pre++A):=by
 induction h with
 |nil=>exact λpre _ _=>.inl rfl
 |cons x _ ih=>
  intro pre hl hp;have:=ih (pre++[x]) (by simpa using hl) (by simpa using hp);simpa using this
 |swap x y l=>exact λpre hl hp=>.inr (Dk hn hl hp)
 |trans h1 h2 ih1 ih2=>
  intro pre hl hp;have q1:=ih1 pre hl hp;have q2:=ih2 pre (by rw[<-(h1.append_left pre).length_eq];exact hl) λu hu=>hp u ((h1.append_left pre).mem_iff.mpr hu);omega
theorem E3{n k:Nat}(hn:n=2\/n=3)(hk:k<=1000){uss:AT}(hl:uss.length=n+1)(hg:∀us∈uss,Gu n k us):dU (fI uss)=dU uss\/dU (fI uss)=-dU uss:=
 E5 hn (uC (by omega)).1.symm [] hl λu hu=>(hg u hu).pt
theorem No{n:Nat}(hn:n=2\/n=3){uss:AT}(hl:uss.length=n+1):uss.length=3\/uss.length=4:=by
 rcases hn with rfl |rfl
 .exact .inl hl
 .exact .inr hl
theorem K9{n:Nat}(hn:n=2\/n=3){A:PV}{L:BA}(S:aG)(hl:L.length=n+1)(hg:∀v∈L,Gp n 1000 v)(hA:Sv A L):∃d:Int,gY [.pv A] S=.ok (.pv (.int d)) S/\sg d=tG L:=by
 rcases hn with rfl |rfl
 .match L,hl with
  |[P,Q,R],_=>
   obtain⟨x0,y0,w0,rfl,p⟩:=(hg P (by simp)).two;obtain⟨x1,y1,w1,rfl,q⟩:=(hg Q (by simp)).two;obtain⟨x2,y2,w2,rfl,r⟩:=(hg R (by simp)).two;exact⟨_,Ki S hA p q r,pP p.pos⟩
 .match L,hl with
  |[P,Q,R,T],_=>
   obtain⟨x0,y0,z0,w0,rfl,p⟩:=(hg P (by simp)).three;obtain⟨x1,y1,z1,w1,rfl,q⟩:=(hg Q (by simp)).three;obtain⟨x2,y2,z2,w2,rfl,r⟩:=(hg R (by simp)).three;obtain⟨x3,y3,z3,w3,rfl,s⟩:=(hg T (by simp)).three;exact⟨_,Dj S hA p q r s,pP (aq p.pos p.pos)⟩
def lS(uss:AT):AT:=if tG ((fI uss).map tv)<0 then oM (fI uss)else fI uss
theorem abd{n:Nat}(hn:n=2\/n=3){L:BA}(hl:L.length=n+1):∃a b M,gB (.lst L) none (some (-2))=some (.lst M)/\aE (.lst L) (.int (-1))=some a/\aE (.lst L) (.int (-2))=some b/\aF (.lst M) (.lst [a,b])=some (.lst (oM L)):=by
 rcases hn with rfl |rfl
 .match L,hl with
  |[P,Q,R],_=>exact⟨R,Q,[P],rfl,rfl,rfl,rfl⟩
 .match L,hl with
  |[P,Q,R,T],_=>exact⟨T,R,[P,Q],rfl,rfl,rfl,rfl⟩
theorem Ks{n:Nat}(hn:n=2\/n=3){A:PV}{a:AV}{uss:AT}(S:aG)(ha:rd S a=some A)(hl:uss.length=n+1)(hg:∀us∈uss,Gu n 1000 us)(hA:Sv A (uss.map tv)):nP [a] S=.ok (.pv (.tup ((lS uss).map tv))) S:=by
 have h34:uss.length=3\/uss.length=4:=by omega
 have e1:=Dt h34 hA λus hu=>(hg us hu).ne;obtain⟨pm,_⟩:=uC h34;have hl2:((fI uss).map tv).length=n+1:=by rw[aj,pm.length_eq];exact hl
 have hg2:∀v∈(fI uss).map tv,Gp n 1000 v:=Rq λus hu=>hg us (pm.subset hu);obtain⟨d,e2,hd⟩:=K9 (A:=.lst ((fI uss).map tv)) hn S hl2 hg2 (.inl rfl);obtain⟨a1,b1,M,t1,t2,t3,t4⟩:=abd hn hl2;unfold lS;have hlt:d<0↔tG ((fI uss).map tv)<0:=by
  rw[<-hd];unfold sg;split
  .omega
  .split<;>omega
 by_cases h:d<0
 .rw[if_pos (hlt.mp h),Iz]
  generalize (fI uss).map tv=L at *;unfold nP aR tX;simp! [-rd,rd.eq_1,bC,aK,aN,aL,aM,aJ,ha,e1,e2,h,cF,cE,cG,eN,t1,t2,t3,t4]
 .rw[if_neg (λz=>h (hlt.mpr z))]
  generalize (fI uss).map tv=L at *;unfold nP aR tX;simp! [-rd,rd.eq_1,bC,aK,aN,aL,aM,aJ,ha,e1,e2,h]
theorem Hs{n:Nat}(hn:n=2\/n=3){A:PV}{uss:AT}(S:aG)(hl:uss.length=n+1)(hg:∀us∈uss,Gu n 1000 us)(hA:Sv A (uss.map tv)):nP [.pv A] S=.ok (.pv (.tup ((lS uss).map tv))) S:=Ks hn S rfl hl hg hA
theorem Sx{uss:AT}(h:uss.length=3\/uss.length=4):(lS uss).Perm uss:=by
 obtain⟨pm,_⟩:=uC h;unfold lS;split
 .exact(Yx _).trans pm
 .exact pm
theorem Q0{S:aG}{k j:Nat}{xs:BA}{v:PV}(hS:S[k]?=some (.lst xs))(hv:xs[j]?=some v)(hj:j<1000):oI k [.pv (.int (j:Int))] S=.ok (.pv v) (S.set k (.lst (xs.eraseIdx j))):=by
 have hl:=(cq.mp hv).1;have e:seqIndex? (j:Int) xs.length=some j:=by
  unfold seqIndex?;have h1:¬((j:Int)<0):=by omega
  have h2:(decide (0<=(j:Int))&&decide ((j:Int)<(xs.length:Int)))=true:=by
   simp only[ji,decide_eq_true_eq];omega
  simp only[h1,if_false];rw[if_pos h2,qs]
 unfold oI;dsimp only;rw[if_pos ⟨by omega,by omega⟩,hS];dsimp only;rw[e];dsimp only;rw[hv]
def wU:AT->Int
 |[]=>1
 |us::r=>us.getLastD 0*wU r
theorem Gu.mono{n k l:Nat}{us:AS}(h:Gu n k us)(hl:k<=l):Gu n l us:=by
 obtain⟨xs,w,e,P⟩:=h;exact⟨xs,w,e,P.mono hl⟩
theorem Ro{d:Int}:sg d<0↔d<0:=by
 unfold sg;split
 .omega
 .split<;>omega
theorem Y4{n k:Nat}(hn:n=2\/n=3)(hk:k<=1000){uss:AT}(hl:uss.length=n+1)(hg:∀us∈uss,Gu n k us):dU (oM uss)=-dU uss:=by
 rcases hn with rfl |rfl
 .match uss,hl with
  |[a,b,c],_=>
   obtain⟨x0,y0,w0,rfl,_⟩:=(hg a (by simp)).two hk;obtain⟨x1,y1,w1,rfl,_⟩:=(hg b (by simp)).two hk;obtain⟨x2,y2,w2,rfl,_⟩:=(hg c (by simp)).two hk;show D2 x0 y0 w0 x2 y2 w2 x1 y1 w1=-(D2 x0 y0 w0 x1 y1 w1 x2 y2 w2);unfold D2;grind
 .match uss,hl with
  |[a,b,c,d],_=>
   obtain⟨x0,y0,z0,w0,rfl,_⟩:=(hg a (by simp)).three hk;obtain⟨x1,y1,z1,w1,rfl,_⟩:=(hg b (by simp)).three hk;obtain⟨x2,y2,z2,w2,rfl,_⟩:=(hg c (by simp)).three hk;obtain⟨x3,y3,z3,w3,rfl,_⟩:=(hg d (by simp)).three hk;show D3 x0 y0 z0 w0 x1 y1 z1 w1 x3 y3 z3 w3 x2 y2 z2 w2=-(D3 x0 y0 z0 w0 x1 y1 z1 w1 x2 y2 z2 w2 x3 y3 z3 w3);unfold D3;grind
theorem U6{n k:Nat}(hn:n=2\/n=3)(hk:k<=1000){uss:AT}(hl:uss.length=n+1)(hg:∀us∈uss,Gu n k us):dU (lS uss)=((dU uss).natAbs:Int):=by
 have hp:=(uC (No hn hl)).1;have gs:∀us∈fI uss,Gu n k us:=λus hu=>hg us (hp.subset hu);have ls:(fI uss).length=n+1:=by rw[hp.length_eq,hl]
 have e:=E3 hn hk hl hg;have s:=Y4 hn hk ls gs;have q:=Co hn hk ls gs;unfold lS;split
 .rename_i h
  rw[q,Ro]at h;rw[s];omega
 .rename_i h
  rw[q,Ro]at h;omega
theorem pU{n k:Nat}:∀{uss:AT},(∀us∈uss,Gu n k us)->0<wU uss
 |[],_=>by decide
 |us::r,h=>by
  unfold wU;obtain⟨xs,w,rfl,P⟩:=h us bo;refine aq ?_ (pU λu hu=>h u (ay _ hu));rw[show(xs++[w]).getLastD 0=w by simp];exact P.pos
abbrev px(uss:AT):PV:=.tup (uss.map tv)
def gS(n:Nat)(A C:Nat->Int)(E:Int)(us us':AS):Prop:=∃xs w xs' w',us=xs++[w]/\us'=xs'++[w']/\xs.length=n/\xs'.length=n/\0<w/\0<w'/\∀j,j<n->xs'.getD j 0*(E*w)=(A j*xs.getD j 0+C j*w)*w'
theorem gS.two{A C:Nat->Int}{E:Int}{us us':AS}(h:gS 2 A C E us us'):∃x y w x' y' w',us=[x,y,w]/\us'=[x',y',w']/\x'*(E*w)=(A 0*x+C 0*w)*w'/\y'*(E*w)=(A 1*y+C 1*w)*w':=by
 obtain⟨xs,w,xs',w',rfl,rfl,l,l',_,_,h⟩:=h
 match xs,l,xs',l',h with
 |[x,y],_,[x',y'],_,h=>exact⟨x,y,w,x',y',w',rfl,rfl,h 0 (by decide),h 1 (by decide)⟩
theorem gS.three{A C:Nat->Int}{E:Int}{us us':AS}(h:gS 3 A C E us us'):∃x y z w x' y' z' w',us=[x,y,z,w]/\us'=[x',y',z',w']/\x'*(E*w)=(A 0*x+C 0*w)*w'/\y'*(E*w)=(A 1*y+C 1*w)*w'/\z'*(E*w)=(A 2*z+C 2*w)*w':=by
 obtain⟨xs,w,xs',w',rfl,rfl,l,l',_,_,h⟩:=h
 match xs,l,xs',l',h with
 |[x,y,z],_,[x',y',z'],_,h=>exact⟨x,y,z,w,x',y',z',w',rfl,rfl,h 0 (by decide),h 1 (by decide),h 2 (by decide)⟩
theorem abe(a b c d E x0 y0 w0 x1 y1 w1 x2 y2 w2:Int):D2 (a*x0+c*w0) (b*y0+d*w0) (E*w0) (a*x1+c*w1) (b*y1+d*w1) (E*w1) (a*x2+c*w2) (b*y2+d*w2) (E*w2)=a*b*E*D2 x0 y0 w0 x1 y1 w1 x2 y2 w2:=by
 unfold D2;grind
theorem Z5(a b p c d e E x0 y0 z0 w0 x1 y1 z1 w1 x2 y2 z2 w2 x3 y3 z3 w3:Int):D3 (a*x0+c*w0) (b*y0+d*w0) (p*z0+e*w0) (E*w0) (a*x1+c*w1) (b*y1+d*w1) (p*z1+e*w1) (E*w1) (a*x2+c*w2) (b*y2+d*w2) (p*z2+e*w2) (E*w2) (a*x3+c*w3) (b*y3+d*w3) (p*z3+e*w3) (E*w3)=a*b*p*E*D3 x0 y0 z0 w0 x1 y1 z1 w1 x2 y2 z2 w2 x3 y3 z3 w3:=by
 unfold D3;grind
theorem cm(a b:Int){c:Int}(h:a*b=c):b*a=c:=by rw[db];exact h
theorem Tc{A C:Nat->Int}{E:Int}{P Q R P' Q' R':AS}(h0:gS 2 A C E P P')(h1:gS 2 A C E Q Q')(h2:gS 2 A C E R R'):dU [P',Q',R']*(E*E*E*wU [P,Q,R])=A 0*A 1*E*dU [P,Q,R]*wU [P',Q',R']:=by
 obtain⟨x0,y0,w0,X0,Y0,W0,rfl,rfl,p,q⟩:=h0.two;obtain⟨x1,y1,w1,X1,Y1,W1,rfl,rfl,p1,q1⟩:=h1.two;obtain⟨x2,y2,w2,X2,Y2,W2,rfl,rfl,p2,q2⟩:=h2.two;have e:=Xh (E*w0) (E*w1) (E*w2) X0 Y0 W0 X1 Y1 W1 X2 Y2 W2;have f:=Xh W0 W1 W2 (A 0*x0+C 0*w0) (A 1*y0+C 1*w0) (E*w0) (A 0*x1+C 0*w1) (A 1*y1+C 1*w1) (E*w1) (A 0*x2+C 0*w2) (A 1*y2+C 1*w2) (E*w2);rw[abe]at f;rw[cm _ _ p,cm _ _ q,cm _ _ p1,cm _ _ q1,cm _ _ p2,cm _ _ q2,db _ W0,db _ W0,db _ W0,db _ W1,db _ W1,db _ W1,db _ W2,db _ W2,db _ W2]at e;have g:=e.symm.trans f;show D2 X0 Y0 W0 X1 Y1 W1 X2 Y2 W2*(E*E*E*(w0*(w1*(w2*1))))=A 0*A 1*E*D2 x0 y0 w0 x1 y1 w1 x2 y2 w2*(W0*(W1*(W2*1)));generalize D2 X0 Y0 W0 X1 Y1 W1 X2 Y2 W2=d at g⊢;generalize D2 x0 y0 w0 x1 y1 w1 x2 y2 w2=d' at g⊢;clear e f p q p1 q1 p2 q2 h0 h1 h2;grind
theorem Rc{A C:Nat->Int}{E:Int}{P Q R T P' Q' R' T':AS}(h0:gS 3 A C E P P')(h1:gS 3 A C E Q Q')(h2:gS 3 A C E R R')(h3:gS 3 A C E T T'):dU [P',Q',R',T']*(E*E*E*E*wU [P,Q,R,T])=A 0*A 1*A 2*E*dU [P,Q,R,T]*wU [P',Q',R',T']:=by
 obtain⟨x0,y0,z0,w0,X0,Y0,Z0,W0,rfl,rfl,p,q,r⟩:=h0.three;obtain⟨x1,y1,z1,w1,X1,Y1,Z1,W1,rfl,rfl,p1,q1,r1⟩:=h1.three;obtain⟨x2,y2,z2,w2,X2,Y2,Z2,W2,rfl,rfl,p2,q2,r2⟩:=h2.three;obtain⟨x3,y3,z3,w3,X3,Y3,Z3,W3,rfl,rfl,p3,q3,r3⟩:=h3.three;have e:=Ij (E*w0) (E*w1) (E*w2) (E*w3) X0 Y0 Z0 W0 X1 Y1 Z1 W1 X2 Y2 Z2 W2 X3 Y3 Z3 W3;have f:=Ij W0 W1 W2 W3 (A 0*x0+C 0*w0) (A 1*y0+C 1*w0) (A 2*z0+C 2*w0) (E*w0) (A 0*x1+C 0*w1) (A 1*y1+C 1*w1) (A 2*z1+C 2*w1) (E*w1) (A 0*x2+C 0*w2) (A 1*y2+C 1*w2) (A 2*z2+C 2*w2) (E*w2) (A 0*x3+C 0*w3) (A 1*y3+C 1*w3) (A 2*z3+C 2*w3) (E*w3);rw[Z5]at f;rw[cm _ _ p,cm _ _ q,cm _ _ r,cm _ _ p1,cm _ _ q1,cm _ _ r1,cm _ _ p2,cm _ _ q2,cm _ _ r2,cm _ _ p3,cm _ _ q3,cm _ _ r3]at e;have cW:∀a W:Int,a*W=W*a:=db;rw[cW _ W0,cW _ W0,cW _ W0,cW _ W0,cW _ W1,cW _ W1,cW _ W1,cW _ W1,cW _ W2,cW _ W2,cW _ W2,cW _ W2,cW _ W3,cW _ W3,cW _ W3,cW _ W3]at e;have g:=e.symm.trans f;show D3 X0 Y0 Z0 W0 X1 Y1 Z1 W1 X2 Y2 Z2 W2 X3 Y3 Z3 W3*(E*E*E*E*(w0*(w1*(w2*(w3*1)))))=A 0*A 1*A 2*E*D3 x0 y0 z0 w0 x1 y1 z1 w1 x2 y2 z2 w2 x3 y3 z3 w3*(W0*(W1*(W2*(W3*1))));generalize D3 X0 Y0 Z0 W0 X1 Y1 Z1 W1 X2 Y2 Z2 W2 X3 Y3 Z3 W3=d at g⊢;generalize D3 x0 y0 z0 w0 x1 y1 z1 w1 x2 y2 z2 w2 x3 y3 z3 w3=d' at g⊢;clear e f p q r p1 q1 r1 p2 q2 r2 p3 q3 r3 h0 h1 h2 h3 cW;grind
def fD(way:Int)(f us:AS):AS:=mv way us.dropLast (us.getLastD 0) f.dropLast (f.getLastD 0)
theorem Lm(way:Int)(xs:AS)(w:Int)(ys:AS)(v:Int):fD way (ys++[v]) (xs++[w])=mv way xs w ys v:=by
 unfold fD;simp
theorem jA{n k l:Nat}{way:Int}{us f:AS}(hway:way=1\/way=-1)(h:Gu n k us)(g:Gu n l f):Gu n (k+l+1) (fD way f us)/\gS n (λ_=>way*f.getLastD 0) (λj=>f.getD j 0) (f.getLastD 0) us (fD way f us):=by
 obtain⟨xs,w,rfl,P⟩:=h;obtain⟨ys,v,rfl,Q⟩:=g;rw[Lm];obtain⟨zs,z,e,Z,hv⟩:=Kp hway P Q;rw[e];refine⟨⟨zs,z,rfl,Z⟩,xs,w,zs,z,rfl,rfl,P.len,Z.len,P.pos,Z.pos,λj hj=>?_⟩;have a:=hv _ _ _ _ (Vl.self n xs w) (Vl.self n ys v) P.pos Q.pos j hj;rw[show(ys++[v]).getLastD 0=v by simp];have eg:(ys++[v]).getD j 0=ys.getD j 0:=by
  have:j<ys.length:=by rw[Q.len];exact hj
  simp[cy,ft this]
 dsimp only at a⊢;rw[eg];generalize ys.getD j 0=y at a⊢;generalize xs.getD j 0=x at a⊢;generalize zs.getD j 0=t at a⊢;rw[db v w,a];grind
theorem Lk{n k l:Nat}{way:Int}{us f:AS}(S:aG)(hn:n=2\/n=3)(hway:way=1\/way=-1)(h:Gu n k us)(g:Gu n l f)(hk:k<=1000)(hl:l<=1000):kN [.pv (tv us),.pv (tv f),.pv (.int way)] S=.ok (.pv (tv (fD way f us))) S:=by
 obtain⟨xs,w,rfl,P⟩:=h;obtain⟨ys,v,rfl,Q⟩:=g;rw[Lm];exact Jz S hn hway P Q hk hl
theorem Tu{a b w v:Int}(hw:0<w)(hv:0<v)(h:a*w=b*v\/a*w=-(b*v)):(a.natAbs:Int)*w=(b.natAbs:Int)*v:=by
 have e:(a*w).natAbs=(b*v).natAbs:=by
  rcases h with h |h
  .rw[h]
  .rw[h,a8]
 rw[sv,sv]at e;have e1:((w.natAbs:Nat):Int)=w:=by omega
 have e2:((v.natAbs:Nat):Int)=v:=by omega
 have e3:((a.natAbs*w.natAbs:Nat):Int)=((b.natAbs*v.natAbs:Nat):Int):=by rw[e]
 rw[t7,t7,e1,e2]at e3;exact e3
theorem abM{v d d' w w':Int}{way:Int}(hv:0<v)(hway:way=1\/way=-1)(h:d'*(v*v*v*w)=way*v*(way*v)*v*d*w'):d'*w=d*w':=by
 have e:(d'*w)*(v*v*v)=(d*w')*(v*v*v):=by rcases hway with rfl |rfl<;>grind
 exact rW (aq (aq hv hv) hv) e
theorem abq{v d d' w w':Int}{way:Int}(hv:0<v)(hway:way=1\/way=-1)(h:d'*(v*v*v*v*w)=way*v*(way*v)*(way*v)*v*d*w'):d'*w=d*w'\/d'*w=-(d*w'):=by
 have p:=aq (aq (aq hv hv) hv) hv;rcases hway with rfl |rfl
 .left
  have e:(d'*w)*(v*v*v*v)=(d*w')*(v*v*v*v):=by grind
  exact rW p e
 .right
  have e:(d'*w)*(v*v*v*v)=(-(d*w'))*(v*v*v*v):=by grind
  exact rW p e
theorem Kb{n k l:Nat}{way:Int}{f:AS}{uss:AT}(hway:way=1\/way=-1)(hg:∀us∈uss,Gu n k us)(g:Gu n l f):∀us∈uss.map (fD way f),Gu n (k+l+1) us:=λus hu=>by
 obtain⟨u,hm,rfl⟩:=ax.mp hu;exact(jA hway (hg u hm) g).1
theorem Gu.lastpos{n k:Nat}{f:AS}(h:Gu n k f):0<f.getLastD 0:=by
 obtain⟨xs,w,rfl,P⟩:=h;rw[show(xs++[w]).getLastD 0=w by simp];exact P.pos
theorem U8{n k l:Nat}(hn:n=2\/n=3){way:Int}{f:AS}{uss:AT}(hway:way=1\/way=-1)(hl:uss.length=n+1)(hg:∀us∈uss,Gu n k us)(g:Gu n l f):((dU (uss.map (fD way f))).natAbs:Int)*wU uss=((dU uss).natAbs:Int)*wU (uss.map (fD way f)):=by
 have hv:=g.lastpos;have p1:=pU hg;have p2:=pU (Kb hway hg g);refine Tu p1 p2 ?_;rcases hn with rfl |rfl
 .match uss,hl,hg with
  |[a,b,c],_,hg=>
   have e:=Tc (jA hway (hg a (by simp)) g).2 (jA hway (hg b (by simp)) g).2 (jA hway (hg c (by simp)) g).2;exact .inl (abM hv hway e)
 .match uss,hl,hg with
  |[a,b,c,d],_,hg=>
   have e:=Rc (jA hway (hg a (by simp)) g).2 (jA hway (hg b (by simp)) g).2 (jA hway (hg c (by simp)) g).2 (jA hway (hg d (by simp)) g).2;exact abq hv hway e
theorem aaL{n k l:Nat}(hn:n=2\/n=3){way:Int}{f:AS}{uss:AT}(hway:way=1\/way=-1)(hl:uss.length=n+1)(hg:∀us∈uss,Gu n k us)(g:Gu n l f)(h:dU uss≠0):dU (uss.map (fD way f))≠0:=λz=>by
 have e:=U8 hn hway hl hg g;rw[z]at e;have p2:=pU (Kb hway hg g);have:((dU uss).natAbs:Int)*wU (uss.map (fD way f))≠0:=kz (by omega) (jl p2);exact this (by rw[<-e];simp)
theorem jJ{G:Gd}{S:aG}(hG:gA G S){me:ME}{tail:bP}{α:Type}(A B:α->PV):∀(L:List α)(x:BC),(∀v∈L,me (some (.pv (A v))::tail) S=.ok (.pv (B v)) S)->bZ G (gN 0) me (L.map A) (x::tail) S=.ok (L.map B) S
 |[],x,_=>Ew hG
 |v::L,x,h=>by
  have e:=h v bo;have e':=jJ hG A B L (some (.pv (A v))) λu hu=>h u (ay _ hu);rw[av,J3 hG];simp[gN,e,e']
theorem aaF{k:Nat}{x0 y0 w0 x1 y1 w1 x2 y2 w2:Int}(a0:Bd k x0)(b0:Bd k y0)(c0:Bd k w0)(a1:Bd k x1)(b1:Bd k y1)(c1:Bd k w1)(a2:Bd k x2)(b2:Bd k y2)(c2:Bd k w2):Bd (3*k+3) (D2 x0 y0 w0 x1 y1 w1 x2 y2 w2):=by
 have m:∀{a b:Int},Bd k a->Bd k b->Bd (2*k) (a*b):=λh g=>(h.mul g).mono (by omega);have s:∀{a b c d:Int},Bd k a->Bd k b->Bd k c->Bd k d->Bd (2*k+1) (a*b-c*d):=λh g i j=>(m h g).sub (m i j);have t:∀{w e:Int},Bd k w->Bd (2*k+1) e->Bd (3*k+1) (w*e):=λh g=>(h.mul g).mono (by omega);unfold D2;exact((t c0 (s a1 b2 b1 a2)).sub (t c1 (s a0 b2 b0 a2))).add ((t c2 (s a0 b1 b0 a1)).mono (by omega))
theorem aaN{k:Nat}{x0 y0 z0 w0 x1 y1 z1 w1 x2 y2 z2 w2 x3 y3 z3 w3:Int}(a0:Bd k x0)(b0:Bd k y0)(d0:Bd k z0)(c0:Bd k w0)(a1:Bd k x1)(b1:Bd k y1)(d1:Bd k z1)(c1:Bd k w1)(a2:Bd k x2)(b2:Bd k y2)(d2:Bd k z2)(c2:Bd k w2)(a3:Bd k x3)(b3:Bd k y3)(d3:Bd k z3)(c3:Bd k w3):Bd (4*k+6) (D3 x0 y0 z0 w0 x1 y1 z1 w1 x2 y2 z2 w2 x3 y3 z3 w3):=by
 have m:∀{a b:Int},Bd k a->Bd k b->Bd (2*k) (a*b):=λh g=>(h.mul g).mono (by omega);have s:∀{a b c d:Int},Bd k a->Bd k b->Bd k c->Bd k d->Bd (2*k+1) (a*b-c*d):=λh g i j=>(m h g).sub (m i j);have t:∀{e w:Int},Bd (2*k+1) e->Bd k w->Bd (3*k+1) (e*w):=λh g=>(h.mul g).mono (by omega);have u:∀{e f g w:Int},Bd (3*k+1) e->Bd (3*k+1) f->Bd (3*k+1) g->Bd k w->Bd (4*k+3) (w*(e+f+g)):=λh i j l=>(l.mul ((h.add i).add (j.mono (by omega)))).mono (by omega);unfold D3;refine(((u (t (s b1 d2 d1 b2) a3) (t (s d1 a2 a1 d2) b3) (t (s a1 b2 b1 a2) d3) c0).sub (u (t (s b0 d2 d0 b2) a3) (t (s d0 a2 a0 d2) b3) (t (s a0 b2 b0 a2) d3) c1)).add ((u (t (s b0 d1 d0 b1) a3) (t (s d0 a1 a0 d1) b3) (t (s a0 b1 b0 a1) d3) c2).mono (by omega))).sub ((u (t (s b0 d1 d0 b1) a2) (t (s d0 a1 a0 d1) b2) (t (s a0 b1 b0 a1) d2) c3).mono (by omega))
theorem Gu.two'{k:Nat}{us:AS}(h:Gu 2 k us):∃x y w,us=[x,y,w]/\0<w/\Bd k x/\Bd k y/\Bd k w:=by
 obtain⟨xs,w,rfl,P⟩:=h
 match xs,P.len,P with
 |[x,y],_,P=>exact⟨x,y,w,rfl,P.pos,P.bx x (by simp),P.bx y (by simp),P.bw⟩
theorem Gu.three'{k:Nat}{us:AS}(h:Gu 3 k us):∃x y z w,us=[x,y,z,w]/\0<w/\Bd k x/\Bd k y/\Bd k z/\Bd k w:=by
 obtain⟨xs,w,rfl,P⟩:=h
 match xs,P.len,P with
 |[x,y,z],_,P=>exact⟨x,y,z,w,rfl,P.pos,P.bx x (by simp),P.bx y (by simp),P.bx z (by simp),P.bw⟩
theorem mk{k l:Nat}{a b:Int}(h:Bd k a)(g:Bd l b)(hk:k<=100000)(hl:l<=100000):aS (.int a) (.int b)=some (.int (a*b)):=iS (.inr ⟨h.mono (by omega),g.mono (by omega)⟩)
abbrev fv(u:Int×Int):PV:=.tup [.int u.1,.int u.2]
def pl(u v:Int×Int):Int×Int:=((fr (u.1*v.2+v.1*u.2) (u.2*v.2)).getD 0 0,(fr (u.1*v.2+v.1*u.2) (u.2*v.2)).getD 1 0)
abbrev li(xs:AS):BA:=xs.map .int
abbrev lv(xs:AS):PV:=.lst (li xs)
abbrev bX(xss:AT):PV:=.lst (xss.map lv)
structure Rw(n:Nat)(xss:AT):Prop where
 len:xss.length=n+1
 l:∀xs∈xss,xs.length=n
 b:∀xs∈xss,∀x∈xs,0<=x/\x<=2
 nz:dU (xss.map (·++[1]))≠0
theorem Bh{α β:Type}(f:α->β):∀(R:List α)(j:Nat),(R.map f).eraseIdx j=(R.eraseIdx j).map f
 |[],j=>by simp
 |a::R,0=>by simp
 |a::R,j+1=>by simp[Bh f R j]
theorem ix3:∀v<3,aW 3 ((v:Nat):Int)=some v:=by decide
abbrev oN:MS:=(aI (nZ (aA 2) (nA (aA 1) (aB (aQ cQ [] (aB (aA 0) (aB (mR eI (aB (aA 1) aD)) aD))) aD)) (mC (.int 1)))
 (dS (sJ (aA 3) (aB (aA 2) aD))))
abbrev qT:MS:=(cK (bH (aC cZ (aQ cQ [] (aB (aA 0) (aB (mC (.int 4)) aD))) (mC (.int 3)))) (oG 3 2 5) dE)
theorem Wb(ns:AS)(hl:BA)(R C:AS)(L:AT)(x4 x5:BC)(hR0:0<R.length)(hR3:R.length<=3)(hv:∀v∈R,0<=v/\v<3)(hC:C.length=3)(hL:L.length<=9):
  ∃(j v:Nat)(ns':AS),j<R.length/\R[j]?=some (v:Int)/\oN [some (.ref 0),some (.ref 2),some (.ref 3),some (.ref 4),x4,x5] [.lst (li ns),.lst hl,.lst (li R),.lst (li C),.lol (L.map li)]
   = .nx [some (.ref 0),some (.ref 2),some (.ref 3),some (.ref 4),x4,x5] [.lst (li ns'),.lst hl,.lst (li (R.eraseIdx j)),.lst (li (C.set v 1)),.lol ((L++[C.set v 1]).map li)]:=by
 have hr:fA [.lst (li ns),.lst hl,.lst (li R),.lst (li C),.lol (L.map li)] 0 ns:=rfl;obtain⟨t,n1,e1,t0,t1,_⟩:=iZ (m:=(R.length:Int)) hr (by omega) (kY (by omega) (by omega));simp only[cw]at e1;obtain⟨j,rfl⟩:∃j:Nat,t=(j:Int):=⟨t.toNat,by omega⟩;have hj:j<R.length:=by omega
 obtain⟨v,ev⟩:∃v:Nat,R[j]=(v:Int):=⟨R[j].toNat,by have:=hv _ (fj hj);omega⟩;have hv3:v<3:=by have:=hv _ (fj hj);omega
 have hq:R[j]?=some (v:Int):=by rw[au hj,ev]
 have ep:=Q0 (S:=[.lst (li n1),.lst hl,.lst (li R),.lst (li C),.lol (L.map li)]) (k:=2) (j:=j) (xs:=li R) (v:=.int v) rfl (by rw[dj,hq];rfl) (by omega);simp only[dw,cw]at ep;have er:(li R).eraseIdx j=li (R.eraseIdx j):=Bh _ _ _;rw[er]at ep;have ei:aW (li C).length (v:Int)=some v:=by
  rw[aj,hC];exact ix3 v hv3
 have ec:(li C).set v (.int 1)=li (C.set v 1):=by simp[li,yn]
 refine⟨j,v,n1,hj,hq,?_⟩;have e1':cQ [.ref 0,.pv (.int ((li R).length:Int))] [.lst (li ns),.lst hl,.lst (li R),.lst (li C),.lol (L.map li)]=.ok (.pv (.int (j:Int))) [.lst (li n1),.lst hl,.lst (li R),.lst (li C),.lol (L.map li)]:=by
  rw[aj];exact e1
 have el:(L++[C.set v 1]).map li=L.map li++[li (C.set v 1)]:=by simp
 rw[el];have lz:(L.map li).length<16777216:=by rw[aj];omega
 generalize li n1=NL1,li ns=NL,(j:Int)=J,li R=RL,li (R.eraseIdx j)=RE,li C=CL,li (C.set v 1)=CS,L.map li=LL at *;unfold oN;simp! [bC,aK,aN,aL,aM,aF,aJ,nZ,qA,nA,sJ,sS,eZ,e1',ep,ei,ec,lz]
def k6:AU:=[[[0,0,0],[1,0,0],[1,1,0],[1,1,1]],[[0,0,0],[1,0,0],[1,0,1],[1,1,1]],[[0,0,0],[0,1,0],[1,1,0],[1,1,1]],[[0,0,0],[0,1,0],[0,1,1],[1,1,1]],[[0,0,0],[0,0,1],[1,0,1],[1,1,1]],[[0,0,0],[0,0,1],[0,1,1],[1,1,1]]]
theorem abk{R:AS}{j v:Nat}{a b c:Int}(h:R=[a,b,c])(hj:j<R.length)(e:R[j]?=some (v:Int)):(j=0/\(v:Int)=a)\/(j=1/\(v:Int)=b)\/(j=2/\(v:Int)=c):=by
 subst h
 match j,hj,e with
 |0,_,e=>simp at e;exact .inl ⟨rfl,e.symm⟩
 |1,_,e=>simp at e;exact .inr (.inl ⟨rfl,e.symm⟩)
 |2,_,e=>simp at e;exact .inr (.inr ⟨rfl,e.symm⟩)
theorem abw{R:AS}{j v:Nat}{a b:Int}(h:R=[a,b])(hj:j<R.length)(e:R[j]?=some (v:Int)):(j=0/\(v:Int)=a)\/(j=1/\(v:Int)=b):=by
 subst h
 match j,hj,e with
 |0,_,e=>simp at e;exact .inl ⟨rfl,e.symm⟩
 |1,_,e=>simp at e;exact .inr ⟨rfl,e.symm⟩
theorem abK{R:AS}{j v:Nat}{a:Int}(h:R=[a])(hj:j<R.length)(e:R[j]?=some (v:Int)):j=0/\(v:Int)=a:=by
 subst h
 match j,hj,e with
 |0,_,e=>simp at e;exact⟨rfl,e.symm⟩
theorem k3(ns:AS)(hl:BA)(R C:AS)(A:AT)(a b c:Nat)(x4 x5:BC)(hR:R=[(c:Int)])(hc:c<3)(hC:C.length=3)(hA:A.length<=9)(ks:AU)(hk:A++[C.set c 1]∈ks):
  ∃(xss:AT)(ns':AS)(C':AS),xss∈ks/\cJ [] (gN 4) oN [.int 2] [some (.ref 0),some (.ref 2),some (.ref 3),some (.ref 4),x4,x5] [.lst (li ns),.lst hl,.lst (li R),.lst (li C),.lol (A.map li)]
   = .nx [some (.ref 0),some (.ref 2),some (.ref 3),some (.ref 4),some (.pv (.int 2)),x5] [.lst (li ns'),.lst hl,.lst [],.lst (li C'),.lol (xss.map li)]:=by
 obtain⟨j,v,n1,hj,e,h⟩:=Wb ns hl R C A (some (.pv (.int 2))) x5 (by rw[hR];simp) (by rw[hR];simp) (by rw[hR];simp;omega) hC hA;obtain⟨rfl,ev⟩:=abK hR hj e;have:v=c:=by omega
 subst this;subst hR;refine⟨_,n1,C.set v 1,hk,?_⟩;rw[dY];simp only[gN,dw,cw];rw[h];exact fF
theorem k2(ns:AS)(hl:BA)(R C:AS)(A:AT)(b c:Nat)(x4 x5:BC)(hR:R=[(b:Int),(c:Int)])(hb:b<3)(hc:c<3)(hC:C.length=3)(hA:A.length<=8)(ks:AU)(h1:A++[C.set b 1]++[(C.set b 1).set c 1]∈ks)(h2:A++[C.set c 1]++[(C.set c 1).set b 1]∈ks):
  ∃(xss:AT)(ns':AS)(C':AS),xss∈ks/\cJ [] (gN 4) oN [.int 1,.int 2] [some (.ref 0),some (.ref 2),some (.ref 3),some (.ref 4),x4,x5] [.lst (li ns),.lst hl,.lst (li R),.lst (li C),.lol (A.map li)]
   = .nx [some (.ref 0),some (.ref 2),some (.ref 3),some (.ref 4),some (.pv (.int 2)),x5] [.lst (li ns'),.lst hl,.lst [],.lst (li C'),.lol (xss.map li)]:=by
 obtain⟨j,v,n1,hj,e,h⟩:=Wb ns hl R C A (some (.pv (.int 1))) x5 (by rw[hR];simp) (by rw[hR];simp) (by rw[hR];simp;omega) hC (by omega);rw[dY];simp only[gN,dw,cw];rw[h];rcases abw hR hj e with⟨rfl,ev⟩|⟨rfl,ev⟩
 .have:v=b:=by omega
  subst this;subst hR;exact k3 n1 hl _ (C.set v 1) _ 0 0 c _ x5 rfl hc (by rw[fu];exact hC) (by simp;omega) ks h1
 .have:v=c:=by omega
  subst this;subst hR;exact k3 n1 hl _ (C.set v 1) _ 0 0 b _ x5 rfl hb (by rw[fu];exact hC) (by simp;omega) ks h2
theorem k1(ns:AS)(hl:BA)(x4 x5:BC):
  ∃(xss:AT)(ns':AS)(C':AS),xss∈k6/\cJ [] (gN 4) oN [.int 0,.int 1,.int 2] [some (.ref 0),some (.ref 2),some (.ref 3),some (.ref 4),x4,x5] [.lst (li ns),.lst hl,.lst (li [0,1,2]),.lst (li [0,0,0]),.lol ([[0,0,0]].map li)]
   = .nx [some (.ref 0),some (.ref 2),some (.ref 3),some (.ref 4),some (.pv (.int 2)),x5] [.lst (li ns'),.lst hl,.lst [],.lst (li C'),.lol (xss.map li)]:=by
 obtain⟨j,v,n1,hj,e,h⟩:=Wb ns hl [0,1,2] [0,0,0] [[0,0,0]] (some (.pv (.int 0))) x5 (by decide) (by decide) (by decide) rfl (by decide);rw[dY];simp only[gN,dw,cw];rw[h];rcases abk rfl hj e with⟨rfl,ev⟩|⟨rfl,ev⟩|⟨rfl,ev⟩
 .have:v=0:=by omega
  subst this;exact k2 n1 hl _ [1,0,0] _ 1 2 _ x5 rfl (by decide) (by decide) rfl (by decide) k6 (by decide) (by decide)
 .have:v=1:=by omega
  subst this;exact k2 n1 hl _ [0,1,0] _ 0 2 _ x5 rfl (by decide) (by decide) rfl (by decide) k6 (by decide) (by decide)
 .have:v=2:=by omega
  subst this;exact k2 n1 hl _ [0,0,1] _ 0 1 _ x5 rfl (by decide) (by decide) rfl (by decide) k6 (by decide) (by decide)
def qU(m:Nat)(xs:AS):AS:=xs.set m (1-xs.getD m 0)
theorem Cy{m:Nat}{xs:AS}(h:xs.length=3)(hm:m<3):wK (m:Int) (li xs)=some (li (qU m xs)):=by
 match xs,h,m,hm with
 |[a,b,c],_,0,_=>rfl
 |[a,b,c],_,1,_=>rfl
 |[a,b,c],_,2,_=>rfl
theorem Sh{m:Nat}(hm:m<3):∀{L:AT},(∀xs∈L,xs.length=3)->pY (m:Int) (L.map li)=some ((L.map (qU m)).map li)
 |[],_=>rfl
 |xs::L,h=>by
  have e1:=Cy (h xs bo) hm;have e2:=Sh hm λys hy=>h ys (ay _ hy);simp only[av];unfold pY;rw[e1,e2]
theorem aaA{a b c d:BA}{L:List BA}:xI 4 [.lst a,.lst b,.lst c,.lst d,.lol L]:=λj o e n=>by
 match j,e with
 |0,e=>cases e;exact⟨_,rfl⟩
 |1,e=>cases e;exact⟨_,rfl⟩
 |2,e=>cases e;exact⟨_,rfl⟩
 |3,e=>cases e;exact⟨_,rfl⟩
 |4,e=>exact absurd rfl n
 |j+5,e=>simp at e
def kL(b:Bool)(m:Nat)(L:AT):AT:=if b then L.map (qU m)else L
theorem Qb(m:Nat)(hm:m<3)(ns:AS)(a b c:BA)(L:AT)(hL:∀xs∈L,xs.length=3)(x2 x4:BC):
  ∃(f:Bool)(ns':AS)(y2:BC),qT [some (.ref 0),some (.ref 2),x2,some (.ref 4),x4,some (.pv (.int (m:Int)))] [.lst (li ns),.lst a,.lst b,.lst c,.lol (L.map li)]
   = .nx [some (.ref 0),some (.ref 2),y2,some (.ref 4),x4,some (.pv (.int (m:Int)))] [.lst (li ns'),.lst a,.lst b,.lst c,.lol ((kL f m L).map li)]:=by
 have hr:fA [.lst (li ns),.lst a,.lst b,.lst c,.lol (L.map li)] 0 ns:=rfl;obtain⟨t,n1,e1,t0,t1,_⟩:=iZ (m:=4) hr (by decide) (kY (by decide) (by decide));simp only[cw]at e1;have e1:cQ [.ref 0,.pv (.int 4)] [.lst (li ns),.lst a,.lst b,.lst c,.lol (L.map li)]=.ok (.pv (.int t)) [.lst (li n1),.lst a,.lst b,.lst c,.lol (L.map li)]:=e1;have ef:=Sh hm hL
 by_cases h:t=3
 .refine⟨true,n1,none,?_⟩
  have hf:oG 3 2 5 [some (.ref 0),some (.ref 2),x2,some (.ref 4),x4,some (.pv (.int (m:Int)))] [.lst (li n1),.lst a,.lst b,.lst c,.lol (L.map li)]=.nx [some (.ref 0),some (.ref 2),none,some (.ref 4),x4,some (.pv (.int (m:Int)))] [.lst (li n1),.lst a,.lst b,.lst c,.lol ((L.map (qU m)).map li)]:=by
   unfold oG;dsimp only[List.getElem?_cons_succ,List.getElem?_cons_zero];rw[if_pos ⟨aaA,by simp⟩,ef];rfl
  unfold qT;have:kL true m L=L.map (qU m):=rfl;rw[this];simp! [aE,aV,aW,aO,aK,aN,aL,aM,aF,aJ,e1,h,hf]
 .refine⟨false,n1,x2,?_⟩
  unfold qT;have:kL false m L=L:=rfl;rw[this];simp! [aE,aV,aW,aO,aK,aN,aL,aM,aF,aJ,e1,h]
theorem Ca{b:Bool}{m:Nat}{L:AT}(h:∀xs∈L,xs.length=3):∀xs∈kL b m L,xs.length=3:=by
 unfold kL;split
 .intro xs hx
  obtain⟨ys,hy,rfl⟩:=ax.mp hx;unfold qU;rw[fu];exact h ys hy
 .exact h
def Wc(xss:AT):Bool:=decide (xss.length=4)&&xss.all (λxs=>decide (xs.length=3)&&xs.all λx=>decide (0<=x)&&decide (x<=2))&&decide (dU (xss.map (·++[1]))≠0)
theorem M4{xss:AT}(h:Wc xss=true):Rw 3 xss:=by
 unfold Wc at h;simp only[ji,decide_eq_true_eq,qa]at h;exact⟨h.1.1,λxs hx=>(h.1.2 xs hx).1,λxs hx x hh=>(h.1.2 xs hx).2 x hh,h.2⟩
theorem k48:∀xss∈k6,∀a b c:Bool,Wc (kL c 2 (kL b 1 (kL a 0 xss)))=true:=by decide+kernel
theorem Q9:∀xss∈k6,∀xs∈xss,xs.length=3:=by decide
theorem Uq{a b:BA}:Pl [.lst a,.lst b]:=λj o e=>by
 match j,e with
 |0,e=>cases e;exact⟨_,rfl⟩
 |1,e=>cases e;exact⟨_,rfl⟩
 |j+2,e=>simp at e
theorem L0(ns:AS)(hl:BA):∃(xss:AT)(ns':AS),pO [.ref 0] [.lst (li ns),.lst hl]=.ok (.pv (bX xss)) [.lst (li ns'),.lst hl]/\Rw 3 xss:=by
 obtain⟨L,n1,C,hm,e1⟩:=k1 ns hl none none;have l0:=Q9 L hm;obtain⟨fa,n2,y2,e2⟩:=Qb 0 (by decide) n1 hl [] (li C) L l0 (some (.ref 3)) (some (.pv (.int 2)));obtain⟨fb,n3,y3,e3⟩:=Qb 1 (by decide) n2 hl [] (li C) _ (Ca l0) y2 (some (.pv (.int 2)));obtain⟨fc,n4,y4,e4⟩:=Qb 2 (by decide) n3 hl [] (li C) _ (Ca (Ca l0)) y3 (some (.pv (.int 2)));have c0:((0:Nat):Int)=0:=rfl;have c1:((1:Nat):Int)=1:=rfl;have c2:((2:Nat):Int)=2:=rfl;rw[c0]at e2;rw[c1]at e3;rw[c2]at e4;have hw:=k48 L hm fa fb fc;generalize kL fc 2 (kL fb 1 (kL fa 0 L))=X at hw e4;refine⟨X,n4,?_,M4 hw⟩;have ex:(X.map li).map PV.lst=X.map lv:=by rw[dg];rfl
 have e5:cJ [] (gN 5) qT [.int 0,.int 1,.int 2] [some (.ref 0),some (.ref 2),some (.ref 3),some (.ref 4),some (.pv (.int 2)),none] [.lst (li n1),.lst hl,.lst [],.lst (li C),.lol (L.map li)]
   = .nx [some (.ref 0),some (.ref 2),y4,some (.ref 4),some (.pv (.int 2)),some (.pv (.int 2))] [.lst (li n4),.lst hl,.lst [],.lst (li C),.lol (X.map li)]:=by
  rw[dY];simp only[gN,dw,cw];rw[e2];dsimp only;rw[dY];simp only[gN,dw,cw];rw[e3];dsimp only;rw[dY];simp only[gN,dw,cw];rw[e4];exact fF
 unfold pO oQ;rw[if_pos ⟨rfl,Uq⟩];have eb:vI (gZ 6 [.ref 0]) [.lst (li ns),.lst hl]=.rt (.ref 4) [.lst (li n4),.lst hl,.lst [],.lst (li C),.lol (X.map li)]:=by
  simp only[li,av,cg]at e1;have hb:vI=(aI (aP 1 (eJ (aB (mC (.int 0)) (aB (mC (.int 1)) (aB (mC (.int 2)) aD)))))
   (aI (aP 2 (eJ (aB (mC (.int 0)) (aB (mC (.int 0)) (aB (mC (.int 0)) aD)))))
   (aI (aP 3 (sT (aB (aA 2) aD)))
   (aI (bI (cM (aB (mC (.int 3)) aD)) (gN 4) oN)
   (aI (bI (cM (aB (mC (.int 3)) aD)) (gN 5) qT)
   (bF (aA 3))))))):=rfl
  rw[hb];generalize oN=B1,qT=B2 at *;simp! [aE,aV,aW,aO,aK,aN,aL,aM,aF,aJ,eJ,jU,sT,Rb,bI,cM,hrg,e1,e5]
 rw[eb];unfold vQ;simp[Uq,ex]
theorem Fv(L:BA)(p:PV)(h:L≠[]):∃v∈L,aE (.lst L) (.int (-1))=some v:=by
 have hl:0<L.length:=yh.mpr h;refine⟨L[L.length-1]'(by omega),fj _,?_⟩;show aV L (-1)=_;unfold aV;have e:aW L.length (-1)=some (L.length-1):=by
  unfold aW;rw[if_neg (by decide),if_pos (by omega)];congr 1;omega
 rw[e];exact au _
theorem sW{x:Int}(h:-1000<x)(g:x<1000):Bd 10 x:=by
 unfold Bd;have:x.natAbs<1000:=by omega
 omega
theorem kJ(S:aG){n:Nat}(h:n<=9):jD [.pv (.int (n:Int))] S=.ok (cS 0 n,[]) S:=by
 have e:jD [.pv (.int (n:Int))] S=@ite _ ((n:Int)<=16777216/\-16777216<=(n:Int)) (nr _) (.ok (cS 0 (n:Int).toNat,[]) S) .fail:=rfl;rw[e,if_pos ⟨by omega,by omega⟩,qs]
theorem Fx{S:aG}{k:Nat}{ns:AS}(h:fA S k ns):S.set k (.lst (ns.map .int))=S:=qe λj=>by
 by_cases q:k=j
 .subst q
  rw[gf h.lt];exact h.symm
 .rw[gm q]
theorem Hj{k:Nat}{W:Int}(W0:0<=W)(W1:W<=2):∀(is:BA)(S:aG)(ns:AS)(x:BC),fA S k ns->∃(xs ns':AS),bZ [] (gN 0) (aQ cQ [] (aB (aA 1) (aB (aC aF (aA 2) (mC (.int 1))) aD))) is [x,some (.ref k),some (.pv (.int W))] S=.ok (li xs) (S.set k (.lst (li ns')))/\xs.length=is.length/\∀n∈xs,0<=n/\n<=2
 |[],S,ns,x,h=>by
  refine⟨[],ns,?_,rfl,λ_ h=>absurd h fe⟩;rw[show S.set k (.lst (li ns))=S from Fx h];exact dZ
 |i::is,S,ns,x,h=>by
  obtain⟨t,n1,e1,t0,t1,_⟩:=iZ (m:=W+1) h (by omega) (kY (by omega) (by omega));obtain⟨xs,n2,e2,l2,b2⟩:=Hj W0 W1 is _ n1 (some (.pv i)) (h.set n1);rw[lh]at e2;refine⟨t::xs,n2,?_,by simp[l2],λn hn=>?_⟩
  .rw[eE]
   generalize S.set k (.lst (n1.map .int))=S1 at e1 e2;simp! [gN,aE,aV,aW,aO,aK,aN,aL,aM,aF,aJ,e1,e2]
  .rcases cf.mp hn with rfl |hn
   .omega
   .exact b2 n hn
abbrev rB:MS:=(dS (dI (aA 3) (aB (bB ["_law_m"] [(0,"_law_row_here"),(2,"_law_wide")] (cM (aB (aA 1) aD)) (gN 0) (aQ cQ [] (aB (aA 1) (aB (aC aF (aA 2) (mC (.int 1))) aD)))) aD)))
theorem Vh{n:Nat}(hn:n<=9){W:Int}(W0:0<=W)(W1:W<=2)(hl:BA):∀(is:BA)(L:AT)(ns:AS)(x4:BC),L.length+is.length<=99->∃(L':AT)(ns':AS)(y4:BC),
  cJ [] (gN 4) rB is [some (.ref 0),some (.pv (.int (n:Int))),some (.pv (.int W)),some (.ref 2),x4] [.lst (li ns),.lst hl,.lst (L.map lv)]=.nx [some (.ref 0),some (.pv (.int (n:Int))),some (.pv (.int W)),some (.ref 2),y4] [.lst (li ns'),.lst hl,.lst ((L++L').map lv)]
   /\L'.length=is.length/\∀xs∈L',xs.length=n/\∀x∈xs,0<=x/\x<=2
 |[],L,ns,x4,h9=>⟨[],ns,x4,by rw[ie];exact fF,rfl,λ_ h=>absurd h fe⟩
 |i::is,L,ns,x4,h9=>by
  have hr:fA [.lst (li ns),.lst hl,.lst (L.map lv)] 0 ns:=rfl;obtain⟨xs,n1,e1,l1,b1⟩:=Hj W0 W1 (cS 0 n) _ ns none hr;simp only[cw]at e1;have h9:L.length+(is.length+1)<=99:=h9;obtain⟨L',n2,y4,e2,l2,b2⟩:=Vh hn W0 W1 hl is (L++[xs]) n1 (some (.pv i)) (by rw[bj,kj];omega);refine⟨xs::L',n2,y4,?_,by simp[l2],λys hy=>?_⟩
  .rw[dY]
   have es:rB [some (.ref 0),some (.pv (.int (n:Int))),some (.pv (.int W)),some (.ref 2),some (.pv i)] [.lst (li ns),.lst hl,.lst (L.map lv)]=.nx [some (.ref 0),some (.pv (.int (n:Int))),some (.pv (.int W)),some (.ref 2),some (.pv i)] [.lst (li n1),.lst hl,.lst ((L++[xs]).map lv)]:=by
    have el:(L++[xs]).map lv=L.map lv++[lv xs]:=by simp
    rw[el];have lz:(L.map lv).length<16777216:=by rw[aj];omega
    have rg:=kJ [.lst (li ns),.lst hl,.lst (L.map lv)] hn;unfold rB;generalize (n:Int)=N,cS 0 n=IP,li ns=NL,L.map lv=LL at *;simp! [aE,aV,aW,aO,aK,aN,aL,aM,aF,aJ,dI,eZ,iD,bB,cD,cM,rg,e1,lz]
   simp only[gN,dw,cw];rw[es];dsimp only;rw[e2,jf];rfl
  .rcases cf.mp hy with rfl |hy
   .exact⟨by rw[l1];unfold cS;simp,b1⟩
   .exact b2 ys hy
theorem U9{S:aG}{ti:Nat}{a b c d e f:Int}(h:S[ti]?=some (.lst [lv [a,b],lv [c,d],lv [e,f]]))(ha:0<=a/\a<=2)(hb:0<=b/\b<=2)(hc:0<=c/\c<=2)(hd:0<=d/\d<=2)(he:0<=e/\e<=2)(hf:0<=f/\f<=2):mE [.ref ti] S=.ok (.pv (.int (D2 a b 1 c d 1 e f 1))) S:=by
 have id:(c-a)*(f-b)-(d-b)*(e-a)=D2 a b 1 c d 1 e f 1:=by
  unfold D2;grind
 have b1:Bd 10 (c-a):=sW (by omega) (by omega);have b2:Bd 10 (d-b):=sW (by omega) (by omega);have b3:Bd 10 (e-a):=sW (by omega) (by omega);have b4:Bd 10 (f-b):=sW (by omega) (by omega);have m1:=dR b1 b4;have m2:=dR b2 b3;generalize D2 a b 1 c d 1 e f 1=D at *;have s1:=mT (lv [a,b]) [lv [c,d],lv [e,f]];have et:iG [.pv (.lst [.lst [.int (c-a),.int (d-b)],.lst [.int (e-a),.int (f-b)]])] S=.ok (.pv (.int D)) S:=by
  unfold iG aR mI;simp! [aE,aV,aW,aO,aK,aN,aL,aM,aF,aJ,m1,m2,id]
 unfold mE aR tW;simp only[lv,li,av,cg]at h s1;simp! [aE,aV,aW,aO,aK,aN,aL,aM,aF,aJ,bB,bD,bT,cF,cE,cG,eN,h,s1,cD,eE,dZ,gN,gT,dM,fG,gJ,jS,fJ,et]
theorem X8{S:aG}{ti:Nat}{x0 y0 z0 x1 y1 z1 x2 y2 z2 x3 y3 z3:Int}(h:S[ti]?=some (.lst [lv [x0,y0,z0],lv [x1,y1,z1],lv [x2,y2,z2],lv [x3,y3,z3]]))(hb:∀x∈[x0,y0,z0,x1,y1,z1,x2,y2,z2,x3,y3,z3],0<=x/\x<=2):mE [.ref ti] S=.ok (.pv (.int (D3 x0 y0 z0 1 x1 y1 z1 1 x2 y2 z2 1 x3 y3 z3 1))) S:=by
 have id:dt [(y1-y0)*(z2-z0)-(z1-z0)*(y2-y0),(z1-z0)*(x2-x0)-(x1-x0)*(z2-z0),(x1-x0)*(y2-y0)-(y1-y0)*(x2-x0)] [x3-x0,y3-y0,z3-z0]=D3 x0 y0 z0 1 x1 y1 z1 1 x2 y2 z2 1 x3 y3 z3 1:=by
  simp only[dt,D3,qz,re,kn,rf];grind
 simp only[cf,fe,or_false,forall_eq_or_imp,forall_eq]at hb;have q:∀{a b:Int},(0<=a/\a<=2)->(0<=b/\b<=2)->Bd 10 (a-b):=λh g=>sW (by omega) (by omega);obtain⟨hx0,hy0,hz0,hx1,hy1,hz1,hx2,hy2,hz2,hx3,hy3,hz3⟩:=hb;have b1:=q hx1 hx0;have b2:=q hy1 hy0;have b3:=q hz1 hz0;have b4:=q hx2 hx0;have b5:=q hy2 hy0;have b6:=q hz2 hz0;have b7:=q hx3 hx0;have b8:=q hy3 hy0;have b9:=q hz3 hz0;clear hx0 hy0 hz0 hx1 hy1 hz1 hx2 hy2 hz2 hx3 hy3 hz3 q;generalize D3 x0 y0 z0 1 x1 y1 z1 1 x2 y2 z2 1 x3 y3 z3 1=D at *;have s1:=mT (lv [x0,y0,z0]) [lv [x1,y1,z1],lv [x2,y2,z2],lv [x3,y3,z3]];have et:iG [.pv (.lst [.lst [.int (x1-x0),.int (y1-y0),.int (z1-z0)],.lst [.int (x2-x0),.int (y2-y0),.int (z2-z0)],.lst [.int (x3-x0),.int (y3-y0),.int (z3-z0)]])] S=.ok (.pv (.int D)) S:=by
  generalize z3-z0=T2,y3-y0=T1,x3-x0=T0,z2-z0=V2,y2-y0=V1,x2-x0=V0,z1-z0=U2,y1-y0=U1,x1-x0=U0 at *;have u:∀{a:Int},Bd 10 a->Bd 10000 a:=λh=>h.mono (by decide);have u2:∀{a:Int},Bd 10 a->Bd 100000 a:=λh=>h.mono (by decide);have cc:∀{a b c d:Int},Bd 10 a->Bd 10 b->Bd 10 c->Bd 10 d->Bd 100000 (a*b-c*d):=λh1 h2 h3 h4=>(((h1.mul h2).mono (show 10+10<=20 by decide)).sub ((h3.mul h4).mono (show 10+10<=20 by decide))).mono (by decide);have en:=zN (A:=.lst [.int U0,.int U1,.int U2]) (B:=.lst [.int V0,.int V1,.int V2]) S rfl rfl (u b1) (u b2) (u b3) (u b4) (u b5) (u b6);have ed:=Ra (A:=.lst [.int (U1*V2-U2*V1),.int (U2*V0-U0*V2),.int (U0*V1-U1*V0)]) (B:=.lst [.int T0,.int T1,.int T2]) (us:=[U1*V2-U2*V1,U2*V0-U0*V2,U0*V1-U1*V0]) (vs:=[T0,T1,T2]) S (.inl rfl) (.inl rfl) (by simp;exact⟨cc b2 b6 b3 b5,cc b3 b4 b1 b6,cc b1 b5 b2 b4⟩) (by simp;exact⟨u2 b7,u2 b8,u2 b9⟩);rw[id]at ed;generalize U0*V1-U1*V0=N2,U2*V0-U0*V2=N1,U1*V2-U2*V1=N0 at *;unfold iG aR mI;simp! [aE,aV,aW,aO,aK,aN,aL,aM,aF,aJ,en,ed]
 unfold mE aR tW;simp only[lv,li,av,cg]at h s1;simp! [aE,aV,aW,aO,aK,aN,aL,aM,aF,aJ,bB,bD,bT,cF,cE,cG,eN,h,s1,cD,eE,dZ,gN,gT,dM,fG,gJ,jS,fJ,et]
theorem aac{n:Nat}(hn:n=2\/n=3){S:aG}{ti:Nat}{L:AT}(h:S[ti]?=some (.lst (L.map lv)))(hl:L.length=n+1)(hb:∀xs∈L,xs.length=n/\∀x∈xs,0<=x/\x<=2):mE [.ref ti] S=.ok (.pv (.int (dU (L.map (·++[1]))))) S:=by
 rcases hn with rfl |rfl
 .match L,hl,hb,h with
  |[A,B,C],_,hb,h=>
   have ga:=hb A (by simp);have gb:=hb B (by simp);have gc:=hb C (by simp);clear hb
   match A,ga.1,B,gb.1,C,gc.1 with
   |[a,b],_,[c,d],_,[e,f],_=>exact U9 h (ga.2 a (by simp)) (ga.2 b (by simp)) (gb.2 c (by simp)) (gb.2 d (by simp)) (gc.2 e (by simp)) (gc.2 f (by simp))
 .match L,hl,hb,h with
  |[A,B,C,D],_,hb,h=>
   have ga:=hb A (by simp);have gb:=hb B (by simp);have gc:=hb C (by simp);have gd:=hb D (by simp);clear hb
   match A,ga.1,B,gb.1,C,gc.1,D,gd.1 with
   |[x0,y0,z0],_,[x1,y1,z1],_,[x2,y2,z2],_,[x3,y3,z3],_=>
    refine X8 h λx hx=>?_;rw[show[x0,y0,z0,x1,y1,z1,x2,y2,z2,x3,y3,z3]=[x0,y0,z0]++([x1,y1,z1]++([x2,y2,z2]++[x3,y3,z3])) from rfl]at hx;rcases ck.mp hx with z |z
    .exact ga.2 x z
    .rcases ck.mp z with z |z
     .exact gb.2 x z
     .rcases ck.mp z with z |z
      .exact gc.2 x z
      .exact gd.2 x z
def qO(n:Nat):AT:=if n=2 then[[0,0],[1,0],[0,1]] else[[0,0,0],[1,0,0],[0,1,0],[0,0,1]]
theorem U5{n:Nat}(hn:n=2\/n=3):Rw n (qO n):=by
 rcases hn with rfl |rfl
 .exact⟨rfl,by decide,by decide,by decide⟩
 .exact⟨rfl,by decide,by decide,by decide⟩
theorem rgm(S:aG){n:Nat}(h:n<=9):qD [.pv (.int (-1)),.pv (.int (n:Int))] S=.ok (cS (-1) (n+1),[]) S:=by
 have e:qD [.pv (.int (-1)),.pv (.int (n:Int))] S=@ite _ ((-4611686018427387904<=(-1:Int)/\(-1:Int)<4611686018427387904/\-4611686018427387904<=(n:Int)/\(n:Int)<4611686018427387904)/\(n:Int)- -1<=16777216) (nr _) (.ok (cS (-1) ((n:Int)- -1).toNat,[]) S) .fail:=rfl;rw[e,if_pos ⟨⟨by decide,by decide,by omega,by omega⟩,by omega⟩];rw[show((n:Int)- -1).toNat=n+1 by omega]
theorem jH{α:Type}{a:α}{S:aG}:gF (.ok a S)=.ok a S:=rfl
theorem xJ{n:Nat}{v:PV}{S:aG}:frz n (.ok (.pv v) S)=.ok (.pv v) S:=rfl
theorem A5{n:Nat}(hn:n=2\/n=3)(S:aG)(x0 x2 x3 x4:BC):bB ["_law_k"] [(1,"_law_dims")] (iR (aB (bK bO (mC (.int 1))) (aB (aA 1) aD))) (gN 0) (bB ["_law_m"] [(0,"_law_k")] (cM (aB (aA 1) aD)) (gN 0) (mR iU (aB (aC cZ (aA 0) (aA 1)) aD))) [x0,some (.pv (.int (n:Int))),x2,x3,x4] S=.ok (.pv (bX (qO n))) S:=by
 have r1:=λS=>kJ S (n:=n) (by omega);have r2:=λS=>rgm S (n:=n) (by omega);rcases hn with rfl |rfl
 .have c2:((2:Nat):Int)=2:=rfl
  rw[c2]at r1 r2⊢;have i1:cS 0 2=[.int 0,.int 1]:=rfl;have i2:cS (-1) (2+1)=[.int (-1),.int 0,.int 1]:=rfl;rw[i1]at r1;rw[i2]at r2;simp! [bB,cD,cM,iR,aE,aV,aW,aO,aK,aN,aL,aM,aF,aJ,r1,r2,eE,dZ,gN,iU,qO]
 .have c2:((3:Nat):Int)=3:=rfl
  rw[c2]at r1 r2⊢;have i1:cS 0 3=[.int 0,.int 1,.int 2]:=rfl;have i2:cS (-1) (3+1)=[.int (-1),.int 0,.int 1,.int 2]:=rfl;rw[i1]at r1;rw[i2]at r2;simp! [bB,cD,cM,iR,aE,aV,aW,aO,aK,aN,aL,aM,aF,aJ,r1,r2,eE,dZ,gN,iU,qO]
theorem Ln{n:Nat}(hn:n=2\/n=3){W:Int}(W0:0<=W)(W1:W<=2)(ns:AS)(hl:BA):∃(xss:AT)(ns':AS),frz 2 (gF (kP [.ref 0,.pv (.int (n:Int)),.pv (.int W)] [.lst (li ns),.lst hl]))=.ok (.pv (bX xss)) [.lst (li ns'),.lst hl]/\Rw n xss:=by
 obtain⟨L,n1,y4,e1,l1,b1⟩:=Vh (n:=n) (by omega) W0 W1 hl (cS 0 (n+1)) [] ns none (by unfold cS;simp;omega);have hi:(cS 0 (n+1)).length=n+1:=by unfold cS;simp
 rw[hi]at l1;simp only[ib,cg]at e1;have et:=aac (ti:=2) (S:=[.lst (li n1),.lst hl,.lst (L.map lv)]) hn rfl l1 b1;have rg:=kJ [.lst (li ns),.lst hl,.lst []] (n:=n+1) (by omega);have cn:((n+1:Nat):Int)=(n:Int)+1:=by omega
 rw[cn]at rg;have ed:=A5 hn [.lst (li n1),.lst hl,.lst (L.map lv)] (some (.ref 0)) (some (.pv (.int W))) (some (.ref 2)) y4;have hb:Xa=(aI (aP 3 (eJ aD))
  (aI (bI (cM (aB (aC aF (aA 1) (mC (.int 1))) aD)) (gN 4) rB)
  (aI (cK (bH (aC jF (aQ mE [] (aB (aA 3) aD)) (mC (.int 0)))) (bF (aA 3)) dE)
  (bF (bB ["_law_k"] [(1,"_law_dims")] (iR (aB (bK bO (mC (.int 1))) (aB (aA 1) aD))) (gN 0) (bB ["_law_m"] [(0,"_law_k")] (cM (aB (aA 1) aD)) (gN 0) (mR iU (aB (aC cZ (aA 0) (aA 1)) aD)))))))):=rfl
 generalize (bB ["_law_k"] [(1,"_law_dims")] (iR (aB (bK bO (mC (.int 1))) (aB (aA 1) aD))) (gN 0) (bB ["_law_m"] [(0,"_law_k")] (cM (aB (aA 1) aD)) (gN 0) (mR iU (aB (aC cZ (aA 0) (aA 1)) aD))))=CD at ed hb;generalize rB=RB at e1 hb
 by_cases hd:dU (L.map (·++[1]))=0
 .refine⟨qO n,n1,?_,U5 hn⟩
  rw[hd]at et;unfold kP aR;rw[hb];generalize (n:Int)=N,cS 0 (n+1)=IP,li n1=NL1,li ns=NL,L.map lv=LL,bX (qO n)=RV at *;simp! [aE,aV,aW,aO,aK,aN,aL,aM,aF,aJ,eJ,jU,bI,cM,rg,e1,et,ed]
 .refine⟨L,n1,?_,⟨l1,λxs hx=>(b1 xs hx).1,λxs hx x hh=>by have:=(b1 xs hx).2 x hh;omega,hd⟩⟩
  unfold kP aR;rw[hb];have hv:bX L=.lst (L.map lv):=rfl;rw[hv];generalize (n:Int)=N,cS 0 (n+1)=IP,li n1=NL1,li ns=NL,L.map lv=LL,dU (L.map (·++[1]))=d at *;simp! [aE,aV,aW,aO,aK,aN,aL,aM,aF,aJ,eJ,jU,bI,cM,rg,e1,et,hd]
abbrev hB:MS:=(aI (aP 5 (aQ cQ [] (aB (aA 0) (aB (mC (.int 6)) aD))))
 (cK (iM (bH (aC cZ (aA 5) (mC (.int 5)))) (bH (aC fB (mR eI (aB (aA 3) aD)) (mC (.int 0))))) (dS (dI (aA 3) (aB (aC aE (aA 3) (bK bO (mC (.int 1)))) aD))) (cK (bH (aC cZ (aA 1) (mC (.int 2)))) (dS (dI (aA 3) (aB (aQ kP [] (aB (aA 0) (aB (mC (.int 2)) (aB (aC aF (mC (.int 1)) (mR iU (aB (aC cZ (aA 5) (mC (.int 4))) aD))) aD)))) aD))) (cK (bH (aC fB (aA 5) (mC (.int 3)))) (dS (dI (aA 3) (aB (aQ kP [] (aB (aA 0) (aB (mC (.int 3)) (aB (mC (.int 1)) aD)))) aD))) (dS (dI (aA 3) (aB (aQ pO [] (aB (aA 0) aD)) aD)))))))
theorem abf{n:Nat}(hn:n=2\/n=3)(ns:AS)(hs:AU)(hw:∀xss∈hs,Rw n xss)(hl:hs.length<=99)(x2 x4 x5:BC):∃(xss:AT)(ns':AS)(y5:BC),hB [some (.ref 0),some (.pv (.int (n:Int))),x2,some (.ref 1),x4,x5] [.lst (li ns),.lst (hs.map bX)]=.nx [some (.ref 0),some (.pv (.int (n:Int))),x2,some (.ref 1),x4,y5] [.lst (li ns'),.lst ((hs++[xss]).map bX)]/\Rw n xss:=by
 have hr:fA [.lst (li ns),.lst (hs.map bX)] 0 ns:=rfl;obtain⟨t,n1,e1,t0,t1,_⟩:=iZ (m:=6) hr (by decide) (kY (by decide) (by decide));simp only[cw]at e1;have e1:cQ [.ref 0,.pv (.int 6)] [.lst (li ns),.lst (hs.map bX)]=.ok (.pv (.int t)) [.lst (li n1),.lst (hs.map bX)]:=e1;have lz:(hs.map bX).length<16777216:=by rw[aj];omega
 have lz':hs.length<16777216:=by omega
 have el:∀xss,(hs++[xss]).map bX=hs.map bX++[bX xss]:=λxss=>by simp
 by_cases c1:t=5/\0<hs.length
 .obtain⟨v,hv,e2⟩:=Fv (hs.map bX) .non (by
   intro z;have:=congrArg kh z;simp at this;rw[this]at c1;simp at c1)
  obtain⟨xss,hx,rfl⟩:=ax.mp hv;refine⟨xss,n1,some (.pv (.int t)),?_,hw xss hx⟩;rw[el];obtain⟨c1,c2⟩:=c1;subst c1;have c3:hs.map bX≠[]:=λz=>by
   have:=congrArg kh z;simp at this;rw[this]at c2;simp at c2
  generalize hs.map bX=HL,bX xss=RV at *;unfold hB;simp! [-frz,-gF,bC,aK,aN,aL,aM,aF,aJ,e1,dI,eZ,iD,e2,lz,c3]
 .have c1':t=5->hs.map bX=[]:=λz=>by
   have:hs.length=0:=by
    by_cases y:0<hs.length
    .exact absurd ⟨z,y⟩ c1
    .omega
   rw[qd.mp this];rfl
  have cA:∀(S:aG)(ρ:bP),ρ[5]?=some (some (.pv (.int t)))->ρ[3]?=some (some (.ref 1))->S[1]?=some (.lst (hs.map bX))->iM (bH (aC cZ (aA 5) (mC (.int 5)))) (bH (aC fB (mR eI (aB (aA 3) aD)) (mC (.int 0)))) ρ S=.ok false S:=λS ρ h5 h3 hS=>by
   cases z:t==5 with
   |false=>simp! [-frz,-gF,bC,aK,aN,aL,aM,aF,aJ,h5,z]
   |true=>
    rw[c1' (by simpa using z)]at hS;simp! [-frz,-gF,bC,aK,aN,aL,aM,aF,aJ,h5,h3,hS,z]
  generalize hA:iM (bH (aC cZ (aA 5) (mC (.int 5)))) (bH (aC fB (mR eI (aB (aA 3) aD)) (mC (.int 0))))=MA at cA;have hBe:hB=(aI (aP 5 (aQ cQ [] (aB (aA 0) (aB (mC (.int 6)) aD))))
   (cK MA (dS (dI (aA 3) (aB (aC aE (aA 3) (bK bO (mC (.int 1)))) aD))) (cK (bH (aC cZ (aA 1) (mC (.int 2)))) (dS (dI (aA 3) (aB (aQ kP [] (aB (aA 0) (aB (mC (.int 2)) (aB (aC aF (mC (.int 1)) (mR iU (aB (aC cZ (aA 5) (mC (.int 4))) aD))) aD)))) aD))) (cK (bH (aC fB (aA 5) (mC (.int 3)))) (dS (dI (aA 3) (aB (aQ kP [] (aB (aA 0) (aB (mC (.int 3)) (aB (mC (.int 1)) aD)))) aD))) (dS (dI (aA 3) (aB (aQ pO [] (aB (aA 0) aD)) aD))))))):=by rw[<-hA]
  rw[hBe];rcases hn with rfl |rfl
  .obtain⟨xss,n2,e2,hw2⟩:=Ln (n:=2) (.inl rfl) (W:=1+(if t=4 then 1 else 0)) (by split<;>decide) (by split<;>decide) n1 (hs.map bX)
   refine⟨xss,n2,some (.pv (.int t)),?_,hw2⟩;rw[el];have c2:((2:Nat):Int)=2:=rfl;rw[c2]at e2⊢;have cA':=cA [.lst (li n1),.lst (hs.map bX)] [some (.ref 0),some (.pv (.int 2)),x2,some (.ref 1),x4,some (.pv (.int t))] rfl rfl rfl;generalize hs.map bX=HL,bX xss=RV at*
   by_cases z:t=4
   .subst z
    simp! [-frz,-gF,bC,aK,aN,aL,aM,aF,aJ,e1,cA',dI,eZ,iD,iU,jH,xJ,lz]at e2⊢;simp[e2,lz,bQ.bind,cN.of]
   .rw[if_neg z]at e2
    have z':(t==4)=false:=by simpa using z
    simp! [-frz,-gF,bC,aK,aN,aL,aM,aF,aJ,e1,cA',dI,eZ,iD,iU,jH,xJ,lz,z']at e2⊢;simp[e2,lz,bQ.bind,cN.of]
  .have c3:((3:Nat):Int)=3:=rfl
   rw[c3];have cA':=cA [.lst (li n1),.lst (hs.map bX)] [some (.ref 0),some (.pv (.int 3)),x2,some (.ref 1),x4,some (.pv (.int t))] rfl rfl rfl
   by_cases z:3<t
   .obtain⟨xss,n2,e2,hw2⟩:=Ln (n:=3) (.inr rfl) (W:=1) (by decide) (by decide) n1 (hs.map bX)
    refine⟨xss,n2,some (.pv (.int t)),?_,hw2⟩;rw[el];rw[c3]at e2;generalize hs.map bX=HL,bX xss=RV at *;simp! [-frz,-gF,bC,aK,aN,aL,aM,aF,aJ,e1,cA',dI,eZ,iD,jH,xJ,z];simp[e2,lz,bQ.bind,cN.of]
   .obtain⟨xss,n2,e2,hw2⟩:=L0 n1 (hs.map bX)
    refine⟨xss,n2,some (.pv (.int t)),?_,hw2⟩;rw[el];generalize hs.map bX=HL,bX xss=RV at *;simp! [-frz,-gF,bC,aK,aN,aL,aM,aF,aJ,e1,cA',dI,eZ,iD,jH,xJ,z,e2,lz]
theorem Qp{n:Nat}(hn:n=2\/n=3)(x2:BC):∀(is:BA)(hs:AU)(ns:AS)(x4 x5:BC),(∀xss∈hs,Rw n xss)->hs.length+is.length<=99->∃(hs':AU)(ns':AS)(y4 y5:BC),
  cJ [] (gN 4) hB is [some (.ref 0),some (.pv (.int (n:Int))),x2,some (.ref 1),x4,x5] [.lst (li ns),.lst (hs.map bX)]=.nx [some (.ref 0),some (.pv (.int (n:Int))),x2,some (.ref 1),y4,y5] [.lst (li ns'),.lst (hs'.map bX)]/\hs'.length=hs.length+is.length/\∀xss∈hs',Rw n xss
 |[],hs,ns,x4,x5,hw,_=>⟨hs,ns,x4,x5,fF,rfl,hw⟩
 |i::is,hs,ns,x4,x5,hw,h9=>by
  have h9:hs.length+(is.length+1)<=99:=h9;obtain⟨xss,n1,y5,e1,r1⟩:=abf hn ns hs hw (by omega) x2 (some (.pv i)) x5;obtain⟨hs',n2,z4,z5,e2,l2,r2⟩:=Qp hn x2 is (hs++[xss]) n1 (some (.pv i)) y5 (λy hy=>by
   rcases ck.mp hy with z |z
   .exact hw y z
   .have:y=xss:=by simpa using z
    rw[this];exact r1) (by rw[bj,kj];omega)
  refine⟨hs',n2,z4,z5,?_,by rw[l2,bj,kj];show _=hs.length+(is.length+1);omega,r2⟩;rw[dY];simp only[gN,dw,cw];rw[e1];exact e2
theorem Bs{n M:Nat}(hn:n=2\/n=3)(hM:M<=8)(ns:AS):∃(hs:AU)(ns':AS),oW [.ref 0,.pv (.int (n:Int)),.pv (.int (M:Int))] [.lst (li ns)]=.ok (.ref 1) [.lst (li ns'),.lst (hs.map bX)]/\hs.length<=M/\∀xss∈hs,Rw n xss:=by
 have hr:fA [.lst (li ns),.lst []] 0 ns:=rfl;obtain⟨t,n1,e1,t0,t1,_⟩:=iZ (m:=(M:Int)+1) hr (by omega) (kY (by omega) (by omega));simp only[cw]at e1;have e1:cQ [.ref 0,.pv (.int ((M:Int)+1))] [.lst (li ns),.lst []]=.ok (.pv (.int t)) [.lst (li n1),.lst []]:=e1;obtain⟨m,rfl⟩:∃m:Nat,t=(m:Int):=⟨t.toNat,by omega⟩;have rg:=kJ [.lst (li n1),.lst []] (n:=m) (by omega);have hi:(cS 0 m).length=m:=by unfold cS;simp
 obtain⟨hs,n2,y4,y5,e2,l2,r2⟩:=Qp hn (some (.pv (.int (M:Int)))) (cS 0 m) [] n1 none none (λ_ h=>absurd h fe) (by rw[hi];show 0+m<=99;omega);rw[hi]at l2;refine⟨hs,n2,?_,by rw[l2];show 0+m<=M;omega,r2⟩;simp only[cg]at e2;have hb:xW=(aI (aP 3 (eJ aD))
  (aI (bI (cM (aB (aQ cQ [] (aB (aA 0) (aB (aC aF (aA 2) (mC (.int 1))) aD))) aD)) (gN 4) hB)
  (bF (aA 3)))):=rfl
 unfold oW aR;rw[hb];generalize (M:Int)=MM,(n:Int)=N,(m:Int)=mm,cS 0 m=IP,hs.map bX=HL,hB=HB at *;simp! [aE,aV,aW,aO,aK,aN,aL,aM,aF,aJ,eJ,jU,bI,cM,e1,rg,e2]
theorem oC{n k:Nat}{L:AS}{b:Int}(hb:0<b)(hl:L.length=n)(hL:∀x∈L,Bd k x)(bb:Bd k b):∃(zs:AS)(z:Int),low (L++[b])=zs++[z]/\Pq n k zs z/\∀j,j<n->zs.getD j 0*b=L.getD j 0*z:=by
 obtain⟨zs,z,g,e,hg,hz,g1,g2,hzl⟩:=vV L hb;have hlow:=La L hb;have hbd:=vP (k:=k) (ns:=L++[b]) λm hm=>by
  rcases ck.mp hm with y |y
  .exact hL m y
  .have:m=b:=by simpa using y
   rw[this];exact bb
 rw[e]at hlow hbd;refine⟨zs,z,e,⟨hzl.trans hl,hz,hlow,λx hx=>hbd x (ju _ hx),hbd z (jK zs z)⟩,λj hj=>?_⟩;have hj':j<zs.length:=by omega
 have e1:L.getD j 0=g*zs.getD j 0:=by
  rw[g1];simp[cy,hj']
 rw[e1,g2];grind
structure Sp(u:Int×Int):Prop where
 p:0<u.1
 q:0<u.2
 bp:Bd 30 u.1
 bq:Bd 30 u.2
theorem p9:hJ (.int 10) (.int 9)=some (.int 1000000000):=uY (i:=10) (j:=9) ⟨by decide,by decide,by decide⟩
theorem p6:hJ (.int 10) (.int 6)=some (.int 1000000):=uY (i:=10) (j:=6) ⟨by decide,by decide,by decide⟩
theorem eK{v:Int}(h0:0<=v)(h1:v<3):∃M N:Int,aE (.lst [.int 1,.int 7,.int 1000000000]) (.int v)=some (.int M)/\aE (.lst [.int 1,.int 7,.int 1000000]) (.int v)=some (.int N)/\0<M/\M<=1000000000/\0<N/\N<=1000000:=by
 have:v=0\/v=1\/v=2:=by omega
 rcases this with rfl |rfl |rfl
 .exact⟨1,1,rfl,rfl,by decide,by decide,by decide,by decide⟩
 .exact⟨7,7,rfl,rfl,by decide,by decide,by decide,by decide⟩
 .exact⟨1000000000,1000000,rfl,rfl,by decide,by decide,by decide,by decide⟩
abbrev sB:MS:=(aI (aP 4 (aQ cQ [] (aB (aA 0) (aB (mC (.int 3)) aD))))
 (dS (dI (aA 2) (aB (aQ rM [] (aB (aC aF (mC (.int 1)) (aQ cQ [] (aB (aA 0) (aB (aC aE (mN eC (aB (mC (.int 1)) (aB (mC (.int 7)) (aB (aC hJ (mC (.int 10)) (mC (.int 9))) aD)))) (aA 4)) aD)))) (aB (aC aF (mC (.int 1)) (aQ cQ [] (aB (aA 0) (aB (aC aE (mN eC (aB (mC (.int 1)) (aB (mC (.int 7)) (aB (aC hJ (mC (.int 10)) (mC (.int 6))) aD)))) (aA 4)) aD)))) aD))) aD))))
theorem aai(ns:AS)(fs:List (Int×Int))(hl:fs.length<=9)(x1 x3 x4:BC):∃(u:Int×Int)(ns':AS)(y4:BC),sB [some (.ref 0),x1,some (.ref 1),x3,x4] [.lst (li ns),.lst (fs.map fv)]=.nx [some (.ref 0),x1,some (.ref 1),x3,y4] [.lst (li ns'),.lst ((fs++[u]).map fv)]/\Sp u:=by
 have hr:∀ms,fA [.lst (li ms),.lst (fs.map fv)] 0 ms:=λ_=>rfl;obtain⟨c,n1,e1,c0,c1,_⟩:=iZ (m:=3) (hr ns) (by decide) (kY (by decide) (by decide));obtain⟨M,N,em,en,M0,M1,N0,N1⟩:=eK c0 c1;have bM:Bd 8000 M:=(Bd.of (k:=30) (n:=1000000000) (by omega) (by decide)).mono (by decide);have bN:Bd 8000 N:=(Bd.of (k:=30) (n:=1000000000) (by omega) (by decide)).mono (by decide);obtain⟨t,n2,e2,t0,t1,_⟩:=iZ (m:=M) (hr n1) M0 bM;obtain⟨v,n3,e3,v0,v1,_⟩:=iZ (m:=N) (hr n2) N0 bN;simp only[cw]at e1 e2 e3;have bt:Bd 30 (1+t):=Bd.of (n:=1000000000) (by omega) (by decide);have bv:Bd 30 (1+v):=Bd.of (n:=1000000000) (by omega) (by decide);have nz:1+v≠0:=by omega
 have e4:=L5 (1+t) (1+v) [.lst (li n3),.lst (fs.map fv)] (bt.mono (by decide)) (bv.mono (by decide));obtain⟨p,q,ef,hq,hpq⟩:=Gc (t:=1+t) nz;obtain⟨b1,b2⟩:=aaQ bt bv ef;have hp:0<p:=by
  have h1:0<(1+t)*q:=aq (by omega) hq;rw[<-hpq]at h1;exact xc h1 (by omega)
 rw[ef]at e4;simp only[av,cg]at e4;refine⟨(p,q),n3,some (.pv (.int c)),?_,⟨hp,hq,b1,b2⟩⟩;have el:(fs++[(p,q)]).map fv=fs.map fv++[.tup [.int p,.int q]]:=by simp
 rw[el];have lz:(fs.map fv).length<16777216:=by rw[aj];omega
 have e1:cQ [.ref 0,.pv (.int 3)] [.lst (li ns),.lst (fs.map fv)]=.ok (.pv (.int c)) [.lst (li n1),.lst (fs.map fv)]:=e1;have e2:cQ [.ref 0,.pv (.int M)] [.lst (li n1),.lst (fs.map fv)]=.ok (.pv (.int t)) [.lst (li n2),.lst (fs.map fv)]:=e2;have e3:cQ [.ref 0,.pv (.int N)] [.lst (li n2),.lst (fs.map fv)]=.ok (.pv (.int v)) [.lst (li n3),.lst (fs.map fv)]:=e3;generalize fs.map fv=FL at *;unfold sB;simp! [bC,aK,aN,aL,aM,aF,aJ,e1,p9,p6,em,en,e2,e3,e4,dI,eZ,iD,lz]
theorem Bp(x1:BC):∀(is:BA)(fs:List (Int×Int))(ns:AS)(x3 x4:BC),(∀u∈fs,Sp u)->fs.length+is.length<=9->∃(fs':List (Int×Int))(ns':AS)(y3 y4:BC),
  cJ [] (gN 3) sB is [some (.ref 0),x1,some (.ref 1),x3,x4] [.lst (li ns),.lst (fs.map fv)]=.nx [some (.ref 0),x1,some (.ref 1),y3,y4] [.lst (li ns'),.lst (fs'.map fv)]/\fs'.length=fs.length+is.length/\∀u∈fs',Sp u
 |[],fs,ns,x3,x4,hw,_=>⟨fs,ns,x3,x4,fF,rfl,hw⟩
 |i::is,fs,ns,x3,x4,hw,h9=>by
  have h9:fs.length+(is.length+1)<=9:=h9;obtain⟨u,n1,y4,e1,r1⟩:=aai ns fs (by omega) x1 (some (.pv i)) x4;obtain⟨fs',n2,z3,z4,e2,l2,r2⟩:=Bp x1 is (fs++[u]) n1 (some (.pv i)) y4 (λy hy=>by
   rcases ck.mp hy with z |z
   .exact hw y z
   .have:y=u:=by simpa using z
    rw[this];exact r1) (by rw[bj,kj];omega)
  refine⟨fs',n2,z3,z4,?_,by rw[l2,bj,kj];show _=fs.length+(is.length+1);omega,r2⟩;rw[dY];simp only[gN,dw,cw];rw[e1];exact e2
theorem Ts{n:Nat}(hn:n=2\/n=3)(ns:AS):∃(fs:List (Int×Int))(ns':AS),rC [.ref 0,.pv (.int (n:Int))] [.lst (li ns)]=.ok (.ref 1) [.lst (li ns'),.lst (fs.map fv)]/\fs.length=n/\∀u∈fs,Sp u:=by
 have hi:(cS 0 n).length=n:=by unfold cS;simp
 have rg:=kJ [.lst (li ns),.lst []] (n:=n) (by omega);obtain⟨fs,n2,y3,y4,e2,l2,r2⟩:=Bp (some (.pv (.int (n:Int)))) (cS 0 n) [] ns none none (λ_ h=>absurd h fe) (by rw[hi];show 0+n<=9;omega);rw[hi]at l2;refine⟨fs,n2,?_,by rw[l2];show 0+n=n;omega,r2⟩;simp only[cg]at e2;have hb:yK=(aI (aP 2 (eJ aD)) (aI (bI (cM (aB (aA 1) aD)) (gN 3) sB) (bF (aA 2)))):=rfl;unfold rC aR;rw[hb];generalize (n:Int)=N,cS 0 n=IP,fs.map fv=FL,sB=SB at *;simp! [aE,aV,aW,aO,aK,aN,aL,aM,aF,aJ,eJ,jU,bI,cM,rg,e2]
def eQ:List (Int×Int)->AS->AS
 |[u,v],[a,b]=>low ([a*u.1*v.2,b*v.1*u.2]++[1*u.2*v.2])
 |[u,v,t],[a,b,c]=>low ([a*u.1*(v.2*t.2),b*v.1*(u.2*t.2),c*t.1*(u.2*v.2)]++[1*u.2*v.2*t.2])
 |_,_=>[]
def lX:List (Int×Int)->Nat->Int
 |[u,v],0=>u.1*v.2
 |[u,v],1=>v.1*u.2
 |[u,v,t],0=>u.1*(v.2*t.2)
 |[u,v,t],1=>v.1*(u.2*t.2)
 |[u,v,t],2=>t.1*(u.2*v.2)
 |_,_=>1
def iA:List (Int×Int)->Int
 |[u,v]=>1*u.2*v.2
 |[u,v,t]=>1*u.2*v.2*t.2
 |_=>1
theorem Lp{n k:Nat}(hk:k<=60)(hn:n=2\/n=3)(S:aG){fs:List (Int×Int)}{xs:AS}(hf:fs.length=n)(h:∀u∈fs,Sp u)(hx:xs.length=n)(hb:∀x∈xs,Bd k x){V:PV}(hV:V=lv xs\/V=tv xs):jM [.pv V,.pv (.lst (fs.map fv))] S=.ok (.pv (tv (eQ fs xs))) S/\Gu n (k+97) (eQ fs xs)/\gS n (lX fs) (λ_=>0) (iA fs) (xs++[1]) (eQ fs xs):=by
 have o1:Bd 1 (1:Int):=by unfold Bd;decide
 rcases hn with rfl |rfl
 .match fs,hf,h,xs,hx,hb,hV with
  |[u,v],_,h,[a,b],_,hb,hV=>
   have hu:=h u (by simp);have hv:=h v (by simp);have ba:=hb a (by simp);have bb:=hb b (by simp);have m1:=mk o1 hu.bq (by omega) (by omega);have m2:=mk (o1.mul hu.bq) hv.bq (by omega) (by omega);have d1:(1*u.2*v.2).fdiv u.2=v.2:=by rw[iu];exact nN (by have:=hu.q;omega)
   have d2:(1*u.2*v.2).fdiv v.2=u.2:=by rw[iu,db];exact nN (by have:=hv.q;omega)
   have q1:dW (.int (1*u.2*v.2)) (.int u.2)=some (.int v.2):=by
    have e:=jL (i:=1*u.2*v.2) (j:=u.2) ⟨by have:=hu.q;omega,hu.bq.mono (by omega)⟩;rw[d1]at e;exact e
   have q2:dW (.int (1*u.2*v.2)) (.int v.2)=some (.int u.2):=by
    have e:=jL (i:=1*u.2*v.2) (j:=v.2) ⟨by have:=hv.q;omega,hv.bq.mono (by omega)⟩;rw[d2]at e;exact e
   have m3:=mk ba hu.bp (by omega) (by omega);have m4:=mk (ba.mul hu.bp) hv.bq (by omega) (by omega);have m5:=mk bb hv.bp (by omega) (by omega);have m6:=mk (bb.mul hv.bp) hu.bq (by omega) (by omega);have pE:0<1*u.2*v.2:=aq (aq (by omega) hu.q) hv.q;have bL:∀x∈[a*u.1*v.2,b*v.1*u.2],Bd (k+97) x:=by
    simp;exact⟨((ba.mul hu.bp).mul hv.bq).mono (by omega),((bb.mul hv.bp).mul hu.bq).mono (by omega)⟩
   have bE:Bd (k+97) (1*u.2*v.2):=((o1.mul hu.bq).mul hv.bq).mono (by omega);obtain⟨zs,z,el,Z,rel⟩:=oC (n:=2) pE rfl bL bE;have ew:=nQ ([a*u.1*v.2,b*v.1*u.2]++[1*u.2*v.2]) S (by
    intro x hx;rcases ck.mp hx with y |y
    .exact(bL x y).mono (by omega)
    .have:x=1*u.2*v.2:=by simpa using y
     rw[this];exact bE.mono (by omega))
   have es:eQ [u,v] [a,b]=zs++[z]:=el;refine⟨?_,by rw[es];exact⟨zs,z,rfl,Z⟩,[a,b],1,zs,z,rfl,es,rfl,Z.len,by decide,Z.pos,λj hj=>?_⟩
   .rw[el]at ew
    rw[es];simp only[av,cg,jq,ib]at ew;generalize hQ:1*u.2*v.2=Q at *;generalize hA:a*u.1*v.2=A at *;generalize hB:b*v.1*u.2=B at *;unfold jM aR vE;simp only[lv,li,tv,av,cg]at hV⊢;generalize (zs++[z]).map PV.int=ZL at *;simp only[iu]at m1 m2 hQ;rcases hV with rfl |rfl<;>simp! [aE,aV,aW,aO,aK,aN,aL,aM,aF,aJ,bI,bD,bT,dY,fF,gN,m1,m2,bB,cD,gJ,jS,fJ,eE,dZ,gT,dM,fG,m3,m4,m5,m6,q1,q2,ew]
   .have r:=rel j hj
    match j,hj with
    |0,_=>
     have r:zs.getD 0 0*(1*u.2*v.2)=a*u.1*v.2*z:=r;show zs.getD 0 0*(1*u.2*v.2*1)=(u.1*v.2*a+0*1)*z;rw[om,r];grind
    |1,_=>
     have r:zs.getD 1 0*(1*u.2*v.2)=b*v.1*u.2*z:=r;show zs.getD 1 0*(1*u.2*v.2*1)=(v.1*u.2*b+0*1)*z;rw[om,r];grind
 .match fs,hf,h,xs,hx,hb,hV with
  |[u,v,t],_,h,[a,b,c],_,hb,hV=>
   have hu:=h u (by simp);have hv:=h v (by simp);have ht:=h t (by simp);have ba:=hb a (by simp);have bb:=hb b (by simp);have bc:=hb c (by simp);have m1:=mk o1 hu.bq (by omega) (by omega);have m2:=mk (o1.mul hu.bq) hv.bq (by omega) (by omega);have m2':=mk ((o1.mul hu.bq).mul hv.bq) ht.bq (by omega) (by omega);have d1:(1*u.2*v.2*t.2).fdiv u.2=v.2*t.2:=by rw[iu,Int.mul_assoc];exact nN (by have:=hu.q;omega)
   have d2:(1*u.2*v.2*t.2).fdiv v.2=u.2*t.2:=by rw[show 1*u.2*v.2*t.2=v.2*(u.2*t.2) by grind];exact nN (by have:=hv.q;omega)
   have d3:(1*u.2*v.2*t.2).fdiv t.2=u.2*v.2:=by rw[show 1*u.2*v.2*t.2=t.2*(u.2*v.2) by grind];exact nN (by have:=ht.q;omega)
   have q1:dW (.int (1*u.2*v.2*t.2)) (.int u.2)=some (.int (v.2*t.2)):=by
    have e:=jL (i:=1*u.2*v.2*t.2) (j:=u.2) ⟨by have:=hu.q;omega,hu.bq.mono (by omega)⟩;rw[d1]at e;exact e
   have q2:dW (.int (1*u.2*v.2*t.2)) (.int v.2)=some (.int (u.2*t.2)):=by
    have e:=jL (i:=1*u.2*v.2*t.2) (j:=v.2) ⟨by have:=hv.q;omega,hv.bq.mono (by omega)⟩;rw[d2]at e;exact e
   have q3:dW (.int (1*u.2*v.2*t.2)) (.int t.2)=some (.int (u.2*v.2)):=by
    have e:=jL (i:=1*u.2*v.2*t.2) (j:=t.2) ⟨by have:=ht.q;omega,ht.bq.mono (by omega)⟩;rw[d3]at e;exact e
   have m3:=mk ba hu.bp (by omega) (by omega);have m4:=mk (ba.mul hu.bp) (hv.bq.mul ht.bq) (by omega) (by omega);have m5:=mk bb hv.bp (by omega) (by omega);have m6:=mk (bb.mul hv.bp) (hu.bq.mul ht.bq) (by omega) (by omega);have m7:=mk bc ht.bp (by omega) (by omega);have m8:=mk (bc.mul ht.bp) (hu.bq.mul hv.bq) (by omega) (by omega);have pE:0<1*u.2*v.2*t.2:=aq (aq (aq (by omega) hu.q) hv.q) ht.q;have bL:∀x∈[a*u.1*(v.2*t.2),b*v.1*(u.2*t.2),c*t.1*(u.2*v.2)],Bd (k+97) x:=by
    simp;exact⟨((ba.mul hu.bp).mul (hv.bq.mul ht.bq)).mono (by omega),((bb.mul hv.bp).mul (hu.bq.mul ht.bq)).mono (by omega),((bc.mul ht.bp).mul (hu.bq.mul hv.bq)).mono (by omega)⟩
   have bE:Bd (k+97) (1*u.2*v.2*t.2):=(((o1.mul hu.bq).mul hv.bq).mul ht.bq).mono (by omega);obtain⟨zs,z,el,Z,rel⟩:=oC (n:=3) pE rfl bL bE;have ew:=nQ ([a*u.1*(v.2*t.2),b*v.1*(u.2*t.2),c*t.1*(u.2*v.2)]++[1*u.2*v.2*t.2]) S (by
    intro x hx;rcases ck.mp hx with y |y
    .exact(bL x y).mono (by omega)
    .have:x=1*u.2*v.2*t.2:=by simpa using y
     rw[this];exact bE.mono (by omega))
   have es:eQ [u,v,t] [a,b,c]=zs++[z]:=el;refine⟨?_,by rw[es];exact⟨zs,z,rfl,Z⟩,[a,b,c],1,zs,z,rfl,es,rfl,Z.len,by decide,Z.pos,λj hj=>?_⟩
   .rw[el]at ew
    rw[es];simp only[av,cg,jq,ib]at ew;generalize hQ:1*u.2*v.2*t.2=Q at *;generalize hA:a*u.1*(v.2*t.2)=A at *;generalize hB:b*v.1*(u.2*t.2)=B at *;generalize hC:c*t.1*(u.2*v.2)=C at *;unfold jM aR vE;simp only[lv,li,tv,av,cg]at hV⊢;generalize (zs++[z]).map PV.int=ZL at *;simp only[iu]at m1 m2 m2' hQ;rcases hV with rfl |rfl<;>simp! [aE,aV,aW,aO,aK,aN,aL,aM,aF,aJ,bI,bD,bT,dY,fF,gN,m1,m2,m2',bB,cD,gJ,jS,fJ,eE,dZ,gT,dM,fG,m3,m4,m5,m6,m7,m8,q1,q2,q3,ew]
   .have r:=rel j hj
    match j,hj with
    |0,_=>
     have r:zs.getD 0 0*(1*u.2*v.2*t.2)=a*u.1*(v.2*t.2)*z:=r;show zs.getD 0 0*(1*u.2*v.2*t.2*1)=(u.1*(v.2*t.2)*a+0*1)*z;rw[om,r];grind
    |1,_=>
     have r:zs.getD 1 0*(1*u.2*v.2*t.2)=b*v.1*(u.2*t.2)*z:=r;show zs.getD 1 0*(1*u.2*v.2*t.2*1)=(v.1*(u.2*t.2)*b+0*1)*z;rw[om,r];grind
    |2,_=>
     have r:zs.getD 2 0*(1*u.2*v.2*t.2)=c*t.1*(u.2*v.2)*z:=r;show zs.getD 2 0*(1*u.2*v.2*t.2*1)=(t.1*(u.2*v.2)*c+0*1)*z;rw[om,r];grind
theorem uX{n:Nat}(hn:n=2\/n=3)(S:aG){fs:List (Int×Int)}{xs:AS}(hf:fs.length=n)(h:∀u∈fs,Sp u)(hx:xs.length=n)(hb:∀x∈xs,-8<x/\x<8):jM [.pv (lv xs),.pv (.lst (fs.map fv))] S=.ok (.pv (tv (eQ fs xs))) S/\Gu n 100 (eQ fs xs)/\gS n (lX fs) (λ_=>0) (iA fs) (xs++[1]) (eQ fs xs):=Lp (k:=3) (by decide) hn S hf h hx (λx hh=>Bd.of (n:=7) (by have:=hb x hh;omega) (by decide)) (.inl rfl)
theorem vJ{n:Nat}(hn:n=2\/n=3){fs:List (Int×Int)}(hf:fs.length=n)(h:∀u∈fs,Sp u):0<iA fs/\∀j,j<n->0<lX fs j:=by
 rcases hn with rfl |rfl
 .match fs,hf,h with
  |[u,v],_,h=>
   have hu:=h u (by simp);have hv:=h v (by simp);refine⟨aq (aq (by decide) hu.q) hv.q,λj hj=>?_⟩
   match j,hj with
   |0,_=>exact aq hu.p hv.q
   |1,_=>exact aq hv.p hu.q
 .match fs,hf,h with
  |[u,v,t],_,h=>
   have hu:=h u (by simp);have hv:=h v (by simp);have ht:=h t (by simp);refine⟨aq (aq (aq (by decide) hu.q) hv.q) ht.q,λj hj=>?_⟩
   match j,hj with
   |0,_=>exact aq hu.p (aq hv.q ht.q)
   |1,_=>exact aq hv.p (aq hu.q ht.q)
   |2,_=>exact aq ht.p (aq hu.q hv.q)
theorem Ey{n:Nat}(hn:n=2\/n=3){fs:List (Int×Int)}(hf:fs.length=n)(h:∀u∈fs,Sp u){xss:AT}(w:Rw n xss):dU (xss.map (eQ fs))≠0:=λz=>by
 have af:∀xs∈xss,gS n (lX fs) (λ_=>0) (iA fs) (xs++[1]) (eQ fs xs):=λxs hx=>(uX hn [] hf h (w.l xs hx) (λy hy=>by have:=w.b xs hx y hy;omega)).2.2;have gu:∀us∈xss.map (eQ fs),Gu n 100 us:=λus hu=>by
  obtain⟨xs,hx,rfl⟩:=ax.mp hu;exact(uX hn [] hf h (w.l xs hx) (λy hy=>by have:=w.b xs hx y hy;omega)).2.1
 have p2:=pU gu;obtain⟨pe,pa⟩:=vJ hn hf h;have nz:=w.nz;have wl:=w.len;clear w;rcases hn with rfl |rfl
 .match xss,wl,af,nz,p2,z with
  |[a,b,c],_,af,nz,p2,z=>
   have e:=Tc (af a (by simp)) (af b (by simp)) (af c (by simp));have z:dU [eQ fs a,eQ fs b,eQ fs c]=0:=z;rw[z,rh]at e;exact kz (kz (jl (aq (aq (pa 0 (by decide)) (pa 1 (by decide))) pe)) nz) (jl p2) e.symm
 .match xss,wl,af,nz,p2,z with
  |[a,b,c,d],_,af,nz,p2,z=>
   have e:=Rc (af a (by simp)) (af b (by simp)) (af c (by simp)) (af d (by simp));have z:dU [eQ fs a,eQ fs b,eQ fs c,eQ fs d]=0:=z;rw[z,rh]at e;exact kz (kz (jl (aq (aq (aq (pa 0 (by decide)) (pa 1 (by decide))) (pa 2 (by decide))) pe)) nz) (jl p2) e.symm
abbrev lB:MS:=(aI (aP 5 (aQ mM [] (aB (aA 0) (aB (mR eI (aB (aA 2) aD)) aD))))
 (dS (dI (aA 3) (aB (aQ nP [] (aB (bB ["_law_corner"] [(5,"_law_far_here"),(2,"_law_stretch_here")] (bD (aA 4)) (gN 0) (aQ kN [] (aB (aQ jM [] (aB (aA 0) (aB (aA 2) aD))) (aB (aA 1) (aB (mC (.int 1)) aD))))) aD)) aD))))
theorem Mz{L:AS}{w:Int}(hw:0<w)(e:low (L++[w])=L++[w]):gl (L++[w]) 0=1:=by
 have hg:=sA (jK L w) (by omega);rw[rX (jK L w) (by omega),dz]at e;have e2:=(ul e (by simp)).2;have e3:w/gl (L++[w]) 0=w:=by simpa using e2
 generalize gl (L++[w]) 0=g at *;have e4:=Int.mul_ediv_self_le (x:=w) (k:=g) (by omega);rw[e3]at e4
 by_cases h2:2<=g
 .have:=ko h2 (show 0<=w by omega)
  omega
 .omega
theorem N8{k:Nat}{x0 y0 w0 x1 y1 w1 x2 y2 w2:Int}(S:aG)(h:S[k]?=some (.lst [v2 x0 y0 w0,v2 x1 y1 w1,v2 x2 y2 w2]))(p:P2 x0 y0 w0)(q:P2 x1 y1 w1)(r:P2 x2 y2 w2):gY [.ref k] S=.ok (.pv (.int (w0*D2 x0 y0 w0 x1 y1 w1 x2 y2 w2))) S:=by
 have a1:=wP S p q;have a2:=wP S p r;have bu:=sb p.bx p.bw q.bx q.bw;have bv:=sb p.by_ p.bw q.by_ q.bw;have bu2:=sb p.bx p.bw r.bx r.bw;have bv2:=sb p.by_ p.bw r.by_ r.bw;have id:(x1*w0-x0*w1)*(y2*w0-y0*w2)-(y1*w0-y0*w1)*(x2*w0-x0*w2)=w0*D2 x0 y0 w0 x1 y1 w1 x2 y2 w2:=by
  unfold D2;grind
 generalize y2*w0-y0*w2=V1,x2*w0-x0*w2=V0,y1*w0-y0*w1=U1,x1*w0-x0*w1=U0,w0*D2 x0 y0 w0 x1 y1 w1 x2 y2 w2=D at *;have m1:=dR bu bv2;have m2:=dR bv bu2;generalize v2 x2 y2 w2=R,v2 x1 y1 w1=Q,v2 x0 y0 w0=P at *;have et:iG [.pv (.lst [.lst [.int U0,.int U1],.lst [.int V0,.int V1]])] S=.ok (.pv (.int D)) S:=by
  unfold iG aR mI;simp! [aE,aV,aW,aO,aK,aN,aL,aM,aF,aJ,m1,m2,id]
 unfold gY aR pQ;have s1:=mT P [Q,R];simp! [aE,aV,aW,aO,aK,aN,aL,aM,aF,aJ,bB,bD,bT,cF,cE,cG,eN,s1,cD,eE,dZ,gN,a1,a2,et,h]
theorem O5{k:Nat}{x0 y0 z0 w0 x1 y1 z1 w1 x2 y2 z2 w2 x3 y3 z3 w3:Int}(S:aG)(h:S[k]?=some (.lst [v3 x0 y0 z0 w0,v3 x1 y1 z1 w1,v3 x2 y2 z2 w2,v3 x3 y3 z3 w3]))(p:P3 x0 y0 z0 w0)(q:P3 x1 y1 z1 w1)(r:P3 x2 y2 z2 w2)(s:P3 x3 y3 z3 w3):gY [.ref k] S=.ok (.pv (.int (w0*w0*D3 x0 y0 z0 w0 x1 y1 z1 w1 x2 y2 z2 w2 x3 y3 z3 w3))) S:=by
 have a1:=qJ S p q;have a2:=qJ S p r;have a3:=qJ S p s;have b1:=sb p.bx p.bw q.bx q.bw;have b2:=sb p.by_ p.bw q.by_ q.bw;have b3:=sb p.bz p.bw q.bz q.bw;have b4:=sb p.bx p.bw r.bx r.bw;have b5:=sb p.by_ p.bw r.by_ r.bw;have b6:=sb p.bz p.bw r.bz r.bw;have b7:=sb p.bx p.bw s.bx s.bw;have b8:=sb p.by_ p.bw s.by_ s.bw;have b9:=sb p.bz p.bw s.bz s.bw;have id:=Tb x0 y0 z0 w0 x1 y1 z1 w1 x2 y2 z2 w2 x3 y3 z3 w3;generalize z3*w0-z0*w3=T2,y3*w0-y0*w3=T1,x3*w0-x0*w3=T0,z2*w0-z0*w2=V2,y2*w0-y0*w2=V1,x2*w0-x0*w2=V0,z1*w0-z0*w1=U2,y1*w0-y0*w1=U1,x1*w0-x0*w1=U0,w0*w0*D3 x0 y0 z0 w0 x1 y1 z1 w1 x2 y2 z2 w2 x3 y3 z3 w3=D at *;have hh:∀{a:Int},Bd 2001 a->Bd 10000 a:=λh=>h.mono (by decide);have h4:∀{a:Int},Bd 4003 a->Bd 100000 a:=λh=>h.mono (by decide);have h2:∀{a:Int},Bd 2001 a->Bd 100000 a:=λh=>h.mono (by decide);have en:=zN (A:=.lst [.int U0,.int U1,.int U2]) (B:=.lst [.int V0,.int V1,.int V2]) S rfl rfl (hh b1) (hh b2) (hh b3) (hh b4) (hh b5) (hh b6);have c1:=cb b2 b6 b3 b5;have c2:=cb b3 b4 b1 b6;have c3:=cb b1 b5 b2 b4;have ed:=Ra (A:=.lst [.int (U1*V2-U2*V1),.int (U2*V0-U0*V2),.int (U0*V1-U1*V0)]) (B:=.lst [.int T0,.int T1,.int T2]) (us:=[U1*V2-U2*V1,U2*V0-U0*V2,U0*V1-U1*V0]) (vs:=[T0,T1,T2]) S (.inl rfl) (.inl rfl) (by simp;exact⟨h4 c1,h4 c2,h4 c3⟩) (by simp;exact⟨h2 b7,h2 b8,h2 b9⟩);rw[id]at ed;generalize v3 x3 y3 z3 w3=T,v3 x2 y2 z2 w2=R,v3 x1 y1 z1 w1=Q,v3 x0 y0 z0 w0=P,U0*V1-U1*V0=N2,U2*V0-U0*V2=N1,U1*V2-U2*V1=N0 at *;have et:iG [.pv (.lst [.lst [.int U0,.int U1,.int U2],.lst [.int V0,.int V1,.int V2],.lst [.int T0,.int T1,.int T2]])] S=.ok (.pv (.int D)) S:=by
  unfold iG aR mI;simp! [aE,aV,aW,aO,aK,aN,aL,aM,aF,aJ,en,ed]
 unfold gY aR pQ;have s1:=mT P [Q,R,T];simp! [aE,aV,aW,aO,aK,aN,aL,aM,aF,aJ,bB,bD,bT,cF,cE,cG,eN,s1,cD,eE,dZ,gN,a1,a2,a3,et,h]
theorem Cp{n:Nat}(hn:n=2\/n=3){uss:AT}(hl:uss.length=n+1)(hg:∀us∈uss,Gu n 1000 us):∃d:Int,sg d=sg (dU uss)/\Bd 8000 d/\(∀S,gY [.pv (px uss)] S=.ok (.pv (.int d)) S)/\∀(S:aG)(k:Nat),S[k]?=some (.lst (uss.map tv))->gY [.ref k] S=.ok (.pv (.int d)) S:=by
 rcases hn with rfl |rfl
 .match uss,hl,hg with
  |[a,b,c],_,hg=>
   obtain⟨x0,y0,w0,rfl,q0,a0,b0,c0⟩:=(hg a (by simp)).two';obtain⟨x1,y1,w1,rfl,q1,a1,b1,c1⟩:=(hg b (by simp)).two';obtain⟨x2,y2,w2,rfl,q2,a2,b2,c2⟩:=(hg c (by simp)).two';refine⟨w0*D2 x0 y0 w0 x1 y1 w1 x2 y2 w2,pP q0,(c0.mul (aaF a0 b0 c0 a1 b1 c1 a2 b2 c2)).mono (by decide),λS=>?_,λS k h=>?_⟩
   .exact Ki S (.inr rfl) ⟨a0,b0,c0,q0⟩ ⟨a1,b1,c1,q1⟩ ⟨a2,b2,c2,q2⟩
   .exact N8 S h ⟨a0,b0,c0,q0⟩ ⟨a1,b1,c1,q1⟩ ⟨a2,b2,c2,q2⟩
 .match uss,hl,hg with
  |[a,b,c,d],_,hg=>
   obtain⟨x0,y0,z0,w0,rfl,q0,a0,b0,d0,c0⟩:=(hg a (by simp)).three';obtain⟨x1,y1,z1,w1,rfl,q1,a1,b1,d1,c1⟩:=(hg b (by simp)).three';obtain⟨x2,y2,z2,w2,rfl,q2,a2,b2,d2,c2⟩:=(hg c (by simp)).three';obtain⟨x3,y3,z3,w3,rfl,q3,a3,b3,d3,c3⟩:=(hg d (by simp)).three';refine⟨w0*w0*D3 x0 y0 z0 w0 x1 y1 z1 w1 x2 y2 z2 w2 x3 y3 z3 w3,pP (aq q0 q0),((c0.mul c0).mul (aaN a0 b0 d0 c0 a1 b1 d1 c1 a2 b2 d2 c2 a3 b3 d3 c3)).mono (by decide),λS=>?_,λS k h=>?_⟩
   .exact Dj S (.inr rfl) ⟨a0,b0,d0,c0,q0⟩ ⟨a1,b1,d1,c1,q1⟩ ⟨a2,b2,d2,c2,q2⟩ ⟨a3,b3,d3,c3,q3⟩
   .exact O5 S h ⟨a0,b0,d0,c0,q0⟩ ⟨a1,b1,d1,c1,q1⟩ ⟨a2,b2,d2,c2,q2⟩ ⟨a3,b3,d3,c3,q3⟩
def fP:AS->Int->Int
 |[],f=>f
 |s::L,f=>if s<0 then-1 else fP L (if s=0 then 0 else f)
def gK(uss:AT)(p:AS):AS:=(ak uss.length).map λj=>sg (dU (uss.set j p))
def bS(uss:AT)(p:AS):Int:=fP (gK uss p) 1
theorem xG(d:Int):sg d=-1\/sg d=0\/sg d=1:=by
 unfold sg;split
 .exact .inr (.inr rfl)
 .split
  .exact .inl rfl
  .exact .inr (.inl rfl)
theorem Ql:∀(L:AS)(f:Int),(f=-1\/f=0\/f=1)->(∀s∈L,s=-1\/s=0\/s=1)->(f=-1->L.foldl min f=-1)/\(f≠-1->L.foldl min f=fP L f)
 |[],f,_,_=>⟨λh=>h,λ_=>rfl⟩
 |s::L,f,hf,h=>by
  have hs:=h s (by simp);have ih:=λf hf=>Ql L f hf λx hx=>h x (ay _ hx);refine⟨λz=>?_,λz=>?_⟩
  .show L.foldl min (min f s)=-1
   have e:min f s=-1:=by rcases hs with rfl |rfl |rfl<;>subst z<;>decide
   rw[e];exact(ih (-1) (.inl rfl)).1 rfl
  .show L.foldl min (min f s)=if s<0 then-1 else fP L (if s=0 then 0 else f)
   rcases hs with rfl |rfl |rfl
   .have e:min f (-1)=-1:=by rcases hf with rfl |rfl |rfl<;>decide
    rw[e,if_pos (by decide)];exact(ih (-1) (.inl rfl)).1 rfl
   .have e:min f 0=0:=by rcases hf with rfl |rfl |rfl<;>first |decide |exact absurd rfl z
    rw[e,if_neg (by decide),if_pos rfl];exact(ih 0 (.inr (.inl rfl))).2 (by decide)
   .have e:min f 1=f:=by rcases hf with rfl |rfl |rfl<;>decide
    rw[e,if_neg (by decide),if_neg (by decide)];exact(ih f hf).2 z
theorem Qa{L:AS}(hne:L≠[])(h:∀s∈L,s=-1\/s=0\/s=1):L.min?=some (fP L 1):=by
 match L,hne,h with
 |s::L,_,h=>
  have e:=(Ql (s::L) 1 (.inr (.inr rfl)) h).2 (by decide);have hs:=h s (by simp);have e1:min 1 s=s:=by rcases hs with rfl |rfl |rfl<;>decide
  have e2:(s::L).foldl min 1=L.foldl min s:=by
   show L.foldl min (min 1 s)=_;rw[e1]
  rw[<-e,e2];rfl
theorem wY:∀(L:AS)(f:Int),(f=-1\/f=0\/f=1)->(fP L f=-1\/fP L f=0\/fP L f=1)
 |[],f,hf=>hf
 |s::L,f,hf=>by
  unfold fP;split
  .exact .inl rfl
  .split
   .exact wY L 0 (.inr (.inl rfl))
   .exact wY L f hf
theorem abv(uss:AT)(p:AS):bS uss p=-1\/bS uss p=0\/bS uss p=1:=wY _ 1 (.inr (.inr rfl))
theorem Rm{n k:Nat}{uss:AT}{p:AS}(h:∀us∈uss,Gu n k us)(g:Gu n k p)(j:Nat):∀us∈uss.set j p,Gu n k us:=λus hu=>by
 rcases t8 hu with z |z
 .exact h us z
 .rw[z];exact g
theorem M3{n:Nat}(hn:n=2\/n=3){uss:AT}{p:AS}(hl:uss.length=n+1)(S:aG){j:Nat}(hj:j<n+1):oX [.pv (px uss),.pv (.int (j:Int)),.pv (tv p)] S=.ok (.pv (px (uss.set j p))) S:=by
 have go:∀(L M R:BA)(a b:BB),gB (px uss) none (some (j:Int))=some (.tup L)->gB (px uss) (some ((j:Int)+1)) none=some (.tup R)->L.length+1+R.length<=100->px (uss.set j p)=.tup (L++[tv p]++R)->oX [.pv (px uss),.pv (.int (j:Int)),.pv (tv p)] S=.ok (.pv (px (uss.set j p))) S:=λL M R a b h1 h2 hz h3=>by
  have t1:eO (.tup L) (.tup [tv p])=some (.tup (L++[tv p])):=by
   show(if L.length+1<=16777216 then some (PV.tup (L++[tv p]))else none)=_;rw[if_pos (by omega)]
  have t2:eO (.tup (L++[tv p])) (.tup R)=some (.tup (L++[tv p]++R)):=by
   show(if(L++[tv p]).length+R.length<=16777216 then some (PV.tup (L++[tv p]++R))else none)=_;rw[if_pos (by rw[bj,kj];omega)]
  rw[h3];generalize (j:Int)=J,tv p=T,px uss=P,L++[tv p]=U,L++[tv p]++R=V at *;unfold oX aR yG;simp! [aE,aV,aW,aO,aK,aN,aL,aM,aF,aJ,cF,cE,cG,eN,h1,h2,t1,t2]
 rcases hn with rfl |rfl
 .match uss,hl,j,hj with
  |[a,b,c],_,0,_=>exact go [] [] [tv b,tv c] none none rfl rfl (by simp) rfl
  |[a,b,c],_,1,_=>exact go [tv a] [] [tv c] none none rfl rfl (by simp) rfl
  |[a,b,c],_,2,_=>exact go [tv a,tv b] [] [] none none rfl rfl (by simp) rfl
 .match uss,hl,j,hj with
  |[a,b,c,d],_,0,_=>exact go [] [] [tv b,tv c,tv d] none none rfl rfl (by simp) rfl
  |[a,b,c,d],_,1,_=>exact go [tv a] [] [tv c,tv d] none none rfl rfl (by simp) rfl
  |[a,b,c,d],_,2,_=>exact go [tv a,tv b] [] [tv d] none none rfl rfl (by simp) rfl
  |[a,b,c,d],_,3,_=>exact go [tv a,tv b,tv c] [] [] none none rfl rfl (by simp) rfl
theorem uR(m:Nat):cS 0 m=(ak m).map λj:Nat=>PV.int (j:Int):=by
 unfold cS;refine ij λj _=>?_;simp
structure Wx(n k:Nat)(uss:AT):Prop where
 len:uss.length=n+1
 gu:∀us∈uss,Gu n k us
theorem Iw{n k:Nat}(hn:n=2\/n=3)(hk:k<=1000){uss:AT}{p:AS}(h:Wx n k uss)(g:Gu n 1000 p)(S:aG):qZ [.pv (px uss),.pv (tv p)] S=.ok (.pv (.int (bS uss p))) S:=by
 have hl:=h.len;have hg:∀us∈uss,Gu n 1000 us:=λus hu=>(h.gu us hu).mono hk;have ec:bZ [] (gN 0) (aQ mL [] (aB (aQ oX [] (aB (aA 1) (aB (aA 0) (aB (aA 2) aD)))) aD)) ((ak (n+1)).map λj:Nat=>PV.int (j:Int)) [none,some (.pv (px uss)),some (.pv (tv p))] S=.ok ((ak (n+1)).map λj=>.int (sg (dU (uss.set j p)))) S:=by
  refine jJ (gL S) (λj:Nat=>PV.int (j:Int)) (λj=>.int (sg (dU (uss.set j p)))) (ak (n+1)) none λj hj=>?_;have e1:=M3 hn (p:=p) hl S (j:=j) (by simpa using hj);have hl2:(uss.set j p).length=n+1:=by rw[fu];exact hl
  have hg2:=Rm hg g j;have e2:=B8 (A:=px (uss.set j p)) (L:=(uss.set j p).map tv) hn S (by rw[aj];exact hl2) (Rq hg2) (.inr rfl);rw[Co hn (ar 1000) hl2 hg2]at e2;generalize (j:Int)=J,tv p=T,px uss=P0,px (uss.set j p)=P1 at *;simp! [aE,aV,aW,aO,aK,aN,aL,aM,aF,aJ,e1,e2]
 have rg:=kJ S (n:=n+1) (by omega);rw[uR]at rg;have es:((ak (n+1)).map λj=>sg (dU (uss.set j p)))=gK uss p:=by
  unfold gK;rw[hl]
 have em:((ak (n+1)).map λj=>PV.int (sg (dU (uss.set j p))))=(gK uss p).map .int:=by
  rw[<-es,dg];rfl
 rw[em]at ec;have hm:kU [.lst ((gK uss p).map .int)]=some (.int (bS uss p)):=by
  show((iB ((gK uss p).map .int)).bind λbs=>bs.min?.map PV.int)=_;rw[pA];show(gK uss p).min?.map PV.int=_;rw[Qa (L:=gK uss p) (by
   unfold gK;rw[hl];intro z;have:=congrArg kh z;simp at this) (λs hs=>by
   unfold gK at hs;obtain⟨j,_,rfl⟩:=ax.mp hs;exact xG _)]
  rfl
 have ln:((uss.map tv).length:Int)=((n+1:Nat):Int):=by rw[aj,hl]
 have hp:px uss=.tup (uss.map tv):=rfl;rw[hp]at ec⊢;generalize ((n+1:Nat):Int)=N1,tv p=T,uss.map tv=UL,((ak (n+1)).map λj:Nat=>PV.int (j:Int))=RL,(gK uss p).map PV.int=SL at *;unfold qZ aR yJ;simp! [aE,aV,aW,aO,aK,aN,aL,aM,aF,aJ,ln,bB,cD,cM,rg,ec,hm]
abbrev nI:MS:=(aI (aP 4 (aQ qZ [] (aB (aA 3) (aB (aA 1) aD))))
 (aI (cK (bH (aC cZ (aA 4) (mC (.int 0)))) (oB "OnSide") dE)
 (cK (bH (aC fB (aA 4) (mC (.int 0)))) (kS (λi j=>i+j) 2 (mC (.int 1))) dE)))
theorem Ik{n k:Nat}(hn:n=2\/n=3)(hk:k<=1000){p:AS}(g:Gu n 1000 p)(S:aG)(x0:BC):∀(hs:AU)(c:Int)(x3 x4:BC),(∀uss∈hs,Wx n k uss)->
  ((∃uss∈hs,bS uss p=0)/\cJ [] (gN 3) nI (hs.map px) [x0,some (.pv (tv p)),some (.pv (.int c)),x3,x4] S=.exc "OnSide" S)\/
  ((∀uss∈hs,bS uss p≠0)/\∃y3 y4,cJ [] (gN 3) nI (hs.map px) [x0,some (.pv (tv p)),some (.pv (.int c)),x3,x4] S=.nx [x0,some (.pv (tv p)),some (.pv (.int (c+((hs.map λuss=>bS uss p).count 1:Nat)))),y3,y4] S)
 |[],c,x3,x4,_=>.inr ⟨λ_ h=>absurd h fe,x3,x4,by simp[fF]⟩
 |uss::hs,c,x3,x4,h=>by
  have e:=Iw hn hk (h uss (by simp)) g S;have s3:=abv uss p
  by_cases c0:bS uss p=0
  .left
   refine⟨⟨uss,by simp,c0⟩,?_⟩;rw[c0]at e;have st:nI [x0,some (.pv (tv p)),some (.pv (.int c)),some (.pv (px uss)),x4] S=.exc "OnSide" S:=by
    generalize tv p=T,px uss=P at *;unfold nI;simp! [aE,aV,aW,aO,aK,aN,aL,aM,aF,aJ,e,oB]
   rw[av,dY];simp only[gN,dw,cw];rw[st]
  .have st:nI [x0,some (.pv (tv p)),some (.pv (.int c)),some (.pv (px uss)),x4] S=.nx [x0,some (.pv (tv p)),some (.pv (.int (c+if bS uss p=1 then 1 else 0))),some (.pv (px uss)),some (.pv (.int (bS uss p)))] S:=by
    generalize bS uss p=s,tv p=T,px uss=P at *;unfold nI;rcases s3 with rfl |rfl |rfl
    .simp! [aE,aV,aW,aO,aK,aN,aL,aM,aF,aJ,e]
    .exact absurd rfl c0
    .simp! [aE,aV,aW,aO,aK,aN,aL,aM,aF,aJ,e,kS,xA]
   rcases Ik hn hk g S x0 hs (c+if bS uss p=1 then 1 else 0) (some (.pv (px uss))) (some (.pv (.int (bS uss p)))) (λy hy=>h y (ay _ hy))with⟨⟨y,hy,z⟩,ih⟩|⟨z,y3,y4,ih⟩
   .left
    refine⟨⟨y,ay _ hy,z⟩,?_⟩;rw[av,dY];simp only[gN,dw,cw];rw[st];exact ih
   .right
    refine⟨λy hy=>?_,y3,y4,?_⟩
    .rcases cf.mp hy with rfl |hy
     .exact c0
     .exact z y hy
    .rw[av,dY]
     simp only[gN,dw,cw];rw[st];have ec:c+(((uss::hs).map λuss=>bS uss p).count 1:Nat)=c+(if bS uss p=1 then 1 else 0)+((hs.map λuss=>bS uss p).count 1:Nat):=by
      rw[av,ny]
      by_cases c1:bS uss p=1
      .rw[c1]
       simp;omega
      .have:(bS uss p==1)=false:=by simpa using c1
       rw[this,if_neg c1];simp
     rw[ec];exact ih
theorem count_eq{n k:Nat}(hn:n=2\/n=3)(hk:k<=1000){p:AS}(g:Gu n 1000 p)(S:aG){hs:AU}{A:PV}(hA:Sv A (hs.map px))(h:∀uss∈hs,Wx n k uss):
  ((∃uss∈hs,bS uss p=0)/\oY [.pv A,.pv (tv p)] S=.exc "OnSide" S)\/((∀uss∈hs,bS uss p≠0)/\oY [.pv A,.pv (tv p)] S=.ok (.pv (.int ((hs.map λuss=>bS uss p).count 1:Nat))) S):=by
 have L:=Ik hn hk g S (some (.pv A)) hs 0 none none h;have hb:yE=(aI (aP 2 (mC (.int 0)))
 (aI (bI (bD (aA 0)) (gN 3) nI)
 (bF (aA 2)))):=rfl
 have tk:S.take S.length=S:=by simp
 have z0:(0:Int)+((hs.map λuss=>bS uss p).count 1:Nat)=((hs.map λuss=>bS uss p).count 1:Nat):=by omega
 rw[z0]at L;unfold oY aR;rw[hb];generalize tv p=T,(((hs.map λuss=>bS uss p).count 1:Nat):Int)=C,nI=CB1 at *;rcases L with⟨a,b⟩|⟨a,y3,y4,b⟩
 .left
  refine⟨a,?_⟩;rcases hA with rfl |rfl<;>(generalize hs.map px=HL at *;simp! [aE,aV,aW,aO,aK,aN,aL,aM,aF,aJ,bI,bD,bT,b])
 .right
  refine⟨a,?_⟩;rcases hA with rfl |rfl<;>(generalize hs.map px=HL at *;simp! [aE,aV,aW,aO,aK,aN,aL,aM,aF,aJ,bI,bD,bT,b])
def wq(q:AS):Int:=q.getLastD 0
def bd(p:List Nat):List Nat:=if p.head?=some 45 then p.tail else p
abbrev Hd:Type:=AT×Int
def ab3:BB->Int
 |some (.int i)=>i
 |_=>0
def Zq:AS->Int
 |[]=>0
 |n::r=>if n=0 then Zq r else sg n
def lL(ns:AS):AS:=(low ns).map (Zq ns*·)
def jY:AS->AS->AS
 |[x0,y0,w0],[x1,y1,w1]=>[x1*w0-x0*w1,y1*w0-y0*w1]
 |[x0,y0,z0,w0],[x1,y1,z1,w1]=>[x1*w0-x0*w1,y1*w0-y0*w1,z1*w0-z0*w1]
 |_,_=>[]
theorem ab0{x0 y0 w0 x1 y1 w1:Int}:jY [x0,y0,w0] [x1,y1,w1]=[x1*w0-x0*w1,y1*w0-y0*w1]:=rfl
theorem abY{x0 y0 z0 w0 x1 y1 z1 w1:Int}:jY [x0,y0,z0,w0] [x1,y1,z1,w1]=[x1*w0-x0*w1,y1*w0-y0*w1,z1*w0-z0*w1]:=rfl
def Zc:AS->AS->AS
 |[a,b,c],[d,e,f]=>[b*f-c*e,c*d-a*f,a*e-b*d]
 |_,_=>[]
theorem ab2{a b c d e f:Int}:Zc [a,b,c] [d,e,f]=[b*f-c*e,c*d-a*f,a*e-b*d]:=rfl
def oO:AT->AS
 |[p,q]=>(match jY p q with
  |[a,b]=>[-b,a]
  |_=>[])
 |[p,q,r]=>Zc (jY p q) (jY p r)
 |_=>[]
theorem ab1{p q:AS}:oO [p,q]=(match jY p q with |[a,b]=>[-b,a] |_=>[]):=rfl
theorem abZ{p q r:AS}:oO [p,q,r]=Zc (jY p q) (jY p r):=rfl
def sd(pi s e:AS)(n:Int):List Hd:=[([pi,lL (jY s e),s],n),([pi,lL (jY s e),e],-n)]
def sdU:AT->List (AS×AS)
 |[p,q]=>[(p,q)]
 |[a,b,c]=>[(c,a),(a,b),(b,c)]
 |_=>[]
def cW(w:AT)(n:Int):List Hd:=(sdU w).flatMap λx=>sd (lL (oO w)) x.1 x.2 n
def tk(pi d p:AS)(k:AT):Int:=if[pi,d,p]=k then 1 else 0
def Ed(pi s e:AS)(k:AT):Int:=tk pi (lL (jY s e)) s k-tk pi (lL (jY s e)) e k
def W2(p q:AS)(k:AT):Int:=Ed (lL (oO [p,q])) p q k
def W3(p q r:AS)(k:AT):Int:=Ed (lL (oO [p,q,r])) r p k+Ed (lL (oO [p,q,r])) p q k+Ed (lL (oO [p,q,r])) q r k
def PS(uss:AT)(k:AT):Int:=match uss with
 |[a,b,c]=>W2 a b k+W2 b c k+W2 c a k
 |[a,b,c,d]=>W3 b c d k+W3 a d c k+W3 a b d k+W3 a c b k
 |_=>0
theorem l3{a b c d e f:Int}(h:a=d)(g:b=e)(i:c=f):[a,b,c]=[d,e,f]:=by rw[h,g,i]
theorem sq{a b:MS}{ρ ρ':bP}{S S':aG}{r:cN}(h:a ρ S=.nx ρ' S')(g:b ρ' S'=r):aI a b ρ S=r:=by
 rw[aI,h];exact g
theorem wL{np n:Nat}{b:MS}{xs:BD}{S S':aG}{v:AV}{r:bQ AV}(hl:xs.length=np)(h:b (gZ n xs) S=.rt v S')(hc:jT S.length v S'=r):aR np n b xs S=r:=by
 unfold aR;rw[if_pos hl,h];exact hc
theorem Gc{t b:Int}{k:Nat}(hb:0<b)(ht:Bd k t)(hbb:Bd k b):∃p q:Int,fr t b=[p,q]/\0<q/\Bd k p/\Bd k q/\fr p q=[p,q]:=by
 obtain⟨zs,z,e,Z,_⟩:=oC (n:=1) (L:=[t]) (b:=b) hb rfl (λx hx=>by
  have:x=t:=by simpa using hx
  rw[this];exact ht) hbb
 have el:=Z.len
 match zs,el,e,Z with
 |[p],_,e,Z=>
  have e:low [t,b]=[p,z]:=e;have f1:fr t b=low [t,b]:=if_neg (by omega);have zp:=Z.pos;have f2:fr p z=low [p,z]:=if_neg (by omega);refine⟨p,z,by rw[f1,e],Z.pos,Z.bx p (by simp),Z.bw,?_⟩;rw[f2];exact Z.low
def pT(w x:Int):Int:=(fr x w).getD 0 0
def pB(w x:Int):Int:=(fr x w).getD 1 0
theorem wM{k:Nat}{w x:Int}(hw:0<w)(bw:Bd k w)(bx:Bd k x):fr x w=[pT w x,pB w x]/\0<pB w x/\Bd k (pT w x)/\Bd k (pB w x)/\fr (pT w x) (pB w x)=[pT w x,pB w x]:=by
 obtain⟨p,q,e,a,b,c,d⟩:=Gc hw bx bw;have e1:pT w x=p:=by unfold pT;rw[e];rfl
 have e2:pB w x=q:=by unfold pB;rw[e];rfl
 rw[e1,e2];exact⟨e,a,b,c,d⟩
theorem U3{n k:Nat}(S:aG){xs:AS}{w:Int}(P:Pq n k xs w)(hk:k<=1000):tZ [.pv (tv (xs++[w]))] S=.ok (.pv (.tup (xs.map λx=>.tup [.int (pT w x),.int (pB w x)]))) S:=by
 have e1:=nU xs w;have e2:=iY xs w;have e:bZ [] (gN 0) (iJ lD [] (aB (aA 0) (aB (aC aE (aA 1) (bK bO (mC (.int 1)))) aD))) (xs.map .int) [none,some (.pv (tv (xs++[w])))] S=.ok (xs.map λx=>.tup [.int (pT w x),.int (pB w x)]) S:=by
  refine jJ (gL S) PV.int (λx=>.tup [.int (pT w x),.int (pB w x)]) xs none λx hx=>?_;have f:=Ee x w S ((P.bx x hx).mono (by omega)) (P.bw.mono (by omega)) (by have:=P.pos;omega);rw[(wM P.pos P.bw (P.bx x hx)).1]at f;simp only[av,cg]at f;show _=bQ.ok (AV.pv (.tup [.int (pT w x),.int (pB w x)])) S;have e2:aE (tv (xs++[w])) (.int (-1))=some (.int w):=e2;generalize pB w x=q,pT w x=p,tv (xs++[w])=TV at *;simp! [bC,aK,aN,aL,aM,aF,aJ,e2,f]
 have hb:yL=(bF (mR fM (aB (bB ["number"] [(0,"p")] (bD (cF (aA 0) cE (cG (bK bO (mC (.int 1)))))) (gN 0) (iJ lD [] (aB (aA 0) (aB (aC aE (aA 1) (bK bO (mC (.int 1)))) aD)))) aD))):=rfl;unfold tZ aR;rw[hb];have e1:gB (tv (xs++[w])) none (some (-1))=some (.tup (xs.map .int)):=e1;generalize (xs.map λx=>PV.tup [.int (pT w x),.int (pB w x)])=ML,tv (xs++[w])=TV,(iJ lD [] (aB (aA 0) (aB (aC aE (aA 1) (bK bO (mC (.int 1)))) aD)))=ME1 at *;simp! [bC,aK,aN,aL,aM,aF,aJ,bB,cD,bD,bT,cF,cE,cG,eN,e1,e]
theorem sP{a b:Int}(hb:0<b)(bb:Bd 1000 b):dW (.int (a*b)) (.int b)=some (.int a):=by
 rw[jL (i:=a*b) (j:=b) ⟨by omega,bb.mono (by decide)⟩,d8 _ (by omega),Int.mul_ediv_cancel _ (by omega)]
structure Fz(u:Int×Int):Prop where
 pos:0<u.2
 b1:Bd 300 u.1
 b2:Bd 300 u.2
abbrev fz(u:Int×Int):PV:=.tup [.int u.1,.int u.2]
def cT:List (Int×Int)->AS
 |[u,v]=>[u.1*v.2,v.1*u.2]
 |[u,v,t]=>[u.1*(v.2*t.2),v.1*(u.2*t.2),t.1*(u.2*v.2)]
 |_=>[]
def cB:List (Int×Int)->Int
 |[u,v]=>u.2*v.2
 |[u,v,t]=>u.2*v.2*t.2
 |_=>1
theorem b3{k l:Nat}{a b:Int}(h:Bd k a)(g:Bd l b)(hs:k+l<=1000):Bd 1000 (a*b):=(h.mul g).mono hs
theorem Ap{ab:List (Int×Int)}(hl:ab.length=2\/ab.length=3)(h:∀u∈ab,Fz u):0<cB ab/\Bd 1000 (cB ab)/\(cT ab).length=ab.length/\∀x∈cT ab,Bd 1000 x:=by
 match ab,hl,h with
 |[u,v],_,h=>
  have hu:=h u (by simp);have hv:=h v (by simp);refine⟨aq hu.pos hv.pos,b3 hu.b2 hv.b2 (by decide),rfl,λx hx=>?_⟩;have:x=u.1*v.2\/x=v.1*u.2:=by simpa[cT]using hx
  rcases this with rfl |rfl
  .exact b3 hu.b1 hv.b2 (by decide)
  .exact b3 hv.b1 hu.b2 (by decide)
 |[u,v,t],_,h=>
  have hu:=h u (by simp);have hv:=h v (by simp);have ht:=h t (by simp);refine⟨aq (aq hu.pos hv.pos) ht.pos,b3 (hu.b2.mul hv.b2) ht.b2 (by decide),rfl,λx hx=>?_⟩;have:x=u.1*(v.2*t.2)\/x=v.1*(u.2*t.2)\/x=t.1*(u.2*v.2):=by simpa[cT]using hx
  rcases this with rfl |rfl |rfl
  .exact b3 hu.b1 (hv.b2.mul ht.b2) (by decide)
  .exact b3 hv.b1 (hu.b2.mul ht.b2) (by decide)
  .exact b3 ht.b1 (hu.b2.mul hv.b2) (by decide)
theorem Ur(S:aG){ab:List (Int×Int)}(hl:ab.length=2\/ab.length=3)(h:∀u∈ab,Fz u):nO [.pv (.lst (ab.map fz))] S=.ok (.pv (tv (low (cT ab++[cB ab])))) S:=by
 obtain⟨p0,pb,pl,px⟩:=Ap hl h;have ep:=Fi (w:=.lst ((cT ab).map .int)) (cT ab) (cB ab) S (.inl rfl) (λx hx=>(px x hx).mono (by decide)) (pb.mono (by decide)) (by omega) (by omega);rw[Zn p0]at ep
 match ab,hl,h,ep with
 |[u,v],_,h,ep=>
  have hu:=h u (by simp);have hv:=h v (by simp);obtain⟨a,b⟩:=u;obtain⟨c,d⟩:=v;have m1:aS (.int 1) (.int b)=some (.int b):=by rw[iS (.inl (.inl ⟨by decide,by decide⟩)),iu]
  have m2:aS (.int b) (.int d)=some (.int (b*d)):=dR hu.b2 hv.b2;have q1:dW (.int (b*d)) (.int b)=some (.int d):=by rw[db];exact sP hu.pos (hu.b2.mono (by decide))
  have q2:dW (.int (b*d)) (.int d)=some (.int b):=sP hv.pos (hv.b2.mono (by decide));have m3:aS (.int a) (.int d)=some (.int (a*d)):=dR hu.b1 hv.b2;have m4:aS (.int c) (.int b)=some (.int (c*b)):=dR hv.b1 hu.b2;have ep:mH [.pv (.lst [.int (a*d),.int (c*b)]),.pv (.int (b*d))] S=.ok (.pv (tv (low ([a*d,c*b]++[b*d])))) S:=ep;show nO [.pv (.lst [.tup [.int a,.int b],.tup [.int c,.int d]])] S=.ok (.pv (tv (low ([a*d,c*b]++[b*d])))) S;generalize tv (low ([a*d,c*b]++[b*d]))=R at *;unfold nO aR uB;simp! [aE,aV,aW,aO,aK,aN,aL,aM,aF,aJ,bI,bD,bT,dY,fF,eE,dZ,gN,m1,m2,bB,cD,q1,q2,m3,m4,ep]
 |[u,v,t],_,h,ep=>
  have hu:=h u (by simp);have hv:=h v (by simp);have ht:=h t (by simp);obtain⟨a,b⟩:=u;obtain⟨c,d⟩:=v;obtain⟨e,f⟩:=t;have m1:aS (.int 1) (.int b)=some (.int b):=by rw[iS (.inl (.inl ⟨by decide,by decide⟩)),iu]
  have m2:aS (.int b) (.int d)=some (.int (b*d)):=dR hu.b2 hv.b2;have m2':aS (.int (b*d)) (.int f)=some (.int (b*d*f)):=dR (hu.b2.mul hv.b2) ht.b2;have q1:dW (.int (b*d*f)) (.int b)=some (.int (d*f)):=by
   rw[show b*d*f=d*f*b by grind];exact sP hu.pos (hu.b2.mono (by decide))
  have q2:dW (.int (b*d*f)) (.int d)=some (.int (b*f)):=by
   rw[show b*d*f=b*f*d by grind];exact sP hv.pos (hv.b2.mono (by decide))
  have q3:dW (.int (b*d*f)) (.int f)=some (.int (b*d)):=sP ht.pos (ht.b2.mono (by decide));have m3:aS (.int a) (.int (d*f))=some (.int (a*(d*f))):=dR hu.b1 (hv.b2.mul ht.b2);have m4:aS (.int c) (.int (b*f))=some (.int (c*(b*f))):=dR hv.b1 (hu.b2.mul ht.b2);have m5:aS (.int e) (.int (b*d))=some (.int (e*(b*d))):=dR ht.b1 (hu.b2.mul hv.b2);have ep:mH [.pv (.lst [.int (a*(d*f)),.int (c*(b*f)),.int (e*(b*d))]),.pv (.int (b*d*f))] S=.ok (.pv (tv (low ([a*(d*f),c*(b*f),e*(b*d)]++[b*d*f])))) S:=ep;show nO [.pv (.lst [.tup [.int a,.int b],.tup [.int c,.int d],.tup [.int e,.int f]])] S=.ok (.pv (tv (low ([a*(d*f),c*(b*f),e*(b*d)]++[b*d*f])))) S;generalize tv (low ([a*(d*f),c*(b*f),e*(b*d)]++[b*d*f]))=R at *;unfold nO aR uB;simp! [aE,aV,aW,aO,aK,aN,aL,aM,aF,aJ,bI,bD,bT,dY,fF,eE,dZ,gN,m1,m2,m2',bB,cD,q1,q2,q3,m3,m4,m5,ep]
theorem zU{k:Nat}{w x:Int}(hw:0<w)(bw:Bd k w)(bx:Bd k x):pT w x*w=x*pB w x:=by
 obtain⟨zs,z,e,Z,h⟩:=oC (n:=1) (L:=[x]) (b:=w) hw rfl (λy hy=>by
  have:y=x:=by simpa using hy
  rw[this];exact bx) bw
 have el:=Z.len
 match zs,el,e,h with
 |[p],_,e,h=>
  have e:low [x,w]=[p,z]:=e;have f1:fr x w=[p,z]:=by rw[<-e];exact if_neg (by omega)
  have h0:p*w=x*z:=h 0 (by decide);have e1:pT w x=p:=by unfold pT;rw[f1];rfl
  have e2:pB w x=z:=by unfold pB;rw[f1];rfl
  rw[e1,e2];exact h0
theorem Qx{n k:Nat}{xs:AS}{w:Int}(hn:n=2\/n=3)(P:Pq n k xs w)(hk:k<=300):(∀u∈xs.map (λx=>(pT w x,pB w x)),Fz u)/\low (cT (xs.map λx=>(pT w x,pB w x))++[cB (xs.map λx=>(pT w x,pB w x))])=xs++[w]:=by
 have jH:∀u∈xs.map (λx=>(pT w x,pB w x)),Fz u:=λu hu=>by
  obtain⟨x,hx,rfl⟩:=ax.mp hu;obtain⟨_,q0,b1,b2,_⟩:=wM P.pos P.bw (P.bx x hx);exact⟨q0,b1.mono hk,b2.mono hk⟩
 refine⟨jH,?_⟩;have cr:∀x∈xs,pT w x*w=x*pB w x:=λx hx=>zU P.pos P.bw (P.bx x hx);obtain⟨p0,pb,pl,px⟩:=Ap (ab:=xs.map λx=>(pT w x,pB w x)) (by rw[aj,P.len];exact hn) jH;obtain⟨zs,z,e,Z,h⟩:=oC (n:=n) p0 (by rw[pl,aj,P.len]) px pb;rw[e];refine Pq.eq Z P (N:=λj=>(cT (xs.map λx=>(pT w x,pB w x))).getD j 0) (D:=cB (xs.map λx=>(pT w x,pB w x))) h (Vl.self n xs w) p0 P.pos λj hj=>?_;have hl:=P.len;rcases hn with rfl |rfl
 .match xs,hl,cr with
  |[x,y],_,cr=>
   have c1:=cr x (by simp);have c2:=cr y (by simp);have:j=0\/j=1:=by omega
   rcases this with rfl |rfl
   .show pT w x*pB w y*w=x*(pB w x*pB w y)
    grind
   .show pT w y*pB w x*w=y*(pB w x*pB w y)
    grind
 .match xs,hl,cr with
  |[x,y,t],_,cr=>
   have c1:=cr x (by simp);have c2:=cr y (by simp);have c3:=cr t (by simp);have:j=0\/j=1\/j=2:=by omega
   rcases this with rfl |rfl |rfl
   .show pT w x*(pB w y*pB w t)*w=x*(pB w x*pB w y*pB w t)
    grind
   .show pT w y*(pB w x*pB w t)*w=y*(pB w x*pB w y*pB w t)
    grind
   .show pT w t*(pB w x*pB w y)*w=t*(pB w x*pB w y*pB w t)
    grind
theorem Fj{t b t' b':Int}(hb:0<b)(hb':0<b')(h:t*b'=t'*b):fr t b=fr t' b':=by
 have e1:fr (b'*t) (b'*b)=fr t b:=tT hb' (by omega);have e2:fr (b*t') (b*b')=fr t' b':=tT hb (by omega);rw[<-e1,<-e2,db b' t,h,db t' b,db b' b]
def Fs(q:AS)(M:AT):AS:=(ak M.length).map λj=>sg (dU (M.set j q))*sg (dU M)
theorem gM(x y:Int):sg (-x)*sg (-y)=sg x*sg y:=by rw[Wn,Wn,d7]
theorem A3{n:Nat}(hn:n=2\/n=3){q:AS}(hq:Pw n q){l1 l2:AT}(h:l1.Perm l2):∀pre:AT,(∀us∈pre++l1,Pw n us)->(pre++l1).length=n+1->(Fs q (pre++l1)).Perm (Fs q (pre++l2)):=by
 induction h with
 |nil=>intro pre _ _;exact .refl _
 |cons x _ ih=>
  intro pre h4 hl;have:=ih (pre++[x]) (by simpa using h4) (by simpa using hl);simpa using this
 |swap x y l=>
  intro pre h4 hl;have sw:∀(pre l:AT)(x y:AS),(pre++y::x::l).length=n+1->(∀u∈pre++y::x::l,Pw n u)->dU (pre++x::y::l)=-dU (pre++y::x::l):=λpre l x y=>Dk hn;have hx:=h4 x (by simp);have hy:=h4 y (by simp);have al:∀c∈pre++l,Pw n c:=λc hc=>h4 c (by simp at hc⊢;rcases hc with h |h<;>simp[h]);rcases hn with rfl |rfl
  .match pre,l,hl,al with
   |[],[c],_,al=>
    have hc:=al c (by simp);have e1:=sw [] [c] x y rfl (by simp[hx,hy,hc]);have e2:=sw [] [c] x q rfl (by simp[hx,hq,hc]);have e3:=sw [] [c] q y rfl (by simp[hy,hq,hc]);have e4:=sw [] [q] x y rfl (by simp[hx,hy,hq]);simp only[ib]at e1 e2 e3 e4;show([sg (dU [q,x,c])*sg (dU [y,x,c]),sg (dU [y,q,c])*sg (dU [y,x,c]),sg (dU [y,x,q])*sg (dU [y,x,c])]:AS).Perm [sg (dU [q,y,c])*sg (dU [x,y,c]),sg (dU [x,q,c])*sg (dU [x,y,c]),sg (dU [x,y,q])*sg (dU [x,y,c])];rw[e1,e2,e3,e4,gM,gM,gM];exact .swap _ _ _
   |[a],[],_,al=>
    have ha:=al a (by simp);have e1:=sw [a] [] x y rfl (by simp[hx,hy,ha]);have e2:=sw [a] [] x q rfl (by simp[hx,hq,ha]);have e3:=sw [a] [] q y rfl (by simp[hy,hq,ha]);have e4:=sw [q] [] x y rfl (by simp[hx,hy,hq]);simp only[jq,ib]at e1 e2 e3 e4;show([sg (dU [q,y,x])*sg (dU [a,y,x]),sg (dU [a,q,x])*sg (dU [a,y,x]),sg (dU [a,y,q])*sg (dU [a,y,x])]:AS).Perm [sg (dU [q,x,y])*sg (dU [a,x,y]),sg (dU [a,q,y])*sg (dU [a,x,y]),sg (dU [a,x,q])*sg (dU [a,x,y])];rw[e1,e2,e3,e4,gM,gM,gM];exact .cons _ (.swap _ _ _)
   |[],[],h,_=>simp at h
   |[],_::_::_,h,_=>simp at h
   |_::_::_,_,h,_=>simp at h;omega
   |[_],_::_,h,_=>simp at h
  .match pre,l,hl,al with
   |[],[c,d],_,al=>
    have hc:=al c (by simp);have hd:=al d (by simp);have e1:=sw [] [c,d] x y rfl (by simp[hx,hy,hc,hd]);have e2:=sw [] [c,d] x q rfl (by simp[hx,hq,hc,hd]);have e3:=sw [] [c,d] q y rfl (by simp[hy,hq,hc,hd]);have e4:=sw [] [q,d] x y rfl (by simp[hx,hy,hq,hd]);have e5:=sw [] [c,q] x y rfl (by simp[hx,hy,hq,hc]);simp only[ib]at e1 e2 e3 e4 e5;show([sg (dU [q,x,c,d])*sg (dU [y,x,c,d]),sg (dU [y,q,c,d])*sg (dU [y,x,c,d]),sg (dU [y,x,q,d])*sg (dU [y,x,c,d]),sg (dU [y,x,c,q])*sg (dU [y,x,c,d])]:AS).Perm [sg (dU [q,y,c,d])*sg (dU [x,y,c,d]),sg (dU [x,q,c,d])*sg (dU [x,y,c,d]),sg (dU [x,y,q,d])*sg (dU [x,y,c,d]),sg (dU [x,y,c,q])*sg (dU [x,y,c,d])];rw[e1,e2,e3,e4,e5,gM,gM,gM,gM];exact .swap _ _ _
   |[a],[d],_,al=>
    have ha:=al a (by simp);have hd:=al d (by simp);have e1:=sw [a] [d] x y rfl (by simp[hx,hy,ha,hd]);have e2:=sw [a] [d] x q rfl (by simp[hx,hq,ha,hd]);have e3:=sw [a] [d] q y rfl (by simp[hy,hq,ha,hd]);have e4:=sw [q] [d] x y rfl (by simp[hx,hy,hq,hd]);have e5:=sw [a] [q] x y rfl (by simp[hx,hy,hq,ha]);simp only[jq,ib]at e1 e2 e3 e4 e5;show([sg (dU [q,y,x,d])*sg (dU [a,y,x,d]),sg (dU [a,q,x,d])*sg (dU [a,y,x,d]),sg (dU [a,y,q,d])*sg (dU [a,y,x,d]),sg (dU [a,y,x,q])*sg (dU [a,y,x,d])]:AS).Perm [sg (dU [q,x,y,d])*sg (dU [a,x,y,d]),sg (dU [a,q,y,d])*sg (dU [a,x,y,d]),sg (dU [a,x,q,d])*sg (dU [a,x,y,d]),sg (dU [a,x,y,q])*sg (dU [a,x,y,d])];rw[e1,e2,e3,e4,e5,gM,gM,gM,gM];exact .cons _ (.swap _ _ _)
   |[a,b],[],_,al=>
    have ha:=al a (by simp);have hb:=al b (by simp);have e1:=sw [a,b] [] x y rfl (by simp[hx,hy,ha,hb]);have e2:=sw [a,b] [] x q rfl (by simp[hx,hq,ha,hb]);have e3:=sw [a,b] [] q y rfl (by simp[hy,hq,ha,hb]);have e4:=sw [q,b] [] x y rfl (by simp[hx,hy,hq,hb]);have e5:=sw [a,q] [] x y rfl (by simp[hx,hy,hq,ha]);simp only[jq,ib]at e1 e2 e3 e4 e5;show([sg (dU [q,b,y,x])*sg (dU [a,b,y,x]),sg (dU [a,q,y,x])*sg (dU [a,b,y,x]),sg (dU [a,b,q,x])*sg (dU [a,b,y,x]),sg (dU [a,b,y,q])*sg (dU [a,b,y,x])]:AS).Perm [sg (dU [q,b,x,y])*sg (dU [a,b,x,y]),sg (dU [a,q,x,y])*sg (dU [a,b,x,y]),sg (dU [a,b,q,y])*sg (dU [a,b,x,y]),sg (dU [a,b,x,q])*sg (dU [a,b,x,y])];rw[e1,e2,e3,e4,e5,gM,gM,gM,gM];exact .cons _ (.cons _ (.swap _ _ _))
   |[],[],h,_=>simp at h
   |[],[_],h,_=>simp at h
   |[],_::_::_::_,h,_=>simp at h
   |[_],[],h,_=>simp at h
   |[_],_::_::_,h,_=>simp at h
   |[_,_],_::_,h,_=>simp at h
   |_::_::_::_,_,h,_=>simp at h;omega
 |trans p1 p2 ih1 ih2=>
  intro pre h4 hl;refine(ih1 pre h4 hl).trans (ih2 pre (λus hu=>h4 us ((p1.append_left pre).mem_iff.mpr hu)) ?_);rw[<-(p1.append_left pre).length_eq];exact hl
theorem Fs3(q:AS)(M:AT):∀s∈Fs q M,s=-1\/s=0\/s=1:=λs hs=>by
 unfold Fs at hs;obtain⟨j,_,rfl⟩:=ax.mp hs;rcases xG (dU (M.set j q))with a |a |a<;>rcases xG (dU M)with b |b |b<;>rw[a,b]<;>decide
theorem nF(x:Int):(0<x/\sg x=1)\/(x=0/\sg x=0)\/(x<0/\sg x=-1):=by
 unfold sg;split
 .omega
 .split<;>omega
theorem aaa{f:FM}{ms:MA}{ρ:bP}{S S1 S2:aG}{xs:BD}{v:AV}(h:ms ρ S=.ok xs S1)(g:frz S1.length (gF (f xs S1))=.ok v S2):aQ f [] ms ρ S=.ok v S2:=by
 unfold aQ;rw[h];show frz S1.length (gF (f (xs++[]) S1))=_;rw[ie];exact g
theorem A9{S:aG}{L Y:BA}{ρ:bP}{m:ME}(hρ:ρ[5]?=some (some (.ref S.length)))(hm:m ρ (S++[.lst L])=.ok (.pv (.lst Y)) (S++[.lst L]))(hz:L.length+Y.length<=1000):oE 5 m ρ (S++[.lst L])=.nx ρ (S++[.lst (L++Y)]):=by
 unfold oE;rw[hρ];dsimp only;rw[hm];have h2:L.length+Y.length<=16777216:=by omega
 show wT S.length ρ (.pv (.lst Y)) (S++[.lst L])=_;unfold wT;simp[h2]
theorem Zs(ns:AS)(S:aG)(hb:∀n∈ns,Bd 8000 n):fW [.pv (.tup (ns.map .int))] S=.ok (.pv (.tup ((low ns).map .int))) S:=by
 obtain⟨v',e⟩:=zT S none ns 0 (.pv (.tup (ns.map .int)));unfold fW aR uL
 by_cases h:gl ns 0=0
 .have el:low ns=ns:=by unfold low;rw[if_pos h]
  simp! [aE,aV,aW,aO,aK,aN,aL,aM,aF,aJ,bI,bD,bT,e,h,el]
 .have el:low ns=ns.map λn=>n.fdiv (gl ns 0):=by
   unfold low;rw[if_neg h];exact ij λn hn=>(ph ((jP ns 0).2 n hn)).symm
  have bg:Bd 8000 (gl ns 0):=wB (Bd.of (n:=0) (by simp) (uk 8000)) hb;have ec:=uQ S (gl ns 0) h bg ns none;simp! [aE,aV,aW,aO,aK,aN,aL,aM,aF,aJ,bI,bD,bT,e,h,el,bB,cD,ec]
theorem Cw(n:Int)(S:aG):nS [.pv (.int n)] S=.ok (.pv (.bl true)) S:=by
 unfold nS aR uP;simp! [aE,aV,aW,aO,aK,aN,aL,aM,aF,aJ,kG,pZ]
theorem abN{a b c d:Int}(S:aG)(ba:Bd 1000 a)(bb:Bd 1000 b)(bc:Bd 1000 c)(bd:Bd 1000 d)(b0:0<b)(c0:0<c):rG [.pv (.tup [.int a,.int b]),.pv (.tup [.int c,.int d])] S=.ok (.pv (.tup ((fr (a*d) (b*c)).map .int))) S:=by
 have e:=Ee (a*d) (b*c) S ((ba.mul bd).mono (by decide)) ((bb.mul bc).mono (by decide)) (jl (aq b0 c0));unfold rG aR yO;simp! [aE,aV,aW,aO,aK,aN,aL,aM,aF,aJ,dR ba bd,dR bb bc,e]
theorem rR{k:Nat}{x z:Int}{u a:Int×Int}(S:aG)(hz:0<z)(bz:Bd k z)(bx:Bd k x)(hk:k<=1000)(hu:Sp u)(ha:Fz a)(fa:fr a.1 a.2=[a.1,a.2])(hv:x*(a.2*u.2)=a.1*u.1*z):rG [.pv (.tup [.int (pT z x),.int (pB z x)]),.pv (fv u)] S=.ok (.pv (fz a)) S:=by
 obtain⟨_,p0,b1,b2,_⟩:=wM hz bz bx;have pc:=zU hz bz bx;have e:=abN S (b1.mono hk) (b2.mono hk) (hu.bp.mono (by decide)) (hu.bq.mono (by decide)) p0 hu.p (d:=u.2);have q:fr (pT z x*u.2) (pB z x*u.1)=fr a.1 a.2:=by
  refine Fj (aq p0 hu.p) ha.pos ?_;refine qy (jl hz) ?_
  calc pT z x*u.2*a.2*z=(pT z x*z)*(u.2*a.2):=by grind
   _=x*pB z x*(u.2*a.2):=by rw[pc]
   _=(x*(a.2*u.2))*pB z x:=by grind
   _=a.1*(pB z x*u.1)*z:=by rw[hv];grind
 rw[q,fa]at e;exact e
theorem zX{n k:Nat}(hn:n=2\/n=3){zs:AS}{z:Int}(P:Pq n k zs z)(hk:k<=1000){fs:List (Int×Int)}(hf:fs.length=n)(h:∀u∈fs,Sp u){ab:List (Int×Int)}(la:ab.length=n)(hab:∀u∈ab,Fz u/\fr u.1 u.2=[u.1,u.2])(hv:∀j,j<n->zs.getD j 0*((ab.getD j (0,1)).2*(fs.getD j (0,1)).2)=(ab.getD j (0,1)).1*(fs.getD j (0,1)).1*z)(S:aG):kB [.pv (tv (zs++[z])),.pv (.tup (fs.map fv))] S=.ok (.pv (tv (low (cT ab++[cB ab])))) S:=by
 have em:=U3 S P hk;have ea:=Ur S (ab:=ab) (by omega) (λu hu=>(hab u hu).1);have bz:=P.bw;have hz:=P.pos;rcases hn with rfl |rfl
 .match zs,P.len,fs,hf,ab,la with
  |[x,y],_,[u,v],_,[a,b],_=>
   have d0:=rR S hz bz (P.bx x (by simp)) hk (h u (by simp)) (hab a (by simp)).1 (hab a (by simp)).2 (hv 0 (by decide));have d1:=rR S hz bz (P.bx y (by simp)) hk (h v (by simp)) (hab b (by simp)).1 (hab b (by simp)).2 (hv 1 (by decide));simp only[av,cg]at em ea⊢;generalize fz b=A1,fz a=A0,fv v=F1,fv u=F0,PV.tup [.int (pT z y),.int (pB z y)]=M1,PV.tup [.int (pT z x),.int (pB z x)]=M0,tv ([x,y]++[z])=T,tv (low (cT [a,b]++[cB [a,b]]))=R at *;unfold kB aR uA;simp! [aE,aV,aW,aO,aK,aN,aL,aM,aF,aJ,em,bB,cD,gJ,jS,fJ,bT,eE,dZ,gT,dM,fG,gN,d0,d1,ea]
 .match zs,P.len,fs,hf,ab,la with
  |[x,y,t],_,[u,v,w],_,[a,b,c],_=>
   have d0:=rR S hz bz (P.bx x (by simp)) hk (h u (by simp)) (hab a (by simp)).1 (hab a (by simp)).2 (hv 0 (by decide));have d1:=rR S hz bz (P.bx y (by simp)) hk (h v (by simp)) (hab b (by simp)).1 (hab b (by simp)).2 (hv 1 (by decide));have d2:=rR S hz bz (P.bx t (by simp)) hk (h w (by simp)) (hab c (by simp)).1 (hab c (by simp)).2 (hv 2 (by decide));simp only[av,cg]at em ea⊢;generalize fz c=A2,fz b=A1,fz a=A0,fv w=F2,fv v=F1,fv u=F0,PV.tup [.int (pT z t),.int (pB z t)]=M2,PV.tup [.int (pT z y),.int (pB z y)]=M1,PV.tup [.int (pT z x),.int (pB z x)]=M0,tv ([x,y,t]++[z])=T,tv (low (cT [a,b,c]++[cB [a,b,c]]))=R at *;unfold kB aR uA;simp! [aE,aV,aW,aO,aK,aN,aL,aM,aF,aJ,em,bB,cD,gJ,jS,fJ,bT,eE,dZ,gT,dM,fG,gN,d0,d1,d2,ea]
theorem rD{ds:AS}:low (ds++[1])=ds++[1]:=by
 refine Ol ?_;have h1:=(jP (ds++[1]) 0).2 1 (by simp);have h2:=wF (ds++[1]) 0 (oy 0);exact t9 h2 h1
theorem fr1(d:Int):fr d 1=[d,1]:=rD (ds:=[d])
theorem Sm{d:Int}:∀(ns:AS)(g:Int),d∣g->(∀n∈ns,d∣n)->d∣gl ns g
 |[],g,h,_=>h
 |n::ns,g,h,k=>by
  unfold gl;exact Sm ns _ (Int.dvd_coe_gcd h (k n (by simp))) λm hm=>k m (ay _ hm)
theorem zD{xs ys:AS}{w:Int}(hw:0<w)(e:low (xs++[w])=xs++[w])(hd:∀d:Int,d∣w->(∀y∈ys,d∣y)->∀x∈xs,d∣x):low (ys++[w])=ys++[w]:=by
 refine Ol ?_;have g1:=Mz hw e;have h2:=wF (ys++[w]) 0 (oy 0);have hk:=(jP (ys++[w]) 0).2;refine t9 h2 ?_;rw[<-g1];refine Sm _ _ (Int.dvd_zero _) λn hn=>?_;rcases ck.mp hn with z |z
 .exact hd _ (hk w (by simp)) (λy hy=>hk y (ju _ hy)) n z
 .rw[km.mp z]
  exact hk w (by simp)
theorem K6{n k:Nat}(hn:n<=9){xs:AS}{w:Int}(P:Pq n k xs w)(S:aG):qV [.pv (tv (xs++[w]))] S=.ok (.pv (tv (xs.map (·.fmod w)++[w]))) S:=by
 have sI:=nU xs w;have iL:=iY xs w;have w0:w≠0:=jl P.pos;have ec:bZ [] (gN 0) (aC fK (aA 0) (aC aE (aA 1) (bK bO (mC (.int 1))))) (xs.map PV.int) [none,some (.pv (.tup ((xs++[w]).map .int)))] S=.ok (xs.map λx=>.int (x.fmod w)) S:=by
  refine jJ (gL S) PV.int (λx=>.int (x.fmod w)) xs none λx hx=>?_;have m:=lG (i:=x) w0;generalize (xs++[w]).map PV.int=T at *;simp! [bC,aK,aN,aL,aM,aF,aJ,iL,m]
 have lz:(xs.map λx=>PV.int (x.fmod w)).length+1<=16777216:=by rw[aj,P.len];omega
 have er:tv (xs.map (·.fmod w)++[w])=.tup ((xs.map λx=>PV.int (x.fmod w))++[.int w]):=by
  show PV.tup _=_;rw[dz,dg];rfl
 have et:tv (xs++[w])=.tup ((xs++[w]).map .int):=rfl;rw[er,et];generalize xs.map PV.int=X,(xs++[w]).map PV.int=T,(xs.map λx=>PV.int (x.fmod w))=R at *;unfold qV aR xS;simp! [bC,aK,aN,aL,aM,aF,aJ,bB,cD,bD,bT,cF,cE,cG,eN,sI,iL,ec,lz]
theorem Ma{n:Nat}(hn:n=2\/n=3){fs:List (Int×Int)}(hf:fs.length=n)(h:∀u∈fs,Sp u){f y:AS}(Gf:Gu n 100 f)(hy:y.length=n)(hb:∀x∈y,-8<x/\x<8):Gu n 201 (fD 1 f (eQ fs y))/\gS n (λj=>f.getLastD 0*lX fs j) (λj=>f.getD j 0*iA fs) (f.getLastD 0*iA fs) (y++[1]) (fD 1 f (eQ fs y)):=by
 obtain⟨_,g1,a1⟩:=uX hn [] hf h hy hb;obtain⟨g2,a2⟩:=jA (way:=1) (.inl rfl) g1 Gf;refine⟨g2,?_⟩;obtain⟨xs,w,xs',w',e1,e2,l1,l2,p1,p2,k1⟩:=a1;obtain⟨zs,v,zs',v',e3,e4,l3,l4,p3,p4,k2⟩:=a2;have q:=e2.symm.trans e3;obtain⟨q1,q2⟩:=ul q rfl;subst q1;have q2:w'=v:=by simpa using q2
 subst q2;refine⟨xs,w,zs',v',e1,e4,l1,l4,p1,p4,λj hj=>?_⟩;have t1:=k1 j hj;have t2:=k2 j hj;refine qy (jl p2) ?_
 calc zs'.getD j 0*(f.getLastD 0*iA fs*w)*w'=(zs'.getD j 0*(f.getLastD 0*w'))*(iA fs*w):=by grind
  _=(1*f.getLastD 0*xs'.getD j 0+f.getD j 0*w')*v'*(iA fs*w):=by rw[t2]
  _=(f.getLastD 0*(xs'.getD j 0*(iA fs*w))+f.getD j 0*w'*(iA fs*w))*v':=by grind
  _=(f.getLastD 0*((lX fs j*xs.getD j 0+0*w)*w')+f.getD j 0*w'*(iA fs*w))*v':=by rw[t1]
  _=(f.getLastD 0*lX fs j*xs.getD j 0+f.getD j 0*iA fs*w)*v'*w':=by grind
theorem O3{A C E p q x0 x1 w0 w1 y0 y1 z zz:Int}(hE:0<E)(h0:0<w0)(h1:0<w1)(e0:x0*(E*1)=(A*y0+C*1)*w0)(e1:x1*(E*1)=(A*y1+C*1)*w1)(ep:A*q=E*p)(ed:zz*(w1*w0)=(x1*w0-x0*w1)*z):zz*(1*q)=(y1-y0)*p*z:=by
 have pw:=aq h1 h0;refine qy (jl (aq hE pw)) ?_;have a:zz*(1*q)*(E*(w1*w0))=((x1*(E*1))*w0-(x0*(E*1))*w1)*z*q:=by
  calc zz*(1*q)*(E*(w1*w0))=(zz*(w1*w0))*E*q:=by grind
   _=(x1*w0-x0*w1)*z*E*q:=by rw[ed]
   _=_:=by grind
 rw[a,e0,e1]
 calc ((A*y1+C*1)*w1*w0-(A*y0+C*1)*w0*w1)*z*q=(A*q)*(y1-y0)*z*(w1*w0):=by grind
  _=(E*p)*(y1-y0)*z*(w1*w0):=by rw[ep]
  _=_:=by grind
theorem Dm{n:Nat}(hn:n=2\/n=3){fs:List (Int×Int)}(hf:fs.length=n)(F:Int){j:Nat}(hj:j<n):F*lX fs j*(fs.getD j (0,1)).2=F*iA fs*(fs.getD j (0,1)).1:=by
 rcases hn with rfl |rfl
 .match fs,hf,j,hj with
  |[u,v],_,0,_=>show F*(u.1*v.2)*u.2=F*(1*u.2*v.2)*u.1;grind
  |[u,v],_,1,_=>show F*(v.1*u.2)*v.2=F*(1*u.2*v.2)*v.1;grind
 .match fs,hf,j,hj with
  |[u,v,t],_,0,_=>show F*(u.1*(v.2*t.2))*u.2=F*(1*u.2*v.2*t.2)*u.1;grind
  |[u,v,t],_,1,_=>show F*(v.1*(u.2*t.2))*v.2=F*(1*u.2*v.2*t.2)*v.1;grind
  |[u,v,t],_,2,_=>show F*(t.1*(u.2*v.2))*t.2=F*(1*u.2*v.2*t.2)*t.1;grind
theorem Ti{α β:Type}(g:α->β):∀{L:List β}{xs:List α},L.Perm (xs.map g)->∃ys:List α,ys.Perm xs/\L=ys.map g
 |[],xs,h=>by
  have e:xs=[]:=qd.mp (by have:=h.length_eq;simpa using this.symm);exact⟨[],by rw[e],rfl⟩
 |a::L,xs,h=>by
  have ha:a∈xs.map g:=h.mem_iff.mp (by simp);obtain⟨x,hx,rfl⟩:=ax.mp ha;obtain⟨s,t,rfl⟩:=List.append_of_mem hx;have h2:(g x::L).Perm (g x::(s++t).map g):=h.trans (by
   rw[dz,av,dz];exact u4)
  obtain⟨ys,p,e⟩:=Ti g h2.cons_inv;exact⟨x::ys,(p.cons x).trans u4.symm,by rw[av,e]⟩
abbrev eM(fs:List (Int×Int))(f y:AS):AS:=fD 1 f (eQ fs y)
def eV(y0 y:AS):AS:=bf (· - ·) y y0
theorem vY{n:Nat}{A C:Nat->Int}{E:Int}{y xs:AS}{w:Int}(h:gS n A C E (y++[1]) (xs++[w])):∀j,j<n->xs.getD j 0*(E*1)=(A j*y.getD j 0+C j*1)*w:=by
 obtain⟨a,b,c,d,e1,e2,_,_,_,_,k⟩:=h;obtain⟨q1,q2⟩:=ul e1 rfl;obtain⟨q3,q4⟩:=ul e2 rfl;have q2:1=b:=by simpa using q2
 have q4:w=d:=by simpa using q4
 subst q1 q2 q3 q4;exact k
theorem Yw{n:Nat}(hn:n=2\/n=3){fs:List (Int×Int)}(hf:fs.length=n)(h:∀u∈fs,Sp u){f:AS}(Gf:Gu n 100 f){y0 y:AS}(l0:y0.length=n)(b0:∀x∈y0,0<=x/\x<=2)(l1:y.length=n)(b1:∀x∈y,0<=x/\x<=2):∃v,(∀S,nK [.pv (tv (eM fs f y)),.pv (tv (eM fs f y0))] S=.ok (.pv v) S)/\∀S,kB [.pv v,.pv (.tup (fs.map fv))] S=.ok (.pv (tv (eV y0 y++[1]))) S:=by
 obtain⟨g0,a0⟩:=Ma hn hf h Gf l0 λx hx=>by have:=b0 x hx;omega
 obtain⟨g1,a1⟩:=Ma hn hf h Gf l1 λx hx=>by have:=b1 x hx;omega
 unfold eM;obtain⟨x0,w0,e0,P0⟩:=g0;obtain⟨x1,w1,e1,P1⟩:=g1;rw[e0]at a0⊢;rw[e1]at a1⊢;have k0:=vY a0;have k1:=vY a1;obtain⟨zs,z,el,Q,hz⟩:=aaw hn P1 P0 (by decide) (by decide);have E0:0<f.getLastD 0*iA fs:=by
  obtain⟨fx,fw,rfl,FP⟩:=Gf;have:(fx++[fw]).getLastD 0=fw:=by simp
  rw[this];exact aq FP.pos (vJ hn hf h).1
 have key:∀j,j<n->zs.getD j 0*(1*(fs.getD j (0,1)).2)=(y.getD j 0-y0.getD j 0)*(fs.getD j (0,1)).1*z:=λj hj=>O3 E0 P0.pos P1.pos (k0 j hj) (k1 j hj) (Dm hn hf _ hj) (hz j hj);refine⟨_,el,λS=>?_⟩;have jH:∀{a b:Int},0<=a/\a<=2->0<=b/\b<=2->Fz (a-b,1)/\fr (a-b,(1:Int)).1 (a-b,(1:Int)).2=[(a-b,(1:Int)).1,(a-b,(1:Int)).2]:=λha hb=>⟨⟨by show(0:Int)<1;decide,(Bd.of (k:=7) (n:=4) (by show(_-_:Int).natAbs<=_;omega) (by decide)).mono (by decide),(show Bd 300 (1:Int) from(Bd.of (k:=7) (n:=1) (by decide) (by decide)).mono (by decide))⟩,fr1 _⟩;rcases hn with rfl |rfl
 .match y,l1,y0,l0,b1,b0,key with
  |[a,b],_,[c,d],_,b1,b0,key=>
   have e:=zX (.inl rfl) Q (by decide) hf h (ab:=[(a-c,1),(b-d,1)]) rfl (λu hu=>by
    simp only[cf,fe,or_false]at hu;rcases hu with rfl |rfl
    .exact jH (b1 a (by simp)) (b0 c (by simp))
    .exact jH (b1 b (by simp)) (b0 d (by simp))) (λj hj=>by
    match j,hj with
    |0,_=>exact key 0 (by decide)
    |1,_=>exact key 1 (by decide)) S
   have q:cT [(a-c,(1:Int)),(b-d,1)]++[cB [(a-c,(1:Int)),(b-d,1)]]=eV [c,d] [a,b]++[1]:=by simp[cT,cB,eV]
   rw[q,rD]at e;exact e
 .match y,l1,y0,l0,b1,b0,key with
  |[a,b,t],_,[c,d,s],_,b1,b0,key=>
   have e:=zX (.inr rfl) Q (by decide) hf h (ab:=[(a-c,1),(b-d,1),(t-s,1)]) rfl (λu hu=>by
    simp only[cf,fe,or_false]at hu;rcases hu with rfl |rfl |rfl
    .exact jH (b1 a (by simp)) (b0 c (by simp))
    .exact jH (b1 b (by simp)) (b0 d (by simp))
    .exact jH (b1 t (by simp)) (b0 s (by simp))) (λj hj=>by
    match j,hj with
    |0,_=>exact key 0 (by decide)
    |1,_=>exact key 1 (by decide)
    |2,_=>exact key 2 (by decide)) S
   have q:cT [(a-c,(1:Int)),(b-d,1),(t-s,1)]++[cB [(a-c,(1:Int)),(b-d,1),(t-s,1)]]=eV [c,d,s] [a,b,t]++[1]:=by simp[cT,cB,eV]
   rw[q,rD]at e;exact e
theorem D5{n:Nat}(hn:n=2\/n=3){fs:List (Int×Int)}(hf:fs.length=n)(h:∀u∈fs,Sp u){f:AS}(Gf:Gu n 100 f){y0:AS}{ys:AT}(hy:∀y∈y0::ys,y.length=n/\∀x∈y,0<=x/\x<=2)(S:aG):pH [.pv (px ((y0::ys).map (eM fs f))),.pv (.tup (fs.map fv))] S=.ok (.pv (px ((y0::ys).map λy=>eV y0 y++[1]))) S:=by
 have i0:aE (px ((y0::ys).map (eM fs f))) (.int 0)=some (tv (eM fs f y0)):=jO (j:=0) rfl;have ec:bZ [] (gN 0) (aQ kB [] (aB (aQ nK [] (aB (aA 0) (aB (aC aE (aA 2) (mC (.int 0))) aD))) (aB (aA 1) aD))) ((y0::ys).map λy=>tv (eM fs f y)) [none,some (.pv (.tup (fs.map fv))),some (.pv (px ((y0::ys).map (eM fs f))))] S=.ok ((y0::ys).map λy=>tv (eV y0 y++[1])) S:=by
  refine jJ (gL S) (λy=>tv (eM fs f y)) (λy=>tv (eV y0 y++[1])) (y0::ys) none λy hyy=>?_;obtain⟨v,e1,e2⟩:=Yw hn hf h Gf (hy y0 (by simp)).1 (hy y0 (by simp)).2 (hy y hyy).1 (hy y hyy).2;have e1:=e1 S;have e2:=e2 S;generalize PV.tup (fs.map fv)=G,tv (eM fs f y0)=T0,tv (eM fs f y)=T1,px ((y0::ys).map (eM fs f))=PX,tv (eV y0 y++[1])=R at *;simp! [bC,aK,aN,aL,aM,aF,aJ,i0,e1,e2]
 have hp:px ((y0::ys).map (eM fs f))=.tup ((y0::ys).map λy=>tv (eM fs f y)):=by
  show PV.tup (((y0::ys).map (eM fs f)).map tv)=_;rw[dg];rfl
 have hq:px ((y0::ys).map λy=>eV y0 y++[1])=.tup ((y0::ys).map λy=>tv (eV y0 y++[1])):=by
  show PV.tup (((y0::ys).map λy=>eV y0 y++[1]).map tv)=_;rw[dg];rfl
 rw[hp]at ec i0⊢;rw[hq];generalize PV.tup (fs.map fv)=G,((y0::ys).map λy=>tv (eV y0 y++[1]))=R,((y0::ys).map λy=>tv (eM fs f y))=L at *;unfold pH aR zO;simp! [bC,aK,aN,aL,aM,aF,aJ,bB,cD,bD,bT,ec]
theorem Fh{G:Gd}{g:GM}{mb:MS}{ρ:bP}{S:aG}(h:gA G S):cJ G g mb [] ρ S=.nx ρ S:=by rw[cJ,if_pos h]
theorem Mf{G:Gd}{g:GM}{mb:MS}{x:PV}{r:BA}{ρ ρ1 ρ2:bP}{S S2:aG}(h:gA G S)(hg:g x ρ=some ρ1)(hm:mb ρ1 S=.nx ρ2 S2):cJ G g mb (x::r) ρ S=cJ G g mb r ρ2 S2:=by
 rw[cJ,if_pos h,hg];dsimp only;rw[hm]
def cO(m M:Int):AS:=(ak (M+1-m).toNat).map λi:Nat=>m+(i:Int)
theorem Mm(m M:Int):(cO m M).map PV.int=cS m (M+1-m).toNat:=by
 unfold cO cS;rw[dg];rfl
theorem nT{m M c:Int}:c∈cO m M↔m<=c/\c<=M:=by
 unfold cO;rw[ax];constructor
 .rintro⟨i,hi,rfl⟩
  have:=kq.mp hi;omega
 .rintro⟨a,b⟩
  exact⟨(c-m).toNat,kq.mpr (by omega),by omega⟩
def iN(x w:Int)(cs:AS)(rows:AT):AT:=rows.flatMap λr=>cs.map λc=>r++[x+c*w]
abbrev xL:MS:=(oE 5 (bB ["cell"] [(6,"row"),(1,"p"),(3,"k")] (iR (aB (mR kU (aB (aA 4) aD)) (aB (aC aF (mR nB (aB (aA 4) aD)) (mC (.int 1))) aD))) (gN 0) (aC eO (aA 1) (mN dL (aB (aC aF (aC aE (aA 2) (aA 3)) (aC aS (aA 0) (aC aE (aA 2) (bK bO (mC (.int 1)))))) aD)))))
structure Nb(N:AS)(m M:Int):Prop where
 mn:kU [.lst (N.map .int)]=some (.int m)
 mx:nB [.lst (N.map .int)]=some (.int M)
 lo:-8<=m/\m<=M/\M<=8
 sp:M-m<=2
theorem Wz{S:aG}{L:BA}{q N r:AS}{k x w m M:Int}(ix:aE (tv q) (.int k)=some (.int x))(iw:aE (tv q) (.int (-1))=some (.int w))(bw:Bd 1000 w)(hN:Nb N m M)(hr:r.length<=9)(hL:L.length<=900)(x0 x2:BC):xL [x0,some (.pv (tv q)),x2,some (.pv (.int k)),some (.pv (.lst (N.map .int))),some (.ref S.length),some (.pv (tv r))] (S++[.lst L])=.nx [x0,some (.pv (tv q)),x2,some (.pv (.int k)),some (.pv (.lst (N.map .int))),some (.ref S.length),some (.pv (tv r))] (S++[.lst (L++((cO m M).map λc=>r++[x+c*w]).map tv)]):=by
 have lo:=hN.lo;have lu:(cO m M).length<=17:=by unfold cO;rw[aj,dq];omega
 refine A9 rfl ?_ (by rw[aj,aj];omega);have ec:bZ [] (gN 0) (aC eO (aA 1) (mN dL (aB (aC aF (aC aE (aA 2) (aA 3)) (aC aS (aA 0) (aC aE (aA 2) (bK bO (mC (.int 1)))))) aD))) ((cO m M).map PV.int) [none,some (.pv (tv r)),some (.pv (tv q)),some (.pv (.int k))] (S++[.lst L])=.ok ((cO m M).map λc=>tv (r++[x+c*w])) (S++[.lst L]):=by
  refine jJ (gL _) PV.int (λc=>tv (r++[x+c*w])) (cO m M) none λc hc=>?_;have hc:=nT.mp hc;have mu:=dR (show Bd 7 c from Bd.of (n:=8) (by omega) (by decide)) bw;have ad:eO (tv r) (.tup [.int (x+c*w)])=some (tv (r++[x+c*w])):=by
   show(if(r.map PV.int).length+1<=16777216 then some (PV.tup (r.map PV.int++[.int (x+c*w)]))else none)=_;rw[if_pos (by rw[aj];omega)];show _=some (PV.tup ((r++[x+c*w]).map PV.int));rw[dz];rfl
  generalize S++[.lst L]=S1,tv r=T,tv q=Q,tv (r++[x+c*w])=R at *;simp! [bC,aK,aN,aL,aM,aF,aJ,ix,iw,mu,ad]
 have rg:qD [.pv (.int m),.pv (.int (M+1))] (S++[.lst L])=.ok ((cO m M).map PV.int,[]) (S++[.lst L]):=by
  show @ite _ _ (nr _) _ _=_;rw[if_pos ⟨⟨by omega,by omega,by omega,by omega⟩,by omega⟩,Mm]
 have mn:=hN.mn;have mx:=hN.mx;rw[dg];have el:((cO m M).map λc=>tv (r++[x+c*w]))=(cO m M).map (tv∘λc=>r++[x+c*w]):=rfl;rw[el]at ec;generalize S++[.lst L]=S1,tv r=T,tv q=Q,N.map PV.int=NL,(cO m M).map PV.int=UL,(cO m M).map (tv∘λc=>r++[x+c*w])=RL at *;simp! [bC,aK,aN,aL,aM,aF,aJ,bB,cD,iR,mn,mx,rg,ec]
theorem Rk{S:aG}{q N:AS}{k x w m M:Int}{G:Gd}(hG:∀T,gA G (S++[T]))(ix:aE (tv q) (.int k)=some (.int x))(iw:aE (tv q) (.int (-1))=some (.int w))(bw:Bd 1000 w)(hN:Nb N m M)(x0 x2:BC):∀(rows L:AT)(x6:BC),(∀r∈rows,r.length<=9)->L.length+17*rows.length<=900->∃y6,cJ G (gN 6) xL (rows.map tv) [x0,some (.pv (tv q)),x2,some (.pv (.int k)),some (.pv (.lst (N.map .int))),some (.ref S.length),x6] (S++[.lst (L.map tv)])=.nx [x0,some (.pv (tv q)),x2,some (.pv (.int k)),some (.pv (.lst (N.map .int))),some (.ref S.length),y6] (S++[.lst ((L++iN x w (cO m M) rows).map tv)])
 |[],L,x6,_,_=>⟨x6,by rw[show iN x w (cO m M) []=[] from rfl,ie];exact Fh (hG _)⟩
 |r::rows,L,x6,hr,hl=>by
  simp only[cv]at hl;have e1:=Wz (S:=S) (L:=L.map tv) ix iw bw hN (hr r (by simp)) (by rw[aj];omega) x0 x2;have lo:=hN.lo;have lu:(cO m M).length<=17:=by unfold cO;rw[aj,dq];omega
  obtain⟨y6,e2⟩:=Rk hG ix iw bw hN x0 x2 rows (L++(cO m M).map λc=>r++[x+c*w]) (some (.pv (tv r))) (λt ht=>hr t (ay _ ht)) (by rw[bj,aj];omega);refine⟨y6,?_⟩;rw[av];rw[<-dz]at e1;rw[Mf (hG _) (ρ1:=[x0,some (.pv (tv q)),x2,some (.pv (.int k)),some (.pv (.lst (N.map .int))),some (.ref S.length),some (.pv (tv r))]) rfl e1,e2,jf];rfl
abbrev sY:MS:=(aI (aP 4 (bB ["corner"] [(3,"k")] (bD (aA 0)) (gN 0) (aC aE (aA 0) (aA 1)))) (aI (aP 5 (eJ aD)) (aI (bI (bD (aA 2)) (gN 6) xL) (aP 2 (aA 5)))))
def Rv(V:AV)(rows:AT)(S:aG):Prop:=∃G,(bT V S=.ok (rows.map tv,G) S/\gA G S)/\∀T,bT V (S++[T])=.ok (rows.map tv,G) (S++[T])/\gA G (S++[T])
theorem Em(S:aG)(rows:AT):Rv (.ref S.length) rows (S++[.lst (rows.map tv)]):=by
 have go:∀R:aG,R[S.length]?=some (.lst (rows.map tv))->bT (.ref S.length) R=.ok (rows.map tv,[(S.length,rows.map tv)]) R/\gA [(S.length,rows.map tv)] R:=λR e=>by
  refine⟨?_,λg hg=>?_⟩
  .show(match R[S.length]? with |some (.lst xs)=>bQ.ok (xs,[(S.length,xs)]) _ |_=>.fail)=_
   rw[e]
  .rw[km.mp hg]
   exact e
 exact⟨_,go _ (by simp),λT=>go _ (by simp)⟩
theorem Yi(x w:Int)(cs:AS):∀rows:AT,(iN x w cs rows).length=rows.length*cs.length
 |[]=>by simp[iN]
 |r::rows=>by
  have:=Yi x w cs rows;unfold iN at this⊢;rw[qh,bj,this,aj,cv,Nat.add_mul,Nat.one_mul,Nat.add_comm]
theorem Dw{x w:Int}{cs:AS}{rows:AT}{t:AS}:t∈iN x w cs rows↔∃r∈rows,∃c∈cs,t=r++[x+c*w]:=by
 unfold iN;simp only[yo,ax];constructor
 .rintro⟨r,hr,c,hc,rfl⟩
  exact⟨r,hr,c,hc,rfl⟩
 .rintro⟨r,hr,c,hc,rfl⟩
  exact⟨r,hr,c,hc,rfl⟩
theorem abp{S:aG}{q:AS}{Y rows:AT}{V:AV}{k:Nat}{x w m M:Int}(hV:Rv V rows S)(hY:∀y∈Y,aE (tv y) (.int (k:Int))=some (.int (y.getD k 0)))(ix:aE (tv q) (.int (k:Int))=some (.int x))(iw:aE (tv q) (.int (-1))=some (.int w))(bw:Bd 1000 w)(hN:Nb (Y.map (·.getD k 0)) m M)(hr:∀r∈rows,r.length<=9)(hl:rows.length<=50)(x4 x5 x6:BC):∃y6,sY [some (.pv (px Y)),some (.pv (tv q)),some V,some (.pv (.int (k:Int))),x4,x5,x6] S=.nx [some (.pv (px Y)),some (.pv (tv q)),some (.ref S.length),some (.pv (.int (k:Int))),some (.pv (.lst ((Y.map (·.getD k 0)).map .int))),some (.ref S.length),y6] (S++[.lst ((iN x w (cO m M) rows).map tv)]):=by
 obtain⟨G,_,hG⟩:=hV;obtain⟨y6,e2⟩:=Rk (S:=S) (G:=G) (λT=>(hG T).2) ix iw bw hN (some (.pv (px Y))) (some V) rows [] x6 hr (by simp;omega);refine⟨y6,?_⟩;have ec:bZ [] (gN 0) (aC aE (aA 0) (aA 1)) (Y.map tv) [none,some (.pv (.int (k:Int)))] S=.ok (Y.map λy=>.int (y.getD k 0)) S:=by
  refine jJ (gL S) tv (λy=>.int (y.getD k 0)) Y none λy hy=>?_;have e:=hY y hy;generalize (k:Int)=K,tv y=T at *;simp! [bC,aK,aN,aL,aM,aF,aJ,e]
 have em:(Y.map λy=>PV.int (y.getD k 0))=(Y.map (·.getD k 0)).map .int:=by rw[dg];rfl
 rw[em]at ec;have g1:=(hG (.lst [])).1;have hp:px Y=.tup (Y.map tv):=rfl;rw[ib]at e2;rw[cg]at e2;rw[hp]at e2⊢;unfold sY;clear hG hN hY ix iw;generalize (k:Int)=K,tv q=Q,(iN x w (cO m M) rows).map tv=EL,rows.map tv=RL,Y.map tv=YL,(Y.map (·.getD k 0)).map PV.int=NL,xL=SB at *;apply sq;simp! [bC,aK,aN,aL,aM,aF,aJ,bB,cD,bD,bT,ec];exact⟨rfl,rfl⟩;apply sq;simp! [bC,aK,aN,aL,aM,aF,aJ,eJ,jU];exact⟨rfl,rfl⟩;refine sq (ρ':=[some (.pv (.tup YL)),some (.pv Q),some V,some (.pv (.int K)),some (.pv (.lst NL)),some (.ref S.length),y6]) (S':=S++[.lst EL]) ?_ ?_
 .simp! [bC,aK,aN,aL,aM,aF,aJ,bI,bD,g1,e2]
 .simp! [bC,aK,aN,aL,aM,aF,aJ]
def jR(q:AS)(w:Int)(m M:Nat->Int)(ks:List Nat)(rows:AT):AT:=ks.foldl (λrows k=>iN (q.getD k 0) w (cO (m k) (M k)) rows) rows
theorem Po{q:AS}{Y:AT}{w:Int}{m M:Nat->Int}(iw:aE (tv q) (.int (-1))=some (.int w))(bw:Bd 1000 w):∀(ks:List Nat)(S:aG)(V:AV)(rows:AT)(b:Nat)(x3 x4 x5 x6:BC),Rv V rows S->(∀k∈ks,(∀y∈Y,aE (tv y) (.int (k:Int))=some (.int (y.getD k 0)))/\aE (tv q) (.int (k:Int))=some (.int (q.getD k 0))/\Nb (Y.map (·.getD k 0)) (m k) (M k))->(∀r∈rows,r.length<=b)->b+ks.length<=9->rows.length*3^ks.length<=50->∃(T:aG)(V':AV)(y3 y4 y5 y6:BC),cJ [] (gN 3) sY (ks.map λk:Nat=>PV.int (k:Int)) [some (.pv (px Y)),some (.pv (tv q)),some V,x3,x4,x5,x6] S=.nx [some (.pv (px Y)),some (.pv (tv q)),some V',y3,y4,y5,y6] (S++T)/\Rv V' (jR q w m M ks rows) (S++T)/\(∀r∈jR q w m M ks rows,r.length<=b+ks.length)
 |[],S,V,rows,b,x3,x4,x5,x6,hV,_,hr,_,_=>⟨[],V,x3,x4,x5,x6,by rw[ie];exact fF,by rw[ie];exact hV,hr⟩
 |k::ks,S,V,rows,b,x3,x4,x5,x6,hV,hk,hr,hb,hl=>by
  obtain⟨a1,a2,a3⟩:=hk k (by simp);simp only[cv]at hb;have p3:1<=3^ks.length:=u5 _ _ (by decide);have hl2:rows.length*(3*3^ks.length)<=50:=by rw[cv,xa,Nat.mul_comm (3^ks.length) 3]at hl;exact hl
  have hl3:rows.length<=50:=fk (u6 _ (by omega)) hl2;obtain⟨y6,e1⟩:=abp hV a1 a2 iw bw a3 (λr h=>fk (hr r h) (by omega)) hl3 x4 x5 x6;have lu:(cO (m k) (M k)).length<=3:=by
   have:=a3.lo;have:=a3.sp;unfold cO;rw[aj,dq];omega
  obtain⟨T,V',z3,z4,z5,z6,e2,v2,l2⟩:=Po iw bw ks (S++[.lst ((iN (q.getD k 0) w (cO (m k) (M k)) rows).map tv)]) (.ref S.length) (iN (q.getD k 0) w (cO (m k) (M k)) rows) (b+1) (some (.pv (.int (k:Int)))) _ _ y6 (Em S _) (λj hj=>hk j (ay _ hj)) (λt ht=>by
   obtain⟨r,h1,c,_,rfl⟩:=Dw.mp ht;have:=hr r h1;simp;omega) (by omega) (by
   rw[Yi];refine fk ?_ hl2;rw[<-Nat.mul_assoc];exact u7 _ (u8 _ lu))
  refine⟨[.lst ((iN (q.getD k 0) w (cO (m k) (M k)) rows).map tv)]++T,V',z3,z4,z5,z6,?_,?_,?_⟩
  .rw[av,dY]
   simp only[gN,dw,cw];rw[e1,<-jf];exact e2
  .rw[<-jf]
   exact v2
  .intro r h
   have:=l2 r h;simp only[cv];omega
theorem Sy{n k:Nat}(hn:n=2\/n=3){xs:AS}{w:Int}(P:Pq n k xs w)(hk:k<=1000){Y:AT}{m M:Nat->Int}(hY:∀j,j<n->(∀y∈Y,aE (tv y) (.int (j:Int))=some (.int (y.getD j 0)))/\Nb (Y.map (·.getD j 0)) (m j) (M j))(S:aG):oU [.pv (px Y),.pv (tv (xs++[w]))] S=.ok (.pv (.lst (((jR (xs++[w]) w m M (ak n) [[]]).map (·++[w])).map tv))) S:=by
 have iL:=iY xs w;have hx:∀j,j<n->aE (tv (xs++[w])) (.int (j:Int))=some (.int ((xs++[w]).getD j 0)):=λj hj=>by
  have hl:j<(xs++[w]).length:=by rw[bj,P.len];simp;omega
  refine jO ?_;rw[dj,cu,au hl];rfl
 have rv0:Rv (.pv (.lst [.tup []])) [[]] S:=⟨[],⟨rfl,gL _⟩,λT=>⟨rfl,gL _⟩⟩;obtain⟨T,V',y3,y4,y5,y6,e1,⟨G,⟨s1,s2⟩,_⟩,l1⟩:=Po (q:=xs++[w]) (Y:=Y) (m:=m) (M:=M) iL (P.bw.mono hk) (ak n) S (.pv (.lst [.tup []])) [[]] 0 none none none none rv0 (λj hj=>by
  have hj:=kq.mp hj;exact⟨(hY j hj).1,hx j hj,(hY j hj).2⟩) (by simp) (by rw[dq];omega) (by rw[dq];rcases hn with rfl |rfl<;>decide)
 have ec:bZ G (gN 0) (aC eO (aA 0) (mN dL (aB (aC aE (aA 1) (bK bO (mC (.int 1)))) aD))) ((jR (xs++[w]) w m M (ak n) [[]]).map tv) [none,some (.pv (.tup ((xs++[w]).map .int)))] (S++T)=.ok ((jR (xs++[w]) w m M (ak n) [[]]).map λr=>tv (r++[w])) (S++T):=by
  refine jJ s2 tv (λr=>tv (r++[w])) _ none λr hr=>?_;have lr:=l1 r hr;rw[dq]at lr;have ad:eO (tv r) (.tup [.int w])=some (tv (r++[w])):=by
   show(if(r.map PV.int).length+1<=16777216 then some (PV.tup (r.map PV.int++[.int w]))else none)=_;rw[if_pos (by rw[aj];omega)];show _=some (PV.tup ((r++[w]).map PV.int));rw[dz];rfl
  generalize (xs++[w]).map PV.int=Q,tv r=T,tv (r++[w])=R at *;simp! [bC,aK,aN,aL,aM,aF,aJ,iL,ad]
 have rg:=kJ S (n:=n) (by omega);rw[uR]at rg;have ln:(((xs++[w]).map PV.int).length:Int)-1=(n:Int):=by
  rw[aj,bj,P.len];simp
 have hb:xU=(aI (aP 2 (mN eC (aB (mN dL aD) aD))) (aI (bI (cM (aB (aC dG (mR eI (aB (aA 1) aD)) (mC (.int 1))) aD)) (gN 3) sY) (bF (bB ["row"] [(1,"p")] (bD (aA 2)) (gN 0) (aC eO (aA 0) (mN dL (aB (aC aE (aA 1) (bK bO (mC (.int 1)))) aD))))))):=rfl;have et:tv (xs++[w])=.tup ((xs++[w]).map .int):=rfl;rw[et]at e1⊢;rw[dg];have eq2:((jR (xs++[w]) w m M (ak n) [[]]).map λr=>tv (r++[w]))=(jR (xs++[w]) w m M (ak n) [[]]).map (tv∘(·++[w])):=rfl;rw[eq2]at ec;clear hY hx rv0 l1;unfold oU;rw[hb];generalize (n:Int)=N,px Y=PY,(xs++[w]).map PV.int=Q,((ak n).map λj:Nat=>PV.int (j:Int))=KL,(jR (xs++[w]) w m M (ak n) [[]]).map tv=RL,(jR (xs++[w]) w m M (ak n) [[]]).map (tv∘(·++[w]))=RR,sY=SK at *;apply wL (v:=.pv (.lst RR)) (S':=S++T) rfl
 .apply sq;simp! [bC,aK,aN,aL,aM,aF,aJ,gZ];exact⟨rfl,rfl⟩
  refine sq (ρ':=[some (.pv PY),some (.pv (.tup Q)),some V',y3,y4,y5,y6]) (S':=S++T) ?_ ?_
  .simp! [bC,aK,aN,aL,aM,aF,aJ,bI,cM,ln,rg,e1]
  .simp! [bC,aK,aN,aL,aM,aF,aJ,bB,cD,bD,s1,ec]
 .simp[jT]
def fT(N:AS):Int:=N.min?.getD 0
def gC(N:AS):Int:=N.max?.getD 0
theorem Tp{N:AS}(h0:N≠[])(hb:∀x∈N,-8<=x/\x<=8)(hd:∀x∈N,∀y∈N,x-y<=2):Nb N (fT N) (gC N)/\(∀x∈N,fT N<=x/\x<=gC N):=by
 cases e1:N.min? with
 |none=>exact absurd (u9.mp e1) h0
 |some a=>
  cases e2:N.max? with
  |none=>exact absurd (v7.mp e2) h0
  |some b=>
   obtain⟨a1,a2⟩:=uh.mp e1;obtain⟨b1,b2⟩:=yi.mp e2;have k1:fT N=a:=by unfold fT;rw[e1];rfl
   have k2:gC N=b:=by unfold gC;rw[e2];rfl
   rw[k1,k2];refine⟨⟨?_,?_,⟨(hb a a1).1,a2 b b1,(hb b b1).2⟩,hd b b1 a a1⟩,λx hx=>⟨a2 x hx,b2 x hx⟩⟩
   .show(iB (N.map .int)).bind (λbs=>bs.min?.map PV.int)=_
    rw[pA];show N.min?.map PV.int=_;rw[e1];rfl
   .show(iB (N.map .int)).bind (λbs=>bs.max?.map PV.int)=_
    rw[pA];show N.max?.map PV.int=_;rw[e2];rfl
theorem E1{n k:Nat}{xs:AS}{w:Int}(P:Pq n k xs w):Pq n k (xs.map (·.fmod w)) w:=by
 have w0:=P.pos;refine⟨by rw[aj,P.len],w0,zD w0 P.low λd hd hy x hx=>?_,λy hy=>?_,P.bw⟩
 .have h1:=hy (x.fmod w) (ax.mpr ⟨x,hx,rfl⟩)
  have e:x=x.fmod w+w*x.fdiv w:=(rk x w).symm;rw[e];exact Int.dvd_add h1 (Int.dvd_mul_of_dvd_left hd)
 .obtain⟨x,_,rfl⟩:=ax.mp hy
  rw[Int.fmod_eq_emod_of_nonneg x (jd w0)];have h1:=c7 x (jl w0);have h2:=Int.emod_lt_of_pos x w0;have bw:=P.bw;unfold Bd at bw⊢;omega
theorem aa1{n k:Nat}{xs:AS}{w:Int}(P:Pq n k xs w){zs:AS}(hl:zs.length=n)(hz:∀j,j<n->∃c:Int,-8<=c/\c<=8/\zs.getD j 0=xs.getD j 0+c*w):Pq n (k+5) zs w:=by
 have at_:∀{l:AS}{x:Int},x∈l->∃j,j<l.length/\l.getD j 0=x:=λ{l x} hx=>by
  obtain⟨j,hj,e⟩:=jo hx;exact⟨j,hj,by rw[cu,au hj];exact e⟩
 have mem_:∀{l:AS}{j:Nat},j<l.length->l.getD j 0∈l:=λ{l j} hj=>by
  rw[cu,au hj];exact fj hj
 refine⟨hl,P.pos,zD P.pos P.low λd hd hy x hx=>?_,λz hz'=>?_,P.bw.mono (by omega)⟩
 .obtain⟨j,hj,rfl⟩:=at_ hx
  rw[P.len]at hj;obtain⟨c,_,_,e⟩:=hz j hj;have h1:=hy _ (mem_ (l:=zs) (j:=j) (by omega));rw[e]at h1;have:=Int.dvd_sub h1 (v8 (b:=c) hd)
  rwa[w8]at this
 .obtain⟨j,hj,rfl⟩:=at_ hz'
  rw[hl]at hj;obtain⟨c,c1,c2,e⟩:=hz j hj;rw[e];have b1:=P.bx _ (mem_ (l:=xs) (j:=j) (by rw[P.len];exact hj));have b2:=(show Bd 4 c from Bd.of (n:=8) (by omega) (by decide)).mul P.bw;exact((b1.mono (show k<=k+4 by omega)).add (b2.mono (show 4+k<=k+4 by omega))).mono (by omega)
abbrev lP:MS:=(kS (λi j=>i+j) 4 (iJ oY [] (aB (mN dL (aB (aA 6) aD)) (aB (aA 7) aD))))
theorem Ek{n:Nat}(hn:n=2\/n=3){Y:AT}(hY:Wx n 1000 Y)(S:aG)(x0 x1 x2 x3 x5:BC):∀(Z:AT)(c:Int)(x7:BC),(∀z∈Z,Gu n 1000 z)->
  ((∃z∈Z,bS Y z=0)/\cJ [] (gN 7) lP (Z.map tv) [x0,x1,x2,x3,some (.pv (.int c)),x5,some (.pv (px Y)),x7] S=.exc "OnSide" S)\/((∀z∈Z,bS Y z≠0)/\∃y7,cJ [] (gN 7) lP (Z.map tv) [x0,x1,x2,x3,some (.pv (.int c)),x5,some (.pv (px Y)),x7] S=.nx [x0,x1,x2,x3,some (.pv (.int (c+((Z.map λz=>bS Y z).count 1:Nat)))),x5,some (.pv (px Y)),y7] S)
 |[],c,x7,_=>.inr ⟨λ_ h=>absurd h fe,x7,by simp[fF]⟩
 |z::Z,c,x7,hz=>by
  have e:=count_eq hn (k:=1000) (by decide) (hz z (by simp)) S (hs:=[Y]) (A:=.tup [px Y]) (.inr rfl) (λu hu=>by rw[km.mp hu];exact hY);rw[av,dY];simp only[gN,dw,cw];rcases e with⟨⟨u,hu,e0⟩,e⟩|⟨e0,e⟩
  .left
   rw[km.mp hu]at e0;refine⟨⟨z,by simp,e0⟩,?_⟩;have st:lP [x0,x1,x2,x3,some (.pv (.int c)),x5,some (.pv (px Y)),some (.pv (tv z))] S=.exc "OnSide" S:=by
    generalize px Y=P,tv z=T at *;unfold lP;simp! [bC,aK,aN,aL,aM,aF,aJ,kS,e]
   rw[st]
  .have e0:=e0 Y (by simp)
   have st:lP [x0,x1,x2,x3,some (.pv (.int c)),x5,some (.pv (px Y)),some (.pv (tv z))] S=.nx [x0,x1,x2,x3,some (.pv (.int (c+(([Y].map λu=>bS u z).count 1:Nat)))),x5,some (.pv (px Y)),some (.pv (tv z))] S:=by
    generalize ((([Y].map λu=>bS u z).count 1:Nat):Int)=K,px Y=P,tv z=T at *;unfold lP;simp! [bC,aK,aN,aL,aM,aF,aJ,kS,xA,e]
   rw[st];have ek:((z::Z).map λz=>bS Y z).count 1=([Y].map λu=>bS u z).count 1+(Z.map λz=>bS Y z).count 1:=by
    rw[av,av,cg,ny,ny,List.count_nil];omega
   rcases Ek hn hY S x0 x1 x2 x3 x5 Z (c+(([Y].map λu=>bS u z).count 1:Nat)) (some (.pv (tv z))) (λy hy=>hz y (ay _ hy))with⟨⟨y,hy,q⟩,ih⟩|⟨q,y7,ih⟩
   .exact .inl ⟨⟨y,ay _ hy,q⟩,ih⟩
   .refine .inr ⟨λy hy=>?_,y7,?_⟩
    .rcases cf.mp hy with rfl |hy
     .exact e0
     .exact q y hy
    .dsimp only
     rw[ih,ek];have:c+((([Y].map λu=>bS u z).count 1:Nat):Int)+(((Z.map λz=>bS Y z).count 1:Nat):Int)=c+((([Y].map λu=>bS u z).count 1+(Z.map λz=>bS Y z).count 1:Nat):Int):=by omega
     rw[this]
structure Pc where
 f:AS
 a:AS
 r:AT
def Pc.ys(d:Pc):AT:=d.a::d.r
def Pc.Y(d:Pc):AT:=d.ys.map λy=>eV d.a y++[1]
def Pc.pv(fs:List (Int×Int))(d:Pc):PV:=px (d.ys.map (eM fs d.f))
structure Pg(n:Nat)(d:Pc):Prop where
 f:Gu n 100 d.f
 len:d.ys.length=n+1
 ok:∀y∈d.ys,y.length=n/\∀x∈y,0<=x/\x<=2
def Pc.sp(n:Nat)(q:AS)(w:Int)(d:Pc):AT:=(jR (q++[w]) w (λj=>fT (d.Y.map (·.getD j 0))) (λj=>gC (d.Y.map (·.getD j 0))) (ak n) [[]]).map (·++[w])
theorem vZ{n:Nat}{a y:AS}(ha:a.length=n)(hy:y.length=n){j:Nat}(hj:j<n):(eV a y++[1]).getD j 0=y.getD j 0-a.getD j 0/\(eV a y).length=n:=by
 have hl:(eV a y).length=n:=by unfold eV;rw[dn];omega
 refine⟨?_,hl⟩;rw[cu,ft (by omega),cu,cu];unfold eV;rw[qw,au (show j<y.length by omega),au (show j<a.length by omega)];rfl
theorem sC{l:AS}(h:∀x∈l,0<=x/\x<=2){j:Nat}(hj:j<l.length):0<=l.getD j 0/\l.getD j 0<=2:=by
 rw[cu,au hj];exact h _ (fj hj)
theorem Pg.nb{n:Nat}{d:Pc}(h:Pg n d){j:Nat}(hj:j<n):(∀y∈d.Y,aE (tv y) (.int (j:Int))=some (.int (y.getD j 0)))/\Nb (d.Y.map (·.getD j 0)) (fT (d.Y.map (·.getD j 0))) (gC (d.Y.map (·.getD j 0)))/\∀x∈d.Y.map (·.getD j 0),fT (d.Y.map (·.getD j 0))<=x/\x<=gC (d.Y.map (·.getD j 0)):=by
 have ha:=h.ok d.a (by simp[Pc.ys]);have hN:∀x∈d.Y.map (·.getD j 0),∃y∈d.ys,x=y.getD j 0-d.a.getD j 0:=λx hx=>by
  obtain⟨z,hz,rfl⟩:=ax.mp hx;obtain⟨y,hy,rfl⟩:=ax.mp hz;exact⟨y,hy,(vZ ha.1 (h.ok y hy).1 hj).1⟩
 have ba:=sC ha.2 (j:=j) (by omega);refine⟨λy hy=>?_,Tp ?_ (λx hx=>?_) (λx hx x' hx'=>?_)⟩
 .obtain⟨z,hz,rfl⟩:=ax.mp hy
  have hl:=(vZ ha.1 (h.ok z hz).1 hj).2;have hl:j<(eV d.a z++[1]).length:=by rw[bj,hl];simp;omega
  refine jO ?_;rw[dj,cu,au hl];rfl
 .intro e
  have:=congrArg kh e;unfold Pc.Y at this;rw[aj,aj,h.len]at this;simp at this
 .obtain⟨y,hy,rfl⟩:=hN x hx
  have:=sC (h.ok y hy).2 (j:=j) (by have:=(h.ok y hy).1;omega);omega
 .obtain⟨y,hy,rfl⟩:=hN x hx
  obtain⟨y',hy',rfl⟩:=hN x' hx';have:=sC (h.ok y hy).2 (j:=j) (by have:=(h.ok y hy).1;omega);have:=sC (h.ok y' hy').2 (j:=j) (by have:=(h.ok y' hy').1;omega);omega
theorem Pg.wx{n:Nat}{d:Pc}(h:Pg n d):Wx n 7 d.Y:=by
 have ha:=h.ok d.a (by simp[Pc.ys]);refine⟨by unfold Pc.Y;rw[aj,h.len],λz hz=>?_⟩;obtain⟨y,hy,rfl⟩:=ax.mp hz;have hy':=h.ok y hy;have hl:(eV d.a y).length=n:=by unfold eV;rw[dn];omega
 refine⟨eV d.a y,1,rfl,hl,by decide,rD,λx hx=>?_,Bd.of (n:=1) (by decide) (by decide)⟩;obtain⟨j,hj,rfl⟩:=jo hx;have b1:=hy'.2 _ (fj (show j<y.length by omega));have b2:=ha.2 _ (fj (show j<d.a.length by omega));have e:(eV d.a y)[j]'hj=y[j]'(by omega)-d.a[j]'(by omega):=qg ..;rw[e];exact Bd.of (n:=4) (by omega) (by decide)
def dD:AT->AT
 |[]=>[[]]
 |L::Ls=>L.flatMap λc=>(dD Ls).map (c:: ·)
theorem rL:∀{Ls:AT}{t:AS},t∈dD Ls↔t.length=Ls.length/\∀i,i<Ls.length->t.getD i 0∈Ls.getD i []
 |[],t=>by
  unfold dD;rw[km];constructor
  .rintro rfl
   exact⟨rfl,λi hi=>absurd hi (Nat.not_lt_zero i)⟩
  .rintro⟨h,_⟩
   exact qd.mp h
 |L::Ls,t=>by
  unfold dD;rw[yo];constructor
  .rintro⟨c,hc,h⟩
   obtain⟨s,hs,rfl⟩:=ax.mp h;obtain⟨h1,h2⟩:=rL.mp hs;refine⟨by simp[h1],λi hi=>?_⟩;cases i with
   |zero=>simpa using hc
   |succ i=>simpa using h2 i (by simpa using hi)
  .rintro⟨h1,h2⟩
   match t,h1 with
   |c::s,h1=>
    refine⟨c,by simpa using h2 0 (by simp),ax.mpr ⟨s,rL.mpr ⟨by simpa using h1,λi hi=>?_⟩,rfl⟩⟩;simpa using h2 (i+1) (by simpa using hi)
theorem Ck:∀{Ls:AT},(∀L∈Ls,L.Nodup)->(dD Ls).Nodup
 |[],_=>by simp[dD]
 |L::Ls,h=>by
  unfold dD;have h2:=Ck (Ls:=Ls) λM hM=>h M (ay _ hM);have hL:=h L (by simp);unfold yp at hL⊢;rw[List.pairwise_flatMap];refine⟨λc _=>?_,hL.imp λ{a b} hab x hx y hy e=>?_⟩
  .rw[yq]
   exact AA (λ{a b} hab e=>hab (by injection e)) h2
  .obtain⟨s,_,rfl⟩:=ax.mp hx
   obtain⟨s',_,rfl⟩:=ax.mp hy;injection e with e1 _;exact hab e1
theorem Kk(m M:Int):(cO m M).Nodup:=by
 unfold cO yp;rw[yq];exact AA (λ{a b} hab e=>hab (by omega)) List.nodup_range
def uZ(R:Nat->AS)(ks:List Nat)(rows:AT):AT:=ks.foldl (λrows k=>rows.flatMap λr=>(R k).map λc=>r++[c]) rows
theorem rH{α β:Type}{f g:α->List β}:∀{l:List α},(∀a∈l,f a=g a)->l.flatMap f=l.flatMap g
 |[],_=>rfl
 |a::l,h=>by rw[qh,qh,h a (by simp),rH λb hb=>h b (ay _ hb)]
theorem Kf(R:Nat->AS):∀(ks:List Nat)(rows:AT),uZ R ks rows=rows.flatMap λr=>(dD (ks.map R)).map (r++·)
 |[],rows=>by
  show rows=_;simp[dD]
 |k::ks,rows=>by
  show uZ R ks (rows.flatMap λr=>(R k).map λc=>r++[c])=_;rw[Kf R ks,AC];refine rH λr _=>?_;rw[av,dD,AD,AE];refine rH λc _=>?_;rw[dg];refine ij λs _=>?_;simp
theorem E7{A P:AT}{φ:AS->AS}{g:AS->Int}(hA:A.Nodup)(hP:(P.map φ).Nodup)(hs:∀t,t∈P.map φ->t∈A)(ho:∀t∈A,t∉P.map φ->g t=-1):(A.map g).count 1=(P.map λc=>g (φ c)).count 1/\((∃t∈A,g t=0)↔∃c∈P,g (φ c)=0):=by
 have e:(A.filter λt=>decide (t∈P.map φ)).Perm (P.map φ):=by
  rw[List.perm_ext_iff_of_nodup (hA.filter _) hP];intro t;rw[vg];constructor
  .rintro⟨_,h⟩
   simpa using h
  .intro h
   exact⟨hs t h,by simpa using h⟩
 refine⟨?_,?_⟩
 .have e1:(A.map g).count 1=((A.filter λt=>decide (t∈P.map φ)).map g).count 1:=by
   clear e hs hA
   induction A with
   |nil=>rfl
   |cons t A ih=>
    have ih:=ih λs h=>ho s (ay _ h)
    by_cases c:t∈P.map φ
    .rw[List.filter_cons_of_pos (by simpa using c),av,av,ny,ny,ih]
    .rw[List.filter_cons_of_neg (by simpa using c),av,ny,ih,ho t (by simp) c]
     rfl
  rw[e1,(e.map g).count_eq,dg];rfl
 .constructor
  .rintro⟨t,ht,h0⟩
   by_cases c:t∈P.map φ
   .obtain⟨s,hs',rfl⟩:=ax.mp c
    exact⟨s,hs',h0⟩
   .rw[ho t ht c]at h0
    cases h0
  .rintro⟨s,hs',h0⟩
   exact⟨φ s,hs _ (List.mem_map_of_mem hs'),h0⟩
theorem Lh(q:AS)(w:Int)(m M:Nat->Int):∀(ks:List Nat)(rows:AT),jR q w m M ks rows=rows.flatMap λr=>(dD (ks.map λk=>cO (m k) (M k))).map λt=>r++bf (λk c=>q.getD k 0+c*w) ks t
 |[],rows=>by
  show rows=_;simp[dD]
 |k::ks,rows=>by
  show jR q w m M ks (iN (q.getD k 0) w (cO (m k) (M k)) rows)=_;rw[Lh q w m M ks];unfold iN;rw[AC];refine rH λr _=>?_;rw[av,dD,AD,AE];refine rH λc _=>?_;rw[dg];refine ij λs _=>?_;simp
def Pc.rs(n:Nat)(d:Pc):AT:=(ak n).map λj=>cO (fT (d.Y.map (·.getD j 0))) (gC (d.Y.map (·.getD j 0)))
def qN(n:Nat)(q:AS)(w:Int)(t:AS):AS:=bf (λk c=>q.getD k 0+c*w) (ak n) t++[w]
theorem Mo(n:Nat)(q:AS)(w:Int)(d:Pc):d.sp n q w=(dD (d.rs n)).map (qN n (q++[w]) w):=by
 unfold Pc.sp;rw[Lh,qh,AF,ie,dg];rfl
theorem Q8{n:Nat}{q:AS}{w:Int}{t:AS}(hq:q.length=n)(ht:t.length=n):(bf (λk c=>(q++[w]).getD k 0+c*w) (ak n) t).length=n/\∀j,j<n->(bf (λk c=>(q++[w]).getD k 0+c*w) (ak n) t).getD j 0=q.getD j 0+t.getD j 0*w:=by
 refine⟨by rw[dn,dq];omega,λj hj=>?_⟩;rw[cu,qw,au (show j<(ak n).length by rw[dq];exact hj),au (show j<t.length by omega),um];show(q++[w]).getD j 0+t[j]*w=_;rw[cu,ft (by omega),<-cu,cu (l:=t),au (show j<t.length by omega)];rfl
theorem aaR{n k:Nat}{q:AS}{w:Int}(P:Pq n k q w)(hk:k<=900){d:Pc}(hd:Pg n d):∀z∈d.sp n q w,Gu n 1000 z:=λz hz=>by
 rw[Mo]at hz;obtain⟨t,ht,rfl⟩:=ax.mp hz;obtain⟨h1,h2⟩:=rL.mp ht;have hl:(d.rs n).length=n:=by unfold Pc.rs;rw[aj,dq]
 rw[hl]at h1 h2;obtain⟨l1,l2⟩:=Q8 (w:=w) P.len h1;refine Gu.mono (k:=k+5) ⟨_,w,rfl,aa1 P l1 λj hj=>?_⟩ (by omega);have h3:=h2 j hj;have e:(d.rs n).getD j []=cO (fT (d.Y.map (·.getD j 0))) (gC (d.Y.map (·.getD j 0))):=by
  unfold Pc.rs;rw[cu,dj,au (show j<(ak n).length by rw[dq];exact hj),um];rfl
 rw[e]at h3;have h4:=nT.mp h3;have h5:=(hd.nb hj).2.1.lo;exact⟨t.getD j 0,by omega,by omega,l2 j hj⟩
abbrev lZ:MS:=(aI (aP 6 (aQ pH [] (aB (aA 5) (aB (aA 1) aD)))) (bI (bD (aQ oU [] (aB (aA 6) (aB (aA 3) aD)))) (gN 7) lP))
theorem L3{n k:Nat}(hn:n=2\/n=3){fs:List (Int×Int)}(hf:fs.length=n)(h:∀u∈fs,Sp u){q:AS}{w:Int}(P:Pq n k q w)(hk:k<=900){d:Pc}(hd:Pg n d)(S:aG)(c:Int)(x0 x2 x6 x7:BC):
  ((∃z∈d.sp n q w,bS d.Y z=0)/\lZ [x0,some (.pv (.tup (fs.map fv))),x2,some (.pv (tv (q++[w]))),some (.pv (.int c)),some (.pv (d.pv fs)),x6,x7] S=.exc "OnSide" S)\/((∀z∈d.sp n q w,bS d.Y z≠0)/\∃y6 y7,lZ [x0,some (.pv (.tup (fs.map fv))),x2,some (.pv (tv (q++[w]))),some (.pv (.int c)),some (.pv (d.pv fs)),x6,x7] S=.nx [x0,some (.pv (.tup (fs.map fv))),x2,some (.pv (tv (q++[w]))),some (.pv (.int (c+(((d.sp n q w).map λz=>bS d.Y z).count 1:Nat)))),some (.pv (d.pv fs)),y6,y7] S):=by
 have e1:pH [.pv (d.pv fs),.pv (.tup (fs.map fv))] S=.ok (.pv (px d.Y)) S:=D5 hn hf h hd.f hd.ok S;have e2:oU [.pv (px d.Y),.pv (tv (q++[w]))] S=.ok (.pv (.lst ((d.sp n q w).map tv))) S:=Sy hn P (by omega) (λj hj=>⟨(hd.nb hj).1,(hd.nb hj).2.1⟩) S;have wx:=hd.wx;have L:=Ek hn (Y:=d.Y) ⟨wx.len,λu hu=>(wx.gu u hu).mono (by decide)⟩ S x0 (some (.pv (.tup (fs.map fv)))) x2 (some (.pv (tv (q++[w])))) (some (.pv (d.pv fs))) (d.sp n q w) c x7 (aaR P hk hd);generalize (((d.sp n q w).map λz=>bS d.Y z).count 1:Nat)=K at *;have st:∀r,cJ [] (gN 7) lP ((d.sp n q w).map tv) [x0,some (.pv (.tup (fs.map fv))),x2,some (.pv (tv (q++[w]))),some (.pv (.int c)),some (.pv (d.pv fs)),some (.pv (px d.Y)),x7] S=r->lZ [x0,some (.pv (.tup (fs.map fv))),x2,some (.pv (tv (q++[w]))),some (.pv (.int c)),some (.pv (d.pv fs)),x6,x7] S=r:=λr hr=>by
  clear L wx;generalize tv (q++[w])=Q,PV.tup (fs.map fv)=G,d.pv fs=PD,px d.Y=PY,(d.sp n q w).map tv=ZL at *;unfold lZ;generalize lP=LB at *;apply sq;simp! [bC,aK,aN,aL,aM,aF,aJ,e1];exact⟨rfl,rfl⟩;simp! [bC,aK,aN,aL,aM,aF,aJ,bI,bD,bT,e2,hr]
 rcases L with⟨a,b⟩|⟨a,y7,b⟩
 .exact .inl ⟨a,st _ b⟩
 .exact .inr ⟨a,_,y7,st _ b⟩
theorem Tk{n k:Nat}(hn:n=2\/n=3){fs:List (Int×Int)}(hf:fs.length=n)(h:∀u∈fs,Sp u){q:AS}{w:Int}(P:Pq n k q w)(hk:k<=900)(S:aG)(x0 x2:BC):∀(ds:List Pc)(c:Int)(x5 x6 x7:BC),(∀d∈ds,Pg n d)->
  ((∃d∈ds,∃z∈d.sp n q w,bS d.Y z=0)/\cJ [] (gN 5) lZ (ds.map (Pc.pv fs)) [x0,some (.pv (.tup (fs.map fv))),x2,some (.pv (tv (q++[w]))),some (.pv (.int c)),x5,x6,x7] S=.exc "OnSide" S)\/((∀d∈ds,∀z∈d.sp n q w,bS d.Y z≠0)/\∃y5 y6 y7,cJ [] (gN 5) lZ (ds.map (Pc.pv fs)) [x0,some (.pv (.tup (fs.map fv))),x2,some (.pv (tv (q++[w]))),some (.pv (.int c)),x5,x6,x7] S=.nx [x0,some (.pv (.tup (fs.map fv))),x2,some (.pv (tv (q++[w]))),some (.pv (.int (c+((ds.map λd=>((d.sp n q w).map λz=>bS d.Y z).count 1).sum:Nat)))),y5,y6,y7] S)
 |[],c,x5,x6,x7,_=>.inr ⟨λ_ h=>absurd h fe,x5,x6,x7,by simp[fF]⟩
 |d::ds,c,x5,x6,x7,hd=>by
  rw[av,dY];simp only[gN,dw,cw];rcases L3 hn hf h P hk (hd d (by simp)) S c x0 x2 x6 x7 with⟨a,e⟩|⟨a,y6,y7,e⟩
  .rw[e]
   exact .inl ⟨⟨d,by simp,a⟩,rfl⟩
  .rw[e]
   dsimp only;rcases Tk hn hf h P hk S x0 x2 ds (c+(((d.sp n q w).map λz=>bS d.Y z).count 1:Nat)) (some (.pv (d.pv fs))) y6 y7 (λy hy=>hd y (ay _ hy))with⟨⟨b,hb,q⟩,ih⟩|⟨q',z5,z6,z7,ih⟩
   .exact .inl ⟨⟨b,ay _ hb,q⟩,ih⟩
   .refine .inr ⟨λy hy=>?_,z5,z6,z7,?_⟩
    .rcases cf.mp hy with rfl |hy
     .exact a
     .exact q' y hy
    .rw[ih,av,kn]
     generalize (((d.sp n q w).map λz=>bS d.Y z).count 1:Nat)=K1;generalize ((ds.map λd=>((d.sp n q w).map λz=>bS d.Y z).count 1).sum:Nat)=K2;have:c+(K1:Int)+(K2:Int)=c+((K1+K2:Nat):Int):=by omega
     rw[this]
theorem Bu{n k:Nat}(hn:n=2\/n=3){fs:List (Int×Int)}(hf:fs.length=n)(h:∀u∈fs,Sp u){xs:AS}{w:Int}(P:Pq n k xs w)(hk:k<=900){th:PV}(S:aG)(eS:kB [.pv th,.pv (.tup (fs.map fv))] S=.ok (.pv (tv (xs++[w]))) S){A:PV}{ds:List Pc}(hA:Sv A (ds.map (Pc.pv fs)))(hd:∀d∈ds,Pg n d):
  ((∃d∈ds,∃z∈d.sp n (xs.map (·.fmod w)) w,bS d.Y z=0)/\nV [.pv A,.pv (.tup (fs.map fv)),.pv th] S=.exc "OnSide" S)\/((∀d∈ds,∀z∈d.sp n (xs.map (·.fmod w)) w,bS d.Y z≠0)/\nV [.pv A,.pv (.tup (fs.map fv)),.pv th] S=.ok (.pv (.int ((ds.map λd=>((d.sp n (xs.map (·.fmod w)) w).map λz=>bS d.Y z).count 1).sum:Nat))) S):=by
 have e1:=K6 (n:=n) (by omega) P S;have L:=Tk hn hf h (E1 P) hk S (some (.pv A)) (some (.pv th)) ds 0 none none none hd;have hb:rJ=(aI (aP 3 (aQ qV [] (aB (aQ kB [] (aB (aA 2) (aB (aA 1) aD))) aD))) (aI (aP 4 (mC (.int 0))) (aI (bI (bD (aA 0)) (gN 5) lZ) (bF (aA 4))))):=rfl;have tk:S.take S.length=S:=by simp
 rw[pf]at L;generalize (((ds.map λd=>((d.sp n (xs.map (·.fmod w)) w).map λz=>bS d.Y z).count 1).sum:Nat):Int)=K at *;unfold nV aR;rw[hb];clear hb;rcases L with⟨a,e⟩|⟨a,y5,y6,y7,e⟩
 .refine .inl ⟨a,?_⟩
  clear a;generalize tv (xs++[w])=Q,tv (xs.map (·.fmod w)++[w])=NQ,PV.tup (fs.map fv)=G,ds.map (Pc.pv fs)=DL,lZ=LB at *;rcases hA with rfl |rfl<;>simp! [bC,aK,aN,aL,aM,aF,aJ,eS,e1,bI,bD,bT,e]
 .refine .inr ⟨a,?_⟩
  clear a;generalize tv (xs++[w])=Q,tv (xs.map (·.fmod w)++[w])=NQ,PV.tup (fs.map fv)=G,ds.map (Pc.pv fs)=DL,lZ=LB at *;rcases hA with rfl |rfl<;>simp! [bC,aK,aN,aL,aM,aF,aJ,eS,e1,bI,bD,bT,e]
theorem Hw{a b c:PV}{K:Int}{S:aG}(e:nV [.pv a,.pv b,.pv c] S=.ok (.pv (.int K)) S):kC [.pv a,.pv b,.pv c] S=.ok (.pv (.tup [.int 0,.int K])) S:=by
 unfold kC aR zS;simp! [aE,aV,aW,aO,aK,aN,aL,aM,aF,aJ,sL,sK,sG,e]
theorem Yv{a b c:PV}{S:aG}(e:nV [.pv a,.pv b,.pv c] S=.exc "OnSide" S):kC [.pv a,.pv b,.pv c] S=.ok (.pv (.tup [.int 1,.bl true])) S:=by
 unfold kC aR zS;simp! [aE,aV,aW,aO,aK,aN,aL,aM,aF,aJ,sL,sK,sG,e]
theorem aal{d:Int}:(sg d<0↔d<0)/\(sg d=0↔d=0):=by
 rcases nF d with⟨x,y⟩|⟨x,y⟩|⟨x,y⟩<;>omega
theorem X9{n:Nat}(hn:n=2\/n=3){W:BA}(v:PV)(hl:W.length=n+1){j:Nat}(hj:j<n+1):∃L R U:BA,gB (.tup W) none (some (j:Int))=some (.tup L)/\gB (.tup W) (some ((j:Int)+1)) none=some (.tup R)/\eO (.tup L) (.tup [v])=some (.tup U)/\eO (.tup U) (.tup R)=some (.tup (W.set j v)):=by
 rcases hn with rfl |rfl
 .match W,hl,j,hj with
  |[a,b,c],_,0,_=>exact⟨[],[b,c],[v],rfl,rfl,rfl,rfl⟩
  |[a,b,c],_,1,_=>exact⟨[a],[c],[a,v],rfl,rfl,rfl,rfl⟩
  |[a,b,c],_,2,_=>exact⟨[a,b],[],[a,b,v],rfl,rfl,rfl,rfl⟩
 .match W,hl,j,hj with
  |[a,b,c,d],_,0,_=>exact⟨[],[b,c,d],[v],rfl,rfl,rfl,rfl⟩
  |[a,b,c,d],_,1,_=>exact⟨[a],[c,d],[a,v],rfl,rfl,rfl,rfl⟩
  |[a,b,c,d],_,2,_=>exact⟨[a,b],[d],[a,b,v],rfl,rfl,rfl,rfl⟩
  |[a,b,c,d],_,3,_=>exact⟨[a,b,c],[],[a,b,c,v],rfl,rfl,rfl,rfl⟩
theorem Qq(a b:Int):sg (a*b)=sg a*sg b:=by
 rcases nF a with⟨h,e⟩|⟨h,e⟩|⟨h,e⟩<;>rcases nF b with⟨k,f⟩|⟨k,f⟩|⟨k,f⟩<;>rw[e,f]
 .have:=aq h k
  rcases nF (a*b)with⟨x,y⟩|⟨x,y⟩|⟨x,y⟩<;>omega
 .rw[k,oz];rfl
 .have:=td h k
  rcases nF (a*b)with⟨x,y⟩|⟨x,y⟩|⟨x,y⟩<;>omega
 .rw[h,rh];rfl
 .rw[h,rh];rfl
 .rw[h,rh];rfl
 .have:=Int.mul_neg_of_neg_of_pos h k
  rcases nF (a*b)with⟨x,y⟩|⟨x,y⟩|⟨x,y⟩<;>omega
 .rw[k,oz];rfl
 .have:=AG h k
  rcases nF (a*b)with⟨x,y⟩|⟨x,y⟩|⟨x,y⟩<;>omega
abbrev lW:MS:=(aI (aP 5 (aC aS (aQ gY [] (aB (aC eO (aC eO (cF (aA 0) cE (cG (aA 4))) (mN dL (aB (aA 1) aD))) (cF (aA 0) (cG (aC aF (aA 4) (mC (.int 1)))) cE)) aD)) (aA 3))) (aI (cK (bH (aC kM (aA 5) (mC (.int 0)))) (bF (bK bO (mC (.int 1)))) dE) (cK (bH (aC cZ (aA 5) (mC (.int 0)))) (aP 2 (mC (.int 0))) dE)))
theorem B9{n:Nat}(hn:n=2\/n=3){L:AT}{p:AS}(hl:L.length=n+1)(hg:∀u∈L,Gu n 1000 u)(gp:Gu n 1000 p){W:Int}(hW:sg W=sg (dU L))(bW:Bd 8000 W){j:Nat}(hj:j<n+1)(f:Int)(S:aG)(x5:BC):
  (sg (dU (L.set j p))*sg (dU L)<0/\lW [some (.pv (px L)),some (.pv (tv p)),some (.pv (.int f)),some (.pv (.int W)),some (.pv (.int (j:Int))),x5] S=.rt (.pv (.int (-1))) S)\/(¬sg (dU (L.set j p))*sg (dU L)<0/\∃y5,lW [some (.pv (px L)),some (.pv (tv p)),some (.pv (.int f)),some (.pv (.int W)),some (.pv (.int (j:Int))),x5] S=.nx [some (.pv (px L)),some (.pv (tv p)),some (.pv (.int (if sg (dU (L.set j p))*sg (dU L)=0 then 0 else f))),some (.pv (.int W)),some (.pv (.int (j:Int))),y5] S):=by
 have hl2:(L.set j p).length=n+1:=by rw[fu];exact hl
 obtain⟨d,sd,bd,ed,_⟩:=Cp hn hl2 (Rm hg gp j);have ed:=ed S;have m1:=dR bd bW;have se:sg (d*W)=sg (dU (L.set j p))*sg (dU L):=by rw[Qq,sd,hW]
 rw[<-se];obtain⟨s1,s2⟩:=aal (d:=d*W);obtain⟨A,R,U,f1,f2,f3,f4⟩:=X9 hn (W:=L.map tv) (tv p) (by rw[aj,hl]) hj;have k1:PV.tup ((L.map tv).set j (tv p))=px (L.set j p):=by
  show _=PV.tup ((L.set j p).map tv);rw[yn]
 rw[k1]at f4;have hp:px L=.tup (L.map tv):=rfl;rw[hp];generalize (j:Int)=J,tv p=T,L.map tv=LL,px (L.set j p)=PS1 at *;clear hg gp se sd hW bd bW
 by_cases c:sg (d*W)<0
 .refine .inl ⟨c,?_⟩
  have c2:=s1.mp c;generalize d*W=DW at *;unfold lW;simp! [bC,aK,aN,aL,aM,aF,aJ,cF,cE,cG,eN,f1,f2,f3,f4,ed,m1,c2]
 .refine .inr ⟨c,some (.pv (.int (d*W))),?_⟩
  have c2:¬d*W<0:=λz=>c (s1.mpr z)
  by_cases c3:d*W=0
  .rw[if_pos (s2.mpr c3)]
   rw[c3]at m1 c2;rw[c3];unfold lW;simp! [bC,aK,aN,aL,aM,aF,aJ,cF,cE,cG,eN,f1,f2,f3,f4,ed,m1]
  .rw[if_neg λz=>c3 (s2.mp z)]
   generalize d*W=DW at *;unfold lW;simp! [bC,aK,aN,aL,aM,aF,aJ,cF,cE,cG,eN,f1,f2,f3,f4,ed,m1,c2,c3]
theorem Jl{n:Nat}(hn:n=2\/n=3){L:AT}{p:AS}(hl:L.length=n+1)(hg:∀u∈L,Gu n 1000 u)(gp:Gu n 1000 p){W:Int}(hW:sg W=sg (dU L))(bW:Bd 8000 W)(S:aG):∀(js:List Nat)(f:Int)(x4 x5:BC),(∀j∈js,j<n+1)->
  (fP (js.map λj=>sg (dU (L.set j p))*sg (dU L)) f=-1/\cJ [] (gN 4) lW (js.map λj:Nat=>PV.int (j:Int)) [some (.pv (px L)),some (.pv (tv p)),some (.pv (.int f)),some (.pv (.int W)),x4,x5] S=.rt (.pv (.int (-1))) S)\/∃y4 y5,cJ [] (gN 4) lW (js.map λj:Nat=>PV.int (j:Int)) [some (.pv (px L)),some (.pv (tv p)),some (.pv (.int f)),some (.pv (.int W)),x4,x5] S=.nx [some (.pv (px L)),some (.pv (tv p)),some (.pv (.int (fP (js.map λj=>sg (dU (L.set j p))*sg (dU L)) f))),some (.pv (.int W)),y4,y5] S
 |[],f,x4,x5,_=>.inr ⟨x4,x5,fF⟩
 |j::js,f,x4,x5,hj=>by
  have e0:fP ((j::js).map λj=>sg (dU (L.set j p))*sg (dU L)) f=if sg (dU (L.set j p))*sg (dU L)<0 then-1 else fP (js.map λj=>sg (dU (L.set j p))*sg (dU L)) (if sg (dU (L.set j p))*sg (dU L)=0 then 0 else f):=rfl;rw[e0,av,dY];simp only[gN,dw,cw];rcases B9 hn hl hg gp hW bW (hj j (by simp)) f S x5 with⟨c,e⟩|⟨c,y5,e⟩
  .rw[e,if_pos c]
   exact .inl ⟨rfl,rfl⟩
  .rw[e,if_neg c]
   exact Jl hn hl hg gp hW bW S js _ _ y5 λi hi=>hj i (ay _ hi)
theorem Gs{n:Nat}(hn:n=2\/n=3){L:AT}{p:AS}(hl:L.length=n+1)(hg:∀u∈L,Gu n 1000 u)(gp:Gu n 1000 p)(S:aG):oV [.pv (px L),.pv (tv p)] S=.ok (.pv (.int (fP (Fs p L) 1))) S:=by
 obtain⟨W,hW,bW,eW,_⟩:=Cp hn hl hg;have eW:=eW S;have hT:=Jl hn hl hg gp hW bW S (ak (n+1)) 1 none none λj hj=>by simpa using hj
 have es:((ak (n+1)).map λj=>sg (dU (L.set j p))*sg (dU L))=Fs p L:=by
  unfold Fs;rw[hl]
 rw[es]at hT;have rg:=kJ S (n:=n+1) (by omega);rw[uR]at rg;have ln:((L.map tv).length:Int)=((n+1:Nat):Int):=by rw[aj,hl]
 have hp:px L=.tup (L.map tv):=rfl;have hb:xZ=(aI (aP 2 (mC (.int 1))) (aI (aP 3 (aQ gY [] (aB (aA 0) aD))) (aI (bI (cM (aB (mR eI (aB (aA 0) aD)) aD)) (gN 4) lW) (bF (aA 2))))):=rfl;rw[hp]at hT eW⊢;generalize lW=PB1,fP (Fs p L) 1=st,((n+1:Nat):Int)=N1,tv p=TP,L.map tv=UL,((ak (n+1)).map λj:Nat=>PV.int (j:Int))=RL at *;unfold oV aR;rw[hb];rcases hT with⟨a,b⟩|⟨y4,y5,b⟩
 .rw[a]
  simp! [aE,aV,aW,aO,aK,aN,aL,aM,aF,aJ,eW,ln,bI,cM,rg,b]
 .simp! [aE,aV,aW,aO,aK,aN,aL,aM,aF,aJ,eW,ln,bI,cM,rg,b]
abbrev tK:MS:=(dS (dI (aA 6) (aB (aC eO (aA 7) (mN dL (aB (aA 8) aD))) aD)))
abbrev tE:MS:=(bI (iR (aB (aA 4) (aB (aC aF (aA 5) (mC (.int 1))) aD))) (gN 8) tK)
theorem Mk{S:aG}{r:AS}(hr:r.length<=9)(x0 x1 x2 x3 x4 x5:BC):∀(cs:AS)(L:AT)(x8:BC),L.length+cs.length<=900->∃y8,cJ [] (gN 8) tK (cs.map .int) [x0,x1,x2,x3,x4,x5,some (.ref S.length),some (.pv (tv r)),x8] (S++[.lst (L.map tv)])=.nx [x0,x1,x2,x3,x4,x5,some (.ref S.length),some (.pv (tv r)),y8] (S++[.lst ((L++cs.map λc=>r++[c]).map tv)])
 |[],L,x8,_=>⟨x8,by rw[cg,cg,ie];exact fF⟩
 |c::cs,L,x8,hl=>by
  simp only[cv]at hl;obtain⟨y8,e2⟩:=Mk hr x0 x1 x2 x3 x4 x5 cs (L++[r++[c]]) (some (.pv (.int c))) (by rw[bj];simp;omega);refine⟨y8,?_⟩;have ad:eO (tv r) (.tup [.int c])=some (tv (r++[c])):=by
   show(if(r.map PV.int).length+1<=16777216 then some (PV.tup (r.map PV.int++[.int c]))else none)=_;rw[if_pos (by rw[aj];omega)];show _=some (PV.tup ((r++[c]).map PV.int));rw[dz];rfl
  have lz:(L.map tv).length<16777216:=by rw[aj];omega
  have st:tK [x0,x1,x2,x3,x4,x5,some (.ref S.length),some (.pv (tv r)),some (.pv (.int c))] (S++[.lst (L.map tv)])=.nx [x0,x1,x2,x3,x4,x5,some (.ref S.length),some (.pv (tv r)),some (.pv (.int c))] (S++[.lst ((L++[r++[c]]).map tv)]):=by
   have ep:(L++[r++[c]]).map tv=L.map tv++[tv (r++[c])]:=by simp
   rw[ep];generalize L.map tv=LL,tv r=T,tv (r++[c])=R at *;have g1:(S++[SO.lst LL])[S.length]?=some (.lst LL):=by simp
   have g2:(S++[SO.lst LL]).set S.length (.lst (LL++[R]))=S++[.lst (LL++[R])]:=by simp
   unfold tK;simp! [bC,aK,aN,aL,aM,aF,aJ,ad,dI,eZ,iD,g1,g2,lz]
  rw[av,dY];simp only[gN,dw,cw];rw[st];dsimp only;rw[e2,jf];rfl
def jW(cs:AS)(rows:AT):AT:=rows.flatMap λr=>cs.map λc=>r++[c]
theorem B6{S:aG}{r:AS}(hr:r.length<=9){m M:Int}(lo:-10000000000000<=m/\m<=M+1/\M<=10000000000000/\M-m<=9)(x0 x1 x2 x3 x8:BC)(L:AT)(hl:L.length<=800):∃y8,tE [x0,x1,x2,x3,some (.pv (.int m)),some (.pv (.int M)),some (.ref S.length),some (.pv (tv r)),x8] (S++[.lst (L.map tv)])=.nx [x0,x1,x2,x3,some (.pv (.int m)),some (.pv (.int M)),some (.ref S.length),some (.pv (tv r)),y8] (S++[.lst ((L++(cO m M).map λc=>r++[c]).map tv)]):=by
 have lu:(cO m M).length<=10:=by unfold cO;rw[aj,dq];omega
 obtain⟨y8,e⟩:=Mk (S:=S) hr x0 x1 x2 x3 (some (.pv (.int m))) (some (.pv (.int M))) (cO m M) L x8 (by omega);refine⟨y8,?_⟩;have rg:qD [.pv (.int m),.pv (.int (M+1))] (S++[.lst (L.map tv)])=.ok ((cO m M).map PV.int,[]) (S++[.lst (L.map tv)]):=by
  show @ite _ _ (nr _) _ _=_;rw[if_pos ⟨⟨by omega,by omega,by omega,by omega⟩,by omega⟩,Mm]
 generalize tv r=T,L.map tv=LL,(cO m M).map PV.int=UL,(L++(cO m M).map λc=>r++[c]).map tv=EL at *;unfold tE;generalize tK=AB at *;simp! [bC,aK,aN,aL,aM,aF,aJ,bI,iR,rg,e]
theorem Nl{S:aG}{G:Gd}(hG:∀T,gA G (S++[T])){m M:Int}(lo:-10000000000000<=m/\m<=M+1/\M<=10000000000000/\M-m<=9)(x0 x1 x2 x3:BC):∀(rows L:AT)(x7 x8:BC),(∀r∈rows,r.length<=9)->L.length+10*rows.length<=800->∃y7 y8,cJ G (gN 7) tE (rows.map tv) [x0,x1,x2,x3,some (.pv (.int m)),some (.pv (.int M)),some (.ref S.length),x7,x8] (S++[.lst (L.map tv)])=.nx [x0,x1,x2,x3,some (.pv (.int m)),some (.pv (.int M)),some (.ref S.length),y7,y8] (S++[.lst ((L++jW (cO m M) rows).map tv)])
 |[],L,x7,x8,_,_=>⟨x7,x8,by rw[show jW (cO m M) []=[] from rfl,ie];exact Fh (hG _)⟩
 |r::rows,L,x7,x8,hr,hl=>by
  simp only[cv]at hl;obtain⟨z8,e1⟩:=B6 (S:=S) (hr r (by simp)) lo x0 x1 x2 x3 x8 L (by omega);have lu:(cO m M).length<=10:=by unfold cO;rw[aj,dq];omega
  obtain⟨y7,y8,e2⟩:=Nl hG lo x0 x1 x2 x3 rows (L++(cO m M).map λc=>r++[c]) (some (.pv (tv r))) z8 (λt ht=>hr t (ay _ ht)) (by rw[bj,aj];omega);refine⟨y7,y8,?_⟩;rw[av,Mf (hG _) (ρ1:=[x0,x1,x2,x3,some (.pv (.int m)),some (.pv (.int M)),some (.ref S.length),some (.pv (tv r)),x8]) rfl e1,e2,jf];rfl
abbrev sZ:MS:=(aI (aP 4 (aC dG (aC dG (mR kU (aB (bB ["_law_corner"] [(3,"_law_k")] (bD (aA 0)) (gN 0) (aC aE (aA 0) (aA 1))) aD)) (aC dW (aC aE (aA 1) (aA 3)) (aC aE (aA 1) (bK bO (mC (.int 1)))))) (mC (.int 1)))) (aI (aP 5 (aC aF (aC dG (mR nB (aB (bB ["_law_corner"] [(3,"_law_k")] (bD (aA 0)) (gN 0) (aC aE (aA 0) (aA 1))) aD)) (aC dW (aC aE (aA 1) (aA 3)) (aC aE (aA 1) (bK bO (mC (.int 1)))))) (mC (.int 1)))) (aI (aP 6 (eJ aD)) (aI (bI (bD (aA 2)) (gN 7) tE) (aP 2 (aA 6))))))
theorem abT{S:aG}{q:AS}{Y rows:AT}{V:AV}{k:Nat}{x w m M:Int}(hV:Rv V rows S)(hY:∀y∈Y,aE (tv y) (.int (k:Int))=some (.int (y.getD k 0)))(ix:aE (tv q) (.int (k:Int))=some (.int x))(iw:aE (tv q) (.int (-1))=some (.int w))(w0:0<w)(bw:Bd 1000 w)(hN:Nb (Y.map (·.getD k 0)) m M)(fl:-1000000<=x.fdiv w/\x.fdiv w<=1000000)(hr:∀r∈rows,r.length<=9)(hl:rows.length<=70)(x4 x5 x6 x7 x8:BC):∃y7 y8,sZ [some (.pv (px Y)),some (.pv (tv q)),some V,some (.pv (.int (k:Int))),x4,x5,x6,x7,x8] S=.nx [some (.pv (px Y)),some (.pv (tv q)),some (.ref S.length),some (.pv (.int (k:Int))),some (.pv (.int (m-x.fdiv w-1))),some (.pv (.int (M-x.fdiv w+1))),some (.ref S.length),y7,y8] (S++[.lst ((jW (cO (m-x.fdiv w-1) (M-x.fdiv w+1)) rows).map tv)]):=by
 obtain⟨G,_,hG⟩:=hV;have lo:=hN.lo;have sp:=hN.sp;obtain⟨y7,y8,e2⟩:=Nl (S:=S) (G:=G) (λT=>(hG T).2) (m:=m-x.fdiv w-1) (M:=M-x.fdiv w+1) ⟨by omega,by omega,by omega,by omega⟩ (some (.pv (px Y))) (some (.pv (tv q))) (some V) (some (.pv (.int (k:Int)))) rows [] x7 x8 hr (by simp;omega);refine⟨y7,y8,?_⟩;have ec:bZ [] (gN 0) (aC aE (aA 0) (aA 1)) (Y.map tv) [none,some (.pv (.int (k:Int)))] S=.ok (Y.map λy=>.int (y.getD k 0)) S:=by
  refine jJ (gL S) tv (λy=>.int (y.getD k 0)) Y none λy hy=>?_;have e:=hY y hy;generalize (k:Int)=K,tv y=T at *;simp! [bC,aK,aN,aL,aM,aF,aJ,e]
 have em:(Y.map λy=>PV.int (y.getD k 0))=(Y.map (·.getD k 0)).map .int:=by rw[dg];rfl
 rw[em]at ec;have fd:dW (.int x) (.int w)=some (.int (x.fdiv w)):=jL ⟨by omega,bw.mono (by decide)⟩;have mn:=hN.mn;have mx:=hN.mx;have g1:=(hG (.lst [])).1;have hp:px Y=.tup (Y.map tv):=rfl;rw[ib]at e2;rw[cg]at e2;rw[hp]at e2⊢;unfold sZ;clear hG hN hY;generalize x.fdiv w=F,(k:Int)=K,tv q=Q,(jW (cO (m-x.fdiv w-1) (M-x.fdiv w+1)) rows).map tv=EL,rows.map tv=RL,Y.map tv=YL,(Y.map (·.getD k 0)).map PV.int=NL,tE=SB at *;apply sq;simp! [bC,aK,aN,aL,aM,aF,aJ,bB,cD,bD,bT,ec,mn,ix,iw,fd];exact⟨rfl,rfl⟩;apply sq;simp! [bC,aK,aN,aL,aM,aF,aJ,bB,cD,bD,bT,ec,mx,ix,iw,fd];exact⟨rfl,rfl⟩;apply sq;simp! [bC,aK,aN,aL,aM,aF,aJ,eJ,jU];exact⟨rfl,rfl⟩;refine sq (ρ':=[some (.pv (.tup YL)),some (.pv Q),some V,some (.pv (.int K)),some (.pv (.int (m-F-1))),some (.pv (.int (M-F+1))),some (.ref S.length),y7,y8]) (S':=S++[.lst EL]) ?_ ?_
 .simp! [bC,aK,aN,aL,aM,aF,aJ,bI,bD,g1,e2]
 .simp! [bC,aK,aN,aL,aM,aF,aJ]
theorem Ui(cs:AS):∀rows:AT,(jW cs rows).length=rows.length*cs.length
 |[]=>by simp[jW]
 |r::rows=>by
  have:=Ui cs rows;unfold jW at this⊢;rw[qh,bj,this,aj,cv,Nat.add_mul,Nat.one_mul,Nat.add_comm]
theorem Hy{cs:AS}{rows:AT}{t:AS}:t∈jW cs rows↔∃r∈rows,∃c∈cs,t=r++[c]:=by
 unfold jW;simp only[yo,ax];constructor
 .rintro⟨r,hr,c,hc,rfl⟩
  exact⟨r,hr,c,hc,rfl⟩
 .rintro⟨r,hr,c,hc,rfl⟩
  exact⟨r,hr,c,hc,rfl⟩
def eP(q:AS)(w:Int)(m M:Nat->Int)(k:Nat):AS:=cO (m k-(q.getD k 0).fdiv w-1) (M k-(q.getD k 0).fdiv w+1)
theorem Dp{q:AS}{Y:AT}{w:Int}{m M:Nat->Int}(iw:aE (tv q) (.int (-1))=some (.int w))(w0:0<w)(bw:Bd 1000 w):∀(ks:List Nat)(S:aG)(V:AV)(rows:AT)(b:Nat)(x3 x4 x5 x6 x7 x8:BC),Rv V rows S->(∀k∈ks,(∀y∈Y,aE (tv y) (.int (k:Int))=some (.int (y.getD k 0)))/\aE (tv q) (.int (k:Int))=some (.int (q.getD k 0))/\Nb (Y.map (·.getD k 0)) (m k) (M k)/\-1000000<=(q.getD k 0).fdiv w/\(q.getD k 0).fdiv w<=1000000)->(∀r∈rows,r.length<=b)->b+ks.length<=9->rows.length*5^ks.length<=350->∃(T:aG)(V':AV)(y3 y4 y5 y6 y7 y8:BC),cJ [] (gN 3) sZ (ks.map λk:Nat=>PV.int (k:Int)) [some (.pv (px Y)),some (.pv (tv q)),some V,x3,x4,x5,x6,x7,x8] S=.nx [some (.pv (px Y)),some (.pv (tv q)),some V',y3,y4,y5,y6,y7,y8] (S++T)/\Rv V' (uZ (eP q w m M) ks rows) (S++T)/\((V'=V/\ks=[])\/∃j,V'=.ref j/\S.length<=j)
 |[],S,V,rows,b,x3,x4,x5,x6,x7,x8,hV,_,hr,_,_=>⟨[],V,x3,x4,x5,x6,x7,x8,by rw[ie];exact fF,by rw[ie];exact hV,.inl ⟨rfl,rfl⟩⟩
 |k::ks,S,V,rows,b,x3,x4,x5,x6,x7,x8,hV,hk,hr,hb,hl=>by
  obtain⟨a1,a2,a3,a4⟩:=hk k (by simp);simp only[cv]at hb;have p3:1<=5^ks.length:=u5 _ _ (by decide);have hl2:rows.length*5*5^ks.length<=350:=by rw[cv,xa,Nat.mul_comm (5^ks.length) 5,<-Nat.mul_assoc]at hl;exact hl
  have hl3:rows.length*5<=350:=fk (u6 _ (by omega)) hl2;obtain⟨y7,y8,e1⟩:=abT hV a1 a2 iw w0 bw a3 a4 (λr h=>fk (hr r h) (by omega)) (by omega) x4 x5 x6 x7 x8;have lu:(eP q w m M k).length<=5:=by
   have:=a3.lo;have:=a3.sp;unfold eP cO;rw[aj,dq];omega
  obtain⟨T,V',z3,z4,z5,z6,z7,z8,e2,v2,j2⟩:=Dp iw w0 bw ks (S++[.lst ((jW (eP q w m M k) rows).map tv)]) (.ref S.length) (jW (eP q w m M k) rows) (b+1) (some (.pv (.int (k:Int)))) _ _ _ y7 y8 (Em S _) (λj hj=>hk j (ay _ hj)) (λt ht=>by
   obtain⟨r,h1,c,_,rfl⟩:=Hy.mp ht;have:=hr r h1;simp;omega) (by omega) (by
   rw[Ui];refine fk ?_ hl2;exact u7 _ (u8 _ lu))
  refine⟨[.lst ((jW (eP q w m M k) rows).map tv)]++T,V',z3,z4,z5,z6,z7,z8,?_,?_,?_⟩
  .rw[av,dY]
   simp only[gN,dw,cw];rw[e1,<-jf];exact e2
  .rw[<-jf]
   exact v2
  .rcases j2 with⟨rfl,_⟩|⟨j,rfl,hj⟩
   .exact .inr ⟨S.length,rfl,ar _⟩
   .exact .inr ⟨j,rfl,by rw[bj]at hj;omega⟩
theorem aa0{j:Nat}{rows:AT}{R:aG}(h:Rv (.ref j) rows R):R[j]?=some (.lst (rows.map tv)):=by
 obtain⟨G,⟨e,_⟩,_⟩:=h;have e:(match R[j]? with |some (.lst xs)=>bQ.ok (xs,[(j,xs)]) R |_=>.fail)=bQ.ok (rows.map tv,G) R:=e
 split at e
 .rename_i xs hx
  injection e with e1 e2;injection e1 with e3 e4;rw[hx,e3]
 .cases e
theorem Nv{n k:Nat}(hn:n=2\/n=3){xs:AS}{w:Int}(P:Pq n k xs w)(hk:k<=1000){Y:AT}{m M:Nat->Int}(hY:∀j,j<n->(∀y∈Y,aE (tv y) (.int (j:Int))=some (.int (y.getD j 0)))/\Nb (Y.map (·.getD j 0)) (m j) (M j)/\-1000000<=((xs++[w]).getD j 0).fdiv w/\((xs++[w]).getD j 0).fdiv w<=1000000)(S:aG):frz S.length (gF (mF [.pv (px Y),.pv (tv (xs++[w]))] S))=.ok (.pv (.lst ((dD ((ak n).map (eP (xs++[w]) w m M))).map tv))) S:=by
 have iL:=iY xs w;have hx:∀j,j<n->aE (tv (xs++[w])) (.int (j:Int))=some (.int ((xs++[w]).getD j 0)):=λj hj=>by
  have hl:j<(xs++[w]).length:=by rw[bj,P.len];simp;omega
  refine jO ?_;rw[dj,cu,au hl];rfl
 have rv0:Rv (.pv (.lst [.tup []])) [[]] S:=⟨[],⟨rfl,gL _⟩,λT=>⟨rfl,gL _⟩⟩;obtain⟨T,V',y3,y4,y5,y6,y7,y8,e1,rv,jj⟩:=Dp (q:=xs++[w]) (Y:=Y) (m:=m) (M:=M) iL P.pos (P.bw.mono hk) (ak n) S (.pv (.lst [.tup []])) [[]] 0 none none none none none none rv0 (λj hj=>by
  have hj:=kq.mp hj;exact⟨(hY j hj).1,hx j hj,(hY j hj).2.1,(hY j hj).2.2⟩) (by simp) (by rw[dq];omega) (by rw[dq];rcases hn with rfl |rfl<;>decide)
 obtain⟨j,rfl,hj⟩:∃j,V'=.ref j/\S.length<=j:=by
  rcases jj with⟨_,h⟩|h
  .have:=congrArg kh h
   rw[dq]at this;simp at this;omega
  .exact h
 have ea:=aa0 rv;have ep:uZ (eP (xs++[w]) w m M) (ak n) [[]]=dD ((ak n).map (eP (xs++[w]) w m M)):=by
  rw[Kf,qh,AF,ie];simp
 rw[ep]at ea;have rg:=kJ S (n:=n) (by omega);rw[uR]at rg;have ln:(((xs++[w]).map PV.int).length:Int)-1=(n:Int):=by
  rw[aj,bj,P.len];simp
 have hb:yR=(aI (aP 2 (mN eC (aB (mN dL aD) aD))) (aI (bI (cM (aB (aC dG (mR eI (aB (aA 1) aD)) (mC (.int 1))) aD)) (gN 3) sZ) (bF (aA 2)))):=rfl;have et:tv (xs++[w])=.tup ((xs++[w]).map .int):=rfl;rw[et]at e1⊢;have hf:mF [.pv (px Y),.pv (.tup ((xs++[w]).map .int))] S=.ok (.ref S.length) (S++[.lst ((dD ((ak n).map (eP (xs++[w]) w m M))).map tv)]):=by
  clear hY hx rv0 rv ep;unfold mF;rw[hb];generalize (n:Int)=N,px Y=PY,(xs++[w]).map PV.int=Q,((ak n).map λj:Nat=>PV.int (j:Int))=KL,(dD ((ak n).map (eP (xs++[w]) w m M))).map tv=RL,sZ=SK at *;apply wL (v:=.ref j) (S':=S++T) rfl
  .apply sq;simp! [bC,aK,aN,aL,aM,aF,aJ,gZ];exact⟨rfl,rfl⟩
   refine sq (ρ':=[some (.pv PY),some (.pv (.tup Q)),some (.ref j),y3,y4,y5,y6,y7,y8]) (S':=S++T) ?_ ?_
   .simp! [bC,aK,aN,aL,aM,aF,aJ,bI,cM,ln,rg,e1]
   .simp! [bC,aK,aN,aL,aM,aF,aJ]
  .have nj:¬j<S.length:=by omega
   simp[jT,nj,ea]
 rw[hf];generalize (dD ((ak n).map (eP (xs++[w]) w m M))).map tv=RL at *;simp[gF,frz]
abbrev nE:MS:=(aI (aP 5 (aQ oV [] (aB (aA 2) (aB (aQ kN [] (aB (aC eO (aA 4) (mN dL (aB (mC (.int 1)) aD))) (aB (aA 1) (aB (mC (.int 1)) aD)))) aD)))) (aI (cK (bH (aC cZ (aA 5) (mC (.int 0)))) (bF (mC .non)) dE) (cK (bH (aC fB (aA 5) (mC (.int 0)))) (aP 3 (aC aF (aA 3) (mC (.int 1)))) dE)))
def eB(L:AT)(q t:AS):Int:=fP (Fs (fD 1 q (t++[1])) L) 1
theorem oA{n:Nat}{t:AS}(hl:t.length=n)(hb:∀x∈t,Bd 60 x):Gu n 60 (t++[1]):=⟨t,1,rfl,hl,by decide,rD,hb,(Bd.of (k:=7) (n:=1) (by decide) (by decide)).mono (by decide)⟩
theorem Wk{n k:Nat}(hn:n=2\/n=3){L:AT}(hl:L.length=n+1)(hg:∀u∈L,Gu n 1000 u){q:AS}(gq:Gu n k q)(hk:k<=900)(S:aG)(x0:BC):∀(ts:AT)(c:Int)(x4 x5:BC),(∀t∈ts,t.length=n/\∀x∈t,Bd 60 x)->
  ((∃t∈ts,eB L q t=0)/\cJ [] (gN 4) nE (ts.map tv) [x0,some (.pv (tv q)),some (.pv (px L)),some (.pv (.int c)),x4,x5] S=.rt (.pv .non) S)\/((∀t∈ts,eB L q t≠0)/\∃y4 y5,cJ [] (gN 4) nE (ts.map tv) [x0,some (.pv (tv q)),some (.pv (px L)),some (.pv (.int c)),x4,x5] S=.nx [x0,some (.pv (tv q)),some (.pv (px L)),some (.pv (.int (c+((ts.map (eB L q)).count 1:Nat)))),y4,y5] S)
 |[],c,x4,x5,_=>.inr ⟨λ_ h=>absurd h fe,x4,x5,by simp[fF]⟩
 |t::ts,c,x4,x5,ht=>by
  have h0:=ht t (by simp);have gt:=oA h0.1 h0.2;have e1:=Lk (way:=1) S hn (.inl rfl) gt gq (by omega) (by omega);have g2:=(jA (way:=1) (.inl rfl) gt gq).1.mono (show 60+k+1<=1000 by omega);have e2:=Gs hn hl hg g2 S;have ad:eO (tv t) (.tup [.int 1])=some (tv (t++[1])):=by
   show(if(t.map PV.int).length+1<=16777216 then some (PV.tup (t.map PV.int++[.int 1]))else none)=_;rw[if_pos (by rw[aj];omega)];show _=some (PV.tup ((t++[1]).map PV.int));rw[dz];rfl
  have s3:eB L q t=-1\/eB L q t=0\/eB L q t=1:=wY _ 1 (.inr (.inr rfl));have e2:oV [.pv (px L),.pv (tv (fD 1 q (t++[1])))] S=.ok (.pv (.int (eB L q t))) S:=e2;rw[av,dY];simp only[gN,dw,cw]
  by_cases c0:eB L q t=0
  .refine .inl ⟨⟨t,by simp,c0⟩,?_⟩
   rw[c0]at e2;have st:nE [x0,some (.pv (tv q)),some (.pv (px L)),some (.pv (.int c)),some (.pv (tv t)),x5] S=.rt (.pv .non) S:=by
    generalize px L=P,tv q=Q,tv t=T,tv (t++[1])=T1,tv (fD 1 q (t++[1]))=T2 at *;unfold nE;simp! [bC,aK,aN,aL,aM,aF,aJ,ad,e1,e2]
   rw[st]
  .have st:nE [x0,some (.pv (tv q)),some (.pv (px L)),some (.pv (.int c)),some (.pv (tv t)),x5] S=.nx [x0,some (.pv (tv q)),some (.pv (px L)),some (.pv (.int (c+if eB L q t=1 then 1 else 0))),some (.pv (tv t)),some (.pv (.int (eB L q t)))] S:=by
    generalize eB L _ t=s,px L=P,tv q=Q,tv t=T,tv (t++[1])=T1,tv (fD 1 q (t++[1]))=T2 at *;unfold nE;rcases s3 with rfl |rfl |rfl
    .simp! [bC,aK,aN,aL,aM,aF,aJ,ad,e1,e2]
    .exact absurd rfl c0
    .simp! [bC,aK,aN,aL,aM,aF,aJ,ad,e1,e2]
   rw[st];dsimp only;have ek:c+(((t::ts).map (eB L q)).count 1:Nat)=c+(if eB L q t=1 then 1 else 0)+((ts.map (eB L q)).count 1:Nat):=by
    rw[av,ny]
    by_cases c1:eB L q t=1
    .rw[c1]
     simp;omega
    .have:(eB L q t==1)=false:=by simpa using c1
     rw[this,if_neg c1];simp
   rcases Wk hn hl hg gq hk S x0 ts (c+if eB L q t=1 then 1 else 0) (some (.pv (tv t))) (some (.pv (.int (eB L q t)))) (λy hy=>ht y (ay _ hy))with⟨⟨y,hy,z⟩,ih⟩|⟨z,y4,y5,ih⟩
   .exact .inl ⟨⟨y,ay _ hy,z⟩,ih⟩
   .refine .inr ⟨λy hy=>?_,y4,y5,?_⟩
    .rcases cf.mp hy with rfl |hy
     .exact c0
     .exact z y hy
    .rw[ih,ek]
def nH:AS->AS->AS
 |[a,b],[x,y,w]=>[x+a*w,y+b*w,w]
 |[a,b,c],[x,y,z,w]=>[x+a*w,y+b*w,z+c*w,w]
 |_,z=>z
theorem aa5(a b x0 y0 w0 x1 y1 w1 x2 y2 w2:Int):D2 (x0+a*w0) (y0+b*w0) w0 (x1+a*w1) (y1+b*w1) w1 (x2+a*w2) (y2+b*w2) w2=D2 x0 y0 w0 x1 y1 w1 x2 y2 w2:=by
 unfold D2;grind
theorem aap(a b c x0 y0 z0 w0 x1 y1 z1 w1 x2 y2 z2 w2 x3 y3 z3 w3:Int):D3 (x0+a*w0) (y0+b*w0) (z0+c*w0) w0 (x1+a*w1) (y1+b*w1) (z1+c*w1) w1 (x2+a*w2) (y2+b*w2) (z2+c*w2) w2 (x3+a*w3) (y3+b*w3) (z3+c*w3) w3=D3 x0 y0 z0 w0 x1 y1 z1 w1 x2 y2 z2 w2 x3 y3 z3 w3:=by
 unfold D3;grind
theorem S8{n:Nat}(hn:n=2\/n=3){a:AS}(ha:a.length=n){M:AT}(hl:M.length=n+1)(hM:∀z∈M,z.length=n+1):dU (M.map (nH a))=dU M:=by
 rcases hn with rfl |rfl
 .match a,ha,M,hl with
  |[a,b],_,[p,q,r],_=>
   match p,hM p (by simp),q,hM q (by simp),r,hM r (by simp)with
   |[x0,y0,w0],_,[x1,y1,w1],_,[x2,y2,w2],_=>exact aa5 a b x0 y0 w0 x1 y1 w1 x2 y2 w2
 .match a,ha,M,hl with
  |[a,b,c],_,[p,q,r,s],_=>
   match p,hM p (by simp),q,hM q (by simp),r,hM r (by simp),s,hM s (by simp)with
   |[x0,y0,z0,w0],_,[x1,y1,z1,w1],_,[x2,y2,z2,w2],_,[x3,y3,z3,w3],_=>exact aap a b c x0 y0 z0 w0 x1 y1 z1 w1 x2 y2 z2 w2 x3 y3 z3 w3
theorem aa3{n:Nat}(hn:n=2\/n=3){d:Pc}(hd:Pg n d):d.Y.map (nH d.a)=d.ys.map (·++[1]):=by
 unfold Pc.Y;rw[dg];refine ij λy hy=>?_;have ha:=(hd.ok d.a (by simp[Pc.ys])).1;have hy:=(hd.ok y hy).1;show nH d.a (eV d.a y++[1])=y++[1];generalize d.a=a at *;rcases hn with rfl |rfl
 .match a,ha,y,hy with
  |[a,b],_,[c,e],_=>simp[nH,eV]
 .match a,ha,y,hy with
  |[a,b,g],_,[c,e,h],_=>simp[nH,eV]
theorem L9{n:Nat}(hn:n=2\/n=3){a z:AS}(ha:a.length=n){M:AT}(hl:M.length=n+1)(hM:∀u∈M,u.length=n+1)(hz:z.length=n+1):gK (M.map (nH a)) (nH a z)=gK M z:=by
 unfold gK;rw[aj];refine ij λj _=>?_;rw[<-yn,S8 hn ha (by rw[fu,hl]) (λu hu=>by
  rcases t8 hu with h |h
  .exact hM u h
  .rw[h];exact hz)]
theorem So{n k:Nat}(hn:n=2\/n=3){xs:AS}{w:Int}(P:Pq n k xs w){t:AS}(ht:t.length=n)(hb:∀x∈t,Bd 60 x):fD 1 (xs++[w]) (t++[1])=bf (λx c=>x+c*w) xs t++[w]:=by
 have w0:=P.pos;obtain⟨g,af⟩:=jA (way:=1) (.inl rfl) (oA ht hb) ⟨xs,w,rfl,P⟩;obtain⟨zs,z,e,Q⟩:=g;rw[e]at af⊢;have ka:=vY af;have lw:(xs++[w]).getLastD 0=w:=by simp
 rw[lw]at ka;have z0:=Q.pos;have hB:low (bf (λx c=>x+c*w) xs t++[w])=bf (λx c=>x+c*w) xs t++[w]:=by
  refine zD w0 P.low λd hd hy x hx=>?_;obtain⟨j,hj,rfl⟩:=jo hx;have jt:j<t.length:=by rw[ht,<-P.len];exact hj
  have jz:j<(bf (λx c=>x+c*w) xs t).length:=by rw[dn];omega
  have h1:=hy _ (fj jz);rw[qg]at h1;have:=Int.dvd_sub h1 (v8 (b:=t[j]) hd)
  rwa[w8]at this
 have hl:low (zs++[z])=low (bf (λx c=>x+c*w) xs t++[w]):=by
  refine zY (k:=w) (m:=z) w0 z0 (mV (n:=z) (by simp) (by omega)) ?_;rcases hn with rfl |rfl
  .match xs,P.len,t,ht,zs,Q.len,ka with
   |[x,y],_,[c,d],_,[a,b],_,ka=>
    have k0:a*(w*1)=(1*w*c+x*1)*z:=ka 0 (by decide);have k1:b*(w*1)=(1*w*d+y*1)*z:=ka 1 (by decide);simp only[jq,ib,qz,re,av,cg,uo,and_true];refine⟨?_,?_,?_⟩<;>grind
  .match xs,P.len,t,ht,zs,Q.len,ka with
   |[x,y,u],_,[c,d,v],_,[a,b,f],_,ka=>
    have k0:a*(w*1)=(1*w*c+x*1)*z:=ka 0 (by decide);have k1:b*(w*1)=(1*w*d+y*1)*z:=ka 1 (by decide);have k2:f*(w*1)=(1*w*v+u*1)*z:=ka 2 (by decide);simp only[jq,ib,qz,re,av,cg,uo,and_true];refine⟨?_,?_,?_,?_⟩<;>grind
 rw[Q.low,hB]at hl;exact hl
def hU(a xs:AS)(w:Int)(t:AS):AS:=bf (·+·) t (bf (λa x=>a-x.fdiv w) a xs)
theorem V5{n k:Nat}(hn:n=2\/n=3){xs:AS}{w:Int}(P:Pq n k xs w){a t:AS}(ha:a.length=n)(ht:t.length=n)(hb:∀x∈hU a xs w t,Bd 60 x):nH a (qN n (xs.map (·.fmod w)++[w]) w t)=fD 1 (xs++[w]) (hU a xs w t++[1]):=by
 have hp:(hU a xs w t).length=n:=by
  unfold hU;rw[dn,dn,P.len];omega
 rw[So hn P hp hb];have fm:∀x:Int,x.fmod w+w*x.fdiv w=x:=λx=>rk x w;rcases hn with rfl |rfl
 .match xs,P.len,a,ha,t,ht with
  |[x,y],_,[a,b],_,[c,d],_=>
   have f0:=fm x;have f1:=fm y;show[x.fmod w+c*w+a*w,y.fmod w+d*w+b*w,w]=[x+(c+(a-x.fdiv w))*w,y+(d+(b-y.fdiv w))*w,w];simp only[uo,and_true];refine⟨?_,?_⟩<;>grind
 .match xs,P.len,a,ha,t,ht with
  |[x,y,u],_,[a,b,e],_,[c,d,v],_=>
   have f0:=fm x;have f1:=fm y;have f2:=fm u;show[x.fmod w+c*w+a*w,y.fmod w+d*w+b*w,u.fmod w+v*w+e*w,w]=[x+(c+(a-x.fdiv w))*w,y+(d+(b-y.fdiv w))*w,u+(v+(e-u.fdiv w))*w,w];simp only[uo,and_true];refine⟨?_,?_,?_⟩<;>grind
theorem L8{n k:Nat}(hn:n=2\/n=3){L M:AT}{q:AS}(hp:M.Perm L)(hl:L.length=n+1)(hg:∀us∈L,Gu n k us)(hq:Gu n 1000 q)(pM:0<dU M):bS M q=fP (Fs q L) 1:=by
 have s1:sg (dU M)=1:=by
  unfold sg;rw[if_pos pM]
 have ef:Fs q M=gK M q:=by
  unfold Fs gK;rw[s1];simp
 have pm:(Fs q L).Perm (Fs q M):=A3 hn hq.pt hp.symm [] (λus hu=>(hg us (by simpa using hu)).pt) (by simpa using hl);rw[ef]at pm;have ne1:Fs q L≠[]:=λz=>by
  have:=congrArg kh z;unfold Fs at this;rw[aj,dq,hl]at this;cases this
 have m1:=Qa ne1 (Fs3 q L);have ne2:gK M q≠[]:=λz=>by
  rw[z]at pm;exact ne1 pm.eq_nil
 have m2:=Qa ne2 (λs hs=>by
  unfold gK at hs;obtain⟨j,_,rfl⟩:=ax.mp hs;exact xG _)
 have m3:(gK M q).min?=some (fP (Fs q L) 1):=by
  rw[uh]at m1⊢;exact⟨pm.mem_iff.mp m1.1,λb hb=>m1.2 b (pm.mem_iff.mpr hb)⟩
 rw[m2]at m3;exact cj m3
theorem Ut{n k:Nat}(hn:n=2\/n=3){xs:AS}{w:Int}(P:Pq n k xs w)(hk:k<=900){d:Pc}(hd:Pg n d){xss:AT}(hp:d.ys.Perm xss)(pD:0<dU (d.ys.map (·++[1]))){t:AS}(ht:t.length=n)(hb:∀x∈hU d.a xs w t,Bd 60 x):bS d.Y (qN n (xs.map (·.fmod w)++[w]) w t)=eB (xss.map (·++[1])) (xs++[w]) (hU d.a xs w t):=by
 have ha:=(hd.ok d.a (by simp[Pc.ys])).1;have wx:=hd.wx;have lY:∀u∈d.Y,u.length=n+1:=λu hu=>by
  obtain⟨x,v,rfl,Q⟩:=wx.gu u hu;simp[Q.len]
 have lz:(qN n (xs.map (·.fmod w)++[w]) w t).length=n+1:=by
  unfold qN;rw[bj,dn,dq,ht];simp
 have hphi:(hU d.a xs w t).length=n:=by
  unfold hU;rw[dn,dn,P.len];omega
 have e:bS d.Y (qN n (xs.map (·.fmod w)++[w]) w t)=bS (d.ys.map (·++[1])) (fD 1 (xs++[w]) (hU d.a xs w t++[1])):=by
  unfold bS;rw[<-L9 hn ha wx.len lY lz,aa3 hn hd,V5 hn P ha ht hb]
 rw[e];have gq:=(jA (way:=1) (.inl rfl) (oA hphi hb) ⟨xs,w,rfl,P⟩).1.mono (show 60+k+1<=1000 by omega);refine L8 hn (k:=60) (hp.map _) (by rw[aj,<-hp.length_eq,hd.len]) (λu hu=>?_) gq pD;obtain⟨y,hy,rfl⟩:=ax.mp hu;have hy:=hd.ok y (hp.mem_iff.mpr hy);exact oA hy.1 λx hx=>(Bd.of (k:=7) (n:=2) (by have:=hy.2 x hx;omega) (by decide)).mono (by decide)
theorem abi(a b c x0 y0 w0 x1 y1 w1 x2 y2 w2 x y w:Int):D2 x y w x1 y1 w1 x2 y2 w2*(a*x0+b*y0+c*w0)+D2 x0 y0 w0 x y w x2 y2 w2*(a*x1+b*y1+c*w1)+D2 x0 y0 w0 x1 y1 w1 x y w*(a*x2+b*y2+c*w2)=D2 x0 y0 w0 x1 y1 w1 x2 y2 w2*(a*x+b*y+c*w):=by
 unfold D2;grind
theorem abG(a b c d x0 y0 z0 w0 x1 y1 z1 w1 x2 y2 z2 w2 x3 y3 z3 w3 x y z w:Int):D3 x y z w x1 y1 z1 w1 x2 y2 z2 w2 x3 y3 z3 w3*(a*x0+b*y0+c*z0+d*w0)+D3 x0 y0 z0 w0 x y z w x2 y2 z2 w2 x3 y3 z3 w3*(a*x1+b*y1+c*z1+d*w1)+D3 x0 y0 z0 w0 x1 y1 z1 w1 x y z w x3 y3 z3 w3*(a*x2+b*y2+c*z2+d*w2)+D3 x0 y0 z0 w0 x1 y1 z1 w1 x2 y2 z2 w2 x y z w*(a*x3+b*y3+c*z3+d*w3)=D3 x0 y0 z0 w0 x1 y1 z1 w1 x2 y2 z2 w2 x3 y3 z3 w3*(a*x+b*y+c*z+d*w):=by
 unfold D3;grind
theorem On:∀(L:List (Int×Int)),(∀e∈L,0<=e.1/\0<=e.2)->0<=(L.map λe=>e.1*e.2).sum
 |[],_=>oy 0
 |e::L,h=>by
  have:=On L λf hf=>h f (ay _ hf);have a:=h e (by simp);have b:=AH a.1 a.2;rw[av,kn];omega
theorem Ic(a b c x y z:Int):dt [a,b,c] [x,y,z]=a*x+b*y+c*z:=by
 simp[dt];omega
theorem wX(a b c d x y z w:Int):dt [a,b,c,d] [x,y,z,w]=a*x+b*y+c*z+d*w:=by
 simp[dt];omega
theorem Fl:∀(C:AS)(f:Int),(∃s∈C,s<0)->fP C f=-1
 |[],f,⟨_,h,_⟩=>absurd h fe
 |s::C,f,⟨u,hu,h0⟩=>by
  show(if s<0 then-1 else fP C (if s=0 then 0 else f))=-1
  by_cases c:s<0
  .rw[if_pos c]
  .rw[if_neg c]
   rcases cf.mp hu with rfl |hu
   .exact absurd h0 c
   .exact Fl C _ ⟨u,hu,h0⟩
theorem aaO{a b:Int}(h:¬sg a*sg b<0):0<=a*b:=by
 rw[<-Qq]at h;rcases nF (a*b)with⟨x,y⟩|⟨x,y⟩|⟨x,y⟩<;>omega
theorem Vj{n k:Nat}(hn:n=2\/n=3){B:AS}(hB:B.length=n+1){L:AT}(hl:L.length=n+1)(hg:∀u∈L,Gu n k u){z:AS}(gz:Gu n 1000 z)(nz:dU L≠0)(hc:∀c∈L,0<=dt B c)(hz:dt B z<0):fP (Fs z L) 1=-1:=by
 by_cases ex:∃s∈Fs z L,s<0
 .exact Fl _ _ ex
 .exfalso
  have ps:∀j,j<L.length->0<=dU (L.set j z)*dU L:=λj hj=>aaO λh=>ex ⟨_,ax.mpr ⟨j,kq.mpr hj,rfl⟩,h⟩;have fin:∀(E:List (Int×Int)),(∀e∈E,0<=e.1/\0<=e.2)->(E.map λe=>e.1*e.2).sum=dU L*dU L*dt B z->False:=λE h1 h2=>by
   have a:=On E h1;have b:0<dU L*dU L:=by
    rcases Int.lt_or_gt_of_ne nz with h |h
    .exact AG h h
    .exact aq h h
   have:=td b hz;omega
  rcases hn with rfl |rfl
  .obtain⟨p,q,r,rfl⟩:∃p q r,L=[p,q,r]:=by
    match L,hl with
    |[p,q,r],_=>exact⟨_,_,_,rfl⟩
   obtain⟨a,b,c,rfl⟩:∃a b c,B=[a,b,c]:=by
    match B,hB with
    |[a,b,c],_=>exact⟨_,_,_,rfl⟩
   .obtain⟨x0,y0,w0,rfl,_⟩:=(hg p (by simp)).two'
    obtain⟨x1,y1,w1,rfl,_⟩:=(hg q (by simp)).two';obtain⟨x2,y2,w2,rfl,_⟩:=(hg r (by simp)).two';obtain⟨x,y,w,rfl,_⟩:=gz.two';refine fin [(D2 x y w x1 y1 w1 x2 y2 w2*D2 x0 y0 w0 x1 y1 w1 x2 y2 w2,dt [a,b,c] [x0,y0,w0]),(D2 x0 y0 w0 x y w x2 y2 w2*D2 x0 y0 w0 x1 y1 w1 x2 y2 w2,dt [a,b,c] [x1,y1,w1]),(D2 x0 y0 w0 x1 y1 w1 x y w*D2 x0 y0 w0 x1 y1 w1 x2 y2 w2,dt [a,b,c] [x2,y2,w2])] (λe he=>?_) ?_
    .simp only[cf,fe,or_false]at he
     rcases he with rfl |rfl |rfl
     .exact⟨ps 0 (by simp),hc _ (by simp)⟩
     .exact⟨ps 1 (by simp),hc _ (by simp)⟩
     .exact⟨ps 2 (by simp),hc _ (by simp)⟩
    .have:=abi a b c x0 y0 w0 x1 y1 w1 x2 y2 w2 x y w
     rw[show dU [[x0,y0,w0],[x1,y1,w1],[x2,y2,w2]]=D2 x0 y0 w0 x1 y1 w1 x2 y2 w2 from rfl];simp only[av,cg,kn,rf,Ic];clear ps fin hc hz nz ex hg gz;generalize D2 x0 y0 w0 x1 y1 w1 x2 y2 w2=d,D2 x0 y0 w0 x1 y1 w1 x y w=d2,D2 x0 y0 w0 x y w x2 y2 w2=d1,D2 x y w x1 y1 w1 x2 y2 w2=d0,a*x+b*y+c*w=h3,a*x2+b*y2+c*w2=h2,a*x1+b*y1+c*w1=h1,a*x0+b*y0+c*w0=h0 at *;grind
  .obtain⟨p,q,r,t,rfl⟩:∃p q r t,L=[p,q,r,t]:=by
    match L,hl with
    |[p,q,r,t],_=>exact⟨_,_,_,_,rfl⟩
   obtain⟨a,b,c,d,rfl⟩:∃a b c d,B=[a,b,c,d]:=by
    match B,hB with
    |[a,b,c,d],_=>exact⟨_,_,_,_,rfl⟩
   .obtain⟨x0,y0,z0,w0,rfl,_⟩:=(hg p (by simp)).three'
    obtain⟨x1,y1,z1,w1,rfl,_⟩:=(hg q (by simp)).three';obtain⟨x2,y2,z2,w2,rfl,_⟩:=(hg r (by simp)).three';obtain⟨x3,y3,z3,w3,rfl,_⟩:=(hg t (by simp)).three';obtain⟨x,y,v,w,rfl,_⟩:=gz.three';refine fin [(D3 x y v w x1 y1 z1 w1 x2 y2 z2 w2 x3 y3 z3 w3*D3 x0 y0 z0 w0 x1 y1 z1 w1 x2 y2 z2 w2 x3 y3 z3 w3,dt [a,b,c,d] [x0,y0,z0,w0]),(D3 x0 y0 z0 w0 x y v w x2 y2 z2 w2 x3 y3 z3 w3*D3 x0 y0 z0 w0 x1 y1 z1 w1 x2 y2 z2 w2 x3 y3 z3 w3,dt [a,b,c,d] [x1,y1,z1,w1]),(D3 x0 y0 z0 w0 x1 y1 z1 w1 x y v w x3 y3 z3 w3*D3 x0 y0 z0 w0 x1 y1 z1 w1 x2 y2 z2 w2 x3 y3 z3 w3,dt [a,b,c,d] [x2,y2,z2,w2]),(D3 x0 y0 z0 w0 x1 y1 z1 w1 x2 y2 z2 w2 x y v w*D3 x0 y0 z0 w0 x1 y1 z1 w1 x2 y2 z2 w2 x3 y3 z3 w3,dt [a,b,c,d] [x3,y3,z3,w3])] (λe he=>?_) ?_
    .simp only[cf,fe,or_false]at he
     rcases he with rfl |rfl |rfl |rfl
     .exact⟨ps 0 (by simp),hc _ (by simp)⟩
     .exact⟨ps 1 (by simp),hc _ (by simp)⟩
     .exact⟨ps 2 (by simp),hc _ (by simp)⟩
     .exact⟨ps 3 (by simp),hc _ (by simp)⟩
    .have:=abG a b c d x0 y0 z0 w0 x1 y1 z1 w1 x2 y2 z2 w2 x3 y3 z3 w3 x y v w
     rw[show dU [[x0,y0,z0,w0],[x1,y1,z1,w1],[x2,y2,z2,w2],[x3,y3,z3,w3]]=D3 x0 y0 z0 w0 x1 y1 z1 w1 x2 y2 z2 w2 x3 y3 z3 w3 from rfl];simp only[av,cg,kn,rf,wX];clear ps fin hc hz nz ex hg gz;generalize D3 x0 y0 z0 w0 x1 y1 z1 w1 x2 y2 z2 w2 x3 y3 z3 w3=d4,D3 x0 y0 z0 w0 x1 y1 z1 w1 x2 y2 z2 w2 x y v w=d3,D3 x0 y0 z0 w0 x1 y1 z1 w1 x y v w x3 y3 z3 w3=d2,D3 x0 y0 z0 w0 x y v w x2 y2 z2 w2 x3 y3 z3 w3=d1,D3 x y v w x1 y1 z1 w1 x2 y2 z2 w2 x3 y3 z3 w3=d0,a*x+b*y+c*v+d*w=h4,a*x3+b*y3+c*z3+d*w3=h3,a*x2+b*y2+c*z2+d*w2=h2,a*x1+b*y1+c*z1+d*w1=h1,a*x0+b*y0+c*z0+d*w0=h0 at *;grind
theorem Nt{n k:Nat}(hn:n=2\/n=3){xs:AS}{w:Int}(P:Pq n k xs w)(hk:k<=900){xss:AT}(hl:xss.length=n+1)(hy:∀y∈xss,y.length=n/\∀x∈y,0<=x/\x<=2)(fl:∀j,j<n->-1000000<=((xs++[w]).getD j 0).fdiv w/\((xs++[w]).getD j 0).fdiv w<=1000000){m M:Nat->Int}(hN:∀j,j<n->(∀y∈xss.map (·++[1]),aE (tv y) (.int (j:Int))=some (.int (y.getD j 0)))/\Nb ((xss.map (·++[1])).map (·.getD j 0)) (m j) (M j))(S:aG):
  ((∃t∈dD ((ak n).map (eP (xs++[w]) w m M)),eB (xss.map (·++[1])) (xs++[w]) t=0)/\lE [.pv (bX xss),.pv (tv (xs++[w]))] S=.ok (.pv .non) S)\/((∀t∈dD ((ak n).map (eP (xs++[w]) w m M)),eB (xss.map (·++[1])) (xs++[w]) t≠0)/\lE [.pv (bX xss),.pv (tv (xs++[w]))] S=.ok (.pv (.int (((dD ((ak n).map (eP (xs++[w]) w m M))).map (eB (xss.map (·++[1])) (xs++[w]))).count 1:Nat))) S):=by
 have ec:bZ [] (gN 0) (aC eO (mR fM (aB (aA 0) aD)) (mN dL (aB (mC (.int 1)) aD))) (xss.map lv) [none] S=.ok (xss.map λy=>tv (y++[1])) S:=by
  refine jJ (gL S) lv (λy=>tv (y++[1])) xss none λy hyy=>?_;have ad:eO (.tup (y.map .int)) (.tup [.int 1])=some (tv (y++[1])):=by
   show(if(y.map PV.int).length+1<=16777216 then some (PV.tup (y.map PV.int++[.int 1]))else none)=_;rw[if_pos (by rw[aj];have:=(hy y hyy).1;omega)];show _=some (PV.tup ((y++[1]).map PV.int));rw[dz];rfl
  have hv:lv y=.lst (y.map .int):=rfl;rw[hv];generalize y.map PV.int=YL,tv (y++[1])=R at *;simp! [bC,aK,aN,aL,aM,aF,aJ,ad]
 have ea:=Nv hn P (by omega) (Y:=xss.map (·++[1])) (m:=m) (M:=M) (λj hj=>⟨(hN j hj).1,(hN j hj).2,fl j hj⟩) S;have gl:∀u∈xss.map (·++[1]),Gu n 1000 u:=λu hu=>by
  obtain⟨y,hyy,rfl⟩:=ax.mp hu;have h:=hy y hyy;exact(oA h.1 λx hx=>(Bd.of (k:=7) (n:=2) (by have:=h.2 x hx;omega) (by decide)).mono (by decide)).mono (by decide)
 have L:=Wk hn (L:=xss.map (·++[1])) (by rw[aj,hl]) gl (q:=xs++[w]) ⟨xs,w,rfl,P⟩ hk S (some (.pv (bX xss))) (dD ((ak n).map (eP (xs++[w]) w m M))) 0 none none (λt ht=>by
  obtain⟨h1,h2⟩:=rL.mp ht;rw[aj,dq]at h1 h2;refine⟨h1,λx hx=>?_⟩;obtain⟨j,hj,rfl⟩:=jo hx;have hj:j<n:=by omega
  have h3:=h2 j hj;have e:((ak n).map (eP (xs++[w]) w m M)).getD j []=eP (xs++[w]) w m M j:=by
   rw[cu,dj,au (show j<(ak n).length by rw[dq];exact hj),um];rfl
  rw[e]at h3;unfold eP at h3;have h4:=nT.mp h3;have h5:=(hN j hj).2.lo;have h6:=fl j hj;have et:t.getD j 0=t[j]:=by rw[cu,au (show j<t.length by omega)];rfl
  rw[et]at h4;have h4:m j-((xs++[w]).getD j 0).fdiv w-1<=t[j]/\t[j]<=M j-((xs++[w]).getD j 0).fdiv w+1:=h4;exact(Bd.of (k:=30) (n:=1000010) (by omega) (by decide)).mono (by decide))
 rw[pf]at L;have hb:yV=(aI (aP 2 (mR fM (aB (bB ["_law_corner"] [] (bD (aA 0)) (gN 0) (aC eO (mR fM (aB (aA 0) aD)) (mN dL (aB (mC (.int 1)) aD)))) aD))) (aI (aP 3 (mC (.int 0))) (aI (bI (bD (aQ mF [] (aB (aA 2) (aB (aA 1) aD)))) (gN 4) nE) (bF (aA 3))))):=rfl;have hp:px (xss.map (·++[1]))=.tup (xss.map λy=>tv (y++[1])):=by
  show PV.tup ((xss.map (·++[1])).map tv)=_;rw[dg];rfl
 have c1:∀(x0 x4 x5:BC),(aQ mF [] (aB (aA 2) (aB (aA 1) aD))) [x0,some (.pv (tv (xs++[w]))),some (.pv (px (xss.map (·++[1])))),some (.pv (.int 0)),x4,x5] S=.ok (.pv (.lst ((dD ((ak n).map (eP (xs++[w]) w m M))).map tv))) S:=λx0 x4 x5=>by
  refine aaa (xs:=[.pv (px (xss.map (·++[1]))),.pv (tv (xs++[w]))]) (S1:=S) ?_ ea;clear ea L ec;generalize tv (xs++[w])=Q,px (xss.map (·++[1]))=PX at *;simp! [bC,aK,aN,aL,aM,aF,aJ]
 have c1:=c1 (some (.pv (bX xss))) none none;generalize ((((dD ((ak n).map (eP (xs++[w]) w m M))).map (eB (xss.map (·++[1])) (xs++[w]))).count 1:Nat):Int)=K at *;have hv:bX xss=.lst (xss.map lv):=rfl;rw[hp,hv]at c1 L;rw[hv];clear ea gl hN;generalize tv (xs++[w])=Q,(dD ((ak n).map (eP (xs++[w]) w m M))).map tv=AL,xss.map lv=XL,(xss.map λy=>tv (y++[1]))=PL,nE=LB,(aQ mF [] (aB (aA 2) (aB (aA 1) aD)))=MC at *;unfold lE aR;rw[hb];have tk:S.take S.length=S:=by simp
 rcases L with⟨a,b⟩|⟨a,y4,y5,b⟩
 .exact .inl ⟨a,by simp! [bC,aK,aN,aL,aM,aF,aJ,bB,cD,bD,bT,ec,bI,c1,b]⟩
 .exact .inr ⟨a,by simp! [bC,aK,aN,aL,aM,aF,aJ,bB,cD,bD,bT,ec,bI,c1,b]⟩
theorem L1{n:Nat}(hn:n=2\/n=3){fs:List (Int×Int)}(hf:fs.length=n)(h:∀u∈fs,Sp u){f:AS}(Gf:Gu n 100 f){ys:AT}(hl:ys.length=n+1)(hy:∀y∈ys,y.length=n/\∀x∈y,0<=x/\x<=2)(pos:0<dU (ys.map (eM fs f))):0<dU (ys.map (·++[1])):=by
 have af:∀y∈ys,Gu n 201 (eM fs f y)/\gS n (λj=>f.getLastD 0*lX fs j) (λj=>f.getD j 0*iA fs) (f.getLastD 0*iA fs) (y++[1]) (eM fs f y):=λy hyy=>Ma hn hf h Gf (hy y hyy).1 λx hx=>by have:=(hy y hyy).2 x hx;omega
 have p2:0<wU (ys.map (eM fs f)):=pU λu hu=>by
  obtain⟨y,hyy,rfl⟩:=ax.mp hu;exact(af y hyy).1
 obtain⟨pe,pa⟩:=vJ hn hf h;have F0:0<f.getLastD 0:=by
  obtain⟨fx,fw,rfl,FP⟩:=Gf;have:(fx++[fw]).getLastD 0=fw:=by simp
  rw[this];exact FP.pos
 have go:∀{a b c d:Int},0<a->0<b->0<c->0<d->∀x:Int,a*b=c*x*d->0<x:=λ{a b c d} h1 h2 h3 h4 x e=>by
  have h5:=aq h1 h2;rw[e]at h5
  by_cases h6:0<x
  .exact h6
  .have h7:c*x<=0:=Int.mul_nonpos_of_nonneg_of_nonpos (jd h3) (by omega)
   have h8:c*x*d<=0:=Int.mul_nonpos_of_nonpos_of_nonneg h7 (jd h4);omega
 have w1:∀y:AS,(y++[1]).getLastD 0=1:=λy=>by simp
 have eF:=aq F0 pe;rcases hn with rfl |rfl
 .obtain⟨a,b,c,rfl⟩:∃a b c,ys=[a,b,c]:=by
   match ys,hl with
   |[a,b,c],_=>exact⟨_,_,_,rfl⟩
  have e:=Tc (af a (by simp)).2 (af b (by simp)).2 (af c (by simp)).2;have pw:0<wU [a++[1],b++[1],c++[1]]:=by simp only[wU,w1];decide
  exact go pos (aq (aq (aq eF eF) eF) pw) (aq (aq (aq F0 (pa 0 (by decide))) (aq F0 (pa 1 (by decide)))) eF) p2 _ e
 .obtain⟨a,b,c,d,rfl⟩:∃a b c d,ys=[a,b,c,d]:=by
   match ys,hl with
   |[a,b,c,d],_=>exact⟨_,_,_,_,rfl⟩
  have e:=Rc (af a (by simp)).2 (af b (by simp)).2 (af c (by simp)).2 (af d (by simp)).2;have pw:0<wU [a++[1],b++[1],c++[1],d++[1]]:=by simp only[wU,w1];decide
  exact go pos (aq (aq (aq (aq eF eF) eF) eF) pw) (aq (aq (aq (aq F0 (pa 0 (by decide))) (aq F0 (pa 1 (by decide)))) (aq F0 (pa 2 (by decide)))) eF) p2 _ e
theorem rQ{n:Nat}{R:Nat->AS}{t:AS}:t∈dD ((ak n).map R)↔t.length=n/\∀j,j<n->t.getD j 0∈R j:=by
 rw[rL,aj,dq];have e:∀j,j<n->((ak n).map R).getD j []=R j:=λj hj=>by
  rw[cu,dj,au (show j<(ak n).length by rw[dq];exact hj),um];rfl
 constructor
 .rintro⟨h,k⟩
  exact⟨h,λj hj=>by rw[<-e j hj];exact k j hj⟩
 .rintro⟨h,k⟩
  exact⟨h,λj hj=>by rw[e j hj];exact k j hj⟩
theorem Qi{n:Nat}{a b:AS}(ha:a.length=n)(hb:b.length=n)(h:∀j,j<n->a.getD j 0=b.getD j 0):a=b:=by
 refine uf (by omega) λj h1 h2=>?_;have:=h j (by omega);rw[cu,cu,au h1,au h2]at this;exact this
theorem Xm{N:AS}(h0:N≠[]):fT N∈N/\gC N∈N:=by
 cases e1:N.min? with
 |none=>exact absurd (u9.mp e1) h0
 |some a=>
  cases e2:N.max? with
  |none=>exact absurd (v7.mp e2) h0
  |some b=>
   have k1:fT N=a:=by unfold fT;rw[e1];rfl
   have k2:gC N=b:=by unfold gC;rw[e2];rfl
   rw[k1,k2];exact⟨(uh.mp e1).1,(yi.mp e2).1⟩
theorem sO{f:Int->Int->Int}{a b:AS}{n:Nat}(ha:a.length=n)(hb:b.length=n){j:Nat}(hj:j<n):(bf f a b).getD j 0=f (a.getD j 0) (b.getD j 0):=by
 rw[cu,qw,cu,cu,au (show j<a.length by omega),au (show j<b.length by omega)];rfl
theorem vX{n:Nat}{a xs t:AS}{w:Int}(ha:a.length=n)(hx:xs.length=n)(ht:t.length=n):(hU a xs w t).length=n/\∀j,j<n->(hU a xs w t).getD j 0=t.getD j 0+(a.getD j 0-(xs.getD j 0).fdiv w):=by
 have h1:(bf (λa x=>a-x.fdiv w) a xs).length=n:=by rw[dn];omega
 unfold hU;exact⟨by rw[dn,h1];omega,λj hj=>by rw[sO ht h1 hj,sO ha hx hj]⟩
def kZ(a xs:AS)(w:Int)(t:AS):AS:=bf (· - ·) t (bf (λa x=>a-x.fdiv w) a xs)
theorem Q3{n:Nat}{a xs t:AS}{w:Int}(ha:a.length=n)(hx:xs.length=n)(ht:t.length=n):(kZ a xs w t).length=n/\∀j,j<n->(kZ a xs w t).getD j 0=t.getD j 0-(a.getD j 0-(xs.getD j 0).fdiv w):=by
 have h1:(bf (λa x=>a-x.fdiv w) a xs).length=n:=by rw[dn];omega
 unfold kZ;exact⟨by rw[dn,h1];omega,λj hj=>by rw[sO ht h1 hj,sO ha hx hj]⟩
theorem Xn{n:Nat}(hn:n=2\/n=3)(s c:Int){i:Nat}(hi:i<n):∃B:AS,B.length=n+1/\∀(u:AS)(v:Int),u.length=n->dt B (u++[v])=s*u.getD i 0+c*v:=by
 rcases hn with rfl |rfl
 .match i,hi with
  |0,_=>
   refine⟨[s,0,c],rfl,λu v h=>?_⟩
   match u,h with
   |[x,y],_=>show dt [s,0,c] [x,y,v]=s*x+c*v;rw[Ic];omega
  |1,_=>
   refine⟨[0,s,c],rfl,λu v h=>?_⟩
   match u,h with
   |[x,y],_=>show dt [0,s,c] [x,y,v]=s*y+c*v;rw[Ic];omega
 .match i,hi with
  |0,_=>
   refine⟨[s,0,0,c],rfl,λu v h=>?_⟩
   match u,h with
   |[x,y,z],_=>show dt [s,0,0,c] [x,y,z,v]=s*x+c*v;rw[wX];omega
  |1,_=>
   refine⟨[0,s,0,c],rfl,λu v h=>?_⟩
   match u,h with
   |[x,y,z],_=>show dt [0,s,0,c] [x,y,z,v]=s*y+c*v;rw[wX];omega
  |2,_=>
   refine⟨[0,0,s,c],rfl,λu v h=>?_⟩
   match u,h with
   |[x,y,z],_=>show dt [0,0,s,c] [x,y,z,v]=s*z+c*v;rw[wX];omega
def mj(xss:AT)(j:Nat):Int:=fT ((xss.map (·++[1])).map (·.getD j 0))
def Mj(xss:AT)(j:Nat):Int:=gC ((xss.map (·++[1])).map (·.getD j 0))
theorem vR{n:Nat}{y:AS}{w:Int}(hy:y.length=n){j:Nat}(hj:j<n):(y++[w]).getD j 0=y.getD j 0:=by
 rw[cu,ft (by omega),<-cu]
theorem Bo{n:Nat}{xss:AT}(hl:xss.length=n+1)(hy:∀y∈xss,y.length=n/\∀x∈y,0<=x/\x<=2){j:Nat}(hj:j<n):((∀y∈xss.map (·++[1]),aE (tv y) (.int (j:Int))=some (.int (y.getD j 0)))/\Nb ((xss.map (·++[1])).map (·.getD j 0)) (mj xss j) (Mj xss j))/\(∀y∈xss,mj xss j<=y.getD j 0/\y.getD j 0<=Mj xss j)/\0<=mj xss j/\Mj xss j<=2:=by
 have hN:∀x∈(xss.map (·++[1])).map (·.getD j 0),∃y∈xss,x=y.getD j 0/\0<=x/\x<=2:=λx hx=>by
  obtain⟨z,hz,rfl⟩:=ax.mp hx;obtain⟨y,hyy,rfl⟩:=ax.mp hz;have h:=hy y hyy;have e:=vR (w:=1) h.1 hj;have b:=sC h.2 (j:=j) (by omega);exact⟨y,hyy,e,by omega,by omega⟩
 have ne:(xss.map (·++[1])).map (·.getD j 0)≠[]:=λe=>by
  have:=congrArg kh e;rw[aj,aj,hl]at this;simp at this
 obtain⟨k1,k2⟩:=Tp ne (λx hx=>by obtain⟨_,_,_,a,b⟩:=hN x hx;omega) (λx hx y hy=>by obtain⟨_,_,_,a,b⟩:=hN x hx;obtain⟨_,_,_,c,d⟩:=hN y hy;omega);obtain⟨m1,m2⟩:=Xm ne;refine⟨⟨λy hyy=>?_,k1⟩,λy hyy=>?_,?_,?_⟩
 .obtain⟨z,hz,rfl⟩:=ax.mp hyy
  have hl:j<(z++[1]).length:=by rw[bj,(hy z hz).1];simp;omega
  refine jO ?_;rw[dj,cu,au hl];rfl
 .have:=k2 ((y++[1]).getD j 0) (ax.mpr ⟨_,ax.mpr ⟨y,hyy,rfl⟩,rfl⟩)
  rw[vR (hy y hyy).1 hj]at this;exact this
 .obtain⟨_,_,_,a,b⟩:=hN _ m1
  exact a
 .obtain⟨_,_,_,a,b⟩:=hN _ m2
  exact b
theorem Ox{n k:Nat}(hn:n=2\/n=3){xs:AS}{w:Int}(P:Pq n k xs w)(hk:k<=900){d:Pc}(hd:Pg n d){xss:AT}(hp:d.ys.Perm xss)(pD:0<dU (d.ys.map (·++[1])))(nz:dU (xss.map (·++[1]))≠0)(fl:∀j,j<n->-1000000<=((xs++[w]).getD j 0).fdiv w/\((xs++[w]).getD j 0).fdiv w<=1000000):
  ((dD ((ak n).map (eP (xs++[w]) w (mj xss) (Mj xss)))).map (eB (xss.map (·++[1])) (xs++[w]))).count 1=((d.sp n (xs.map (·.fmod w)) w).map λz=>bS d.Y z).count 1/\((∃t∈dD ((ak n).map (eP (xs++[w]) w (mj xss) (Mj xss))),eB (xss.map (·++[1])) (xs++[w]) t=0)↔∃z∈d.sp n (xs.map (·.fmod w)) w,bS d.Y z=0):=by
 have hl:xss.length=n+1:=by rw[<-hp.length_eq];exact hd.len
 have hy:∀y∈xss,y.length=n/\∀x∈y,0<=x/\x<=2:=λy h=>hd.ok y (hp.mem_iff.mpr h);have ha:=hd.ok d.a (by simp[Pc.ys]);have da:=ha.1;have w0:=P.pos;have nb:=λj (hj:j<n)=>(Bo hl hy hj).2;have xat:∀j,j<n->(xs++[w]).getD j 0=xs.getD j 0:=λj hj=>vR P.len hj;have rg:∀j,j<n->∃y1∈xss,∃y2∈xss,fT (d.Y.map (·.getD j 0))=y1.getD j 0-d.a.getD j 0/\gC (d.Y.map (·.getD j 0))=y2.getD j 0-d.a.getD j 0:=λj hj=>by
  have hN:∀x∈d.Y.map (·.getD j 0),∃y∈xss,x=y.getD j 0-d.a.getD j 0:=λx hx=>by
   obtain⟨z,hz,rfl⟩:=ax.mp hx;obtain⟨y,hy,rfl⟩:=ax.mp hz;exact⟨y,hp.mem_iff.mp hy,(vZ da (hd.ok y hy).1 hj).1⟩
  have ne:d.Y.map (·.getD j 0)≠[]:=λe=>by
   have:=congrArg kh e;unfold Pc.Y at this;rw[aj,aj,hd.len]at this;simp at this
  obtain⟨m1,m2⟩:=Xm ne;obtain⟨y1,h1,e1⟩:=hN _ m1;obtain⟨y2,h2,e2⟩:=hN _ m2;exact⟨y1,h1,y2,h2,e1,e2⟩
 have rb:∀j,j<n->∀y∈xss,fT (d.Y.map (·.getD j 0))+d.a.getD j 0<=y.getD j 0/\y.getD j 0<=gC (d.Y.map (·.getD j 0))+d.a.getD j 0:=λj hj y hyy=>by
  have h1:=(hd.nb hj).2.2 ((eV d.a y++[1]).getD j 0) (ax.mpr ⟨_,ax.mpr ⟨y,hp.mem_iff.mpr hyy,rfl⟩,rfl⟩);rw[(vZ da (hy y hyy).1 hj).1]at h1;omega
 have bigB:∀t∈dD ((ak n).map (eP (xs++[w]) w (mj xss) (Mj xss))),∀x∈t,Bd 60 x:=λt ht x hx=>by
  obtain⟨h1,h2⟩:=rQ.mp ht;obtain⟨j,hj,rfl⟩:=jo hx;have hj:j<n:=by omega
  have h3:=h2 j hj;unfold eP at h3;have h4:=nT.mp h3;have h5:=nb j hj;have h6:=fl j hj;have et:t.getD j 0=t[j]:=by rw[cu,au (show j<t.length by omega)];rfl
  rw[et]at h4;obtain⟨y1,q1,_⟩:=rg j hj;have h7:=h5.1 y1 q1;exact(Bd.of (k:=30) (n:=1000010) (by omega) (by decide)).mono (by decide)
 have sub:∀t∈dD (d.rs n),t.length=n/\hU d.a xs w t∈dD ((ak n).map (eP (xs++[w]) w (mj xss) (Mj xss))):=λt ht=>by
  obtain⟨h1,h2⟩:=rQ.mp ht;obtain⟨l1,p1⟩:=vX (w:=w) da P.len h1;refine⟨h1,rQ.mpr ⟨l1,λj hj=>?_⟩⟩;have h3:=nT.mp (h2 j hj);obtain⟨y1,q1,y2,q2,e1,e2⟩:=rg j hj;have b1:=(nb j hj).1 y1 q1;have b2:=(nb j hj).1 y2 q2;unfold eP;rw[p1 j hj,xat j hj];refine nT.mpr ?_;omega
 have e:(d.sp n (xs.map (·.fmod w)) w).map (λz=>bS d.Y z)=(dD (d.rs n)).map λt=>eB (xss.map (·++[1])) (xs++[w]) (hU d.a xs w t):=by
  rw[Mo,dg];refine ij λt ht=>?_;obtain⟨h1,h2⟩:=sub t ht;exact Ut hn P hk hd hp pD h1 (bigB _ h2)
 have e0:(∃z∈d.sp n (xs.map (·.fmod w)) w,bS d.Y z=0)↔∃t∈dD (d.rs n),eB (xss.map (·++[1])) (xs++[w]) (hU d.a xs w t)=0:=by
  have a:(∃z∈d.sp n (xs.map (·.fmod w)) w,bS d.Y z=0)↔0∈(d.sp n (xs.map (·.fmod w)) w).map (λz=>bS d.Y z):=by rw[ax]
  have b:(∃t∈dD (d.rs n),eB (xss.map (·++[1])) (xs++[w]) (hU d.a xs w t)=0)↔0∈(dD (d.rs n)).map λt=>eB (xss.map (·++[1])) (xs++[w]) (hU d.a xs w t):=by rw[ax]
  rw[a,b,e]
 rw[e,e0];have nd:∀R:Nat->AS,(∀j,(R j).Nodup)->(dD ((ak n).map R)).Nodup:=λR h=>Ck λL hL=>by
  obtain⟨j,_,rfl⟩:=ax.mp hL;exact h j
 refine E7 (nd _ λj=>Kk _ _) ?_ ?_ λt ht no=>?_
 .have h1:(dD (d.rs n)).Nodup:=nd _ λj=>Kk _ _
  unfold yp at h1⊢;rw[yq];refine List.Pairwise.imp_of_mem (λ{a b} h2 h3 ne h4=>ne ?_) h1;have l1:=(sub a h2).1;have l2:=(sub b h3).1;obtain⟨_,p1⟩:=vX (w:=w) da P.len l1;obtain⟨_,p2⟩:=vX (w:=w) da P.len l2;refine Qi l1 l2 λj hj=>?_;have q1:=p1 j hj;have q2:=p2 j hj;rw[h4]at q1;omega
 .intro t ht
  obtain⟨s,hs,rfl⟩:=ax.mp ht;exact(sub s hs).2
 .have h1:=(rQ.mp ht).1
  obtain⟨l1,p1⟩:=Q3 (w:=w) da P.len h1;have np:kZ d.a xs w t∉dD (d.rs n):=λh=>by
   refine no (ax.mpr ⟨_,h,?_⟩);obtain⟨l2,p2⟩:=vX (w:=w) da P.len l1;refine Qi l2 h1 λj hj=>?_;have q1:=p1 j hj;have q2:=p2 j hj;omega
  obtain⟨j,hj,ex⟩:∃j,j<n/\¬(fT (d.Y.map (·.getD j 0))<=(kZ d.a xs w t).getD j 0/\(kZ d.a xs w t).getD j 0<=gC (d.Y.map (·.getD j 0))):=by
   by_cases h:∃j,j<n/\¬(fT (d.Y.map (·.getD j 0))<=(kZ d.a xs w t).getD j 0/\(kZ d.a xs w t).getD j 0<=gC (d.Y.map (·.getD j 0)))
   .exact h
   .refine absurd (rQ.mpr ⟨l1,λj hj=>nT.mpr ?_⟩) np
    by_cases c:(fT (d.Y.map (·.getD j 0))<=(kZ d.a xs w t).getD j 0/\(kZ d.a xs w t).getD j 0<=gC (d.Y.map (·.getD j 0)))
    .exact c
    .exact absurd ⟨j,hj,c⟩ h
  rw[p1 j hj]at ex;have hb:=bigB t ht;have gz:=(jA (way:=1) (.inl rfl) (oA h1 hb) ⟨xs,w,rfl,P⟩).1.mono (show 60+k+1<=1000 by omega);have gl:∀u∈xss.map (·++[1]),Gu n 60 u:=λu hu=>by
   obtain⟨y,hyy,rfl⟩:=ax.mp hu;have h:=hy y hyy;exact oA h.1 λx hx=>(Bd.of (k:=7) (n:=2) (by have:=h.2 x hx;omega) (by decide)).mono (by decide)
  have mv:=So hn P h1 hb;have zl:(bf (λx c=>x+c*w) xs t).length=n:=by rw[dn,P.len];omega
  have za:=sO (f:=λx c=>x+c*w) P.len h1 hj;have fm:(xs.getD j 0).fmod w+w*(xs.getD j 0).fdiv w=xs.getD j 0:=rk _ w;have f0:0<=(xs.getD j 0).fmod w:=qx _ w0;have f1:(xs.getD j 0).fmod w<w:=ym _ w0;have rb:=rb j hj;unfold eB
  by_cases c:fT (d.Y.map (·.getD j 0))<=t.getD j 0-(d.a.getD j 0-(xs.getD j 0).fdiv w)
  .have c2:gC (d.Y.map (·.getD j 0))+d.a.getD j 0+1<=t.getD j 0+(xs.getD j 0).fdiv w:=by omega
   generalize gC (d.Y.map (·.getD j 0))+d.a.getD j 0=m at *;obtain⟨B,lB,dB⟩:=Xn hn (-1) m hj;refine Vj hn lB (by rw[aj,hl]) gl gz nz (λc hc=>?_) ?_
   .obtain⟨y,hyy,rfl⟩:=ax.mp hc
    rw[dB y 1 (hy y hyy).1];have:=(rb y hyy).2;omega
   .rw[mv,dB _ w zl,za]
    have:=ko c2 (jd w0);clear p1 l1 rb ex;generalize t.getD j 0=tj,xs.getD j 0=x at *;generalize x.fdiv w=q,x.fmod w=r at *;have e1:(m+1)*w=m*w+w:=by grind
    have e2:(tj+q)*w=tj*w+w*q:=by grind
    rw[e1,e2]at this;generalize w*q=wq,tj*w=tw,m*w=mw at *;omega
  .have c2:t.getD j 0+(xs.getD j 0).fdiv w+1<=fT (d.Y.map (·.getD j 0))+d.a.getD j 0:=by omega
   generalize fT (d.Y.map (·.getD j 0))+d.a.getD j 0=m at *;obtain⟨B,lB,dB⟩:=Xn hn 1 (-m) hj;refine Vj hn lB (by rw[aj,hl]) gl gz nz (λc hc=>?_) ?_
   .obtain⟨y,hyy,rfl⟩:=ax.mp hc
    rw[dB y 1 (hy y hyy).1];have:=(rb y hyy).1;omega
   .rw[mv,dB _ w zl,za]
    have:=ko c2 (jd w0);clear p1 l1 rb ex;generalize t.getD j 0=tj,xs.getD j 0=x at *;generalize x.fdiv w=q,x.fmod w=r at *;have e1:(tj+q+1)*w=tj*w+w*q+w:=by grind
    have e2:-m*w=-(m*w):=by grind
    rw[e1]at this;rw[e2];generalize w*q=wq,tj*w=tw,m*w=mw at *;omega
structure Pl(n:Nat)(p:Pc×AT):Prop where
 g:Pg n p.1
 pm:p.1.ys.Perm p.2
 ps:0<dU (p.1.ys.map (·++[1]))
 nz:dU (p.2.map (·++[1]))≠0
theorem aaK{n:Nat}(hn:n=2\/n=3)(ns:AS){fs:List (Int×Int)}(hf:fs.length=n)(h:∀u∈fs,Sp u)(GL:BA)(hg:GL.length<=99){xss:AT}(w:Rw n xss)(x1 x5:BC):∃(d:Pc)(ns':AS)(y5:BC),lB [some (.ref 0),x1,some (.pv (.lst (fs.map fv))),some (.ref 1),some (.pv (bX xss)),x5] [.lst (li ns),.lst GL]=.nx [some (.ref 0),x1,some (.pv (.lst (fs.map fv))),some (.ref 1),some (.pv (bX xss)),y5] [.lst (li ns'),.lst (GL++[d.pv fs])]/\Pl n (d,xss):=by
 have hr:fA [.lst (li ns),.lst GL] 0 ns:=rfl;obtain⟨v,n1,e1,G⟩:=abR n hn hr;simp only[cw]at e1;have e1:mM [.ref 0,.pv (.int (n:Int))] [.lst (li ns),.lst GL]=.ok (.pv v) [.lst (li n1),.lst GL]:=e1;obtain⟨ys,y,rfl,P⟩:=G;have Gf:Gu n 100 (ys++[y]):=⟨ys,y,rfl,P⟩;generalize ys++[y]=f at *;clear P y ys;have sp:=λS xs (hx:xs∈xss)=>uX hn S hf h (w.l xs hx) (λy hy=>by have:=w.b xs hx y hy;omega);have gu:∀us∈xss.map (eQ fs),Gu n 100 us:=λus hu=>by
  obtain⟨xs,hx,rfl⟩:=ax.mp hu;exact(sp [] xs hx).2.1
 have hl:(xss.map (eQ fs)).length=n+1:=by rw[aj];exact w.len
 have nz2:=aaL hn (way:=1) (.inl rfl) hl gu Gf (Ey hn hf h w);have gu2:=Kb (way:=1) (.inl rfl) gu Gf;have l2:((xss.map (eQ fs)).map (fD 1 f)).length=n+1:=by rw[aj];exact hl
 have eL:(xss.map (eQ fs)).map (fD 1 f)=xss.map (eM fs f):=by rw[dg];rfl
 have cp:=Sx (No hn l2);have cd:=U6 hn (k:=100+100+1) (by decide) l2 gu2;have es:=Hs (uss:=(xss.map (eQ fs)).map (fD 1 f)) (A:=.lst (((xss.map (eQ fs)).map (fD 1 f)).map tv)) hn [.lst (li n1),.lst GL] l2 (λus hu=>(gu2 us hu).mono (by decide)) (.inl rfl);rw[eL]at cp cd nz2 es;obtain⟨zs,pz,ez⟩:=Ti (eM fs f) cp;obtain⟨a,r,rfl⟩:∃a r,zs=a::r:=by
  have:=pz.length_eq;rw[w.len]at this
  match zs,this with
  |a::r,_=>exact⟨a,r,rfl⟩
 have ok:∀y∈a::r,y.length=n/\∀x∈y,0<=x/\x<=2:=λy hy=>⟨w.l y (pz.mem_iff.mp hy),w.b y (pz.mem_iff.mp hy)⟩;have ln1:(a::r).length=n+1:=by rw[pz.length_eq];exact w.len
 have pos:0<dU ((a::r).map (eM fs f)):=by rw[<-ez,cd];omega
 refine⟨⟨f,a,r⟩,n1,some (.pv (tv f)),?_,⟨⟨Gf,ln1,ok⟩,pz,L1 hn hf h Gf ln1 ok pos,w.nz⟩⟩;have ep:(Pc.mk f a r).pv fs=.tup ((lS (xss.map (eM fs f))).map tv):=by rw[ez];rfl
 rw[ep];have lz:GL.length<16777216:=by omega
 have ln:((fs.map fv).length:Int)=(n:Int):=by rw[aj,hf]
 have ec:bZ [] (gN 0) (aQ kN [] (aB (aQ jM [] (aB (aA 0) (aB (aA 2) aD))) (aB (aA 1) (aB (mC (.int 1)) aD)))) (xss.map lv) [none,some (.pv (tv f)),some (.pv (.lst (fs.map fv)))] [.lst (li n1),.lst GL]=.ok (xss.map λxs=>tv (eM fs f xs)) [.lst (li n1),.lst GL]:=by
  refine jJ (gL _) lv (λxs=>tv (eM fs f xs)) xss none λxs hx=>?_;have a1:=(sp [.lst (li n1),.lst GL] xs hx).1;have a2:=Lk (way:=1) [.lst (li n1),.lst GL] hn (.inl rfl) (sp [] xs hx).2.1 Gf (by decide) (by decide);show _=bQ.ok (AV.pv (tv (fD 1 f (eQ fs xs)))) _;generalize fs.map fv=FL,tv f=T4,lv xs=T3,tv (eQ fs xs)=T2,tv (fD 1 f (eQ fs xs))=T1 at *;simp! [aE,aV,aW,aO,aK,aN,aL,aM,aF,aJ,a1,a2]
 have em:(xss.map (eM fs f)).map tv=xss.map λxs=>tv (eM fs f xs):=by rw[dg];rfl
 rw[em]at es;have hv:bX xss=.lst (xss.map lv):=rfl;rw[hv];clear ep ez cd cp pos ok pz nz2 gu2 l2 hl gu sp;generalize (n:Int)=N,fs.map fv=FL,xss.map lv=XL,(xss.map λxs=>tv (eM fs f xs))=TL,(lS (xss.map (eM fs f))).map tv=PX at *;have e1:mM [.ref 0,.pv (.int N)] [.lst (li ns),.lst GL]=.ok (.pv (tv f)) [.lst (li n1),.lst GL]:=e1;generalize tv f=TF at *;unfold lB;simp! [aE,aV,aW,aO,aK,aN,aL,aM,aF,aJ,ln,e1,dI,eZ,iD,bB,cD,bD,bT,ec,es,lz]
theorem Xo{n:Nat}(hn:n=2\/n=3){fs:List (Int×Int)}(hf:fs.length=n)(h:∀u∈fs,Sp u)(x1:BC):∀(hs:AU)(GL:BA)(ns:AS)(x4 x5:BC),(∀xss∈hs,Rw n xss)->GL.length+hs.length<=99->∃(ps:List (Pc×AT))(ns':AS)(y4 y5:BC),
  cJ [] (gN 4) lB (hs.map bX) [some (.ref 0),x1,some (.pv (.lst (fs.map fv))),some (.ref 1),x4,x5] [.lst (li ns),.lst GL]=.nx [some (.ref 0),x1,some (.pv (.lst (fs.map fv))),some (.ref 1),y4,y5] [.lst (li ns'),.lst (GL++ps.map λp=>p.1.pv fs)]/\ps.map (·.2)=hs/\∀p∈ps,Pl n p
 |[],GL,ns,x4,x5,_,_=>⟨[],ns,x4,x5,by rw[cg,cg,ie];exact fF,rfl,λ_ h=>absurd h fe⟩
 |xss::hs,GL,ns,x4,x5,hw,h9=>by
  have h9:GL.length+(hs.length+1)<=99:=h9;obtain⟨d,n1,y5,e1,r1⟩:=aaK hn ns hf h GL (by omega) (hw xss bo) x1 x5;obtain⟨ps,n2,z4,z5,e2,l2,r2⟩:=Xo hn hf h x1 hs (GL++[d.pv fs]) n1 (some (.pv (bX xss))) y5 (λy hy=>hw y (ay _ hy)) (by rw[bj,kj];omega);refine⟨(d,xss)::ps,n2,z4,z5,?_,by rw[av,l2],λp hp=>?_⟩
  .rw[jf]at e2
   rw[av,dY];simp only[gN,dw,cw];rw[e1];exact e2
  .rcases cf.mp hp with rfl |hp
   .exact r1
   .exact r2 p hp
theorem A4{n:Nat}(hn:n=2\/n=3)(ns:AS){fs:List (Int×Int)}(hf:fs.length=n)(h:∀u∈fs,Sp u){hs:AU}(hw:∀xss∈hs,Rw n xss)(h9:hs.length<=90):∃(ps:List (Pc×AT))(ns':AS),rT [.ref 0,.pv (.lst (hs.map bX)),.pv (.lst (fs.map fv))] [.lst (li ns)]=.ok (.ref 1) [.lst (li ns'),.lst (ps.map λp=>p.1.pv fs)]/\ps.map (·.2)=hs/\∀p∈ps,Pl n p:=by
 obtain⟨ps,n2,y4,y5,e2,l2,r2⟩:=Xo hn hf h (some (.pv (.lst (hs.map bX)))) hs [] ns none none hw (by show 0+hs.length<=99;omega);refine⟨ps,n2,?_,l2,r2⟩;rw[ib]at e2;have hb:Aa=(aI (aP 3 (eJ aD)) (aI (bI (bD (aA 1)) (gN 4) lB) (bF (aA 3)))):=rfl;unfold rT aR;rw[hb];generalize fs.map fv=FL,hs.map bX=HL,(ps.map λp=>p.1.pv fs)=GL,lB=LB at *;simp! [aE,aV,aW,aO,aK,aN,aL,aM,aF,aJ,eJ,jU,bI,bD,bT,e2]
theorem qQ{m:Int}(m0:0<m)(m1:m<=2000)(ns:AS)(R:aG):∃(v:Int)(ns':AS),cQ [.ref 0,.pv (.int m)] (.lst (li ns)::R)=.ok (.pv (.int v)) (.lst (li ns')::R)/\0<=v/\v<m:=by
 obtain⟨t,n1,e1,t0,t1,_⟩:=iZ (S:=.lst (li ns)::R) (m:=m) (show fA (.lst (li ns)::R) 0 ns from rfl) m0 ((Bd.of (k:=11) (n:=2000) (by omega) (by decide)).mono (by decide));exact⟨t,n1,e1,t0,t1⟩
theorem Gi{n:Nat}{L:AS}{b:Int}(hl:L.length=n)(b0:0<b)(b1:b<=1041537223)(hL:∀x∈L,-(3*b)<=x/\x<=3*b):∃(zs:AS)(w:Int),low (L++[b])=zs++[w]/\Pq n 60 zs w/\(∀j,j<n->-1000000<=((zs++[w]).getD j 0).fdiv w/\((zs++[w]).getD j 0).fdiv w<=1000000)/\∀S,fW [.pv (.lst ((L++[b]).map .int))] S=.ok (.pv (tv (zs++[w]))) S:=by
 have bb:Bd 60 b:=(Bd.of (k:=30) (n:=1041537223) (by omega) (by decide)).mono (by decide);have bx:∀x∈L,Bd 60 x:=λx hx=>(Bd.of (k:=32) (n:=3124611669) (by have:=hL x hx;omega) (by decide)).mono (by decide);obtain⟨zs,w,e,P,rel⟩:=oC b0 hl bx bb;refine⟨zs,w,e,P,λj hj=>?_,λS=>?_⟩
 .rw[vR P.len hj]
  have r:=rel j hj;have w0:=P.pos;have hx:-(3*b)<=L.getD j 0/\L.getD j 0<=3*b:=by
   rw[cu,au (show j<L.length by omega)];exact hL _ (fj _)
  have f0:=qx (zs.getD j 0) w0;have f1:=ym (zs.getD j 0) w0;have fm:(zs.getD j 0).fmod w+w*(zs.getD j 0).fdiv w=zs.getD j 0:=rk _ w;generalize L.getD j 0=l,zs.getD j 0=z at *;generalize z.fdiv w=q,z.fmod w=f at *;clear e P rel bx hL;have u1:z<=3*w:=by
   refine AI (a:=b) ?_ b0;rw[r];have:=ko hx.2 (jd w0);have e:3*w*b=3*b*w:=by grind
   omega
  have u2:-(3*w)<=z:=by
   refine AI (a:=b) ?_ b0;rw[r];have:=ko hx.1 (jd w0);have e:-(3*w)*b=-(3*b)*w:=by grind
   omega
  constructor
  .by_cases c:-1000000<=q
   .exact c
   .have:=AJ (show q<=-10 by omega) (jd w0)
    omega
  .by_cases c:q<=1000000
   .exact c
   .have:=AJ (show 10<=q by omega) (jd w0)
    omega
 .rw[<-e]
  exact nQ (L++[b]) S λx hx=>by
   rcases ck.mp hx with y |y
   .exact(bx x y).mono (by decide)
   .rw[km.mp y]
    exact bb.mono (by decide)
theorem Zg{U:Int}(U0:1<=U)(U1:U<=4):∀(is:BA)(ns:AS)(x:BC),∃(xs ns':AS),bZ [] (gN 0) (aC dG (aQ cQ [] (aB (aA 1) (aB (aC aF (aC aS (mC (.int 4)) (aA 2)) (mC (.int 1))) aD))) (aC aS (mC (.int 2)) (aA 2))) is [x,some (.ref 0),some (.pv (.int U))] [.lst (li ns)]=.ok (xs.map .int) [.lst (li ns')]/\xs.length=is.length/\∀x∈xs,-(3*U)<=x/\x<=3*U
 |[],ns,x=>⟨[],ns,dZ,rfl,λ_ h=>absurd h fe⟩
 |i::is,ns,x=>by
  obtain⟨t,n1,e1,t0,t1⟩:=qQ (m:=4*U+1) (by omega) (by omega) ns [];obtain⟨xs,n2,e2,l2,b2⟩:=Zg U0 U1 is n1 (some (.pv i));have m2:aS (.int 2) (.int U)=some (.int (2*U)):=iS (.inl (.inl ⟨by decide,by decide⟩));have m4:aS (.int 4) (.int U)=some (.int (4*U)):=iS (.inl (.inl ⟨by decide,by decide⟩));refine⟨(t-2*U)::xs,n2,?_,by simp[l2],λy hy=>?_⟩
  .rw[eE]
   simp! [aE,aV,aW,aO,aK,aN,aL,aM,aF,aJ,gN,m2,m4,e1,e2]
  .rcases cf.mp hy with rfl |hy
   .omega
   .exact b2 y hy
abbrev tN:MS:=(dS (dI (aA 5) (aB (aC aF (aC aS (aC aF (mC (.int 1)) (aQ cQ [] (aB (aA 0) (aB (aC dG (aA 4) (mC (.int 1))) aD)))) (aC dW (aA 2) (aA 4))) (aC aS (aC dG (aQ cQ [] (aB (aA 0) (aB (mC (.int 5)) aD))) (mC (.int 2))) (aA 2))) aD)))
theorem Wl{U:Int}(U0:0<U)(U1:U<=1041537223)(x1 x3:BC):∀(ps:AS)(L ns:AS)(x4:BC),(∀p∈ps,2<=p/\p<=1019)->L.length+ps.length<=9->(∀x∈L,-(3*U)<=x/\x<=3*U)->∃(L' ns':AS)(y4:BC),cJ [] (gN 4) tN (ps.map .int) [some (.ref 0),x1,some (.pv (.int U)),x3,x4,some (.ref 1)] [.lst (li ns),.lst (L.map .int)]=.nx [some (.ref 0),x1,some (.pv (.int U)),x3,y4,some (.ref 1)] [.lst (li ns'),.lst (L'.map .int)]/\L'.length=L.length+ps.length/\∀x∈L',-(3*U)<=x/\x<=3*U
 |[],L,ns,x4,_,_,h=>⟨L,ns,x4,fF,rfl,h⟩
 |p::ps,L,ns,x4,hp,hl,h=>by
  simp only[cv]at hl;have p0:=hp p (by simp);obtain⟨t,n1,e1,t0,t1⟩:=qQ (m:=p-1) (by omega) (by omega) ns [.lst (L.map .int)];obtain⟨v,n2,e2,v0,v1⟩:=qQ (m:=5) (by decide) (by decide) n1 [.lst (L.map .int)];have bp:Bd 8000 p:=(Bd.of (k:=11) (n:=2000) (by omega) (by decide)).mono (by decide);have fd:dW (.int U) (.int p)=some (.int (U.fdiv p)):=jL ⟨by omega,bp⟩;have f0:=qx U (show 0<p by omega);have fm:U.fmod p+p*U.fdiv p=U:=rk _ p;have q0:0<=U.fdiv p:=Int.fdiv_nonneg (jd U0) (by omega);generalize U.fmod p=f,U.fdiv p=q at *;have a1:0<=(1+t)*q:=AH (by omega) q0;have a2:(1+t)*q<=p*q:=ko (by omega) q0;have a3:(v-2)*U<=2*U:=ko (by omega) (jd U0);have a4:-2*U<=(v-2)*U:=ko (by omega) (jd U0);have q1:q<=U:=by
   have:=ko (show 1<=p by omega) q0;omega
  have m1:=dR (show Bd 11 (1+t) from Bd.of (n:=2000) (by omega) (by decide)) (show Bd 30 q from Bd.of (n:=1041537223) (by omega) (by decide));have m2:=dR (show Bd 11 (v-2) from Bd.of (n:=2000) (by omega) (by decide)) (show Bd 30 U from Bd.of (n:=1041537223) (by omega) (by decide));obtain⟨L',n3,y4,e3,l3,b3⟩:=Wl U0 U1 x1 x3 ps (L++[(1+t)*q+(v-2)*U]) n2 (some (.pv (.int p))) (λp h=>hp p (ay _ h)) (by rw[bj];simp;omega) (λx hx=>by
   rcases ck.mp hx with y |y
   .exact h x y
   .rw[km.mp y]
    omega)
  refine⟨L',n3,y4,?_,by rw[l3,bj];simp;omega,b3⟩;have lz:(L.map PV.int).length<16777216:=by rw[aj];omega
  have st:tN [some (.ref 0),x1,some (.pv (.int U)),x3,some (.pv (.int p)),some (.ref 1)] [.lst (li ns),.lst (L.map .int)]=.nx [some (.ref 0),x1,some (.pv (.int U)),x3,some (.pv (.int p)),some (.ref 1)] [.lst (li n2),.lst ((L++[(1+t)*q+(v-2)*U]).map .int)]:=by
   have ep:(L++[(1+t)*q+(v-2)*U]).map PV.int=L.map PV.int++[.int ((1+t)*q+(v-2)*U)]:=by simp
   rw[ep];generalize L.map PV.int=LL at *;unfold tN;simp! [aE,aV,aW,aO,aK,aN,aL,aM,aF,aJ,e1,e2,fd,m1,m2,dI,eZ,iD,lz]
  rw[av,dY];simp only[gN,dw,cw];rw[st];exact e3
theorem E9{n:Nat}(hn:n=2\/n=3)(ns:AS):∃(zs:AS)(w:Int)(ns':AS),mJ [.ref 0,.pv (.int (n:Int))] [.lst (li ns)]=.ok (.pv (tv (zs++[w]))) [.lst (li ns')]/\Pq n 60 zs w/\∀j,j<n->-1000000<=((zs++[w]).getD j 0).fdiv w/\((zs++[w]).getD j 0).fdiv w<=1000000:=by
 obtain⟨c,n1,e1,c0,c1⟩:=qQ (m:=2) (by decide) (by decide) ns []
 by_cases h:c=1
 .subst h
  obtain⟨u,n2,e2,u0,u1⟩:=qQ (m:=4) (by decide) (by decide) n1 [];obtain⟨L,n3,e3,l3,b3⟩:=Zg (U:=1+u) (by omega) (by omega) (cS 0 n) n2 none;have li3:L.length=n:=by rw[l3];unfold cS;simp
  obtain⟨zs,w,_,P,fl,el⟩:=Gi li3 (show 0<1+u by omega) (by omega) b3;refine⟨zs,w,n3,?_,P,fl⟩;have el:=el [.lst (li n3)];rw[dz]at el;have rg:=kJ [.lst (li n2)] (n:=n) (by omega);have lz:(L.map PV.int).length+1<=16777216:=by rw[aj];omega
  generalize (n:Int)=N,cS 0 n=IP,L.map PV.int=LL,tv (zs++[w])=TZ at *;simp only[av,cg]at el;unfold mJ aR vF;simp! [aE,aV,aW,aO,aK,aN,aL,aM,aF,aJ,e1,e2,bB,cD,cM,rg,e3,el,lz]
 .have c2:(c==1)=false:=by simpa using h
  have fin:∀(ps:AS)(U:Int),ps.length=n->(∀p∈ps,2<=p/\p<=1019)->0<U->U<=1041537223->gB (.lst [.int 1009,.int 1013,.int 1019]) none (some (n:Int))=some (.lst (ps.map .int))->(∀x1 x3 S,∃y4,cJ [] (gN 4) (aP 2 (aC aS (aA 2) (aA 4))) (ps.map .int) [some (.ref 0),x1,some (.pv (.int 1)),x3,none,none] S=.nx [some (.ref 0),x1,some (.pv (.int U)),x3,y4,none] S)->∃(zs:AS)(w:Int)(ns':AS),mJ [.ref 0,.pv (.int (n:Int))] [.lst (li ns)]=.ok (.pv (tv (zs++[w]))) [.lst (li ns')]/\Pq n 60 zs w/\∀j,j<n->-1000000<=((zs++[w]).getD j 0).fdiv w/\((zs++[w]).getD j 0).fdiv w<=1000000:=λps U lp hp U0 U1 sl pr=>by
   obtain⟨y4,pr⟩:=pr (some (.pv (.int (n:Int)))) (some (.pv (.lst (ps.map .int)))) [.lst (li n1)];obtain⟨L,n3,z4,e3,l3,b3⟩:=Wl U0 U1 (some (.pv (.int (n:Int)))) (some (.pv (.lst (ps.map .int)))) ps [] n1 y4 hp (by rw[lp];simp;omega) (λ_ h=>absurd h fe);rw[cg]at e3;have li3:L.length=n:=by rw[l3,lp];simp
   obtain⟨zs,w,_,P,fl,el⟩:=Gi li3 U0 U1 b3;refine⟨zs,w,n3,?_,P,fl⟩;have el:=el [.lst (li n3),.lst (L.map .int)];rw[dz]at el;have lz:(L.map PV.int).length+1<=16777216:=by rw[aj];omega
   generalize (n:Int)=N,ps.map PV.int=PL,L.map PV.int=LL,tv (zs++[w])=TZ at *;simp only[av,cg]at el;have hb:vF=(aI (cK (bH (aC cZ (aQ cQ [] (aB (aA 0) (aB (mC (.int 2)) aD))) (mC (.int 1)))) (aI (aP 2 (aC aF (mC (.int 1)) (aQ cQ [] (aB (aA 0) (aB (mC (.int 4)) aD))))) (bF (aQ fW [] (aB (aC aF (bB ["_law_k"] [(0,"_law_row_here"),(2,"_law_under")] (cM (aB (aA 1) aD)) (gN 0) (aC dG (aQ cQ [] (aB (aA 1) (aB (aC aF (aC aS (mC (.int 4)) (aA 2)) (mC (.int 1))) aD))) (aC aS (mC (.int 2)) (aA 2)))) (mN eC (aB (aA 2) aD))) aD)))) dE) (aI (aP 3 (cF (mN eC (aB (mC (.int 1009)) (aB (mC (.int 1013)) (aB (mC (.int 1019)) aD)))) cE (cG (aA 1)))) (aI (aP 2 (mC (.int 1))) (aI (bI (bD (aA 3)) (gN 4) (aP 2 (aC aS (aA 2) (aA 4)))) (aI (aP 5 (eJ aD)) (aI (bI (bD (aA 3)) (gN 4) tN) (bF (aQ fW [] (aB (aC aF (aA 5) (mN eC (aB (aA 2) aD))) aD))))))))):=rfl;unfold mJ;rw[hb];generalize tN=OB at *;apply wL (v:=.pv TZ) (S':=[.lst (li n3),.lst LL]) rfl
   .refine sq (ρ':=[some (.ref 0),some (.pv (.int N)),none,none,none,none]) (S':=[.lst (li n1)]) ?_ ?_
    .simp! [aE,aV,aW,aO,aK,aN,aL,aM,aF,aJ,gZ,e1,c2]
    apply sq;simp! [aE,aV,aW,aO,aK,aN,aL,aM,aF,aJ,cF,cE,cG,eN,sl];exact⟨rfl,rfl⟩;apply sq;simp! [aE,aV,aW,aO,aK,aN,aL,aM,aF,aJ];exact⟨rfl,rfl⟩;refine sq (ρ':=[some (.ref 0),some (.pv (.int N)),some (.pv (.int U)),some (.pv (.lst PL)),y4,none]) (S':=[.lst (li n1)]) ?_ ?_
    .simp! [bC,aK,aN,aL,aM,aF,aJ,bI,bD,bT,pr]
    apply sq;simp! [aE,aV,aW,aO,aK,aN,aL,aM,aF,aJ,eJ,jU];exact⟨rfl,rfl⟩;refine sq (ρ':=[some (.ref 0),some (.pv (.int N)),some (.pv (.int U)),some (.pv (.lst PL)),z4,some (.ref 1)]) (S':=[.lst (li n3),.lst LL]) ?_ ?_
    .simp! [bC,aK,aN,aL,aM,aF,aJ,bI,bD,bT,e3]
    .simp! [bC,aK,aN,aL,aM,aF,aJ,el,lz]
   .simp[jT]
  have m1:aS (.int 1) (.int 1009)=some (.int 1009):=iS (.inl (.inl ⟨by decide,by decide⟩));have m2:aS (.int 1009) (.int 1013)=some (.int 1022117):=dR (k:=11) (l:=11) (Bd.of (n:=2000) (by decide) (by decide)) (Bd.of (n:=2000) (by decide) (by decide));have m3:aS (.int 1022117) (.int 1019)=some (.int 1041537223):=dR (k:=21) (l:=11) (Bd.of (n:=2000000) (by decide) (by decide)) (Bd.of (n:=2000) (by decide) (by decide));rcases hn with rfl |rfl
  .refine fin [1009,1013] 1022117 rfl (by decide) (by decide) (by decide) rfl λx1 x3 S=>⟨some (.pv (.int 1013)),?_⟩
   simp! [aE,aV,aW,aO,aK,aN,aL,aM,aF,aJ,dY,fF,gN,m1,m2]
  .refine fin [1009,1013,1019] 1041537223 rfl (by decide) (by decide) (by decide) rfl λx1 x3 S=>⟨some (.pv (.int 1019)),?_⟩
   simp! [aE,aV,aW,aO,aK,aN,aL,aM,aF,aJ,dY,fF,gN,m1,m2,m3]
theorem Oz{th ss v s w B u1 u2 T x A E:Int}(hE:0<E)(hs:0<s)(hw:0<w)(r:th*(s*w)=ss*v)(a:ss*(E*1)=(A*x+0*1)*s)(p:1*A*u2=1*E*u1)(c:T*w=x*B):th*(B*u2)=T*u1*v:=by
 refine qy (jl (aq (aq hs hw) hE)) ?_
 calc th*(B*u2)*(s*w*E)=(th*(s*w))*(B*u2*E):=by grind
  _=ss*v*(B*u2*E):=by rw[r]
  _=(ss*(E*1))*(v*B*u2):=by grind
  _=(A*x+0*1)*s*(v*B*u2):=by rw[a]
  _=(1*A*u2)*(x*B)*(s*v):=by grind
  _=(1*E*u1)*(T*w)*(s*v):=by rw[p,c]
  _=T*u1*v*(s*w*E):=by grind
theorem Fy{n:Nat}(hn:n=2\/n=3){fs:List (Int×Int)}(hf:fs.length=n)(h:∀u∈fs,Sp u){zs:AS}{w:Int}(P:Pq n 60 zs w):∃(ss:AS)(s:Int)(th:AS),ss.length=n/\Bd 160 s/\(∀S,jM [.pv (tv zs),.pv (.lst (fs.map fv))] S=.ok (.pv (tv (ss++[s]))) S)/\(∀S,fW [.pv (tv (ss++[s*w]))] S=.ok (.pv (tv th)) S)/\∀S,kB [.pv (tv th),.pv (.tup (fs.map fv))] S=.ok (.pv (tv (zs++[w]))) S:=by
 have sp:=λS=>Lp (k:=60) (by decide) hn S hf h P.len P.bx (V:=tv zs) (.inr rfl);obtain⟨_,⟨ss,s,es,Q⟩,af⟩:=sp [];rw[es]at af;have ka:=vY af;have bs:Bd 160 s:=Q.bw.mono (by decide);have bw:=(Q.bw.mul P.bw).mono (show 60+97+60<=220 by decide);have bss:∀x∈ss,Bd 220 x:=λx hx=>(Q.bx x hx).mono (by decide);obtain⟨th,v,el,R,rel⟩:=oC (aq Q.pos P.pos) Q.len bss bw;obtain⟨fz,rd⟩:=Qx hn P (by decide);refine⟨ss,s,th++[v],Q.len,bs,λS=>?_,λS=>?_,λS=>?_⟩
 .rw[<-es]
  exact(sp S).1
 .rw[<-el]
  exact Zs (ss++[s*w]) S λx hx=>by
   rcases ck.mp hx with y |y
   .exact(bss x y).mono (by decide)
   .rw[km.mp y]
    exact bw.mono (by decide)
 .have e:=zX hn R (by decide) hf h (ab:=zs.map λx=>(pT w x,pB w x)) (by rw[aj,P.len]) (λu hu=>by
   refine⟨fz u hu,?_⟩;obtain⟨x,hx,rfl⟩:=ax.mp hu;exact(wM P.pos P.bw (P.bx x hx)).2.2.2.2) (λj hj=>by
   have hj2:j<zs.length:=by rw[P.len];exact hj
   have ea:(zs.map λx=>(pT w x,pB w x)).getD j (0,1)=(pT w (zs.getD j 0),pB w (zs.getD j 0)):=by
    rw[cu,dj,cu,au hj2];rfl
   have bx:Bd 60 (zs.getD j 0):=by
    rw[cu,au hj2];exact P.bx _ (fj hj2)
   rw[ea];exact Oz (vJ hn hf h).1 Q.pos P.pos (rel j hj) (ka j hj) (Dm hn hf 1 hj) (zU P.pos P.bw bx)) S
  rw[rd]at e;exact e
abbrev oP:MS:=(aI (aP 7 (aQ mJ [] (aB (aA 1) (aB (aA 2) aD)))) (aI (aP 8 (bB ["_law_corners"] [(7,"_law_p")] (bD (aA 4)) (gN 0) (aQ lE [] (aB (aA 0) (aB (aA 1) aD))))) (aI (aP 9 (mN dL (aB (mC (.int 1)) (aB (mC (.bl true)) aD)))) (aI (cK (bH (aC mY (mC .non) (aA 8))) (aP 9 (mN dL (aB (mC (.int 0)) (aB (mR kI (aB (aA 8) aD)) aD)))) dE) (aI (aP 10 (aQ jM [] (aB (cF (aA 7) cE (cG (aA 2))) (aB (aA 3) aD)))) (aI (aP 10 (aQ fW [] (aB (aC aF (cF (aA 10) cE (cG (aA 2))) (mN dL (aB (aC aS (aC aE (aA 10) (aA 2)) (aC aE (aA 7) (aA 2))) aD))) aD))) (aI (aP 11 (aQ kC [] (aB (aA 5) (aB (mR fM (aB (aA 3) aD)) (aB (aA 10) aD))))) (aI (cK (qM (bH (aC jF (aA 11) (aA 9))) (iM (sV (bH (aQ nS [] (aB (aC aE (aA 11) (mC (.int 1))) aD)))) (bH (aC cZ (aC aE (aA 11) (mC (.int 0))) (mC (.int 0)))))) (bF (mC (.bl false))) dE) (cK (bH (aC jF (aQ kC [] (aB (aA 5) (aB (mR fM (aB (aA 3) aD)) (aB (aA 10) aD)))) (aA 9))) (bF (mC (.bl false))) dE)))))))))
abbrev rq(x0:BC)(N:Int)(FL HL:BA)(A:PV)(x6 x7 x8 x9 x10 x11:BC):bP:=[x0,some (.ref 0),some (.pv (.int N)),some (.pv (.lst FL)),some (.pv (.lst HL)),some (.pv A),x6,x7,x8,x9,x10,x11]
theorem Jw(S:aG):nS [.pv (.bl true)] S=.ok (.pv (.bl false)) S:=by
 unfold nS aR uP;simp! [aE,aV,aW,aO,aK,aN,aL,aM,aF,aJ,kG,pZ]
theorem O7{FL HL PL P1 Z1 S1 S2:BA}{A TT D:PV}{N s w sw:Int}{x0 x6 x7 x8 x9 x10 x11:BC}{ns n1:AS}(e1:mJ [.ref 0,.pv (.int N)] [.lst (li ns)]=.ok (.pv (.tup P1)) [.lst (li n1)])(e2:bZ [] (gN 0) (aQ lE [] (aB (aA 0) (aB (aA 1) aD))) HL [none,some (.pv (.tup P1))] [.lst (li n1)]=.ok PL [.lst (li n1)])(sl1:gB (.tup P1) none (some N)=some (.tup Z1))(e3:jM [.pv (.tup Z1),.pv (.lst FL)] [.lst (li n1)]=.ok (.pv (.tup S1)) [.lst (li n1)])(sl2:gB (.tup S1) none (some N)=some (.tup S2))(i1:aE (.tup S1) (.int N)=some (.int s))(i2:aE (.tup P1) (.int N)=some (.int w))(m:aS (.int s) (.int w)=some (.int sw))(z1:¬S2=[])(z2:S2.length<=16777215)(e4:fW [.pv (.tup (S2++[.int sw]))] [.lst (li n1)]=.ok (.pv TT) [.lst (li n1)])(ea:kC [.pv A,.pv (.tup FL),.pv TT] [.lst (li n1)]=.ok (.pv D) [.lst (li n1)])
  (hD:(PL.any kT=true/\D=.tup [.int 1,.bl true])\/(PL.any kT=false/\∃K,kI [.lst PL]=some (.int K)/\D=.tup [.int 0,.int K])):∃y7 y8 y9 y10 y11,oP (rq x0 N FL HL A x6 x7 x8 x9 x10 x11) [.lst (li ns)]=.nx (rq x0 N FL HL A x6 y7 y8 y9 y10 y11) [.lst (li n1)]:=by
 refine⟨some (.pv (.tup P1)),some (.pv (.lst PL)),some (.pv D),some (.pv TT),some (.pv D),?_⟩;unfold oP rq;have w1:=Jw [.lst (li n1)];rcases hD with⟨hn,rfl⟩|⟨hn,K,hs,rfl⟩
 .have nn:mY .non (.lst PL)=some (.bl false):=by show some (PV.bl (!(PL.any kT)))=_;rw[hn];rfl
  have j0:aE (.tup [.int 1,.bl true]) (.int 0)=some (.int 1):=jO (j:=0) rfl;have j1:aE (.tup [.int 1,.bl true]) (.int 1)=some (.bl true):=jO (j:=1) rfl;have ne:aO 8 (.tup [.int 1,.bl true]) (.tup [.int 1,.bl true])=some true:=by simp! [aE,aV,aW,aO,aK,aN,aL,aM,aF,aJ,aO,T6,jQ]
  generalize hDD:PV.tup [.int 1,.bl true]=DD at *;apply sq;simp! [bC,aK,aN,aL,aM,aF,aJ,e1];exact⟨rfl,rfl⟩;apply sq;simp! [bC,aK,aN,aL,aM,aF,aJ,bB,cD,bD,bT,e2];exact⟨rfl,rfl⟩;refine sq (ρ':=[x0,some (.ref 0),some (.pv (.int N)),some (.pv (.lst FL)),some (.pv (.lst HL)),some (.pv A),x6,some (.pv (.tup P1)),some (.pv (.lst PL)),some (.pv DD),x10,x11]) (S':=[.lst (li n1)]) (by rw[<-hDD];simp! [bC,aK,aN,aL,aM,aF,aJ]) ?_;apply sq;simp! [bC,aK,aN,aL,aM,aF,aJ,nn];exact⟨rfl,rfl⟩;apply sq;simp! [bC,aK,aN,aL,aM,aF,aJ,cF,cE,cG,eN,sl1,e3];exact⟨rfl,rfl⟩;apply sq;simp! [bC,aK,aN,aL,aM,aF,aJ,cF,cE,cG,eN,sl2,i1,i2,m,z1,z2,e4];exact⟨rfl,rfl⟩;apply sq;simp! [bC,aK,aN,aL,aM,aF,aJ,ea];exact⟨rfl,rfl⟩;refine sq (ρ':=[x0,some (.ref 0),some (.pv (.int N)),some (.pv (.lst FL)),some (.pv (.lst HL)),some (.pv A),x6,some (.pv (.tup P1)),some (.pv (.lst PL)),some (.pv DD),some (.pv TT),some (.pv DD)]) (S':=[.lst (li n1)]) ?_ ?_
  .simp! [bC,aK,aN,aL,aM,aF,aJ,j0,j1,ne,w1]
  .simp! [bC,aK,aN,aL,aM,aF,aJ,ea,ne]
 .have nn:mY .non (.lst PL)=some (.bl true):=by show some (PV.bl (!(PL.any kT)))=_;rw[hn];rfl
  have j0:aE (.tup [.int 0,.int K]) (.int 0)=some (.int 0):=jO (j:=0) rfl;have j1:aE (.tup [.int 0,.int K]) (.int 1)=some (.int K):=jO (j:=1) rfl;have ne:aO 8 (.tup [.int 0,.int K]) (.tup [.int 0,.int K])=some true:=by simp! [aE,aV,aW,aO,aK,aN,aL,aM,aF,aJ,aO,jQ]
  have w2:=Cw K [.lst (li n1)];generalize hDD:PV.tup [.int 0,.int K]=DD at *;apply sq;simp! [bC,aK,aN,aL,aM,aF,aJ,e1];exact⟨rfl,rfl⟩;apply sq;simp! [bC,aK,aN,aL,aM,aF,aJ,bB,cD,bD,bT,e2];exact⟨rfl,rfl⟩;apply sq;simp! [bC,aK,aN,aL,aM,aF,aJ];exact⟨rfl,rfl⟩;refine sq (ρ':=[x0,some (.ref 0),some (.pv (.int N)),some (.pv (.lst FL)),some (.pv (.lst HL)),some (.pv A),x6,some (.pv (.tup P1)),some (.pv (.lst PL)),some (.pv DD),x10,x11]) (S':=[.lst (li n1)]) (by rw[<-hDD];simp! [bC,aK,aN,aL,aM,aF,aJ,nn,hs]) ?_;apply sq;simp! [bC,aK,aN,aL,aM,aF,aJ,cF,cE,cG,eN,sl1,e3];exact⟨rfl,rfl⟩;apply sq;simp! [bC,aK,aN,aL,aM,aF,aJ,cF,cE,cG,eN,sl2,i1,i2,m,z1,z2,e4];exact⟨rfl,rfl⟩;apply sq;simp! [bC,aK,aN,aL,aM,aF,aJ,ea];exact⟨rfl,rfl⟩;refine sq (ρ':=[x0,some (.ref 0),some (.pv (.int N)),some (.pv (.lst FL)),some (.pv (.lst HL)),some (.pv A),x6,some (.pv (.tup P1)),some (.pv (.lst PL)),some (.pv DD),some (.pv TT),some (.pv DD)]) (S':=[.lst (li n1)]) ?_ ?_
  .simp! [bC,aK,aN,aL,aM,aF,aJ,j0,j1,ne,w2]
  .simp! [bC,aK,aN,aL,aM,aF,aJ,ea,ne]
theorem Dq{n:Nat}(hn:n=2\/n=3){zs:AS}(hl:zs.length=n)(w:Int):gB (tv (zs++[w])) none (some (n:Int))=some (tv zs)/\aE (tv (zs++[w])) (.int (n:Int))=some (.int w)/\¬zs.map PV.int=[]/\(zs.map PV.int).length<=16777215:=by
 rcases hn with rfl |rfl
 .match zs,hl with
  |[a,b],_=>exact⟨rfl,jO (j:=2) rfl,by simp⟩
 .match zs,hl with
  |[a,b,c],_=>exact⟨rfl,jO (j:=3) rfl,by simp⟩
theorem Bk:∀L:List Nat,(L.map λk:Nat=>(k:Int)).sum=((L.sum:Nat):Int)
 |[]=>rfl
 |a::L=>by rw[av,kn,Bk L,kn];omega
def jX(n:Nat)(zs:AS)(w:Int)(xss:AT):PV:=@ite PV (∃t∈dD ((ak n).map (eP (zs++[w]) w (mj xss) (Mj xss))),eB (xss.map (·++[1])) (zs++[w]) t=0) (nr _) .non (.int (((dD ((ak n).map (eP (zs++[w]) w (mj xss) (Mj xss)))).map (eB (xss.map (·++[1])) (zs++[w]))).count 1:Nat))
theorem G9{n:Nat}(hn:n=2\/n=3){zs:AS}{w:Int}(P:Pq n 60 zs w)(fl:∀j,j<n->-1000000<=((zs++[w]).getD j 0).fdiv w/\((zs++[w]).getD j 0).fdiv w<=1000000){p:Pc×AT}(hp:Pl n p)(S:aG):lE [.pv (bX p.2),.pv (tv (zs++[w]))] S=.ok (.pv (jX n zs w p.2)) S:=by
 have hl:p.2.length=n+1:=by rw[<-hp.pm.length_eq];exact hp.g.len
 have hy:∀y∈p.2,y.length=n/\∀x∈y,0<=x/\x<=2:=λy h=>hp.g.ok y (hp.pm.mem_iff.mpr h);unfold jX;rcases Nt hn P (by decide) hl hy fl (m:=mj p.2) (M:=Mj p.2) (λj hj=>(Bo hl hy hj).1) S with⟨a,e⟩|⟨a,e⟩
 .rw[if_pos a]
  exact e
 .rw[if_neg (λ⟨t,ht,h0⟩=>a t ht h0)]
  exact e
theorem Q7{n:Nat}(hn:n=2\/n=3){fs:List (Int×Int)}(hf:fs.length=n)(h:∀u∈fs,Sp u){ps:List (Pc×AT)}(hp:∀p∈ps,Pl n p){A:PV}(hA:Sv A (ps.map λp=>p.1.pv fs))(x0 x6 x7 x8 x9 x10 x11:BC)(ns:AS):∃(ns':AS)(y7 y8 y9 y10 y11:BC),oP (rq x0 n (fs.map fv) ((ps.map (·.2)).map bX) A x6 x7 x8 x9 x10 x11) [.lst (li ns)]=.nx (rq x0 n (fs.map fv) ((ps.map (·.2)).map bX) A x6 y7 y8 y9 y10 y11) [.lst (li ns')]:=by
 obtain⟨zs,w,n1,e1,P,fl⟩:=E9 hn ns;obtain⟨ss,s,th,ls,bs,e3,e4,e5⟩:=Fy hn hf h P;obtain⟨s1,i2,_⟩:=Dq hn P.len w;obtain⟨s2,i1,z1,z2⟩:=Dq hn ls s;have e4:fW [.pv (.tup (ss.map .int++[.int (s*w)]))] [.lst (li n1)]=.ok (.pv (tv th)) [.lst (li n1)]:=by
  have e:=e4 [.lst (li n1)];unfold tv at e⊢;rw[dz]at e;exact e
 have mu:=dR bs P.bw;have e2:bZ [] (gN 0) (aQ lE [] (aB (aA 0) (aB (aA 1) aD))) (ps.map λp=>bX p.2) [none,some (.pv (tv (zs++[w])))] [.lst (li n1)]=.ok (ps.map λp=>jX n zs w p.2) [.lst (li n1)]:=by
  refine jJ (gL _) (λp=>bX p.2) (λp=>jX n zs w p.2) ps none λp hpp=>?_;have e:=G9 hn P fl (hp p hpp) [.lst (li n1)];generalize tv (zs++[w])=T,jX n zs w p.2=V,bX p.2=R at *;simp! [bC,aK,aN,aL,aM,aF,aJ,e]
 have em:(ps.map (·.2)).map bX=ps.map λp=>bX p.2:=by rw[dg];rfl
 have ed:(ps.map λp=>p.1.pv fs)=(ps.map (·.1)).map (Pc.pv fs):=by rw[dg];rfl
 rw[ed]at hA;have cs:=λp (hpp:p∈ps)=>Ox hn P (by decide) (hp p hpp).g (hp p hpp).pm (hp p hpp).ps (hp p hpp).nz fl;have L:=Bu hn hf h P (by decide) [.lst (li n1)] (e5 [.lst (li n1)]) hA (λd hd=>by
  obtain⟨p,hpp,rfl⟩:=ax.mp hd;exact(hp p hpp).g)
 rw[em];have hD:∃D,kC [.pv A,.pv (.tup (fs.map fv)),.pv (tv th)] [.lst (li n1)]=.ok (.pv D) [.lst (li n1)]/\(((ps.map λp=>jX n zs w p.2).any kT=true/\D=.tup [.int 1,.bl true])\/((ps.map λp=>jX n zs w p.2).any kT=false/\∃K,kI [.lst (ps.map λp=>jX n zs w p.2)]=some (.int K)/\D=.tup [.int 0,.int K])):=by
  rcases L with⟨⟨d,hd,a⟩,e⟩|⟨a,e⟩
  .refine⟨_,Yv e,.inl ⟨?_,rfl⟩⟩
   obtain⟨p,hpp,rfl⟩:=ax.mp hd;refine List.any_eq_true.mpr ⟨_,ax.mpr ⟨p,hpp,rfl⟩,?_⟩;unfold jX;rw[if_pos ((cs p hpp).2.mpr a)];rfl
  .have vl:∀p∈ps,jX n zs w p.2=.int (((p.1.sp n (zs.map (·.fmod w)) w).map λz=>bS p.1.Y z).count 1:Nat):=λp hpp=>by
    unfold jX;rw[if_neg (λz=>?_),(cs p hpp).1];obtain⟨t,ht,h0⟩:=(cs p hpp).2.mp z;exact a p.1 (ax.mpr ⟨p,hpp,rfl⟩) t ht h0
   refine⟨_,Hw e,.inr ⟨?_,_,?_,rfl⟩⟩
   .rw[ze]
    intro v hv;obtain⟨p,hpp,rfl⟩:=ax.mp hv;rw[vl p hpp];simp[kT]
   .have e6:(ps.map λp=>jX n zs w p.2)=((ps.map λp=>((p.1.sp n (zs.map (·.fmod w)) w).map λz=>bS p.1.Y z).count 1).map λk:Nat=>(k:Int)).map PV.int:=by
     rw[dg,dg];exact ij vl
    rw[e6,zF,Bk,dg];rfl
 obtain⟨D,eD,hD⟩:=hD;obtain⟨y7,y8,y9,y10,y11,e⟩:=O7 (x0:=x0) (x6:=x6) (x7:=x7) (x8:=x8) (x9:=x9) (x10:=x10) (x11:=x11) e1 e2 s1 (e3 _) s2 i1 i2 mu z1 z2 e4 eD hD;exact⟨n1,y7,y8,y9,y10,y11,e⟩
theorem Bm{n:Nat}(hn:n=2\/n=3){fs:List (Int×Int)}(hf:fs.length=n)(h:∀u∈fs,Sp u){ps:List (Pc×AT)}(hp:∀p∈ps,Pl n p){A:PV}(hA:Sv A (ps.map λp=>p.1.pv fs))(x0:BC):∀(is:BA)(x6 x7 x8 x9 x10 x11:BC)(ns:AS),∃(ns':AS)(y6 y7 y8 y9 y10 y11:BC),cJ [] (gN 6) oP is (rq x0 n (fs.map fv) ((ps.map (·.2)).map bX) A x6 x7 x8 x9 x10 x11) [.lst (li ns)]=.nx (rq x0 n (fs.map fv) ((ps.map (·.2)).map bX) A y6 y7 y8 y9 y10 y11) [.lst (li ns')]
 |[],x6,x7,x8,x9,x10,x11,ns=>⟨ns,x6,x7,x8,x9,x10,x11,fF⟩
 |i::is,x6,x7,x8,x9,x10,x11,ns=>by
  obtain⟨n1,y7,y8,y9,y10,y11,e1⟩:=Q7 hn hf h hp hA x0 (some (.pv i)) x7 x8 x9 x10 x11 ns;obtain⟨n2,z6,z7,z8,z9,z10,z11,e2⟩:=Bm hn hf h hp hA x0 is (some (.pv i)) y7 y8 y9 y10 y11 n1;refine⟨n2,z6,z7,z8,z9,z10,z11,?_⟩;rw[dY];simp only[gN,rq,dw,cw];unfold rq at e1 e2;rw[e1];exact e2
theorem Ux(ns:AS)(h:ns.length<=63):∃S,Fc [.pv (.lst (ns.map .int))] []=.ok (.pv (.bl true)) S:=by
 obtain⟨ms,e0,_⟩:=T5 ns [] h;have e0:pW [.pv (.lst (ns.map .int))] []=.ok (.ref 0) [.lst (li ms)]:=e0;obtain⟨d,n1,e1,d0,d1⟩:=qQ (m:=2) (by decide) (by decide) ms [];obtain⟨n,en,hn⟩:∃n:Nat,2+d=(n:Int)/\(n=2\/n=3):=⟨(2+d).toNat,by omega,by omega⟩;have a2:aF (.int 2) (.int d)=some (.int n):=by rw[aF,en]
 obtain⟨fs,n2,e2,l2,r2⟩:=Ts hn n1;obtain⟨hs,n3,e3,l3,w3⟩:=Bs hn (M:=4) (by decide) n2;have e3:oW [.ref 0,.pv (.int (n:Int)),.pv (.int 4)] [.lst (li n2)]=.ok (.ref 1) [.lst (li n3),.lst (hs.map bX)]:=e3;obtain⟨ps,n4,e4,rfl,r4⟩:=A4 hn n3 l2 r2 w3 (by omega);obtain⟨A,n5,e5,hA⟩:=Gw (L:=ps.map λp=>p.1.pv fs) (show fA [.lst (li n4)] 0 n4 from rfl);have e5:nR [.ref 0,.pv (.lst (ps.map λp=>p.1.pv fs))] [.lst (li n4)]=.ok (.pv A) [.lst (li n5)]:=e5;obtain⟨n6,y6,y7,y8,y9,y10,y11,e6⟩:=Bm hn l2 r2 r4 hA (some (.pv (.lst (ns.map .int)))) [.int 0,.int 1,.int 2] none none none none none none n5;have r3:jD [.pv (.int 3)] [.lst (li n5)]=.ok ([.int 0,.int 1,.int 2],[]) [.lst (li n5)]:=kJ [.lst (li n5)] (n:=3) (by decide);refine⟨[],?_⟩;clear w3 r4 r2 hA l2 l3;generalize (n:Int)=N,ns.map PV.int=NL,fs.map fv=FL,(ps.map (·.2)).map bX=HL,(ps.map λp=>p.1.pv fs)=GL at *;unfold rq at e6;have tF:(bI (cM (aB (mC (.int 3)) aD)) (gN 6) oP) [some (.pv (.lst NL)),some (.ref 0),some (.pv (.int N)),some (.pv (.lst FL)),some (.pv (.lst HL)),some (.pv A),none,none,none,none,none,none] [.lst (li n5)]=.nx [some (.pv (.lst NL)),some (.ref 0),some (.pv (.int N)),some (.pv (.lst FL)),some (.pv (.lst HL)),some (.pv A),y6,y7,y8,y9,y10,y11] [.lst (li n6)]:=by
  generalize oP=LB at *;simp! [bC,aK,aN,aL,aM,aF,aJ,bI,cM,r3,e6]
 have hb:Ac=(aI (aP 1 (pS pW [] (aB (aA 0) aD))) (aI (aP 2 (aC aF (mC (.int 2)) (aQ cQ [] (aB (aA 1) (aB (mC (.int 2)) aD))))) (aI (aP 3 (aQ rC [] (aB (aA 1) (aB (aA 2) aD)))) (aI (aP 4 (aQ oW [] (aB (aA 1) (aB (aA 2) (aB (mC (.int 4)) aD))))) (aI (aP 5 (aQ nR [] (aB (aA 1) (aB (aQ rT [] (aB (aA 1) (aB (aA 4) (aB (aA 3) aD)))) aD)))) (aI (bI (cM (aB (mC (.int 3)) aD)) (gN 6) oP) (bF (mC (.bl true))))))))):=rfl;unfold Fc;rw[hb];apply wL rfl;apply sq;simp! [bC,aK,aN,aL,aM,aF,aJ,gZ,e0];exact⟨rfl,rfl⟩;apply sq;simp! [bC,aK,aN,aL,aM,aJ,e1,a2];exact⟨rfl,rfl⟩;apply sq;simp! [bC,aK,aN,aL,aM,aF,aJ,e2];exact⟨rfl,rfl⟩;apply sq;simp! [bC,aK,aN,aL,aM,aF,aJ,e3];exact⟨rfl,rfl⟩;apply sq;simp! [bC,aK,aN,aL,aM,aF,aJ,e4,e5];exact⟨rfl,rfl⟩;refine sq tF ?_;simp! [bC,aK,aN,aL,aM,aF,aJ];exact⟨rfl,rfl⟩;simp[jT]
theorem hF_k{K:ae}{x:Str}{st:Stmt}{f:Addr}{oc:Value}{od an:AY}{osl:Array AX}{kV doc pm cdv ct:Value}(a:dh K mainGlobals x=some (some (.ref f)):=by k_is)(l:K.lookup f=some ⟨oc,od,.func (fg x x (gD st) (eG st) (cH st) .none kV doc pm an cdv ct),osl⟩:=by k_is)(c:kb K cdv x=true:=by k_is)(k:fh K (.ref f)=true:=by k_is):HF K x st:=aau a l c k
theorem all_mk{l:ox}{w:am}{K:ae}{h:Heap}{mg:Str->AX}{fa:Addr}(X:K.In h)(G:h.Ns mainGlobals mg)(hfa:mg "law"=some (.ref fa))
  (h38:HF K "_law_row" Tm)
  (h39:HF K "_law_take" Ml)
  (h40:HF K "_law_gcd" Cn)
  (h41:HF K "_law_lowest" Rg)
  (h43:HF K "_law_frac" Xk)
  (h56:HF K "_law_stretch" Df)
  (h47:HF K "_law_dot" Jm)
  (h46:HF K "_law_cross" Jj)
  (h48:HF K "_law_turn" El)
  (h52:HF K "_law_raw_turn" Oe)
  (h51:HF K "_law_raw" Nm)
  (h53:HF K "_law_kuhn" Ll)
  (h54:HF K "_law_raw_heap" Pe)
  (h59:HF K "_law_handed" Hh)
  (h55:HF K "_law_far" Mn)
  (h45:HF K "_law_gap" Do)
  (h49:HF K "_law_det" An)
  (h50:HF K "_law_simplex" Rf)
  (h44:HF K "_law_joined" Lg)
  (h57:HF K "_law_spot" Sl)
  (h58:HF K "_law_laid" Zl)
  (h63:HF K "_law_over" Zj)
  (h61:HF K "_law_arrows" Vg)
  (h60:HF K "_law_standing" He)
  (h62:HF K "_law_layers" Jg)
  (h34:HF K "in_first_cell" Od)
  (h10:HF K "divisor" Qg)
  (h11:HF K "reduced" Tg)
  (h9:HF K "sign" Kn)
  (h17:HF K "point_at" Xe)
  (h16:HF K "measures" Ze)
  (h13:HF K "divided" Yg)
  (h32:HF K "in_steps" Of)
  (h18:HF K "added" Rj)
  (h20:HF K "turned" Hi)
  (h19:HF K "lessened" Sf)
  (h33:HF K "folded" Aj)
  (h35:HF K "spots_over" Zd)
  (h21:HF K "whole_arrow" Vd)
  (h22:HF K "dot" Ko)
  (h23:HF K "normal" Zh)
  (h24:HF K "determinant" Ud)
  (h25:HF K "side" Pm)
  (h27:HF K "replaced" Ff)
  (h28:HF K "standing" Jf)
  (h30:HF K "count_at" We)
  (h36:HF K "layers" Wh)
  (h64:HF K "_law_asked" Qh)
  (h42:HF K "_law_whole" Ei)
  {f15:Addr}{od15 an15:AY}{sl15:Array AX}{oc15 kV15 dc15 pm15 cd15 ct15:Value}
  {T15:Addr}{tc15:Value}{td15:AY}{tl15:Array AX}{tn15:Nat}{tt15:Tok}
  (a15:dh K mainGlobals "point"=some (some (.ref f15)))(l15:K.lookup f15=some ⟨oc15,od15,.func (fg "point" "point" (gD rS) (eG rS) (cH rS) (.ref T15) kV15 dc15 pm15 an15 cd15 ct15),sl15⟩)(c15:kb K cd15 "point"=true)(k15:fh K (.ref f15)=true)
  (t15:K.lookup T15=some ⟨tc15,td15,.seq #[.int 1 tt15] tn15,tl15⟩)
  {f12:Addr}{od12 an12:AY}{sl12:Array AX}{oc12 kV12 dc12 pm12 cd12 ct12:Value}
  {T12:Addr}{tc12:Value}{td12:AY}{tl12:Array AX}{tn12:Nat}{tt12:Tok}
  (a12:dh K mainGlobals "fraction"=some (some (.ref f12)))(l12:K.lookup f12=some ⟨oc12,od12,.func (fg "fraction" "fraction" (gD rA) (eG rA) (cH rA) (.ref T12) kV12 dc12 pm12 an12 cd12 ct12),sl12⟩)(c12:kb K cd12 "fraction"=true)(k12:fh K (.ref f12)=true)
  (t12:K.lookup T12=some ⟨tc12,td12,.seq #[.int 1 tt12] tn12,tl12⟩)
  {f65:Addr}{od65 an65:AY}{sl65:Array AX}{oc65 kV65 dc65 pm65 cd65 ct65:Value}
  (a65:dh K mainGlobals "law"=some (some (.ref f65)))(l65:K.lookup f65=some ⟨oc65,od65,.func (fg "law" "law" (gD mS) (eG mS) (cH mS) .none kV65 dc65 pm65 an65 cd65 ct65),sl65⟩)(c65:kb K cd65 "law"=true)(k65:fh K (.ref f65)=true)
  (z1:dh K mainGlobals "abs"=some none)
  (z2:dh K mainGlobals "bool"=some none)
  (z3:dh K mainGlobals "enumerate"=some none)
  (z4:dh K mainGlobals "int"=some none)
  (z5:dh K mainGlobals "isinstance"=some none)
  (z6:dh K mainGlobals "len"=some none)
  (z7:dh K mainGlobals "list"=some none)
  (z8:dh K mainGlobals "max"=some none)
  (z9:dh K mainGlobals "min"=some none)
  (z10:dh K mainGlobals "range"=some none)
  (z11:dh K mainGlobals "sorted"=some none)
  (z12:dh K mainGlobals "sum"=some none)
  (z13:dh K mainGlobals "tuple"=some none)
  (z14:dh K mainGlobals "zip"=some none)
  {C1 C2 C3 C4 C5 C6 C7:Addr}
  (y1:dh K mainGlobals "HallError"=some (some (.ref C1)))(x1:de K C1 eY "ValueError.__new__"=true)
  (y2:dh K mainGlobals "NoBox"=some (some (.ref C2)))(x2:de K C2 eY "ValueError.__new__"=true)
  (y3:dh K mainGlobals "NoNumber"=some (some (.ref C3)))(x3:de K C3 eY "ValueError.__new__"=true)
  (y4:dh K mainGlobals "NoPoint"=some (some (.ref C4)))(x4:de K C4 eY "ValueError.__new__"=true)
  (y5:dh K mainGlobals "NotSame"=some (some (.ref C5)))(x5:de K C5 eY "ValueError.__new__"=true)
  (y6:dh K mainGlobals "OnSide"=some (some (.ref C6)))(x6:de K C6 eY "ValueError.__new__"=true)
  (y7:dh K mainGlobals "OtherSize"=some (some (.ref C7)))(x7:de K C7 eY "ValueError.__new__"=true)
  (u1C6:oq K (.ref C6) "__getattribute__"=some (some (.builtin "BaseException.__getattribute__")))(u2C6:oq K (.ref C6) "__getattr__"=some none)(u3C6:vq K C6 (.type "BaseException")=some true)(u4C6:vq K C6 (.type "object")=some true)
  (u5C6:oq K (.ref C6) "__class__"=some (some (.builtin "object.__class__")))(u6C6:vp K (.builtin "object.__class__") "__get__"=some (some (.builtin "getset_descriptor.__get__")))(u7C6:zh K (.builtin "object.__class__")=some true)(u8C6:zg K C6=true)
  (wOnSide_HallError:gg K (.ref C6) (.ref C1)=some true)
  (wOnSide_NoBox:gg K (.ref C6) (.ref C2)=some false)
  (wOnSide_NotSame:gg K (.ref C6) (.ref C5)=some false)
  (wOnSide_OtherSize:gg K (.ref C6) (.ref C7)=some false)
  :∃fd:br,(∀(s:aa)(v:Value),ot s fd ⟨[v],[]⟩ [("_law_script",v)])/\∀base:Heap,K.In base->base.Ns mainGlobals mg->dQ l.prog w K mg base fH 9 fa fd ["_law_script"] (wG K):=by
 let cl:Str->Addr:=λn=>if n="HallError" then C1 else if n="NoBox" then C2 else if n="NoNumber" then C3 else if n="NoPoint" then C4 else if n="NotSame" then C5 else if n="OnSide" then C6 else if n="OtherSize" then C7 else 0
 have e:=hfa.symm.trans (jp X G a65);cases e;have F15:=Yj (st:=rS) l15 c15 k15 t15 rfl;have b15:=F15.binds (ps:=["numbers","bottom"]) (dd:=[]) λ_ _ _ _ _ _ _ us hl=>match us,hl with |[_,_],_=>⟨_,rfl,rfl⟩
 have n15:=jp X G a15;have F12:=Yj (st:=rA) l12 c12 k12 t12 rfl;have b12:=F12.binds (ps:=["top","bottom"]) (dd:=[]) λ_ _ _ _ _ _ _ us hl=>match us,hl with |[_,_],_=>⟨_,rfl,rfl⟩
 have n12:=jp X G a12;have F65:=Vn (st:=mS) l65 c65 k65;have m:Mg mg:=⟨ja X G z1,ja X G z2,ja X G z3,ja X G z4,ja X G z5,ja X G z6,ja X G z7,ja X G z8,ja X G z9,ja X G z10,ja X G z11,ja X G z12,ja X G z13,ja X G z14⟩;refine⟨fg "law" "law" (gD mS) (eG mS) (cH mS) .none kV65 dc65 pm65 an65 cd65 ct65,λs v=>.of_eq rfl,λbase _ _=>?_⟩
 let B:Bx:=⟨l.prog,w,K,mg,base,cl⟩
 have Xg:XG B.K B.mg:=⟨h,X,G⟩;have m:Mg B.mg:=m;have q_HallError:B.mg "HallError"=some (.ref (B.cl "HallError")):=jp X G y1;have x_HallError:de B.K (B.cl "HallError") eY "ValueError.__new__"=true:=x1;have q_NoBox:B.mg "NoBox"=some (.ref (B.cl "NoBox")):=jp X G y2;have x_NoBox:de B.K (B.cl "NoBox") eY "ValueError.__new__"=true:=x2;have q_NoNumber:B.mg "NoNumber"=some (.ref (B.cl "NoNumber")):=jp X G y3;have x_NoNumber:de B.K (B.cl "NoNumber") eY "ValueError.__new__"=true:=x3;have q_NoPoint:B.mg "NoPoint"=some (.ref (B.cl "NoPoint")):=jp X G y4;have x_NoPoint:de B.K (B.cl "NoPoint") eY "ValueError.__new__"=true:=x4;have q_NotSame:B.mg "NotSame"=some (.ref (B.cl "NotSame")):=jp X G y5;have x_NotSame:de B.K (B.cl "NotSame") eY "ValueError.__new__"=true:=x5;have q_OnSide:B.mg "OnSide"=some (.ref (B.cl "OnSide")):=jp X G y6;have x_OnSide:de B.K (B.cl "OnSide") eY "ValueError.__new__"=true:=x6;have q_OtherSize:B.mg "OtherSize"=some (.ref (B.cl "OtherSize")):=jp X G y7;have x_OtherSize:de B.K (B.cl "OtherSize") eY "ValueError.__new__"=true:=x7;have Z_OnSide:lO B.K (B.cl "OnSide"):=⟨u1C6,u2C6,u3C6,u4C6,u5C6,u6C6,u7C6,(by obtain⟨cd,hc,_⟩:=PySem.W.any_some u8C6;show(PySem.W.clsIn K C6).isSome=true;rw[hc];rfl)⟩;have C38:=Kz Xg m h38;have C39:=Mw Xg m h39;have C40:=F5 Xg m h40;have C41:=Ws Xg m h41 C40;have C43:=Uy Xg m h43 C41;have C56:=Ps Xg m h56 C39 C43;have C47:=G6 Xg m h47;have C46:=Mv Xg m h46;have C48:=Zy Xg m h48 C47 C46;have C52:=Qr Xg m h52 C48;have C51:=Sz Xg m h51 C39 C52;have C53:=Jx Xg m h53 C39;have C54:=Mr Xg m h54 C39 C51 C53;have C59:=Us Xg m h59 C39;have C55:=G8 Xg m h55 C39 C41;have C45:=Yz Xg m h45;have C49:=F4 Xg m h49 C48 C45;have C50:=As Xg m h50 C49;have C44:=Ht Xg m h44 C41;have C57:=Xw Xg m h57 C41;have C58:=Ix Xg m h58 C55 C50 C44 C57;have C63:=Bz Xg m h63 C39 C41;have C61:=Mt Xg m h61;have C60:=Nr Xg m h60 C49;have C62:=Ot Xg m h62 C61 C60 C44;have C34:=Br Xg m h34;have C10:=Rs Xg m h10;have C11:=Tt Xg m h11 C10;have C9:=A8 Xg m h9;have G15:=Kw Xg m F15 C11 C9 q_NoPoint x_NoPoint;have H15:zG B:=Uc G15 b15 k15 n15;have C17:=Xr Xg m h17 H15;have G12:=Yr Xg m F12 C9 C10 q_NoNumber x_NoNumber;have H12:yA B:=Uc G12 b12 k12 n12;have C16:=Qs Xg m h16 H12;have C13:=Zt Xg m h13 H12;have C32:=Es Xg m h32 C17 C16 C13;have C18:=My Xg m h18 H15;have C20:=Su Xg m h20;have C19:=Vr Xg m h19 C18 C20;have C33:=Iv Xg m h33 C32 C19;have C35:=Hr Xg m h35;have C21:=Gr Xg m h21;have C22:=T9 Xg m h22;have C23:=Hu Xg m h23;have C24:=Er Xg m h24 C21 C22 C23;have C25:=B0 Xg m h25 C9 C24;have C27:=Ds Xg m h27;have C28:=Is Xg m h28 C25 C27;have H30:=Ms Xg m h30 C28 q_OnSide x_OnSide;have H36:=Hv Xg m h36 C34 C32 C33 C35 H30;have C64:=Bv Xg m h64 H36 q_HallError x_HallError q_NoBox x_NoBox q_NotSame x_NotSame q_OnSide x_OnSide q_OtherSize x_OtherSize Z_OnSide wOnSide_HallError wOnSide_NoBox wOnSide_NotSame wOnSide_OtherSize;have C42:=Du Xg m h42;exact(P8 Xg m F65 C38 C39 C56 C54 C59 C58 C63 C62 C57 C41 C64 C42).imp λvs H Q E h=>B7 Ux h
theorem walk{l:ox}{q:Program}{loose:List Str}{XP:(Str->AX)->Heap->Prop}{YP:am->Heap->Prop}{d:DefRec}{K:og->ae}(hn:l.most=some 63)(hdf:d.params.defaults=[])
  (hY:∀(w:am)(h:Heap),YP w h->(K w.params).In h)
  (F:∀(w:am)(mg:Str->AX)(fa:Addr)(h:Heap),(K w.params).In h->h.Ns mainGlobals mg->mg d.name=some (.ref fa)->
   ∃fd:br,(∀(s:aa)(u:Value),ot s fd ⟨[u],[]⟩ [("_law_script",u)])/\∀base:Heap,(K w.params).In base->base.Ns mainGlobals mg->dQ l.prog w (K w.params) mg base fH 9 fa fd ["_law_script"] (wG (K w.params))):
  PySem.W.WalkO q loose XP YP l.row.toRowW d [] (λf vs=>ww f vs):=
 L2.walk_of (n:=63) (k:=9) (x:="_law_script") (CX:=λ_=>fH) (sp:=λw=>wG (K w.params)) hn (by decide) hdf ⟨rfl,by decide,by decide⟩ hY F (λ_ _ a ns hl _ hS=>⟨a,ns,rfl,hS,hl,λ_=>rfl⟩) λ_ _ _ _ _ z=>z
end
end Sc
open PySem PySem.W PyProof.Rows
set_option maxRecDepth 100000 in
set_option maxHeartbeats 0 in
theorem PySem.Challenge.cw_scissorhall_k31_layers_counted_holds : PySem.Challenge.rw_scissorhall_k31_layers_counted.Holds := by
 w_on; refine holds_law Sc.wsaid λsaid=>?_
 refine holds_open (q:=Sc.VW) (loose:=[dk "fraction",dk "point"]) (Xt:=λs=>xlAt Sc.VW [] s && recOk (uu (uv (uw qi))) s) (XP:=XL Sc.VW []) (Yf:=uq (kHook Sc.KK Sc.KA Sc.KE)) (Ya:=ur (kHook Sc.KK Sc.KA Sc.KE)) (YP:=Hook.says (kHook Sc.KK Sc.KA Sc.KE)) (N:=6156) Sc.left (Hook.of (kHook Sc.KK Sc.KA Sc.KE)) (Hook.keeps (kHook Sc.KK Sc.KA Sc.KE)) (λs e=>xl_of s (AK.mp e).1) XL.keeps (by rfl) (by rfl) (by rfl) (λs e=>recFacts_of (AK.mp e).2) (by rfl) (by first | assumption | decide +kernel) (by decide +kernel) ⟨rfl,rfl,rfl,rfl,rfl,by decide +kernel⟩ ?hw ?hc
 case hw=>w_witness2
 k_fill
 refine Sc.walk (l:=qi) rfl rfl (λw h Y=>PySem.W.kIn_of Y) ?F
 case F =>
  intro w mg fa h KX G hmg;refine' Sc.all_mk KX G hmg Sc.hF_k Sc.hF_k Sc.hF_k Sc.hF_k Sc.hF_k Sc.hF_k Sc.hF_k Sc.hF_k Sc.hF_k Sc.hF_k Sc.hF_k Sc.hF_k Sc.hF_k Sc.hF_k Sc.hF_k Sc.hF_k Sc.hF_k Sc.hF_k Sc.hF_k Sc.hF_k Sc.hF_k Sc.hF_k Sc.hF_k Sc.hF_k Sc.hF_k Sc.hF_k Sc.hF_k Sc.hF_k Sc.hF_k Sc.hF_k Sc.hF_k Sc.hF_k Sc.hF_k Sc.hF_k Sc.hF_k Sc.hF_k Sc.hF_k Sc.hF_k Sc.hF_k Sc.hF_k Sc.hF_k Sc.hF_k Sc.hF_k Sc.hF_k Sc.hF_k Sc.hF_k Sc.hF_k Sc.hF_k Sc.hF_k ?a15 ?l15 ?c15 ?k15 ?t15 ?a12 ?l12 ?c12 ?k12 ?t12 ?a65 ?l65 ?c65 ?k65 ?z1 ?z2 ?z3 ?z4 ?z5 ?z6 ?z7 ?z8 ?z9 ?z10 ?z11 ?z12 ?z13 ?z14 ?y1 ?x1 ?y2 ?x2 ?y3 ?x3 ?y4 ?x4 ?y5 ?x5 ?y6 ?x6 ?y7 ?x7 ?u1C6 ?u2C6 ?u3C6 ?u4C6 ?u5C6 ?u6C6 ?u7C6 ?u8C6 ?wOnSide_HallError ?wOnSide_NoBox ?wOnSide_NotSame ?wOnSide_OtherSize
  (case a15 | l15 | c15 | k15 | t15 | a12 | l12 | c12 | k12 | t12 | a65 | l65 | c65 | k65 | z1 | z2 | z3 | z4 | z5 | z6 | z7 | z8 | z9 | z10 | z11 | z12 | z13 | z14 | y1=>k_is)
  (case x1=>k_exc)
  (case y2=>k_is)
  (case x2=>k_exc)
  (case y3=>k_is)
  (case x3=>k_exc)
  (case y4=>k_is)
  (case x4=>k_exc)
  (case y5=>k_is)
  (case x5=>k_exc)
  (case y6=>k_is)
  (case x6=>k_exc)
  (case y7=>k_is)
  (case x7=>k_exc)
  (case u1C6 | u2C6 | u3C6 | u4C6 | u5C6 | u6C6 | u7C6 | u8C6=>k_is)
  (case wOnSide_HallError | wOnSide_NoBox | wOnSide_NotSame | wOnSide_OtherSize=>kit_is)
#print axioms PySem.Challenge.cw_scissorhall_k31_layers_counted_holds
