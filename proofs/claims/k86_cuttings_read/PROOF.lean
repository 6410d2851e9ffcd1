import PyProof.Rows.All
import KE.KFromBytes
import KE.KIsAll
import PyProof.EqAt
import PyProof.EqKinds
import PyProof.TupleCall
import PyProof.ZipIter
import PyProof.Draws
import PyProof.CompFree
import PyProof.NeKinds
import PyProof.NsDelKeeps
import PyProof.ExcArgsOwn
import PyProof.ExcAttrAll.ValueError
import KE.KSortTup
import PyProof.DictRoadsH
import Wide.Seal
import KE.KIntText
import PyProof.FitsReplace
import PyProof.StrWalks
import PyProof.CompMap
import KE.KDictList
import KE.RegKIsAll
import PySem.Challenge.RW_scissorhall_k86_cuttings_read
set_option Elab.async false
set_option compiler.extract_closed false
set_option bootstrap.genMatcherCode false
set_option maxRecDepth 100000
set_option maxHeartbeats 0
open Array renaming length_toList->pq,toList->wk,append_assoc->zl,getElem?_eq_none->t5,getElem?_eq_some_iff->t6
open Bool renaming and_eq_true->ee,false_ne_true->ia,false_eq_true->ox,eq_iff_iff->sw,and_false->yf,not_eq_true'->j9,and_eq_true_iff->AS
open Classical renaming propDecidable->jp,byContradiction->pf
open False renaming elim->fj
open ForInStep renaming yield->ss
open Int renaming gcd->bj,one_mul->ja,zero_sub->ka,mul_pos->kz,mul_ediv_cancel_left->my,toNat_natCast->oo,fdiv_eq_ediv_of_dvd->ou,mul_comm->qj,le_of_lt->qk,mul_neg->sr,eq_ofNat_of_zero_le->vf,neg_mul->xo,le_refl->xp,mul_zero->xq,gcd_zero_left->xu,fdiv_eq_ediv_of_nonneg->xw,natAbs_mul->e9,natCast_nonneg->f9,gcd_mul_left->g0,mul_ne_zero->g5,gcd_dvd_left->g6,gcd_dvd_right->g7,natAbs_natCast->g8,pos_of_mul_pos_left->g9,fmod_nonneg_of_pos->v7,neg_one_mul->AE,mul_nonneg->AI
open List renaming length_map->ar,mem_cons_self->ay,size_toArray->az,mem_cons_of_mem->bf,getElem?_eq_getElem->bh,replicate->bn,length_append->bq,length_cons->br,mem_cons->ce,map_cons->cg,mem_append_right->ck,range->cq,mem_append->cu,getD->de,mem_map->df,map_map->di,getElem?_eq_some_iff->dj,zipWith->dy,getElem?_map->fh,mem_of_getElem?->fm,set_cons_zero->gq,getElem?_append_left->ib,length_set->ic,getElem?_append_right->ij,replicate_succ->ik,map_nil->il,map_congr_left->im,getElem?_set_self->ix,map_id->jb,all_eq_true->jd,getElem_mem->je,length_drop->jm,set_cons_succ->jr,mem_append_left->jt,getElem?_set_ne->ju,mem_filterMap->jw,lookup_cons->kb,any_cons->km,foldl->kn,append_assoc->ko,length_singleton->kr,take_of_length_le->ky,nodup_cons->mm,flatten_cons->mx,map_append->nh,toArray->nr,length_take->om,prefix_rfl->oy,nil_append->pe,any_eq_false->pz,forIn_cons->ql,not_mem_nil->qo,getElem?_eq_none->qp,drop_eq_getElem_cons->qq,mem_of_mem_drop->qt,mem_filter->qy,all_cons->sf,mem_singleton->ui,mem_of_mem_take->ul,set_set->uq,zipWith_cons_cons->ur,sum_cons->uv,cons_append->uw,getD_eq_getElem?_getD->uz,map_eq_nil_iff->vd,any_eq_true->vg,mem_range->wb,filterMap_cons->we,append_nil->wv,of_mem_zip->ww,getElem?_take_of_lt->wx,foldl_cons->xi,drop_length->yg,getElem?_take->yh,getElem_of_mem->yi,ext_getElem?->yt,map_set->yu,drop_of_length_le->yx,take_append_drop->ze,getElem?_replicate->zz,zipIdx_cons->j2,zipIdx_nil->j3,forIn_nil->j4,length_range->l7,take_left->m7,nodup_append->m8,getElem?_zipWith->m9,getElem_toArray->o0,take_length->p8,ext_getElem->q9,mem_reverse->r8,drop_zero->v8,length_eq_zero_iff->w8,zipWith_nil_left->x8,all_eq_false->AM,getElem?_of_mem->AN,drop_append->AO
open List.cons renaming inj->vh
open Nat renaming le_refl->am,lt_of_lt_of_le->cj,ne_of_lt->db,le_trans->dz,lt_irrefl->gf,zero_le->io,sub_self->nj,ne_of_gt->pw,le_succ->qe,pow_le_pow_right->qh,lt_of_le_of_lt->qi,two_pow_pos->qu,succ_mul->sj,mul_comm->ud,mul_le_mul->uo,toDigits->ve,le_of_lt->wd,le_of_eq->xk,pow_succ->xm,log2_lt->xn,lt_trans->xx,zero_add->yj,mul_le_mul_right->yw,toDigits_of_lt_base->zb,lt_or_ge->zd,le_of_not_lt->d9,eq_zero_or_pos->f6,exists_eq_add_of_le->l6,lt_succ_self->l8
open Ne renaming symm->iw
open Option renaming isSome_iff_exists->rm,map_some->uu,getD_none->c7
open Option.some renaming inj->cr
open Or renaming inl->ie,inr->iz
open Prod renaming ext->jf
open Prod.mk renaming inj->zh
open PyProof.Rows renaming AllBare->ig,IntsAre->qg,callWith_type1->rh,slot_tuple_getitem->rq,boot_isinstance->uc,find_whole->vb,Constant_none->wj,assignInOrder_cons->wn,get?_update_seq->yl,subscriptTail_builtinR->c6,split_pos->y9
open PyProof.Rows.IsTup renaming new->qz
open PySem renaming Shared->aa,Expr->af,wpAny_bind->ag,Pos->ah,World->ao,Around->aq,wpAny_pure->au,Env->bc,FuncData->bi,wpAny_mono->dh,Tok->dk,IsPair->dm,Sem->dn,wpAny_holding->fe,wpAny_field->fg,IsZip->fi,Model->gh,Keyword->iy,CmpOp->jg,wpAny_newObj_type->jh,NameKind->ji,IsPart->jk,Draws->jo,JoinOk->ke,wpAny_truthy_bool->kh,wpAny_standAt->ki,sizeLine_eq->kj,call_meets->kq,wpAny_seqItems->kw,Paired->lh,wpAny_passesOwn->lm,Result->mf,codeAny_mono->mj,mem_of_lookup->mn,typeIs_str->mq,Params->oa,wpAny_execs_nil->og,wpAny_rule->oh,BindsTo->oj,wpAny_call_entry->oq,wpAny_setField_rec->ow,wpAny_callSpecial?_slot->qc,wpAny_attempt->qm,intText?->qr,PassesOwn->re,wpAny_Call_Name_kw->rl,wpAny_pyIter_list->su,wpAny_setField->td,wpAny_letGo->tj,wpAny_onRaise->tw,passOn->ue,Comprehension->uf,wpAny_comp_letGo->ug,wpAny_Name->wg,wpAny_execs_cons->wl,wpAny_assign_Name->wm,concat_meets->wy,seqIndex_of->xa,seqIndex_neg->xb,typeIs_int->xh,call->xj,wpAny_newFunctionEnv->xy,codeAny_compStart_list->xz,wpAny_of_eq->ya,wpAny_updateSeq_pair->yb,ExcAttrFacts->ye,wpAny_handleBy_cons->yq,codeAny_handlers_test->yr,Within->zk,wpAny_isTrue_Compare1->zo,wpAny_Tuple_spliced->zw,exec_Assign_Name_used->i5,wpAny_pyIter_tuple->j8,codeAny_call_builtin->k7,lookup_relabel_local->r6,length_partsBetween->t9,wpAny_excMatches_sub_self->u5,codeAny_handlers_suite_as->u6,sizeLine->u9
open PySem.Builtin.Int renaming intBits->i3
open PySem.Builtin.List renaming listTooLong->si
open PySem.Builtin.ObjectAttr renaming find->AU,dataDescriptor?->AX,getOf->AY,bindTo->AZ
open PySem.Builtin.Slice renaming slicePlaces->rn,sliceAdjust->wz,sliceApplied->a9
open PySem.Builtin.SmallTypes renaming nextOf->kv,ownedTupleIsFree->tm,ownedTupleHandOut->j5
open PySem.Builtin.Str renaming strSub->jq,occurrences->lr,strKind->nu,subAt->va,glued->AG
open PySem.Builtin.Tuple renaming tupleExact->se,tupleHashOf->l5
open PySem.Calls renaming spliced_cons->wu,Name_function_global->zn,spliced_nil->zv,evalArgs_plain->d7
open PySem.Challenge renaming pw_scissorhall_k86_cuttings_read->ny,rw_scissorhall_k86_cuttings_read->ph
open PySem.Env renaming kindOf->yn
open PySem.F renaming slot_tuple_iterator_next->sy,slot_zip_next->tz,slot_str_split->uk,entry_str_split->yo,args_str_split_2->yp,slot_tuple_add->a5,entry_tuple_add->a6,args_tuple_add_2->a7,slot_list_append->d8,entry_tuple_iterator_next->i6,args_tuple_iterator_next_1->i7,entry_zip_next->j6,args_zip_next_1->j7,excAttr_ValueError->k9,plainAttrs_list->p7,plainAttrs_str->t7,slot_str_partition->u4
open PySem.Heap renaming get?_push_of_some->aw,lt_size->ax,get?_push_size->dq,SameBut->gi,size_push->ku,HeldW->uh,get?_update_self->xc,get?_update_other->xf,get?_update_ne->ym
open PySem.Heap.SameBut renaming update->i8
open PySem.NameKind renaming free->jc,cell->i4
open PySem.NumText renaming digitsVal->x9
open PySem.Obj renaming mapSeq->gm,data_mapFields->tf,isFreed_of_fields->i9
open PySem.PassesOwn renaming never->u7,leaving->u8
open PySem.SeqAt renaming EqAt->jz,RcAt->oz,in_listAt->d6
open PySem.SeqAt.EqAt renaming same->qd,int_str->zi,str_int->zj,bool_none->c8,bool_bool->c9,int_none->d0,int_int->d3,str_none->d4,str_str->d5,of_refs->o9
open PySem.SeqAt.RcAt renaming none_none->o4,bool_bool->o5,int_int->o6,str_str->o7,tuples->o8,lists->p4,lists_lengths->p6
open PySem.Str renaming ofString->cc,empty->oi,join->vc
open PySem.StrLaws renaming At->yz,join_split->za,occ_length_le->t8,subAt_one->y8,joinFits->AF,glued_eq_join->AH,occ_head->AJ,strSub_toList->AK
open PySem.Txt renaming split->da,slice->iu,find->kd,join->nv,startswith->uj
open PySem.Value renaming none->cw,ref->dw,type->kg,int->qw,bool->qx,str->vp,builtin->k8
open PySem.W renaming Frag->ae,nsIn->cm,excIn->cy,keepIn->dl,fnOf->du,kia_one->fk,mg_of->fu,kitOne->gj,mg_none_of->gw,kas_sort->ir,codeIn->jj,findIn->jx,mroIn->jy,Looks->ni,OpenLaw->ot,kHook->qv,specialIn->rk,looks_mroIn->ua,typeIn->um,instObj->vq,methodObj->vt,hideAll->vw,hideAll_get->vz,lookIn->wo,hasDictIn->wp,takesIn->wr,kitx_list->wt,looks_findIn->yd,kat_nil->yk,xlAt->zf,recOk->zg,of_hideAll->zm,plainGet->zq,kitx_tuple->zt,kitx_dict->zu,callWith_K->zx,cellsFrom_some->zy,any_some->AQ,clsIn->AR
open PySem.W.Hook renaming obs->vj,val->vk
open PySem.W.Looks renaming andThen->kx,ld->yc
open PySem.W.OpenLaw renaming row->vo,wellSaid->AT
open PySem.W.OpenRow renaming toRowW->vn
open PySem.W.RowW renaming records->vm
open Sum renaming inl->lc,inr->lg
open True renaming intro->qa
abbrev BA:=List Int
abbrev BB:=List BA
abbrev BC:=List BB
abbrev BD:=List PySem.Value
abbrev BE:=Option PySem.Value
abbrev BF:=Option PySem.Addr
abbrev BG:=Option Int
namespace L2
open PySem
def gW(s:Stmt):Arguments:=match s with
 |.FunctionDef _ a _ _ _ _ _ _ _ _=>a
 |_=>{posonlyargs:=[],args:=[],vararg:=none,kwonlyargs:=[],kw_defaults:=[],kwarg:=none,defaults:=[]}
def eH(s:Stmt):List Stmt:=match s with
 |.FunctionDef _ _ b _ _ _ _ _ _ _=>b
 |_=>[]
def cS(s:Stmt):Scope:=match s with
 |.FunctionDef _ _ _ _ _ _ sc _ _ _=>sc
 |_=>{kind:=.function,names:=[],isGenerator:=false,isCoroutine:=false}
end L2
namespace Sc
noncomputable section
open PySem L2
def bE(i:Nat):Stmt:=ny.main.body.getD i (.Pass ⟨0,0,0,0⟩)
abbrev vs(s:String)(t:Nat):Value:=.str (cc s) t
abbrev vi(i:Int):Value:=.int i 0
abbrev vr(a:Nat):Value:=.ref a
abbrev fo(n:String)(i:Nat)(dV dc pm cd ct:Value):Obj:=⟨.type "function",none,.func (du (cc n) (cc n) (gW (bE i)) (eH (bE i)) (cS (bE i)) dV .none dc pm none cd ct),#[]⟩
abbrev fc(l:BD):Obj:=⟨.type "code",none,.fields l.toArray,#[]⟩
abbrev Yr(n:String)(t l a r g:Nat)(x:BD):Obj:=fc (vs n t::vs n (t+1)::vs "/claim/cut.py" (t+2)::vi l::vi a::vi 0::vi 0::vi 3::vr r:: .bool true::vi g::vr (r+1):: .none::x)
abbrev eG(n:String)(t l a r g u:Nat):Obj:=Yr n t l a r g [vr (r+2),vr (r+3),vr (r+4),vi u,vi l,vs "/claim/cut.py" (u+1)]
abbrev fM(n:String)(t l a r g:Nat):Obj:=Yr n t l a r g [.none,.none,vr (r+2),vi (t+3),vi l,vs "/claim/cut.py" (t+4)]
abbrev fd(P:oa)(n:Nat)(l:List (String×Nat×Value)):Obj:=⟨.type "dict",none,.dict (l.map λe=>⟨PyData.keyHash P (cc e.1),.str (cc e.1) e.2.1,e.2.2⟩).toArray n,#[]⟩
abbrev vLq:Value:=vs "law_scissorhall_k86_cuttings_read" 468
abbrev fzq (n:String)(i:Nat)(m:Value)(r:Nat):Obj:=fo n i .none .none m (vr r) .none
abbrev v0q:Value:=vs "scissorhall.texts" 391
abbrev v1q:Value:=vs "scissorhall.points" 321
abbrev v2q:Value:=vs "scissorhall.lowest" 287
noncomputable def KK(P:oa):ae:=
 (nat_lit 3,fd P 73 [("__name__",165,vs "law_scissorhall_k86_cuttings_read" 468),("__doc__",166,.none),("__package__",167,.none),("__loader__",168,(.builtin "__main__.__loader__#opaque")),("__spec__",169,.none),("__annotations__",170,vr 6),("__builtins__",171,vr 4),("__file__",173,vs "/claim/cut.py" 172),("__cached__",174,.none),("HallError",206,vr 24),("NoNumber",222,vr 37),("NoPoint",238,vr 49),("Flat",254,vr 61),("NoMove",270,vr 73),("NoText",286,vr 85),("sign",295,vr 94),("divisor",304,vr 101),("reduced",310,vr 106),("fraction",320,vr 114),("point",329,vr 120),("point_at",335,vr 125),("whole_arrow",341,vr 130),("dot",347,vr 135),("normal",356,vr 142),("determinant",362,vr 147),("side",369,vr 154),("simplex",380,vr 161),("move",390,vr 168),("FIGURES",394,vs "0123456789" 393),("MOST_FIGURES",396,(.int 60 395)),("NOTHING",398,vs "none" 397),("PUSH",400,vs "push" 399),("TURN",402,vs "turn" 401),("refuse_unless",409,vr 175),("read_whole",415,vr 180),("read_number",426,vr 187),("read_point",432,vr 192),("read_corners",438,vr 197),("read_rows",445,vr 204),("read_move",453,vr 211),("read_piece",461,vr 218),("read_cutting",467,vr 223),("_law_row",482,vr 230),("_law_take",491,vr 237),("_law_gcd",499,vr 244),("_law_lowest",505,vr 249),("_law_whole",512,vr 256),("_law_wholes",518,vr 261),("_law_frac",526,vr 268),("_law_gap",532,vr 273),("_law_cross",543,vr 280),("_law_dot",549,vr 285),("_law_turn",556,vr 292),("_law_det",562,vr 297),("_law_simplex",570,vr 304),("_law_point_form",578,vr 311),("_law_simplex_form",584,vr 316),("_law_cutting_form",594,vr 323),("_law_weighted",600,vr 328),("_law_mean_of",607,vr 335),("_law_figures",613,vr 340),("_law_number_of",623,vr 347),("_law_point_of",629,vr 352),("_law_corners_of",635,vr 357),("_law_sign_at",644,vr 364),("_law_spoilt",655,vr 371),("_law_loose",667,vr 378),("_law_loose_points",673,vr 383),("_law_piece_of",684,vr 390),("_law_cutting_of",690,vr 395),("_law_piece_words",696,vr 400),("_law_asked",705,vr 407),("law",711,vr 412)])::
 (nat_lit 23,fd P 3 [("__module__",196,vs "scissorhall.errors" 187),("__firstlineno__",200,(.int 2 199)),("__static_attributes__",201,vr 22),("__weakref__",203,vr 25),("__doc__",204,.none)])::
 (nat_lit 24,⟨(.type "type"),none,.cls {name:="HallError",bases:=[(.type "ValueError")],mro:=[vr 24,(.type "ValueError"),(.type "Exception"),(.type "BaseException"),(.type "object")],ns:=23,qualname:="HallError",hasDict:=true,subclasses:=[vr 37,vr 49,vr 61,vr 73,vr 85]},#[some (vr 15),none,some (vs "HallError" 189),some (vs "HallError" 197),some (.builtin "ValueError.__new__"),some (.bool true)]⟩)::
 (nat_lit 36,fd P 2 [("__module__",214,vs "scissorhall.errors" 187),("__firstlineno__",218,(.int 4 217)),("__static_attributes__",219,vr 35),("__doc__",220,.none)])::
 (nat_lit 37,⟨(.type "type"),none,.cls {name:="NoNumber",bases:=[vr 24],mro:=[vr 37,vr 24,(.type "ValueError"),(.type "Exception"),(.type "BaseException"),(.type "object")],ns:=36,qualname:="NoNumber",hasDict:=true,subclasses:=[]},#[some (vr 28),none,some (vs "NoNumber" 207),some (vs "NoNumber" 215),some (.builtin "ValueError.__new__"),some (.bool true)]⟩)::
 (nat_lit 48,fd P 2 [("__module__",230,vs "scissorhall.errors" 187),("__firstlineno__",234,(.int 6 233)),("__static_attributes__",235,vr 47),("__doc__",236,.none)])::
 (nat_lit 49,⟨(.type "type"),none,.cls {name:="NoPoint",bases:=[vr 24],mro:=[vr 49,vr 24,(.type "ValueError"),(.type "Exception"),(.type "BaseException"),(.type "object")],ns:=48,qualname:="NoPoint",hasDict:=true,subclasses:=[]},#[some (vr 40),none,some (vs "NoPoint" 223),some (vs "NoPoint" 231),some (.builtin "ValueError.__new__"),some (.bool true)]⟩)::
 (nat_lit 60,fd P 2 [("__module__",246,vs "scissorhall.errors" 187),("__firstlineno__",250,(.int 8 249)),("__static_attributes__",251,vr 59),("__doc__",252,.none)])::
 (nat_lit 61,⟨(.type "type"),none,.cls {name:="Flat",bases:=[vr 24],mro:=[vr 61,vr 24,(.type "ValueError"),(.type "Exception"),(.type "BaseException"),(.type "object")],ns:=60,qualname:="Flat",hasDict:=true,subclasses:=[]},#[some (vr 52),none,some (vs "Flat" 239),some (vs "Flat" 247),some (.builtin "ValueError.__new__"),some (.bool true)]⟩)::
 (nat_lit 72,fd P 2 [("__module__",262,vs "scissorhall.errors" 187),("__firstlineno__",266,(.int 10 265)),("__static_attributes__",267,vr 71),("__doc__",268,.none)])::
 (nat_lit 73,⟨(.type "type"),none,.cls {name:="NoMove",bases:=[vr 24],mro:=[vr 73,vr 24,(.type "ValueError"),(.type "Exception"),(.type "BaseException"),(.type "object")],ns:=72,qualname:="NoMove",hasDict:=true,subclasses:=[]},#[some (vr 64),none,some (vs "NoMove" 255),some (vs "NoMove" 263),some (.builtin "ValueError.__new__"),some (.bool true)]⟩)::
 (nat_lit 84,fd P 2 [("__module__",278,vs "scissorhall.errors" 187),("__firstlineno__",282,(.int 12 281)),("__static_attributes__",283,vr 83),("__doc__",284,.none)])::
 (nat_lit 85,⟨(.type "type"),none,.cls {name:="NoText",bases:=[vr 24],mro:=[vr 85,vr 24,(.type "ValueError"),(.type "Exception"),(.type "BaseException"),(.type "object")],ns:=84,qualname:="NoText",hasDict:=true,subclasses:=[]},#[some (vr 76),none,some (vs "NoText" 271),some (vs "NoText" 279),some (.builtin "ValueError.__new__"),some (.bool true)]⟩)::
 (nat_lit 93,eG "sign" 289 15 1 88 181 293)::
 (nat_lit 94,fzq "sign" 8 v2q 93)::
 (nat_lit 100,eG "divisor" 296 21 2 95 181 302)::
 (nat_lit 101,fzq "divisor" 9 v2q 100)::
 (nat_lit 105,fM "reduced" 305 27 1 102 181)::
 (nat_lit 106,fzq "reduced" 10 v2q 105)::
 (nat_lit 107,⟨.type "tuple",none,.seq #[(.int 1 311)] 0,#[]⟩)::
 (nat_lit 113,eG "fraction" 312 32 2 108 181 318)::
 (nat_lit 114,fo "fraction" 11 (vr 107) .none v2q (vr 113) .none)::
 (nat_lit 115,⟨.type "tuple",none,.seq #[(.int 1 323)] 0,#[]⟩)::
 (nat_lit 119,fM "point" 324 38 2 116 181)::
 (nat_lit 120,fo "point" 13 (vr 115) .none v1q (vr 119) .none)::
 (nat_lit 124,fM "point_at" 330 42 1 121 181)::
 (nat_lit 125,fzq "point_at" 14 v1q 124)::
 (nat_lit 129,fM "whole_arrow" 336 47 2 126 181)::
 (nat_lit 130,fzq "whole_arrow" 15 v1q 129)::
 (nat_lit 134,fM "dot" 342 49 2 131 181)::
 (nat_lit 135,fzq "dot" 16 v1q 134)::
 (nat_lit 141,eG "normal" 348 51 1 136 181 354)::
 (nat_lit 142,fzq "normal" 17 v1q 141)::
 (nat_lit 146,fM "determinant" 357 57 1 143 181)::
 (nat_lit 147,fzq "determinant" 18 v1q 146)::
 (nat_lit 153,eG "side" 363 60 1 148 181 367)::
 (nat_lit 154,fzq "side" 19 v1q 153)::
 (nat_lit 160,eG "simplex" 372 63 1 155 181 378)::
 (nat_lit 161,fzq "simplex" 21 (vs "scissorhall.simplexes" 370) 160)::
 (nat_lit 167,eG "move" 383 72 2 162 181 388)::
 (nat_lit 168,fzq "move" 23 (vs "scissorhall.moves" 381) 167)::
 (nat_lit 174,eG "refuse_unless" 403 82 1 169 181 407)::
 (nat_lit 175,fzq "refuse_unless" 30 v0q 174)::
 (nat_lit 179,fM "read_whole" 410 85 1 176 181)::
 (nat_lit 180,fzq "read_whole" 31 v0q 179)::
 (nat_lit 186,eG "read_number" 416 88 1 181 181 424)::
 (nat_lit 187,fzq "read_number" 32 v0q 186)::
 (nat_lit 191,fM "read_point" 427 96 1 188 181)::
 (nat_lit 192,fzq "read_point" 33 v0q 191)::
 (nat_lit 196,fM "read_corners" 433 100 1 193 181)::
 (nat_lit 197,fzq "read_corners" 34 v0q 196)::
 (nat_lit 203,eG "read_rows" 439 104 1 198 181 443)::
 (nat_lit 204,fzq "read_rows" 35 v0q 203)::
 (nat_lit 210,eG "read_move" 446 106 1 205 181 451)::
 (nat_lit 211,fzq "read_move" 36 v0q 210)::
 (nat_lit 217,eG "read_piece" 454 110 1 212 181 459)::
 (nat_lit 218,fzq "read_piece" 37 v0q 217)::
 (nat_lit 222,fM "read_cutting" 462 114 1 219 181)::
 (nat_lit 223,fzq "read_cutting" 38 v0q 222)::
 (nat_lit 229,eG "_law_row" 470 120 1 224 181 480)::
 (nat_lit 230,fzq "_law_row" 40 vLq 229)::
 (nat_lit 236,eG "_law_take" 483 134 2 231 181 489)::
 (nat_lit 237,fzq "_law_take" 41 vLq 236)::
 (nat_lit 243,eG "_law_gcd" 492 142 2 238 181 497)::
 (nat_lit 244,fzq "_law_gcd" 42 vLq 243)::
 (nat_lit 248,fM "_law_lowest" 500 148 1 245 181)::
 (nat_lit 249,fzq "_law_lowest" 43 vLq 248)::
 (nat_lit 255,eG "_law_whole" 506 155 1 250 181 510)::
 (nat_lit 256,fzq "_law_whole" 44 vLq 255)::
 (nat_lit 260,fM "_law_wholes" 513 157 2 257 181)::
 (nat_lit 261,fzq "_law_wholes" 45 vLq 260)::
 (nat_lit 267,eG "_law_frac" 519 161 2 262 181 524)::
 (nat_lit 268,fzq "_law_frac" 46 vLq 267)::
 (nat_lit 272,fM "_law_gap" 527 165 2 269 181)::
 (nat_lit 273,fzq "_law_gap" 47 vLq 272)::
 (nat_lit 279,eG "_law_cross" 533 167 2 274 181 541)::
 (nat_lit 280,fzq "_law_cross" 48 vLq 279)::
 (nat_lit 284,fM "_law_dot" 544 172 2 281 181)::
 (nat_lit 285,fzq "_law_dot" 49 vLq 284)::
 (nat_lit 291,eG "_law_turn" 550 174 1 286 181 554)::
 (nat_lit 292,fzq "_law_turn" 50 vLq 291)::
 (nat_lit 296,fM "_law_det" 557 178 1 293 181)::
 (nat_lit 297,fzq "_law_det" 51 vLq 296)::
 (nat_lit 303,eG "_law_simplex" 563 180 1 298 181 568)::
 (nat_lit 304,fzq "_law_simplex" 52 vLq 303)::
 (nat_lit 310,eG "_law_point_form" 571 185 2 305 181 576)::
 (nat_lit 311,fzq "_law_point_form" 53 vLq 310)::
 (nat_lit 315,fM "_law_simplex_form" 579 189 2 312 181)::
 (nat_lit 316,fzq "_law_simplex_form" 54 vLq 315)::
 (nat_lit 322,eG "_law_cutting_form" 585 195 3 317 181 592)::
 (nat_lit 323,fzq "_law_cutting_form" 55 vLq 322)::
 (nat_lit 327,fM "_law_weighted" 595 206 2 324 181)::
 (nat_lit 328,fzq "_law_weighted" 56 vLq 327)::
 (nat_lit 334,eG "_law_mean_of" 601 214 1 329 181 605)::
 (nat_lit 335,fzq "_law_mean_of" 57 vLq 334)::
 (nat_lit 339,fM "_law_figures" 608 216 1 336 181)::
 (nat_lit 340,fzq "_law_figures" 58 vLq 339)::
 (nat_lit 346,eG "_law_number_of" 614 220 1 341 181 621)::
 (nat_lit 347,fzq "_law_number_of" 59 vLq 346)::
 (nat_lit 351,fM "_law_point_of" 624 235 1 348 181)::
 (nat_lit 352,fzq "_law_point_of" 60 vLq 351)::
 (nat_lit 356,fM "_law_corners_of" 630 246 1 353 181)::
 (nat_lit 357,fzq "_law_corners_of" 61 vLq 356)::
 (nat_lit 363,eG "_law_sign_at" 636 253 1 358 181 642)::
 (nat_lit 364,fzq "_law_sign_at" 62 vLq 363)::
 (nat_lit 370,eG "_law_spoilt" 645 259 2 365 181 653)::
 (nat_lit 371,fzq "_law_spoilt" 63 vLq 370)::
 (nat_lit 377,eG "_law_loose" 656 270 3 372 181 665)::
 (nat_lit 378,fzq "_law_loose" 64 vLq 377)::
 (nat_lit 382,fM "_law_loose_points" 668 280 2 379 181)::
 (nat_lit 383,fzq "_law_loose_points" 65 vLq 382)::
 (nat_lit 389,eG "_law_piece_of" 674 287 1 384 181 682)::
 (nat_lit 390,fzq "_law_piece_of" 66 vLq 389)::
 (nat_lit 394,fM "_law_cutting_of" 685 299 1 391 181)::
 (nat_lit 395,fzq "_law_cutting_of" 67 vLq 394)::
 (nat_lit 399,fM "_law_piece_words" 691 308 2 396 181)::
 (nat_lit 400,fzq "_law_piece_words" 68 vLq 399)::
 (nat_lit 406,eG "_law_asked" 697 332 1 401 181 703)::
 (nat_lit 407,fzq "_law_asked" 69 vLq 406)::
 (nat_lit 411,fM "law" 706 341 1 408 181)::
 (nat_lit 412,fzq "law" 70 vLq 411)::[]
def KA:List Nat:=[3,23,24,36,37,48,49,60,61,72,73,84,85,93,94,100,101,105,106,107,113,114,115,119,120,124,125,129,130,134,135,141,142,146,147,153,154,160,161,167,168,174,175,179,180,186,187,191,192,196,197,203,204,210,211,217,218,222,223,229,230,236,237,243,244,248,249,255,256,260,261,267,268,272,273,279,280,284,285,291,292,296,297,303,304,310,311,315,316,322,323,327,328,334,335,339,340,346,347,351,352,356,357,363,364,370,371,377,378,382,383,389,390,394,395,399,400,406,407,411,412]
def VW:Program:={ny with main:={ny.main with body:=[bE 1,bE 2,bE 3,bE 4,bE 5,bE 6,bE 8,bE 9,bE 10,bE 14,bE 15,bE 16,bE 17,bE 18,bE 19,bE 21,bE 23,bE 25,bE 26,bE 27,bE 28,bE 29,bE 30,bE 31,bE 32,bE 33,bE 34,bE 35,bE 36,bE 37,bE 38,bE 40,bE 41,bE 42,bE 43,bE 44,bE 45,bE 46,bE 47,bE 48,bE 49,bE 50,bE 51,bE 52,bE 53,bE 54,bE 55,bE 56,bE 57,bE 58,bE 59,bE 60,bE 61,bE 62,bE 63,bE 64,bE 65,bE 66,bE 67,bE 68,bE 69,bE 70]}}
theorem KE:∀P,KA=(KK P).map (·.1):=λ_=>by kernel_rfl
theorem wsaid:AT ph=true:=by kernel_rfl
open PySem.W PyProof.Rows PySem.Spec
abbrev RN(w:ao):=openEnds treeTable ny w 5890
abbrev LW:=looseW VW [cc "fraction",cc "point"]
theorem abE:∀w,(RN w).map (λs=>vj (qv KK KA KE) s)=some (vk (qv KK KA KE) w):=by
 intro w
 kernel_rfl
theorem abn:∀w,(RN w).map (λs=>seen ((recsOf VW).map (·.name)) (ownsOf VW) [] {s with gens:=#[]})=some (expectedOf VW):=by
 intro w
 kernel_rfl
theorem abL:∀w,(RN w).map (λs=>s.heap.bltView)=some (bltViewBooted):=by
 intro w
 kernel_rfl
theorem abi:∀w,(RN w).map (λs=>s.heap.keysOk LW ((recsOf VW).map (·.name)) ((litsOf VW).map (·.1)) ((clssOf VW LW).map (·.name)))=some (true):=by
 intro w
 kernel_rfl
theorem aa2:∀w,(RN w).map (λs=>s.heap.accountedOkI (importedModules ny.main.body)&&(s.heap.isNs mainGlobals&&s.heap.isNs builtinsNs&&tablesOk VW s.heap)&&((λs=>zf VW [] s&&zg (vm (vn (vo ph))) s) s&&(s.gens.size==0)))=some (true):=by
 intro w
 kernel_rfl
theorem abc:∀w,(RN w).map (λs=>tabsOk VW s)=some (true):=by
 intro w
 kernel_rfl
theorem abw:∀w,(RN w).map (λs=>(pinSeenD VW (drecsOf VW) s,plainSeenD VW [cc "fraction",cc "point"] s,clsSeenW VW [cc "fraction",cc "point"] s))=some (pinGoodD (drecsOf VW),plainGoodD VW [cc "fraction",cc "point"],clsGoodW VW [cc "fraction",cc "point"]):=by
 intro w
 kernel_rfl
theorem abb:∀w,(RN w).map (λs=>plainSeenE VW LW s)=some (plainGoodE VW LW):=by
 intro w
 kernel_rfl
theorem abT:∀w,(RN w).map (λs=>wideSeen VW s)=some (wideGood VW):=by
 intro w
 kernel_rfl
theorem bz{k a n m t x g:Bool}(h:k=true)(h2:(a&&(n&&m&&t)&&(x&&g))=true):(k&&a&&n&&m&&t&&x&&g)=true:=by
 revert h h2
 cases k<;>cases a<;>cases n<;>cases m<;>cases t<;>cases x<;>cases g<;>decide
theorem acs{A B C P Q R T V Y:Type}{o:Option aa}{y:Y}{G:aa->Y}{k a n m t x g f:aa->Bool}{b:aa->B}{c:aa->C}{p:aa->P}{q:aa->Q}{r:aa->R}{u:aa->T}{v:aa->V}{b':B}{c':C}{p':P}{q':Q}{r':R}{u':T}{v':V}(hA:o.map G=some y)(hB:o.map b=some b')(hC:o.map c=some c')(hD:o.map k=some true)(hE:o.map (λs=>a s&&(n s&&m s&&t s)&&(x s&&g s))=some true)(hF:o.map f=some true)
  (hG:o.map (λs=>(p s,q s,r s))=some (p',q',r'))(hH:o.map u=some u')(hI:o.map v=some v'):o.map (λs=>((b s,c s,(k s&&a s&&n s&&m s&&t s&&x s&&g s),f s,p s,u s,q s,v s,r s),G s))=some ((b',c',true,true,p',u',q',v',r'),y):=by
 cases o with
 |none=>cases hA
 |some s=>
  have G1:=zh (cr hG);have G2:=zh G1.2;exact congrArg some (jf (jf (cr hB) (jf (cr hC) (jf (bz (cr hD) (cr hE)) (jf (cr hF) (jf G1.1 (jf (cr hH) (jf G2.1 (jf (cr hI) G2.2)))))))) (cr hA))
theorem left:LeftO ny VW [cc "fraction",cc "point"] (λs=>zf VW [] s&&zg (vm (vn (vo ph))) s) (vj (qv KK KA KE)) (vk (qv KK KA KE)) 5890:=λw=>acs (A:=Nat) (abE w) (abn w) (abL w) (abi w) (aa2 w) (abc w) (abw w) (abb w) (abT w)
end
end Sc
set_option maxHeartbeats 200000
set_option Elab.async false
set_option compiler.extract_closed false
set_option bootstrap.genMatcherCode false
set_option linter.all false
set_option maxRecDepth 100000
namespace L2
open PySem PySem.Spec PyProof.Rows
abbrev hJ:=Sum Int Str
def Wp:hJ->Value->Bool
 |.inl k,v=>Value.isInt k v
 |.inr x,v=>Value.isStrOf x v
def ab3(w:ao):hJ->Int
 |.inl k=>hashInt k
 |.inr x=>hashStr w x
theorem lW:∀{k:hJ}{v:Value},Wp k v=true->(∃i t,k=lc i/\v=qw i t)\/(∃x t,k=lg x/\v=vp x t)
 |.inl i,v,h=>by
  obtain⟨t,e⟩:=Value.isInt_shape (k:=i) (v:=v) h;exact .inl ⟨i,t,rfl,e⟩
 |.inr x,v,h=>by
  obtain⟨t,e⟩:=Value.isStrOf_shape (x:=x) (v:=v) h;exact .inr ⟨x,t,rfl,e⟩
theorem aad(a b:Int):decide ((lc a:hJ)=lc b)=(a==b):=by
 by_cases e:a=b
 .subst e;simp
 .have h:¬(lc a:hJ)=lc b:=λq=>e (Sum.inl.inj q)
  rw[decide_eq_false h];exact(beq_eq_false_iff_ne.mpr e).symm
theorem V8(a b:Str):decide ((lg a:hJ)=lg b)=decide (a=b):=by
 by_cases e:a=b
 .subst e;simp
 .have h:¬(lg a:hJ)=lg b:=λq=>e (Sum.inr.inj q)
  rw[decide_eq_false h,decide_eq_false e]
theorem aab(a:Int)(b:Str):decide ((lc a:hJ)=lg b)=false:=decide_eq_false (λq=>nomatch q)
theorem Y9(a:Str)(b:Int):decide ((lg a:hJ)=lc b)=false:=decide_eq_false (λq=>nomatch q)
def Tl(prog:Program)(w:ao):PySem.KeyKind prog w hJ where
 is:=Wp
 hash:=ab3 w
 inj:=λv a b ha hb=>by
  rcases lW ha with⟨i,t,rfl,rfl⟩|⟨x,t,rfl,rfl⟩
  .rcases lW hb with⟨j,u,rfl,e⟩|⟨y,u,rfl,e⟩
   .injection e with e1 _;rw[e1]
   .exact nomatch e
  .rcases lW hb with⟨j,u,rfl,e⟩|⟨y,u,rfl,e⟩
   .exact nomatch e
   .injection e with e1 _;rw[e1]
 byValue:=λk v h=>by
  rcases lW h with⟨i,t,rfl,rfl⟩|⟨x,t,rfl,rfl⟩<;>rfl
 pyHash:=λhv h=>by
  rcases lW hv with⟨i,t,rfl,rfl⟩|⟨x,t,rfl,rfl⟩
  .exact wpAny_pyHash_int h
  .exact wpAny_pyHash_str h
 eqBool:=λhu hv h=>by
  rcases lW hu with⟨i,t,rfl,rfl⟩|⟨x,t,rfl,rfl⟩
  .rcases lW hv with⟨j,u,rfl,rfl⟩|⟨y,u,rfl,rfl⟩
   .rw[aad]at h;exact wpAny_eqBool_int h
   .rw[aab]at h;exact zi i t y u _ _ _ _ h
  .rcases lW hv with⟨j,u,rfl,rfl⟩|⟨y,u,rfl,rfl⟩
   .rw[Y9]at h;exact zj x t j u _ _ _ _ h
   .rw[V8]at h;exact wpAny_eqBool_str h
 «strs»:=λk x t v h=>by
  rcases lW h with⟨i,u,rfl,e⟩|⟨y,u,rfl,e⟩
  .exact nomatch e
  .injection e with e1 _
   subst e1;cases v<;>rfl
inductive V where
 |non |bl (b:Bool) |int (i:Int) |str (x:Str) |byt (b:Array UInt8) |flt (b:UInt64) |ref (a:Addr) |ty (n:String)
 deriving DecidableEq
def cD:V->Value->Prop
 |.non,u=>u=cw
 |.bl b,u=>u=qx b
 |.int i,u=>∃t,u=qw i t
 |.str x,u=>∃t,u=vp x t
 |.byt b,u=>∃t,u=Value.bytes b t
 |.flt b,u=>∃t,u=Value.float b t
 |.ref a,u=>u=dw a
 |.ty n,u=>u=kg n
abbrev bK:List V->BD->Prop:=lh cD
theorem bK.length{xs:List V}{us:BD}(r:bK xs us):xs.length=us.length:=Paired.length r
theorem bK.get:∀{xs:List V}{us:BD}{i:Nat}{x:V},bK xs us->xs[i]?=some x->∃u,us[i]?=some u/\cD x u
 |_,_,_,_,.nil,e=>by simp at e
 |_,_,0,_,.cons r _,e=>by simp at e;subst e;exact⟨_,rfl,r⟩
 |_,_,i+1,x,.cons _ t,e=>by
  obtain⟨u,h1,h2⟩:=bK.get (i:=i) (x:=x) t (by simpa using e);exact⟨u,by simpa using h1,h2⟩
theorem bK.set{x:V}{u:Value}(r:cD x u):∀{xs:List V}{us:BD}(i:Nat),bK xs us->bK (xs.set i x) (us.set i u)
 |_,_,_,.nil=>.nil
 |_,_,0,.cons _ t=>.cons r t
 |_,_,i+1,.cons q t=>.cons q (bK.set r i t)
theorem bK.append:∀{xs ys:List V}{us ws:BD},bK xs us->bK ys ws->bK (xs++ys) (us++ws)
 |_,_,_,_,.nil,s=>s
 |_,_,_,_,.cons r t,s=>.cons r (bK.append t s)
theorem bK.take:∀{xs:List V}{us:BD}(n:Nat),bK xs us->bK (xs.take n) (us.take n)
 |_,_,0,_=>.nil
 |_,_,_+1,.nil=>.nil
 |_,_,n+1,.cons r t=>.cons r (bK.take n t)
theorem bK.drop:∀{xs:List V}{us:BD}(n:Nat),bK xs us->bK (xs.drop n) (us.drop n)
 |_,_,0,r=>r
 |_,_,_+1,.nil=>.nil
 |_,_,n+1,.cons _ t=>bK.drop n t
def Ce:Option V->BE->Prop
 |some v,some u=>cD v u
 |none,none=>True
 |_,_=>False
def KV{κ:Type}:List (κ×V)->List (κ×Value)->Prop:=lh λ(p:κ×V) (q:κ×Value)=>p.1=q.1/\cD p.2 q.2
def kV:hJ->V
 |.inl i=>.int i
 |.inr x=>.str x
inductive HO where
 /--a list -/
 |lst (xs:List V)
 /--a tuple (never changes) -/
 |tup (xs:List V)
 /--a dict whose keys are ints and texts;one whose keys are tuples of ints and texts (the empty one is both) -/
 |dK (kvs:List (hJ×V)) |dT (kvs:List (List hJ×V))
 /--a set of ints:its members,its size -/
 |set (S:Int->Bool) (n:Nat)
 /--an instance of the class at C,its dict at dx,its attributes -/
 |ins (C dx:Addr) (fs:List (Str×V))
 /--the dict of the instance at x -/
 |own (x:Addr)
 /--the dict of an exception -/
 |xd (fs:List (Str×V))
 /--a bound method,f of x -/
 |met (f x:Addr)
 /--a range object lo,lo+1,.. below hi -/
 |rng (lo hi:Int)
 /--a thing that is known to the object (the script;a dict while a loop walks it):read,never written while it is so -/
 |frz (o:Obj) (u:HO)
 /--a code object's table -/
 |tbl (ps:Array Value)
 /--any other thing,by what is true of its one object (a def of one's own:SetO a S n:=HO.ext λh=>..) -/
 |ext (φ:Heap->Prop)
abbrev Hp:=Addr->Option HO
def bJ(H:Hp)(a:Addr)(o:HO):Hp:=λb=>if b=a then some o else H b
theorem iT{H:Hp}{a:Addr}{o:HO}:bJ H a o a=some o:=by unfold bJ;rw[if_pos rfl]
theorem dA{H:Hp}{a b:Addr}{o:HO}(h:b≠a):bJ H a o b=H b:=by unfold bJ;rw[if_neg h]
theorem gS{H:Hp}{a b:Addr}{o:HO}(h:H a=some o)(h':H b=none):a≠b:=by
 intro e;subst e;rw[h]at h';cases h'
section
variable(P:Program)(w:ao)
def fO(H:Hp)(h:Heap)(a:Addr):HO->Prop
 |.lst xs=>xs.length<=sizeLine/\∃(its:BD)(n:Nat),bK xs its/\h.get? a=some {cls:=.type "list",data:=.seq its.toArray n}
 |.tup xs=>xs.length<=sizeLine/\∃its:BD,bK xs its/\IsTup h a its.toArray
 |.dK kvs=>kvs.length<=sizeLine/\(a==sysModules)=false/\∃vs,KV kvs vs/\h.DictOf (Tl P w) a vs
 |.dT kvs=>kvs.length<=sizeLine/\(a==sysModules)=false/\∃xs:List (List hJ×Addr×Value),
   lh (λ(p:List hJ×V) (q:List hJ×Addr×Value)=>p.1=q.1/\H q.2.1=some (.tup (p.1.map kV))/\cD p.2 q.2.2) kvs xs/\
   ∃o es ep,h.get? a=some o/\o.ExactDict/\o.data=.dict es ep/\es.toList=xs.map (entryOfKey (tupleKind (Tl P w)))/\(xs.map (·.1)).Nodup
 |.set S n=>h.SetOf (intKind P w) a S n
 |.ins C dx fs=>H dx=some (.own a)/\fs.length<=1000/\dx≠a/\h.get? a=some (vq C dx)/\
   ∃mA,h.Ns1 dx mA/\(∀f,Ce (fs.lookup f) (mA f))/\zk mA (fs.map (·.1))
 |.own _=>∃o,h.get? a=some o
 |.xd fs=>∃mA,h.Ns1 a mA/\∀f,Ce (fs.lookup f) (mA f)
 |.rng lo hi=>∃t u v,h.get? a=some {cls:=.type "range",data:=.fields #[.int lo t,.int hi u,.int 1 v]}
 |.frz o u=>h.get? a=some o/\fO H h a u
 |.tbl ps=>h.get? a=some {cls:=.none,data:=.fields ps}
 |.met f x=>h.get? a=some (vt (.ref f) (.ref x))
 |.ext φ=>φ h/\(∃o,h.get? a=some o)/\∀h1 h2:Heap,φ h1->(∀o,h1.get? a=some o->h2.get? a=some o)->φ h2
def eU(H:Hp)(h:Heap):Prop:=∀a o,H a=some o->fO P w H h a o
end
section
variable{P:Program}{w:ao}{H H':Hp}{h h':Heap}{a:Addr}{o:HO}
theorem fO.lt(x:fO P w H h a o):a<h.objs.size:=by
 cases o with
 |lst xs=>obtain⟨_,_,_,_,e⟩:=x;exact ax e
 |tup xs=>obtain⟨_,_,_,p⟩:=x;exact p.lt
 |dK kvs=>obtain⟨_,_,_,_,o,_,_,e,_⟩:=x;exact ax e
 |dT kvs=>obtain⟨_,_,_,_,o,_,_,e,_⟩:=x;exact ax e
 |set S n=>obtain⟨o,_,_,_,e,_⟩:=x;exact ax e
 |ins C dx fs=>obtain⟨_,_,_,e,_⟩:=x;exact ax e
 |own y=>obtain⟨_,e⟩:=x;exact ax e
 |xd fs=>obtain⟨_,⟨_,_,_,e,_⟩,_⟩:=x;exact ax e
 |rng lo hi=>obtain⟨_,_,_,e⟩:=x;exact ax e
 |frz ob u=>obtain⟨e,_⟩:=x;exact ax e
 |tbl ps=>exact ax (show h.get? a=some _ from x)
 |met f y=>exact ax (show h.get? a=some _ from x)
 |ext φ=>obtain⟨_,⟨_,e⟩,_⟩:=x;exact ax e
theorem Paired.mapP{α β:Type}{F G:α->β->Prop}:∀{l₁:List α}{l₂:List β},lh F l₁ l₂->(∀a b,F a b->G a b)->lh G l₁ l₂
 |_,_,.nil,_=>.nil
 |_,_,.cons r t,f=>.cons (f _ _ r) (Paired.mapP t f)
theorem fO.stay(x:fO P w H h a o)(k:∀b u,(b=a\/H b=some (.own a))->h.get? b=some u->h'.get? b=some u)
  (ho:∀b,H b=some (.own a)->H' b=some (.own a))(ht:∀b xs,H b=some (.tup xs)->H' b=some (.tup xs)):fO P w H' h' a o:=by
 induction o with
 |lst xs=>obtain⟨z,its,n,r,e⟩:=x;exact⟨z,its,n,r,k _ _ (.inl rfl) e⟩
 |tup xs=>obtain⟨z,its,r,ob,e,c⟩:=x;exact⟨z,its,r,ob,k _ _ (.inl rfl) e,c⟩
 |dK kvs=>obtain⟨z,y,vs,r,ob,es,ep,e,c⟩:=x;exact⟨z,y,vs,r,ob,es,ep,k _ _ (.inl rfl) e,c⟩
 |dT kvs=>
  obtain⟨z,y,xs,r,ob,es,ep,e,c⟩:=x;exact⟨z,y,xs,Paired.mapP r λp q z=>⟨z.1,ht _ _ z.2.1,z.2.2⟩,ob,es,ep,k _ _ (.inl rfl) e,c⟩
 |set S n=>obtain⟨ob,es,ep,t,e,c⟩:=x;exact⟨ob,es,ep,t,k _ _ (.inl rfl) e,c⟩
 |ins C dx fs=>
  obtain⟨d,z,ne,e,mA,⟨od,es,ep,e2,c⟩,r⟩:=x;exact⟨ho _ d,z,ne,k _ _ (.inl rfl) e,mA,⟨od,es,ep,k _ _ (.inr d) e2,c⟩,r⟩
 |own y=>obtain⟨ob,e⟩:=x;exact⟨ob,k _ _ (.inl rfl) e⟩
 |xd fs=>obtain⟨mA,⟨od,es,ep,e,c⟩,r⟩:=x;exact⟨mA,⟨od,es,ep,k _ _ (.inl rfl) e,c⟩,r⟩
 |rng lo hi=>obtain⟨t,u,v,e⟩:=x;exact⟨t,u,v,k _ _ (.inl rfl) e⟩
 |frz ob u ih=>obtain⟨e,q⟩:=x;exact⟨k _ _ (.inl rfl) e,ih q⟩
 |tbl ps=>
  have e:h.get? a=some {cls:=.none,data:=.fields ps}:=x;show h'.get? a=some {cls:=.none,data:=.fields ps};exact k a _ (.inl rfl) e
 |met f y=>
  have e:h.get? a=some (vt (.ref f) (.ref y)):=x;show h'.get? a=some (vt (.ref f) (.ref y));exact k a _ (.inl rfl) e
 |ext φ=>obtain⟨p,⟨o,e⟩,st⟩:=x;exact⟨st _ _ p λo q=>k _ _ (.inl rfl) q,⟨o,k _ _ (.inl rfl) e⟩,st⟩
theorem eU.lt(x:eU P w H h)(e:H a=some o):a<h.objs.size:=(x a o e).lt
theorem eU.fresh(x:eU P w H h)(e:h.objs.size<=a):H a=none:=by
 cases q:H a with
 |none=>rfl
 |some u=>exact absurd (cj (x.lt q) e) (gf _)
theorem eU.kept(x:eU P w H h)(k:∀b u,h.get? b=some u->h'.get? b=some u):eU P w H h':=λa o e=>
 (x a o e).stay (λb u _ q=>k b u q) (λ_ q=>q) λ_ _ q=>q
theorem eU.laid(x:eU P w H h)(k:∀b u,h.get? b=some u->h'.get? b=some u)(hp:h.objs.size<=a)(new:fO P w (bJ H a o) h' a o):eU P w (bJ H a o) h':=λb u e=>by
 have hn:=x.fresh hp
 by_cases hb:b=a
 .subst hb;rw[iT]at e;cases e;exact new
 .rw[dA hb]at e
  exact(x b u e).stay (λc v _ q=>k c v q) (λc q=>by rw[dA (gS q hn)];exact q) λc xs q=>by rw[dA (gS q hn)];exact q
end
def Rd(H:Hp)(a:Addr)(u:HO):Prop:=H a=some u\/∃o,H a=some (.frz o u)
theorem Rd.ok{P:Program}{w:ao}{H:Hp}{h:Heap}{a:Addr}{u:HO}(r:Rd H a u)(x:eU P w H h):fO P w H h a u:=by
 rcases r with r |⟨o,r⟩
 .exact x a u r
 .obtain⟨_,q⟩:=x a _ r
  exact q
def yO:Option HO->Prop
 |some (.lst _)=>True
 |some (.dK _)=>True
 |some (.dT _)=>True
 |some (.set _ _)=>True
 |some (.ins _ _ _)=>True
 |some (.ext _)=>True
 |_=>False
section
variable{P:Program}{w:ao}{H:Hp}{h h':Heap}{x e:Addr}{o':HO}
theorem eU.write(ok:eU P w H h)(mu:yO (H x))(he:e=x\/H e=some (.own x))(k:∀b u,b≠e->h.get? b=some u->h'.get? b=some u)(heo:∃u,h'.get? e=some u)
  (new:fO P w (bJ H x o') h' x o'):eU P w (bJ H x o') h':=λb u q=>by
 have nown:∀c y,H c=some (.own y)->c≠x:=λc y r z=>by subst z;rw[r]at mu;exact mu
 have ntup:∀c xs,H c=some (.tup xs)->c≠x:=λc xs r z=>by subst z;rw[r]at mu;exact mu
 by_cases hb:b=x
 .subst hb;rw[iT]at q;cases q;exact new
 .rw[dA hb]at q
  by_cases hbe:b=e
  .have q':H b=some (.own x):=by
    rcases he with z |z
    .exact absurd (hbe.trans z) hb
    .rw[hbe];exact z
   rw[q]at q';cases q';obtain⟨v,hv⟩:=heo;exact⟨v,by rw[hbe];exact hv⟩
  .refine(ok b u q).stay (λc v hc r=>k c v ?_ r) (λc r=>by rw[dA (nown c b r)];exact r) λc xs r=>by rw[dA (ntup c xs r)];exact r
   rcases hc with rfl |hc
   .exact hbe
   .rintro rfl
    rcases he with z |z
    .exact nown c b hc z
    .rw[hc]at z;cases z;exact hb rfl
end
structure Un(fs ex:List Addr)(H H':Hp)(h h':Heap):Prop where
 keep:∀b o,h.get? b=some o->H b=none->b∉fs->b∉ex->h'.get? b=some o
 slot:∀b o,h.get? b=some o->H b=none->b∈fs->b∉ex->∃sl,h'.get? b=some {o with slots:=sl}
 free:∀b o,h.get? b=some o->H b=none->b∉ex->H' b=none
 there:∀b o,h.get? b=some o->b∉ex->∃o',h'.get? b=some o'
 tups:∀b xs,H b=some (.tup xs)->H' b=some (.tup xs)
 frzs:∀b o u,H b=some (.frz o u)->H' b=some (.frz o u)
 tbls:∀b ps,H b=some (.tbl ps)->∃more,H' b=some (.tbl (ps++more))
section
variable{fs fs' ex ex':List Addr}{H H1 H2:Hp}{h h1 h2 h':Heap}{a x e:Addr}{o:HO}
theorem Un.any(u:Un fs ex H H1 h h1){b:Addr}{ob:Obj}(q:h.get? b=some ob)(n:H b=none)(hx:b∉ex):∃sl,h1.get? b=some {ob with slots:=sl}:=by
 by_cases hb:b∈fs
 .exact u.slot b ob q n hb hx
 .exact⟨ob.slots,u.keep b ob q n hb hx⟩
theorem Un.trans(a:Un fs ex H H1 h h1)(b:Un fs ex H1 H2 h1 h2):Un fs ex H H2 h h2 where
 keep:=λc ob q n hc hx=>b.keep c ob (a.keep c ob q n hc hx) (a.free c ob q n hx) hc hx
 slot:=λc ob q n hc hx=>by
  obtain⟨sl,e1⟩:=a.slot c ob q n hc hx;obtain⟨sl',e2⟩:=b.slot c _ e1 (a.free c ob q n hx) hc hx;exact⟨sl',e2⟩
 free:=λc ob q n hx=>by
  obtain⟨o',e1⟩:=a.there c ob q hx;exact b.free c o' e1 (a.free c ob q n hx) hx
 there:=λc ob q hx=>by
  obtain⟨o',e1⟩:=a.there c ob q hx;exact b.there c o' e1 hx
 tups:=λc xs q=>b.tups c xs (a.tups c xs q)
 frzs:=λc ob xs q=>b.frzs c ob xs (a.frzs c ob xs q)
 tbls:=λc ps q=>by
  obtain⟨m1,e1⟩:=a.tbls c ps q;obtain⟨m2,e2⟩:=b.tbls c _ e1;exact⟨m1++m2,by rw[e2,zl]⟩
theorem Un.kept(k:∀b u,h.get? b=some u->h'.get? b=some u):Un fs ex H H h h':=
 ⟨λb ob q _ _ _=>k b ob q,λb ob q _ _ _=>⟨ob.slots,k b ob q⟩,λ_ _ _ n _=>n,λb ob q _=>⟨ob,k b ob q⟩,λ_ _ q=>q,λ_ _ _ q=>q,λ_ ps q=>⟨#[],by rw[q];simp⟩⟩
theorem Un.refl:Un fs ex H H h h:=Un.kept λ_ _ q=>q
theorem Un.laid(k:∀b u,h.get? b=some u->h'.get? b=some u)(hp:h.objs.size<=a)(hn:H a=none):Un fs ex H (bJ H a o) h h' where
 keep:=λb u q _ _ _=>k b u q
 slot:=λb u q _ _ _=>⟨u.slots,k b u q⟩
 free:=λb u q n _=>by rw[dA (db (cj (ax q) hp))];exact n
 there:=λb u q _=>⟨u,k b u q⟩
 tups:=λb xs q=>by rw[dA (gS q hn)];exact q
 frzs:=λb u xs q=>by rw[dA (gS q hn)];exact q
 tbls:=λb ps q=>⟨#[],by rw[dA (gS q hn),q];simp⟩
theorem Un.write(mu:yO (H x))(he:e=x\/H e=some (.own x))(k:∀b u,b≠e->h.get? b=some u->h'.get? b=some u)(heo:∃u,h'.get? e=some u):Un fs ex H (bJ H x o) h h':=by
 have hx:∀b,H b=none->b≠x:=λb n z=>by subst z;rw[n]at mu;exact mu
 have hb:∀b,H b=none->b≠e:=λb n z=>by
  subst z;rcases he with r |r
  .exact hx b n r
  .rw[n]at r;cases r
 have hm:∀b u,H b=some u->¬yO (some u)->b≠x:=λb u q nm z=>by subst z;rw[q]at mu;exact nm mu
 refine⟨λb u q n _ _=>k b u (hb b n) q,λb u q n _ _=>⟨u.slots,k b u (hb b n) q⟩,λb u q n _=>by rw[dA (hx b n)];exact n,λb u q _=>?_,
  λb xs q=>by rw[dA (hm b _ q λz=>z)];exact q,λb u xs q=>by rw[dA (hm b _ q λz=>z)];exact q,λb ps q=>⟨#[],by rw[dA (hm b _ q λz=>z),q];simp⟩⟩
 by_cases hbe:b=e
 .subst hbe;exact heo
 .exact⟨u,k b u hbe q⟩
end
def yI(h:Heap)(H:Hp):List Addr:=(cq h.objs.size).filter λa=>(H a).isSome
def mM(h:Heap)(H:Hp):Heap:=vw h (yI h H)
theorem Ow(h:Heap)(H:Hp):(mM h H).objs.size=h.objs.size:=PySem.W.hideAll_size _ _
theorem F1{h:Heap}{H:Hp}{b:Addr}{o:Obj}(e:h.get? b=some o)(n:H b=none):(mM h H).get? b=some o:=
 vz _ e λhm=>by
  have q:(H b).isSome=true:=(qy.mp hm).2;rw[n]at q;simp at q
theorem L7{h:Heap}{H:Hp}{b:Addr}{o:Obj}(e:(mM h H).get? b=some o):h.get? b=some o/\H b=none:=by
 have e':h.get? b=some o:=zm (yI h H) e;refine⟨e',?_⟩;cases q:H b with
 |none=>rfl
 |some x=>
  have hm:b∈yI h H:=qy.mpr ⟨wb.mpr (ax e'),by simp[q]⟩;have z:(mM h H).get? b=none:=PySem.W.hideAll_none (yI h H) hm;rw[z]at e;cases e
def N7(g h:Heap)(L:Addr):List (Addr×Obj):=(cq h.objs.size).filterMap λa=>if a=L\/(g.get? a).isSome=true then none else(h.get? a).map λo=>(a,o)
def dM(g h:Heap)(L d:Addr):List (Addr×Obj):=(N7 g h L).filter λp=>decide (p.1≠d)
structure Mod(K:ae)(mg:Str->BE)(base:Heap):Prop where
 kin:K.In base
 glob:base.Ns mainGlobals mg
 blt:∃mb,base.Ns builtinsNs mb/\∀x:Str,x≠"__name__"->mb x=bootBuiltins x
 nolimit:base.NoLimit
structure Cx where
 prog:Program
 w:ao
 K:ae
 mg:Str->BE
 base:Heap
 A:aq
 N:List Str
 BN:aa
 BO:Hp
 env:bc
 outer:List bc
 stack:List bc
 ex:List Addr
 fn:Str->Bool
 calm:Bool
 pn:List (Addr×Obj)
 xe:Value->aa->Prop
def cQ(l:List bc):List Addr:=l.filterMap (·.frame)
abbrev Cx.fs(X:Cx):List Addr:=cQ X.outer
def yH(sc:Scope)(x:Str):Prop:=sc.names.lookup x=some .local\/sc.names.lookup x=some .cell\/sc.names.lookup x=some .free
def kE(sc:Scope)(x:Str):Prop:=sc.names.lookup x=some .local\/sc.names.lookup x=some .cell
def ab6(env:bc)(h:Heap)(m:Str->BE)(x:Str)(u:Value):Prop:=
 (env.kindOf x=some .local/\m x=some u)\/((env.kindOf x=some .cell\/env.kindOf x=some .free)/\∃c,env.cells.lookup x=some c/\h.IsCell c (some u))
structure Cx.Ok(X:Cx):Prop where
 mod:Mod X.K X.mg X.base
 kind:X.env.scope.kind=.function
 glob:X.env.globals=mainGlobals
 blt:X.env.builtins=builtinsNs
 above:X.BN.heap.objs.size<=X.env.locals
 inj:∀x y c,X.env.cells.lookup x=some c->X.env.cells.lookup y=some c->x=y
 has:∀x,(X.env.kindOf x=some .cell\/X.env.kindOf x=some .free)->∃c,X.env.cells.lookup x=some c
 cab:∀x c,X.fn x=true->X.env.cells.lookup x=some c->X.BN.heap.objs.size<=c
 hd:X.calm=true->X.A.handled=none
 frames:X.A.frames=some X.stack
 stk:X.stack=X.outer\/(X.stack=X.env::X.outer/\X.env.frame=some X.env.locals)
 exf:∀b∈X.ex,b≠X.env.locals/\∀x c,X.env.cells.lookup x=some c->c≠b
 bs:∀b o,X.base.get? b=some o->X.BN.heap.get? b=some o/\X.BO b=none
 bsz:X.base.objs.size<=X.BN.heap.objs.size
 noex:∀b o,X.base.get? b=some o->b∉X.ex
 exfs:∀b∈X.ex,b∉X.fs
 funs:X.BN.heap.FunFrames X.base X.outer
 frf:∀b∈X.fs,X.BO b=none
structure aO(X:Cx)(BM:List (Addr×Obj))(σ:List (Option V))(H:Hp)(s:aa):Prop where
 ok:X.Ok
 os:s.os=X.BN.os
 bare:ig s.gens
 base:Un X.fs X.ex X.BO H X.BN.heap s.heap
 loc:∃m,s.heap.Ns X.env.locals m/\∀(i:Nat)(x:Str)(v:V),X.N[i]?=some x->σ[i]?=some (some v)->yH X.env.scope x->∃u,cD v u/\ab6 X.env s.heap m x u
 cell:∀x c,X.env.cells.lookup x=some c->∃v,s.heap.IsCell c v
 free:H X.env.locals=none
 freeC:∀x c,X.env.cells.lookup x=some c->H c=none
 pin:∀p∈X.pn++BM,s.heap.get? p.1=some p.2/\H p.1=none/\p.1≠X.env.locals/\p.1∉X.fs/\∀v,p.2.data≠.cell v
 hok:eU X.prog X.w H s.heap
 len:σ.length=X.N.length
section
variable{X:Cx}{BM:List (Addr×Obj)}{σ:List (Option V)}{H H':Hp}{s:aa}{h':Heap}
theorem Cx.Ok.nofr(ok:X.Ok){b:Addr}{o:Obj}(e:X.base.get? b=some o):b∉X.fs:=λhb=>by
 have:=(ok.funs.mem hb).1;rw[e]at this;cases this
theorem aO.bs(I:aO X BM σ H s):∀b o,X.base.get? b=some o->s.heap.get? b=some o/\H b=none:=λb o e=>
 ⟨I.base.keep b o (I.ok.bs b o e).1 (I.ok.bs b o e).2 (I.ok.nofr e) (I.ok.noex b o e),I.base.free b o (I.ok.bs b o e).1 (I.ok.bs b o e).2 (I.ok.noex b o e)⟩
theorem aO.bk(I:aO X BM σ H s):∀b o,X.base.get? b=some o->s.heap.get? b=some o:=λb o e=>(I.bs b o e).1
theorem aO.mod(I:aO X BM σ H s):Mod X.K X.mg X.base:=I.ok.mod
theorem aO.kIn(I:aO X BM σ H s):X.K.In s.heap:=I.ok.mod.kin.keeps I.bk
theorem aO.lt(I:aO X BM σ H s):X.env.locals<s.heap.objs.size:=let⟨_,hn,_⟩:=I.loc;hn.lt
theorem aO.sz(I:aO X BM σ H s):X.BN.heap.objs.size<=s.heap.objs.size:=dz I.ok.above (wd I.lt)
theorem aO.nofs(I:aO X BM σ H s){a:Addr}(h:s.heap.objs.size<=a):a∉X.fs:=λhb=>by
 obtain⟨_,o,ho,_⟩:=I.ok.funs.mem hb;exact absurd (cj (ax ho) (dz I.sz h)) (gf _)
theorem aO.cne(I:aO X BM σ H s):∀x c,X.env.cells.lookup x=some c->c≠X.env.locals:=λx c e z=>by
 obtain⟨v,o,ho,hd⟩:=I.cell x c e;obtain⟨m,⟨o',es,ep,ho',hd',_⟩,_⟩:=I.loc;rw[z,ho']at ho;cases ho;rw[hd']at hd;cases hd
theorem aO.funs(I:aO X BM σ H s):s.heap.FunFrames X.base X.outer:=by
 have all:∀(l:List bc),(∀b∈cQ l,b∈X.fs)->X.BN.heap.FunFrames X.base l->s.heap.FunFrames X.base l:=by
  intro l
  induction l with
  |nil=>intro _ _;trivial
  |cons env r ih=>
   intro hs hl;obtain⟨hk,⟨L,o,hf,hn,ho,hd⟩,hr⟩:=hl;have hL:L∈X.fs:=hs L (by unfold cQ;rw[we,hf];exact ay);obtain⟨sl,e⟩:=I.base.slot L o ho (I.ok.frf L hL) hL λz=>I.ok.exfs L z hL;exact⟨hk,⟨L,_,hf,hn,e,hd⟩,ih (λb hb=>hs b (by unfold cQ;rw[we,hf];exact bf _ hb)) hr⟩
 exact all X.outer (λ_ hb=>hb) I.ok.funs
theorem aO.stack(I:aO X BM σ H s):s.heap.FunFrames X.base X.stack:=by
 rcases I.ok.stk with e |⟨e,hf⟩
 .rw[e];exact I.funs
 .rw[e]
  obtain⟨m,hn,_⟩:=I.loc;refine .cons (by rw[I.ok.kind];decide) hf hn ?_ I.funs;exact Heap.get?_none_of_le (dz I.ok.bsz I.ok.above)
theorem aO.stkSub(I:aO X BM σ H s):∀b∈cQ X.stack,b∈X.env.locals::X.fs:=λb hb=>by
 rcases I.ok.stk with e |⟨e,hf⟩
 .rw[e]at hb;exact bf _ hb
 .rw[e]at hb
  unfold cQ at hb;rw[we,hf]at hb;exact hb
theorem aO.stkFree(I:aO X BM σ H s):∀b∈cQ X.stack,H b=none:=λb hb=>by
 rcases ce.mp (I.stkSub b hb)with e |hb
 .rw[e];exact I.free
 .obtain⟨_,o,ho,_⟩:=I.ok.funs.mem hb
  exact I.base.free b o ho (I.ok.frf b hb) λz=>I.ok.exfs b z hb
theorem aO.step{g':Array GenState}{t':Nat}{d':Drawn}{ch:List Addr}(I:aO X BM σ H s)
  (hch:∀b∈ch,(b∈X.ex\/X.BN.heap.objs.size<=b)/\b≠X.env.locals/\(∀x c,X.env.cells.lookup x=some c->c≠b)/\∀p∈X.pn++BM,p.1≠b)
  (keep:∀b o,b≠X.env.locals->b∉X.fs->b∉ch->s.heap.get? b=some o->H b=none->h'.get? b=some o)
  (slot:∀b o,b≠X.env.locals->b∈X.fs->b∉ch->s.heap.get? b=some o->H b=none->∃sl,h'.get? b=some {o with slots:=sl})(free:∀b o,b∉ch->s.heap.get? b=some o->H b=none->H' b=none)
  (there:∀b o,b∉ch->s.heap.get? b=some o->∃o',h'.get? b=some o')
  (tups:∀b xs,H b=some (.tup xs)->H' b=some (.tup xs))(frzs:∀b o u,H b=some (.frz o u)->H' b=some (.frz o u))(tbls:∀b ps,H b=some (.tbl ps)->∃more,H' b=some (.tbl (ps++more)))
  (ns:∀m,s.heap.Ns X.env.locals m->h'.Ns X.env.locals m)(hok:eU X.prog X.w H' h')(hg:ig g'):
  aO X BM σ H' {s with heap:=h',gens:=g',drawn:=d',toks:=t'}:=by
 have neL:∀b o,X.BN.heap.get? b=some o->b≠X.env.locals:=λb o e=>db (cj (ax e) I.ok.above);have neC:∀b o,X.BN.heap.get? b=some o->b∉X.ex->b∉ch:=λb o e hx hb=>by
  rcases(hch b hb).1 with z |z
  .exact hx z
  .exact absurd (cj (ax e) z) (gf _)
 have cellK:∀x c,X.env.cells.lookup x=some c->∀v,s.heap.IsCell c v->h'.IsCell c v:=λx c e v ⟨o,ho,hd⟩=>by
  have nch:c∉ch:=λz=>(hch c z).2.2.1 x c e rfl
  by_cases hc:c∈X.fs
  .obtain⟨sl,q⟩:=slot c o (I.cne x c e) hc nch ho (I.freeC x c e)
   exact⟨_,q,hd⟩
  .exact⟨o,keep c o (I.cne x c e) hc nch ho (I.freeC x c e),hd⟩
 refine⟨I.ok,I.os,hg,⟨λb o e n hb hx=>?_,λb o e n hb hx=>?_,λb o e n hx=>?_,λb o e hx=>?_,λb xs e=>tups b xs (I.base.tups b xs e),λb o xs e=>frzs b o xs (I.base.frzs b o xs e),λb ps e=>?_⟩,?_,λx c e=>?_,?_,λx c e=>?_,λp hp=>?_,hok,I.len⟩
 .exact keep b o (neL b o e) hb (neC b o e hx) (I.base.keep b o e n hb hx) (I.base.free b o e n hx)
 .obtain⟨sl,e1⟩:=I.base.slot b o e n hb hx
  obtain⟨sl',e2⟩:=slot b _ (neL b o e) hb (neC b o e hx) e1 (I.base.free b o e n hx);exact⟨sl',e2⟩
 .obtain⟨o',e1⟩:=I.base.there b o e hx
  exact free b o' (neC b o e hx) e1 (I.base.free b o e n hx)
 .obtain⟨o',e1⟩:=I.base.there b o e hx
  exact there b o' (neC b o e hx) e1
 .obtain⟨m1,e1⟩:=I.base.tbls b ps e
  obtain⟨m2,e2⟩:=tbls b _ e1;exact⟨m1++m2,by rw[e2,zl]⟩
 .obtain⟨m,hn,hl⟩:=I.loc
  refine⟨m,ns m hn,λi x v e1 e2 e3=>?_⟩;obtain⟨u,r,l⟩:=hl i x v e1 e2 e3;refine⟨u,r,?_⟩;rcases l with l |⟨k,c,e,z⟩
  .exact .inl l
  .exact .inr ⟨k,c,e,cellK x c e _ z⟩
 .obtain⟨v,z⟩:=I.cell x c e
  exact⟨v,cellK x c e v z⟩
 .obtain⟨m,⟨o,_,_,ho,_⟩,_⟩:=I.loc
  exact free _ o (λz=>(hch _ z).2.1 rfl) ho I.free
 .obtain⟨v,o,ho,hd⟩:=I.cell x c e
  exact free c o (λz=>(hch c z).2.2.1 x c e rfl) ho (I.freeC x c e)
 .obtain⟨e,n,ne,nf,d⟩:=I.pin p hp
  have nch:p.1∉ch:=λz=>(hch p.1 z).2.2.2 p hp rfl;exact⟨keep p.1 p.2 ne nf nch e n,free p.1 p.2 nch e n,ne,nf,d⟩
theorem aO.un{t':Nat}(I:aO X BM σ H s)(u:Un X.fs [] H H' s.heap h')(hok:eU X.prog X.w H' h'):aO X BM σ H' {s with heap:=h',toks:=t'}:=by
 obtain⟨m,⟨o,es,ep,ho,r⟩,_⟩:=id I.loc;obtain⟨sl,hL⟩:=u.any ho I.free (by simp);exact I.step (g':=s.gens) (d':=s.drawn) (ch:=[]) (λ_ z=>nomatch z) (λb o _ hb _ e n=>u.keep b o e n hb (by simp)) (λb o _ hb _ e n=>u.slot b o e n hb (by simp)) (λb o _ e n=>u.free b o e n (by simp)) (λb o _ e=>u.there b o e (by simp)) u.tups u.frzs u.tbls (λm' hm=>by
  obtain⟨o',es',ep',ho',r'⟩:=hm;rw[ho]at ho';cases ho';exact⟨_,es',ep',hL,r'⟩) hok I.bare
theorem aO.call{g':Array GenState}{t':Nat}{d':Drawn}{ch:List Addr}(I:aO X BM σ H s)(u:Un (cQ X.stack) ch H H' s.heap h')(hok:eU X.prog X.w H' h')(hg:ig g')
  (hch:∀b∈ch,(b∈X.ex\/X.BN.heap.objs.size<=b)/\b≠X.env.locals/\(∀x c,X.env.cells.lookup x=some c->c≠b)/\∀p∈X.pn++BM,p.1≠b):
  aO X BM σ H' {s with heap:=h',gens:=g',drawn:=d',toks:=t'}:=by
 obtain⟨m,⟨o,es,ep,ho,r⟩,_⟩:=id I.loc;obtain⟨sl,hL⟩:=u.any ho I.free λz=>(hch _ z).2.1 rfl;exact I.step (ch:=ch) hch (λb o hL hb hc e n=>u.keep b o e n (λz=>(ce.mp (I.stkSub b z)).elim hL hb) hc) (λb o _ _ hc e n=>u.any e n hc) (λb o hc e n=>u.free b o e n hc) (λb o hc e=>u.there b o e hc) u.tups u.frzs u.tbls (λm' hm=>by
  obtain⟨o',es',ep',ho',r'⟩:=hm;rw[ho]at ho';cases ho';exact⟨_,es',ep',hL,r'⟩) hok hg
theorem aO.turned{t':Nat}{it:Addr}(I:aO X BM σ H s)(k:∀b o,b≠it->s.heap.get? b=some o->h'.get? b=some o)(hn:H it=none)(hL:it≠X.env.locals)
  (h1:it∈X.ex\/X.BN.heap.objs.size<=it)(h2:∀x c,X.env.cells.lookup x=some c->c≠it)(h3:∀p∈X.pn++BM,p.1≠it):aO X BM σ H {s with heap:=h',toks:=t'}:=by
 have nit:∀b u,H b=some u->b≠it:=λb u e z=>by rw[z,hn]at e;cases e
 refine I.step (g':=s.gens) (d':=s.drawn) (ch:=[it]) (λb hb=>?_) (λb o _ _ hc e _=>k b o (λz=>hc (by simp[z])) e) (λb o _ _ hc e _=>⟨o.slots,k b o (λz=>hc (by simp[z])) e⟩) (λ_ _ _ _ n=>n)
  (λb o hc e=>⟨o,k b o (λz=>hc (by simp[z])) e⟩) (λ_ _ e=>e) (λ_ _ _ e=>e) (λb ps e=>⟨#[],by rw[e];simp⟩) (λm hm=>?_) (λb u e=>?_) I.bare
 .have e:b=it:=by simpa using hb
  subst e;exact⟨h1,hL,h2,h3⟩
 .obtain⟨o,es,ep,ho,r⟩:=hm
  exact⟨o,es,ep,k _ o (iw hL) ho,r⟩
 .refine(I.hok b u e).stay (λc v hc q=>k c v ?_ q) (λ_ q=>q) λ_ _ q=>q
  rcases hc with z |z
  .rw[z];exact nit b u e
  .exact nit c _ z
theorem aO.tok(I:aO X BM σ H s)(t:Nat):aO X BM σ H {s with toks:=t}:=I.un (h':=s.heap) (t':=t) Un.refl I.hok
theorem aO.kept{t':Nat}(I:aO X BM σ H s)(k:∀b u,s.heap.get? b=some u->h'.get? b=some u):aO X BM σ H {s with heap:=h',toks:=t'}:=I.un (Un.kept k) (I.hok.kept k)
theorem aO.laid{a:Addr}{o:HO}{t':Nat}(I:aO X BM σ H s)(k:∀b u,s.heap.get? b=some u->h'.get? b=some u)(hp:s.heap.objs.size<=a)(new:fO X.prog X.w (bJ H a o) h' a o):
  aO X BM σ (bJ H a o) {s with heap:=h',toks:=t'}:=I.un (Un.laid k hp (I.hok.fresh hp)) (I.hok.laid k hp new)
theorem aO.write{x e:Addr}{o:HO}{t':Nat}(I:aO X BM σ H s)(mu:yO (H x))(he:e=x\/H e=some (.own x))(k:∀b u,b≠e->s.heap.get? b=some u->h'.get? b=some u)(heo:∃u,h'.get? e=some u)
  (new:fO X.prog X.w (bJ H x o) h' x o):aO X BM σ (bJ H x o) {s with heap:=h',toks:=t'}:=I.un (Un.write mu he k heo) (I.hok.write mu he k heo new)
theorem aO.pins_of{pins':List (Addr×Obj)}(I:aO X BM σ H s)(h:∀p∈pins',s.heap.get? p.1=some p.2/\H p.1=none/\p.1≠X.env.locals/\p.1∉X.fs/\∀v,p.2.data≠.cell v):aO X pins' σ H s:=
 ⟨I.ok,I.os,I.bare,I.base,I.loc,I.cell,I.free,I.freeC,λp hp=>(cu.mp hp).elim (λz=>I.pin p (jt _ z)) (h p),I.hok,I.len⟩
theorem Va{N:List Str}(hN:N.Nodup){i j:Nat}{x:Str}(a:N[i]?=some x)(b:N[j]?=some x):i=j:=by
 obtain⟨h1,e1⟩:=dj.mp a;obtain⟨h2,e2⟩:=dj.mp b;exact(List.getElem_inj hN).mp (e1.trans e2.symm)
theorem Fw{M:gh}{A:aq}{E:Value->aa->Prop}{i:Nat}{x:Str}{v:V}{u:Value}{Q:Unit->aa->Prop}(I:aO X BM σ H s)(hN:X.N.Nodup)(hi:X.N[i]?=some x)(hx:kE X.env.scope x)(r:cD v u)
  (h:∀s',aO X BM (σ.set i (some v)) H s'->(∃a,gi a s.heap s'.heap/\(a=X.env.locals\/X.env.cells.lookup x=some a))->Q () s')(hf:X.fn x=true\/X.env.scope.names.lookup x=some .local:=by first |exact .inl rfl |exact .inr rfl |assumption):wpAny M A (storeName X.env x u) Q E s:=by
 obtain⟨m,hn,hl⟩:=id I.loc;have hcls:(X.env.scope.kind== .class||(X.env.scope.kind== .module&&X.env.locals !=X.env.globals))=false:=by rw[I.ok.kind];rfl
 have hiσ:i<σ.length:=by rw[I.len];exact(dj.mp hi).1
 have cne:=I.cne;have tracked:∀{a:Addr}{h':Heap},(∃o,s.heap.get? a=some o/\H a=none)->gi a s.heap h'->eU X.prog X.w H h':=λ{a h'} ha hs b ob e=>by
  obtain⟨_,_,hfree⟩:=ha;refine(I.hok b ob e).stay (λc w' hc q=>(hs.2 c ?_).trans q) (λ_ q=>q) λ_ _ q=>q
  rintro rfl
  rcases hc with rfl |hc
  .rw[hfree]at e;cases e
  .rw[hfree]at hc;cases hc
 rcases hx with hk |hk
 .refine wpAny_storeName_local hk hn (λh' hn' hs=>?_) hcls
  obtain⟨oL,_,_,hoL,_⟩:=id hn;refine h _ ⟨I.ok,I.os,I.bare,⟨λb o e n hb hx=>?_,λb o e n hb hx=>?_,I.base.free,λb o e hx=>?_,I.base.tups,I.base.frzs,I.base.tbls⟩,⟨_,hn',λj y v' e1 e2 e3=>?_⟩,λy c e=>?_,I.free,I.freeC,λp hp=>?_,tracked ⟨oL,hoL,I.free⟩ hs,by simpa using I.len⟩ ⟨_,hs,.inl rfl⟩
  .exact(hs.2 b (db (cj (ax e) I.ok.above))).trans (I.base.keep b o e n hb hx)
  .obtain⟨sl,e1⟩:=I.base.slot b o e n hb hx
   exact⟨sl,(hs.2 b (db (cj (ax e) I.ok.above))).trans e1⟩
  .obtain⟨o',e1⟩:=I.base.there b o e hx
   exact⟨o',(hs.2 b (db (cj (ax e) I.ok.above))).trans e1⟩
  .by_cases hj:j=i
   .subst hj
    rw[hi]at e1;cases e1;rw[ix hiσ]at e2;cases e2;exact⟨u,r,.inl ⟨hk,by simp⟩⟩
   .rw[ju (iw hj)]at e2
    obtain⟨u',r',q⟩:=hl j y v' e1 e2 e3;refine⟨u',r',?_⟩;rcases q with⟨k,e⟩|⟨k,c,e,z⟩
    .refine .inl ⟨k,?_⟩
     have:y≠x:=λe=>hj (Va hN e1 (e▸hi));simp[this,e]
    .exact .inr ⟨k,c,e,z.sameBut hs (cne y c e)⟩
  .obtain⟨w',z⟩:=I.cell y c e
   exact⟨w',z.sameBut hs (cne y c e)⟩
  .obtain⟨e,n,ne,nf,d⟩:=I.pin p hp
   exact⟨(hs.2 p.1 ne).trans e,n,ne,nf,d⟩
 .have hfn:X.fn x=true:=by
   rcases hf with z |z
   .exact z
   .rw[z]at hk;cases hk
  obtain⟨c,hc⟩:=I.ok.has x (.inl hk);obtain⟨w',z⟩:=I.cell x c hc;refine wpAny_storeName_cell I.ok.kind hk hc z (λh' hc' hs=>?_);obtain⟨oc,hoc,hocd⟩:=id z;refine h {s with heap:=h'} ⟨I.ok,I.os,I.bare,⟨λb o e n hb hx=>?_,λb o e n hb hx=>?_,I.base.free,λb o e hx=>?_,I.base.tups,I.base.frzs,I.base.tbls⟩,⟨m,hn.sameBut hs (iw (cne x c hc)),λj y v' e1 e2 e3=>?_⟩,λy c' e=>?_,I.free,I.freeC,λp hp=>?_,tracked ⟨oc,hoc,I.freeC x c hc⟩ hs,by simpa using I.len⟩ ⟨c,hs,.inr hc⟩
  .exact(hs.2 b (db (cj (ax e) (I.ok.cab x c hfn hc)))).trans (I.base.keep b o e n hb hx)
  .obtain⟨sl,e1⟩:=I.base.slot b o e n hb hx
   exact⟨sl,(hs.2 b (db (cj (ax e) (I.ok.cab x c hfn hc)))).trans e1⟩
  .obtain⟨o',e1⟩:=I.base.there b o e hx
   exact⟨o',(hs.2 b (db (cj (ax e) (I.ok.cab x c hfn hc)))).trans e1⟩
  .by_cases hj:j=i
   .subst hj
    rw[hi]at e1;cases e1;rw[ix hiσ]at e2;cases e2;exact⟨u,r,.inr ⟨.inl hk,c,hc,hc'⟩⟩
   .rw[ju (iw hj)]at e2
    obtain⟨u',r',q⟩:=hl j y v' e1 e2 e3;refine⟨u',r',?_⟩;rcases q with q |⟨k,c',e,z'⟩
    .exact .inl q
    .refine .inr ⟨k,c',e,z'.sameBut hs ?_⟩
     rintro rfl
     exact hj (Va hN e1 (I.ok.inj _ _ _ e hc▸hi))
  .by_cases hcc:c'=c
   .subst hcc;exact⟨_,hc'⟩
   .obtain⟨w2,z2⟩:=I.cell y c' e
    exact⟨w2,z2.sameBut hs hcc⟩
  .obtain⟨e,n,ne,nf,d⟩:=I.pin p hp
   refine⟨(hs.2 p.1 ?_).trans e,n,ne,nf,d⟩;intro q;rw[q,hoc]at e;have q':oc=p.2:=cr e;exact d w' (by rw[<-q'];exact hocd)
theorem lZ{M:gh}{A:aq}{E:Value->aa->Prop}{i:Nat}{x:Str}{v:V}{u:Value}{Q:Unit->aa->Prop}(I:aO X BM σ H s)(hN:X.N.Nodup)(hi:X.N[i]?=some x)(hx:kE X.env.scope x)(r:cD v u)
  (h:∀s',aO X BM (σ.set i (some v)) H s'->Q () s')(hf:X.fn x=true\/X.env.scope.names.lookup x=some .local:=by first |exact .inl rfl |exact .inr rfl |assumption):wpAny M A (storeName X.env x u) Q E s:=
 Fw I hN hi hx r (λs' I' _=>h s' I') hf
theorem aO.call'{s':aa}{ch:List Addr}(I:aO X BM σ H s)(ho:s'.os=s.os)(u:Un (cQ X.stack) ch H H' s.heap s'.heap)(hok:eU X.prog X.w H' s'.heap)(hg:ig s'.gens)
  (hch:∀b∈ch,(b∈X.ex\/X.BN.heap.objs.size<=b)/\b≠X.env.locals/\(∀x c,X.env.cells.lookup x=some c->c≠b)/\∀p∈X.pn++BM,p.1≠b):aO X BM σ H' s':=by
 obtain⟨h',g',d',t',o'⟩:=s';have e:o'=s.os:=ho;subst e;exact I.call (g':=g') (t':=t') (d':=d') u hok hg hch
end
abbrev XK:=Value->BF->Hp->Prop
abbrev St:=List (Option V)
abbrev VK:=V->Hp->Prop
abbrev TE:=St->Hp->VK->Prop
abbrev TT:=St->Hp->(Bool->Hp->Prop)->Prop
abbrev TA:=St->Hp->(List V->Hp->Prop)->Prop
structure kO where
 nx:St->Hp->Prop
 rt:VK
 bk:St->Hp->Prop:=λ_ _=>False
 ct:St->Hp->Prop:=λ_ _=>False
abbrev TS:=kO->St->Hp->Prop
def EP(X:Cx)(BM:List (Addr×Obj))(σ:St)(Q:VK)(u:Value)(s':aa):Prop:=∃v H',aO X BM σ H' s'/\cD v u/\Q v H'
def TP(X:Cx)(BM:List (Addr×Obj))(σ:St)(Q:Bool->Hp->Prop)(b:Bool)(s':aa):Prop:=∃H',aO X BM σ H' s'/\Q b H'
def AP(X:Cx)(BM:List (Addr×Obj))(σ:St)(Q:List V->Hp->Prop)(us:BD)(s':aa):Prop:=∃vs H',aO X BM σ H' s'/\bK vs us/\Q vs H'
def SP(X:Cx)(BM:List (Addr×Obj))(D:kO)(f:Flow)(s':aa):Prop:=
 match f with
 |.next=>∃σ' H',aO X BM σ' H' s'/\D.nx σ' H'
 |.brk=>∃σ' H',aO X BM σ' H' s'/\D.bk σ' H'
 |.cont=>∃σ' H',aO X BM σ' H' s'/\D.ct σ' H'
 |.ret u=>∃v σ' H',aO X BM σ' H' s'/\cD v u/\D.rt v H'
def PE(X:Cx)(e:af)(t:TE):Prop:=
 ∀(BM:List (Addr×Obj))(s:aa)(σ:St)(H:Hp)(Q:VK),aO X BM σ H s->t σ H Q->wpAny (model X.prog X.w) X.A (eval e X.env) (EP X BM σ Q) X.xe s
def PT(X:Cx)(e:af)(t:TT):Prop:=
 ∀(BM:List (Addr×Obj))(s:aa)(σ:St)(H:Hp)(Q:Bool->Hp->Prop),aO X BM σ H s->t σ H Q->wpAny (model X.prog X.w) X.A (isTrue e X.env (eval e X.env)) (TP X BM σ Q) X.xe s
def PW(X:Cx)(e:af)(t:TT):Prop:=
 ∀(whole:dn Value)(BM:List (Addr×Obj))(s:aa)(σ:St)(H:Hp)(Q:Bool->Hp->Prop),aO X BM σ H s->t σ H Q->wpAny (model X.prog X.w) X.A (isTrue e X.env whole) (TP X BM σ Q) X.xe s
theorem PW.pt{X:Cx}{e:af}{t:TT}(h:PW X e t):PT X e t:=h _
def PA(X:Cx)(es:List af)(t:TA):Prop:=
 ∀(pos:ah)(BM:List (Addr×Obj))(s:aa)(σ:St)(H:Hp)(Q:List V->Hp->Prop),aO X BM σ H s->t σ H Q->wpAny (model X.prog X.w) X.A (spliced (backTo pos (starEach es X.env))) (AP X BM σ Q) X.xe s
def PS(X:Cx)(st:Stmt)(t:TS):Prop:=
 ∀(BM:List (Addr×Obj))(s:aa)(σ:St)(H:Hp)(D:kO),aO X BM σ H s->t D σ H->wpAny (model X.prog X.w) X.A (exec st X.env) (SP X BM D) X.xe s
def fJ(X:Cx)(st:List Stmt)(t:TS):Prop:=
 ∀(BM:List (Addr×Obj))(s:aa)(σ:St)(H:Hp)(D:kO),aO X BM σ H s->t D σ H->wpAny (model X.prog X.w) X.A (execs st X.env) (SP X BM D) X.xe s
theorem bI{α:Type}{t:dn α}{Q Q':α->aa->Prop}{M:gh}{A:aq}{E:Value->aa->Prop}{s:aa}(h:wpAny M A t Q E s)(hQ:∀a s,Q a s->Q' a s):wpAny M A t Q' E s:=dh h hQ λ_ _ x=>x
section
variable{X:Cx}
theorem bin{a b:af}{ta tb:TE}(ha:PE X a ta)(hb:PE X b tb){BM:List (Addr×Obj)}{s:aa}{σ:St}{H:Hp}{R:V->V->Hp->Prop}(I:aO X BM σ H s)(h:ta σ H λx H1=>tb σ H1 λy H2=>R x y H2)
  {α:Type}{Q:α->aa->Prop}{f:Value->Value->dn α}
  (hf:∀v u s2 x y H2,aO X BM σ H2 s2->cD x v->cD y u->R x y H2->wpAny (model X.prog X.w) X.A (f v u) Q X.xe s2):
  wpAny (model X.prog X.w) X.A (eval a X.env) (λv BP=>wpAny (model X.prog X.w) X.A (eval b X.env) (λu BS=>wpAny (model X.prog X.w) X.A (f v u) Q X.xe BS) X.xe BP) X.xe s:=by
 refine bI (ha BM s σ H _ I h) ?_
 rintro v s1 ⟨x,H1,I1,r1,q1⟩
 refine bI (hb BM s1 σ H1 _ I1 q1) ?_
 rintro u s2 ⟨y,H2,I2,r2,q2⟩
 exact hf v u s2 x y H2 I2 r1 r2 q2
def Lr(i:Nat):TE:=λσ H Q=>∃v,σ[i]?=some (some v)/\Q v H
def tC(v:V):TE:=λ_ H Q=>Q v H
theorem Vo{i:Nat}{x:Str}{pos:ah}(hN:X.N[i]?=some x)(hv:yH X.env.scope x)(hd:(x==("__debug__":Str))=false:=by decide)(hcd:(x==("__classdict__":Str))=false:=by decide):PE X (.Name x pos) (Lr i):=by
 intro BM s σ H Q I h;obtain⟨v,e,h⟩:=h;obtain⟨m,hn,hl⟩:=I.loc;obtain⟨u,r,l⟩:=hl i x v hN e hv;have fin:EP X BM σ Q u s:=⟨v,H,I,r,h⟩;rcases l with⟨hk,hm⟩|⟨hk,c,hc,hcell⟩
 .exact wg (wpAny_loadName_local I.ok.kind hk hn hm fin) hd
 .rcases hk with hk |hk
  .exact wg (wpAny_loadName_cell I.ok.kind hk hc hcell fin) hd
  .exact wg (wpAny_loadName_free I.ok.kind hk hc hcell fin hcd) hd
theorem Fc{i j pos}:PE X (.Constant (.int i) j pos) (tC (.int i)):=λ_ _ _ H _ I h=>wpAny_Constant_int ⟨.int i,H,I.tok _,⟨_,rfl⟩,h⟩
theorem abV{b j pos}:PE X (.Constant (.bool b) j pos) (tC (.bl b)):=λ_ _ _ H _ I h=>Constant_bool ⟨.bl b,H,I,rfl,h⟩
theorem aaD{j pos}:PE X (.Constant .none j pos) (tC .non):=λ_ _ _ H _ I h=>wj ⟨.non,H,I,rfl,h⟩
theorem Qn{x j pos}:PE X (.Constant (.str x) j pos) (tC (.str x)):=λ_ _ _ H _ I h=>Calls.Constant_str ⟨.str x,H,I.tok _,⟨_,rfl⟩,h⟩
def Gl(X:Cx)(x:Str):Prop:=X.env.kindOf x=some .globalImplicit
theorem oQ{E:Value->aa->Prop}{BM:List (Addr×Obj)}{s:aa}{σ:St}{H:Hp}{x:Str}{u:Value}{pos:ah}{Q:Value->aa->Prop}(I:aO X BM σ H s)(hg:Gl X x)(hm:X.mg x=some u)(h:Q u s)
  (hd:(x==("__debug__":Str))=false:=by decide):wpAny (model X.prog X.w) X.A (eval (.Name x pos) X.env) Q E s:=
 zn I.ok.kind hg (Calls.loadGlobal_global (by rw[I.ok.glob];exact I.mod.glob.keeps I.bk) hm h) hd
theorem qF{E:Value->aa->Prop}{BM:List (Addr×Obj)}{s:aa}{σ:St}{H:Hp}{x:Str}{u:Value}{pos:ah}{Q:Value->aa->Prop}(I:aO X BM σ H s)(hg:Gl X x)(hm:X.mg x=none)(hv:bootBuiltins x=some u)(h:Q u s)
  (hn:x≠"__name__":=by decide)(hd:(x==("__debug__":Str))=false:=by decide):wpAny (model X.prog X.w) X.A (eval (.Name x pos) X.env) Q E s:=by
 obtain⟨mb,h1,h2⟩:=I.mod.blt;exact zn I.ok.kind hg (Calls.loadGlobal_builtin (by rw[I.ok.glob];exact I.mod.glob.keeps I.bk) hm (by rw[I.ok.blt];exact h1.keeps I.bk) ((h2 x hn).trans hv) h) hd
theorem vZ{x:Str}{v:V}{u:Value}{pos:ah}(hg:Gl X x)(hm:X.mg x=some u)(r:cD v u)(hd:(x==("__debug__":Str))=false:=by decide):PE X (.Name x pos) (tC v):=
 λ_ _ _ H _ I h=>oQ I hg hm ⟨v,H,I,r,h⟩ hd
theorem Q0{x:Str}{v:V}{u:Value}{pos:ah}(hg:Gl X x)(hm:X.mg x=none)(hv:bootBuiltins x=some u)(r:cD v u)(hn:x≠"__name__":=by decide)(hd:(x==("__debug__":Str))=false:=by decide):PE X (.Name x pos) (tC v):=
 λ_ _ _ H _ I h=>qF I hg hm hv ⟨v,H,I,r,h⟩ hn hd
variable{a b:af}{ta tb:TE}{pos:ah}
def PC(X:Cx)(op:jg)(a b:af)(t:TE):Prop:=
 ∀(BM:List (Addr×Obj))(s:aa)(σ:St)(H:Hp)(Q:VK),aO X BM σ H s->t σ H Q->
  wpAny (model X.prog X.w) X.A (eval a X.env) (λv BP=>wpAny (model X.prog X.w) X.A (eval b X.env) (λu BS=>wpAny (model X.prog X.w) X.A (compareOp op v u) (EP X BM σ Q) X.xe BS) X.xe BP) X.xe s
theorem Iz(b:af){op:jg}(h:op≠.In)(h2:op≠.NotIn):behindInMarks op b=false:=by
 have e1:(op==CmpOp.In)=false:=by cases op<;>first |rfl |exact absurd rfl h
 have e2:(op==CmpOp.NotIn)=false:=by cases op<;>first |rfl |exact absurd rfl h2
 cases b<;>simp[behindInMarks,e1,e2]
def Dr(ta:TE):TE:=λσ H Q=>ta σ H λx H1=>Q (.bl (decide (x=.non))) H1
def Bq(ta:TE):TE:=λσ H Q=>ta σ H λx H1=>Q (.bl (!decide (x=.non))) H1
theorem cD.none_iff{x:V}{v:Value}(r:cD x v):(v==cw)=decide (x=.non):=by
 cases x with
 |non=>cases r;rfl
 |bl _=>cases r;rfl
 |int _=>obtain⟨t,rfl⟩:=r;rfl
 |str _=>obtain⟨t,rfl⟩:=r;rfl
 |byt _=>obtain⟨t,rfl⟩:=r;rfl
 |flt _=>obtain⟨t,rfl⟩:=r;rfl
 |ref _=>cases r;rfl
 |ty _=>cases r;rfl
theorem aav{j pos'}(ha:PE X a ta):PC X .Is a (.Constant .none j pos') (Dr ta):=by
 intro BM s σ H Q I h;refine bI (ha BM s σ H _ I h) ?_
 rintro v s1 ⟨x,H1,I1,r1,q1⟩
 exact wj (is_none_gen ⟨.bl _,H1,I1,by rw[r1.none_iff];rfl,q1⟩)
theorem K3{j pos'}(ha:PE X a ta):PC X .IsNot a (.Constant .none j pos') (Bq ta):=by
 intro BM s σ H Q I h;refine bI (ha BM s σ H _ I h) ?_
 rintro v s1 ⟨x,H1,I1,r1,q1⟩
 exact wj (isnot_none_gen ⟨.bl _,H1,I1,by rw[r1.none_iff];rfl,q1⟩)
def tB(t:TE):TT:=λσ H Q=>t σ H λx H1=>∃c,x=.bl c/\Q c H1
theorem Sn{op:jg}{t:TE}(h:PC X op a b t)(h1:behindInMarks op b=false:=by first |exact Iz _ (by decide) (by decide) |rfl):PT X (.Compare a [op] [b] pos) (tB t):=by
 intro BM s σ H Q I hw;refine zo (bI (h BM s σ H _ I hw) λv s1 h1=>bI h1 λu s2 h2=>bI h2 λc s3 hq=>?_) h1;rcases hq with⟨x,H1,I1,r1,q1⟩;obtain⟨d,rfl,q⟩:=q1;cases r1;exact kh ⟨H1,I1,q⟩
theorem U6{e:af}{t:TE}(h:PE X e t)(he:∀whole,isTrue e X.env whole=(do let v <-whole;standAt e.pos;holding [v] (truthy v)):=by intro _;rfl):PT X e (tB t):=by
 intro BM s σ H Q I hw;refine isTrue_plain (bI (h BM s σ H _ I hw) λv s1 hq=>?_) (he _);rcases hq with⟨x,H1,I1,r1,q1⟩;obtain⟨d,rfl,q⟩:=q1;cases r1;exact kh ⟨H1,I1,q⟩
variable{tA tB':TT}{dM:List af}
def ab0(t u:TT):TT:=λσ H Q=>t σ H λc H1=>if c=true then u σ H1 Q else Q false H1
def tOr(t u:TT):TT:=λσ H Q=>t σ H λc H1=>if c=true then Q true H1 else u σ H1 Q
def ab8(t:TT):TT:=λσ H Q=>t σ H λc H1=>Q (!c) H1
theorem G9(ha:PT X a tA):PW X (.BoolOp .And [a] pos) tA:=by
 intro wh BM s σ H Q I h;refine isTrue_and (bI (ha BM s σ H Q I h) λc s1 e=>?_);cases c with
 |true=>exact isTrue_and_nil e
 |false=>exact e
theorem aax(ha:PT X a tA):PW X (.BoolOp .Or [a] pos) tA:=by
 intro wh BM s σ H Q I h;refine isTrue_or (bI (ha BM s σ H Q I h) λc s1 e=>?_);cases c with
 |false=>exact isTrue_or_nil e
 |true=>exact e
theorem U3(ha:PT X a tA)(hb:PW X (.BoolOp .And (b::dM) pos) tB'):PW X (.BoolOp .And (a::b::dM) pos) (ab0 tA tB'):=by
 intro wh BM s σ H Q I h;refine isTrue_and (bI (ha BM s σ H _ I h) λc s1 hq=>?_);rcases hq with⟨H1,I1,q1⟩;cases c with
 |true=>exact hb wh BM s1 σ H1 Q I1 q1
 |false=>exact⟨H1,I1,q1⟩
theorem aa6(ha:PT X a tA)(hb:PW X (.BoolOp .Or (b::dM) pos) tB'):PW X (.BoolOp .Or (a::b::dM) pos) (tOr tA tB'):=by
 intro wh BM s σ H Q I h;refine isTrue_or (bI (ha BM s σ H _ I h) λc s1 hq=>?_);rcases hq with⟨H1,I1,q1⟩;cases c with
 |true=>exact⟨H1,I1,q1⟩
 |false=>exact hb wh BM s1 σ H1 Q I1 q1
theorem Z5(ha:PT X a tA):PT X (.UnaryOp .Not a pos) (ab8 tA):=by
 intro BM s σ H Q I h;exact isTrue_not (ha BM s σ H (λc H1=>Q (!c) H1) I h)
def abu(ta tb:TE):TE:=λσ H Q=>ta σ H λx H1=>∃c,x=.bl c/\if c=true then tb σ H1 Q else Q (.bl false) H1
def acw(ta tb:TE):TE:=λσ H Q=>ta σ H λx H1=>∃c,x=.bl c/\if c=true then Q (.bl true) H1 else tb σ H1 Q
def aa1(ta:TE):TE:=λσ H Q=>ta σ H λx H1=>∃c,x=.bl c/\Q (.bl (!c)) H1
theorem X1{op}{t:TE}(h:PE X a t):PE X (.BoolOp op [a] pos) t:=λBM s σ H Q I hw=>BoolOp_one (h BM s σ H Q I hw)
theorem Hn(ha:PE X a ta)(hb:PE X (.BoolOp .And (b::dM) pos) tb):PE X (.BoolOp .And (a::b::dM) pos) (abu ta tb):=by
 intro BM s σ H Q I h;refine BoolOp_and (bI (ha BM s σ H _ I h) λv s1 hq=>?_);rcases hq with⟨x,H1,I1,r1,q1⟩;obtain⟨c,rfl,q1⟩:=q1;cases r1;refine kh ?_;cases c with
 |true=>exact hb BM s1 σ H1 Q I1 q1
 |false=>exact⟨.bl false,H1,I1,rfl,q1⟩
theorem abR(ha:PE X a ta)(hb:PE X (.BoolOp .Or (b::dM) pos) tb):PE X (.BoolOp .Or (a::b::dM) pos) (acw ta tb):=by
 intro BM s σ H Q I h;refine BoolOp_or (bI (ha BM s σ H _ I h) λv s1 hq=>?_);rcases hq with⟨x,H1,I1,r1,q1⟩;obtain⟨c,rfl,q1⟩:=q1;cases r1;refine kh ?_;cases c with
 |false=>exact hb BM s1 σ H1 Q I1 q1
 |true=>exact⟨.bl true,H1,I1,rfl,q1⟩
theorem Bo(ha:PE X a ta):PE X (.UnaryOp .Not a pos) (aa1 ta):=by
 intro BM s σ H Q I h;refine UnaryOp_ (bI (ha BM s σ H _ I h) λv s1 hq=>?_);rcases hq with⟨x,H1,I1,r1,q1⟩;obtain⟨c,rfl,q1⟩:=q1;cases r1;exact not_of (kh ⟨.bl (!c),H1,I1,rfl,q1⟩)
def tIf(t:TT)(ta tb:TE):TE:=λσ H Q=>t σ H λc H1=>if c=true then ta σ H1 Q else tb σ H1 Q
theorem Xy{c:af}(hc:PT X c tA)(ha:PE X a ta)(hb:PE X b tb):PE X (.IfExp c a b pos) (tIf tA ta tb):=by
 intro BM s σ H Q I h;refine wpAny_IfExp (bI (hc BM s σ H _ I h) λd s1 hq=>?_);rcases hq with⟨H1,I1,q1⟩;cases d with
 |true=>exact ha BM s1 σ H1 Q I1 q1
 |false=>exact hb BM s1 σ H1 Q I1 q1
end
def cK(K:ae)(H:Hp)(a:Addr)(xs:List V):Prop:=
 Rd H a (.lst xs)\/
  ∃(o:Obj)(its:Array Value)(n:Nat),K.lookup a=some o/\o.cls=.type "list"/\o.dict=none/\o.data=.seq its n/\its.size<=sizeLine/\bK xs its.toList
def dJ(K:ae)(H:Hp)(a:Addr)(xs:List V):Prop:=
 Rd H a (.tup xs)\/
  ∃(o:Obj)(its:Array Value)(n:Nat),K.lookup a=some o/\o.cls=.type "tuple"/\o.data=.seq its n/\its.size<=sizeLine/\bK xs its.toList
def acn:Value->Option V
 |.none=>some .non
 |.bool b=>some (.bl b)
 |.int i _=>some (.int i)
 |.str x _=>some (.str x)
 |.bytes b _=>some (.byt b)
 |.float b _=>some (.flt b)
 |.ref a=>some (.ref a)
 |.type n=>some (.ty n)
 |_=>none
theorem cD.abs{x:V}{u:Value}(r:cD x u):acn u=some x:=by
 cases x with
 |non=>cases r;rfl
 |bl _=>cases r;rfl
 |int _=>obtain⟨t,rfl⟩:=r;rfl
 |str _=>obtain⟨t,rfl⟩:=r;rfl
 |byt _=>obtain⟨t,rfl⟩:=r;rfl
 |flt _=>obtain⟨t,rfl⟩:=r;rfl
 |ref _=>cases r;rfl
 |ty _=>cases r;rfl
theorem cD.inj{x y:V}{u:Value}(r:cD x u)(q:cD y u):x=y:=cr (r.abs.symm.trans q.abs)
theorem bK.inj:∀{xs ys:List V}{us:BD},bK xs us->bK ys us->xs=ys
 |_,_,_,.nil,.nil=>rfl
 |_,_,_,.cons r t,.cons r' t'=>by rw[r.inj r',bK.inj t t']
section
variable{X:Cx}{BM:List (Addr×Obj)}{σ:St}{H:Hp}{s:aa}{a:Addr}{xs ys:List V}
theorem cK.of{K:ae}(h:H a=some (.lst xs)):cK K H a xs:=.inl (.inl h)
theorem dJ.of{K:ae}(h:H a=some (.tup xs)):dJ K H a xs:=.inl (.inl h)
theorem aO.list(I:aO X BM σ H s)(h:cK X.K H a xs):∃its:BD,bK xs its/\PlainL s.heap a its.toArray/\xs.length<=sizeLine:=by
 rcases h with h |⟨o,its,n,hk,hc,hd,hs,hz,r⟩
 .obtain⟨z,its,n,r,e⟩:=h.ok I.hok
  exact⟨its,r,⟨_,n,e,rfl,rfl,rfl⟩,z⟩
 .refine⟨its.toList,r,⟨o,n,I.kIn a o hk,hc,hd,by simpa using hs⟩,?_⟩
  have e:=r.length;simp only[pq]at e;omega
theorem aO.tuple(I:aO X BM σ H s)(h:dJ X.K H a xs):∃its:BD,bK xs its/\IsTup s.heap a its.toArray/\xs.length<=sizeLine:=by
 rcases h with h |⟨o,its,n,hk,hc,hs,hz,r⟩
 .obtain⟨z,its,r,p⟩:=h.ok I.hok
  exact⟨its,r,p,z⟩
 .refine⟨its.toList,r,⟨o,I.kIn a o hk,hc,n,by simpa using hs⟩,?_⟩
  have e:=r.length;simp only[pq]at e;omega
theorem aO.list_inj(I:aO X BM σ H s)(h:cK X.K H a xs)(h':cK X.K H a ys):xs=ys:=by
 obtain⟨its,r,⟨o,n,e,_,_,d⟩,_⟩:=I.list h;obtain⟨its',r',⟨o',n',e',_,_,d'⟩,_⟩:=I.list h';rw[e]at e';cases e';rw[d]at d';injection d' with d1 _;have:its=its':=by simpa using congrArg wk d1
 subst this;exact r.inj r'
theorem aO.tuple_inj(I:aO X BM σ H s)(h:dJ X.K H a xs)(h':dJ X.K H a ys):xs=ys:=by
 obtain⟨its,r,⟨o,e,_,n,d⟩,_⟩:=I.tuple h;obtain⟨its',r',⟨o',e',_,n',d'⟩,_⟩:=I.tuple h';rw[e]at e';cases e';rw[d]at d';injection d' with d1 _;have:its=its':=by simpa using congrArg wk d1
 subst this;exact r.inj r'
end
abbrev Cx.wish(X:Cx)(E:Value->aa->Prop):Cx:={X with xe:=E}
abbrev Cx.nox(X:Cx):Cx:=X.wish λ_ _=>False
theorem Cx.Ok.wish{X:Cx}(ok:X.Ok)(E:Value->aa->Prop):(X.wish E).Ok:=
 ⟨ok.mod,ok.kind,ok.glob,ok.blt,ok.above,ok.inj,ok.has,ok.cab,ok.hd,ok.frames,ok.stk,ok.exf,ok.bs,ok.bsz,ok.noex,ok.exfs,ok.funs,ok.frf⟩
theorem Cx.Ok.unwish{X:Cx}{E:Value->aa->Prop}(ok:(X.wish E).Ok):X.Ok:=
 ⟨ok.mod,ok.kind,ok.glob,ok.blt,ok.above,ok.inj,ok.has,ok.cab,ok.hd,ok.frames,ok.stk,ok.exf,ok.bs,ok.bsz,ok.noex,ok.exfs,ok.funs,ok.frf⟩
section
variable{X:Cx}{BM:List (Addr×Obj)}{σ:St}{H:Hp}{s:aa}{E:Value->aa->Prop}
theorem aO.wish(I:aO X BM σ H s)(E:Value->aa->Prop):aO (X.wish E) BM σ H s:=⟨I.ok.wish E,I.os,I.bare,I.base,I.loc,I.cell,I.free,I.freeC,I.pin,I.hok,I.len⟩
theorem aO.unwish(I:aO (X.wish E) BM σ H s):aO X BM σ H s:=⟨I.ok.unwish,I.os,I.bare,I.base,I.loc,I.cell,I.free,I.freeC,I.pin,I.hok,I.len⟩
theorem SP.unwish{D:kO}{f:Flow}{s':aa}(h:SP (X.wish E) BM D f s'):SP X BM D f s':=by
 cases f with
 |next=>obtain⟨σ',H',I,q⟩:=h;exact⟨σ',H',I.unwish,q⟩
 |brk=>obtain⟨σ',H',I,q⟩:=h;exact⟨σ',H',I.unwish,q⟩
 |cont=>obtain⟨σ',H',I,q⟩:=h;exact⟨σ',H',I.unwish,q⟩
 |ret u=>obtain⟨v,σ',H',I,r,q⟩:=h;exact⟨v,σ',H',I.unwish,r,q⟩
theorem fJ.nox{st:List Stmt}{t:TS}(h:fJ X.nox st t):fJ X st t:=λBM s σ H D I hw=>
 dh (h BM s σ H D (I.wish _) hw) (λ_ _ q=>q.unwish) λ_ _ z=>fj z
end
section
variable{X:Cx}{st:Stmt}{dM:List Stmt}{t u:TS}{e:af}{te:TE}{pos:ah}
def abm:TS:=λD σ H=>D.nx σ H
def aci(t u:TS):TS:=λD σ H=>t {D with nx:=u D} σ H
theorem O3:fJ X [] abm:=λ_ _ σ H _ I h=>og ⟨σ,H,I,h⟩
theorem E8(h1:PS X st t)(h2:fJ X dM u):fJ X (st::dM) (aci t u):=by
 intro BM s σ H D I h;refine wl (bI (h1 BM s σ H {D with nx:=u D} I h) λf s1 q=>?_);cases f with
 |next=>
  obtain⟨σ',H',I',q⟩:=q;exact h2 BM s1 σ' H' D I' q
 |ret v=>exact q
 |brk=>exact q
 |cont=>exact q
theorem Ac(h1:PS X st t):fJ X [st] t:=by
 intro BM s σ H D I h;refine wl (bI (h1 BM s σ H D I h) λf s1 q=>?_);cases f with
 |next=>exact og q
 |ret v=>exact q
 |brk=>exact q
 |cont=>exact q
theorem aO.quiet{BM:List (Addr×Obj)}{σ:St}{H:Hp}{s:aa}(I:aO X BM σ H s):interactive X.env=false:=by simp[interactive,I.ok.kind]
def abO(te:TE):TS:=λD σ H=>te σ H λ_ H1=>D.nx σ H1
theorem K8(he:PE X e te)(hs:swapsWith e none pos.line X.env=pure false:=by rfl):PS X (.Expr e pos) (abO te):=by
 intro BM s σ H D I h;exact wpAny_Expr_any (bI (he BM s σ H _ I h) λv s1 ⟨x,H1,I1,r1,q1⟩=>⟨σ,H1,I1,q1⟩) I.quiet hs
def acp(te:TE):TS:=λD σ H=>te σ H D.rt
theorem aal(he:PE X e te):PS X (.Return (some e) pos) (acp te):=by
 intro BM s σ H D I h;exact wpAny_Return_some (bI (he BM s σ H _ I h) λv s1 ⟨x,H1,I1,r1,q1⟩=>⟨x,σ,H1,I1,r1,q1⟩)
def acx(c:TT)(t u:TS):TS:=λD σ H=>c σ H λb H1=>if b=true then t D σ H1 else u D σ H1
theorem abS{c:af}{a b:List Stmt}{tc:TT}(hc:PT X c tc)(ha:fJ X a t)(hb:fJ X b u):PS X (.If c a b pos) (acx tc t u):=by
 intro BM s σ H D I h;refine wpAny_If (bI (hc BM s σ H _ I h) λd s1 hq=>?_);rcases hq with⟨H1,I1,q1⟩;cases d with
 |true=>exact ha BM s1 σ H1 D I1 q1
 |false=>exact hb BM s1 σ H1 D I1 q1
end
abbrev TG:=V->St->Hp->(St->Hp->Prop)->Prop
abbrev mU:=List V->St->Hp->(St->Hp->Prop)->Prop
def PG(X:Cx)(target:af)(t:TG):Prop:=
 ∀(BM:List (Addr×Obj))(s:aa)(σ:St)(H:Hp)(v:V)(u:Value)(Q:St->Hp->Prop),aO X BM σ H s->cD v u->t v σ H Q->
  wpAny (model X.prog X.w) X.A (assign target X.env u) (λ_ s'=>∃σ' H',aO X BM σ' H' s'/\Q σ' H') X.xe s
def lL(X:Cx)(ts:List af)(t:mU):Prop:=
 ∀(BM:List (Addr×Obj))(s:aa)(σ:St)(H:Hp)(vs:List V)(us:BD)(Q:St->Hp->Prop),aO X BM σ H s->bK vs us->t vs σ H Q->
  wpAny (model X.prog X.w) X.A (assignInOrder ((assignEach ts X.env).map (·.2)) us) (λ_ s'=>∃σ' H',aO X BM σ' H' s'/\Q σ' H') X.xe s
abbrev Zd:=V->V->V->Hp->(Hp->Prop)->Prop
def Tq(X:Cx)(t:Zd):Prop:=
 ∀(BM:List (Addr×Obj))(s:aa)(σ:St)(H:Hp)(o i v:V)(ov iv u:Value)(Q:Hp->Prop),aO X BM σ H s->cD o ov->cD i iv->cD v u->t o i v H Q->
  wpAny (model X.prog X.w) X.A (setItem ov iv u) (λ_ s'=>∃H',aO X BM σ H' s'/\Q H') X.xe s
abbrev TIp:=V->V->Hp->VK->Prop
def iL(X:Cx)(op:Operator)(t:TIp):Prop:=
 ∀(BM:List (Addr×Obj))(s:aa)(σ:St)(H:Hp)(x y:V)(v u:Value)(Q:VK),aO X BM σ H s->cD x v->cD y u->t x y H Q->
  wpAny (model X.prog X.w) X.A (inplaceOp op v u) (EP X BM σ Q) X.xe s
section
variable{X:Cx}{pos:ah}
def xA(i:Nat):TG:=λv σ H Q=>Q (σ.set i (some v)) H
theorem R8{i:Nat}{x:Str}(hN:X.N.Nodup)(hi:X.N[i]?=some x)(hx:kE X.env.scope x)(hf:X.fn x=true\/X.env.scope.names.lookup x=some .local:=by first |exact .inl rfl |exact .inr rfl |assumption):PG X (.Name x pos) (xA i):=by
 intro BM s σ H v u Q I r h;exact wm (lZ I hN hi hx r (λs' I'=>⟨_,H,I',h⟩) hf)
def acv:mU:=λvs σ H Q=>vs=[]/\Q σ H
def aa5(t:TG)(u:mU):mU:=λvs σ H Q=>∃v r,vs=v::r/\t v σ H λσ' H'=>u r σ' H' Q
theorem K6:lL X [] acv:=by
 intro BM s σ H vs us Q I r h;obtain⟨e,h⟩:=h;subst e;cases r;exact assignInOrder_nil ⟨σ,H,I,h⟩
theorem Fy{e:af}{es:List af}{t:TG}{u:mU}(h1:PG X e t)(h2:lL X es u)
  (hs:(assignEach (e::es) X.env).map (·.2)=assign e X.env::(assignEach es X.env).map (·.2):=by rfl):lL X (e::es) (aa5 t u):=by
 intro BM s σ H vs us Q I r h;obtain⟨v,vr,e1,h⟩:=h;subst e1;cases r with
 |cons r rr=>
  rw[hs];refine wn (bI (h1 BM s σ H _ _ _ I r h) λ_ s1 hq=>?_);rcases hq with⟨σ1,H1,I1,q1⟩;exact h2 BM s1 σ1 H1 _ _ Q I1 rr q1
def ab4(K:ae)(n:Nat)(t:mU):TG:=λv σ H Q=>∃a xs,v=.ref a/\dJ K H a xs/\xs.length=n/\t xs σ H Q
theorem Y1{es:List af}{k:Nat}{t:mU}{n:Nat}(hc:X.calm=true)(h:lL X es t)
  (hn:(assignEach es X.env).length=n:=by rfl)(hst:(assignEach es X.env).findIdx? (·.1)=none:=by rfl):PG X (.Tuple es k pos) (ab4 X.K n t):=by
 intro BM s σ H v u Q I r hw;obtain⟨a,xs,e1,hq,hl,hw⟩:=hw;subst e1;cases r;obtain⟨its,rv,ht,hz⟩:=I.tuple hq;refine assign_Tuple_tuple (I.ok.hd hc) ht (by simp[hn,<-hl,rv.length]) hst λh' hx=>?_;have I1:aO X BM σ H {s with heap:=h'}:=I.kept (t':=s.toks) λb o e=>hx b o (db (ax e)) e;exact h BM _ σ H xs _ Q I1 (by simpa using rv) hw
def ab2(to ti:TE)(t:Zd):TG:=λv σ H Q=>to σ H λo H1=>ti σ H1 λi H2=>t o i v H2 λH3=>Q σ H3
theorem aaL{o i:af}{to ti:TE}{t:Zd}(ho:PE X o to)(hi:PE X i ti)(hs:Tq X t)
  (ha:∀v,assign (.Subscript o i pos) X.env v=(do
   let ov <-holding [v] (eval o X.env)
   let iv <-holding [v,ov] (eval i X.env)
   standAt pos
   holding [v,ov,iv] (setItem ov iv v)
   release [v,ov,iv] []):=by intro _;rfl):PG X (.Subscript o i pos) (ab2 to ti t):=by
 intro BM s σ H v u Q I r h;rw[ha];refine ag (fe (bI (ho BM s σ H _ I h) λov s1 hq=>?_));rcases hq with⟨x,H1,I1,r1,q1⟩;refine ag (fe (bI (hi BM s1 σ H1 _ I1 q1) λiv s2 hq=>?_));rcases hq with⟨y,H2,I2,r2,q2⟩;refine ag (ki (ag (fe (bI (hs BM s2 σ H2 x y v ov iv u _ I2 r1 r2 r q2) λ_ s3 hq=>?_))));rcases hq with⟨H3,I3,q3⟩;exact wpAny_release ⟨σ,H3,I3,q3⟩
def xW(te:TE)(g:TG):TS:=λD σ H=>te σ H λx H1=>g x σ H1 D.nx
theorem Ep{tg e:af}{te:TE}{g:TG}(he:PE X e te)(hg:PG X tg g)(hs:swapsWithSole [tg] e pos.line X.env=pure false:=by rfl)(hw:swappedStores [tg] e X.env=pure none:=by rfl)
  (h1:(assignEach [tg] X.env).map (·.2)=[assign tg X.env]:=by rfl):PS X (.Assign [tg] e pos) (xW te g):=by
 intro BM s σ H D I h;refine wpAny_Assign_stores (bI (he BM s σ H _ I h) λv s1 hq=>?_) hs hw;rcases hq with⟨x,H1,I1,r1,q1⟩;rw[h1];exact bI (hg BM s1 σ H1 x v _ I1 r1 q1) λ_ s2 q=>q
theorem Vc{i:Nat}{x:Str}{e:af}{te:TE}{pos':ah}(hN:X.N.Nodup)(hi:X.N[i]?=some x)(hx:kE X.env.scope x)(he:PE X e te)(hs:swapsWith e (some (.Name x pos')) pos.line X.env=pure false:=by rfl)(hf:X.fn x=true\/X.env.scope.names.lookup x=some .local:=by first |exact .inl rfl |exact .inr rfl |assumption):
  PS X (.Assign [.Name x pos'] e pos) (xW te (xA i)):=by
 intro BM s σ H D I h;refine wpAny_Assign_Name (bI (he BM s σ H _ I h) λv s1 hq=>?_) hs;rcases hq with⟨y,H1,I1,r1,q1⟩;exact lZ I1 hN hi hx r1 (λs2 I2=>⟨_,H1,I2,q1⟩) hf
def abW(i j:Nat)(ta:TA):TS:=λD σ H=>ta σ H λvs H1=>∃v w,vs=[v,w]/\D.nx ((σ.set i (some v)).set j (some w)) H1
theorem aay{i j:Nat}{x y:Str}{a b:af}{ta:TA}{px py pt:ah}{kt k2 pt2}(hc:X.calm=true)(hN:X.N.Nodup)(hi:X.N[i]?=some x)(hj:X.N[j]?=some y)(hij:i≠j)
  (hx:X.env.scope.names.lookup x=some .local)(hy:X.env.scope.names.lookup y=some .local)(ha:PA X [a,b] ta)
  (hw:swappedStores [.Tuple [.Name x px,.Name y py] kt pt] (.Tuple [a,b] k2 pt2) X.env=pure (some [x,y]))
  (hs:swapsWithSole [.Tuple [.Name x px,.Name y py] kt pt] (.Tuple [a,b] k2 pt2) pos.line X.env=pure false:=by rfl):
  PS X (.Assign [.Tuple [.Name x px,.Name y py] kt pt] (.Tuple [a,b] k2 pt2) pos) (abW i j ta):=by
 intro BM s σ H D I h;rw[exec_Assign_arm];refine ag (ki ?_);rw[hs];refine ag (au ?_);rw[if_neg (by decide)];refine ag (Tuple_ (bI (ha _ BM s σ H _ I h) λus s1 hq=>?_));rcases hq with⟨vs,H1,I1,r1,q1⟩;obtain⟨v,w,e1,q1⟩:=q1;subst e1;obtain⟨u1,u2,rfl,rv,rw'⟩:∃u1 u2,us=[u1,u2]/\cD v u1/\cD w u2:=by
  cases r1 with
  |cons p q=>
   cases q with
   |cons p' q'=>
    cases q';exact⟨_,_,rfl,p,p'⟩
 refine jh ?_ (by show 2<=sizeLine;decide);have I2:aO X BM σ H1 {s1 with heap:=s1.heap.push {cls:=.type "tuple",data:=.seq [u1,u2].toArray}}:=I1.kept (t':=s1.toks) λb o e=>aw _ e;rw[hw];refine ag (au ?_);show wpAny (model X.prog X.w) X.A (do rule "assign.swapped-stores";let items <-unpackItems (.ref s1.heap.objs.size) 2 none;assignInOrder [λv=>bindName X.env y v,λv=>bindName X.env x v] items.reverse;pure Flow.next) _ _ _
 refine ag (oh (ag (unpackItems_tuple (items:=#[u1,u2]) (I.ok.hd hc) (qz s1.heap _) λh' hx'=>?_)));have I3:=I2.kept (h':=h') (t':=s1.toks) λb o e=>hx' b o (db (ax e)) e;show wpAny _ _ (assignInOrder [λv=>bindName X.env y v,λv=>bindName X.env x v] [u2,u1] >>= λ_=>pure Flow.next) _ _ _
 refine ag (wn (wpAny_bindName (lZ I3 hN hj (.inl hy) rw' (λs2 I4=>?_) (.inr hy))));refine wn (wpAny_bindName (lZ I4 hN hi (.inl hx) rv (λs3 I5=>assignInOrder_nil (au ?_)) (.inr hx)));rw[List.set_comm _ _ (iw hij)]at I5;exact⟨_,H1,I5,q1⟩
end
section
variable{X:Cx}{pos:ah}
def X3(c:TT)(tb:TS):TS:=λD σ H=>∃W:Nat->St->Hp->Prop,(∃m,W m σ H)/\∀m σ H,W m σ H->
 c σ H λb H1=>if b=true then ∃N:St->Hp->Prop,(∀σ' H',N σ' H'->∃m',m'<m/\W m' σ' H')/\tb {D with nx:=N,ct:=N,bk:=D.nx} σ H1 else D.nx σ H1
theorem E7{c:af}{body:List Stmt}{tc:TT}{tb:TS}(hp:re (model X.prog X.w) X.A X.env X.xe)(hc:PT X c tc)(hb:fJ X body tb):PS X (.While c body [] pos) (X3 tc tb):=by
 intro BM s σ H D I h;obtain⟨W,⟨m0,w0⟩,turn⟩:=h;refine wpAny_While (codeAny_whileLoop (λn s'=>∃σ' H',aO X BM σ' H' s'/\W n σ' H') ?_ m0 ⟨σ,H,I,w0⟩)
 rintro n s1 ⟨σ1,H1,I1,w1⟩
 refine lm hp (bI (hc BM s1 σ1 H1 _ I1 (turn n σ1 H1 w1)) λb s2 hq=>?_);rcases hq with⟨H2,I2,q2⟩;cases b with
 |true=>
  obtain⟨N,hN,q2⟩:=q2;rw[if_pos rfl];refine lm hp (bI (hb BM s2 σ1 H2 _ I2 q2) λf s3 q3=>?_);cases f with
  |next=>
   obtain⟨σ3,H3,I3,n3⟩:=q3;obtain⟨m',hm,w3⟩:=hN σ3 H3 n3;exact⟨m',hm,σ3,H3,I3,w3⟩
  |cont=>
   obtain⟨σ3,H3,I3,n3⟩:=q3;obtain⟨m',hm,w3⟩:=hN σ3 H3 n3;exact⟨m',hm,σ3,H3,I3,w3⟩
  |brk=>exact q3
  |ret v=>exact q3
 |false=>
  rw[if_neg ia];exact og ⟨σ1,H2,I2,q2⟩
end
structure It where
 go:Nat->Hp->Prop
 yld:Nat->Hp->V->Hp->Prop
 stop:Nat->Hp->Prop
def fG(X:Cx)(BM:List (Addr×Obj))(H:Hp)(b:Addr):Prop:=
 H b=none/\b≠X.env.locals/\b∉X.fs/\(b∈X.ex\/X.BN.heap.objs.size<=b)/\(∀x c,X.env.cells.lookup x=some c->c≠b)/\∀p∈X.pn++BM,p.1≠b
theorem aO.fpOk{X:Cx}{BM:List (Addr×Obj)}{σ:St}{H H':Hp}{s:aa}{b:Addr}(I:aO X BM σ H s)(hb:s.heap.objs.size<=b)(hn:H' b=none):fG X BM H' b:=by
 refine⟨hn,pw (cj I.lt hb),I.nofs hb,.inr (dz I.sz hb),λx c e z=>?_,λp hp z=>?_⟩
 .obtain⟨v,q⟩:=I.cell x c e
  exact absurd (cj q.lt (by rw[z];exact hb)) (gf _)
 .exact absurd (cj (ax (I.pin p hp).1) (by rw[z];exact hb)) (gf _)
structure pF(P:Program)(w:ao)(K:ae)(tg:af)(J:It)(fp:List Addr)(it:Addr)(tn:Nat->Heap->Prop):Prop where
 mem:it∈fp
 obj:∀i h,tn i h->∀b∈fp,∃o,h.get? b=some o/\∀v,o.data≠.cell v
 keep:∀i h h',tn i h->(∀b∈fp,∀o,h.get? b=some o->h'.get? b=some o)->tn i h'
 item:∀(X:Cx),X.prog=P->X.w=w->X.K=K->X.calm=true->∀(i:Nat)(BM:List (Addr×Obj))(s:aa)(σ:St)(H:Hp)(E:Value->aa->Prop),aO X BM σ H s->(∀b∈fp,fG X BM H b)->tn i s.heap->J.go i H->
  wpAny (model P w) X.A (pyNext (.ref it)) (λr s1=>∃u,r=some u/\
   wpAny (model P w) X.A (letOwnedTupleGo tg (.ref it) u) (λ_ s2=>∃x H',aO X BM σ H' s2/\cD x u/\J.yld i H x H'/\tn (i+1) s2.heap/\∀b∈fp,H' b=none) E s1) E s
 done:∀(X:Cx),X.prog=P->X.w=w->X.K=K->X.calm=true->∀(i:Nat)(BM:List (Addr×Obj))(s:aa)(σ:St)(H:Hp)(E:Value->aa->Prop),aO X BM σ H s->(∀b∈fp,fG X BM H b)->tn i s.heap->J.stop i H->
  wpAny (model P w) X.A (pyNext (.ref it)) (λr s1=>r=none/\aO X BM σ H s1) E s
 self:∀(A:aq)(i:Nat)(s:aa)(Q:Value->aa->Prop)(E:Value->aa->Prop),tn i s.heap->Q (.ref it) s->wpAny (model P w) A (pyIter (.ref it)) Q E s
abbrev TI:=St->Hp->(It->Hp->Prop)->Prop
def Bs(X:Cx)(BM:List (Addr×Obj))(σ:St)(tg:af)(R:It->Hp->Prop)(itv:Value)(s2:aa):Prop:=
 ∃(it:Addr)(fp:List Addr)(tn:Nat->Heap->Prop)(J:It)(H':Hp),itv=.ref it/\aO X BM σ H' s2/\pF X.prog X.w X.K tg J fp it tn/\tn 0 s2.heap/\(∀b∈fp,fG X BM H' b)/\R J H'
def PI(X:Cx)(tg iter:af)(wi:TI):Prop:=
 ∀(BM:List (Addr×Obj))(s:aa)(σ:St)(H:Hp)(R:It->Hp->Prop),aO X BM σ H s->wi σ H R->
  wpAny (model X.prog X.w) X.A (eval iter X.env) (λv s1=>wpAny (model X.prog X.w) X.A (pyIter v) (Bs X BM σ tg R) X.xe s1) X.xe s
theorem wU {M : gh} {A : aq} {E : Value → aa → Prop} {s : aa} {tg : af} {it : Addr} {u : Value} {o : Obj} {n : String} {vs : Array Value} {Q : Unit → aa → Prop} (ho : s.heap.get? it = some o) (hc : o.cls = .type n) (hd : o.data = .fields vs)
    (hn : ["enumerate", "zip", "dict_itemiterator", "dict_reverseitemiterator", "odict_iterator", "itertools.zip_longest", "itertools.pairwise"].contains n = false) (hQ : Q () s) : wpAny M A (letOwnedTupleGo tg (.ref it) u) Q E s := by
  unfold letOwnedTupleGo;cases tg <;> first
    | exact au hQ
    | (cases u <;> first
        | exact au hQ
        | (refine ag (wpAny_load ho ?_)
           rw [hc, hd];show wpAny M A (if (["enumerate", "zip", "dict_itemiterator", "dict_reverseitemiterator", "odict_iterator", "itertools.zip_longest", "itertools.pairwise"].contains n && vs[0]? == some (rawInt _)) = true then _ else _) Q E s;rw [if_neg (by intro h; rw [hn, Bool.false_and] at h; cases h)];exact au hQ))
def yE(K:ae)(a:Addr):It:=
 ⟨λi H=>∃xs x,cK K H a xs/\xs[i]?=some x,λi H x H'=>H'=H/\∀xs,cK K H a xs->xs[i]?=some x,λi H=>∃xs,cK K H a xs/\xs.length<=i⟩
def Ue(K:ae)(a:Addr):It:=
 ⟨λi H=>∃xs x,dJ K H a xs/\xs[i]?=some x,λi H x H'=>H'=H/\∀xs,dJ K H a xs->xs[i]?=some x,λi H=>∃xs,dJ K H a xs/\xs.length<=i⟩
def yQ(lo:Int)(n:Nat):It:=⟨λi _=>i<n,λi H x H'=>H'=H/\x=.int (lo+i),λi _=>n<=i⟩
theorem Dx{P:Program}{w:ao}{K:ae}{tg:af}(a it:Addr):pF P w K tg (yE K a) [it] it (λi h=>h.IsListIter it a i) where
 mem:=by simp
 obj:=λi h st b hb=>by
  have e:b=it:=by simpa using hb
  subst e;obtain⟨o,e,c,d⟩:=st;exact⟨o,e,λv z=>by rw[d]at z;cases z⟩
 keep:=λi h h' st k=>st.at λo e=>k it (by simp) o e
 item:=by
  intro X hP hw hK hc i BM s σ H E I hf st hg;subst hP hw hK;obtain⟨xs,x,hq,hx⟩:=hg;obtain⟨its,rv,p,hz⟩:=I.list hq;obtain⟨u,hu,ru⟩:=rv.get hx;obtain⟨f0,f1,f2,f3,f4,f5⟩:=hf it (by simp);refine wpAny_pyNext_list_item st p.isList (x:=u) (by simpa using hu) λh' st' sb=>?_;have I1:aO X BM σ H {s with heap:=h'}:=I.turned (t':=s.toks) (λb o hb e=>(sb.2 b hb).trans e) f0 f1 f3 f4 f5;obtain⟨o,e,c,d⟩:=id st';exact⟨u,rfl,wU (s:={s with heap:=h'}) e c d (by decide) ⟨x,H,I1,ru,⟨rfl,λys hy=>by rw[I.list_inj hy hq];exact hx⟩,st',λb hb=>(hf b hb).1⟩⟩
 done:=by
  intro X hP hw hK hc i BM s σ H E I hf st hg;subst hP hw hK;obtain⟨xs,hq,hx⟩:=hg;obtain⟨its,rv,p,hz⟩:=I.list hq;obtain⟨f0,f1,f2,f3,f4,f5⟩:=hf it (by simp);have hl:=rv.length;exact wpAny_pyNext_list_end (I.ok.hd hc) st p.isList (by simp;omega) λh' eb=>⟨rfl,I.turned (t':=s.toks) (λb o hb e=>eb b o hb e) f0 f1 f3 f4 f5⟩
 self:=λ_ _ _ _ _ st h=>wpAny_pyIter_listiter st h
theorem Rv{P:Program}{w:ao}{K:ae}{tg:af}(a it:Addr):pF P w K tg (Ue K a) [it] it (λi h=>h.IsTupleIter it a i) where
 mem:=by simp
 obj:=λi h st b hb=>by
  have e:b=it:=by simpa using hb
  subst e;obtain⟨o,e,c,d⟩:=st;exact⟨o,e,λv z=>by rw[d]at z;cases z⟩
 keep:=λi h h' st k=>st.at λo e=>k it (by simp) o e
 item:=by
  intro X hP hw hK hc i BM s σ H E I hf st hg;subst hP hw hK;obtain⟨xs,x,hq,hx⟩:=hg;obtain⟨its,rv,p,hz⟩:=I.tuple hq;obtain⟨u,hu,ru⟩:=rv.get hx;obtain⟨f0,f1,f2,f3,f4,f5⟩:=hf it (by simp);refine wpAny_pyNext_tuple_item st (show s.heap.IsTuple a its.toArray from p) (x:=u) (by simpa using hu) λh' st' sb=>?_;have I1:aO X BM σ H {s with heap:=h'}:=I.turned (t':=s.toks) (λb o hb e=>(sb.2 b hb).trans e) f0 f1 f3 f4 f5;obtain⟨o,e,c,d⟩:=id st';exact⟨u,rfl,wU (s:={s with heap:=h'}) e c d (by decide) ⟨x,H,I1,ru,⟨rfl,λys hy=>by rw[I.tuple_inj hy hq];exact hx⟩,st',λb hb=>(hf b hb).1⟩⟩
 done:=by
  intro X hP hw hK hc i BM s σ H E I hf st hg;subst hP hw hK;obtain⟨xs,hq,hx⟩:=hg;obtain⟨its,rv,p,hz⟩:=I.tuple hq;obtain⟨f0,f1,f2,f3,f4,f5⟩:=hf it (by simp);have hl:=rv.length;exact wpAny_pyNext_tuple_end (I.ok.hd hc) st (show s.heap.IsTuple a its.toArray from p) (by simp;omega) λh' eb=>⟨rfl,I.turned (t':=s.toks) (λb o hb e=>eb b o hb e) f0 f1 f3 f4 f5⟩
 self:=λ_ _ _ _ _ st h=>wpAny_pyIter_tupleiter st h
theorem Nv{P:Program}{w:ao}{K:ae}{tg:af}(it:Addr)(lo:Int)(n:Nat):pF P w K tg (yQ lo n) [it] it (λi h=>IsRangeIter h it (lo+(i:Nat)*1) ((n:Int)-(i:Nat)) 1) where
 mem:=by simp
 obj:=λi h st b hb=>by
  have e:b=it:=by simpa using hb
  subst e;exact⟨_,st,λv z=>by
   have z':Data.fields _=Data.cell v:=z;cases z'⟩
 keep:=λi h h' st k=>k it (by simp) _ st
 item:=by
  intro X hP hw hK hc i BM s σ H E I hf st hg;subst hP hw hK;obtain⟨f0,f1,f2,f3,f4,f5⟩:=hf it (by simp);have W:=Walks.range (prog:=X.prog) (w:=X.w) (I.ok.hd hc) it lo 1 n;refine W.item i s _ _ hg st λv h' tk hv st' kk=>?_;obtain⟨t,rfl⟩:=hv;have I1:aO X BM σ H {s with heap:=h',toks:=tk}:=I.turned (λb o hb e=>kk b o (by simpa using hb) e) f0 f1 f3 f4 f5;refine⟨_,rfl,wU (s:={s with heap:=h',toks:=tk}) (n:="range_iterator") st' rfl rfl (by decide) ⟨.int (lo+i),H,I1,⟨t,?_⟩,⟨rfl,rfl⟩,st',λb hb=>(hf b hb).1⟩⟩;rw[Int.mul_one]
 done:=by
  intro X hP hw hK hc i BM s σ H E I hf st hg;subst hP hw hK;obtain⟨f0,f1,f2,f3,f4,f5⟩:=hf it (by simp);exact wpAny_pyNext_range_end (I.ok.hd hc) st (by have:n<=i:=hg;omega) λh' eb=>⟨rfl,I.turned (t':=s.toks) (λb o hb e=>eb b o hb e) f0 f1 f3 f4 f5⟩
 self:=λ_ _ _ _ _ st h=>wpAny_pyIter_rangeiter st h
section
variable{X:Cx}{tg:af}
theorem Oz{BM:List (Addr×Obj)}{σ:St}{H:Hp}{s:aa}{R:It->Hp->Prop}{E:Value->aa->Prop}{lo hi:Int}{t u v:dk}{tk:Nat}(I:aO X BM σ H s)(h1:-(2^62)<=lo)(h2:lo<2^62)(h3:-(2^62)<=hi)(h4:hi<2^62)
  (q:R (yQ lo (hi-lo).toNat) H):wpAny (model X.prog X.w) X.A (pyIter (.ref s.heap.objs.size)) (Bs X BM σ tg R) E {s with heap:=s.heap.push {cls:=.type "range",data:=.fields #[.int lo t,.int hi u,.int 1 v]},toks:=tk}:=by
 refine wpAny_pyIter_range (IsRange.new ..) (small_one h1 h2 h3 h4) ?_;have I1:aO X BM σ H {s with heap:=s.heap.push {cls:=.type "range",data:=.fields #[.int lo t,.int hi u,.int 1 v]},toks:=tk}:=I.kept λb o e=>aw _ e;refine⟨(s.heap.push {cls:=.type "range",data:=.fields #[.int lo t,.int hi u,.int 1 v]}).objs.size,[(s.heap.push {cls:=.type "range",data:=.fields #[.int lo t,.int hi u,.int 1 v]}).objs.size],_,_,H,rfl,
  I1.kept (t':=tk) λb o e=>aw _ e,Nv _ lo (hi-lo).toNat,?_,λb hb=>?_,q⟩
 .have e1:lo+((0:Nat):Int)*1=lo:=by simp
  have e2:(((hi-lo).toNat:Nat):Int)-((0:Nat):Int)=Builtin.Range.rangeSize lo hi 1:=by rw[rangeSize_one];split<;>omega
  show IsRangeIter _ _ (lo+((0:Nat):Int)*1) ((((hi-lo).toNat:Nat):Int)-((0:Nat):Int)) 1;rw[e1,e2];exact dq _ rfl
 .have e:b=(s.heap.push {cls:=.type "range",data:=.fields #[.int lo t,.int hi u,.int 1 v]}).objs.size:=by simpa using hb
  subst e;exact I1.fpOk (am _) (I1.hok.fresh (am _))
def aba(ta:TA):TI:=λσ H R=>ta σ H λvs H1=>∃j:Int,vs=[.int j]/\-(2^62)<=j/\j<2^62/\R (yQ 0 j.toNat) H1
theorem Dw{a:af}{ta:TA}{p pos:ah}(hg:Gl X "range")(hm:X.mg "range"=none)(ha:PA X [a] ta)(hs:starEach [a] X.env=[(false,eval a X.env)]:=by rfl):PI X tg (.Call (.Name "range" p) [a] [] pos) (aba ta):=by
 intro BM s σ H R I h;refine Call_ (qF I hg hm boot_range (rh (bI (ha pos BM s σ H _ I h) λus s1 hq=>?_) hs rfl));rcases hq with⟨vs,H1,I1,r1,q1⟩;obtain⟨j,e,q1,q2,q⟩:=q1;subst e;cases r1 with
 |cons r rr=>
  cases rr;obtain⟨t,rfl⟩:=r;exact call_range_1 (Oz I1 (by omega) (by omega) q1 q2 (by simpa using q))
def acg(wi:TI)(g:TG)(tb:TS):TS:=λD σ H=>wi σ H λJ H1=>∃W:Nat->Nat->St->Hp->Prop,(∃m,W 0 m σ H1)/\∀i m σ H,W i m σ H->
 (J.stop i H/\D.nx σ H)\/(J.go i H/\∃N:St->Hp->Prop,(∀σ' H',N σ' H'->∃m',m'<m/\W (i+1) m' σ' H')/\∀x H',J.yld i H x H'->g x σ H' λσ2 H2=>tb {D with nx:=N,ct:=N,bk:=D.nx} σ2 H2)
def wH(fp:List Addr)(h:Heap):List (Addr×Obj):=fp.filterMap λb=>(h.get? b).map λo=>(b,o)
theorem mZ{fp:List Addr}{h:Heap}{b:Addr}{o:Obj}(hb:b∈fp)(e:h.get? b=some o):(b,o)∈wH fp h:=jw.mpr ⟨b,hb,by rw[e];rfl⟩
theorem Mx{fp:List Addr}{h:Heap}{p:Addr×Obj}(hp:p∈wH fp h):p.1∈fp/\h.get? p.1=some p.2:=by
 obtain⟨b,hb,e⟩:=jw.mp hp;cases q:h.get? b with
 |none=>rw[q]at e;cases e
 |some o=>
  rw[q]at e;have e':(b,o)=p:=cr e;subst e';exact⟨hb,q⟩
theorem aO.pinned{BM:List (Addr×Obj)}{σ:St}{H:Hp}{s:aa}{fp:List Addr}(I:aO X BM σ H s)(hf:∀b∈fp,fG X BM H b)(ho:∀b∈fp,∃o,s.heap.get? b=some o/\∀v,o.data≠.cell v):aO X (BM++wH fp s.heap) σ H s:=
 I.pins_of λp hp=>(cu.mp hp).elim (λz=>I.pin p (ck _ z)) λz=>by
  obtain⟨hb,e⟩:=Mx z;obtain⟨f0,f1,f2,_⟩:=hf p.1 hb;obtain⟨o,e',d⟩:=ho p.1 hb;rw[e]at e';cases e';exact⟨e,f0,f1,f2,d⟩
theorem aO.unpinned{BM pl:List (Addr×Obj)}{σ:St}{H:Hp}{s:aa}(I:aO X (BM++pl) σ H s):aO X BM σ H s:=I.pins_of λp hp=>I.pin p (ck _ (jt _ hp))
theorem aaJ{iter:af}{body:List Stmt}{wi:TI}{g:TG}{tb:TS}{pos:ah}(hp:re (model X.prog X.w) X.A X.env X.xe)(hc:X.calm=true)(hi:PI X tg iter wi)(hg:PG X tg g)(hb:fJ X body tb)
  (hs:∀x,foldedSetIterable iter X.env x=pure x:=by intro _;rfl):PS X (.For tg iter body [] pos) (acg wi g tb):=by
 intro BM s σ H D I h;refine wpAny_For (bI (hi BM s σ H _ I h) λv s1 h1=>bI h1 λitv s2 h2=>?_) hs;obtain⟨it,fp,tn,J,H2,e,I2,T,st2,f2,W,⟨m0,w0⟩,turn⟩:=h2;subst e
 --what stays true of the iterator's objects through the loop
 have stat:∀{H':Hp},(∀b∈fp,H' b=none)->∀b∈fp,fG X BM H' b:=λhn b hb=>⟨hn b hb,(f2 b hb).2⟩;refine codeAny_forLoop_any (λn s'=>∃i σ' H',aO X BM σ' H' s'/\tn i s'.heap/\(∀b∈fp,H' b=none)/\W i n σ' H') ?_ m0 ⟨0,σ,H2,I2,st2,λb hb=>(f2 b hb).1,w0⟩
 rintro n s3 ⟨i,σ3,H3,I3,st3,fr3,w3⟩
 rcases turn i n σ3 H3 w3 with⟨stop,qn⟩|⟨go,N,hN,step⟩
 .refine lm hp (bI (T.done X rfl rfl rfl hc i BM s3 σ3 H3 X.xe I3 (stat fr3) st3 stop) λr s4 hq=>?_)
  rcases hq with⟨hr,I4⟩;subst hr;exact og ⟨σ3,H3,I4,qn⟩
 .refine lm hp (bI (T.item X rfl rfl rfl hc i BM s3 σ3 H3 X.xe I3 (stat fr3) st3 go) λr s4 hq=>?_)
  rcases hq with⟨u,hr,h4⟩;subst hr;refine lm hp (bI h4 λ_ s5 hq=>?_);rcases hq with⟨x,H5,I5,r5,y5,st5,fr5⟩;have I5':=I5.pinned (stat fr5) (T.obj _ _ st5);refine lm hp (bI (hg _ s5 σ3 H5 x u _ I5' r5 (step x H5 y5)) λ_ s6 hq=>?_);rcases hq with⟨σ6,H6,I6,q6⟩;refine lm hp (bI (hb _ s6 σ6 H6 _ I6 q6) λf s7 q7=>?_);have again:∀{σ7:St}{H7:Hp},aO X (BM++wH fp s5.heap) σ7 H7 s7->N σ7 H7->∃m,m<n/\∃i σ' H',aO X BM σ' H' s7/\tn i s7.heap/\(∀b∈fp,H' b=none)/\W i m σ' H':=λ{σ7 H7} I7 n7=>by
   obtain⟨m',hm,w7⟩:=hN σ7 H7 n7;refine⟨m',hm,i+1,σ7,H7,I7.unpinned,T.keep _ _ _ st5 λb hb o e=>(I7.pin (b,o) (ck _ (ck _ (mZ hb e)))).1,λb hb=>?_,w7⟩;obtain⟨o,e,d⟩:=T.obj _ _ st5 b hb;exact(I7.pin (b,o) (ck _ (ck _ (mZ hb e)))).2.1
  cases f with
  |next=>obtain⟨σ7,H7,I7,n7⟩:=q7;exact again I7 n7
  |cont=>obtain⟨σ7,H7,I7,n7⟩:=q7;exact again I7 n7
  |brk=>obtain⟨σ7,H7,I7,q7⟩:=q7;exact⟨σ7,H7,I7.unpinned,q7⟩
  |ret v=>obtain⟨x7,σ7,H7,I7,r7,q7⟩:=q7;exact⟨x7,σ7,H7,I7.unpinned,r7,q7⟩
end
abbrev R2:=V->V->Hp->VK->Prop
def dG(X:Cx)(f:Value->Value->dn Value)(r:R2):Prop:=
 ∀(BM:List (Addr×Obj))(s:aa)(σ:St)(H:Hp)(x y:V)(v u:Value)(Q:VK),aO X BM σ H s->cD x v->cD y u->r x y H Q->
  wpAny (model X.prog X.w) X.A (f v u) (EP X BM σ Q) X.xe s
def yM(X:Cx)(f:Value->dn Value)(r:V->Hp->VK->Prop):Prop:=
 ∀(BM:List (Addr×Obj))(s:aa)(σ:St)(H:Hp)(x:V)(v:Value)(Q:VK),aO X BM σ H s->cD x v->r x H Q->
  wpAny (model X.prog X.w) X.A (f v) (EP X BM σ Q) X.xe s
def iB(X:Cx)(f:Value)(r:List V->Hp->VK->Prop):Prop:=
 ∀(BM:List (Addr×Obj))(s:aa)(σ:St)(H:Hp)(xs:List V)(us:BD)(Q:VK),aO X BM σ H s->bK xs us->r xs H Q->
  wpAny (model X.prog X.w) X.A (call f us) (EP X BM σ Q) X.xe s
def yW(r:R2)(ta tb:TE):TE:=λσ H Q=>ta σ H λx H1=>tb σ H1 λy H2=>r x y H2 Q
def tUn(r:V->Hp->VK->Prop)(ta:TE):TE:=λσ H Q=>ta σ H λx H1=>r x H1 Q
def rI(C:Int->Int->Prop)(g:Int->Int->V):R2:=λx y H Q=>∃i j,x=.int i/\y=.int j/\C i j/\Q (g i j) H
def iQ(g:Int->Int->V):R2:=λx y H Q=>∃i j,x=.int i/\y=.int j/\Q (g i j) H
def rU(g:Int->V):V->Hp->VK->Prop:=λx H Q=>∃i,x=.int i/\Q (g i) H
section
variable{X:Cx}{a b c:af}{ta tb tc:TE}{pos:ah}
theorem De(ha:PE X a ta)(hb:PE X b tb){BM:List (Addr×Obj)}{s:aa}{σ:St}{H:Hp}{R:V->V->Hp->Prop}(I:aO X BM σ H s)
  (h:ta σ H λx H1=>tb σ H1 λy H2=>R x y H2){Q:Value->aa->Prop}{f:Value->Value->dn Value}
  (hf:∀v u s2 x y H2,aO X BM σ H2 s2->cD x v->cD y u->R x y H2->wpAny (model X.prog X.w) X.A (f v u) Q X.xe s2):
  wpAny (model X.prog X.w) X.A (eval a X.env) (λv BP=>wpAny (model X.prog X.w) X.A (eval b X.env) (λu BS=>wpAny (model X.prog X.w) X.A (f v u) Q X.xe BS) X.xe BP) X.xe s:=by
 refine bI (ha BM s σ H _ I h) ?_
 rintro v s1 ⟨x,H1,I1,r1,q1⟩
 refine bI (hb BM s1 σ H1 _ I1 q1) ?_
 rintro u s2 ⟨y,H2,I2,r2,q2⟩
 exact hf v u s2 x y H2 I2 r1 r2 q2
theorem abJ{op:Operator}{r:R2}(ho:dG X (binaryOp op) r)(ha:PE X a ta)(hb:PE X b tb):PE X (.BinOp a op b pos) (yW r ta tb):=by
 intro BM s σ H Q I h;exact wpAny_BinOp (De ha hb I h λv u s2 x y H2 I2 rx ry q=>ho BM s2 σ H2 x y v u Q I2 rx ry q)
theorem abI{op:UnaryOp}{r:V->Hp->VK->Prop}(ho:yM X (unaryOp op) r)(ha:PE X a ta):PE X (.UnaryOp op a pos) (tUn r ta):=by
 intro BM s σ H Q I h;exact UnaryOp_ (bI (ha BM s σ H _ I h) λv s1 ⟨x,H1,I1,r1,q1⟩=>ho BM s1 σ H1 x v Q I1 r1 q1)
theorem yJ{f:Value->Value->dn Value}{C:Int->Int->Prop}{g:Int->Int->Int}
  (rule:∀(i j:Int)(t u:dk)(s:aa)(Q:Value->aa->Prop)(E:Value->aa->Prop),C i j->Q (.int (g i j) s.toks) {s with toks:=s.toks+1}->wpAny (model X.prog X.w) X.A (f (.int i t) (.int j u)) Q E s):
  dG X f (rI C λi j=>.int (g i j)):=by
 intro BM s σ H x y v u Q I rx ry h;obtain⟨i,j,rfl,rfl,hc,q⟩:=h;obtain⟨t,rfl⟩:=rx;obtain⟨t',rfl⟩:=ry;exact rule i j t t' s _ _ hc ⟨.int (g i j),H,I.tok _,⟨_,rfl⟩,q⟩
theorem Zq{f:Value->Value->dn Value}{g:Int->Int->Int}
  (rule:∀(i j:Int)(t u:dk)(s:aa)(Q:Value->aa->Prop)(E:Value->aa->Prop),Q (.int (g i j) s.toks) {s with toks:=s.toks+1}->wpAny (model X.prog X.w) X.A (f (.int i t) (.int j u)) Q E s):
  dG X f (iQ λi j=>.int (g i j)):=by
 intro BM s σ H x y v u Q I rx ry h;obtain⟨i,j,rfl,rfl,q⟩:=h;obtain⟨t,rfl⟩:=rx;obtain⟨t',rfl⟩:=ry;exact rule i j t t' s _ _ ⟨.int (g i j),H,I.tok _,⟨_,rfl⟩,q⟩
theorem yD{f:Value->Value->dn Value}{g:Int->Int->Bool}
  (rule:∀(i j:Int)(t u:dk)(s:aa)(Q:Value->aa->Prop)(E:Value->aa->Prop),Q (.bool (g i j)) s->wpAny (model X.prog X.w) X.A (f (.int i t) (.int j u)) Q E s):
  dG X f (iQ λi j=>.bl (g i j)):=by
 intro BM s σ H x y v u Q I rx ry h;obtain⟨i,j,rfl,rfl,q⟩:=h;obtain⟨t,rfl⟩:=rx;obtain⟨t',rfl⟩:=ry;exact rule i j t t' s _ _ ⟨.bl (g i j),H,I,rfl,q⟩
def xS(i j:Int):Prop:=0<=j/\j<=1000000/\i.natAbs<2^64
def Wd(i j:Int):Prop:=(-(2^64)<i/\i<2^64)\/(-(2^64)<j/\j<2^64)
theorem Wd.ok{i j:Int}(h:Wd i j):IntMulOk i j:=by
 rcases h with⟨h1,h2⟩|⟨h1,h2⟩
 .exact .of_left (intBits_le_64 h1 h2)
 .exact .of_right (intBits_le_64 h1 h2)
theorem aam:dG X (binaryOp .Add) (iQ λi j=>.int (i+j)):=Zq λ_ _ _ _ _ _ _ q=>add_int q
theorem V9:dG X (binaryOp .Sub) (iQ λi j=>.int (i-j)):=Zq λ_ _ _ _ _ _ _ q=>sub_int q
theorem P4:dG X (binaryOp .Mod) (rI (λ_ j=>j≠0) λi j=>.int (i.fmod j)):=yJ λ_ _ _ _ _ _ _ hc q=>mod_int' hc q
theorem aaE:dG X (binaryOp .Pow) (rI xS λi j=>.int (i^j.toNat)):=yJ λ_ _ _ _ _ _ _ hc q=>pow_int_small hc.1 hc.2.1 hc.2.2 q
theorem unI{f:Value->dn Value}{g:Int->Int}
  (rule:∀(i:Int)(t:dk)(s:aa)(Q:Value->aa->Prop)(E:Value->aa->Prop),Q (.int (g i) s.toks) {s with toks:=s.toks+1}->wpAny (model X.prog X.w) X.A (f (.int i t)) Q E s):
  yM X f (rU λi=>.int (g i)):=by
 intro BM s σ H x v Q I rx h;obtain⟨i,rfl,q⟩:=h;obtain⟨t,rfl⟩:=rx;exact rule i t s _ _ ⟨.int (g i),H,I.tok _,⟨_,rfl⟩,q⟩
theorem aaA:yM X (unaryOp .USub) (rU λi=>.int (-i)):=unI λ_ _ _ _ _ q=>neg_int q
end
section
variable{X:Cx}{a b c:af}{ta tb tc:TE}{pos:ah}
theorem X6{BM:List (Addr×Obj)}{σ:St}{H:Hp}{s:aa}{Q:VK}{k k':Bool}(I:aO X BM σ H s)(q:Q (.bl k) H)(e:k=k'):EP X BM σ Q (.bool k') s:=by
 subst e;exact⟨.bl k,H,I,rfl,q⟩
theorem qS:dG X (compareOp .Lt) (iQ λi j=>.bl (decide (i<j))):=yD λ_ _ _ _ _ _ _ q=>lt_int q
theorem tI:dG X (compareOp .LtE) (iQ λi j=>.bl (decide (i<=j))):=yD λ_ _ _ _ _ _ _ q=>le_int q
theorem Jp:dG X (compareOp .Gt) (iQ λi j=>.bl (decide (j<i))):=yD λ_ _ _ _ _ _ _ q=>gt_int q
theorem Zp:dG X (compareOp .GtE) (iQ λi j=>.bl (decide (j<=i))):=yD λ_ _ _ _ _ _ _ q=>ge_int q
theorem Tx:dG X (compareOp .In) (λx y H Q=>∃i j,x=.str i/\y=.str j/\Q (.bl (!(lr j i 0 j.length 1).isEmpty)) H):=by
 intro BM s σ H x y v u Q I rx ry h;obtain⟨i,j,rfl,rfl,q⟩:=h;obtain⟨t,rfl⟩:=rx;obtain⟨t',rfl⟩:=ry;exact in_str (X6 I q rfl)
theorem dG.or{f:Value->Value->dn Value}{r r':R2}(h:dG X f r)(h':dG X f r'):dG X f (λx y H Q=>r x y H Q\/r' x y H Q):=by
 intro BM s σ H x y v u Q I rx ry q;rcases q with q |q
 .exact h BM s σ H x y v u Q I rx ry q
 .exact h' BM s σ H x y v u Q I rx ry q
theorem kJ(b:af){op:jg}(h:op≠.In:=by decide)(h2:op≠.NotIn:=by decide):behindInMarks op b=false:=by
 have e1:(op==CmpOp.In)=false:=by cases op<;>first |rfl |exact absurd rfl h
 have e2:(op==CmpOp.NotIn)=false:=by cases op<;>first |rfl |exact absurd rfl h2
 cases b<;>simp[behindInMarks,e1,e2]
theorem N8{op:jg}{r:R2}(ho:dG X (compareOp op) r)(ha:PE X a ta)(hb:PE X b tb)(hm:behindInMarks op b=false):PE X (.Compare a [op] [b] pos) (yW r ta tb):=by
 intro BM s σ H Q I h;exact wpAny_Compare1 (De ha hb I h λv u s2 x y H2 I2 rx ry q=>ho BM s2 σ H2 x y v u Q I2 rx ry q) hm
def abf(t:TE):TT:=λσ H Q=>t σ H λx H'=>∃k,x=.bl k/\Q k H'
theorem F6{op:jg}{r:R2}(ho:dG X (compareOp op) r)(ha:PE X a ta)(hb:PE X b tb)(hm:behindInMarks op b=false):PT X (.Compare a [op] [b] pos) (abf (yW r ta tb)):=by
 intro BM s σ H Q I h;refine zo (bI (ha BM s σ H _ I h) λv s1 ⟨x,H1,I1,r1,q1⟩=>bI (hb BM s1 σ H1 _ I1 q1) λu s2 ⟨y,H2,I2,r2,q2⟩=>
  bI (ho BM s2 σ H2 x y v u _ I2 r1 r2 q2) λc s3 ⟨z,H3,I3,r3,k,e,q3⟩=>?_) hm
 subst e;cases r3;exact kh ⟨H3,I3,q3⟩
def X0(r r':R2)(ta tb tc:TE):TE:=λσ H Q=>ta σ H λx H1=>tb σ H1 λy H2=>r x y H2 λz H3=>∃k,z=.bl k/\
 (if k=true then tc σ H3 λw' H4=>r' y w' H4 Q else Q (.bl false) H3)
theorem C0{op op':jg}{r r':R2}(ho:dG X (compareOp op) r)(ho':dG X (compareOp op') r')(ha:PE X a ta)(hb:PE X b tb)(hc:PE X c tc)
  (hm:lastMarks [op,op'] [b,c]=false:=by with_unfolding_all rfl):PE X (.Compare a [op,op'] [b,c] pos) (X0 r r' ta tb tc):=by
 intro BM s σ H Q I h;refine Compare_chain (bI (ha BM s σ H _ I h) λv s1 ⟨x,H1,I1,r1,q1⟩=>chain_link (bI (hb BM s1 σ H1 _ I1 q1) λu s2 ⟨y,H2,I2,r2,q2⟩=>
  bI (ho BM s2 σ H2 x y v u _ I2 r1 r2 q2) λd s3 ⟨z,H3,I3,r3,k,e,q3⟩=>?_)) hm
 subst e;cases r3;refine kh ?_;cases k with
 |false=>exact ite_ff ⟨.bl false,H3,I3,rfl,q3⟩
 |true=>exact ite_tt (chain_last (bI (hc BM s3 σ H3 _ I3 q3) λw' s4 ⟨z',H4,I4,r4,q4⟩=>ho' BM s4 σ H4 y z' u w' Q I4 r2 r4 q4))
theorem qK:(sizeLine:Nat)<2^63:=by rw[kj];decide
theorem Yv:dG X (binaryOp .Add) (λx y H Q=>∃i j,x=.str i/\y=.str j/\i.length+j.length<=sizeLine/\Q (.str (i++j)) H):=by
 intro BM s σ H x y v u Q I rx ry h;obtain⟨i,j,rfl,rfl,hz,q⟩:=h;obtain⟨t,rfl⟩:=rx;obtain⟨t',rfl⟩:=ry;exact add_str (λt' tk=>⟨.str (i++j),H,I.tok _,⟨_,rfl⟩,q⟩) hz
theorem iD{x:V}{us:BD}(r:bK [x] us):∃u,us=[u]/\cD x u:=by
 cases r with
 |cons r1 r2=>cases r2;exact⟨_,rfl,r1⟩
theorem Td{x y:V}{us:BD}(r:bK [x,y] us):∃u w',us=[u,w']/\cD x u/\cD y w':=by
 cases r with
 |cons r1 r2=>
  cases r2 with
  |cons r3 r4=>cases r4;exact⟨_,_,rfl,r1,r3⟩
theorem C7:iB X (.builtin "abs") (λxs H Q=>∃i,xs=[.int i]/\Q (.int (if i<0 then-i else i)) H):=by
 intro BM s σ H xs us Q I r h;obtain⟨i,rfl,q⟩:=h;obtain⟨u,rfl,t,rfl⟩:=iD r;exact call_abs_int λu tk=>⟨.int (if i<0 then-i else i),H,I.tok _,⟨_,rfl⟩,q⟩
theorem Uw:iB X (.type "int") (λxs H Q=>(∃i,xs=[.int i]/\Q (.int i) H)\/∃k,xs=[.bl k]/\Q (.int (if k then 1 else 0)) H):=by
 intro BM s σ H xs us Q I r h;rcases h with⟨i,rfl,q⟩|⟨k,rfl,q⟩
 .obtain⟨u,rfl,t,rfl⟩:=iD r
  exact call_int_int ⟨.int i,H,I,⟨_,rfl⟩,q⟩
 .obtain⟨u,rfl,r1⟩:=iD r
  cases r1;exact call_int_bool ⟨.int (if k then 1 else 0),H,I.tok _,⟨_,rfl⟩,q⟩
theorem Cu:iB X (.type "str") (λxs H Q=>∃i,xs=[.int i]/\i.natAbs.log2<1920/\Q (.str (toString i)) H):=by
 intro BM s σ H xs us Q I r h;obtain⟨i,rfl,hz,q⟩:=h;obtain⟨u,rfl,t,rfl⟩:=iD r;exact PySem.P.str_of_int hz ⟨.str _,H,I.tok _,⟨_,rfl⟩,q⟩
end
structure He(h:Heap)(x dx C:Addr)(mA:Str->BE):Prop where
 obj:h.get? x=some (vq C dx)
 ns:h.Ns1 dx mA
 ne:dx≠x
theorem Dy{h:Heap}{dx:Addr}{mA:Str->BE}(n:h.Ns1 dx mA):∃od,h.get? dx=some od/\∀name,wo name od=some (mA name):=by
 obtain⟨o,es,ep,ho,hd,hk,_,hm⟩:=n;refine⟨o,ho,λname=>?_⟩;have e:=hm name;unfold nsFind findBy at e;rw[<-Array.find?_toList]at e;unfold wo;rw[hd];dsimp only;split
 .rename_i y q
  rw[q]at e;exact congrArg some e
 .rename_i q
  rw[q]at e;have a:es.toList.any (·.refKey)=false:=by
   rw[pz];intro y hy;obtain⟨z,t,hkey⟩:=hk y (Array.mem_toList_iff.mp hy);simp[DictEntry.refKey,hkey]
  have a':¬es.toList.any (·.refKey)=true:=by rw[a];exact ia
  rw[if_neg a'];exact congrArg some e
theorem He.look{h:Heap}{x dx C:Addr}{mA:Str->BE}(I:He h x dx C mA):∃od,PySem.W.InstAt h x (vq C dx) C (some od)/\∀name,wo name od=some (mA name):=
 let⟨od,ho,hl⟩:=Dy I.ns
 ⟨od,⟨I.obj,rfl,rfl,ho⟩,hl⟩
section
variable{prog:Program}{w:ao}{A:aq}{E:Value->aa->Prop}{s:aa}{K:ae}{x dx C f:Addr}{mA:Str->BE}{name:Str}{v:Value}
end
section
variable{P:Program}{w:ao}{H H':Hp}{h h':Heap}{a C dx:Addr}{fs fs':List (Str×V)}
theorem P7(hok:eU P w H h)(e:H a=some (.ins C dx fs)):∃mA,He h a dx C mA/\(∀f,Ce (fs.lookup f) (mA f))/\zk mA (fs.map (·.1))/\fs.length<=1000/\H dx=some (.own a):=by
 obtain⟨d,z,ne,ob,mA,n,r,q⟩:=(show fO P w H h a (.ins C dx fs) from hok a _ e);exact⟨mA,⟨ob,n,ne⟩,r,q,z,d⟩
end
structure Me(K:ae)(C:Addr):Prop where
 pg:zq K C oi=true
 hd:wp K C=true
 po:PySem.W.plainOver K C=true
 sa:jx K (.ref C) "__setattr__"=some (some (.builtin "object.__setattr__"))
theorem Me.get{K:ae}{C:Addr}(c:Me K C)(f:Str):zq K C f=true:=c.pg
structure Xr(K:ae)(C:Addr)(f:Str)(v:V)(u:Value):Prop where
 at_:jx K (.ref C) f=some (some u)
 rel:cD v u
 get:rk K u "__get__"=some none
 cp:PySem.W.copiedNames.contains f=false
section
variable{X:Cx}{BM:List (Addr×Obj)}{σ:St}{H:Hp}{s:aa}{a C dx:Addr}{fs:List (Str×V)}{f:Str}{v:V}{A:aq}{E:Value->aa->Prop}
end
section
variable{X:Cx}{o e value:af}{f:Str}{pos pos' tpos:ah}{ta tv:TE}
end
section
variable{X:Cx}{BM:List (Addr×Obj)}{σ:St}{H:Hp}{s:aa}{A:aq}{E:Value->aa->Prop}{Q:Value->aa->Prop}{c:Value}{b:Bool}
inductive jR(K:ae)(H:Hp):V->Value->Prop where
 |non:jR K H .non (.type "NoneType")
 |bl (x:Bool):jR K H (.bl x) (.type "bool")
 |int (i:Int):jR K H (.int i) (.type "int")
 |str (x:Str):jR K H (.str x) (.type "str")
 |flt (x:UInt64):jR K H (.flt x) (.type "float")
 |lst {a:Addr} {xs:List V} (e:H a=some (.lst xs)):jR K H (.ref a) (.type "list")
 |frz {a:Addr} {o:Obj} {xs:List V} (e:H a=some (.frz o (.lst xs))):jR K H (.ref a) (.type "list")
 |tup {a:Addr} {xs:List V} (e:H a=some (.tup xs)):jR K H (.ref a) (.type "tuple")
 |dK {a:Addr} {kvs:List (hJ×V)} (e:H a=some (.dK kvs)):jR K H (.ref a) (.type "dict")
 |dT {a:Addr} {kvs:List (List hJ×V)} (e:H a=some (.dT kvs)):jR K H (.ref a) (.type "dict")
 |ins {a C dx:Addr} {fs:List (Str×V)} (e:H a=some (.ins C dx fs)) (cl:Me K C) (ha:jx K (.ref C) "__class__"=some (some (.builtin "object.__class__")))
   (hn:rk K (.builtin "object.__class__") "__get__"=some (some (.builtin "getset_descriptor.__get__"))) (htk:wr K (.builtin "object.__class__")=some true)
   (hm:jy K C (.type "object")=some true):jR K H (.ref a) (.ref C)
theorem Bw{x:V}{u t:Value}(I:aO X BM σ H s)(rx:cD x u)(ty:jR X.K H x t)(e:gj X.K t c=some b)(h:∀tk,Q (.bool b) {s with toks:=tk}):
  wpAny (model X.prog X.w) A (call (.builtin "isinstance") [u,c]) Q E s:=by
 cases ty with
 |non=>cases(show u=cw from rx);exact fk PySem.W.kitx_none I.kIn qa e (λz=>nomatch z) h
 |bl y=>cases(show u=qx y from rx);exact fk PySem.W.kitx_bool I.kIn qa e (λz=>nomatch z) h
 |int i=>obtain⟨t,q⟩:=(show ∃t,u=qw i t from rx);cases q;exact fk PySem.W.kitx_int I.kIn qa e (λz=>nomatch z) h
 |str y=>obtain⟨t,q⟩:=(show ∃t,u=vp y t from rx);cases q;exact fk PySem.W.kitx_str I.kIn qa e (λz=>nomatch z) h
 |flt y=>obtain⟨t,q⟩:=(show ∃t,u=Value.float y t from rx);cases q;exact fk PySem.W.kitx_float I.kIn qa e (λz=>nomatch z) h
 |@lst a xs ea=>
  cases(show u=dw a from rx);obtain⟨_,_,n,_,h1⟩:=(show fO X.prog X.w H s.heap a (.lst xs) from I.hok a _ ea);exact fk wt I.kIn ⟨_,h1,rfl⟩ e (λz=>nomatch z) h
 |@frz a ob xs ea=>
  cases(show u=dw a from rx);obtain⟨_,_,_,n,_,h1⟩:=(show fO X.prog X.w H s.heap a (.frz ob (.lst xs)) from I.hok a _ ea);exact fk wt I.kIn ⟨_,h1,rfl⟩ e (λz=>nomatch z) h
 |@tup a xs ea=>
  cases(show u=dw a from rx);obtain⟨_,_,_,p⟩:=(show fO X.prog X.w H s.heap a (.tup xs) from I.hok a _ ea);obtain⟨o,h1,h2,_⟩:=p;exact fk zt I.kIn ⟨o,h1,h2⟩ e (λz=>nomatch z) h
 |@dK a kvs ea=>
  cases(show u=dw a from rx);obtain⟨_,_,vs,_,p⟩:=(show fO X.prog X.w H s.heap a (.dK kvs) from I.hok a _ ea);obtain⟨o,es,ep,h1,h2,_⟩:=p;exact fk zu I.kIn ⟨o,h1,h2.1⟩ e (λz=>nomatch z) h
 |@dT a kvs ea=>
  cases(show u=dw a from rx);obtain⟨_,_,xs,_,o,es,ep,h1,h2,_⟩:=(show fO X.prog X.w H s.heap a (.dT kvs) from I.hok a _ ea);exact fk zu I.kIn ⟨o,h1,h2.1⟩ e (λz=>nomatch z) h
 |@ins a C dx fs ea cl ha hn htk hm=>
  cases(show u=dw a from rx);obtain⟨mA,O,_⟩:=P7 I.hok ea;obtain⟨od,J,_⟩:=O.look;exact fk (PySem.W.kitx_own (cl.get _) cl.hd ha hn htk hm) I.kIn J e (λz=>nomatch z) h
end
structure dE(k:Nat)(A:aq):Prop where
 hd:A.handled=none
 dp:A.depth+3*k+5<recursionLimit
 un:A.units+16*k+200<cLine
theorem dE.mono{j k:Nat}{A:aq}(r:dE k A)(h:j<=k):dE j A:=⟨r.hd,by have:=r.dp;omega,by have:=r.un;omega⟩
theorem dE.deeper{k:Nat}{A:aq}(r:dE (k+1) A)(env:bc):dE k (A.deeper env):=
 ⟨r.hd,by have:=r.dp;show A.depth+1+3*k+5<_;omega,by have:=r.un;show A.units+3+16*k+200<_;omega⟩
theorem dE.depth{k:Nat}{A:aq}(r:dE k A):A.depth<recursionLimit:=by have:=r.dp;omega
theorem dE.units{k:Nat}{A:aq}(r:dE k A):A.units+64<cLine:=by have:=r.un;omega
def ab9:TA:=λ_ H Q=>Q [] H
def abp(ta:TE)(tr:TA):TA:=λσ H Q=>ta σ H λx H1=>tr σ H1 λxs H2=>Q (x::xs) H2
section
variable{X:Cx}{e:af}{es:List af}{te:TE}{t:TA}{pos:ah}
theorem nO:PA X [] ab9:=λ_ _ _ _ H Q I h=>zv ⟨[],H,I,.nil,h⟩
theorem iV(ha:PE X e te)(hr:PA X es t)(hs:starEach (e::es) X.env=(false,eval e X.env)::starEach es X.env:=by rfl):PA X (e::es) (abp te t):=by
 intro pos BM s σ H Q I h;rw[hs];show wpAny _ _ (spliced ((false,eval e X.env)::backTo pos (starEach es X.env))) _ _ s;refine wu (bI (ha BM s σ H _ I h) λu s1 hq=>?_);rcases hq with⟨x,H1,I1,r1,q1⟩;exact bI (hr pos BM s1 σ H1 _ I1 q1) λus s2 ⟨xs,H2,I2,r2,q2⟩=>⟨x::xs,H2,I2,.cons r1 r2,q2⟩
def aco(t:TA):TE:=λσ H Q=>t σ H λxs H1=>xs.length<=sizeLine/\∀p,H1 p=none->Q (.ref p) (bJ H1 p (.tup xs))
def ace(t:TA):TE:=λσ H Q=>t σ H λxs H1=>xs.length<=sizeLine/\∀p,H1 p=none->Q (.ref p) (bJ H1 p (.lst xs))
theorem Lc{x1}(h:PA X es t):PE X (.Tuple es x1 pos) (aco t):=by
 intro BM s σ H Q I hq;refine zw (bI (h pos BM s σ H _ I hq) λus s1 ⟨xs,H1,I1,r,z,q⟩=>⟨by rw[<-r.length];exact z,?_⟩);have hf:H1 s1.heap.objs.size=none:=I1.hok.fresh (am _);refine⟨.ref s1.heap.objs.size,bJ H1 s1.heap.objs.size (.tup xs),I1.laid (t':=s1.toks) (λb u e=>aw _ e) (am _) ?_,rfl,q _ hf⟩;exact⟨z,us,r,⟨_,dq _ rfl,rfl,_,rfl⟩⟩
theorem Ko(h:PA X es t):PE X (.List es pos) (ace t):=by
 intro BM s σ H Q I hq;refine wpAny_List_spliced (bI (h pos BM s σ H _ I hq) λus s1 ⟨xs,H1,I1,r,z,q⟩=>⟨by rw[<-r.length];exact z,?_⟩);have hf:H1 s1.heap.objs.size=none:=I1.hok.fresh (am _);refine⟨.ref s1.heap.objs.size,bJ H1 s1.heap.objs.size (.lst xs),I1.laid (t':=s1.toks) (λb u e=>aw _ e) (am _) ?_,rfl,q _ hf⟩;exact⟨z,us,0,r,dq _ rfl⟩
end
abbrev Sp:=List V->Hp->VK->XK->Prop
abbrev jG:=List bc->Hp->aa->XK->Value->aa->Prop
structure yC(P:Program)(w:ao)(K:ae)(mg:Str->BE)(base:Heap)(A:aq)(outer:List bc)(s:aa)(H:Hp):Prop where
 frames:A.frames=some outer
 mod:Mod K mg base
 bs:∀b o,base.get? b=some o->s.heap.get? b=some o/\H b=none
 bsz:base.objs.size<=s.heap.objs.size
 funs:s.heap.FunFrames base outer
 frf:∀b∈cQ outer,H b=none
 hok:eU P w H s.heap
 bare:ig s.gens
def CE(outer:List bc)(P:Program)(w:ao)(H:Hp)(s:aa)(Q:VK)(u:Value)(s':aa):Prop:=
 ∃v H',s'.os=s.os/\ig s'.gens/\Un (cQ outer) [] H H' s.heap s'.heap/\eU P w H' s'.heap/\cD v u/\Q v H'
def CR(CX:jG)(outer:List bc)(P:Program)(w:ao)(H:Hp)(s:aa)(Q:VK)(E:XK)(r:mf)(s':aa):Prop:=
 match r with
 |.ok (.ret u)=>CE outer P w H s Q u s'
 |.ok _=>False
 |.error e=>CX outer H s E e s'
structure dR(P:Program)(w:ao)(K:ae)(mg:Str->BE)(base:Heap)(CX:jG)(k:Nat)(f:Addr)(fd:bi)(ps:List Str)(sp:Sp):Prop where
 len:∀vs H Q E,sp vs H Q E->vs.length=ps.length
 run:∀(A:aq)(outer:List bc)(s:aa)(H:Hp)(args:Args)(us:BD)(vs:List V)(Q:VK)(E:XK),dE k A->yC P w K mg base A outer s H->oj s fd args (ps.zip us)->bK vs us->sp vs H Q E->
  codeAny (model P w) A (.call (.ref f) args) (CR CX outer P w H s Q E) s
theorem dR.imp{P:Program}{w:ao}{K:ae}{mg:Str->BE}{base:Heap}{CX:jG}{k:Nat}{f:Addr}{fd:bi}{ps:List Str}{sp sp':Sp}(F:dR P w K mg base CX k f fd ps sp)
  (h:∀vs H Q E,sp' vs H Q E->sp vs H Q E):dR P w K mg base CX k f fd ps sp':=
 ⟨λvs H Q E q=>F.len vs H Q E (h _ _ _ _ q),λA outer s H args us vs Q E hr he hb hv hs=>F.run A outer s H args us vs Q E hr he hb hv (h _ _ _ _ hs)⟩
section
variable{X:Cx}{BM:List (Addr×Obj)}{σ:St}{H:Hp}{s s':aa}
theorem aO.env0(I:aO X BM σ H s):yC X.prog X.w X.K X.mg X.base X.A X.stack s H:=
 ⟨I.ok.frames,I.ok.mod,I.bs,dz I.ok.bsz I.sz,I.stack,I.stkFree,I.hok,I.bare⟩
theorem aO.after{Q:VK}{u:Value}(I:aO X BM σ H s)(h:CE X.stack X.prog X.w H s Q u s'):EP X BM σ Q u s':=by
 obtain⟨v,H',os,bare,un,hok,r,q⟩:=h;obtain⟨hh,g,d,t,os'⟩:=s';obtain rfl:os'=s.os:=os;exact⟨v,H',I.call (h':=hh) (g':=g) (d':=d) (t':=t) (ch:=[]) un hok bare (λb z=>absurd z (by simp)),r,q⟩
end
def abr(sp:Sp)(dvs:List V)(E:XK)(t:TA):TE:=λσ H Q=>t σ H λvs H1=>sp (vs++dvs) H1 Q E
def gO(K:ae)(fd:bi)(ps:List Str)(ds:BD):Prop:=
 ∀(s:aa)(us:BD),K.In s.heap->(us++ds).length=ps.length->oj s fd ⟨us,[]⟩ (ps.zip (us++ds))
theorem gO.all{K:ae}{fd:bi}{ps:List Str}(h:∀us:BD,us.length=ps.length->bindArgs fd ⟨us,[]⟩=pure (ps.zip us)):gO K fd ps []:=λs us _ hl=>by
 rw[wv]at hl⊢;exact .of_eq (h us hl)
def jP(CX:jG)(X:Cx)(E:XK):Prop:=∀(BM:List (Addr×Obj))(σ:St)(H:Hp)(s:aa)(e:Value)(s':aa),aO X BM σ H s->CX X.stack H s E e s'->X.xe e s'
section
variable{X:Cx}{CX:jG}{k:Nat}{f C:Addr}{fd:bi}{ps:List Str}{sp:Sp}{dvs:List V}{ds:BD}{E:XK}{x m:Str}{p pos apos:ah}{e o:af}{es:List af}{ta:TE}{t:TA}
theorem W5{BM:List (Addr×Obj)}{σ:St}{H:Hp}{s:aa}{Q:VK}{us:BD}{vs:List V}(F:dR X.prog X.w X.K X.mg X.base CX k f fd ps sp)(hr:dE k X.A)(hb:gO X.K fd ps ds)(hd:bK dvs ds)(hx:jP CX X E)
  (I:aO X BM σ H s)(r:bK vs us)(h:sp (vs++dvs) H Q E):wpAny (model X.prog X.w) X.A (call (.ref f) us) (EP X BM σ Q) X.xe s:=by
 have r2:bK (vs++dvs) (us++ds):=r.append hd;have hl:(us++ds).length=ps.length:=by rw[<-r2.length];exact F.len _ _ _ _ h
 refine wpAny_call (mj (F.run X.A X.stack s H ⟨us,[]⟩ (us++ds) (vs++dvs) Q E hr I.env0 (hb s us I.kIn hl) r2 h) λr s' hq=>?_);cases r with
 |error e=>exact hx BM σ H s e s' I hq
 |ok fl=>
  cases fl with
  |ret u=>exact I.after hq
  |next=>exact fj hq
  |brk=>exact fj hq
  |cont=>exact fj hq
theorem sV(F:dR X.prog X.w X.K X.mg X.base CX k f fd ps sp)(hr:dE k X.A)(hg:Gl X x)(hm:X.mg x=some (.ref f))(hk:dl X.K (.ref f)=true)(hb:gO X.K fd ps ds)(hd:bK dvs ds)(hx:jP CX X E)
  (ha:PA X (e::es) t)(hdb:(x==("__debug__":Str))=false:=by decide)(he:starEach (e::es) X.env=(false,eval e X.env)::starEach es X.env:=by rfl)(hpl:(backTo pos (starEach es X.env)).any (·.1)=false:=by rfl):
  PE X (.Call (.Name x p) (e::es) [] pos) (abr sp dvs E t):=by
 intro BM s σ H Q I h;refine rl (oQ I hg hm ?_ hdb);refine zx (h₀:=X.base) I.ok.mod.kin hk (bI (ha pos BM s σ H _ I h) λus s1 ⟨vs,H1,I1,r,q⟩=>⟨I1.kIn,?_⟩) he hpl;exact W5 F hr hb hd hx I1 r q
end
section
variable{X:Cx}{CX:jG}{k:Nat}{f C:Addr}{fd:bi}{ps ks:List Str}{sp:Sp}{E:XK}{x m:Str}{p pos apos kpos:ah}{e o:af}{es:List af}{kws:List iy}{te ta:TE}{t tk:TA}{nm:Option Str}
variable{g:BD->BD->BD}{gV:List V->List V->List V}
end
structure jM(N P:List Str)(sc:Scope):Prop where
 kind:sc.kind=.function
 co:sc.isCoroutine=false
 gen:sc.isGenerator=false
 nd:N.Nodup
 pre:N.take P.length=P
 par:∀x∈P,sc.names.lookup x=some .local\/sc.names.lookup x=some .cell
 nofree:∀y∈sc.names,y.2≠.free
theorem Lj{kindOf:Str->Option ji}{x:Str}:∀{binds:List (Str×Value)}{m:Str->BE},(∀v,(x,v)∉binds)->bindL kindOf binds m x=m x
 |[],_,_=>rfl
 |(n,v)::r,m,h=>by
  unfold bindL;rw[Lj λw hw=>h w (bf _ hw)];split
  .have:x≠n:=by rintro rfl;exact h v ay
   simp[this]
  .rfl
theorem Cj{kindOf:Str->Option ji}{x:Str}:∀{binds:List (Str×Value)}{m:Str->BE},(∀v,(x,v)∉binds)->bindC kindOf binds m x=m x
 |[],_,_=>rfl
 |(n,v)::r,m,h=>by
  unfold bindC;rw[Cj λw hw=>h w (bf _ hw)];split
  .rfl
  .have:x≠n:=by rintro rfl;exact h v ay
   simp[this]
theorem Vi{kindOf:Str->Option ji}{x:Str}{v:Value}:∀{P:List Str}{vs:BD}{i:Nat}{m:Str->BE},P.Nodup->P[i]?=some x->vs[i]?=some v->kindOf x=some .local->
  bindL kindOf (P.zip vs) m x=some v
 |[],_,_,_,_,h,_,_=>by simp at h
 |_::_,[],_,_,_,_,h,_=>by simp at h
 |p::P,w::vs,0,m,nd,h1,h2,hk=>by
  simp at h1 h2;subst h1;subst h2;show bindL kindOf ((p,w)::P.zip vs) m p=_;unfold bindL;rw[Lj λv hv=>(mm.mp nd).1 (ww hv).1,if_pos hk];simp
 |p::P,w::vs,i+1,m,nd,h1,h2,hk=>by
  show bindL kindOf ((p,w)::P.zip vs) m x=_;unfold bindL;exact Vi (i:=i) (mm.mp nd).2 (by simpa using h1) (by simpa using h2) hk
theorem Oj{kindOf:Str->Option ji}{x:Str}{v:Value}:∀{P:List Str}{vs:BD}{i:Nat}{m:Str->BE},P.Nodup->P[i]?=some x->vs[i]?=some v->kindOf x≠some .local->
  bindC kindOf (P.zip vs) m x=some v
 |[],_,_,_,_,h,_,_=>by simp at h
 |_::_,[],_,_,_,_,h,_=>by simp at h
 |p::P,w::vs,0,m,nd,h1,h2,hk=>by
  simp at h1 h2;subst h1;subst h2;show bindC kindOf ((p,w)::P.zip vs) m p=_;unfold bindC;rw[Cj λv hv=>(mm.mp nd).1 (ww hv).1,if_neg hk];simp
 |p::P,w::vs,i+1,m,nd,h1,h2,hk=>by
  show bindC kindOf ((p,w)::P.zip vs) m x=_;unfold bindC;exact Oj (i:=i) (mm.mp nd).2 (by simpa using h1) (by simpa using h2) hk
def start(N:List Str)(vs:List V):St:=vs.map some++bn (N.length-vs.length) none
def aW(CX:jG)(P:Program)(w:ao)(K:ae)(mg:Str->BE)(base:Heap)(N:List Str)(qual:Str)(scope:Scope)(f:Addr)(cd:Value)(A:aq)(outer:List bc)(s:aa)(H:Hp)(E:XK):Cx where
 prog:=P
 w:=w
 K:=K
 mg:=mg
 base:=base
 A:=A.deeper (envOfC qual scope s.heap.objs.size f cd)
 N:=N
 BN:=s
 BO:=H
 env:=envOfC qual scope s.heap.objs.size f cd
 outer:=outer
 stack:=envOfC qual scope s.heap.objs.size f cd::outer
 ex:=[]
 calm:=true
 fn:=λ_=>true
 pn:=[]
 xe:=λe s'=>wpAny (model P w) (A.deeper (envOfC qual scope s.heap.objs.size f cd)) (leaving (envOfC qual scope s.heap.objs.size f cd) e) (λ_ s''=>CX outer H s E e s'') (λe' s''=>CX outer H s E e' s'') s'
theorem Lk{sc:Scope}{n:Nat}{x:Str}(h:sc.names.lookup x=some .cell):∃c,(cellsFrom n sc.names []).lookup x=some c:=by
 have q:=zy sc.names n [] (.inl h);exact rm.mp q
theorem Aw{CX:jG}{P:Program}{w:ao}{K:ae}{mg:Str->BE}{base:Heap}{N ps:List Str}{qual:Str}{scope:Scope}{f:Addr}{cd:Value}{A:aq}{outer:List bc}{s s1:aa}{H:Hp}{E:XK}{us:BD}{vs:List V}
  (S:jM N ps scope)(hd:A.handled=none)(e0:yC P w K mg base A outer s H)(hl:vs.length=ps.length)(r:bK vs us)
  (x:InCallC s s.heap.objs.size (bindL (envOfC qual scope s.heap.objs.size f cd).kindOf (ps.zip us) λ_=>none) (cellsFrom (s.heap.objs.size+1) scope.names []) (bindC (envOfC qual scope s.heap.objs.size f cd).kindOf (ps.zip us) λ_=>none) s1):
  aO (aW CX P w K mg base N qual scope f cd A outer s H E) [] (start N vs) H s1:=by
 have hpl:ps.length<=N.length:=by have:=congrArg List.length S.pre;rw[om]at this;omega
 obtain⟨h1,tk,rfl,hk⟩:=x.done;have noA:∀b:Addr,b∉(aW CX P w K mg base N qual scope f cd A outer s H E).ex:=λb z=>absurd (show b∈([]:List Addr) from z) (by simp);refine⟨⟨e0.mod,S.kind,rfl,rfl,am _,λy z c h1 h2=>?_,λy hy=>?_,λy c _ h=>?_,λ_=>hd,Around.frames_deeper e0.frames,.inr ⟨rfl,rfl⟩,λb z=>absurd z (noA b),e0.bs,e0.bsz,λb _ _=>noA b,λb z=>absurd z (noA b),e0.funs,e0.frf⟩,
  rfl,e0.bare,Un.kept hk,⟨_,x.toInCall.ns,λi y v h1 h2 h3=>?_⟩,λy c h=>⟨_,x.cell y c h⟩,e0.hok.fresh (am _),λy c h=>?_,λp hp=>absurd (show p∈([]:List (Addr×Obj)) from hp) (by simp),e0.hok.kept hk,?_⟩
 .exact name_of_addr x.apart (mn h1) (mn h2)
 .have hy:scope.names.lookup y=some .cell\/scope.names.lookup y=some .free:=hy
  rcases hy with hy |hy
  .exact Lk hy
  .exact absurd rfl (S.nofree _ (mn hy))
 .exact wd (x.above y c (mn h))
 .have hi:i<vs.length:=by
   unfold start at h2
   by_cases hi:i<vs.length
   .exact hi
   .rw[ij (by simpa using hi)]at h2
    rw[zz]at h2;split at h2<;>cases h2
  have ha:vs[i]?=some v:=by
   unfold start at h2;rw[ib (by simpa using hi),fh]at h2;cases e:vs[i]? with
   |none=>rw[e]at h2;cases h2
   |some a=>rw[e]at h2;cases h2;rfl
  obtain⟨u,hu,rv⟩:=r.get ha;have hp:ps[i]?=some y:=by
   rw[<-S.pre,wx (by omega)];exact h1
  have ndP:ps.Nodup:=by rw[<-S.pre];exact S.nd.sublist (List.take_sublist _ _)
  refine⟨u,rv,?_⟩;rcases S.par y (fm hp)with k |k
  .exact .inl ⟨k,Vi ndP hp hu k⟩
  .obtain⟨c,e⟩:=Lk (n:=s.heap.objs.size+1) k
   refine .inr ⟨.inl k,c,e,?_⟩;have q:=x.cell y c e;rw[Oj ndP hp hu (by show scope.names.lookup y≠_;rw[k];decide)]at q;exact q
 .exact e0.hok.fresh (wd (x.above y c (mn h)))
 .unfold start
  show _=N.length;rw[bq,ar,List.length_replicate];omega
theorem Fd{CX:jG}{P:Program}{w:ao}{K:ae}{mg:Str->BE}{base:Heap}{k:Nat}{f:Addr}{name qual:Str}{params:Arguments}{body:List Stmt}{scope:Scope}{dV kV doc pm cdv ct oc:Value}{an od:BF}
  {osl:Array BE}{N ps:List Str}{sp:Sp}(lk:K.lookup f=some ⟨oc,od,.func (du name qual params body scope dV kV doc pm an cdv ct),osl⟩)(hcd:jj K cdv qual=true)(S:jM N ps scope)
  (len:∀vs H Q E,sp vs H Q E->vs.length=ps.length)
  (hbody:∀(A:aq)(outer:List bc)(s:aa)(H:Hp)(vs:List V)(Q:VK)(E:XK),dE k (A.deeper (envOfC qual scope s.heap.objs.size f cdv))->sp vs H Q E->
   ∃t,fJ (aW CX P w K mg base N qual scope f cdv A outer s H E) body t/\t {nx:=λ_ H'=>Q .non H',rt:=Q} (start N vs) H):
  dR P w K mg base CX (k+1) f (du name qual params body scope dV kV doc pm an cdv ct) ps sp:=by
 refine⟨len,λA outer s H args us vs Q E hr e0 hb r hsp=>?_⟩;have hl:=len _ _ _ _ hsp;have KX:K.In s.heap:=e0.mod.kin.keeps λb o e=>(e0.bs b o e).1;have lim:s.heap.NoLimit:=e0.mod.nolimit.keeps λb o e=>(e0.bs b o e).1;have hkind:∀y∈ps.zip us,scope.names.lookup y.1=some .local\/(scope.names.lookup y.1=some .cell/\((cellsFrom (s.heap.objs.size+1) scope.names []).lookup y.1).isSome=true):=λ⟨n,v⟩ hy=>by
  rcases S.par n (ww hy).1 with q |q
  .exact .inl q
  .exact .inr ⟨q,zy _ _ _ (.inl q)⟩
 refine codeAny_call_function hr.depth (KX _ _ lk) rfl S.co S.gen rfl (PySem.W.codeRec_of KX hcd) (hb _ _ _ _ ?_);refine wpAny_newFunctionEnv_cells S.kind hkind λenv he s1 x=>?_;subst he;refine⟨lim.keeps x.toInCall.keep,codeAny_func ?_⟩;obtain⟨t,ht,hq⟩:=hbody A outer s H vs Q E (hr.deeper _) hsp;have I:aO (aW CX P w K mg base N qual scope f cdv A outer s H E) [] (start N vs) H s1:=Aw S hr.hd e0 hl r x;refine dh (ht [] s1 (start N vs) H _ I hq) (λfl s' hs=>?_) λe s' hs=>hs;have fin:∀{σ':St}{H':Hp}{v:V}{u:Value},aO (aW CX P w K mg base N qual scope f cdv A outer s H E) [] σ' H' s'->cD v u->Q v H'->CE outer P w H s Q u s':=
  λ{σ' H' v u} J rv q=>⟨v,H',J.os,J.bare,J.base,J.hok,rv,q⟩
 cases fl with
 |ret u=>
  obtain⟨v,σ',H',J,rv,q⟩:=hs;exact fin J rv q
 |next=>
  obtain⟨σ',H',J,q⟩:=hs;exact fin (v:=V.non) (u:=cw) J rfl q
 |brk=>
  obtain⟨_,_,_,q⟩:=hs;exact fj q
 |cont=>
  obtain⟨_,_,_,q⟩:=hs;exact fj q
section
variable{X:Cx}{x:Str}{p pos:ah}{e:af}{es:List af}{t:TA}{id T:String}{r:List V->Hp->VK->Prop}
def Wr(r:List V->Hp->VK->Prop)(t:TA):TE:=λσ H Q=>t σ H λvs H1=>r vs H1 Q
theorem sM(hc:iB X (.builtin id) r)(hg:Gl X x)(hm:X.mg x=none)(hv:bootBuiltins x=some (.builtin id))(ha:PA X (e::es) t)(hn:x≠"__name__":=by decide)(hdb:(x==("__debug__":Str))=false:=by decide)
  (he:starEach (e::es) X.env=(false,eval e X.env)::starEach es X.env:=by rfl)(hpl:(backTo pos (starEach es X.env)).any (·.1)=false:=by rfl):PE X (.Call (.Name x p) (e::es) [] pos) (Wr r t):=by
 intro BM s σ H Q I h;refine rl (qF I hg hm hv ?_ hn hdb);exact PyProof.Rows.callWith_builtin1 (bI (ha pos BM s σ H _ I h) λus s1 ⟨vs,H1,I1,r1,q1⟩=>hc BM s1 σ H1 vs us Q I1 r1 q1) he hpl
theorem Di(hc:iB X (.type T) r)(hg:Gl X x)(hm:X.mg x=none)(hv:bootBuiltins x=some (.type T))(ha:PA X (e::es) t)(hn:x≠"__name__":=by decide)(hdb:(x==("__debug__":Str))=false:=by decide)
  (he:starEach (e::es) X.env=(false,eval e X.env)::starEach es X.env:=by rfl)(hpl:(backTo pos (starEach es X.env)).any (·.1)=false:=by rfl):PE X (.Call (.Name x p) (e::es) [] pos) (Wr r t):=by
 intro BM s σ H Q I h;refine rl (qF I hg hm hv ?_ hn hdb);exact rh (bI (ha pos BM s σ H _ I h) λus s1 ⟨vs,H1,I1,r1,q1⟩=>hc BM s1 σ H1 vs us Q I1 r1 q1) he hpl
end
end L2
namespace HT
open PySem PyProof.Rows
def lexLt:BA->BA->Bool
 |[],[]=>false
 |[],_::_=>true
 |_::_,[]=>false
 |x::xs,y::ys=>if x=y then lexLt xs ys else decide (x<y)
theorem lexLt_cons(x y:Int)(xs ys:BA):lexLt (x::xs) (y::ys)=if x=y then lexLt xs ys else decide (x<y):=rfl
section
open PySem.SeqAt
open PySem.AutoSeq1 (wpAny_loadPart')
open PySem.MeetsSeq PySem.MeetsSeq2 PySem.MeetsSeq3
end
section
variable{prog:Program}{w:ao}{A:aq}{E:Value->aa->Prop}{s:aa}
theorem cat_tup{t b:Addr}{vs ws:BD}{Q:Value->aa->Prop}(ht:IsTup s.heap t vs.toArray)(hb:IsTup s.heap b ws.toArray)(hv:vs≠[])
  (h1:ws=[]->Q (.ref t) s)(h2:ws≠[]->Q (.ref s.heap.objs.size) {s with heap:=s.heap.push {cls:=.type "tuple",data:=.seq (vs++ws).toArray}})
  (hsz:vs.length+ws.length<=sizeLine):wpAny (model prog w) A (binaryOp .Add (.ref t) (.ref b)) Q E s:=by
 obtain⟨⟨cls,dd,data,sl⟩,ho,hc,n,hd⟩:=id ht;obtain⟨⟨cls2,dd2,data2,sl2⟩,ho2,hc2,n2,hd2⟩:=id hb;simp only at hc hd hc2 hd2;subst hc hd hc2 hd2;have e:vs.toArray++ws.toArray=(vs++ws).toArray:=by simp
 by_cases hw:ws=[]
 .exact wy ⟨_,ho,rfl⟩ ⟨_,ho2,rfl⟩ noFill_tuple_add seq_tuple_add a5 a6 (a7 _ _)
   (tuple_addW1 t b vs.toArray ws.toArray n n2 dd dd2 sl sl2 (by simpa using hv) (by simp[hw])) ⟨ho,ho2,h1 hw⟩
 .refine wy ⟨_,ho,rfl⟩ ⟨_,ho2,rfl⟩ noFill_tuple_add seq_tuple_add a5 a6 (a7 _ _)
   (tuple_addW2 t b vs.toArray ws.toArray n n2 dd dd2 sl sl2 (by simpa using hv) (by simpa using hw) (by rw[az,az];exact hsz)) ⟨ho,ho2,?_⟩
  rw[e];exact h2 hw
def sIx(n d:Nat):BG->Nat
 |none=>d
 |some v=>if v<0 then(v+(n:Int)).toNat else min v.toNat n
theorem sIx_nat(n d k:Nat):sIx n d (some (k:Int))=min k n:=by
 show(if(k:Int)<0 then((k:Int)+(n:Int)).toNat else min (k:Int).toNat n)=min k n;rw[if_neg (by omega),oo]
theorem S7(n d:Nat)(hd:d<=n)(o:BG):sIx n d o<=n:=by
 cases o with
 |none=>exact hd
 |some v=>
  show(if v<0 then(v+(n:Int)).toNat else min v.toNat n)<=n
  by_cases hv:v<0
  .rw[if_pos hv];omega
  .rw[if_neg hv];exact Nat.min_le_right _ _
theorem Nm(v:Int)(n d:Nat):(if v<0 then max (v+(n:Int)) 0 else min v (n:Int))=((sIx n d (some v):Nat):Int):=by
 show(if v<0 then max (v+(n:Int)) 0 else min v (n:Int))=(((if v<0 then(v+(n:Int)).toNat else min v.toNat n):Nat):Int)
 by_cases hv:v<0
 .simp only[if_pos hv];omega
 .simp only[if_neg hv];omega
theorem Vu(lo hi:BG)(n:Nat):wz lo hi 1 (n:Int)=(((sIx n 0 lo:Nat):Int),((sIx n n hi:Nat):Int)):=by
 have h1:¬((1:Int)<0):=by omega
 unfold wz;simp only[h1,if_false];refine jf ?_ ?_
 .cases lo with
  |none=>rfl
  |some v=>exact Nm v n 0
 .cases hi with
  |none=>rfl
  |some v=>exact Nm v n n
theorem Wu(i j:Nat):rn (i:Int) (j:Int) 1=j-i:=by
 unfold rn;have h1:(1:Int)>0:=by omega
 simp only[h1,if_true,Int.ediv_one];split<;>omega
theorem Th{v:Value}{o:BG}{Q:BG->aa->Prop}(p:jk v o)(h:Q o s):wpAny (model prog w) A (Builtin.Slice.slicePartIndex v) Q E s:=by
 cases p with
 |none=>exact slicePart_none h
 |int i t=>exact slicePart_int h
theorem Hs{sl:Addr}{vl vu:Value}{lo hi:BG}{n:Nat}{Q:Int×Int×Nat->aa->Prop}(hs:s.heap.IsSliceOf sl vl vu .none)(pl:jk vl lo)(pu:jk vu hi)
  (h:Q (((sIx n 0 lo:Nat):Int),1,sIx n n hi-sIx n 0 lo) s):wpAny (model prog w) A (a9 (.ref sl) (pure (n:Int))) Q E s:=by
 obtain⟨os,hos,hcs,hds⟩:=id hs;unfold a9 Builtin.Slice.sliceFields;refine ag (ag (fg hos hds (x:=vl) rfl (ag (fg hos hds (x:=vu) rfl (ag (fg hos hds (x:=.none) rfl (au ?_)))))));refine ag (slicePart_none ?_);show wpAny _ _ (if((1:Int)==0)=true then _ else _) _ _ s;rw[if_neg (by decide)];refine ag (Th pl (ag (Th pu (ag (au ?_)))));show wpAny _ _ (match wz lo hi 1 (n:Int)with |(lo,hi)=>pure (lo,(1:Int),rn lo hi 1)) _ _ s
 rw[Vu lo hi n];show wpAny _ _ (pure (((sIx n 0 lo:Nat):Int),(1:Int),rn ((sIx n 0 lo:Nat):Int) ((sIx n n hi:Nat):Int) 1)) _ _ s;rw[Wu];exact au h
theorem B7(xs:Array Value)(i k:Nat):((cq k).filterMap λ(m:Nat)=>xs[((i:Int)+(m:Int)*1).toNat]?).toArray=((xs.toList.drop i).take k).toArray:=by
 have e:(λ(m:Nat)=>xs[((i:Int)+(m:Int)*1).toNat]?)=λm=>xs[i+m]?:=by
  funext m
  have:((i:Int)+(m:Int)*1).toNat=i+m:=by omega
  rw[this]
 rw[e];have:=pick_run xs i k;rw[List.filterMap_map]at this;have e2:((λx=>xs[x]?)∘λx=>i+x)=λm=>xs[i+m]?:=rfl;rw[e2]at this;rw[this]
theorem getItem_tuple_cut{t sl:Addr}{items:Array Value}{vl vu:Value}{lo hi:BG}{Q:Value->aa->Prop}(ht:IsTup s.heap t items)(hs:s.heap.IsSliceOf sl vl vu .none)(pl:jk vl lo)(pu:jk vu hi)
  (hw:¬(sIx items.size 0 lo=0/\sIx items.size items.size hi=items.size))
  (h:Q (.ref s.heap.objs.size) {s with heap:=s.heap.push {cls:=.type "tuple",data:=.seq ((items.toList.drop (sIx items.size 0 lo)).take (sIx items.size items.size hi-sIx items.size 0 lo)).toArray}})
  (hsz:items.size<=sizeLine):wpAny (model prog w) A (getItem (.ref t) (.ref sl)) Q E s:=by
 have htake:sizeOk (.seq ((items.toList.drop (sIx items.size 0 lo)).take (sIx items.size items.size hi-sIx items.size 0 lo)).toArray):=by
  show((items.toList.drop (sIx items.size 0 lo)).take (sIx items.size items.size hi-sIx items.size 0 lo)).toArray.size<=sizeLine;rw[az,om,jm,pq];omega
 have hj:sIx items.size items.size hi<=items.size:=S7 _ _ (am _) hi;obtain⟨os,hos,hcs,hds⟩:=id hs;have hTs:s.TypeIs (.ref sl) "slice":=⟨os,hos,hcs⟩;unfold getItem
 try with_reducible refine fe ?_
 first |refine ag (au ?_) |skip
 refine ag (wpAny_sequenceKey ht.typeIs (by decide) ?_);refine ag (qc (name:=cc "__getitem__") ht.typeIs rq
  (oq rq ht.typeIs entry_tuple_getitem ?_ (args_tuple_getitem _ _)))
 show wpAny _ _ (Builtin.Tuple.tupleItemsOf (.ref t) >>= _) _ _ s;refine ag (tupleItemsOf_ ht ?_);refine ag (wpAny_typeOf hTs ?_);rw[if_pos (by decide)];refine ag (Hs hs pl pu ?_);have hno:¬((((sIx items.size 0 lo:Nat):Int)==0&&(1:Int)==1&&(sIx items.size items.size hi-sIx items.size 0 lo)==items.size)=true):=by
  intro q;rw[ee,ee]at q;have q1:((sIx items.size 0 lo:Nat):Int)=0:=eq_of_beq q.1.1;have q2:sIx items.size items.size hi-sIx items.size 0 lo=items.size:=eq_of_beq q.2;exact hw ⟨by omega,by omega⟩
 show wpAny _ _ (if(((sIx items.size 0 lo:Nat):Int)==0&&(1:Int)==1&&(sIx items.size items.size hi-sIx items.size 0 lo)==items.size)=true then _ else _) _ _ s;rw[if_neg hno,B7]
 first
  |exact ag (m:=se _) (jh (au ⟨_,rfl,au h⟩) htake)
  |exact ag (m:=se _) (jh (ag (au (au ⟨_,rfl,au h⟩))) htake)
  |exact ag (ag (m:=se _) (jh (au (au ⟨_,rfl,au h⟩)) htake))
  |exact ag (ag (m:=se _) (jh (au ⟨_,rfl,au h⟩) htake))
end
end HT
namespace L2
open PySem PySem.Spec PyProof.Rows
abbrev TO:=St->Hp->(BG->Hp->Prop)->Prop
def PO(X:Cx)(e:Option af)(t:TO):Prop:=
 ∀(BM:List (Addr×Obj))(s:aa)(σ:St)(H:Hp)(Q:BG->Hp->Prop),aO X BM σ H s->t σ H Q->
  wpAny (model X.prog X.w) X.A (evalPart e X.env) (λu s'=>∃o H',aO X BM σ H' s'/\jk u o/\Q o H') X.xe s
def F5:TO:=λ_ H Q=>Q none H
def aa7(t:TE):TO:=λσ H Q=>t σ H λx H1=>∃i,x=.int i/\Q (some i) H1
section
variable{X:Cx}{e:af}{te:TE}{lo hi:Option af}{tl th:TO}{pos p2:ah}
theorem F7:PO X none F5:=by
 intro BM s σ H Q I h;rw[evalPart_none];exact au ⟨none,H,I,.none,h⟩
theorem O1(h:PE X e te):PO X (some e) (aa7 te):=by
 intro BM s σ H Q I hw;rw[evalPart_some];refine bI (h BM s σ H _ I hw) ?_
 rintro u s1 ⟨x,H1,I1,r1,q1⟩
 obtain⟨i,rfl,q⟩:=q1;obtain⟨t,rfl⟩:=r1;exact⟨some i,H1,I1,.int i t,q⟩
def mT(X:Cx)(r:V->BG->BG->Hp->VK->Prop):Prop:=
 ∀(BM:List (Addr×Obj))(s:aa)(σ:St)(H:Hp)(x:V)(v vl vu:Value)(lo hi:BG)(sl:Addr)(Q:VK),aO X BM σ H s->cD x v->s.heap.IsSliceOf sl vl vu .none->jk vl lo->jk vu hi->r x lo hi H Q->
  ∃T id,typeLookup (.type T) "__getitem__"=pure (some (.builtin id))/\s.TypeIs v T/\wpAny (model X.prog X.w) X.A (getItem v (.ref sl)) (EP X BM σ Q) X.xe s
theorem mT.or{r r':V->BG->BG->Hp->VK->Prop}(h:mT X r)(h':mT X r'):mT X (λx lo hi H Q=>r x lo hi H Q\/r' x lo hi H Q):=by
 intro BM s σ H x v vl vu lo hi sl Q I rx hs pl pu q;rcases q with q |q
 .exact h BM s σ H x v vl vu lo hi sl Q I rx hs pl pu q
 .exact h' BM s σ H x v vl vu lo hi sl Q I rx hs pl pu q
def tSl(r:V->BG->BG->Hp->VK->Prop)(te:TE)(tl th:TO):TE:=λσ H Q=>te σ H λx H1=>tl σ H1 λl H2=>th σ H2 λu H3=>r x l u H3 Q
theorem Qk{r:V->BG->BG->Hp->VK->Prop}(hr:mT X r)(he:PE X e te)(hl:PO X lo tl)(hu:PO X hi th):PE X (.Subscript e (.Slice lo hi none p2) pos) (tSl r te tl th):=by
 intro BM s σ H Q I h;refine Subscript_ (bI (he BM s σ H _ I h) λv s1 hq=>?_);rcases hq with⟨x,H1,I1,r1,q1⟩;refine wpAny_Slice (bI (hl BM s1 σ H1 _ I1 q1) λvl s2 ⟨l,H2,I2,pl,q2⟩=>bI (hu BM s2 σ H2 _ I2 q2) λvu s3 hq=>?_);rcases hq with⟨u,H3,I3,pu,q3⟩;rw[evalPart_none];refine au ?_;have I4:aO X BM σ H3 {s3 with heap:=s3.heap.push {cls:=.type "slice",data:=.fields #[vl,vu,.none]}}:=I3.kept (t':=s3.toks) λb ob q=>aw _ q;obtain⟨T,id,hT,ht,hg⟩:=hr BM {s3 with heap:=s3.heap.push {cls:=.type "slice",data:=.fields #[vl,vu,.none]}} σ H3 x v vl vu l u s3.heap.objs.size Q I4 r1 (Heap.IsSliceOf.new ..) pl pu q3;show wpAny (model X.prog X.w) X.A (subscriptTail e (.Slice lo hi none p2) v (.ref s3.heap.objs.size)) (EP X BM σ Q) X.xe {s3 with heap:=s3.heap.push {cls:=.type "slice",data:=.fields #[vl,vu,.none]}};exact tail_any (ops:=[.ref s3.heap.objs.size,v]) ht hT hg (by with_unfolding_all rfl)
def nU(xs:List V)(lo hi:BG):List V:=(xs.drop (HT.sIx xs.length 0 lo)).take (HT.sIx xs.length xs.length hi-HT.sIx xs.length 0 lo)
theorem uN(xs:List V)(lo hi:BG):(nU xs lo hi).length<=xs.length:=by
 unfold nU;rw[om,jm];omega
def acr(K:ae):V->BG->BG->Hp->VK->Prop:=λx lo hi H Q=>∃a xs,x=.ref a/\dJ K H a xs/\
 ¬(HT.sIx xs.length 0 lo=0/\HT.sIx xs.length xs.length hi=xs.length)/\∀p,H p=none->Q (.ref p) (bJ H p (.tup (nU xs lo hi)))
theorem S9:mT X (acr X.K):=by
 intro BM s σ H x v vl vu lo hi sl Q I rx hs pl pu h;obtain⟨a,xs,rfl,hx,hw,q⟩:=h;cases rx;obtain⟨its,r,ht,hz⟩:=I.tuple hx;have hlen:its.toArray.size=xs.length:=by rw[az];exact r.length.symm
 refine⟨"tuple",_,rq.lookup,ht.typeIs,?_⟩;refine HT.getItem_tuple_cut ht hs pl pu (by rw[hlen];exact hw) ?_ (by rw[hlen];exact hz);rw[hlen];refine⟨.ref s.heap.objs.size,_,I.laid (t':=s.toks) (o:=.tup (nU xs lo hi)) (λb ob q=>aw _ q) (am _) ?_,rfl,q _ (I.hok.fresh (am _))⟩;exact⟨dz (uN xs lo hi) hz,_,(r.drop (HT.sIx xs.length 0 lo)).take (HT.sIx xs.length xs.length hi-HT.sIx xs.length 0 lo),qz _ _⟩
def Lq(K:ae):R2:=λx y H Q=>∃a b xs ys,x=.ref a/\y=.ref b/\dJ K H a xs/\dJ K H b ys/\xs≠[]/\xs.length+ys.length<=sizeLine/\
 (ys=[]->Q (.ref a) H)/\(ys≠[]->∀p,H p=none->Q (.ref p) (bJ H p (.tup (xs++ys))))
theorem bK.nil_iff{xs:List V}{us:BD}(r:bK xs us):us=[]↔xs=[]:=by
 cases r with
 |nil=>simp
 |cons _ _=>simp
theorem O5:dG X (binaryOp .Add) (Lq X.K):=by
 intro BM s σ H x y v u Q I rx ry h;obtain⟨a,b,xs,ys,rfl,rfl,ha,hb,hx,hz,q1,q2⟩:=h;cases rx;cases ry;obtain⟨its,r1,p1,_⟩:=I.tuple ha;obtain⟨its2,r2,p2,_⟩:=I.tuple hb;refine HT.cat_tup p1 p2 (λz=>hx (r1.nil_iff.mp z)) (λz=>⟨.ref a,H,I,rfl,q1 (r2.nil_iff.mp z)⟩) (λz=>?_) (by rw[<-r1.length,<-r2.length];exact hz);refine⟨.ref s.heap.objs.size,_,I.laid (t':=s.toks) (o:=.tup (xs++ys)) (λb ob q=>aw _ q) (am _) ?_,rfl,q2 (λw=>z (r2.nil_iff.mpr w)) _ (I.hok.fresh (am _))⟩;exact⟨by rw[bq];exact hz,_,r1.append r2,qz _ _⟩
end
def aU(n:Nat)(i:Int):Option Nat:=if 0<=i then(if i<n then some i.toNat else none)else if-(n:Int)<=i then some (i+n).toNat else none
def aR{α:Type}(xs:List α)(i:Int):Option α:=(aU xs.length i).bind λj=>xs[j]?
theorem Xl{n:Nat}{i:Int}{j:Nat}(h:aU n i=some j):seqIndex? i n=some j/\j<n/\-(n:Int)<=i/\i<n:=by
 unfold aU at h
 by_cases h0:0<=i
 .rw[if_pos h0]at h
  by_cases h1:i<n
  .rw[if_pos h1]at h
   have e:i.toNat=j:=cr h;exact⟨by rw[xa h0 h1,e],by omega,by omega,h1⟩
  .rw[if_neg h1]at h;cases h
 .rw[if_neg h0]at h
  by_cases h1:-(n:Int)<=i
  .rw[if_pos h1]at h
   have e:(i+n).toNat=j:=cr h;exact⟨by rw[xb (by omega) h1,e],by omega,h1,by omega⟩
  .rw[if_neg h1]at h;cases h
theorem Vb{α:Type}{xs:List α}{i:Int}{v:α}(h:aR xs i=some v):∃j,seqIndex? i xs.length=some j/\xs[j]?=some v/\j<xs.length/\-(xs.length:Int)<=i/\i<xs.length:=by
 unfold aR at h;cases e:aU xs.length i with
 |none=>rw[e]at h;cases h
 |some j=>
  rw[e]at h;obtain⟨h1,h2,h3,h4⟩:=Xl e;exact⟨j,h1,h,h2,h3,h4⟩
theorem oO{α:Type}{xs:List α}{j:Nat}{v:α}(h:xs[j]?=some v):aR xs (j:Int)=some v:=by
 have hj:j<xs.length:=(dj.mp h).1;have e:aU xs.length (j:Int)=some j:=by
  unfold aU;rw[if_pos (by omega),if_pos (by omega)];simp
 unfold aR;rw[e];exact h
theorem E3{α:Type}(xs:List α)(v:α):aR (xs++[v]) (-1)=some v:=by
 have hl:(xs++[v]).length=xs.length+1:=by simp
 have e:aU (xs++[v]).length (-1)=some xs.length:=by
  unfold aU;rw[hl,if_neg (by decide),if_pos (by omega)];congr 1;omega
 unfold aR;rw[e];show(xs++[v])[xs.length]?=some v;simp
def Ub(b:af):Prop:=∀o i,subscripted b false o i=operate [o,i] (getItem o i)
def mV(X:Cx)(r:R2):Prop:=
 ∀(value slice:af)(BM:List (Addr×Obj))(s:aa)(σ:St)(H:Hp)(x y:V)(v u:Value)(Q:VK),aO X BM σ H s->cD x v->cD y u->r x y H Q->
  subscripted slice false v u=operate [v,u] (getItem v u)->wpAny (model X.prog X.w) X.A (subscriptTail value slice v u) (EP X BM σ Q) X.xe s
def As(X:Cx)(id:String)(r:V->List V->Hp->VK->Prop):Prop:=
 ∀(BM:List (Addr×Obj))(s:aa)(σ:St)(H:Hp)(x:V)(xs:List V)(v:Value)(us:BD)(Q:VK),aO X BM σ H s->cD x v->bK xs us->r x xs H Q->
  wpAny (model X.prog X.w) X.A (call (.builtin id) (v::us)) (EP X BM σ Q) X.xe s
section
variable{X:Cx}{a b:af}{ta tb:TE}{pos:ah}
theorem mV.or{r r':R2}(h:mV X r)(h':mV X r'):mV X (λx y H Q=>r x y H Q\/r' x y H Q):=by
 intro value slice BM s σ H x y v u Q I rx ry q hs;rcases q with q |q
 .exact h value slice BM s σ H x y v u Q I rx ry q hs
 .exact h' value slice BM s σ H x y v u Q I rx ry q hs
theorem Mp{r:R2}(hr:mV X r)(ha:PE X a ta)(hb:PE X b tb)(hs:Ub b):PE X (.Subscript a b pos) (yW r ta tb):=by
 intro BM s σ H Q I h;exact Subscript_ (De ha hb I h λv u s2 x y H2 I2 rx ry q=>hr a b BM s2 σ H2 x y v u Q I2 rx ry q (hs _ _))
def Gr(K:ae):R2:=λx y H Q=>∃p xs i v,x=.ref p/\y=.int i/\cK K H p xs/\aR xs i=some v/\Q v H
def Xq(K:ae):R2:=λx y H Q=>∃p xs i v,x=.ref p/\y=.int i/\dJ K H p xs/\aR xs i=some v/\Q v H
def Ge:R2:=λx y H Q=>∃z i c,x=.str z/\y=.int i/\z.length<=sizeLine/\aR z.cps.toList i=some c/\Q (.str ⟨#[c]⟩) H
theorem F3:mV X (Gr X.K):=by
 intro value slice BM s σ H x y v u Q I rx ry h hs;obtain⟨p,xs,i,z,rfl,rfl,hq,he,q⟩:=h;cases rx;obtain⟨t,rfl⟩:=ry;obtain⟨its,r,pl,hz⟩:=I.list hq;obtain⟨j,h1,h2,h3,h4,h5⟩:=Vb he;obtain⟨w,ew,rw'⟩:=r.get h2;have hl:=r.length;have hn:=qK;have fin:EP X BM σ Q w s:=⟨z,H,I,rw',q⟩
 by_cases h0:0<=i
 .have hj:i.toNat=j:=by
   rw[xa h0 h5]at h1;exact cr h1
  exact item_listR pl.isList h0 (by omega) (by rw[hj];simpa using ew) fin hs
 .have hj:(i+(its.toArray.size:Int)).toNat=j:=by
   rw[xb (by omega) h4]at h1;rw[az,<-hl];exact cr h1
  exact c6 (x:=w) pl.isList.typeIs slot_list_getitem.lookup
   (wpAny_getItem_list_neg (Q:=λr s'=>r=w/\EP X BM σ Q r s') pl.isList (by omega) (by rw[az]<;>omega) (by omega) (by rw[hj];simpa using ew) ⟨rfl,fin⟩) hs
theorem X5:mV X (Xq X.K):=by
 intro value slice BM s σ H x y v u Q I rx ry h hs;obtain⟨p,xs,i,z,rfl,rfl,hq,he,q⟩:=h;cases rx;obtain⟨t,rfl⟩:=ry;obtain⟨its,r,pl,hz⟩:=I.tuple hq;obtain⟨j,h1,h2,h3,h4,h5⟩:=Vb he;obtain⟨w,ew,rw'⟩:=r.get h2;have hl:=r.length;have hn:=qK;have fin:EP X BM σ Q w s:=⟨z,H,I,rw',q⟩;exact c6 (x:=w) pl.typeIs rq.lookup
  (getItem_tuple (j:=j) (Q:=λr s'=>r=w/\EP X BM σ Q r s') pl (by omega) (by omega) (by rw[az,<-hl];exact h1) (by simpa using ew) ⟨rfl,fin⟩) hs
theorem Wo:mV X Ge:=by
 intro value slice BM s σ H x y v u Q I rx ry h hs;obtain⟨z,i,c,rfl,rfl,hz,he,q⟩:=h;obtain⟨t,rfl⟩:=rx;obtain⟨t',rfl⟩:=ry;obtain⟨j,h1,h2,h3,h4,h5⟩:=Vb he;have hl:z.cps.toList.length=z.length:=by simp[Str.length]
 rw[hl]at h1 h4 h5;have hn:=qK;exact tail_any (mq s z t) slot_str_getitem.lookup (getItem_str (c:=c) (by
  have e1:decide (i< -(2^63:Int))=false:=decide_eq_false (by omega);have e2:decide (i>=2^63)=false:=decide_eq_false (by omega);rw[e1,e2,Bool.or_false]) (by rw[h1];simpa using h2) ⟨.str ⟨#[c]⟩,H,I.tok _,⟨_,rfl⟩,q⟩) hs
def Cs(K:ae):R2:=λx y H Q=>Gr K x y H Q\/Xq K x y H Q\/Ge x y H Q
theorem aaj:mV X (Cs X.K):=F3.or (X5.or Wo)
theorem Ev(its:BD)(n j:Nat)(u:Value):gm (·.setIfInBounds j u) {cls:=.type "list",data:=.seq its.toArray n}={cls:=.type "list",data:=.seq (its.set j u).toArray n}:=by
 simp[gm]
theorem aO.lst{BM:List (Addr×Obj)}{σ:St}{H:Hp}{s:aa}{p:Addr}{xs:List V}(I:aO X BM σ H s)(h:H p=some (.lst xs)):
  ∃(its:BD)(n:Nat),bK xs its/\s.heap.get? p=some {cls:=.type "list",data:=.seq its.toArray n}/\xs.length<=sizeLine:=by
 obtain⟨z,its,n,r,e⟩:=I.hok p _ h;exact⟨its,n,r,e,z⟩
theorem aO.lstUpd{BM:List (Addr×Obj)}{σ:St}{H:Hp}{s:aa}{p:Addr}{xs ys:List V}{its its':BD}{n n':Nat}{f:Obj->Obj}(I:aO X BM σ H s)(h:H p=some (.lst xs))
  (ho:s.heap.get? p=some {cls:=.type "list",data:=.seq its.toArray n})(hf:f {cls:=.type "list",data:=.seq its.toArray n}={cls:=.type "list",data:=.seq its'.toArray n'})(r:bK ys its')(hz:ys.length<=sizeLine)(t:Nat):
  aO X BM σ (bJ H p (.lst ys)) {s with heap:=s.heap.update p f,toks:=t}:=by
 have e:(s.heap.update p f).get? p=some {cls:=.type "list",data:=.seq its'.toArray n'}:=by
  rw[xc f ho (by rw[hf]<;>rfl),hf]
 refine I.write (x:=p) (e:=p) (by rw[h];trivial) (.inl rfl) (λb u hb q=>(xf _ _ (iw hb)).trans q) ⟨_,e⟩ ?_;exact⟨hz,its',n',r,e⟩
def abC:V->V->V->Hp->(Hp->Prop)->Prop:=λo i v H Q=>∃p xs k j,o=.ref p/\i=.int k/\H p=some (.lst xs)/\aU xs.length k=some j/\Q (bJ H p (.lst (xs.set j v)))
theorem Yy:Tq X abC:=by
 intro BM s σ H o i v ov iv u Q I ro ri rv h;obtain⟨p,xs,k,j,rfl,rfl,hp,hj,q⟩:=h;cases ro;obtain⟨t,rfl⟩:=ri;obtain⟨its,n,r,ho,hz⟩:=I.lst hp;obtain⟨h1,h2,h3,h4⟩:=Xl hj;have hl:=r.length;have hn:=qK;have I':aO X BM σ (bJ H p (.lst (xs.set j v))) {s with heap:=s.heap.update p (gm (·.setIfInBounds j u))}:=
  I.lstUpd hp ho (Ev its n j u) (r.set rv j) (by rw[ic];exact hz) s.toks
 by_cases h0:0<=k
 .have hk:k.toNat=j:=by
   rw[xa h0 h4]at h1;exact cr h1
  exact PySem.W.ki_setAt ho h0 (by omega) (by rw[az,<-hl];exact h4) (by rw[hk];exact⟨_,I',q⟩)
 .have hk:(k+(its.toArray.size:Int)).toNat=j:=by
   rw[xb (by omega) h3]at h1;rw[az,<-hl];exact cr h1
  exact PySem.W.ki_setBack ho (by omega) (by rw[az,<-hl];exact h3) (by omega) (by rw[hk];exact⟨_,I',q⟩)
theorem Qt(lo hi:BG)(n:Nat):(sliceBounds lo hi none n).1=((HT.sIx n 0 lo:Nat):Int)/\(sliceBounds lo hi none n).2.1=((HT.sIx n n hi:Nat):Int)/\(sliceBounds lo hi none n).2.2=1:=by
 refine⟨?_,?_,rfl⟩
 .cases lo with
  |none=>simp[sliceBounds,HT.sIx]
  |some i=>
   simp only[sliceBounds,HT.sIx,c7,show(1:Int)>0 by decide,if_true]
   by_cases h:i<0
   .simp only[h,if_true]<;>omega
   .simp only[h,if_false]<;>omega
 .cases hi with
  |none=>simp[sliceBounds,HT.sIx]
  |some i=>
   simp only[sliceBounds,HT.sIx,c7,show(1:Int)>0 by decide,if_true]
   by_cases h:i<0
   .simp only[h,if_true]<;>omega
   .simp only[h,if_false]<;>omega
theorem Ct(its:BD)(lo hi:BG):slicePick its.toArray lo hi none=((its.drop (HT.sIx its.length 0 lo)).take (HT.sIx its.length its.length hi-HT.sIx its.length 0 lo)).toArray:=by
 obtain⟨h1,h2,h3⟩:=Qt lo hi its.toArray.size;unfold slicePick;rw[h1,h2,h3];simp only[sliceRange_one,pick_run,az]<;>rfl
def abZ(K:ae):V->BG->BG->Hp->VK->Prop:=λx lo hi H Q=>∃a xs,x=.ref a/\cK K H a xs/\∀p,H p=none->Q (.ref p) (bJ H p (.lst (nU xs lo hi)))
theorem Q2:mT X (abZ X.K):=by
 intro BM s σ H x v vl vu lo hi sl Q I rx hs pl pu h;obtain⟨a,xs,rfl,hx,q⟩:=h;cases rx;obtain⟨its,r,ht,hz⟩:=I.list hx;have hlen:=r.length;refine⟨"list",_,slot_list_getitem.lookup,ht.isList.typeIs,?_⟩;refine wpAny_getItem_list_slice ht.isList hs pl pu .none (by simp) ?_ (by rw[az]<;>omega);rw[Ct,<-hlen];refine⟨.ref s.heap.objs.size,_,I.laid (t':=s.toks) (o:=.lst (nU xs lo hi)) (λb ob q=>aw _ q) (am _) ?_,rfl,q _ (I.hok.fresh (am _))⟩;exact⟨dz (uN xs lo hi) hz,_,0,(r.drop (HT.sIx xs.length 0 lo)).take (HT.sIx xs.length xs.length hi-HT.sIx xs.length 0 lo),dq _ rfl⟩
def mI:V->Bool
 |.non=>true
 |.bl _=>true
 |.int _=>true
 |.str _=>true
 |_=>false
def oF:V->V->Bool
 |.non,.non=>true
 |.bl a,.bl b=>a==b
 |.bl a,.int b=>(if a then 1 else 0)==b
 |.int a,.bl b=>a==(if b then 1 else 0)
 |.int a,.int b=>a==b
 |.str a,.str b=>a==b
 |_,_=>false
theorem aak{A:aq}{s:aa}{y x:V}{u v:Value}(ry:cD y u)(rx:cD x v)(fy:mI y=true)(fx:mI x=true):jz A s u v (oF y x):=by
 cases y with
 |non=>
  cases ry;cases x with
  |non=>cases rx;exact qd _
  |bl b=>cases rx;exact SeqAt.EqAt.none_bool b
  |int b=>obtain⟨t,rfl⟩:=rx;exact SeqAt.EqAt.none_int b t
  |str b=>obtain⟨t,rfl⟩:=rx;exact SeqAt.EqAt.none_str b t
  |_=>exact absurd (show false=true from fx) ia
 |bl a=>
  cases ry;cases x with
  |non=>cases rx;exact c8 a
  |bl b=>cases rx;exact c9 a b
  |int b=>obtain⟨t,rfl⟩:=rx;exact SeqAt.EqAt.bool_int a b t
  |str b=>obtain⟨t,rfl⟩:=rx;exact SeqAt.EqAt.bool_str a b t
  |_=>exact absurd (show false=true from fx) ia
 |int a=>
  obtain⟨t',rfl⟩:=ry;cases x with
  |non=>cases rx;exact d0 a t'
  |bl b=>cases rx;exact SeqAt.EqAt.int_bool a t' b
  |int b=>obtain⟨t,rfl⟩:=rx;exact d3 a t' b t
  |str b=>obtain⟨t,rfl⟩:=rx;exact zi a t' b t
  |_=>exact absurd (show false=true from fx) ia
 |str a=>
  obtain⟨t',rfl⟩:=ry;cases x with
  |non=>cases rx;exact d4 a t'
  |bl b=>cases rx;exact SeqAt.EqAt.str_bool a t' b
  |int b=>obtain⟨t,rfl⟩:=rx;exact zj a t' b t
  |str b=>obtain⟨t,rfl⟩:=rx;exact d5 a t' b t
  |_=>exact absurd (show false=true from fx) ia
 |_=>exact absurd (show false=true from fy) ia
def iR(x:V)(u:Value):Bool:=match u with
 |.none=>oF .non x
 |.bool b=>oF (.bl b) x
 |.int i _=>oF (.int i) x
 |.str z _=>oF (.str z) x
 |_=>false
theorem Mn{x y:V}{u:Value}(r:cD y u)(f:mI y=true):iR x u=oF y x:=by
 cases y with
 |non=>cases r;rfl
 |bl b=>cases r;rfl
 |int i=>obtain⟨t,rfl⟩:=r;rfl
 |str z=>obtain⟨t,rfl⟩:=r;rfl
 |_=>exact absurd (show false=true from f) ia
theorem sT{x:V}:∀{xs:List V}{us:BD},bK xs us->xs.all mI=true->us.any (iR x)=xs.any λy=>oF y x
 |_,_,.nil,_=>rfl
 |y::xs,u::us,.cons r t,f=>by
  rw[sf,ee]at f;rw[km,km,Mn r f.1,sT t f.2]
theorem sP{A:aq}{s:aa}{x:V}{v:Value}(rx:cD x v)(fx:mI x=true):∀{xs:List V}{us:BD},bK xs us->xs.all mI=true->∀u∈us,jz A s u v (iR x u)
 |_,_,.nil,_=>λu hu=>by cases hu
 |y::xs,u::us,.cons r t,f=>λu' hu=>by
  rw[sf,ee]at f;rcases ce.mp hu with rfl |hu
  .rw[Mn r f.1];exact aak r rx f.1 fx
  .exact sP rx fx t f.2 u' hu
def yR(x:V)(xs:List V):Bool:=xs.any λy=>oF y x
def Le(K:ae)(neg:Bool):R2:=λx y H Q=>∃p xs,y=.ref p/\(cK K H p xs\/dJ K H p xs)/\mI x=true/\xs.all mI=true/\Q (.bl (if neg then !yR x xs else yR x xs)) H
theorem Ei:dG X (compareOp .In) (Le X.K false):=by
 intro BM s σ H x y v u Q I rx ry h;obtain⟨p,xs,rfl,hq,fx,fs,q⟩:=h;cases ry;rcases hq with hq |hq
 .obtain⟨its,r,pl,hz⟩:=I.list hq
  refine d6 (iR x) pl.isList (λw hw=>sP rx fx r fs w (by simpa using hw)) ⟨.bl _,H,I,rfl,?_⟩;rw[show its.toArray.any (iR x)=its.any (iR x) by simp,sT r fs];exact q
 .obtain⟨its,r,pl,hz⟩:=I.tuple hq
  refine SeqAt.in_tupleAt (iR x) pl (λw hw=>sP rx fx r fs w (by simpa using hw)) ⟨.bl _,H,I,rfl,?_⟩;rw[show its.toArray.any (iR x)=its.any (iR x) by simp,sT r fs];exact q
theorem Kg:dG X (compareOp .NotIn) (Le X.K true):=by
 intro BM s σ H x y v u Q I rx ry h;obtain⟨p,xs,rfl,hq,fx,fs,q⟩:=h;cases ry;rcases hq with hq |hq
 .obtain⟨its,r,pl,hz⟩:=I.list hq
  refine SeqAt.notIn_listAt (iR x) pl.isList (λw hw=>sP rx fx r fs w (by simpa using hw)) ⟨.bl _,H,I,rfl,?_⟩;rw[show its.toArray.any (iR x)=its.any (iR x) by simp,sT r fs];exact q
 .obtain⟨its,r,pl,hz⟩:=I.tuple hq
  refine SeqAt.notIn_tupleAt (iR x) pl (λw hw=>sP rx fx r fs w (by simpa using hw)) ⟨.bl _,H,I,rfl,?_⟩;rw[show its.toArray.any (iR x)=its.any (iR x) by simp,sT r fs];exact q
theorem Tt:iB X (.builtin "len") (λxs H Q=>∃p ys,xs=[.ref p]/\(cK X.K H p ys\/dJ X.K H p ys)/\Q (.int ys.length) H):=by
 intro BM s σ H xs us Q I r h;obtain⟨p,ys,rfl,hq,q⟩:=h;obtain⟨u,rfl,rx⟩:=iD r;cases rx;have hn:=qK;rcases hq with hq |hq
 .obtain⟨its,r',pl,hz⟩:=I.list hq
  have hlen:=r'.length;exact Calls.call_len_list pl.isList (by simp only[az]<;>omega) ⟨.int ys.length,H,I.tok _,⟨s.toks+1,by rw[az,hlen]⟩,q⟩
 .obtain⟨its,r',pl,hz⟩:=I.tuple hq
  have hlen:=r'.length;exact len_tuple pl (by simp only[az]<;>omega) ⟨.int ys.length,H,I.tok _,⟨s.toks+1,by rw[az,hlen]⟩,q⟩
theorem Bu:iB X (.builtin "len") (λxs H Q=>∃z,xs=[.str z]/\z.length<=sizeLine/\Q (.int z.length) H):=by
 intro BM s σ H xs us Q I r h;obtain⟨z,rfl,hz,q⟩:=h;obtain⟨u,rfl,t,rfl⟩:=iD r;have hn:=qK;exact len_str (by omega) ⟨.int z.length,H,I.tok _,⟨_,rfl⟩,q⟩
theorem Hg:iB X (.type "list") (λxs H Q=>∃p ys,xs=[.ref p]/\(cK X.K H p ys\/dJ X.K H p ys)/\∀l,H l=none->Q (.ref l) (bJ H l (.lst ys))):=by
 intro BM s σ H xs us Q I r h;obtain⟨p,ys,rfl,hq,q⟩:=h;obtain⟨u,rfl,rx⟩:=iD r;cases rx;have fin:∀(its:BD),bK ys its->ys.length<=sizeLine->∀(h':Heap)(c':Nat),(∀b o',s.heap.get? b=some o'->h'.get? b=some o')->
   h'.get? s.heap.objs.size=some {cls:=.type "list",dict:=none,data:=.seq its.toArray c',slots:=#[]}->EP X BM σ Q (.ref s.heap.objs.size) {s with heap:=h'}:=λits r' hz h' c' kp e=>
  ⟨.ref s.heap.objs.size,_,I.laid (t':=s.toks) kp (am _) (show fO X.prog X.w _ h' _ (.lst ys) from⟨hz,its,c',r',e⟩),rfl,q _ (I.hok.fresh (am _))⟩
 rcases hq with hq |hq
 .obtain⟨its,r',pl,hz⟩:=I.list hq
  have hlen:=r'.length;obtain⟨o,ho,hc,n,hd⟩:=pl.isList;exact call_list_seq p (.inl rfl) ho hc hd (λh' c' kp e=>fin its r' hz h' c' kp e) (by simp only[az]<;>omega)
 .obtain⟨its,r',pl,hz⟩:=I.tuple hq
  have hlen:=r'.length;obtain⟨o,ho,hc,n,hd⟩:=pl;exact call_list_seq p (.inr rfl) ho hc hd (λh' c' kp e=>fin its r' hz h' c' kp e) (by simp only[az]<;>omega)
theorem Dt:iB X (.type "tuple") (λxs H Q=>∃p ys,xs=[.ref p]/\((cK X.K H p ys/\∀l,H l=none->Q (.ref l) (bJ H l (.tup ys)))\/(dJ X.K H p ys/\Q (.ref p) H))):=by
 intro BM s σ H xs us Q I r h;obtain⟨p,ys,rfl,h⟩:=h;obtain⟨u,rfl,rx⟩:=iD r;cases rx;rcases h with⟨hq,q⟩|⟨hq,q⟩
 .obtain⟨its,r',pl,hz⟩:=I.list hq
  have hlen:=r'.length;refine call_tuple_list pl.isList (λh' kp=>?_) (by simp only[az]<;>omega);have I1:aO X BM σ H {s with heap:=h'}:=I.kept (t':=s.toks) kp;have I2:aO X BM σ (bJ H h'.objs.size (.tup ys)) {s with heap:=h'.push {cls:=.type "tuple",data:=.seq its.toArray}}:=
   I1.laid (t':=s.toks) (λb o e=>aw _ e) (am _) (show fO X.prog X.w _ _ _ (.tup ys) from⟨hz,its,r',qz _ _⟩)
  exact⟨.ref h'.objs.size,_,I2,rfl,q _ (I1.hok.fresh (am _))⟩
 .obtain⟨its,r',pl,hz⟩:=I.tuple hq
  exact call_tuple_same pl ⟨.ref p,H,I,rfl,q⟩
def Oe(K:ae)(T:String)(x:V)(H:Hp):Prop:=match x with
 |.str _=>T="str"
 |.int _=>T="int"
 |.ref p=>(T="list"/\∃xs,cK K H p xs)\/(T="tuple"/\∃o,K.lookup p=some o/\o.cls=.type "tuple"/\o.dict=none)\/
   (T="dict"/\((∃kvs,H p=some (.dK kvs))\/∃kvs,H p=some (.dT kvs)))\/(T="set"/\∃S n,H p=some (.set S n))
 |_=>False
theorem aao{BM:List (Addr×Obj)}{σ:St}{H:Hp}{s:aa}{T:String}{x:V}{v:Value}(I:aO X BM σ H s)(r:cD x v)(ty:Oe X.K T x H):
  s.TypeIs v T/\∀a,v=.ref a->∃ob,s.heap.get? a=some ob/\ob.dict=none:=by
 cases x with
 |str z=>
  obtain⟨t,rfl⟩:=r;cases(show T="str" from ty);exact⟨mq s z t,λ_ e=>nomatch e⟩
 |int i=>
  obtain⟨t,rfl⟩:=r;cases(show T="int" from ty);exact⟨xh s i t,λ_ e=>nomatch e⟩
 |ref p=>
  cases r;rcases ty with⟨rfl,xs,hq⟩|⟨rfl,o,hk,hc,hd⟩|⟨rfl,hk⟩|⟨rfl,S,n,hk⟩
  .obtain⟨its,_,pl,_⟩:=I.list hq
   refine⟨pl.isList.typeIs,λa e=>?_⟩;cases e;obtain⟨o,n,e,c,hd,_⟩:=pl;exact⟨o,e,hd⟩
  .refine⟨⟨o,I.kIn p o hk,hc⟩,λa e=>?_⟩
   cases e;exact⟨o,I.kIn _ o hk,hd⟩
  .have z:∃o,s.heap.get? p=some o/\o.ExactDict:=by
    rcases hk with⟨kvs,hk⟩|⟨kvs,hk⟩
    .obtain⟨_,_,_,_,o,_,_,e,ex,_⟩:=I.hok p _ hk
     exact⟨o,e,ex⟩
    .obtain⟨_,_,_,_,o,_,_,e,ex,_⟩:=I.hok p _ hk
     exact⟨o,e,ex⟩
   obtain⟨o,e,ex⟩:=z;refine⟨⟨o,e,ex.1⟩,λa e2=>?_⟩;cases e2;exact⟨o,e,ex.2.1⟩
  .obtain⟨o,_,_,_,e,ex,_⟩:=I.hok p _ hk
   refine⟨⟨o,e,ex.1⟩,λa e2=>?_⟩;cases e2;exact⟨o,e,ex.2.1⟩
 |_=>exact fj ty
def tBM(K:ae)(T:String)(r:V->List V->Hp->VK->Prop)(to:TE)(t:TA):TE:=λσ H Q=>to σ H λx H1=>Oe K T x H1/\t σ H1 λxs H2=>r x xs H2 Q
variable{o e:af}{es:List af}{to:TE}{t:TA}{name:Str}{apos cpos:ah}{T id:String}{r:V->List V->Hp->VK->Prop}
theorem xG(pa:PlainAttrs T)(slot:Slot T name id)(hty:typeOf (.builtin id)=pure (.type "method_descriptor"))(hm:As X id r)(ho:PE X o to)(ha:PA X (e::es) t)
  (hbase:attributeBase o name X.env (eval o X.env)=eval o X.env:=by rfl)
  (hfew:((backTo cpos (starEach (e::es) X.env)).all (λx=>!x.1)&&(backToKw cpos (keywordEach [] X.env)).all (λx=>x.1.isSome)
   &&decide ((e::es).length+([]:List iy).length+(if([]:List iy).isEmpty then 0 else 1)<30))=true:=by rfl)
  (hline:(apos.endLine==cpos.line)=true:=by rfl)(hs:starEach (e::es) X.env=(false,eval e X.env)::starEach es X.env:=by rfl)(hplain:(backTo cpos (starEach es X.env)).any (·.1)=false:=by rfl):
  PE X (.Call (.Attribute o name apos) (e::es) [] cpos) (tBM X.K T r to t):=by
 intro BM s σ H Q I h;refine wpAny_Call_method_late hbase hfew hline rfl (bI (ho BM s σ H _ I h) λv s1 hq=>?_);rcases hq with⟨x,H1,I1,r1,ty,q1⟩;obtain⟨h1,h2⟩:=aao I1 r1 ty;refine⟨T,id,pa,slot,hty,h1,h2,?_⟩;have hA:=ha cpos BM s1 σ H1 _ I1 q1;rw[hs]at hA⊢;refine Calls.callWith_builtin (by show(false||(backTo cpos (starEach es X.env)).any (·.1))=false;rw[hplain]<;>rfl) (d7 ?_);exact bI hA λus s2 ⟨vs,H2,I2,r2,q2⟩=>hm BM s2 σ H2 x vs v us Q I2 r1 r2 q2
end
def Ur(X:Cx)(id:String)(r:V->List V->Hp->VK->Prop):Prop:=
 ∀(BM:List (Addr×Obj))(s:aa)(σ:St)(H:Hp)(x:V)(xs:List V)(v:Value)(us:BD)(Q:VK),aO X BM σ H s->cD x v->bK xs us->r x xs H Q->
  wpAny (model X.prog X.w) X.A (call (.builtin id) (v::us)) (EP X BM σ Q) X.xe s
theorem bK.one:∀{x:V}{us:BD},bK [x] us->∃u,us=[u]/\cD x u:=by
 rintro _ _ (_ |⟨r,_ |_⟩)
 exact⟨_,rfl,r⟩
theorem bK.eraseIdx:∀{xs:List V}{us:BD}(i:Nat),bK xs us->bK (xs.eraseIdx i) (us.eraseIdx i)
 |_,_,_,.nil=>.nil
 |_,_,0,.cons _ t=>t
 |_,_,i+1,.cons r t=>.cons r (bK.eraseIdx i t)
theorem bK.rep{xs:List V}{us:BD}(h:bK xs us):∀k:Nat,bK (bn k xs).flatten (bn k us).flatten
 |0=>.nil
 |k+1=>by
  rw[ik,ik,mx,mx];exact bK.append h (bK.rep h k)
theorem Ga{α:Type}:∀(l:List α)(i:Nat),(l.eraseIdx i).length<=l.length
 |[],_=>am _
 |_::_,0=>qe _
 |_::r,i+1=>Nat.succ_le_succ (Ga r i)
theorem Ej(its:BD):∀(k:Nat)(acc:BD),
  kn (λx1 x2=>x1++x2) acc.toArray (bn k its.toArray)=(acc++(bn k its).flatten).toArray
 |0,acc=>by simp
 |k+1,acc=>by
  have e:acc.toArray++its.toArray=(acc++its).toArray:=by simp
  have e2:(acc++its)++(bn k its).flatten=acc++(bn (k+1) its).flatten:=by
   rw[ik,mx,ko]
  rw[<-e2,<-Ej its k (acc++its),<-e,ik,xi]
section
variable{X:Cx}{BM:List (Addr×Obj)}{σ:St}{H:Hp}{s:aa}{l b:Addr}{xs ys zs:List V}
theorem aO.lset{its its':BD}{n:Nat}{f:Array Value->Array Value}{t':Nat}(I:aO X BM σ H s)(hH:H l=some (.lst xs))
  (e:s.heap.get? l=some {cls:=.type "list",data:=.seq its.toArray n})(hf:f its.toArray=its'.toArray)(hv:bK ys its')(hz:ys.length<=sizeLine):
  aO X BM σ (bJ H l (.lst ys)) {s with heap:=s.heap.update l (gm f),toks:=t'}:=by
 have q:=PySem.IsL.update e f;rw[hf]at q;refine I.write (x:=l) (e:=l) (by rw[hH];exact trivial) (.inl rfl) (λb' u hb hu=>(xf s.heap (gm f) (iw hb)).trans hu) ⟨_,q⟩ ?_;exact⟨hz,its',_,hv,q⟩
theorem aO.lnew{its:BD}{t':Nat}(I:aO X BM σ H s)(hv:bK ys its)(hz:ys.length<=sizeLine):
  aO X BM σ (bJ H s.heap.objs.size (.lst ys)) {s with heap:=s.heap.push {cls:=.type "list",data:=.seq its.toArray},toks:=t'}:=
 I.laid (λ_ _ q=>aw _ q) (am _) ⟨hz,its,0,hv,dq _ rfl⟩
theorem aO.fresh(I:aO X BM σ H s):H s.heap.objs.size=none:=I.hok.fresh (am _)
theorem aO.lstM(I:aO X BM σ H s)(hH:H l=some (.lst xs)):xs.length<=sizeLine/\∃(its:BD)(n:Nat),bK xs its/\xs.length=its.length/\s.heap.get? l=some {cls:=.type "list",data:=.seq its.toArray n}:=by
 obtain⟨z,its,n,r,e⟩:=I.hok l _ hH;exact⟨z,its,n,r,r.length,e⟩
theorem Gy{n:Nat}(h:n<=sizeLine):si n=false:=by
 unfold si;exact decide_eq_false (by omega)
end
section
variable{X:Cx}
def R4:V->List V->Hp->VK->Prop:=λx vs H Q=>∃l xs y,x=.ref l/\vs=[y]/\H l=some (.lst xs)/\xs.length<sizeLine/\Q .non (bJ H l (.lst (xs++[y])))
theorem vG:Ur X "list.append" R4:=by
 intro BM s σ H x vs v us Q I rx rv h;obtain⟨l,xs,y,rfl,rfl,hH,hz,q⟩:=h;cases rx;obtain⟨u,rfl,ru⟩:=rv.one;obtain⟨z,its,n,r,hl,e⟩:=I.lstM hH;refine kq d8 ⟨_,e,rfl⟩ F.entry_list_append (F.args_list_append_2 _ _) (PySem.list_append l its.toArray n u (by rw[az];omega)) ⟨e,?_⟩;refine⟨.non,_,I.lset (its':=its++[u]) hH e (by simp) (r.append (.cons ru .nil)) ?_,rfl,q⟩;rw[bq,kr];omega
def Z7:V->List V->Hp->VK->Prop:=λx vs H Q=>∃l xs i k y,x=.ref l/\vs=[.int i]/\H l=some (.lst xs)/\-(2^63)<=i/\i<2^63/\seqIndex? i xs.length=some k/\xs[k]?=some y/\Q y (bJ H l (.lst (xs.eraseIdx k)))
theorem E2:Ur X "list.pop" Z7:=by
 intro BM s σ H x vs v us Q I rx rv h;obtain⟨l,xs,i,k,y,rfl,rfl,hH,h1,h2,hk,hy,q⟩:=h;cases rx;obtain⟨u,rfl,ru⟩:=rv.one;obtain⟨t,rfl⟩:=ru;obtain⟨z,its,n,r,hl,e⟩:=I.lstM hH;obtain⟨w,hw,rw'⟩:=r.get hy;refine kq F.slot_list_pop ⟨_,e,rfl⟩ F.entry_list_pop (F.args_list_pop_2 _ _)
  (MeetsSeq.list_pop_at l its.toArray n i t k w (fitsIndex_both h1 h2) (by rw[az,<-hl];exact hk) (by rw[<-Array.getElem?_toList];exact hw) (by rw[az];omega)) ⟨e,?_⟩
 refine⟨y,_,I.lset (its':=its.eraseIdx k) hH e ?_ (r.eraseIdx k) ?_,rw',q⟩
 .show its.toArray.eraseIdxIfInBounds k=(its.eraseIdx k).toArray
  rw[List.eraseIdxIfInBounds_toArray]
 .have:=Ga xs k
  omega
theorem Yl{α:Type}(xs:List α)(k:Nat):(bn k xs).flatten.length=k*xs.length:=by
 induction k with
 |zero=>simp
 |succ k ih=>rw[ik,mx,bq,ih,sj,Nat.add_comm]
end
section
variable{prog:Program}{w:ao}{A:aq}{E:Value->aa->Prop}{s:aa}
end
section
variable{X:Cx}
end
end L2
namespace Att
open PySem PySem.W PySem.Calls PyProof.Rows
theorem Rs{P:oa}{h:Heap}:∀(ns:BA)(vs:BD),WellAll P h vs (ns.map WData.int)->qg vs ns:=by
 intro ns
 induction ns with
 |nil=>
  intro vs w;rw[il]at w;cases w;exact .nil
 |cons n ns ih=>
  intro vs w;rw[cg]at w;cases w with
  |cons a b=>
   cases a;exact .cons _ _ (ih _ b)
theorem Nw{l:ot}{n:Nat}(hn:l.most=some n){P:oa}{h:Heap}{args:List WData}{vals:BD}
  (hpre:l.row.toRowW.claim.pre args=true)(hwl:WellAll P h vals args):
  ∃a vs ns,vals=[dw a]/\args=[WData.list (ns.map WData.int)]/\h.get? a=some {cls:=.type "list",data:=.seq vs.toArray}/\qg vs ns/\ns.length<=n:=by
 have hsh:WShape.hasAll [] args [.list .int]=true:=(pre_splitW hpre).1;have hc:l.pre.holds [] {args:=args}=true:=(pre_splitW hpre).2;obtain⟨d,r,rfl,h1,h2⟩:=hasAllW_cons hsh;obtain rfl:=hasAllW_nil h2;obtain⟨xs,rfl,h3⟩:=hasW_list h1;obtain⟨ns,rfl⟩:=items_int h3;have hlen:ns.length<=n:=by
  unfold OpenLaw.pre at hc;have h4:(WTm.not (.lt (.lit (.int (n:Int))) (.len (.arg 0)))).holds [] {args:=[.list (ns.map .int)]}=true:=by
   have h4:=(holds_andW hc).1;rw[hn]at h4;exact h4
  have h5:=condW_of h4 (w_not (w_lt w_lit (w_len_list (w_arg rfl))));rw[ar]at h5;refine d9 λq=>?_;have q':(n:Int)<((ns.length:Nat):Int):=by omega
  first
   |(rw[decide_eq_true q']at h5;exact absurd h5 (by decide))
   |(simp at h5;omega)
 cases hwl with
 |cons w1 w2=>
  cases w2;cases w1 with
  |list ho hall=>exact⟨_,_,ns,rfl,rfl,ho,Rs ns _ hall,hlen⟩
theorem Cw(l:ot)(args:List WData):l.row.toRowW.claim.post args (.bool true) args=true:=
 postW_of (r:=l.row.toRowW) (X:=(true==true))
  (show WShape.has [] (.bool true) .bool=true by first |rfl |decide |simp[WShape.has,WShape.arms,WShape.armsAll])
  (show(WTm.eq .res (.lit (.bool true))).value [] {args:=args,res:=some (.bool true),after:=args}=some (.bool (true==true)) from w_eq_bool (w_res rfl) w_lit) rfl
theorem attach_call{l:ot}{n:Nat}{q:Program}{loose:List Str}{XP:(Str->BE)->Heap->Prop}{YP:ao->Heap->Prop}{d:DefRec}
  (hn:l.most=some n)(hdf:d.params.defaults=[])
  (call:∀(w:ao)(BN BP:aa)(mg mb:Str->BE)(fa:Addr)(o:Obj)(pm cd doc:Value)(a:Addr)(vs:BD)(ns:BA),
   Ground q loose [] XP w BN mg mb BP.heap->YP w BP.heap->
   BP.heap.get? fa=some o->o.data=.func (docDef d.name d.params d.body d.scope pm cd doc)->BP.heap.CodeRec cd d.name->mg d.name=some (.ref fa)->
   BP.heap.get? a=some {cls:=.type "list",data:=.seq vs.toArray}->qg vs ns->ns.length<=n->BP.gens=#[]->
   codeAny (model l.prog w) callerA (.call (.ref fa) ⟨[.ref a],[]⟩) (λr s'=>r=.ok (.ret (.bool true))/\OldK BP.heap s'.heap/\s'.os=BP.os/\ig s'.gens) BP):
  WalkO q loose XP YP l.row.toRowW d [] (λf vs=>xj f vs):=by
 intro w BN BP mg mb G Y fa o pm cd doc dV kV ho hd hcd hD hmg hg args vals as hpre hlay hrd hwl hlo;obtain rfl:dV=.none:=Dflts.none hD hdf;obtain rfl:kV=.none:=Dflts.noKw hD;obtain⟨a,vs,ns,rfl,rfl,hobj,hints,hlen⟩:=Nw hn hpre hwl;refine enter_call (mj (call w BN BP mg mb fa o pm cd doc a vs ns G Y ho (fd_plain hd) hcd hmg hobj hints hlen hg) λr s' hq=>?_);obtain⟨rfl,h2,h3,h4⟩:=hq;exact⟨.inl ⟨.bool true,.bool true,[],rfl,λ_=>rfl,.bool true,Cw l _,λ_=>⟨List.Pairwise.nil,λ_ hm=>(nomatch hm)⟩⟩,h2,h3,h4⟩
section
variable{prog:Program}{w:ao}{A:aq}{E:Value->aa->Prop}{s:aa}{K:Frag}
end
end Att
namespace L2
open PySem PySem.Spec PyProof.Rows
theorem Xi:∀{vs:BD}{ns:BA},qg vs ns->bK (ns.map V.int) vs
 |_,_,.nil=>.nil
 |_,_,.cons n t h=>.cons ⟨t,rfl⟩ (Xi h)
def Fe(H:Hp):Prop:=∀b,H b=none\/∃o xs,H b=some (.frz o (.lst xs))
theorem Ky{P:Program}{w:ao}{K:ae}{mg mb:Str->BE}{CX:jG}{k:Nat}{fa a:Addr}{fd:bi}{x:Str}{sp:Sp}{BP:aa}{vs:BD}{ns:BA}
  (KX:K.In BP.heap)(hns:BP.heap.Ns mainGlobals mg)(hb:BP.heap.Ns builtinsNs mb)(hbb:∀x:Str,x≠"__name__"->mb x=bootBuiltins x)(hlim:BP.heap.NoLimit)(hg:BP.gens=#[])
  (ha:BP.heap.get? a=some {cls:=.type "list",data:=.seq vs.toArray})(hi:qg vs ns)(hl:ns.length<=sizeLine)(hr:dE k callerA)
  (F:∀base:Heap,K.In base->base.Ns mainGlobals mg->dR P w K mg base CX k fa fd [x] sp)(hbind:∀(s:aa)(u:Value),oj s fd ⟨[u],[]⟩ [(x,u)])
  (hsp:∀H:Hp,Fe H->cK K H a (ns.map V.int)->sp [.ref a] H (λv _=>v=.bl true) λ_ _ _=>False)
  (hCX:∀H e s',CX [] H BP (λ_ _ _=>False) e s'->False):
  codeAny (model P w) callerA (.call (.ref fa) ⟨[.ref a],[]⟩) (λr s'=>r=.ok (.ret (.bool true))/\OldK BP.heap s'.heap/\s'.os=BP.os/\ig s'.gens) BP:=by
 have rv:=Xi hi;have lenV:=hi.length
 --from an abstract heap in which nothing but the script may be tracked
 have core:∀H:Hp,Fe H->cK K H a (ns.map V.int)->eU P w H BP.heap->(∀b,H b≠none->b=a)->(H a≠none->K.lookup a=none)->
   codeAny (model P w) callerA (.call (.ref fa) ⟨[.ref a],[]⟩) (λr s'=>r=.ok (.ret (.bool true))/\OldK BP.heap s'.heap/\s'.os=BP.os/\ig s'.gens) BP:=by
  intro H hO hS hok hA hK;have base_of:∀{b:Addr}{o:Obj},BP.heap.get? b=some o->H b=none->(mM BP.heap H).get? b=some o:=λe n=>F1 e n;have noA:∀{b:Addr}{o:Obj}{es:Array DictEntry}{ep:Nat},BP.heap.get? b=some o->o.data=.dict es ep->H b=none:=λ{b o es ep} e d=>by
   cases q:H b with
   |none=>rfl
   |some u=>
    have e':b=a:=hA b (by rw[q];simp);subst e';rw[ha]at e;cases e;have d':Data.seq vs.toArray _=Data.dict es ep:=d;cases d'
  have nsK:∀{b:Addr}{m:Str->BE},BP.heap.Ns b m->(mM BP.heap H).Ns b m:=λ{b m} ⟨o,es,ep,e,d,r⟩=>⟨o,es,ep,base_of e (noA e d),d,r⟩;have hKb:K.In (mM BP.heap H):=λb o e=>base_of (KX b o e) (by
   cases q:H b with
   |none=>rfl
   |some u=>
    have e':b=a:=hA b (by rw[q];simp);subst e';rw[hK (by rw[q];simp)]at e;cases e)
  have hM:Mod K mg (mM BP.heap H):=⟨hKb,nsK hns,⟨mb,nsK hb,hbb⟩,let⟨mc,h1,h2⟩:=hlim;⟨mc,nsK h1,h2⟩⟩;have e0:yC P w K mg (mM BP.heap H) callerA [] BP H:=⟨rfl,hM,λb o e=>L7 e,xk (Ow _ _),trivial,λb hb=>absurd (show b∈([]:List Addr) from hb) (by simp),hok,.of_eq hg⟩;refine mj ((F _ hKb (nsK hns)).run callerA [] BP H ⟨[.ref a],[]⟩ [.ref a] [.ref a] _ _ hr e0 (hbind BP (.ref a)) (.cons rfl .nil) (hsp H hO hS)) λr s' h=>?_;cases r with
  |error e=>exact(hCX H e s' h).elim
  |ok fl=>
   cases fl with
   |next=>exact fj h
   |brk=>exact fj h
   |cont=>exact fj h
   |ret u=>
    obtain⟨v,H',os,bare,un,hok',r',q⟩:=h;have q':v=.bl true:=q;subst q';obtain rfl:u=qx true:=r';refine⟨rfl,OldK.of_keep λb o e=>?_,os,bare⟩;cases q:H b with
    |none=>exact un.keep b o e q (by intro z;exact absurd (show b∈([]:List Addr) from z) (by simp)) (by simp)
    |some u=>
     rcases hO b with z |⟨ob,xs,z⟩
     .rw[q]at z;cases z
     .have z2:=un.frzs b ob _ z
      obtain⟨e1,_⟩:=hok b _ z;obtain⟨e2,_⟩:=hok' b _ z2;rw[e]at e1;cases e1;exact e2
 cases hk:K.lookup a with
 |some o=>
  --the script is one of the module's own objects
  have e:=KX a o hk;rw[ha]at e;cases e;refine core (λ_=>none) (λ_=>.inl rfl) (.inr ⟨_,vs.toArray,_,hk,rfl,rfl,rfl,by rw[az,lenV];exact hl,by simpa using rv⟩) (λb u z=>by have z':(none:Option HO)=some u:=z;cases z') (λb z=>absurd rfl z) λz=>absurd rfl z
 |none=>
  refine core (λb=>if b=a then some (.frz {cls:=.type "list",data:=.seq vs.toArray} (.lst (ns.map V.int)))else none) (λb=>?_) (.inl (.inr ⟨{cls:=.type "list",data:=.seq vs.toArray},if_pos rfl⟩)) (λb u z=>?_) (λb z=>?_) λ_=>hk
  .by_cases hb:b=a
   .exact .inr ⟨_,_,if_pos hb⟩
   .exact .inl (if_neg hb)
  .by_cases hb:b=a
   .have z':=(if_pos hb).symm.trans z
    cases z';subst hb;exact⟨ha,by rw[ar];exact hl,vs,_,rv,ha⟩
   .have z':=(if_neg hb).symm.trans z
    cases z'
  .by_cases hb:b=a
   .exact hb
   .exact absurd (if_neg hb) z
theorem walk_of{l:ot}{n k:Nat}{q:Program}{loose:List Str}{XP:(Str->BE)->Heap->Prop}{YP:ao->Heap->Prop}{d:DefRec}{K:oa->ae}{CX:ao->jG}{sp:ao->Sp}{x:Str}
  (hn:l.most=some n)(hn2:n<=sizeLine)(hdf:d.params.defaults=[])(hr:dE k callerA)
  (hY:∀(w:ao)(h:Heap),YP w h->(K w.params).In h)
  (F:∀(w:ao)(mg:Str->BE)(fa:Addr)(h:Heap),(K w.params).In h->h.Ns mainGlobals mg->mg d.name=some (.ref fa)->
   ∃fd:bi,(∀(s:aa)(u:Value),oj s fd ⟨[u],[]⟩ [(x,u)])/\
    ∀base:Heap,(K w.params).In base->base.Ns mainGlobals mg->dR l.prog w (K w.params) mg base (CX w) k fa fd [x] (sp w))
  (hsp:∀(w:ao)(H:Hp)(a:Addr)(ns:BA),ns.length<=n->Fe H->cK (K w.params) H a (ns.map V.int)->sp w [.ref a] H (λv _=>v=.bl true) λ_ _ _=>False)
  (hCX:∀(w:ao)(H:Hp)(s:aa)(e:Value)(s':aa),CX w [] H s (λ_ _ _=>False) e s'->False):
  PySem.W.WalkO q loose XP YP l.row.toRowW d [] (λf vs=>xj f vs):=by
 refine Att.attach_call hn hdf λw BN BP mg mb fa o pm cd doc a vs ns G Y ho hd hcd hmg hobj hints hlen hg=>?_;have KX:=hY w _ Y;obtain⟨fd,hb,hF⟩:=F w mg fa _ KX G.T.g hmg;exact Ky KX G.T.g G.T.b G.T.builtins G.T.nolimit hg hobj hints (dz hlen hn2) hr hF hb (λH hO hS=>hsp w H a ns hlen hO hS) λH e s'=>hCX w H BP e s'
abbrev gR:jG:=λ_ _ _ _ _ _=>False
abbrev E0:XK:=λ_ _ _=>False
theorem Ud{X:Cx}:jP gR X E0:=λ_ _ _ _ _ _ _ h=>h.elim
structure jI(K:ae)(x qual:Str)(st:Stmt)(f:Addr)(fd:bi):Prop where
 ex:∃(oc:Value)(od:BF)(kV doc pm:Value)(an:BF)(cdv ct:Value)(osl:Array BE),
  fd=du x qual (gW st) (eH st) (cS st) .none kV doc pm an cdv ct/\K.lookup f=some ⟨oc,od,.func fd,osl⟩/\jj K cdv qual=true
 kp:dl K (.ref f)=true
section
variable{P:Program}{w:ao}{K:ae}{mg:Str->BE}{base:Heap}
theorem jI.ok{x qual:Str}{st:Stmt}{f:Addr}{fd:bi}{N ps:List Str}{k:Nat}{sp:Sp}(F:jI K x qual st f fd)(S:jM N ps (cS st))(len:∀vs H Q E,sp vs H Q E->vs.length=ps.length)
  (hbody:∀(cdv:Value)(A:aq)(outer:List bc)(s:aa)(H:Hp)(vs:List V)(Q:VK)(E:XK),dE k (A.deeper (envOfC qual (cS st) s.heap.objs.size f cdv))->sp vs H Q E->
   ∃t,fJ (aW gR P w K mg base N qual (cS st) f cdv A outer s H E).nox (eH st) t/\t {nx:=λ_ H'=>Q .non H',rt:=Q} (start N vs) H):dR P w K mg base gR (k+1) f fd ps sp:=by
 obtain⟨oc,od,kV,doc,pm,an,cdv,ct,osl,rfl,lk,hcd⟩:=F.ex;refine Fd lk hcd S len λA outer s H vs Q E hr hsp=>?_;obtain⟨t,h,q⟩:=hbody cdv A outer s H vs Q E hr hsp;exact⟨t,h.nox,q⟩
theorem jI.binds{x qual:Str}{st:Stmt}{f:Addr}{fd:bi}{ps:List Str}(F:jI K x qual st f fd)
  (h:∀(kV doc pm:Value)(an:BF)(cdv ct:Value)(us:BD),us.length=ps.length->bindArgs (du x qual (gW st) (eH st) (cS st) .none kV doc pm an cdv ct) ⟨us,[]⟩=pure (ps.zip us)):gO K fd ps []:=by
 obtain⟨oc,od,kV,doc,pm,an,cdv,ct,osl,rfl,lk,hcd⟩:=F.ex;exact .all (h kV doc pm an cdv ct)
theorem Go{x qual:Str}{st:Stmt}{f:Addr}{oc:Value}{od an:BF}{osl:Array BE}{kV doc pm cdv ct:Value}(l:K.lookup f=some ⟨oc,od,.func (du x qual (gW st) (eH st) (cS st) .none kV doc pm an cdv ct),osl⟩)
  (c:jj K cdv qual=true)(k:dl K (.ref f)=true):jI K x qual st f (du x qual (gW st) (eH st) (cS st) .none kV doc pm an cdv ct):=⟨⟨oc,od,kV,doc,pm,an,cdv,ct,osl,rfl,l,c⟩,k⟩
end
section
variable{X:Cx}
theorem pv(i:Nat){x:Str}{pos:ah}(hN:X.N[i]?=some x:=by rfl)(hv:yH X.env.scope x:=by first |exact ie rfl |exact iz (ie rfl) |exact iz (iz rfl))(hd:(x==("__debug__":Str))=false:=by decide)
  (hcd:(x==("__classdict__":Str))=false:=by decide):PE X (.Name x pos) (Lr i):=Vo hN hv hd hcd
end
theorem acl{A B:Prop}(h:A):if true=true then A else B:=by
 rw[if_pos rfl];exact h
def cM(H H':Hp):Prop:=∀b o,H b=some o->H' b=some o
theorem cM.refl(H:Hp):cM H H:=λ_ _ h=>h
end L2
namespace Bn
def Bd(k:Nat)(i:Int):Prop:=i.natAbs<2^k
theorem Bd.mono{j k:Nat}{i:Int}(h:Bd j i)(l:j<=k):Bd k i:=cj h (qh (by decide) l)
theorem Bd.mul{j k:Nat}{a b:Int}(h:Bd j a)(g:Bd k b):Bd (j+k) (a*b):=by
 unfold Bd at *;rw[e9,Nat.pow_add];exact Nat.mul_lt_mul'' h g
theorem Bd.add{k:Nat}{a b:Int}(h:Bd k a)(g:Bd k b):Bd (k+1) (a+b):=by
 unfold Bd at *;rw[xm];have:=Int.natAbs_add_le a b;omega
theorem Bd.neg{k:Nat}{a:Int}(h:Bd k a):Bd k (-a):=by
 unfold Bd at *;rw[Int.natAbs_neg];exact h
theorem Bd.sub{k:Nat}{a b:Int}(h:Bd k a)(g:Bd k b):Bd (k+1) (a-b):=by
 rw[Int.sub_eq_add_neg];exact h.add g.neg
theorem Bd.le{k:Nat}{a b:Int}(h:Bd k b)(l:a.natAbs<=b.natAbs):Bd k a:=qi l h
theorem Bd.of{k n:Nat}{a:Int}(l:a.natAbs<=n)(h:n<2^k):Bd k a:=qi l h
theorem Bd.log{k:Nat}{a:Int}(h:Bd k a)(hk:0<k):a.natAbs.log2<k:=by
 rcases f6 a.natAbs with z |z
 .rw[z]
  exact qi (xk (by decide)) hk
 .exact(xn (pw z)).mpr h
theorem Ri(a:Int){b:Int}(h:b≠0):(a.fmod b).natAbs<b.natAbs:=by
 rw[Int.fmod_eq_emod];have h1:=Int.emod_nonneg a h;have h2:a%b<(b.natAbs:Int):=Int.emod_lt a h
 by_cases c:0<=b\/b∣a
 .rw[if_pos c]
  omega
 .rw[if_neg c]
  have hb:b<0:=by omega
  have h3:a%b≠0:=λz=>c (.inr (Int.dvd_of_emod_eq_zero z));have h4:b.natAbs=(-b).toNat:=by omega
  omega
theorem Ek(a b:Int):bj b (a.fmod b)=bj a b:=by
 rw[Int.fmod_def,qj,Int.gcd_sub_mul_right_right,Int.gcd_comm]
theorem Qc(x:Int):(if x<0 then-x else x)=(x.natAbs:Int):=by
 split<;>omega
def gl:BA->Int->Int
 |[],g=>g
 |n::r,g=>gl r (bj g n:Nat)
def low(ns:BA):BA:=if gl ns 0=0 then ns else ns.map (· /gl ns 0)
theorem Np:∀(ns:BA)(g:Int),0<=g->0<=gl ns g
 |[],_,h=>h
 |_::r,_,_=>Np r _ (f9 _)
theorem Jo(k:Int):∀(ns:BA)(g:Int),0<=g->gl (ns.map (k*·)) ((k.natAbs:Int)*g)=(k.natAbs:Int)*gl ns g
 |[],_,_=>rfl
 |n::r,g,h=>by
  show gl (r.map (k*·)) ((bj ((k.natAbs:Int)*g) (k*n):Nat):Int)=(k.natAbs:Int)*gl r _;have e:((bj ((k.natAbs:Int)*g) (k*n):Nat):Int)=(k.natAbs:Int)*((bj g n:Nat):Int):=by
   rcases Int.natAbs_eq k with q |q
   .rw[<-q,g0]
    have:(k.natAbs:Int)=k:=q.symm
    push_cast
    rw[this]
   .have e2:k*n=(k.natAbs:Int)*(-n):=by rw[sr,<-xo,<-q]
    rw[e2,g0,Int.gcd_neg]
    push_cast
    simp
  rw[e];exact Jo k r _ (f9 _)
theorem Cb(k:Int)(ns:BA):gl (ns.map (k*·)) 0=(k.natAbs:Int)*gl ns 0:=by
 have:=Jo k ns 0 (xp 0)
 rwa[xq]at this
theorem Zi{k:Int}(h:0<k)(ns:BA):gl ns 0≠0->low (ns.map (k*·))=low ns:=λz=>by
 have hk:(k.natAbs:Int)=k:=by omega
 have e:=Cb k ns;rw[hk]at e;have nz:k*gl ns 0≠0:=g5 (by omega) z;unfold low;rw[e,if_neg nz,if_neg z,di];refine im λn _=>?_;show k*n/(k*gl ns 0)=n/gl ns 0;exact Int.mul_ediv_mul_of_pos _ _ h
theorem lC:∀(ns:BA)(g:Int),gl ns g∣g/\∀n∈ns,gl ns g∣n
 |[],g=>⟨Int.dvd_refl g,λ_ h=>nomatch h⟩
 |m::r,g=>by
  obtain⟨h1,h2⟩:=lC r ((bj g m:Nat):Int);refine⟨Int.dvd_trans h1 (g6 ..),λn hn=>?_⟩;rcases ce.mp hn with q |q
  .subst q
   exact Int.dvd_trans h1 (g7 ..)
  .exact h2 n q
theorem O4{ns:BA}(h:gl ns 0=0):∀n∈ns,n=0:=λn hn=>by
 have:=(lC ns 0).2 n hn;rw[h]at this;exact Int.zero_dvd.mp this
theorem xE{ns:BA}{n:Int}(hn:n∈ns)(h:n≠0):gl ns 0≠0:=λz=>h (O4 z n hn)
theorem wO{ns:BA}{n:Int}(hn:n∈ns)(h:n≠0):0<gl ns 0:=by
 have h1:=Np ns 0 (xp 0);have h2:=xE hn h;omega
theorem wP{ns:BA}{n:Int}(hn:n∈ns)(h:n≠0):low ns=ns.map (· /gl ns 0):=by
 unfold low;rw[if_neg (xE hn h)]
theorem Bd.gcd{k:Nat}{a b:Int}(h:Bd k a)(g:Bd k b):Bd k (bj a b:Nat):=by
 unfold Bd at *;rw[g8];rcases f6 a.natAbs with z |z
 .have:a=0:=by omega
  subst this;rw[xu];exact g
 .exact qi (Nat.gcd_le_left _ z) h
theorem xD{k:Nat}:∀{ns:BA}{g:Int},Bd k g->(∀n∈ns,Bd k n)->Bd k (gl ns g)
 |[],_,h,_=>h
 |n::r,g,h,hn=>by
  show Bd k (gl r _);exact xD (ns:=r) (h.gcd (hn n ay)) λm hm=>hn m (bf _ hm)
theorem W4{k:Nat}{ns:BA}(h:∀n∈ns,Bd k n):∀n∈low ns,Bd k n:=λn hn=>by
 unfold low at hn
 by_cases c:gl ns 0=0
 .rw[if_pos c]at hn
  exact h n hn
 .rw[if_neg c]at hn
  obtain⟨m,hm,rfl⟩:=df.mp hn;refine(h m hm).le ?_;have d:=(lC ns 0).2 m hm;obtain⟨q,e⟩:=d;rw[e,my _ c,e9];exact Nat.le_mul_of_pos_left _ (by omega)
def fr(t b:Int):BA:=if b<0 then low [0-t,0-b] else low [t,b]
theorem nT(a b:Int):b∈[a,b]:=bf _ ay
theorem Lp{t b:Int}(h:b≠0):∃p q:Int,fr t b=[p,q]/\0<q/\p*b=t*q:=by
 have go:∀{t b:Int},0<b->∃p q:Int,low [t,b]=[p,q]/\0<q/\p*b=t*q:=λ{t b} hb=>by
  have nz:b≠0:=by omega
  have gp:=wO (nT t b) nz;refine⟨t/gl [t,b] 0,b/gl [t,b] 0,wP (nT t b) nz,?_,?_⟩
  .obtain⟨m,e⟩:=(lC [t,b] 0).2 b (nT t b)
   have:b/gl [t,b] 0=m:=by
    conv=>lhs;lhs;rw[e]
    exact my _ (by omega)
   rw[this];have hm:0<m*gl [t,b] 0:=by rw[qj,<-e];exact hb
   exact g9 hm gp
  .obtain⟨m,e⟩:=(lC [t,b] 0).2 b (nT t b)
   obtain⟨n,f⟩:=(lC [t,b] 0).2 t ay;have e1:b/gl [t,b] 0=m:=by
    conv=>lhs;lhs;rw[e]
    exact my _ (by omega)
   have e2:t/gl [t,b] 0=n:=by
    conv=>lhs;lhs;rw[f]
    exact my _ (by omega)
   rw[e1,e2]
   conv=>lhs;rhs;rw[e]
   conv=>rhs;lhs;rw[f]
   rw[Int.mul_left_comm,Int.mul_assoc]
 unfold fr
 by_cases c:b<0
 .rw[if_pos c]
  obtain⟨p,q,e1,e2,e3⟩:=go (t:=0-t) (b:=0-b) (by omega);refine⟨p,q,e1,e2,?_⟩;rw[ka,ka,sr,xo]at e3;omega
 .rw[if_neg c]
  exact go (by omega)
def sg(n:Int):Int:=if 0<n then 1 else if n<0 then-1 else 0
theorem Zj{b:Int}(h:b≠0):(0<b/\sg b=1)\/(b<0/\sg b=-1):=by
 unfold sg
 by_cases c:0<b
 .exact .inl ⟨c,if_pos c⟩
 .have d:b<0:=by omega
  exact .inr ⟨d,by rw[if_neg c,if_pos d]⟩
theorem E1(b:Int):-(2^64)<sg b/\sg b<2^64:=by
 unfold sg;split
 .decide
 .split<;>decide
theorem wF(t b:Int):gl [t,b] 0=(bj t b:Nat):=by
 show((bj ((bj 0 t:Nat):Int) b:Nat):Int)=_;rw[xu];congr 1
theorem Mh{g n:Int}(h:g≠0):(g*n).fdiv g=n:=by
 rw[ou ⟨n,rfl⟩,my _ h]
theorem Jf{g n:Int}(h:g≠0):(g*n).fdiv (-1*g)=-n:=by
 have e:g*n=(-1*g)*(-n):=by
  rw[xo,ja,Int.neg_mul_neg]
 rw[e];exact Mh (by omega)
theorem Mw{t b:Int}(h:b≠0):[t.fdiv (sg b*(bj t b:Nat)),b.fdiv (sg b*(bj t b:Nat))]=fr t b:=by
 have gp:=wO (nT t b) h;rw[wF]at gp;have gn:((bj t b:Nat):Int)≠0:=by omega
 obtain⟨n,en⟩:=g6 (a:=t) (b:=b);obtain⟨m,em⟩:=g7 (a:=t) (b:=b);have ht:t=((bj t b:Nat):Int)*n:=en;have hb:b=((bj t b:Nat):Int)*m:=em;generalize hg:((bj t b:Nat):Int)=g at *;rcases Zj h with⟨c,s⟩|⟨c,s⟩
 .rw[s,ja]
  have e1:fr t b=[t/g,b/g]:=by
   unfold fr;rw[if_neg (by omega),wP (nT t b) h,wF,hg];rfl
  have e2:t.fdiv g=t/g:=ou ⟨n,ht⟩;have e3:b.fdiv g=b/g:=ou ⟨m,hb⟩;rw[e1,e2,e3]
 .rw[s]
  have e1:fr t b=[(0-t)/g,(0-b)/g]:=by
   unfold fr;rw[if_pos c,wP (nT (0-t) (0-b)) (by omega),wF,ka,ka,Int.neg_gcd,Int.gcd_neg,hg];rfl
  have e2:t.fdiv (-1*g)=-n:=by
   conv=>lhs;lhs;rw[ht]
   exact Jf gn
  have e3:b.fdiv (-1*g)=-m:=by
   conv=>lhs;lhs;rw[hb]
   exact Jf gn
  have e4:(0-t)/g=-n:=by
   rw[ht,ka,<-sr,my _ gn]
  have e5:(0-b)/g=-m:=by
   rw[hb,ka,<-sr,my _ gn]
  rw[e1,e2,e3,e4,e5]
theorem Dm(n:Int):∀(l:BA)(g:Int),gl (l++[n]) g=(bj (gl l g) n:Nat)
 |[],g=>rfl
 |m::r,g=>Dm n r _
theorem B6{k m:Int}(hk:0<k)(hm:0<m){A B:BA}(hA:gl A 0≠0)(e:A.map (k*·)=B.map (m*·)):low A=low B:=by
 have hB:gl B 0≠0:=λz=>by
  have h:=Cb k A;rw[e,Cb m B,z,xq]at h;have:(k.natAbs:Int)*gl A 0≠0:=g5 (by omega) hA;exact this h.symm
 rw[<-Zi hk A hA,e,Zi hm B hB]
theorem Io(b:Int):∀(ns:BA)(g:Int),gl ns (bj g b:Nat)=(bj (gl ns g) b:Nat)
 |[],_=>rfl
 |n::r,g=>by
  show gl r ((bj ((bj g b:Nat):Int) n:Nat):Int)=((bj (gl r _) b:Nat):Int);rw[<-Io b r,Int.gcd_assoc,Int.gcd_comm b n,<-Int.gcd_assoc]
theorem Qb{ns:BA}{b:Int}(hb:0<b):gl (ns++[b]) 0=gl ns b:=by
 rw[Dm,<-Io,xu];congr 1;omega
theorem oK(ns:BA)(b:Int):b∈ns++[b]:=ck _ ay
theorem T4{ns:BA}{b:Int}(hb:0<b):low (ns++[b])=(ns.map λn=>n.fdiv (gl ns b))++[b.fdiv (gl ns b)]/\0<gl ns b:=by
 have gp:=wO (oK ns b) (by omega);rw[Qb hb]at gp;refine⟨?_,gp⟩;rw[wP (oK ns b) (by omega),Qb hb,nh];have e:∀n:Int,n/gl ns b=n.fdiv (gl ns b):=λn=>(xw n (qk gp)).symm;simp only[e,cg,il]
theorem Xo(ns:BA){b:Int}(hb:0<b):∃(zs:BA)(z g:Int),low (ns++[b])=zs++[z]/\0<g/\0<z/\ns=zs.map (g*·)/\b=g*z/\zs.length=ns.length:=by
 obtain⟨e,gp⟩:=T4 (ns:=ns) hb;have dv:=lC (ns++[b]) 0;rw[Qb hb]at dv;have ex:∀n∈ns++[b],gl ns b*n.fdiv (gl ns b)=n:=λn hn=>by
  obtain⟨q,e⟩:=dv.2 n hn
  conv=>lhs;rhs;rw[e]
  rw[Mh (by omega)];exact e.symm
 refine⟨_,_,gl ns b,e,gp,?_,?_,(ex b (oK ns b)).symm,ar _⟩
 .have h:=ex b (oK ns b)
  have:0<b.fdiv (gl ns b)*gl ns b:=by rw[qj,h];exact hb
  exact g9 this gp
 .rw[di]
  conv=>lhs;rw[<-jb ns]
  refine im λn hn=>?_;exact(ex n (jt _ hn)).symm
theorem M0(ns:BA){b:Int}(hb:0<b):low (low (ns++[b]))=low (ns++[b]):=by
 obtain⟨zs,z,g,e,hg,hz,e1,e2,_⟩:=Xo ns hb;rw[e];refine B6 (k:=g) (m:=1) hg (by decide) (xE (oK zs z) (by omega)) ?_ |>.trans e;rw[nh,<-e1];show ns++[g*z]=(ns++[b]).map (1*·);rw[<-e2]
 conv=>lhs;rw[<-jb (ns++[b])]
 refine im λn _=>?_;exact(ja n).symm
def sm(xs:BA)(w:Int)(ys:BA)(v:Int):BA:=dy (λx y=>x*v+y*w) xs ys
end Bn
namespace L2
open PySem PySem.Spec PyProof.Rows Bn
section
variable{X:Cx}
theorem Hm{k:Nat}{i:Int}(h:Bd k i):i3 i<=k:=by
 unfold i3;split
 .exact io _
 .rename_i c
  have z:i.natAbs≠0:=by
   intro q;have:i=0:=by omega
   subst this;exact c rfl
  have:=(xn z).mpr h;omega
def oW(_ j:Int):Prop:=j≠0/\Bd 8000 j
theorem E4:dG X (binaryOp .FloorDiv) (rI oW λi j=>.int (i.fdiv j)):=
 yJ λ_ _ _ _ _ _ _ hc q=>floordiv_int hc.1 q (.inl (PyProof.noPylong_of_log2 (xx (hc.2.log (by decide)) (by decide))))
theorem PS.imp{st:Stmt}{t t':TS}(h:PS X st t)(i:∀D σ H,t' D σ H->t D σ H):PS X st t':=λBM s σ H D I q=>h BM s σ H D I (i D σ H q)
theorem fJ.imp{st:List Stmt}{t t':TS}(h:fJ X st t)(i:∀D σ H,t' D σ H->t D σ H):fJ X st t':=λBM s σ H D I q=>h BM s σ H D I (i D σ H q)
theorem PE.imp{e:af}{t t':TE}(h:PE X e t)(i:∀σ H Q,t' σ H Q->t σ H Q):PE X e t':=λBM s σ H Q I q=>h BM s σ H Q I (i σ H Q q)
theorem PT.imp{e:af}{t t':TT}(h:PT X e t)(i:∀σ H Q,t' σ H Q->t σ H Q):PT X e t':=λBM s σ H Q I q=>h BM s σ H Q I (i σ H Q q)
theorem aO.turnedNew{BM:List (Addr×Obj)}{σ:St}{H:Hp}{s:aa}{h':Heap}{t':Nat}{ch:List Addr}{a:Addr}{o:HO}(I:aO X BM σ H s)(hf:∀b∈ch,fG X BM H b)
  (k:∀b u,b∉ch->s.heap.get? b=some u->h'.get? b=some u)(hp:s.heap.objs.size<=a)(new:fO X.prog X.w (bJ H a o) h' a o):
  aO X BM σ (bJ H a o) {s with heap:=h',toks:=t'}:=by
 have hn:H a=none:=I.hok.fresh hp;have nch:∀b u,H b=some u->b∉ch:=λb u e z=>by
  rw[(hf b z).1]at e;cases e
 have nea:∀b u,H b=some u->b≠a:=λb u e=>gS e hn;refine I.step (g':=s.gens) (d':=s.drawn) (ch:=ch) (λb hb=>?_) (λb u _ _ hc e _=>k b u hc e) (λb u _ _ hc e _=>⟨u.slots,k b u hc e⟩) (λb u _ e n=>?_)
  (λb u hc e=>⟨u,k b u hc e⟩) (λb xs e=>?_) (λb u v e=>?_) (λb ps e=>⟨#[],?_⟩) (λm hm=>?_) (λb u e=>?_) I.bare
 .obtain⟨_,f1,_,f3,f4,f5⟩:=hf b hb
  exact⟨f3,f1,f4,f5⟩
 .rw[dA (db (cj (ax e) hp))]
  exact n
 .rw[dA (nea b _ e)]
  exact e
 .rw[dA (nea b _ e)]
  exact e
 .rw[dA (nea b _ e),e]
  simp
 .obtain⟨ob,es,ep,ho,r⟩:=hm
  exact⟨ob,es,ep,k _ ob (λz=>(hf _ z).2.1 rfl) ho,r⟩
 .by_cases hb:b=a
  .subst hb
   rw[iT]at e;cases e;exact new
  .rw[dA hb]at e
   refine(I.hok b u e).stay (λc v hc q=>k c v ?_ q) (λc q=>?_) λc xs q=>?_
   .rcases hc with z |z
    .rw[z]
     exact nch b u e
    .exact nch c _ z
   .rw[dA (nea c _ q)]
    exact q
   .rw[dA (nea c _ q)]
    exact q
theorem aO.turnedL{BM:List (Addr×Obj)}{σ:St}{H:Hp}{s:aa}{h':Heap}{t':Nat}{ch:List Addr}(I:aO X BM σ H s)(hf:∀b∈ch,fG X BM H b)
  (k:∀b u,b∉ch->s.heap.get? b=some u->h'.get? b=some u):aO X BM σ H {s with heap:=h',toks:=t'}:=by
 have nch:∀b u,H b=some u->b∉ch:=λb u e z=>by
  rw[(hf b z).1]at e;cases e
 refine I.step (g':=s.gens) (d':=s.drawn) (ch:=ch) (λb hb=>?_) (λb u _ _ hc e _=>k b u hc e) (λb u _ _ hc e _=>⟨u.slots,k b u hc e⟩) (λb u _ e n=>n)
  (λb u hc e=>⟨u,k b u hc e⟩) (λb xs e=>e) (λb u v e=>e) (λb ps e=>⟨#[],?_⟩) (λm hm=>?_) (λb u e=>?_) I.bare
 .obtain⟨_,f1,_,f3,f4,f5⟩:=hf b hb
  exact⟨f3,f1,f4,f5⟩
 .rw[e]
  simp
 .obtain⟨ob,es,ep,ho,r⟩:=hm
  exact⟨ob,es,ep,k _ ob (λz=>(hf _ z).2.1 rfl) ho,r⟩
 .refine(I.hok b u e).stay (λc v hc q=>k c v ?_ q) (λc q=>q) λc xs q=>q
  rcases hc with z |z
  .rw[z]
   exact nch b u e
  .exact nch c _ z
end
def Re (K : ae) (a : Addr) : It :=
  ⟨λi H => ∃ xs x, cK K H a xs ∧ xs[i]? = some x,
   λi H x H' => ∃ p y, H p = none ∧ x = .ref p ∧ H' = bJ H p (.tup [.int i, y]) ∧ ∀ xs, cK K H a xs → xs[i]? = some y,
   λi H => ∃ xs, cK K H a xs ∧ xs.length ≤ i⟩
theorem Qx{P:Program}{w:ao}{K:ae}{elts:List af}{x1:Nat}{tp:ah}(a e it:Addr)(hne:e≠it):
  pF P w K (.Tuple elts x1 tp) (Re K a) [e,it] e (λi h=>(∃old,IsEnum h e it (i:Int) old)/\h.IsListIter it a i) where
 mem:=by simp
 obj:=λi h st b hb=>by
  obtain⟨⟨old,q⟩,o,e1,c,d⟩:=st;rcases ce.mp hb with z |z
  .subst z
   exact⟨_,q,λv z=>nomatch z⟩
  .have z':b=it:=by simpa using z
   subst z';exact⟨o,e1,λv z=>by rw[d]at z;cases z⟩
 keep:=λi h h' st k=>⟨let⟨old,q⟩:=st.1;⟨old,k e (by simp) _ q⟩,st.2.at λo q=>k it (by simp) o q⟩
 item:=by
  intro X hP hw hK hc i BM s σ H E I hf st hg;subst hP hw hK;obtain⟨xs,x,hq,hx⟩:=hg;obtain⟨its,rv,pl,hz⟩:=I.list hq;obtain⟨u,hu,ru⟩:=rv.get hx;obtain⟨⟨old,he⟩,hit⟩:=st;refine wpAny_pyNext_enum_item he hit pl.isList (x:=u) (by simpa using hu) hne λh1 ho1 hit1 ht1 hs1 hk1=>⟨_,rfl,?_⟩;have lt1:e<s.heap.objs.size:=ax he;refine wpAny_letOwnedTupleGo_enum (s:={s with heap:=h1,toks:=s.toks+1}) ho1 λh2 he2 sb2=>?_;have ht2:h2.get? s.heap.objs.size=some {cls:=.type "tuple",data:=.seq #[.int i s.toks,u]}:=(sb2.2 _ (pw lt1)).trans ht1;have I2:aO X BM σ (bJ H s.heap.objs.size (.tup [.int i,x])) {s with heap:=h2,toks:=s.toks+1}:=
   I.turnedNew hf (λb o hb q=>(sb2.2 b (λz=>hb (by simp[z]))).trans (hk1 b o (λz=>hb (by simp[z])) (λz=>hb (by simp[z])) q)) (am _)
    ⟨by show 2<=sizeLine;decide,[.int i s.toks,u],.cons ⟨_,rfl⟩ (.cons ru .nil),⟨_,ht2,rfl,_,rfl⟩⟩
  refine⟨.ref s.heap.objs.size,_,I2,rfl,⟨_,x,I.hok.fresh (am _),rfl,rfl,λys hy=>by rw[I.list_inj hy hq];exact hx⟩,⟨⟨_,by simpa using he2⟩,hit1.at λo q=>(sb2.2 it hne.symm).trans q⟩,λb hb=>?_⟩;have hb':=(hf b hb).1;have lt:b≠s.heap.objs.size:=by
   rcases ce.mp hb with z |z
   .subst z
    exact db lt1
   .have z':b=it:=by simpa using z
    subst z';obtain⟨o,q,_⟩:=hit;exact db (ax q)
  rw[dA lt];exact hb'
 done:=by
  intro X hP hw hK hc i BM s σ H E I hf st hg;subst hP hw hK;obtain⟨xs,hq,hx⟩:=hg;obtain⟨its,rv,pl,hz⟩:=I.list hq;obtain⟨⟨old,he⟩,hit⟩:=st;have hl:=rv.length;exact wpAny_pyNext_enum_end (I.ok.hd hc) he hit pl.isList (by simp;omega) λh' eb=>⟨rfl,I.turnedL (t':=s.toks) hf λb o hb q=>eb b o (λz=>hb (by simp[z])) q⟩
 self:=λ_ _ _ _ _ st h=>let⟨_,q⟩:=st.1;wpAny_pyIter_enum q h
section
variable{X:Cx}{elts:List af}{x1:Nat}{tp:ah}
def aaX(K:ae)(tl:TA):TI:=λσ H R=>tl σ H λvs H1=>∃a,vs=[.ref a]/\(∃xs,cK K H1 a xs)/\R (Re K a) H1
theorem O6{l:af}{tl:TA}{p pos:ah}(hg:Gl X "enumerate")(hm:X.mg "enumerate"=none)(hl:PA X [l] tl)(hs:starEach [l] X.env=[(false,eval l X.env)]:=by rfl):
  PI X (.Tuple elts x1 tp) (.Call (.Name "enumerate" p) [l] [] pos) (aaX X.K tl):=by
 intro BM s σ H R I h;refine Call_ (qF I hg hm boot_enumerate (rh (bI (hl pos BM s σ H _ I h) λus s1 hq=>?_) hs rfl));rcases hq with⟨vs,H1,I1,r1,q1⟩;obtain⟨a,rfl,⟨xs,hq⟩,q⟩:=q1;obtain⟨u,rfl,ru⟩:=iD r1;cases ru;obtain⟨its,rv,pl,hz⟩:=I1.list hq;refine call_enumerate_list pl.isList λh' he hit hsz k=>?_;have I2:aO X BM σ H1 {s1 with heap:=h'}:=I1.kept (t':=s1.toks) k;refine wpAny_pyIter_enum (s:={s1 with heap:=h'}) he ?_;refine⟨s1.heap.objs.size+1,[s1.heap.objs.size+1,s1.heap.objs.size],_,_,H1,rfl,I2,Qx a _ _ (Nat.succ_ne_self _),⟨⟨_,he⟩,hit⟩,λb hb=>?_,q⟩;have hb':s1.heap.objs.size<=b:=by
  rcases ce.mp hb with z |z
  .rw[z]
   exact qe _
  .have z':b=s1.heap.objs.size:=by simpa using z
   rw[z'];exact am _
 exact I1.fpOk hb' (I1.hok.fresh hb')
end
def iO(env:bc):List (Str×ji)->List (Str×Addr)->List (Str×Addr)
 |[],acc=>acc
 |p::r,acc=>if(p.2== .free)=true then iO env r ((p.1,(env.cells.lookup p.1).getD 0)::acc)else iO env r acc
theorem Sb{sc:Scope}{env:bc}(h:∀p∈sc.names,p.2=.free->∃c,env.cells.lookup p.1=some c):closureFor sc env=pure (iO env sc.names []):=by
 unfold closureFor;have go:∀(l:List (Str×ji))(acc:List (Str×Addr)),(∀p∈l,p.2=.free->∃c,env.cells.lookup p.1=some c)->
   (forIn l acc (λx r=>if(x.2==jc)=true then do let a <-cellOf env x.1;pure (ss ((x.1,a)::r))else pure (ss r)):dn _)=pure (iO env l acc):=by
  intro l
  induction l with
  |nil=>intro acc _;rfl
  |cons p r ih=>
   intro acc hp;rw[ql];have hr:=λacc'=>ih acc' λq hq=>hp q (bf _ hq)
   by_cases c:(p.2==jc)=true
   .obtain⟨a,ea⟩:=hp p ay (by simpa using c)
    have e1:cellOf env p.1=pure a:=by unfold cellOf;rw[ea]
    rw[if_pos c,e1];simp only[pure_bind];rw[hr];show _=pure (if(p.2== .free)=true then _ else _);rw[if_pos c,ea];rfl
   .rw[if_neg c]
    simp only[pure_bind];rw[hr];show _=pure (if(p.2== .free)=true then _ else _);rw[if_neg c]
 have e:=go sc.names [] h;show(forIn sc.names [] _ >>= λr=>pure r)=_;rw[bind_pure];exact e
theorem zX{env:bc}:∀(l:List (Str×ji))(acc:List (Str×Addr)),(∀p∈l,p.2=.free->∃c,env.cells.lookup p.1=some c)->
  ∀y c,(iO env l acc).lookup y=some c->acc.lookup y=some c\/env.cells.lookup y=some c
 |[],acc,_,y,c,e=>.inl e
 |p::r,acc,h,y,c,e=>by
  have hr:∀q∈r,q.2=.free->∃c,env.cells.lookup q.1=some c:=λq hq=>h q (bf _ hq);unfold iO at e
  by_cases k:(p.2==jc)=true
  .rw[if_pos k]at e
   obtain⟨a,ea⟩:=h p ay (by simpa using k);rcases zX r _ hr y c e with z |z
   .rw[kb]at z
    cases w:y==p.1 with
    |true=>
     rw[w,ea]at z;have hy:y=p.1:=by simpa using w
     rw[hy,ea];exact .inr z
    |false=>
     rw[w]at z;exact .inl z
   .exact .inr z
  .rw[if_neg k]at e
   exact zX r acc hr y c e
theorem vH{env:bc}:∀(l:List (Str×ji))(acc:List (Str×Addr))(y:Str),((∃c,acc.lookup y=some c)\/(y,jc)∈l)->∃c,(iO env l acc).lookup y=some c
 |[],acc,y,h=>by
  rcases h with h |h
  .exact h
  .cases h
 |p::r,acc,y,h=>by
  unfold iO
  by_cases k:(p.2==jc)=true
  .rw[if_pos k]
   refine vH r _ y ?_;cases w:y==p.1 with
   |true=>exact .inl ⟨_,by rw[kb,w]⟩
   |false=>
    rcases h with⟨c,h⟩|h
    .exact .inl ⟨c,by rw[kb,w];exact h⟩
    .rcases ce.mp h with z |z
     .rw[<-z]at w
      simp at w
     .exact .inr z
  .rw[if_neg k]
   refine vH r _ y ?_;rcases h with h |h
   .exact .inl h
   .rcases ce.mp h with z |z
    .rw[<-z]at k
     simp at k
    .exact .inr z
theorem Dg{env:bc}:∀{names:List (Str×ji)}{x:Str},(∀y∈names,y.2≠.cell)->
  (let l:=(names.map λ(n,k)=>if(k==jc&&env.scope.kind== .function&&env.kindOf n==some .cell)then(n,i4)else(n,k)).lookup x;l=some .cell\/l=some .free)->(x,jc)∈names
 |[],x,_,h=>by
  rcases h with h |h<;>cases h
 |(n,k)::r,x,hc,h=>by
  dsimp only at h;rw[cg]at h;have ih:=@Dg env r x λy hy=>hc y (bf _ hy);have nk:k≠.cell:=hc (n,k) ay
  by_cases c:(k==jc&&env.scope.kind== .function&&env.kindOf n==some .cell)=true
  .have kf:k=.free:=by
    simp only[ee,beq_iff_eq]at c;exact c.1.1
   dsimp only at h;rw[if_pos c,kb]at h;cases w:x==n with
   |true=>
    have hx:x=n:=by simpa using w
    rw[hx,<-kf];exact ay
   |false=>
    rw[w]at h;exact bf _ (ih h)
  .dsimp only at h
   rw[if_neg c,kb]at h;cases w:x==n with
   |true=>
    rw[w]at h;have hx:x=n:=by simpa using w
    have kf:k=.free:=by
     rcases h with h |h
     .exact absurd (cr h) nk
     .exact cr h
    rw[hx,<-kf];exact ay
   |false=>
    rw[w]at h;exact bf _ (ih h)
def cX(X:Cx)(sc:Scope)(N:List Str)(C:Addr)(BN:aa)(BO:Hp)(ex:List Addr):Cx where
 prog:=X.prog
 w:=X.w
 K:=X.K
 mg:=X.mg
 base:=X.base
 A:=X.A
 N:=N
 BN:=BN
 BO:=BO
 env:=compEnvC sc (iO X.env sc.names []) C X.env
 outer:=X.stack
 stack:=X.stack
 ex:=ex
 fn:=λ_=>false
 calm:=X.calm
 pn:=[]
 xe:=λ_ _=>False
def kL(own:List Str)(cap:List (Nat×Str))(σ:St):St:=own.map (λ_=>none)++cap.map λp=>(σ[p.1]?).join
def cY(own:List Str)(cap:List (Nat×Str)):List Str:=own++cap.map (·.2)
def rC(J:It)(g:TG)(te:TE)(BQ:St)(H1:Hp)(D:Addr)(Q:VK):Prop:=
 ∃W:Nat->Nat->St->Hp->List V->Prop,(∃m,W 0 m BQ (bJ H1 D (.lst [])) [])/\∀i m σ H ys,W i m σ H ys->H D=some (.lst ys)/\
  ((J.stop i H/\Q (.ref D) H)\/(J.go i H/\ys.length<sizeLine/\∀x H2,J.yld i H x H2->g x σ H2 λσ3 H3=>te σ3 H3 λy H4=>H4 D=some (.lst ys)/\∃m',m'<m/\W (i+1) m' σ3 (bJ H4 D (.lst (ys++[y]))) (ys++[y])))
def pD(own:List Str)(cap:List (Nat×Str))(wi:TI)(g:TG)(te:TE):TE:=λσ H Q=>wi σ H λJ H1=>∀D,H1 D=none->rC J g te (kL own cap σ) H1 D Q
def Nx(n:Nat)(Pv:Nat->St->Hp->List V->Prop)(D:Addr)(i:Nat)(ys:List V)(σ:St)(y:V)(H:Hp):Prop:=
 H D=some (.lst ys)/\∃m,m<n-i/\(m=n-(i+1)/\i+1<=n/\Pv (i+1) σ (bJ H D (.lst (ys++[y]))) (ys++[y]))
theorem Vp{n:Nat}{Pv:Nat->St->Hp->List V->Prop}{D:Addr}{i:Nat}{ys:List V}{σ:St}{y:V}{H:Hp}(h:i<n)(hD:H D=some (.lst ys))(p:Pv (i+1) σ (bJ H D (.lst (ys++[y]))) (ys++[y])):Nx n Pv D i ys σ y H:=
 ⟨hD,n-(i+1),by omega,rfl,h,p⟩
theorem Tm{J:It}{g:TG}{te:TE}{BQ:St}{H1:Hp}{D:Addr}{Q:VK}(n:Nat)(hn:n<=sizeLine)(Pv:Nat->St->Hp->List V->Prop)(h0:Pv 0 BQ (bJ H1 D (.lst [])) [])
  (hl:∀i σ H ys,Pv i σ H ys->ys.length=i/\H D=some (.lst ys))(hgo:∀i σ H ys,i<n->Pv i σ H ys->J.go i H)
  (hs:∀i σ H ys x H2,i<n->Pv i σ H ys->J.yld i H x H2->g x σ H2 λσ3 H3=>te σ3 H3 λy H4=>Nx n Pv D i ys σ3 y H4)
  (hd:∀σ H ys,Pv n σ H ys->J.stop n H/\Q (.ref D) H):rC J g te BQ H1 D Q:=by
 refine⟨λi m σ H ys=>m=n-i/\i<=n/\Pv i σ H ys,⟨n,rfl,io _,h0⟩,?_⟩
 rintro i m σ H ys ⟨rfl,hi,p⟩
 obtain⟨l1,l2⟩:=hl i σ H ys p;refine⟨l2,?_⟩
 by_cases hlt:i<n
 .exact .inr ⟨hgo i σ H ys hlt p,by omega,λx H2 y=>hs i σ H ys x H2 hlt p y⟩
 .have e:i=n:=by omega
  subst e;exact .inl (hd σ H ys p)
section
variable{prog:Program}{w:ao}{A:aq}{R:mf->aa->Prop}{s:aa}
theorem Sw{elt target iter:af}{sc:Scope}{pos:ah}{it acc:Value}{env:bc}(I:Nat->aa->Prop)
  (turn:∀n s,I n s->wpAny (model prog w) A (pyNext it) (λr s1=>match r with
   |none=>R (.ok .next) s1
   |some v=>wpAny (model prog w) A (letOwnedTupleGo target it v) (λ_ s2=>wpAny (model prog w) A (assign target env v) (λ_ s3=>wpAny (model prog w) A (eval elt env)
     (λx s4=>wpAny (model prog w) A (call (.builtin "list.append") [acc,x]) (λ_ s5=>∃m,m<n/\I m s5) (λ_ _=>False) s4) (λ_ _=>False) s3) (λ_ _=>False) s2) (λ_ _=>False) s1) (λ_ _=>False) s)
  (n:Nat)(h:I n s):codeAny (model prog w) A (.compLoop (.ListComp elt [⟨target,iter,[],0⟩] sc pos) 0 it acc env) R s:=by
 refine codeAny_loop rfl I (λn s hI=>?_) n h;show wpAny _ _ ((compTurn (.ListComp elt [⟨target,iter,[],0⟩] sc pos) 0 it acc env).onRaise (λx=>do noteFrame x env;theTreesLotGoes x)) _ _ s;refine wpAny_noted ?_;rw[compTurn_list1];refine ag (ki (ag ?_));refine dh (turn n s hI) (λr s1 h1=>?_) λ_ _ z=>z.elim;cases r with
 |none=>exact au h1
 |some v=>
  refine ag (dh h1 (λ_ s2 h2=>?_) λ_ _ z=>z.elim);refine ag (dh h2 (λ_ s3 h3=>?_) λ_ _ z=>z.elim);refine ag (ag (dh h3 (λx s4 h4=>?_) λ_ _ z=>z.elim));refine ag (dh h4 (λ_ s5 h5=>?_) λ_ _ z=>z.elim);exact au (au ⟨rfl,h5⟩)
end
structure iC(X:Cx)(sc:Scope)(own:List Str)(cap:List (Nat×Str)):Prop where
 kind:sc.kind=.function
 names:∀y∈sc.names,y.2=.local->sc.names.lookup y.1=some .local
 nocell:∀y∈sc.names,y.2≠.cell
 free:∀y∈sc.names,y.2=.free->X.env.kindOf y.1=some .cell
 at':∀p∈cap,X.N[p.1]?=some p.2
 cap:∀p∈cap,sc.names.lookup p.2=some .free
section
variable{X:Cx}{sc:Scope}{own:List Str}{cap:List (Nat×Str)}{BM:List (Addr×Obj)}{σ:St}{H:Hp}{s:aa}
theorem iC.has(k:iC X sc own cap)(ok:X.Ok):∀p∈sc.names,p.2=.free->∃c,X.env.cells.lookup p.1=some c:=λp hp e=>ok.has p.1 (.inl (k.free p hp e))
theorem Pg{env:bc}:∀{names:List (Str×ji)}{x:Str},env.scope.kind=.function->names.lookup x=some .free->env.kindOf x=some .cell->
  (names.map λ(n,k)=>if(k==jc&&env.scope.kind== .function&&env.kindOf n==some .cell)then(n,i4)else(n,k)).lookup x=some .cell
 |[],x,_,h,_=>by cases h
 |(n,k)::r,x,hk,h,hx=>by
  rw[cg];dsimp only;rw[kb]at h;cases w:x==n with
  |true=>
   rw[w]at h;have e:x=n:=by simpa using w
   have kf:k=.free:=cr h;have c:(k==jc&&env.scope.kind== .function&&env.kindOf n==some .cell)=true:=by
    rw[kf,hk,<-e,hx];decide
   rw[if_pos c,kb,w]
  |false=>
   rw[w]at h;have ih:=@Pg env r x hk h hx
   by_cases c:(k==jc&&env.scope.kind== .function&&env.kindOf n==some .cell)=true
   .rw[if_pos c,kb,w]
    exact ih
   .rw[if_neg c,kb,w]
    exact ih
theorem aO.cmp(k:iC X sc own cap){h4:Heap}{fp:List Addr}{m:Str->BE}{t':Nat}(I:aO X BM σ H s)(hf:∀b∈fp,fG X BM H b)(hlt:∀b∈fp,b<s.heap.objs.size)(hns:h4.Ns s.heap.objs.size m)
  (kp:∀b o,s.heap.get? b=some o->h4.get? b=some o):aO (cX X sc (cY own cap) s.heap.objs.size s H fp) [] (kL own cap σ) H {s with heap:=h4,toks:=t'}:=by
 have hcl:∀y c,(iO X.env sc.names []).lookup y=some c->X.env.cells.lookup y=some c:=λy c e=>by
  rcases zX sc.names [] (k.has I.ok) y c e with z |z
  .cases z
  .exact z
 have nst:∀b∈fp,b∉cQ X.stack:=λb hb z=>by
  rcases ce.mp (I.stkSub b z)with e |e
  .exact(hf b hb).2.1 e
  .exact(hf b hb).2.2.1 e
 refine⟨⟨I.ok.mod,k.kind,I.ok.glob,I.ok.blt,am _,λx y c h1 h2=>I.ok.inj x y c (hcl x c h1) (hcl y c h2),λx hx=>?_,λx c e=>(nomatch e),I.ok.hd,I.ok.frames,.inl rfl,λb hb=>⟨db (hlt b hb),λx c e=>(hf b hb).2.2.2.2.1 x c (hcl x c e)⟩,
  I.bs,dz I.ok.bsz I.sz,λb o e hb=>?_,nst,I.stack,I.stkFree⟩,rfl,I.bare,Un.kept kp,⟨m,hns,λi x v h1 h2 h3=>?_⟩,λx c e=>?_,I.hok.fresh (am _),λx c e=>I.freeC x c (hcl x c e),λp hp=>absurd (show p∈([]:List (Addr×Obj)) from hp) (by simp),I.hok.kept kp,?_⟩
 .exact vH sc.names [] x (.inr (Dg k.nocell hx))
 .rcases(hf b hb).2.2.2.1 with z |z
  .exact I.ok.noex b o e z
  .exact absurd (cj (ax (I.ok.bs b o e).1) z) (gf _)
 .have hN:(cY own cap)[i]?=some x:=h1
  unfold cY at hN;unfold kL at h2
  by_cases hi:i<own.length
  .rw[ib (by simpa using hi),fh]at h2
   cases e:own[i]? with
   |none=>rw[e]at h2;cases h2
   |some z=>rw[e]at h2;cases h2
  .rw[ij (by simpa using hi),fh,ar]at h2
   rw[ij (by omega),fh]at hN;cases e:cap[i-own.length]? with
   |none=>rw[e]at h2;cases h2
   |some p=>
    rw[e]at h2 hN;have hp:p∈cap:=fm e;have hx:p.2=x:=cr hN;have hv:(σ[p.1]?).join=some v:=cr h2;have hv':σ[p.1]?=some (some v):=by
     cases e2:σ[p.1]? with
     |none=>rw[e2]at hv;cases hv
     |some z=>rw[e2]at hv;exact congrArg some hv
    have fr:=k.cap p hp;have kc:X.env.kindOf p.2=some .cell:=k.free (p.2,.free) (mn fr) rfl;obtain⟨m0,_,hl⟩:=I.loc;obtain⟨u,ru,lk⟩:=hl p.1 p.2 v (k.at' p hp) hv' (.inr (.inl kc));refine⟨u,ru,?_⟩;rcases lk with⟨k1,_⟩|⟨_,c,ec,cell⟩
    .rw[kc]at k1
     cases k1
    .rw[<-hx]
     obtain⟨c',ec'⟩:=vH (env:=X.env) sc.names [] p.2 (.inr (mn fr));have:=(hcl _ _ ec').symm.trans ec;cases this;obtain⟨o,ho,hd⟩:=cell;exact .inr ⟨.inl (Pg I.ok.kind fr kc),c,ec',o,kp c o ho,hd⟩
 .obtain⟨v,o,ho,hd⟩:=I.cell x c (hcl x c e)
  exact⟨v,o,kp c o ho,hd⟩
 .unfold kL
  show _=(cY own cap).length;unfold cY;rw[bq,bq,ar,ar,ar]
theorem aO.uncmp{s3 s':aa}{H3 H':Hp}{N:List Str}{σ':St}{C:Addr}{fp:List Addr}{pl:List (Addr×Obj)}(I:aO X BM σ H s)(hf:∀b∈fp,fG X BM H b)(u:Un (cQ X.stack) fp H H3 s.heap s3.heap)(os:s3.os=s.os)
  (J:aO (cX X sc N C s3 H3 fp) pl σ' H' s'):aO X BM σ H' s':=by
 have os':s'.os=s.os:=(show s'.os=s3.os from J.os).trans os;refine I.call' (ch:=fp) os' (u.trans J.base) J.hok J.bare λb hb=>?_;obtain⟨_,f1,_,f3,f4,f5⟩:=hf b hb;exact⟨f3,f1,f4,f5⟩
end
section
variable{X:Cx}{sc:Scope}{own:List Str}{cap:List (Nat×Str)}{BM:List (Addr×Obj)}{σ:St}{H:Hp}{s:aa}{elt target iter:af}{pos pos':ah}{wi:TI}{g:TG}{te:TE}{Q:VK}
theorem Gj{use:Option (Value->dn Unit)}{Qf:Value->aa->Prop}(k:iC X sc own cap)(hi:PI X target iter wi)(hc:X.calm=true)
  (hg:∀C BN BO ex,PG (cX X sc (cY own cap) C BN BO ex) target g)(he:∀C BN BO ex,PE (cX X sc (cY own cap) C BN BO ex) elt te)(I:aO X BM σ H s)(h:pD own cap wi g te σ H Q)
  (fin:∀D C s' H' m,aO X BM σ H' s'->fG X BM H' C->s'.heap.Ns C m->Q (.ref D) H'->compPost (model X.prog X.w) X.A X.xe use Qf (.ref D) C (.ok .next) s')
  (hs:∀x,foldedSetIterable iter X.env x=pure x):
  wpAny (model X.prog X.w) X.A (comprehension (.ListComp elt [⟨target,iter,[],0⟩] sc pos) sc X.env pos' (newList []) false (eval iter X.env) use) Qf X.xe s:=by
 refine wpAny_comprehension_free (use:=use) rfl hs (Sb (k.has I.ok)) k.kind k.names ?_;refine bI (hi BM s σ H _ I h) λv s1 h1=>bI h1 λitv s2 h2=>?_;obtain⟨it,fp,tn,J,H2,e,I2,T,st2,f2,hW⟩:=h2;subst e;refine jh (xy k.nocell (λy hy=>nomatch hy) (λh4 hns hsb=>?_) k.kind);have I3:aO X BM σ (bJ H2 s2.heap.objs.size (.lst [])) {s2 with heap:=s2.heap.push {cls:=.type "list",data:=.seq ([]:BD).toArray},toks:=s2.toks}:=I2.lnew (ys:=[]) (its:=[]) .nil (io _);have hD:H2 s2.heap.objs.size=none:=I2.fresh;have ltf:∀b∈fp,b<s2.heap.objs.size:=λb hb=>by
  obtain⟨o,ho,_⟩:=T.obj _ _ st2 b hb;exact ax ho
 have f3:∀b∈fp,fG X BM (bJ H2 s2.heap.objs.size (.lst [])) b:=λb hb=>⟨by rw[dA (db (ltf b hb))];exact(f2 b hb).1,(f2 b hb).2⟩;have un:Un (cQ X.stack) fp H2 (bJ H2 s2.heap.objs.size (.lst [])) s2.heap (s2.heap.push {cls:=.type "list",data:=.seq ([]:BD).toArray}):=Un.laid (λb u q=>aw _ q) (am _) hD;have kp:∀b o,(s2.heap.push {cls:=.type "list",data:=.seq ([]:BD).toArray}).get? b=some o->h4.get? b=some o:=λb o q=>hsb.extBut b o (db (ax q)) (aw _ q);have J0:=I3.cmp (t':=s2.toks+([]:List (Str×Value)).length) k f3 (λb hb=>cj (ltf b hb) (by rw[ku];exact qe _)) hns kp;have stat:∀{H':Hp},(∀b∈fp,H' b=none)->∀b∈fp,fG (cX X sc (cY own cap) (s2.heap.push {cls:=.type "list",data:=.seq ([]:BD).toArray}).objs.size {s2 with heap:=s2.heap.push {cls:=.type "list",data:=.seq ([]:BD).toArray},toks:=s2.toks} (bJ H2 s2.heap.objs.size (.lst [])) fp) [] H' b:=λhn b hb=>
  ⟨hn b hb,(J0.ok.exf b hb).1,J0.ok.exfs b hb,.inl hb,(J0.ok.exf b hb).2,λp hp=>absurd (show p∈([]:List (Addr×Obj)) from hp) (by simp)⟩
 have st4:tn 0 h4:=T.keep _ _ _ st2 λb hb o q=>kp b o (aw _ q);have fr0:∀b∈fp,(bJ H2 s2.heap.objs.size (.lst [])) b=none:=λb hb=>(f3 b hb).1;have loop:codeAny (model X.prog X.w) X.A (.compLoop (.ListComp elt [⟨target,iter,[],0⟩] sc pos) 0 (.ref it) (.ref s2.heap.objs.size) (compEnvC sc (iO X.env sc.names []) (s2.heap.push {cls:=.type "list",data:=.seq ([]:BD).toArray}).objs.size X.env))
   (compPost (model X.prog X.w) X.A X.xe use Qf (.ref s2.heap.objs.size) (s2.heap.push {cls:=.type "list",data:=.seq ([]:BD).toArray}).objs.size) {s2 with heap:=h4,toks:=s2.toks+([]:List (Str×Value)).length}:=by
  obtain⟨W,⟨m0,w0⟩,turn⟩:=hW s2.heap.objs.size hD;refine Sw (λn s'=>∃i σ' H' ys,aO (cX X sc (cY own cap) (s2.heap.push {cls:=.type "list",data:=.seq ([]:BD).toArray}).objs.size {s2 with heap:=s2.heap.push {cls:=.type "list",data:=.seq ([]:BD).toArray},toks:=s2.toks} (bJ H2 s2.heap.objs.size (.lst [])) fp) [] σ' H' s'/\tn i s'.heap/\(∀b∈fp,H' b=none)/\W i n σ' H' ys) ?_ m0
   ⟨0,_,_,[],J0,st4,fr0,w0⟩
  rintro n s5 ⟨i,σ5,H5,ys,I5,st5,fr5,w5⟩
  obtain⟨hD5,w5⟩:=turn i n σ5 H5 ys w5;rcases w5 with⟨stop,qn⟩|⟨go,hlt,step⟩
  .refine bI (T.done (cX X sc (cY own cap) (s2.heap.push {cls:=.type "list",data:=.seq ([]:BD).toArray}).objs.size {s2 with heap:=s2.heap.push {cls:=.type "list",data:=.seq ([]:BD).toArray},toks:=s2.toks} (bJ H2 s2.heap.objs.size (.lst [])) fp) rfl rfl rfl hc i [] s5 σ5 H5 _ I5 (stat fr5) st5 stop) ?_
   rintro r s6 ⟨hr,I6⟩
   subst hr;obtain⟨m,hn,_⟩:=id I6.loc;exact fin _ _ s6 H5 m (I2.uncmp (s3:={s2 with heap:=s2.heap.push {cls:=.type "list",data:=.seq ([]:BD).toArray},toks:=s2.toks}) f2 un rfl I6) (I3.fpOk (am _) I6.free) hn qn
  .refine bI (T.item (cX X sc (cY own cap) (s2.heap.push {cls:=.type "list",data:=.seq ([]:BD).toArray}).objs.size {s2 with heap:=s2.heap.push {cls:=.type "list",data:=.seq ([]:BD).toArray},toks:=s2.toks} (bJ H2 s2.heap.objs.size (.lst [])) fp) rfl rfl rfl hc i [] s5 σ5 H5 _ I5 (stat fr5) st5 go) ?_
   rintro r s6 ⟨u,hr,h6⟩
   subst hr;refine bI h6 ?_
   rintro _ s7 ⟨x,H7,I7,r7,y7,st7,fr7⟩
   have I7':=I7.pinned (stat fr7) (T.obj _ _ st7);refine bI (hg _ _ _ _ _ s7 σ5 H7 x u _ I7' r7 (step x H7 y7)) ?_
   rintro _ s8 ⟨σ8,H8,I8,q8⟩
   refine bI (he _ _ _ _ _ s8 σ8 H8 _ I8 q8) ?_
   rintro v9 s9 ⟨y,H9,I9,r9,hD9,m',hm,w9⟩
   refine bI (vG _ s9 σ8 H9 (.ref s2.heap.objs.size) [y] (.ref s2.heap.objs.size) [v9] (λ_ H'=>H'=bJ H9 s2.heap.objs.size (.lst (ys++[y]))) I9 rfl (.cons r9 .nil) ⟨_,ys,y,rfl,rfl,hD9,hlt,rfl⟩) ?_
   rintro _ s10 ⟨_,H10,I10,_,q10⟩
   subst q10;refine⟨m',hm,i+1,σ8,_,_,I10.unpinned,T.keep _ _ _ st7 λb hb o q=>(I10.pin (b,o) (ck _ (ck _ (mZ hb q)))).1,λb hb=>?_,w9⟩;obtain⟨o,q,d⟩:=T.obj _ _ st7 b hb;exact(I10.pin (b,o) (ck _ (ck _ (mZ hb q)))).2.1
 exact xz loop (T.self _ 0 _ _ _ st4 loop)
theorem P6(k:iC X sc own cap)(hi:PI X target iter wi)(hc:X.calm=true)
  (hg:∀C BN BO ex,PG (cX X sc (cY own cap) C BN BO ex) target g)(he:∀C BN BO ex,PE (cX X sc (cY own cap) C BN BO ex) elt te)
  (hs:∀x,foldedSetIterable iter X.env x=pure x:=by intro _;rfl):PE X (.ListComp elt [⟨target,iter,[],0⟩] sc pos) (pD own cap wi g te):=by
 intro BM s σ H Q I h;rw[eval_ListComp];refine Gj (use:=none) k hi hc hg he I h (λD C s' H' m I' fC hn q=>?_) hs;refine⟨m,hn,λh' sb=>⟨.ref D,H',?_,rfl,q⟩⟩;obtain⟨f0,f1,f2,f3,f4,f5⟩:=fC;exact I'.turned (t':=s'.toks) (λb o hb e=>(sb.2 b hb).trans e) f0 f1 f3 f4 f5
theorem Q4{i:Nat}{x:Str}{py spos:ah}(hN:X.N.Nodup)(hx:X.N[i]?=some x)(hl:kE X.env.scope x)(k:iC X sc own cap)(hi:PI X target iter wi)(hc:X.calm=true)
  (hg:∀C BN BO ex,PG (cX X sc (cY own cap) C BN BO ex) target g)(he:∀C BN BO ex,PE (cX X sc (cY own cap) C BN BO ex) elt te)
  (hs:∀x,foldedSetIterable iter X.env x=pure x:=by intro _;rfl)(hsw:swapsWith (.ListComp elt [⟨target,iter,[],0⟩] sc pos) (some (.Name x py)) spos.line X.env=pure true:=by rfl)
  (hf:X.fn x=true\/X.env.scope.names.lookup x=some .local:=by first |exact .inl rfl |exact .inr rfl |assumption):
  PS X (.Assign [.Name x py] (.ListComp elt [⟨target,iter,[],0⟩] sc pos) spos) (xW (pD own cap wi g te) (xA i)):=by
 intro BM s σ H D I h;rw[i5 _ _ _ _ hsw];refine ag (ki (ag ?_));show wpAny _ X.A (comprehension (.ListComp elt [⟨target,iter,[],0⟩] sc pos) sc X.env _ (newList []) false (eval iter X.env) (some (assign (.Name x py) X.env)) >>= λ_=>pure ()) _ _ s;refine ag (bI (Gj (use:=some (assign (.Name x py) X.env)) (Qf:=λ_ s'=>SP X BM D .next s') k hi hc hg he I h (λB C s' H' m I' fC hn q=>?_) hs) λ_ s' hq=>au (au hq))
 show wpAny _ _ (assign (.Name x py) X.env (.ref B)) _ _ s';obtain⟨o,es,ep,ho,hd,r⟩:=hn;obtain⟨f0,f1,f2,f3,f4,f5⟩:=fC;have I'':aO X (BM++[(C,o)]) σ H' s':=I'.pins_of λp hp=>(cu.mp hp).elim (λz=>I'.pin p (ck _ z)) λz=>by
  have e:p=(C,o):=by simpa using z
  subst e;exact⟨ho,f0,f1,f2,λv z=>by rw[hd]at z;cases z⟩
 refine wm (lZ I'' hN hx hl (v:=.ref B) rfl (λs2 I2=>?_) hf);have pC:=I2.pin (C,o) (by simp);refine⟨m,⟨o,es,ep,pC.1,hd,r⟩,λh' sb=>⟨_,H',?_,q⟩⟩;exact(I2.unpinned).turned (t':=s2.toks) (λb o hb e=>(sb.2 b hb).trans e) f0 f1 f3 f4 f5
end
section
variable{X:Cx}
theorem F0(hc:X.calm=true):iB X (.builtin "all") (λxs H Q=>∃(a:Addr)(bs:List Bool),xs=[.ref a]/\cK X.K H a (bs.map V.bl)/\Q (.bl (bs.all id)) H):=by
 intro BM s σ H xs us Q I r h;obtain⟨a,bs,rfl,hq,q⟩:=h;obtain⟨u,rfl,ru⟩:=iD r;cases ru;obtain⟨its,rv,pl,hz⟩:=I.list hq;have hl:bs.length=its.length:=by
  have:=rv.length
  rwa[ar]at this
 refine call_all_walk (su pl.isList ?_);have ha:a<s.heap.objs.size:=by
  obtain⟨o,ho,_⟩:=pl.isList;exact ax ho
 refine⟨_,_,_,_,_,_,λi=>bs.getD i true,rfl,Walks.list (prog:=X.prog) (w:=X.w) (A:=X.A.in1) (show X.A.in1.handled=none from I.ok.hd hc) s.heap.objs.size a (db ha) its.toArray,⟨⟨_,dq _ rfl,rfl,rfl⟩,Heap.IsList.at pl.isList λo e=>aw _ e⟩,λi v s' Q' E' hv hQ=>?_,λh' tk kp=>?_⟩
 .have hv':its[i]?=some v:=by simpa using hv
  have hi:i<bs.length:=by
   have:=(dj.mp hv').1;omega
  obtain⟨u,hu,ru⟩:=rv.get (i:=i) (x:=.bl bs[i]) (by rw[fh,bh hi];rfl);rw[hv']at hu;cases hu;cases(show v=qx bs[i] from ru);have e:bs.getD i true=bs[i]:=by simp[de,hi]
  have hQ':Q' (bs.getD i true) s':=hQ;rw[e]at hQ';exact kh hQ'
 .have e:(cq its.toArray.size).all (λi=>bs.getD i true)=bs.all id:=by
   rw[az,<-hl,sw,jd,jd];constructor
   .intro z b hb
    obtain⟨i,hi,rfl⟩:=List.mem_iff_getElem.mp hb;have:=z i (by simpa using hi);simpa[de,hi]using this
   .intro z i hi
    have hi':i<bs.length:=by simpa using hi
    have:=z bs[i] (je hi');simpa[de,hi']using this
  show EP X BM σ Q (.bool ((cq its.toArray.size).all λi=>bs.getD i true)) _;rw[e];have I1:aO X BM σ H {s with heap:=s.heap.push {cls:=.type "list_iterator",data:=.fields #[.ref a,.int 0 0]},toks:=s.toks}:=I.kept λb o z=>aw _ z;have fp:fG X BM H s.heap.objs.size:=I.fpOk (am _) (I.hok.fresh (am _));obtain⟨f0,f1,f2,f3,f4,f5⟩:=fp;exact⟨.bl (bs.all id),H,I1.turned (λb o hb z=>kp b o (by simpa using hb) z) f0 f1 f3 f4 f5,rfl,q⟩
end
section
variable{prog:Program}{w:ao}{A:aq}{E:Value->aa->Prop}{s:aa}
theorem Iv{it t:Addr}{i:Nat}{items:Array Value}{x:Value}{Q:Value->aa->Prop}(git:s.heap.IsTupleIter it t i)(gt:s.heap.IsTuple t items)(gx:items[i]?=some x)
  (gQ:∀h',h'.IsTupleIter it t (i+1)->gi it s.heap h'->Q x {s with heap:=h'}):wpAny (model prog w) A (kv (.ref it)) Q E s:=by
 obtain⟨o,go,gc,gd⟩:=id git;obtain⟨ol,gol,_,nl,gdl⟩:=gt;unfold kv;refine ag (qc (name:=cc "__next__") git.typeIs sy (oq sy git.typeIs i6 ?_ (i7 _)));show wpAny _ _ (field (.ref it) 0 >>= _) _ _ s;refine ag (fg go gd (x:=.ref t) rfl ?_);show wpAny _ _ (if(dw t==cw)=true then _ else _) _ _ s;rw[if_neg (show ¬((dw t==cw)=true) from ia)];show wpAny _ _ (field (.ref it) 1 >>= _) _ _ s;refine ag (fg go gd (x:=.int i 0) rfl ?_);show wpAny _ _ (seqItems? (.ref t) >>= _) _ _ s;refine ag (kw gol gdl ?_);simp only[oo,gx];refine ag (td go gd (by simp) (au ⟨_,rfl,au (gQ _ ?_ (i8 ..))⟩));refine⟨_,xc _ go (i9 (tf gd _)),(Obj.cls_mapFields ..).trans gc,?_⟩;rw[tf gd];simp[rawInt]
theorem Ys{it t:Addr}{i:Nat}{items:Array Value}{Q:Value->aa->Prop}(hh:A.handled=none)(git:s.heap.IsTupleIter it t i)(gt:s.heap.IsTuple t items)(gx:items[i]?=none)
  (gE:∀h' e,Heap.ExtBut it s.heap h'->(∃o,h'.get? e=some o/\o.cls=.type "StopIteration")->E (.ref e) {s with heap:=h'}):wpAny (model prog w) A (kv (.ref it)) Q E s:=by
 obtain⟨o,go,gc,gd⟩:=id git;obtain⟨ol,gol,_,nl,gdl⟩:=gt;unfold kv;refine ag (qc (name:=cc "__next__") git.typeIs sy (oq sy git.typeIs i6 ?_ (i7 _)));show wpAny _ _ (field (.ref it) 0 >>= _) _ _ s;refine ag (fg go gd (x:=.ref t) rfl ?_);show wpAny _ _ (if(dw t==cw)=true then _ else _) _ _ s;rw[if_neg (show ¬((dw t==cw)=true) from ia)];show wpAny _ _ (field (.ref it) 1 >>= _) _ _ s;refine ag (fg go gd (x:=.int i 0) rfl ?_);show wpAny _ _ (seqItems? (.ref t) >>= _) _ _ s;refine ag (kw gol gdl ?_);simp only[oo,gx]
 first
  |refine ag (oh (ag (td go gd (by simp) (ag (tj ?_)))))
  |refine ag (oh (ag (td go gd (by simp) ?_)))
 show wpAny _ _ (newExc (.type "StopIteration") [] >>= _) _ _ _;refine ag ?_;simp only[newExc,newTuple];refine ag (jh ?_ (by size_fits));refine ag (m:=firstArgMember _ _) (ya (a:=cw) (by first |rfl |(simp only[firstArgMember];rfl)) ?_)
 refine jh ?_ (by size_fits);simp only[raiseNew];refine ag (wpAny_handled ?_)
 first
  |rw[show A.in1.handled=none from hh]
  |rw[hh]
 refine ag (au (wpAny_throw ?_));exact gE _ _ (((i8 ..).extBut.push _).push _) ⟨_,dq _ rfl,rfl⟩
end
theorem D0{prog:Program}{w:ao}{A:aq}(hh:A.handled=none)(it t:Addr)(hne:t≠it)(items:Array Value):
  jo prog w A it [it,t] items.size (λi v=>items[i]?=some v) (λi h=>h.IsTupleIter it t i/\h.IsTuple t items) where
 live:=λ_ _ st=>let⟨o,ho,_⟩:=st.1;⟨o,ho⟩
 frame:=λ_ _ _ st hk=>⟨let⟨o,ho,r⟩:=st.1;⟨o,hk it (by simp) o ho,r⟩,let⟨o,ho,r⟩:=st.2;⟨o,hk t (by simp) o ho,r⟩⟩
 item:=λi s Q E hi st hQ=>by
  refine Iv st.1 st.2 (x:=items[i]) (by simp[hi]) λh' hit' hs'=>?_;exact hQ _ h' s.toks (by simp[hi]) ⟨hit',st.2.extBut hs'.extBut hne⟩ hs'
 done:=λs Q E st hE=>Ys hh st.1 st.2 (by simp) hE
structure uA(z TI TO i1 i2:Addr)(fp1 fp2:List Addr):Prop where
 tiz:TI≠z
 toz:TO≠z
 tito:TI≠TO
 ti1:TI≠i1
 ti2:TI≠i2
 z1:z∉fp1
 z2:z∉fp2
 to1:TO∉fp1
 to2:TO∉fp2
 i12:i1∉fp2
 i21:i2∉fp1
 m1:i1∈fp1
 m2:i2∈fp2
section
variable{prog:Program}{w:ao}{A:aq}{E:Value->aa->Prop}{s:aa}{z TI TO i1 i2:Addr}{fp1 fp2:List Addr}{n1 n2 i:Nat}{P1 P2:Nat->Value->Prop}{S1 S2:Nat->Heap->Prop}{a b:Value}
theorem Lx{Q:Value->aa->Prop}(D1:jo prog w A i1 fp1 n1 P1 S1)(D2:jo prog w A i2 fp2 n2 P2 S2)(ap:uA z TI TO i1 i2 fp1 fp2)(gz:fi s.heap z TI TO .none)(gTI:dm s.heap TI (.ref i1) (.ref i2))(gTO:dm s.heap TO a b)
  (g1:S1 i s.heap)(g2:S2 i s.heap)(l1:i<n1)(l2:i<n2)
  (gQ:∀h' tk x y,P1 i x->P2 i y->fi h' z TI TO (rawInt s.heap.objs.size)->dm h' TO x y->S1 (i+1) h'->S2 (i+1) h'->dm h' s.heap.objs.size x y->
   (∀c o,c≠z->c≠TO->c≠i1->c≠i2->s.heap.get? c=some o->h'.get? c=some o)->Q (.ref s.heap.objs.size) {s with heap:=h',toks:=tk}):
  wpAny (model prog w) A (Builtin.«zip.__next__» ⟨[.ref z],[]⟩) (λfin s'=>∃v,fin=.done (.ret v)/\Q v s') E s:=by
 have nz1:i1≠z:=λq=>ap.z1 (q▸ap.m1);have nz2:i2≠z:=λq=>ap.z2 (q▸ap.m2);have nt1:TO≠i1:=λq=>ap.to1 (q▸ap.m1);have nt2:TO≠i2:=λq=>ap.to2 (q▸ap.m2);show wpAny _ _ (field (.ref z) 2 >>= _) _ _ _;refine ag (fg gz rfl (x:=.bool false) rfl ?_);show wpAny _ _ (field (.ref z) 3 >>= _) _ _ _;refine ag (fg gz rfl (x:=.ref TI) rfl ?_);refine ag (kw gTI rfl ?_);show wpAny _ _ (tm (.ref z) >>= _) _ _ _;refine ag ?_;unfold tm;refine ag (fg gz rfl (x:=.none) rfl (au ?_));simp only[if_true];refine ag (oh ?_);refine ag (fg gz rfl (x:=.ref TO) rfl ?_);refine ag (ow gz (by simp) λh1 gz1 s1=>?_)
 replace gz1:fi h1 z TI TO .ellipsis:=gz1
 refine ag ?_;simp only[j2,j3,ql,j4];refine ag (ag (tw ?_));show wpAny _ _ (kv (.ref i1) >>= _) _ _ _;refine ag (D1.item i _ _ _ l1 (D1.frame _ _ _ g1 λc hc o q=>s1.extBut c o (λe=>ap.z1 (e▸hc)) q) λx h2 tk2 px g1' s2=>au ?_);have gTO2:dm h2 TO a b:=s2.extBut _ _ nt1 (s1.extBut _ _ ap.toz gTO);refine ag (kw gTO2 rfl ?_);refine ag (yb (s:={s with heap:=h2,toks:=tk2}) gTO2 λh3 gTO3 s3=>?_)
 replace gTO3:dm h3 TO x b:=gTO3
 replace s3:gi TO h2 h3:=s3
 refine ag (tj (au ?_));refine ag (ag (tw ?_));show wpAny _ _ (kv (.ref i2) >>= _) _ _ _;have g2':S2 i h3:=D2.frame _ _ _ g2 λc hc o q=>s3.extBut c o (λe=>ap.to2 (e▸hc)) (s2.extBut c o (λe=>ap.i12 (e▸hc)) (s1.extBut c o (λe=>ap.z2 (e▸hc)) q));refine ag (D2.item i _ _ _ l2 g2' λy h4 tk4 py g2'' s4=>au ?_)
 replace s4:gi i2 h3 h4:=s4
 have gTO4:dm h4 TO x b:=s4.extBut _ _ nt2 gTO3;refine ag (kw gTO4 rfl ?_);refine ag (yb (s:={s with heap:=h4,toks:=tk4}) gTO4 λh5 gTO5 s5=>?_)
 replace gTO5:dm h5 TO x y:=gTO5
 replace s5:gi TO h4 h5:=s5
 refine ag (tj (au (au ?_)));refine ag (kw gTO5 rfl ?_);refine ag (wpAny_newTuple ?_);have hsz:h5.objs.size=s.heap.objs.size:=by rw[s5.1,s4.1,s3.1,s2.1,s1.1]
 have gz5:fi h5 z TI TO .ellipsis:=s5.extBut _ _ ap.toz.symm (s4.extBut _ _ nz2.symm (s3.extBut _ _ ap.toz.symm (s2.extBut _ _ nz1.symm gz1)));have k5:∀c o,c≠z->c≠TO->c≠i1->c≠i2->s.heap.get? c=some o->h5.get? c=some o:=λc o c1 c2 c3 c4 q=>s5.extBut _ _ c2 (s4.extBut _ _ c4 (s3.extBut _ _ c2 (s2.extBut _ _ c3 (s1.extBut _ _ c1 q))));have g15:S1 (i+1) h5:=D1.frame _ _ _ g1' λc hc o q=>s5.extBut c o (λe=>ap.to1 (e▸hc)) (s4.extBut c o (λe=>ap.i21 (e▸hc)) (s3.extBut c o (λe=>ap.to1 (e▸hc)) q));have g25:S2 (i+1) h5:=D2.frame _ _ _ g2'' λc hc o q=>s5.extBut c o (λe=>ap.to2 (e▸hc)) q;have zlt:z<h5.objs.size:=ax gz5;show wpAny _ _ (j5 (.ref z) (.ref h5.objs.size) >>= _) _ _ _;refine ag ?_;unfold j5;have gz6:fi (h5.push {cls:=.type "tuple",data:=.seq #[x,y]}) z TI TO .ellipsis:=aw _ gz5;refine ag (ow gz6 (by simp) λh7 gz7 s7=>?_)
 replace gz7:fi h7 z TI TO (rawInt h5.objs.size):=gz7
 refine ow gz7 (by simp) λh8 gz8 s8=>?_
 replace gz8:fi h8 z TI TO (rawInt h5.objs.size):=gz8
 have up:∀c o,c≠z->h5.get? c=some o->h8.get? c=some o:=λc o c1 q=>s8.extBut _ _ c1 (s7.extBut _ _ c1 (aw _ q));have gT8:dm h8 h5.objs.size x y:=s8.extBut _ _ (pw zlt) (s7.extBut _ _ (pw zlt) (dq _ rfl));rw[hsz]at gz8 gT8;refine au ⟨_,rfl,?_⟩;show Q (.ref h5.objs.size) _;rw[hsz];exact gQ h8 _ x y px py gz8 (up _ _ ap.toz gTO5) (D1.frame _ _ _ g15 λc hc o q=>up c o (λe=>ap.z1 (e▸hc)) q) (D2.frame _ _ _ g25 λc hc o q=>up c o (λe=>ap.z2 (e▸hc)) q) gT8 λc o c1 c2 c3 c4 q=>up c o c1 (k5 c o c1 c2 c3 c4 q)
theorem Hx{Q:Fin->aa->Prop}(D1:jo prog w A i1 fp1 n1 P1 S1)(D2:jo prog w A i2 fp2 n2 P2 S2)(ap:uA z TI TO i1 i2 fp1 fp2)(gz:fi s.heap z TI TO .none)(gTI:dm s.heap TI (.ref i1) (.ref i2))(gTO:dm s.heap TO a b)
  (g1:S1 i s.heap)(g2:S2 i s.heap)(fin:i=n1\/(i<n1/\i=n2))
  (gE:∀h' tk e,(∀c o,c≠z->c≠TO->c≠i1->c≠i2->s.heap.get? c=some o->h'.get? c=some o)->(∃o,h'.get? e=some o/\o.cls=.type "StopIteration")->E (.ref e) {s with heap:=h',toks:=tk}):
  wpAny (model prog w) A (Builtin.«zip.__next__» ⟨[.ref z],[]⟩) Q E s:=by
 have nz1:i1≠z:=λq=>ap.z1 (q▸ap.m1);have nz2:i2≠z:=λq=>ap.z2 (q▸ap.m2);have nt1:TO≠i1:=λq=>ap.to1 (q▸ap.m1);have nt2:TO≠i2:=λq=>ap.to2 (q▸ap.m2);show wpAny _ _ (field (.ref z) 2 >>= _) _ _ _;refine ag (fg gz rfl (x:=.bool false) rfl ?_);show wpAny _ _ (field (.ref z) 3 >>= _) _ _ _;refine ag (fg gz rfl (x:=.ref TI) rfl ?_);refine ag (kw gTI rfl ?_);show wpAny _ _ (tm (.ref z) >>= _) _ _ _;refine ag ?_;unfold tm;refine ag (fg gz rfl (x:=.none) rfl (au ?_));simp only[if_true];refine ag (oh ?_);refine ag (fg gz rfl (x:=.ref TO) rfl ?_);refine ag (ow gz (by simp) λh1 gz1 s1=>?_)
 replace gz1:fi h1 z TI TO .ellipsis:=gz1
 refine ag ?_;simp only[j2,j3,ql,j4];refine ag (ag (tw ?_));show wpAny _ _ (kv (.ref i1) >>= _) _ _ _;have g1':S1 i h1:=D1.frame _ _ _ g1 λc hc o q=>s1.extBut c o (λe=>ap.z1 (e▸hc)) q;rcases fin with e1 |⟨l1,e2⟩
 .subst e1
  refine ag (D1.done _ _ _ g1' λh2 e s2 he=>?_);obtain⟨oe,hoe,hce⟩:=he;have gz2:fi h2 z TI TO .ellipsis:=s2 _ _ nz1.symm gz1;have hez:e≠z:=λq=>by
   subst q;rw[gz2]at hoe;cases hoe;simp at hce
  refine ow (s:={s with heap:=h2}) gz2 (by simp) λh3 _ s3=>?_;exact gE h3 _ e (λc o c1 _ c3 _ q=>s3.extBut _ _ c1 (s2 _ _ c3 (s1.extBut _ _ c1 q))) ⟨oe,s3.extBut _ _ hez hoe,hce⟩
 .subst e2
  refine ag (D1.item i _ _ _ l1 g1' λx h2 tk2 px g1'' s2=>au ?_);have gTO2:dm h2 TO a b:=s2.extBut _ _ nt1 (s1.extBut _ _ ap.toz gTO);refine ag (kw gTO2 rfl ?_);refine ag (yb (s:={s with heap:=h2,toks:=tk2}) gTO2 λh3 gTO3 s3=>?_)
  replace s3:gi TO h2 h3:=s3
  refine ag (tj (au ?_));refine ag (ag (tw ?_));show wpAny _ _ (kv (.ref i2) >>= _) _ _ _;have g2':S2 i h3:=D2.frame _ _ _ g2 λc hc o q=>s3.extBut c o (λe=>ap.to2 (e▸hc)) (s2.extBut c o (λe=>ap.i12 (e▸hc)) (s1.extBut c o (λe=>ap.z2 (e▸hc)) q));refine ag (D2.done _ _ _ g2' λh4 e s4 he=>?_)
  replace s4:Heap.ExtBut i2 h3 h4:=s4
  obtain⟨oe,hoe,hce⟩:=he;have gz4:fi h4 z TI TO .ellipsis:=s4 _ _ nz2.symm (s3.extBut _ _ ap.toz.symm (s2.extBut _ _ nz1.symm gz1));have hez:e≠z:=λq=>by
   subst q;rw[gz4]at hoe;cases hoe;simp at hce
  refine ow (s:={s with heap:=h4,toks:=tk2}) gz4 (by simp) λh5 _ s5=>?_;exact gE h5 _ e (λc o c1 c2 c3 c4 q=>s5.extBut _ _ c1 (s4 _ _ c4 (s3.extBut _ _ c2 (s2.extBut _ _ c3 (s1.extBut _ _ c1 q))))) ⟨oe,s5.extBut _ _ hez hoe,hce⟩
theorem Lu{Q:BE->aa->Prop}(D1:jo prog w A.in1 i1 fp1 n1 P1 S1)(D2:jo prog w A.in1 i2 fp2 n2 P2 S2)(ap:uA z TI TO i1 i2 fp1 fp2)(gz:fi s.heap z TI TO .none)(gTI:dm s.heap TI (.ref i1) (.ref i2))(gTO:dm s.heap TO a b)
  (g1:S1 i s.heap)(g2:S2 i s.heap)(l1:i<n1)(l2:i<n2)
  (gQ:∀h' tk x y,P1 i x->P2 i y->fi h' z TI TO (rawInt s.heap.objs.size)->dm h' TO x y->S1 (i+1) h'->S2 (i+1) h'->dm h' s.heap.objs.size x y->
   (∀c o,c≠z->c≠TO->c≠i1->c≠i2->s.heap.get? c=some o->h'.get? c=some o)->Q (some (.ref s.heap.objs.size)) {s with heap:=h',toks:=tk}):
  wpAny (model prog w) A (pyNext (.ref z)) Q E s:=by
 have gT:s.TypeIs (.ref z) "zip":=⟨_,gz,rfl⟩;unfold pyNext;refine ag (qm (qc (name:=cc "__next__") gT tz (oq tz gT j6 ?_ (j7 _))));exact Lx D1 D2 ap gz gTI gTO g1 g2 l1 l2 λh' tk x y p1 p2 e1 e2 e3 e4 e5 e6=>au (gQ h' tk x y p1 p2 e1 e2 e3 e4 e5 e6)
theorem Ms{Q:BE->aa->Prop}(D1:jo prog w A.in1 i1 fp1 n1 P1 S1)(D2:jo prog w A.in1 i2 fp2 n2 P2 S2)(ap:uA z TI TO i1 i2 fp1 fp2)(gz:fi s.heap z TI TO .none)(gTI:dm s.heap TI (.ref i1) (.ref i2))(gTO:dm s.heap TO a b)
  (g1:S1 i s.heap)(g2:S2 i s.heap)(fin:i=n1\/(i<n1/\i=n2))
  (gQ:∀h' tk,(∀c o,c≠z->c≠TO->c≠i1->c≠i2->s.heap.get? c=some o->h'.get? c=some o)->Q none {s with heap:=h',toks:=tk}):wpAny (model prog w) A (pyNext (.ref z)) Q E s:=by
 have gT:s.TypeIs (.ref z) "zip":=⟨_,gz,rfl⟩;unfold pyNext;refine ag (qm (qc (name:=cc "__next__") gT tz (oq tz gT j6 ?_ (j7 _))));refine Hx D1 D2 ap gz gTI gTO g1 g2 fin λh' tk e hk he=>?_;obtain⟨o,ho,hc⟩:=he;refine ag (wpAny_isInstance (T:="StopIteration") (b:=true) ⟨o,ho,hc⟩ isSubtype_stop ?_);exact au (gQ _ _ hk)
end
abbrev xP(h:Heap)(o1:Obj):Heap:=h.push o1
abbrev xV(h:Heap)(o1 o2:Obj):Heap:=(xP h o1).push o2
abbrev xQ(h:Heap)(o1 o2:Obj):Heap:=(xV h o1 o2).push {cls:=.type "tuple",data:=.seq #[.ref h.objs.size,.ref (xP h o1).objs.size]}
abbrev xX(h:Heap)(o1 o2:Obj):Heap:=(xQ h o1 o2).push {cls:=.type "tuple",data:=.seq #[.none,.none]}
abbrev qX(h:Heap)(o1 o2:Obj):Heap:=(xX h o1 o2).push {cls:=.type "zip",data:=.fields #[.none,.bool false,.bool false,.ref (xV h o1 o2).objs.size,.ref (xQ h o1 o2).objs.size]}
def tM(l:Addr)(o:Obj)(G:Heap->Prop):Prop:=
 ∀(prog:Program)(w:ao)(A:aq)(E:Value->aa->Prop)(s:aa)(Q:Value->aa->Prop),G s.heap->Q (.ref s.heap.objs.size) {s with heap:=s.heap.push o}->wpAny (model prog w) A (pyIter (.ref l)) Q E s
theorem Ey(l1 l2:Addr)(o1 o2:Obj)(G1 G2:Heap->Prop)(p1:tM l1 o1 G1)(p2:tM l2 o2 G2)(k2:∀h,G2 h->G2 (h.push o1)):
  Meets (Builtin.«zip.__new__» ⟨[.type "zip",.ref l1,.ref l2],[]⟩) (λ_ R s=>G1 s.heap/\G2 s.heap/\R (.ok (.ret (.ref (xX s.heap o1 o2).objs.size))) {s with heap:=qX s.heap o1 o2}):=
 .of_wp λprog w A R s h=>by
  obtain⟨hp,g,d,tk,os⟩:=s;obtain⟨g1,g2,h⟩:=h;have hsub:=sub_zip;have q1:=λ(A':aq) (E':Value->aa->Prop) (Q':Value->aa->Prop)=>p1 prog w A' E' ⟨hp,g,d,tk,os⟩ Q' g1;have q2:=λ(A':aq) (E':Value->aa->Prop) (Q':Value->aa->Prop)=>p2 prog w A' E' ⟨hp.push o1,g,d,tk,os⟩ Q' (k2 _ g2)
  wp_walk using q1 _ _ _,q2 _ _ _
  exact⟨_,rfl,h⟩
theorem Vt{prog:Program}{w:ao}{A:aq}{E:Value->aa->Prop}{s:aa}{l1 l2:Addr}{o1 o2:Obj}{G1 G2:Heap->Prop}{Q:Value->aa->Prop}(p1:tM l1 o1 G1)(p2:tM l2 o2 G2)(k2:∀h,G2 h->G2 (h.push o1))(g1:G1 s.heap)(g2:G2 s.heap)
  (f1:o1.isFreed=false)(f2:o2.isFreed=false)
  (h:∀h',fi h' (s.heap.objs.size+4) (s.heap.objs.size+2) (s.heap.objs.size+3) .none->dm h' (s.heap.objs.size+2) (.ref s.heap.objs.size) (.ref (s.heap.objs.size+1))->dm h' (s.heap.objs.size+3) .none .none->
   h'.get? s.heap.objs.size=some o1->h'.get? (s.heap.objs.size+1)=some o2->(∀c o,s.heap.get? c=some o->h'.get? c=some o)->Q (.ref (s.heap.objs.size+4)) {s with heap:=h'}):
  wpAny (model prog w) A (call (.type "zip") [.ref l1,.ref l2]) Q E s:=by
 refine callType_new F.called_zip (by decide) (F.typeCall_zip_2 _ _) (F.newCall_zip_2 _ _) (λobj=>F.args_object_init_3 obj _ _) F.entry_zip_new (Ey l1 l2 o1 o2 G1 G2 p1 p2 k2) ⟨g1,g2,?_⟩;have e1:(xP s.heap o1).objs.size=s.heap.objs.size+1:=ku ..;have e2:(xV s.heap o1 o2).objs.size=s.heap.objs.size+2:=by rw[ku,e1]
 have e3:(xQ s.heap o1 o2).objs.size=s.heap.objs.size+3:=by rw[ku,e2]
 have e4:(xX s.heap o1 o2).objs.size=s.heap.objs.size+4:=by rw[ku,e3]
 have r5:(qX s.heap o1 o2).get? (xX s.heap o1 o2).objs.size=some _:=dq _ rfl;have r4:(qX s.heap o1 o2).get? (xQ s.heap o1 o2).objs.size=some _:=aw _ (dq _ rfl);have r3:(qX s.heap o1 o2).get? (xV s.heap o1 o2).objs.size=some _:=aw _ (aw _ (dq _ rfl));have r2:(qX s.heap o1 o2).get? (xP s.heap o1).objs.size=some o2:=aw _ (aw _ (aw _ (dq _ f2)));have r1:(qX s.heap o1 o2).get? s.heap.objs.size=some o1:=aw _ (aw _ (aw _ (aw _ (dq _ f1))));show _/\_;rw[e2,e3,e4]at r5;rw[e1,e2]at r3;rw[e3]at r4;rw[e1]at r2;rw[e4];exact⟨⟨_,r5,rfl⟩,h _ r5 r3 r4 r1 r2 λc o q=>aw _ (aw _ (aw _ (aw _ (aw _ q))))⟩
def jH(f:Bool)(K:ae)(H:Hp)(a:Addr)(xs:List V):Prop:=match f with
 |true=>dJ K H a xs
 |false=>cK K H a xs
def mQ(f:Bool)(it a:Addr)(i:Nat)(h:Heap):Prop:=match f with
 |true=>h.IsTupleIter it a i
 |false=>h.IsListIter it a i
def rD(f:Bool)(a:Addr)(items:Array Value)(h:Heap):Prop:=match f with
 |true=>h.IsTuple a items
 |false=>h.IsList a items
def Te(f:Bool)(a:Addr):Obj:=match f with
 |true=>{cls:=.type "tuple_iterator",data:=.fields #[.ref a,.int 0 0]}
 |false=>{cls:=.type "list_iterator",data:=.fields #[.ref a,.int 0 0]}
section
variable{X:Cx}{BM:List (Addr×Obj)}{σ:St}{H:Hp}{s:aa}{a:Addr}{xs ys:List V}{f:Bool}
theorem aO.seqF(I:aO X BM σ H s)(h:jH f X.K H a xs):∃its:BD,bK xs its/\rD f a its.toArray s.heap/\xs.length<=sizeLine:=by
 cases f with
 |true=>
  obtain⟨its,r,p,z⟩:=I.tuple h;exact⟨its,r,p,z⟩
 |false=>
  obtain⟨its,r,p,z⟩:=I.list h;exact⟨its,r,p.isList,z⟩
theorem aO.seqF_inj(I:aO X BM σ H s)(h:jH f X.K H a xs)(h':jH f X.K H a ys):xs=ys:=by
 cases f with
 |true=>exact I.tuple_inj h h'
 |false=>exact I.list_inj h h'
theorem aO.apart{b:Addr}(I:aO X BM σ H s)(fb:fG X BM H b)(h:jH f X.K H a xs):a≠b:=by
 have viaK:∀{o:Obj},X.K.lookup a=some o->a≠b:=λ{o} q e=>by
  have hb:X.base.get? b=some o:=e▸I.ok.mod.kin a o q;rcases fb.2.2.2.1 with z |z
  .exact I.ok.noex b o hb z
  .exact absurd (cj (ax (I.ok.bs b o hb).1) z) (gf _)
 cases f with
 |true=>
  rcases h with(h |⟨o,h⟩) |⟨o,_,_,q,_⟩
  .exact gS h fb.1
  .exact gS h fb.1
  .exact viaK q
 |false=>
  rcases h with(h |⟨o,h⟩) |⟨o,_,_,q,_⟩
  .exact gS h fb.1
  .exact gS h fb.1
  .exact viaK q
end
theorem wR{prog:Program}{w:ao}{A:aq}(f:Bool)(hh:A.handled=none)(it a:Addr)(hne:a≠it)(items:Array Value):
  jo prog w A it [it,a] items.size (λi v=>items[i]?=some v) (λi h=>mQ f it a i h/\rD f a items h):=by
 cases f with
 |true=>exact D0 hh it a hne items
 |false=>exact Draws.list hh it a hne items
theorem Kq(f:Bool)(a:Addr)(items:Array Value):tM a (Te f a) (rD f a items):=by
 cases f with
 |true=>exact λprog w A E s Q g q=>j8 g q
 |false=>exact λprog w A E s Q g q=>su g q
theorem mQ.keep{f:Bool}{it a:Addr}{i:Nat}{h h':Heap}(x:mQ f it a i h)(k:∀o,h.get? it=some o->h'.get? it=some o):mQ f it a i h':=by
 cases f with
 |true=>obtain⟨o,e,r⟩:=x;exact⟨o,k o e,r⟩
 |false=>obtain⟨o,e,r⟩:=x;exact⟨o,k o e,r⟩
theorem rD.keep{f:Bool}{a:Addr}{items:Array Value}{h h':Heap}(x:rD f a items h)(k:∀o,h.get? a=some o->h'.get? a=some o):rD f a items h':=by
 cases f with
 |true=>obtain⟨o,e,r⟩:=x;exact⟨o,k o e,r⟩
 |false=>obtain⟨o,e,r⟩:=x;exact⟨o,k o e,r⟩
theorem mQ.obj{f:Bool}{it a:Addr}{i:Nat}{h:Heap}(x:mQ f it a i h):∃o,h.get? it=some o/\∀v,o.data≠.cell v:=by
 cases f with
 |true=>obtain⟨o,e,_,d⟩:=x;exact⟨o,e,λv z=>by rw[d]at z;cases z⟩
 |false=>obtain⟨o,e,_,d⟩:=x;exact⟨o,e,λv z=>by rw[d]at z;cases z⟩
theorem Ii(f:Bool)(a it:Addr){h:Heap}(e:h.get? it=some (Te f a)):mQ f it a 0 h:=by
 cases f with
 |true=>exact⟨_,e,rfl,rfl⟩
 |false=>exact⟨_,e,rfl,rfl⟩
theorem Sj(f:Bool)(a:Addr):(Te f a).isFreed=false:=by cases f<;>rfl
def Zr (K : ae) (f1 : Bool) (a : Addr) (f2 : Bool) (b : Addr) : It :=
  ⟨λi H => ∃ xs ys x y, jH f1 K H a xs ∧ jH f2 K H b ys ∧ xs[i]? = some x ∧ ys[i]? = some y,
   λi H v H' => ∃ p x y, H p = none ∧ v = .ref p ∧ H' = bJ H p (.tup [x, y]) ∧ (∀ xs, jH f1 K H a xs → xs[i]? = some x) ∧ ∀ ys, jH f2 K H b ys → ys[i]? = some y,
   λi H => ∃ xs ys, jH f1 K H a xs ∧ jH f2 K H b ys ∧ (i = xs.length ∨ (i < xs.length ∧ i = ys.length))⟩
structure xR(z TI TO i1 i2:Addr):Prop where
 tiz:TI≠z
 toz:TO≠z
 i1z:i1≠z
 i2z:i2≠z
 tito:TI≠TO
 ti1:TI≠i1
 ti2:TI≠i2
 to1:TO≠i1
 to2:TO≠i2
 i12:i1≠i2
theorem xR.ap{z TI TO i1 i2 a b:Addr}(r:xR z TI TO i1 i2)(h:∀c∈[z,TI,TO,i1,i2],a≠c)(g:∀c∈[z,TI,TO,i1,i2],b≠c):uA z TI TO i1 i2 [i1,a] [i2,b] where
 tiz:=r.tiz
 toz:=r.toz
 tito:=r.tito
 ti1:=r.ti1
 ti2:=r.ti2
 z1:=λq=>by simp at q;rcases q with q |q;exact r.i1z q.symm;exact h z (by simp) q.symm
 z2:=λq=>by simp at q;rcases q with q |q;exact r.i2z q.symm;exact g z (by simp) q.symm
 to1:=λq=>by simp at q;rcases q with q |q;exact r.to1 q;exact h TO (by simp) q.symm
 to2:=λq=>by simp at q;rcases q with q |q;exact r.to2 q;exact g TO (by simp) q.symm
 i12:=λq=>by simp at q;rcases q with q |q;exact r.i12 q;exact g i1 (by simp) q.symm
 i21:=λq=>by simp at q;rcases q with q |q;exact r.i12 q.symm;exact h i2 (by simp) q.symm
 m1:=by simp
 m2:=by simp
theorem Rz{P:Program}{w:ao}{K:ae}{elts:List af}{x1:Nat}{tp:ah}(f1 f2:Bool)(a b z TI TO i1 i2:Addr)(zr:xR z TI TO i1 i2):
  pF P w K (.Tuple elts x1 tp) (Zr K f1 a f2 b) [z,TI,TO,i1,i2] z (λi h=>fi h z TI TO .none/\dm h TI (.ref i1) (.ref i2)/\(∃u v,dm h TO u v)/\mQ f1 i1 a i h/\mQ f2 i2 b i h) where
 mem:=by simp
 obj:=λi h st c hc=>by
  obtain⟨e1,e2,⟨u,v,e3⟩,e4,e5⟩:=st;simp at hc;rcases hc with q |q |q |q |q
  .subst q
   exact⟨_,e1,λv z=>nomatch z⟩
  .subst q
   exact⟨_,e2,λv z=>nomatch z⟩
  .subst q
   exact⟨_,e3,λv z=>nomatch z⟩
  .subst q
   exact e4.obj
  .subst q
   exact e5.obj
 keep:=λi h h' st k=>by
  obtain⟨e1,e2,⟨u,v,e3⟩,e4,e5⟩:=st;exact⟨k z (by simp) _ e1,k TI (by simp) _ e2,⟨u,v,k TO (by simp) _ e3⟩,e4.keep λo q=>k i1 (by simp) o q,e5.keep λo q=>k i2 (by simp) o q⟩
 item:=by
  intro X hP hw hK hc i BM s σ H E I hf st hg;subst hP hw hK;obtain⟨xs,ys,x,y,hx,hy,ex,ey⟩:=hg;obtain⟨its,r1,p1,_⟩:=I.seqF hx;obtain⟨jts,r2,p2,_⟩:=I.seqF hy;obtain⟨ux,gx,rx⟩:=r1.get ex;obtain⟨uy,gy,ry⟩:=r2.get ey;obtain⟨e1,e2,⟨u,v,e3⟩,e4,e5⟩:=st;have na:∀c∈[z,TI,TO,i1,i2],a≠c:=λc hc=>I.apart (hf c hc) hx;have nb:∀c∈[z,TI,TO,i1,i2],b≠c:=λc hc=>I.apart (hf c hc) hy;have hd:X.A.in1.handled=none:=I.ok.hd hc;have D1:=wR (prog:=X.prog) (w:=X.w) f1 hd i1 a (na i1 (by simp)) its.toArray;have D2:=wR (prog:=X.prog) (w:=X.w) f2 hd i2 b (nb i2 (by simp)) jts.toArray;refine Lu D1 D2 (zr.ap na nb) e1 e2 e3 ⟨e4,p1⟩ ⟨e5,p2⟩ (dj.mp gx).1 (dj.mp gy).1 λh1 tk vx vy px py q1 q2 q3 q4 q5 k1=>⟨_,rfl,?_⟩;have ex':vx=ux:=by
   have:its[i]?=some vx:=by simpa using px
   rw[gx]at this;exact(cr this).symm
  have ey':vy=uy:=by
   have:jts[i]?=some vy:=by simpa using py
   rw[gy]at this;exact(cr this).symm
  subst ex' ey';have lt:∀c∈[z,TI,TO,i1,i2],c≠s.heap.objs.size:=λc hc=>by
   have:∃o,s.heap.get? c=some o:=by
    simp at hc;rcases hc with q |q |q |q |q
    .exact⟨_,q▸e1⟩
    .exact⟨_,q▸e2⟩
    .exact⟨_,q▸e3⟩
    .obtain⟨o,ho,_⟩:=e4.obj
     exact⟨o,q▸ho⟩
    .obtain⟨o,ho,_⟩:=e5.obj
     exact⟨o,q▸ho⟩
   obtain⟨o,ho⟩:=this;exact db (ax ho)
  refine wpAny_letOwnedTupleGo_zip (s:={s with heap:=h1,toks:=tk}) q1 λh2 z2 sb2=>?_;have t2:h2.get? s.heap.objs.size=some {cls:=.type "tuple",data:=.seq #[vx,vy]}:=(sb2.2 _ (lt z (by simp)).symm).trans q5;have I2:aO X BM σ (bJ H s.heap.objs.size (.tup [x,y])) {s with heap:=h2,toks:=tk}:=
   I.turnedNew hf (λc o hc q=>(sb2.2 c (λe=>hc (by simp[e]))).trans (k1 c o (λe=>hc (by simp[e])) (λe=>hc (by simp[e])) (λe=>hc (by simp[e])) (λe=>hc (by simp[e])) q)) (am _)
    ⟨by show 2<=sizeLine;decide,[vx,vy],.cons rx (.cons ry .nil),⟨_,t2,rfl,_,rfl⟩⟩
  refine⟨.ref s.heap.objs.size,_,I2,rfl,⟨_,x,y,I.hok.fresh (am _),rfl,rfl,λzs hz=>by rw[I.seqF_inj hz hx];exact ex,λzs hz=>by rw[I.seqF_inj hz hy];exact ey⟩,
   ⟨z2,(sb2.2 _ zr.tiz).trans (k1 _ _ zr.tiz zr.tito zr.ti1 zr.ti2 e2),⟨_,_,(sb2.2 _ zr.toz).trans q2⟩,q3.1.keep λo q=>(sb2.2 _ zr.i1z).trans q,q4.1.keep λo q=>(sb2.2 _ zr.i2z).trans q⟩,λc hc=>?_⟩
  rw[dA (lt c hc)];exact(hf c hc).1
 done:=by
  intro X hP hw hK hc i BM s σ H E I hf st hg;subst hP hw hK;obtain⟨xs,ys,hx,hy,fin⟩:=hg;obtain⟨its,r1,p1,_⟩:=I.seqF hx;obtain⟨jts,r2,p2,_⟩:=I.seqF hy;have l1:=r1.length;have l2:=r2.length;obtain⟨e1,e2,⟨u,v,e3⟩,e4,e5⟩:=st;have na:∀c∈[z,TI,TO,i1,i2],a≠c:=λc hc=>I.apart (hf c hc) hx;have nb:∀c∈[z,TI,TO,i1,i2],b≠c:=λc hc=>I.apart (hf c hc) hy;have hd:X.A.in1.handled=none:=I.ok.hd hc;have D1:=wR (prog:=X.prog) (w:=X.w) f1 hd i1 a (na i1 (by simp)) its.toArray;have D2:=wR (prog:=X.prog) (w:=X.w) f2 hd i2 b (nb i2 (by simp)) jts.toArray;refine Ms D1 D2 (zr.ap na nb) e1 e2 e3 ⟨e4,p1⟩ ⟨e5,p2⟩ (by rw[az,az,<-l1,<-l2];exact fin) λh' tk k=>⟨rfl,?_⟩;exact I.turnedL hf λc o hc q=>k c o (λe=>hc (by simp[e])) (λe=>hc (by simp[e])) (λe=>hc (by simp[e])) (λe=>hc (by simp[e])) q
 self:=λ_ _ _ _ _ st h=>wpAny_pyIter_zip st.1 h
section
variable{X:Cx}{elts:List af}{x1:Nat}{tp:ah}
def acu(K:ae)(tl:TA):TI:=λσ H R=>tl σ H λvs H1=>∃f1 a f2 b xs ys,vs=[.ref a,.ref b]/\jH f1 K H1 a xs/\jH f2 K H1 b ys/\R (Zr K f1 a f2 b) H1
theorem aaK{l r:af}{tl:TA}{p pos:ah}(hg:Gl X "zip")(hm:X.mg "zip"=none)(hl:PA X [l,r] tl)(hs:starEach [l,r] X.env=[(false,eval l X.env),(false,eval r X.env)]:=by rfl)(hs2:starEach [r] X.env=[(false,eval r X.env)]:=by rfl):
  PI X (.Tuple elts x1 tp) (.Call (.Name "zip" p) [l,r] [] pos) (acu X.K tl):=by
 intro BM s σ H R I h;refine Call_ (qF I hg hm boot_zip (rh (bI (hl pos BM s σ H _ I h) λus s1 hq=>?_) (by rw[hs,hs2]) (by rw[hs2];rfl)));rcases hq with⟨vs,H1,I1,r1,q1⟩;obtain⟨f1,a,f2,b,xs,ys,rfl,hx,hy,q⟩:=q1;obtain⟨u,v,rfl,ru,rv⟩:=Td r1;cases ru;cases rv;obtain⟨its,_,p1,_⟩:=I1.seqF hx;obtain⟨jts,_,p2,_⟩:=I1.seqF hy;refine Vt (Kq f1 a its.toArray) (Kq f2 b jts.toArray) (λh g=>g.keep λo z=>aw _ z) p1 p2 (Sj _ _) (Sj _ _) λh' e1 e2 e3 e4 e5 k=>?_;refine wpAny_pyIter_zip (s:={s1 with heap:=h'}) e1 ?_;have zr:xR (s1.heap.objs.size+4) (s1.heap.objs.size+2) (s1.heap.objs.size+3) s1.heap.objs.size (s1.heap.objs.size+1):=by
  generalize s1.heap.objs.size=n;have g:∀i j:Nat,i≠j->((n:Nat)+i:Nat)≠n+j:=λi j h=>by omega
  exact⟨g 2 4 (by decide),g 3 4 (by decide),g 0 4 (by decide),g 1 4 (by decide),g 2 3 (by decide),g 2 0 (by decide),g 2 1 (by decide),g 3 0 (by decide),g 3 1 (by decide),g 0 1 (by decide)⟩
 refine⟨_,[s1.heap.objs.size+4,s1.heap.objs.size+2,s1.heap.objs.size+3,s1.heap.objs.size,s1.heap.objs.size+1],_,_,H1,rfl,I1.kept (t':=s1.toks) k,Rz f1 f2 a b _ _ _ _ _ zr,⟨e1,e2,⟨_,_,e3⟩,Ii f1 a _ e4,Ii f2 b _ e5⟩,λc hc=>?_,q⟩;have hb:s1.heap.objs.size<=c:=by
  simp only[ce,qo,or_false]at hc;rcases hc with q |q |q |q |q
  all_goals rw[q]
  all_goals first |exact am _ |exact Nat.le_add_right _ _
 exact I1.fpOk hb (I1.hok.fresh hb)
end
theorem aas(K:ae):gj K (.type "int") (.type "bool")=some false:=by
 unfold gj PySem.W.kitCls;rw[if_neg (by decide)];show(if PySem.W.kitMeta "bool"=true then PySem.W.subIn K (.type "int") (.type "bool")else none)=some false;rw[if_pos (by decide+kernel)];show(fastBuiltinMro "int").map (·.contains (.type "bool"))=some false;decide+kernel
structure mO(K:ae)(x qual:Str)(st:Stmt)(f:Addr)(fd:bi)(ds:Array Value):Prop where
 ex:∃(oc:Value)(od:BF)(T:Addr)(oT:Obj)(n:Nat)(kV doc pm:Value)(an:BF)(cdv ct:Value)(osl:Array BE),
  fd=du x qual (gW st) (eH st) (cS st) (.ref T) kV doc pm an cdv ct/\K.lookup f=some ⟨oc,od,.func fd,osl⟩/\jj K cdv qual=true/\K.lookup T=some oT/\oT.data=.seq ds n
 kp:dl K (.ref f)=true
section
variable{P:Program}{w:ao}{K:ae}{mg:Str->BE}{base:Heap}
theorem mO.binds{x qual:Str}{st:Stmt}{f:Addr}{fd:bi}{ds:Array Value}{ps:List Str}{dd:BD}(F:mO K x qual st f fd ds)
  (h:∀(T:Addr)(kV doc pm:Value)(an:BF)(cdv ct:Value)(us:BD),(us++dd).length=ps.length->
   ∃k,bindArgs (du x qual (gW st) (eH st) (cS st) (.ref T) kV doc pm an cdv ct) ⟨us,[]⟩=seqItems? (.ref T) >>= k/\k (some ds)=pure (ps.zip (us++dd))):gO K fd ps dd:=by
 obtain⟨oc,od,T,oT,n,kV,doc,pm,an,cdv,ct,osl,rfl,lk,hcd,lT,hT⟩:=F.ex;intro s us hK hl;obtain⟨k,h1,h2⟩:=h T kV doc pm an cdv ct us hl;exact PySem.W.binds_K hK rfl lT hT h1 h2
theorem Ul{x qual:Str}{st:Stmt}{f T:Addr}{oT:Obj}{n:Nat}{ds:Array Value}{oc:Value}{od an:BF}{osl:Array BE}{kV doc pm cdv ct:Value}(l:K.lookup f=some ⟨oc,od,.func (du x qual (gW st) (eH st) (cS st) (.ref T) kV doc pm an cdv ct),osl⟩)
  (c:jj K cdv qual=true)(k:dl K (.ref f)=true)(lT:K.lookup T=some oT)(hT:oT.data=.seq ds n):mO K x qual st f (du x qual (gW st) (eH st) (cS st) (.ref T) kV doc pm an cdv ct) ds:=
 ⟨⟨oc,od,T,oT,n,kV,doc,pm,an,cdv,ct,osl,rfl,l,c,lT,hT⟩,k⟩
end
theorem Pn{X:Cx}{sc:Scope}{own:List Str}{cap:List (Nat×Str)}(so:Scope)(N:List Str)(hso:X.env.scope=so)(hN:X.N=N)(kind:sc.kind=.function)(names:∀y∈sc.names,y.2=.local->sc.names.lookup y.1=some .local)
  (nocell:∀y∈sc.names,y.2≠.cell)(free:∀y∈sc.names,y.2=.free->so.names.lookup y.1=some .cell)(at':∀p∈cap,N[p.1]?=some p.2)(hcap:∀p∈cap,sc.names.lookup p.2=some .free):iC X sc own cap:=
 ⟨kind,names,nocell,λy hy e=>by show X.env.scope.names.lookup y.1=_;rw[hso];exact free y hy e,λp hp=>by rw[hN];exact at' p hp,hcap⟩
theorem Ib(n d:Nat):HT.sIx (n+1) d (some (-1))=n:=by
 unfold HT.sIx;simp;omega
section
variable{X:Cx}
end
theorem fO.has{P:Program}{w:ao}{H:Hp}{h:Heap}{a:Addr}{o:HO}(x:fO P w H h a o):∃u,h.get? a=some u:=by
 cases o with
 |lst xs=>obtain⟨_,_,_,_,e⟩:=x;exact⟨_,e⟩
 |tup xs=>obtain⟨_,_,_,u,e,_⟩:=x;exact⟨u,e⟩
 |dK kvs=>obtain⟨_,_,_,_,o,_,_,e,_⟩:=x;exact⟨_,e⟩
 |dT kvs=>obtain⟨_,_,_,_,o,_,_,e,_⟩:=x;exact⟨_,e⟩
 |set S n=>obtain⟨o,_,_,_,e,_⟩:=x;exact⟨_,e⟩
 |ins C dx fs=>obtain⟨_,_,_,e,_⟩:=x;exact⟨_,e⟩
 |own y=>exact x
 |xd fs=>obtain⟨_,⟨_,_,_,e,_⟩,_⟩:=x;exact⟨_,e⟩
 |rng lo hi=>obtain⟨_,_,_,e⟩:=x;exact⟨_,e⟩
 |frz ob u=>obtain⟨e,_⟩:=x;exact⟨_,e⟩
 |tbl ps=>exact⟨_,show h.get? a=some _ from x⟩
 |met f y=>exact⟨_,show h.get? a=some _ from x⟩
 |ext φ=>exact x.2.1
abbrev eW:BD:=[.type "ValueError",.type "Exception",.type "BaseException",.type "object"]
theorem Kb{K:ae}{h:Heap}{C:Addr}{bmB:BD}{newId:String}(X:K.In h)(q:cy K C bmB newId=true):
  ∃bm N nm qn bs hdct sn sub ab col dd k0 k1 k2 k3 k5 mN,h.get? C=some (excClassObj nm qn C N bs bm hdct sn sub ab col dd k0 k1 k2 k3 k5 newId)/\h.Ns N mN/\mN "__init__"=none/\OwnTail h bmB bm:=by
 unfold cy at q;split at q
 .rename_i dd cd sl ho
  split at q
  .rename_i C' bm k0 k1 k2 k3 n k5 hm hs
   simp only[ee,beq_iff_eq,j9]at q;obtain⟨⟨⟨⟨⟨z1,z2⟩,hdel⟩,ht⟩,hok⟩,hni⟩:=q;subst z1 z2;obtain⟨nm,bs,mro,ns,qn,hd,sn,sub,ab,col,del⟩:=cd;dsimp only at hm hdel hok hni;subst hm hdel;have hsl:sl=#[k0,k1,k2,k3,some (.builtin n),k5]:=by
    obtain⟨l⟩:=sl;simp only at hs;rw[hs]
   subst hsl;refine⟨bm,ns,nm,qn,bs,hd,sn,sub,ab,col,dd,k0,k1,k2,k3,k5,_,X _ _ ho,.of_isNs (PySem.W.isNs_of_in X hok),PySem.W.nsMap_none_of_in X hok hni,PySem.W.tail_of_in X ht⟩
  .cases q
 .cases q
def aV(P:Program)(w:ao):jG:=λouter H s E e s'=>∃(x C t:Addr)(B:Heap)(H':Hp),e=.ref x/\s'.os=s.os/\ig s'.gens/\Un (cQ outer) [] H H' s.heap s'.heap/\eU P w H' s'.heap/\
 Heap.FlyingW B outer x (.ref C) (.ref t) s'.heap/\(∀b o,s'.heap.get? b=some o->(∃u,H' b=some u)\/(∃o',s.heap.get? b=some o'/\b∉cQ outer)->B.get? b=some o)/\E (.ref C) none H'
theorem B5{P:Program}{w:ao}{K:ae}{mg:Str->BE}{base:Heap}{N:List Str}{qual:Str}{scope:Scope}{f:Addr}{cd:Value}{A:aq}{outer:List bc}{BN:aa}{BO:Hp}{E:XK}
  {x:Str}{C:Addr}{uC:Str}{j:Nat}{np p1 cpos pos:ah}(hg:Gl (aW (aV P w) P w K mg base N qual scope f cd A outer BN BO E) x)(hm:mg x=some (.ref C))(hx:cy K C eW "ValueError.__new__"=true)
  (hd:(x==("__debug__":Str))=false:=by decide):
  PS (aW (aV P w) P w K mg base N qual scope f cd A outer BN BO E) (.Raise (some (.Call (.Name x np) [.Constant (.str uC) j p1] [] cpos)) none pos) (λ_ _ H=>E (.ref C) none H):=by
 intro BM s σ H D I h;obtain⟨bm,Nn,nm,qn,bs,hdct,sn,sub,ab,col,dd,k0,k1,k2,k3,k5,mN,hC,hN,hni,T⟩:=Kb I.ok.mod.kin hx;refine wpAny_Raise_call_subT (C:=C) (nm:=nm) (q:=qn) (N:=Nn) (bs:=bs) (bm:=bm) (hdct:=hdct) (sn:=sn) (sub:=sub) (ab:=ab) (col:=col) (dd:=dd) (k0:=k0) (k1:=k1) (k2:=k2) (k3:=k3) (k5:=k5)
  PySem.F.excBase_ValueError (mN:=mN) (T.hasType (by decide)) (I.ok.hd rfl) rfl hni (oQ I hg hm ⟨rfl,?_⟩ hd)
 refine d7 (bI ((iV Qn nO) cpos BM s σ H (λvs H1=>vs=[.str uC]/\H1=H) I ⟨rfl,rfl⟩) λus s2 q2=>?_);obtain⟨vs,H2,I2,r2,rfl,rfl⟩:=q2;have l2:=r2.length;refine⟨rfl,by rw[<-l2];show 1<=sizeLine;decide,I2.bk _ _ hC,hN.keeps I2.bk,T.keeps I2.bk,λh' e made=>?_⟩
 --the frame is left
 have stk:(aW (aV P w) P w K mg base N qual scope f cd A outer BN BO E).stack=envOfC qual scope BN.heap.objs.size f cd::outer:=rfl;have nfr:∀{b u},H2 b=some u->b∉cQ (envOfC qual scope BN.heap.objs.size f cd::outer):=λ{b u} q z=>by
  rw[I2.stkFree b z]at q;cases q
 have nL:∀{b o},BN.heap.get? b=some o->b∉cQ outer->b∉cQ (envOfC qual scope BN.heap.objs.size f cd::outer):=λ{b o} q z y=>by
  rcases ce.mp (I2.stkSub b y)with g |g
  .exact absurd (cj (ax q) I2.ok.above) (by rw[g];exact gf _)
  .exact z g
 refine wpAny_leaves_madeW (base:=vw s2.heap (cQ (envOfC qual scope BN.heap.objs.size f cd::outer))) (h:=s2.heap) (s:={s2 with heap:=h'}) I2.ok.frames rfl (λb o q=>zm _ q)
  (PySem.W.funFrames_hide I2.stack λenv he b hb=>jw.mpr ⟨env,he,hb⟩) made λh'' t fl tup nb ups=>?_
 have keepB:∀b o,s2.heap.get? b=some o->b∉cQ (envOfC qual scope BN.heap.objs.size f cd::outer)->h''.get? b=some o:=λb o q z=>fl.1 b o (vz _ q z);have upS:∀b o,s2.heap.get? b=some o->(∀vs,o.data≠.fields vs)->∃sl,h''.get? b=some {o with slots:=sl}:=λb o q z=>ups b o (made.keeps b o q) z;refine⟨e,C,t,_,H2,rfl,I2.os,I2.bare,⟨λb o q n hb _=>?_,λb o q n hb _=>?_,λb o q n _=>I2.base.free b o q n (by intro z;cases z),λb o q _=>?_,I2.base.tups,I2.base.frzs,I2.base.tbls⟩,λb u q=>?_,fl,λb o q z=>?_,h⟩
 .exact keepB b o (I2.base.keep b o q n hb (by intro z;cases z)) (nL q hb)
 .obtain⟨sl,g⟩:=I2.base.slot b o q n hb (by intro z;cases z)
  obtain⟨_,o',ho',hd'⟩:=I2.ok.funs.mem hb;have eo:o'=o:=by
   have ho2:BN.heap.get? b=some o':=ho';rw[q]at ho2;exact(cr ho2).symm
  subst eo;obtain⟨sl',g'⟩:=upS b _ g hd';exact⟨sl',g'⟩
 .obtain⟨o',g⟩:=I2.base.there b o q (by intro z;cases z)
  by_cases c:b∈cQ (envOfC qual scope BN.heap.objs.size f cd::outer)
  .obtain⟨_,o2,ho2,hd2⟩:=I2.stack.mem c
   obtain⟨sl,g'⟩:=upS b o2 ho2 hd2;exact⟨_,g'⟩
  .exact⟨o',keepB b o' g c⟩
 .refine(I2.hok b u q).stay (λc v hc g=>keepB c v g ?_) (λ_ g=>g) λ_ _ g=>g
  rcases hc with z |z
  .rw[z]
   exact nfr q
  .exact nfr z
 .have go:∀{o2},s2.heap.get? b=some o2->b∉cQ (envOfC qual scope BN.heap.objs.size f cd::outer)->(vw s2.heap (cQ (envOfC qual scope BN.heap.objs.size f cd::outer))).get? b=some o:=λ{o2} g n=>by
   have:=keepB b o2 g n;have q':h''.get? b=some o:=q;rw[q']at this;cases this;exact vz _ g n
  rcases z with⟨u,z⟩|⟨o',z,nz⟩
  .obtain⟨o2,g⟩:=(I2.hok b u z).has
   exact go g (nfr z)
  .obtain⟨o2,g⟩:=I2.base.there b o' z (by intro z;cases z)
   exact go g (nL z nz)
section
variable{X:Cx}{BM:List (Addr×Obj)}{σ:St}{H H':Hp}{s s':aa}
theorem aO.flown{B h5:Heap}(I:aO X BM σ H s)(os:s'.os=s.os)(bare:ig s'.gens)(un:Un (cQ X.stack) [] H H' s.heap s'.heap)(hok:eU X.prog X.w H' s'.heap)
  (cov:∀b o,s'.heap.get? b=some o->(∃u,H' b=some u)\/(∃o',s.heap.get? b=some o'/\b∉cQ X.stack)->B.get? b=some o)(fr:∀b∈cQ X.stack,H' b=none)
  (st:B.StaysIn h5)(up:s'.heap.UpToSlots h5):aO X BM σ H' {s' with heap:=h5}:=by
 have nofr:∀{b u},H' b=some u->b∉cQ X.stack:=λ{b u} q z=>by
  rw[fr b z]at q;cases q
 have frame:∀b∈cQ X.stack,∃o sl,s.heap.get? b=some o/\H b=none/\h5.get? b=some {o with slots:=sl}:=λb hb=>by
  obtain⟨_,o,ho,hd⟩:=I.stack.mem hb;have hn:=I.stkFree b hb;obtain⟨sl,g⟩:=un.slot b o ho hn hb (by intro z;cases z);obtain⟨sl',g'⟩:=up b _ g hd;exact⟨o,sl',ho,hn,g'⟩
 refine I.call' (s':={s' with heap:=h5}) (ch:=[]) os ⟨λb o q n hb _=>?_,λb o q n hb _=>?_,un.free,λb o q _=>?_,un.tups,un.frzs,un.tbls⟩ (λb u q=>?_) bare λb z=>nomatch z
 .exact st b o (cov b o (un.keep b o q n hb (by intro z;cases z)) (.inr ⟨o,q,hb⟩))
 .obtain⟨o',sl,g1,_,g2⟩:=frame b hb
  rw[q]at g1;cases g1;exact⟨sl,g2⟩
 .by_cases c:b∈cQ X.stack
  .obtain⟨o',sl,_,_,g2⟩:=frame b c
   exact⟨_,g2⟩
  .obtain⟨o',g⟩:=un.there b o q (by intro z;cases z)
   exact⟨o',st b o' (cov b o' g (.inr ⟨o,q,c⟩))⟩
 .refine(hok b u q).stay (λc v hc g=>st c v (cov c v g (.inl ?_))) (λ_ g=>g) λ_ _ g=>g
  rcases hc with z |z
  .exact⟨u,by rw[z];exact q⟩
  .exact⟨_,z⟩
end
section
variable{X:Cx}{k:Nat}{f:Addr}{fd:bi}{ps:List Str}{sp:Sp}{dvs:List V}{ds:BD}{E:XK}{x:Str}{p pos:ah}{e:af}{es:List af}{t:TA}
theorem F4{BM:List (Addr×Obj)}{σ:St}{H:Hp}{s:aa}{Q:VK}{us:BD}{vs:List V}{Ex:Value->aa->Prop}(F:dR X.prog X.w X.K X.mg X.base (aV X.prog X.w) k f fd ps sp)(hr:dE k X.A)(hb:gO X.K fd ps ds)(hd:bK dvs ds)
  (I:aO X BM σ H s)(r:bK vs us)(h:sp (vs++dvs) H Q E)(hx:∀e s',aV X.prog X.w X.stack H s E e s'->Ex e s'):wpAny (model X.prog X.w) X.A (call (.ref f) us) (EP X BM σ Q) Ex s:=by
 have r2:bK (vs++dvs) (us++ds):=r.append hd;have hl:(us++ds).length=ps.length:=by rw[<-r2.length];exact F.len _ _ _ _ h
 refine wpAny_call (mj (F.run X.A X.stack s H ⟨us,[]⟩ (us++ds) (vs++dvs) Q E hr I.env0 (hb s us I.kIn hl) r2 h) λrr s' hq=>?_);cases rr with
 |error e=>exact hx e s' hq
 |ok fl=>
  cases fl with
  |ret u=>exact I.after hq
  |next=>exact fj hq
  |brk=>exact fj hq
  |cont=>exact fj hq
theorem Lz{BM:List (Addr×Obj)}{σ:St}{H:Hp}{s:aa}{Q:VK}{Ex:Value->aa->Prop}(hxe:X.xe=λ_ _=>False)(F:dR X.prog X.w X.K X.mg X.base (aV X.prog X.w) k f fd ps sp)(hr:dE k X.A)(hg:Gl X x)(hm:X.mg x=some (.ref f))(hk:dl X.K (.ref f)=true)
  (hb:gO X.K fd ps ds)(hd:bK dvs ds)(ha:PA X (e::es) t)(I:aO X BM σ H s)(h:t σ H λvs H1=>sp (vs++dvs) H1 Q E)
  (hx:∀s1 H1 e s',aO X BM σ H1 s1->aV X.prog X.w X.stack H1 s1 E e s'->Ex e s')
  (hdb:(x==("__debug__":Str))=false:=by decide)(he:starEach (e::es) X.env=(false,eval e X.env)::starEach es X.env:=by rfl)(hpl:(backTo pos (starEach es X.env)).any (·.1)=false:=by rfl):
  wpAny (model X.prog X.w) X.A (eval (.Call (.Name x p) (e::es) [] pos) X.env) (EP X BM σ Q) Ex s:=by
 refine rl (oQ I hg hm ?_ hdb);refine zx (h₀:=X.base) I.ok.mod.kin hk (dh (ha pos BM s σ H _ I h) (λus s1 q1=>?_) λ_ _ z=>?_) he hpl
 .obtain⟨vs,H1,I1,r,q⟩:=q1
  exact⟨I1.kIn,F4 F hr hb hd I1 r q λe s' c=>hx s1 H1 e s' I1 c⟩
 .rw[hxe]at z
  exact z.elim
end
section
variable{P:Program}{w:ao}{K:ae}{mg:Str->BE}{base:Heap}{CX:jG}
theorem jI.okX{x qual:Str}{st:Stmt}{f:Addr}{fd:bi}{N ps:List Str}{k:Nat}{sp:Sp}(F:jI K x qual st f fd)(S:jM N ps (cS st))(len:∀vs H Q E,sp vs H Q E->vs.length=ps.length)
  (hbody:∀(cdv:Value)(A:aq)(outer:List bc)(s:aa)(H:Hp)(vs:List V)(Q:VK)(E:XK),dE k (A.deeper (envOfC qual (cS st) s.heap.objs.size f cdv))->sp vs H Q E->
   ∃t,fJ (aW CX P w K mg base N qual (cS st) f cdv A outer s H E) (eH st) t/\t {nx:=λ_ H'=>Q .non H',rt:=Q} (start N vs) H):dR P w K mg base CX (k+1) f fd ps sp:=by
 obtain⟨oc,od,kV,doc,pm,an,cdv,ct,osl,rfl,lk,hcd⟩:=F.ex;exact Fd lk hcd S len λA outer s H vs Q E hr hsp=>hbody cdv A outer s H vs Q E hr hsp
theorem mO.okX{x qual:Str}{st:Stmt}{f:Addr}{fd:bi}{ds:Array Value}{N ps:List Str}{k:Nat}{sp:Sp}(F:mO K x qual st f fd ds)(S:jM N ps (cS st))(len:∀vs H Q E,sp vs H Q E->vs.length=ps.length)
  (hbody:∀(cdv:Value)(A:aq)(outer:List bc)(s:aa)(H:Hp)(vs:List V)(Q:VK)(E:XK),dE k (A.deeper (envOfC qual (cS st) s.heap.objs.size f cdv))->sp vs H Q E->
   ∃t,fJ (aW CX P w K mg base N qual (cS st) f cdv A outer s H E) (eH st) t/\t {nx:=λ_ H'=>Q .non H',rt:=Q} (start N vs) H):dR P w K mg base CX (k+1) f fd ps sp:=by
 obtain⟨oc,od,T,oT,n,kV,doc,pm,an,cdv,ct,osl,rfl,lk,hcd,_,_⟩:=F.ex;exact Fd lk hcd S len λA outer s H vs Q E hr hsp=>hbody cdv A outer s H vs Q E hr hsp
end
theorem aaZ{P:Program}{w:ao}{K:ae}{mg:Str->BE}{base:Heap}{N:List Str}{qual:Str}{scope:Scope}{f:Addr}{cd:Value}{A:aq}{outer:List bc}{BN:aa}{BO:Hp}{E:XK}:
  jP (aV P w) (aW (aV P w) P w K mg base N qual scope f cd A outer BN BO E) E:=by
 intro BM σ H s e s' I c;obtain⟨x,C,t,B,H',rfl,os,bare,un,hok,fl,cov,hE⟩:=c;have fr:∀b∈cQ (aW (aV P w) P w K mg base N qual scope f cd A outer BN BO E).stack,H' b=none:=λb hb=>by
  obtain⟨_,o,ho,hd⟩:=I.stack.mem hb;exact un.free b o ho (I.stkFree b hb) (by intro z;cases z)
 have nL:∀{b o},BN.heap.get? b=some o->b∉cQ outer->b∉cQ (envOfC qual scope BN.heap.objs.size f cd::outer):=λ{b o} q z y=>by
  rcases ce.mp (I.stkSub b y)with g |g
  .exact absurd (cj (ax q) I.ok.above) (by rw[g];exact gf _)
  .exact z g
 refine wpAny_leaves_onW (base:=B) I.ok.frames rfl fl λh' fl' up=>?_;have I5:=I.flown os bare un hok cov fr fl'.1 up;refine⟨x,C,t,B,H',rfl,os.trans I.os,bare,I5.base,I5.hok,fl',λb o q z=>?_,hE⟩;have go:∀{o2},B.get? b=some o2->B.get? b=some o:=λ{o2} g=>by
  have:=fl'.1 b o2 g;have q':h'.get? b=some o:=q;rw[q']at this;cases this;exact g
 rcases z with⟨u,z⟩|⟨o',z,nz⟩
 .obtain⟨o2,g⟩:=(hok b u z).has
  exact go (cov b o2 g (.inl ⟨u,z⟩))
 .obtain⟨o2,g⟩:=I.base.there b o' z (by intro z;cases z)
  obtain⟨o3,g3⟩:=un.there b o2 g (by intro z;cases z);exact go (cov b o3 g3 (.inr ⟨o2,g,nL z nz⟩))
section
variable{X:Cx}{BM:List (Addr×Obj)}{σ:St}{H:Hp}{s:aa}
theorem mX{M:gh}{A:aq}{E:Value->aa->Prop}{i:Nat}{n:Str}{pos:ah}{Q:Unit->aa->Prop}(I:aO X BM σ H s)(hN:X.N.Nodup)(hi:X.N[i]?=some n)(hk:X.env.scope.names.lookup n=some .local)
  (h:∀s',aO X BM (σ.set i none) H s'->Q () s'):wpAny M A (do bindName X.env n cw;unbindBehindTheSuite X.env n pos) Q E s:=by
 obtain⟨m,hn,hl⟩:=id I.loc;have hcls:(X.env.scope.kind== .class||(X.env.scope.kind== .module&&X.env.locals !=X.env.globals))=false:=by rw[I.ok.kind];rfl
 have hiσ:i<σ.length:=by rw[I.len];exact(dj.mp hi).1
 have cne:=I.cne;refine wpAny_nameGoes_keeps hk hn hcls λh' v hn' hs=>?_;obtain⟨oL,_,_,hoL,_⟩:=id hn;refine h _ ⟨I.ok,I.os,I.bare,⟨λb o e n hb hx=>?_,λb o e n hb hx=>?_,I.base.free,λb o e hx=>?_,I.base.tups,I.base.frzs,I.base.tbls⟩,⟨_,hn',λj y v' e1 e2 e3=>?_⟩,λy c e=>?_,I.free,I.freeC,λp hp=>?_,λb ob e=>?_,by simpa using I.len⟩
 .exact(hs.2 b (db (cj (ax e) I.ok.above))).trans (I.base.keep b o e n hb hx)
 .obtain⟨sl,e1⟩:=I.base.slot b o e n hb hx
  exact⟨sl,(hs.2 b (db (cj (ax e) I.ok.above))).trans e1⟩
 .obtain⟨o',e1⟩:=I.base.there b o e hx
  exact⟨o',(hs.2 b (db (cj (ax e) I.ok.above))).trans e1⟩
 .by_cases hj:j=i
  .subst hj
   rw[ix hiσ]at e2;cases e2
  .rw[ju (iw hj)]at e2
   obtain⟨u',r',q⟩:=hl j y v' e1 e2 e3;refine⟨u',r',?_⟩;rcases q with⟨k,e⟩|⟨k,c,e,z⟩
   .refine .inl ⟨k,?_⟩
    have:y≠n:=λe=>hj (Va hN e1 (e▸hi));simp[this,e]
   .exact .inr ⟨k,c,e,z.sameBut hs (cne y c e)⟩
 .obtain⟨w',z⟩:=I.cell y c e
  exact⟨w',z.sameBut hs (cne y c e)⟩
 .obtain⟨e,n,ne,nf,d⟩:=I.pin p hp
  exact⟨(hs.2 p.1 ne).trans e,n,ne,nf,d⟩
 .refine(I.hok b ob e).stay (λc w' hc q=>(hs.2 c ?_).trans q) (λ_ q=>q) λ_ _ q=>q
  have hfree:=I.free
  rintro rfl
  rcases hc with rfl |hc
  .rw[hfree]at e;cases e
  .rw[hfree]at hc;cases hc
end
abbrev Cx.mk1(X:Cx)(x:Addr)(l:List (Addr×Obj)):Cx:={X with A:=X.A.mark (some (.ref x)),calm:=false,pn:=l++X.pn,xe:=λ_ _=>False}
section
variable{X:Cx}{BM:List (Addr×Obj)}{σ:St}{H:Hp}{s:aa}
theorem Cx.Ok.mk1(ok:X.Ok)(x:Addr)(l:List (Addr×Obj)):(X.mk1 x l).Ok:=
 ⟨ok.mod,ok.kind,ok.glob,ok.blt,ok.above,ok.inj,ok.has,ok.cab,λz=>(by cases z),ok.frames,ok.stk,ok.exf,ok.bs,ok.bsz,ok.noex,ok.exfs,ok.funs,ok.frf⟩
theorem aO.mk1(I:aO X BM σ H s)(x:Addr)(l:List (Addr×Obj))(h:∀p∈l,s.heap.get? p.1=some p.2/\H p.1=none/\p.1≠X.env.locals/\p.1∉X.fs/\∀v,p.2.data≠.cell v):aO (X.mk1 x l) BM σ H s:=
 ⟨I.ok.mk1 x l,I.os,I.bare,I.base,I.loc,I.cell,I.free,I.freeC,λp hp=>by
  rw[ko]at hp;exact(cu.mp hp).elim (h p) (I.pin p),I.hok,I.len⟩
theorem aO.unmk1{x:Addr}{l:List (Addr×Obj)}(ok:X.Ok)(I:aO (X.mk1 x l) BM σ H s):aO X BM σ H s:=
 ⟨ok,I.os,I.bare,I.base,I.loc,I.cell,I.free,I.freeC,λp hp=>I.pin p (by rw[ko];exact ck _ hp),I.hok,I.len⟩
end
theorem Lb{a b c:Heap}(h1:a.UpToSlots b)(h2:b.UpToSlots c):a.UpToSlots c:=λx o q d=>by
 obtain⟨sl,g⟩:=h1 x o q d;obtain⟨sl',g'⟩:=h2 x _ g d;exact⟨sl',g'⟩
section
variable{X:Cx}{k:Nat}{f:Addr}{fd:bi}{ps:List Str}{sp:Sp}{dvs:List V}{ds:BD}{x:Str}{p pos pos1 pos2 pos3 pc:ah}{e:af}{es:List af}{t:TA}{c n:Str}{C:Addr}{i:Nat}{BR:Stmt}{body:List Stmt}{newId:String}
end
open PySem.W PySem.Calls PySem.Builtin PySem.Builtin.Getset_descriptor
section
variable{prog:Program}{w:ao}{A:aq}{E:Value->aa->Prop}{s:aa}{K:ae}{x D:Addr}{B:String}{R:mf->aa->Prop}
def mH(h:Heap)(x D:Addr):Prop:=∃o,h.get? x=some o/\o.cls=.ref D
theorem mH.ty{M:gh}{h:Heap}(I:mH h x D):ni M h (typeOf (.ref x)) (.ref D):=by
 obtain⟨o,h1,h2⟩:=I;rw[<-h2];exact(yc h1).andThen .now
structure jZ(K:ae)(D:Addr):Prop where
 ga:findIn K (.ref D) "__getattribute__"=some (some (.builtin "BaseException.__getattribute__"))
 gt:findIn K (.ref D) "__getattr__"=some none
 be:mroIn K D (.type "BaseException")=some true
 ob:mroIn K D (.type "object")=some true
 cl:findIn K (.ref D) "__class__"=some (some (.builtin "object.__class__"))
 sp:specialIn K (.builtin "object.__class__") "__get__"=some (some (.builtin "getset_descriptor.__get__"))
 tk:takesIn K (.builtin "object.__class__")=some true
 ci:(clsIn K D).isSome=true
theorem A9{M:gh}{h:Heap}(Z:jZ K D)(X:K.In h):ni M h (AU (.ref x) (.ref D) "__class__") (.bind (.builtin "getset_descriptor.__get__") (.builtin "object.__class__")):=by
 have d:ni M h (AX (some (.builtin "object.__class__")) (some (.builtin "getset_descriptor.__get__"))) (some (.builtin "getset_descriptor.__get__",.builtin "object.__class__")):=
  (looks_takesIn X Z.tk).andThen .now
 have g:ni M h (AY (some (.builtin "object.__class__"))) (some (.builtin "getset_descriptor.__get__")):=looks_specialIn X Z.sp;exact(yd X Z.cl).andThen (g.andThen (d.andThen (Looks.tag .now)))
theorem K7{tp:Value}(Z:jZ K D)(X:K.In s.heap)(I:mH s.heap x D)(h:R (.ok (.ret (.ref D))) s):
  codeAny (model prog w) A (.call (.builtin "getset_descriptor.__get__") ⟨[.builtin "object.__class__",.ref x,tp],[]⟩) R s:=by
 obtain⟨hh,g,dr,t,os⟩:=s;have l0:=I.ty (M:=model prog w);have l1:=ua (M:=model prog w) X Z.ob;refine k7 KF.slot_gs.plain KF.entry_gs
  (KF.slot_gs.check _ _ _ _ _ _ _ _ KF.type_class (KF.args_gs _ _ _) ?_)
 unfold Builtin.«getset_descriptor.__get__» descrGet;rw[dga_obj];refine ag (au ?_);unfold descrGetter descrCheckInstance descrNameAndClass isInstance;simp only[KF.owner_class];repeat lk
 refine⟨Code.quiet_builtin _ (by decide+kernel),
  codeAny_builtin KF.entry_class ?_⟩
 unfold Builtin.«object.__class__» shownTypeOf;repeat lk
 exact h
theorem aaq{tk:dk}(FB:ye B)(Z:jZ K D)(X:K.In s.heap)(I:mH s.heap x D)(h:R (.ok (.ret (.ref D))) s):
  codeAny (model prog w) A (.call (.builtin "BaseException.__getattribute__") ⟨[.ref x,.str "__class__" tk],[]⟩) R s:=by
 obtain⟨hh,g,d,t,os⟩:=s;have l0:=I.ty (M:=model prog w);have lb:=ua (M:=model prog w) X Z.be;have l1:=A9 (M:=model prog w) (x:=x) Z X;refine k7 FB.ga.plain F.entry_bexc_ga ?_;have e1:builtinKind "BaseException.__getattribute__"=some .slot:=by decide+kernel
 have e2:splitId "BaseException.__getattribute__"=some ("BaseException","__getattribute__"):=by decide+kernel
 have ha:=F.args_bexc_ga (.ref x) (.str "__class__" tk);simp only[checkBuiltinCall,e1,e2];refine ag ?_;unfold isInstance;refine ag (l0.at (lb.at ?_))
 repeat (any_goals (first |wp_step))
 obtain⟨o,h1,h2⟩:=id I;refine wpAny_loadPart h1 (au ?_);rw[h2];refine ag (l1.at ?_);unfold AZ
 repeat (any_goals (first |wp_step))
 exact K7 Z X I (au h)
theorem Rw{Q:BE->aa->Prop}(FB:ye B)(Z:jZ K D)(X:K.In s.heap)(I:mH s.heap x D)(h:Q (some (.ref D)) {s with toks:=s.toks+1}):
  wpAny (model prog w) A (getAttr? (.ref x) "__class__") Q E s:=by
 obtain⟨hh,g,d,t,os⟩:=s;have l0:=I.ty (M:=model prog w);have l1:=yd (M:=model prog w) X Z.ga;have l2:=yd (M:=model prog w) X Z.gt;have f3:=FB.ga.bind (.ref x);have e2:(k8 "BaseException.__getattribute__"==k8 "object.__getattribute__")=false:=by decide+kernel
 unfold getAttr? getAttrBy? getAttrBy;refine ag (wpAny_mkText (ag (qm (fe (ag (l0.at (ag (l1.at ?_))))))));dsimp only;rw[e2];simp only[yf,ox,if_false];unfold getAttrByItsOwn hookBefore onTheHeap;simp only[if_true];refine ag (l2.at ?_)
 repeat (any_goals (first |assumption |wp_step))
 refine aaq (s:=⟨hh,g,d,t+1,os⟩) FB Z X I ?_;exact handed_on rfl (au h)
theorem Vj(FB:ye B)(Z:jZ K D):KitX K (.ref x) (.ref D) (λh=>mH h x D) where
 ty:=λ_ _ _ I=>I.ty
 it:=λ_ _ X _=>by
  obtain⟨cd,hc⟩:=rm.mp Z.ci;unfold clsIn at hc;split at hc
  .rename_i _ _ _ _ ho
   exact(yc (X _ _ ho)).andThen .now
  .cases hc
 ne:=λh tp dd its n sl X htp=>by
  obtain⟨cd,hc⟩:=rm.mp Z.ci;cases q:(dw D==dw tp)with
  |false=>rfl
  |true=>
   cases Value.ref.inj (beq_iff_eq.mp q);unfold clsIn at hc;split at hc
   .rename_i _ _ _ _ ho
    cases(X _ _ ho).symm.trans htp
   .cases hc
 ca:=λX I k=>Rw FB Z X I k
end
section
variable{X:Cx}{y D:Addr}{oe:Obj}
theorem Jb(Z:jZ X.K D)(hp:(y,oe)∈X.pn)(hc:oe.cls=.ref D):iB X (.builtin "isinstance") (λxs H Q=>∃c b,((∃n,c=V.ty n/\gj X.K (.ref D) (.type n)=some b)\/∃C,c=V.ref C/\gj X.K (.ref D) (.ref C)=some b)/\xs=[.ref y,c]/\Q (.bl b) H):=by
 intro BM s σ H xs us Q I r h;obtain⟨c,b,e,rfl,q⟩:=h;obtain⟨u,c',rfl,rx,rc⟩:=Td r;cases(show u=dw y from rx);have of:mH s.heap y D:=⟨oe,(I.pin _ (jt _ hp)).1,hc⟩;rcases e with⟨n,rfl,e⟩|⟨C,rfl,e⟩
 .cases(show c'=kg n from rc)
  exact fk (Vj k9 Z) I.kIn of e (by intro q;cases q) λtk=>⟨.bl b,H,I.tok tk,rfl,q⟩
 .cases(show c'=dw C from rc)
  exact fk (Vj k9 Z) I.kIn of e (by intro q;cases q) λtk=>⟨.bl b,H,I.tok tk,rfl,q⟩
end
def hF(l:BA):Int:=reduceHash (l5 (l.map hashInt))
def hN(l:BB):Int:=reduceHash (l5 (l.map hF))
section
variable{prog:Program}{w:ao}{A:aq}{E:Value->aa->Prop}{s:aa}{h h':Heap}{a b d:Addr}
end
def rE:Bool->Type
 |false=>BA
 |true=>BB
instance decK:(n:Bool)->DecidableEq (rE n)
 |false=>inferInstanceAs (DecidableEq BA)
 |true=>inferInstanceAs (DecidableEq BB)
def aa0:(n:Bool)->rE n->Int
 |false=>hF
 |true=>hN
end L2
namespace L2.Pp
open PySem PySem.Spec PyProof.Rows Bn
section
inductive PV where
 |non |bl (b:Bool) |int (i:Int) |str (x:Str) |tup (xs:List PV) |lst (xs:List PV)
abbrev BH:=List PV
abbrev BI:=Option PV
inductive SO where
 |lst (xs:BH)
 |lol (xss:List BH)
 |dic (n:Bool) (kvs:List (PV×PV))
 |dol (n:Bool) (kvs:List (PV×BH))
abbrev aQ:=List SO
inductive AV where
 |pv (v:PV) |ref (k:Nat)
abbrev BJ:=Option AV
abbrev BK:=List AV
abbrev cA:=List BJ
inductive bT(α:Type) where
 |ok (a:α) (S:aQ) |exc (n:Str) (S:aQ) |fail
def bT.bind{α β:Type}(r:bT α)(k:α->aQ->bT β):bT β:=match r with
 |.ok a S=>k a S
 |.exc n S=>.exc n S
 |.fail=>.fail
inductive cU where
 |nx (ρ:cA) (S:aQ) |rt (v:AV) (S:aQ) |bk (ρ:cA) (S:aQ) |ct (ρ:cA) (S:aQ) |exc (n:Str) (S:aQ) |fail
def kD(K:ae)(c:Addr->Prop)(H:Hp)(a:Addr)(vs:List V):Prop:=
 (H a=some (.lst vs)/\¬c a)\/(∃o,H a=some (.frz o (.lst vs)))\/
  ∃(o:Obj)(its:Array Value)(n:Nat),K.lookup a=some o/\o.cls=.type "list"/\o.dict=none/\o.data=.seq its n/\its.size<=sizeLine/\bK vs its.toList
theorem kD.sq{K:ae}{c:Addr->Prop}{H:Hp}{a:Addr}{vs:List V}(h:kD K c H a vs):cK K H a vs:=by
 rcases h with h |h |h
 .exact .inl (.inl h.1)
 .exact .inl (.inr h)
 .exact .inr h
mutual
def bC(K:ae)(c:Addr->Prop)(H:Hp):PV->V->Prop
 |.non,x=>x=.non
 |.bl b,x=>x=.bl b
 |.int i,x=>x=.int i
 |.str s,x=>x=.str s
 |.tup xs,x=>∃a vs,x=.ref a/\dJ K H a vs/\vs.length<=sizeLine/\bB K c H xs vs
 |.lst xs,x=>∃a vs,x=.ref a/\kD K c H a vs/\vs.length<=sizeLine/\bB K c H xs vs
def bB(K:ae)(c:Addr->Prop)(H:Hp):BH->List V->Prop
 |[],vs=>vs=[]
 |p::ps,vs=>∃v r,vs=v::r/\bC K c H p v/\bB K c H ps r
end
section
variable{K:ae}{c c':Addr->Prop}{H H':Hp}
mutual
theorem bC.mono(hT:∀a vs,dJ K H a vs->dJ K H' a vs)(hL:∀a vs,kD K c H a vs->kD K c' H' a vs):∀(v:PV)(x:V),bC K c H v x->bC K c' H' v x
 |.non,x,h=>h
 |.bl b,x,h=>h
 |.int i,x,h=>h
 |.str s,x,h=>h
 |.tup xs,x,h=>by
  unfold bC at h⊢;obtain⟨a,vs,e,t,z,r⟩:=h;exact⟨a,vs,e,hT a vs t,z,bB.mono hT hL xs vs r⟩
 |.lst xs,x,h=>by
  unfold bC at h⊢;obtain⟨a,vs,e,t,z,r⟩:=h;exact⟨a,vs,e,hL a vs t,z,bB.mono hT hL xs vs r⟩
theorem bB.mono(hT:∀a vs,dJ K H a vs->dJ K H' a vs)(hL:∀a vs,kD K c H a vs->kD K c' H' a vs):∀(v:BH)(x:List V),bB K c H v x->bB K c' H' v x
 |[],vs,h=>by
  unfold bB at h⊢;exact h
 |p::ps,vs,h=>by
  unfold bB at h⊢;obtain⟨v,r,e,h1,h2⟩:=h;exact⟨v,r,e,bC.mono hT hL p v h1,bB.mono hT hL ps r h2⟩
end
theorem bB.length:∀{xs:BH}{vs:List V},bB K c H xs vs->xs.length=vs.length
 |[],vs,h=>by
  unfold bB at h;rw[h];rfl
 |p::ps,vs,h=>by
  unfold bB at h;obtain⟨v,r,rfl,_,h2⟩:=h;rw[br,br,bB.length h2]
theorem bB.get:∀{xs:BH}{vs:List V}{i:Nat}{p:PV},bB K c H xs vs->xs[i]?=some p->∃v,vs[i]?=some v/\bC K c H p v
 |[],vs,i,p,h,e=>by simp at e
 |q::ps,vs,0,p,h,e=>by
  unfold bB at h;obtain⟨v,r,rfl,h1,_⟩:=h;simp at e;subst e;exact⟨v,rfl,h1⟩
 |q::ps,vs,i+1,p,h,e=>by
  unfold bB at h;obtain⟨v,r,rfl,_,h2⟩:=h;obtain⟨u,e1,e2⟩:=bB.get (i:=i) h2 (by simpa using e);exact⟨u,by simpa using e1,e2⟩
theorem bB.nil:bB K c H [] []:=by
 unfold bB;rfl
theorem bB.cons{p:PV}{v:V}{ps:BH}{vs:List V}(h:bC K c H p v)(t:bB K c H ps vs):bB K c H (p::ps) (v::vs):=by
 unfold bB;exact⟨v,vs,rfl,h,t⟩
theorem bB.append:∀{xs ys:BH}{vs ws:List V},bB K c H xs vs->bB K c H ys ws->bB K c H (xs++ys) (vs++ws)
 |[],ys,vs,ws,h,g=>by
  unfold bB at h;subst h;exact g
 |p::ps,ys,vs,ws,h,g=>by
  unfold bB at h;obtain⟨v,r,rfl,h1,h2⟩:=h;exact .cons h1 (h2.append g)
theorem bB.drop:∀{xs:BH}{vs:List V}(n:Nat),bB K c H xs vs->bB K c H (xs.drop n) (vs.drop n)
 |xs,vs,0,h=>by simpa using h
 |[],vs,n+1,h=>by
  unfold bB at h;subst h;simpa using bB.nil
 |p::ps,vs,n+1,h=>by
  unfold bB at h;obtain⟨v,r,rfl,_,h2⟩:=h;simpa using h2.drop n
theorem bB.take:∀{xs:BH}{vs:List V}(n:Nat),bB K c H xs vs->bB K c H (xs.take n) (vs.take n)
 |xs,vs,0,h=>by simpa using bB.nil
 |[],vs,n+1,h=>by
  unfold bB at h;subst h;simpa using bB.nil
 |p::ps,vs,n+1,h=>by
  unfold bB at h;obtain⟨v,r,rfl,h1,h2⟩:=h;simpa using bB.cons h1 (h2.take n)
theorem bB.eraseIdx:∀{xs:BH}{vs:List V}(n:Nat),bB K c H xs vs->bB K c H (xs.eraseIdx n) (vs.eraseIdx n)
 |[],vs,n,h=>by
  unfold bB at h;subst h;simpa using bB.nil
 |p::ps,vs,0,h=>by
  unfold bB at h;obtain⟨v,r,rfl,h1,h2⟩:=h;simpa using h2
 |p::ps,vs,n+1,h=>by
  unfold bB at h;obtain⟨v,r,rfl,h1,h2⟩:=h;simpa using bB.cons h1 (h2.eraseIdx n)
theorem bB.set{p:PV}{v:V}(g:bC K c H p v):∀{xs:BH}{vs:List V}(n:Nat),bB K c H xs vs->bB K c H (xs.set n p) (vs.set n v)
 |[],vs,n,h=>by
  unfold bB at h;subst h;simpa using bB.nil
 |q::ps,vs,0,h=>by
  unfold bB at h;obtain⟨v,r,rfl,h1,h2⟩:=h;simpa using bB.cons g h2
 |q::ps,vs,n+1,h=>by
  unfold bB at h;obtain⟨v,r,rfl,h1,h2⟩:=h;simpa using bB.cons h1 (bB.set g n h2)
end
structure Ph where
 f:List Addr
 w:Addr->Prop
 c:Addr->Prop
def xK(K:ae)(c:Addr->Prop)(H:Hp)(xss:List BH)(bs:List Addr):Prop:=
 xss.length=bs.length/\∀(i:Nat)(xs:BH)(b:Addr),xss[i]?=some xs->bs[i]?=some b->∃vs,H b=some (.lst vs)/\vs.length<=sizeLine/\bB K c H xs vs
def ab5:(n:Bool)->rE n->PV
 |false,l=>.tup (List.map PV.int l)
 |true,l=>.tup (List.map (λr:BA=>PV.tup (r.map PV.int)) l)
def oD(es:Array DictEntry)(ep:Nat):Obj:={cls:=.type "dict",data:=.dict es ep}
def dO(a:Addr)(es:Array DictEntry)(ep:Nat):HO:=.ext λh=>h.get? a=some (oD es ep)
def enK(n:Bool)(x:rE n×Addr×Value):DictEntry:=⟨aa0 n x.1,.ref x.2.1,x.2.2⟩
def uE(K:ae)(c:Addr->Prop)(H:Hp)(a:Addr)(n:Bool)(ks:BH)(us:BD):Prop:=
 ∃(xs:List (rE n×Addr×Value))(ep:Nat),H a=some (dO a (xs.map (enK n)).toArray ep)/\(a==sysModules)=false/\xs.length<=sizeLine/\(xs.map (·.1)).Nodup/\ks=xs.map (λx=>ab5 n x.1)/\bB K c H ks (xs.map λx=>V.ref x.2.1)/\us=xs.map (·.2.2)
def yB(K:ae)(p:Ph)(H:Hp)(a:Addr):SO->Prop
 |.lst xs=>∃vs,H a=some (.lst vs)/\vs.length<=sizeLine/\bB K p.c H xs vs
 |.lol xss=>∃bs:List Addr,H a=some (.lst (bs.map V.ref))/\bs.length<=sizeLine/\bs.Nodup/\(∀b∈bs,p.w b/\b∉p.f)/\xK K p.c H xss bs
 |.dic n kvs=>∃us vs,uE K p.c H a n (kvs.map (·.1)) us/\bK vs us/\bB K p.c H (kvs.map (·.2)) vs
 |.dol n kvs=>∃bs:List Addr,uE K p.c H a n (kvs.map (·.1)) (bs.map dw)/\bs.Nodup/\(∀b∈bs,p.w b/\b∉p.f)/\xK K p.c H (kvs.map (·.2)) bs
theorem uE.mono{K:ae}{c c':Addr->Prop}{H H':Hp}{a:Addr}{n:Bool}{ks:BH}{us:BD}(h:uE K c H a n ks us)(ha:∀o,H a=some o->H' a=some o)(hR:∀xs vs,bB K c H xs vs->bB K c' H' xs vs):uE K c' H' a n ks us:=by
 obtain⟨xs,ep,e,z,l,nd,ek,r,eu⟩:=h;exact⟨xs,ep,ha _ e,z,l,nd,ek,hR _ _ r,eu⟩
theorem yB.mono{K:ae}{p p':Ph}{H H':Hp}{a:Addr}{o:SO}(h:yB K p H a o)(ha:∀o,H a=some o->H' a=some o)
  (hb:∀b,p.w b->b∉p.f->(p'.w b/\b∉p'.f)/\∀vs,H b=some (.lst vs)->H' b=some (.lst vs))(hR:∀xs vs,bB K p.c H xs vs->bB K p'.c H' xs vs):yB K p' H' a o:=by
 have lol:∀{xss:List BH}{bs:List Addr},(∀b∈bs,p.w b/\b∉p.f)->xK K p.c H xss bs->xK K p'.c H' xss bs:=λwf ⟨z,at_⟩=>⟨z,λi xs b e1 e2=>by
  obtain⟨vs,g1,g2,g3⟩:=at_ i xs b e1 e2;have m:=wf b (fm e2);exact⟨vs,(hb b m.1 m.2).2 vs g1,g2,hR xs vs g3⟩⟩
 cases o with
 |lst xs=>
  obtain⟨vs,e,l,r⟩:=h;exact⟨vs,ha _ e,l,hR xs vs r⟩
 |lol xss=>
  obtain⟨bs,e,l,nd,wf,z⟩:=h;exact⟨bs,ha _ e,l,nd,λb m=>(hb b (wf b m).1 (wf b m).2).1,lol wf z⟩
 |dic n kvs=>
  obtain⟨us,vs,d,v,r⟩:=h;exact⟨us,vs,d.mono ha hR,v,hR _ _ r⟩
 |dol n kvs=>
  obtain⟨bs,d,nd,wf,z⟩:=h;exact⟨bs,d.mono ha hR,nd,λb m=>(hb b (wf b m).1 (wf b m).2).1,lol wf z⟩
def Mb:HO->Prop
 |.lst _=>True
 |.dK _=>True
 |.dT _=>True
 |.ins _ _ _=>True
 |.ext _=>True
 |_=>False
structure bG(K:ae)(p:Ph)(S:aQ)(H:Hp):Prop where
 nd:p.f.Nodup
 len:p.f.length=S.length
 sub:∀a∈p.f,p.w a
 wc:∀a,p.w a->p.c a
 mu:∀a,p.c a->∃o,H a=some o/\Mb o
 obj:∀(k:Nat)(a:Addr)(o:SO),p.f[k]?=some a->S[k]?=some o->yB K p H a o
structure cF(p:Ph)(H:Hp)(q:Ph)(H':Hp):Prop where
 wc:∀a,p.w a->p.c a
 mu:∀a,p.c a->∃o,H a=some o/\Mb o
 pre:p.f <+:q.f
 mw:∀a,p.w a->q.w a
 mono:∀a,p.c a->q.c a
 nf:∀a∈q.f,a∉p.f->H a=none
 nw:∀a,q.w a->¬p.w a->H a=none
 nc:∀a,q.c a->¬p.c a->H a=none
 keep:∀a o,H a=some o->¬p.w a->H' a=some o
def cJ(K:ae)(p:Ph)(H:Hp):AV->V->Prop
 |.pv v,x=>bC K p.c H v x
 |.ref k,x=>∃a,p.f[k]?=some a/\x=.ref a
abbrev iK(K:ae)(p:Ph)(H:Hp):BK->List V->Prop:=lh (cJ K p H)
structure dC(K:ae)(p:Ph)(H:Hp)(ρ:cA)(σ:St):Prop where
 len:ρ.length=σ.length
 at_:∀(i:Nat)(v:AV),ρ[i]?=some (some v)->∃x,σ[i]?=some (some x)/\cJ K p H v x
section
variable{K:ae}{p q r:Ph}{H H' H'':Hp}{S:aQ}
theorem bG.step(s:bG K p S H):cF p H p H:=⟨s.wc,s.mu,oy,λ_ h=>h,λ_ h=>h,λ_ h g=>absurd h g,λ_ h g=>absurd h g,λ_ h g=>absurd h g,λ_ _ h _=>h⟩
theorem cF.trans(a:cF p H q H')(b:cF q H' r H''):cF p H r H'':=by
 have back:∀x,H' x=none->¬p.w x->H x=none:=λx h n=>by
  cases e:H x with
  |none=>rfl
  |some o=>rw[a.keep x o e n]at h;cases h
 refine⟨a.wc,a.mu,a.pre.trans b.pre,λx h=>b.mw x (a.mw x h),λx h=>b.mono x (a.mono x h),λx h n=>?_,λx h n=>?_,λx h n=>?_,λx o e n=>?_⟩
 .by_cases m:x∈q.f
  .exact a.nf x m n
  .have hn:=b.nf x h m
   refine back x hn λz=>?_;obtain⟨o,ho,_⟩:=b.mu x (a.mono x (a.wc x z));rw[hn]at ho;cases ho
 .by_cases m:q.w x
  .exact a.nw x m n
  .exact back x (b.nw x h m) n
 .by_cases m:q.c x
  .exact a.nc x m n
  .exact back x (b.nc x h m) λz=>n (a.wc x z)
 .refine b.keep x o (a.keep x o e n) λz=>?_
  rw[a.nw x z n]at e;cases e
theorem cF.tup(s:cF p H q H'){a:Addr}{vs:List V}(h:dJ K H a vs):dJ K H' a vs:=by
 have go:∀o,H a=some o->¬Mb o->H' a=some o:=λo e n=>s.keep a o e λz=>by
  obtain⟨u,e',m⟩:=s.mu a (s.wc a z);rw[e]at e';cases e';exact n m
 rcases h with(h |⟨o,h⟩) |h
 .exact .inl (.inl (go _ h (λz=>z)))
 .exact .inl (.inr ⟨o,go _ h (λz=>z)⟩)
 .exact .inr h
theorem cF.lat(s:cF p H q H'){a:Addr}{vs:List V}(h:kD K p.c H a vs):kD K q.c H' a vs:=by
 rcases h with⟨h,n⟩|⟨o,h⟩|h
 .refine .inl ⟨s.keep a _ h λz=>n (s.wc a z),λz=>?_⟩
  rw[s.nc a z n]at h;cases h
 .refine .inr (.inl ⟨o,s.keep a _ h λz=>?_⟩)
  obtain⟨u,e',m⟩:=s.mu a (s.wc a z);rw[h]at e';cases e';exact m
 .exact .inr (.inr h)
theorem cF.rep(s:cF p H q H'){v:PV}{x:V}(h:bC K p.c H v x):bC K q.c H' v x:=bC.mono (λ_ _=>s.tup) (λ_ _=>s.lat) v x h
theorem cF.reps(s:cF p H q H'){v:BH}{x:List V}(h:bB K p.c H v x):bB K q.c H' v x:=bB.mono (λ_ _=>s.tup) (λ_ _=>s.lat) v x h
theorem cF.at_(s:cF p H q H'){k:Nat}{a:Addr}(h:p.f[k]?=some a):q.f[k]?=some a:=by
 obtain⟨t,e⟩:=s.pre;rw[<-e,ib (by
  have:=dj.mp h;exact this.1)]
 exact h
theorem cF.repA(s:cF p H q H'){v:AV}{x:V}(h:cJ K p H v x):cJ K q H' v x:=by
 cases v with
 |pv v=>exact s.rep h
 |ref k=>
  obtain⟨a,e,f⟩:=h;exact⟨a,s.at_ e,f⟩
theorem cF.repE(s:cF p H q H'){ρ:cA}{σ:St}(h:dC K p H ρ σ):dC K q H' ρ σ:=
 ⟨h.len,λi v e=>let⟨x,e1,e2⟩:=h.at_ i v e;⟨x,e1,s.repA e2⟩⟩
theorem bG.same(s:bG K p S H)(h:cM H H'):cF p H p H':=⟨s.wc,s.mu,oy,λ_ h=>h,λ_ h=>h,λ_ h g=>absurd h g,λ_ h g=>absurd h g,λ_ h g=>absurd h g,λa o e _=>h a o e⟩
theorem bG.ofSame(s:bG K p S H)(h:cM H H'):bG K p S H':=
 ⟨s.nd,s.len,s.sub,s.wc,λa m=>let⟨o,e,m⟩:=s.mu a m;⟨o,h a o e,m⟩,λk a o e1 e2=>by
  exact(s.obj k a o e1 e2).mono (λvs e=>h _ _ e) (λb w f=>⟨⟨w,f⟩,λvs e=>h _ _ e⟩) λxs vs=>(s.same h).reps⟩
theorem fX{a:Addr}{o:HO}(h:H a=none):cM H (bJ H a o):=λb u e=>by
 rw[dA (gS e h)];exact e
end
section
variable{α β γ δ:Type}
def cH(K:ae)(cl:Str->Addr)(R:Ph->Hp->α->β->Prop)(p:Ph)(H:Hp)(r:bT α)(Q:β->Hp->Prop)(E:XK):Prop:=match r with
 |.ok a S=>∀q H' x,cF p H q H'->bG K q S H'->R q H' a x->Q x H'
 |.exc n S=>∀q H',cF p H q H'->bG K q S H'->E (.ref (cl n)) none H'
 |.fail=>False
def eE(K:ae)(cl:Str->Addr)(p:Ph)(H:Hp)(r:cU)(D:kO)(E:XK):Prop:=match r with
 |.nx ρ S=>∀q H' σ,cF p H q H'->bG K q S H'->dC K q H' ρ σ->D.nx σ H'
 |.bk ρ S=>∀q H' σ,cF p H q H'->bG K q S H'->dC K q H' ρ σ->D.bk σ H'
 |.ct ρ S=>∀q H' σ,cF p H q H'->bG K q S H'->dC K q H' ρ σ->D.ct σ H'
 |.rt v S=>∀q H' x,cF p H q H'->bG K q S H'->cJ K q H' v x->D.rt x H'
 |.exc n S=>∀q H',cF p H q H'->bG K q S H'->E (.ref (cl n)) none H'
 |.fail=>False
variable{K:ae}{cl:Str->Addr}{p q:Ph}{H H':Hp}{S:aQ}{E:XK}{R:Ph->Hp->α->β->Prop}{R':Ph->Hp->γ->δ->Prop}
theorem cH.mono{r:bT α}{Q:β->Hp->Prop}(h:cH K cl R p H r Q E)(s:cF p H q H'):cH K cl R q H' r Q E:=by
 cases r with
 |ok a S=>exact λq' H'' x s'=>h q' H'' x (s.trans s')
 |exc n S=>exact λq' H'' s'=>h q' H'' (s.trans s')
 |fail=>exact h
theorem eE.mono{r:cU}{D:kO}(h:eE K cl p H r D E)(s:cF p H q H'):eE K cl q H' r D E:=by
 cases r with
 |nx ρ S=>exact λq' H'' x s'=>h q' H'' x (s.trans s')
 |bk ρ S=>exact λq' H'' x s'=>h q' H'' x (s.trans s')
 |ct ρ S=>exact λq' H'' x s'=>h q' H'' x (s.trans s')
 |rt v S=>exact λq' H'' x s'=>h q' H'' x (s.trans s')
 |exc n S=>exact λq' H'' s'=>h q' H'' (s.trans s')
 |fail=>exact h
theorem cH.ret{a:α}{x:β}{Q:β->Hp->Prop}(h:cH K cl R p H (.ok a S) Q E)(s:bG K p S H)(r:R p H a x):Q x H:=h p H x s.step s r
theorem cH.same{a:α}{x:β}{Q:β->Hp->Prop}(h:cH K cl R p H (.ok a S) Q E)(s:bG K p S H)(e:cM H H')(r:R p H' a x):Q x H':=h p H' x (s.same e) (s.ofSame e) r
def tP(K:ae)(cl:Str->Addr)(E:XK)(R:Ph->Hp->α->β->Prop)(m:cA->aQ->bT α)(σ:St)(H:Hp)(Q:β->Hp->Prop):Prop:=
 ∃p S ρ,bG K p S H/\dC K p H ρ σ/\cH K cl R p H (m ρ S) Q E
def tS(K:ae)(cl:Str->Addr)(E:XK)(m:cA->aQ->cU):TS:=λD σ H=>
 ∃p S ρ,bG K p S H/\dC K p H ρ σ/\eE K cl p H (m ρ S) D E
theorem cG{m:cA->aQ->bT α}{k:α->aQ->bT γ}{ρ:cA}{σ:St}{Q:δ->Hp->Prop}{T:β->Hp->Prop}(s:bG K p S H)(e:dC K p H ρ σ)(h:cH K cl R' p H ((m ρ S).bind k) Q E)
  (g:∀q H' a b S',cF p H q H'->bG K q S' H'->dC K q H' ρ σ->R q H' a b->cH K cl R' q H' (k a S') Q E->T b H'):tP K cl E R m σ H T:=by
 refine⟨p,S,ρ,s,e,?_⟩;cases z:m ρ S with
 |ok a S1=>
  rw[z]at h;exact λq H' b st sm r=>g q H' a b S1 st sm (st.repE e) r (cH.mono (r:=k a S1) h st)
 |exc n S1=>
  rw[z]at h;exact h
 |fail=>
  rw[z]at h;exact h
def cU.of{α:Type}(r:bT α)(k:α->aQ->cU):cU:=match r with
 |.ok a S=>k a S
 |.exc n S=>.exc n S
 |.fail=>.fail
theorem kH{m:cA->aQ->bT α}{k:α->aQ->cU}{ρ:cA}{σ:St}{D:kO}{T:β->Hp->Prop}(s:bG K p S H)(e:dC K p H ρ σ)(h:eE K cl p H (cU.of (m ρ S) k) D E)
  (g:∀q H' a b S',cF p H q H'->bG K q S' H'->dC K q H' ρ σ->R q H' a b->eE K cl q H' (k a S') D E->T b H'):tP K cl E R m σ H T:=by
 refine⟨p,S,ρ,s,e,?_⟩;cases z:m ρ S with
 |ok a S1=>
  rw[z]at h;exact λq H' b st sm r=>g q H' a b S1 st sm (st.repE e) r (eE.mono (r:=k a S1) h st)
 |exc n S1=>
  rw[z]at h;exact h
 |fail=>
  rw[z]at h;exact h
end
end
abbrev RB:Ph->Hp->Bool->Bool->Prop:=λ_ _ a b=>a=b
abbrev ME:=cA->aQ->bT AV
abbrev MT:=cA->aQ->bT Bool
abbrev MA:=cA->aQ->bT BK
abbrev MS:=cA->aQ->cU
section
variable(K:ae)(cl:Str->Addr)(E:XK)(X:Cx)
def aX(e:af)(m:ME):Prop:=X.K=K->PE X e (tP K cl E (cJ K) m)
def eJ(e:af)(m:MT):Prop:=X.K=K->PT X e (tP K cl E RB m)
def jV(e:af)(m:MT):Prop:=X.K=K->PW X e (tP K cl E RB m)
def eC(es:List af)(m:MA):Prop:=X.K=K->PA X es (tP K cl E (iK K) m)
def eT(st:Stmt)(m:MS):Prop:=X.K=K->PS X st (tS K cl E m)
def gZ(st:List Stmt)(m:MS):Prop:=X.K=K->fJ X st (tS K cl E m)
end
theorem PA.imp{X:Cx}{es:List af}{t t':TA}(h:PA X es t)(i:∀σ H Q,t' σ H Q->t σ H Q):PA X es t':=λpos BM s σ H Q I q=>h pos BM s σ H Q I (i σ H Q q)
theorem PW.imp{X:Cx}{e:af}{t t':TT}(h:PW X e t)(i:∀σ H Q,t' σ H Q->t σ H Q):PW X e t':=λwh BM s σ H Q I q=>h wh BM s σ H Q I (i σ H Q q)
def aA(i:Nat):ME:=λρ S=>match ρ[i]? with
 |some (some v)=>.ok v S
 |_=>.fail
def mC(v:PV):ME:=λ_ S=>.ok (.pv v) S
def rd(S:aQ):AV->BI
 |.pv v=>some v
 |.ref k=>match S[k]? with
  |some (.lst xs)=>some (.lst xs)
  |_=>none
def fS(S:aQ):BK->Option BH
 |[]=>some []
 |a::r=>match rd S a with
  |some v=>match fS S r with
   |some vs=>some (v::vs)
   |none=>none
  |none=>none
def fN(o:BI)(S:aQ):bT AV:=match o with
 |some r=>.ok (.pv r) S
 |none=>.fail
def qV(f:PV->BI)(a:AV)(S:aQ):bT AV:=fN ((rd S a).bind f) S
def fQ(f:PV->PV->BI)(a b:AV)(S:aQ):bT AV:=fN ((rd S a).bind λx=>(rd S b).bind λy=>f x y) S
def bX(f:PV->BI)(ma:ME):ME:=λρ S=>(ma ρ S).bind λx S1=>qV f x S1
def aE(f:PV->PV->BI)(ma mb:ME):ME:=λρ S=>(ma ρ S).bind λx S1=>(mb ρ S1).bind λy S2=>fQ f x y S2
def aF:MA:=λ_ S=>.ok [] S
def aC(ma:ME)(mr:MA):MA:=λρ S=>(ma ρ S).bind λx S1=>(mr ρ S1).bind λxs S2=>.ok (x::xs) S2
def iP:BK->Option BH
 |[]=>some []
 |.pv v::r=>match iP r with
  |some vs=>some (v::vs)
  |none=>none
 |.ref _::_=>none
def pA(f:BH->BI)(xs:BK)(S:aQ):bT AV:=fN ((iP xs).bind f) S
def jQ(f:BH->BI)(xs:BK)(S:aQ):bT AV:=fN ((fS S xs).bind f) S
def mR(f:BH->BI)(ma:MA):ME:=λρ S=>(ma ρ S).bind λxs S1=>jQ f xs S1
def mN(f:BH->BI)(ma:MA):ME:=λρ S=>(ma ρ S).bind λxs S1=>pA f xs S1
def eI(vs:BH):BI:=if vs.length<=16777216 then some (.tup vs)else none
def dW(vs:BH):BI:=if vs.length<=16777216 then some (.lst vs)else none
def kC:AV->aQ->bT Bool
 |.pv (.bl b),S=>.ok b S
 |_,_=>.fail
def aZ(m:ME):MT:=λρ S=>(m ρ S).bind kC
def eQ(m:MT):MT:=λρ S=>(m ρ S).bind λb S1=>.ok (!b) S1
def gB(m n:MT):MT:=λρ S=>(m ρ S).bind λb S1=>if b=true then n ρ S1 else .ok false S1
def fD(m n:MT):MT:=λρ S=>(m ρ S).bind λb S1=>if b=true then .ok true S1 else n ρ S1
def oZ(m n:ME):ME:=λρ S=>(m ρ S).bind λx S1=>match x with
 |.pv (.bl true)=>n ρ S1
 |.pv (.bl false)=>.ok (.pv (.bl false)) S1
 |_=>.fail
def tO(m n:ME):ME:=λρ S=>(m ρ S).bind λx S1=>match x with
 |.pv (.bl false)=>n ρ S1
 |.pv (.bl true)=>.ok (.pv (.bl true)) S1
 |_=>.fail
def tX:PV->BI
 |.bl b=>some (.bl (!b))
 |_=>none
def oE(c:MT)(a b:ME):ME:=λρ S=>(c ρ S).bind λt S1=>if t=true then a ρ S1 else b ρ S1
section
variable{K:ae}{cl:Str->Addr}{E:XK}{X:Cx}{a b c e:af}{es:List af}{ma mb mc m:ME}{mt nt:MT}{ms:MA}{pos:ah}
theorem Oc(i:Nat){x:Str}(hN:X.N[i]?=some x:=by rfl)(hv:yH X.env.scope x:=by first |exact ie rfl |exact iz (ie rfl) |exact iz (iz rfl))(hd:(x==("__debug__":Str))=false:=by decide)
  (hcd:(x==("__classdict__":Str))=false:=by decide):aX K cl E X (.Name x pos) (aA i):=λ_=>(Vo hN hv hd hcd).imp λσ H Q ⟨p,S,ρ,s,e,h⟩=>by
 unfold aA at h;cases z:ρ[i]? with
 |none=>rw[z]at h;exact h.elim
 |some o=>
  cases o with
  |none=>rw[z]at h;exact h.elim
  |some v=>
   rw[z]at h;obtain⟨x,e1,e2⟩:=e.at_ i v z;exact⟨x,e1,cH.ret h s e2⟩
theorem Yn{i:Int}{j}:aX K cl E X (.Constant (.int i) j pos) (mC (.int i)):=λ_=>Fc.imp λσ H Q ⟨p,S,ρ,s,e,h⟩=>cH.ret (R:=cJ K) (x:=.int i) h s (by show bC K p.c H (.int i) (.int i);unfold bC;rfl)
theorem aaU{i:Bool}{j}:aX K cl E X (.Constant (.bool i) j pos) (mC (.bl i)):=λ_=>abV.imp λσ H Q ⟨p,S,ρ,s,e,h⟩=>cH.ret (R:=cJ K) (x:=.bl i) h s (by show bC K p.c H (.bl i) (.bl i);unfold bC;rfl)
theorem W7{i:Str}{j}:aX K cl E X (.Constant (.str i) j pos) (mC (.str i)):=λ_=>Qn.imp λσ H Q ⟨p,S,ρ,s,e,h⟩=>cH.ret (R:=cJ K) (x:=.str i) h s (by show bC K p.c H (.str i) (.str i);unfold bC;rfl)
theorem Ao{j}:aX K cl E X (.Constant .none j pos) (mC .non):=λ_=>aaD.imp λσ H Q ⟨p,S,ρ,s,e,h⟩=>cH.ret (R:=cJ K) (x:=.non) h s (by show bC K p.c H .non .non;unfold bC;rfl)
def eP(K:ae)(p:Ph)(H:Hp)(v:PV)(x:V):Prop:=bC K p.c H v x\/∃xs a vs,v=.lst xs/\x=.ref a/\H a=some (.lst vs)/\vs.length<=sizeLine/\bB K p.c H xs vs
theorem eP.int{p:Ph}{H:Hp}{i:Int}{x:V}(h:eP K p H (.int i) x):x=.int i:=by
 rcases h with h |⟨_,_,_,e,_⟩
 .unfold bC at h;exact h
 .cases e
theorem eP.bl{p:Ph}{H:Hp}{i:Bool}{x:V}(h:eP K p H (.bl i) x):x=.bl i:=by
 rcases h with h |⟨_,_,_,e,_⟩
 .unfold bC at h;exact h
 .cases e
theorem eP.str{p:Ph}{H:Hp}{i:Str}{x:V}(h:eP K p H (.str i) x):x=.str i:=by
 rcases h with h |⟨_,_,_,e,_⟩
 .unfold bC at h;exact h
 .cases e
theorem eP.non{p:Ph}{H:Hp}{x:V}(h:eP K p H .non x):x=.non:=by
 rcases h with h |⟨_,_,_,e,_⟩
 .unfold bC at h;exact h
 .cases e
theorem eP.tup{p:Ph}{H:Hp}{xs:BH}{x:V}(h:eP K p H (.tup xs) x):∃a vs,x=.ref a/\dJ K H a vs/\vs.length<=sizeLine/\bB K p.c H xs vs:=by
 rcases h with h |⟨_,_,_,e,_⟩
 .unfold bC at h;exact h
 .cases e
theorem eP.lst{p:Ph}{H:Hp}{xs:BH}{x:V}(h:eP K p H (.lst xs) x):∃a vs,x=.ref a/\cK K H a vs/\vs.length<=sizeLine/\bB K p.c H xs vs:=by
 rcases h with h |⟨ys,a,vs,e,e2,h,z,r⟩
 .unfold bC at h
  obtain⟨a,vs,e,l,z,r⟩:=h;exact⟨a,vs,e,l.sq,z,r⟩
 .cases e
  exact⟨a,vs,e2,cK.of h,z,r⟩
theorem qD{p:Ph}{S:aQ}{H:Hp}{a:AV}{v:PV}{x:V}(s:bG K p S H)(r:cJ K p H a x)(e:rd S a=some v):eP K p H v x:=by
 cases a with
 |pv u=>cases e;exact .inl r
 |ref k=>
  obtain⟨a,e1,rfl⟩:=r;unfold rd at e;cases z:S[k]? with
  |none=>simp only[z]at e;cases e
  |some o=>
   cases o with
   |lst xs=>
    simp only[z]at e;cases e;obtain⟨vs,h,l,r⟩:=s.obj k a _ e1 z;exact .inr ⟨xs,a,vs,rfl,rfl,h,l,r⟩
   |lol _=>simp only[z]at e;cases e
   |dic _ _=>simp only[z]at e;cases e
   |dol _ _=>simp only[z]at e;cases e
abbrev Rp(K:ae)(p:Ph)(H:Hp):BH->List V->Prop:=lh (eP K p H)
theorem vC{p:Ph}{S:aQ}{H:Hp}(s:bG K p S H):∀{as:BK}{vs:BH}{xs:List V},iK K p H as xs->fS S as=some vs->Rp K p H vs xs
 |[],vs,_,.nil,e=>by
  cases e;exact .nil
 |a::r,vs,_,.cons h t,e=>by
  unfold fS at e;cases z:rd S a with
  |none=>simp only[z]at e;cases e
  |some v=>
   simp only[z]at e;cases y:fS S r with
   |none=>simp only[y]at e;cases e
   |some us=>
    simp only[y]at e;cases e;exact .cons (qD s h z) (vC s t y)
def eK(K:ae)(r:R2)(f:PV->PV->BI):Prop:=∀{p:Ph}{S:aQ}{H:Hp}{a b c:PV}{x y:V}{Q:VK},bG K p S H->eP K p H a x->eP K p H b y->f a b=some c->
 (∀H' z,cM H H'->bC K p.c H' c z->Q z H')->r x y H Q
def yL(K:ae)(r:V->Hp->VK->Prop)(f:PV->BI):Prop:=∀{p:Ph}{S:aQ}{H:Hp}{a c:PV}{x:V}{Q:VK},bG K p S H->eP K p H a x->f a=some c->
 (∀H' z,cM H H'->bC K p.c H' c z->Q z H')->r x H Q
def CaS(K:ae)(r:List V->Hp->VK->Prop)(f:BH->BI):Prop:=∀{p:Ph}{S:aQ}{H:Hp}{as:BH}{c:PV}{xs:List V}{Q:VK},bG K p S H->bB K p.c H as xs->f as=some c->
 (∀H' z,cM H H'->bC K p.c H' c z->Q z H')->r xs H Q
def jF(K:ae)(r:List V->Hp->VK->Prop)(f:BH->BI):Prop:=∀{p:Ph}{S:aQ}{H:Hp}{as:BH}{c:PV}{xs:List V}{Q:VK},bG K p S H->Rp K p H as xs->f as=some c->
 (∀H' z,cM H H'->bC K p.c H' c z->Q z H')->r xs H Q
theorem nG{p:Ph}{S:aQ}{H:Hp}{o:BI}{Q:VK}(s:bG K p S H)(h:cH K cl (cJ K) p H (fN o S) Q E):∃c,o=some c/\∀H' z,cM H H'->bC K p.c H' c z->Q z H':=by
 cases o with
 |none=>exact h.elim
 |some c=>exact⟨c,rfl,λH' z sm rz=>cH.same (R:=cJ K) h s sm rz⟩
theorem oH{r:R2}{f:PV->PV->BI}(hf:eK K r f){p:Ph}{S:aQ}{H:Hp}{a b:AV}{x y:V}{Q:VK}(s:bG K p S H)(ra:cJ K p H a x)(rb:cJ K p H b y)(h:cH K cl (cJ K) p H (fQ f a b S) Q E):r x y H Q:=by
 obtain⟨c,e,k⟩:=nG s h;cases z:rd S a with
 |none=>rw[z]at e;cases e
 |some v=>
  cases y:rd S b with
  |none=>rw[z,y]at e;cases e
  |some w=>
   rw[z,y]at e;exact hf s (qD s ra z) (qD s rb y) e k
theorem sG{r:V->Hp->VK->Prop}{f:PV->BI}(hf:yL K r f){p:Ph}{S:aQ}{H:Hp}{a:AV}{x:V}{Q:VK}(s:bG K p S H)(ra:cJ K p H a x)(h:cH K cl (cJ K) p H (qV f a S) Q E):r x H Q:=by
 obtain⟨c,e,k⟩:=nG s h;cases z:rd S a with
 |none=>rw[z]at e;cases e
 |some v=>
  rw[z]at e;exact hf s (qD s ra z) e k
theorem Dj{r:List V->Hp->VK->Prop}{f:BH->BI}(hf:jF K r f){p:Ph}{S:aQ}{H:Hp}{as:BK}{xs:List V}{Q:VK}(s:bG K p S H)(ra:iK K p H as xs)(h:cH K cl (cJ K) p H (jQ f as S) Q E):r xs H Q:=by
 obtain⟨c,e,k⟩:=nG s h;cases z:fS S as with
 |none=>rw[z]at e;cases e
 |some v=>
  rw[z]at e;exact hf s (vC s ra z) e k
theorem uV{p:Ph}{H:Hp}:∀{as:BK}{vs:BH}{xs:List V},iP as=some vs->iK K p H as xs->bB K p.c H vs xs
 |[],vs,_,e,.nil=>by
  cases e;exact .nil
 |.pv v::r,vs,_,e,.cons h t=>by
  unfold iP at e;cases z:iP r with
  |none=>simp only[z]at e;cases e
  |some us=>
   simp only[z]at e;cases e;exact .cons h (uV z t)
 |.ref k::r,vs,_,e,.cons h t=>by
  cases e
theorem Na{r:List V->Hp->VK->Prop}{f:BH->BI}(hf:CaS K r f){p:Ph}{S:aQ}{H:Hp}{as:BK}{xs:List V}{Q:VK}(s:bG K p S H)(ra:iK K p H as xs)(h:cH K cl (cJ K) p H (pA f as S) Q E):r xs H Q:=by
 obtain⟨c,e,k⟩:=nG s h;cases z:iP as with
 |none=>rw[z]at e;cases e
 |some v=>
  rw[z]at e;exact hf s (uV z ra) e k
theorem mJ{op:Operator}{r:R2}{f:PV->PV->BI}(ho:dG X (binaryOp op) r)(hf:eK X.K r f)(ha:aX K cl E X a ma)(hb:aX K cl E X b mb):aX K cl E X (.BinOp a op b pos) (aE f ma mb):=by
 intro hK;subst hK;refine(abJ ho (ha rfl) (hb rfl)).imp ?_
 rintro σ H Q ⟨p,S,ρ,s,e,h⟩
 exact cG s e h λq H1 a x S1 st s1 e1 r1 h1=>cG s1 e1 h1 λq2 H2 b y S2 st2 s2 e2 r2 h2=>oH hf s2 (st2.repA r1) r2 h2
theorem abg{op:UnaryOp}{r:V->Hp->VK->Prop}{f:PV->BI}(ho:yM X (unaryOp op) r)(hf:yL X.K r f)(ha:aX K cl E X a ma):aX K cl E X (.UnaryOp op a pos) (bX f ma):=by
 intro hK;subst hK;refine(abI ho (ha rfl)).imp ?_
 rintro σ H Q ⟨p,S,ρ,s,e,h⟩
 exact cG s e h λq H1 a x S1 st s1 e1 r1 h1=>sG hf s1 r1 h1
theorem lD{op:jg}{r:R2}{f:PV->PV->BI}(ho:dG X (compareOp op) r)(hf:eK X.K r f)(ha:aX K cl E X a ma)(hb:aX K cl E X b mb)(hm:behindInMarks op b=false):aX K cl E X (.Compare a [op] [b] pos) (aE f ma mb):=by
 intro hK;subst hK;refine(N8 ho (ha rfl) (hb rfl) hm).imp ?_
 rintro σ H Q ⟨p,S,ρ,s,e,h⟩
 exact cG s e h λq H1 a x S1 st s1 e1 r1 h1=>cG s1 e1 h1 λq2 H2 b y S2 st2 s2 e2 r2 h2=>oH hf s2 (st2.repA r1) r2 h2
theorem tH{p:Ph}{H:Hp}{v:AV}{x:V}(r:cJ K p H v x){b:Bool}(e:v=.pv (.bl b)):x=.bl b:=by
 subst e;unfold cJ bC at r;exact r
theorem vO{p:Ph}{S:aQ}{H:Hp}{v:AV}{x:V}{Q:Bool->Hp->Prop}(s:bG K p S H)(r:cJ K p H v x)
  (h:cH K cl RB p H (kC v S) Q E):∃k,x=.bl k/\Q k H:=by
 cases v with
 |ref k=>exact h.elim
 |pv v=>
  cases v with
  |bl b=>exact⟨b,tH r rfl,cH.ret (R:=RB) h s rfl⟩
  |_=>exact h.elim
theorem nH{op:jg}{r:R2}{f:PV->PV->BI}(ho:dG X (compareOp op) r)(hf:eK X.K r f)(ha:aX K cl E X a ma)(hb:aX K cl E X b mb)(hm:behindInMarks op b=false):eJ K cl E X (.Compare a [op] [b] pos) (aZ (aE f ma mb)):=by
 intro hK;subst hK;refine(F6 ho (ha rfl) (hb rfl) hm).imp ?_
 rintro σ H Q ⟨p,S,ρ,s,e,h⟩
 have z:tP X.K cl E (cJ X.K) (aE f ma mb) σ H λx H'=>∃k,x=.bl k/\Q k H':=cG s e h λq H1 a x S1 st s1 e1 r1 h1=>vO s1 r1 h1;obtain⟨p',S',ρ',s',e',h'⟩:=z;exact cG s' e' h' λq H1 a x S1 st s1 e1 r1 h1=>cG s1 e1 h1 λq2 H2 b y S2 st2 s2 e2 r2 h2=>oH hf s2 (st2.repA r1) r2 h2
theorem N4(ha:aX K cl E X a ma)(he:∀whole,isTrue a X.env whole=(do let v <-whole;standAt a.pos;holding [v] (truthy v)):=by intro _;rfl):eJ K cl E X a (aZ ma):=by
 intro hK;subst hK;refine(U6 (ha rfl) he).imp ?_
 rintro σ H Q ⟨p,S,ρ,s,e,h⟩
 exact cG s e h λq H1 a x S1 st s1 e1 r1 h1=>vO s1 r1 h1
theorem G3(ha:eJ K cl E X a mt):eJ K cl E X (.UnaryOp .Not a pos) (eQ mt):=by
 intro hK;subst hK;refine(Z5 (ha rfl)).imp ?_
 rintro σ H Q ⟨p,S,ρ,s,e,h⟩
 exact cG s e h λq H1 a x S1 st s1 e1 r1 h1=>by
  cases r1;exact cH.ret (R:=RB) h1 s1 rfl
theorem Py(ha:eJ K cl E X a mt):jV K cl E X (.BoolOp .And [a] pos) mt:=λhK=>G9 (ha hK)
theorem M6(ha:eJ K cl E X a mt):jV K cl E X (.BoolOp .Or [a] pos) mt:=λhK=>aax (ha hK)
theorem jV.pt(h:jV K cl E X a mt):eJ K cl E X a mt:=λhK=>PW.pt (h hK)
theorem J4{dM:List af}(ha:eJ K cl E X a mt)(hb:jV K cl E X (.BoolOp .And (b::dM) pos) nt):jV K cl E X (.BoolOp .And (a::b::dM) pos) (gB mt nt):=by
 intro hK;subst hK;refine PW.imp (U3 (ha rfl) (hb rfl)) ?_
 rintro σ H Q ⟨p,S,ρ,s,e,h⟩
 refine cG s e h λq H1 a x S1 st s1 e1 r1 h1=>?_;cases r1;cases a with
 |true=>exact⟨q,S1,ρ,s1,e1,h1⟩
 |false=>exact cH.ret (R:=RB) h1 s1 rfl
theorem aaP{dM:List af}(ha:eJ K cl E X a mt)(hb:jV K cl E X (.BoolOp .Or (b::dM) pos) nt):jV K cl E X (.BoolOp .Or (a::b::dM) pos) (fD mt nt):=by
 intro hK;subst hK;refine PW.imp (aa6 (ha rfl) (hb rfl)) ?_
 rintro σ H Q ⟨p,S,ρ,s,e,h⟩
 refine cG s e h λq H1 a x S1 st s1 e1 r1 h1=>?_;cases r1;cases a with
 |true=>exact cH.ret (R:=RB) h1 s1 rfl
 |false=>exact⟨q,S1,ρ,s1,e1,h1⟩
theorem Z9{dM:List af}(ha:aX K cl E X a ma)(hb:aX K cl E X (.BoolOp .And (b::dM) pos) mb):aX K cl E X (.BoolOp .And (a::b::dM) pos) (oZ ma mb):=by
 intro hK;subst hK;refine(Hn (ha rfl) (hb rfl)).imp ?_
 rintro σ H Q ⟨p,S,ρ,s,e,h⟩
 refine cG s e h λq H1 a x S1 st s1 e1 r1 h1=>?_;cases a with
 |ref k=>exact h1.elim
 |pv v=>
  cases v with
  |bl b=>
   refine⟨b,tH r1 rfl,?_⟩;cases b with
   |true=>exact⟨q,S1,ρ,s1,e1,h1⟩
   |false=>exact cH.ret (R:=cJ X.K) h1 s1 (by show bC X.K q.c H1 _ _;unfold bC;rfl)
  |_=>exact h1.elim
theorem aa3{dM:List af}(ha:aX K cl E X a ma)(hb:aX K cl E X (.BoolOp .Or (b::dM) pos) mb):aX K cl E X (.BoolOp .Or (a::b::dM) pos) (tO ma mb):=by
 intro hK;subst hK;refine(abR (ha rfl) (hb rfl)).imp ?_
 rintro σ H Q ⟨p,S,ρ,s,e,h⟩
 refine cG s e h λq H1 a x S1 st s1 e1 r1 h1=>?_;cases a with
 |ref k=>exact h1.elim
 |pv v=>
  cases v with
  |bl b=>
   refine⟨b,tH r1 rfl,?_⟩;cases b with
   |true=>exact cH.ret (R:=cJ X.K) h1 s1 (by show bC X.K q.c H1 _ _;unfold bC;rfl)
   |false=>exact⟨q,S1,ρ,s1,e1,h1⟩
  |_=>exact h1.elim
theorem X9(ha:aX K cl E X a ma):aX K cl E X (.UnaryOp .Not a pos) (bX tX ma):=by
 intro hK;subst hK;refine(Bo (ha rfl)).imp ?_
 rintro σ H Q ⟨p,S,ρ,s,e,h⟩
 refine cG s e h λq H1 a x S1 st s1 e1 r1 h1=>?_;refine sG (r:=λx H Q=>∃c,x=.bl c/\Q (.bl (!c)) H) (f:=tX) (λ{p S H a c x Q} s r e k=>?_) s1 r1 h1;cases a with
 |bl b=>
  cases e;exact⟨b,r.bl,k H _ (cM.refl H) (by unfold bC;rfl)⟩
 |_=>cases e
theorem aa9(hc:eJ K cl E X c mt)(ha:aX K cl E X a ma)(hb:aX K cl E X b mb):aX K cl E X (.IfExp c a b pos) (oE mt ma mb):=by
 intro hK;subst hK;refine(Xy (hc rfl) (ha rfl) (hb rfl)).imp ?_
 rintro σ H Q ⟨p,S,ρ,s,e,h⟩
 refine cG s e h λq H1 a x S1 st s1 e1 r1 h1=>?_;cases r1;cases a with
 |true=>exact⟨q,S1,ρ,s1,e1,h1⟩
 |false=>exact⟨q,S1,ρ,s1,e1,h1⟩
theorem Nl:eC K cl E X [] aF:=λ_=>(PA.imp nO λσ H Q ⟨p,S,ρ,s,e,h⟩=>cH.ret (R:=iK K) h s .nil)
theorem Bl(ha:aX K cl E X e m)(hr:eC K cl E X es ms)(hs:starEach (e::es) X.env=(false,eval e X.env)::starEach es X.env:=by rfl):eC K cl E X (e::es) (aC m ms):=by
 intro hK;subst hK;refine PA.imp (iV (ha rfl) (hr rfl) hs) ?_
 rintro σ H Q ⟨p,S,ρ,s,e,h⟩
 exact cG s e h λq H1 a x S1 st s1 e1 r1 h1=>cG s1 e1 h1 λq2 H2 b y S2 st2 s2 e2 r2 h2=>cH.ret (R:=iK X.K) h2 s2 (.cons (st2.repA r1) r2)
theorem mE{p:Ph}{S:aQ}{H:Hp}{vs:BH}{xs:List V}{t:Addr}(s:bG K p S H)(r:bB K p.c H vs xs)(z:xs.length<=sizeLine)(ht:H t=none):bC K p.c (bJ H t (.tup xs)) (.tup vs) (.ref t):=by
 unfold bC;exact⟨t,xs,rfl,dJ.of iT,z,(s.same (fX ht)).reps r⟩
theorem nI{p:Ph}{S:aQ}{H:Hp}{vs:BH}{xs:List V}{t:Addr}(s:bG K p S H)(r:bB K p.c H vs xs)(z:xs.length<=sizeLine)(ht:H t=none):bC K p.c (bJ H t (.lst xs)) (.lst vs) (.ref t):=by
 unfold bC;refine⟨t,xs,rfl,.inl ⟨iT,λc=>?_⟩,z,(s.same (fX ht)).reps r⟩;obtain⟨o,e,_⟩:=s.mu t c;rw[ht]at e;cases e
theorem fU:sizeLine=16777216:=kj
theorem aac{x1}(h:eC K cl E X es ms):aX K cl E X (.Tuple es x1 pos) (mN eI ms):=by
 intro hK;subst hK;refine(Lc (h rfl)).imp ?_
 rintro σ H Q ⟨p,S,ρ,s,e,h⟩
 refine cG s e h λq H1 as xs S1 st s1 e1 r1 h1=>?_;refine Na (r:=λxs H Q=>xs.length<=sizeLine/\∀t,H t=none->Q (.ref t) (bJ H t (.tup xs))) (f:=eI) (λ{p S H as c xs Q} s r e k=>?_) s1 r1 h1;unfold eI at e;split at e
 .rename_i hl
  cases e;rw[r.length,<-fU]at hl;exact⟨hl,λt ht=>k _ _ (fX ht) (mE s r hl ht)⟩
 .cases e
theorem Y5(h:eC K cl E X es ms):aX K cl E X (.List es pos) (mN dW ms):=by
 intro hK;subst hK;refine(Ko (h rfl)).imp ?_
 rintro σ H Q ⟨p,S,ρ,s,e,h⟩
 refine cG s e h λq H1 as xs S1 st s1 e1 r1 h1=>?_;refine Na (r:=λxs H Q=>xs.length<=sizeLine/\∀t,H t=none->Q (.ref t) (bJ H t (.lst xs))) (f:=dW) (λ{p S H as c xs Q} s r e k=>?_) s1 r1 h1;unfold dW at e;split at e
 .rename_i hl
  cases e;rw[r.length,<-fU]at hl;exact⟨hl,λt ht=>k _ _ (fX ht) (nI s r hl ht)⟩
 .cases e
end
noncomputable section
open PySem PySem.Spec PyProof.Rows Bn
def bQ:MS:=λρ S=>.nx ρ S
def aS(a b:MS):MS:=λρ S=>match a ρ S with
 |.nx ρ1 S1=>b ρ1 S1
 |r=>r
def eA(m:ME):MS:=λρ S=>cU.of (m ρ S) λ_ S1=>.nx ρ S1
def bH(m:ME):MS:=λρ S=>cU.of (m ρ S) λv S1=>.rt v S1
def abl:MS:=λ_ S=>.rt (.pv .non) S
def bP(c:MT)(a b:MS):MS:=λρ S=>cU.of (c ρ S) λt S1=>if t=true then a ρ S1 else b ρ S1
def aY(i:Nat)(m:ME):MS:=λρ S=>cU.of (m ρ S) λv S1=>.nx (ρ.set i (some v)) S1
def tW(i j:Nat)(m:MA):MS:=λρ S=>cU.of (m ρ S) λvs S1=>match vs with
 |[v,w]=>.nx ((ρ.set i (some v)).set j (some w)) S1
 |_=>.fail
abbrev GM:=PV->cA->Option cA
abbrev nZ:=BH->cA->Option cA
def gN(i:Nat):GM:=λv ρ=>some (ρ.set i (some (.pv v)))
def eB:nZ:=λvs ρ=>match vs with
 |[]=>some ρ
 |_=>none
def cP(g:GM)(gs:nZ):nZ:=λvs ρ=>match vs with
 |[]=>none
 |v::r=>match g v ρ with
  |some ρ1=>gs r ρ1
  |none=>none
def gT(n:Nat)(gs:nZ):GM:=λv ρ=>match v with
 |.tup vs=>if vs.length=n then gs vs ρ else none
 |_=>none
def tR(g:GM)(m:ME):MS:=λρ S=>cU.of (m ρ S) λv S1=>match v with
 |.pv v=>match g v ρ with
  |some ρ1=>.nx ρ1 S1
  |none=>.fail
 |_=>.fail
abbrev Gd:=List (Nat×BH)
def iG(G:Gd)(S:aQ):Prop:=∀g∈G,S[g.1]?=some (.lst g.2)
theorem jO(S:aQ):iG [] S:=λ_ h=>nomatch h
abbrev MI:=cA->aQ->bT (BH×Gd)
open Classical in
def dQ(G:Gd)(g:GM)(mb:MS):BH->cA->aQ->cU
 |[],ρ,S=>if iG G S then .nx ρ S else .fail
 |x::r,ρ,S=>if iG G S then(match g x ρ with
  |none=>.fail
  |some ρ1=>match mb ρ1 S with
   |.nx ρ2 S2=>dQ G g mb r ρ2 S2
   |.ct ρ2 S2=>dQ G g mb r ρ2 S2
   |.bk ρ2 S2=>.nx ρ2 S2
   |.rt v S2=>.rt v S2
   |.exc n S2=>.exc n S2
   |.fail=>.fail)else .fail
def dB(mi:MI)(g:GM)(mb:MS):MS:=λρ S=>cU.of (mi ρ S) λxs S1=>dQ xs.2 g mb xs.1 ρ S1
theorem hV{g:GM}{mb:MS}{ρ:cA}{S:aQ}:dQ [] g mb [] ρ S=.nx ρ S:=by
 unfold dQ;rw[if_pos (jO S)]
theorem gG{g:GM}{mb:MS}{x:PV}{r:BH}{ρ:cA}{S:aQ}:dQ [] g mb (x::r) ρ S=(match g x ρ with
  |none=>.fail
  |some ρ1=>match mb ρ1 S with
   |.nx ρ2 S2=>dQ [] g mb r ρ2 S2
   |.ct ρ2 S2=>dQ [] g mb r ρ2 S2
   |.bk ρ2 S2=>.nx ρ2 S2
   |.rt v S2=>.rt v S2
   |.exc n S2=>.exc n S2
   |.fail=>.fail):=by
 rw[dQ,if_pos (jO S)]
def dX(c:MT)(mb:MS):Nat->cA->aQ->cU
 |0,_,_=>.fail
 |n+1,ρ,S=>cU.of (c ρ S) λt S1=>if t=true then(match mb ρ S1 with
   |.nx ρ2 S2=>dX c mb n ρ2 S2
   |.ct ρ2 S2=>dX c mb n ρ2 S2
   |.bk ρ2 S2=>.nx ρ2 S2
   |.rt v S2=>.rt v S2
   |.exc n S2=>.exc n S2
   |.fail=>.fail)else .nx ρ S1
open Classical in
def nK(c:MT)(mb:MS):MS:=λρ S=>if h:∃n,dX c mb n ρ S≠.fail then dX c mb h.choose ρ S else .fail
theorem cU.of_ok{α:Type}{r:bT α}{k k':α->aQ->cU}(h:∀a S,k a S≠.fail->k' a S=k a S)(n:cU.of r k≠.fail):cU.of r k'=cU.of r k:=by
 cases r with
 |ok a S=>exact h a S n
 |exc=>rfl
 |fail=>rfl
theorem zI{c:MT}{mb:MS}:∀{n:Nat}{ρ:cA}{S:aQ},dX c mb n ρ S≠.fail->dX c mb (n+1) ρ S=dX c mb n ρ S
 |0,_,_,h=>absurd rfl h
 |n+1,ρ,S,h=>by
  unfold dX at h;rw[dX]
  conv=>rhs;rw[dX]
  refine cU.of_ok (λt S1 h1=>?_) h
  by_cases ht:t=true
  .simp only[if_pos ht]at h1⊢
   cases z:mb ρ S1 with
   |nx ρ2 S2=>rw[z]at h1;exact zI h1
   |ct ρ2 S2=>rw[z]at h1;exact zI h1
   |_=>rfl
  .simp only[if_neg ht]at h1⊢
theorem zV{c:MT}{mb:MS}{n:Nat}{ρ:cA}{S:aQ}(h:dX c mb n ρ S≠.fail):∀k,dX c mb (n+k) ρ S=dX c mb n ρ S
 |0=>rfl
 |k+1=>by
  have ih:=zV h k;rw[<-Nat.add_assoc,zI (by rw[ih];exact h),ih]
theorem Ra{c:MT}{mb:MS}{n:Nat}{ρ:cA}{S:aQ}{r:cU}(e:dX c mb n ρ S=r)(h:r≠.fail):nK c mb ρ S=r:=by
 have h':∃n,dX c mb n ρ S≠.fail:=⟨n,by rw[e];exact h⟩;unfold nK;rw[dif_pos h'];have e2:=h'.choose_spec;rcases Nat.le_total n h'.choose with l |l
 .obtain⟨k,q⟩:=l6 l
  rw[q,zV (by rw[e];exact h),e]
 .obtain⟨k,q⟩:=l6 l
  have z:=zV e2 k;rw[<-q,e]at z;exact z.symm
section
variable{K:ae}{cl:Str->Addr}{E:XK}{X:Cx}{a b c e tg:af}{es:List af}{m:ME}{mt:MT}{ms:MA}{b1 b2:MS}{st:Stmt}{sts sts':List Stmt}{pos:ah}
theorem dC.set{p:Ph}{H:Hp}{ρ:cA}{σ:St}{v:AV}{x:V}(h:dC K p H ρ σ)(r:cJ K p H v x)(i:Nat):dC K p H (ρ.set i (some v)) (σ.set i (some x)):=by
 refine⟨by rw[ic,ic,h.len],λj u e=>?_⟩
 by_cases q:i=j
 .subst q
  by_cases l:i<ρ.length
  .rw[ix l]at e
   cases e;exact⟨x,ix (by rw[<-h.len];exact l),r⟩
  .rw[qp (by rw[ic];omega)]at e
   cases e
 .rw[ju q]at e⊢
  exact h.at_ j u e
theorem E6:gZ K cl E X [] bQ:=λ_=>fJ.imp O3 λD σ H ⟨p,S,ρ,s,e,h⟩=>h p H σ s.step s e
theorem eE.nxD{p:Ph}{H:Hp}{ρ:cA}{S:aQ}{D:kO}(h:eE K cl p H (.nx ρ S) D E){σ:St}(s:bG K p S H)(e:dC K p H ρ σ):D.nx σ H:=h p H σ s.step s e
theorem Ia(h1:eT K cl E X st b1)(h2:gZ K cl E X sts b2):gZ K cl E X (st::sts) (aS b1 b2):=by
 intro hK;subst hK;refine fJ.imp (E8 (h1 rfl) (h2 rfl)) λD σ H ⟨p,S,ρ,s,e,h⟩=>⟨p,S,ρ,s,e,?_⟩;unfold aS at h;cases z:b1 ρ S with
 |nx ρ1 S1=>
  rw[z]at h;exact λq H' σ' stp sm ev=>⟨q,S1,ρ1,sm,ev,eE.mono (r:=b2 ρ1 S1) h stp⟩
 |bk ρ1 S1=>rw[z]at h;exact h
 |ct ρ1 S1=>rw[z]at h;exact h
 |rt v S1=>rw[z]at h;exact h
 |exc n S1=>rw[z]at h;exact h
 |fail=>rw[z]at h;exact h
theorem Bk(h1:eT K cl E X st b1):gZ K cl E X [st] b1:=λhK=>Ac (h1 hK)
theorem Jy(he:aX K cl E X e m)(hs:swapsWith e none pos.line X.env=pure false:=by rfl):eT K cl E X (.Expr e pos) (eA m):=by
 intro hK;subst hK;refine PS.imp (K8 (he rfl) hs) ?_
 rintro D σ H ⟨p,S,ρ,s,e,h⟩
 exact kH s e h λq H' a b S' stp sm ev r k=>eE.nxD k sm ev
theorem Cm(he:aX K cl E X e m):eT K cl E X (.Return (some e) pos) (bH m):=by
 intro hK;subst hK;refine PS.imp (aal (he rfl)) ?_
 rintro D σ H ⟨p,S,ρ,s,e,h⟩
 exact kH s e h λq H' a b S' stp sm ev r k=>k q H' b sm.step sm r
theorem aaG(hc:eJ K cl E X c mt)(ha:gZ K cl E X sts b1)(hb:gZ K cl E X sts' b2):eT K cl E X (.If c sts sts' pos) (bP mt b1 b2):=by
 intro hK;subst hK;refine PS.imp (abS (hc rfl) (ha rfl) (hb rfl)) ?_
 rintro D σ H ⟨p,S,ρ,s,e,h⟩
 refine kH s e h λq H' a b S' stp sm ev r k=>?_;cases r;cases a with
 |true=>exact⟨q,S',ρ,sm,ev,k⟩
 |false=>exact⟨q,S',ρ,sm,ev,k⟩
theorem Tb{i:Nat}{x:Str}{pos':ah}(hN:X.N.Nodup)(hi:X.N[i]?=some x)(hx:kE X.env.scope x)(he:aX K cl E X e m)(hs:swapsWith e (some (.Name x pos')) pos.line X.env=pure false:=by rfl)
  (hf:X.fn x=true\/X.env.scope.names.lookup x=some .local:=by first |exact .inl rfl |exact .inr rfl |assumption):eT K cl E X (.Assign [.Name x pos'] e pos) (aY i m):=by
 intro hK;subst hK;refine PS.imp (Vc hN hi hx (he rfl) hs hf) ?_
 rintro D σ H ⟨p,S,ρ,s,e,h⟩
 exact kH s e h λq H' a b S' stp sm ev r k=>eE.nxD k sm (ev.set r i)
theorem M7{i j:Nat}{x y:Str}{px py pt:ah}{kt k2 pt2}(hc:X.calm=true)(hN:X.N.Nodup)(hi:X.N[i]?=some x)(hj:X.N[j]?=some y)(hij:i≠j)
  (hx:X.env.scope.names.lookup x=some .local)(hy:X.env.scope.names.lookup y=some .local)(ha:eC K cl E X [a,b] ms)
  (hw:swappedStores [.Tuple [.Name x px,.Name y py] kt pt] (.Tuple [a,b] k2 pt2) X.env=pure (some [x,y]))
  (hs:swapsWithSole [.Tuple [.Name x px,.Name y py] kt pt] (.Tuple [a,b] k2 pt2) pos.line X.env=pure false:=by rfl):
  eT K cl E X (.Assign [.Tuple [.Name x px,.Name y py] kt pt] (.Tuple [a,b] k2 pt2) pos) (tW i j ms):=by
 intro hK;subst hK;refine PS.imp (aay hc hN hi hj hij hx hy (ha rfl) hw hs) ?_
 rintro D σ H ⟨p,S,ρ,s,e,h⟩
 refine kH s e h λq H' vs xs S' stp sm ev r k=>?_;cases r with
 |nil=>exact k.elim
 |cons r1 rr=>
  cases rr with
  |nil=>exact k.elim
  |cons r2 rs=>
   cases rs with
   |nil=>exact⟨_,_,rfl,eE.nxD k sm ((ev.set r1 i).set r2 j)⟩
   |cons _ _=>exact k.elim
def gP(K:ae)(g:GM):TG:=λx σ H Q=>∃p S ρ v ρ',bG K p S H/\dC K p H ρ σ/\bC K p.c H v x/\g v ρ=some ρ'/\∀σ',dC K p H ρ' σ'->Q σ' H
def gPs(K:ae)(g:nZ):mU:=λxs σ H Q=>∃p S ρ vs ρ',bG K p S H/\dC K p H ρ σ/\bB K p.c H vs xs/\g vs ρ=some ρ'/\∀σ',dC K p H ρ' σ'->Q σ' H
variable(K X)
def kT(tg:af)(g:GM):Prop:=X.K=K->PG X tg (gP K g)
def qZ(ts:List af)(g:nZ):Prop:=X.K=K->lL X ts (gPs K g)
variable{K X}
theorem PG.imp{tg:af}{t t':TG}(h:PG X tg t)(i:∀x σ H Q,t' x σ H Q->t x σ H Q):PG X tg t':=λBM s σ H v u Q I r q=>h BM s σ H v u Q I r (i v σ H Q q)
theorem lL.imp{ts:List af}{t t':mU}(h:lL X ts t)(i:∀x σ H Q,t' x σ H Q->t x σ H Q):lL X ts t':=λBM s σ H v u Q I r q=>h BM s σ H v u Q I r (i v σ H Q q)
theorem A7{i:Nat}{x:Str}(hN:X.N.Nodup)(hi:X.N[i]?=some x)(hx:kE X.env.scope x)(hf:X.fn x=true\/X.env.scope.names.lookup x=some .local:=by first |exact .inl rfl |exact .inr rfl |assumption):kT K X (.Name x pos) (gN i):=
 λ_=>PG.imp (R8 hN hi hx hf) λx σ H Q ⟨p,S,ρ,v,ρ',s,ev,r,g,k⟩=>by
  cases g;exact k _ (ev.set (v:=.pv v) r i)
theorem Uz:qZ K X [] eB:=λ_=>lL.imp K6 λxs σ H Q ⟨p,S,ρ,vs,ρ',s,ev,r,g,k⟩=>by
 cases vs with
 |nil=>
  cases g;unfold bB at r;exact⟨r,k _ ev⟩
 |cons _ _=>cases g
theorem Zw{g:GM}{gs:nZ}(h1:kT K X e g)(h2:qZ K X es gs)(hs:(assignEach (e::es) X.env).map (·.2)=assign e X.env::(assignEach es X.env).map (·.2):=by rfl):qZ K X (e::es) (cP g gs):=by
 intro hK;subst hK;refine lL.imp (Fy (h1 rfl) (h2 rfl) hs) ?_
 rintro xs σ H Q ⟨p,S,ρ,vs,ρ',s,ev,r,g1,k⟩
 cases vs with
 |nil=>cases g1
 |cons v vr=>
  unfold bB at r;obtain⟨x,xr,rfl,r1,r2⟩:=r;unfold cP at g1;cases z:g v ρ with
  |none=>simp only[z]at g1;cases g1
  |some ρ1=>
   simp only[z]at g1;exact⟨x,xr,rfl,p,S,ρ,v,ρ1,s,ev,r1,z,λσ' ev'=>⟨p,S,ρ1,vr,ρ',s,ev',r2,g1,k⟩⟩
theorem S0{k:Nat}{gs:nZ}{n:Nat}(hc:X.calm=true)(h:qZ K X es gs)(hn:(assignEach es X.env).length=n:=by rfl)(hst:(assignEach es X.env).findIdx? (·.1)=none:=by rfl):kT K X (.Tuple es k pos) (gT n gs):=by
 intro hK;subst hK;refine PG.imp (Y1 hc (h rfl) hn hst) ?_
 rintro x σ H Q ⟨p,S,ρ,v,ρ',s,ev,r,g1,k⟩
 cases v with
 |tup vs=>
  unfold bC at r;obtain⟨a,xs,rfl,t,z,r⟩:=r;unfold gT at g1;dsimp only at g1;split at g1
  .rename_i hl
   exact⟨a,xs,rfl,t,r.length.symm.trans hl,p,S,ρ,vs,ρ',s,ev,r,g1,k⟩
  .cases g1
 |_=>cases g1
theorem J3{g:GM}(he:aX K cl E X e m)(hg:kT K X tg g)(hs:swapsWithSole [tg] e pos.line X.env=pure false:=by rfl)(hw:swappedStores [tg] e X.env=pure none:=by rfl)
  (h1:(assignEach [tg] X.env).map (·.2)=[assign tg X.env]:=by rfl):eT K cl E X (.Assign [tg] e pos) (tR g m):=by
 intro hK;subst hK;refine PS.imp (Ep (he rfl) (hg rfl) hs hw h1) ?_
 rintro D σ H ⟨p,S,ρ,s,e,h⟩
 refine kH s e h λq H' a b S' stp sm ev r k=>?_;cases a with
 |ref k'=>exact k.elim
 |pv v=>
  dsimp only at k;cases z:g v ρ with
  |none=>simp only[z]at k;exact k.elim
  |some ρ1=>
   simp only[z]at k;exact⟨q,S',ρ,v,ρ1,sm,ev,r,z,λσ' ev'=>eE.nxD k sm ev'⟩
def eZ(K:ae)(p:Ph)(H:Hp)(xs:BH×Gd)(J:It):Prop:=xs.1.length<=sizeLine/\∀q H1 S1,cF p H q H1->bG K q S1 H1->iG xs.2 S1->
 (∀(i:Nat)(v:PV),xs.1[i]?=some v->J.go i H1/\∀x H2,J.yld i H1 x H2->cM H1 H2/\bC K q.c H2 v x)/\J.stop xs.1.length H1
theorem eZ.step{p q:Ph}{H H':Hp}{xs:BH×Gd}{J:It}(h:eZ K p H xs J)(s:cF p H q H'):eZ K q H' xs J:=⟨h.1,λr H1 S1 t=>h.2 r H1 S1 (s.trans t)⟩
variable(K cl E X)
def iL(tg iter:af)(m:MI):Prop:=X.K=K->PI X tg iter (tP K cl E (eZ K) m)
variable{K cl E X}
theorem PI.imp{tg iter:af}{t t':TI}(h:PI X tg iter t)(i:∀σ H Q,t' σ H Q->t σ H Q):PI X tg iter t':=λBM s σ H R I q=>h BM s σ H R I (i σ H R q)
def ach(K:ae)(tl:TE):TI:=λσ H R=>tl σ H λx H1=>∃a,x=.ref a/\(((∃xs,cK K H1 a xs)/\R (yE K a) H1)\/((∃xs,dJ K H1 a xs)/\R (Ue K a) H1))
theorem X8{l:af}{tl:TE}(hl:PE X l tl):PI X tg l (ach X.K tl):=by
 intro BM s σ H R I h;refine bI (hl BM s σ H _ I h) ?_
 rintro v s1 ⟨x,H1,I1,r1,q1⟩
 obtain⟨a,e,q⟩:=q1;subst e;cases r1;rcases q with⟨⟨xs,hq⟩,q⟩|⟨⟨xs,hq⟩,q⟩
 .obtain⟨its,rv,p,hz⟩:=I1.list hq
  refine su p.isList ?_;refine⟨s1.heap.objs.size,[s1.heap.objs.size],_,_,H1,rfl,I1.kept (t':=s1.toks) λb o e=>aw _ e,Dx a _,⟨_,dq _ rfl,rfl,rfl⟩,λb hb=>?_,q⟩;have e:b=s1.heap.objs.size:=by simpa using hb
  subst e;exact I1.fpOk (am _) (I1.hok.fresh (am _))
 .obtain⟨its,rv,p,hz⟩:=I1.tuple hq
  refine j8 (show s1.heap.IsTuple a its.toArray from p) ?_;refine⟨s1.heap.objs.size,[s1.heap.objs.size],_,_,H1,rfl,I1.kept (t':=s1.toks) λb o e=>aw _ e,Rv a _,⟨_,dq _ rfl,rfl,rfl⟩,λb hb=>?_,q⟩;have e:b=s1.heap.objs.size:=by simpa using hb
  subst e;exact I1.fpOk (am _) (I1.hok.fresh (am _))
def cE:AV->aQ->bT (BH×Gd)
 |.pv (.lst xs),S=>.ok (xs,[]) S
 |.pv (.tup xs),S=>.ok (xs,[]) S
 |.ref k,S=>match S[k]? with
  |some (.lst xs)=>.ok (xs,[(k,xs)]) S
  |_=>.fail
 |_,_=>.fail
def bN(m:ME):MI:=λρ S=>(m ρ S).bind cE
theorem aaN{p:Ph}{H:Hp}{xs:BH}{a:Addr}{vs:List V}(l:kD K p.c H a vs)(z:vs.length<=sizeLine)(r:bB K p.c H xs vs):eZ K p H (xs,[]) (yE K a):=by
 refine⟨by rw[r.length];exact z,λq H1 S1 st _ _=>⟨λi v e=>?_,?_⟩⟩
 .have l1:=(st.lat l).sq
  obtain⟨x,e1,r1⟩:=(st.reps r).get e;refine⟨⟨vs,x,l1,e1⟩,λy H2 hy=>?_⟩;obtain⟨rfl,hy⟩:=hy;have:=(hy vs l1).symm.trans e1;cases this;exact⟨cM.refl _,r1⟩
 .exact⟨vs,(st.lat l).sq,by rw[r.length];exact am _⟩
theorem T8{p:Ph}{H:Hp}{xs:BH}{a:Addr}{vs:List V}(l:dJ K H a vs)(z:vs.length<=sizeLine)(r:bB K p.c H xs vs):eZ K p H (xs,[]) (Ue K a):=by
 refine⟨by rw[r.length];exact z,λq H1 S1 st _ _=>⟨λi v e=>?_,?_⟩⟩
 .have l1:=st.tup l
  obtain⟨x,e1,r1⟩:=(st.reps r).get e;refine⟨⟨vs,x,l1,e1⟩,λy H2 hy=>?_⟩;obtain⟨rfl,hy⟩:=hy;have:=(hy vs l1).symm.trans e1;cases this;exact⟨cM.refl _,r1⟩
 .exact⟨vs,st.tup l,by rw[r.length];exact am _⟩
theorem T5{p:Ph}{H:Hp}{xs:BH}{a:Addr}{k:Nat}{n:xs.length<=sizeLine}(hf:p.f[k]?=some a):eZ K p H (xs,[(k,xs)]) (yE K a):=by
 refine⟨n,λq H1 S1 st sm g=>?_⟩;have e0:S1[k]?=some (.lst xs):=g (k,xs) ay;obtain⟨vs,h1,l1,r1⟩:=sm.obj k a _ (st.at_ hf) e0;refine⟨λi v e=>?_,?_⟩
 .obtain⟨x,e1,r2⟩:=r1.get e
  refine⟨⟨vs,x,cK.of h1,e1⟩,λy H2 hy=>?_⟩;obtain⟨rfl,hy⟩:=hy;have:=(hy vs (cK.of h1)).symm.trans e1;cases this;exact⟨cM.refl _,r2⟩
 .exact⟨vs,cK.of h1,by rw[r1.length];exact am _⟩
theorem O7(h:aX K cl E X e m):iL K cl E X tg e (bN m):=by
 intro hK;subst hK;refine PI.imp (X8 (h rfl)) ?_
 rintro σ H R ⟨p,S,ρ,s,ev,h⟩
 refine cG s ev h λq H' v x S' stp sm ev r k=>?_;cases v with
 |ref j=>
  obtain⟨a,e,rfl⟩:=r;unfold cE at k;dsimp only at k;cases z:S'[j]? with
  |none=>rw[z]at k;exact k.elim
  |some o=>
   cases o with
   |lst xs=>
    rw[z]at k;obtain⟨vs,h1,l1,r1⟩:=sm.obj j a _ e z;exact⟨a,rfl,.inl ⟨⟨vs,cK.of h1⟩,cH.ret (R:=eZ X.K) k sm (T5 (n:=by rw[r1.length];exact l1) e)⟩⟩
   |lol _=>rw[z]at k;exact k.elim
   |dic _ _=>rw[z]at k;exact k.elim
   |dol _ _=>rw[z]at k;exact k.elim
 |pv v=>
  cases v with
  |lst xs=>
   have r:bC X.K q.c H' (.lst xs) x:=r;unfold bC at r;obtain⟨a,vs,rfl,l,z,r⟩:=r;exact⟨a,rfl,.inl ⟨⟨vs,l.sq⟩,cH.ret (R:=eZ X.K) k sm (aaN l z r)⟩⟩
  |tup xs=>
   have r:bC X.K q.c H' (.tup xs) x:=r;unfold bC at r;obtain⟨a,vs,rfl,l,z,r⟩:=r;exact⟨a,rfl,.inr ⟨⟨vs,l⟩,cH.ret (R:=eZ X.K) k sm (T8 l z r)⟩⟩
  |_=>exact k.elim
def dZ(lo:Int)(n:Nat):BH:=(cq n).map λi=>.int (lo+(i:Nat))
def rB:BK->aQ->bT (BH×Gd)
 |[.pv (.int j)],S1=>@ite _ (j<=16777216/\-16777216<=j) (jp _) (.ok (dZ 0 j.toNat,[]) S1) .fail
 |_,_=>.fail
def fF(ms:MA):MI:=λρ S=>(ms ρ S).bind rB
theorem Z2{p:Ph}{H:Hp}{lo:Int}{n:Nat}(h:n<=sizeLine):eZ K p H (dZ lo n,[]) (yQ lo n):=by
 have hl:(dZ lo n).length=n:=by unfold dZ;rw[ar,l7]
 refine⟨by show(dZ lo n).length<=_;rw[hl];exact h,λq H1 S1 st _ _=>⟨λi v e=>?_,?_⟩⟩
 .have hi:i<n:=by
   have:=(dj.mp (show(dZ lo n)[i]?=some v from e)).1;omega
  refine⟨hi,λx H2 hy=>?_⟩;obtain⟨rfl,rfl⟩:=hy;have e:(dZ lo n)[i]?=some v:=e;unfold dZ at e;rw[fh,List.getElem?_range hi]at e;cases e;refine⟨cM.refl _,?_⟩;unfold bC;rfl
 .show n<=(dZ lo n).length
  rw[hl];exact am n
theorem Ov{p:ah}(hg:Gl X "range")(hm:X.mg "range"=none)(ha:eC K cl E X [a] ms)(hs:starEach [a] X.env=[(false,eval a X.env)]:=by rfl):iL K cl E X tg (.Call (.Name "range" p) [a] [] pos) (fF ms):=by
 intro hK;subst hK;refine PI.imp (Dw hg hm (ha rfl) hs) ?_
 rintro σ H R ⟨p,S,ρ,s,ev,h⟩
 refine cG s ev h λq H' vs xs S' stp sm ev r k=>?_;unfold rB at k;split at k
 .rename_i j
  cases r with
  |cons r1 r2=>
   cases r2;rename_i x;have e:x=.int j:=by
    have r1:bC X.K q.c H' (.int j) x:=r1;unfold bC at r1;exact r1
   subst e;split at k
   .rename_i hj
    have hz:=fU;exact⟨j,rfl,by omega,by omega,cH.ret (R:=eZ X.K) k sm (Z2 (by omega))⟩
   .exact k.elim
 .exact k.elim
theorem R1{mi:MI}{g:GM}(hp:re (model X.prog X.w) X.A X.env X.xe)(hc:X.calm=true)(hi:iL K cl E X tg e mi)(hg:kT K X tg g)(hb:gZ K cl E X sts b1)
  (hs:∀x,foldedSetIterable e X.env x=pure x:=by intro _;rfl):eT K cl E X (.For tg e sts [] pos) (dB mi g b1):=by
 intro hK;subst hK;refine PS.imp (aaJ hp hc (hi rfl) (hg rfl) (hb rfl) hs) ?_
 rintro D σ H ⟨p,S,ρ,s,ev,h⟩
 refine kH s ev h λq H' xg J S' stp sm ev it k=>?_;obtain⟨xs,G⟩:=xg;refine⟨λi n σ H=>n=xs.length-i/\i<=xs.length/\∃p S ρ,bG X.K p S H/\dC X.K p H ρ σ/\eZ X.K p H (xs,G) J/\eE X.K cl p H (dQ G g b1 (xs.drop i) ρ S) D E,⟨xs.length,by simp,io _,q,S',ρ,sm,ev,it,by simpa using k⟩,?_⟩
 rintro i n σ1 H1 ⟨rfl,hi,p1,S1,ρ1,sm1,ev1,it1,k1⟩
 by_cases hlt:i<xs.length
 .have hx:xs[i]?=some xs[i]:=bh hlt
  rw[qq hlt]at k1;unfold dQ at k1;split at k1
  .rename_i gk
   obtain⟨g1,y1⟩:=(it1.2 p1 H1 S1 sm1.step sm1 gk).1 i _ hx;cases z:g xs[i] ρ1 with
   |none=>simp only[z]at k1;exact k1.elim
   |some ρ2=>
    simp only[z]at k1;refine .inr ⟨g1,λσ' H'=>i+1<=xs.length/\∃p S ρ,bG X.K p S H'/\dC X.K p H' ρ σ'/\eZ X.K p H' (xs,G) J/\eE X.K cl p H' (dQ G g b1 (xs.drop (i+1)) ρ S) D E,λσ' H' hN=>⟨xs.length-(i+1),by omega,rfl,hN⟩,λx H2 hy=>?_⟩;obtain⟨same,rx⟩:=y1 x H2 hy;have st2:=sm1.same same;have sm2:=sm1.ofSame same;refine⟨p1,S1,ρ1,xs[i],ρ2,sm2,st2.repE ev1,rx,z,λσ3 ev3=>⟨p1,S1,ρ2,sm2,ev3,?_⟩⟩;have it2:=it1.step st2;cases y:b1 ρ2 S1 with
    |nx ρ4 S4=>
     rw[y]at k1;exact λq5 H5 σ5 st5 sm5 ev5=>⟨hlt,q5,S4,ρ4,sm5,ev5,it2.step st5,eE.mono (r:=dQ G g b1 (xs.drop (i+1)) ρ4 S4) k1 (st2.trans st5)⟩
    |ct ρ4 S4=>
     rw[y]at k1;exact λq5 H5 σ5 st5 sm5 ev5=>⟨hlt,q5,S4,ρ4,sm5,ev5,it2.step st5,eE.mono (r:=dQ G g b1 (xs.drop (i+1)) ρ4 S4) k1 (st2.trans st5)⟩
    |bk ρ4 S4=>rw[y]at k1;exact eE.mono (r:=.nx ρ4 S4) k1 st2
    |rt v S4=>rw[y]at k1;exact eE.mono (r:=.rt v S4) k1 st2
    |exc v S4=>rw[y]at k1;exact eE.mono (r:=.exc v S4) k1 st2
    |fail=>rw[y]at k1;exact k1.elim
  .exact k1.elim
 .have e:i=xs.length:=by omega
  subst e;rw[yg]at k1;unfold dQ at k1;split at k1
  .rename_i gk
   exact .inl ⟨(it1.2 p1 H1 S1 sm1.step sm1 gk).2,eE.nxD k1 sm1 ev1⟩
  .exact k1.elim
theorem Ay(hp:re (model X.prog X.w) X.A X.env X.xe)(hc:eJ K cl E X c mt)(hb:gZ K cl E X sts b1):eT K cl E X (.While c sts [] pos) (nK mt b1):=by
 intro hK;subst hK;refine PS.imp (E7 hp (hc rfl) (hb rfl)) ?_
 rintro D σ H ⟨p,S,ρ,s,ev,h⟩
 unfold nK at h;split at h
 .rename_i hh
  refine⟨λn σ H=>∃p S ρ,bG X.K p S H/\dC X.K p H ρ σ/\eE X.K cl p H (dX mt b1 n ρ S) D E,⟨_,p,S,ρ,s,ev,h⟩,?_⟩
  rintro n σ1 H1 ⟨p1,S1,ρ1,sm1,ev1,k1⟩
  cases n with
  |zero=>exact k1.elim
  |succ n=>
   unfold dX at k1;refine kH sm1 ev1 k1 λq H2 t t' S2 stp sm2 ev2 r k2=>?_;cases r;cases t with
   |true=>
    rw[if_pos rfl]at k2⊢;refine⟨λσ' H'=>∃p S ρ,bG X.K p S H'/\dC X.K p H' ρ σ'/\eE X.K cl p H' (dX mt b1 n ρ S) D E,λσ' H' hN=>⟨n,l8 n,hN⟩,q,S2,ρ1,sm2,ev2,?_⟩;cases y:b1 ρ1 S2 with
    |nx ρ4 S4=>
     rw[y]at k2;exact λq5 H5 σ5 st5 sm5 ev5=>⟨q5,S4,ρ4,sm5,ev5,eE.mono (r:=dX mt b1 n ρ4 S4) k2 st5⟩
    |ct ρ4 S4=>
     rw[y]at k2;exact λq5 H5 σ5 st5 sm5 ev5=>⟨q5,S4,ρ4,sm5,ev5,eE.mono (r:=dX mt b1 n ρ4 S4) k2 st5⟩
    |bk ρ4 S4=>rw[y]at k2;exact k2
    |rt v S4=>rw[y]at k2;exact k2
    |exc v S4=>rw[y]at k2;exact k2
    |fail=>rw[y]at k2;exact k2.elim
   |false=>
    rw[if_neg ia]at k2⊢;exact eE.nxD k2 sm2 ev2
 .exact h.elim
end
end
def iM(n:Nat)(xs:BK):cA:=xs.map some++bn (n-xs.length) none
def jA(n:Nat):AV->aQ->bT AV
 |.pv v,S=>.ok (.pv v) (S.take n)
 |.ref k,S=>if k<n then .ok (.ref k) (S.take n)else match S[k]? with
  |some (.lst xs)=>.ok (.ref n) (S.take n++[.lst xs])
  |some (.dic b kvs)=>.ok (.ref n) (S.take n++[.dic b kvs])
  |_=>.fail
def frz(n:Nat):bT AV->bT AV
 |.ok (.ref k) S=>if k<n then .ok (.ref k) S else match S[k]? with
  |some (.lst xs)=>.ok (.pv (.lst xs)) (S.take n)
  |_=>.fail
 |r=>r
def nM(n:Nat):cU->bT AV
 |.rt v S=>jA n v S
 |.nx _ S=>.ok (.pv .non) (S.take n)
 |.exc e S=>.exc e (S.take n)
 |_=>.fail
def bA(np n:Nat)(b:MS)(xs:BK)(S:aQ):bT AV:=if xs.length=np then nM S.length (b (iM n xs) S)else .fail
def oY{α:Type}:bT α->bT α
 |.ok a S=>.ok a S
 |_=>.fail
abbrev FM:=BK->aQ->bT AV
def cL(f:FM)(ds:BH)(ms:MA):ME:=λρ S=>(ms ρ S).bind λxs S1=>frz S1.length (f (xs++ds.map .pv) S1)
def bD(f:FM)(ds:BH)(ms:MA):ME:=λρ S=>(ms ρ S).bind λxs S1=>frz S1.length (oY (f (xs++ds.map .pv) S1))
def qJ(f:FM)(ds:BH)(ms:MA):ME:=λρ S=>(ms ρ S).bind λxs S1=>oY (f (xs++ds.map .pv) S1)
def jU(K:ae)(cl:Str->Addr)(f:FM):Sp:=λvs H Q E=>∃p S xs,bG K p S H/\iK K p H xs vs/\cH K cl (cJ K) p H (f xs S) Q E
def lI(K:ae)(cl:Str->Addr)(f:FM):Sp:=λvs H Q _=>jU K cl f vs H Q E0
section
variable{K:ae}{cl:Str->Addr}{p q:Ph}{H H':Hp}{S S':aQ}
theorem Vh{c c':Addr->Prop}(h:∀a,c a->c' a){a:Addr}{vs:List V}(l:kD K c' H a vs):kD K c H a vs:=by
 rcases l with⟨l,n⟩|l |l
 .exact .inl ⟨l,λz=>n (h a z)⟩
 .exact .inr (.inl l)
 .exact .inr (.inr l)
theorem rZ{c c':Addr->Prop}(h:∀a,c a->c' a){ps:BH}{vs:List V}(r:bB K c' H ps vs):bB K c H ps vs:=bB.mono (λ_ _ t=>t) (λ_ _ l=>Vh h l) ps vs r
theorem Fv{c c':Addr->Prop}(h:∀a,c a->c' a){v:PV}{x:V}(r:bC K c' H v x):bC K c H v x:=bC.mono (λ_ _ t=>t) (λ_ _ l=>Vh h l) v x r
theorem Mu{f g:List Addr}(h:f <+:g):g.take f.length=f:=by
 obtain⟨t,e⟩:=h;rw[<-e,m7]
theorem Pa{α:Type}:∀{l:List α}{i j:Nat}{a:α},l.Nodup->l[i]?=some a->l[j]?=some a->i=j
 |[],i,j,a,_,e,_=>by simp at e
 |b::l,0,0,a,_,_,_=>rfl
 |b::l,0,j+1,a,n,e,f=>by
  simp at e f;subst e;exact absurd (fm f) (mm.mp n).1
 |b::l,i+1,0,a,n,e,f=>by
  simp at e f;subst f;exact absurd (fm e) (mm.mp n).1
 |b::l,i+1,j+1,a,n,e,f=>by
  exact congrArg (·+1) (Pa (l:=l) (a:=a) (mm.mp n).2 (by simpa using e) (by simpa using f))
theorem bG.cutX(D:Addr->Prop)(s:bG K p S H)(st:cF p H q H')(s':bG K q S' H')(hD:∀b,D b->H b=none)(hq:(∀b,D b->b∈q.f)\/∀k o,S'[k]?=some o->k<S.length->∃xs,o=.lst xs):
  let r:Ph:=⟨p.f,λb=>q.w b/\¬D b,λb=>q.c b/\¬D b⟩
  cF p H r H'/\bG K r (S'.take S.length) H':=by
 intro r;have nD:∀a,p.c a->¬D a:=λa c d=>by
  obtain⟨o,ho,_⟩:=s.mu a c;rw[hD a d]at ho;cases ho
 have le:S.length<=S'.length:=by
  have:=st.pre.length_le;rw[<-s.len,<-s'.len];exact this
 refine⟨⟨s.wc,s.mu,oy,λa h=>⟨st.mw a h,nD a (s.wc a h)⟩,λa h=>⟨st.mono a h,nD a h⟩,λ_ h g=>absurd h g,λa h=>st.nw a h.1,λa h=>st.nc a h.1,st.keep⟩,s.nd,by rw[s.len,om];omega,λa h=>⟨st.mw a (s.sub a h),nD a (s.wc a (s.sub a h))⟩,λa h=>⟨s'.wc a h.1,h.2⟩,λa h=>s'.mu a h.1,λk a o e1 e2=>?_⟩;have hk:k<S.length:=by
  have:=(dj.mp e1).1;rw[<-s.len];exact this
 have e2':S'[k]?=some o:=by
  rw[yh,if_pos hk]at e2;exact e2
 have z:=s'.obj k a o (st.at_ e1) e2';have shr:∀xs vs,bB K q.c H' xs vs->bB K r.c H' xs vs:=λxs vs=>rZ (λb h=>h.1);have sub:∀b,b∉q.f->b∉p.f:=λb n h=>n (st.pre.subset h);rcases hq with hq |hq
 .exact z.mono (λ_ e=>e) (λb w f=>⟨⟨⟨w,λd=>f (hq b d)⟩,sub b f⟩,λ_ e=>e⟩) shr
 .obtain⟨xs,rfl⟩:=hq k o e2' hk
  obtain⟨vs,e,l,g⟩:=z;exact⟨vs,e,l,shr xs vs g⟩
theorem bG.cut(s:bG K p S H)(st:cF p H q H')(s':bG K q S' H'):cF p H ⟨p.f,λb=>q.w b/\¬False,λb=>q.c b/\¬False⟩ H'/\bG K ⟨p.f,λb=>q.w b/\¬False,λb=>q.c b/\¬False⟩ (S'.take S.length) H':=
 s.cutX (λ_=>False) st s' (λ_ h=>h.elim) (.inl λ_ h=>h.elim)
theorem Pi(s:bG K p S H)(st:cF p H q H')(sm:bG K q S' H'){k:Nat}{a:Addr}(e:q.f[k]?=some a)(hk:¬k<S.length):a∉p.f/\H a=none/\¬p.c a:=by
 have na:a∉p.f:=λhm=>by
  obtain⟨j,hj,ej⟩:=yi hm;have e2:q.f[j]?=some a:=st.at_ (by rw[bh hj,ej]);have hjk:j=k:=Pa sm.nd e2 e;rw[s.len]at hj;omega
 have hn:=st.nf a (fm e) na;refine⟨na,hn,λc=>?_⟩;obtain⟨o,ho,_⟩:=s.mu a c;rw[hn]at ho;cases ho
theorem sK{r:bT AV}{Q:VK}{E:XK}(s:bG K p S H)(h:cH K cl (cJ K) p H (frz S.length r) Q E):cH K cl (cJ K) p H r Q E:=by
 cases r with
 |exc n S1=>exact h
 |fail=>exact h
 |ok v S1=>
  cases v with
  |pv v=>exact h
  |ref k=>
   have h:cH K cl (cJ K) p H (if k<S.length then .ok (.ref k) S1 else match S1[k]? with
    |some (.lst xs)=>.ok (.pv (.lst xs)) (S1.take S.length)
    |_=>.fail) Q E:=h
   split at h
   .exact h
   .rename_i hk
    cases z:S1[k]? with
    |none=>rw[z]at h;exact h.elim
    |some o=>
     cases o with
     |lol _=>rw[z]at h;exact h.elim
     |dic _ _=>rw[z]at h;exact h.elim
     |dol _ _=>rw[z]at h;exact h.elim
     |lst xs=>
      rw[z]at h;intro q H' x st sm r;obtain⟨a,e,rfl⟩:=r;obtain⟨na,hn,nc⟩:=Pi s st sm e hk;obtain⟨st1,sm1⟩:=s.cutX (λb=>b=a) st sm (λb d=>d▸hn) (.inl λb d=>d▸fm e);obtain⟨vs,h1,l,r⟩:=sm.obj k a _ e z;refine h _ H' (.ref a) st1 sm1 ?_;show bC K (λb=>q.c b/\¬b=a) H' (.lst xs) (.ref a);unfold bC;exact⟨a,vs,rfl,.inl ⟨h1,λd=>d.2 rfl⟩,l,rZ (λb h=>h.1) r⟩
theorem zZ{r:cU}{Q:VK}{E:XK}(s:bG K p S H)(h:cH K cl (cJ K) p H (nM S.length r) Q E):eE K cl p H r {nx:=λ_ H'=>Q .non H',rt:=Q} E:=by
 cases r with
 |nx ρ S1=>
  intro q H' σ st sm ev;obtain⟨st1,sm1⟩:=s.cut st sm;exact h _ H' .non st1 sm1 (by show bC K (λb=>q.c b/\¬False) H' .non .non;unfold bC;rfl)
 |exc n S1=>
  intro q H' st sm;obtain⟨st1,sm1⟩:=s.cut st sm;exact h _ H' st1 sm1
 |rt v S1=>
  intro q H' x st sm r;obtain⟨st1,sm1⟩:=s.cut st sm;cases v with
  |pv v=>exact h _ H' x st1 sm1 (show bC K (λb=>q.c b/\¬False) H' v x from Fv (λb h=>h.1) r)
  |ref k=>
   obtain⟨a,e,rfl⟩:=r;have h:cH K cl (cJ K) p H (if k<S.length then .ok (.ref k) (S1.take S.length)else match S1[k]? with
    |some (.lst xs)=>.ok (.ref S.length) (S1.take S.length++[.lst xs])
    |some (.dic b kvs)=>.ok (.ref S.length) (S1.take S.length++[.dic b kvs])
    |_=>.fail) Q E:=h
   split at h
   .rename_i hk
    refine h _ H' (.ref a) st1 sm1 ⟨a,?_,rfl⟩;show p.f[k]?=some a;have hf:=Mu st.pre;rw[<-hf,yh,if_pos (by rw[s.len];exact hk)];exact e
   .rename_i hk
    have fin:∀o,S1[k]?=some o->cH K cl (cJ K) p H (.ok (.ref S.length) (S1.take S.length++[o])) Q E->Q (.ref a) H':=λo z h=>by
     obtain⟨na,hn,nc⟩:=Pi s st sm e hk;have l1:(S1.take S.length).length=S.length:=by rw[<-sm1.len,<-s.len]
     have ma:a∈q.f:=fm e;refine h ⟨p.f++[a],q.w,q.c⟩ H' (.ref a) ⟨s.wc,s.mu,⟨[a],rfl⟩,st.mw,st.mono,λb hb n=>?_,st.nw,st.nc,st.keep⟩ ⟨?_,?_,λb hb=>?_,sm.wc,sm.mu,λj b o e1 e2=>?_⟩ ⟨a,?_,rfl⟩
     .rcases cu.mp hb with z |z
      .exact absurd z n
      .have:b=a:=by simpa using z
       rw[this];exact hn
     .show(p.f++[a]).Nodup
      rw[m8];refine⟨s.nd,by simp,λb hb c hc z=>?_⟩;have:c=a:=by simpa using hc
      exact na (this▸z▸hb)
     .show(p.f++[a]).length=_
      rw[bq,bq,l1,s.len];rfl
     .rcases cu.mp hb with z |z
      .exact st.mw b (s.sub b z)
      .have:b=a:=by simpa using z
       rw[this];exact sm.sub a ma
     .by_cases hj:j<S.length
      .have e1':p.f[j]?=some b:=by
        have e1:(p.f++[a])[j]?=some b:=e1
        rwa[ib (by rw[s.len];exact hj)]at e1
       rw[ib (by rw[l1];exact hj),yh,if_pos hj]at e2;refine(sm.obj j b o (st.at_ e1') e2).mono (λ_ e=>e) (λc w f=>⟨⟨w,λm=>?_⟩,λ_ e=>e⟩) λ_ _ r=>r;rcases cu.mp m with z |z
       .exact f (st.pre.subset z)
       .have:c=a:=by simpa using z
        exact f (this▸ma)
      .have hj':j=S.length:=by
        have:=(dj.mp e2).1;rw[bq,l1]at this;simp at this;omega
       subst hj';rw[ij (by rw[l1];exact am _),l1,nj]at e2;have e1:(p.f++[a])[S.length]?=some b:=e1;rw[<-s.len,ij (am _),nj]at e1;cases e1;cases e2;refine(sm.obj k a _ e z).mono (λ_ e=>e) (λc w f=>⟨⟨w,λm=>?_⟩,λ_ e=>e⟩) λ_ _ r=>r;rcases cu.mp m with z |z
       .exact f (st.pre.subset z)
       .have:c=a:=by simpa using z
        exact f (this▸ma)
     .show(p.f++[a])[S.length]?=some a
      rw[<-s.len,ij (am _),nj];rfl
    split at h
    .rename_i z
     exact fin _ z h
    .rename_i z
     exact fin _ z h
    .exact h.elim
 |bk ρ S1=>exact h.elim
 |ct ρ S1=>exact h.elim
 |fail=>exact h.elim
theorem zW{N:List Str}{xs:BK}{vs:List V}(r:iK K p H xs vs):dC K p H (iM N.length xs) (L2.start N vs):=by
 have go:∀{xs:BK}{vs:List V},iK K p H xs vs->xs.length=vs.length:=λ{xs vs} r=>by
  induction r with
  |nil=>rfl
  |cons _ _ ih=>rw[br,br,ih]
 have get:∀{xs:BK}{vs:List V},iK K p H xs vs->∀(i:Nat)(v:AV),xs[i]?=some v->∃x,vs[i]?=some x/\cJ K p H v x:=λ{xs vs} r=>by
  induction r with
  |nil=>intro i v e;simp at e
  |cons h _ ih=>
   intro i v e;cases i with
   |zero=>
    simp at e;subst e;exact⟨_,rfl,h⟩
   |succ i=>simpa using ih i v (by simpa using e)
 have hl:=go r;refine⟨by unfold iM L2.start;simp[hl],λi v e=>?_⟩;unfold iM at e;unfold L2.start
 by_cases hi:i<xs.length
 .rw[ib (by simpa using hi),fh]at e
  cases z:xs[i]? with
  |none=>rw[z]at e;cases e
  |some u=>
   rw[z]at e;cases e;obtain⟨x,e1,e2⟩:=get r i v z;refine⟨x,?_,e2⟩;rw[ib (by rw[ar,<-hl];exact hi),fh,e1];rfl
 .rw[ij (by rw[ar];omega),zz]at e
  split at e
  .cases e
  .cases e
end
section
variable{P:Program}{w:ao}{K:ae}{mg:Str->BE}{base:Heap}{cl:Str->Addr}
theorem Wx{K:ae}{p:Ph}{H:Hp}{xs:BK}{vs:List V}(h:iK K p H xs vs):xs.length=vs.length:=by
 induction h with
 |nil=>rfl
 |cons _ _ ih=>rw[br,br,ih]
theorem Ic{np n:Nat}{b:MS}{vs:List V}{H:Hp}{Q:VK}{E:XK}(h:jU K cl (bA np n b) vs H Q E):vs.length=np:=by
 obtain⟨p,S,xs,sm,ra,h⟩:=h;unfold bA at h;split at h
 .rename_i e
  rw[<-Wx ra,e]
 .exact h.elim
theorem Tr{x qual:Str}{st:Stmt}{f:Addr}{fd:bi}{N ps:List Str}{k np n:Nat}{b:MS}(F:jI K x qual st f fd)(S:jM N ps (cS st))(hnp:ps.length=np)(hn:N.length=n)
  (hb:∀(cdv:Value)(A:aq)(outer:List bc)(s:aa)(H:Hp)(E:XK),dE k (A.deeper (envOfC qual (cS st) s.heap.objs.size f cdv))->gZ K cl E0 (aW gR P w K mg base N qual (cS st) f cdv A outer s H E).nox (eH st) b):
  dR P w K mg base gR (k+1) f fd ps (lI K cl (bA np n b)):=by
 subst hnp hn;refine F.ok S (λvs H Q E h=>Ic h) λcdv A outer s H vs Q E hr h=>⟨_,hb cdv A outer s H E hr rfl,?_⟩;obtain⟨p,S,xs,sm,ra,h⟩:=h;unfold bA at h;split at h
 .exact⟨p,S,_,sm,zW ra,zZ sm h⟩
 .exact h.elim
theorem okX{x qual:Str}{st:Stmt}{f:Addr}{fd:bi}{N ps:List Str}{k np n:Nat}{b:MS}(F:jI K x qual st f fd)(S:jM N ps (cS st))(hnp:ps.length=np)(hn:N.length=n)
  (hb:∀(cdv:Value)(A:aq)(outer:List bc)(s:aa)(H:Hp)(E:XK),dE k (A.deeper (envOfC qual (cS st) s.heap.objs.size f cdv))->gZ K cl E (aW (aV P w) P w K mg base N qual (cS st) f cdv A outer s H E) (eH st) b):
  dR P w K mg base (aV P w) (k+1) f fd ps (jU K cl (bA np n b)):=by
 subst hnp hn;refine F.okX S (λvs H Q E h=>Ic h) λcdv A outer s H vs Q E hr h=>⟨_,hb cdv A outer s H E hr rfl,?_⟩;obtain⟨p,S,xs,sm,ra,h⟩:=h;unfold bA at h;split at h
 .exact⟨p,S,_,sm,zW ra,zZ sm h⟩
 .exact h.elim
theorem ack{x qual:Str}{st:Stmt}{f:Addr}{fd:bi}{ds:Array Value}{N ps:List Str}{k np n:Nat}{b:MS}(F:mO K x qual st f fd ds)(S:jM N ps (cS st))(hnp:ps.length=np)(hn:N.length=n)
  (hb:∀(cdv:Value)(A:aq)(outer:List bc)(s:aa)(H:Hp)(E:XK),dE k (A.deeper (envOfC qual (cS st) s.heap.objs.size f cdv))->gZ K cl E (aW (aV P w) P w K mg base N qual (cS st) f cdv A outer s H E) (eH st) b):
  dR P w K mg base (aV P w) (k+1) f fd ps (jU K cl (bA np n b)):=by
 subst hnp hn;refine F.okX S (λvs H Q E h=>Ic h) λcdv A outer s H vs Q E hr h=>⟨_,hb cdv A outer s H E hr rfl,?_⟩;obtain⟨p,S,xs,sm,ra,h⟩:=h;unfold bA at h;split at h
 .exact⟨p,S,_,sm,zW ra,zZ sm h⟩
 .exact h.elim
theorem x0{f:Addr}{fd:bi}{ps:List Str}{k:Nat}{g:FM}(F:dR P w K mg base (aV P w) k f fd ps (jU K cl g)):dR P w K mg base gR k f fd ps (lI K cl g):=
 ⟨λvs H Q E h=>F.len vs H Q E0 h,λA outer s H args us vs Q E hr e0 hb hv h=>mj (F.run A outer s H args us vs Q E0 hr e0 hb hv h) λr s' hq=>by
  cases r with
  |error e=>
   obtain⟨_,_,_,_,_,_,_,_,_,_,_,_,z⟩:=hq;exact z
  |ok fl=>
   cases fl with
   |ret u=>exact hq
   |next=>exact hq
   |brk=>exact hq
   |cont=>exact hq⟩
end
section
variable{K:ae}{cl:Str->Addr}{E:XK}{X:Cx}{e:af}{es:List af}{ms:MA}{pos p:ah}{k n:Nat}{f:Addr}{fd:bi}{ps:List Str}{g:FM}{x:Str}{dvs:List V}{ds:BD}{dv:BH}
theorem pP{p:Ph}{H:Hp}{xs ys:BK}{vs ws:List V}(h:iK K p H xs vs)(g:iK K p H ys ws):iK K p H (xs++ys) (vs++ws):=by
 induction h with
 |nil=>exact g
 |cons h _ ih=>exact .cons h ih
def Dv(dv:BH)(dvs:List V):Prop:=∀K p H,iK K p H (dv.map .pv) dvs
theorem Dv.nil:Dv [] []:=λ_ _ _=>.nil
theorem K4(F:dR X.prog X.w X.K X.mg X.base gR k f fd ps (lI K cl g))(hr:dE k X.A)(hg:Gl X x)(hm:X.mg x=some (.ref f))(hk:dl X.K (.ref f)=true)(hb:gO X.K fd ps ds)(hd:bK dvs ds)(hv:Dv dv dvs)
  (ha:eC K cl E0 X (e::es) ms)(hdb:(x==("__debug__":Str))=false:=by decide)(he:starEach (e::es) X.env=(false,eval e X.env)::starEach es X.env:=by rfl)(hpl:(backTo pos (starEach es X.env)).any (·.1)=false:=by rfl):
  aX K cl E0 X (.Call (.Name x p) (e::es) [] pos) (cL g dv ms):=by
 intro hK;refine PE.imp (sV F hr hg hm hk hb hd Ud (ha hK) hdb he hpl) ?_
 rintro σ H Q ⟨p,S,ρ,s,ev,h⟩
 exact cG s ev h λq H' as xs S' stp sm ev r k=>⟨q,S',_,sm,pP r (hv K q H'),sK sm k⟩
theorem Gh{α β:Type}{R:Ph->Hp->α->β->Prop}{p:Ph}{H:Hp}{r:bT α}{Q:β->Hp->Prop}(h:cH K cl R p H (oY r) Q E):cH K cl R p H r Q E0:=by
 cases r with
 |ok a S=>exact h
 |exc n S=>exact h.elim
 |fail=>exact h.elim
theorem B3(F:dR X.prog X.w X.K X.mg X.base gR k f fd ps (lI K cl g))(hr:dE k X.A)(hg:Gl X x)(hm:X.mg x=some (.ref f))(hk:dl X.K (.ref f)=true)(hb:gO X.K fd ps ds)(hd:bK dvs ds)(hv:Dv dv dvs)
  (ha:eC K cl E X (e::es) ms)(hdb:(x==("__debug__":Str))=false:=by decide)(he:starEach (e::es) X.env=(false,eval e X.env)::starEach es X.env:=by rfl)(hpl:(backTo pos (starEach es X.env)).any (·.1)=false:=by rfl):
  aX K cl E X (.Call (.Name x p) (e::es) [] pos) (bD g dv ms):=by
 intro hK;refine PE.imp (sV F hr hg hm hk hb hd Ud (ha hK) hdb he hpl) ?_
 rintro σ H Q ⟨p,S,ρ,s,ev,h⟩
 exact cG s ev h λq H' as xs S' stp sm ev r k=>⟨q,S',_,sm,pP r (hv K q H'),Gh (sK sm k)⟩
theorem My(F:dR X.prog X.w X.K X.mg X.base gR k f fd ps (lI K cl g))(hr:dE k X.A)(hg:Gl X x)(hm:X.mg x=some (.ref f))(hk:dl X.K (.ref f)=true)(hb:gO X.K fd ps ds)(hd:bK dvs ds)(hv:Dv dv dvs)
  (ha:eC K cl E X (e::es) ms)(hdb:(x==("__debug__":Str))=false:=by decide)(he:starEach (e::es) X.env=(false,eval e X.env)::starEach es X.env:=by rfl)(hpl:(backTo pos (starEach es X.env)).any (·.1)=false:=by rfl):
  aX K cl E X (.Call (.Name x p) (e::es) [] pos) (qJ g dv ms):=by
 intro hK;refine PE.imp (sV F hr hg hm hk hb hd Ud (ha hK) hdb he hpl) ?_
 rintro σ H Q ⟨p,S,ρ,s,ev,h⟩
 exact cG s ev h λq H' as xs S' stp sm ev r k=>⟨q,S',_,sm,pP r (hv K q H'),Gh k⟩
theorem Vz{P:Program}{w:ao}{mg:Str->BE}{base:Heap}{N:List Str}{qual:Str}{scope:Scope}{fo:Addr}{cd:Value}{A:aq}{outer:List bc}{BN:aa}{BO:Hp}
  (F:dR P w K mg base (aV P w) k f fd ps (jU K cl g))(hr:dE k (aW (aV P w) P w K mg base N qual scope fo cd A outer BN BO E).A)(hg:Gl (aW (aV P w) P w K mg base N qual scope fo cd A outer BN BO E) x)(hm:mg x=some (.ref f))(hk:dl K (.ref f)=true)(hb:gO K fd ps ds)(hd:bK dvs ds)(hv:Dv dv dvs)
  (ha:eC K cl E (aW (aV P w) P w K mg base N qual scope fo cd A outer BN BO E) (e::es) ms)(hdb:(x==("__debug__":Str))=false:=by decide)
  (he:starEach (e::es) (aW (aV P w) P w K mg base N qual scope fo cd A outer BN BO E).env=(false,eval e (aW (aV P w) P w K mg base N qual scope fo cd A outer BN BO E).env)::starEach es (aW (aV P w) P w K mg base N qual scope fo cd A outer BN BO E).env:=by rfl)
  (hpl:(backTo pos (starEach es (aW (aV P w) P w K mg base N qual scope fo cd A outer BN BO E).env)).any (·.1)=false:=by rfl):
  aX K cl E (aW (aV P w) P w K mg base N qual scope fo cd A outer BN BO E) (.Call (.Name x p) (e::es) [] pos) (cL g dv ms):=by
 intro hK;refine PE.imp (sV F hr hg hm hk hb hd aaZ (ha hK) hdb he hpl) ?_
 rintro σ H Q ⟨p,S,ρ,s,ev,h⟩
 exact cG s ev h λq H' as xs S' stp sm ev r k=>⟨q,S',_,sm,pP r (hv K q H'),sK sm k⟩
def mF(n:Str):MS:=λ_ S=>.exc n S
theorem By{P:Program}{w:ao}{mg:Str->BE}{base:Heap}{N:List Str}{qual:Str}{scope:Scope}{f:Addr}{cd:Value}{A:aq}{outer:List bc}{BN:aa}{BO:Hp}
  {uC:Str}{j:Nat}{np p1 cpos:ah}(hg:Gl (aW (aV P w) P w K mg base N qual scope f cd A outer BN BO E) x)(hm:mg x=some (.ref (cl x)))(hx:cy K (cl x) eW "ValueError.__new__"=true)
  (hd:(x==("__debug__":Str))=false:=by decide):
  eT K cl E (aW (aV P w) P w K mg base N qual scope f cd A outer BN BO E) (.Raise (some (.Call (.Name x np) [.Constant (.str uC) j p1] [] cpos)) none pos) (mF x):=
 λ_=>PS.imp (B5 hg hm hx hd) λD σ H ⟨p,S,ρ,s,ev,h⟩=>h p H s.step s
end
def cC(own:List Str)(cap:List (Nat×Str))(ρ:cA):cA:=own.map (λ_=>none)++cap.map λp=>(ρ[p.1]?).join
open Classical in
noncomputable def cN(G:Gd)(g:GM)(me:ME):BH->cA->aQ->bT BH
 |[],_,S=>if iG G S then .ok [] S else .fail
 |x::r,ρ,S=>if iG G S then(match g x ρ with
  |none=>.fail
  |some ρ1=>match me ρ1 S with
   |.ok (.pv y) S1=>match cN G g me r ρ1 S1 with
    |.ok ys S2=>.ok (y::ys) S2
    |_=>.fail
   |_=>.fail)else .fail
theorem eN{g:GM}{me:ME}{ρ:cA}{S:aQ}:cN [] g me [] ρ S=.ok [] S:=by
 unfold cN;rw[if_pos (jO S)]
theorem eV{g:GM}{me:ME}{x:PV}{r:BH}{ρ:cA}{S:aQ}:cN [] g me (x::r) ρ S=(match g x ρ with
  |none=>.fail
  |some ρ1=>match me ρ1 S with
   |.ok (.pv y) S1=>match cN [] g me r ρ1 S1 with
    |.ok ys S2=>.ok (y::ys) S2
    |_=>.fail
   |_=>.fail):=by
 rw[cN,if_pos (jO S)]
noncomputable def bO(own:List Str)(cap:List (Nat×Str))(mi:MI)(g:GM)(me:ME):ME:=λρ S=>(mi ρ S).bind λxs S1=>(cN xs.2 g me xs.1 (cC own cap ρ) S1).bind λys S2=>.ok (.pv (.lst ys)) S2
theorem Uu{G:Gd}{g:GM}{me:ME}:∀(xs:BH)(ρ:cA)(S:aQ)(n:Str)(S':aQ),cN G g me xs ρ S≠.exc n S'
 |[],_,_,_,_,e=>by
  unfold cN at e;split at e<;>cases e
 |x::r,ρ,S,n,S',e=>by
  unfold cN at e;split at e
  .split at e
   .cases e
   .split at e
    .split at e
     .cases e
     .cases e
    .cases e
  .cases e
theorem Sk{G:Gd}{g:GM}{me:ME}{xs zs:BH}{ρ:cA}{S S':aQ}(e:cN G g me xs ρ S=.ok zs S'):iG G S:=by
 cases xs with
 |nil=>
  unfold cN at e;split at e
  .assumption
  .cases e
 |cons x r=>
  unfold cN at e;split at e
  .assumption
  .cases e
section
variable{K:ae}{cl:Str->Addr}{E:XK}{X:Cx}{p q:Ph}{H H':Hp}{S:aQ}
theorem Xj{ρ:cA}{σ:St}{own:List Str}{cap:List (Nat×Str)}(h:dC K p H ρ σ):dC K p H (cC own cap ρ) (kL own cap σ):=by
 refine⟨by unfold cC kL;simp,λi v e=>?_⟩;unfold cC at e;unfold kL
 by_cases hi:i<own.length
 .rw[ib (by simpa using hi),fh,bh hi]at e
  cases e
 .rw[ij (by rw[ar];omega),fh,ar]at e⊢
  cases z:cap[i-own.length]? with
  |none=>rw[z]at e;cases e
  |some c=>
   rw[z]at e;have e:(ρ[c.1]?).join=some v:=cr e;have e':ρ[c.1]?=some (some v):=by
    cases y:ρ[c.1]? with
    |none=>rw[y]at e;cases e
    |some o=>rw[y]at e;exact congrArg some e
   obtain⟨x,e1,e2⟩:=h.at_ c.1 v e';refine⟨x,?_,e2⟩;show some ((σ[c.1]?).join)=some (some x);rw[e1];rfl
def Ph.res(p:Ph)(D:Addr):Ph:=⟨p.f,λa=>p.w a\/a=D,λa=>p.c a\/a=D⟩
def Ph.hold(p:Ph)(D:Addr):Ph:=⟨p.f,λa=>p.w a/\a≠D,p.c⟩
def Ph.less(p:Ph)(D:Addr):Ph:=⟨p.f,λa=>p.w a/\a≠D,λa=>p.c a/\a≠D⟩
theorem bG.notin(s:bG K p S H){D:Addr}(h:H D=none):¬p.c D:=λc=>by
 obtain⟨o,e,_⟩:=s.mu D c;rw[h]at e;cases e
theorem bG.res(s:bG K p S H){D:Addr}{o:HO}(h:H D=none)(mo:Mb o):cF p H (p.res D) (bJ H D o)/\bG K (p.res D) S (bJ H D o):=by
 have st:cF p H (p.res D) (bJ H D o):=⟨s.wc,s.mu,oy,λa h=>.inl h,λa h=>.inl h,λa h g=>absurd h g,λa x n=>x.elim (λz=>absurd z n) (λz=>by rw[z];exact h),λa x n=>x.elim (λz=>absurd z n) (λz=>by rw[z];exact h),λa u e _=>by
  rw[dA (gS e h)];exact e⟩
 refine⟨st,s.nd,s.len,λa h=>.inl (s.sub a h),λa x=>x.elim (λz=>.inl (s.wc a z)) .inr,λa x=>?_,λk a u e1 e2=>?_⟩
 .by_cases z:a=D
  .rw[z,iT]
   exact⟨o,rfl,mo⟩
  .rw[dA z]
   exact s.mu a (x.elim id λy=>absurd y z)
 .exact(s.obj k a u e1 e2).mono (λvs e=>by rw[dA (gS e h)];exact e) (λb w f=>⟨⟨.inl w,f⟩,λvs e=>by rw[dA (gS e h)];exact e⟩) λ_ _ r=>st.reps r
theorem bG.resHold(s:bG K p S H){D:Addr}{o:HO}(h:H D=none)(mo:Mb o):bG K ((p.res D).hold D) S (bJ H D o):=by
 obtain⟨st,sm⟩:=s.res (o:=o) h mo;have ne:∀a,p.w a->a≠D:=λa w z=>s.notin h (z▸s.wc a w);refine⟨sm.nd,sm.len,λa m=>⟨sm.sub a m,ne a (s.sub a m)⟩,λa x=>sm.wc a x.1,sm.mu,λk a u e1 e2=>?_⟩;exact(s.obj k a u e1 e2).mono (λvs e=>by rw[dA (gS e h)];exact e) (λb w f=>⟨⟨⟨.inl w,ne b w⟩,f⟩,λvs e=>by rw[dA (gS e h)];exact e⟩) λ_ _ r=>st.reps r
theorem cF.unhold{D:Addr}(h:p.w D)(st:cF (p.hold D) H q H')(s:bG K p S H):cF p H ⟨q.f,λa=>q.w a\/a=D,q.c⟩ H':=
 ⟨s.wc,s.mu,st.pre,λa x=>by
  by_cases z:a=D
  .exact .inr z
  .exact .inl (st.mw a ⟨x,z⟩),st.mono,st.nf,λa x n=>by
  rcases x with x |x
  .exact st.nw a x λz=>n z.1
  .exact absurd (x▸h) n,st.nc,λa o e n=>st.keep a o e λz=>n z.1⟩
theorem bG.grow{D:Addr}{ys:List V}{o:HO}(s:bG K p S H)(sh:bG K (p.hold D) S H)(w:p.w D)(n:D∉p.f)(mo:Mb o):cF p H p (bJ H D o)/\bG K p S (bJ H D o)/\bG K (p.hold D) S (bJ H D o):=by
 have st:cF p H p (bJ H D o):=⟨s.wc,s.mu,oy,λ_ h=>h,λ_ h=>h,λ_ h g=>absurd h g,λ_ h g=>absurd h g,λ_ h g=>absurd h g,λa u e nw=>by
  rw[dA (λz:a=D=>nw (by rw[z];exact w))];exact e⟩
 have hm:∀a,p.c a->∃u,bJ H D o a=some u/\Mb u:=λa x=>by
  by_cases z:a=D
  .rw[z,iT]
   exact⟨o,rfl,mo⟩
  .rw[dA z]
   exact s.mu a x
 refine⟨st,⟨s.nd,s.len,s.sub,s.wc,hm,λk a u e1 e2=>?_⟩,⟨sh.nd,sh.len,sh.sub,sh.wc,hm,λk a u e1 e2=>?_⟩⟩
 .have ne:a≠D:=λz=>n (z▸fm e1)
  exact(sh.obj k a u e1 e2).mono (λvs e=>by rw[dA ne];exact e) (λb w f=>⟨⟨w.1,f⟩,λvs e=>by rw[dA w.2];exact e⟩) λ_ _ r=>st.reps r
 .have ne:a≠D:=λz=>n (z▸fm e1)
  exact(sh.obj k a u e1 e2).mono (λvs e=>by rw[dA ne];exact e) (λb w f=>⟨⟨w,f⟩,λvs e=>by rw[dA w.2];exact e⟩) λ_ _ r=>st.reps r
theorem bG.toLess{D:Addr}(s:bG K (p.hold D) S H):bG K (p.less D) S H:=
 ⟨s.nd,s.len,s.sub,λa h=>⟨s.wc a h,h.2⟩,λa h=>s.mu a h.1,λk a o e1 e2=>
  (s.obj k a o e1 e2).mono (λ_ e=>e) (λb w f=>⟨⟨w,f⟩,λ_ e=>e⟩) λ_ _ r=>rZ (λa h=>h.1) r⟩
theorem cF.toLess{D:Addr}(st:cF p H q H')(h:H D=none):cF p H (q.less D) H':=by
 have nD:∀a,p.c a->a≠D:=λa c z=>by
  obtain⟨o,e,_⟩:=st.mu a c;rw[z,h]at e;cases e
 exact⟨st.wc,st.mu,st.pre,λa x=>⟨st.mw a x,nD a (st.wc a x)⟩,λa x=>⟨st.mono a x,nD a x⟩,st.nf,λa x=>st.nw a x.1,λa x=>st.nc a x.1,st.keep⟩
variable{sc:Scope}{own:List Str}{cap:List (Nat×Str)}{elt target iter:af}{pos:ah}{mi:MI}{g:GM}{me:ME}
theorem Px{σ:St}{ρ:cA}{xs zs:BH}{G:Gd}{J:It}{Q:VK}{D:Addr}{S2:aQ}(sm:bG K p S H)(ev:dC K p H ρ σ)(it:eZ K p H (xs,G) J)(z:cN G g me xs (cC own cap ρ) S=.ok zs S2)(hD:H D=none)
  (k:∀q H' vs,cF p H q H'->bG K q S2 H'->bG K (q.hold D) S2 H'->q.w D->D∉q.f->H' D=some (.lst vs)->vs.length<=sizeLine->bB K q.c H' zs vs->Q (.ref D) H'):
  rC J (gP K g) (tP K cl E0 (cJ K) me) (kL own cap σ) H D Q:=by
 obtain⟨st0,sm0⟩:=sm.res (D:=D) (o:=.lst []) hD trivial;have sh0:=sm.resHold (D:=D) (o:=.lst []) hD trivial;have nf0:D∉p.f:=λh=>sm.notin hD (sm.wc D (sm.sub D h));refine Tm xs.length it.1 (λi σ1 H1 ys=>ys.length=i/\i<=xs.length/\H1 D=some (.lst ys)/\∃p1 S1 ρ1 us ws,(bG K p1 S1 H1/\bG K (p1.hold D) S1 H1)/\cF p H p1 H1/\p1.w D/\D∉p1.f/\dC K p1 H1 ρ1 σ1/\eZ K p1 H1 (xs,G) J/\iG G S1/\bB K p1.c H1 us ys/\zs=us++ws/\cN G g me (xs.drop i) ρ1 S1=.ok ws S2) ?_ ?_ ?_ ?_ ?_
 .refine⟨rfl,io _,iT,p.res D,S,cC own cap ρ,[],zs,⟨sm0,sh0⟩,st0,.inr rfl,nf0,Xj (st0.repE ev),it.step st0,?_,.nil,rfl,by simpa using z⟩
  exact Sk z
 .rintro i σ1 H1 ys ⟨h1,_,h2,_⟩
  exact⟨h1,h2⟩
 .rintro i σ1 H1 ys hi ⟨_,_,_,p1,S1,ρ1,us,ws,⟨sm1,sh1⟩,st1,w1,f1,ev1,it1,g1,_⟩
  exact((it1.2 p1 H1 S1 sm1.step sm1 g1).1 i xs[i] (bh hi)).1
 .rintro i σ1 H1 ys x H2 hi ⟨hl,_,hH,p1,S1,ρ1,us,ws,⟨sm1,sh1⟩,st1,w1,f1,ev1,it1,g1,r1,e1,c1⟩ hy
  obtain⟨same,rx⟩:=((it1.2 p1 H1 S1 sm1.step sm1 g1).1 i xs[i] (bh hi)).2 x H2 hy;rw[qq hi]at c1;unfold cN at c1;rw[if_pos g1]at c1;split at c1
  .cases c1
  .rename_i ρ2 gz
   split at c1
   .rename_i y S3 mz
    split at c1
    .rename_i vs S4 cz
     cases c1;have st2:=sm1.same same;have sm2:=sm1.ofSame same;have smh:=sh1.ofSame same;have stS:cF p H p1 H2:=st1.trans st2;refine⟨p1,S1,ρ1,xs[i],ρ2,sm2,st2.repE ev1,rx,gz,λσ3 ev3=>⟨p1.hold D,S1,ρ2,smh,⟨ev3.len,ev3.at_⟩,?_⟩⟩;rw[mz];intro q H4 y' st4 sm4 ry;have hD2:H2 D=some (.lst ys):=same _ _ hH;have hD4:H4 D=some (.lst ys):=st4.keep D _ hD2 λz=>z.2 rfl;have fq:D∉q.f:=λh=>by
      have:=st4.nf D h f1;rw[hD2]at this;cases this
     have stU:=cF.unhold w1 st4 sm2;have nq:¬q.w D:=λz=>by
      have:=st4.nw D z λy=>y.2 rfl;rw[hD2]at this;cases this
     have smU:bG K ⟨q.f,λa=>q.w a\/a=D,q.c⟩ S3 H4:=⟨sm4.nd,sm4.len,λa h=>.inl (sm4.sub a h),λa h=>h.elim (sm4.wc a) λz=>z▸st4.mono D (sm2.wc D w1),sm4.mu,λk a o e1 e2=>
      (sm4.obj k a o e1 e2).mono (λ_ e=>e) (λb w f=>⟨⟨.inl w,f⟩,λ_ e=>e⟩) λ_ _ r=>r⟩
     have shU:bG K (Ph.hold ⟨q.f,λa=>q.w a\/a=D,q.c⟩ D) S3 H4:=⟨sm4.nd,sm4.len,λa h=>⟨.inl (sm4.sub a h),λz=>nq (z▸sm4.sub a h)⟩,λa h=>smU.wc a h.1,sm4.mu,λk a o e1 e2=>
      (sm4.obj k a o e1 e2).mono (λ_ e=>e) (λb w f=>⟨⟨⟨.inl w,λz=>nq (z▸w)⟩,f⟩,λ_ e=>e⟩) λ_ _ r=>r⟩
     obtain⟨stG,smG,shG⟩:=smU.grow (ys:=ys) (D:=D) (o:=.lst (ys++[y'])) shU (.inr rfl) fq trivial;have stA:=st2.trans (stU.trans stG);refine Vp hi hD4 ⟨by rw[bq,hl];rfl,hi,iT,_,S3,ρ2,us++[y],vs,⟨smG,shG⟩,st1.trans stA,.inr rfl,fq,stG.repE (stU.repE ev3),it1.step stA,Sk cz,?_,by rw[e1,ko];rfl,cz⟩;exact(stA.reps r1).append (.cons (stG.rep ry) .nil)
    .cases c1
   .cases c1
 .rintro σ1 H1 ys ⟨hl,_,hH,p1,S1,ρ1,us,ws,⟨sm1,sh1⟩,st1,w1,f1,ev1,it1,g1,r1,e1,c1⟩
  rw[yg]at c1;unfold cN at c1;rw[if_pos g1]at c1;cases c1;refine⟨(it1.2 p1 H1 _ sm1.step sm1 g1).2,?_⟩;rw[wv]at e1;subst e1;exact k p1 H1 ys st1 sm1 sh1 w1 f1 hH (by rw[hl];exact it.1) r1
theorem Hi{σ:St}{ρ:cA}{xs:BH×Gd}{J:It}{Q:VK}{D:Addr}(sm:bG K p S H)(ev:dC K p H ρ σ)(it:eZ K p H xs J)(k:cH K cl (cJ K) p H ((cN xs.2 g me xs.1 (cC own cap ρ) S).bind λys S2=>.ok (.pv (.lst ys)) S2) Q E)(hD:H D=none):
  rC J (gP K g) (tP K cl E0 (cJ K) me) (kL own cap σ) H D Q:=by
 cases z:cN xs.2 g me xs.1 (cC own cap ρ) S with
 |fail=>rw[z]at k;exact k.elim
 |exc n S'=>exact absurd z (Uu _ _ _ _ _)
 |ok zs S2=>
  rw[z]at k;have k:∀q H' x,cF p H q H'->bG K q S2 H'->bC K q.c H' (.lst zs) x->Q x H':=k;refine Px sm ev it z hD λq H' vs st1 sm1 sh1 w1 f1 hH l1 r1=>?_;refine k (q.less D) H' (.ref D) (st1.toLess hD) sh1.toLess ?_;unfold bC;exact⟨D,vs,rfl,.inl ⟨hH,λz=>z.2 rfl⟩,l1,rZ (λa h=>h.1) r1⟩
theorem M4(k:iC X sc own cap)(hi:iL K cl E X target iter mi)(hc:X.calm=true)(hg:∀C BN BO ex,kT K (cX X sc (cY own cap) C BN BO ex) target g)(he:∀C BN BO ex,aX K cl E0 (cX X sc (cY own cap) C BN BO ex) elt me)
  (hs:∀x,foldedSetIterable iter X.env x=pure x:=by intro _;rfl):aX K cl E X (.ListComp elt [⟨target,iter,[],0⟩] sc pos) (bO own cap mi g me):=by
 intro hK;refine PE.imp (P6 k (hi hK) hc (λC BN BO ex=>hg C BN BO ex hK) (λC BN BO ex=>he C BN BO ex hK) hs) ?_
 rintro σ H Q ⟨p,S,ρ,s,ev,h⟩
 exact cG s ev h λq H' xs J S' stp sm ev it kk D hD=>Hi sm ev it kk hD
theorem E5{i:Nat}{x:Str}{py spos:ah}(hN:X.N.Nodup)(hx:X.N[i]?=some x)(hl:kE X.env.scope x)(k:iC X sc own cap)(hi:iL K cl E X target iter mi)(hc:X.calm=true)(hg:∀C BN BO ex,kT K (cX X sc (cY own cap) C BN BO ex) target g)(he:∀C BN BO ex,aX K cl E0 (cX X sc (cY own cap) C BN BO ex) elt me)
  (hs:∀x,foldedSetIterable iter X.env x=pure x:=by intro _;rfl)(hsw:swapsWith (.ListComp elt [⟨target,iter,[],0⟩] sc pos) (some (.Name x py)) spos.line X.env=pure true:=by rfl)
  (hf:X.fn x=true\/X.env.scope.names.lookup x=some .local:=by first |exact .inl rfl |exact .inr rfl |assumption):
  eT K cl E X (.Assign [.Name x py] (.ListComp elt [⟨target,iter,[],0⟩] sc pos) spos) (aY i (bO own cap mi g me)):=by
 intro hK;refine PS.imp (Q4 hN hx hl k (hi hK) hc (λC BN BO ex=>hg C BN BO ex hK) (λC BN BO ex=>he C BN BO ex hK) hs hsw hf) ?_
 rintro D σ H ⟨p,S,ρ,s,ev,h⟩
 have h2:tP K cl E (cJ K) (bO own cap mi g me) σ H λy H1=>D.nx (σ.set i (some y)) H1:=by
  refine⟨p,S,ρ,s,ev,?_⟩;unfold aY at h;cases z:bO own cap mi g me ρ S with
  |ok v S1=>
   rw[z]at h;exact λq H' y st sm r=>h q H' _ st sm ((st.repE ev).set r i)
  |exc n S1=>rw[z]at h;exact h
  |fail=>rw[z]at h;exact h
 obtain⟨p,S,ρ,s,ev,h⟩:=h2;exact cG s ev h λq H' xs J S' stp sm ev it kk B hB=>Hi sm ev it kk hB
end
def iW:List (Option Bool)->Option (List Bool)
 |[]=>some []
 |some b::r=>match iW r with
  |some bs=>some (b::bs)
  |none=>none
 |none::_=>none
theorem Uh:∀{l:List (Option Bool)}{bs:List Bool},iW l=some bs->bs.length=l.length
 |[],_,e=>by cases e;rfl
 |some b::r,bs,e=>by
  unfold iW at e;split at e
  .rename_i cs h
   cases e;rw[br,br,Uh h]
  .cases e
 |none::r,_,e=>by cases e
theorem zU:∀{l:List (Option Bool)}{bs:List Bool}{i:Nat}{o:Option Bool},iW l=some bs->l[i]?=some o->∃b,o=some b/\bs[i]?=some b
 |[],_,i,o,_,h=>by simp at h
 |some b::r,bs,i,o,e,h=>by
  unfold iW at e;split at e
  .rename_i cs h'
   cases e;cases i with
   |zero=>
    simp at h;exact⟨b,h.symm,rfl⟩
   |succ i=>simpa using zU h' (by simpa using h)
  .cases e
 |none::r,_,_,_,e,_=>by cases e
def aI:Nat->PV->PV->Option Bool
 |_,.non,.non=>some true
 |_,.bl a,.bl b=>some (a==b)
 |_,.int a,.int b=>some (a==b)
 |_,.str a,.str b=>some (a==b)
 |n+1,.tup xs,.tup ys=>match iW (dy (aI n) xs ys)with
  |some bs=>some (bs.all id&&xs.length==ys.length)
  |none=>none
 |n+1,.lst xs,.lst ys=>if xs.length=ys.length then(match iW (dy (aI n) xs ys)with
  |some bs=>some (bs.all id)
  |none=>none)else some false
 |_,_,_=>none
theorem vA(bs:List Bool):((cq bs.length).all λj=>bs.getD j true)=bs.all id:=by
 rw[sw,jd,jd];constructor
 .intro h b hb
  obtain⟨j,hj,e⟩:=yi hb;have:=h j (by simpa using hj);simpa[de,hj,e]using this
 .intro h j hj
  have hj:j<bs.length:=by simpa using hj
  have:=h bs[j] (je hj);simpa[de,hj]using this
section
variable{X:Cx}{BM:List (Addr×Obj)}{σ:St}{H:Hp}{s:aa}{c:Addr->Prop}
theorem vP{n:Nat}{xs ys:BH}{vs ws:List V}{its jts:BD}{bs:List Bool}{A:aq}
  (ih:∀(v w:PV)(x y:V)(u u':Value)(b:Bool),bC X.K c H v x->bC X.K c H w y->cD x u->cD y u'->aI n v w=some b->jz A s u u' b)
  (r1:bB X.K c H xs vs)(r2:bB X.K c H ys ws)(q1:bK vs its)(q2:bK ws jts)(e:iW (dy (aI n) xs ys)=some bs):
  ∀j(h1:j<its.toArray.size)(h2:j<jts.toArray.size),jz A s its.toArray[j] jts.toArray[j] (bs.getD j true):=λj h1 h2=>by
 have l1:=r1.length.trans q1.length;have l2:=r2.length.trans q2.length;have g1:j<xs.length:=by rw[l1];simpa using h1
 have g2:j<ys.length:=by rw[l2];simpa using h2
 obtain⟨x,ex,rx⟩:=r1.get (bh g1);obtain⟨y,ey,ry⟩:=r2.get (bh g2);obtain⟨u,eu,ru⟩:=q1.get ex;obtain⟨u',eu',ru'⟩:=q2.get ey;have hz:(dy (aI n) xs ys)[j]?=some (aI n xs[j] ys[j]):=by
  rw[m9,bh g1,bh g2]
 obtain⟨b,eb,eb'⟩:=zU e hz;have e1:its.toArray[j]=u:=by
  rw[o0];rw[bh (by simpa using h1)]at eu;exact cr eu
 have e2:jts.toArray[j]=u':=by
  rw[o0];rw[bh (by simpa using h2)]at eu';exact cr eu'
 rw[e1,e2];have e3:bs.getD j true=b:=by simp[de,eb']
 rw[e3];exact ih _ _ _ _ _ _ _ rx ry ru ru' eb
theorem sW{n:Nat}{xs ys:BH}{bs:List Bool}(e:iW (dy (aI n) xs ys)=some bs):bs.length=min xs.length ys.length:=by
 rw[Uh e,List.length_zipWith]
theorem Oi(n:Nat)(v w:PV)(x:V)(b:Bool)(nt:∀xs,v≠.tup xs)(nl:∀xs,v≠.lst xs)(h:bC X.K c H v x)(g:bC X.K c H w x)(e:aI n v w=some b):b=true:=by
 cases v with
 |tup xs=>exact absurd rfl (nt xs)
 |lst xs=>exact absurd rfl (nl xs)
 |non=>
  cases w<;>first |(unfold aI at e;simp at e;done) |skip
  unfold aI at e;cases e;rfl
 |bl i=>
  cases w<;>first |(unfold aI at e;simp at e;done) |skip
  unfold bC at h g;subst h;injection g with g';subst g';unfold aI at e;cases e;exact beq_self_eq_true _
 |int i=>
  cases w<;>first |(unfold aI at e;simp at e;done) |skip
  unfold bC at h g;subst h;injection g with g';subst g';unfold aI at e;cases e;exact beq_self_eq_true _
 |str i=>
  cases w<;>first |(unfold aI at e;simp at e;done) |skip
  unfold bC at h g;subst h;injection g with g';subst g';unfold aI at e;cases e;exact beq_self_eq_true _
theorem Dk(I:aO X BM σ H s):∀(n:Nat)(v w:PV)(x:V)(b:Bool),bC X.K c H v x->bC X.K c H w x->aI n v w=some b->b=true:=by
 intro n
 induction n with
 |zero=>
  intro v w x b h g e;cases v with
  |tup xs=>unfold aI at e;simp at e
  |lst xs=>unfold aI at e;simp at e
  |_=>exact Oi 0 _ w x b (by intro _ z;cases z) (by intro _ z;cases z) h g e
 |succ n ih=>
  have items:∀(xs ys:BH)(vs:List V)(bs:List Bool),bB X.K c H xs vs->bB X.K c H ys vs->iW (dy (aI n) xs ys)=some bs->bs.all id=true/\xs.length=ys.length:=λxs ys vs bs r1 r2 e=>by
   have ll:=r1.length.trans r2.length.symm;refine⟨?_,ll⟩;rw[jd];intro b hb;obtain⟨j,hj,ej⟩:=yi hb;have hj':=hj;rw[sW e]at hj';have g1:j<xs.length:=by omega
   have g2:j<ys.length:=by omega
   obtain⟨x,ex,rx⟩:=r1.get (bh g1);obtain⟨y,ey,ry⟩:=r2.get (bh g2);have:=ex.symm.trans ey;cases this;have hz:(dy (aI n) xs ys)[j]?=some (aI n xs[j] ys[j]):=by
    rw[m9,bh g1,bh g2]
   obtain⟨b',eb,eb'⟩:=zU e hz;rw[bh hj,ej]at eb';cases eb';exact ih _ _ _ _ rx ry eb
  intro v w x b h g e;cases v with
  |tup xs=>
   cases w with
   |tup ys=>
    unfold bC at h g;obtain⟨a,vs,rfl,t1,_,r1⟩:=h;obtain⟨a',ws,e1,t2,_,r2⟩:=g;cases e1;have:=I.tuple_inj t1 t2;subst this;unfold aI at e;split at e
    .rename_i bs hb
     obtain⟨z1,z2⟩:=items xs ys vs bs r1 r2 hb;rw[z1,z2,beq_self_eq_true]at e;cases e;rfl
    .cases e
   |_=>unfold aI at e;simp at e
  |lst xs=>
   cases w with
   |lst ys=>
    unfold bC at h g;obtain⟨a,vs,rfl,t1,_,r1⟩:=h;obtain⟨a',ws,e1,t2,_,r2⟩:=g;cases e1;have:=I.list_inj t1.sq t2.sq;subst this;unfold aI at e;rw[if_pos (r1.length.trans r2.length.symm)]at e;split at e
    .rename_i bs hb
     obtain⟨z1,z2⟩:=items xs ys vs bs r1 r2 hb;rw[z1]at e;cases e;rfl
    .cases e
   |_=>unfold aI at e;simp at e
  |_=>exact Oi (n+1) _ w x b (by intro _ z;cases z) (by intro _ z;cases z) h g e
theorem Uo(I:aO X BM σ H s):∀(n:Nat)(v w:PV)(x y:V)(u u':Value)(b:Bool)(A:aq),A.units+n<cLine->bC X.K c H v x->bC X.K c H w y->cD x u->cD y u'->aI n v w=some b->oz A s u u' b/\jz A s u u' b:=by
 have flat:∀(n:Nat)(v w:PV)(x y:V)(u u':Value)(b:Bool)(A:aq),(∀xs,v≠.tup xs)->(∀xs,v≠.lst xs)->bC X.K c H v x->bC X.K c H w y->cD x u->cD y u'->aI n v w=some b->oz A s u u' b/\jz A s u u' b:=by
  intro n v w x y u u' b A nt nl h g r r' e;cases v with
  |tup xs=>exact absurd rfl (nt xs)
  |lst xs=>exact absurd rfl (nl xs)
  |non=>
   cases w<;>first |(unfold aI at e;simp at e;done) |skip
   unfold bC at h g;subst h g;cases r;cases r';unfold aI at e;cases e;exact⟨o4,qd _⟩
  |bl i=>
   cases w<;>first |(unfold aI at e;simp at e;done) |skip
   unfold bC at h g;subst h g;cases r;cases r';unfold aI at e;cases e;exact⟨o5 _ _,c9 _ _⟩
  |int i=>
   cases w<;>first |(unfold aI at e;simp at e;done) |skip
   unfold bC at h g;subst h g;obtain⟨t,rfl⟩:=r;obtain⟨t',rfl⟩:=r';unfold aI at e;cases e;exact⟨o6 _ _ _ _,d3 _ _ _ _⟩
  |str i=>
   cases w<;>first |(unfold aI at e;simp at e;done) |skip
   unfold bC at h g;subst h g;obtain⟨t,rfl⟩:=r;obtain⟨t',rfl⟩:=r';unfold aI at e;cases e;exact⟨o7 _ _ _ _,d5 _ _ _ _⟩
 have main:∀(n:Nat)(v w:PV)(x y:V)(u u':Value)(b:Bool)(A:aq),A.units+n<cLine->bC X.K c H v x->bC X.K c H w y->cD x u->cD y u'->aI n v w=some b->oz A s u u' b/\jz A s u u' b:=by
  intro n
  induction n with
  |zero=>
   intro v w x y u u' b A hu h g r r' e;cases v with
   |tup xs=>unfold aI at e;simp at e
   |lst xs=>unfold aI at e;simp at e
   |_=>exact flat 0 _ w x y u u' b A (by intro _ z;cases z) (by intro _ z;cases z) h g r r' e
  |succ n ih=>
   intro v w x y u u' b A hu h g r r' e;have hin:A.in1.units+n<cLine:=by show A.units+1+n<cLine;omega
   cases v with
   |tup xs=>
    cases w with
    |tup ys=>
     have hs:x=y->b=true:=λz=>Dk I (n+1) _ _ x b h (z▸g) e;unfold bC at h g;obtain⟨a,vs,rfl,t1,_,r1⟩:=h;obtain⟨a',ws,rfl,t2,_,r2⟩:=g;cases r;cases r';obtain⟨its,q1,p1,_⟩:=I.tuple t1;obtain⟨jts,q2,p2,_⟩:=I.tuple t2;unfold aI at e;split at e
     .rename_i bs hb
      cases e;have z:=o8 (A:=A) (s:=s) (e:=λj=>bs.getD j true) (show s.heap.IsTuple a its.toArray from p1) (show s.heap.IsTuple a' jts.toArray from p2) (by omega)
       (vP (A:=A.in1) (λv w x y u u' b h1 h2 h3 h4 h5=>(ih v w x y u u' b A.in1 hin h1 h2 h3 h4 h5).2) r1 r2 q1 q2 hb)
      have l1:=r1.length.trans q1.length;have l2:=r2.length.trans q2.length;rw[az,az,<-l1,<-l2,<-sW hb,vA]at z;refine⟨z,?_⟩
      by_cases ha:a=a'
      .subst ha
       rw[hs rfl];exact qd _
      .exact o9 ha z
     .cases e
    |_=>unfold aI at e;simp at e
   |lst xs=>
    cases w with
    |lst ys=>
     have hs:x=y->b=true:=λz=>Dk I (n+1) _ _ x b h (z▸g) e;unfold bC at h g;obtain⟨a,vs,rfl,t1,_,r1⟩:=h;obtain⟨a',ws,rfl,t2,_,r2⟩:=g;cases r;cases r';obtain⟨its,q1,p1,_⟩:=I.list t1.sq;obtain⟨jts,q2,p2,_⟩:=I.list t2.sq;have l1:=r1.length.trans q1.length;have l2:=r2.length.trans q2.length;have fin:oz A s (.ref a) (.ref a') b->oz A s (.ref a) (.ref a') b/\jz A s (.ref a) (.ref a') b:=λz=>by
      refine⟨z,?_⟩
      by_cases ha:a=a'
      .subst ha
       rw[hs rfl];exact qd _
      .exact o9 ha z
     unfold aI at e;split at e
     .rename_i hl
      split at e
      .rename_i bs hb
       cases e;have z:=p4 (A:=A) (s:=s) (e:=λj=>bs.getD j true) p1.isList p2.isList (by rw[az,az];omega) (by omega)
        (vP (A:=A.in1) (λv w x y u u' b h1 h2 h3 h4 h5=>(ih v w x y u u' b A.in1 hin h1 h2 h3 h4 h5).2) r1 r2 q1 q2 hb)
       have hm:its.length=bs.length:=by rw[sW hb];omega
       rw[az,hm,vA]at z;exact fin z
      .cases e
     .rename_i hl
      cases e;exact fin (p6 p1.isList p2.isList (by rw[az,az];simp;omega) (by omega))
    |_=>unfold aI at e;simp at e
   |_=>exact flat (n+1) _ w x y u u' b A (by intro _ z;cases z) (by intro _ z;cases z) h g r r' e
 exact main
end
noncomputable section
open PySem PySem.Spec PyProof.Rows Bn
section
variable{X:Cx}
theorem Rq{BM:List (Addr×Obj)}{σ:St}{H:Hp}{s:aa}(I:aO X BM σ H s){p:Ph}{v w:PV}{x y:V}{u u':Value}{b:Bool}{A:aq}(hu:A.units+8<cLine)(h:eP X.K p H v x)(g:eP X.K p H w y)(r:cD x u)(r':cD y u')(e:aI 8 v w=some b):
  oz A s u u' b/\SeqAt.RcNeAt A s u u' (!b):=by
 have hin:A.in1.units+7<cLine:=by show A.units+1+7<cLine;omega
 cases v with
 |non=>
  cases w<;>first |(unfold aI at e;simp at e;done) |skip
  have h:=h.non;have g:=g.non;subst h g;cases r;cases r';unfold aI at e;cases e;exact⟨o4,SeqAt.RcNeAt.none_none⟩
 |bl i=>
  cases w<;>first |(unfold aI at e;simp at e;done) |skip
  have h:=h.bl;have g:=g.bl;subst h g;cases r;cases r';unfold aI at e;cases e;exact⟨o5 _ _,SeqAt.RcNeAt.bool_bool _ _⟩
 |int i=>
  cases w<;>first |(unfold aI at e;simp at e;done) |skip
  have h:=h.int;have g:=g.int;subst h g;obtain⟨t,rfl⟩:=r;obtain⟨t',rfl⟩:=r';unfold aI at e;cases e;exact⟨o6 _ _ _ _,SeqAt.RcNeAt.int_int _ _ _ _⟩
 |str i=>
  cases w<;>first |(unfold aI at e;simp at e;done) |skip
  have h:=h.str;have g:=g.str;subst h g;obtain⟨t,rfl⟩:=r;obtain⟨t',rfl⟩:=r';unfold aI at e;cases e;exact⟨o7 _ _ _ _,SeqAt.RcNeAt.str_str _ _ _ _⟩
 |tup xs=>
  cases w with
  |tup ys=>
   obtain⟨a,vs,rfl,t1,_,r1⟩:=h.tup;obtain⟨a',ws,rfl,t2,_,r2⟩:=g.tup;cases r;cases r';obtain⟨its,q1,p1,_⟩:=I.tuple t1;obtain⟨jts,q2,p2,_⟩:=I.tuple t2;unfold aI at e;split at e
   .rename_i bs hb
    cases e;have it:=vP (s:=s) (A:=A.in1) (λv w x y u u' b h1 h2 h3 h4 h5=>(Uo I 7 v w x y u u' b A.in1 hin h1 h2 h3 h4 h5).2) r1 r2 q1 q2 hb;have z:=o8 (A:=A) (s:=s) (e:=λj=>bs.getD j true) (show s.heap.IsTuple a its.toArray from p1) (show s.heap.IsTuple a' jts.toArray from p2) (by omega) it;have z':=SeqAt.RcNeAt.tuples (A:=A) (s:=s) (e:=λj=>bs.getD j true) (show s.heap.IsTuple a its.toArray from p1) (show s.heap.IsTuple a' jts.toArray from p2) (by omega) it;have l1:=r1.length.trans q1.length;have l2:=r2.length.trans q2.length;rw[az,az,<-l1,<-l2,<-sW hb,vA]at z z';exact⟨z,z'⟩
   .cases e
  |_=>unfold aI at e;simp at e
 |lst xs=>
  cases w with
  |lst ys=>
   obtain⟨a,vs,rfl,t1,_,r1⟩:=h.lst;obtain⟨a',ws,rfl,t2,_,r2⟩:=g.lst;cases r;cases r';obtain⟨its,q1,p1,_⟩:=I.list t1;obtain⟨jts,q2,p2,_⟩:=I.list t2;have l1:=r1.length.trans q1.length;have l2:=r2.length.trans q2.length;unfold aI at e;split at e
   .rename_i hl
    split at e
    .rename_i bs hb
     cases e;have it:=vP (s:=s) (A:=A.in1) (λv w x y u u' b h1 h2 h3 h4 h5=>(Uo I 7 v w x y u u' b A.in1 hin h1 h2 h3 h4 h5).2) r1 r2 q1 q2 hb;have z:=p4 (A:=A) (s:=s) (e:=λj=>bs.getD j true) p1.isList p2.isList (by rw[az,az];omega) (by omega) it;have z':=SeqAt.RcNeAt.lists (A:=A) (s:=s) (e:=λj=>bs.getD j true) p1.isList p2.isList (by rw[az,az];omega) (by omega) it;have hm:its.length=bs.length:=by rw[sW hb];omega
     rw[az,hm,vA]at z z';exact⟨z,z'⟩
    .cases e
   .rename_i hl
    cases e;exact⟨p6 p1.isList p2.isList (by rw[az,az];simp;omega) (by omega),SeqAt.RcNeAt.lists_lengths p1.isList p2.isList (by rw[az,az];simp;omega) (by omega)⟩
  |_=>unfold aI at e;simp at e
def xO(K:ae)(neg:Bool):R2:=λx y H Q=>∃p v w b,eP K p H v x/\eP K p H w y/\aI 8 v w=some b/\Q (.bl (if neg then !b else b)) H
theorem wT(hu:X.A.units+8<cLine):dG X (compareOp .Eq) (xO X.K false):=by
 intro BM s σ H x y v u Q I rx ry h;obtain⟨p,a,b,k,h1,h2,e,q⟩:=h;exact(Rq I hu h1 h2 rx ry e).1 X.prog X.w X.xe _ ⟨.bl k,H,I,rfl,q⟩
theorem Ip(hu:X.A.units+8<cLine):dG X (compareOp .NotEq) (xO X.K true):=by
 intro BM s σ H x y v u Q I rx ry h;obtain⟨p,a,b,k,h1,h2,e,q⟩:=h;exact(Rq I hu h1 h2 rx ry e).2 X.prog X.w X.xe _ ⟨.bl (!k),H,I,rfl,q⟩
def bM(a b:PV):BI:=(aI 8 a b).map .bl
def fE(a b:PV):BI:=(aI 8 a b).map λk=>.bl (!k)
theorem yA{K:ae}:eK K (xO K false) bM:=λ{p S H a b c x y Q} s ra rb e k=>by
 unfold bM at e;cases z:aI 8 a b with
 |none=>rw[z]at e;cases e
 |some t=>
  rw[z]at e;cases e;exact⟨p,a,b,t,ra,rb,z,k H _ (cM.refl H) (by unfold bC;rfl)⟩
theorem Yq{K:ae}:eK K (xO K true) fE:=λ{p S H a b c x y Q} s ra rb e k=>by
 unfold fE at e;cases z:aI 8 a b with
 |none=>rw[z]at e;cases e
 |some t=>
  rw[z]at e;cases e;exact⟨p,a,b,t,ra,rb,z,k H _ (cM.refl H) (by unfold bC;rfl)⟩
def i2(f:Int->Int->BI):PV->PV->BI
 |.int a,.int b=>f a b
 |_,_=>none
open Classical in
def cI(C:Int->Int->Prop)(g:Int->Int->PV)(a b:Int):BI:=if C a b then some (g a b)else none
def pL:PV->V
 |.int i=>.int i
 |.bl b=>.bl b
 |.str s=>.str s
 |_=>.non
def qW:PV->Bool
 |.int _=>true
 |.bl _=>true
 |.str _=>true
 |.non=>true
 |_=>false
theorem gI{K:ae}{c:Addr->Prop}{H:Hp}{v:PV}(h:qW v=true):bC K c H v (pL v):=by
 cases v with
 |tup _=>cases h
 |lst _=>cases h
 |_=>unfold bC pL;rfl
theorem xT{K:ae}{C:Int->Int->Prop}{g:Int->Int->PV}{h:Int->Int->V}(fl:∀i j,qW (g i j)=true/\pL (g i j)=h i j):eK K (rI C h) (i2 (cI C g)):=λ{p S H a b c x y Q} s ra rb e k=>by
 cases a with
 |int i=>
  cases b with
  |int j=>
   unfold i2 cI at e;dsimp only at e;split at e
   .rename_i hc
    cases e;refine⟨i,j,ra.int,rb.int,hc,?_⟩;rw[<-(fl i j).2];exact k H _ (cM.refl H) (gI (fl i j).1)
   .cases e
  |_=>cases e
 |_=>cases e
theorem tZ{K:ae}{g:Int->Int->PV}{h:Int->Int->V}(fl:∀i j,qW (g i j)=true/\pL (g i j)=h i j):eK K (iQ h) (i2 λi j=>some (g i j)):=λ{p S H a b c x y Q} s ra rb e k=>by
 cases a with
 |int i=>
  cases b with
  |int j=>
   cases e;refine⟨i,j,ra.int,rb.int,?_⟩;rw[<-(fl i j).2];exact k H _ (cM.refl H) (gI (fl i j).1)
  |_=>cases e
 |_=>cases e
def oX(i j:Int):Prop:=Wd i j\/(Bd 1000000 i/\Bd 1000000 j)
theorem oX.ok{i j:Int}(h:oX i j):IntMulOk i j:=by
 rcases h with h |h
 .exact h.ok
 have h1:=Hm h.1;have h2:=Hm h.2;unfold IntMulOk Builtin.Int.intTooBig bitsLine;intro c;simp only[ee,decide_eq_true_eq]at c;have:=c.2;omega
theorem J6:dG X (binaryOp .Mult) (rI oX λi j=>.int (i*j)):=yJ λ_ _ _ _ _ _ _ hc q=>mul_int q hc.ok
def bF:=i2 (cI oX λi j=>.int (i*j))
def eO:=i2 (cI oW λi j=>.int (i.fdiv j))
def fT:=i2 (cI (λ_ j=>j≠0) λi j=>.int (i.fmod j))
def lH:=i2 (cI xS λi j=>.int (i^j.toNat))
def dN:=i2 λi j=>some (.int (i-j))
def gK:=i2 λi j=>some (.bl (decide (i<j)))
def kA:=i2 λi j=>some (.bl (decide (i<=j)))
def gF:=i2 λi j=>some (.bl (decide (j<i)))
def pI:=i2 λi j=>some (.bl (decide (j<=i)))
theorem aaY{K:ae}:eK K (rI oX λi j=>.int (i*j)) bF:=xT λ_ _=>⟨rfl,rfl⟩
theorem Z8{K:ae}:eK K (rI oW λi j=>.int (i.fdiv j)) eO:=xT λ_ _=>⟨rfl,rfl⟩
theorem abt{K:ae}:eK K (rI (λ_ j=>j≠0) λi j=>.int (i.fmod j)) fT:=xT λ_ _=>⟨rfl,rfl⟩
theorem aa8{K:ae}:eK K (rI xS λi j=>.int (i^j.toNat)) lH:=xT λ_ _=>⟨rfl,rfl⟩
theorem abd{K:ae}:eK K (iQ λi j=>.int (i-j)) dN:=tZ λ_ _=>⟨rfl,rfl⟩
theorem qY{K:ae}:eK K (iQ λi j=>.bl (decide (i<j))) gK:=tZ λ_ _=>⟨rfl,rfl⟩
theorem tU{K:ae}:eK K (iQ λi j=>.bl (decide (i<=j))) kA:=tZ λ_ _=>⟨rfl,rfl⟩
theorem Hr{K:ae}:eK K (iQ λi j=>.bl (decide (j<i))) gF:=tZ λ_ _=>⟨rfl,rfl⟩
theorem Nr{K:ae}:eK K (iQ λi j=>.bl (decide (j<=i))) pI:=tZ λ_ _=>⟨rfl,rfl⟩
def cW:PV->BI
 |.int i=>some (.int (-i))
 |_=>none
theorem abv{K:ae}:yL K (rU λi=>.int (-i)) cW:=λ{p S H a c x Q} s ra e k=>by
 cases a with
 |int i=>
  cases e;exact⟨i,ra.int,k H _ (cM.refl H) (gI (v:=.int (-i)) rfl)⟩
 |_=>cases e
def Kp(K:ae):R2:=λx y H Q=>∃l b xs zs,x=.ref l/\y=.ref b/\cK K H l xs/\cK K H b zs/\xs.length+zs.length<=sizeLine/\∀p,H p=none->Q (.ref p) (bJ H p (.lst (xs++zs)))
theorem F8:dG X (binaryOp .Add) (Kp X.K):=by
 intro BM s σ H x y v u Q I rx ry h;obtain⟨l,b,xs,zs,rfl,rfl,hx,hy,hz,q⟩:=h;cases rx;cases ry;obtain⟨its,r1,p1,_⟩:=I.list hx;obtain⟨jts,r2,p2,_⟩:=I.list hy;obtain⟨⟨cls,dd,data,sl⟩,n,ho,hc,_,hd⟩:=p1;obtain⟨⟨cls2,dd2,data2,sl2⟩,n2,ho2,hc2,_,hd2⟩:=p2;simp only at hc hd hc2 hd2;subst hc hd hc2 hd2;have e:its.toArray++jts.toArray=(its++jts).toArray:=by simp
 have l1:=r1.length;have l2:=r2.length;refine wy ⟨_,ho,rfl⟩ ⟨_,ho2,rfl⟩ noFill_list_add seq_list_add PySem.F.slot_list_add PySem.F.entry_list_add (PySem.F.args_list_add_2 _ _) (list_addW l b its.toArray jts.toArray n n2 dd dd2 sl sl2 (by rw[az,az];omega)) ⟨ho,ho2,?_⟩;rw[e];exact⟨.ref _,_,I.lnew (t':=s.toks) (r1.append r2) (by rw[bq];omega),rfl,q _ I.fresh⟩
def aH:PV->PV->BI
 |.int a,.int b=>some (.int (a+b))
 |.lst xs,.lst ys=>if xs.length+ys.length<=16777216 then some (.lst (xs++ys))else none
 |.tup xs,.tup ys=>if xs.length≠0/\ys.length≠0/\xs.length+ys.length<=16777216 then some (.tup (xs++ys))else none
 |_,_=>none
def Up(K:ae):R2:=λx y H Q=>(iQ λi j=>.int (i+j)) x y H Q\/Kp K x y H Q\/Lq K x y H Q
theorem M8:dG X (binaryOp .Add) (Up X.K):=dG.or aam (dG.or F8 O5)
theorem abD{K:ae}:eK K (Up K) aH:=λ{p S H a b c x y Q} s ra rb e k=>by
 cases a with
 |int i=>
  cases b with
  |int j=>
   cases e;exact .inl ⟨i,j,ra.int,rb.int,k H _ (cM.refl H) (gI (v:=.int (i+j)) rfl)⟩
  |_=>cases e
 |lst xs=>
  cases b with
  |lst ys=>
   have e:(if xs.length+ys.length<=16777216 then some (PV.lst (xs++ys))else none)=some c:=e;split at e
   .rename_i hl
    cases e;obtain⟨a1,vs,rfl,l1,z1,r1⟩:=ra.lst;obtain⟨a2,ws,rfl,l2,z2,r2⟩:=rb.lst;have hz:vs.length+ws.length<=sizeLine:=by rw[<-r1.length,<-r2.length,fU];exact hl
    exact .inr (.inl ⟨a1,a2,vs,ws,rfl,rfl,l1,l2,hz,λt ht=>k _ _ (fX ht) (nI s (r1.append r2) (by rw[bq];exact hz) ht)⟩)
   .cases e
  |_=>cases e
 |tup xs=>
  cases b with
  |tup ys=>
   have e:(if xs.length≠0/\ys.length≠0/\xs.length+ys.length<=16777216 then some (PV.tup (xs++ys))else none)=some c:=e;split at e
   .rename_i hl
    cases e;obtain⟨a1,vs,rfl,l1,z1,r1⟩:=ra.tup;obtain⟨a2,ws,rfl,l2,z2,r2⟩:=rb.tup;have hz:vs.length+ws.length<=sizeLine:=by rw[<-r1.length,<-r2.length,fU];exact hl.2.2
    refine .inr (.inr ⟨a1,a2,vs,ws,rfl,rfl,l1,l2,λq=>hl.1 (by rw[r1.length,q];rfl),hz,λq=>absurd (show ys.length=0 by rw[r2.length,q];rfl) hl.2.1,λ_ t ht=>k _ _ (fX ht) (mE s (r1.append r2) (by rw[bq];exact hz) ht)⟩)
   .cases e
  |_=>cases e
 |_=>cases e
end
section
variable{K:ae}{cl:Str->Addr}{E:XK}{X:Cx}{a b e:af}{es:List af}{ma mb m:ME}{ms:MA}{pos p2:ah}
def aG:PV->PV->BI
 |.lst xs,.int i=>aR xs i
 |.tup xs,.int i=>aR xs i
 |_,_=>none
theorem Xb{c:Addr->Prop}{H:Hp}{xs:BH}{vs:List V}{i:Int}{v:PV}(r:bB K c H xs vs)(e:aR xs i=some v):∃x,aR vs i=some x/\bC K c H v x:=by
 unfold aR at e⊢;rw[<-r.length];cases z:aU xs.length i with
 |none=>rw[z]at e;cases e
 |some j=>
  rw[z]at e;exact r.get e
theorem aca:eK K (Cs K) aG:=λ{p S H a b c x y Q} s ra rb e k=>by
 cases b with
 |int i=>
  cases a with
  |lst xs=>
   obtain⟨a1,vs,rfl,l1,z1,r1⟩:=ra.lst;obtain⟨x,e1,r2⟩:=Xb r1 e;exact .inl ⟨a1,vs,i,x,rfl,rb.int,l1,e1,k H x (cM.refl H) r2⟩
  |tup xs=>
   obtain⟨a1,vs,rfl,l1,z1,r1⟩:=ra.tup;obtain⟨x,e1,r2⟩:=Xb r1 e;exact .inr (.inl ⟨a1,vs,i,x,rfl,rb.int,l1,e1,k H x (cM.refl H) r2⟩)
  |_=>cases e
 |_=>cases a<;>cases e
theorem abB(ha:aX K cl E X a ma)(hb:aX K cl E X b mb)(hs:Ub b:=by intro _ _;rfl):aX K cl E X (.Subscript a b pos) (aE aG ma mb):=by
 intro hK;subst hK;refine(Mp aaj (ha rfl) (hb rfl) hs).imp ?_
 rintro σ H Q ⟨p,S,ρ,s,e,h⟩
 exact cG s e h λq H1 a x S1 st s1 e1 r1 h1=>cG s1 e1 h1 λq2 H2 b y S2 st2 s2 e2 r2 h2=>oH aca s2 (st2.repA r1) r2 h2
abbrev MO:=cA->aQ->bT BG
def bV:MO:=λ_ S=>.ok none S
def cV:AV->aQ->bT BG
 |.pv (.int i),S=>.ok (some i) S
 |_,_=>.fail
def bW(m:ME):MO:=λρ S=>(m ρ S).bind cV
abbrev RO:Ph->Hp->BG->BG->Prop:=λ_ _ a b=>a=b
variable(K cl E X)
def nY(e:Option af)(m:MO):Prop:=X.K=K->PO X e (tP K cl E RO m)
variable{K cl E X}
theorem PO.imp{e:Option af}{t t':TO}(h:PO X e t)(i:∀σ H Q,t' σ H Q->t σ H Q):PO X e t':=λBM s σ H Q I q=>h BM s σ H Q I (i σ H Q q)
theorem A6:nY K cl E X none bV:=λ_=>PO.imp F7 λσ H Q ⟨p,S,ρ,s,e,h⟩=>cH.ret (R:=RO) h s rfl
theorem Xz(h:aX K cl E X e m):nY K cl E X (some e) (bW m):=by
 intro hK;subst hK;refine PO.imp (O1 (h rfl)) ?_
 rintro σ H Q ⟨p,S,ρ,s,e,h⟩
 refine cG s e h λq H1 a x S1 st s1 e1 r1 h1=>?_;unfold cV at h1;split at h1
 .rename_i i
  exact⟨i,(show eP X.K q H1 (.int i) x from .inl r1).int,cH.ret (R:=RO) h1 s1 rfl⟩
 .exact h1.elim
def jD(xs:BH)(lo hi:BG):BH:=(xs.drop (HT.sIx xs.length 0 lo)).take (HT.sIx xs.length xs.length hi-HT.sIx xs.length 0 lo)
def jE(v:PV)(lo hi:BG):BI:=match v with
 |.lst xs=>some (.lst (jD xs lo hi))
 |.tup xs=>if HT.sIx xs.length 0 lo=0/\HT.sIx xs.length xs.length hi=xs.length then none else some (.tup (jD xs lo hi))
 |_=>none
def dY(m:ME)(ml mh:MO):ME:=λρ S=>(m ρ S).bind λv S1=>(ml ρ S1).bind λlo S2=>(mh ρ S2).bind λhi S3=>fN ((rd S3 v).bind λx=>jE x lo hi) S3
theorem Yk{c:Addr->Prop}{H:Hp}{xs:BH}{vs:List V}{lo hi:BG}(r:bB K c H xs vs):bB K c H (jD xs lo hi) (nU vs lo hi):=by
 unfold jD nU;rw[<-r.length];exact(r.drop _).take _
theorem aa4{lo hi:Option af}{ml mh:MO}(he:aX K cl E X e m)(hl:nY K cl E X lo ml)(hu:nY K cl E X hi mh):aX K cl E X (.Subscript e (.Slice lo hi none p2) pos) (dY m ml mh):=by
 intro hK;subst hK;refine(Qk (mT.or Q2 S9) (he rfl) (hl rfl) (hu rfl)).imp ?_
 rintro σ H Q ⟨p,S,ρ,s,e,h⟩
 refine cG s e h λq H1 a x S1 st s1 e1 r1 h1=>cG s1 e1 h1 λq2 H2 lo lo' S2 st2 s2 e2 r2 h2=>cG s2 e2 h2 λq3 H3 hi hi' S3 st3 s3 e3 r3 h3=>?_;cases r2;cases r3;have ra:=st3.repA (st2.repA r1);obtain⟨c,ec,k⟩:=nG s3 h3;cases z:rd S3 a with
 |none=>rw[z]at ec;cases ec
 |some v=>
  rw[z]at ec;have rv:=qD s3 ra z;cases v with
  |lst xs=>
   have ec:some (PV.lst (jD xs lo hi))=some c:=ec;cases ec;obtain⟨a1,vs,rfl,l1,z1,r1⟩:=rv.lst;exact .inl ⟨a1,vs,rfl,l1,λt ht=>k _ _ (fX ht) (nI s3 (Yk r1) (dz (uN vs lo hi) z1) ht)⟩
  |tup xs=>
   obtain⟨a1,vs,rfl,l1,z1,r1⟩:=rv.tup;have ec:(if HT.sIx xs.length 0 lo=0/\HT.sIx xs.length xs.length hi=xs.length then none else some (PV.tup (jD xs lo hi)))=some c:=ec;split at ec
   .cases ec
   .rename_i hw
    cases ec;rw[r1.length]at hw;exact .inr ⟨a1,vs,rfl,l1,hw,λt ht=>k _ _ (fX ht) (mE s3 (Yk r1) (dz (uN vs lo hi) z1) ht)⟩
  |_=>cases ec
theorem pZ{id:String}{r:List V->Hp->VK->Prop}{f:BH->BI}{x:Str}{p:ah}(hc:iB X (.builtin id) r)(hf:jF X.K r f)(hg:Gl X x)(hm:X.mg x=none)(hv:bootBuiltins x=some (.builtin id))(ha:eC K cl E X (e::es) ms)(hn:x≠"__name__":=by decide)(hdb:(x==("__debug__":Str))=false:=by decide)
  (he:starEach (e::es) X.env=(false,eval e X.env)::starEach es X.env:=by rfl)(hpl:(backTo pos (starEach es X.env)).any (·.1)=false:=by rfl):aX K cl E X (.Call (.Name x p) (e::es) [] pos) (mR f ms):=by
 intro hK;subst hK;refine PE.imp (sM hc hg hm hv (ha rfl) hn hdb he hpl) ?_
 rintro σ H Q ⟨p,S,ρ,s,ev,h⟩
 exact cG s ev h λq H' as xs S' stp sm ev r k=>Dj hf sm r k
theorem sF{T:String}{r:List V->Hp->VK->Prop}{f:BH->BI}{x:Str}{p:ah}(hc:iB X (.type T) r)(hf:jF X.K r f)(hg:Gl X x)(hm:X.mg x=none)(hv:bootBuiltins x=some (.type T))(ha:eC K cl E X (e::es) ms)(hn:x≠"__name__":=by decide)(hdb:(x==("__debug__":Str))=false:=by decide)
  (he:starEach (e::es) X.env=(false,eval e X.env)::starEach es X.env:=by rfl)(hpl:(backTo pos (starEach es X.env)).any (·.1)=false:=by rfl):aX K cl E X (.Call (.Name x p) (e::es) [] pos) (mR f ms):=by
 intro hK;subst hK;refine PE.imp (Di hc hg hm hv (ha rfl) hn hdb he hpl) ?_
 rintro σ H Q ⟨p,S,ρ,s,ev,h⟩
 exact cG s ev h λq H' as xs S' stp sm ev r k=>Dj hf sm r k
def bR:BH->BI
 |[.lst xs]=>some (.int xs.length)
 |[.tup xs]=>some (.int xs.length)
 |_=>none
theorem abj:jF K (λxs H Q=>∃p ys,xs=[.ref p]/\(cK K H p ys\/dJ K H p ys)/\Q (.int ys.length) H) bR:=λ{p S H as c xs Q} s ra e k=>by
 unfold bR at e;split at e
 .rename_i zs
  cases e;cases ra with
  |cons h t=>
   cases t;obtain⟨a,vs,rfl,l,z,r⟩:=h.lst;refine⟨a,vs,rfl,.inl l,?_⟩;rw[<-r.length];exact k H _ (cM.refl H) (gI (v:=.int zs.length) rfl)
 .rename_i zs
  cases e;cases ra with
  |cons h t=>
   cases t;obtain⟨a,vs,rfl,l,z,r⟩:=h.tup;refine⟨a,vs,rfl,.inr l,?_⟩;rw[<-r.length];exact k H _ (cM.refl H) (gI (v:=.int zs.length) rfl)
 .cases e
def eY:BH->BI
 |[.int i]=>some (.int (if i<0 then-i else i))
 |_=>none
theorem abM:jF K (λxs H Q=>∃i,xs=[.int i]/\Q (.int (if i<0 then-i else i)) H) eY:=λ{p S H as c xs Q} s ra e k=>by
 unfold eY at e;split at e
 .rename_i i
  cases e;cases ra with
  |cons h t=>
   cases t;cases h.int;exact⟨i,rfl,k H _ (cM.refl H) (gI (v:=.int _) rfl)⟩
 .cases e
def jX:BH->BI
 |[.lst xs]=>some (.tup xs)
 |[.tup xs]=>some (.tup xs)
 |_=>none
theorem Q7:jF K (λxs H Q=>∃p ys,xs=[.ref p]/\((cK K H p ys/\∀l,H l=none->Q (.ref l) (bJ H l (.tup ys)))\/(dJ K H p ys/\Q (.ref p) H))) jX:=λ{p S H as c xs Q} s ra e k=>by
 unfold jX at e;split at e
 .rename_i zs
  cases e;cases ra with
  |cons h t=>
   cases t;obtain⟨a,vs,rfl,l,z,r⟩:=h.lst;exact⟨a,vs,rfl,.inl ⟨l,λt ht=>k _ _ (fX ht) (mE s r z ht)⟩⟩
 .rename_i zs
  cases e;cases ra with
  |cons h t=>
   cases t;obtain⟨a,vs,rfl,l,z,r⟩:=h.tup;refine⟨a,vs,rfl,.inr ⟨l,k H _ (cM.refl H) ?_⟩⟩;unfold bC;exact⟨a,vs,rfl,l,z,r⟩
 .cases e
def oS:BH->BI
 |[.lst xs]=>some (.lst xs)
 |[.tup xs]=>some (.lst xs)
 |_=>none
theorem I0:jF K (λxs H Q=>∃p ys,xs=[.ref p]/\(cK K H p ys\/dJ K H p ys)/\∀l,H l=none->Q (.ref l) (bJ H l (.lst ys))) oS:=λ{p S H as c xs Q} s ra e k=>by
 unfold oS at e;split at e
 .rename_i zs
  cases e;cases ra with
  |cons h t=>
   cases t;obtain⟨a,vs,rfl,l,z,r⟩:=h.lst;exact⟨a,vs,rfl,.inl l,λt ht=>k _ _ (fX ht) (nI s r z ht)⟩
 .rename_i zs
  cases e;cases ra with
  |cons h t=>
   cases t;obtain⟨a,vs,rfl,l,z,r⟩:=h.tup;exact⟨a,vs,rfl,.inr l,λt ht=>k _ _ (fX ht) (nI s r z ht)⟩
 .cases e
def jB:BH->Option (List Bool)
 |[]=>some []
 |.bl b::r=>match jB r with
  |some bs=>some (b::bs)
  |none=>none
 |_::_=>none
def gA:BH->BI
 |[.lst xs]=>(jB xs).map λbs=>.bl (bs.all id)
 |_=>none
theorem Ak{c:Addr->Prop}{H:Hp}:∀{xs:BH}{bs:List Bool}{vs:List V},jB xs=some bs->bB K c H xs vs->vs=bs.map V.bl
 |[],bs,vs,e,r=>by
  cases e;unfold bB at r;exact r
 |.bl b::xs,bs,vs,e,r=>by
  unfold jB at e;split at e
  .rename_i cs h
   cases e;unfold bB at r;obtain⟨v,w,rfl,r1,r2⟩:=r;unfold bC at r1;rw[r1,Ak h r2];rfl
  .cases e
 |.non::_,_,_,e,_=>by cases e
 |.int _::_,_,_,e,_=>by cases e
 |.str _::_,_,_,e,_=>by cases e
 |.tup _::_,_,_,e,_=>by cases e
 |.lst _::_,_,_,e,_=>by cases e
theorem abk:jF K (λxs H Q=>∃(a:Addr)(bs:List Bool),xs=[.ref a]/\cK K H a (bs.map V.bl)/\Q (.bl (bs.all id)) H) gA:=λ{p S H as c xs Q} s ra e k=>by
 unfold gA at e;split at e
 .rename_i zs
  cases y:jB zs with
  |none=>rw[y]at e;cases e
  |some bs=>
   rw[y]at e;cases e;cases ra with
   |cons h t=>
    cases t;obtain⟨a,vs,rfl,l,z,r⟩:=h.lst;rw[Ak y r]at l;exact⟨a,bs,rfl,l,k H _ (cM.refl H) (gI (v:=.bl _) rfl)⟩
 .cases e
def rA:BH->BI
 |[.int i]=>some (.int i)
 |[.bl b]=>some (.int (if b then 1 else 0))
 |_=>none
theorem abU:jF K (λxs H Q=>(∃i,xs=[.int i]/\Q (.int i) H)\/∃k,xs=[.bl k]/\Q (.int (if k then 1 else 0)) H) rA:=λ{p S H as c xs Q} s ra e k=>by
 unfold rA at e;split at e
 .rename_i i
  cases e;cases ra with
  |cons h t=>
   cases t;cases h.int;exact .inl ⟨i,rfl,k H _ (cM.refl H) (gI (v:=.int _) rfl)⟩
 .rename_i i
  cases e;cases ra with
  |cons h t=>
   cases t;cases h.bl;exact .inr ⟨i,rfl,k H _ (cM.refl H) (gI (v:=.int _) rfl)⟩
 .cases e
end
end
section
variable{K:ae}{cl:Str->Addr}{E:XK}{X:Cx}{a b c e l tg:af}{es:List af}{m ma mb:ME}{ms:MA}{pos:ah}{p q:Ph}{H H':Hp}{S:aQ}
theorem bG.push(s:bG K p S H){D:Addr}{ps:BH}{vs:List V}(h:H D=none)(l:vs.length<=sizeLine)(r:bB K p.c H ps vs):
  let q:Ph:=⟨p.f++[D],λa=>p.w a\/a=D,λa=>p.c a\/a=D⟩
  cF p H q (bJ H D (.lst vs))/\bG K q (S++[.lst ps]) (bJ H D (.lst vs)):=by
 intro q;obtain⟨st0,sm0⟩:=s.res (D:=D) (o:=.lst vs) h trivial;have nf0:D∉p.f:=λz=>s.notin h (s.wc D (s.sub D z));refine⟨⟨st0.wc,st0.mu,⟨[D],rfl⟩,st0.mw,st0.mono,λa x n=>?_,st0.nw,st0.nc,st0.keep⟩,?_,by simp[q,s.len],λa x=>?_,sm0.wc,sm0.mu,λk a o e1 e2=>?_⟩
 .rcases cu.mp x with z |z
  .exact absurd z n
  .have:a=D:=by simpa using z
   rw[this];exact h
 .show(p.f++[D]).Nodup
  rw[m8];refine⟨s.nd,by simp,λa ha b hb z=>?_⟩;have:b=D:=by simpa using hb
  exact nf0 (this▸z▸ha)
 .rcases cu.mp x with z |z
  .exact .inl (s.sub a z)
  .exact .inr (by simpa using z)
 .by_cases hk:k<S.length
  .have e1':p.f[k]?=some a:=by
    have e1:(p.f++[D])[k]?=some a:=e1
    rwa[ib (by rw[s.len];exact hk)]at e1
   rw[ib hk]at e2;refine(s.obj k a o e1' e2).mono (λvs e=>by rw[dA (gS e h)];exact e) (λb w f=>⟨⟨.inl w,λm=>?_⟩,λvs e=>by rw[dA (gS e h)];exact e⟩) λ_ _ r=>st0.reps r;rcases cu.mp m with z |z
   .exact f z
   .have:b=D:=by simpa using z
    exact s.notin h (this▸s.wc b w)
  .have hk':k=S.length:=by
    have:=(dj.mp e2).1;simp at this;omega
   subst hk';rw[ij (am _),nj]at e2;have e1:(p.f++[D])[S.length]?=some a:=e1;rw[<-s.len,ij (am _),nj]at e1;cases e1;cases e2;exact⟨vs,iT,l,st0.reps r⟩
theorem bG.write(s:bG K p S H){D:Addr}{k:Nat}{ps:BH}{vs:List V}(h:p.f[k]?=some D)(hk:k<S.length)(l:vs.length<=sizeLine)(r:bB K p.c H ps vs):
  cF p H p (bJ H D (.lst vs))/\bG K p (S.set k (.lst ps)) (bJ H D (.lst vs)):=by
 have w:p.w D:=s.sub D (fm h);have st:cF p H p (bJ H D (.lst vs)):=⟨s.wc,s.mu,oy,λ_ h=>h,λ_ h=>h,λ_ h g=>absurd h g,λ_ h g=>absurd h g,λ_ h g=>absurd h g,λa u e nw=>by
  rw[dA (λz:a=D=>nw (by rw[z];exact w))];exact e⟩
 refine⟨st,s.nd,by rw[ic];exact s.len,s.sub,s.wc,λa x=>?_,λj a o e1 e2=>?_⟩
 .by_cases z:a=D
  .rw[z,iT]
   exact⟨_,rfl,trivial⟩
  .rw[dA z]
   exact s.mu a x
 .by_cases hj:k=j
  .subst hj
   rw[h]at e1;cases e1;rw[ix hk]at e2;cases e2;exact⟨vs,iT,l,st.reps r⟩
  .rw[ju hj]at e2
   have ne:a≠D:=λq=>hj (Pa s.nd h (q▸e1));exact(s.obj j a o e1 e2).mono (λvs e=>by rw[dA ne];exact e) (λb w f=>⟨⟨w,f⟩,λvs e=>by rw[dA (λz:b=D=>f (z▸fm h))];exact e⟩) λ_ _ r=>st.reps r
def qU(xs:BK)(S:aQ):bT AV:=match iP xs with
 |some vs=>if vs.length<=16777216 then .ok (.ref S.length) (S++[.lst vs])else .fail
 |none=>.fail
def jS(ms:MA):ME:=λρ S=>(ms ρ S).bind qU
theorem Q5(h:eC K cl E X es ms):aX K cl E X (.List es pos) (jS ms):=by
 intro hK;subst hK;refine(Ko (h rfl)).imp ?_
 rintro σ H Q ⟨p,S,ρ,s,e,h⟩
 refine cG s e h λq H1 as xs S1 st s1 e1 r1 h1=>?_;unfold qU at h1;split at h1
 .rename_i vs hv
  split at h1
  .rename_i hl
   have r:=uV hv r1;rw[r.length,<-fU]at hl;refine⟨hl,λt ht=>?_⟩;obtain⟨st2,sm2⟩:=s1.push ht hl r;exact h1 _ _ (.ref t) st2 sm2 ⟨t,by show(q.f++[t])[S1.length]?=some t;rw[<-s1.len,ij (am _),nj];rfl,rfl⟩
  .exact h1.elim
 .exact h1.elim
def Yd(xs:BK)(S:aQ):bT AV:=match(fS S xs).bind oS with
 |some (.lst vs)=>.ok (.ref S.length) (S++[.lst vs])
 |_=>.fail
def tJ(ms:MA):ME:=λρ S=>(ms ρ S).bind Yd
theorem A0{x:Str}{p:ah}(hx:x="list")(hg:Gl X "list")(hm:X.mg "list"=none)(ha:eC K cl E X [e] ms)(he:starEach [e] X.env=[(false,eval e X.env)]:=by rfl):aX K cl E X (.Call (.Name x p) [e] [] pos) (tJ ms):=by
 intro hK;subst hK hx;refine PE.imp (Di Hg hg hm (by decide+kernel) (ha rfl) (by decide) (by decide) he rfl) ?_
 rintro σ H Q ⟨p,S,ρ,s,ev,h⟩
 refine cG s ev h λq H1 as xs S1 st s1 e1 r1 h1=>?_;unfold Yd at h1;cases z:fS S1 as with
 |none=>rw[z]at h1;exact h1.elim
 |some us=>
  rw[z]at h1;have rr:=vC s1 r1 z;have fin:∀(vs:BH)(ws:List V)(a:Addr),bB X.K q.c H1 vs ws->ws.length<=sizeLine->cH X.K cl (cJ X.K) q H1 (.ok (.ref S1.length) (S1++[.lst vs])) Q E->∀l,H1 l=none->Q (.ref l) (bJ H1 l (.lst ws)):=λvs ws a r hl k t ht=>by
   obtain⟨st2,sm2⟩:=s1.push ht hl r;exact k _ _ (.ref t) st2 sm2 ⟨t,by show(q.f++[t])[S1.length]?=some t;rw[<-s1.len,ij (am _),nj];rfl,rfl⟩
  cases rr with
  |nil=>exact h1.elim
  |cons h t=>
   rename_i u x ut xt;cases t with
   |cons _ _=>cases u<;>exact h1.elim
   |nil=>
    cases u with
    |lst vs=>
     obtain⟨a,ws,rfl,l,z,r⟩:=h.lst;exact⟨a,ws,rfl,.inl l,fin vs ws a r z h1⟩
    |tup vs=>
     obtain⟨a,ws,rfl,l,z,r⟩:=h.tup;exact⟨a,ws,rfl,.inr l,fin vs ws a r z h1⟩
    |_=>exact h1.elim
def mG(k:Nat)(ys:BK)(S:aQ):bT AV:=match ys with
 |[.pv y]=>match S[k]? with
  |some (.lst xs)=>if xs.length<16777216 then .ok (.pv .non) (S.set k (.lst (xs++[y])))else .fail
  |_=>.fail
 |_=>.fail
def fZ{α:Type}(k:AV)(S:aQ)(f:Nat->bT α):bT α:=match k with
 |.ref k=>(match S[k]? with
  |some (.dic _ _)=>.fail
  |some (.dol _ _)=>.fail
  |_=>f k)
 |_=>.fail
theorem Gb{α:Type}(k:Nat)(S:aQ)(f:Nat->bT α):fZ (.ref k) S f=.fail\/(fZ (.ref k) S f=f k/\(∀n l,S[k]?≠some (.dic n l))/\∀n l,S[k]?≠some (.dol n l)):=by
 have e:fZ (.ref k) S f=(match S[k]? with
  |some (.dic _ _)=>.fail
  |some (.dol _ _)=>.fail
  |_=>f k):=rfl
 rw[e];cases S[k]? with
 |none=>exact .inr ⟨rfl,λ_ _ z=>(nomatch z),λ_ _ z=>(nomatch z)⟩
 |some o=>
  cases o with
  |dic n l=>exact .inl rfl
  |dol n l=>exact .inl rfl
  |lst xs=>exact .inr ⟨rfl,λ_ _ z=>(nomatch z),λ_ _ z=>(nomatch z)⟩
  |lol xs=>exact .inr ⟨rfl,λ_ _ z=>(nomatch z),λ_ _ z=>(nomatch z)⟩
def iF(m:ME)(ms:MA):ME:=λρ S=>(m ρ S).bind λk S1=>fZ k S1 λk=>(ms ρ S1).bind λys S2=>mG k ys S2
theorem Gm{k:Nat}{x:V}(s:bG K p S H)(r:cJ K p H (.ref k) x)(n1:∀n l,S[k]?≠some (.dic n l))(n2:∀n l,S[k]?≠some (.dol n l)):Oe K "list" x H:=by
 obtain⟨a,e,rfl⟩:=r;have hk:k<S.length:=by
  have:=(dj.mp e).1;rw[<-s.len];exact this
 have z:=s.obj k a S[k] e (bh hk);cases y:S[k]with
 |lst xs=>
  rw[y]at z;obtain⟨vs,h,_⟩:=z;exact .inl ⟨rfl,vs,cK.of h⟩
 |lol xss=>
  rw[y]at z;obtain⟨bs,h,_⟩:=z;exact .inl ⟨rfl,_,cK.of h⟩
 |dic n l=>exact absurd (by rw[bh hk,y]) (n1 n l)
 |dol n l=>exact absurd (by rw[bh hk,y]) (n2 n l)
theorem Vw{apos cpos:ah}(ho:aX K cl E X a m)(ha:eC K cl E X [e] ms)(hbase:attributeBase a "append" X.env (eval a X.env)=eval a X.env:=by rfl)
  (hfew:((backTo cpos (starEach [e] X.env)).all (λx=>!x.1)&&(backToKw cpos (keywordEach [] X.env)).all (λx=>x.1.isSome)&&decide (([e]:List af).length+([]:List iy).length+(if([]:List iy).isEmpty then 0 else 1)<30))=true:=by rfl)
  (hline:(apos.endLine==cpos.line)=true:=by rfl)(hs:starEach [e] X.env=[(false,eval e X.env)]:=by rfl):aX K cl E X (.Call (.Attribute a "append" apos) [e] [] cpos) (iF m ms):=by
 intro hK;subst hK;refine PE.imp (xG p7 d8 PySem.F.type_list_append vG (ho rfl) (ha rfl) hbase hfew hline hs rfl) ?_
 rintro σ H Q ⟨p,S,ρ,s,ev,h⟩
 refine cG s ev h λq H1 k x S1 st s1 e1 r1 h1=>?_;cases k with
 |pv v=>exact h1.elim
 |ref k=>
  have h1:cH X.K cl (cJ X.K) q H1 (fZ (.ref k) S1 λk=>(ms ρ S1).bind λys S2=>mG k ys S2) Q E:=h1;rcases Gb k S1 (λk=>(ms ρ S1).bind λys S2=>mG k ys S2)with z |⟨z,n1,n2⟩
  .rw[z]at h1
   exact h1.elim
  rw[z]at h1;refine⟨Gm s1 r1 n1 n2,cG s1 e1 h1 λq2 H2 ys xs S2 st2 s2 e2 r2 h2=>?_⟩;obtain⟨a,ea,rfl⟩:=st2.repA r1;unfold mG at h2;split at h2
  .rename_i y
   cases r2 with
   |cons r3 r4=>
    cases r4;rename_i x;cases z:S2[k]? with
    |none=>rw[z]at h2;exact h2.elim
    |some o=>
     cases o with
     |lol _=>simp only[z]at h2;exact h2.elim
     |dic _ _=>simp only[z]at h2;exact h2.elim
     |dol _ _=>simp only[z]at h2;exact h2.elim
     |lst zs=>
      simp only[z]at h2;obtain⟨vs,h3,l3,r4⟩:=s2.obj k a _ ea z;split at h2
      .rename_i hl
       rw[r4.length]at hl;have hz:=fU;refine⟨a,vs,x,rfl,rfl,h3,by omega,?_⟩;obtain⟨st3,sm3⟩:=s2.write ea (dj.mp z).1 (ps:=zs++[y]) (vs:=vs++[x]) (by rw[bq,kr];omega) (r4.append (.cons r3 .nil));exact h2 _ _ .non st3 sm3 (by show bC X.K q2.c (bJ H2 a (.lst (vs++[x]))) .non .non;unfold bC;rfl)
      .exact h2.elim
  .exact h2.elim
def nS(k:Nat)(ys:BK)(S:aQ):bT AV:=match ys with
 |[.pv (.int i)]=>if-9223372036854775808<=i/\i<9223372036854775808 then(match S[k]? with
  |some (.lst xs)=>match seqIndex? i xs.length with
   |some j=>match xs[j]? with
    |some v=>.ok (.pv v) (S.set k (.lst (xs.eraseIdx j)))
    |none=>.fail
   |none=>.fail
  |_=>.fail)else .fail
 |_=>.fail
def lK(m:ME)(ms:MA):ME:=λρ S=>(m ρ S).bind λk S1=>fZ k S1 λk=>(ms ρ S1).bind λys S2=>nS k ys S2
theorem aae{apos cpos:ah}(ho:aX K cl E X a m)(ha:eC K cl E X [e] ms)(hbase:attributeBase a "pop" X.env (eval a X.env)=eval a X.env:=by rfl)
  (hfew:((backTo cpos (starEach [e] X.env)).all (λx=>!x.1)&&(backToKw cpos (keywordEach [] X.env)).all (λx=>x.1.isSome)&&decide (([e]:List af).length+([]:List iy).length+(if([]:List iy).isEmpty then 0 else 1)<30))=true:=by rfl)
  (hline:(apos.endLine==cpos.line)=true:=by rfl)(hs:starEach [e] X.env=[(false,eval e X.env)]:=by rfl):aX K cl E X (.Call (.Attribute a "pop" apos) [e] [] cpos) (lK m ms):=by
 intro hK;subst hK;refine PE.imp (xG p7 PySem.F.slot_list_pop PySem.F.type_list_pop E2 (ho rfl) (ha rfl) hbase hfew hline hs rfl) ?_
 rintro σ H Q ⟨p,S,ρ,s,ev,h⟩
 refine cG s ev h λq H1 k x S1 st s1 e1 r1 h1=>?_;cases k with
 |pv v=>exact h1.elim
 |ref k=>
  have h1:cH X.K cl (cJ X.K) q H1 (fZ (.ref k) S1 λk=>(ms ρ S1).bind λys S2=>nS k ys S2) Q E:=h1;rcases Gb k S1 (λk=>(ms ρ S1).bind λys S2=>nS k ys S2)with z |⟨z,n1,n2⟩
  .rw[z]at h1
   exact h1.elim
  rw[z]at h1;refine⟨Gm s1 r1 n1 n2,cG s1 e1 h1 λq2 H2 ys xs S2 st2 s2 e2 r2 h2=>?_⟩;obtain⟨a,ea,rfl⟩:=st2.repA r1;unfold nS at h2;split at h2
  .rename_i i
   cases r2 with
   |cons r3 r4=>
    cases r4;rename_i x;have ex:x=.int i:=(show eP X.K q2 H2 (.int i) x from .inl r3).int;subst ex;split at h2
    .rename_i hi
     cases z:S2[k]? with
     |none=>rw[z]at h2;exact h2.elim
     |some o=>
      cases o with
      |lol _=>simp only[z]at h2;exact h2.elim
      |dic _ _=>simp only[z]at h2;exact h2.elim
      |dol _ _=>simp only[z]at h2;exact h2.elim
      |lst zs=>
       simp only[z]at h2;obtain⟨vs,h3,l3,r4⟩:=s2.obj k a _ ea z;cases y:seqIndex? i zs.length with
       |none=>simp only[y]at h2;exact h2.elim
       |some j=>
        simp only[y]at h2;cases yv:zs[j]? with
        |none=>simp only[yv]at h2;exact h2.elim
        |some v=>
         simp only[yv]at h2;obtain⟨u,eu,ru⟩:=r4.get yv;refine⟨a,vs,i,j,u,rfl,rfl,h3,hi.1,hi.2,by rw[<-r4.length];exact y,eu,?_⟩;obtain⟨st3,sm3⟩:=s2.write ea (dj.mp z).1 (ps:=zs.eraseIdx j) (vs:=vs.eraseIdx j) (dz (Ga vs j) l3) (r4.eraseIdx j);exact h2 _ _ u st3 sm3 (st3.rep ru)
    .exact h2.elim
  .exact h2.elim
def nQ(k:Nat)(i:AV)(v:AV)(S:aQ):bT Unit:=match i,v with
 |.pv (.int i),.pv v=>match S[k]? with
  |some (.lst xs)=>match aU xs.length i with
   |some j=>.ok () (S.set k (.lst (xs.set j v)))
   |none=>.fail
  |_=>.fail
 |_,_=>.fail
def iX(mo mi mv:ME):MS:=λρ S=>cU.of (mv ρ S) λv S1=>cU.of (mo ρ S1) λk S2=>cU.of (mi ρ S2) λi S3=>cU.of (fZ k S3 λk=>nQ k i v S3) λ_ S4=>.nx ρ S4
theorem Lw{o i v:af}{mo mi mv:ME}{tpos:ah}(hv:aX K cl E X v mv)(ho:aX K cl E X o mo)(hi:aX K cl E X i mi)
  (ha:∀v,assign (.Subscript o i tpos) X.env v=(do
   let ov <-holding [v] (eval o X.env)
   let iv <-holding [v,ov] (eval i X.env)
   standAt tpos
   holding [v,ov,iv] (setItem ov iv v)
   release [v,ov,iv] []):=by intro _;rfl)
  (hs:swapsWithSole [.Subscript o i tpos] v pos.line X.env=pure false:=by rfl)(hw:swappedStores [.Subscript o i tpos] v X.env=pure none:=by rfl)
  (h1:(assignEach [.Subscript o i tpos] X.env).map (·.2)=[assign (.Subscript o i tpos) X.env]:=by rfl):eT K cl E X (.Assign [.Subscript o i tpos] v pos) (iX mo mi mv):=by
 intro hK;subst hK;refine PS.imp (Ep (hv rfl) (aaL (ho rfl) (hi rfl) Yy ha) hs hw h1) ?_
 rintro D σ H ⟨p,S,ρ,s,ev,h⟩
 refine kH s ev h λq H1 v x S1 st s1 e1 r1 h1=>?_;refine kH s1 e1 h1 λq2 H2 k y S2 st2 s2 e2 r2 h2=>?_;refine kH s2 e2 h2 λq3 H3 i z S3 st3 s3 e3 r3 h3=>?_;cases k with
 |pv _=>exact h3.elim
 |ref k=>
  obtain⟨a,ea,rfl⟩:=st3.repA r2;have rv:=st3.repA (st2.repA r1);have h3:eE X.K cl q3 H3 (cU.of (fZ (.ref k) S3 λk=>nQ k i v S3) λ_ S4=>.nx ρ S4) D E:=h3;rcases Gb k S3 (λk=>nQ k i v S3)with z0 |⟨z0,_,_⟩
  .rw[z0]at h3
   exact h3.elim
  rw[z0]at h3;unfold nQ at h3;split at h3
  .rename_i ii vv _
   have ez:z=.int ii:=(show eP X.K q3 H3 (.int ii) z from .inl r3).int;subst ez;cases w:S3[k]? with
   |none=>rw[w]at h3;exact h3.elim
   |some o=>
    cases o with
    |lol _=>simp only[w]at h3;exact h3.elim
    |dic _ _=>simp only[w]at h3;exact h3.elim
    |dol _ _=>simp only[w]at h3;exact h3.elim
    |lst zs=>
     simp only[w]at h3;obtain⟨vs,hh,ll,rr⟩:=s3.obj k a _ ea w;cases y:aU zs.length ii with
     |none=>simp only[y]at h3;exact h3.elim
     |some j=>
      simp only[y]at h3;refine⟨a,vs,ii,j,rfl,rfl,hh,by rw[<-rr.length];exact y,?_⟩;obtain⟨st4,sm4⟩:=s3.write ea (dj.mp w).1 (ps:=zs.set j vv) (vs:=vs.set j x) (by rw[ic];exact ll) (bB.set rv j rr);exact h3 _ _ _ st4 sm4 (st4.repE e3)
  .exact h3.elim
def iE:BH->BH->BH
 |x::xs,y::ys=>.tup [x,y]::iE xs ys
 |_,_=>[]
theorem Ab:∀(xs ys:BH),(iE xs ys).length=min xs.length ys.length
 |[],ys=>by cases ys<;>simp[iE]
 |x::xs,[]=>by simp[iE]
 |x::xs,y::ys=>by
  unfold iE;rw[br,Ab xs ys,br,br];omega
theorem El:∀{xs ys:BH}{i:Nat}{v:PV},(iE xs ys)[i]?=some v->∃x y,xs[i]?=some x/\ys[i]?=some y/\v=.tup [x,y]
 |[],ys,i,v,e=>by cases ys<;>simp[iE]at e
 |x::xs,[],i,v,e=>by simp[iE]at e
 |x::xs,y::ys,0,v,e=>by
  unfold iE at e;simp at e;exact⟨x,y,rfl,rfl,e.symm⟩
 |x::xs,y::ys,i+1,v,e=>by
  unfold iE at e;obtain⟨a,b,h1,h2,h3⟩:=El (xs:=xs) (ys:=ys) (i:=i) (v:=v) (by simpa using e);exact⟨a,b,by simpa using h1,by simpa using h2,h3⟩
def qQ:BK->aQ->bT (BH×Gd)
 |[a,b],S=>match cE a S with
  |.ok xs _=>match cE b S with
   |.ok ys _=>.ok (iE xs.1 ys.1,xs.2++ys.2) S
   |_=>.fail
  |_=>.fail
 |_,_=>.fail
def kQ(ms:MA):MI:=λρ S=>(ms ρ S).bind qQ
theorem Kk{a:AV}{x:V}{xs:BH×Gd}{S':aQ}(s:bG K p S H)(r:cJ K p H a x)(e:cE a S=.ok xs S'):∃f ad vs,x=.ref ad/\jH f K H ad vs/\xs.1.length<=sizeLine/\∀q H1 S1,cF p H q H1->bG K q S1 H1->iG xs.2 S1->∃vs,jH f K H1 ad vs/\bB K q.c H1 xs.1 vs:=by
 cases a with
 |ref j=>
  obtain⟨a,e1,rfl⟩:=r;unfold cE at e;dsimp only at e;cases z:S[j]? with
  |none=>rw[z]at e;cases e
  |some o=>
   cases o with
   |lol _=>rw[z]at e;cases e
   |dic _ _=>rw[z]at e;cases e
   |dol _ _=>rw[z]at e;cases e
   |lst ys=>
    rw[z]at e;cases e;obtain⟨vs,h1,l1,r1⟩:=s.obj j a _ e1 z;refine⟨false,a,vs,rfl,cK.of h1,by rw[r1.length];exact l1,λq H1 S1 st sm g=>?_⟩;obtain⟨ws,h2,l2,r2⟩:=sm.obj j a _ (st.at_ e1) (g (j,ys) ay);exact⟨ws,cK.of h2,r2⟩
 |pv v=>
  cases v with
  |lst ys=>
   cases e;have r:bC K p.c H (.lst ys) x:=r;unfold bC at r;obtain⟨a,vs,rfl,l,z,r⟩:=r;exact⟨false,a,vs,rfl,l.sq,by rw[r.length];exact z,λq H1 S1 st sm g=>⟨vs,(st.lat l).sq,st.reps r⟩⟩
  |tup ys=>
   cases e;have r:bC K p.c H (.tup ys) x:=r;unfold bC at r;obtain⟨a,vs,rfl,l,z,r⟩:=r;exact⟨true,a,vs,rfl,l,by rw[r.length];exact z,λq H1 S1 st sm g=>⟨vs,st.tup l,st.reps r⟩⟩
  |_=>cases e
theorem M2{elts:List af}{x1:Nat}{tp p:ah}(hg:Gl X "zip")(hm:X.mg "zip"=none)(hl:eC K cl E X [a,b] ms)(hs:starEach [a,b] X.env=[(false,eval a X.env),(false,eval b X.env)]:=by rfl)(hs2:starEach [b] X.env=[(false,eval b X.env)]:=by rfl):
  iL K cl E X (.Tuple elts x1 tp) (.Call (.Name "zip" p) [a,b] [] pos) (kQ ms):=by
 intro hK;subst hK;refine PI.imp (aaK hg hm (hl rfl) hs hs2) ?_
 rintro σ H R ⟨p,S,ρ,s,ev,h⟩
 refine cG s ev h λq H' as xs S' stp sm ev r k=>?_;unfold qQ at k;split at k
 .rename_i u v
  cases r with
  |cons r1 r2=>
   cases r2 with
   |cons r2 r3=>
    cases r3;split at k
    .rename_i xs1 S1 hx
     split at k
     .rename_i ys1 S2 hy
      obtain⟨f1,a1,vs1,rfl,q1,z1,st1⟩:=Kk sm r1 hx;obtain⟨f2,a2,vs2,rfl,q2,z2,st2⟩:=Kk sm r2 hy;refine⟨f1,a1,f2,a2,vs1,vs2,rfl,q1,q2,cH.ret (R:=eZ X.K) k sm ?_⟩;refine⟨by rw[Ab];omega,λq3 H3 S3 st3 sm3 g3=>?_⟩;obtain⟨ws1,w1,rr1⟩:=st1 q3 H3 S3 st3 sm3 λg hg=>g3 g (jt _ hg);obtain⟨ws2,w2,rr2⟩:=st2 q3 H3 S3 st3 sm3 λg hg=>g3 g (ck _ hg);refine⟨λi v e=>?_,?_⟩
      .obtain⟨x,y,ex,ey,rfl⟩:=El e
       obtain⟨x',ex',rx⟩:=rr1.get ex;obtain⟨y',ey',ry⟩:=rr2.get ey;refine⟨⟨ws1,ws2,x',y',w1,w2,ex',ey'⟩,λz H4 hz=>?_⟩;obtain⟨t,x2,y2,ht,rfl,rfl,g1,g2⟩:=hz;have e1:=(g1 ws1 w1).symm.trans ex';have e2:=(g2 ws2 w2).symm.trans ey';cases e1;cases e2;refine⟨fX ht,mE sm3 (.cons rx (.cons ry .nil)) (by show 2<=sizeLine;decide) ht⟩
      .refine⟨ws1,ws2,w1,w2,?_⟩
       show(iE xs1.1 ys1.1).length=_\/_;rw[Ab,rr1.length,rr2.length];omega
     .exact k.elim
    .exact k.elim
 .exact k.elim
def iZ:Nat->BH->BH
 |_,[]=>[]
 |n,x::xs=>.tup [.int n,x]::iZ (n+1) xs
theorem Ja:∀(n:Nat)(xs:BH),(iZ n xs).length=xs.length
 |_,[]=>rfl
 |n,x::xs=>by
  unfold iZ;rw[br,Ja (n+1) xs,br]
theorem Bj:∀{n:Nat}{xs:BH}{i:Nat}{v:PV},(iZ n xs)[i]?=some v->∃x,xs[i]?=some x/\v=.tup [.int ((n+i:Nat):Int),x]
 |n,[],i,v,e=>by simp[iZ]at e
 |n,x::xs,0,v,e=>by
  unfold iZ at e;simp at e;exact⟨x,rfl,e.symm⟩
 |n,x::xs,i+1,v,e=>by
  unfold iZ at e;obtain⟨y,h1,h2⟩:=Bj (n:=n+1) (xs:=xs) (i:=i) (v:=v) (by simpa using e);refine⟨y,by simpa using h1,?_⟩;rw[h2,show n+1+i=n+(i+1) by omega]
def Pc:BK->aQ->bT (BH×Gd)
 |[.pv (.lst xs)],S=>.ok (iZ 0 xs,[]) S
 |[.ref k],S=>match cE (.ref k) S with
  |.ok xs _=>.ok (iZ 0 xs.1,xs.2) S
  |_=>.fail
 |_,_=>.fail
def xI(ms:MA):MI:=λρ S=>(ms ρ S).bind Pc
theorem Fo{xs:BH}{G:Gd}{a:Addr}(z:xs.length<=sizeLine)(st1:∀q H1 S1,cF p H q H1->bG K q S1 H1->iG G S1->∃vs,cK K H1 a vs/\bB K q.c H1 xs vs):eZ K p H (iZ 0 xs,G) (Re K a):=by
 refine⟨by rw[Ja];exact z,λq3 H3 S3 st3 sm3 g3=>?_⟩;obtain⟨ws1,w1,rr1⟩:=st1 q3 H3 S3 st3 sm3 g3;refine⟨λi v e=>?_,?_⟩
 .obtain⟨x,ex,rfl⟩:=Bj e
  obtain⟨x',ex',rx⟩:=rr1.get ex;refine⟨⟨ws1,x',w1,ex'⟩,λz H4 hz=>?_⟩;obtain⟨t,y2,ht,rfl,rfl,g1⟩:=hz;have e1:=(g1 ws1 w1).symm.trans ex';cases e1;refine⟨fX ht,mE sm3 (.cons ?_ (.cons rx .nil)) (by show 2<=sizeLine;decide) ht⟩;rw[yj];exact gI (v:=.int _) rfl
 .refine⟨ws1,w1,?_⟩
  show _<=(iZ 0 xs).length;rw[Ja,rr1.length];exact am _
theorem Zz{elts:List af}{x1:Nat}{tp p:ah}(hg:Gl X "enumerate")(hm:X.mg "enumerate"=none)(hl:eC K cl E X [l] ms)(hs:starEach [l] X.env=[(false,eval l X.env)]:=by rfl):
  iL K cl E X (.Tuple elts x1 tp) (.Call (.Name "enumerate" p) [l] [] pos) (xI ms):=by
 intro hK;subst hK;refine PI.imp (O6 hg hm (hl rfl) hs) ?_
 rintro σ H R ⟨p,S,ρ,s,ev,h⟩
 refine cG s ev h λq H' as xs S' stp sm ev r k=>?_;unfold Pc at k;split at k
 .rename_i ys
  cases r with
  |cons r1 r2=>
   cases r2;rename_i x;have r1:bC X.K q.c H' (.lst ys) x:=r1;unfold bC at r1;obtain⟨a,vs,rfl,l,z,r⟩:=r1;exact⟨a,rfl,⟨vs,l.sq⟩,cH.ret (R:=eZ X.K) k sm (Fo (by rw[r.length];exact z) λq H1 S1 st sm g=>⟨vs,(st.lat l).sq,st.reps r⟩)⟩
 .rename_i j
  cases r with
  |cons r1 r2=>
   cases r2;split at k
   .rename_i xs1 S1 hx
    obtain⟨a,e1,rfl⟩:=r1;cases z:S'[j]? with
    |none=>unfold cE at hx;simp only[z]at hx;cases hx
    |some o=>
     cases o with
     |lol _=>unfold cE at hx;simp only[z]at hx;cases hx
     |dic _ _=>unfold cE at hx;simp only[z]at hx;cases hx
     |dol _ _=>unfold cE at hx;simp only[z]at hx;cases hx
     |lst ys=>
      unfold cE at hx;simp only[z]at hx;cases hx;obtain⟨vs,h1,l1,r1⟩:=sm.obj j a _ e1 z;refine⟨a,rfl,⟨vs,cK.of h1⟩,cH.ret (R:=eZ X.K) k sm (Fo (by rw[r1.length];exact l1) λq H1 S1 st sm g=>?_)⟩;obtain⟨ws,h2,l2,r2⟩:=sm.obj j a _ (st.at_ e1) (g (j,ys) ay);exact⟨ws,cK.of h2,r2⟩
   .exact k.elim
 .exact k.elim
end
theorem nX{A:aq}{k:Nat}(hr:dE k A):A.units+8<cLine:=by
 have:=hr.units;omega
section
variable{K:ae}{cl:Str->Addr}{E:XK}{X:Cx}{a b c e l tg:af}{es:List af}{m ma mb:ME}{ms:MA}{pos:ah}{p q:Ph}{H H':Hp}{S:aQ}
def fH(n:String):PV->BI
 |.int _=>if n="int" then some (.bl true)else if n="bool" then some (.bl false)else none
 |.tup _=>if n="tuple" then some (.bl true)else none
 |.lst _=>if n="list" then some (.bl true)else none
 |.str _=>if n="str" then some (.bl true)else none
 |.bl _=>if n="bool" then some (.bl true)else none
 |_=>none
theorem sQ(K:ae)(n:String):gj K (.type n) (.type n)=some true:=by
 unfold gj;rw[if_pos (beq_self_eq_true _)]
def Pr(K:ae)(n:String):V->Hp->VK->Prop:=λx H Q=>(∃t b,jR K H x t/\gj K t (.type n)=some b/\Q (.bl b) H)\/(n="tuple"/\∃a xs,x=.ref a/\dJ K H a xs/\Q (.bl true) H)\/(n="list"/\∃a xs,x=.ref a/\cK K H a xs/\Q (.bl true) H)
theorem Ew(n:String):iB X (.builtin "isinstance") (λxs H Q=>∃x,xs=[x,.ty n]/\Pr X.K n x H Q):=by
 intro BM s σ H xs us Q I r h;obtain⟨x,rfl,h⟩:=h;obtain⟨u,c,rfl,rx,rc⟩:=Td r;cases(show c=kg n from rc);rcases h with⟨t,b,ty,e,q⟩|⟨rfl,a,xs,rfl,t,q⟩|⟨rfl,a,xs,rfl,t,q⟩
 .exact Bw I rx ty e λtk=>⟨.bl b,H,I.tok tk,rfl,q⟩
 .cases rx
  obtain⟨its,_,⟨o,h1,h2,_⟩,_⟩:=I.tuple t;exact fk zt I.kIn ⟨o,h1,h2⟩ (sQ X.K "tuple") (λz=>nomatch z) λtk=>⟨.bl true,H,I.tok tk,rfl,q⟩
 .cases rx
  obtain⟨its,_,pl,_⟩:=I.list t;obtain⟨o,h1,h2,_⟩:=pl.isList;exact fk wt I.kIn ⟨o,h1,h2⟩ (sQ X.K "list") (λz=>nomatch z) λtk=>⟨.bl true,H,I.tok tk,rfl,q⟩
theorem abq(n:String):yL K (Pr K n) (fH n):=λ{p S H a c x Q} s ra e k=>by
 have fin:∀b,c=.bl b->Q (.bl b) H:=λb h=>by
  subst h;exact k H _ (cM.refl H) (by unfold bC;rfl)
 cases a with
 |int i=>
  cases ra.int;unfold fH at e;dsimp only at e;split at e
  .rename_i hn
   cases e;subst hn;exact .inl ⟨_,true,.int i,sQ K _,fin _ rfl⟩
  .split at e
   .rename_i hn
    cases e;subst hn;exact .inl ⟨_,false,.int i,aas K,fin _ rfl⟩
   .cases e
 |bl i=>
  cases ra.bl;unfold fH at e;dsimp only at e;split at e
  .rename_i hn
   cases e;subst hn;exact .inl ⟨_,true,.bl i,sQ K _,fin _ rfl⟩
  .cases e
 |str i=>
  cases ra.str;unfold fH at e;dsimp only at e;split at e
  .rename_i hn
   cases e;subst hn;exact .inl ⟨_,true,.str i,sQ K _,fin _ rfl⟩
  .cases e
 |tup xs=>
  obtain⟨a,vs,rfl,t,_,_⟩:=ra.tup;unfold fH at e;dsimp only at e;split at e
  .rename_i hn
   cases e;exact .inr (.inl ⟨hn,a,vs,rfl,t,fin _ rfl⟩)
  .cases e
 |lst xs=>
  obtain⟨a,vs,rfl,t,_,_⟩:=ra.lst;unfold fH at e;dsimp only at e;split at e
  .rename_i hn
   cases e;exact .inr (.inr ⟨hn,a,vs,rfl,t,fin _ rfl⟩)
  .cases e
 |non=>cases e
theorem Gc{n:String}{t:Str}{p p2:ah}(hg:Gl X "isinstance")(hm:X.mg "isinstance"=none)(hgt:Gl X t)(hmt:X.mg t=none)(hv:bootBuiltins t=some (.type n))(ha:aX K cl E X a m)
  (htn:t≠"__name__":=by decide)(htd:(t==("__debug__":Str))=false:=by decide)
  (he:starEach [a,.Name t p2] X.env=(false,eval a X.env)::starEach [.Name t p2] X.env:=by rfl)(he2:starEach [.Name t p2] X.env=[(false,eval (.Name t p2) X.env)]:=by rfl)(hpl:(backTo pos (starEach [.Name t p2] X.env)).any (·.1)=false:=by rfl):
  aX K cl E X (.Call (.Name "isinstance" p) [a,.Name t p2] [] pos) (bX (fH n) m):=by
 intro hK;subst hK;refine PE.imp (sM (Ew n) hg hm uc (iV (ha rfl) (iV (Q0 hgt hmt hv (v:=.ty n) rfl htn htd) nO he2) he) (by decide) (by decide) he hpl) ?_
 rintro σ H Q ⟨p,S,ρ,s,ev,h⟩
 exact cG s ev h λq H' as x S' stp sm ev r k=>⟨x,rfl,sG (abq n) sm r k⟩
def gY:PV->BI
 |.non=>some (.bl true)
 |_=>some (.bl false)
def xL(K:ae):Sp:=λvs H Q _=>∃(a:Addr)(ns:BA),vs=[.ref a]/\cK K H a (ns.map V.int)/\ns.length<=63/\∀H',Q (.bl true) H'
theorem M9{f:FM}(ht:∀ns:BA,ns.length<=63->∃S,f [.pv (.lst (ns.map .int))] []=.ok (.pv (.bl true)) S){vs:List V}{H:Hp}{Q:VK}{E:XK}(h:xL K vs H Q E):lI K cl f vs H Q E:=by
 obtain⟨a,ns,rfl,hS,hl,hQ⟩:=h;obtain⟨S,e⟩:=ht ns hl;have rs:∀(ns:BA),bB K (λ_=>False) H (ns.map .int) (ns.map V.int):=λns=>by
  induction ns with
  |nil=>exact .nil
  |cons n ns ih=>exact .cons (by unfold bC;rfl) ih
 refine⟨⟨[],λ_=>False,λ_=>False⟩,[],[.pv (.lst (ns.map .int))],⟨List.nodup_nil,rfl,(λ_ h=>absurd h (qo)),(λ_ h=>h),(λ_ h=>h.elim),(λk a o e=>by simp at e)⟩,.cons ?_ .nil,?_⟩
 .show bC K (λ_=>False) H (.lst (ns.map .int)) (.ref a)
  unfold bC;refine⟨a,_,rfl,?_,?_,rs ns⟩
  .rcases hS with(h |h) |h
   .exact .inl ⟨h,λz=>z⟩
   .exact .inr (.inl h)
   .exact .inr (.inr h)
  .rw[ar,fU]
   omega
 .rw[e]
  intro q H' x st sm r;have r:bC K q.c H' (.bl true) x:=r;unfold bC at r;rw[r];exact hQ H'
end
section
variable{K:ae}{cl:Str->Addr}{E:XK}{X:Cx}{e:af}{es:List af}{ms:MA}{p q:Ph}{H H':Hp}{S:aQ}
theorem dC.forget{ρ:cA}{σ:St}(h:dC K p H ρ σ)(i:Nat)(x:Option V):dC K p H (ρ.set i none) (σ.set i x):=by
 refine⟨by rw[ic,ic,h.len],λj u e=>?_⟩
 by_cases q:i=j
 .subst q
  by_cases l:i<ρ.length
  .rw[ix l]at e
   cases e
  .rw[qp (by rw[ic];omega)]at e
   cases e
 .rw[ju q]at e⊢
  exact h.at_ j u e
variable{k:Nat}{f:Addr}{fd:bi}{ps:List Str}{g:FM}{dvs:List V}{ds:BD}{dv:BH}{x:Str}{pp pos pos1 pos2 pos3 pc:ah}{c n:Str}{i nn:Nat}{BR:Stmt}{body:List Stmt}{newId:String}{up:cA->cA}
end
end L2.Pp
namespace L2
open PySem PySem.Spec PyProof.Rows Bn
section
variable{X:Cx}{k:Nat}{f:Addr}{fd:bi}{ps:List Str}{sp:Sp}{dvs:List V}{ds:BD}{x:Str}{p pos pos1 pos2 pos3 pc:ah}{e:af}{es:List af}{t:TA}{c n:Str}{C:Addr}{i:Nat}{BR:Stmt}{body:List Stmt}{newId:String}
end
end L2
namespace L2.Pp
open PySem PySem.Spec PyProof.Rows Bn
section
variable{K:ae}{cl:Str->Addr}{E:XK}{X:Cx}{e:af}{es:List af}{ms:MA}{p q:Ph}{H H':Hp}{S:aQ}
variable{k:Nat}{f:Addr}{fd:bi}{ps:List Str}{g:FM}{dvs:List V}{ds:BD}{dv:BH}{x:Str}{pp pos pos1 pos2 pos3 pc:ah}{c n:Str}{i nn:Nat}{BR:Stmt}{body:List Stmt}{newId:String}{up:cA->cA}
end
section
variable{prog:Program}{w:ao}{A:aq}{E:Value->aa->Prop}{s:aa}
end
end L2.Pp
namespace L2
open PySem PyProof.Rows
end L2
namespace L2.Pp
open PySem
end L2.Pp
namespace L2
open PySem PySem.Spec PyProof.Rows Bn
section
variable{X:Cx}
theorem Ch(is:BA):∀j,j<=is.length->preSum (λi=>is.getD i 0) j=(is.take j).sum
 |0,_=>by simp[preSum]
 |j+1,h=>by
  have hj:j<is.length:=h;rw[preSum,Ch is j (by omega),List.take_add_one,bh hj,Option.toList_some,List.sum_append,List.sum_singleton];simp only[de,bh hj,Option.getD_some]
theorem Iw(hc:X.calm=true):iB X (.builtin "sum") (λxs H Q=>∃(a:Addr)(is:BA),xs=[.ref a]/\cK X.K H a (is.map V.int)/\Q (.int is.sum) H):=by
 intro BM s σ H xs us Q I r h;obtain⟨a,is,rfl,hq,q⟩:=h;obtain⟨u,rfl,ru⟩:=iD r;cases ru;obtain⟨its,rv,pl,hz⟩:=I.list hq;have hl:is.length=its.length:=by
  have:=rv.length
  rwa[ar]at this
 refine call_sum_walkG (su pl.isList ?_);have ha:a<s.heap.objs.size:=by
  obtain⟨o,ho,_⟩:=pl.isList;exact ax ho
 refine⟨_,_,_,_,_,_,λi=>is.getD i 0,rfl,Walks.list (prog:=X.prog) (w:=X.w) (A:=X.A.in1) (show X.A.in1.handled=none from I.ok.hd hc) s.heap.objs.size a (db ha) its.toArray,⟨⟨_,dq _ rfl,rfl,rfl⟩,Heap.IsList.at pl.isList λo e=>aw _ e⟩,λb hb=>?_,λi v hv=>?_,λh' tk t' kp=>?_⟩
 .have hb':b=s.heap.objs.size\/b=a:=by simpa using hb
  rw[ku];rcases hb' with e |e<;>rw[e]
  .exact l8 _
  .exact Nat.lt_succ_of_lt ha
 .have hv':its[i]?=some v:=by simpa using hv
  have hi:i<is.length:=by
   have:=(dj.mp hv').1;omega
  obtain⟨u,hu,ru⟩:=rv.get (i:=i) (x:=.int is[i]) (by rw[fh,bh hi];rfl);rw[hv']at hu;cases hu;obtain⟨t,ht⟩:=(show ∃t,v=qw is[i] t from ru);exact⟨t,by rw[ht];simp[de,hi]⟩
 .have e:preSum (λi=>is.getD i 0) its.toArray.size=is.sum:=by
   rw[az,<-hl,Ch is _ (am _),p8]
  show EP X BM σ Q (.int (preSum (λi=>is.getD i 0) its.toArray.size) t') _;rw[e];have I1:aO X BM σ H {s with heap:=s.heap.push {cls:=.type "list_iterator",data:=.fields #[.ref a,.int 0 0]},toks:=s.toks}:=I.kept λb o z=>aw _ z;have fp:fG X BM H s.heap.objs.size:=I.fpOk (am _) (I.hok.fresh (am _));obtain⟨f0,f1,f2,f3,f4,f5⟩:=fp;exact⟨.int is.sum,H,I1.turned (λb o hb z=>kp b o (by simpa using hb) z) f0 f1 f3 f4 f5,⟨t',rfl⟩,q⟩
end
end L2
namespace L2.Pp
open PySem PySem.Spec PyProof.Rows Bn
section
variable{K:ae}{cl:Str->Addr}{E:XK}{X:Cx}
def hZ:BH->Option BA
 |[]=>some []
 |.int b::r=>match hZ r with
  |some bs=>some (b::bs)
  |none=>none
 |_::_=>none
theorem sH{c:Addr->Prop}{H:Hp}:∀{xs:BH}{bs:BA}{vs:List V},hZ xs=some bs->bB K c H xs vs->vs=bs.map V.int
 |[],bs,vs,e,r=>by
  cases e;unfold bB at r;exact r
 |.int b::xs,bs,vs,e,r=>by
  unfold hZ at e;split at e
  .rename_i cs h
   cases e;unfold bB at r;obtain⟨v,w,rfl,r1,r2⟩:=r;unfold bC at r1;rw[r1,sH h r2];rfl
  .cases e
 |.non::_,_,_,e,_=>by cases e
 |.bl _::_,_,_,e,_=>by cases e
 |.str _::_,_,_,e,_=>by cases e
 |.tup _::_,_,_,e,_=>by cases e
 |.lst _::_,_,_,e,_=>by cases e
def jT:BH->BI
 |[.lst xs]=>(hZ xs).map λbs=>.int bs.sum
 |_=>none
theorem abF:jF K (λxs H Q=>∃(a:Addr)(is:BA),xs=[.ref a]/\cK K H a (is.map V.int)/\Q (.int is.sum) H) jT:=λ{p S H as c xs Q} s ra e k=>by
 unfold jT at e;split at e
 .rename_i zs
  cases y:hZ zs with
  |none=>rw[y]at e;cases e
  |some bs=>
   rw[y]at e;cases e;cases ra with
   |cons h t=>
    cases t;obtain⟨a,vs,rfl,l,z,r⟩:=h.lst;rw[sH y r]at l;exact⟨a,bs,rfl,l,k H _ (cM.refl H) (gI (v:=.int _) rfl)⟩
 .cases e
theorem Kw(l:Addr)(items:Array Value)(n:Nat)(dd:BF)(sl:Array BE)(x:Int)(u:dk)(hc0:¬(!Builtin.List.listFitsIndex x)=true)(hc1:¬items.size*x.toNat>(2^63-1)/8)(hc2:¬si (items.size*x.toNat)=true):
  Meets (Builtin.«list.__mul__» ⟨[.ref l,.int x u],[]⟩) (λ_ R s=>s.heap.get? l=some {cls:=.type "list",dict:=dd,data:=.seq items n,slots:=sl}/\R (.ok (.ret (dw s.heap.objs.size))) {s with heap:=s.heap.push {cls:=kg "list",data:=Data.seq (kn (λx1 x2=>x1++x2) #[] (bn (if items.isEmpty=true then 0 else x.toNat) items))},toks:=s.toks}):=
 .of_wp λprog w A R s h=>by
  obtain⟨hp,g,d,tk,os⟩:=s;obtain⟨hl,h⟩:=h;have hsz:=AutoListH.joined_fits hc2
  wp_walk;refine wpAny_ite_false (decide_eq_false (Nat.not_lt.mpr hsz)) ?_;wp_walk;exact⟨_,rfl,h⟩
theorem Gw(a:Int)(t:dk)(l:Addr)(items:Array Value)(n:Nat)(dd:BF)(sl:Array BE):
  Meets (Builtin.«int.__rmul__» ⟨[.int a t,.ref l],[]⟩) (λ_ R s=>s.heap.get? l=some {cls:=.type "list",dict:=dd,data:=.seq items n,slots:=sl}/\R (.ok (.ret Value.notImplemented)) s):=
 .of_wp λprog w A R s h=>by obtain⟨hp,g,d,tk,os⟩:=s;obtain⟨hl,h⟩:=h;wp_walk;exact⟨_,rfl,h⟩
def Tp(K:ae):R2:=λx y H Q=>∃l k xs,x=.ref l/\y=.int k/\cK K H l xs/\-(2^63)<=k/\k<2^63/\xs.length*k.toNat<=sizeLine/\
 ∀p,H p=none->Q (.ref p) (bJ H p (.lst (bn k.toNat xs).flatten))
theorem L6:dG X (binaryOp .Mult) (Tp X.K):=by
 intro BM s σ H x y v u Q I rx ry h;obtain⟨l,k,xs,rfl,rfl,hx,h1,h2,hz,q⟩:=h;cases rx;obtain⟨t,rfl⟩:=ry;obtain⟨its,r,p1,_⟩:=I.list hx;obtain⟨⟨cls,dd,data,sl⟩,n,e,hc,_,hd⟩:=p1;simp only at hc hd;subst hc hd;have hl:=r.length;have hlen:its.toArray.size*k.toNat<=sizeLine:=by rw[az,<-hl];exact hz
 have hcap:¬its.toArray.size*k.toNat>(2^63-1)/8:=by
  have:(sizeLine:Nat)<=(2^63-1)/8:=by decide
  omega
 have hfit:¬(!Builtin.List.listFitsIndex k)=true:=by
  rw[fitsIndex_both h1 h2];exact ia
 have hlong:¬si (its.toArray.size*k.toNat)=true:=by
  rw[Gy hlen];exact ia
 have hnew:kn (λx1 x2=>x1++x2) #[] (bn (if its.toArray.isEmpty=true then 0 else k.toNat) its.toArray)=(bn k.toNat its).flatten.toArray:=by
  have f0:∀m:Nat,kn (λx1 x2=>x1++x2) #[] (bn m its.toArray)=(bn m its).flatten.toArray:=λm=>by
   have:=Ej its m [];rw[pe]at this;exact this
  rw[f0];cases its with
  |nil=>simp
  |cons a r'=>rw[if_neg (by simp)]
 refine wpAny_binaryOp_repeat_ref (T:="list") (U:="int") (by decide) ⟨_,e,rfl⟩ (λs'=>xh s' k t) noFill_list_mul F.fills_int_mul F.slot_int_rmul repeat_list F.slot_int_index.lookup
  (kq F.slot_int_rmul (xh s k t) F.entry_int_rmul (F.args_int_rmul_2 _ _) (Gw k t l its.toArray n dd sl)
   ⟨e,rfl,⟨_,e,rfl⟩,kq F.slot_list_mul ⟨_,e,rfl⟩ F.entry_list_mul (F.args_list_mul_2 _ _) (Kw l its.toArray n dd sl k t hfit hcap hlong) ⟨e,?_⟩⟩)
 rw[hnew];exact⟨.ref _,_,I.lnew (t':=s.toks) (r.rep k.toNat) (by rw[Yl,ud];exact hz),rfl,q _ I.fresh⟩
def Er(xs:BH)(k:Int):BH:=(bn k.toNat xs).flatten
def Ar(n:Nat)(k:Int):Prop:=-(2^63)<=k/\k<2^63/\n*k.toNat<=16777216
open Classical in
noncomputable def tY:PV->PV->BI
 |.lst xs,.int k=>if Ar xs.length k then some (.lst (Er xs k))else none
 |_,_=>none
open Classical in
theorem Rm{xs:BH}{k:Int}:tY (.lst xs) (.int k)=if Ar xs.length k then some (.lst (Er xs k))else none:=rfl
theorem bB.rep{c:Addr->Prop}{H:Hp}{xs:BH}{vs:List V}(r:bB K c H xs vs):∀n:Nat,bB K c H (bn n xs).flatten (bn n vs).flatten
 |0=>bB.nil
 |n+1=>by
  rw[ik,ik,mx,mx];exact r.append (bB.rep r n)
theorem abG:eK K (Tp K) tY:=λ{p S H a b c x y Q} s ra rb e k=>by
 cases a with
 |lst xs=>
  cases b with
  |int j=>
   rw[Rm]at e;split at e
   .rename_i hl
    cases e;obtain⟨a1,vs,rfl,l1,z1,r1⟩:=ra.lst;have hz:vs.length*j.toNat<=sizeLine:=by rw[<-r1.length,fU];exact hl.2.2
    exact⟨a1,j,vs,rfl,rb.int,l1,hl.1,hl.2.1,hz,λt ht=>k _ _ (fX ht) (nI s (bB.rep r1 _) (by rw[Yl,ud];exact hz) ht)⟩
   .cases e
  |_=>cases e
 |_=>cases e
end
section
variable{K:ae}{cl:Str->Addr}{E:XK}{X:Cx}{p q:Ph}{H H':Hp}{S:aQ}
variable{sc:Scope}{own:List Str}{cap:List (Nat×Str)}{elt target iter:af}{pos:ah}{mi:MI}{g:GM}{me:ME}
end
section
variable{K:ae}{cl:Str->Addr}{E:XK}{X:Cx}{e:af}{m:ME}{pos p2:ah}
end
section
variable{K:ae}{cl:Str->Addr}{E:XK}{X:Cx}
theorem Bb(i:Int):∀is:BA,yR (.int i) (is.map V.int)=is.any (· ==i)
 |[]=>rfl
 |j::is=>by
  have ih:=Bb i is;unfold yR at ih⊢;rw[cg,km,km,ih];rfl
theorem Oa:∀is:BA,(is.map V.int).all mI=true
 |[]=>rfl
 |j::is=>by
  rw[cg,sf,Oa is];rfl
def yP(neg:Bool)(i:Int)(is:BA):Bool:=if neg then !(is.any (· ==i))else is.any (· ==i)
def oG(neg:Bool):PV->PV->BI
 |.int i,.lst xs=>(hZ xs).map λis=>.bl (yP neg i is)
 |.int i,.tup xs=>(hZ xs).map λis=>.bl (yP neg i is)
 |_,_=>none
theorem xN(neg:Bool):eK K (Le K neg) (oG neg):=λ{p S H a b c x y Q} s ra rb e k=>by
 cases a with
 |int i=>
  cases b with
  |lst xs=>
   have e:((hZ xs).map λis=>PV.bl (yP neg i is))=some c:=e;cases z:hZ xs with
   |none=>rw[z]at e;cases e
   |some is=>
    rw[z]at e;cases e;obtain⟨a1,vs,rfl,l1,z1,r1⟩:=rb.lst;rw[sH z r1]at l1;have hx:=ra.int;subst hx;refine⟨a1,is.map V.int,rfl,.inl l1,rfl,Oa is,?_⟩;rw[Bb];exact k H _ (cM.refl H) (gI (v:=.bl _) rfl)
  |tup xs=>
   have e:((hZ xs).map λis=>PV.bl (yP neg i is))=some c:=e;cases z:hZ xs with
   |none=>rw[z]at e;cases e
   |some is=>
    rw[z]at e;cases e;obtain⟨a1,vs,rfl,l1,z1,r1⟩:=rb.tup;rw[sH z r1]at l1;have hx:=ra.int;subst hx;refine⟨a1,is.map V.int,rfl,.inr l1,rfl,Oa is,?_⟩;rw[Bb];exact k H _ (cM.refl H) (gI (v:=.bl _) rfl)
  |_=>cases e
 |_=>cases e
end
end L2.Pp
namespace L2
open PySem PySem.Spec PyProof.Rows Bn
open PySem.W (KasT kas_sort kas_ask KatLex KatGo KatTups kat_run kat_kind kat_lt kat_one kas_item kat_snds)
def mK{α:Type}(lt:Nat->Nat->Bool):KasT α->α
 |.ret a=>a
 |.ask i j k=>mK lt (k (lt i j))
def iN{α:Type}(n:Nat):KasT α->Bool
 |.ret _=>true
 |.ask i j k=>decide (i<n)&&decide (j<n)&&iN n (k true)&&iN n (k false)
theorem Wj{α:Type}{cmp:Nat->Nat->(Bool->aa->Prop)->aa->Prop}{lt:Nat->Nat->Bool}{n:Nat}{s:aa}(hc:∀i j(C:Bool->aa->Prop),i<n->j<n->C (lt i j) s->cmp i j C s):∀(t:KasT α)(Q:α->aa->Prop),iN n t=true->Q (mK lt t) s->t.kasWp cmp Q s
 |.ret a,Q,_,h=>h
 |.ask i j k,Q,ok,h=>by
  unfold iN at ok;simp only[ee,decide_eq_true_eq]at ok;obtain⟨⟨⟨hi,hj⟩,h1⟩,h2⟩:=ok;refine hc i j _ hi hj (Wj hc (k (lt i j)) Q ?_ h);cases lt i j
  .exact h2
  .exact h1
def qM(h:Heap)(v:Value)(us:BA):Prop:=∃a o its n,v=.ref a/\h.get? a=some o/\o.cls=.type "tuple"/\o.data=.seq (nr its) n/\bK (us.map V.int) its
section
variable{prog:Program}{w:ao}{A:aq}{E:Value->aa->Prop}{s:aa}
theorem An{Q:Bool->aa->Prop}:∀(us vs:BA)(its jts:BD)(i:Nat)(fin:Bool),bK (us.map V.int) its->bK (vs.map V.int) jts->fin=decide (us.length<vs.length)->Q (HT.lexLt us vs) s->KatLex prog w A true fin Q (its.zip jts) i s
 |[],vs,its,jts,i,fin,h1,h2,hf,hQ=>by
  cases h1;cases vs with
  |nil=>
   subst hf;exact yk hQ
  |cons v vs=>
   have e:fin=true:=by rw[hf];simp
   subst e;exact yk hQ
 |u::us,[],its,jts,i,fin,h1,h2,hf,hQ=>by
  cases h2;have e:fin=false:=by rw[hf];simp
  subst e;rw[List.zip_nil_right];exact yk hQ
 |u::us,v::vs,its,jts,i,fin,h1,h2,hf,hQ=>by
  cases h1 with
  |cons r1 t1=>
   cases h2 with
   |cons r2 t2=>
    obtain⟨k1,rfl⟩:=r1;obtain⟨k2,rfl⟩:=r2;rw[List.zip_cons_cons];refine PySem.W.kat_cons (wpAny_eqBool_int ?_);rw[HT.lexLt_cons]at hQ
    by_cases e:u=v
    .rw[if_pos e]at hQ
     have b:(u==v)=true:=by simpa using e
     rw[b];exact PySem.W.kat_yes (An us vs _ _ (i+1) fin t1 t2 (by rw[hf];simp) hQ)
    .rw[if_neg e]at hQ
     have b:(u==v)=false:=by simpa using e
     rw[b];refine PySem.W.kat_no ?_
     by_cases hi:i=0
     .subst hi
      exact oneLt_int hQ
     .have b2:(true&&i==0)=false:=by simpa using hi
      rw[b2];exact kat_one _ _ (PySem.P.lt_int hQ)
theorem aah{x y:Value}{us vs:BA}{Q:Bool->aa->Prop}(hx:qM s.heap x us)(hy:qM s.heap y vs)(h:Q (HT.lexLt us vs) s):wpAny (model prog w) A (keyLt' (tuples' true) x y) Q E s:=by
 obtain⟨a,o,its,n,rfl,ho,hc,hd,r⟩:=hx;obtain⟨b,o2,jts,k,rfl,ho2,hc2,hd2,r2⟩:=hy;refine kat_lt ho hd ho2 hd2 ?_;have l1:=r.length;have l2:=r2.length;rw[ar]at l1 l2;refine An us vs its jts 0 _ r r2 ?_ h;rw[az,az,l1,l2]
theorem Xh:∀(vs:BD)(uss:BB),vs.length=uss.length->(∀i,i<vs.length->qM s.heap (vs.getD i cw) (uss.getD i [])/\uss.getD i []≠[])->∃fs,KatTups s.heap vs fs/\fs.length=vs.length/\∀v∈fs,∃i t,v=.int i t
 |[],uss,_,_=>⟨[],trivial,rfl,λ_ h=>absurd h qo⟩
 |v::vs,[],hl,_=>by cases hl
 |v::vs,us::uss,hl,h=>by
  obtain⟨fs,k,l,q⟩:=Xh vs uss (by simpa using hl) λi hi=>by
   have:=h (i+1) (by simp;omega);simpa using this
  obtain⟨⟨a,o,its,n,e,ho,hc,hd,r⟩,ne⟩:=h 0 (by simp);have e:v=.ref a:=e;subst e;cases us with
  |nil=>exact absurd rfl ne
  |cons u us=>
   have r:bK (V.int u::us.map V.int) its:=r;cases r with
   |cons r1 t1=>
    obtain⟨t,rfl⟩:=r1;refine⟨.int u t::fs,KatTups.cons ho hc hd (by simp) k,by simp[l],λx hx=>?_⟩;rcases ce.mp hx with rfl |hx
    .exact⟨u,t,rfl⟩
    .exact q x hx
def dP(uss:BB):List Nat:=(mK (λi j=>HT.lexLt (uss.getD i []) (uss.getD j [])) (ir uss.length)).toList
theorem Ht{a:Addr}{vs:BD}{uss:BB}{n:Nat}{P:PySem.Fin->aa->Prop}(ho:s.heap.get? a=some (seqObj "list" vs.toArray n))(hl:vs.length=uss.length)(h2:2<=vs.length)(h64:vs.length<64)(ok:iN uss.length (ir uss.length)=true)
  (tu:∀i,i<vs.length->qM s.heap (vs.getD i cw) (uss.getD i [])/\uss.getD i []≠[])
  (h:P (.done (.ret .none)) {s with heap:=sortedHeap s.heap a vs (nr ((dP uss).map λi=>vs.getD i cw))}):
  wpAny (model prog w) A (Builtin.«list.sort» ⟨[.ref a],[]⟩) P E s:=by
 have ha:a<s.heap.objs.size:=ax ho;obtain⟨e1,ho1⟩:∃e1,(s.heap.update a (gm λ_=>(#[]:Array Value))).get? a=some (seqObj "list" #[] e1):=⟨_,yl ho λ_=>#[]⟩;have kp:∀b o,b≠a->s.heap.get? b=some o->(((s.heap.update a (gm λ_=>(#[]:Array Value))).push (seqObj "tuple" vs.toArray 0)).push (seqObj "list" #[] 0)).get? b=some o:=λb o hb e=>
  aw _ (aw _ ((ym _ _ _ _ hb).trans e))
 have tu2:∀i,i<vs.length->qM (((s.heap.update a (gm λ_=>(#[]:Array Value))).push (seqObj "tuple" vs.toArray 0)).push (seqObj "list" #[] 0)) (vs.getD i cw) (uss.getD i [])/\uss.getD i []≠[]:=λi hi=>by
  obtain⟨⟨b,o,its,m,e,hb,hc,hd,r⟩,ne⟩:=tu i hi;refine⟨⟨b,o,its,m,e,kp b o (λz=>?_) hb,hc,hd,r⟩,ne⟩;subst z;rw[ho]at hb;cases hb;have hc:kg "list"=kg "tuple":=hc;injection hc with hc;exact absurd hc (by decide)
 have na:(((s.heap.update a (gm λ_=>(#[]:Array Value))).push (seqObj "tuple" vs.toArray 0)).push (seqObj "list" #[] 0)).get? a=some (seqObj "list" #[] e1):=aw _ (aw _ ho1);rw[list_sort_plain];refine ag (listItems_at ho rfl ?_);refine ag (listUpdate_at ho rfl ?_ (by rw[az,kj];omega) (io _));refine ag (seqEpoch_at ho1 rfl ?_);refine ag (wpAny_newTuple ?_ (by show vs.length<=_;rw[kj];omega));refine ag (wpAny_newList ?_ (io _));refine fe ?_;show wpAny (model prog w) A _ P E {s with heap:=((s.heap.update a (gm λ_=>(#[]:Array Value))).push (seqObj "tuple" vs.toArray 0)).push (seqObj "list" #[] 0)};dsimp only;have hn2:¬vs.toArray.size<2:=by rw[az];omega
 rw[if_neg hn2,if_neg hn2];obtain⟨fs,kt,lf,qf⟩:=Xh (s:={s with heap:=((s.heap.update a (gm λ_=>(#[]:Array Value))).push (seqObj "tuple" vs.toArray 0)).push (seqObj "list" #[] 0)}) vs uss hl tu2;refine ag (kat_kind (T:=.type "int") kt (by omega) (λv hv=>?_) rfl ?_)
 .obtain⟨i,t,rfl⟩:=qf v hv
  exact .now
 have bt:(kg "int" !=kg "tuple")=true:=by decide
 rw[bt];refine ag (dh (kat_run (Q:=λst' s'=>∃p:Array Nat,p.size=vs.length/\arrOf st'=p.map (kas_item (vs.toArray.zip vs.toArray))/\failedOf st'=none/\p.toList=dP uss/\s'={s with heap:=((s.heap.update a (gm λ_=>(#[]:Array Value))).push (seqObj "tuple" vs.toArray 0)).push (seqObj "list" #[] 0)})
  (G:=λp s'=>p.toList=dP uss/\s'={s with heap:=((s.heap.update a (gm λ_=>(#[]:Array Value))).push (seqObj "tuple" vs.toArray 0)).push (seqObj "list" #[] 0)})
  rfl h2 h64 (λp' st' s' a1 a2 a3 a4=>⟨p',a1,a2,a3,a4⟩) ?_) ?_ λ_ _ e=>e)
 .rw[hl]
  refine Wj (lt:=λi j=>HT.lexLt (uss.getD i []) (uss.getD j [])) (n:=uss.length) (λi j C hi hj hC=>?_) _ _ ok ⟨rfl,rfl⟩;exact aah (tu2 i (by omega)).1 (tu2 j (by omega)).1 hC
 rintro⟨⟨⟩,st'⟩ s' ⟨p,hp,har,hf,hpl,rfl⟩
 dsimp only;have hout:=kat_snds rfl har;have hsz:(nr (p.toList.map λi=>vs.getD i cw)).size=vs.length:=by rw[az,ar,pq,hp]
 rw[hout];refine ag (seqEpoch_at na rfl ?_);refine ag (listUpdate_at na rfl ?_ (io _) (dz (xk hsz) (by rw[kj];omega)));rw[hf];simp only[bne_self_eq_false,ox,if_false];refine au ?_;rw[hpl];exact h
theorem Xv{l:Addr}{o:Obj}{T:String}{vs:BD}{uss:BB}{n:Nat}{Q:Value->aa->Prop}(hT:T="list"\/T="tuple")(ho:s.heap.get? l=some o)(hc:o.cls=.type T)(hd:o.data=.seq vs.toArray n)(hl:vs.length=uss.length)(h2:2<=vs.length)(h64:vs.length<64)(ok:iN uss.length (ir uss.length)=true)
  (tu:∀i,i<vs.length->qM s.heap (vs.getD i cw) (uss.getD i [])/\uss.getD i []≠[])
  (h:∀(h1 h':Heap)(c:Nat),(∀b o',s.heap.get? b=some o'->h1.get? b=some o')->(∀b o',h1.get? b=some o'->h'.get? b=some o')->h'.get? h1.objs.size=some (seqObj "list" (nr ((dP uss).map λi=>vs.getD i cw)) c)->Q (.ref h1.objs.size) {s with heap:=h'}):
  wpAny (model prog w) A (call (.builtin "sorted") [.ref l]) Q E s:=by
 refine PySem.Calls.call_function_entry kind_sorted plain_sorted entry_sorted (args_sorted1 _) ?_;unfold Builtin.«sorted»;refine ag (m:=checkCount "sorted" 1 1 _) (au ?_);refine ag (wpAny_collect_seq l hT ho hc hd (λh1 k1=>?_) (by rw[az,kj];omega));refine ag (wpAny_newList ?_ (by rw[kj];simp;omega));have hoL:(h1.push (seqObj "list" vs.toArray 0)).get? h1.objs.size=some (seqObj "list" vs.toArray 0):=dq _ rfl;show wpAny _ _ _ _ _ {s with heap:=h1.push (seqObj "list" vs.toArray 0)};refine ag (fe (oq slot_list_sort ⟨_,hoL,rfl⟩ entry_list_sort ?body (args_list_sort _)))
 case body=>
  refine Ht (s:={s with heap:=h1.push (seqObj "list" vs.toArray 0)}) hoL hl h2 h64 ok (λi hi=>?_) ⟨_,rfl,au ⟨_,rfl,?_⟩⟩
  .obtain⟨⟨b,o,its,m,e,hb,hc,hd,r⟩,ne⟩:=tu i hi
   exact⟨⟨b,o,its,m,e,aw _ (k1 b o hb),hc,hd,r⟩,ne⟩
  .obtain⟨e1,ho1⟩:∃e1,((h1.push (seqObj "list" vs.toArray 0)).update h1.objs.size (gm λ_=>(#[]:Array Value))).get? h1.objs.size=some (seqObj "list" #[] e1):=⟨_,yl hoL λ_=>#[]⟩
   have ho2:=aw (seqObj "list" #[] 0) (aw (seqObj "tuple" vs.toArray 0) ho1);obtain⟨e2,ho3⟩:∃e2,(sortedHeap (h1.push (seqObj "list" vs.toArray 0)) h1.objs.size vs (nr ((dP uss).map λi=>vs.getD i cw))).get? h1.objs.size=some (seqObj "list" (nr ((dP uss).map λi=>vs.getD i cw)) e2):=⟨_,yl ho2 λ_=>nr ((dP uss).map λi=>vs.getD i cw)⟩;refine h h1 _ e2 k1 (λb o' hb1=>?_) ho3;have hne:b≠h1.objs.size:=db (ax hb1);exact(ym _ _ _ _ hne).trans (aw _ (aw _ ((ym _ _ _ _ hne).trans (aw _ hb1))))
end
def Kd(K:ae)(H:Hp)(ts:List V)(uss:BB):Prop:=ts.length=uss.length/\∀i t,ts[i]?=some t->∃a,t=.ref a/\dJ K H a ((uss.getD i []).map V.int)/\uss.getD i []≠[]
theorem Zu{X:Cx}:iB X (.builtin "sorted") (λxs H Q=>∃(a:Addr)(ts:List V)(uss:BB),xs=[.ref a]/\(cK X.K H a ts\/dJ X.K H a ts)/\Kd X.K H ts uss/\2<=ts.length/\ts.length<64/\iN uss.length (ir uss.length)=true/\(dP uss).length<=64/\
  ∀l,H l=none->Q (.ref l) (bJ H l (.lst ((dP uss).map λi=>ts.getD i .non)))):=by
 intro BM s σ H xs us Q I r h;obtain⟨a,ts,uss,rfl,hq,⟨hl,ht⟩,h2,h64,ok,hpl,q⟩:=h;obtain⟨u,rfl,ru⟩:=iD r;cases ru;have go:∀(its:BD)(T:String)(o:Obj)(n:Nat),bK ts its->(T="list"\/T="tuple")->s.heap.get? a=some o->o.cls=.type T->o.data=.seq its.toArray n->ts.length<=sizeLine->
   wpAny (model X.prog X.w) X.A (call (.builtin "sorted") [.ref a]) (EP X BM σ Q) X.xe s:=λits T o n rv hT ho hc hd hz=>by
  have hlen:=rv.length;refine Xv (uss:=uss) hT ho hc hd (by omega) (by omega) (by omega) ok (λi hi=>?_) λh1 h' c k1 k2 e=>?_
  .have hi':i<ts.length:=by omega
   obtain⟨b,e1,sq,ne⟩:=ht i ts[i] (bh hi');obtain⟨v,e2,rel⟩:=rv.get (bh hi');rw[e1]at rel;cases rel;obtain⟨jts,rj,⟨o2,ho2,hc2,m,hd2⟩,_⟩:=I.tuple sq;refine⟨⟨b,o2,jts,m,?_,ho2,hc2,hd2,rj⟩,ne⟩;rw[de,e2];rfl
  .have I1:aO X BM σ H {s with heap:=h1,toks:=s.toks}:=I.kept k1
   have hz2:((dP uss).map λi=>ts.getD i .non).length<=sizeLine:=by
    rw[ar,kj];omega
   have rel:∀ps:List Nat,bK (ps.map λi=>ts.getD i .non) (ps.map λi=>its.getD i cw):=λps=>by
    induction ps with
    |nil=>exact .nil
    |cons i ps ih=>
     refine .cons ?_ ih
     by_cases hi:i<ts.length
     .obtain⟨v,e2,rr⟩:=rv.get (bh hi)
      have q1:ts.getD i .non=ts[i]:=by simp[de,hi]
      have q2:its.getD i cw=v:=by simp[de,e2]
      show cD (ts.getD i .non) (its.getD i cw);rw[q1,q2];exact rr
     .have q1:ts.getD i .non=.non:=by simp[de,hi]
      have q2:its.getD i cw=cw:=by simp[de,show its.length<=i by omega]
      show cD (ts.getD i .non) (its.getD i cw);rw[q1,q2];rfl
   refine⟨.ref h1.objs.size,_,I1.laid (t':=s.toks) (o:=.lst ((dP uss).map λi=>ts.getD i .non)) k2 (am _) ?_,rfl,q _ (I1.hok.fresh (am _))⟩;exact⟨hz2,_,c,rel _,e⟩
 rcases hq with hq |hq
 .obtain⟨its,rv,pl,hz⟩:=I.list hq
  obtain⟨o,ho,hc,n,hd⟩:=pl.isList;exact go its "list" o n rv (.inl rfl) ho hc hd hz
 .obtain⟨its,rv,⟨o,ho,hc,n,hd⟩,hz⟩:=I.tuple hq
  exact go its "tuple" o n rv (.inr rfl) ho hc hd hz
end L2
namespace L2.Pp
open PySem PySem.Spec PyProof.Rows Bn
open PySem.W (kas_sort)
section
variable{K:ae}
def nJ:BH->Option BB
 |[]=>some []
 |.tup us::r=>match hZ us,nJ r with
  |some is,some uss=>some (is::uss)
  |_,_=>none
 |_::_=>none
theorem Gk:∀{xs:BH}{uss:BB},nJ xs=some uss->xs.length=uss.length
 |[],uss,e=>by cases e;rfl
 |.tup us::r,uss,e=>by
  unfold nJ at e;split at e
  .rename_i is uss' h1 h2
   cases e;rw[br,br,Gk h2]
  .cases e
 |.non::_,_,e=>by cases e
 |.bl _::_,_,e=>by cases e
 |.int _::_,_,e=>by cases e
 |.str _::_,_,e=>by cases e
 |.lst _::_,_,e=>by cases e
theorem Rl{c:Addr->Prop}{H:Hp}:∀{xs:BH}{uss:BB}{vs:List V},nJ xs=some uss->bB K c H xs vs->∀i t,vs[i]?=some t->∃a,t=.ref a/\dJ K H a ((uss.getD i []).map V.int)
 |[],uss,vs,e,r,i,t,h=>by
  unfold bB at r;subst r;simp at h
 |.tup us::r,uss,vs,e,rr,i,t,h=>by
  unfold nJ at e;split at e
  .rename_i is uss' h1 h2
   cases e;unfold bB at rr;obtain⟨v,w,rfl,r1,r2⟩:=rr;cases i with
   |zero=>
    cases h;unfold bC at r1;obtain⟨a,ws,rfl,sq,_,r3⟩:=r1;rw[sH h1 r3]at sq;exact⟨a,rfl,sq⟩
   |succ i=>
    have:=Rl h2 r2 i t (by simpa using h);simpa using this
  .cases e
 |.non::_,_,_,e,_,_,_,_=>by cases e
 |.bl _::_,_,_,e,_,_,_,_=>by cases e
 |.int _::_,_,_,e,_,_,_,_=>by cases e
 |.str _::_,_,_,e,_,_,_,_=>by cases e
 |.lst _::_,_,_,e,_,_,_,_=>by cases e
def Sd(uss:BB):Prop:=2<=uss.length/\uss.length<64/\iN uss.length (ir uss.length)=true/\(dP uss).length<=64/\∀us∈uss,us≠[]
def Vd(xs:BH)(uss:BB):BH:=(dP uss).map λi=>xs.getD i .non
open Classical in
noncomputable def qP(xs:BH):BI:=match nJ xs with
 |some uss=>if Sd uss then some (.lst (Vd xs uss))else none
 |none=>none
noncomputable def qB:BH->BI
 |[.lst xs]=>qP xs
 |[.tup xs]=>qP xs
 |_=>none
theorem Wi{c:Addr->Prop}{H:Hp}{xs:BH}{vs:List V}(r:bB K c H xs vs):∀ps:List Nat,bB K c H (ps.map λi=>xs.getD i .non) (ps.map λi=>vs.getD i .non)
 |[]=>.nil
 |i::ps=>by
  refine .cons ?_ (Wi r ps)
  by_cases hi:i<xs.length
  .obtain⟨v,e1,e2⟩:=r.get (bh hi)
   have q1:xs.getD i .non=xs[i]:=by simp[de,hi]
   have q2:vs.getD i .non=v:=by simp[de,e1]
   show bC K c H (xs.getD i .non) (vs.getD i .non);rw[q1,q2];exact e2
  .have hl:=r.length
   have q1:xs.getD i .non=.non:=by simp[de,hi]
   have q2:vs.getD i .non=.non:=by simp[de,show vs.length<=i by omega]
   show bC K c H (xs.getD i .non) (vs.getD i .non);rw[q1,q2];unfold bC;rfl
theorem aau:jF K (λxs H Q=>∃(a:Addr)(ts:List V)(uss:BB),xs=[.ref a]/\(cK K H a ts\/dJ K H a ts)/\Kd K H ts uss/\2<=ts.length/\ts.length<64/\iN uss.length (ir uss.length)=true/\(dP uss).length<=64/\
  ∀l,H l=none->Q (.ref l) (bJ H l (.lst ((dP uss).map λi=>ts.getD i .non)))) qB:=λ{p S H as c xs Q} s ra e k=>by
 have key:∀(zs:BH)(a:Addr)(vs:List V),qP zs=some c->(cK K H a vs\/dJ K H a vs)->bB K p.c H zs vs->∃(a':Addr)(ts:List V)(uss:BB),[V.ref a]=[.ref a']/\(cK K H a' ts\/dJ K H a' ts)/\Kd K H ts uss/\2<=ts.length/\ts.length<64/\iN uss.length (ir uss.length)=true/\(dP uss).length<=64/\
   ∀l,H l=none->Q (.ref l) (bJ H l (.lst ((dP uss).map λi=>ts.getD i .non))):=λzs a vs e sq r=>by
  unfold qP at e;split at e
  .rename_i uss hu
   split at e
   .rename_i hc
    cases e;obtain⟨c1,c2,c3,c4,c5⟩:=hc;have l1:=Gk hu;have l2:=r.length;refine⟨a,vs,uss,rfl,sq,⟨by omega,λi t h=>?_⟩,by omega,by omega,c3,c4,λl hl=>?_⟩
    .obtain⟨b,e1,e2⟩:=Rl hu r i t h
     have hi:i<uss.length:=by
      have:=(dj.mp h).1;omega
     refine⟨b,e1,e2,?_⟩;rw[de,bh hi];exact c5 _ (je hi)
    .refine k _ _ (fX hl) (nI s (Wi r _) ?_ hl)
     rw[ar,fU];omega
   .cases e
  .cases e
 unfold qB at e;split at e
 .rename_i zs
  cases ra with
  |cons h t=>
   cases t;obtain⟨a,vs,rfl,l,z,r⟩:=h.lst;exact key zs a vs e (.inl l) r
 .rename_i zs
  cases ra with
  |cons h t=>
   cases t;obtain⟨a,vs,rfl,l,z,r⟩:=h.tup;exact key zs a vs e (.inr l) r
 .cases e
end
end L2.Pp
namespace L2
section
open PySem.W (KasT kas_sort)
theorem Wh{α:Type}{lt lt':Nat->Nat->Bool}{n:Nat}(h:∀i j,i<n->j<n->lt i j=lt' i j):∀t:KasT α,iN n t=true->mK lt t=mK lt' t
 |.ret a,_=>rfl
 |.ask i j k,ok=>by
  unfold iN at ok;simp only[ee,decide_eq_true_eq]at ok;obtain⟨⟨⟨hi,hj⟩,h1⟩,h2⟩:=ok;show mK lt (k (lt i j))=mK lt' (k (lt' i j));rw[<-h i j hi hj];refine Wh h (k (lt i j)) ?_;cases lt i j
  .exact h2
  .exact h1
theorem lA:∀u:BA,HT.lexLt u u=false
 |[]=>rfl
 |x::u=>by rw[HT.lexLt_cons,if_pos rfl,lA u]
theorem Pb:∀u v:BA,u=v\/HT.lexLt u v=true\/HT.lexLt v u=true
 |[],[]=>.inl rfl
 |[],_::_=>.inr (.inl rfl)
 |_::_,[]=>.inr (.inr rfl)
 |x::u,y::v=>by
  rw[HT.lexLt_cons,HT.lexLt_cons]
  by_cases h:x=y
  .subst h
   rw[if_pos rfl,if_pos rfl];rcases Pb u v with h |h |h
   .exact .inl (by rw[h])
   .exact .inr (.inl h)
   .exact .inr (.inr h)
  .rw[if_neg h,if_neg (λz=>h z.symm)]
   by_cases q:x<y
   .exact .inr (.inl (by simpa using q))
   .exact .inr (.inr (by simp;omega))
theorem vF:∀u v w:BA,HT.lexLt u v=true->HT.lexLt v w=true->HT.lexLt u w=true
 |[],[],_,h,_=>by cases h
 |[],_::_,[],_,h=>by cases h
 |[],_::_,_::_,_,_=>rfl
 |_::_,[],_,h,_=>by cases h
 |_::_,_::_,[],_,h=>by cases h
 |x::u,y::v,z::w,h1,h2=>by
  rw[HT.lexLt_cons]at h1 h2⊢
  by_cases e1:x=y
  .subst e1
   rw[if_pos rfl]at h1
   by_cases e2:x=z
   .rw[if_pos e2]at h2⊢
    exact vF u v w h1 h2
   .rw[if_neg e2]at h2⊢
    exact h2
  .rw[if_neg e1]at h1
   have h1:x<y:=by simpa using h1
   by_cases e2:y=z
   .subst e2
    rw[if_neg e1];simpa using h1
   .rw[if_neg e2]at h2
    have h2:y<z:=by simpa using h2
    rw[if_neg (by omega)];simp;omega
theorem Cz{u v:BA}(h:HT.lexLt u v=true):HT.lexLt v u=false:=by
 cases q:HT.lexLt v u with
 |false=>rfl
 |true=>
  have:=vF u v u h q;rw[lA]at this;cases this
theorem B8{u v:BA}(h:HT.lexLt u v=false)(g:HT.lexLt v u=false):u=v:=by
 rcases Pb u v with e |e |e
 .exact e
 .rw[h]at e;cases e
 .rw[g]at e;cases e
def r3(a b c d e f:Bool):Bool:=(!(a&&b)||c)&&(!(d&&e)||f)
def yU(b:Nat->Nat->Bool)(n:Nat):Bool:=(cq n).all λi=>!(b i i)&&(cq n).all λj=>!(b i j&&b j i)&&(cq n).all λk=>(!(b i j&&b j k)||b i k)&&(b i j||b j k|| !(b i k))
def xM(b:Nat->Nat->Bool)(n:Nat)(ps:List (List Nat)):Bool:=let p:=(mK b (ir n)).toList
 ps.contains p&&(cq n).all λi=>(cq n).all λj=>!(decide (i<j))|| !(b (p.getD j 0) (p.getD i 0))
def Ad:List (List Nat):=[[0,1,2],[0,2,1],[1,0,2],[1,2,0],[2,0,1],[2,1,0]]
def Cd:List (List Nat):=[[0,1,2,3],[0,1,3,2],[0,2,1,3],[0,2,3,1],[0,3,1,2],[0,3,2,1],[1,0,2,3],[1,0,3,2],[1,2,0,3],[1,2,3,0],[1,3,0,2],[1,3,2,0],
 [2,0,1,3],[2,0,3,1],[2,1,0,3],[2,1,3,0],[2,3,0,1],[2,3,1,0],[3,0,1,2],[3,0,2,1],[3,1,0,2],[3,1,2,0],[3,2,0,1],[3,2,1,0]]
def Pe(b01 b02 b10 b12 b20 b21:Bool)(i j:Nat):Bool:=match i,j with
 |0,1=>b01 |0,2=>b02 |1,0=>b10 |1,2=>b12 |2,0=>b20 |2,1=>b21 |_,_=>false
def Se(b01 b02 b03 b10 b12 b13 b20 b21 b23 b30 b31 b32:Bool)(i j:Nat):Bool:=match i,j with
 |0,1=>b01 |0,2=>b02 |0,3=>b03 |1,0=>b10 |1,2=>b12 |1,3=>b13 |2,0=>b20 |2,1=>b21 |2,3=>b23 |3,0=>b30 |3,1=>b31 |3,2=>b32 |_,_=>false
theorem Qq:iN 3 (ir 3)=true:=by decide+kernel
theorem Nq:iN 4 (ir 4)=true:=by decide+kernel
theorem acq:∀b01 b02 b10 b12 b20 b21:Bool,yU (Pe b01 b02 b10 b12 b20 b21) 3=true->xM (Pe b01 b02 b10 b12 b20 b21) 3 Ad=true:=by decide+kernel
theorem acm:∀b01 b02 b03 b10 b12 b13 b20 b21 b23 b30 b31 b32:Bool,yU (Se b01 b02 b03 b10 b12 b13 b20 b21 b23 b30 b31 b32) 4=true->xM (Se b01 b02 b03 b10 b12 b13 b20 b21 b23 b30 b31 b32) 4 Cd=true:=by decide+kernel
theorem Ro{b:Nat->Nat->Bool}{n:Nat}{uss:BB}(h:∀i j,i<n->j<n->b i j=HT.lexLt (uss.getD i []) (uss.getD j [])):yU b n=true:=by
 unfold yU;simp only[jd,wb,ee,j9,Bool.or_eq_true,Bool.and_eq_false_imp];intro i hi;refine⟨by rw[h i i hi hi,lA],λj hj=>⟨λq=>?_,λk hk=>⟨?_,?_⟩⟩⟩
 .rw[h i j hi hj]at q
  rw[h j i hj hi,Cz q]
 .rw[h i j hi hj,h j k hj hk,h i k hi hk]
  cases q1:HT.lexLt (uss.getD i []) (uss.getD j [])with
  |false=>exact .inl λz=>by cases z
  |true=>
   cases q2:HT.lexLt (uss.getD j []) (uss.getD k [])with
   |false=>exact .inl λ_=>rfl
   |true=>exact .inr (vF _ _ _ q1 q2)
 .rw[h i j hi hj,h j k hj hk,h i k hi hk]
  cases q1:HT.lexLt (uss.getD i []) (uss.getD j [])with
  |true=>exact .inl (.inl rfl)
  |false=>
   cases q2:HT.lexLt (uss.getD j []) (uss.getD k [])with
   |true=>exact .inl (.inr rfl)
   |false=>
    refine .inr ?_;cases q3:HT.lexLt (uss.getD i []) (uss.getD k [])with
    |false=>rfl
    |true=>
     rcases Pb (uss.getD i []) (uss.getD j [])with e |e |e
     .rw[e]at q3;rw[q2]at q3;cases q3
     .rw[q1]at e;cases e
     .have:=vF _ _ _ e q3
      rw[q2]at this;cases this
end
section
open PySem.W (KasT kas_sort)
def dH(uss:BB):BB:=(dP uss).map λi=>uss.getD i []
def pJ(u v:BA):Prop:=HT.lexLt v u=false
theorem Hj{uss:BB}{n:Nat}{ps:List (List Nat)}(hl:uss.length=n)(ok:iN n (ir n)=true){b:Nat->Nat->Bool}(hb:∀i j,i<n->j<n->b i j=HT.lexLt (uss.getD i []) (uss.getD j []))(good:xM b n ps=true)(hp:∀p∈ps,p.Perm (cq n)):
  dP uss∈ps/\(dP uss).Perm (cq n)/\(dH uss).Pairwise pJ:=by
 have e:dP uss=(mK b (ir n)).toList:=by
  unfold dP;rw[hl];exact congrArg wk (Wh (n:=n) (λi j hi hj=>(hb i j hi hj).symm) _ ok)
 unfold xM at good;simp only[ee,jd,wb]at good;rw[<-e]at good;obtain⟨g1,g2⟩:=good;have m:dP uss∈ps:=by simpa using g1
 have pm:=hp _ m;refine⟨m,pm,?_⟩;have ln:(dP uss).length=n:=by rw[pm.length_eq,l7]
 unfold dH;rw[List.pairwise_iff_getElem];intro i j hi hj hij;rw[ar]at hi hj;have q:=g2 i (by omega) j (by omega);have pi:(dP uss).getD i 0=(dP uss)[i]:=by simp[de,hi]
 have pj:(dP uss).getD j 0=(dP uss)[j]:=by simp[de,hj]
 rw[pi,pj]at q;have li:(dP uss)[i]<n:=by
  have:=pm.subset (je hi);simpa using this
 have lj:(dP uss)[j]<n:=by
  have:=pm.subset (je hj);simpa using this
 rw[hb _ _ lj li]at q;simp only[List.getElem_map];unfold pJ;have d:decide (i<j)=true:=by simpa using hij
 rw[d]at q;simpa using q
theorem Yz:∀p∈Ad,p.Perm (cq 3):=by decide
theorem D6:∀p∈Cd,p.Perm (cq 4):=by decide
theorem Sm{uss:BB}(h:uss.length=3):dP uss∈Ad/\(dP uss).Perm (cq 3)/\(dH uss).Pairwise pJ:=by
 match uss,h with
 |[u0,u1,u2],_=>
  have hb:∀i j,i<3->j<3->Pe (HT.lexLt u0 u1) (HT.lexLt u0 u2) (HT.lexLt u1 u0) (HT.lexLt u1 u2) (HT.lexLt u2 u0) (HT.lexLt u2 u1) i j=HT.lexLt (([u0,u1,u2]:BB).getD i []) (([u0,u1,u2]:BB).getD j []):=λi j hi hj=>by
   match i,j,hi,hj with
   |0,0,_,_=>exact(lA u0).symm
   |0,1,_,_=>rfl
   |0,2,_,_=>rfl
   |1,0,_,_=>rfl
   |1,1,_,_=>exact(lA u1).symm
   |1,2,_,_=>rfl
   |2,0,_,_=>rfl
   |2,1,_,_=>rfl
   |2,2,_,_=>exact(lA u2).symm
  exact Hj rfl Qq hb (acq _ _ _ _ _ _ (Ro hb)) Yz
theorem Ll{uss:BB}(h:uss.length=4):dP uss∈Cd/\(dP uss).Perm (cq 4)/\(dH uss).Pairwise pJ:=by
 match uss,h with
 |[u0,u1,u2,u3],_=>
  have hb:∀i j,i<4->j<4->Se (HT.lexLt u0 u1) (HT.lexLt u0 u2) (HT.lexLt u0 u3) (HT.lexLt u1 u0) (HT.lexLt u1 u2) (HT.lexLt u1 u3) (HT.lexLt u2 u0) (HT.lexLt u2 u1) (HT.lexLt u2 u3) (HT.lexLt u3 u0) (HT.lexLt u3 u1) (HT.lexLt u3 u2) i j=HT.lexLt (([u0,u1,u2,u3]:BB).getD i []) (([u0,u1,u2,u3]:BB).getD j []):=λi j hi hj=>by
   match i,j,hi,hj with
   |0,0,_,_=>exact(lA u0).symm
   |0,1,_,_=>rfl
   |0,2,_,_=>rfl
   |0,3,_,_=>rfl
   |1,0,_,_=>rfl
   |1,1,_,_=>exact(lA u1).symm
   |1,2,_,_=>rfl
   |1,3,_,_=>rfl
   |2,0,_,_=>rfl
   |2,1,_,_=>rfl
   |2,2,_,_=>exact(lA u2).symm
   |2,3,_,_=>rfl
   |3,0,_,_=>rfl
   |3,1,_,_=>rfl
   |3,2,_,_=>rfl
   |3,3,_,_=>exact(lA u3).symm
  exact Hj rfl Nq hb (acm _ _ _ _ _ _ _ _ _ _ _ _ (Ro hb)) D6
theorem lY{uss:BB}(h:uss.length=3\/uss.length=4):(dH uss).Perm uss/\(dH uss).Pairwise pJ:=by
 have key:∀n,uss.length=n->(dP uss).Perm (cq n)->(dH uss).Perm uss:=λn hn hp=>by
  have e:(cq n).map (λi=>uss.getD i [])=uss:=by
   refine q9 (by simp[hn]) λi h1 h2=>?_;have hi:i<uss.length:=h2;simp[de,hi]
  have:=hp.map (λi=>uss.getD i []);rw[e]at this;exact this
 rcases h with h |h
 .obtain⟨_,hp,hs⟩:=Sm h
  exact⟨key 3 h hp,hs⟩
 .obtain⟨_,hp,hs⟩:=Ll h
  exact⟨key 4 h hp,hs⟩
theorem Jt{A B:BB}(hp:A.Perm B)(ha:A.Pairwise pJ)(hb:B.Pairwise pJ):A=B:=
 hp.eq_of_pairwise (λu v _ _ h g=>B8 g h) ha hb
theorem Mt{A B:BB}(hp:A.Perm B)(h:B.length=3\/B.length=4):dH A=dH B:=by
 obtain⟨p1,s1⟩:=lY (uss:=A) (by rw[hp.length_eq];exact h);obtain⟨p2,s2⟩:=lY h;exact Jt (p1.trans (hp.trans p2.symm)) s1 s2
end
open PySem PySem.Spec PyProof.Rows Bn
section
variable{M:gh}{A:aq}{E:Value->aa->Prop}{s:aa}
end
section
variable{X:Cx}{sc:Scope}{own:List Str}{cap:List (Nat×Str)}{BM:List (Addr×Obj)}{σ:St}{H:Hp}{s:aa}{elt target iter:af}{pos pos':ah}{wi:TI}{g:TG}{te:TE}{Q:VK}
end
end L2
namespace L2.Pp
open PySem PySem.Spec PyProof.Rows Bn
section
variable{K:ae}{cl:Str->Addr}{E:XK}{X:Cx}{p q:Ph}{H H':Hp}{S:aQ}
variable{sc:Scope}{own:List Str}{cap:List (Nat×Str)}{elt target iter:af}{pos:ah}{mi:MI}{g:GM}{me:ME}
end
section
variable{K:ae}{cl:Str->Addr}{E:XK}{X:Cx}{a e:af}{m:ME}{ms:MA}{pos:ah}{p q:Ph}{H H':Hp}{S:aQ}
def Ir(k:Nat)(ys:BK)(S:aQ):bT AV:=match(fS S ys).bind oS,S[k]? with
 |some (.lst vs),some (.lol xss)=>if xss.length<16777216 then .ok (.pv .non) (S.set k (.lol (xss++[vs])))else .fail
 |_,_=>.fail
def Xp(m:ME)(ms:MA):ME:=λρ S=>(m ρ S).bind λk S1=>fZ k S1 λk=>(ms ρ S1).bind λys S2=>Ir k ys S2
end
section
variable{P:Program}{w:ao}{K:ae}{mg:Str->BE}{base:Heap}{cl:Str->Addr}
end
def Je(P:Program)(w:ao)(K:ae)(mg:Str->BE)(base:Heap)(cl:Str->Addr)(x:Str)(k:Nat)(ps:List Str)(g:FM):Prop:=∃(a:Addr)(d:bi),dR P w K mg base gR k a d ps (lI K cl g)/\gO K d ps []/\dl K (.ref a)=true/\mg x=some (.ref a)
section
variable{cl:Str->Addr}{E:XK}{X:Cx}{e:af}{es:List af}{ms:MA}{pos p:ah}{k k0:Nat}{ps:List Str}{g:FM}{x:Str}
theorem aaW(C:Je X.prog X.w X.K X.mg X.base cl x k ps g)(hr:dE k0 X.A)(hk:k<=k0)(hg:Gl X x)(ha:eC X.K cl E X (e::es) ms)(hdb:(x==("__debug__":Str))=false:=by decide)(he:starEach (e::es) X.env=(false,eval e X.env)::starEach es X.env:=by rfl)(hpl:(backTo pos (starEach es X.env)).any (·.1)=false:=by rfl):
  aX X.K cl E X (.Call (.Name x p) (e::es) [] pos) (bD g [] ms):=by
 obtain⟨a,d,G,b,kk,n⟩:=C;exact B3 G (hr.mono hk) hg n kk b .nil Dv.nil ha hdb he hpl
theorem abQ(C:Je X.prog X.w X.K X.mg X.base cl x k ps g)(hr:dE k0 X.A)(hk:k<=k0)(hg:Gl X x)(ha:eC X.K cl E X (e::es) ms)(hdb:(x==("__debug__":Str))=false:=by decide)(he:starEach (e::es) X.env=(false,eval e X.env)::starEach es X.env:=by rfl)(hpl:(backTo pos (starEach es X.env)).any (·.1)=false:=by rfl):
  aX X.K cl E X (.Call (.Name x p) (e::es) [] pos) (qJ g [] ms):=by
 obtain⟨a,d,G,b,kk,n⟩:=C;exact My G (hr.mono hk) hg n kk b .nil Dv.nil ha hdb he hpl
end
section
variable{X:Cx}
end
section
variable{K:ae}{cl:Str->Addr}{E:XK}{X:Cx}{e:af}{m:ME}{pos:ah}
end
section
variable{K:ae}{cl:Str->Addr}{E:XK}{X:Cx}
variable{a e:af}{m:ME}{ms:MA}{pos:ah}
def lJ:PV->BI
 |.non=>some (.bl false)
 |_=>some (.bl true)
theorem J9{σ:St}{H:Hp}{Q:VK}(z:tP X.K cl E (cJ X.K) (bX lJ m) σ H Q):Bq (tP X.K cl E (cJ X.K) m) σ H Q:=by
 obtain⟨p,S,ρ,s,ev,h⟩:=z;refine cG s ev h λq H' as x S' stp sm ev r k=>?_;refine sG (r:=λx H Q=>Q (.bl (!decide (x=.non))) H) (f:=lJ) (λ{p S H a c x Q} s ra e k=>?_) sm r k;have z:c=.bl (!decide (x=.non)):=by
  cases a with
  |non=>cases ra.non;cases e;rfl
  |int i=>cases ra.int;cases e;rfl
  |bl i=>cases ra.bl;cases e;rfl
  |str i=>cases ra.str;cases e;rfl
  |tup xs=>obtain⟨a,vs,rfl,_⟩:=ra.tup;cases e;rfl
  |lst xs=>obtain⟨a,vs,rfl,_⟩:=ra.lst;cases e;rfl
 subst z;exact k H _ (cM.refl H) (by unfold bC;rfl)
theorem aaM{j pos'}(ha:aX K cl E X a m):eJ K cl E X (.Compare a [.IsNot] [.Constant .none j pos'] pos) (aZ (bX lJ m)):=by
 intro hK;subst hK;refine(Sn (K3 (ha rfl))).imp ?_
 rintro σ H Q ⟨p,S,ρ,s,e,h⟩
 have z:tP X.K cl E (cJ X.K) (bX lJ m) σ H λx H'=>∃k,x=.bl k/\Q k H':=cG s e h λq H1 a x S1 st s1 e1 r1 h1=>vO s1 r1 h1;exact J9 z
end
section
variable{K:ae}{cl:Str->Addr}{E:XK}{X:Cx}
end
section
variable{K:ae}{cl:Str->Addr}{E:XK}{X:Cx}
def kU(K:ae)(mg:Str->BE)(x:Str)(pv:PV):Prop:=∃(u:Value)(v:V),mg x=some u/\cD v u/\∀c H,bC K c H pv v
theorem Jm{x:Str}{pv:PV}{pos:ah}(hg:Gl X x)(hm:kU K X.mg x pv)(hd:(x==("__debug__":Str))=false:=by decide):aX K cl E X (.Name x pos) (mC pv):=λ_=>by
 obtain⟨u,v,hm,r,hr⟩:=hm;exact(vZ hg hm r hd).imp λσ H Q ⟨p,S,ρ,s,e,h⟩=>cH.ret (R:=cJ K) (x:=v) h s (hr p.c H)
theorem L8{i:Int}:∀c H,bC K c H (.int i) (.int i):=λc H=>by
 unfold bC;rfl
end
section
variable{K:ae}{cl:Str->Addr}{E:XK}{X:Cx}
end
section
variable{K:ae}{cl:Str->Addr}{E:XK}{X:Cx}
variable{a e:af}{m:ME}{ms:MA}{pos:ah}
end
section
variable{M:gh}{A:aq}{E:Value->aa->Prop}{s:aa}{env:bc}
def Ta(M:gh)(A:aq)(E:Value->aa->Prop)(Q:Value->aa->Prop)(acc:Value)(c:bc):mf->aa->Prop
 |.ok _,s'=>∃m,s'.heap.Ns c.locals m/\∀h',gi c.locals s'.heap h'->Q acc {s' with heap:=h'}
 |.error x,s'=>∃m,s'.heap.Ns c.locals m/\∀h',gi c.locals s'.heap h'->wpAny M A (ue "comprehension.variables-let-go" x c:dn Value) (λ_ _=>False) E {s' with heap:=h'}
theorem Ry{e:af}{sc:Scope}{pos:ah}{newAcc first:dn Value}{g:uf}{gs:List uf}{cl:List (Str×Addr)}{Q:Value->aa->Prop}
  (hc:clausesOf e=g::gs)(hs:∀x,foldedSetIterable g.iter env x=pure x)(hcl:closureFor sc env=pure cl)(hk:sc.kind=.function)(hn:∀x∈sc.names,x.2=.local->sc.names.lookup x.1=some .local)
  (h:wpAny M A first (λx s1=>wpAny M A (pyIter x) (λit s2=>wpAny M A newAcc (λacc s3=>wpAny M A (newFunctionEnv sc env.globals cl [] env.qual none .none (some env)) (λc s4=>
    codeAny M A (.compStart e 0 it acc {c with scope:=relabel sc env}) (Ta M A E Q acc {c with scope:=relabel sc env}) s4) E s3) E s2) E s1) E s):
  wpAny M A (comprehension e sc env pos newAcc false first none) Q E s:=by
 unfold comprehension;rw[hcl,hc];refine ag (bI h λx s1 h1=>ag (ki (ag (ya (hs x) (ag (fe (bI h1 λit s2 h2=>?_)))))));refine wpAny_standIf (ag (bI h2 λacc s3 h3=>ag (au (ag (bI h3 λc s4 h4=>?_)))));dsimp only;have loc:∀x∈(sc.names.filter λx=>(x.2== .local||x.2== .cell)&&x.1 !=(".0":Str)).reverse,x.2=.local->yn {c with scope:=relabel sc env} x.1=some .local:=λx hx hl=>
  r6 (hn x (qy.mp (r8.mp hx)).1 hl)
 refine fe (ag (qm (fe (wpAny_run (mj h4 λr s' hr=>?_)))));cases r with
 |ok f=>
  obtain⟨m,hm,hr⟩:=hr;exact ag (fe (ug (cenv:={c with scope:=relabel sc env}) hk _ s' m loc hm λh' _ _ sb=>au (hr h' sb)))
 |error x=>
  obtain⟨m,hm,hr⟩:=hr;exact ag (fe (ug (cenv:={c with scope:=relabel sc env}) hk _ s' m loc hm λh' _ _ sb=>dh (hr h' sb) (λ_ _ z=>z.elim) λ_ _ y=>y))
end
section
variable{prog:Program}{w:ao}{A:aq}{R:mf->aa->Prop}{s:aa}
theorem Pm{elt target iter:af}{sc:Scope}{pos:ah}{it acc:Value}{env:bc}(I:Nat->aa->Prop)
  (turn:∀n s,I n s->wpAny (model prog w) A (pyNext it) (λr s1=>match r with
   |none=>R (.ok .next) s1
   |some v=>wpAny (model prog w) A (letOwnedTupleGo target it v) (λ_ s2=>wpAny (model prog w) A (assign target env v) (λ_ s3=>wpAny (model prog w) A (eval elt env)
     (λx s4=>wpAny (model prog w) A (call (.builtin "list.append") [acc,x]) (λ_ s5=>∃m,m<n/\I m s5) (λ_ _=>False) s4) (notedBy (model prog w) A env λx s'=>R (.error x) s') s3) (λ_ _=>False) s2) (λ_ _=>False) s1) (λ_ _=>False) s)
  (n:Nat)(h:I n s):codeAny (model prog w) A (.compLoop (.ListComp elt [⟨target,iter,[],0⟩] sc pos) 0 it acc env) R s:=by
 refine codeAny_loop rfl I (λn s hI=>?_) n h;show wpAny _ _ ((compTurn (.ListComp elt [⟨target,iter,[],0⟩] sc pos) 0 it acc env).onRaise (λx=>do noteFrame x env;theTreesLotGoes x)) _ _ s;refine wpAny_noted ?_;rw[compTurn_list1];refine ag (ki (ag ?_));refine dh (turn n s hI) (λr s1 h1=>?_) λ_ _ z=>z.elim;cases r with
 |none=>exact au h1
 |some v=>
  refine ag (dh h1 (λ_ s2 h2=>?_) λ_ _ z=>z.elim);refine ag (dh h2 (λ_ s3 h3=>?_) λ_ _ z=>z.elim);refine ag (ag (dh h3 (λx s4 h4=>?_) λ_ _ z=>z));refine ag (dh h4 (λ_ s5 h5=>?_) λ_ _ z=>z.elim);exact au (au ⟨rfl,h5⟩)
end
def kK(B:Heap)(C:Addr):Heap:={B with objs:=B.objs.setIfInBounds C ⟨.none,none,.freed,#[]⟩}
theorem Sg{B:Heap}{C:Addr}:(kK B C).get? C=none:=by
 unfold kK Heap.get?;dsimp only
 by_cases h:C<B.objs.size
 .rw[Array.getElem?_setIfInBounds_self_of_lt h]
 .rw[t5 (by rw[Array.size_setIfInBounds];exact d9 h)]
theorem vB{B:Heap}{C b:Addr}(h:b≠C):(kK B C).get? b=B.get? b:=by
 unfold kK Heap.get?;dsimp only;rw[Array.getElem?_setIfInBounds_ne (iw h)]
theorem zL{B:Heap}{C b:Addr}(h:B.get? b=none):(kK B C).get? b=none:=by
 by_cases z:b=C
 .rw[z];exact Sg
 .rw[vB z];exact h
theorem Ru{B:Heap}{C b:Addr}{o:Obj}(h:(kK B C).get? b=some o):b≠C/\B.get? b=some o:=by
 by_cases z:b=C
 .rw[z,Sg]at h;cases h
 .rw[vB z]at h;exact⟨z,h⟩
theorem Xx{B h h':Heap}{l:List bc}{e L C:Addr}{cls a0:Value}(hC:∃o,B.get? C=some o)(hh:uh B l e cls a0 L h)(sb:gi C h h'):uh (kK B C) l e cls a0 L h':=by
 obtain⟨oC,hC⟩:=hC;have ne:∀{b},B.get? b=none->b≠C:=λ{b} hb z=>by
  rw[z,hC]at hb;cases hb
 obtain⟨k1,k2,k3,k4⟩:=hh;refine⟨λb o hb=>?_,zL k2,?_,?_⟩
 .obtain⟨z,hb⟩:=Ru hb
  rw[sb.2 b z];exact k1 b o hb
 .clear k4
  induction l with
  |nil=>trivial
  |cons env dM ih=>
   obtain⟨a,⟨L0,o,hf,hn,ho,hd⟩,hr⟩:=k3;exact⟨a,⟨L0,o,hf,zL hn,(sb.2 L0 (ne hn)).trans ho,hd⟩,ih hr⟩
 .obtain⟨oe,vs,T,oT,ts,he,hcls,hd,h1,hnT,hTe,hT,hdT,h3⟩:=k4
  exact⟨oe,vs,T,oT,ts,(sb.2 e (ne k2)).trans he,hcls,hd,h1,zL hnT,hTe,(sb.2 T (ne hnT)).trans hT,hdT,h3⟩
theorem Kx{e:Value}{c env:bc}(h:c.frame=env.frame):noteFrame e c=noteFrame e env:=by
 unfold noteFrame PySem.frameOf;rw[h]
theorem Rx{M:gh}{A:aq}{E:Value->aa->Prop}{s:aa}{α:Type}{Q:α->aa->Prop}{B:Heap}{l:List bc}{e L:Addr}{cls a0:Value}{c:bc}{what:String}(hf:c.frame=some L)(hh:uh B l e cls a0 L s.heap)
  (h:∀h',uh B l e cls a0 L h'->(∀b o,s.heap.get? b=some o->(∀vs,o.data≠.fields vs)->h'.get? b=some o)->E (.ref e) {s with heap:=h'}):wpAny M A (ue what (.ref e) c:dn α) Q E s:=by
 obtain⟨k1,k2,k3,oe,vs,T,oT,ts,he,hcls,hd,h1,hnT,hTe,hT,hdT,h3⟩:=hh;have hsz3:3<ts.size:=(t6.mp h3).1;have other:∀b,b≠T->(s.heap.update T (Obj.mapFields (·.setIfInBounds 3 (rawInt L)))).get? b=s.heap.get? b:=λb hb=>xf _ _ (iw hb);have noRec:∀b o,s.heap.get? b=some o->(∀vs,o.data≠.fields vs)->b≠T:=λb o hb hnf q=>by
  rw[q,hT]at hb;injection hb with hb;subst hb;exact hnf ts hdT
 unfold ue;refine ag (fg he hd h1 ?_);rw[if_neg (show ¬((dw T==cw)=true) from by simp)];refine ag ?_;unfold setFlight;rw[hf];refine ag (fg he hd h1 ?_);rw[if_pos (show(dw T !=cw)=true from by simp)];refine td hT hdT hsz3 (wpAny_throw (h _ ⟨λb o hbo=>(other b λq=>by rw[q,hnT]at hbo;cases hbo).trans (k1 b o hbo),k2,k3.of_keeps λb o hb hnf=>⟨o,(other b (noRec b o hb hnf)).trans hb,rfl⟩,?_⟩ λb o hb hnf=>(other b (noRec b o hb hnf)).trans hb));exact⟨oe,vs,T,_,_,(other e (iw hTe)).trans he,hcls,hd,h1,hnT,hTe,xc _ hT (i9 (tf hdT _)),tf hdT _,by simp[hsz3]⟩
end L2.Pp
namespace L2
open PySem PySem.Spec PyProof.Rows Bn
section
variable{X:Cx}{BM:List (Addr×Obj)}{σ:St}{H H':Hp}{s s':aa}
theorem aO.flownC{B h5:Heap}{C:Addr}(I:aO X BM σ H s)(hC:fG X BM H C)(os:s'.os=s.os)(bare:ig s'.gens)(un:Un (cQ X.stack) [] H H' s.heap s'.heap)(hok:eU X.prog X.w H' s'.heap)
  (cov:∀b o,s'.heap.get? b=some o->(∃u,H' b=some u)\/(∃o',s.heap.get? b=some o'/\b∉cQ X.stack)->b≠C->B.get? b=some o)(fr:∀b∈cQ X.stack,H' b=none)(hn:H' C=none)
  (st:B.StaysIn h5)(up:∀b o,b≠C->s'.heap.get? b=some o->(∀vs,o.data≠.fields vs)->∃sl,h5.get? b=some {o with slots:=sl}):aO X BM σ H' {s' with heap:=h5}:=by
 have one:∀{b},b∉[C]->b≠C:=λ{b} h z=>h (by rw[z];exact ui.mpr rfl);have frame:∀b∈cQ X.stack,b≠C->∃o sl,s.heap.get? b=some o/\H b=none/\h5.get? b=some {o with slots:=sl}:=λb hb hx=>by
  obtain⟨_,o,ho,hd⟩:=I.stack.mem hb;have hn:=I.stkFree b hb;obtain⟨sl,g⟩:=un.slot b o ho hn hb (by intro z;cases z);obtain⟨sl',g'⟩:=up b _ hx g hd;exact⟨o,sl',ho,hn,g'⟩
 refine I.call' (s':={s' with heap:=h5}) (ch:=[C]) os ⟨λb o q n hb hx=>?_,λb o q n hb hx=>?_,λb o q n _=>un.free b o q n (by intro z;cases z),λb o q hx=>?_,un.tups,un.frzs,un.tbls⟩ (λb u q=>?_) bare λb z=>?_
 .exact st b o (cov b o (un.keep b o q n hb (by intro z;cases z)) (.inr ⟨o,q,hb⟩) (one hx))
 .obtain⟨o',sl,g1,_,g2⟩:=frame b hb (one hx)
  rw[q]at g1;cases g1;exact⟨sl,g2⟩
 .by_cases c:b∈cQ X.stack
  .obtain⟨o',sl,_,_,g2⟩:=frame b c (one hx)
   exact⟨_,g2⟩
  .obtain⟨o',g⟩:=un.there b o q (by intro z;cases z)
   exact⟨o',st b o' (cov b o' g (.inr ⟨o,q,c⟩) (one hx))⟩
 .refine(hok b u q).stay (λc v hc g=>?_) (λ_ g=>g) λ_ _ g=>g
  have nc:∀{y},H' c=some y->c≠C:=λ{y} e z=>by
   rw[z,hn]at e;cases e
  rcases hc with z |z
  .have q':H' c=some u:=by rw[z];exact q
   exact st c v (cov c v g (.inl ⟨u,q'⟩) (nc q'))
  .exact st c v (cov c v g (.inl ⟨_,z⟩) (nc z))
 .have z:b=C:=ui.mp z
  subst z;obtain⟨_,f1,_,f3,f4,f5⟩:=hC;exact⟨f3,f1,f4,f5⟩
end
open L2.Pp
section
variable{P:Program}{w:ao}{K:ae}{mg:Str->BE}{base:Heap}{N:List Str}{qual:Str}{scope:Scope}{f:Addr}{cd:Value}{A:aq}{outer:List bc}{BN:aa}{BO:Hp}{E:XK}
theorem Aq{BM:List (Addr×Obj)}{σ:St}{H2 H3:Hp}{s2 s3:aa}{sc:Scope}{Nb:List Str}{C:Addr}{fp:List Addr}{Qf:Value->aa->Prop}{acc:Value}
  (I2:aO (aW (aV P w) P w K mg base N qual scope f cd A outer BN BO E) BM σ H2 s2)(f2:∀b∈fp,fG (aW (aV P w) P w K mg base N qual scope f cd A outer BN BO E) BM H2 b)(un:Un (cQ (aW (aV P w) P w K mg base N qual scope f cd A outer BN BO E).stack) fp H2 H3 s2.heap s3.heap)(os3:s3.os=s2.os)
  (hF:∀H:Hp,H C=none->fG (aW (aV P w) P w K mg base N qual scope f cd A outer BN BO E) BM H C)(hCf:C∉cQ (aW (aV P w) P w K mg base N qual scope f cd A outer BN BO E).stack)(hC0:∀o,BN.heap.get? C≠some o):
  jP (aV P w) ((cX (aW (aV P w) P w K mg base N qual scope f cd A outer BN BO E) sc Nb C s3 H3 fp).wish (notedBy (model P w) (aW (aV P w) P w K mg base N qual scope f cd A outer BN BO E).A (cX (aW (aV P w) P w K mg base N qual scope f cd A outer BN BO E) sc Nb C s3 H3 fp).env λx s''=>Ta (model P w) (aW (aV P w) P w K mg base N qual scope f cd A outer BN BO E).A (aW (aV P w) P w K mg base N qual scope f cd A outer BN BO E).xe Qf acc (cX (aW (aV P w) P w K mg base N qual scope f cd A outer BN BO E) sc Nb C s3 H3 fp).env (.error x) s'')) E:=by
 intro pl σ' H s e s' I c;have J:=I.unwish;obtain⟨x,Cl,t,B,H',rfl,os,bare,un',hok,fl,cov,hE⟩:=c;have fr:∀b∈cQ (aW (aV P w) P w K mg base N qual scope f cd A outer BN BO E).stack,H' b=none:=λb hb=>by
  obtain⟨_,o,ho,hd⟩:=J.stack.mem hb;exact un'.free b o ho (J.stkFree b hb) (by intro z;cases z)
 have IX:=I2.uncmp f2 un os3 J;show wpAny _ _ (noteFrame (.ref x) _) _ _ s';rw[Kx (c:=(cX (aW (aV P w) P w K mg base N qual scope f cd A outer BN BO E) sc Nb C s3 H3 fp).env) (env:=(aW (aV P w) P w K mg base N qual scope f cd A outer BN BO E).env) rfl];refine wpAny_looks_onW IX.ok.frames rfl fl λh1 held up=>?_;have J5:=J.flown os bare un' hok cov fr held.1 up;obtain⟨m,hn,_⟩:=id J5.loc;refine⟨m,hn,λh2 sb=>?_⟩;obtain⟨mC,hnC,_⟩:=id J.loc;obtain⟨oC,_,_,hoC,_⟩:=hnC;obtain⟨oC',gC⟩:=un'.there C oC hoC (by intro z;cases z);have hCB:∃o,B.get? C=some o:=⟨oC',cov C oC' gC (.inr ⟨oC,hoC,hCf⟩)⟩;have held2:=Xx hCB held sb;have hHC:H C=none:=J.free;have hnC':H' C=none:=un'.free C oC hoC hHC (by intro z;cases z);refine Rx rfl held2 λh3 held3 keep=>?_;show wpAny _ _ (leaving _ (.ref x)) _ _ _;unfold leaving;refine ag (wpAny_noteFrame_againW rfl held3.2.2.2 ?_);refine wpAny_landsW held3 λh4 fl4 up4=>?_;have I4:=IX.flownC (s':=s') (B:=kK B C) (h5:=h4) (hF H hHC) os bare un' hok (λb o g d hb=>by rw[vB hb];exact cov b o g d) fr hnC' fl4.1 (λb o hb g hnf=>by
  obtain⟨sl,g1⟩:=up b o g hnf;have g2:=(sb.2 b hb).trans g1;have g3:=keep b _ g2 hnf;obtain⟨sl',g4⟩:=up4 b _ g3 hnf;exact⟨sl',g4⟩)
 have nL:∀{b o},BN.heap.get? b=some o->b∉cQ outer->b∉cQ (envOfC qual scope BN.heap.objs.size f cd::outer):=λ{b o} q z y=>by
  rcases ce.mp (IX.stkSub b y)with g |g
  .exact absurd (cj (ax q) IX.ok.above) (by rw[g];exact gf _)
  .exact z g
 obtain⟨k1,k2,⟨_,_,k3⟩,k4⟩:=fl4;refine⟨x,Cl,t,kK B C,H',rfl,os.trans IX.os,bare,I4.base,I4.hok,⟨k1,k2,k3,k4⟩,λb o q z=>?_,hE⟩;have go:∀{o2},B.get? b=some o2->b≠C->(kK B C).get? b=some o:=λ{o2} g hb=>by
  have g':(kK B C).get? b=some o2:=by rw[vB hb];exact g
  have:=k1 b o2 g';have q':h4.get? b=some o:=q;rw[q']at this;cases this;exact g'
 rcases z with⟨u,z⟩|⟨o',z,nz⟩
 .obtain⟨o2,g⟩:=(hok b u z).has
  exact go (cov b o2 g (.inl ⟨u,z⟩)) λy=>by rw[y,hnC']at z;cases z
 .obtain⟨o2,g⟩:=IX.base.there b o' z (by intro z;cases z)
  obtain⟨o3,g3⟩:=un'.there b o2 g (by intro z;cases z);exact go (cov b o3 g3 (.inr ⟨o2,g,nL z nz⟩)) λy=>hC0 o' (by rw[<-y];exact z)
end
section
variable{P:Program}{w:ao}{K:ae}{mg:Str->BE}{base:Heap}{N:List Str}{qual:Str}{scope:Scope}{f:Addr}{cd:Value}{A:aq}{outer:List bc}{BN:aa}{BO:Hp}{E:XK}
variable{sc:Scope}{own:List Str}{cap:List (Nat×Str)}{BM:List (Addr×Obj)}{σ:St}{H:Hp}{s:aa}{elt target iter:af}{pos pos':ah}{wi:TI}{g:TG}{te:TE}{Q:VK}
theorem Tv{Qf:Value->aa->Prop}(k:iC (aW (aV P w) P w K mg base N qual scope f cd A outer BN BO E) sc own cap)(hi:PI (aW (aV P w) P w K mg base N qual scope f cd A outer BN BO E) target iter wi)(hc:(aW (aV P w) P w K mg base N qual scope f cd A outer BN BO E).calm=true)
  (hg:∀C BP H₁ ex,PG (cX (aW (aV P w) P w K mg base N qual scope f cd A outer BN BO E) sc (cY own cap) C BP H₁ ex) target g)(he:∀C BP H₁ ex E',jP (aV P w) ((cX (aW (aV P w) P w K mg base N qual scope f cd A outer BN BO E) sc (cY own cap) C BP H₁ ex).wish E') E->PE ((cX (aW (aV P w) P w K mg base N qual scope f cd A outer BN BO E) sc (cY own cap) C BP H₁ ex).wish E') elt te)(I:aO (aW (aV P w) P w K mg base N qual scope f cd A outer BN BO E) BM σ H s)(h:pD own cap wi g te σ H Q)
  (fin:∀D C s' H' m,aO (aW (aV P w) P w K mg base N qual scope f cd A outer BN BO E) BM σ H' s'->fG (aW (aV P w) P w K mg base N qual scope f cd A outer BN BO E) BM H' C->s'.heap.Ns C m->Q (.ref D) H'->∃m,s'.heap.Ns C m/\∀h',gi C s'.heap h'->Qf (.ref D) {s' with heap:=h'})
  (hs:∀x,foldedSetIterable iter (aW (aV P w) P w K mg base N qual scope f cd A outer BN BO E).env x=pure x):
  wpAny (model (aW (aV P w) P w K mg base N qual scope f cd A outer BN BO E).prog (aW (aV P w) P w K mg base N qual scope f cd A outer BN BO E).w) (aW (aV P w) P w K mg base N qual scope f cd A outer BN BO E).A (comprehension (.ListComp elt [⟨target,iter,[],0⟩] sc pos) sc (aW (aV P w) P w K mg base N qual scope f cd A outer BN BO E).env pos' (newList []) false (eval iter (aW (aV P w) P w K mg base N qual scope f cd A outer BN BO E).env) none) Qf (aW (aV P w) P w K mg base N qual scope f cd A outer BN BO E).xe s:=by
 refine Ry rfl hs (Sb (k.has I.ok)) k.kind k.names ?_;refine bI (hi BM s σ H _ I h) λv s1 h1=>bI h1 λitv s2 h2=>?_;obtain⟨it,fp,tn,J,H2,e,I2,T,st2,f2,hW⟩:=h2;subst e;refine jh (xy k.nocell (λy hy=>nomatch hy) (λh4 hns hsb=>?_) k.kind);have I3:aO (aW (aV P w) P w K mg base N qual scope f cd A outer BN BO E) BM σ (bJ H2 s2.heap.objs.size (.lst [])) {s2 with heap:=s2.heap.push {cls:=.type "list",data:=.seq ([]:BD).toArray},toks:=s2.toks}:=I2.lnew (ys:=[]) (its:=[]) .nil (io _);have hD:H2 s2.heap.objs.size=none:=I2.fresh;have ltf:∀b∈fp,b<s2.heap.objs.size:=λb hb=>by
  obtain⟨o,ho,_⟩:=T.obj _ _ st2 b hb;exact ax ho
 have f3:∀b∈fp,fG (aW (aV P w) P w K mg base N qual scope f cd A outer BN BO E) BM (bJ H2 s2.heap.objs.size (.lst [])) b:=λb hb=>⟨by rw[dA (db (ltf b hb))];exact(f2 b hb).1,(f2 b hb).2⟩;have un:Un (cQ (aW (aV P w) P w K mg base N qual scope f cd A outer BN BO E).stack) fp H2 (bJ H2 s2.heap.objs.size (.lst [])) s2.heap (s2.heap.push {cls:=.type "list",data:=.seq ([]:BD).toArray}):=Un.laid (λb u q=>aw _ q) (am _) hD;have kp:∀b o,(s2.heap.push {cls:=.type "list",data:=.seq ([]:BD).toArray}).get? b=some o->h4.get? b=some o:=λb o q=>hsb.extBut b o (db (ax q)) (aw _ q);have J0:=I3.cmp (t':=s2.toks+([]:List (Str×Value)).length) k f3 (λb hb=>cj (ltf b hb) (by rw[ku];exact qe _)) hns kp;have stat:∀{H':Hp},(∀b∈fp,H' b=none)->∀b∈fp,fG (cX (aW (aV P w) P w K mg base N qual scope f cd A outer BN BO E) sc (cY own cap) (s2.heap.push {cls:=.type "list",data:=.seq ([]:BD).toArray}).objs.size {s2 with heap:=s2.heap.push {cls:=.type "list",data:=.seq ([]:BD).toArray},toks:=s2.toks} (bJ H2 s2.heap.objs.size (.lst [])) fp) [] H' b:=λhn b hb=>
  ⟨hn b hb,(J0.ok.exf b hb).1,J0.ok.exfs b hb,.inl hb,(J0.ok.exf b hb).2,λp hp=>absurd (show p∈([]:List (Addr×Obj)) from hp) (by simp)⟩
 have st4:tn 0 h4:=T.keep _ _ _ st2 λb hb o q=>kp b o (aw _ q);have fr0:∀b∈fp,(bJ H2 s2.heap.objs.size (.lst [])) b=none:=λb hb=>(f3 b hb).1;have hCf:(s2.heap.push {cls:=.type "list",data:=.seq ([]:BD).toArray}).objs.size∉cQ (aW (aV P w) P w K mg base N qual scope f cd A outer BN BO E).stack:=λhb=>by
  obtain⟨_,o,ho,hd⟩:=I3.stack.mem hb;exact gf _ (ax ho)
 have hC0:∀o,BN.heap.get? (s2.heap.push {cls:=.type "list",data:=.seq ([]:BD).toArray}).objs.size≠some o:=λo ho=>by
  obtain⟨m,⟨oL,_,_,hoL,_⟩,_⟩:=id I3.loc;exact gf _ (xx (cj (ax ho) I3.ok.above) (ax hoL))
 have loop:codeAny (model (aW (aV P w) P w K mg base N qual scope f cd A outer BN BO E).prog (aW (aV P w) P w K mg base N qual scope f cd A outer BN BO E).w) (aW (aV P w) P w K mg base N qual scope f cd A outer BN BO E).A (.compLoop (.ListComp elt [⟨target,iter,[],0⟩] sc pos) 0 (.ref it) (.ref s2.heap.objs.size) (compEnvC sc (iO (aW (aV P w) P w K mg base N qual scope f cd A outer BN BO E).env sc.names []) (s2.heap.push {cls:=.type "list",data:=.seq ([]:BD).toArray}).objs.size (aW (aV P w) P w K mg base N qual scope f cd A outer BN BO E).env))
   (Ta (model (aW (aV P w) P w K mg base N qual scope f cd A outer BN BO E).prog (aW (aV P w) P w K mg base N qual scope f cd A outer BN BO E).w) (aW (aV P w) P w K mg base N qual scope f cd A outer BN BO E).A (aW (aV P w) P w K mg base N qual scope f cd A outer BN BO E).xe Qf (.ref s2.heap.objs.size) (compEnvC sc (iO (aW (aV P w) P w K mg base N qual scope f cd A outer BN BO E).env sc.names []) (s2.heap.push {cls:=.type "list",data:=.seq ([]:BD).toArray}).objs.size (aW (aV P w) P w K mg base N qual scope f cd A outer BN BO E).env)) {s2 with heap:=h4,toks:=s2.toks+([]:List (Str×Value)).length}:=by
  obtain⟨W,⟨m0,w0⟩,turn⟩:=hW s2.heap.objs.size hD;refine Pm (λn s'=>∃i σ' H' ys,aO (cX (aW (aV P w) P w K mg base N qual scope f cd A outer BN BO E) sc (cY own cap) (s2.heap.push {cls:=.type "list",data:=.seq ([]:BD).toArray}).objs.size {s2 with heap:=s2.heap.push {cls:=.type "list",data:=.seq ([]:BD).toArray},toks:=s2.toks} (bJ H2 s2.heap.objs.size (.lst [])) fp) [] σ' H' s'/\tn i s'.heap/\(∀b∈fp,H' b=none)/\W i n σ' H' ys) ?_ m0
   ⟨0,_,_,[],J0,st4,fr0,w0⟩
  rintro n s5 ⟨i,σ5,H5,ys,I5,st5,fr5,w5⟩
  obtain⟨hD5,w5⟩:=turn i n σ5 H5 ys w5;rcases w5 with⟨stop,qn⟩|⟨go,hlt,step⟩
  .refine bI (T.done (cX (aW (aV P w) P w K mg base N qual scope f cd A outer BN BO E) sc (cY own cap) (s2.heap.push {cls:=.type "list",data:=.seq ([]:BD).toArray}).objs.size {s2 with heap:=s2.heap.push {cls:=.type "list",data:=.seq ([]:BD).toArray},toks:=s2.toks} (bJ H2 s2.heap.objs.size (.lst [])) fp) rfl rfl rfl hc i [] s5 σ5 H5 _ I5 (stat fr5) st5 stop) ?_
   rintro r s6 ⟨hr,I6⟩
   subst hr;obtain⟨m,hn,_⟩:=id I6.loc;exact fin _ _ s6 H5 m (I2.uncmp (s3:={s2 with heap:=s2.heap.push {cls:=.type "list",data:=.seq ([]:BD).toArray},toks:=s2.toks}) f2 un rfl I6) (I3.fpOk (am _) I6.free) hn qn
  .refine bI (T.item (cX (aW (aV P w) P w K mg base N qual scope f cd A outer BN BO E) sc (cY own cap) (s2.heap.push {cls:=.type "list",data:=.seq ([]:BD).toArray}).objs.size {s2 with heap:=s2.heap.push {cls:=.type "list",data:=.seq ([]:BD).toArray},toks:=s2.toks} (bJ H2 s2.heap.objs.size (.lst [])) fp) rfl rfl rfl hc i [] s5 σ5 H5 _ I5 (stat fr5) st5 go) ?_
   rintro r s6 ⟨u,hr,h6⟩
   subst hr;refine bI h6 ?_
   rintro _ s7 ⟨x,H7,I7,r7,y7,st7,fr7⟩
   have I7':=I7.pinned (stat fr7) (T.obj _ _ st7);refine bI (hg _ _ _ _ _ s7 σ5 H7 x u _ I7' r7 (step x H7 y7)) ?_
   rintro _ s8 ⟨σ8,H8,I8,q8⟩
   refine bI (he _ _ _ _ _ (Aq (s3:={s2 with heap:=s2.heap.push {cls:=.type "list",data:=.seq ([]:BD).toArray},toks:=s2.toks}) I2 f2 un rfl (λH hH=>I3.fpOk (am _) hH) hCf hC0) _ s8 σ8 H8 _ (I8.wish _) q8) ?_
   rintro v9 s9 ⟨y,H9,I9,r9,hD9,m',hm,w9⟩
   have I9:=I9.unwish;refine bI (vG _ s9 σ8 H9 (.ref s2.heap.objs.size) [y] (.ref s2.heap.objs.size) [v9] (λ_ H'=>H'=bJ H9 s2.heap.objs.size (.lst (ys++[y]))) I9 rfl (.cons r9 .nil) ⟨_,ys,y,rfl,rfl,hD9,hlt,rfl⟩) ?_
   rintro _ s10 ⟨_,H10,I10,_,q10⟩
   subst q10;refine⟨m',hm,i+1,σ8,_,_,I10.unpinned,T.keep _ _ _ st7 λb hb o q=>(I10.pin (b,o) (ck _ (ck _ (mZ hb q)))).1,λb hb=>?_,w9⟩;obtain⟨o,q,d⟩:=T.obj _ _ st7 b hb;exact(I10.pin (b,o) (ck _ (ck _ (mZ hb q)))).2.1
 exact xz loop (T.self _ 0 _ _ _ st4 loop)
end
end L2
namespace L2.Pp
open PySem PySem.Spec PyProof.Rows Bn
open Classical in
noncomputable def eX(G:Gd)(g:GM)(me:ME):BH->cA->aQ->bT BH
 |[],_,S=>if iG G S then .ok [] S else .fail
 |x::r,ρ,S=>if iG G S then(match g x ρ with
  |none=>.fail
  |some ρ1=>match me ρ1 S with
   |.ok (.pv y) S1=>match eX G g me r ρ1 S1 with
    |.ok ys S2=>.ok (y::ys) S2
    |.exc n S2=>.exc n S2
    |.fail=>.fail
   |.ok (.ref _) _=>.fail
   |.exc n S1=>.exc n S1
   |.fail=>.fail)else .fail
section
variable{K:ae}{cl:Str->Addr}{E:XK}{X:Cx}{p q:Ph}{H H':Hp}{S:aQ}
def xH(K:ae)(cl:Str->Addr)(E:XK)(p:Ph)(H:Hp)(D:Addr)(Q:VK)(us:BH):bT BH->Prop
 |.ok ws S2=>∀q H' vs,cF p H q H'->bG K q S2 H'->bG K (q.hold D) S2 H'->q.w D->D∉q.f->H' D=some (.lst vs)->vs.length<=sizeLine->bB K q.c H' (us++ws) vs->Q (.ref D) H'
 |.exc n S2=>∀q H',cF p H q H'->bG K q S2 H'->E (.ref (cl n)) none H'
 |.fail=>False
theorem Qj{G:Gd}{g:GM}{me:ME}{xs us:BH}{ρ:cA}{D:Addr}{Q:VK}(h:xH K cl E p H D Q us (eX G g me xs ρ S)):iG G S:=by
 cases xs with
 |nil=>
  unfold eX at h;split at h
  .assumption
  .exact h.elim
 |cons x r=>
  unfold eX at h;split at h
  .assumption
  .exact h.elim
variable{sc:Scope}{own:List Str}{cap:List (Nat×Str)}{elt target iter:af}{pos:ah}{mi:MI}{g:GM}{me:ME}
theorem Hv{σ:St}{ρ:cA}{xs:BH}{G:Gd}{J:It}{Q:VK}{D:Addr}(sm:bG K p S H)(ev:dC K p H ρ σ)(it:eZ K p H (xs,G) J)(hD:H D=none)(kk:xH K cl E p H D Q [] (eX G g me xs (cC own cap ρ) S)):
  rC J (gP K g) (tP K cl E (cJ K) me) (kL own cap σ) H D Q:=by
 obtain⟨st0,sm0⟩:=sm.res (D:=D) (o:=.lst []) hD trivial;have sh0:=sm.resHold (D:=D) (o:=.lst []) hD trivial;have nf0:D∉p.f:=λh=>sm.notin hD (sm.wc D (sm.sub D h));refine Tm xs.length it.1 (λi σ1 H1 ys=>ys.length=i/\i<=xs.length/\H1 D=some (.lst ys)/\∃p1 S1 ρ1 us,(bG K p1 S1 H1/\bG K (p1.hold D) S1 H1)/\cF p H p1 H1/\p1.w D/\D∉p1.f/\dC K p1 H1 ρ1 σ1/\eZ K p1 H1 (xs,G) J/\iG G S1/\bB K p1.c H1 us ys/\xH K cl E p H D Q us (eX G g me (xs.drop i) ρ1 S1)) ?_ ?_ ?_ ?_ ?_
 .refine⟨rfl,io _,iT,p.res D,S,cC own cap ρ,[],⟨sm0,sh0⟩,st0,.inr rfl,nf0,Xj (st0.repE ev),it.step st0,?_,.nil,by simpa using kk⟩
  exact Qj kk
 .rintro i σ1 H1 ys ⟨h1,_,h2,_⟩
  exact⟨h1,h2⟩
 .rintro i σ1 H1 ys hi ⟨_,_,_,p1,S1,ρ1,us,⟨sm1,sh1⟩,st1,w1,f1,ev1,it1,g1,_⟩
  exact((it1.2 p1 H1 S1 sm1.step sm1 g1).1 i xs[i] (bh hi)).1
 .rintro i σ1 H1 ys x H2 hi ⟨hl,_,hH,p1,S1,ρ1,us,⟨sm1,sh1⟩,st1,w1,f1,ev1,it1,g1,r1,c1⟩ hy
  obtain⟨same,rx⟩:=((it1.2 p1 H1 S1 sm1.step sm1 g1).1 i xs[i] (bh hi)).2 x H2 hy;rw[qq hi]at c1;unfold eX at c1;rw[if_pos g1]at c1;cases gz:g xs[i] ρ1 with
  |none=>rw[gz]at c1;exact c1.elim
  |some ρ2=>
   rw[gz]at c1;dsimp only at c1;have st2:=sm1.same same;have sm2:=sm1.ofSame same;have smh:=sh1.ofSame same;have stS:cF p H p1 H2:=st1.trans st2;refine⟨p1,S1,ρ1,xs[i],ρ2,sm2,st2.repE ev1,rx,gz,λσ3 ev3=>⟨p1.hold D,S1,ρ2,smh,⟨ev3.len,ev3.at_⟩,?_⟩⟩;cases mz:me ρ2 S1 with
   |fail=>rw[mz]at c1;exact c1.elim
   |exc n S3=>
    rw[mz]at c1;intro q H4 st4 sm4;have hD2:H2 D=some (.lst ys):=same _ _ hH;have hD4:H4 D=some (.lst ys):=st4.keep D _ hD2 λz=>z.2 rfl;have fq:D∉q.f:=λh=>by
     have:=st4.nf D h f1;rw[hD2]at this;cases this
    have stU:=cF.unhold w1 st4 sm2;have nq:¬q.w D:=λz=>by
     have:=st4.nw D z λy=>y.2 rfl;rw[hD2]at this;cases this
    have smU:bG K ⟨q.f,λa=>q.w a\/a=D,q.c⟩ S3 H4:=⟨sm4.nd,sm4.len,λa h=>.inl (sm4.sub a h),λa h=>h.elim (sm4.wc a) λz=>z▸st4.mono D (sm2.wc D w1),sm4.mu,λk a o e1 e2=>
     (sm4.obj k a o e1 e2).mono (λ_ e=>e) (λb w f=>⟨⟨.inl w,f⟩,λ_ e=>e⟩) λ_ _ r=>r⟩
    have shU:bG K (Ph.hold ⟨q.f,λa=>q.w a\/a=D,q.c⟩ D) S3 H4:=⟨sm4.nd,sm4.len,λa h=>⟨.inl (sm4.sub a h),λz=>nq (z▸sm4.sub a h)⟩,λa h=>smU.wc a h.1,sm4.mu,λk a o e1 e2=>
     (sm4.obj k a o e1 e2).mono (λ_ e=>e) (λb w f=>⟨⟨⟨.inl w,λz=>nq (z▸w)⟩,f⟩,λ_ e=>e⟩) λ_ _ r=>r⟩
    exact c1 _ H4 ((stS.trans stU).toLess hD) shU.toLess
   |ok av S3=>
    cases av with
    |ref k=>rw[mz]at c1;exact c1.elim
    |pv y=>
     rw[mz]at c1;dsimp only at c1;intro q H4 y' st4 sm4 ry;have hD2:H2 D=some (.lst ys):=same _ _ hH;have hD4:H4 D=some (.lst ys):=st4.keep D _ hD2 λz=>z.2 rfl;have fq:D∉q.f:=λh=>by
      have:=st4.nf D h f1;rw[hD2]at this;cases this
     have stU:=cF.unhold w1 st4 sm2;have nq:¬q.w D:=λz=>by
      have:=st4.nw D z λy=>y.2 rfl;rw[hD2]at this;cases this
     have smU:bG K ⟨q.f,λa=>q.w a\/a=D,q.c⟩ S3 H4:=⟨sm4.nd,sm4.len,λa h=>.inl (sm4.sub a h),λa h=>h.elim (sm4.wc a) λz=>z▸st4.mono D (sm2.wc D w1),sm4.mu,λk a o e1 e2=>
      (sm4.obj k a o e1 e2).mono (λ_ e=>e) (λb w f=>⟨⟨.inl w,f⟩,λ_ e=>e⟩) λ_ _ r=>r⟩
     have shU:bG K (Ph.hold ⟨q.f,λa=>q.w a\/a=D,q.c⟩ D) S3 H4:=⟨sm4.nd,sm4.len,λa h=>⟨.inl (sm4.sub a h),λz=>nq (z▸sm4.sub a h)⟩,λa h=>smU.wc a h.1,sm4.mu,λk a o e1 e2=>
      (sm4.obj k a o e1 e2).mono (λ_ e=>e) (λb w f=>⟨⟨⟨.inl w,λz=>nq (z▸w)⟩,f⟩,λ_ e=>e⟩) λ_ _ r=>r⟩
     have c2:xH K cl E p H D Q (us++[y]) (eX G g me (xs.drop (i+1)) ρ2 S3):=by
      cases cz:eX G g me (xs.drop (i+1)) ρ2 S3 with
      |fail=>rw[cz]at c1;exact c1.elim
      |exc n S4=>rw[cz]at c1;exact c1
      |ok ws S4=>
       rw[cz]at c1;intro q H' vs z1 z2 z3 z4 z5 z6 z7 r;rw[ko]at r;exact c1 q H' vs z1 z2 z3 z4 z5 z6 z7 r
     obtain⟨stG,smG,shG⟩:=smU.grow (ys:=ys) (D:=D) (o:=.lst (ys++[y'])) shU (.inr rfl) fq trivial;have stA:=st2.trans (stU.trans stG);refine Vp hi hD4 ⟨by rw[bq,hl];rfl,hi,iT,_,S3,ρ2,us++[y],⟨smG,shG⟩,st1.trans stA,.inr rfl,fq,stG.repE (stU.repE ev3),it1.step stA,Qj c2,?_,c2⟩;exact(stA.reps r1).append (.cons (stG.rep ry) .nil)
 .rintro σ1 H1 ys ⟨hl,_,hH,p1,S1,ρ1,us,⟨sm1,sh1⟩,st1,w1,f1,ev1,it1,g1,r1,c1⟩
  rw[yg]at c1;unfold eX at c1;rw[if_pos g1]at c1;refine⟨(it1.2 p1 H1 _ sm1.step sm1 g1).2,?_⟩;exact c1 p1 H1 ys st1 sm1 sh1 w1 f1 hH (by rw[hl];exact it.1) (by rw[wv];exact r1)
theorem Oh{σ:St}{ρ:cA}{xs:BH×Gd}{J:It}{Q:VK}{D:Addr}(sm:bG K p S H)(ev:dC K p H ρ σ)(it:eZ K p H xs J)(k:cH K cl (cJ K) p H ((eX xs.2 g me xs.1 (cC own cap ρ) S).bind λys S2=>.ok (.pv (.lst ys)) S2) Q E)(hD:H D=none):
  rC J (gP K g) (tP K cl E (cJ K) me) (kL own cap σ) H D Q:=by
 refine Hv sm ev it hD ?_;cases z:eX xs.2 g me xs.1 (cC own cap ρ) S with
 |fail=>rw[z]at k;exact k.elim
 |exc n S'=>rw[z]at k;exact k
 |ok zs S2=>
  rw[z]at k;have k:∀q H' x,cF p H q H'->bG K q S2 H'->bC K q.c H' (.lst zs) x->Q x H':=k;intro q H' vs st1 sm1 sh1 w1 f1 hH l1 r1;rw[pe]at r1;refine k (q.less D) H' (.ref D) (st1.toLess hD) sh1.toLess ?_;unfold bC;exact⟨D,vs,rfl,.inl ⟨hH,λz=>z.2 rfl⟩,l1,rZ (λa h=>h.1) r1⟩
end
noncomputable def fR(own:List Str)(cap:List (Nat×Str))(mi:MI)(g:GM)(me:ME):ME:=λρ S=>(mi ρ S).bind λxs S1=>(eX xs.2 g me xs.1 (cC own cap ρ) S1).bind λys S2=>.ok (.pv (.lst ys)) S2
section
variable{P:Program}{w:ao}{K:ae}{mg:Str->BE}{base:Heap}{N:List Str}{qual:Str}{scope:Scope}{f:Addr}{cd:Value}{A:aq}{outer:List bc}{BN:aa}{BO:Hp}{E:XK}{cl:Str->Addr}
variable{sc:Scope}{own:List Str}{cap:List (Nat×Str)}{elt target iter:af}{pos:ah}{mi:MI}{g:GM}{me:ME}{wi:TI}{tg:TG}{te:TE}
theorem Qz(k:iC (aW (aV P w) P w K mg base N qual scope f cd A outer BN BO E) sc own cap)(hi:PI (aW (aV P w) P w K mg base N qual scope f cd A outer BN BO E) target iter wi)(hc:(aW (aV P w) P w K mg base N qual scope f cd A outer BN BO E).calm=true)
  (hg:∀C BP H₁ ex,PG (cX (aW (aV P w) P w K mg base N qual scope f cd A outer BN BO E) sc (cY own cap) C BP H₁ ex) target tg)(he:∀C BP H₁ ex E',jP (aV P w) ((cX (aW (aV P w) P w K mg base N qual scope f cd A outer BN BO E) sc (cY own cap) C BP H₁ ex).wish E') E->PE ((cX (aW (aV P w) P w K mg base N qual scope f cd A outer BN BO E) sc (cY own cap) C BP H₁ ex).wish E') elt te)
  (hs:∀x,foldedSetIterable iter (aW (aV P w) P w K mg base N qual scope f cd A outer BN BO E).env x=pure x:=by intro _;rfl):PE (aW (aV P w) P w K mg base N qual scope f cd A outer BN BO E) (.ListComp elt [⟨target,iter,[],0⟩] sc pos) (pD own cap wi tg te):=by
 intro BM s σ H Q I h;rw[eval_ListComp];refine Tv k hi hc hg he I h (λD C s' H' m I' fC hn q=>?_) hs;refine⟨m,hn,λh' sb=>⟨.ref D,H',?_,rfl,q⟩⟩;obtain⟨f0,f1,f2,f3,f4,f5⟩:=fC;exact I'.turned (t':=s'.toks) (λb o hb e=>(sb.2 b hb).trans e) f0 f1 f3 f4 f5
theorem Wy(k:iC (aW (aV P w) P w K mg base N qual scope f cd A outer BN BO E) sc own cap)(hi:iL K cl E (aW (aV P w) P w K mg base N qual scope f cd A outer BN BO E) target iter mi)(hc:(aW (aV P w) P w K mg base N qual scope f cd A outer BN BO E).calm=true)(hg:∀C BP H₁ ex,kT K (cX (aW (aV P w) P w K mg base N qual scope f cd A outer BN BO E) sc (cY own cap) C BP H₁ ex) target g)(he:∀C BP H₁ ex E',jP (aV P w) ((cX (aW (aV P w) P w K mg base N qual scope f cd A outer BN BO E) sc (cY own cap) C BP H₁ ex).wish E') E->aX K cl E ((cX (aW (aV P w) P w K mg base N qual scope f cd A outer BN BO E) sc (cY own cap) C BP H₁ ex).wish E') elt me)
  (hs:∀x,foldedSetIterable iter (aW (aV P w) P w K mg base N qual scope f cd A outer BN BO E).env x=pure x:=by intro _;rfl):aX K cl E (aW (aV P w) P w K mg base N qual scope f cd A outer BN BO E) (.ListComp elt [⟨target,iter,[],0⟩] sc pos) (fR own cap mi g me):=by
 intro hK;refine PE.imp (Qz k (hi hK) hc (λC BP H₁ ex=>hg C BP H₁ ex hK) (λC BP H₁ ex E' ps=>he C BP H₁ ex E' ps hK) hs) ?_
 rintro σ H Q ⟨p,S,ρ,s,ev,h⟩
 exact cG s ev h λq H' xs J S' stp sm ev it kk D hD=>Oh sm ev it kk hD
end
section
variable{K:ae}{cl:Str->Addr}{E:XK}{X:Cx}{e:af}{es:List af}{ms:MA}{pos p:ah}{k n:Nat}{f:Addr}{fd:bi}{ps:List Str}{g:FM}{x:Str}{dvs:List V}{ds:BD}{dv:BH}
theorem Jz(hp:jP (aV X.prog X.w) X E)(F:dR X.prog X.w X.K X.mg X.base (aV X.prog X.w) k f fd ps (jU K cl g))(hr:dE k X.A)(hg:Gl X x)(hm:X.mg x=some (.ref f))(hk:dl X.K (.ref f)=true)(hb:gO X.K fd ps ds)(hd:bK dvs ds)(hv:Dv dv dvs)
  (ha:eC K cl E X (e::es) ms)(hdb:(x==("__debug__":Str))=false:=by decide)(he:starEach (e::es) X.env=(false,eval e X.env)::starEach es X.env:=by rfl)(hpl:(backTo pos (starEach es X.env)).any (·.1)=false:=by rfl):
  aX K cl E X (.Call (.Name x p) (e::es) [] pos) (cL g dv ms):=by
 intro hK;refine PE.imp (sV F hr hg hm hk hb hd hp (ha hK) hdb he hpl) ?_
 rintro σ H Q ⟨p,S,ρ,s,ev,h⟩
 exact cG s ev h λq H' as xs S' stp sm ev r k=>⟨q,S',_,sm,pP r (hv K q H'),sK sm k⟩
end
section
variable{K:ae}{cl:Str->Addr}{E:XK}{X:Cx}
end
section
variable{K:ae}{cl:Str->Addr}{E:XK}{X:Cx}{a b e:af}{m:ME}{ms:MA}{pos:ah}
theorem aaH:bootBuiltins "str"=some (.type "str"):=by decide+kernel
theorem mP{c:Addr->Prop}{H:Hp}(x:Str):bC K c H (.str x) (.str x):=by
 unfold bC;rfl
def fP:PV->PV->BI
 |.str x,.str y=>if x.length+y.length<=16777216 then some (.str (x++y))else none
 |_,_=>none
theorem V7:eK K (λx y H Q=>∃i j,x=.str i/\y=.str j/\i.length+j.length<=sizeLine/\Q (.str (i++j)) H) fP:=λ{p S H a b c x y Q} s ra rb e k=>by
 unfold fP at e;split at e
 .split at e
  .rename_i h
   cases e;rw[<-fU]at h;exact⟨_,_,ra.str,rb.str,h,k H _ (cM.refl H) (mP _)⟩
  .cases e
 .cases e
def Jr(y x:Str):Bool:=!(lr y x 0 y.length 1).isEmpty
def kP:PV->PV->BI
 |.str x,.str y=>some (.bl (Jr y x))
 |_,_=>none
theorem abH:eK K (λx y H Q=>∃i j,x=.str i/\y=.str j/\Q (.bl (!(lr j i 0 j.length 1).isEmpty)) H) kP:=λ{p S H a b c x y Q} s ra rb e k=>by
 unfold kP at e;split at e
 .cases e
  exact⟨_,_,ra.str,rb.str,k H _ (cM.refl H) (gI (v:=.bl _) rfl)⟩
 .cases e
def fY:BH->BI
 |[.str x]=>if x.length<=16777216 then some (.int x.length)else none
 |_=>none
theorem U4:jF K (λxs H Q=>∃z,xs=[.str z]/\z.length<=sizeLine/\Q (.int z.length) H) fY:=λ{p S H as c xs Q} s ra e k=>by
 unfold fY at e;split at e
 .rename_i x
  split at e
  .rename_i h
   cases e;rw[<-fU]at h;cases ra with
   |cons h1 t=>
    cases t;exact⟨x,by rw[h1.str],h,k H _ (cM.refl H) (gI (v:=.int _) rfl)⟩
  .cases e
 .cases e
def pG:BH->BI
 |[.int i]=>if i.natAbs.log2<1920 then some (.str (toString i))else none
 |_=>none
theorem abA:jF K (λxs H Q=>∃i,xs=[.int i]/\i.natAbs.log2<1920/\Q (.str (toString i)) H) pG:=λ{p S H as c xs Q} s ra e k=>by
 unfold pG at e;split at e
 .rename_i x
  split at e
  .rename_i h
   cases e;cases ra with
   |cons h1 t=>
    cases t;exact⟨x,by rw[h1.int],h,k H _ (cM.refl H) (mP _)⟩
  .cases e
 .cases e
theorem Bt:iB X (.type "int") (λxs H Q=>∃x n,xs=[.str x]/\qr x=some n/\x.length<=640/\Q (.int n) H):=by
 intro BM s σ H xs us Q I r h;obtain⟨x,n,rfl,hn,hl,q⟩:=h;obtain⟨u,rfl,t,rfl⟩:=iD r;exact PySem.W.KIN.call_text hn hl ⟨.int n,H,I.tok _,⟨_,rfl⟩,q⟩
def iY:BH->BI
 |[.str x]=>if x.length<=640 then(qr x).map .int else none
 |_=>none
theorem Y4:jF K (λxs H Q=>∃x n,xs=[.str x]/\qr x=some n/\x.length<=640/\Q (.int n) H) iY:=λ{p S H as c xs Q} s ra e k=>by
 unfold iY at e;split at e
 .rename_i x
  split at e
  .rename_i h
   cases z:qr x with
   |none=>rw[z]at e;cases e
   |some n=>
    rw[z]at e;cases e;cases ra with
    |cons h1 t=>
     cases t;exact⟨x,n,by rw[h1.str],z,h,k H _ (cM.refl H) (gI (v:=.int _) rfl)⟩
  .cases e
 .cases e
theorem Kv{h:Heap}{sl:Addr}{vl vu:Value}{lo hi:BG}(hs:h.IsSliceOf sl vl vu .none)(pl:jk vl lo)(pu:jk vu hi):∃l u:Option (Int×dk),h.IsSlice sl l u none/\l.map (·.1)=lo/\u.map (·.1)=hi:=by
 obtain⟨o,e,c,d⟩:=hs;cases pl with
 |none=>
  cases pu with
  |none=>exact⟨none,none,⟨o,e,c,d⟩,rfl,rfl⟩
  |int j u=>exact⟨none,some (j,u),⟨o,e,c,d⟩,rfl,rfl⟩
 |int i t=>
  cases pu with
  |none=>exact⟨some (i,t),none,⟨o,e,c,d⟩,rfl,rfl⟩
  |int j u=>exact⟨some (i,t),some (j,u),⟨o,e,c,d⟩,rfl,rfl⟩
theorem Y8:mT X (λx lo hi H Q=>∃z,x=.str z/\z.length<=sizeLine/\Q (.str (iu z lo hi)) H):=by
 intro BM s σ H x v vl vu lo hi sl Q I rx hs pl pu h;obtain⟨z,rfl,hz,q⟩:=h;obtain⟨t,rfl⟩:=rx;obtain⟨l,u,hs,rfl,rfl⟩:=Kv hs pl pu;refine⟨"str",_,PySem.F.slot_str_getitem.lookup,mq _ _ _,?_⟩;exact wpAny_getItem_str_slice hs rfl (post_val_or_str ⟨dz (Txt.slice_le z _ _) hz,λt' k=>⟨.str _,H,I.tok _,⟨_,rfl⟩,q⟩⟩)
def gD(v:PV)(lo hi:BG):BI:=match v with
 |.str x=>if x.length<=16777216 then some (.str (iu x lo hi))else none
 |_=>none
def cR(m:ME)(ml mh:MO):ME:=λρ S=>(m ρ S).bind λv S1=>(ml ρ S1).bind λlo S2=>(mh ρ S2).bind λhi S3=>fN ((rd S3 v).bind λx=>gD x lo hi) S3
theorem Z6{lo hi:Option af}{ml mh:MO}{p2:ah}(he:aX K cl E X e m)(hl:nY K cl E X lo ml)(hu:nY K cl E X hi mh):aX K cl E X (.Subscript e (.Slice lo hi none p2) pos) (cR m ml mh):=by
 intro hK;subst hK;refine(Qk Y8 (he rfl) (hl rfl) (hu rfl)).imp ?_
 rintro σ H Q ⟨p,S,ρ,s,e,h⟩
 refine cG s e h λq H1 a x S1 st s1 e1 r1 h1=>cG s1 e1 h1 λq2 H2 lo lo' S2 st2 s2 e2 r2 h2=>cG s2 e2 h2 λq3 H3 hi hi' S3 st3 s3 e3 r3 h3=>?_;cases r2;cases r3;have ra:=st3.repA (st2.repA r1);obtain⟨c,ec,k⟩:=nG s3 h3;cases z:rd S3 a with
 |none=>rw[z]at ec;cases ec
 |some v=>
  rw[z]at ec;have rv:=qD s3 ra z;cases v with
  |str w=>
   have ec:(if w.length<=16777216 then some (PV.str (iu w lo hi))else none)=some c:=ec;split at ec
   .rename_i hw
    cases ec;rw[<-fU]at hw;exact⟨w,rv.str,hw,k _ _ (cM.refl _) (mP _)⟩
   .cases ec
  |_=>cases ec
def uB(X:Cx)(id:String)(f:Str->BH->BI):Prop:=
 ∀(BM:List (Addr×Obj))(s:aa)(σ:St)(H:Hp)(x:Str)(t:dk)(as:BH)(xs:List V)(us:BD)(c:PV)(Q:VK),aO X BM σ H s->bK xs us->(∃p:Ph,bB X.K p.c H as xs)->f x as=some c->
  (∀H' z,cM H H'->(∀(p:Ph) S,bG X.K p S H->bB X.K p.c H as xs->bC X.K p.c H' c z)->Q z H')->wpAny (model X.prog X.w) X.A (call (.builtin id) (.str x t::us)) (EP X BM σ Q) X.xe s
def bY{α:Type}(k:AV)(f:Str->bT α):bT α:=match k with
 |.pv (.str x)=>f x
 |_=>.fail
def bS(f:Str->BH->BI)(m:ME)(ms:MA):ME:=λρ S=>(m ρ S).bind λk S1=>bY k λx=>(ms ρ S1).bind λys S2=>fN ((iP ys).bind (f x)) S2
theorem wK{name:Str}{id:String}{f:Str->BH->BI}{es:List af}{apos cpos:ah}(slot:Slot "str" name id)(hty:typeOf (.builtin id)=pure (.type "method_descriptor"))(hm:uB X id f)(ho:aX K cl E X a m)(ha:eC K cl E X (e::es) ms)(hbase:attributeBase a name X.env (eval a X.env)=eval a X.env:=by rfl)
  (hfew:((backTo cpos (starEach (e::es) X.env)).all (λx=>!x.1)&&(backToKw cpos (keywordEach [] X.env)).all (λx=>x.1.isSome)
   &&decide ((e::es).length+([]:List iy).length+(if([]:List iy).isEmpty then 0 else 1)<30))=true:=by rfl)
  (hline:(apos.endLine==cpos.line)=true:=by rfl)(hs:starEach (e::es) X.env=(false,eval e X.env)::starEach es X.env:=by rfl)(hplain:(backTo cpos (starEach es X.env)).any (·.1)=false:=by rfl):
  aX K cl E X (.Call (.Attribute a name apos) (e::es) [] cpos) (bS f m ms):=by
 intro hK;subst hK;refine PE.imp (xG (r:=λx xs H Q=>∃(z:Str)(as:BH)(c:PV),x=.str z/\(∃p:Ph,bB X.K p.c H as xs)/\f z as=some c/\∀H' y,cM H H'->(∀(p:Ph) S,bG X.K p S H->bB X.K p.c H as xs->bC X.K p.c H' c y)->Q y H') t7 slot hty (λBM s σ H x xs v us Q I rx rs h=>?_) (ho rfl) (ha rfl) hbase hfew hline hs hplain) λσ H Q ⟨p,S,ρ,s,ev,h⟩=>?_
 .obtain⟨z,as,c,rfl,hp,hf,k⟩:=h
  obtain⟨t,rfl⟩:=rx;exact hm BM s σ H z t as xs us c Q I rs hp hf k
 .refine cG s ev h λq H1 k x S1 st s1 e1 r1 h1=>?_
  unfold bY at h1;split at h1
  .rename_i z
   have ex:=(show eP X.K q H1 (.str z) x from .inl r1).str;subst ex;refine⟨rfl,cG s1 e1 h1 λq2 H2 ys xs S2 st2 s2 e2 r2 h2=>?_⟩;obtain⟨c,ec,k⟩:=nG s2 h2;cases y:iP ys with
   |none=>rw[y]at ec;cases ec
   |some as=>
    rw[y]at ec;have rr:=uV y r2;exact⟨z,as,c,rfl,⟨q2,rr⟩,ec,λH' w sm hr=>k H' w sm (hr q2 S2 s2 rr)⟩
  .exact h1.elim
theorem Rk{c:PV}{H H':Hp}{as:BH}{xs:List V}(h:qW c=true):∀(p:Ph) S,bG K p S H->bB K p.c H as xs->bC K p.c H' c (pL c):=λp S _ _=>gI h
theorem vX{c:Addr->Prop}{H:Hp}{y:Str}{xs:List V}(r:bB K c H [.str y] xs):xs=[.str y]:=by
 unfold bB at r;obtain⟨v,r1,rfl,h,t⟩:=r;unfold bB at t;subst t;unfold bC at h;rw[h]
def kI(x:Str):BH->BI
 |[.str y]=>some (.bl (uj x y))
 |_=>none
theorem Ix:uB X "str.startswith" kI:=by
 intro BM s σ H x t as xs us c Q I rs ⟨p,rp⟩ hf k;unfold kI at hf;split at hf
 .rename_i y
  cases hf;rw[vX rp]at rs;obtain⟨u,rfl,t',rfl⟩:=iD rs;exact SC.startswith ⟨.bl _,H,I,rfl,k H _ (cM.refl H) (Rk (c:=.bl _) rfl)⟩
 .cases hf
def jY(x:Str):BH->BI
 |[.str y]=>some (.int (kd x y))
 |_=>none
theorem P5:uB X "str.find" jY:=by
 intro BM s σ H x t as xs us c Q I rs ⟨p,rp⟩ hf k;unfold jY at hf;split at hf
 .rename_i y
  cases hf;rw[vX rp]at rs;obtain⟨u,rfl,t',rfl⟩:=iD rs;exact SC.find ⟨.int _,H,I.tok _,⟨_,rfl⟩,k H _ (cM.refl H) (Rk (c:=.int _) rfl)⟩
 .cases hf
theorem Ea:∀l:List (Str×dk),bK (l.map λp=>V.str p.1) (strValues l)
 |[]=>.nil
 |p::l=>.cons ⟨p.2,rfl⟩ (Ea l)
theorem Da{c:Addr->Prop}{H:Hp}:∀l:List Str,bB K c H (l.map PV.str) (l.map V.str)
 |[]=>.nil
 |x::l=>.cons (mP x) (Da l)
def fL(x:Str):BH->BI
 |[.str y]=>if y.length≠0/\x.length+2<=16777216 then some (.lst ((da x y).map .str))else none
 |_=>none
theorem Zx(x y:Str):(da x y).length<=x.length+2:=by
 unfold da;split
 .simp
 .split
  .simp
  .have e1:=t8 x y 0 x.length (x.length+1)
   rw[t9];omega
theorem B4:uB X "str.split" fL:=by
 intro BM s σ H x t as xs us c Q I rs ⟨p,rp⟩ hf k;unfold fL at hf;split at hf
 .rename_i y
  split at hf
  .rename_i hp
   cases hf;rw[vX rp]at rs;obtain⟨u,rfl,t',rfl⟩:=iD rs;have hl:=Zx x y;have hz:((da x y).map V.str).length<=sizeLine:=by rw[ar,fU];omega
   have hn:(Builtin.Str.partsBetween x (lr x y 0 x.length (x.length+1)) y.length).length<=sizeLine:=by
    have e1:=t8 x y 0 x.length (x.length+1);rw[t9,fU];omega
   have fin:∀(l:List (Str×dk))(n:Nat)(h':Heap)(tk:Nat),l.map (·.1)=da x y->h'=s.heap.push {cls:=.type "list",data:=.seq (strValues l).toArray}->EP X BM σ Q (.ref s.heap.objs.size) {s with heap:=h',toks:=tk}:=λl n h' tk el eh=>by
    have ev:(da x y).map V.str=l.map λp=>V.str p.1:=by rw[<-el,di];rfl
    subst eh;refine⟨.ref s.heap.objs.size,_,I.laid (o:=.lst ((da x y).map V.str)) (λb ob q=>aw _ q) (am _) ⟨hz,_,0,by rw[ev];exact Ea l,dq _ rfl⟩,rfl,?_⟩;have hnone:=I.hok.fresh (am s.heap.objs.size);refine k _ _ (fX hnone) λp S sm _=>?_;exact nI sm (Da _) hz hnone
   cases h1:(decide (x.length<y.length)||decide (nu x<nu y))
   .cases hf:(lr x y 0 x.length (x.length+1)).isEmpty
    .refine kq uk (mq _ _ _) yo (yp _ _) (meets_str_split_sep x y t t' h1 (by simpa using hp.1) hf (by rw[fU];omega) hn) ?_
     rw[strsFrom_eq];exact fin (numbered s.toks _) 0 _ _ ((numbered_texts _ _).trans ((if_neg (ne_true_of_eq_false h1)).trans (if_neg (ne_true_of_eq_false hf))).symm) rfl
    .exact kq uk (mq _ _ _) yo (yp _ _) (meets_str_split_not_found x y t t' h1 (by simpa using hp.1) hf)
      (fin [(x,t)] 0 _ s.toks ((if_neg (ne_true_of_eq_false h1)).trans (if_pos hf)).symm rfl)
   .exact kq uk (mq _ _ _) yo (yp _ _) (meets_str_split_cannot_occur x y t t' h1)
     (fin [(x,t)] 0 _ s.toks (if_pos h1).symm rfl)
  .cases hf
 .cases hf
end
end L2.Pp
namespace L2
open PySem PySem.Spec PyProof.Rows Bn
def Qe(x:Str):It:=⟨λi _=>i<x.cps.size,λi H v H'=>H'=H/\∃c,x.cps[i]?=some c/\v=.str ⟨#[c]⟩,λi _=>x.cps.size<=i⟩
theorem E9{P:Program}{w:ao}{K:ae}{tg:af}(x:Str)(t:dk)(it:Addr):pF P w K tg (Qe x) [it] it (λi h=>h.IsStrIter it "str_ascii_iterator" x t i) where
 mem:=by simp
 obj:=λi h st b hb=>by
  have e:b=it:=by simpa using hb
  subst e;obtain⟨o,e,c,d⟩:=st;exact⟨o,e,λv z=>by rw[d]at z;cases z⟩
 keep:=λi h h' st k=>by
  obtain⟨o,e,c,d⟩:=st;exact⟨o,k it (by simp) o e,c,d⟩
 item:=by
  intro X hP hw hK hc i BM s σ H E I hf st hg;subst hP hw hK;have hg:i<x.cps.size:=hg;obtain⟨f0,f1,f2,f3,f4,f5⟩:=hf it (by simp);have hx:x.cps[i]?=some x.cps[i]:=Array.getElem?_eq_getElem hg;refine wpAny_pyNext_ascii_item st hx λh' st' sb=>?_;have I1:aO X BM σ H {s with heap:=h',toks:=s.toks+1}:=I.turned (λb o hb e=>(sb.2 b hb).trans e) f0 f1 f3 f4 f5;obtain⟨o,e,c,d⟩:=id st';exact⟨_,rfl,wU (s:={s with heap:=h',toks:=s.toks+1}) e c d (by decide) ⟨.str ⟨#[x.cps[i]]⟩,H,I1,⟨_,rfl⟩,⟨rfl,_,hx,rfl⟩,st',λb hb=>(hf b hb).1⟩⟩
 done:=by
  intro X hP hw hK hc i BM s σ H E I hf st hg;subst hP hw hK;have hg:x.cps.size<=i:=hg;obtain⟨f0,f1,f2,f3,f4,f5⟩:=hf it (by simp);exact wpAny_pyNext_ascii_end (I.ok.hd hc) st (t5 hg) λh' eb=>⟨rfl,I.turned (t':=s.toks) (λb o hb e=>eb b o hb e) f0 f1 f3 f4 f5⟩
 self:=λ_ _ _ _ _ st h=>wpAny_pyIter_striter_ascii st h
def lM(X:Cx)(e:af)(te:XK->TE):Prop:=
 ∀(BM:List (Addr×Obj))(s:aa)(σ:St)(H:Hp)(Q:VK)(E:XK)(Ex:Value->aa->Prop),aO X BM σ H s->te E σ H Q->
  (∀s1 H1 e' s',aO X BM σ H1 s1->aV X.prog X.w X.stack H1 s1 E e' s'->Ex e' s')->wpAny (model X.prog X.w) X.A (eval e X.env) (EP X BM σ Q) Ex s
section
variable{X:Cx}{k:Nat}{f:Addr}{fd:bi}{ps:List Str}{sp:Sp}{dvs:List V}{ds:BD}{x:Str}{p pos pos1 pos2 pos3 pc:ah}{e a:af}{es:List af}{t:TA}{ta:TE}{te:XK->TE}{c n:Str}{C:Addr}{i:Nat}{BR:Stmt}{body:List Stmt}{newId:String}
theorem Kz(hxe:X.xe=λ_ _=>False)(F:dR X.prog X.w X.K X.mg X.base (aV X.prog X.w) k f fd ps sp)(hr:dE k X.A)(hg:Gl X x)(hm:X.mg x=some (.ref f))(hkp:dl X.K (.ref f)=true)
  (hb:gO X.K fd ps ds)(hd:bK dvs ds)(ha:PA X (e::es) t)
  (hdb:(x==("__debug__":Str))=false:=by decide)(he:starEach (e::es) X.env=(false,eval e X.env)::starEach es X.env:=by rfl)(hpl:(backTo pos (starEach es X.env)).any (·.1)=false:=by rfl):
  lM X (.Call (.Name x p) (e::es) [] pos) (λE σ H Q=>t σ H λvs H1=>sp (vs++dvs) H1 Q E):=
 λBM s σ H Q E Ex I h hx=>Lz hxe F hr hg hm hkp hb hd ha I h hx hdb he hpl
theorem D4{x1}(hxe:X.xe=λ_ _=>False)(ha:PE X a ta)(he:lM X e te)
  (hs:starEach [a,e] X.env=[(false,eval a X.env),(false,eval e X.env)]:=by rfl):
  lM X (.Tuple [a,e] x1 pos) (λE σ H Q=>ta σ H λu H1=>te E σ H1 λv H2=>∀t,H2 t=none->Q (.ref t) (bJ H2 t (.tup [u,v]))):=by
 intro BM s σ H Q E Ex I h hx;refine zw ?_;rw[hs];show wpAny _ _ (spliced ((false,eval a X.env)::[(false,eval e X.env)])) _ _ s;refine wu (dh (ha BM s σ H _ I h) (λu s1 hq=>?_) λ_ _ z=>by rw[hxe]at z;exact z.elim);rcases hq with⟨x,H1,I1,r1,q1⟩;refine wu (dh (he BM s1 σ H1 _ E Ex I1 q1 hx) (λv s2 hq=>?_) λ_ _ z=>z);rcases hq with⟨y,H2,I2,r2,q2⟩;refine zv ⟨by show 2<=sizeLine;decide,?_⟩;have hf:H2 s2.heap.objs.size=none:=I2.hok.fresh (am _);refine⟨.ref s2.heap.objs.size,bJ H2 s2.heap.objs.size (.tup [x,y]),I2.laid (t':=s2.toks) (λb u e=>aw _ e) (am _) ?_,rfl,q2 _ hf⟩;exact⟨by show 2<=sizeLine;decide,[u,v],.cons r1 (.cons r2 .nil),⟨_,dq _ rfl,rfl,_,rfl⟩⟩
end
end L2
namespace L2.Pp
open PySem PySem.Spec PyProof.Rows Bn
section
variable{K:ae}{cl:Str->Addr}{E:XK}{X:Cx}{a b c e:af}{m mc:ME}{ms:MA}{pos:ah}{tg:af}{ma mb:ME}
def kR(x:Str):BH:=x.cps.toList.map λc=>.str ⟨#[c]⟩
def tK:AV->aQ->bT (BH×Gd)
 |.pv (.str x),S=>if x.cps.all (· <128)=true/\x.length<=16777216 then .ok (kR x,[]) S else .fail
 |_,_=>.fail
def mL(m:ME):MI:=λρ S=>(m ρ S).bind tK
theorem W8{p:Ph}{H:Hp}{x:Str}(hz:x.length<=16777216):eZ K p H (kR x,[]) (Qe x):=by
 have hl:(kR x).length=x.cps.size:=by unfold kR;rw[ar,pq]
 refine⟨by show(kR x).length<=sizeLine;rw[hl,fU];exact hz,λq H1 S1 st _ _=>⟨λi v e=>?_,?_⟩⟩
 .have e:(kR x)[i]?=some v:=e
  unfold kR at e;rw[fh]at e;cases z:x.cps.toList[i]? with
  |none=>rw[z]at e;cases e
  |some d=>
   rw[z]at e;cases e;have z:x.cps[i]?=some d:=by simpa using z
   refine⟨(t6.mp z).1,λy H2 hy=>?_⟩;obtain⟨rfl,d',e1,rfl⟩:=hy;rw[z]at e1;cases e1;exact⟨cM.refl _,mP _⟩
 .show x.cps.size<=(kR x).length
  rw[hl];exact am _
theorem N9(h:aX K cl E X e m):iL K cl E X tg e (mL m):=by
 intro hK;subst hK;intro BM s σ H R I hh;obtain⟨p,S,ρ,sm,ev,hh⟩:=hh;have z:=h rfl BM s σ H (λx H1=>∃y,x=.str y/\y.cps.all (· <128)=true/\R (Qe y) H1) I (cG sm ev hh λq H' v x S' stp sm ev r k=>by
  unfold tK at k;split at k
  .rename_i y
   split at k
   .rename_i hy
    exact⟨y,(show eP X.K q H' (.str y) x from .inl r).str,hy.1,cH.ret (R:=eZ X.K) k sm (W8 hy.2)⟩
   .exact k.elim
  .exact k.elim)
 refine bI z ?_
 rintro v s1 ⟨x,H1,I1,r1,y,e,ha,q⟩
 subst e;obtain⟨t,rfl⟩:=r1;refine wpAny_pyIter_ascii ha ?_;refine⟨s1.heap.objs.size,[s1.heap.objs.size],_,_,H1,rfl,I1.kept (t':=s1.toks) λb o e=>aw _ e,E9 y t _,⟨_,dq _ rfl,rfl,rfl⟩,λb hb=>?_,q⟩;have e:b=s1.heap.objs.size:=by simpa using hb
 subst e;exact I1.fpOk (am _) (I1.hok.fresh (am _))
def iA(f f':PV->PV->BI)(ma mb mc:ME):ME:=λρ S=>(ma ρ S).bind λx S1=>(mb ρ S1).bind λy S2=>(fQ f x y S2).bind λz S3=>match z with
 |.pv (.bl true)=>(mc ρ S3).bind λw S4=>fQ f' y w S4
 |.pv (.bl false)=>.ok (.pv (.bl false)) S3
 |_=>.fail
theorem sJ{op op':jg}{r r':R2}{f f':PV->PV->BI}(ho:dG X (compareOp op) r)(hf:eK X.K r f)(ho':dG X (compareOp op') r')(hf':eK X.K r' f')(ha:aX K cl E X a ma)(hb:aX K cl E X b mb)(hc:aX K cl E X c mc)
  (hm:lastMarks [op,op'] [b,c]=false:=by with_unfolding_all rfl):aX K cl E X (.Compare a [op,op'] [b,c] pos) (iA f f' ma mb mc):=by
 intro hK;subst hK;refine PE.imp (C0 ho ho' (ha rfl) (hb rfl) (hc rfl) hm) ?_
 rintro σ H Q ⟨p,S,ρ,s,e,h⟩
 refine cG s e h λq H1 x x' S1 st s1 e1 r1 h1=>cG s1 e1 h1 λq2 H2 y y' S2 st2 s2 e2 r2 h2=>?_;cases z:fQ f x y S2 with
 |fail=>rw[z]at h2;exact h2.elim
 |exc n S3=>
  exfalso;unfold fQ at z;cases w:((rd S2 x).bind λx=>(rd S2 y).bind λy=>f x y)with
  |none=>rw[w]at z;cases z
  |some u=>rw[w]at z;cases z
 |ok u S3=>
  rw[z]at h2;simp only[bT.bind]at h2;have eS:S3=S2:=by
   unfold fQ at z;cases w:((rd S2 x).bind λx=>(rd S2 y).bind λy=>f x y)with
   |none=>rw[w]at z;cases z
   |some u=>rw[w]at z;cases z;rfl
  subst eS;refine oH (cl:=cl) (E:=E) hf s2 (st2.repA r1) r2 ?_;rw[z];intro q3 H3 w st3 s3 r3;have e3:=st3.repE e2;have ry:=st3.repA r2;split at h2
  .have:w=.bl true:=tH r3 rfl
   subst this;refine⟨true,rfl,if_pos rfl▸ ?_⟩;refine⟨q3,S3,ρ,s3,e3,?_⟩;have h2:cH X.K cl (cJ X.K) q2 H2 ((mc ρ S3).bind λw S4=>fQ f' y w S4) Q E:=h2;cases zc:mc ρ S3 with
   |fail=>rw[zc]at h2;exact h2.elim
   |exc n S4=>
    rw[zc]at h2;intro q4 H4 st4 s4;exact h2 q4 H4 (st3.trans st4) s4
   |ok v S4=>
    rw[zc]at h2;intro q4 H4 v' st4 s4 r4;refine oH (cl:=cl) (E:=E) hf' s4 (st4.repA ry) r4 ?_;exact cH.mono h2 (st3.trans st4)
  .have:w=.bl false:=tH r3 rfl
   subst this;refine⟨false,rfl,?_⟩;show Q (.bl false) H3;exact h2 q3 H3 _ st3 s3 (by show bC X.K q3.c H3 _ _;unfold bC;rfl)
  .exact h2.elim
theorem vJ{x:Str}:∀c H,bC K c H (.str x) (.str x):=λc H=>mP x
end
section
variable{K:ae}{cl:Str->Addr}{E:XK}{X:Cx}{e a:af}{es:List af}{ms:MA}{ma me:ME}{p q:Ph}{H H':Hp}{S:aQ}
variable{k:Nat}{f:Addr}{fd:bi}{ps:List Str}{g:FM}{dvs:List V}{ds:BD}{dv:BH}{x:Str}{pp pos pos1 pos2 pos3 pc:ah}{c n:Str}{i nn:Nat}{BR:Stmt}{body:List Stmt}{newId:String}{up:cA->cA}
variable(K cl X)
def yS(e:af)(m:ME):Prop:=X.K=K->lM X e λE=>tP K cl E (cJ K) m
variable{K cl X}
def qE(f:FM)(ds:BH)(ms:MA):ME:=λρ S=>(oY (ms ρ S)).bind λxs S1=>frz S1.length (f (xs++ds.map .pv) S1)
def qO(ma me:ME):ME:=λρ S=>(oY (ma ρ S)).bind λu S1=>(me ρ S1).bind λv S2=>pA eI [u,v] S2
theorem lM.imp{te te':XK->TE}(h:lM X e te)(i:∀E σ H Q,te' E σ H Q->te E σ H Q):lM X e te':=λBM s σ H Q E Ex I q hx=>h BM s σ H Q E Ex I (i E σ H Q q) hx
theorem H0(hxe:X.xe=λ_ _=>False)(F:dR X.prog X.w X.K X.mg X.base (aV X.prog X.w) k f fd ps (jU K cl g))(hr:dE k X.A)(hg:Gl X x)(hm:X.mg x=some (.ref f))(hkp:dl X.K (.ref f)=true)
  (hb:gO X.K fd ps ds)(hd:bK dvs ds)(hv:Dv dv dvs)(ha:eC K cl E0 X (e::es) ms)
  (hdb:(x==("__debug__":Str))=false:=by decide)(he:starEach (e::es) X.env=(false,eval e X.env)::starEach es X.env:=by rfl)(hpl:(backTo pos (starEach es X.env)).any (·.1)=false:=by rfl):
  yS K cl X (.Call (.Name x pp) (e::es) [] pos) (qE g dv ms):=by
 intro hK;refine lM.imp (Kz hxe F hr hg hm hkp hb hd (ha hK) hdb he hpl) ?_
 rintro E σ H Q ⟨p,S,ρ,s,ev,h⟩
 refine⟨p,S,ρ,s,ev,?_⟩;unfold qE at h;cases z:ms ρ S with
 |ok xs S1=>
  rw[z]at h;intro q H1 vs st sm r;exact⟨q,S1,xs++dv.map .pv,sm,pP r (hv K q H1),sK sm (cH.mono h st)⟩
 |exc m S1=>rw[z]at h;exact h.elim
 |fail=>rw[z]at h;exact h.elim
theorem G4{x1}(hxe:X.xe=λ_ _=>False)(ha:aX K cl E0 X a ma)(he:yS K cl X e me)
  (hs:starEach [a,e] X.env=[(false,eval a X.env),(false,eval e X.env)]:=by rfl):yS K cl X (.Tuple [a,e] x1 pos) (qO ma me):=by
 intro hK;refine lM.imp (D4 hxe (ha hK) (he hK) hs) ?_
 rintro E σ H Q ⟨p,S,ρ,s,ev,h⟩
 refine⟨p,S,ρ,s,ev,?_⟩;unfold qO at h;cases z:ma ρ S with
 |exc m S1=>rw[z]at h;exact h.elim
 |fail=>rw[z]at h;exact h.elim
 |ok u S1=>
  rw[z]at h;have h:cH K cl (cJ K) p H ((me ρ S1).bind λv S2=>pA eI [u,v] S2) Q E:=h;intro q H1 u' st sm r;refine⟨q,S1,ρ,sm,st.repE ev,?_⟩;cases z2:me ρ S1 with
  |fail=>rw[z2]at h;exact h.elim
  |exc n S2=>
   rw[z2]at h;intro q2 H2 st2 sm2;exact h q2 H2 (st.trans st2) sm2
  |ok v S2=>
   rw[z2]at h;have h:cH K cl (cJ K) p H (pA eI [u,v] S2) Q E:=h;intro q2 H2 v' st2 sm2 r2 t ht;have h:=cH.mono h (st.trans st2);refine Na (r:=λxs H Q=>xs.length<=sizeLine/\∀t,H t=none->Q (.ref t) (bJ H t (.tup xs))) (f:=eI) (λ{p S H as c xs Q} s r e k=>?_) sm2 (.cons (st2.repA r) (.cons r2 .nil)) h |>.2 t ht;unfold eI at e;split at e
   .rename_i hl
    cases e;rw[r.length,<-fU]at hl;exact⟨hl,λt ht=>k _ _ (fX ht) (mE s r hl ht)⟩
   .cases e
theorem Mj{c:Addr->Prop}:∀{vs:BH},(∀v∈vs,qW v=true)->bB K c H vs (vs.map pL)
 |[],_=>.nil
 |v::vs,h=>.cons (gI (h v ay)) (Mj λu hu=>h u (bf _ hu))
theorem dC.setT{ρ:cA}{σ:St}(s:bG K p S H)(ev:dC K p H ρ σ){t:Addr}(ht:H t=none){vs:BH}(fl:∀v∈vs,qW v=true)(hl:vs.length<=sizeLine)(i:Nat):dC K p (bJ H t (.tup (vs.map pL))) (ρ.set i (some (.pv (.tup vs)))) (σ.set i (some (.ref t))):=
 ((s.same (fX ht)).repE ev).set (v:=.pv (.tup vs)) (x:=.ref t) (mE s (Mj fl) (by rw[ar];exact hl) ht) i
end
section
variable{K:ae}{cl:Str->Addr}{E:XK}{X:Cx}{a b:af}{ma mb:ME}{pos:ah}
def pE:PV->PV->BI
 |.str x,.int i=>if x.length<=16777216 then(aR x.cps.toList i).map λc=>.str ⟨#[c]⟩ else none
 |_,_=>none
theorem abx:eK K Ge pE:=λ{p S H a b c x y Q} s ra rb e k=>by
 unfold pE at e;split at e
 .rename_i z i
  split at e
  .rename_i hz
   rw[<-fU]at hz;cases w:aR z.cps.toList i with
   |none=>rw[w]at e;cases e
   |some d=>
    rw[w]at e;cases e;exact⟨z,i,d,ra.str,rb.int,hz,w,k H _ (cM.refl H) (mP _)⟩
  .cases e
 .cases e
theorem T6(ha:aX K cl E X a ma)(hb:aX K cl E X b mb)(hs:Ub b:=by intro _ _;rfl):aX K cl E X (.Subscript a b pos) (aE pE ma mb):=by
 intro hK;subst hK;refine(Mp Wo (ha rfl) (hb rfl) hs).imp ?_
 rintro σ H Q ⟨p,S,ρ,s,e,h⟩
 exact cG s e h λq H1 a x S1 st s1 e1 r1 h1=>cG s1 e1 h1 λq2 H2 b y S2 st2 s2 e2 r2 h2=>oH abx s2 (st2.repA r1) r2 h2
theorem L4{m:ME}{σ:St}{H:Hp}{Q:VK}(z:tP X.K cl E (cJ X.K) (bX gY m) σ H Q):Dr (tP X.K cl E (cJ X.K) m) σ H Q:=by
 obtain⟨p,S,ρ,s,ev,h⟩:=z;refine cG s ev h λq H' as x S' stp sm ev r k=>?_;refine sG (r:=λx H Q=>Q (.bl (decide (x=.non))) H) (f:=gY) (λ{p S H a c x Q} s ra e k=>?_) sm r k;have z:c=.bl (decide (x=.non)):=by
  cases a with
  |non=>cases ra.non;cases e;rfl
  |int i=>cases ra.int;cases e;rfl
  |bl i=>cases ra.bl;cases e;rfl
  |str i=>cases ra.str;cases e;rfl
  |tup xs=>obtain⟨a,vs,rfl,_⟩:=ra.tup;cases e;rfl
  |lst xs=>obtain⟨a,vs,rfl,_⟩:=ra.lst;cases e;rfl
 subst z;exact k H _ (cM.refl H) (by unfold bC;rfl)
theorem aaa{m:ME}{j pos'}(ha:aX K cl E X a m):eJ K cl E X (.Compare a [.Is] [.Constant .none j pos'] pos) (aZ (bX gY m)):=by
 intro hK;subst hK;refine(Sn (aav (ha rfl))).imp ?_
 rintro σ H Q ⟨p,S,ρ,s,e,h⟩
 have z:tP X.K cl E (cJ X.K) (bX gY m) σ H λx H'=>∃k,x=.bl k/\Q k H':=cG s e h λq H1 a x S1 st s1 e1 r1 h1=>vO s1 r1 h1;exact L4 z
end
end L2.Pp
namespace L2
open PySem PySem.Spec PyProof.Rows Bn
section
variable{X:Cx}{k:Nat}{p pos pos1 pos2 pos3 pc:ah}{e:af}{te:XK->TE}{c:Str}{C:Addr}{BR:Stmt}{body:List Stmt}{newId:String}
end
end L2
namespace L2.Pp
open PySem PySem.Spec PyProof.Rows Bn
section
variable{K:ae}{cl:Str->Addr}{E:XK}{X:Cx}{a b e:af}{m me:ME}{ms:MA}{pos pos1 pos2 pos3 pc:ah}{c:Str}{nn:Nat}{BR:Stmt}{body:List Stmt}{newId:String}{up:cA->cA}
def lE:BH->Option (List Str)
 |[]=>some []
 |.str x::r=>match lE r with
  |some xs=>some (x::xs)
  |none=>none
 |_=>none
theorem Ji{c:Addr->Prop}{H:Hp}:∀{xs:BH}{ts:List Str}{vs:List V},lE xs=some ts->bB K c H xs vs->vs=ts.map V.str
 |[],ts,vs,e,r=>by
  unfold bB at r;cases e;exact r
 |x::xs,ts,vs,e,r=>by
  unfold bB at r;obtain⟨v,r1,rfl,h,t⟩:=r;unfold lE at e;split at e
  .rename_i he;cases he
  .rename_i y r' he
   cases he;split at e
   .rename_i ys hy
    cases e;unfold bC at h;rw[h,Ji hy t];rfl
   .cases e
  .cases e
theorem Fk:∀{ts:List Str}{its:BD},bK (ts.map V.str) its->∃l:List (Str×dk),its=strValues l/\l.map (·.1)=ts
 |[],_,.nil=>⟨[],rfl,rfl⟩
 |t::ts,_,.cons r v=>by
  obtain⟨tk,rfl⟩:=r;obtain⟨l,rfl,rfl⟩:=Fk v;exact⟨(t,tk)::l,rfl,rfl⟩
theorem K0:As X "str.join" (λx vs H Q=>∃(z:Str)(a:Addr)(ts:List Str),x=.str z/\vs=[.ref a]/\cK X.K H a (ts.map V.str)/\ke z ts=true/\Q (.str (nv z ts)) H):=by
 intro BM s σ H x vs v us Q I rx rv h;obtain⟨z,a,ts,rfl,rfl,hq,hj,q⟩:=h;obtain⟨t,rfl⟩:=rx;obtain⟨u,rfl,ru⟩:=rv.one;cases ru;obtain⟨its,r,pl,hz⟩:=I.list hq;obtain⟨l,rfl,hl⟩:=Fk r;exact SC.join pl.isList hl hj λt' k=>⟨.str _,H,I.tok _,⟨_,rfl⟩,q⟩
def lF(z:Str):BH->BI
 |[.lst xs]=>match lE xs with
  |some ts=>if ke z ts=true then some (.str (nv z ts))else none
  |none=>none
 |_=>none
theorem Zv{z:Str}{as:BH}{c:PV}(h:lF z as=some c):∃zs ts,as=[.lst zs]/\lE zs=some ts/\ke z ts=true/\c=.str (nv z ts):=by
 unfold lF at h;split at h
 .rename_i zs
  cases w:lE zs with
  |none=>rw[w]at h;cases h
  |some ts=>
   rw[w]at h;dsimp only at h;split at h
   .rename_i hj
    cases h;exact⟨zs,ts,rfl,w,hj,rfl⟩
   .cases h
 .cases h
def jC(m:ME)(ms:MA):ME:=λρ S=>(m ρ S).bind λk S1=>bY k λx=>(ms ρ S1).bind λys S2=>fN ((fS S2 ys).bind (lF x)) S2
theorem G8{apos cpos:ah}(ho:aX K cl E X a m)(ha:eC K cl E X [e] ms)(hbase:attributeBase a "join" X.env (eval a X.env)=eval a X.env:=by rfl)
  (hfew:((backTo cpos (starEach [e] X.env)).all (λx=>!x.1)&&(backToKw cpos (keywordEach [] X.env)).all (λx=>x.1.isSome)&&decide (([e]:List af).length+([]:List iy).length+(if([]:List iy).isEmpty then 0 else 1)<30))=true:=by rfl)
  (hline:(apos.endLine==cpos.line)=true:=by rfl)(hs:starEach [e] X.env=[(false,eval e X.env)]:=by rfl):aX K cl E X (.Call (.Attribute a "join" apos) [e] [] cpos) (jC m ms):=by
 intro hK;subst hK;refine PE.imp (xG t7 PySem.F.slot_str_join PySem.F.type_str_join K0 (ho rfl) (ha rfl) hbase hfew hline hs rfl) ?_
 rintro σ H Q ⟨p,S,ρ,s,ev,h⟩
 refine cG s ev h λq H1 k x S1 st s1 e1 r1 h1=>?_;unfold bY at h1;split at h1
 .rename_i z
  have ex:=(show eP X.K q H1 (.str z) x from .inl r1).str;subst ex;refine⟨rfl,cG s1 e1 h1 λq2 H2 ys xs S2 st2 s2 e2 r2 h2=>?_⟩;obtain⟨c,ec,kk⟩:=nG s2 h2;cases y:fS S2 ys with
  |none=>rw[y]at ec;cases ec
  |some as=>
   rw[y]at ec;have rr:=vC s2 r2 y;have ec:lF z as=some c:=ec;obtain⟨zs,ts,rfl,w,hj,rfl⟩:=Zv ec;cases rr with
   |cons h t=>
    cases t;obtain⟨b0,ws,rfl,sq,lw,rw0⟩:=h.lst;rw[Ji w rw0]at sq;exact⟨z,b0,ts,rfl,rfl,sq,hj,kk H2 _ (cM.refl H2) (mP _)⟩
 .exact h1.elim
def xU:V->Bool
 |.non=>true
 |_=>false
def tQ:Value->Bool
 |.none=>true
 |_=>false
def uF(K:ae)(H:Hp):V->Prop
 |.non=>True
 |.bl _=>True
 |.int _=>True
 |.str _=>True
 |.ref a=>(∃xs,cK K H a xs)\/∃xs,dJ K H a xs
 |_=>False
theorem Zm{H:Hp}:∀{xs:List V}{us:BD},bK xs us->(∀v∈xs,uF K H v)->us.any tQ=xs.any xU
 |_,_,.nil,_=>rfl
 |y::xs,u::us,.cons r t,f=>by
  rw[km,km,Zm t λv hv=>f v (bf _ hv)];have h:=f y ay;cases y with
  |non=>cases r;rfl
  |bl b=>cases r;rfl
  |int i=>obtain⟨t,rfl⟩:=r;rfl
  |str z=>obtain⟨t,rfl⟩:=r;rfl
  |ref a=>cases r;rfl
  |_=>exact h.elim
theorem Aj{BM:List (Addr×Obj)}{σ:St}{H:Hp}{s:aa}(I:aO X BM σ H s){A:aq}(hu:A.units<cLine):∀{xs:List V}{us:BD},bK xs us->(∀v∈xs,uF X.K H v)->∀u∈us,jz A s u .none (tQ u)
 |_,_,.nil,_=>λu hu=>by cases hu
 |y::xs,u::us,.cons r t,f=>λu' hm=>by
  rcases ce.mp hm with rfl |hm
  .have h:=f y ay
   cases y with
   |non=>cases r;exact qd _
   |bl b=>cases r;exact c8 b
   |int i=>obtain⟨t,rfl⟩:=r;exact d0 i t
   |str z=>obtain⟨t,rfl⟩:=r;exact d4 z t
   |ref a=>
    cases r;rcases h with⟨zs,h⟩|⟨zs,h⟩
    .obtain⟨its,_,pl,_⟩:=I.list h
     exact SeqAt.EqAt.list_none pl.isList hu
    .obtain⟨its,_,pl,_⟩:=I.tuple h
     exact SeqAt.EqAt.tuple_none pl hu
   |_=>exact h.elim
  .exact Aj I hu t (λv hv=>f v (bf _ hv)) u' hm
def Br(K:ae):R2:=λx y H Q=>∃p xs,x=.non/\y=.ref p/\cK K H p xs/\(∀v∈xs,uF K H v)/\Q (.bl (xs.any xU)) H
theorem Zo(hu:X.A.units+8<cLine):dG X (compareOp .In) (Br X.K):=by
 intro BM s σ H x y v u Q I rx ry h;obtain⟨p,xs,rfl,rfl,hq,f,q⟩:=h;cases rx;cases ry;obtain⟨its,r,pl,hz⟩:=I.list hq;refine d6 tQ pl.isList (λw hw=>Aj I (A:=X.A.in1) (by show X.A.units+1<cLine;omega) r f w (by simpa using hw)) ⟨.bl _,H,I,rfl,?_⟩;rw[show its.toArray.any tQ=its.any tQ by simp,Zm r f];exact q
def gX:PV->Bool
 |.non=>true
 |_=>false
theorem V6{c:Addr->Prop}{H:Hp}{v:PV}{x:V}(h:bC K c H v x):uF K H x/\xU x=gX v:=by
 cases v with
 |non=>unfold bC at h;subst h;exact⟨trivial,rfl⟩
 |bl b=>unfold bC at h;subst h;exact⟨trivial,rfl⟩
 |int i=>unfold bC at h;subst h;exact⟨trivial,rfl⟩
 |str z=>unfold bC at h;subst h;exact⟨trivial,rfl⟩
 |tup xs=>
  unfold bC at h;obtain⟨a,vs,rfl,t,_,_⟩:=h;exact⟨.inr ⟨vs,t⟩,rfl⟩
 |lst xs=>
  unfold bC at h;obtain⟨a,vs,rfl,t,_,_⟩:=h;exact⟨.inl ⟨vs,t.sq⟩,rfl⟩
theorem Em{c:Addr->Prop}{H:Hp}:∀{xs:BH}{vs:List V},bB K c H xs vs->(∀v∈vs,uF K H v)/\vs.any xU=xs.any gX
 |[],vs,r=>by
  unfold bB at r;subst r;exact⟨λv hv=>absurd hv qo,rfl⟩
 |x::xs,vs,r=>by
  unfold bB at r;obtain⟨v,r1,rfl,h,t⟩:=r;obtain⟨a,b⟩:=V6 h;obtain⟨c1,d⟩:=Em t;refine⟨λw hw=>?_,by rw[km,km,b,d]⟩;rcases ce.mp hw with rfl |hw
  .exact a
  .exact c1 w hw
def gJ:PV->PV->BI
 |.non,.lst xs=>some (.bl (xs.any gX))
 |_,_=>none
theorem Op:eK K (Br K) gJ:=λ{p S H a b c x y Q} s ra rb e k=>by
 unfold gJ at e;split at e
 .cases e
  obtain⟨a1,vs,rfl,l1,z1,r1⟩:=rb.lst;obtain⟨f,g⟩:=Em r1;refine⟨a1,vs,ra.non,rfl,l1,f,?_⟩;rw[g];exact k H _ (cM.refl H) (gI (v:=.bl _) rfl)
 .cases e
end
section
variable{M:gh}{A:aq}{E:Value->aa->Prop}{s:aa}{env:bc}
def Ni(u:Value->dn Unit)(M:gh)(A:aq)(E:Value->aa->Prop)(Q:Value->aa->Prop)(acc:Value)(c:bc):mf->aa->Prop
 |.ok _,s'=>wpAny M A (u acc) (λ_ s''=>∃m,s''.heap.Ns c.locals m/\∀h',gi c.locals s''.heap h'->Q .none {s'' with heap:=h'}) E s'
 |.error x,s'=>∃m,s'.heap.Ns c.locals m/\∀h',gi c.locals s'.heap h'->wpAny M A (ue "comprehension.variables-let-go" x c:dn Value) (λ_ _=>False) E {s' with heap:=h'}
theorem Yx{u:Value->dn Unit}{e:af}{sc:Scope}{pos:ah}{newAcc first:dn Value}{g:uf}{gs:List uf}{cl:List (Str×Addr)}{Q:Value->aa->Prop}
  (hc:clausesOf e=g::gs)(hs:∀x,foldedSetIterable g.iter env x=pure x)(hcl:closureFor sc env=pure cl)(hk:sc.kind=.function)(hn:∀x∈sc.names,x.2=.local->sc.names.lookup x.1=some .local)
  (h:wpAny M A first (λx s1=>wpAny M A (pyIter x) (λit s2=>wpAny M A newAcc (λacc s3=>wpAny M A (newFunctionEnv sc env.globals cl [] env.qual none .none (some env)) (λc s4=>
    codeAny M A (.compStart e 0 it acc {c with scope:=relabel sc env}) (Ni u M A E Q acc {c with scope:=relabel sc env}) s4) E s3) E s2) E s1) E s):
  wpAny M A (comprehension e sc env pos newAcc false first (some u)) Q E s:=by
 unfold comprehension;rw[hcl,hc];refine ag (bI h λx s1 h1=>ag (ki (ag (ya (hs x) (ag (fe (bI h1 λit s2 h2=>?_)))))));refine wpAny_standIf (ag (bI h2 λacc s3 h3=>ag (au (ag (bI h3 λc s4 h4=>?_)))));dsimp only;have loc:∀x∈(sc.names.filter λx=>(x.2== .local||x.2== .cell)&&x.1 !=(".0":Str)).reverse,x.2=.local->yn {c with scope:=relabel sc env} x.1=some .local:=λx hx hl=>
  r6 (hn x (qy.mp (r8.mp hx)).1 hl)
 have loc':∀x∈(sc.names.filter λx=>(x.2== .local||x.2== .cell)&&x.1 !=(".0":Str)).reverse.drop 1++(sc.names.filter λx=>(x.2== .local||x.2== .cell)&&x.1 !=(".0":Str)).reverse.take 1,x.2=.local->yn {c with scope:=relabel sc env} x.1=some .local:=λx hx hl=>by
  rcases cu.mp hx with h1 |h1
  .exact loc x (qt h1) hl
  .exact loc x (ul h1) hl
 refine fe (ag (qm (fe (wpAny_run (mj h4 λr s' hr=>?_)))));cases r with
 |ok f=>
  refine ag (oh (ag (fe (dh hr (λ_ s'' hr'=>?_) λ_ _ h'=>h'))));obtain⟨m,hm,hr'⟩:=hr';exact ag (ug (cenv:={c with scope:=relabel sc env}) hk _ s'' m loc' hm λh' _ _ sb=>au (hr' h' sb))
 |error x=>
  obtain⟨m,hm,hr⟩:=hr;exact ag (fe (ug (cenv:={c with scope:=relabel sc env}) hk _ s' m loc hm λh' _ _ sb=>dh (hr h' sb) (λ_ _ z=>z.elim) λ_ _ y=>y))
end
end L2.Pp
namespace L2
open PySem PySem.Spec PyProof.Rows Bn L2.Pp
section
variable{P:Program}{w:ao}{K:ae}{mg:Str->BE}{base:Heap}{N:List Str}{qual:Str}{scope:Scope}{f:Addr}{cd:Value}{A:aq}{outer:List bc}{BN:aa}{BO:Hp}{E:XK}
variable{sc:Scope}{own:List Str}{cap:List (Nat×Str)}{BM:List (Addr×Obj)}{σ:St}{H:Hp}{s:aa}{elt target iter:af}{pos pos':ah}{wi:TI}{g:TG}{te:TE}{Q:VK}
theorem Ku{u:Value->dn Unit}{Qf:Value->aa->Prop}(k:iC (aW (aV P w) P w K mg base N qual scope f cd A outer BN BO E) sc own cap)(hi:PI (aW (aV P w) P w K mg base N qual scope f cd A outer BN BO E) target iter wi)(hc:(aW (aV P w) P w K mg base N qual scope f cd A outer BN BO E).calm=true)
  (hg:∀C BP H₁ ex,PG (cX (aW (aV P w) P w K mg base N qual scope f cd A outer BN BO E) sc (cY own cap) C BP H₁ ex) target g)(he:∀C BP H₁ ex E',jP (aV P w) ((cX (aW (aV P w) P w K mg base N qual scope f cd A outer BN BO E) sc (cY own cap) C BP H₁ ex).wish E') E->PE ((cX (aW (aV P w) P w K mg base N qual scope f cd A outer BN BO E) sc (cY own cap) C BP H₁ ex).wish E') elt te)(I:aO (aW (aV P w) P w K mg base N qual scope f cd A outer BN BO E) BM σ H s)(h:pD own cap wi g te σ H Q)
  (fin:∀D C s' H' m,aO (aW (aV P w) P w K mg base N qual scope f cd A outer BN BO E) BM σ H' s'->fG (aW (aV P w) P w K mg base N qual scope f cd A outer BN BO E) BM H' C->s'.heap.Ns C m->Q (.ref D) H'->wpAny (model (aW (aV P w) P w K mg base N qual scope f cd A outer BN BO E).prog (aW (aV P w) P w K mg base N qual scope f cd A outer BN BO E).w) (aW (aV P w) P w K mg base N qual scope f cd A outer BN BO E).A (u (.ref D)) (λ_ s''=>∃m,s''.heap.Ns C m/\∀h',gi C s''.heap h'->Qf .none {s'' with heap:=h'}) (aW (aV P w) P w K mg base N qual scope f cd A outer BN BO E).xe s')
  (hs:∀x,foldedSetIterable iter (aW (aV P w) P w K mg base N qual scope f cd A outer BN BO E).env x=pure x):
  wpAny (model (aW (aV P w) P w K mg base N qual scope f cd A outer BN BO E).prog (aW (aV P w) P w K mg base N qual scope f cd A outer BN BO E).w) (aW (aV P w) P w K mg base N qual scope f cd A outer BN BO E).A (comprehension (.ListComp elt [⟨target,iter,[],0⟩] sc pos) sc (aW (aV P w) P w K mg base N qual scope f cd A outer BN BO E).env pos' (newList []) false (eval iter (aW (aV P w) P w K mg base N qual scope f cd A outer BN BO E).env) (some u)) Qf (aW (aV P w) P w K mg base N qual scope f cd A outer BN BO E).xe s:=by
 refine Yx (u:=u) rfl hs (Sb (k.has I.ok)) k.kind k.names ?_;refine bI (hi BM s σ H _ I h) λv s1 h1=>bI h1 λitv s2 h2=>?_;obtain⟨it,fp,tn,J,H2,e,I2,T,st2,f2,hW⟩:=h2;subst e;refine jh (xy k.nocell (λy hy=>nomatch hy) (λh4 hns hsb=>?_) k.kind);have I3:aO (aW (aV P w) P w K mg base N qual scope f cd A outer BN BO E) BM σ (bJ H2 s2.heap.objs.size (.lst [])) {s2 with heap:=s2.heap.push {cls:=.type "list",data:=.seq ([]:BD).toArray},toks:=s2.toks}:=I2.lnew (ys:=[]) (its:=[]) .nil (io _);have hD:H2 s2.heap.objs.size=none:=I2.fresh;have ltf:∀b∈fp,b<s2.heap.objs.size:=λb hb=>by
  obtain⟨o,ho,_⟩:=T.obj _ _ st2 b hb;exact ax ho
 have f3:∀b∈fp,fG (aW (aV P w) P w K mg base N qual scope f cd A outer BN BO E) BM (bJ H2 s2.heap.objs.size (.lst [])) b:=λb hb=>⟨by rw[dA (db (ltf b hb))];exact(f2 b hb).1,(f2 b hb).2⟩;have un:Un (cQ (aW (aV P w) P w K mg base N qual scope f cd A outer BN BO E).stack) fp H2 (bJ H2 s2.heap.objs.size (.lst [])) s2.heap (s2.heap.push {cls:=.type "list",data:=.seq ([]:BD).toArray}):=Un.laid (λb u q=>aw _ q) (am _) hD;have kp:∀b o,(s2.heap.push {cls:=.type "list",data:=.seq ([]:BD).toArray}).get? b=some o->h4.get? b=some o:=λb o q=>hsb.extBut b o (db (ax q)) (aw _ q);have J0:=I3.cmp (t':=s2.toks+([]:List (Str×Value)).length) k f3 (λb hb=>cj (ltf b hb) (by rw[ku];exact qe _)) hns kp;have stat:∀{H':Hp},(∀b∈fp,H' b=none)->∀b∈fp,fG (cX (aW (aV P w) P w K mg base N qual scope f cd A outer BN BO E) sc (cY own cap) (s2.heap.push {cls:=.type "list",data:=.seq ([]:BD).toArray}).objs.size {s2 with heap:=s2.heap.push {cls:=.type "list",data:=.seq ([]:BD).toArray},toks:=s2.toks} (bJ H2 s2.heap.objs.size (.lst [])) fp) [] H' b:=λhn b hb=>
  ⟨hn b hb,(J0.ok.exf b hb).1,J0.ok.exfs b hb,.inl hb,(J0.ok.exf b hb).2,λp hp=>absurd (show p∈([]:List (Addr×Obj)) from hp) (by simp)⟩
 have st4:tn 0 h4:=T.keep _ _ _ st2 λb hb o q=>kp b o (aw _ q);have fr0:∀b∈fp,(bJ H2 s2.heap.objs.size (.lst [])) b=none:=λb hb=>(f3 b hb).1;have hCf:(s2.heap.push {cls:=.type "list",data:=.seq ([]:BD).toArray}).objs.size∉cQ (aW (aV P w) P w K mg base N qual scope f cd A outer BN BO E).stack:=λhb=>by
  obtain⟨_,o,ho,hd⟩:=I3.stack.mem hb;exact gf _ (ax ho)
 have hC0:∀o,BN.heap.get? (s2.heap.push {cls:=.type "list",data:=.seq ([]:BD).toArray}).objs.size≠some o:=λo ho=>by
  obtain⟨m,⟨oL,_,_,hoL,_⟩,_⟩:=id I3.loc;exact gf _ (xx (cj (ax ho) I3.ok.above) (ax hoL))
 have loop:codeAny (model (aW (aV P w) P w K mg base N qual scope f cd A outer BN BO E).prog (aW (aV P w) P w K mg base N qual scope f cd A outer BN BO E).w) (aW (aV P w) P w K mg base N qual scope f cd A outer BN BO E).A (.compLoop (.ListComp elt [⟨target,iter,[],0⟩] sc pos) 0 (.ref it) (.ref s2.heap.objs.size) (compEnvC sc (iO (aW (aV P w) P w K mg base N qual scope f cd A outer BN BO E).env sc.names []) (s2.heap.push {cls:=.type "list",data:=.seq ([]:BD).toArray}).objs.size (aW (aV P w) P w K mg base N qual scope f cd A outer BN BO E).env))
   (Ni u (model (aW (aV P w) P w K mg base N qual scope f cd A outer BN BO E).prog (aW (aV P w) P w K mg base N qual scope f cd A outer BN BO E).w) (aW (aV P w) P w K mg base N qual scope f cd A outer BN BO E).A (aW (aV P w) P w K mg base N qual scope f cd A outer BN BO E).xe Qf (.ref s2.heap.objs.size) (compEnvC sc (iO (aW (aV P w) P w K mg base N qual scope f cd A outer BN BO E).env sc.names []) (s2.heap.push {cls:=.type "list",data:=.seq ([]:BD).toArray}).objs.size (aW (aV P w) P w K mg base N qual scope f cd A outer BN BO E).env)) {s2 with heap:=h4,toks:=s2.toks+([]:List (Str×Value)).length}:=by
  obtain⟨W,⟨m0,w0⟩,turn⟩:=hW s2.heap.objs.size hD;refine Pm (λn s'=>∃i σ' H' ys,aO (cX (aW (aV P w) P w K mg base N qual scope f cd A outer BN BO E) sc (cY own cap) (s2.heap.push {cls:=.type "list",data:=.seq ([]:BD).toArray}).objs.size {s2 with heap:=s2.heap.push {cls:=.type "list",data:=.seq ([]:BD).toArray},toks:=s2.toks} (bJ H2 s2.heap.objs.size (.lst [])) fp) [] σ' H' s'/\tn i s'.heap/\(∀b∈fp,H' b=none)/\W i n σ' H' ys) ?_ m0
   ⟨0,_,_,[],J0,st4,fr0,w0⟩
  rintro n s5 ⟨i,σ5,H5,ys,I5,st5,fr5,w5⟩
  obtain⟨hD5,w5⟩:=turn i n σ5 H5 ys w5;rcases w5 with⟨stop,qn⟩|⟨go,hlt,step⟩
  .refine bI (T.done (cX (aW (aV P w) P w K mg base N qual scope f cd A outer BN BO E) sc (cY own cap) (s2.heap.push {cls:=.type "list",data:=.seq ([]:BD).toArray}).objs.size {s2 with heap:=s2.heap.push {cls:=.type "list",data:=.seq ([]:BD).toArray},toks:=s2.toks} (bJ H2 s2.heap.objs.size (.lst [])) fp) rfl rfl rfl hc i [] s5 σ5 H5 _ I5 (stat fr5) st5 stop) ?_
   rintro r s6 ⟨hr,I6⟩
   subst hr;obtain⟨m,hn,_⟩:=id I6.loc;exact fin _ _ s6 H5 m (I2.uncmp (s3:={s2 with heap:=s2.heap.push {cls:=.type "list",data:=.seq ([]:BD).toArray},toks:=s2.toks}) f2 un rfl I6) (I3.fpOk (am _) I6.free) hn qn
  .refine bI (T.item (cX (aW (aV P w) P w K mg base N qual scope f cd A outer BN BO E) sc (cY own cap) (s2.heap.push {cls:=.type "list",data:=.seq ([]:BD).toArray}).objs.size {s2 with heap:=s2.heap.push {cls:=.type "list",data:=.seq ([]:BD).toArray},toks:=s2.toks} (bJ H2 s2.heap.objs.size (.lst [])) fp) rfl rfl rfl hc i [] s5 σ5 H5 _ I5 (stat fr5) st5 go) ?_
   rintro r s6 ⟨u,hr,h6⟩
   subst hr;refine bI h6 ?_
   rintro _ s7 ⟨x,H7,I7,r7,y7,st7,fr7⟩
   have I7':=I7.pinned (stat fr7) (T.obj _ _ st7);refine bI (hg _ _ _ _ _ s7 σ5 H7 x u _ I7' r7 (step x H7 y7)) ?_
   rintro _ s8 ⟨σ8,H8,I8,q8⟩
   refine bI (he _ _ _ _ _ (Aq (Qf:=Qf) (acc:=.ref s2.heap.objs.size) (s3:={s2 with heap:=s2.heap.push {cls:=.type "list",data:=.seq ([]:BD).toArray},toks:=s2.toks}) I2 f2 un rfl (λH hH=>I3.fpOk (am _) hH) hCf hC0) _ s8 σ8 H8 _ (I8.wish _) q8) ?_
   rintro v9 s9 ⟨y,H9,I9,r9,hD9,m',hm,w9⟩
   have I9:=I9.unwish;refine bI (vG _ s9 σ8 H9 (.ref s2.heap.objs.size) [y] (.ref s2.heap.objs.size) [v9] (λ_ H'=>H'=bJ H9 s2.heap.objs.size (.lst (ys++[y]))) I9 rfl (.cons r9 .nil) ⟨_,ys,y,rfl,rfl,hD9,hlt,rfl⟩) ?_
   rintro _ s10 ⟨_,H10,I10,_,q10⟩
   subst q10;refine⟨m',hm,i+1,σ8,_,_,I10.unpinned,T.keep _ _ _ st7 λb hb o q=>(I10.pin (b,o) (ck _ (ck _ (mZ hb q)))).1,λb hb=>?_,w9⟩;obtain⟨o,q,d⟩:=T.obj _ _ st7 b hb;exact(I10.pin (b,o) (ck _ (ck _ (mZ hb q)))).2.1
 exact xz loop (T.self _ 0 _ _ _ st4 loop)
theorem Uy{i:Nat}{x:Str}{py spos:ah}(hN:N.Nodup)(hx:N[i]?=some x)(hl:kE (aW (aV P w) P w K mg base N qual scope f cd A outer BN BO E).env.scope x)(k:iC (aW (aV P w) P w K mg base N qual scope f cd A outer BN BO E) sc own cap)(hi:PI (aW (aV P w) P w K mg base N qual scope f cd A outer BN BO E) target iter wi)(hc:(aW (aV P w) P w K mg base N qual scope f cd A outer BN BO E).calm=true)
  (hg:∀C BP H₁ ex,PG (cX (aW (aV P w) P w K mg base N qual scope f cd A outer BN BO E) sc (cY own cap) C BP H₁ ex) target g)(he:∀C BP H₁ ex E',jP (aV P w) ((cX (aW (aV P w) P w K mg base N qual scope f cd A outer BN BO E) sc (cY own cap) C BP H₁ ex).wish E') E->PE ((cX (aW (aV P w) P w K mg base N qual scope f cd A outer BN BO E) sc (cY own cap) C BP H₁ ex).wish E') elt te)
  (hs:∀x,foldedSetIterable iter (aW (aV P w) P w K mg base N qual scope f cd A outer BN BO E).env x=pure x:=by intro _;rfl)(hsw:swapsWith (.ListComp elt [⟨target,iter,[],0⟩] sc pos) (some (.Name x py)) spos.line (aW (aV P w) P w K mg base N qual scope f cd A outer BN BO E).env=pure true:=by rfl)
  (hf:(aW (aV P w) P w K mg base N qual scope f cd A outer BN BO E).fn x=true\/(aW (aV P w) P w K mg base N qual scope f cd A outer BN BO E).env.scope.names.lookup x=some .local:=by first |exact .inl rfl |exact .inr rfl |assumption):
  PS (aW (aV P w) P w K mg base N qual scope f cd A outer BN BO E) (.Assign [.Name x py] (.ListComp elt [⟨target,iter,[],0⟩] sc pos) spos) (xW (pD own cap wi g te) (xA i)):=by
 intro BM s σ H D I h;rw[i5 _ _ _ _ hsw];refine ag (ki (ag ?_));show wpAny _ (aW (aV P w) P w K mg base N qual scope f cd A outer BN BO E).A (comprehension (.ListComp elt [⟨target,iter,[],0⟩] sc pos) sc (aW (aV P w) P w K mg base N qual scope f cd A outer BN BO E).env _ (newList []) false (eval iter (aW (aV P w) P w K mg base N qual scope f cd A outer BN BO E).env) (some (assign (.Name x py) (aW (aV P w) P w K mg base N qual scope f cd A outer BN BO E).env)) >>= λ_=>pure ()) _ _ s;refine ag (bI (Ku (u:=assign (.Name x py) (aW (aV P w) P w K mg base N qual scope f cd A outer BN BO E).env) (Qf:=λ_ s'=>SP (aW (aV P w) P w K mg base N qual scope f cd A outer BN BO E) BM D .next s') k hi hc hg he I h (λB C s' H' m I' fC hn q=>?_) hs) λ_ s' hq=>au (au hq))
 show wpAny _ _ (assign (.Name x py) (aW (aV P w) P w K mg base N qual scope f cd A outer BN BO E).env (.ref B)) _ _ s';obtain⟨o,es,ep,ho,hd,r⟩:=hn;obtain⟨f0,f1,f2,f3,f4,f5⟩:=fC;have I'':aO (aW (aV P w) P w K mg base N qual scope f cd A outer BN BO E) (BM++[(C,o)]) σ H' s':=I'.pins_of λp hp=>(cu.mp hp).elim (λz=>I'.pin p (ck _ z)) λz=>by
  have e:p=(C,o):=by simpa using z
  subst e;exact⟨ho,f0,f1,f2,λv z=>by rw[hd]at z;cases z⟩
 refine wm (lZ I'' hN hx hl (v:=.ref B) rfl (λs2 I2=>?_) hf);have pC:=I2.pin (C,o) (by simp);refine⟨m,⟨o,es,ep,pC.1,hd,r⟩,λh' sb=>⟨_,H',?_,q⟩⟩;exact(I2.unpinned).turned (t':=s2.toks) (λb o hb e=>(sb.2 b hb).trans e) f0 f1 f3 f4 f5
end
end L2
namespace L2.Pp
open PySem PySem.Spec PyProof.Rows Bn
section
variable{P:Program}{w:ao}{K:ae}{mg:Str->BE}{base:Heap}{N:List Str}{qual:Str}{scope:Scope}{f:Addr}{cd:Value}{A:aq}{outer:List bc}{BN:aa}{BO:Hp}{E:XK}{cl:Str->Addr}
variable{sc:Scope}{own:List Str}{cap:List (Nat×Str)}{elt target iter:af}{pos:ah}{mi:MI}{g:GM}{me:ME}
theorem Ox{i:Nat}{x:Str}{py spos:ah}(hN:N.Nodup)(hx:N[i]?=some x)(hl:kE (aW (aV P w) P w K mg base N qual scope f cd A outer BN BO E).env.scope x)(k:iC (aW (aV P w) P w K mg base N qual scope f cd A outer BN BO E) sc own cap)(hi:iL K cl E (aW (aV P w) P w K mg base N qual scope f cd A outer BN BO E) target iter mi)(hc:(aW (aV P w) P w K mg base N qual scope f cd A outer BN BO E).calm=true)(hg:∀C BP H₁ ex,kT K (cX (aW (aV P w) P w K mg base N qual scope f cd A outer BN BO E) sc (cY own cap) C BP H₁ ex) target g)(he:∀C BP H₁ ex E',jP (aV P w) ((cX (aW (aV P w) P w K mg base N qual scope f cd A outer BN BO E) sc (cY own cap) C BP H₁ ex).wish E') E->aX K cl E ((cX (aW (aV P w) P w K mg base N qual scope f cd A outer BN BO E) sc (cY own cap) C BP H₁ ex).wish E') elt me)
  (hs:∀x,foldedSetIterable iter (aW (aV P w) P w K mg base N qual scope f cd A outer BN BO E).env x=pure x:=by intro _;rfl)(hsw:swapsWith (.ListComp elt [⟨target,iter,[],0⟩] sc pos) (some (.Name x py)) spos.line (aW (aV P w) P w K mg base N qual scope f cd A outer BN BO E).env=pure true:=by rfl)
  (hf:(aW (aV P w) P w K mg base N qual scope f cd A outer BN BO E).fn x=true\/(aW (aV P w) P w K mg base N qual scope f cd A outer BN BO E).env.scope.names.lookup x=some .local:=by first |exact .inl rfl |exact .inr rfl |assumption):
  eT K cl E (aW (aV P w) P w K mg base N qual scope f cd A outer BN BO E) (.Assign [.Name x py] (.ListComp elt [⟨target,iter,[],0⟩] sc pos) spos) (aY i (fR own cap mi g me)):=by
 intro hK;refine PS.imp (Uy hN hx hl k (hi hK) hc (λC BP H₁ ex=>hg C BP H₁ ex hK) (λC BP H₁ ex E' ps=>he C BP H₁ ex E' ps hK) hs hsw hf) ?_
 rintro D σ H ⟨p,S,ρ,s,ev,h⟩
 have h2:tP K cl E (cJ K) (fR own cap mi g me) σ H λy H1=>D.nx (σ.set i (some y)) H1:=by
  refine⟨p,S,ρ,s,ev,?_⟩;unfold aY at h;cases z:fR own cap mi g me ρ S with
  |ok v S1=>
   rw[z]at h;exact λq H' y st sm r=>h q H' _ st sm ((st.repE ev).set r i)
  |exc n S1=>rw[z]at h;exact h
  |fail=>rw[z]at h;exact h
 obtain⟨p,S,ρ,s,ev,h⟩:=h2;exact cG s ev h λq H' xs J S' stp sm ev it kk D hD=>Oh sm ev it kk hD
end
section
variable{K:ae}
end
section
variable{K:ae}{X:Cx}
def kN(x y:Str):List Str:=match lr x y 0 x.length 1 with
 |i::_=>[jq x 0 i,y,jq x (i+y.length) x.length]
 |[]=>[x,oi,oi]
def nP(x:Str):BH->BI
 |[.str y]=>if y.length≠0/\x.length<=16777216 then some (.tup ((kN x y).map .str))else none
 |_=>none
theorem G0:uB X "str.partition" nP:=by
 intro BM s σ H x t as xs us c Q I rs ⟨p,rp⟩ hf k;unfold nP at hf;split at hf
 .rename_i y
  split at hf
  .rename_i hp
   cases hf;rw[vX rp]at rs;obtain⟨u,rfl,t',rfl⟩:=iD rs;have fin:∀(l:List (Str×dk))(h':Heap)(tk:Nat),l.map (·.1)=kN x y->l.length=3->h'=s.heap.push {cls:=.type "tuple",data:=.seq (strValues l).toArray}->EP X BM σ Q (.ref s.heap.objs.size) {s with heap:=h',toks:=tk}:=λl h' tk el l3 eh=>by
    have ev:(kN x y).map V.str=l.map λp=>V.str p.1:=by rw[<-el,di];rfl
    have hz:((kN x y).map V.str).length<=sizeLine:=by rw[ev,ar,l3,fU];omega
    subst eh;refine⟨.ref s.heap.objs.size,_,I.laid (o:=.tup ((kN x y).map V.str)) (λb ob q=>aw _ q) (am _) ⟨hz,strValues l,by rw[ev];exact Ea l,_,dq _ rfl,rfl,0,rfl⟩,rfl,?_⟩;have hnone:=I.hok.fresh (am s.heap.objs.size);refine k _ _ (fX hnone) λp S sm _=>?_;exact mE sm (Da _) hz hnone
   refine kq u4 (mq _ _ _) PySem.F.entry_str_partition (PySem.F.args_str_partition_2 _ _) (meets_str_partition x y t t' (by simpa using hp.1) (by rw[fU];exact hp.2)) ?_;cases e:lr x y 0 x.length 1 with
   |nil=>exact fin [(x,t),(oi,s.toks),(oi,s.toks)] _ _ (by unfold kN;rw[e];rfl) rfl rfl
   |cons i r=>exact fin [(jq x 0 i,s.toks),(y,t'),(jq x (i+y.length) x.length,s.toks+1)] _ _ (by unfold kN;rw[e];rfl) rfl rfl
  .cases hf
 .cases hf
end
end L2.Pp
namespace L2
open PySem PySem.Spec PyProof.Rows Bn
section
variable{prog:Program}{w:ao}{A:aq}{R:mf->aa->Prop}{s:aa}
end
section
variable{X:Cx}{sc:Scope}{own:List Str}{cap:List (Nat×Str)}{BM:List (Addr×Obj)}{σ:St}{H:Hp}{s:aa}{elt target iter cnd:af}{pos pos':ah}{wi:TI}{g:TG}{tc:TT}{te:TE}{Q:VK}
end
end L2
namespace L2.Pp
open PySem PySem.Spec PyProof.Rows Bn
theorem n1{n i:Nat}{P:Prop}(h:i<n)(p:P):∃m',m'<n-i/\(m'=n-(i+1)/\i+1<=n/\P):=⟨n-(i+1),by omega,rfl,h,p⟩
section
variable{K:ae}{cl:Str->Addr}{E:XK}{X:Cx}{p q:Ph}{H H':Hp}{S:aQ}{sc:Scope}{own:List Str}{cap:List (Nat×Str)}{elt target iter cnd:af}{pos:ah}{mi:MI}{g:GM}{mc:MT}{me:ME}
end
end L2.Pp
namespace L2
open PySem PySem.Spec PyProof.Rows Bn
open L2.Pp
section
variable{X:Cx}{BM:List (Addr×Obj)}{σ:St}{H:Hp}{s:aa}{c:Addr->Prop}{a b:Addr}{n:Bool}{k:rE n}{ks:BH}{us:BD}
theorem Xb:∀{ps:BH}{vs:List V}{i:Nat}{v:V},bB X.K c H ps vs->vs[i]?=some v->∃p,ps[i]?=some p/\bC X.K c H p v:=λ{ps vs i v} r e=>by
 have hi:i<ps.length:=by
  rw[r.length];exact(dj.mp e).1
 obtain⟨u,e1,e2⟩:=r.get (bh hi);rw[e]at e1;cases e1;exact⟨_,bh hi,e2⟩
end
end L2
namespace L2.Pp
open PySem PySem.Spec PyProof.Rows Bn
section
variable{K:ae}{cl:Str->Addr}{E:XK}{X:Cx}{p q:Ph}{H H':Hp}{S:aQ}{a b e o i v:af}{es:List af}{m md mk mv:ME}{ms:MA}{pos:ah}
end
end L2.Pp
namespace L2
open PySem PySem.Spec PyProof.Rows Bn L2.Pp
section
variable{prog:Program}{w:ao}{A:aq}{E:Value->aa->Prop}{s:aa}{it d i ep:Nat}{es:Array DictEntry}
end
section
variable{X:Cx}
end
section
variable{prog:Program}{w:ao}{A:aq}{E:Value->aa->Prop}{s:aa}{v d ep:Nat}{es:Array DictEntry}
end
section
variable{X:Cx}
end
end L2
namespace L2.Pp
open PySem PySem.Spec PyProof.Rows Bn
section
variable{K:ae}{cl:Str->Addr}{E:XK}{X:Cx}{p q:Ph}{H H':Hp}{S:aQ}{a b e o i v:af}{es:List af}{m md mk mv:ME}{ms:MA}{pos:ah}
end
end L2.Pp
namespace L2
open PySem PySem.Spec PyProof.Rows Bn
section
variable{X:Cx}
end
section
variable{X:Cx}{sc:Scope}{own:List Str}{cap:List (Nat×Str)}{BM:List (Addr×Obj)}{σ:St}{H:Hp}{s:aa}{elt target iter:af}{pos pos':ah}{wi:TI}{g:TG}{te:TE}{Q:VK}
end
end L2
namespace L2.Pp
open PySem PySem.Spec PyProof.Rows Bn
section
variable{K:ae}{cl:Str->Addr}{E:XK}{X:Cx}{p q:Ph}{H H':Hp}{S:aQ}{a b e o i v:af}{es:List af}{m ma mb md mk mv:ME}{ms:MA}{pos:ah}
variable{sc:Scope}{own:List Str}{cap:List (Nat×Str)}{elt target iter:af}{mi:MI}{g:GM}{me:ME}
end
section
variable{K:ae}{cl:Str->Addr}{E:XK}{X:Cx}{a b:af}{ma mb:ME}{pos:ah}
end
section
variable{P:Program}{w:ao}{K:ae}{mg:Str->BE}{base:Heap}{cl:Str->Addr}{x qual:Str}{st:Stmt}{f:Addr}{fd:bi}{N ps:List Str}{k np n:Nat}{b:MS}
variable{so sc sc1:Scope}{own own1:List Str}{cap cap1:List (Nat×Str)}{cd:Value}{A:aq}{outer:List bc}{s:aa}{H:Hp}{E:XK}{C:Addr}{BN:aa}{BO:Hp}{ex:List Addr}
theorem wW(a:sc.kind=.function:=by rfl)(b:∀y∈sc.names,y.2=.local->sc.names.lookup y.1=some .local:=by decide+kernel)(c:∀y∈sc.names,y.2≠.cell:=by decide+kernel)(d:∀y∈sc.names,y.2=.free->so.names.lookup y.1=some .cell:=by decide+kernel)(e:∀p∈cap,N[p.1]?=some p.2:=by decide+kernel)(g:∀p∈cap,sc.names.lookup p.2=some .free:=by decide+kernel):iC (aW gR P w K mg base N qual so f cd A outer s H E).nox sc own cap:=Pn so N rfl rfl a b c d e g
theorem cO{N ps:List Str}{sc:Scope}(a:sc.kind=.function:=by rfl)(b:sc.isCoroutine=false:=by rfl)(c:sc.isGenerator=false:=by rfl)(d:N.Nodup:=by decide+kernel)(e:N.take ps.length=ps:=by rfl)(f:∀x∈ps,sc.names.lookup x=some .local\/sc.names.lookup x=some .cell:=by decide+kernel)(g:∀y∈sc.names,y.2≠.free:=by decide+kernel):jM N ps sc:=⟨a,b,c,d,e,f,g⟩
def tT(P:Program)(w:ao)(K:ae)(mg:Str->BE)(base:Heap)(cl:Str->Addr)(x:Str)(k:Nat)(ps:List Str)(g:FM):Prop:=∃(a:Addr)(d:bi),dR P w K mg base (aV P w) k a d ps (jU K cl g)/\dR P w K mg base gR k a d ps (lI K cl g)/\gO K d ps []/\dl K (.ref a)=true/\mg x=some (.ref a)
theorem Be{g:FM}{a:Addr}{d:bi}(G:dR P w K mg base (aV P w) k a d ps (jU K cl g))(b:gO K d ps [])(kp:dl K (.ref a)=true)(n:mg x=some (.ref a)):tT P w K mg base cl x k ps g:=⟨_,_,G,x0 G,b,kp,n⟩
theorem aaQ{X:Cx}{e:af}{es:List af}{ms:MA}{pos p:ah}{k0:Nat}{g:FM}(C:tT X.prog X.w X.K X.mg X.base cl x k ps g)(hr:dE k0 X.A)(hk:k<=k0)(hg:Gl X x)(ha:eC X.K cl E0 X (e::es) ms)(hdb:(x==("__debug__":Str))=false:=by decide)(he:starEach (e::es) X.env=(false,eval e X.env)::starEach es X.env:=by rfl)(hpl:(backTo pos (starEach es X.env)).any (·.1)=false:=by rfl):
  aX X.K cl E0 X (.Call (.Name x p) (e::es) [] pos) (cL g [] ms):=by
 obtain⟨a,d,_,G,b,kk,n⟩:=C;exact K4 G (hr.mono hk) hg n kk b .nil Dv.nil ha hdb he hpl
end
structure Bx where
 P:Program
 w:ao
 K:ae
 mg:Str->BE
 base:Heap
 cl:Str->Addr
abbrev dF(B:Bx)(x:Str)(k:Nat)(ps:List Str)(g:FM):Prop:=Je B.P B.w B.K B.mg B.base B.cl x k ps g
abbrev jW(B:Bx)(x:Str)(k:Nat)(ps:List Str)(g:FM):Prop:=tT B.P B.w B.K B.mg B.base B.cl x k ps g
def HF(K:ae)(x:Str)(st:Stmt):Prop:=∃(f:Addr)(fd:bi),cm K mainGlobals x=some (some (.ref f))/\jI K x x st f fd
def XG(K:ae)(mg:Str->BE):Prop:=∃h:Heap,K.In h/\h.Ns mainGlobals mg
section
variable{B:Bx}{x:Str}{st:Stmt}{f:Addr}{fd:bi}{N ps:List Str}{k np n:Nat}{b:MS}
theorem Jn(X:XG B.K B.mg)(q:HF B.K x st):∃f fd,jI B.K x x st f fd/\dl B.K (.ref f)=true/\B.mg x=some (.ref f):=by
 obtain⟨f,fd,a,F⟩:=q;obtain⟨h,X,G⟩:=X;exact⟨f,fd,F,F.kp,fu X G a⟩
theorem aaS{K:ae}{oc:Value}{od an:BF}{osl:Array BE}{kV doc pm cdv ct:Value}(a:cm K mainGlobals x=some (some (.ref f)))(l:K.lookup f=some ⟨oc,od,.func (du x x (gW st) (eH st) (cS st) .none kV doc pm an cdv ct),osl⟩)
  (c:jj K cdv x=true)(k:dl K (.ref f)=true):HF K x st:=⟨_,_,a,Go l c k⟩
theorem Sr(F:jI B.K x x st f fd)(h:∀(kV doc pm:Value)(an:BF)(cdv ct:Value)(us:BD),us.length=ps.length->bindArgs (du x x (gW st) (eH st) (cS st) .none kV doc pm an cdv ct) ⟨us,[]⟩=pure (ps.zip us)):gO B.K fd ps []:=F.binds λkV doc pm an cdv ct us hl=>h kV doc pm an cdv ct us hl
theorem dI(X:XG B.K B.mg)(q:HF B.K x st)(S:jM N ps (cS st))(hb:N.Nodup->∀(f:Addr)(cdv:Value)(A:aq)(outer:List bc)(s:aa)(H:Hp)(E:XK),dE k (A.deeper (envOfC x (cS st) s.heap.objs.size f cdv))->gZ B.K B.cl E0 (aW gR B.P B.w B.K B.mg B.base N x (cS st) f cdv A outer s H E).nox (eH st) b)(hnp:ps.length=np:=by rfl)(hn:N.length=n:=by rfl)
  (h:∀(kV doc pm:Value)(an:BF)(cdv ct:Value)(us:BD),us.length=ps.length->bindArgs (du x x (gW st) (eH st) (cS st) .none kV doc pm an cdv ct) ⟨us,[]⟩=pure (ps.zip us):=by intro _ _ _ _ _ _ us h;rcases us with _ |⟨_,_ |⟨_,_ |⟨_,_ |⟨_,_ |⟨_,_ |⟨_,_⟩⟩⟩⟩⟩⟩<;>first |(cases h;done) |rfl |(simp at h)):dF B x (k+1) ps (bA np n b):=by
 obtain⟨f,fd,F,kp,m⟩:=Jn X q;exact⟨f,fd,Tr F S hnp hn λcdv A outer s H E hr=>hb S.nd f cdv A outer s H E hr,Sr F h,kp,m⟩
theorem lO(X:XG B.K B.mg)(q:HF B.K x st)(S:jM N ps (cS st))(hb:N.Nodup->∀(f:Addr)(cdv:Value)(A:aq)(outer:List bc)(s:aa)(H:Hp)(E:XK),dE k (A.deeper (envOfC x (cS st) s.heap.objs.size f cdv))->gZ B.K B.cl E (aW (aV B.P B.w) B.P B.w B.K B.mg B.base N x (cS st) f cdv A outer s H E) (eH st) b)(hnp:ps.length=np:=by rfl)(hn:N.length=n:=by rfl)
  (h:∀(kV doc pm:Value)(an:BF)(cdv ct:Value)(us:BD),us.length=ps.length->bindArgs (du x x (gW st) (eH st) (cS st) .none kV doc pm an cdv ct) ⟨us,[]⟩=pure (ps.zip us):=by intro _ _ _ _ _ _ us h;rcases us with _ |⟨_,_ |⟨_,_ |⟨_,_ |⟨_,_ |⟨_,_ |⟨_,_⟩⟩⟩⟩⟩⟩<;>first |(cases h;done) |rfl |(simp at h)):jW B x (k+1) ps (bA np n b):=by
 obtain⟨f,fd,F,kp,m⟩:=Jn X q;exact Be (okX F S hnp hn λcdv A outer s H E hr=>hb S.nd f cdv A outer s H E hr) (Sr F h) kp m
theorem mkR(F:jI B.K x x st f fd)(S:jM N ps (cS st))(hb:N.Nodup->∀(f:Addr)(cdv:Value)(A:aq)(outer:List bc)(s:aa)(H:Hp)(E:XK),dE k (A.deeper (envOfC x (cS st) s.heap.objs.size f cdv))->gZ B.K B.cl E0 (aW gR B.P B.w B.K B.mg B.base N x (cS st) f cdv A outer s H E).nox (eH st) b)(hnp:ps.length=np:=by rfl)(hn:N.length=n:=by rfl):dR B.P B.w B.K B.mg B.base gR (k+1) f fd ps (lI B.K B.cl (bA np n b)):=Tr F S hnp hn λcdv A outer s H E hr=>hb S.nd f cdv A outer s H E hr
theorem Vq{dsv:Array Value}(F:mO B.K x x st f fd dsv)(S:jM N ps (cS st))(hb:N.Nodup->∀(f:Addr)(cdv:Value)(A:aq)(outer:List bc)(s:aa)(H:Hp)(E:XK),dE k (A.deeper (envOfC x (cS st) s.heap.objs.size f cdv))->gZ B.K B.cl E (aW (aV B.P B.w) B.P B.w B.K B.mg B.base N x (cS st) f cdv A outer s H E) (eH st) b)(hnp:ps.length=np:=by rfl)(hn:N.length=n:=by rfl):dR B.P B.w B.K B.mg B.base (aV B.P B.w) (k+1) f fd ps (jU B.K B.cl (bA np n b)):=ack F S hnp hn λcdv A outer s H E hr=>hb S.nd f cdv A outer s H E hr
section
variable{X:Cx}{cl:Str->Addr}{E:XK}{e:af}{es:List af}{ms:MA}{pos p:ah}{k0:Nat}{g:FM}{dv:BH}
end
section
variable{P:Program}{w:ao}{K:ae}{mg:Str->BE}{base:Heap}{qual:Str}{so sc:Scope}{own:List Str}{cap:List (Nat×Str)}{cd:Value}{A:aq}{outer:List bc}{s:aa}{H:Hp}{E:XK}
theorem wJ(a:sc.kind=.function:=by rfl)(b:∀y∈sc.names,y.2=.local->sc.names.lookup y.1=some .local:=by decide+kernel)(c:∀y∈sc.names,y.2≠.cell:=by decide+kernel)(d:∀y∈sc.names,y.2=.free->so.names.lookup y.1=some .cell:=by decide+kernel)(e:∀p∈cap,N[p.1]?=some p.2:=by decide+kernel)(g:∀p∈cap,sc.names.lookup p.2=some .free:=by decide+kernel):iC (aW (aV P w) P w K mg base N qual so f cd A outer s H E) sc own cap:=Pn so N rfl rfl a b c d e g
end
end
section
variable{P:Program}{w:ao}{K:ae}{mg:Str->BE}{base:Heap}{cl:Str->Addr}{E:XK}{x:Str}{k k0:Nat}{ps:List Str}{g:FM}{e:af}{es:List af}{ms:MA}{pos p:ah}
theorem aaT{N:List Str}{qual:Str}{scope:Scope}{fo:Addr}{cd:Value}{A:aq}{outer:List bc}{BN:aa}{BO:Hp}(C:tT P w K mg base cl x k ps g)(hr:dE k0 (aW (aV P w) P w K mg base N qual scope fo cd A outer BN BO E).A)(hk:k<=k0)(hg:Gl (aW (aV P w) P w K mg base N qual scope fo cd A outer BN BO E) x)
  (ha:eC K cl E (aW (aV P w) P w K mg base N qual scope fo cd A outer BN BO E) (e::es) ms)(hdb:(x==("__debug__":Str))=false:=by decide)
  (he:starEach (e::es) (aW (aV P w) P w K mg base N qual scope fo cd A outer BN BO E).env=(false,eval e (aW (aV P w) P w K mg base N qual scope fo cd A outer BN BO E).env)::starEach es (aW (aV P w) P w K mg base N qual scope fo cd A outer BN BO E).env:=by rfl)
  (hpl:(backTo pos (starEach es (aW (aV P w) P w K mg base N qual scope fo cd A outer BN BO E).env)).any (·.1)=false:=by rfl):
  aX K cl E (aW (aV P w) P w K mg base N qual scope fo cd A outer BN BO E) (.Call (.Name x p) (e::es) [] pos) (cL g [] ms):=by
 obtain⟨a,d,GX,_,b,kk,n⟩:=C;exact Vz GX (hr.mono hk) hg n kk b .nil Dv.nil ha hdb he hpl
theorem aby{X:Cx}(hp:jP (aV X.prog X.w) X E)(C:tT X.prog X.w X.K X.mg X.base cl x k ps g)(hr:dE k0 X.A)(hk:k<=k0)(hg:Gl X x)(ha:eC X.K cl E X (e::es) ms)(hdb:(x==("__debug__":Str))=false:=by decide)(he:starEach (e::es) X.env=(false,eval e X.env)::starEach es X.env:=by rfl)(hpl:(backTo pos (starEach es X.env)).any (·.1)=false:=by rfl):
  aX X.K cl E X (.Call (.Name x p) (e::es) [] pos) (cL g [] ms):=by
 obtain⟨a,d,GX,_,b,kk,n⟩:=C;exact Jz hp GX (hr.mono hk) hg n kk b .nil Dv.nil ha hdb he hpl
end
end L2.Pp
namespace L2
open PySem PySem.Spec PySem.W PyProof.Rows Bn
section
variable{K:ae}{x D C:Addr}
theorem aaF:isSubtype (.type "type") (.type "tuple")=pure false:=by kernel_rfl
theorem aaw{M:gh}{h:Heap}(X:K.In h)(I:mH h x D)(Zt:typeIn K (.ref C)=some (.type "type"))(Zc:(clsIn K C).isSome=true)(be:mroIn K C (.type "BaseException")=some true)(no:mroIn K D (.ref C)=some false):ni M h (excMatches (.ref x) (.ref C)) false:=by
 have ty:ni M h (isType (.ref C)) true:=by
  obtain⟨cd,hc⟩:=rm.mp Zc;unfold clsIn at hc;split at hc
  .rename_i _ _ _ _ ho
   exact(yc (X _ _ ho)).andThen .now
  .cases hc
 have ex:ni M h (isExcClass (.ref C)) true:=ty.andThen (ua X be);unfold excMatches;refine kx ((looks_typeIn X Zt).andThen (by rw[aaF];exact .now)) ?_;refine kx .now ?_;refine kx (a:=PUnit.unit) ?_ ?_
 .rw[ql]
  refine kx (a:=ss PUnit.unit) (kx ex ?_) ?_
  .exact .now
  .exact .now
 .refine I.ty.andThen ?_
  refine kx (a:=(none,())) ?_ .now;rw[ql];refine kx (a:=ss (none,())) (kx (ua X no) ?_) ?_
  .exact .now
  .exact .now
end
section
variable{X:Cx}{p pos pos1 pos2 pos3 pos4 pc pd:ah}{e:af}{te:XK->TE}{c1 c2 n:Str}{C1 C2:Addr}{i:Nat}{b₁ b₂:Stmt}{body1 body2:List Stmt}{newId1 newId2:String}
theorem F9{jv:Nat}{xv:Str}{posv:ah}{ts1 ts2:Addr->Obj->TS}(stk:X.stack=X.env::X.outer)(hN:X.N.Nodup)(hi:X.N[i]?=some n)(hk:X.env.scope.names.lookup n=some .local)
  (hgc1:Gl X c1)(hmc1:X.mg c1=some (.ref C1))(hxC1:cy X.K C1 eW newId1=true)(hgc2:Gl X c2)(hmc2:X.mg c2=some (.ref C2))(hxC2:cy X.K C2 eW newId2=true)
  (Zt:um X.K (.ref C1)=some (.type "type"))(Z1:jZ X.K C1)(Zn:jy X.K C2 (.ref C1)=some false)(he:lM X e te)
  (hjv:X.N[jv]?=some xv)(hxv:kE X.env.scope xv)(hs1:∀y oe,oe.cls=.ref C1->fJ (X.mk1 y [(y,oe)]) (b₁::body1) (ts1 y oe))(hs2:∀y oe,oe.cls=.ref C2->fJ (X.mk1 y [(y,oe)]) (b₂::body2) (ts2 y oe))
  (hsw:swapsWith e (some (.Name xv posv)) pos1.line X.env=pure false:=by rfl)
  (hfv:X.fn xv=true\/X.env.scope.names.lookup xv=some .local:=by first |exact .inl rfl |exact .inr rfl |assumption)
  (hfr:X.env.frame=some X.env.locals:=by rfl)
  (hdc1:(c1==("__debug__":Str))=false:=by decide)(hdc2:(c2==("__debug__":Str))=false:=by decide):
  PS X (.Try [.Assign [.Name xv posv] e pos1] [.ExceptHandler (some (.Name c1 pc)) (some n) (b₁::body1) pos2,.ExceptHandler (some (.Name c2 pd)) (some n) (b₂::body2) pos4] [] [] pos3)
   (λD σ H=>te (λcls _ H2=>(cls=.ref C1/\∀y oe,oe.cls=.ref C1->ts1 y oe {nx:=λσ' H'=>D.nx (σ'.set i none) H',rt:=D.rt,bk:=λσ' H'=>D.bk (σ'.set i none) H',ct:=λσ' H'=>D.ct (σ'.set i none) H'} (σ.set i (some (.ref y))) H2)\/
    (cls=.ref C2/\∀y oe,oe.cls=.ref C2->ts2 y oe {nx:=λσ' H'=>D.nx (σ'.set i none) H',rt:=D.rt,bk:=λσ' H'=>D.bk (σ'.set i none) H',ct:=λσ' H'=>D.ct (σ'.set i none) H'} (σ.set i (some (.ref y))) H2)) σ H (λv H2=>D.nx (σ.set jv (some v)) H2)):=by
 intro BM s σ H D I h;refine wpAny_Try_except (wl (wpAny_Assign_Name (dh (he BM s σ H _ _ _ I h (λs1 H1 e' s' I1 cx=>?_)) (λv s1 q=>?_) λe' s1 z=>z) hsw));rotate_left
 .obtain⟨v,H1,I1,rv,q⟩:=q
  exact lZ I1 hN hjv hxv rv (λs2 I2=>og (og ⟨_,H1,I2,q⟩)) hfv
 obtain⟨y,C',tt,B,H',rfl,os,bare,un,hok,fl,cov,hE⟩:=cx;rw[stk]at fl;have fr:∀b∈cQ X.stack,H' b=none:=λb hb=>by
  obtain⟨_,o,ho,hd⟩:=I1.stack.mem hb;exact un.free b o ho (I1.stkFree b hb) (by intro z;cases z)
 have ff:X.A.frames=some (X.env::X.outer):=by rw[I.ok.frames,stk]
 refine wpAny_looks_onW (base:=B) ff hfr fl λh2 held up2=>?_;refine wpAny_landsW (base:=B) held λh3 fl3 up3=>?_;have up:=Lb up2 up3;have I3:=I1.flown os bare un hok cov fr fl3.1 up;rcases hE with⟨hC',hts⟩|⟨hC',hts⟩
 .cases hC'
  refine yq ?_ (by intro z;cases z);refine yr (oQ (X:=X.mk1 y []) (I3.mk1 y [] λp hp=>nomatch hp) hgc1 hmc1 ?_ hdc1);obtain⟨bm,Nn,nm,qn,bs,hdct,sn,sub,ab,col,dd,k0,k1,k2,k3,k5,mN,hC,hNs,hni,T⟩:=Kb I.ok.mod.kin hxC1;obtain⟨oe,vs,TT,oT,tts,hoe,⟨hcls,_⟩,hdat,_⟩:=fl3.2.2.2;refine u5 (I3.bk _ _ hC) hoe hcls (T.hasType (by decide)) ?_;refine u6 (lands_againW (base:=B) fl3 λh4 fl4 up4=>?_);have I4:=I1.flown os bare un hok cov fr fl4.1 (Lb up up4);obtain⟨oe,vs,TT,oT,tts,hoe,⟨hcls,_⟩,hdat,_⟩:=fl4.2.2.2;have I5:aO (X.mk1 y [(y,oe)]) BM σ H' _:=I4.mk1 y [(y,oe)] λp hp=>by
   rw[ui]at hp;subst hp;have nfr:y∉cQ X.stack:=λz=>by
    obtain⟨_,o,ho,hd⟩:=I4.stack.mem z;have hoe':h4.get? y=some oe:=hoe;have ho':h4.get? y=some o:=ho;rw[hoe']at ho';cases ho';exact hd vs hdat
   refine⟨hoe,?_,?_,?_,λv z=>?_⟩
   .cases hq:H' y with
    |none=>rfl
    |some u=>
     obtain⟨o2,g⟩:=(hok y u hq).has;have:=cov y o2 g (.inl ⟨u,hq⟩);rw[fl4.2.1]at this;cases this
   .intro z
    refine nfr ?_;rw[stk];exact jw.mpr ⟨X.env,ay,by rw[hfr];exact congrArg some z.symm⟩
   .intro z
    refine nfr ?_;rw[stk];obtain⟨env,hm,hq⟩:=jw.mp z;exact jw.mpr ⟨env,bf _ hm,hq⟩
   .have:oe.data=.cell v:=z
    rw[hdat]at this;cases this
  refine lZ (X:=X.mk1 y [(y,oe)]) (v:=.ref y) I5 hN hi (.inl hk) rfl (λs6 I6=>?_) (.inr hk);refine dh (hs1 y oe hcls BM s6 _ H' _ I6 (hts y oe hcls)) (λfl s7 q7=>?_) λ_ _ z=>fj z;cases fl with
  |next=>obtain⟨σ',H7,I7,q⟩:=q7;exact mX (I7.unmk1 I.ok) hN hi hk λs8 I8=>⟨_,_,I8,q⟩
  |brk=>obtain⟨σ',H7,I7,q⟩:=q7;exact mX (I7.unmk1 I.ok) hN hi hk λs8 I8=>⟨_,_,I8,q⟩
  |cont=>obtain⟨σ',H7,I7,q⟩:=q7;exact mX (I7.unmk1 I.ok) hN hi hk λs8 I8=>⟨_,_,I8,q⟩
  |ret u=>obtain⟨v,σ',H7,I7,r,q⟩:=q7;exact mX (I7.unmk1 I.ok) hN hi hk λs8 I8=>⟨v,_,_,I8,r,q⟩
 .cases hC'
  refine yq ?_ (by intro z;cases z);refine yr (oQ (X:=X.mk1 y []) (I3.mk1 y [] λp hp=>nomatch hp) hgc1 hmc1 ?_ hdc1);have of:mH h3 y C2:=by
   obtain⟨oe,vs,TT,oT,tts,hoe,⟨hcls,_⟩,hdat,_⟩:=fl3.2.2.2;exact⟨oe,hoe,hcls⟩
  refine Looks.at (aaw I3.kIn of Zt Z1.ci Z1.be Zn) ?_;show wpAny _ _ (handleBy _ _ _) _ _ _;refine yq ?_ (by intro z;cases z);refine yr (oQ (X:=X.mk1 y []) (I3.mk1 y [] λp hp=>nomatch hp) hgc2 hmc2 ?_ hdc2);obtain⟨bm,Nn,nm,qn,bs,hdct,sn,sub,ab,col,dd,k0,k1,k2,k3,k5,mN,hC,hNs,hni,T⟩:=Kb I.ok.mod.kin hxC2;obtain⟨oe,vs,TT,oT,tts,hoe,⟨hcls,_⟩,hdat,_⟩:=fl3.2.2.2;refine u5 (I3.bk _ _ hC) hoe hcls (T.hasType (by decide)) ?_;refine u6 (lands_againW (base:=B) fl3 λh4 fl4 up4=>?_);have I4:=I1.flown os bare un hok cov fr fl4.1 (Lb up up4);obtain⟨oe,vs,TT,oT,tts,hoe,⟨hcls,_⟩,hdat,_⟩:=fl4.2.2.2;have I5:aO (X.mk1 y [(y,oe)]) BM σ H' _:=I4.mk1 y [(y,oe)] λp hp=>by
   rw[ui]at hp;subst hp;have nfr:y∉cQ X.stack:=λz=>by
    obtain⟨_,o,ho,hd⟩:=I4.stack.mem z;have hoe':h4.get? y=some oe:=hoe;have ho':h4.get? y=some o:=ho;rw[hoe']at ho';cases ho';exact hd vs hdat
   refine⟨hoe,?_,?_,?_,λv z=>?_⟩
   .cases hq:H' y with
    |none=>rfl
    |some u=>
     obtain⟨o2,g⟩:=(hok y u hq).has;have:=cov y o2 g (.inl ⟨u,hq⟩);rw[fl4.2.1]at this;cases this
   .intro z
    refine nfr ?_;rw[stk];exact jw.mpr ⟨X.env,ay,by rw[hfr];exact congrArg some z.symm⟩
   .intro z
    refine nfr ?_;rw[stk];obtain⟨env,hm,hq⟩:=jw.mp z;exact jw.mpr ⟨env,bf _ hm,hq⟩
   .have:oe.data=.cell v:=z
    rw[hdat]at this;cases this
  refine lZ (X:=X.mk1 y [(y,oe)]) (v:=.ref y) I5 hN hi (.inl hk) rfl (λs6 I6=>?_) (.inr hk);refine dh (hs2 y oe hcls BM s6 _ H' _ I6 (hts y oe hcls)) (λfl s7 q7=>?_) λ_ _ z=>fj z;cases fl with
  |next=>obtain⟨σ',H7,I7,q⟩:=q7;exact mX (I7.unmk1 I.ok) hN hi hk λs8 I8=>⟨_,_,I8,q⟩
  |brk=>obtain⟨σ',H7,I7,q⟩:=q7;exact mX (I7.unmk1 I.ok) hN hi hk λs8 I8=>⟨_,_,I8,q⟩
  |cont=>obtain⟨σ',H7,I7,q⟩:=q7;exact mX (I7.unmk1 I.ok) hN hi hk λs8 I8=>⟨_,_,I8,q⟩
  |ret u=>obtain⟨v,σ',H7,I7,r,q⟩:=q7;exact mX (I7.unmk1 I.ok) hN hi hk λs8 I8=>⟨v,_,_,I8,r,q⟩
end
end L2
namespace L2.Pp
open PySem PySem.Spec PyProof.Rows Bn
section
variable{K:ae}{cl:Str->Addr}{E:XK}{X:Cx}{p pos pos1 pos2 pos3 pos4 pc pd:ah}{e:af}{me:ME}{c1 c2 n:Str}{i nn:Nat}{b₁ b₂:Stmt}{body1 body2:List Stmt}{newId1 newId2:String}{up1 up2:cA->cA}
def qT(me:ME)(c1 c2:Str)(nn j:Nat)(up1 up2:cA->cA):MS:=λρ S=>if ρ.length=nn then(match me ρ S with
 |.ok v S2=>.nx (ρ.set j (some v)) S2
 |.exc n S2=>if n=c1 then .nx (up1 ρ) S2 else if n=c2 then .nx (up2 ρ) S2 else .fail
 |.fail=>.fail)else .fail
theorem D9{jv:Nat}{xv:Str}{posv:ah}{ts1 ts2:Addr->Obj->TS}(stk:X.stack=X.env::X.outer)(hN:X.N.Nodup)(hi:X.N[i]?=some n)(hk:X.env.scope.names.lookup n=some .local)
  (hgc1:Gl X c1)(hmc1:X.mg c1=some (.ref (cl c1)))(hxC1:cy X.K (cl c1) eW newId1=true)(hgc2:Gl X c2)(hmc2:X.mg c2=some (.ref (cl c2)))(hxC2:cy X.K (cl c2) eW newId2=true)
  (Zt:um X.K (.ref (cl c1))=some (.type "type"))(Z1:jZ X.K (cl c1))(Zn:jy X.K (cl c2) (.ref (cl c1))=some false)(he:yS K cl X e me)
  (hjv:X.N[jv]?=some xv)(hxv:kE X.env.scope xv)(hs1:∀y oe,oe.cls=.ref (cl c1)->fJ (X.mk1 y [(y,oe)]) (b₁::body1) (ts1 y oe))(hs2:∀y oe,oe.cls=.ref (cl c2)->fJ (X.mk1 y [(y,oe)]) (b₂::body2) (ts2 y oe))
  (hts1:∀(y:Addr)(oe:Obj)(D:kO)(σ:St)(H:Hp)(p:Ph)(S:aQ)(ρ:cA),bG K p S H->σ.length=nn->dC K p H ρ σ->(∀H' σ',cM H H'->dC K p H' (up1 ρ) σ'->D.nx σ' H')->
   ts1 y oe {nx:=λσ' H'=>D.nx (σ'.set i none) H',rt:=D.rt,bk:=λσ' H'=>D.bk (σ'.set i none) H',ct:=λσ' H'=>D.ct (σ'.set i none) H'} (σ.set i (some (.ref y))) H)
  (hts2:∀(y:Addr)(oe:Obj)(D:kO)(σ:St)(H:Hp)(p:Ph)(S:aQ)(ρ:cA),bG K p S H->σ.length=nn->dC K p H ρ σ->(∀H' σ',cM H H'->dC K p H' (up2 ρ) σ'->D.nx σ' H')->
   ts2 y oe {nx:=λσ' H'=>D.nx (σ'.set i none) H',rt:=D.rt,bk:=λσ' H'=>D.bk (σ'.set i none) H',ct:=λσ' H'=>D.ct (σ'.set i none) H'} (σ.set i (some (.ref y))) H)
  (hsw:swapsWith e (some (.Name xv posv)) pos1.line X.env=pure false:=by rfl)
  (hfv:X.fn xv=true\/X.env.scope.names.lookup xv=some .local:=by first |exact .inl rfl |exact .inr rfl |assumption)
  (hfr:X.env.frame=some X.env.locals:=by rfl)
  (hdc1:(c1==("__debug__":Str))=false:=by decide)(hdc2:(c2==("__debug__":Str))=false:=by decide):
  eT K cl E0 X (.Try [.Assign [.Name xv posv] e pos1] [.ExceptHandler (some (.Name c1 pc)) (some n) (b₁::body1) pos2,.ExceptHandler (some (.Name c2 pd)) (some n) (b₂::body2) pos4] [] [] pos3) (qT me c1 c2 nn jv up1 up2):=by
 intro hK;refine PS.imp (F9 stk hN hi hk hgc1 hmc1 hxC1 hgc2 hmc2 hxC2 Zt Z1 Zn (he hK) hjv hxv hs1 hs2 hsw hfv hfr hdc1 hdc2) ?_
 rintro D σ H ⟨p,S,ρ,s,ev,h⟩
 unfold qT at h;split at h
 .rename_i hl
  refine⟨p,S,ρ,s,ev,?_⟩;cases z:me ρ S with
  |ok v S2=>
   simp only[z]at h;intro q2 H2 y st2 sm2 r2;exact h q2 H2 _ st2 sm2 ((st2.repE ev).set r2 jv)
  |exc m S2=>
   simp only[z]at h;split at h
   .rename_i hm
    subst hm;intro q2 H2 st2 sm2;refine .inl ⟨rfl,λy oe hc=>hts1 y oe D σ H2 q2 S2 ρ sm2 (by rw[<-ev.len];exact hl) (st2.repE ev) λH' σ' hs e'=>h q2 H' σ' (st2.trans (sm2.same hs)) (sm2.ofSame hs) e'⟩
   .split at h
    .rename_i hm
     subst hm;intro q2 H2 st2 sm2;refine .inr ⟨rfl,λy oe hc=>hts2 y oe D σ H2 q2 S2 ρ sm2 (by rw[<-ev.len];exact hl) (st2.repE ev) λH' σ' hs e'=>h q2 H' σ' (st2.trans (sm2.same hs)) (sm2.ofSame hs) e'⟩
    .exact h.elim
  |fail=>simp only[z]at h;exact h.elim
 .exact h.elim
def wI(x:Str)(n:Int):Str:=if n<1 then oi else if(n==1||x.length==0)=true then x else {cps:=kn (λx1 x2=>x1++x2) #[] (bn n.toNat x.cps)}
def qN:PV->PV->BI
 |.str x,.int n=>if x.length<=1000/\-1000<=n/\n<=1000 then some (.str (wI x n))else none
 |_,_=>none
theorem Ww:dG X (binaryOp .Mult) (λx y H Q=>∃i n,x=.str i/\y=.int n/\i.length<=1000/\-1000<=n/\n<=1000/\Q (.str (wI i n)) H):=by
 intro BM s σ H x y v u Q I rx ry h;obtain⟨i,n,rfl,rfl,h1,h2,h3,q⟩:=h;obtain⟨t,rfl⟩:=rx;obtain⟨t',rfl⟩:=ry;have lz:∀{m:Nat},m<=1000->i.length*m<=1000000:=λ{m} hm=>uo h1 hm;have ls:(1000000:Nat)<=sizeLine:=by decide
 refine P.mul_str (by simp;omega) (λa _=>?_) (λa _=>?_) ?_
 .have e:(9007199254740991:Int)<=(2^63-1)/n:=by
   refine Int.le_ediv_of_mul_le (by omega) ?_;have:=Int.mul_le_mul_of_nonneg_left h3 (show(0:Int)<=9007199254740991 by decide);omega
  omega
 .unfold Builtin.Str.tooLong
  have:=lz (m:=n.toNat) (by omega);simp;omega
 .unfold wI at q
  split
  .rename_i c
   rw[if_pos c]at q;exact⟨by decide,.str _,H,I.tok _,⟨_,rfl⟩,q⟩
  .rename_i c
   rw[if_neg c]at q;split
   .rename_i d
    rw[if_pos d]at q;exact⟨.str _,H,I,⟨_,rfl⟩,q⟩
   .rename_i d
    rw[if_neg d]at q;refine⟨?_,.str _,H,I.tok _,⟨_,rfl⟩,q⟩;have f0:∀(m:Nat)(acc:Array Nat),(kn (λx1 x2=>x1++x2) acc (bn m i.cps)).size=acc.size+m*i.cps.size:=λm=>by
     induction m with
     |zero=>simp
     |succ m ih=>intro acc;rw[ik,xi,ih,Array.size_append,sj];omega
    show(kn (λx1 x2=>x1++x2) #[] (bn n.toNat i.cps)).size<=sizeLine;rw[f0];have:=lz (m:=n.toNat) (by omega);have e:i.length=i.cps.size:=rfl;rw[e,ud]at this;simp;omega
theorem Bz:eK K (λx y H Q=>∃i n,x=.str i/\y=.int n/\i.length<=1000/\-1000<=n/\n<=1000/\Q (.str (wI i n)) H) qN:=λ{p S H a b c x y Q} s ra rb e k=>by
 unfold qN at e;split at e
 .split at e
  .rename_i h
   cases e;exact⟨_,_,ra.str,rb.int,h.1,h.2.1,h.2.2,k H _ (cM.refl H) (mP _)⟩
  .cases e
 .cases e
end
theorem Xn:bootBuiltins "len"=some (.builtin "len"):=by decide+kernel
theorem U5:bootBuiltins "abs"=some (.builtin "abs"):=by decide+kernel
theorem Y6:bootBuiltins "all"=some (.builtin "all"):=by decide+kernel
theorem aaz:bootBuiltins "sum"=some (.builtin "sum"):=by decide+kernel
theorem Gx:bootBuiltins "sorted"=some (.builtin "sorted"):=by decide+kernel
theorem Wc:bootBuiltins "int"=some (.type "int"):=by decide+kernel
theorem P9:bootBuiltins "bool"=some (.type "bool"):=by decide+kernel
theorem N6:bootBuiltins "list"=some (.type "list"):=by decide+kernel
theorem Vk:bootBuiltins "tuple"=some (.type "tuple"):=by decide+kernel
end L2.Pp
set_option Elab.async false
set_option compiler.extract_closed false
set_option bootstrap.genMatcherCode false
set_option maxRecDepth 100000
set_option maxHeartbeats 4000000
namespace Sc
noncomputable section
open PySem L2 Bn L2.Pp
abbrev Tn:Stmt:=bE 8
abbrev Si:Stmt:=bE 9
abbrev Gi:Stmt:=bE 10
abbrev sB:Stmt:=bE 11
abbrev sR:Stmt:=bE 13
abbrev Bi:Stmt:=bE 14
abbrev Zf:Stmt:=bE 15
abbrev Qp:Stmt:=bE 16
abbrev Nk:Stmt:=bE 17
abbrev Sf:Stmt:=bE 18
abbrev Oo:Stmt:=bE 19
abbrev Ui:Stmt:=bE 21
abbrev Cp:Stmt:=bE 23
abbrev Ze:Stmt:=bE 30
abbrev Jg:Stmt:=bE 31
abbrev Xf:Stmt:=bE 32
abbrev Eg:Stmt:=bE 33
abbrev Hf:Stmt:=bE 34
abbrev Ah:Stmt:=bE 35
abbrev Og:Stmt:=bE 36
abbrev Gg:Stmt:=bE 37
abbrev Lf:Stmt:=bE 38
abbrev Qo:Stmt:=bE 40
abbrev Dn:Stmt:=bE 41
abbrev Co:Stmt:=bE 42
abbrev Ki:Stmt:=bE 43
abbrev Yj:Stmt:=bE 44
abbrev Ti:Stmt:=bE 45
abbrev Cn:Stmt:=bE 46
abbrev Ap:Stmt:=bE 47
abbrev Ik:Stmt:=bE 48
abbrev Do:Stmt:=bE 49
abbrev Ym:Stmt:=bE 50
abbrev So:Stmt:=bE 51
abbrev Ai:Stmt:=bE 52
abbrev Ag:Stmt:=bE 53
abbrev Af:Stmt:=bE 54
abbrev Ef:Stmt:=bE 55
abbrev Zg:Stmt:=bE 56
abbrev Yh:Stmt:=bE 57
abbrev Zh:Stmt:=bE 58
abbrev Bg:Stmt:=bE 59
abbrev Yg:Stmt:=bE 60
abbrev Rf:Stmt:=bE 61
abbrev Ih:Stmt:=bE 62
abbrev Fi:Stmt:=bE 63
abbrev Uj:Stmt:=bE 64
abbrev Df:Stmt:=bE 65
abbrev Ng:Stmt:=bE 66
abbrev Vf:Stmt:=bE 67
abbrev Of:Stmt:=bE 68
abbrev Tk:Stmt:=bE 69
abbrev nR:Stmt:=bE 70
def Yc:MS:=(aS (bP (aZ (aE gF (aA 0) (mC (.int 0)))) (bH (mC (.int 1))) bQ)
 (aS (bP (aZ (aE gK (aA 0) (mC (.int 0)))) (bH (bX cW (mC (.int 1)))) bQ)
 (bH (mC (.int 0)))))
def oU:FM:=bA 1 1 Yc
def Fa:MS:=(aS (nK (aZ (aE fE (aA 1) (mC (.int 0)))) (aS (aY 2 (aE fT (aA 0) (aA 1)))
 (aS (aY 0 (aA 1))
 (aY 1 (aA 2)))))
 (bH (mR eY (aC (aA 0) aF))))
def pU:FM:=bA 2 3 Fa
def Ba:MS:=(aS (aY 1 (mC (.int 0)))
 (aS (dB (bN (aA 0)) (gN 2) (aY 1 (bD pU [] (aC (aA 1) (aC (aA 2) aF)))))
 (bH (bO ["number"] [(1,"common")] (bN (aA 0)) (gN 0) (aE eO (aA 0) (aA 1))))))
def uY:FM:=bA 1 3 Ba
def zY:MS:=(aS (bP (aZ (aE bM (aA 1) (mC (.int 0)))) (mF "NoNumber") bQ)
 (aS (aY 2 (aE bF (bD oU [] (aC (aA 1) aF)) (bD pU [] (aC (aA 0) (aC (aA 1) aF)))))
 (bH (mN eI (aC (aE eO (aA 0) (aA 2)) (aC (aE eO (aA 1) (aA 2)) aF))))))
def nB:FM:=bA 2 3 zY
def Bc:MS:=(aS (bP (aZ (aE bM (aA 1) (mC (.int 0)))) (mF "NoPoint") bQ)
 (bH (mR jX (aC (bO ["number"] [(1,"bottom")] (bN (bD uY [] (aC (aE aH (mR oS (aC (aA 0) aF)) (mN dW (aC (aA 1) aF))) aF))) (gN 0) (aE bF (bD oU [] (aC (aA 1) aF)) (aA 0))) aF))))
def oN:FM:=bA 2 2 Bc
def uW:MS:=(aS (aY 1 (mC (.int 1)))
 (aS (dB (bN (aA 0)) (gN 2) (aY 1 (aE bF (aA 1) (aE aG (aA 2) (mC (.int 1))))))
 (bH (cL oN [] (aC (bO ["part"] [(1,"bottom")] (bN (aA 0)) (gN 0) (aE bF (aE aG (aA 0) (mC (.int 0))) (aE eO (aA 1) (aE aG (aA 0) (mC (.int 1)))))) (aC (aA 1) aF))))))
def mY:FM:=bA 1 3 uW
def zF:MS:=(bH (bO ["near","far"] [(0,"start"),(1,"end")] (kQ (aC (dY (aA 0) bV (bW (bX cW (mC (.int 1))))) (aC (dY (aA 1) bV (bW (bX cW (mC (.int 1))))) aF))) (gT 2 (cP (gN 0) (cP (gN 1) eB))) (aE dN (aE bF (aA 1) (aE aG (aA 2) (bX cW (mC (.int 1))))) (aE bF (aA 0) (aE aG (aA 3) (bX cW (mC (.int 1))))))))
def pO:FM:=bA 2 2 zF
def Nd:MS:=(bH (mR jT (aC (bO ["one","other"] [] (kQ (aC (aA 0) (aC (aA 1) aF))) (gT 2 (cP (gN 0) (cP (gN 1) eB))) (aE bF (aA 0) (aA 1))) aF)))
def wV:FM:=bA 2 2 Nd
def vN:MS:=(aS (aY 1 (aE aG (aA 0) (mC (.int 0))))
 (aS (bP (aZ (aE bM (mR bR (aC (aA 0) aF)) (mC (.int 1)))) (bH (mN dW (aC (bX cW (aE aG (aA 1) (mC (.int 1)))) (aC (aE aG (aA 1) (mC (.int 0))) aF)))) bQ)
 (aS (aY 2 (aE aG (aA 0) (mC (.int 1))))
 (bH (mN dW (aC (aE dN (aE bF (aE aG (aA 1) (mC (.int 1))) (aE aG (aA 2) (mC (.int 2)))) (aE bF (aE aG (aA 1) (mC (.int 2))) (aE aG (aA 2) (mC (.int 1))))) (aC (aE dN (aE bF (aE aG (aA 1) (mC (.int 2))) (aE aG (aA 2) (mC (.int 0)))) (aE bF (aE aG (aA 1) (mC (.int 0))) (aE aG (aA 2) (mC (.int 2))))) (aC (aE dN (aE bF (aE aG (aA 1) (mC (.int 0))) (aE aG (aA 2) (mC (.int 1)))) (aE bF (aE aG (aA 1) (mC (.int 1))) (aE aG (aA 2) (mC (.int 0))))) aF))))))))
def pX:FM:=bA 1 3 vN
def uI:MS:=(aS (aY 1 (bO ["p"] [(0,"points")] (bN (dY (aA 0) (bW (mC (.int 1))) bV)) (gN 0) (bD pO [] (aC (aE aG (aA 1) (mC (.int 0))) (aC (aA 0) aF)))))
 (bH (bD wV [] (aC (bD pX [] (aC (dY (aA 1) bV (bW (bX cW (mC (.int 1))))) aF)) (aC (aE aG (aA 1) (bX cW (mC (.int 1)))) aF)))))
def pN:FM:=bA 1 2 uI
def wE:MS:=(bH (bD oU [] (aC (bD pN [] (aC (aA 0) aF)) aF)))
def oR:FM:=bA 1 1 wE
def sC:MS:=(aS (aY 1 (mR qB (aC (aA 0) aF)))
 (aS (aY 2 (bD oR [] (aC (aA 1) aF)))
 (aS (bP (aZ (aE bM (aA 2) (mC (.int 0)))) (mF "Flat") bQ)
 (aS (bP (aZ (aE gK (aA 2) (mC (.int 0)))) (aY 1 (aE aH (dY (aA 1) bV (bW (bX cW (mC (.int 2))))) (mN dW (aC (aE aG (aA 1) (bX cW (mC (.int 1)))) (aC (aE aG (aA 1) (bX cW (mC (.int 2)))) aF))))) bQ)
 (bH (mR jX (aC (aA 1) aF)))))))
def kF:FM:=bA 1 3 sC
def wS:MS:=(aS (bP (gB (aZ (aE fE (aA 0) (mC (.int 1)))) (aZ (aE fE (aA 0) (bX cW (mC (.int 1)))))) (mF "NoMove") bQ)
 (bH (mN eI (aC (aA 0) (aC (aA 1) aF)))))
def qI:FM:=bA 2 2 wS
def yX:MS:=(bP (eQ (aZ (aA 0))) (mF "NoText") bQ)
def jK:FM:=bA 1 1 yX
def zG:MS:=(aS (eA (cL jK [] (aC (oZ (iA kA kA (mC (.int 1)) (mR fY (aC (aA 0) aF)) (mC (.int 60))) (mR gA (aC (bO ["sign"] [] (mL (aA 0)) (gN 0) (aE kP (aA 0) (mC (.str "0123456789")))) aF))) aF)))
 (bH (mR iY (aC (aA 0) aF))))
def iI:FM:=bA 1 1 zG
def lS:MS:=(aS (aY 1 (bS fL (aA 0) (aC (mC (.str "/")) aF)))
 (aS (eA (cL jK [] (aC (aE kA (mR bR (aC (aA 1) aF)) (mC (.int 2))) aF)))
 (aS (aY 2 (bS kI (aE aG (aA 1) (mC (.int 0))) (aC (mC (.str "-")) aF)))
 (aS (aY 3 (cL iI [] (aC (oE (aZ (aA 2)) (cR (aE aG (aA 1) (mC (.int 0))) (bW (mC (.int 1))) bV) (aE aG (aA 1) (mC (.int 0)))) aF)))
 (aS (aY 4 (oE (aZ (aE bM (mR bR (aC (aA 1) aF)) (mC (.int 2)))) (cL iI [] (aC (aE aG (aA 1) (mC (.int 1))) aF)) (mC (.int 1))))
 (aS (eA (cL jK [] (aC (aE fE (aA 4) (mC (.int 0))) aF)))
 (bH (cL nB [] (aC (oE (aZ (aA 2)) (bX cW (aA 3)) (aA 3)) (aC (aA 4) aF))))))))))
def eM:FM:=bA 1 5 lS
def uJ:MS:=(aS (aY 1 (fR ["text"] [] (bN (bS fL (aA 0) (aC (mC (.str " ")) aF))) (gN 0) (cL eM [] (aC (aA 0) aF))))
 (aS (eA (cL jK [] (aC (tO (aE bM (mR bR (aC (aA 1) aF)) (mC (.int 2))) (aE bM (mR bR (aC (aA 1) aF)) (mC (.int 3)))) aF)))
 (bH (bD mY [] (aC (aA 1) aF)))))
def gM:FM:=bA 1 2 uJ
def rW:MS:=(aS (aY 1 (fR ["part"] [] (bN (bS fL (aA 0) (aC (mC (.str ", ")) aF))) (gN 0) (cL gM [] (aC (aA 0) aF))))
 (aS (eA (cL jK [] (aC (mR gA (aC (bO ["p"] [(1,"corners")] (bN (aA 1)) (gN 0) (aE bM (mR bR (aC (aA 0) aF)) (mR bR (aC (aA 1) aF)))) aF)) aF)))
 (bH (aA 1))))
def lQ:FM:=bA 1 2 rW
def uP:MS:=(bH (oE (aZ (aE bM (aA 0) (mC (.str "none")))) (mN dW aF) (bS fL (aA 0) (aC (mC (.str " + ")) aF))))
def pQ:FM:=bA 1 1 uP
def zM:MS:=(aS (aY 1 (bS nP (aA 0) (aC (mC (.str " ")) aF)))
 (aS (eA (cL jK [] (aC (tO (aE bM (aE aG (aA 1) (mC (.int 0))) (mC (.str "push"))) (aE bM (aE aG (aA 1) (mC (.int 0))) (mC (.str "turn")))) aF)))
 (bH (cL qI [] (aC (oE (aZ (aE bM (aE aG (aA 1) (mC (.int 0))) (mC (.str "push")))) (mC (.int 1)) (bX cW (mC (.int 1)))) (aC (cL gM [] (aC (aE aG (aA 1) (mC (.int 2))) aF)) aF))))))
def kY:FM:=bA 1 2 zM
def uL:MS:=(aS (aY 1 (bS fL (aA 0) (aC (mC (.str " by ")) aF)))
 (aS (eA (cL jK [] (aC (aE bM (mR bR (aC (aA 1) aF)) (mC (.int 2))) aF)))
 (bH (mN eI (aC (cL lQ [] (aC (aE aG (aA 1) (mC (.int 0))) aF)) (aC (cL kY [] (aC (aE aG (aA 1) (mC (.int 1))) aF)) aF))))))
def gL:FM:=bA 1 2 uL
def lR:MS:=(aS (aY 1 (fR ["text"] [] (bN (bD pQ [] (aC (aA 0) aF))) (gN 0) (cL gL [] (aC (aA 0) aF))))
 (aS (dB (bN (aA 1)) (gT 2 (cP (gN 2) (cP (gN 3) eB))) (eA (cL jK [] (aC (iA bM bM (mR bR (aC (aA 2) aF)) (mR bR (aC (aE aG (aA 3) (mC (.int 1))) aF)) (mR bR (aC (aE aG (aE aG (aA 1) (mC (.int 0))) (mC (.int 0))) aF))) aF))))
 (bH (mR jX (aC (fR ["corners","one"] [] (bN (aA 1)) (gT 2 (cP (gN 0) (cP (gN 1) eB))) (mN eI (aC (cL kF [] (aC (aA 0) aF)) (aC (aA 1) aF)))) aF)))))
def jL:FM:=bA 1 4 lR
def Jc:MS:=(aS (aY 1 (jS aF))
 (aS (dB (xI (aC (dY (aA 0) bV (bW (mC (.int 63)))) aF)) (gT 2 (cP (gN 2) (cP (gN 3) eB))) (bP (aZ (aE pI (aA 3) (aE lH (mC (.int 10)) (mC (.int 18))))) (eA (iF (aA 1) (aC (aE dN (aA 3) (aE lH (mC (.int 10)) (mC (.int 18)))) aF))) (aS (aY 4 (aE fT (aE bF (aE aH (aE aH (aE aH (aA 3) (aE bF (aE bF (mC (.int 7)) (aA 2)) (aA 2))) (aE bF (mC (.int 13)) (aA 2))) (mC (.int 5))) (mC (.int 48271))) (mC (.int 2147483647))))
 (aS (aY 5 (aE fT (aE bF (aE aH (aE aH (aE aH (aA 3) (aE bF (aE bF (mC (.int 11)) (aA 2)) (aA 2))) (aE bF (mC (.int 17)) (aA 2))) (mC (.int 3))) (mC (.int 40692))) (mC (.int 2147483399))))
 (aS (aY 6 (aE fT (aE bF (aE aH (aE aH (aE aH (aA 3) (aE bF (aE bF (mC (.int 5)) (aA 2)) (aA 2))) (aE bF (mC (.int 29)) (aA 2))) (mC (.int 8))) (mC (.int 39373))) (mC (.int 2147483587))))
 (aS (aY 4 (aE fT (aE bF (aA 4) (mC (.int 52021))) (mC (.int 1000000007))))
 (aS (aY 5 (aE fT (aE bF (aA 5) (mC (.int 30011))) (mC (.int 998244353))))
 (aS (aY 6 (aE fT (aE bF (aA 6) (mC (.int 45989))) (mC (.int 1000000009))))
 (eA (iF (aA 1) (aC (aE aH (aE bF (aE aH (aE bF (aA 4) (mC (.int 998244353))) (aA 5)) (mC (.int 1000000009))) (aA 6)) aF)))))))))))
 (bH (aA 1))))
def qC:FM:=bA 1 7 Jc
def vW:MS:=(aS (nK (gB (aZ (aE gF (mR bR (aC (aA 0) aF)) (mC (.int 0)))) (aZ (aE bM (aE aG (aA 0) (mC (.int 0))) (mC (.int 0))))) (eA (lK (aA 0) (aC (mC (.int 0)) aF))))
 (aS (bP (aZ (aE bM (mR bR (aC (aA 0) aF)) (mC (.int 0)))) (bH (mC (.int 0))) bQ)
 (aS (aY 2 (aE fT (aE aG (aA 0) (mC (.int 0))) (aA 1)))
 (aS (iX (aA 0) (mC (.int 0)) (aE eO (aE aG (aA 0) (mC (.int 0))) (aA 1)))
 (bH (aA 2))))))
def cZ:FM:=bA 2 3 vW
def Dc:MS:=(aS (aY 0 (mR eY (aC (aA 0) aF)))
 (aS (aY 1 (mR eY (aC (aA 1) aF)))
 (aS (nK (aZ (aE gF (aA 1) (mC (.int 0)))) (tW 0 1 (aC (aA 1) (aC (aE fT (aA 0) (aA 1)) aF))))
 (bH (aA 0)))))
def sZ:FM:=bA 2 2 Dc
def vE:MS:=(aS (aY 1 (mC (.int 0)))
 (aS (dB (bN (aA 0)) (gN 2) (aY 1 (bD sZ [] (aC (aA 1) (aC (aA 2) aF)))))
 (aS (bP (aZ (aE bM (aA 1) (mC (.int 0)))) (bH (mR jX (aC (aA 0) aF))) bQ)
 (bH (mR jX (aC (bO ["_law_number"] [(1,"_law_by")] (bN (aA 0)) (gN 0) (aE eO (aA 0) (aA 1))) aF))))))
def gH:FM:=bA 1 3 vE
def Xa:MS:=(bH (oZ (bX (fH "int") (aA 0)) (bX tX (bX (fH "bool") (aA 0)))))
def oM:FM:=bA 1 1 Xa
def Qa:MS:=(aS (bP (fD (eQ (aZ (bX (fH "tuple") (aA 0)))) (aZ (aE fE (mR bR (aC (aA 0) aF)) (aA 1)))) (bH (mC (.bl false))) bQ)
 (bH (mR gA (aC (bO ["_law_number"] [] (bN (aA 0)) (gN 0) (bD oM [] (aC (aA 0) aF))) aF))))
def uZ:FM:=bA 2 2 Qa
def Ob:MS:=(aS (bP (aZ (aE gK (aA 1) (mC (.int 0)))) (bH (bD gH [] (aC (mN dW (aC (aE dN (mC (.int 0)) (aA 0)) (aC (aE dN (mC (.int 0)) (aA 1)) aF))) aF))) bQ)
 (bH (bD gH [] (aC (mN dW (aC (aA 0) (aC (aA 1) aF))) aF))))
def mD:FM:=bA 2 2 Ob
def Rc:MS:=(bH (bO ["_law_k"] [(1,"_law_q"),(0,"_law_p")] (fF (aC (aE dN (mR bR (aC (aA 0) aF)) (mC (.int 1))) aF)) (gN 0) (aE dN (aE bF (aE aG (aA 1) (aA 0)) (aE aG (aA 2) (bX cW (mC (.int 1))))) (aE bF (aE aG (aA 2) (aA 0)) (aE aG (aA 1) (bX cW (mC (.int 1))))))))
def qH:FM:=bA 2 2 Rc
def Ua:MS:=(aS (aY 2 (aE dN (aE bF (aE aG (aA 0) (mC (.int 1))) (aE aG (aA 1) (mC (.int 2)))) (aE bF (aE aG (aA 0) (mC (.int 2))) (aE aG (aA 1) (mC (.int 1))))))
 (aS (aY 3 (aE dN (aE bF (aE aG (aA 0) (mC (.int 2))) (aE aG (aA 1) (mC (.int 0)))) (aE bF (aE aG (aA 0) (mC (.int 0))) (aE aG (aA 1) (mC (.int 2))))))
 (aS (aY 4 (aE dN (aE bF (aE aG (aA 0) (mC (.int 0))) (aE aG (aA 1) (mC (.int 1)))) (aE bF (aE aG (aA 0) (mC (.int 1))) (aE aG (aA 1) (mC (.int 0))))))
 (bH (mN dW (aC (aA 2) (aC (aA 3) (aC (aA 4) aF))))))))
def vM:FM:=bA 2 5 Ua
def Nc:MS:=(bH (mR jT (aC (bO ["_law_one","_law_other"] [] (kQ (aC (aA 0) (aC (aA 1) aF))) (gT 2 (cP (gN 0) (cP (gN 1) eB))) (aE bF (aA 0) (aA 1))) aF)))
def wN:FM:=bA 2 2 Nc
def vT:MS:=(aS (bP (aZ (aE bM (mR bR (aC (aA 0) aF)) (mC (.int 2)))) (bH (aE dN (aE bF (aE aG (aE aG (aA 0) (mC (.int 0))) (mC (.int 0))) (aE aG (aE aG (aA 0) (mC (.int 1))) (mC (.int 1)))) (aE bF (aE aG (aE aG (aA 0) (mC (.int 0))) (mC (.int 1))) (aE aG (aE aG (aA 0) (mC (.int 1))) (mC (.int 0)))))) bQ)
 (bH (bD wN [] (aC (bD vM [] (aC (aE aG (aA 0) (mC (.int 0))) (aC (aE aG (aA 0) (mC (.int 1))) aF))) (aC (aE aG (aA 0) (mC (.int 2))) aF)))))
def qA:FM:=bA 1 1 vT
def wM:MS:=(bH (bD qA [] (aC (bO ["_law_p"] [(0,"_law_points")] (bN (dY (aA 0) (bW (mC (.int 1))) bV)) (gN 0) (bD qH [] (aC (aE aG (aA 1) (mC (.int 0))) (aC (aA 0) aF)))) aF)))
def lB:FM:=bA 1 1 wM
def uX:MS:=(aS (aY 1 (mR qB (aC (aA 0) aF)))
 (aS (bP (aZ (aE gK (bD lB [] (aC (aA 1) aF)) (mC (.int 0)))) (aY 1 (aE aH (dY (aA 1) bV (bW (bX cW (mC (.int 2))))) (mN dW (aC (aE aG (aA 1) (bX cW (mC (.int 1)))) (aC (aE aG (aA 1) (bX cW (mC (.int 2)))) aF))))) bQ)
 (bH (mR jX (aC (aA 1) aF)))))
def lX:FM:=bA 1 2 uX
def zE:MS:=(aS (bP (fD (eQ (aZ (bD uZ [] (aC (aA 0) (aC (aE aH (aA 1) (mC (.int 1))) aF))))) (aZ (aE gK (aE aG (aA 0) (bX cW (mC (.int 1)))) (mC (.int 1))))) (bH (mC (.bl false))) bQ)
 (bH (aE bM (bD gH [] (aC (aA 0) aF)) (aA 0))))
def lU:FM:=bA 2 2 zE
def yZ:MS:=(aS (bP (fD (eQ (aZ (bX (fH "tuple") (aA 0)))) (aZ (aE fE (mR bR (aC (aA 0) aF)) (aE aH (aA 1) (mC (.int 1)))))) (bH (mC (.bl false))) bQ)
 (aS (bP (eQ (aZ (mR gA (aC (bO ["_law_p"] [(1,"_law_many")] (bN (aA 0)) (gN 0) (bD lU [] (aC (aA 0) (aC (aA 1) aF)))) aF)))) (bH (mC (.bl false))) bQ)
 (bH (oZ (aE fE (bD lB [] (aC (aA 0) aF)) (mC (.int 0))) (aE bM (bD lX [] (aC (aA 0) aF)) (aA 0))))))
def rS:FM:=bA 2 2 yZ
def zA:MS:=(aS (bP (eQ (aZ (bX (fH "tuple") (aA 0)))) (bH (mC (.bl false))) bQ)
 (aS (dB (bN (aA 0)) (gN 3) (aS (bP (fD (eQ (aZ (bX (fH "tuple") (aA 3)))) (fD (aZ (aE fE (mR bR (aC (aA 3) aF)) (mC (.int 2)))) (eQ (aZ (bD rS [] (aC (aE aG (aA 3) (mC (.int 0))) (aC (aA 1) aF))))))) (bH (mC (.bl false))) bQ)
 (aS (bP (fD (eQ (aZ (bX (fH "tuple") (aE aG (aA 3) (mC (.int 1)))))) (aZ (aE fE (mR bR (aC (aE aG (aA 3) (mC (.int 1))) aF)) (mC (.int 2))))) (bH (mC (.bl false))) bQ)
 (bP (fD (eQ (aZ (bD oM [] (aC (aE aG (aE aG (aA 3) (mC (.int 1))) (mC (.int 0))) aF)))) (fD (aZ (aE (oG true) (aE aG (aE aG (aA 3) (mC (.int 1))) (mC (.int 0))) (aA 2))) (eQ (aZ (bD lU [] (aC (aE aG (aE aG (aA 3) (mC (.int 1))) (mC (.int 1))) (aC (aA 1) aF))))))) (bH (mC (.bl false))) bQ))))
 (bH (mC (.bl true)))))
def rQ:FM:=bA 3 4 zA
def zJ:MS:=(aS (aY 2 (mC (.int 1)))
 (aS (dB (bN (aA 0)) (gN 3) (aY 2 (aE bF (aA 2) (aE aG (aA 3) (bX cW (mC (.int 1)))))))
 (aS (aY 4 (jS aF))
 (aS (dB (fF (aC (aE dN (mR bR (aC (aE aG (aA 0) (mC (.int 0))) aF)) (mC (.int 1))) aF)) (gN 5) (eA (iF (aA 4) (aC (mR jT (aC (bO ["_law_weight","_law_p"] [(2,"_law_under"),(5,"_law_k")] (kQ (aC (aA 1) (aC (aA 0) aF))) (gT 2 (cP (gN 0) (cP (gN 1) eB))) (aE bF (aE bF (aA 0) (aE aG (aA 1) (aA 3))) (aE eO (aA 2) (aE aG (aA 1) (bX cW (mC (.int 1))))))) aF)) aF))))
 (bH (bD gH [] (aC (aE aH (aA 4) (mN dW (aC (aE bF (aA 2) (mR jT (aC (aA 1) aF))) aF))) aF)))))))
def uO:FM:=bA 2 6 zJ
def zR:MS:=(bH (bD uO [] (aC (aA 0) (aC (aE tY (mN dW (aC (mC (.int 1)) aF)) (mR bR (aC (aA 0) aF))) aF))))
def pR:FM:=bA 1 1 zR
def zQ:MS:=(aS (bP (fD (aZ (aE gK (mR fY (aC (aA 0) aF)) (mC (.int 1)))) (aZ (aE gF (mR fY (aC (aA 0) aF)) (mC (.int 60))))) (bH (mC (.bl false))) bQ)
 (bH (mR gA (aC (bO ["_law_sign"] [] (mL (aA 0)) (gN 0) (aE kP (aA 0) (mC (.str "0123456789")))) aF))))
def kZ:FM:=bA 1 1 zQ
def uK:MS:=(aS (aY 1 (mC (.int 1)))
 (aS (bP (aZ (aE bM (cR (aA 0) bV (bW (mC (.int 1)))) (mC (.str "-")))) (aS (aY 1 (bX cW (mC (.int 1))))
 (aY 0 (cR (aA 0) (bW (mC (.int 1))) bV))) bQ)
 (aS (aY 2 (mC (.str "1")))
 (aS (aY 3 (bS jY (aA 0) (aC (mC (.str "/")) aF)))
 (aS (bP (aZ (aE pI (aA 3) (mC (.int 0)))) (aS (aY 2 (cR (aA 0) (bW (aE aH (aA 3) (mC (.int 1)))) bV))
 (aY 0 (cR (aA 0) bV (bW (aA 3))))) bQ)
 (aS (bP (fD (eQ (aZ (bD kZ [] (aC (aA 0) aF)))) (eQ (aZ (bD kZ [] (aC (aA 2) aF))))) (bH (mC .non)) bQ)
 (aS (bP (aZ (aE bM (mR iY (aC (aA 2) aF)) (mC (.int 0)))) (bH (mC .non)) bQ)
 (bH (bD mD [] (aC (aE bF (aA 1) (mR iY (aC (aA 0) aF))) (aC (mR iY (aC (aA 2) aF)) aF)))))))))))
def iS:FM:=bA 1 4 uK
def uQ:MS:=(aS (aY 1 (bS fL (aA 0) (aC (mC (.str " ")) aF)))
 (aS (bP (gB (aZ (aE fE (mR bR (aC (aA 1) aF)) (mC (.int 2)))) (aZ (aE fE (mR bR (aC (aA 1) aF)) (mC (.int 3))))) (bH (mC .non)) bQ)
 (aS (aY 2 (bO ["_law_word"] [] (bN (aA 1)) (gN 0) (bD iS [] (aC (aA 0) aF))))
 (aS (bP (aZ (aE gJ (mC .non) (aA 2))) (bH (mC .non)) bQ)
 (aS (aY 3 (mC (.int 1)))
 (aS (dB (bN (aA 2)) (gN 4) (aY 3 (aE bF (aA 3) (aE aG (aA 4) (mC (.int 1))))))
 (bH (bD gH [] (aC (aE aH (bO ["_law_number"] [(3,"_law_under")] (bN (aA 2)) (gN 0) (aE bF (aE aG (aA 0) (mC (.int 0))) (aE eO (aA 1) (aE aG (aA 0) (mC (.int 1)))))) (mN dW (aC (aA 3) aF))) aF)))))))))
def fW:FM:=bA 1 5 uQ
def rY:MS:=(aS (aY 1 (bO ["_law_word"] [] (bN (bS fL (aA 0) (aC (mC (.str ", ")) aF))) (gN 0) (bD fW [] (aC (aA 0) aF))))
 (aS (bP (fD (aZ (aE gJ (mC .non) (aA 1))) (gB (aZ (aE fE (mR bR (aC (aA 1) aF)) (mC (.int 3)))) (aZ (aE fE (mR bR (aC (aA 1) aF)) (mC (.int 4)))))) (bH (mC .non)) bQ)
 (aS (bP (eQ (aZ (mR gA (aC (bO ["_law_p"] [(1,"_law_points")] (bN (aA 1)) (gN 0) (aE bM (mR bR (aC (aA 0) aF)) (mR bR (aC (aA 1) aF)))) aF)))) (bH (mC .non)) bQ)
 (bH (aA 1)))))
def kW:FM:=bA 1 2 rY
def zP:MS:=(aS (aY 1 (mC (.str " ,+/-0123456789nonepushturnby")))
 (aS (bP (aZ (aE bM (bD cZ [] (aC (aA 0) (aC (mC (.int 2)) aF))) (mC (.int 0)))) (bH (aE pE (aA 1) (bD cZ [] (aC (aA 0) (aC (mR fY (aC (aA 1) aF)) aF))))) bQ)
 (aS (aY 2 (mC (.str " !\"#$&'()*+,-./0123456789:;<=>?@ABCDEFGHIJKLMNOPQRSTUVWXYZ[\\]^_`abcdefghijklmnopqrstuvwxyz{|}~")))
 (bH (aE pE (aA 2) (bD cZ [] (aC (aA 0) (aC (mR fY (aC (aA 2) aF)) aF))))))))
def uU:FM:=bA 1 3 zP
def La:MS:=(aS (aY 2 (bD cZ [] (aC (aA 0) (aC (mC (.int 6)) aF))))
 (aS (bP (aZ (aE gF (aA 2) (mC (.int 2)))) (bH (aA 1)) bQ)
 (aS (aY 3 (bD cZ [] (aC (aA 0) (aC (aE aH (mR fY (aC (aA 1) aF)) (mC (.int 1))) aF))))
 (aS (aY 4 (bD uU [] (aC (aA 0) aF)))
 (aS (bP (aZ (aE bM (aA 2) (mC (.int 0)))) (bH (aE fP (aE fP (cR (aA 1) bV (bW (aA 3))) (aA 4)) (cR (aA 1) (bW (aA 3)) bV))) bQ)
 (aS (bP (aZ (aE bM (aA 2) (mC (.int 1)))) (bH (aE fP (cR (aA 1) bV (bW (aA 3))) (cR (aA 1) (bW (aE aH (aA 3) (mC (.int 1)))) bV))) bQ)
 (bH (aE fP (aE fP (cR (aA 1) bV (bW (aA 3))) (aA 4)) (cR (aA 1) (bW (aE aH (aA 3) (mC (.int 1)))) bV)))))))))
def sI:FM:=bA 2 5 La
def vL:MS:=(aS (tR (gT 2 (cP (gN 1) (cP (gN 2) eB))) (bD mD [] (aC (aA 1) (aC (aA 2) aF))))
 (aS (aY 3 (aE aH (mC (.int 1)) (bD cZ [] (aC (aA 0) (aC (mC (.int 3)) aF)))))
 (aS (aY 4 (aE fP (aE qN (mC (.str "0")) (bD cZ [] (aC (aA 0) (aC (mC (.int 3)) aF)))) (mR pG (aC (aE bF (mR eY (aC (aA 1) aF)) (aA 3)) aF))))
 (aS (aY 5 (aE fP (aE qN (mC (.str "0")) (bD cZ [] (aC (aA 0) (aC (mC (.int 3)) aF)))) (mR pG (aC (aE bF (aA 2) (aA 3)) aF))))
 (aS (bP (fD (aZ (aE gK (aA 1) (mC (.int 0)))) (gB (aZ (aE bM (aA 1) (mC (.int 0)))) (aZ (aE bM (aA 3) (mC (.int 3)))))) (aY 4 (aE fP (mC (.str "-")) (aA 4))) bQ)
 (aS (bP (gB (aZ (aE bM (aE bF (aA 2) (aA 3)) (mC (.int 1)))) (aZ (aE bM (bD cZ [] (aC (aA 0) (aC (mC (.int 2)) aF))) (mC (.int 0))))) (bH (aA 4)) bQ)
 (bH (aE fP (aE fP (aA 4) (mC (.str "/"))) (aA 5)))))))))
def oJ:FM:=bA 3 6 vL
def yY:MS:=(aS (aY 2 (tJ (aC (aA 1) aF)))
 (aS (aY 3 (jS aF))
 (aS (dB (fF (aC (mR bR (aC (aA 1) aF)) aF)) (gN 4) (aS (aY 5 (lK (aA 2) (aC (bD cZ [] (aC (aA 0) (aC (mR bR (aC (aA 2) aF)) aF))) aF)))
 (eA (iF (aA 3) (aC (jC (mC (.str " ")) (aC (bO ["_law_number"] [(0,"_law_row_here"),(5,"_law_p")] (bN (dY (aA 5) bV (bW (bX cW (mC (.int 1)))))) (gN 0) (bD oJ [] (aC (aA 1) (aC (aA 0) (aC (aE aG (aA 2) (bX cW (mC (.int 1)))) aF))))) aF)) aF)))))
 (bH (jC (mC (.str ", ")) (aC (aA 3) aF))))))
def rR:FM:=bA 2 6 yY
def uM:MS:=(aS (aY 1 (bS jY (aA 0) (aC (mC (.str " by ")) aF)))
 (aS (bP (aZ (aE gK (aA 1) (mC (.int 0)))) (bH (mC .non)) bQ)
 (aS (aY 2 (bD kW [] (aC (cR (aA 0) bV (bW (aA 1))) aF)))
 (aS (aY 3 (cR (aA 0) (bW (aE aH (aA 1) (mC (.int 4)))) bV))
 (aS (aY 4 (mC .non))
 (aS (bP (fD (aZ (aE bM (cR (aA 3) bV (bW (mC (.int 5)))) (mC (.str "push ")))) (aZ (aE bM (cR (aA 3) bV (bW (mC (.int 5)))) (mC (.str "turn "))))) (aY 4 (bD fW [] (aC (cR (aA 3) (bW (mC (.int 5))) bV) aF))) bQ)
 (aS (bP (fD (aZ (bX gY (aA 2))) (fD (aZ (bX gY (aA 4))) (aZ (aE fE (mR bR (aC (aA 4) aF)) (mR bR (aC (aA 2) aF)))))) (bH (mC .non)) bQ)
 (bH (mN eI (aC (aA 2) (aC (aE dN (aE bF (mC (.int 2)) (mR rA (aC (aE bM (cR (aA 3) bV (bW (mC (.int 5)))) (mC (.str "push "))) aF))) (mC (.int 1))) (aC (aA 4) aF))))))))))))
def iJ:FM:=bA 1 5 uM
def rX:MS:=(aS (bP (aZ (aE bM (aA 0) (mC (.str "none")))) (bH (mN dW aF)) bQ)
 (aS (aY 1 (bO ["_law_words"] [] (bN (bS fL (aA 0) (aC (mC (.str " + ")) aF))) (gN 0) (bD iJ [] (aC (aA 0) aF))))
 (aS (bP (aZ (aE gJ (mC .non) (aA 1))) (bH (mC .non)) bQ)
 (aS (bP (eQ (aZ (mR gA (aC (bO ["_law_piece"] [(1,"_law_rows")] (bN (aA 1)) (gN 0) (aE bM (mR bR (aC (aE aG (aA 0) (mC (.int 0))) aF)) (mR bR (aC (aE aG (aE aG (aA 1) (mC (.int 0))) (mC (.int 0))) aF)))) aF)))) (bH (mC .non)) bQ)
 (bH (aA 1))))))
def kX:FM:=bA 1 2 rX
def zC:MS:=(aS (aY 2 (bD cZ [] (aC (aA 0) (aC (mC (.int 24)) aF))))
 (aS (bP (aZ (aE bM (aA 2) (mC (.int 0)))) (aY 1 (aE dN (mC (.int 5)) (aA 1))) bQ)
 (aS (aY 3 (jS aF))
 (aS (dB (fF (aC (aE aH (aA 1) (mC (.int 1))) aF)) (gN 4) (aS (aY 5 (bO ["_law_m"] [(0,"_law_row_here")] (fF (aC (aA 1) aF)) (gN 0) (aE dN (bD cZ [] (aC (aA 1) (aC (mC (.int 9)) aF))) (mC (.int 4)))))
 (eA (iF (aA 3) (aC (bD gH [] (aC (aE aH (aA 5) (mN dW (aC (aE aH (mC (.int 1)) (bD cZ [] (aC (aA 0) (aC (mC (.int 3)) aF)))) aF))) aF)) aF)))))
 (aS (bP (aZ (aE bM (aA 2) (mC (.int 1)))) (iX (aA 3) (bX cW (mC (.int 1))) (aE aG (aA 3) (mC (.int 0)))) bQ)
 (aS (bP (aZ (aE bM (aA 2) (mC (.int 2)))) (iX (aA 3) (mC (.int 0)) (bD pR [] (aC (dY (aA 3) (bW (mC (.int 1))) bV) aF))) bQ)
 (aS (bP (aZ (aE bM (aA 2) (mC (.int 3)))) (aY 1 (aE dN (mC (.int 5)) (aA 1))) bQ)
 (aS (aY 6 (aE aG (mN dW (aC (mC (.str "push")) (aC (mC (.str "turn")) aF))) (bD cZ [] (aC (aA 0) (aC (mC (.int 2)) aF)))))
 (aS (bP (aZ (aE bM (aA 2) (mC (.int 4)))) (aY 6 (aE aG (mN dW (aC (mC (.str "pull")) (aC (mC (.str "Push")) (aC (mC (.str "push turn")) (aC (mC (.str "")) aF))))) (bD cZ [] (aC (aA 0) (aC (mC (.int 4)) aF))))) bQ)
 (aS (aY 7 (mC (.str " by ")))
 (aS (bP (aZ (aE bM (aA 2) (mC (.int 5)))) (aY 7 (aE aG (mN dW (aC (mC (.str " by")) (aC (mC (.str " by  ")) (aC (mC (.str " by push by ")) (aC (mC (.str " ")) aF))))) (bD cZ [] (aC (aA 0) (aC (mC (.int 4)) aF))))) bQ)
 (aS (aY 5 (bO ["_law_m"] [(0,"_law_row_here")] (fF (aC (aA 1) aF)) (gN 0) (aE dN (bD cZ [] (aC (aA 1) (aC (mC (.int 19)) aF))) (mC (.int 9)))))
 (aS (aY 8 (bD gH [] (aC (aE aH (aA 5) (mN dW (aC (aE aH (mC (.int 1)) (bD cZ [] (aC (aA 0) (aC (mC (.int 6)) aF)))) aF))) aF)))
 (aS (aY 5 (jC (mC (.str " ")) (aC (bO ["_law_number"] [(0,"_law_row_here"),(8,"_law_p")] (bN (dY (aA 8) bV (bW (bX cW (mC (.int 1)))))) (gN 0) (bD oJ [] (aC (aA 1) (aC (aA 0) (aC (aE aG (aA 2) (bX cW (mC (.int 1)))) aF))))) aF)))
 (bH (aE fP (aE fP (aE fP (aE fP (bD rR [] (aC (aA 0) (aC (aA 3) aF))) (aA 7)) (aA 6)) (mC (.str " "))) (aA 5)))))))))))))))))
def rT:FM:=bA 2 9 zC
def vI:MS:=(aS (aY 1 (mC .non))
 (aS (qT (qO (mC (.int 0)) (qE jL [] (aC (aA 0) aF))) "NoText" "Flat" 3 1 (λρ=>(((ρ.set 2 none).set 1 (some (.pv (.tup [.int 1,.bl true])))).set 2 none)) (λρ=>(((ρ.set 2 none).set 1 (some (.pv (.tup [.int 2,.bl true])))).set 2 none)))
 (bH (aA 1))))
def kG:FM:=bA 1 3 vI
def Ld:MS:=(aS (aY 1 (qJ qC [] (aC (aA 0) aF)))
 (aS (aY 2 (aE aH (mC (.int 2)) (bD cZ [] (aC (aA 1) (aC (mC (.int 2)) aF)))))
 (aS (aY 3 (bO ["_law_k"] [(1,"_law_row_here"),(2,"_law_dims")] (fF (aC (bD cZ [] (aC (aA 1) (aC (mC (.int 4)) aF))) aF)) (gN 0) (bD rT [] (aC (aA 1) (aC (aA 2) aF)))))
 (aS (aY 4 (jC (mC (.str " + ")) (aC (aA 3) aF)))
 (aS (bP (aZ (aE bM (mR bR (aC (aA 3) aF)) (mC (.int 0)))) (aY 4 (mC (.str "none"))) bQ)
 (aS (aY 4 (bD sI [] (aC (aA 1) (aC (aA 4) aF))))
 (aS (aY 5 (bD kX [] (aC (aA 4) aF)))
 (aS (aY 6 (mN eI (aC (mC (.int 1)) (aC (mC (.bl true)) aF))))
 (aS (bP (aZ (bX lJ (aA 5))) (aS (aY 6 (mN eI (aC (mC (.int 2)) (aC (mC (.bl true)) aF))))
 (bP (aZ (mR gA (aC (bO ["_law_points","_law_way","_law_far"] [] (bN (aA 5)) (gT 3 (cP (gN 0) (cP (gN 1) (cP (gN 2) eB)))) (aE fE (bD lB [] (aC (aA 0) aF)) (mC (.int 0)))) aF))) (aY 6 (mN eI (aC (mC (.int 0)) (aC (mR jX (aC (bO ["_law_points","_law_way","_law_far"] [] (bN (aA 5)) (gT 3 (cP (gN 0) (cP (gN 1) (cP (gN 2) eB)))) (mN eI (aC (bD lX [] (aC (aA 0) aF)) (aC (mN eI (aC (aA 1) (aC (aA 2) aF))) aF)))) aF)) aF)))) bQ)) bQ)
 (aS (aY 7 (bD kG [] (aC (aA 4) aF)))
 (aS (bP (aZ (aE fE (aA 7) (aA 6))) (bH (mC (.bl false))) bQ)
 (aS (bP (gB (aZ (aE bM (aE aG (aA 6) (mC (.int 0))) (mC (.int 0)))) (gB (aZ (aE gF (mR bR (aC (aA 5) aF)) (mC (.int 0)))) (eQ (aZ (bD rQ [] (aC (aE aG (aA 7) (mC (.int 1))) (aC (aE dN (mR bR (aC (aE aG (aE aG (aA 5) (mC (.int 0))) (mC (.int 0))) aF)) (mC (.int 1))) (aC (mN dW (aC (mC (.int 1)) (aC (bX cW (mC (.int 1))) aF))) aF)))))))) (bH (mC (.bl false))) bQ)
 (bH (aE bM (bD kG [] (aC (aA 4) aF)) (aA 6)))))))))))))))
def Ed:FM:=bA 1 8 Ld
abbrev vS(B:Bx):=dF B "sign" 1 ["number"] oU
abbrev zT(B:Bx):=dF B "divisor" 1 ["one","other"] pU
abbrev Jh(B:Bx):=dF B "reduced" 2 ["numbers"] uY
abbrev Bh(B:Bx):=jW B "fraction" 2 ["top","bottom"] nB
abbrev Jk(B:Bx):=jW B "point" 3 ["numbers","bottom"] oN
abbrev Rg(B:Bx):=dF B "point_at" 4 ["parts"] mY
abbrev Gf(B:Bx):=dF B "whole_arrow" 1 ["start","end"] pO
abbrev Lo(B:Bx):=dF B "dot" 1 ["u","v"] wV
abbrev Kj(B:Bx):=dF B "normal" 1 ["arrows"] pX
abbrev Kf(B:Bx):=dF B "determinant" 2 ["points"] pN
abbrev Jl(B:Bx):=dF B "side" 3 ["points"] oR
abbrev Qh(B:Bx):=jW B "simplex" 4 ["points"] kF
abbrev Zl(B:Bx):=jW B "move" 1 ["way","arrow"] qI
abbrev mW(B:Bx):=jW B "refuse_unless" 1 ["fits"] jK
abbrev Pf(B:Bx):=jW B "read_whole" 2 ["text"] iI
abbrev Mf(B:Bx):=jW B "read_number" 3 ["line"] eM
abbrev zD(B:Bx):=jW B "read_point" 5 ["line"] gM
abbrev Bf(B:Bx):=jW B "read_corners" 6 ["text"] lQ
abbrev Fg(B:Bx):=dF B "read_rows" 1 ["line"] pQ
abbrev Lg(B:Bx):=jW B "read_move" 6 ["text"] kY
abbrev Tf(B:Bx):=jW B "read_piece" 7 ["text"] gL
abbrev Cf(B:Bx):=jW B "read_cutting" 8 ["line"] jL
abbrev Il(B:Bx):=dF B "_law_row" 1 ["_law_script"] qC
abbrev oI(B:Bx):=dF B "_law_take" 1 ["_law_row_here","_law_many"] cZ
abbrev Im(B:Bx):=dF B "_law_gcd" 1 ["_law_one","_law_other"] sZ
abbrev pS(B:Bx):=dF B "_law_lowest" 2 ["_law_numbers"] gH
abbrev Ma(B:Bx):=dF B "_law_whole" 1 ["_law_number"] oM
abbrev Hh(B:Bx):=dF B "_law_wholes" 2 ["_law_told","_law_many"] uZ
abbrev Db(B:Bx):=dF B "_law_frac" 3 ["_law_top","_law_bottom"] mD
abbrev Hl(B:Bx):=dF B "_law_gap" 1 ["_law_p","_law_q"] qH
abbrev Nj(B:Bx):=dF B "_law_cross" 1 ["_law_u","_law_v"] vM
abbrev Kl(B:Bx):=dF B "_law_dot" 1 ["_law_u","_law_v"] wN
abbrev Fl(B:Bx):=dF B "_law_turn" 2 ["_law_ways"] qA
abbrev wB(B:Bx):=dF B "_law_det" 3 ["_law_points"] lB
abbrev zK(B:Bx):=dF B "_law_simplex" 4 ["_law_points"] lX
abbrev zB(B:Bx):=dF B "_law_point_form" 3 ["_law_p","_law_many"] lU
abbrev We(B:Bx):=dF B "_law_simplex_form" 5 ["_law_points","_law_many"] rS
abbrev Xe(B:Bx):=dF B "_law_cutting_form" 6 ["_law_told","_law_many","_law_ways"] rQ
abbrev Cg(B:Bx):=dF B "_law_weighted" 3 ["_law_points","_law_weights"] uO
abbrev Qg(B:Bx):=dF B "_law_mean_of" 4 ["_law_points"] pR
abbrev Vg(B:Bx):=dF B "_law_figures" 1 ["_law_word"] kZ
abbrev Uf(B:Bx):=dF B "_law_number_of" 4 ["_law_word"] iS
abbrev zH(B:Bx):=dF B "_law_point_of" 5 ["_law_line"] fW
abbrev Nf(B:Bx):=dF B "_law_corners_of" 6 ["_law_line"] kW
abbrev Wg(B:Bx):=dF B "_law_sign_at" 2 ["_law_row_here"] uU
abbrev Nh(B:Bx):=dF B "_law_spoilt" 3 ["_law_row_here","_law_line"] sI
abbrev Ka(B:Bx):=dF B "_law_loose" 4 ["_law_row_here","_law_top","_law_bottom"] oJ
abbrev Ve(B:Bx):=dF B "_law_loose_points" 5 ["_law_row_here","_law_points"] rR
abbrev Ig(B:Bx):=dF B "_law_piece_of" 7 ["_law_line"] iJ
abbrev Ff(B:Bx):=dF B "_law_cutting_of" 8 ["_law_line"] kX
abbrev Ye(B:Bx):=dF B "_law_piece_words" 6 ["_law_row_here","_law_dims"] rT
abbrev Jj(B:Bx):=dF B "_law_asked" 9 ["_law_line"] kG
structure Mg(mg:Str->BE):Prop where
 m_abs:mg "abs"=none
 m_all:mg "all"=none
 m_bool:mg "bool"=none
 m_enumerate:mg "enumerate"=none
 m_int:mg "int"=none
 m_isinstance:mg "isinstance"=none
 m_len:mg "len"=none
 m_list:mg "list"=none
 m_range:mg "range"=none
 m_sorted:mg "sorted"=none
 m_str:mg "str"=none
 m_sum:mg "sum"=none
 m_tuple:mg "tuple"=none
 m_zip:mg "zip"=none
set_option hygiene false
local macro_rules | `(tactic|trivial)=> `(tactic|(first
 |(with_reducible show aX _ _ _ _ _ (cR _ _ _));refine Z6 ?_ ?_ ?_
 |(with_reducible show aX _ _ _ _ _ (aE pE _ _));refine T6 ?_ ?_
 |(with_reducible show aX _ _ _ _ _ (jC _ _));refine G8 ?_ ?_
 |(with_reducible show iL _ _ _ _ _ _ (mL _));refine N9 ?_
 |(with_reducible show aX _ _ _ _ _ (mR fY _));refine pZ Bu U4 rfl m.m_len Xn ?_
 |(with_reducible show aX _ _ _ _ _ (mR iY _));refine sF Bt Y4 rfl m.m_int Wc ?_
 |(with_reducible show aX _ _ _ _ _ (mR pG _));refine sF Cu abA rfl m.m_str aaH ?_
 |(with_reducible show aX _ _ _ _ _ (fR _ _ _ _ _));refine Wy (by first |exact wW |exact wJ) ?_ rfl (λ_ _ _ _=> ?_) (λ_ _ _ _ _ hp=> ?_)
 |(with_reducible show eT _ _ _ _ _ (aY _ (fR _ _ _ _ _)));refine Ox nd rfl (by first |exact ie rfl |exact iz rfl) (by first |exact wW |exact wJ) ?_ rfl (λ_ _ _ _=> ?_) (λ_ _ _ _ _ hp=> ?_)
 |(with_reducible show aX _ _ _ _ _ (bS fL _ _));refine wK uk PySem.F.type_str_split B4 ?_ ?_
 |(with_reducible show aX _ _ _ _ _ (bS kI _ _));refine wK PySem.F.slot_str_startswith PySem.F.type_str_startswith Ix ?_ ?_
 |(with_reducible show aX _ _ _ _ _ (bS jY _ _));refine wK PySem.F.slot_str_find PySem.F.type_str_find P5 ?_ ?_
 |(with_reducible show aX _ _ _ _ _ (bS nP _ _));refine wK u4 PySem.F.type_str_partition G0 ?_ ?_
 |(with_reducible show aX _ _ _ _ _ (aE kP _ _));refine lD Tx abH ?_ ?_ rfl
 |(with_reducible show aX _ _ _ _ _ (aE gJ _ _));refine lD (Zo (nX hr)) Op ?_ ?_ rfl
 |(with_reducible show aX _ _ _ _ _ (aE (oG false) _ _));refine lD Ei (xN false) ?_ ?_ rfl
 |(with_reducible show aX _ _ _ _ _ (aE (oG true) _ _));refine lD Kg (xN true) ?_ ?_ rfl
 |(with_reducible show eJ _ _ _ _ _ (aZ (aE gJ _ _)));refine nH (Zo (nX hr)) Op ?_ ?_ rfl
 |(with_reducible show eJ _ _ _ _ _ (aZ (aE (oG false) _ _)));refine nH Ei (xN false) ?_ ?_ rfl
 |(with_reducible show eJ _ _ _ _ _ (aZ (aE (oG true) _ _)));refine nH Kg (xN true) ?_ ?_ rfl
 |(with_reducible show aX _ _ _ _ _ (iA kA kA _ _ _));refine sJ tI tU tI tU ?_ ?_ ?_
 |(with_reducible show aX _ _ _ _ _ (iA kA gK _ _ _));refine sJ tI tU qS qY ?_ ?_ ?_
 |(with_reducible show aX _ _ _ _ _ (iA gK kA _ _ _));refine sJ qS qY tI tU ?_ ?_ ?_
 |(with_reducible show aX _ _ _ _ _ (iA gK gK _ _ _));refine sJ qS qY qS qY ?_ ?_ ?_
 |(with_reducible show aX _ _ _ _ _ (iA bM bM _ _ _));refine sJ (wT (nX hr)) yA (wT (nX hr)) yA ?_ ?_ ?_
 |(with_reducible show eC _ _ _ _ _ aF);exact Nl
 |(with_reducible show eC _ _ _ _ _ (aC _ _));refine Bl ?_ ?_
 |(with_reducible show aX _ _ _ _ _ (aA _));exact Oc _
 |(with_reducible show aX _ _ _ _ _ (mC (.int _)));(first |exact Yn |exact Jm rfl (by assumption))
 |(with_reducible show aX _ _ _ _ _ (mC (.bl _)));exact aaU
 |(with_reducible show aX _ _ _ _ _ (mC (.str _)));(first |exact W7 |exact Jm rfl (by assumption))
 |(with_reducible show aX _ _ _ _ _ (mC .non));exact Ao
 |(with_reducible show aX _ _ _ _ _ (bX cW _));refine abg aaA abv ?_
 |(with_reducible show aX _ _ _ _ _ (bX tX _));refine X9 ?_
 |(with_reducible show aX _ _ _ _ _ (aE qN _ _));refine mJ Ww Bz ?_ ?_
 |(with_reducible show aX _ _ _ _ _ (aE fP _ _));refine mJ Yv V7 ?_ ?_
 |(with_reducible show aX _ _ _ _ _ (aE tY _ _));refine mJ L6 abG ?_ ?_
 |(with_reducible show aX _ _ _ _ _ (aE aH _ _));refine mJ M8 abD ?_ ?_
 |(with_reducible show aX _ _ _ _ _ (aE dN _ _));refine mJ V9 abd ?_ ?_
 |(with_reducible show aX _ _ _ _ _ (aE bF _ _));refine mJ J6 aaY ?_ ?_
 |(with_reducible show aX _ _ _ _ _ (aE eO _ _));refine mJ E4 Z8 ?_ ?_
 |(with_reducible show aX _ _ _ _ _ (aE fT _ _));refine mJ P4 abt ?_ ?_
 |(with_reducible show aX _ _ _ _ _ (aE lH _ _));refine mJ aaE aa8 ?_ ?_
 |(with_reducible show aX _ _ _ _ _ (aE aG _ _));refine abB ?_ ?_
 |(with_reducible show aX _ _ _ _ _ (aE bM _ _));refine lD (wT (nX hr)) yA ?_ ?_ (kJ _)
 |(with_reducible show aX _ _ _ _ _ (aE fE _ _));refine lD (Ip (nX hr)) Yq ?_ ?_ (kJ _)
 |(with_reducible show aX _ _ _ _ _ (aE gK _ _));refine lD qS qY ?_ ?_ (kJ _)
 |(with_reducible show aX _ _ _ _ _ (aE kA _ _));refine lD tI tU ?_ ?_ (kJ _)
 |(with_reducible show aX _ _ _ _ _ (aE gF _ _));refine lD Jp Hr ?_ ?_ (kJ _)
 |(with_reducible show aX _ _ _ _ _ (aE pI _ _));refine lD Zp Nr ?_ ?_ (kJ _)
 |(with_reducible show eJ _ _ _ _ _ (aZ (aE bM _ _)));refine nH (wT (nX hr)) yA ?_ ?_ (kJ _)
 |(with_reducible show eJ _ _ _ _ _ (aZ (aE fE _ _)));refine nH (Ip (nX hr)) Yq ?_ ?_ (kJ _)
 |(with_reducible show eJ _ _ _ _ _ (aZ (aE gK _ _)));refine nH qS qY ?_ ?_ (kJ _)
 |(with_reducible show eJ _ _ _ _ _ (aZ (aE gF _ _)));refine nH Jp Hr ?_ ?_ (kJ _)
 |(with_reducible show eJ _ _ _ _ _ (aZ (aE pI _ _)));refine nH Zp Nr ?_ ?_ (kJ _)
 |(with_reducible show eJ _ _ _ _ _ (aZ (bX gY _)));refine aaa ?_
 |(with_reducible show eJ _ _ _ _ _ (aZ (bX lJ _)));refine aaM ?_
 |(with_reducible show eJ _ _ _ _ _ (aZ _));refine N4 ?_
 |(with_reducible show eJ _ _ _ _ _ (eQ _));refine G3 ?_
 |(with_reducible show eJ _ _ _ _ _ (gB _ _));refine jV.pt ?_
 |(with_reducible show eJ _ _ _ _ _ (fD _ _));refine jV.pt ?_
 |(with_reducible show jV _ _ _ _ _ (gB _ _));refine J4 ?_ ?_
 |(with_reducible show jV _ _ _ _ _ (fD _ _));refine aaP ?_ ?_
 |(with_reducible show jV _ _ _ _ _ _);(first |refine Py ?_ |refine M6 ?_)
 |(with_reducible show aX _ _ _ _ _ (oZ _ _));refine Z9 ?_ ?_
 |(with_reducible show aX _ _ _ _ _ (tO _ _));refine aa3 ?_ ?_
 |(with_reducible show aX _ _ _ _ _ (oE _ _ _));refine aa9 ?_ ?_ ?_
 |(with_reducible show aX _ _ _ _ _ (mN eI _));refine aac ?_
 |(with_reducible show aX _ _ _ _ _ (mN dW _));refine Y5 ?_
 |(with_reducible show aX _ _ _ _ _ (jS _));refine Q5 ?_
 |(with_reducible show aX _ _ _ _ _ (dY _ _ _));refine aa4 ?_ ?_ ?_
 |(with_reducible show nY _ _ _ _ _ bV);exact A6
 |(with_reducible show nY _ _ _ _ _ (bW _));refine Xz ?_
 |(with_reducible show aX _ _ _ _ _ (iF _ _));refine Vw ?_ ?_
 |(with_reducible show aX _ _ _ _ _ (lK _ _));refine aae ?_ ?_
 |(with_reducible show aX _ _ _ _ _ (cL _ [] _));(first |refine aaT (by assumption) hr (by decide) rfl ?_ |refine aby hp (by assumption) hr (by decide) rfl ?_ |refine aaQ (by assumption) hr (by decide) rfl ?_)
 |(with_reducible show aX _ _ _ _ _ (bD _ [] _));refine aaW (by assumption) hr (by decide) rfl ?_
 |(with_reducible show aX _ _ _ _ _ (qJ _ [] _));refine abQ (by assumption) hr (by decide) rfl ?_
 |(with_reducible show aX _ _ _ _ _ (bX (fH "int") _));refine Gc (n:="int") rfl m.m_isinstance rfl m.m_int Wc ?_
 |(with_reducible show aX _ _ _ _ _ (bX (fH "bool") _));refine Gc (n:="bool") rfl m.m_isinstance rfl m.m_bool P9 ?_
 |(with_reducible show aX _ _ _ _ _ (bX (fH "tuple") _));refine Gc (n:="tuple") rfl m.m_isinstance rfl m.m_tuple Vk ?_
 |(with_reducible show aX _ _ _ _ _ (tJ _));refine A0 rfl rfl m.m_list ?_
 |(with_reducible show aX _ _ _ _ _ (mR bR _));refine pZ Tt abj rfl m.m_len Xn ?_
 |(with_reducible show aX _ _ _ _ _ (mR eY _));refine pZ C7 abM rfl m.m_abs U5 ?_
 |(with_reducible show aX _ _ _ _ _ (mR gA _));refine pZ (F0 rfl) abk rfl m.m_all Y6 ?_
 |(with_reducible show aX _ _ _ _ _ (mR jX _));refine sF Dt Q7 rfl m.m_tuple Vk ?_
 |(with_reducible show aX _ _ _ _ _ (mR oS _));refine sF Hg I0 rfl m.m_list N6 ?_
 |(with_reducible show aX _ _ _ _ _ (mR rA _));refine sF Uw abU rfl m.m_int Wc ?_
 |(with_reducible show aX _ _ _ _ _ (mR jT _));refine pZ (Iw rfl) abF rfl m.m_sum aaz ?_
 |(with_reducible show aX _ _ _ _ _ (mR qB _));refine pZ Zu aau rfl m.m_sorted Gx ?_
 |(with_reducible show aX _ _ _ _ _ (bO _ _ _ _ _));refine M4 (by first |exact wW |exact wJ) ?_ rfl (λ_ _ _ _=> ?_) (λ_ _ _ _=> ?_)
 |(with_reducible show iL _ _ _ _ _ _ (kQ _));refine M2 rfl m.m_zip ?_
 |(with_reducible show iL _ _ _ _ _ _ (xI _));refine Zz rfl m.m_enumerate ?_
 |(with_reducible show iL _ _ _ _ _ _ (fF _));refine Ov rfl m.m_range ?_
 |(with_reducible show iL _ _ _ _ _ _ (bN _));refine O7 ?_
 |(with_reducible show kT _ _ _ (gN _));exact A7 (by first |exact nd |(show(cY _ _).Nodup;decide+kernel)) rfl (by first |exact ie rfl |exact iz rfl)
 |(with_reducible show kT _ _ _ (gT _ _));refine S0 rfl ?_
 |(with_reducible show qZ _ _ _ eB);exact Uz
 |(with_reducible show qZ _ _ _ (cP _ _));refine Zw ?_ ?_
 |(with_reducible show gZ _ _ _ _ _ bQ);exact E6
 |(with_reducible show gZ _ _ _ _ _ (aS _ _));refine Ia ?_ ?_
 |(with_reducible show gZ _ _ _ _ _ _);refine Bk ?_
 |(with_reducible show eT _ _ _ _ _ (bH _));refine Cm ?_
 |(with_reducible show eT _ _ _ _ _ (bP _ _ _));refine aaG ?_ ?_ ?_
 |(with_reducible show eT _ _ _ _ _ (eA _));refine Jy ?_
 |(with_reducible show eT _ _ _ _ _ (mF _));exact By rfl (by assumption) (by assumption)
 |(with_reducible show eT _ _ _ _ _ (aY _ (bO _ _ _ _ _)));(first |refine E5 nd rfl (by first |exact ie rfl |exact iz rfl) (by first |exact wW |exact wJ) ?_ rfl (λ_ _ _ _=> ?_) (λ_ _ _ _=> ?_) |refine Tb nd rfl (by first |exact ie rfl |exact iz rfl) ?_)
 |(with_reducible show eT _ _ _ _ _ (aY _ _));refine Tb nd rfl (by first |exact ie rfl |exact iz rfl) ?_
 |(with_reducible show eT _ _ _ _ _ (tW _ _ _));refine M7 rfl nd rfl rfl (by decide) rfl rfl ?_ rfl
 |(with_reducible show eT _ _ _ _ _ (tR _ _));refine J3 ?_ ?_
 |(with_reducible show eT _ _ _ _ _ (iX _ _ _));refine Lw ?_ ?_ ?_
 |(with_reducible show eT _ _ _ _ _ (nK _ _));refine Ay (by first |exact u7 |exact u8) ?_ ?_
 |(with_reducible show eT _ _ _ _ _ (dB _ _ _));refine R1 (by first |exact u7 |exact u8) rfl ?_ ?_ ?_)<;>trivial)
set_option hygiene true
section
variable{B:Bx}(X:XG B.K B.mg)(m:Mg B.mg)
include X m
theorem G7(h:HF B.K "sign" Tn):vS B:=dI (N:=["number"]) X h cO λnd _ _ _ _ _ _ _ hr=>by unfold Yc;trivial
theorem Yu(h:HF B.K "divisor" Si):zT B:=dI (N:=["one","other","rest"]) X h cO λnd _ _ _ _ _ _ _ hr=>by unfold Fa;trivial
theorem Wv(h:HF B.K "reduced" Gi)(C_divisor:zT B):Jh B:=dI (N:=["numbers","common","number"]) X h cO λnd _ _ _ _ _ _ _ hr=>by unfold Ba;trivial
theorem Tu{f:Addr}{fd:bi}{dsv:Array Value}(F:mO B.K "fraction" "fraction" sB f fd dsv)(C_sign:vS B)(C_divisor:zT B)(q_NoNumber:B.mg "NoNumber"=some (.ref (B.cl "NoNumber")))(x_NoNumber:cy B.K (B.cl "NoNumber") eW "ValueError.__new__"=true):dR B.P B.w B.K B.mg B.base (aV B.P B.w) 2 f fd ["top","bottom"] (jU B.K B.cl nB):=Vq (N:=["top","bottom","common"]) F cO λnd _ _ _ _ _ _ _ hr=>by unfold zY;trivial
theorem Iy{f:Addr}{fd:bi}{dsv:Array Value}(F:mO B.K "point" "point" sR f fd dsv)(C_reduced:Jh B)(C_sign:vS B)(q_NoPoint:B.mg "NoPoint"=some (.ref (B.cl "NoPoint")))(x_NoPoint:cy B.K (B.cl "NoPoint") eW "ValueError.__new__"=true):dR B.P B.w B.K B.mg B.base (aV B.P B.w) 3 f fd ["numbers","bottom"] (jU B.K B.cl oN):=Vq (N:=["numbers","bottom"]) F cO λnd _ _ _ _ _ _ _ hr=>by unfold Bc;trivial
theorem Ju(h:HF B.K "point_at" Bi)(H_point:Jk B):Rg B:=dI (N:=["parts","bottom","part"]) X h cO λnd _ _ _ _ _ _ _ hr=>by unfold uW;trivial
theorem Vs(h:HF B.K "whole_arrow" Zf):Gf B:=dI (N:=["start","end"]) X h cO λnd _ _ _ _ _ _ _ hr=>by unfold zF;trivial
theorem aan(h:HF B.K "dot" Qp):Lo B:=dI (N:=["u","v"]) X h cO λnd _ _ _ _ _ _ _ hr=>by unfold Nd;trivial
theorem Jx(h:HF B.K "normal" Nk):Kj B:=dI (N:=["arrows","u","v"]) X h cO λnd _ _ _ _ _ _ _ hr=>by unfold vN;trivial
theorem Xs(h:HF B.K "determinant" Sf)(C_whole_arrow:Gf B)(C_dot:Lo B)(C_normal:Kj B):Kf B:=dI (N:=["points","rows"]) X h cO λnd _ _ _ _ _ _ _ hr=>by unfold uI;trivial
theorem O0(h:HF B.K "side" Oo)(C_sign:vS B)(C_determinant:Kf B):Jl B:=dI (N:=["points"]) X h cO λnd _ _ _ _ _ _ _ hr=>by unfold wE;trivial
theorem Cv(h:HF B.K "simplex" Ui)(C_side:Jl B)(q_Flat:B.mg "Flat"=some (.ref (B.cl "Flat")))(x_Flat:cy B.K (B.cl "Flat") eW "ValueError.__new__"=true):Qh B:=lO (N:=["points","corners","turn"]) X h cO λnd _ _ _ _ _ _ _ hr=>by unfold sC;trivial
theorem G6(h:HF B.K "move" Cp)(q_NoMove:B.mg "NoMove"=some (.ref (B.cl "NoMove")))(x_NoMove:cy B.K (B.cl "NoMove") eW "ValueError.__new__"=true):Zl B:=lO (N:=["way","arrow"]) X h cO λnd _ _ _ _ _ _ _ hr=>by unfold wS;trivial
theorem Fs(h:HF B.K "refuse_unless" Ze)(q_NoText:B.mg "NoText"=some (.ref (B.cl "NoText")))(x_NoText:cy B.K (B.cl "NoText") eW "ValueError.__new__"=true):mW B:=lO (N:=["fits"]) X h cO λnd _ _ _ _ _ _ _ hr=>by unfold yX;trivial
theorem Nt(h:HF B.K "read_whole" Jg)(H_refuse_unless:mW B)(gt_FIGURES:kU B.K B.mg "FIGURES" (.str "0123456789"))(gt_MOST_FIGURES:kU B.K B.mg "MOST_FIGURES" (.int 60)):Pf B:=lO (N:=["text"]) X h cO λnd _ _ _ _ _ _ _ hr=>by unfold zG;trivial
theorem Ss(h:HF B.K "read_number" Xf)(H_refuse_unless:mW B)(H_read_whole:Pf B)(H_fraction:Bh B):Mf B:=lO (N:=["line","parts","below","top","bottom"]) X h cO λnd _ _ _ _ _ _ _ hr=>by unfold lS;trivial
theorem Kt(h:HF B.K "read_point" Eg)(H_read_number:Mf B)(H_refuse_unless:mW B)(C_point_at:Rg B):zD B:=lO (N:=["line","parts"]) X h cO λnd _ _ _ _ _ _ _ hr=>by unfold uJ;trivial
theorem Qs(h:HF B.K "read_corners" Hf)(H_read_point:zD B)(H_refuse_unless:mW B):Bf B:=lO (N:=["text","corners"]) X h cO λnd _ _ _ _ _ _ _ hr=>by unfold rW;trivial
theorem Yt(h:HF B.K "read_rows" Ah)(gt_NOTHING:kU B.K B.mg "NOTHING" (.str "none")):Fg B:=dI (N:=["line"]) X h cO λnd _ _ _ _ _ _ _ hr=>by unfold uP;trivial
theorem Au(h:HF B.K "read_move" Og)(H_refuse_unless:mW B)(H_move:Zl B)(H_read_point:zD B)(gt_PUSH:kU B.K B.mg "PUSH" (.str "push"))(gt_TURN:kU B.K B.mg "TURN" (.str "turn")):Lg B:=lO (N:=["text","parts"]) X h cO λnd _ _ _ _ _ _ _ hr=>by unfold zM;trivial
theorem Ft(h:HF B.K "read_piece" Gg)(H_refuse_unless:mW B)(H_read_move:Lg B)(H_read_corners:Bf B):Tf B:=lO (N:=["text","parts"]) X h cO λnd _ _ _ _ _ _ _ hr=>by unfold uL;trivial
theorem Os(h:HF B.K "read_cutting" Lf)(C_read_rows:Fg B)(H_read_piece:Tf B)(H_refuse_unless:mW B)(H_simplex:Qh B):Cf B:=lO (N:=["line","rows","corners","one"]) X h cO λnd _ _ _ _ _ _ _ hr=>by unfold lR;trivial
theorem R6(h:HF B.K "_law_row" Qo):Il B:=dI (N:=["_law_script","_law_row_here","_law_k","_law_cell","_law_one","_law_two","_law_three"]) X h cO λnd _ _ _ _ _ _ _ hr=>by unfold Jc;trivial
theorem Dz(h:HF B.K "_law_take" Dn):oI B:=dI (N:=["_law_row_here","_law_many","_law_found"]) X h cO λnd _ _ _ _ _ _ _ hr=>by unfold vW;trivial
theorem R3(h:HF B.K "_law_gcd" Co):Im B:=dI (N:=["_law_one","_law_other"]) X h cO λnd _ _ _ _ _ _ _ hr=>by unfold Dc;trivial
theorem Jv(h:HF B.K "_law_lowest" Ki)(C_wgcd:Im B):pS B:=dI (N:=["_law_numbers","_law_by","_law_number"]) X h cO λnd _ _ _ _ _ _ _ hr=>by unfold vE;trivial
theorem Tw(h:HF B.K "_law_whole" Yj):Ma B:=dI (N:=["_law_number"]) X h cO λnd _ _ _ _ _ _ _ hr=>by unfold Xa;trivial
theorem Uv(h:HF B.K "_law_wholes" Ti)(C_wwhole:Ma B):Hh B:=dI (N:=["_law_told","_law_many"]) X h cO λnd _ _ _ _ _ _ _ hr=>by unfold Qa;trivial
theorem Gz(h:HF B.K "_law_frac" Cn)(C_wlowest:pS B):Db B:=dI (N:=["_law_top","_law_bottom"]) X h cO λnd _ _ _ _ _ _ _ hr=>by unfold Ob;trivial
theorem M3(h:HF B.K "_law_gap" Ap):Hl B:=dI (N:=["_law_p","_law_q"]) X h cO λnd _ _ _ _ _ _ _ hr=>by unfold Rc;trivial
theorem Vx(h:HF B.K "_law_cross" Ik):Nj B:=dI (N:=["_law_u","_law_v","_law_x","_law_y","_law_z"]) X h cO λnd _ _ _ _ _ _ _ hr=>by unfold Ua;trivial
theorem J1(h:HF B.K "_law_dot" Do):Kl B:=dI (N:=["_law_u","_law_v"]) X h cO λnd _ _ _ _ _ _ _ hr=>by unfold Nc;trivial
theorem B0(h:HF B.K "_law_turn" Ym)(C_wdot:Kl B)(C_wcross:Nj B):Fl B:=dI (N:=["_law_ways"]) X h cO λnd _ _ _ _ _ _ _ hr=>by unfold vT;trivial
theorem L5(h:HF B.K "_law_det" So)(C_wturn:Fl B)(C_wgap:Hl B):wB B:=dI (N:=["_law_points"]) X h cO λnd _ _ _ _ _ _ _ hr=>by unfold wM;trivial
theorem Ou(h:HF B.K "_law_simplex" Ai)(C_wdet:wB B):zK B:=dI (N:=["_law_points","_law_told"]) X h cO λnd _ _ _ _ _ _ _ hr=>by unfold uX;trivial
theorem Zs(h:HF B.K "_law_point_form" Ag)(C_wwholes:Hh B)(C_wlowest:pS B):zB B:=dI (N:=["_law_p","_law_many"]) X h cO λnd _ _ _ _ _ _ _ hr=>by unfold zE;trivial
theorem Ds(h:HF B.K "_law_simplex_form" Af)(C_wpoint_form:zB B)(C_wdet:wB B)(C_wsimplex:zK B):We B:=dI (N:=["_law_points","_law_many"]) X h cO λnd _ _ _ _ _ _ _ hr=>by unfold yZ;trivial
theorem Es(h:HF B.K "_law_cutting_form" Ef)(C_wsimplex_form:We B)(C_wwhole:Ma B)(C_wpoint_form:zB B):Xe B:=dI (N:=["_law_told","_law_many","_law_ways","_law_row_here"]) X h cO λnd _ _ _ _ _ _ _ hr=>by unfold zA;trivial
theorem Ot(h:HF B.K "_law_weighted" Zg)(C_wlowest:pS B):Cg B:=dI (N:=["_law_points","_law_weights","_law_under","_law_p","_law_far","_law_k"]) X h cO λnd _ _ _ _ _ _ _ hr=>by unfold zJ;trivial
theorem Pu(h:HF B.K "_law_mean_of" Yh)(C_wweighted:Cg B):Qg B:=dI (N:=["_law_points"]) X h cO λnd _ _ _ _ _ _ _ hr=>by unfold zR;trivial
theorem Hu(h:HF B.K "_law_figures" Zh):Vg B:=dI (N:=["_law_word"]) X h cO λnd _ _ _ _ _ _ _ hr=>by unfold zQ;trivial
theorem Et(h:HF B.K "_law_number_of" Bg)(C_wfigures:Vg B)(C_wfrac:Db B):Uf B:=dI (N:=["_law_word","_law_sign","_law_low","_law_at"]) X h cO λnd _ _ _ _ _ _ _ hr=>by unfold uK;trivial
theorem Wt(h:HF B.K "_law_point_of" Yg)(C_wnumber_of:Uf B)(C_wlowest:pS B):zH B:=dI (N:=["_law_line","_law_words","_law_numbers","_law_under","_law_number"]) X h cO λnd _ _ _ _ _ _ _ hr=>by unfold uQ;trivial
theorem Us(h:HF B.K "_law_corners_of" Rf)(C_wpoint_of:zH B):Nf B:=dI (N:=["_law_line","_law_points"]) X h cO λnd _ _ _ _ _ _ _ hr=>by unfold rY;trivial
theorem Su(h:HF B.K "_law_sign_at" Ih)(C_wtake:oI B):Wg B:=dI (N:=["_law_row_here","_law_some","_law_most"]) X h cO λnd _ _ _ _ _ _ _ hr=>by unfold zP;trivial
theorem Qv(h:HF B.K "_law_spoilt" Fi)(C_wtake:oI B)(C_wsign_at:Wg B):Nh B:=dI (N:=["_law_row_here","_law_line","_law_way","_law_at","_law_sign"]) X h cO λnd _ _ _ _ _ _ _ hr=>by unfold La;trivial
theorem Qw(h:HF B.K "_law_loose" Uj)(C_wfrac:Db B)(C_wtake:oI B):Ka B:=dI (N:=["_law_row_here","_law_top","_law_bottom","_law_many","_law_word","_law_under"]) X h cO λnd _ _ _ _ _ _ _ hr=>by unfold vL;trivial
theorem Gs(h:HF B.K "_law_loose_points" Df)(C_wtake:oI B)(C_wloose:Ka B):Ve B:=dI (N:=["_law_row_here","_law_points","_law_rest","_law_words","_law_k","_law_p"]) X h cO λnd _ _ _ _ _ _ _ hr=>by unfold yY;trivial
theorem Du(h:HF B.K "_law_piece_of" Ng)(C_wcorners_of:Nf B)(C_wpoint_of:zH B):Ig B:=dI (N:=["_law_line","_law_at","_law_points","_law_rest","_law_far"]) X h cO λnd _ _ _ _ _ _ _ hr=>by unfold uM;trivial
theorem Ts(h:HF B.K "_law_cutting_of" Vf)(C_wpiece_of:Ig B):Ff B:=dI (N:=["_law_line","_law_rows"]) X h cO λnd _ _ _ _ _ _ _ hr=>by unfold rX;trivial
theorem Js(h:HF B.K "_law_piece_words" Of)(C_wtake:oI B)(C_wlowest:pS B)(C_wmean_of:Qg B)(C_wloose:Ka B)(C_wloose_points:Ve B):Ye B:=dI (N:=["_law_row_here","_law_dims","_law_way","_law_points","_law_k","_law_far","_law_word","_law_by","_law_p"]) X h cO λnd _ _ _ _ _ _ _ hr=>by unfold zC;trivial
theorem Ux(h:HF B.K "_law_asked" Tk)(H_read_cutting:Cf B)(q_Flat:B.mg "Flat"=some (.ref (B.cl "Flat")))(x_Flat:cy B.K (B.cl "Flat") eW "ValueError.__new__"=true)(q_HallError:B.mg "HallError"=some (.ref (B.cl "HallError")))(x_HallError:cy B.K (B.cl "HallError") eW "ValueError.__new__"=true)(q_NoText:B.mg "NoText"=some (.ref (B.cl "NoText")))(x_NoText:cy B.K (B.cl "NoText") eW "ValueError.__new__"=true)(Z_Flat:jZ B.K (B.cl "Flat"))(Z_NoText:jZ B.K (B.cl "NoText"))(kt_Flat_HallError:gj B.K (.ref (B.cl "Flat")) (.ref (B.cl "HallError"))=some true)(kt_NoText_Flat:gj B.K (.ref (B.cl "NoText")) (.ref (B.cl "Flat"))=some false)(kt_NoText_HallError:gj B.K (.ref (B.cl "NoText")) (.ref (B.cl "HallError"))=some true)(Zt_NoText:um B.K (.ref (B.cl "NoText"))=some (.type "type"))(Zn_Flat_NoText:jy B.K (B.cl "Flat") (.ref (B.cl "NoText"))=some false):Jj B:=dI (N:=["_law_line","_law_found","e"]) X h cO λnd _ _ _ _ _ _ _ hr=>by obtain⟨a_read_cutting,d_read_cutting,GX_read_cutting,G_read_cutting,lR,k_read_cutting,n_read_cutting⟩:=H_read_cutting;have m_isinstance:=m.m_isinstance;exact(Ia (Tb (i:=1) nd rfl (ie rfl) Ao) (Ia (D9 (i:=2) (jv:=1) (nn:=3) (c1:="NoText") (c2:="Flat") (up1:=λρ=>(((ρ.set 2 none).set 1 (some (.pv (.tup [.int 1,.bl true])))).set 2 none)) (up2:=λρ=>(((ρ.set 2 none).set 1 (some (.pv (.tup [.int 2,.bl true])))).set 2 none)) rfl nd rfl rfl rfl q_NoText x_NoText rfl q_Flat x_Flat Zt_NoText Z_NoText Zn_Flat_NoText (G4 rfl Yn (H0 rfl GX_read_cutting (hr.mono (by decide)) rfl n_read_cutting k_read_cutting lR .nil Dv.nil (Bl (Oc 0) Nl))) rfl (ie rfl) (λy oe hc=>(Ac (Vc (i:=1) nd rfl (ie rfl) (Lc (iV Fc (iV (Hn (sM (Jb Z_NoText ay hc) rfl m_isinstance uc (iV (pv 2) (iV (vZ (v:=.ref (B.cl "HallError")) rfl q_HallError rfl) nO))) (X1 (Bo (sM (Jb Z_NoText ay hc) rfl m_isinstance uc (iV (pv 2) (iV (vZ (v:=.ref (B.cl "Flat")) rfl q_Flat rfl) nO)))))) nO)))))) (λy oe hc=>(Ac (Vc (i:=1) nd rfl (ie rfl) (Lc (iV Fc (iV (sM (Jb Z_Flat ay hc) rfl m_isinstance uc (iV (pv 2) (iV (vZ (v:=.ref (B.cl "HallError")) rfl q_HallError rfl) nO))) nO)))))) (λy oe D σ H p S ρ sm hl ev k=>by match σ,hl,ev with |[s0,s1,s2],_,ev=>exact⟨_,rfl,_,true,.inr ⟨_,rfl,kt_NoText_HallError⟩,rfl,true,rfl,acl ⟨_,rfl,_,false,.inr ⟨_,rfl,kt_NoText_Flat⟩,rfl,false,rfl,(by show 2<=u9;decide),λt ht=>k _ _ (fX ht) ((dC.setT (vs:=[.int 1,.bl true]) sm (ev.forget 2 (some (.ref y))) ht (by decide) (by decide) 1).forget 2 none)⟩⟩) (λy oe D σ H p S ρ sm hl ev k=>by match σ,hl,ev with |[s0,s1,s2],_,ev=>exact⟨_,rfl,_,true,.inr ⟨_,rfl,kt_Flat_HallError⟩,rfl,(by show 2<=u9;decide),λt ht=>k _ _ (fX ht) ((dC.setT (vs:=[.int 2,.bl true]) sm (ev.forget 2 (some (.ref y))) ht (by decide) (by decide) 1).forget 2 none)⟩)) (Bk (Cm (Oc 1)))))
theorem aap{f:Addr}{fd:bi}(F:jI B.K "law" "law" nR f fd)(C_wrow:Il B)(C_wtake:oI B)(C_wpiece_words:Ye B)(C_wspoilt:Nh B)(C_wcutting_of:Ff B)(C_wdet:wB B)(C_wsimplex:zK B)(C_wasked:Jj B)(C_wcutting_form:Xe B):dR B.P B.w B.K B.mg B.base gR 10 f fd ["_law_script"] (lI B.K B.cl Ed):=mkR (N:=["_law_script","_law_row_here","_law_dims","_law_words","_law_line","_law_rows","_law_due","_law_found"]) F cO λnd _ _ _ _ _ _ _ hr=>by unfold Ld;trivial
end
local macro_rules
 | `(tactic|simp! [$l,*] $[$loc:location]?)=>`(tactic|simp[iM,aS,bP,aZ,eQ,gB,fD,oZ,tO,oE,aE,bX,mR,mN,aC,aA,mC,aF,bT.bind,qV,fQ,jQ,pA,fS,rd,iP,fN,bR,eI,dW,cW,tX,kC,cU.of,bH,abl,bQ,eA,aY,nM,jA,bD,cL,qJ,eY,jX,oS,bM,fE,frz,oY,$l,*] $[$loc]?)
def jJ(S:aQ)(k:Nat)(ns:BA):Prop:=S[k]?=some (.lst (ns.map .int))
theorem jJ.lt{S:aQ}{k:Nat}{ns:BA}(h:jJ S k ns):k<S.length:=(dj.mp h).1
theorem jJ.set{S:aQ}{k:Nat}{ns:BA}(h:jJ S k ns)(ms:BA):jJ (S.set k (.lst (ms.map .int))) k ms:=ix h.lt
theorem Fh{r:cA}{k:Nat}{m:AV}:∀(ns:BA)(S:aQ),jJ S k ns->∃n ns',dX (gB (aZ (aE gF (mR bR (aC (aA 0) aF)) (mC (.int 0)))) (aZ (aE bM (aE aG (aA 0) (mC (.int 0))) (mC (.int 0))))) (eA (lK (aA 0) (aC (mC (.int 0)) aF))) n (some (.ref k)::some m::r) S=.nx (some (.ref k)::some m::r) (S.set k (.lst (ns'.map .int)))/\ns'.length<=ns.length/\(ns'=[]\/∃i t,ns'=i::t/\i≠0)
 |[],S,h=>by
  refine⟨1,[],?_,am _,.inl rfl⟩;have h':S[k]?=some (.lst []):=h;have e:S.set k (.lst (([]:BA).map .int))=S:=yt λi=>by
   by_cases q:k=i
   .subst q;rw[ix h.lt,h'];rfl
   .rw[ju q]
  rw[e];simp[dX,gB,aZ,aE,mR,aC,aA,mC,aF,bT.bind,jQ,fS,rd,h',fN,bR,fQ,gF,i2,kC,cU.of]
 |i::t,S,h=>by
  have h':S[k]?=some (.lst (.int i::t.map .int)):=h
  by_cases hi:i=0
  .subst hi
   have hr:jJ (S.set k (.lst (t.map .int))) k t:=h.set t;obtain⟨n,ns',e,l,q⟩:=Fh (r:=r) (m:=m) t _ hr;refine⟨n+1,ns',?_,by simp;omega,q⟩;rw[uq]at e;rw[<-e];have hl:(0:Int)<(t.length:Int)+1:=by omega
   simp[dX,gB,aZ,aE,mR,aC,aA,mC,aF,bT.bind,jQ,fS,rd,h',fN,bR,fQ,gF,i2,kC,cU.of,aG,aR,aU,bM,aI,eA,lK,fZ,nS,seqIndex?,hl]
  .refine⟨1,i::t,?_,am _,.inr ⟨i,t,rfl,hi⟩⟩
   have e:S.set k (.lst ((i::t).map .int))=S:=yt λj=>by
    by_cases q:k=j
    .subst q;rw[ix h.lt,h'];rfl
    .rw[ju q]
   rw[e];have hl:(0:Int)<(t.length:Int)+1:=by omega
   simp[dX,gB,aZ,aE,mR,aC,aA,mC,aF,bT.bind,jQ,fS,rd,h',fN,bR,fQ,gF,i2,kC,cU.of,aG,aR,aU,bM,aI,hl,hi]
theorem sS{S:aQ}{k:Nat}{ns:BA}{m:Int}(h:jJ S k ns)(hm:0<m)(b:Bd 8000 m):∃(v:Int)(ns':BA),cZ [.ref k,.pv (.int m)] S=.ok (.pv (.int v)) (S.set k (.lst (ns'.map .int)))/\0<=v/\v<m/\ns'.length<=ns.length:=by
 obtain⟨n,ns',e,l,q⟩:=Fh (r:=[none]) (m:=.pv (.int m)) ns S h;have hr:=h.set ns';have hl1:(S.set k (.lst (ns'.map .int))).length=S.length:=by simp
 have hss:∀x,(S.set k (.lst (ns'.map .int))).set k x=S.set k x:=λx=>uq ..;generalize hS1:S.set k (.lst (ns'.map .int))=S1 at e hr hl1 hss;have w:=Ra e (by simp);rcases q with rfl |⟨i,t,rfl,hi⟩
 .refine⟨0,[],?_,xp 0,hm,io _⟩
  rw[hS1];have hr':S1[k]?=some (.lst []):=hr;have tk:List.take S.length S1=S1:=ky (by omega);unfold cZ bA vW;simp[iM,aS,w,bP,aZ,aE,mR,aC,aA,mC,aF,bT.bind,jQ,fS,rd,hr',fN,bR,fQ,bM,aI,kC,cU.of,bH,nM,jA,tk]
 .have hr':S1[k]?=some (.lst (.int i::t.map .int)):=hr
  refine⟨i.fmod m,i.fdiv m::t,?_,v7 i hm,Int.fmod_lt_of_pos i hm,l⟩;rw[<-hss];have tk:∀x,List.take S.length (S1.set k x)=S1.set k x:=λx=>ky (by simp;omega);have hl:¬((t.length:Int)+1=0):=by omega
  have hq:oW i m:=⟨by omega,b⟩;have hm0:m≠0:=by omega
  unfold cZ bA vW;simp[iM,aS,w,bP,aZ,aE,mR,aC,aA,mC,aF,bT.bind,jQ,fS,rd,hr',fN,bR,fQ,bM,aI,kC,cU.of,bH,nM,jA,tk,bQ,hl,aY,fT,eO,i2,cI,aG,aR,aU,hm0,hq,iX,fZ,nQ]
theorem aN(i j:Int):gF (.int i) (.int j)=some (.bl (decide (j<i))):=rfl
theorem aM(i j:Int):gK (.int i) (.int j)=some (.bl (decide (i<j))):=rfl
theorem aK(i j:Int):pI (.int i) (.int j)=some (.bl (decide (j<=i))):=rfl
theorem aL(i j:Int):kA (.int i) (.int j)=some (.bl (decide (i<=j))):=rfl
theorem aJ(i j:Int):dN (.int i) (.int j)=some (.int (i-j)):=rfl
theorem iU{i j:Int}(h:oX i j):bF (.int i) (.int j)=some (.int (i*j)):=by
 simp[bF,i2,cI,h]
theorem sL{i j:Int}(h:oW i j):eO (.int i) (.int j)=some (.int (i.fdiv j)):=by
 simp[eO,i2,cI,h]
theorem nF{i j:Int}(h:j≠0):fT (.int i) (.int j)=some (.int (i.fmod j)):=by
 simp[fT,i2,cI,h]
theorem Qm{i j:Int}(h:xS i j):lH (.int i) (.int j)=some (.int (i^j.toNat)):=by
 simp[lH,i2,cI,h]
theorem wC(n:Int)(S:aQ):oU [.pv (.int n)] S=.ok (.pv (.int (sg n))) S:=by
 unfold oU bA Yc sg
 by_cases h1:0<n
 .simp[iM,aS,bP,aZ,aE,aA,mC,bT.bind,fQ,rd,fN,gF,i2,kC,cU.of,bH,nM,jA,h1]
 .by_cases h2:n<0
  .simp[iM,aS,bP,aZ,aE,aA,mC,bT.bind,fQ,rd,fN,gF,gK,i2,kC,cU.of,bH,nM,jA,h1,h2,bQ,bX,qV,cW]
  .simp[iM,aS,bP,aZ,aE,aA,mC,bT.bind,fQ,rd,fN,gF,gK,i2,kC,cU.of,bH,nM,jA,h1,h2,bQ,bX,qV,cW]
theorem Wf(S:aQ):∀(m:Nat)(a b:Int)(x:BJ),b.natAbs<=m->∃(n:Nat)(g:Int)(x':BJ),dX (aZ (aE fE (aA 1) (mC (.int 0)))) (aS (aY 2 (aE fT (aA 0) (aA 1))) (aS (aY 0 (aA 1)) (aY 1 (aA 2)))) n [some (.pv (.int a)),some (.pv (.int b)),x] S=.nx [some (.pv (.int g)),some (.pv (.int 0)),x'] S/\g.natAbs=bj a b
 |0,a,b,x,h=>by
  have hb:b=0:=by omega
  subst hb;refine⟨1,a,x,?_,by simp⟩;simp! [dX,aG,aR,aU,aI,aN,aM,aK,aL,aH,aJ]
 |m+1,a,b,x,h=>by
  by_cases hb:b=0
  .subst hb
   refine⟨1,a,x,?_,by simp⟩;simp! [dX,aG,aR,aU,aI,aN,aM,aK,aL,aH,aJ]
  .have hl:=Ri a hb
   obtain⟨n,g,x',e,q⟩:=Wf S m b (a.fmod b) (some (.pv (.int (a.fmod b)))) (by omega);refine⟨n+1,g,x',?_,by rw[q,Ek]⟩;rw[<-e];simp! [dX,aG,aR,aU,aI,aN,aM,aK,aL,aH,aJ,nF hb,hb]
theorem Sh(a b:Int)(S:aQ):pU [.pv (.int a),.pv (.int b)] S=.ok (.pv (.int (bj a b:Nat))) S:=by
 obtain⟨n,g,x',e,q⟩:=Wf S b.natAbs a b none (am _);have w:=Ra e (by simp);unfold pU bA Fa;have hg:(if g<0 then-g else g)=((bj a b:Nat):Int):=by rw[<-q];exact Qc g
 simp! [aG,aR,aU,aI,aN,aM,aK,aL,aH,aJ,w,hg]
theorem Mi(S:aQ):∀(m:Nat)(a b:Int),0<=a->0<=b->b.natAbs<=m->∃(n:Nat),dX (aZ (aE gF (aA 1) (mC (.int 0)))) (tW 0 1 (aC (aA 1) (aC (aE fT (aA 0) (aA 1)) aF))) n [some (.pv (.int a)),some (.pv (.int b))] S=.nx [some (.pv (.int (bj a b:Nat))),some (.pv (.int 0))] S
 |0,a,b,ha,hb,h=>by
  have hb:b=0:=by omega
  subst hb;have ea:((bj a 0:Nat):Int)=a:=by simp;omega
  refine⟨1,?_⟩;rw[ea];simp! [dX,aG,aR,aU,aI,aN,aM,aK,aL,aH,aJ]
 |m+1,a,b,ha,hb,h=>by
  by_cases h0:b=0
  .subst h0
   have ea:((bj a 0:Nat):Int)=a:=by simp;omega
   refine⟨1,?_⟩;rw[ea];simp! [dX,aG,aR,aU,aI,aN,aM,aK,aL,aH,aJ]
  .have hl:=Ri a h0
   have hp:0<b:=by omega
   obtain⟨n,e⟩:=Mi S m b (a.fmod b) hb (v7 a hp) (by omega);refine⟨n+1,?_⟩;rw[<-Ek,<-e];simp! [dX,aG,aR,aU,aI,aN,aM,aK,aL,aH,aJ,nF h0,hp,tW]
theorem Y3(a b:Int)(S:aQ):sZ [.pv (.int a),.pv (.int b)] S=.ok (.pv (.int (bj a b:Nat))) S:=by
 have ha:0<=(if a<0 then-a else a):=by split<;>omega
 have hb:0<=(if b<0 then-b else b):=by split<;>omega
 obtain⟨n,e⟩:=Mi S _ _ _ ha hb (am _);have w:=Ra e (by simp);have eg:bj (if a<0 then-a else a) (if b<0 then-b else b)=bj a b:=by
  rw[Qc,Qc];simp[bj]
 rw[eg]at w;unfold sZ bA Dc;simp! [aG,aR,aU,aI,aN,aM,aK,aL,aH,aJ,w]
theorem Eb(S:aQ)(v2:BJ):∀(ns:BA)(g:Int)(a:AV),∃v',dQ [] (gN 2) (aY 1 (bD sZ [] (aC (aA 1) (aC (aA 2) aF)))) (ns.map .int) [some a,some (.pv (.int g)),v2] S=.nx [some a,some (.pv (.int (gl ns g))),v'] S
 |[],g,a=>⟨v2,hV⟩
 |n::ns,g,a=>by
  obtain⟨v',e⟩:=Eb S (some (.pv (.int n))) ns (bj g n:Nat) a;refine⟨v',?_⟩;show dQ [] _ _ (.int n::ns.map .int) _ S=_;rw[gG];simp! [gN,aG,aR,aU,aI,aN,aM,aK,aL,aH,aJ,Y3];exact e
theorem vK(S:aQ)(g:Int)(hg:g≠0)(b:Bd 8000 g):∀(ns:BA)(x:BJ),cN [] (gN 0) (aE eO (aA 0) (aA 1)) (ns.map .int) [x,some (.pv (.int g))] S=.ok ((ns.map λn=>n.fdiv g).map .int) S
 |[],x=>eN
 |n::ns,x=>by
  have ih:=vK S g hg b ns (some (.pv (.int n)));show cN [] _ _ (.int n::ns.map .int) _ S=_;rw[eV];simp! [gN,aG,aR,aU,aI,aN,aM,aK,aL,aH,aJ,sL (show oW n g from⟨hg,b⟩),ih]
theorem pW(ns:BA)(S:aQ)(hb:∀n∈ns,Bd 8000 n):gH [.pv (.lst (ns.map .int))] S=.ok (.pv (.tup ((low ns).map .int))) S:=by
 obtain⟨v',e⟩:=Eb S none ns 0 (.pv (.lst (ns.map .int)));unfold gH bA vE
 by_cases h:gl ns 0=0
 .have el:low ns=ns:=by unfold low;rw[if_pos h]
  simp! [aG,aR,aU,aI,aN,aM,aK,aL,aH,aJ,dB,bN,cE,e,h,el]
 .have el:low ns=ns.map λn=>n.fdiv (gl ns 0):=by
   unfold low;rw[if_neg h];exact im λn hn=>(ou ((lC ns 0).2 n hn)).symm
  have bg:Bd 8000 (gl ns 0):=xD (Bd.of (n:=0) (by simp) (qu 8000)) hb;have ec:=vK S (gl ns 0) h bg ns none;simp! [aG,aR,aU,aI,aN,aM,aK,aL,aH,aJ,dB,bN,cE,e,h,el,bO,cC,ec]
theorem Tj(n:Int)(S:aQ):oM [.pv (.int n)] S=.ok (.pv (.bl true)) S:=by
 unfold oM bA Xa;simp! [aG,aR,aU,aI,aN,aM,aK,aL,aH,aJ,fH]
theorem Ug(S:aQ):∀(ns:BA)(x:BJ),cN [] (gN 0) (bD oM [] (aC (aA 0) aF)) (ns.map .int) [x] S=.ok (ns.map λ_=>.bl true) S
 |[],x=>eN
 |n::ns,x=>by
  have ih:=Ug S ns (some (.pv (.int n)));show cN [] _ _ (.int n::ns.map .int) _ S=_;rw[eV];simp! [gN,aG,aR,aU,aI,aN,aM,aK,aL,aH,aJ,Tj,ih]
theorem Uk:∀(ns:BA),jB (ns.map λ_=>PV.bl true)=some (ns.map λ_=>true)
 |[]=>rfl
 |n::ns=>by
  show jB (.bl true::ns.map λ_=>PV.bl true)=_;unfold jB;rw[Uk ns];rfl
theorem Hw(ns:BA)(S:aQ):uZ [.pv (.tup (ns.map .int)),.pv (.int ns.length)] S=.ok (.pv (.bl true)) S:=by
 unfold uZ bA Qa;have e:=Ug S ns none;have ea:((ns.map λ_=>true).all id)=true:=by simp
 simp! [aG,aR,aU,aI,aN,aM,aK,aL,aH,aJ,fH,bO,bN,cE,cC,e,gA,Uk]
theorem Pl:∀(n:Nat)(ns:BA),iW (dy (aI n) (ns.map .int) (ns.map .int))=some (ns.map λ_=>true)
 |n,[]=>rfl
 |n,m::ns=>by
  have ih:=Pl n ns;simp only[cg,ur];have e:aI n (.int m) (.int m)=some true:=by cases n<;>simp[aI]
  rw[e];unfold iW;rw[ih]
theorem En(n:Nat)(ns:BA):aI (n+1) (.tup (ns.map .int)) (.tup (ns.map .int))=some true:=by
 rw[aI,Pl];simp
theorem Xu(ns:BA)(S:aQ)(hb:∀n∈ns,Bd 8000 n):gH [.pv (.tup (ns.map .int))] S=.ok (.pv (.tup ((low ns).map .int))) S:=by
 obtain⟨v',e⟩:=Eb S none ns 0 (.pv (.tup (ns.map .int)));unfold gH bA vE
 by_cases h:gl ns 0=0
 .have el:low ns=ns:=by unfold low;rw[if_pos h]
  simp! [aG,aR,aU,aI,aN,aM,aK,aL,aH,aJ,dB,bN,cE,e,h,el]
 .have el:low ns=ns.map λn=>n.fdiv (gl ns 0):=by
   unfold low;rw[if_neg h];exact im λn hn=>(ou ((lC ns 0).2 n hn)).symm
  have bg:Bd 8000 (gl ns 0):=xD (Bd.of (n:=0) (by simp) (qu 8000)) hb;have ec:=vK S (gl ns 0) h bg ns none;simp! [aG,aR,aU,aI,aN,aM,aK,aL,aH,aJ,dB,bN,cE,e,h,el,bO,cC,ec]
theorem kM(i:Int){j:Int}(h1:-(2^64)<j)(h2:j<2^64):bF (.int i) (.int j)=some (.int (i*j)):=iU (.inl (.inr ⟨h1,h2⟩))
theorem Qr:lH (.int 10) (.int 18)=some (.int 1000000000000000000):=Qm (i:=10) (j:=18) ⟨by decide,by decide,by decide⟩
theorem Wa{k:Nat}{a:AV}:∀(cs:BA)(n:Nat)(acc:BA)(S:aQ)(v2 v3 v4 v5 v6:BJ),jJ S k acc->acc.length+cs.length<=63->n+cs.length<=63->∃(acc':BA)(w2 w3 w4 w5 w6:BJ),dQ [] (gT 2 (cP (gN 2) (cP (gN 3) eB))) ((bP (aZ (aE pI (aA 3) (aE lH (mC (.int 10)) (mC (.int 18))))) (eA (iF (aA 1) (aC (aE dN (aA 3) (aE lH (mC (.int 10)) (mC (.int 18)))) aF))) (aS (aY 4 (aE fT (aE bF (aE aH (aE aH (aE aH (aA 3) (aE bF (aE bF (mC (.int 7)) (aA 2)) (aA 2))) (aE bF (mC (.int 13)) (aA 2))) (mC (.int 5))) (mC (.int 48271))) (mC (.int 2147483647))))
 (aS (aY 5 (aE fT (aE bF (aE aH (aE aH (aE aH (aA 3) (aE bF (aE bF (mC (.int 11)) (aA 2)) (aA 2))) (aE bF (mC (.int 17)) (aA 2))) (mC (.int 3))) (mC (.int 40692))) (mC (.int 2147483399))))
 (aS (aY 6 (aE fT (aE bF (aE aH (aE aH (aE aH (aA 3) (aE bF (aE bF (mC (.int 5)) (aA 2)) (aA 2))) (aE bF (mC (.int 29)) (aA 2))) (mC (.int 8))) (mC (.int 39373))) (mC (.int 2147483587))))
 (aS (aY 4 (aE fT (aE bF (aA 4) (mC (.int 52021))) (mC (.int 1000000007))))
 (aS (aY 5 (aE fT (aE bF (aA 5) (mC (.int 30011))) (mC (.int 998244353))))
 (aS (aY 6 (aE fT (aE bF (aA 6) (mC (.int 45989))) (mC (.int 1000000009))))
 (eA (iF (aA 1) (aC (aE aH (aE bF (aE aH (aE bF (aA 4) (mC (.int 998244353))) (aA 5)) (mC (.int 1000000009))) (aA 6)) aF))))))))))) (iZ n (cs.map .int)) [some a,some (.ref k),v2,v3,v4,v5,v6] S=.nx [some a,some (.ref k),w2,w3,w4,w5,w6] (S.set k (.lst (acc'.map .int)))/\acc'.length<=63
 |[],n,acc,S,v2,v3,v4,v5,v6,h,hl,_=>by
  refine⟨acc,v2,v3,v4,v5,v6,?_,by simpa using hl⟩;have e:S.set k (.lst (acc.map .int))=S:=yt λj=>by
   by_cases q:k=j
   .subst q;rw[ix h.lt];exact h.symm
   .rw[ju q]
  rw[e];exact hV
 |x::cs,n,acc,S,v2,v3,v4,v5,v6,h,hl,hn=>by
  simp only[br]at hl hn;have h':S[k]?=some (.lst (acc.map .int)):=h;have hlen:acc.length<16777216:=by omega
  have hk1:-(2^64)<(n:Int):=by omega
  have hk2:(n:Int)<2^64:=by omega
  by_cases c:(1000000000000000000:Int)<=x
  .obtain⟨acc',w2,w3,w4,w5,w6,e,q⟩:=Wa (k:=k) (a:=a) cs (n+1) (acc++[x-1000000000000000000]) (S.set k (.lst ((acc++[x-1000000000000000000]).map .int))) (some (.pv (.int n))) (some (.pv (.int x))) v4 v5 v6 (h.set _) (by simp;omega) (by omega)
   refine⟨acc',w2,w3,w4,w5,w6,?_,q⟩;rw[uq]at e;rw[<-e];show dQ [] _ _ (.tup [.int n,.int x]::iZ (n+1) (cs.map .int)) _ S=_;rw[gG];simp! [gT,cP,eB,gN,aG,aR,aU,aI,aN,aM,aK,aL,aH,aJ,Qr,c,iF,fZ,mG,h',hlen]
  .obtain⟨acc',w2,w3,w4,w5,w6,e,q⟩:=Wa (k:=k) (a:=a) cs (n+1) (acc++[((((x+7*n*n+13*n+5)*48271).fmod 2147483647*52021).fmod 1000000007*998244353+(((x+11*n*n+17*n+3)*40692).fmod 2147483399*30011).fmod 998244353)*1000000009+(((x+5*n*n+29*n+8)*39373).fmod 2147483587*45989).fmod 1000000009]) (S.set k (.lst ((acc++[((((x+7*n*n+13*n+5)*48271).fmod 2147483647*52021).fmod 1000000007*998244353+(((x+11*n*n+17*n+3)*40692).fmod 2147483399*30011).fmod 998244353)*1000000009+(((x+5*n*n+29*n+8)*39373).fmod 2147483587*45989).fmod 1000000009]).map .int))) (some (.pv (.int n))) (some (.pv (.int x))) (some (.pv (.int ((((x+7*n*n+13*n+5)*48271).fmod 2147483647*52021).fmod 1000000007)))) (some (.pv (.int ((((x+11*n*n+17*n+3)*40692).fmod 2147483399*30011).fmod 998244353)))) (some (.pv (.int ((((x+5*n*n+29*n+8)*39373).fmod 2147483587*45989).fmod 1000000009)))) (h.set _) (by simp;omega) (by omega)
   refine⟨acc',w2,w3,w4,w5,w6,?_,q⟩;rw[uq]at e;rw[<-e];show dQ [] _ _ (.tup [.int n,.int x]::iZ (n+1) (cs.map .int)) _ S=_;rw[gG];simp! [gT,cP,eB,gN,aG,aR,aU,aI,aN,aM,aK,aL,aH,aJ,Qr,c,iF,fZ,mG,h',hlen,kM _ hk1 hk2,kM _ (show-(2^64)<(48271:Int) by decide) (by decide),kM _ (show-(2^64)<(40692:Int) by decide) (by decide),kM _ (show-(2^64)<(39373:Int) by decide) (by decide),kM _ (show-(2^64)<(52021:Int) by decide) (by decide),kM _ (show-(2^64)<(30011:Int) by decide) (by decide),kM _ (show-(2^64)<(45989:Int) by decide) (by decide),kM _ (show-(2^64)<(998244353:Int) by decide) (by decide),kM _ (show-(2^64)<(1000000009:Int) by decide) (by decide),nF (show(2147483647:Int)≠0 by decide),nF (show(2147483399:Int)≠0 by decide),nF (show(2147483587:Int)≠0 by decide),nF (show(1000000007:Int)≠0 by decide),nF (show(998244353:Int)≠0 by decide),nF (show(1000000009:Int)≠0 by decide)]
theorem aai(ns:BA)(S:aQ)(h:ns.length<=63):∃ms:BA,qC [.pv (.lst (ns.map .int))] S=.ok (.ref S.length) (S++[.lst (ms.map .int)])/\ms.length<=63:=by
 have hr:jJ (S++[.lst []]) S.length []:=by unfold jJ;simp
 obtain⟨ms,w2,w3,w4,w5,w6,e,q⟩:=Wa (a:=.pv (.lst (ns.map .int))) ns 0 [] (S++[.lst []]) none none none none none hr (by simpa using h) (by simpa using h);have ec:jD (ns.map .int) none (some 63)=ns.map .int:=by
  unfold jD;have e1:HT.sIx (ns.map PV.int).length 0 none=0:=rfl;have e2:HT.sIx (ns.map PV.int).length (ns.map PV.int).length (some 63)=(ns.map PV.int).length:=by
   have:=HT.sIx_nat (ns.map PV.int).length (ns.map PV.int).length 63;rw[show((63:Nat):Int)=63 from rfl]at this;rw[this,ar];omega
  rw[e1,e2,v8,Nat.sub_zero,p8]
 refine⟨ms,?_,q⟩;have es:(S++[SO.lst []]).set S.length (.lst (ms.map .int))=S++[.lst (ms.map .int)]:=by simp
 rw[es]at e;unfold qC bA Jc;simp! [aG,aR,aU,aI,aN,aM,aK,aL,aH,aJ,dB,jS,qU,xI,dY,bV,bW,cV,jE,Pc,ec,e]
def PT(L:BA)(b:Int):BA:=(low (L++[b])).map (sg b*·)
theorem acj{L:BA}{b:Int}(hb:b≠0):gl (L++[b]) 0≠0:=xE (oK L b) hb
theorem S8{L:BA}{b:Int}(hb:0<b):PT L b=low (L++[b]):=by
 unfold PT sg;rw[if_pos hb]
 conv=>rhs;rw[<-jb (low (L++[b]))]
 exact im λn _=>ja n
theorem Mk(S:aQ)(v2:BJ):∀(ns:BA)(g:Int)(a:AV),∃v',dQ [] (gN 2) (aY 1 (bD pU [] (aC (aA 1) (aC (aA 2) aF)))) (ns.map .int) [some a,some (.pv (.int g)),v2] S=.nx [some a,some (.pv (.int (gl ns g))),v'] S
 |[],g,a=>⟨v2,hV⟩
 |n::ns,g,a=>by
  obtain⟨v',e⟩:=Mk S (some (.pv (.int n))) ns (bj g n:Nat) a;refine⟨v',?_⟩;show dQ [] _ _ (.int n::ns.map .int) _ S=_;rw[gG];simp! [gN,aG,aR,aU,aI,aN,aM,aK,aL,aH,aJ,Sh];exact e
theorem Mv(ns:BA)(S:aQ)(hb:∀n∈ns,Bd 8000 n)(h:gl ns 0≠0):uY [.pv (.lst (ns.map .int))] S=.ok (.pv (.lst ((low ns).map .int))) S:=by
 obtain⟨v',e⟩:=Mk S none ns 0 (.pv (.lst (ns.map .int)));have el:low ns=ns.map λn=>n.fdiv (gl ns 0):=by
  unfold low;rw[if_neg h];exact im λn hn=>(ou ((lC ns 0).2 n hn)).symm
 have bg:Bd 8000 (gl ns 0):=xD (Bd.of (n:=0) (by simp) (qu 8000)) hb;have ec:=vK S (gl ns 0) h bg ns none;unfold uY bA Ba;simp! [aG,aR,aU,aI,aN,aM,aK,aL,aH,aJ,dB,bN,cE,e,h,el,bO,cC,ec]
theorem Rj(S:aQ)(b:Int):∀(ns:BA)(x:BJ),cN [] (gN 0) (aE bF (bD oU [] (aC (aA 1) aF)) (aA 0)) (ns.map .int) [x,some (.pv (.int b))] S=.ok ((ns.map (sg b*·)).map .int) S
 |[],x=>eN
 |n::ns,x=>by
  have ih:=Rj S b ns (some (.pv (.int n)));have hm:bF (.int (sg b)) (.int n)=some (.int (sg b*n)):=iU (.inl (.inl (E1 b)));show cN [] _ _ (.int n::ns.map .int) _ S=_;rw[eV];simp! [gN,aG,aR,aU,aI,aN,aM,aK,aL,aH,aJ,wC,hm,ih]
theorem D8{w:PV}(L:BA)(b:Int)(S:aQ)(hw:w=.lst (L.map .int)\/w=.tup (L.map .int))(hL:∀n∈L,Bd 8000 n)(bb:Bd 8000 b)(hb:b≠0)(hl:L.length<=100):oN [.pv w,.pv (.int b)] S=.ok (.pv (.tup ((PT L b).map .int))) S:=by
 have e1:=Mv (L++[b]) S (λn hn=>by
  rcases cu.mp hn with z |z
  .exact hL n z
  .have:n=b:=by simpa using z
   rw[this];exact bb) (acj hb)
 have e2:=Rj S b (low (L++[b])) none;have hz:L.length+1<=16777216:=by omega
 simp only[nh,cg,il]at e1;unfold PT oN bA Bc;rcases hw with rfl |rfl<;>simp! [aG,aR,aU,aI,aN,aM,aK,aL,aH,aJ,hb,hz,e1,bN,cE,bO,cC,e2]
theorem Sz(zs:BA)(z:Int):jD ((zs++[z]).map .int) none (some (-1))=zs.map .int:=by
 unfold jD;have e1:HT.sIx ((zs++[z]).map PV.int).length 0 none=0:=rfl;have e2:HT.sIx ((zs++[z]).map PV.int).length ((zs++[z]).map PV.int).length (some (-1))=zs.length:=by
  rw[ar,bq];exact Ib zs.length _
 rw[e1,e2];simp
theorem Yw(zs:BA)(z:Int):¬(HT.sIx ((zs++[z]).map PV.int).length 0 none=0/\HT.sIx ((zs++[z]).map PV.int).length ((zs++[z]).map PV.int).length (some (-1))=((zs++[z]).map PV.int).length):=by
 rintro⟨_,e⟩
 have e2:HT.sIx ((zs++[z]).map PV.int).length ((zs++[z]).map PV.int).length (some (-1))=zs.length:=by
  rw[ar,bq];exact Ib zs.length _
 rw[e2,ar,bq]at e;simp at e
theorem vQ(zs:BA)(z:Int):jE (.tup ((zs++[z]).map .int)) none (some (-1))=some (.tup (zs.map .int)):=by
 unfold jE;dsimp only;rw[if_neg (Yw zs z),Sz]
theorem nE(zs:BA)(z:Int):aG (.tup ((zs++[z]).map .int)) (.int (-1))=some (.int z):=by
 show aR ((zs++[z]).map PV.int) (-1)=_;rw[nh];exact E3 _ _
theorem oA{m:Int}(h0:0<=m)(h:m<1024):Bd 8000 m:=Bd.of (n:=1023) (by omega) (cj (show 1023<2^10 by decide) (qh (by decide) (by decide)))
theorem bZ(n:Nat)(a b:Int):aI n (.int a) (.int b)=some (a==b):=by cases n<;>rfl
theorem mB{a b:Int}(h:Bd 2000 a)(g:Bd 2000 b):bF (.int a) (.int b)=some (.int (a*b)):=iU (.inr ⟨h.mono (by decide),g.mono (by decide)⟩)
theorem Tc(zs:BA)(z:Int)(j:Nat)(h:j<zs.length):aG (.tup ((zs++[z]).map .int)) (.int (j:Nat))=some (.int (zs.getD j 0)):=by
 show aR ((zs++[z]).map PV.int) (j:Int)=_;refine oO ?_;rw[fh,ib h,bh h];simp[de,h]
theorem Am{xs:BA}{k:Nat}(h:∀x∈xs,Bd k x)(j:Nat):Bd k (xs.getD j 0):=by
 by_cases hj:j<xs.length
 .have e:xs.getD j 0=xs[j]:=by simp[de,hj]
  rw[e];exact h _ (je hj)
 .have e:xs.getD j 0=0:=by simp[de,hj]
  rw[e];exact Bd.of (n:=0) (by decide) (qu k)
theorem Fx{xs ys:BA}(hl:xs.length=ys.length)(f:Int->Int->Int):(cq xs.length).map (λj=>f (xs.getD j 0) (ys.getD j 0))=dy f xs ys:=by
 refine q9 (by simp[hl]) λi h1 h2=>?_;have hi:i<xs.length:=by simpa using h1
 have hj:i<ys.length:=by omega
 simp[de,hi,hj]
structure Pq(n k:Nat)(xs:BA)(w:Int):Prop where
 len:xs.length=n
 pos:0<w
 low:low (xs++[w])=xs++[w]
 bx:∀x∈xs,Bd k x
 bw:Bd k w
theorem Pq.mono{n k l:Nat}{xs:BA}{w:Int}(P:Pq n k xs w)(h:k<=l):Pq n l xs w:=⟨P.len,P.pos,P.low,λx hx=>(P.bx x hx).mono h,P.bw.mono h⟩
theorem Xk{xs:BA}{w:Int}{n k:Nat}(S:aQ)(hk:k<=2000)(h:Pq n k xs w):lU [.pv (.tup ((xs++[w]).map .int)),.pv (.int n)] S=.ok (.pv (.bl true)) S:=by
 have e1:=Hw (xs++[w]) S;have hl:((xs++[w]).length:Int)=(n:Int)+1:=by simp[h.len]
 rw[hl]at e1;have ip:=nE xs w;have el:=Xu (xs++[w]) S (λm hm=>by
  rcases cu.mp hm with z |z
  .exact(h.bx m z).mono (by omega)
  .have:m=w:=by simpa using z
   rw[this];exact h.bw.mono (by omega))
 rw[h.low]at el;have q:aI 8 (.tup ((xs++[w]).map .int)) (.tup ((xs++[w]).map .int))=some true:=En 7 _;have hw:¬w<1:=by have:=h.pos;omega
 generalize (xs++[w]).map PV.int=PL at e1 ip el q;unfold lU bA zE;simp! [bZ,aN,aM,aK,aL,aH,aJ,e1,ip,hw,el,q]
theorem Om(t b:Int)(S:aQ)(ht:Bd 8000 t)(hb:Bd 8000 b):mD [.pv (.int t),.pv (.int b)] S=.ok (.pv (.tup ((fr t b).map .int))) S:=by
 unfold mD bA Ob fr;have e1:=pW [0-t,0-b] S (by
  intro n hn;rcases ce.mp hn with rfl |hn
  .rw[ka];exact ht.neg
  .have:n=0-b:=by simpa using hn
   rw[this,ka];exact hb.neg)
 have e2:=pW [t,b] S (by
  intro n hn;rcases ce.mp hn with rfl |hn
  .exact ht
  .have:n=b:=by simpa using hn
   rw[this];exact hb)
 by_cases h:b<0
 .simp only[cg,il,ka]at e1
  simp! [aG,aR,aU,aI,aN,aM,aK,aL,aH,aJ,h,e1]
 .simp only[cg,il]at e2
  simp! [aG,aR,aU,aI,aN,aM,aK,aL,aH,aJ,h,e2]
theorem Nu(t b:Int)(S:aQ)(ht:Bd 7000 t)(hb:Bd 7000 b)(h:b≠0):nB [.pv (.int t),.pv (.int b)] S=.ok (.pv (.tup ((fr t b).map .int))) S:=by
 have gb:Bd 7000 ((bj t b:Nat):Int):=ht.gcd hb;have sb:Bd 2 (sg b):=by
  unfold sg;split
  .unfold Bd;simp
  .split<;>(unfold Bd;simp)
 have mb:oX (sg b) (bj t b:Nat):=.inr ⟨sb.mono (by decide),gb.mono (by decide)⟩;have nz:sg b*(bj t b:Nat)≠0:=by
  have gp:=wO (nT t b) h;rw[wF]at gp;rcases Zj h with⟨_,s⟩|⟨_,s⟩<;>rw[s]<;>omega
 have qb:∀x,oW x (sg b*(bj t b:Nat)):=λx=>⟨nz,(sb.mul gb).mono (by decide)⟩;rw[<-Mw h];unfold nB bA zY;simp! [aG,aR,aU,aI,aN,aM,aK,aL,aH,aJ,h,wC,Sh,iU mb,sL (qb t),sL (qb b)]
theorem sA:∀is:BA,hZ (is.map .int)=some is
 |[]=>rfl
 |i::is=>by
  have ih:=sA is;show(match hZ (is.map .int)with |some bs=>some (i::bs) |none=>none)=_
  rw[ih]
theorem Li(is:BA):jT [.lst (is.map .int)]=some (.int is.sum):=by
 simp only[jT,sA,uu]
def wa(xs:BA)(w:Int)(ys:BA)(v:Int):BA:=dy (λx y=>y*w-x*v) xs ys
theorem Vl(S:aQ)(PL QL:BH)(w v:Int)(hp:aG (.tup PL) (.int (-1))=some (.int w))(hq:aG (.tup QL) (.int (-1))=some (.int v))(bw:Bd 2000 w)(bv:Bd 2000 v):∀(xs ys:BA)(x y:BJ),xs.length=ys.length->(∀x∈xs,Bd 2000 x)->(∀y∈ys,Bd 2000 y)->
  cN [] (gT 2 (cP (gN 0) (cP (gN 1) eB))) (aE dN (aE bF (aA 1) (aE aG (aA 2) (bX cW (mC (.int 1))))) (aE bF (aA 0) (aE aG (aA 3) (bX cW (mC (.int 1)))))) (iE (xs.map .int) (ys.map .int)) [x,y,some (.pv (.tup PL)),some (.pv (.tup QL))] S=.ok ((wa xs w ys v).map .int) S
 |[],ys,x,y,hl,_,_=>by
  have:ys=[]:=w8.mp hl.symm;subst this;exact eN
 |a::xs,[],x,y,hl,_,_=>by cases hl
 |a::xs,b::ys,x,y,hl,hx,hy=>by
  have ih:=Vl S PL QL w v hp hq bw bv xs ys (some (.pv (.int a))) (some (.pv (.int b))) (by simpa using hl) (λm hm=>hx m (bf _ hm)) (λm hm=>hy m (bf _ hm));have m1:=mB (hx a ay) bv;have m2:=mB (hy b ay) bw;show cN [] _ _ (.tup [.int a,.int b]::iE (xs.map .int) (ys.map .int)) _ S=_;rw[eV];simp! [gT,cP,eB,gN,bZ,aN,aM,aK,aL,aH,aJ,hp,hq,m1,m2,ih,wa]
theorem Ck{xs ys:BA}{w v:Int}(S:aQ)(hl:xs.length=ys.length)(hx:∀x∈xs,Bd 2000 x)(hy:∀y∈ys,Bd 2000 y)(bw:Bd 2000 w)(bv:Bd 2000 v):
  pO [.pv (.tup ((xs++[w]).map .int)),.pv (.tup ((ys++[v]).map .int))] S=.ok (.pv (.lst ((wa xs w ys v).map .int))) S:=by
 have ip:=nE xs w;have iq:=nE ys v;have sp:=vQ xs w;have sq:=vQ ys v;have ec:=Vl S _ _ w v ip iq bw bv xs ys none none hl hx hy;generalize (xs++[w]).map PV.int=PL at ip sp ec;generalize (ys++[v]).map PV.int=QL at iq sq ec;unfold pO bA zF;simp! [bZ,aN,aM,aK,aL,aH,aJ,bO,kQ,qQ,cE,dY,bV,bW,cV,sp,sq,cC,ec]
theorem Za(S:aQ):∀(us vs:BA)(x y:BJ),(∀x∈us,Bd 100000 x)->(∀y∈vs,Bd 100000 y)->
  cN [] (gT 2 (cP (gN 0) (cP (gN 1) eB))) (aE bF (aA 0) (aA 1)) (iE (us.map .int) (vs.map .int)) [x,y] S=.ok ((dy (·*·) us vs).map .int) S
 |[],vs,x,y,_,_=>by
  show cN [] _ _ [] _ S=_;exact eN
 |a::us,[],x,y,_,_=>by
  show cN [] _ _ [] _ S=_;exact eN
 |a::us,b::vs,x,y,hx,hy=>by
  have ih:=Za S us vs (some (.pv (.int a))) (some (.pv (.int b))) (λm hm=>hx m (bf _ hm)) (λm hm=>hy m (bf _ hm));have m1:bF (.int a) (.int b)=some (.int (a*b)):=iU (.inr ⟨(hx a ay).mono (by decide),(hy b ay).mono (by decide)⟩);show cN [] _ _ (.tup [.int a,.int b]::iE (us.map .int) (vs.map .int)) _ S=_;rw[eV];simp! [gT,cP,eB,gN,bZ,aN,aM,aK,aL,aH,aJ,m1,ih]
def dt(us vs:BA):Int:=(dy (·*·) us vs).sum
def Sq(A:PV)(us:BA):Prop:=A=.lst (us.map .int)\/A=.tup (us.map .int)
theorem To{A B:PV}{us vs:BA}(S:aQ)(hA:Sq A us)(hB:Sq B vs)(hx:∀x∈us,Bd 100000 x)(hy:∀y∈vs,Bd 100000 y):wV [.pv A,.pv B] S=.ok (.pv (.int (dt us vs))) S:=by
 have ec:=Za S us vs none none hx hy;have es:=Li (dy (·*·) us vs);unfold dt;generalize (dy (·*·) us vs).map PV.int=ZL at ec es;generalize (dy (·*·) us vs).sum=Z at es;unfold wV bA Nd;rcases hA with rfl |rfl<;>rcases hB with rfl |rfl<;>
  (generalize us.map PV.int=UL at ec⊢;generalize vs.map PV.int=VL at ec⊢;simp! [bZ,aN,aM,aK,aL,aH,aJ,bO,kQ,qQ,cE,cC,ec,es])
theorem R0{A B:PV}{us vs:BA}(S:aQ)(hA:Sq A us)(hB:Sq B vs)(hx:∀x∈us,Bd 100000 x)(hy:∀y∈vs,Bd 100000 y):wN [.pv A,.pv B] S=.ok (.pv (.int (dt us vs))) S:=by
 have ec:=Za S us vs none none hx hy;have es:=Li (dy (·*·) us vs);unfold dt;generalize (dy (·*·) us vs).map PV.int=ZL at ec es;generalize (dy (·*·) us vs).sum=Z at es;unfold wN bA Nc;rcases hA with rfl |rfl<;>rcases hB with rfl |rfl<;>
  (generalize us.map PV.int=UL at ec⊢;generalize vs.map PV.int=VL at ec⊢;simp! [bZ,aN,aM,aK,aL,aH,aJ,bO,kQ,qQ,cE,cC,ec,es])
theorem dS{k l:Nat}{a b:Int}(h:Bd k a)(g:Bd l b)(hk:k<=1000000:=by decide)(hl:l<=1000000:=by decide):bF (.int a) (.int b)=some (.int (a*b)):=iU (.inr ⟨h.mono hk,g.mono hl⟩)
theorem G5(a b:Int)(S:aQ):pX [.pv (.lst [.lst [.int a,.int b]])] S=.ok (.pv (.lst [.int (-b),.int a])) S:=by
 unfold pX bA vN;simp! [aG,aR,aU,aI,aN,aM,aK,aL,aH,aJ]
theorem N5{a b c d e f:Int}(S:aQ)(ha:Bd 10000 a)(hb:Bd 10000 b)(hc:Bd 10000 c)(hd:Bd 10000 d)(he:Bd 10000 e)(hf:Bd 10000 f):pX [.pv (.lst [.lst [.int a,.int b,.int c],.lst [.int d,.int e,.int f]])] S=.ok (.pv (.lst [.int (b*f-c*e),.int (c*d-a*f),.int (a*e-b*d)])) S:=by
 have m1:=dS hb hf;have m2:=dS hc he;have m3:=dS hc hd;have m4:=dS ha hf;have m5:=dS ha he;have m6:=dS hb hd;unfold pX bA vN;simp! [aG,aR,aU,aI,aN,aM,aK,aL,aH,aJ,m1,m2,m3,m4,m5,m6]
theorem D5{A B:PV}{a b c d e f:Int}(S:aQ)(hA:Sq A [a,b,c])(hB:Sq B [d,e,f])(ha:Bd 10000 a)(hb:Bd 10000 b)(hc:Bd 10000 c)(hd:Bd 10000 d)(he:Bd 10000 e)(hf:Bd 10000 f):vM [.pv A,.pv B] S=.ok (.pv (.lst [.int (b*f-c*e),.int (c*d-a*f),.int (a*e-b*d)])) S:=by
 have m1:=dS hb hf;have m2:=dS hc he;have m3:=dS hc hd;have m4:=dS ha hf;have m5:=dS ha he;have m6:=dS hb hd;unfold vM bA Ua;rcases hA with rfl |rfl<;>rcases hB with rfl |rfl<;>simp! [aG,aR,aU,aI,aN,aM,aK,aL,aH,aJ,m1,m2,m3,m4,m5,m6]
structure P2(x y w:Int):Prop where
 bx:Bd 1000 x
 by_:Bd 1000 y
 bw:Bd 1000 w
 pos:0<w
structure P3(x y z w:Int):Prop where
 bx:Bd 1000 x
 by_:Bd 1000 y
 bz:Bd 1000 z
 bw:Bd 1000 w
 pos:0<w
abbrev v2(x y w:Int):PV:=.tup [.int x,.int y,.int w]
abbrev v3(x y z w:Int):PV:=.tup [.int x,.int y,.int z,.int w]
def Sv(A:PV)(L:BH):Prop:=A=.lst L\/A=.tup L
theorem Kr(p:PV)(L:BH):jD (p::L) (some 1) none=L:=by
 unfold jD;have e1:HT.sIx (p::L).length 0 (some 1)=1:=by
  rw[show(some (1:Int))=some ((1:Nat):Int) from rfl,HT.sIx_nat,br];omega
 rw[e1];show((p::L).drop 1).take ((p::L).length-1)=L;simp
theorem xJ(p:PV)(L:BH):jE (.lst (p::L)) (some 1) none=some (.lst L):=by
 unfold jE;dsimp only;rw[Kr]
theorem wY(p:PV)(L:BH):jE (.tup (p::L)) (some 1) none=some (.tup L):=by
 unfold jE;dsimp only;have e1:HT.sIx (p::L).length 0 (some 1)=1:=by
  rw[show(some (1:Int))=some ((1:Nat):Int) from rfl,HT.sIx_nat,br];omega
 rw[if_neg (by rw[e1];simp),Kr]
theorem Ho(L:BH)(p:PV):jE (.lst (L++[p])) none (some (-1))=some (.lst L):=by
 unfold jE;dsimp only;unfold jD;have e1:HT.sIx (L++[p]).length (L++[p]).length (some (-1))=L.length:=by
  rw[bq];exact Ib L.length _
 rw[e1];show some (PV.lst (((L++[p]).drop 0).take (L.length-0)))=_;simp
theorem On{x0 y0 w0 x1 y1 w1:Int}(S:aQ)(p:P2 x0 y0 w0)(q:P2 x1 y1 w1):pO [.pv (v2 x0 y0 w0),.pv (v2 x1 y1 w1)] S=.ok (.pv (.lst [.int (x1*w0-x0*w1),.int (y1*w0-y0*w1)])) S:=by
 have e:=Ck (xs:=[x0,y0]) (ys:=[x1,y1]) (w:=w0) (v:=w1) S rfl (by simp;exact⟨p.bx.mono (by decide),p.by_.mono (by decide)⟩) (by simp;exact⟨q.bx.mono (by decide),q.by_.mono (by decide)⟩) (p.bw.mono (by decide)) (q.bw.mono (by decide));exact e
theorem Hc{x0 y0 z0 w0 x1 y1 z1 w1:Int}(S:aQ)(p:P3 x0 y0 z0 w0)(q:P3 x1 y1 z1 w1):pO [.pv (v3 x0 y0 z0 w0),.pv (v3 x1 y1 z1 w1)] S=.ok (.pv (.lst [.int (x1*w0-x0*w1),.int (y1*w0-y0*w1),.int (z1*w0-z0*w1)])) S:=by
 have e:=Ck (xs:=[x0,y0,z0]) (ys:=[x1,y1,z1]) (w:=w0) (v:=w1) S rfl (by simp;exact⟨p.bx.mono (by decide),p.by_.mono (by decide),p.bz.mono (by decide)⟩) (by simp;exact⟨q.bx.mono (by decide),q.by_.mono (by decide),q.bz.mono (by decide)⟩) (p.bw.mono (by decide)) (q.bw.mono (by decide));exact e
theorem sb{x0 w0 x1 w1:Int}(a:Bd 1000 x0)(b:Bd 1000 w0)(c:Bd 1000 x1)(d:Bd 1000 w1):Bd 2001 (x1*w0-x0*w1):=((c.mul b).mono (show 1000+1000<=2000 by decide)).sub ((a.mul d).mono (show 1000+1000<=2000 by decide))
theorem cb{a b c d:Int}(h1:Bd 2001 a)(h2:Bd 2001 b)(h3:Bd 2001 c)(h4:Bd 2001 d):Bd 4003 (a*b-c*d):=((h1.mul h2).mono (show 2001+2001<=4002 by decide)).sub ((h3.mul h4).mono (show 2001+2001<=4002 by decide))
def D2(x0 y0 w0 x1 y1 w1 x2 y2 w2:Int):Int:=w0*(x1*y2-y1*x2)-w1*(x0*y2-y0*x2)+w2*(x0*y1-y0*x1)
def D3(x0 y0 z0 w0 x1 y1 z1 w1 x2 y2 z2 w2 x3 y3 z3 w3:Int):Int:=
 w0*((y1*z2-z1*y2)*x3+(z1*x2-x1*z2)*y3+(x1*y2-y1*x2)*z3)-w1*((y0*z2-z0*y2)*x3+(z0*x2-x0*z2)*y3+(x0*y2-y0*x2)*z3)
 +w2*((y0*z1-z0*y1)*x3+(z0*x1-x0*z1)*y3+(x0*y1-y0*x1)*z3)-w3*((y0*z1-z0*y1)*x2+(z0*x1-x0*z1)*y2+(x0*y1-y0*x1)*z2)
theorem abP(x0 y0 w0 x1 y1 w1 x2 y2 w2:Int):dt [-(y1*w0-y0*w1),x1*w0-x0*w1] [x2*w0-x0*w2,y2*w0-y0*w2]=w0*D2 x0 y0 w0 x1 y1 w1 x2 y2 w2:=by
 simp only[dt,D2,ur,x8,uv,List.sum_nil];grind
theorem Hq(x0 y0 z0 w0 x1 y1 z1 w1 x2 y2 z2 w2 x3 y3 z3 w3:Int):dt [(y1*w0-y0*w1)*(z2*w0-z0*w2)-(z1*w0-z0*w1)*(y2*w0-y0*w2),(z1*w0-z0*w1)*(x2*w0-x0*w2)-(x1*w0-x0*w1)*(z2*w0-z0*w2),(x1*w0-x0*w1)*(y2*w0-y0*w2)-(y1*w0-y0*w1)*(x2*w0-x0*w2)] [x3*w0-x0*w3,y3*w0-y0*w3,z3*w0-z0*w3]=w0*w0*D3 x0 y0 z0 w0 x1 y1 z1 w1 x2 y2 z2 w2 x3 y3 z3 w3:=by
 simp only[dt,D3,ur,x8,uv,List.sum_nil];grind
theorem wQ{w d:Int}(h:0<w):sg (w*d)=sg d:=by
 unfold sg
 by_cases h1:0<d
 .rw[if_pos (kz h h1),if_pos h1]
 .by_cases h2:d<0
  .have:w*d<0:=Int.mul_neg_of_pos_of_neg h h2
   rw[if_neg (by omega),if_pos this,if_neg h1,if_pos h2]
  .have:d=0:=by omega
   subst this;rw[xq]
theorem J8{A:PV}{x0 y0 w0 x1 y1 w1 x2 y2 w2:Int}(S:aQ)(hA:Sv A [v2 x0 y0 w0,v2 x1 y1 w1,v2 x2 y2 w2])(p:P2 x0 y0 w0)(q:P2 x1 y1 w1)(r:P2 x2 y2 w2):pN [.pv A] S=.ok (.pv (.int (w0*D2 x0 y0 w0 x1 y1 w1 x2 y2 w2))) S:=by
 have a1:=On S p q;have a2:=On S p r;have bu:=sb p.bx p.bw q.bx q.bw;have bv:=sb p.by_ p.bw q.by_ q.bw;have bu2:=sb p.bx p.bw r.bx r.bw;have bv2:=sb p.by_ p.bw r.by_ r.bw;have id:=abP x0 y0 w0 x1 y1 w1 x2 y2 w2;generalize y2*w0-y0*w2=V1,x2*w0-x0*w2=V0,y1*w0-y0*w1=U1,x1*w0-x0*w1=U0,w0*D2 x0 y0 w0 x1 y1 w1 x2 y2 w2=D at *;have en:=G5 U0 U1 S;have ed:=To (A:=.lst [.int (-U1),.int U0]) (B:=.lst [.int V0,.int V1]) (us:=[-U1,U0]) (vs:=[V0,V1]) S (.inl rfl) (.inl rfl) (by simp;exact⟨bv.neg.mono (by decide),bu.mono (by decide)⟩) (by simp;exact⟨bu2.mono (by decide),bv2.mono (by decide)⟩);rw[id]at ed;have pre:=Ho [.lst [.int U0,.int U1]] (.lst [.int V0,.int V1]);simp only[uw,pe]at pre;generalize v2 x2 y2 w2=R,v2 x1 y1 w1=Q,v2 x0 y0 w0=P at *;unfold pN bA uI;rcases hA with rfl |rfl
 .have s1:=xJ P [Q,R]
  simp! [aG,aR,aU,aI,aN,aM,aK,aL,aH,aJ,bO,bN,cE,dY,bV,bW,cV,s1,cC,eV,eN,gN,a1,a2,pre,en,ed]
 .have s1:=wY P [Q,R]
  simp! [aG,aR,aU,aI,aN,aM,aK,aL,aH,aJ,bO,bN,cE,dY,bV,bW,cV,s1,cC,eV,eN,gN,a1,a2,pre,en,ed]
theorem O8{A:PV}{x0 y0 z0 w0 x1 y1 z1 w1 x2 y2 z2 w2 x3 y3 z3 w3:Int}(S:aQ)(hA:Sv A [v3 x0 y0 z0 w0,v3 x1 y1 z1 w1,v3 x2 y2 z2 w2,v3 x3 y3 z3 w3])(p:P3 x0 y0 z0 w0)(q:P3 x1 y1 z1 w1)(r:P3 x2 y2 z2 w2)(s:P3 x3 y3 z3 w3):pN [.pv A] S=.ok (.pv (.int (w0*w0*D3 x0 y0 z0 w0 x1 y1 z1 w1 x2 y2 z2 w2 x3 y3 z3 w3))) S:=by
 have a1:=Hc S p q;have a2:=Hc S p r;have a3:=Hc S p s;have b1:=sb p.bx p.bw q.bx q.bw;have b2:=sb p.by_ p.bw q.by_ q.bw;have b3:=sb p.bz p.bw q.bz q.bw;have b4:=sb p.bx p.bw r.bx r.bw;have b5:=sb p.by_ p.bw r.by_ r.bw;have b6:=sb p.bz p.bw r.bz r.bw;have b7:=sb p.bx p.bw s.bx s.bw;have b8:=sb p.by_ p.bw s.by_ s.bw;have b9:=sb p.bz p.bw s.bz s.bw;have id:=Hq x0 y0 z0 w0 x1 y1 z1 w1 x2 y2 z2 w2 x3 y3 z3 w3;generalize z3*w0-z0*w3=T2,y3*w0-y0*w3=T1,x3*w0-x0*w3=T0,z2*w0-z0*w2=V2,y2*w0-y0*w2=V1,x2*w0-x0*w2=V0,z1*w0-z0*w1=U2,y1*w0-y0*w1=U1,x1*w0-x0*w1=U0,w0*w0*D3 x0 y0 z0 w0 x1 y1 z1 w1 x2 y2 z2 w2 x3 y3 z3 w3=D at *;have h:∀{a:Int},Bd 2001 a->Bd 10000 a:=λh=>h.mono (by decide);have h4:∀{a:Int},Bd 4003 a->Bd 100000 a:=λh=>h.mono (by decide);have h2:∀{a:Int},Bd 2001 a->Bd 100000 a:=λh=>h.mono (by decide);have en:=N5 S (h b1) (h b2) (h b3) (h b4) (h b5) (h b6);have c1:=cb b2 b6 b3 b5;have c2:=cb b3 b4 b1 b6;have c3:=cb b1 b5 b2 b4;have ed:=To (A:=.lst [.int (U1*V2-U2*V1),.int (U2*V0-U0*V2),.int (U0*V1-U1*V0)]) (B:=.lst [.int T0,.int T1,.int T2]) (us:=[U1*V2-U2*V1,U2*V0-U0*V2,U0*V1-U1*V0]) (vs:=[T0,T1,T2]) S (.inl rfl) (.inl rfl) (by simp;exact⟨h4 c1,h4 c2,h4 c3⟩) (by simp;exact⟨h2 b7,h2 b8,h2 b9⟩);rw[id]at ed;generalize U0*V1-U1*V0=N2,U2*V0-U0*V2=N1,U1*V2-U2*V1=N0 at *;have pre:=Ho [.lst [.int U0,.int U1,.int U2],.lst [.int V0,.int V1,.int V2]] (.lst [.int T0,.int T1,.int T2]);simp only[uw,pe]at pre;generalize v3 x3 y3 z3 w3=T,v3 x2 y2 z2 w2=R,v3 x1 y1 z1 w1=Q,v3 x0 y0 z0 w0=P at *;unfold pN bA uI;rcases hA with rfl |rfl
 .have s1:=xJ P [Q,R,T]
  simp! [aG,aR,aU,aI,aN,aM,aK,aL,aH,aJ,bO,bN,cE,dY,bV,bW,cV,s1,cC,eV,eN,gN,a1,a2,a3,pre,en,ed]
 .have s1:=wY P [Q,R,T]
  simp! [aG,aR,aU,aI,aN,aM,aK,aL,aH,aJ,bO,bN,cE,dY,bV,bW,cV,s1,cC,eV,eN,gN,a1,a2,a3,pre,en,ed]
theorem Pz{A:PV}{x0 y0 w0 x1 y1 w1 x2 y2 w2:Int}(S:aQ)(hA:Sv A [v2 x0 y0 w0,v2 x1 y1 w1,v2 x2 y2 w2])(p:P2 x0 y0 w0)(q:P2 x1 y1 w1)(r:P2 x2 y2 w2):oR [.pv A] S=.ok (.pv (.int (sg (D2 x0 y0 w0 x1 y1 w1 x2 y2 w2)))) S:=by
 have e1:=J8 S hA p q r;have e2:=wC (w0*D2 x0 y0 w0 x1 y1 w1 x2 y2 w2) S;rw[wQ p.pos]at e2;unfold oR bA wE;simp! [aG,aR,aU,aI,aN,aM,aK,aL,aH,aJ,e1,e2]
theorem Nz{A:PV}{x0 y0 z0 w0 x1 y1 z1 w1 x2 y2 z2 w2 x3 y3 z3 w3:Int}(S:aQ)(hA:Sv A [v3 x0 y0 z0 w0,v3 x1 y1 z1 w1,v3 x2 y2 z2 w2,v3 x3 y3 z3 w3])(p:P3 x0 y0 z0 w0)(q:P3 x1 y1 z1 w1)(r:P3 x2 y2 z2 w2)(s:P3 x3 y3 z3 w3):oR [.pv A] S=.ok (.pv (.int (sg (D3 x0 y0 z0 w0 x1 y1 z1 w1 x2 y2 z2 w2 x3 y3 z3 w3)))) S:=by
 have e1:=O8 S hA p q r s;have e2:=wC (w0*w0*D3 x0 y0 z0 w0 x1 y1 z1 w1 x2 y2 z2 w2 x3 y3 z3 w3) S;rw[wQ (kz p.pos p.pos)]at e2;unfold oR bA wE;simp! [aG,aR,aU,aI,aN,aM,aK,aL,aH,aJ,e1,e2]
def Gp(n k:Nat)(v:PV):Prop:=∃xs w,v=.tup ((xs++[w]).map .int)/\Pq n k xs w
theorem Gp.two{v:PV}(h:Gp 2 1000 v):∃x y w,v=v2 x y w/\P2 x y w:=by
 obtain⟨xs,w,rfl,P⟩:=h
 match xs,P.len with
 |[x,y],_=>exact⟨x,y,w,rfl,P.bx x (by simp),P.bx y (by simp),P.bw,P.pos⟩
theorem Gp.three{v:PV}(h:Gp 3 1000 v):∃x y z w,v=v3 x y z w/\P3 x y z w:=by
 obtain⟨xs,w,rfl,P⟩:=h
 match xs,P.len with
 |[x,y,z],_=>exact⟨x,y,z,w,rfl,P.bx x (by simp),P.bx y (by simp),P.bx z (by simp),P.bw,P.pos⟩
theorem Ec{n k m:Nat}{v:PV}(h:Gp n k v):aI (m+1) v v=some true:=by
 obtain⟨xs,w,rfl,_⟩:=h;exact En m _
theorem Kh:∀L:BH,∀m,(∀v∈L,aI m v v=some true)->iW (dy (aI m) L L)=some (L.map λ_=>true)
 |[],m,_=>rfl
 |v::L,m,h=>by
  rw[ur,h v ay,iW,Kh L m λu hu=>h u (bf _ hu)];rfl
theorem pY{m:Nat}{L:BH}(h:∀v∈L,aI m v v=some true):aI (m+1) (.tup L) (.tup L)=some true:=by
 rw[aI,Kh L m h];simp
theorem Zk(S:aQ)(PL QL:BH)(xs ys:BA)(w v:Int)(hp:aG (.tup PL) (.int (-1))=some (.int w))(hq:aG (.tup QL) (.int (-1))=some (.int v))(hpj:∀j:Nat,j<xs.length->aG (.tup PL) (.int (j:Nat))=some (.int (xs.getD j 0)))(hqj:∀j:Nat,j<xs.length->aG (.tup QL) (.int (j:Nat))=some (.int (ys.getD j 0)))
  (bw:Bd 1000 w)(bv:Bd 1000 v)(hx:∀j,Bd 1000 (xs.getD j 0))(hy:∀j,Bd 1000 (ys.getD j 0)):∀(js:List Nat)(x:BJ),(∀j∈js,j<xs.length)->
  cN [] (gN 0) (aE dN (aE bF (aE aG (aA 1) (aA 0)) (aE aG (aA 2) (bX cW (mC (.int 1))))) (aE bF (aE aG (aA 2) (aA 0)) (aE aG (aA 1) (bX cW (mC (.int 1)))))) (js.map λj=>.int (0+(j:Nat))) [x,some (.pv (.tup QL)),some (.pv (.tup PL))] S=.ok ((js.map λj=>ys.getD j 0*w-xs.getD j 0*v).map .int) S
 |[],x,_=>eN
 |j::js,x,h=>by
  have ih:=Zk S PL QL xs ys w v hp hq hpj hqj bw bv hx hy js (some (.pv (.int (0+(j:Nat))))) λi hi=>h i (bf _ hi);have e1:=hpj j (h j ay);have e2:=hqj j (h j ay);have m1:=mB ((hx j).mono (show 1000<=2000 by decide)) (bv.mono (show 1000<=2000 by decide));have m2:=mB ((hy j).mono (show 1000<=2000 by decide)) (bw.mono (show 1000<=2000 by decide));show cN [] _ _ (.int (0+(j:Nat))::js.map λj=>.int (0+(j:Nat))) _ S=_;rw[eV];simp only[Int.zero_add]at ih⊢;generalize hX:xs.getD j 0=X at e1 m1;generalize hY:ys.getD j 0=Y at e2 m2;simp! [gN,bZ,aN,aM,aK,aL,aH,aJ,e1,e2,hp,hq,m1,m2,ih];simp only[uz]at hX hY;rw[hX,hY]
theorem Ln{xs ys:BA}{w v:Int}(S:aQ)(hl:xs.length=ys.length)(h9:xs.length<=9)(hx:∀x∈xs,Bd 1000 x)(hy:∀y∈ys,Bd 1000 y)(bw:Bd 1000 w)(bv:Bd 1000 v):
  qH [.pv (.tup ((xs++[w]).map .int)),.pv (.tup ((ys++[v]).map .int))] S=.ok (.pv (.lst ((wa xs w ys v).map .int))) S:=by
 have ip:=nE xs w;have iq:=nE ys v;have ec:=Zk S _ _ xs ys w v ip iq (λj h=>Tc xs w j h) (λj h=>Tc ys v j (by omega)) bw bv (Am hx) (Am hy) (cq xs.length) none λj hj=>by simpa using hj
 have er:(cq xs.length).map (λj=>ys.getD j 0*w-xs.getD j 0*v)=wa xs w ys v:=Fx hl λx y=>y*w-x*v;rw[er]at ec;have hlen:((xs++[w]).map PV.int).length=xs.length+1:=by simp
 have hr:rB [.pv (.int (((xs.length+1:Nat):Int)-1))] S=.ok ((cq xs.length).map λj=>.int (0+(j:Nat)),[]) S:=by
  unfold rB;dsimp only;rw[if_pos ⟨by omega,by omega⟩];have:(((xs.length+1:Nat):Int)-1).toNat=xs.length:=by omega
  rw[this];rfl
 generalize (wa xs w ys v).map PV.int=ZL at ec;generalize (cq xs.length).map (λj=>PV.int (0+(j:Nat)))=RL at ec hr;generalize hP:(xs++[w]).map PV.int=PL at ip ec hlen;generalize (ys++[v]).map PV.int=QL at iq ec;unfold qH bA Rc;have hr2:=hr;rw[<-hlen]at hr2;simp! [bZ,aN,aM,aK,aL,aH,aJ,bO,fF,hr2,cC,ec]
theorem Wq{x0 y0 w0 x1 y1 w1:Int}(S:aQ)(p:P2 x0 y0 w0)(q:P2 x1 y1 w1):qH [.pv (v2 x0 y0 w0),.pv (v2 x1 y1 w1)] S=.ok (.pv (.lst [.int (x1*w0-x0*w1),.int (y1*w0-y0*w1)])) S:=by
 have e:=Ln (xs:=[x0,y0]) (ys:=[x1,y1]) (w:=w0) (v:=w1) S rfl (by simp) (by simp;exact⟨p.bx,p.by_⟩) (by simp;exact⟨q.bx,q.by_⟩) p.bw q.bw;exact e
theorem Xd{x0 y0 z0 w0 x1 y1 z1 w1:Int}(S:aQ)(p:P3 x0 y0 z0 w0)(q:P3 x1 y1 z1 w1):qH [.pv (v3 x0 y0 z0 w0),.pv (v3 x1 y1 z1 w1)] S=.ok (.pv (.lst [.int (x1*w0-x0*w1),.int (y1*w0-y0*w1),.int (z1*w0-z0*w1)])) S:=by
 have e:=Ln (xs:=[x0,y0,z0]) (ys:=[x1,y1,z1]) (w:=w0) (v:=w1) S rfl (by simp) (by simp;exact⟨p.bx,p.by_,p.bz⟩) (by simp;exact⟨q.bx,q.by_,q.bz⟩) p.bw q.bw;exact e
theorem Az{A:PV}{x0 y0 w0 x1 y1 w1 x2 y2 w2:Int}(S:aQ)(hA:Sv A [v2 x0 y0 w0,v2 x1 y1 w1,v2 x2 y2 w2])(p:P2 x0 y0 w0)(q:P2 x1 y1 w1)(r:P2 x2 y2 w2):lB [.pv A] S=.ok (.pv (.int (w0*D2 x0 y0 w0 x1 y1 w1 x2 y2 w2))) S:=by
 have a1:=Wq S p q;have a2:=Wq S p r;have bu:=sb p.bx p.bw q.bx q.bw;have bv:=sb p.by_ p.bw q.by_ q.bw;have bu2:=sb p.bx p.bw r.bx r.bw;have bv2:=sb p.by_ p.bw r.by_ r.bw;have id:(x1*w0-x0*w1)*(y2*w0-y0*w2)-(y1*w0-y0*w1)*(x2*w0-x0*w2)=w0*D2 x0 y0 w0 x1 y1 w1 x2 y2 w2:=by
  unfold D2;grind
 generalize y2*w0-y0*w2=V1,x2*w0-x0*w2=V0,y1*w0-y0*w1=U1,x1*w0-x0*w1=U0,w0*D2 x0 y0 w0 x1 y1 w1 x2 y2 w2=D at *;have m1:=dS bu bv2;have m2:=dS bv bu2;generalize v2 x2 y2 w2=R,v2 x1 y1 w1=Q,v2 x0 y0 w0=P at *;have et:qA [.pv (.lst [.lst [.int U0,.int U1],.lst [.int V0,.int V1]])] S=.ok (.pv (.int D)) S:=by
  unfold qA bA vT;simp! [aG,aR,aU,aI,aN,aM,aK,aL,aH,aJ,m1,m2,id]
 unfold lB bA wM;rcases hA with rfl |rfl
 .have s1:=xJ P [Q,R]
  simp! [aG,aR,aU,aI,aN,aM,aK,aL,aH,aJ,bO,bN,cE,dY,bV,bW,cV,s1,cC,eV,eN,gN,a1,a2,et]
 .have s1:=wY P [Q,R]
  simp! [aG,aR,aU,aI,aN,aM,aK,aL,aH,aJ,bO,bN,cE,dY,bV,bW,cV,s1,cC,eV,eN,gN,a1,a2,et]
theorem Wz{A:PV}{x0 y0 z0 w0 x1 y1 z1 w1 x2 y2 z2 w2 x3 y3 z3 w3:Int}(S:aQ)(hA:Sv A [v3 x0 y0 z0 w0,v3 x1 y1 z1 w1,v3 x2 y2 z2 w2,v3 x3 y3 z3 w3])(p:P3 x0 y0 z0 w0)(q:P3 x1 y1 z1 w1)(r:P3 x2 y2 z2 w2)(s:P3 x3 y3 z3 w3):lB [.pv A] S=.ok (.pv (.int (w0*w0*D3 x0 y0 z0 w0 x1 y1 z1 w1 x2 y2 z2 w2 x3 y3 z3 w3))) S:=by
 have a1:=Xd S p q;have a2:=Xd S p r;have a3:=Xd S p s;have b1:=sb p.bx p.bw q.bx q.bw;have b2:=sb p.by_ p.bw q.by_ q.bw;have b3:=sb p.bz p.bw q.bz q.bw;have b4:=sb p.bx p.bw r.bx r.bw;have b5:=sb p.by_ p.bw r.by_ r.bw;have b6:=sb p.bz p.bw r.bz r.bw;have b7:=sb p.bx p.bw s.bx s.bw;have b8:=sb p.by_ p.bw s.by_ s.bw;have b9:=sb p.bz p.bw s.bz s.bw;have id:=Hq x0 y0 z0 w0 x1 y1 z1 w1 x2 y2 z2 w2 x3 y3 z3 w3;generalize z3*w0-z0*w3=T2,y3*w0-y0*w3=T1,x3*w0-x0*w3=T0,z2*w0-z0*w2=V2,y2*w0-y0*w2=V1,x2*w0-x0*w2=V0,z1*w0-z0*w1=U2,y1*w0-y0*w1=U1,x1*w0-x0*w1=U0,w0*w0*D3 x0 y0 z0 w0 x1 y1 z1 w1 x2 y2 z2 w2 x3 y3 z3 w3=D at *;have h:∀{a:Int},Bd 2001 a->Bd 10000 a:=λh=>h.mono (by decide);have h4:∀{a:Int},Bd 4003 a->Bd 100000 a:=λh=>h.mono (by decide);have h2:∀{a:Int},Bd 2001 a->Bd 100000 a:=λh=>h.mono (by decide);have en:=D5 (A:=.lst [.int U0,.int U1,.int U2]) (B:=.lst [.int V0,.int V1,.int V2]) S (.inl rfl) (.inl rfl) (h b1) (h b2) (h b3) (h b4) (h b5) (h b6);have c1:=cb b2 b6 b3 b5;have c2:=cb b3 b4 b1 b6;have c3:=cb b1 b5 b2 b4;have ed:=R0 (A:=.lst [.int (U1*V2-U2*V1),.int (U2*V0-U0*V2),.int (U0*V1-U1*V0)]) (B:=.lst [.int T0,.int T1,.int T2]) (us:=[U1*V2-U2*V1,U2*V0-U0*V2,U0*V1-U1*V0]) (vs:=[T0,T1,T2]) S (.inl rfl) (.inl rfl) (by simp;exact⟨h4 c1,h4 c2,h4 c3⟩) (by simp;exact⟨h2 b7,h2 b8,h2 b9⟩);rw[id]at ed;generalize v3 x3 y3 z3 w3=T,v3 x2 y2 z2 w2=R,v3 x1 y1 z1 w1=Q,v3 x0 y0 z0 w0=P,U0*V1-U1*V0=N2,U2*V0-U0*V2=N1,U1*V2-U2*V1=N0 at *;have et:qA [.pv (.lst [.lst [.int U0,.int U1,.int U2],.lst [.int V0,.int V1,.int V2],.lst [.int T0,.int T1,.int T2]])] S=.ok (.pv (.int D)) S:=by
  unfold qA bA vT;simp! [aG,aR,aU,aI,aN,aM,aK,aL,aH,aJ,en,ed]
 unfold lB bA wM;rcases hA with rfl |rfl
 .have s1:=xJ P [Q,R,T]
  simp! [aG,aR,aU,aI,aN,aM,aK,aL,aH,aJ,bO,bN,cE,dY,bV,bW,cV,s1,cC,eV,eN,gN,a1,a2,a3,et]
 .have s1:=wY P [Q,R,T]
  simp! [aG,aR,aU,aI,aN,aM,aK,aL,aH,aJ,bO,bN,cE,dY,bV,bW,cV,s1,cC,eV,eN,gN,a1,a2,a3,et]
def B2(x0 y0 w0 x1 y1 w1:Int):BA:=[-(y1*w0-y0*w1),x1*w0-x0*w1,x0*y1-y0*x1]
def N3(x0 y0 z0 w0 x1 y1 z1 w1 x2 y2 z2 w2:Int):BA:=[(y1*w0-y0*w1)*(z2*w0-z0*w2)-(z1*w0-z0*w1)*(y2*w0-y0*w2),(z1*w0-z0*w1)*(x2*w0-x0*w2)-(x1*w0-x0*w1)*(z2*w0-z0*w2),(x1*w0-x0*w1)*(y2*w0-y0*w2)-(y1*w0-y0*w1)*(x2*w0-x0*w2)]
theorem J7{G:Gd}{g:GM}{me:ME}{x:PV}{r:BH}{ρ:cA}{S:aQ}(h:iG G S):cN G g me (x::r) ρ S=(match g x ρ with
  |none=>.fail
  |some ρ1=>match me ρ1 S with
   |.ok (.pv y) S1=>match cN G g me r ρ1 S1 with
    |.ok ys S2=>.ok (y::ys) S2
    |_=>.fail
   |_=>.fail):=by
 rw[cN,if_pos h]
 all_goals rfl
theorem Ly{G:Gd}{g:GM}{me:ME}{ρ:cA}{S:aQ}(h:iG G S):cN G g me [] ρ S=.ok [] S:=by
 rw[cN,if_pos h]
structure R2(x y w X Y D:Int):Prop where
 pos:0<w
 dos:0<D
 ex:x*D=X*w
 ey:y*D=Y*w
theorem Pq.p2{k:Nat}{x y w:Int}(P:Pq 2 k [x,y] w)(h:k<=1000):P2 x y w:=⟨(P.bx x (by simp)).mono h,(P.bx y (by simp)).mono h,P.bw.mono h,P.pos⟩
theorem Pq.p3{k:Nat}{x y z w:Int}(P:Pq 3 k [x,y,z] w)(h:k<=1000):P3 x y z w:=⟨(P.bx x (by simp)).mono h,(P.bx y (by simp)).mono h,(P.bx z (by simp)).mono h,P.bw.mono h,P.pos⟩
def iH:BH->Int
 |[.tup [.int x0,.int y0,.int w0],.tup [.int x1,.int y1,.int w1],.tup [.int x2,.int y2,.int w2]]=>sg (D2 x0 y0 w0 x1 y1 w1 x2 y2 w2)
 |[.tup [.int x0,.int y0,.int z0,.int w0],.tup [.int x1,.int y1,.int z1,.int w1],.tup [.int x2,.int y2,.int z2,.int w2],.tup [.int x3,.int y3,.int z3,.int w3]]=>sg (D3 x0 y0 z0 w0 x1 y1 z1 w1 x2 y2 z2 w2 x3 y3 z3 w3)
 |_=>0
theorem Ql{n:Nat}(hn:n=2\/n=3){A:PV}{L:BH}(S:aQ)(hl:L.length=n+1)(hg:∀v∈L,Gp n 1000 v)(hA:Sv A L):oR [.pv A] S=.ok (.pv (.int (iH L))) S:=by
 rcases hn with rfl |rfl
 .match L,hl with
  |[P,Q,R],_=>
   obtain⟨x0,y0,w0,rfl,p⟩:=(hg P (by simp)).two;obtain⟨x1,y1,w1,rfl,q⟩:=(hg Q (by simp)).two;obtain⟨x2,y2,w2,rfl,r⟩:=(hg R (by simp)).two;exact Pz S hA p q r
 .match L,hl with
  |[P,Q,R,T],_=>
   obtain⟨x0,y0,z0,w0,rfl,p⟩:=(hg P (by simp)).three;obtain⟨x1,y1,z1,w1,rfl,q⟩:=(hg Q (by simp)).three;obtain⟨x2,y2,z2,w2,rfl,r⟩:=(hg R (by simp)).three;obtain⟨x3,y3,z3,w3,rfl,s⟩:=(hg T (by simp)).three;exact Nz S hA p q r s
theorem aat(D:Int):sg (-D)=-sg D:=by
 unfold sg;split<;>split<;>(try split)<;>(try split)<;>omega
abbrev tv(us:BA):PV:=.tup (us.map .int)
def Gu(n k:Nat)(us:BA):Prop:=∃xs w,us=xs++[w]/\Pq n k xs w
theorem Gu.gp{n k:Nat}{us:BA}(h:Gu n k us):Gp n k (tv us):=by
 obtain⟨xs,w,rfl,P⟩:=h;exact⟨xs,w,rfl,P⟩
theorem Gu.ne{n k:Nat}{us:BA}(h:Gu n k us):us≠[]:=by
 obtain⟨xs,w,rfl,P⟩:=h;simp
theorem yN{n k:Nat}{uss:BB}(h:∀us∈uss,Gu n k us):∀v∈uss.map tv,Gp n k v:=λv hv=>by
 obtain⟨us,hu,rfl⟩:=df.mp hv;exact(h us hu).gp
theorem Eh:∀uss:BB,nJ (uss.map tv)=some uss
 |[]=>rfl
 |us::uss=>by
  have ih:=Eh uss;show(match hZ (us.map .int),nJ (uss.map tv)with |some is,some uss=>some (is::uss) |_,_=>none)=_
  rw[ih,sA]
theorem Yi{uss:BB}{n:Nat}(hl:uss.length=n)(hp:(dP uss).Perm (cq n)):Vd (uss.map tv) uss=(dH uss).map tv:=by
 unfold Vd dH;rw[di];refine im λi hi=>?_;have h:i<uss.length:=by
  have:=hp.subset hi;rw[hl];simpa using this
 simp[de,h]
theorem zS{A:PV}{uss:BB}(hl:uss.length=3\/uss.length=4)(hA:Sv A (uss.map tv))(hne:∀us∈uss,us≠[]):qB [A]=some (.lst ((dH uss).map tv)):=by
 have e:qP (uss.map tv)=some (.lst ((dH uss).map tv)):=by
  unfold qP;rw[Eh];dsimp only;rcases hl with h |h
  .obtain⟨_,hp,_⟩:=Sm h
   rw[if_pos (show Sd uss from⟨by omega,by omega,by rw[h];exact Qq,by rw[hp.length_eq];simp,hne⟩),Yi h hp]
  .obtain⟨_,hp,_⟩:=Ll h
   rw[if_pos (show Sd uss from⟨by omega,by omega,by rw[h];exact Nq,by rw[hp.length_eq];simp,hne⟩),Yi h hp]
 rcases hA with rfl |rfl
 .exact e
 .exact e
def oB{α:Type}:List α->List α
 |[a,b,c]=>[a,c,b]
 |[a,b,c,d]=>[a,b,d,c]
 |l=>l
theorem Ml{α β:Type}(f:α->β)(l:List α):(oB l).map f=oB (l.map f):=by
 unfold oB;split
 .rfl
 .rfl
 .rename_i h1 h2
  split
  .rename_i e
   match l,e with
   |[a,b,c],_=>exact absurd rfl (h1 a b c)
  .rename_i e
   match l,e with
   |[a,b,c,d],_=>exact absurd rfl (h2 a b c d)
  .rfl
theorem Tz{α:Type}(l:List α):(oB l).Perm l:=by
 unfold oB;split
 .exact .cons _ (.swap _ _ _)
 .exact .cons _ (.cons _ (.swap _ _ _))
 .exact .refl _
def dU:BB->Int
 |[[x0,y0,w0],[x1,y1,w1],[x2,y2,w2]]=>D2 x0 y0 w0 x1 y1 w1 x2 y2 w2
 |[[x0,y0,z0,w0],[x1,y1,z1,w1],[x2,y2,z2,w2],[x3,y3,z3,w3]]=>D3 x0 y0 z0 w0 x1 y1 z1 w1 x2 y2 z2 w2 x3 y3 z3 w3
 |_=>0
theorem Gu.two{k:Nat}{us:BA}(h:Gu 2 k us)(hk:k<=1000):∃x y w,us=[x,y,w]/\P2 x y w:=by
 obtain⟨xs,w,rfl,P⟩:=h
 match xs,P.len,P with
 |[x,y],_,P=>exact⟨x,y,w,rfl,P.p2 hk⟩
theorem Gu.three{k:Nat}{us:BA}(h:Gu 3 k us)(hk:k<=1000):∃x y z w,us=[x,y,z,w]/\P3 x y z w:=by
 obtain⟨xs,w,rfl,P⟩:=h
 match xs,P.len,P with
 |[x,y,z],_,P=>exact⟨x,y,z,w,rfl,P.p3 hk⟩
theorem qG{n k:Nat}(hn:n=2\/n=3)(hk:k<=1000){uss:BB}(hl:uss.length=n+1)(hg:∀us∈uss,Gu n k us):iH (uss.map tv)=sg (dU uss):=by
 rcases hn with rfl |rfl
 .match uss,hl with
  |[a,b,c],_=>
   obtain⟨x0,y0,w0,rfl,_⟩:=(hg a (by simp)).two hk;obtain⟨x1,y1,w1,rfl,_⟩:=(hg b (by simp)).two hk;obtain⟨x2,y2,w2,rfl,_⟩:=(hg c (by simp)).two hk;rfl
 .match uss,hl with
  |[a,b,c,d],_=>
   obtain⟨x0,y0,z0,w0,rfl,_⟩:=(hg a (by simp)).three hk;obtain⟨x1,y1,z1,w1,rfl,_⟩:=(hg b (by simp)).three hk;obtain⟨x2,y2,z2,w2,rfl,_⟩:=(hg c (by simp)).three hk;obtain⟨x3,y3,z3,w3,rfl,_⟩:=(hg d (by simp)).three hk;rfl
def Pw(n:Nat)(us:BA):Prop:=∃xs w,us=xs++[w]/\xs.length=n/\0<w
theorem Pw.two{us:BA}(h:Pw 2 us):∃x y w,us=[x,y,w]/\0<w:=by
 obtain⟨xs,w,rfl,l,p⟩:=h
 match xs,l with
 |[x,y],_=>exact⟨x,y,w,rfl,p⟩
theorem Pw.three{us:BA}(h:Pw 3 us):∃x y z w,us=[x,y,z,w]/\0<w:=by
 obtain⟨xs,w,rfl,l,p⟩:=h
 match xs,l with
 |[x,y,z],_=>exact⟨x,y,z,w,rfl,p⟩
theorem Gu.pt{n k:Nat}{us:BA}(h:Gu n k us):Pw n us:=by
 obtain⟨xs,w,e,P⟩:=h;exact⟨xs,w,e,P.len,P.pos⟩
theorem dU2{x0 y0 w0 x1 y1 w1 x2 y2 w2:Int}:dU [[x0,y0,w0],[x1,y1,w1],[x2,y2,w2]]=D2 x0 y0 w0 x1 y1 w1 x2 y2 w2:=rfl
theorem dU3{x0 y0 z0 w0 x1 y1 z1 w1 x2 y2 z2 w2 x3 y3 z3 w3:Int}:dU [[x0,y0,z0,w0],[x1,y1,z1,w1],[x2,y2,z2,w2],[x3,y3,z3,w3]]=D3 x0 y0 z0 w0 x1 y1 z1 w1 x2 y2 z2 w2 x3 y3 z3 w3:=rfl
theorem R9{n:Nat}(hn:n=2\/n=3){pre l:BB}{x y:BA}(hl:(pre++y::x::l).length=n+1)(hp:∀u∈pre++y::x::l,Pw n u):dU (pre++x::y::l)=-dU (pre++y::x::l):=by
 have hx:=hp x (by simp);have hy:=hp y (by simp);rcases hn with rfl |rfl
 .obtain⟨x0,y0,w0,rfl,_⟩:=hx.two
  obtain⟨x1,y1,w1,rfl,_⟩:=hy.two;have fin:∀c∈pre++l,∃x y w,c=[x,y,w]:=λc hc=>by
   obtain⟨x,y,w,e,_⟩:=(hp c (by simp at hc⊢;rcases hc with h |h<;>simp[h])).two;exact⟨x,y,w,e⟩
  match pre,l,hl,fin with
  |[],[c],_,fin |[c],[],_,fin=>
   obtain⟨x2,y2,w2,rfl⟩:=fin c (by simp);simp only[pe,uw,dU2,D2];grind
  |[],[],h,_=>simp at h
  |[],_::_::_,h,_=>simp at h
  |_::_::_,_,h,_=>simp at h;omega
  |[_],_::_,h,_=>simp at h
 .obtain⟨x0,y0,z0,w0,rfl,_⟩:=hx.three
  obtain⟨x1,y1,z1,w1,rfl,_⟩:=hy.three;have fin:∀c∈pre++l,∃x y z w,c=[x,y,z,w]:=λc hc=>by
   obtain⟨x,y,z,w,e,_⟩:=(hp c (by simp at hc⊢;rcases hc with h |h<;>simp[h])).three;exact⟨x,y,z,w,e⟩
  match pre,l,hl,fin with
  |[],[c,d],_,fin |[c],[d],_,fin |[c,d],[],_,fin=>
   obtain⟨x2,y2,z2,w2,rfl⟩:=fin c (by simp);obtain⟨x3,y3,z3,w3,rfl⟩:=fin d (by simp);simp only[pe,uw,dU3,D3];grind
  |[],[],h,_=>simp at h
  |[],[_],h,_=>simp at h
  |[],_::_::_::_,h,_=>simp at h
  |[_],[],h,_=>simp at h
  |[_],_::_::_,h,_=>simp at h
  |[_,_],_::_,h,_=>simp at h
  |_::_::_::_,_,h,_=>simp at h;omega
theorem R7{n:Nat}(hn:n=2\/n=3){A B:BB}(h:A.Perm B):∀pre:BB,(pre++A).length=n+1->(∀u∈pre++A,Pw n u)->dU (pre++B)=dU (pre++A)\/dU (pre++B)=-dU (pre++A):=by
 induction h with
 |nil=>exact λpre _ _=>.inl rfl
 |cons x _ ih=>
  intro pre hl hp;have:=ih (pre++[x]) (by simpa using hl) (by simpa using hp);simpa using this
 |swap x y l=>exact λpre hl hp=>.inr (R9 hn hl hp)
 |trans h1 h2 ih1 ih2=>
  intro pre hl hp;have q1:=ih1 pre hl hp;have q2:=ih2 pre (by rw[<-(h1.append_left pre).length_eq];exact hl) λu hu=>hp u ((h1.append_left pre).mem_iff.mpr hu);omega
theorem Lm{n k:Nat}(hn:n=2\/n=3)(hk:k<=1000){uss:BB}(hl:uss.length=n+1)(hg:∀us∈uss,Gu n k us):dU (dH uss)=dU uss\/dU (dH uss)=-dU uss:=
 R7 hn (lY (by omega)).1.symm [] hl λu hu=>(hg u hu).pt
theorem xB{n:Nat}(hn:n=2\/n=3){uss:BB}(hl:uss.length=n+1):uss.length=3\/uss.length=4:=by
 rcases hn with rfl |rfl
 .exact .inl hl
 .exact .inr hl
theorem Wk{n:Nat}(hn:n=2\/n=3){uss:BB}(hl:uss.length=n+1)(hg:∀us∈uss,Gu n 1000 us):iH ((dH uss).map tv)=iH (uss.map tv)\/iH ((dH uss).map tv)=-iH (uss.map tv):=by
 have hp:=(lY (xB hn hl)).1;rw[qG hn (am 1000) (by rw[hp.length_eq,hl]) (λus hu=>hg us (hp.subset hu)),qG hn (am 1000) hl hg];rcases Lm hn (am 1000) hl hg with e |e
 .exact .inl (by rw[e])
 .exact .inr (by rw[e,aat])
theorem Yb{n:Nat}(hn:n=2\/n=3){A:PV}{L:BH}(S:aQ)(hl:L.length=n+1)(hg:∀v∈L,Gp n 1000 v)(hA:Sv A L):∃d:Int,lB [.pv A] S=.ok (.pv (.int d)) S/\sg d=iH L:=by
 rcases hn with rfl |rfl
 .match L,hl with
  |[P,Q,R],_=>
   obtain⟨x0,y0,w0,rfl,p⟩:=(hg P (by simp)).two;obtain⟨x1,y1,w1,rfl,q⟩:=(hg Q (by simp)).two;obtain⟨x2,y2,w2,rfl,r⟩:=(hg R (by simp)).two;exact⟨_,Az S hA p q r,wQ p.pos⟩
 .match L,hl with
  |[P,Q,R,T],_=>
   obtain⟨x0,y0,z0,w0,rfl,p⟩:=(hg P (by simp)).three;obtain⟨x1,y1,z1,w1,rfl,q⟩:=(hg Q (by simp)).three;obtain⟨x2,y2,z2,w2,rfl,r⟩:=(hg R (by simp)).three;obtain⟨x3,y3,z3,w3,rfl,s⟩:=(hg T (by simp)).three;exact⟨_,Wz S hA p q r s,wQ (kz p.pos p.pos)⟩
def fI(uss:BB):BB:=if iH ((dH uss).map tv)<0 then oB (dH uss)else dH uss
theorem Mq{n:Nat}(hn:n=2\/n=3){L:BH}(hl:L.length=n+1):∃a b M,jE (.lst L) none (some (-2))=some (.lst M)/\aG (.lst L) (.int (-1))=some a/\aG (.lst L) (.int (-2))=some b/\aH (.lst M) (.lst [a,b])=some (.lst (oB L)):=by
 rcases hn with rfl |rfl
 .match L,hl with
  |[P,Q,R],_=>exact⟨R,Q,[P],rfl,rfl,rfl,rfl⟩
 .match L,hl with
  |[P,Q,R,T],_=>exact⟨T,R,[P,Q],rfl,rfl,rfl,rfl⟩
theorem Iu{n:Nat}(hn:n=2\/n=3){A:PV}{a:AV}{uss:BB}(S:aQ)(ha:rd S a=some A)(hl:uss.length=n+1)(hg:∀us∈uss,Gu n 1000 us)(hA:Sv A (uss.map tv)):lX [a] S=.ok (.pv (.tup ((fI uss).map tv))) S:=by
 have h34:uss.length=3\/uss.length=4:=by omega
 have e1:=zS h34 hA λus hu=>(hg us hu).ne;obtain⟨pm,_⟩:=lY h34;have hl2:((dH uss).map tv).length=n+1:=by rw[ar,pm.length_eq];exact hl
 have hg2:∀v∈(dH uss).map tv,Gp n 1000 v:=yN λus hu=>hg us (pm.subset hu);obtain⟨d,e2,hd⟩:=Yb (A:=.lst ((dH uss).map tv)) hn S hl2 hg2 (.inl rfl);obtain⟨a1,b1,M,t1,t2,t3,t4⟩:=Mq hn hl2;unfold fI;have hlt:d<0↔iH ((dH uss).map tv)<0:=by
  rw[<-hd];unfold sg;split
  .omega
  .split<;>omega
 by_cases h:d<0
 .rw[if_pos (hlt.mp h),Ml]
  generalize (dH uss).map tv=L at *;unfold lX bA uX;simp! [-rd,rd.eq_1,bZ,aN,aM,aK,aL,aJ,ha,e1,e2,h,dY,bV,bW,cV,t1,t2,t3,t4]
 .rw[if_neg (λz=>h (hlt.mpr z))]
  generalize (dH uss).map tv=L at *;unfold lX bA uX;simp! [-rd,rd.eq_1,bZ,aN,aM,aK,aL,aJ,ha,e1,e2,h]
theorem Tg{n:Nat}(hn:n=2\/n=3){A:PV}{uss:BB}(S:aQ)(hl:uss.length=n+1)(hg:∀us∈uss,Gu n 1000 us)(hA:Sv A (uss.map tv)):lX [.pv A] S=.ok (.pv (.tup ((fI uss).map tv))) S:=Iu hn S rfl hl hg hA
theorem Bv{n:Nat}(hn:n=2\/n=3){A:PV}{uss:BB}(S:aQ)(hl:uss.length=n+1)(hg:∀us∈uss,Gu n 1000 us)(hA:Sv A (uss.map tv))(h0:iH (uss.map tv)≠0):kF [.pv A] S=.ok (.pv (.tup ((fI uss).map tv))) S:=by
 have h34:uss.length=3\/uss.length=4:=by omega
 have e1:=zS h34 hA λus hu=>(hg us hu).ne;obtain⟨pm,_⟩:=lY h34;have hl2:((dH uss).map tv).length=n+1:=by rw[ar,pm.length_eq];exact hl
 have hg2:∀v∈(dH uss).map tv,Gp n 1000 v:=yN λus hu=>hg us (pm.subset hu);have e2:=Ql (A:=.lst ((dH uss).map tv)) hn S hl2 hg2 (.inl rfl);have h1:iH ((dH uss).map tv)≠0:=by rcases Wk hn hl hg with e |e<;>omega
 obtain⟨a,b,M,t1,t2,t3,t4⟩:=Mq hn hl2;unfold fI
 by_cases h:iH ((dH uss).map tv)<0
 .rw[if_pos h,Ml]
  generalize (dH uss).map tv=L at *;generalize iH L=D at *;unfold kF bA sC;simp! [bZ,aN,aM,aK,aL,aJ,e1,e2,h,h1,dY,bV,bW,cV,t1,t2,t3,t4]
 .rw[if_neg h]
  generalize (dH uss).map tv=L at *;generalize iH L=D at *;unfold kF bA sC;simp! [bZ,aN,aM,aK,aL,aJ,e1,e2,h,h1]
theorem Gv{n:Nat}(hn:n=2\/n=3){A:PV}{uss:BB}(S:aQ)(hl:uss.length=n+1)(hg:∀us∈uss,Gu n 1000 us)(hA:Sv A (uss.map tv))(h0:iH (uss.map tv)=0):kF [.pv A] S=.exc "Flat" S:=by
 have h34:uss.length=3\/uss.length=4:=by omega
 have e1:=zS h34 hA λus hu=>(hg us hu).ne;obtain⟨pm,_⟩:=lY h34;have hl2:((dH uss).map tv).length=n+1:=by rw[ar,pm.length_eq];exact hl
 have hg2:∀v∈(dH uss).map tv,Gp n 1000 v:=yN λus hu=>hg us (pm.subset hu);have e2:=Ql (A:=.lst ((dH uss).map tv)) hn S hl2 hg2 (.inl rfl);have h1:iH ((dH uss).map tv)=0:=by rcases Wk hn hl hg with e |e<;>omega
 rw[h1]at e2;generalize (dH uss).map tv=L at *;unfold kF bA sC;simp! [bZ,aN,aM,aK,aL,aJ,e1,e2,mF]
theorem Al{uss:BB}(h:uss.length=3\/uss.length=4):(fI uss).Perm uss:=by
 obtain⟨pm,_⟩:=lY h;unfold fI;split
 .exact(Tz _).trans pm
 .exact pm
theorem P8{uss:BB}(h:uss.length=3\/uss.length=4):fI (fI uss)=fI uss:=by
 have e:=Mt (Al h) h;unfold fI at e⊢;rw[e]
theorem Bp{S:aQ}{k j:Nat}{xs:BH}{v:PV}(hS:S[k]?=some (.lst xs))(hv:xs[j]?=some v)(hj:j<1000):nS k [.pv (.int (j:Int))] S=.ok (.pv v) (S.set k (.lst (xs.eraseIdx j))):=by
 have hl:=(dj.mp hv).1;have e:seqIndex? (j:Int) xs.length=some j:=by
  unfold seqIndex?;have h1:¬((j:Int)<0):=by omega
  have h2:(decide (0<=(j:Int))&&decide ((j:Int)<(xs.length:Int)))=true:=by
   simp only[ee,decide_eq_true_eq];omega
  simp only[h1,if_false];rw[if_pos h2,oo]
 unfold nS;dsimp only;rw[if_pos ⟨by omega,by omega⟩,hS];dsimp only;rw[e];dsimp only;rw[hv]
theorem Gu.mono{n k l:Nat}{us:BA}(h:Gu n k us)(hl:k<=l):Gu n l us:=by
 obtain⟨xs,w,e,P⟩:=h;exact⟨xs,w,e,P.mono hl⟩
theorem wA{d:Int}:sg d=0↔d=0:=by
 unfold sg;split
 .omega
 .split<;>omega
theorem Jq{d:Int}:sg d<0↔d<0:=by
 unfold sg;split
 .omega
 .split<;>omega
theorem Z3{n k:Nat}(hn:n=2\/n=3)(hk:k<=1000){uss:BB}(hl:uss.length=n+1)(hg:∀us∈uss,Gu n k us):dU (oB uss)=-dU uss:=by
 rcases hn with rfl |rfl
 .match uss,hl with
  |[a,b,c],_=>
   obtain⟨x0,y0,w0,rfl,_⟩:=(hg a (by simp)).two hk;obtain⟨x1,y1,w1,rfl,_⟩:=(hg b (by simp)).two hk;obtain⟨x2,y2,w2,rfl,_⟩:=(hg c (by simp)).two hk;show D2 x0 y0 w0 x2 y2 w2 x1 y1 w1=-(D2 x0 y0 w0 x1 y1 w1 x2 y2 w2);unfold D2;grind
 .match uss,hl with
  |[a,b,c,d],_=>
   obtain⟨x0,y0,z0,w0,rfl,_⟩:=(hg a (by simp)).three hk;obtain⟨x1,y1,z1,w1,rfl,_⟩:=(hg b (by simp)).three hk;obtain⟨x2,y2,z2,w2,rfl,_⟩:=(hg c (by simp)).three hk;obtain⟨x3,y3,z3,w3,rfl,_⟩:=(hg d (by simp)).three hk;show D3 x0 y0 z0 w0 x1 y1 z1 w1 x3 y3 z3 w3 x2 y2 z2 w2=-(D3 x0 y0 z0 w0 x1 y1 z1 w1 x2 y2 z2 w2 x3 y3 z3 w3);unfold D3;grind
theorem aaf{n k:Nat}(hn:n=2\/n=3)(hk:k<=1000){uss:BB}(hl:uss.length=n+1)(hg:∀us∈uss,Gu n k us):dU (fI uss)=((dU uss).natAbs:Int):=by
 have hp:=(lY (xB hn hl)).1;have gs:∀us∈dH uss,Gu n k us:=λus hu=>hg us (hp.subset hu);have ls:(dH uss).length=n+1:=by rw[hp.length_eq,hl]
 have e:=Lm hn hk hl hg;have s:=Z3 hn hk ls gs;have q:=qG hn hk ls gs;unfold fI;split
 .rename_i h
  rw[q,Jq]at h;rw[s];omega
 .rename_i h
  rw[q,Jq]at h;omega
structure Sx(n k:Nat)(uss:BB):Prop where
 len:uss.length=n+1
 gu:∀us∈uss,Gu n k us
 nz:dU uss≠0
 cn:fI uss=uss
abbrev px(uss:BB):PV:=.tup (uss.map tv)
theorem Oq{n k:Nat}(hn:n=2\/n=3)(hk:k<=1000){uss:BB}(hl:uss.length=n+1)(hg:∀us∈uss,Gu n k us)(nz:dU uss≠0):Sx n k (fI uss):=by
 have hp:=Al (xB hn hl);refine⟨by rw[hp.length_eq,hl],λus hu=>hg us (hp.subset hu),?_,P8 (xB hn hl)⟩;rw[aaf hn hk hl hg];omega
theorem nC{G:Gd}{S:aQ}(hG:iG G S){me:ME}{tail:cA}{α:Type}(A B:α->PV):∀(L:List α)(x:BJ),(∀v∈L,me (some (.pv (A v))::tail) S=.ok (.pv (B v)) S)->cN G (gN 0) me (L.map A) (x::tail) S=.ok (L.map B) S
 |[],x,_=>Ly hG
 |v::L,x,h=>by
  have e:=h v ay;have e':=nC hG A B L (some (.pv (A v))) λu hu=>h u (bf _ hu);rw[cg,J7 hG];simp[gN,e,e']
abbrev fv(u:Int×Int):PV:=.tup [.int u.1,.int u.2]
def pl(u v:Int×Int):Int×Int:=((fr (u.1*v.2+v.1*u.2) (u.2*v.2)).getD 0 0,(fr (u.1*v.2+v.1*u.2) (u.2*v.2)).getD 1 0)
theorem Dh{n:Nat}(S:aQ):∀(L:BH)(x:BJ),(∀v∈L,Gp n 1000 v)->cN [] (gN 0) (bD lU [] (aC (aA 0) (aC (aA 1) aF))) L [x,some (.pv (.int n))] S=.ok (L.map λ_=>.bl true) S
 |[],x,_=>eN
 |v::L,x,h=>by
  have ih:=Dh (n:=n) S L (some (.pv v)) λu hu=>h u (bf _ hu);obtain⟨xs,w,rfl,P⟩:=h v ay;have e:=Xk S (by decide) P;rw[eV];generalize (n:Int)=N,(xs++[w]).map PV.int=XL at *;simp! [gN,aG,aR,aU,aI,aN,aM,aK,aL,aH,aJ,e,ih]
theorem Xw:∀L:BH,gA [.lst (L.map λ_=>.bl true)]=some (.bl true):=λL=>by
 have e:jB (L.map λ_=>PV.bl true)=some (L.map λ_=>true):=by
  induction L with
  |nil=>rfl
  |cons v L ih=>
   show(match jB (L.map λ_=>PV.bl true)with |some bs=>some (true::bs) |none=>none)=_
   rw[ih];rfl
 simp only[gA,e,uu];simp
theorem A8{n:Nat}(hn:n=2\/n=3){uss:BB}(S:aQ)(hl:uss.length=n+1)(hg:∀us∈uss,Gu n 1000 us)(h0:iH (uss.map tv)≠0)(hc:fI uss=uss):rS [.pv (.tup (uss.map tv)),.pv (.int n)] S=.ok (.pv (.bl true)) S:=by
 have gp:=yN hg;have hl2:(uss.map tv).length=n+1:=by rw[ar];exact hl
 have ec:=Dh S (uss.map tv) none gp;have ea:=Xw (uss.map tv);obtain⟨d,e2,hd⟩:=Yb (A:=.tup (uss.map tv)) hn S hl2 gp (.inr rfl);have hd0:d≠0:=λz=>h0 (by rw[<-hd,z];rfl);have hdb:(d==0)=false:=by simpa using hd0
 have e3:=Tg (A:=.tup (uss.map tv)) hn S hl hg (.inr rfl);rw[hc]at e3;have q:aI 8 (.tup (uss.map tv)) (.tup (uss.map tv))=some true:=pY λv hv=>Ec (m:=6) (gp v hv);have a3:aH (.int (n:Int)) (.int 1)=some (.int ((uss.map tv).length:Nat)):=by rw[aH,hl2];rfl
 generalize uss.map tv=L at *;generalize L.map (λ_=>PV.bl true)=BL at *;unfold rS bA yZ;generalize (n:Int)=N at *;simp! [bZ,aN,aM,aK,aL,aJ,fH,a3,bO,bN,cE,cC,ec,ea,e2,hdb,e3,q]
theorem X4{n k m:Nat}{uss:BB}(h:∀us∈uss,Gu n k us):aI (m+2) (px uss) (px uss)=some true:=
 pY λv hv=>by
  obtain⟨us,hu,rfl⟩:=df.mp hv;exact Ec (h us hu).gp
abbrev li(xs:BA):BH:=xs.map .int
abbrev lv(xs:BA):PV:=.lst (li xs)
theorem Ha{α β:Type}(f:α->β):∀(R:List α)(j:Nat),(R.map f).eraseIdx j=(R.eraseIdx j).map f
 |[],j=>by simp
 |a::R,0=>by simp
 |a::R,j+1=>by simp[Ha f R j]
theorem ix3:∀v<3,aU 3 ((v:Nat):Int)=some v:=by decide
abbrev uH:MS:=(aS (iX (aA 2) (lK (aA 1) (aC (bD cZ [] (aC (aA 0) (aC (mR bR (aC (aA 1) aF)) aF))) aF)) (mC (.int 1)))
 (eA (Xp (aA 3) (aC (aA 2) aF))))
theorem Hd(ns:BA)(hl:BH)(R C:BA)(L:BB)(x4 x5:BJ)(hR0:0<R.length)(hR3:R.length<=3)(hv:∀v∈R,0<=v/\v<3)(hC:C.length=3)(hL:L.length<=9):
  ∃(j v:Nat)(ns':BA),j<R.length/\R[j]?=some (v:Int)/\uH [some (.ref 0),some (.ref 2),some (.ref 3),some (.ref 4),x4,x5] [.lst (li ns),.lst hl,.lst (li R),.lst (li C),.lol (L.map li)]
   = .nx [some (.ref 0),some (.ref 2),some (.ref 3),some (.ref 4),x4,x5] [.lst (li ns'),.lst hl,.lst (li (R.eraseIdx j)),.lst (li (C.set v 1)),.lol ((L++[C.set v 1]).map li)]:=by
 have hr:jJ [.lst (li ns),.lst hl,.lst (li R),.lst (li C),.lol (L.map li)] 0 ns:=rfl;obtain⟨t,n1,e1,t0,t1,_⟩:=sS (m:=(R.length:Int)) hr (by omega) (oA (by omega) (by omega));simp only[gq]at e1;obtain⟨j,rfl⟩:∃j:Nat,t=(j:Int):=⟨t.toNat,by omega⟩;have hj:j<R.length:=by omega
 obtain⟨v,ev⟩:∃v:Nat,R[j]=(v:Int):=⟨R[j].toNat,by have:=hv _ (je hj);omega⟩;have hv3:v<3:=by have:=hv _ (je hj);omega
 have hq:R[j]?=some (v:Int):=by rw[bh hj,ev]
 have ep:=Bp (S:=[.lst (li n1),.lst hl,.lst (li R),.lst (li C),.lol (L.map li)]) (k:=2) (j:=j) (xs:=li R) (v:=.int v) rfl (by rw[fh,hq];rfl) (by omega);simp only[jr,gq]at ep;have er:(li R).eraseIdx j=li (R.eraseIdx j):=Ha _ _ _;rw[er]at ep;have ei:aU (li C).length (v:Int)=some v:=by
  rw[ar,hC];exact ix3 v hv3
 have ec:(li C).set v (.int 1)=li (C.set v 1):=by simp[li,yu]
 refine⟨j,v,n1,hj,hq,?_⟩;have e1':cZ [.ref 0,.pv (.int ((li R).length:Int))] [.lst (li ns),.lst hl,.lst (li R),.lst (li C),.lol (L.map li)]=.ok (.pv (.int (j:Int))) [.lst (li n1),.lst hl,.lst (li R),.lst (li C),.lol (L.map li)]:=by
  rw[ar];exact e1
 have el:(L++[C.set v 1]).map li=L.map li++[li (C.set v 1)]:=by simp
 rw[el];have lz:(L.map li).length<16777216:=by rw[ar];omega
 generalize li n1=NL1,li ns=NL,(j:Int)=J,li R=RL,li (R.eraseIdx j)=RE,li C=CL,li (C.set v 1)=CS,L.map li=LL at *;unfold uH;simp! [bZ,aN,aM,aK,aL,aH,aJ,iX,nQ,lK,Xp,Ir,fZ,e1',ep,ei,ec,lz]
def k6:BC:=[[[0,0,0],[1,0,0],[1,1,0],[1,1,1]],[[0,0,0],[1,0,0],[1,0,1],[1,1,1]],[[0,0,0],[0,1,0],[1,1,0],[1,1,1]],[[0,0,0],[0,1,0],[0,1,1],[1,1,1]],[[0,0,0],[0,0,1],[1,0,1],[1,1,1]],[[0,0,0],[0,0,1],[0,1,1],[1,1,1]]]
theorem abY{R:BA}{j v:Nat}{a b c:Int}(h:R=[a,b,c])(hj:j<R.length)(e:R[j]?=some (v:Int)):(j=0/\(v:Int)=a)\/(j=1/\(v:Int)=b)\/(j=2/\(v:Int)=c):=by
 subst h
 match j,hj,e with
 |0,_,e=>simp at e;exact .inl ⟨rfl,e.symm⟩
 |1,_,e=>simp at e;exact .inr (.inl ⟨rfl,e.symm⟩)
 |2,_,e=>simp at e;exact .inr (.inr ⟨rfl,e.symm⟩)
theorem acb{R:BA}{j v:Nat}{a b:Int}(h:R=[a,b])(hj:j<R.length)(e:R[j]?=some (v:Int)):(j=0/\(v:Int)=a)\/(j=1/\(v:Int)=b):=by
 subst h
 match j,hj,e with
 |0,_,e=>simp at e;exact .inl ⟨rfl,e.symm⟩
 |1,_,e=>simp at e;exact .inr ⟨rfl,e.symm⟩
theorem acy{R:BA}{j v:Nat}{a:Int}(h:R=[a])(hj:j<R.length)(e:R[j]?=some (v:Int)):j=0/\(v:Int)=a:=by
 subst h
 match j,hj,e with
 |0,_,e=>simp at e;exact⟨rfl,e.symm⟩
theorem k3(ns:BA)(hl:BH)(R C:BA)(A:BB)(a b c:Nat)(x4 x5:BJ)(hR:R=[(c:Int)])(hc:c<3)(hC:C.length=3)(hA:A.length<=9)(ks:BC)(hk:A++[C.set c 1]∈ks):
  ∃(xss:BB)(ns':BA)(C':BA),xss∈ks/\dQ [] (gN 4) uH [.int 2] [some (.ref 0),some (.ref 2),some (.ref 3),some (.ref 4),x4,x5] [.lst (li ns),.lst hl,.lst (li R),.lst (li C),.lol (A.map li)]
   = .nx [some (.ref 0),some (.ref 2),some (.ref 3),some (.ref 4),some (.pv (.int 2)),x5] [.lst (li ns'),.lst hl,.lst [],.lst (li C'),.lol (xss.map li)]:=by
 obtain⟨j,v,n1,hj,e,h⟩:=Hd ns hl R C A (some (.pv (.int 2))) x5 (by rw[hR];simp) (by rw[hR];simp) (by rw[hR];simp;omega) hC hA;obtain⟨rfl,ev⟩:=acy hR hj e;have:v=c:=by omega
 subst this;subst hR;refine⟨_,n1,C.set v 1,hk,?_⟩;rw[gG];simp only[gN,jr,gq];rw[h];exact hV
theorem k2(ns:BA)(hl:BH)(R C:BA)(A:BB)(b c:Nat)(x4 x5:BJ)(hR:R=[(b:Int),(c:Int)])(hb:b<3)(hc:c<3)(hC:C.length=3)(hA:A.length<=8)(ks:BC)(h1:A++[C.set b 1]++[(C.set b 1).set c 1]∈ks)(h2:A++[C.set c 1]++[(C.set c 1).set b 1]∈ks):
  ∃(xss:BB)(ns':BA)(C':BA),xss∈ks/\dQ [] (gN 4) uH [.int 1,.int 2] [some (.ref 0),some (.ref 2),some (.ref 3),some (.ref 4),x4,x5] [.lst (li ns),.lst hl,.lst (li R),.lst (li C),.lol (A.map li)]
   = .nx [some (.ref 0),some (.ref 2),some (.ref 3),some (.ref 4),some (.pv (.int 2)),x5] [.lst (li ns'),.lst hl,.lst [],.lst (li C'),.lol (xss.map li)]:=by
 obtain⟨j,v,n1,hj,e,h⟩:=Hd ns hl R C A (some (.pv (.int 1))) x5 (by rw[hR];simp) (by rw[hR];simp) (by rw[hR];simp;omega) hC (by omega);rw[gG];simp only[gN,jr,gq];rw[h];rcases acb hR hj e with⟨rfl,ev⟩|⟨rfl,ev⟩
 .have:v=b:=by omega
  subst this;subst hR;exact k3 n1 hl _ (C.set v 1) _ 0 0 c _ x5 rfl hc (by rw[ic];exact hC) (by simp;omega) ks h1
 .have:v=c:=by omega
  subst this;subst hR;exact k3 n1 hl _ (C.set v 1) _ 0 0 b _ x5 rfl hb (by rw[ic];exact hC) (by simp;omega) ks h2
theorem k1(ns:BA)(hl:BH)(x4 x5:BJ):
  ∃(xss:BB)(ns':BA)(C':BA),xss∈k6/\dQ [] (gN 4) uH [.int 0,.int 1,.int 2] [some (.ref 0),some (.ref 2),some (.ref 3),some (.ref 4),x4,x5] [.lst (li ns),.lst hl,.lst (li [0,1,2]),.lst (li [0,0,0]),.lol ([[0,0,0]].map li)]
   = .nx [some (.ref 0),some (.ref 2),some (.ref 3),some (.ref 4),some (.pv (.int 2)),x5] [.lst (li ns'),.lst hl,.lst [],.lst (li C'),.lol (xss.map li)]:=by
 obtain⟨j,v,n1,hj,e,h⟩:=Hd ns hl [0,1,2] [0,0,0] [[0,0,0]] (some (.pv (.int 0))) x5 (by decide) (by decide) (by decide) rfl (by decide);rw[gG];simp only[gN,jr,gq];rw[h];rcases abY rfl hj e with⟨rfl,ev⟩|⟨rfl,ev⟩|⟨rfl,ev⟩
 .have:v=0:=by omega
  subst this;exact k2 n1 hl _ [1,0,0] _ 1 2 _ x5 rfl (by decide) (by decide) rfl (by decide) k6 (by decide) (by decide)
 .have:v=1:=by omega
  subst this;exact k2 n1 hl _ [0,1,0] _ 0 2 _ x5 rfl (by decide) (by decide) rfl (by decide) k6 (by decide) (by decide)
 .have:v=2:=by omega
  subst this;exact k2 n1 hl _ [0,0,1] _ 0 1 _ x5 rfl (by decide) (by decide) rfl (by decide) k6 (by decide) (by decide)
theorem rN(S:aQ){n:Nat}(h:n<=9):rB [.pv (.int (n:Int))] S=.ok (dZ 0 n,[]) S:=by
 have e:rB [.pv (.int (n:Int))] S=@ite _ ((n:Int)<=16777216/\-16777216<=(n:Int)) (jp _) (.ok (dZ 0 (n:Int).toNat,[]) S) .fail:=rfl;rw[e,if_pos ⟨by omega,by omega⟩,oo]
theorem tG{n k:Nat}{L:BA}{b:Int}(hb:0<b)(hl:L.length=n)(hL:∀x∈L,Bd k x)(bb:Bd k b):∃(zs:BA)(z:Int),low (L++[b])=zs++[z]/\Pq n k zs z/\∀j,j<n->zs.getD j 0*b=L.getD j 0*z:=by
 obtain⟨zs,z,g,e,hg,hz,g1,g2,hzl⟩:=Xo L hb;have hlow:=M0 L hb;have hbd:=W4 (k:=k) (ns:=L++[b]) λm hm=>by
  rcases cu.mp hm with y |y
  .exact hL m y
  .have:m=b:=by simpa using y
   rw[this];exact bb
 rw[e]at hlow hbd;refine⟨zs,z,e,⟨hzl.trans hl,hz,hlow,λx hx=>hbd x (jt _ hx),hbd z (oK zs z)⟩,λj hj=>?_⟩;have hj':j<zs.length:=by omega
 have e1:L.getD j 0=g*zs.getD j 0:=by
  rw[g1];simp[de,hj']
 rw[e1,g2];grind
theorem p9:lH (.int 10) (.int 9)=some (.int 1000000000):=Qm (i:=10) (j:=9) ⟨by decide,by decide,by decide⟩
theorem B9(m:Nat):dZ 0 m=(cq m).map λj:Nat=>PV.int (j:Int):=by
 unfold dZ;refine im λj _=>?_;simp
theorem Od{m c:Int}(hm:0<m)(bm:Bd 8000 m)(R:aQ):∀(is:BH)(ns:BA)(x:BJ),∃xs ns':BA,cN [] (gN 0) (aE dN (bD cZ [] (aC (aA 1) (aC (mC (.int m)) aF))) (mC (.int c))) is [x,some (.ref 0)] (.lst (li ns)::R)=.ok (li xs) (.lst (li ns')::R)/\xs.length=is.length/\∀y∈xs,-c<=y/\y<m-c
 |[],ns,x=>⟨[],ns,eN,rfl,λ_ h=>absurd h qo⟩
 |i::is,ns,x=>by
  obtain⟨t,n1,e1,t0,t1,_⟩:=sS (m:=m) (show jJ (.lst (li ns)::R) 0 ns from rfl) hm bm;simp only[gq]at e1;have e1:cZ [.ref 0,.pv (.int m)] (.lst (li ns)::R)=.ok (.pv (.int t)) (.lst (li n1)::R):=e1;obtain⟨xs,n2,e2,l2,b2⟩:=Od (c:=c) hm bm R is n1 (some (.pv i));refine⟨(t-c)::xs,n2,?_,by rw[br,br,l2],λy hy=>?_⟩
  .rw[eV]
   simp! [gN,aG,aR,aU,aI,aN,aM,aK,aL,aH,aJ,e1,e2]
  .rcases ce.mp hy with rfl |hy
   .omega
   .exact b2 y hy
def wq(q:BA):Int:=q.getLastD 0
theorem xF{n k:Nat}{q:BA}(h:Gu n k q):0<wq q/\Bd k (wq q)/\aG (tv q) (.int (-1))=some (.int (wq q))/\(∀j,j<n->aG (tv q) (.int (j:Nat))=some (.int (q.getD j 0))/\Bd k (q.getD j 0))/\q.length=n+1:=by
 obtain⟨xs,w,rfl,P⟩:=h;have e:wq (xs++[w])=w:=by unfold wq;simp
 rw[e];refine⟨P.pos,P.bw,nE xs w,λj hj=>?_,by rw[bq,P.len];rfl⟩;have hj2:j<xs.length:=by rw[P.len];exact hj
 have eg:(xs++[w]).getD j 0=xs.getD j 0:=by
  rw[uz,uz,ib hj2]
 rw[eg];refine⟨Tc xs w j hj2,?_⟩;rw[uz,bh hj2];exact P.bx _ (je _)
theorem Xm{b:Nat}{U w:Int}(hU:0<U)(hw:0<w)(bU:Bd b U):Bd b (U.fdiv w):=by
 have e:U.fdiv w=U/w:=xw U (qk hw);rw[e];have h1:=Int.ediv_nonneg (qk hU) (qk hw);have h2:=Int.ediv_le_self w (qk hU);exact qi (by omega) bU
theorem Yo{k:Nat}:∀(L:BA),(∀x∈L,Bd k x)->Bd (k+L.length) L.sum
 |[],_=>by
  show(0:Int).natAbs<2^_;exact qu _
 |x::L,h=>by
  have ih:=Yo L λy hy=>h y (bf _ hy);rw[uv];exact(((h x (by simp)).mono (show k<=k+L.length by omega)).add ih).mono (by rw[br];omega)
abbrev tx(L:List Nat):Str:=⟨L.toArray⟩
theorem oP(x:Str):tx x.cps.toList=x:=by
 cases x;simp[tx]
theorem dL(L:List Nat):(tx L).length=L.length:=by
 show L.toArray.size=L.length;simp
theorem sX(A B:List Nat):tx A++tx B=tx (A++B):=by
 have e:=PySem.W.KT.app_list (tx A) (tx B);rw[<-oP (tx A++tx B),e]
theorem tE{A B:List Nat}(h:tx A=tx B):A=B:=by
 have e:=congrArg (λx:Str=>x.cps.toList) h;simpa using e
theorem aaB(A B:List Nat):(tx A==tx B)=decide (A=B):=by
 by_cases h:A=B
 .subst h
  simp
 .have:tx A≠tx B:=λz=>h (tE z)
  simp[h,this]
theorem vY:("/":Str)=tx [47]:=by kernel_rfl
theorem Rb:("-":Str)=tx [45]:=by kernel_rfl
theorem aaR:("1":Str)=tx [49]:=by kernel_rfl
def fA(c:Nat):Bool:=decide (48<=c)&&decide (c<=57)
theorem Vy:∀c:Nat,c<128->Jr "0123456789" ⟨#[c]⟩=fA c:=by decide+kernel
theorem No{L:List Nat}(h:∀c∈L,c<128):(tx L).cps.all (· <128)=true:=by
 simpa[tx]using h
theorem Dl(bs:List Bool):gA [.lst (bs.map .bl)]=some (.bl (bs.all id)):=by
 have e:jB (bs.map PV.bl)=some bs:=by
  induction bs with
  |nil=>rfl
  |cons v L ih=>
   show(match jB (L.map PV.bl)with |some bs=>some (v::bs) |none=>none)=_
   rw[ih]
 simp only[gA,e,uu]
theorem Pj(S:aQ)(L:List Nat)(h:∀c∈L,c<128):cN [] (gN 0) (aE kP (aA 0) (mC (.str "0123456789"))) (kR (tx L)) [none] S=.ok ((L.map fA).map .bl) S:=by
 have e:kR (tx L)=L.map λc=>PV.str ⟨#[c]⟩:=by unfold kR;simp
 rw[e,di];refine nC (jO S) (λc:Nat=>PV.str ⟨#[c]⟩) (λc=>.bl (fA c)) L none λc hc=>?_;have q:=Vy c (h c hc);simp[aE,aA,mC,bT.bind,fQ,rd,kP,q,fN]
def eD(L:List Nat):Bool:=decide (1<=L.length)&&decide (L.length<=60)&&L.all fA
def vD(L:List Nat):Int:=((x9 L:Nat):Int)
theorem sU{L:List Nat}(h:eD L=true):iY [.str (tx L)]=some (.int (vD L)):=by
 unfold eD at h;rw[ee,ee,decide_eq_true_eq,decide_eq_true_eq]at h;have hl:(tx L).length<=640:=by rw[dL];omega
 have hd:PySem.NumText.AllDigits (tx L).cps.toList:=by
  intro c hc;have hc:c∈L:=by simpa[tx]using hc
  have:=jd.mp h.2 c hc;unfold fA at this;rw[ee,decide_eq_true_eq,decide_eq_true_eq]at this;exact this
 have hn:(tx L).cps.toList≠[]:=by
  intro z;have:L=[]:=by simpa[tx]using z
  rw[this]at h;exact absurd h.1.1 (by decide)
 have e:=PySem.intText_digits hd hn (by omega);show(if(tx L).length<=640 then(qr (tx L)).map PV.int else none)=_;rw[if_pos hl,e];simp[vD,tx]
theorem Fj:∀(L:List Nat)(a:Nat),(∀c∈L,fA c=true)->L.foldl (λacc c=>acc*10+(c-48)) a<(a+1)*10^L.length
 |[],a,_=>by simp
 |c::L,a,h=>by
  have hc:=h c ay;unfold fA at hc;rw[ee,decide_eq_true_eq,decide_eq_true_eq]at hc;have ih:=Fj L (a*10+(c-48)) λd hd=>h d (bf _ hd);rw[xi,br,xm];have:a*10+(c-48)+1<=(a+1)*10:=by omega
  have:=yw (10^L.length) this;have e:(a+1)*10*10^L.length=(a+1)*(10^L.length*10):=by rw[Nat.mul_assoc,ud 10]
  omega
theorem xC{L:List Nat}(h:eD L=true):0<=vD L/\vD L<10^60:=by
 unfold eD at h;rw[ee,ee,decide_eq_true_eq,decide_eq_true_eq]at h;have a:=Fj L 0 (jd.mp h.2);have b:10^L.length<=10^60:=qh (by decide) h.1.2;unfold vD x9;refine⟨by omega,?_⟩;have:kn (λacc c=>acc*10+(c-48)) 0 L<10^60:=by omega
 exact_mod_cast this
theorem gU(S:aQ)(b:Bool):jK [.pv (.bl b)] S=if b=true then .ok (.pv .non) S else .exc "NoText" S:=by
 unfold jK bA yX;cases b<;>simp! [aG,aR,aU,aI,aN,aM,aK,aL,aH,aJ,mF]
theorem Qi(S:aQ){L:List Nat}(ha:∀c∈L,c<128)(hl:L.length<=10000):iI [.pv (.str (tx L))] S=if eD L=true then .ok (.pv (.int (vD L))) S else .exc "NoText" S:=by
 have z:(tx L).length<=16777216:=by rw[dL];omega
 have ec:=Pj S L ha;have eb:=Dl (L.map fA);have ll:((tx L).length:Int)=(L.length:Int):=by rw[dL]
 have a8:=No ha;have ei:=@sU L;have rf:=gU S;have hb:zG=(aS (eA (cL jK [] (aC (oZ (iA kA kA (mC (.int 1)) (mR fY (aC (aA 0) aF)) (mC (.int 60))) (mR gA (aC (bO ["sign"] [] (mL (aA 0)) (gN 0) (aE kP (aA 0) (mC (.str "0123456789")))) aF))) aF))) (bH (mR iY (aC (aA 0) aF)))):=rfl;have al:(L.map fA).all id=L.all fA:=by simp[List.all_map]
 rw[al]at eb;unfold eD at ei⊢;generalize tx L=T,L.length=N,vD L=V,L.all fA=B,(L.map fA).map PV.bl=BL,(aE kP (aA 0) (mC (.str "0123456789")))=ME1 at *;unfold iI bA;rw[hb]
 by_cases h1:(1:Int)<=(N:Int)
 .have h1':1<=N:=by omega
  by_cases h2:(N:Int)<=60
  .have h2':N<=60:=by omega
   cases B with
   |true=>
    have ei:=ei (by simp[h1',h2']);simp! [aG,aR,aU,aI,aN,aM,aK,aL,aH,aJ,iA,fY,z,ll,h1,h2,h1',h2',bO,cC,mL,tK,a8,ec,eb,rf,ei]
   |false=>simp! [aG,aR,aU,aI,aN,aM,aK,aL,aH,aJ,iA,fY,z,ll,h1,h2,h1',h2',bO,cC,mL,tK,a8,ec,eb,rf]
  .have h2':¬N<=60:=by omega
   simp! [aG,aR,aU,aI,aN,aM,aK,aL,aH,aJ,iA,fY,z,ll,h1,h2,h1',h2',rf]
 .have h1':¬1<=N:=by omega
  simp! [aG,aR,aU,aI,aN,aM,aK,aL,aH,aJ,iA,fY,z,ll,h1,h1',rf]
theorem Mm(L:List Nat)(i:Nat):iu (tx L) (some (i:Int)) none=tx (L.drop i):=by
 have hl:=dL L
 by_cases h:i<=L.length
 .rw[PyProof.Rows.slice_from_eq (b:=((tx L).length:Int)) (by omega) (by omega) rfl]
  have e1:((i:Int)).toNat=i:=by omega
  have e2:(((tx L).length:Int)-(i:Int)).toNat=L.length-i:=by omega
  rw[e1,e2];have:(tx L).cps.toList=L:=by simp[tx]
  rw[this,ky (by rw[jm];exact am _)]
 .rw[PyProof.Rows.slice_beyond (by omega),yx (by omega)]
  rfl
theorem Dq(L:List Nat)(i:Nat)(h:i<=L.length):iu (tx L) none (some (i:Int))=tx (L.take i):=by
 have hl:=dL L;have e:=beq_iff_eq.mp (PyProof.Rows.slice_closes_toL (x:=tx L) (j:=(i:Int)) (by omega) (by omega));rw[e];have e1:((i:Int)-0).toNat=i:=by omega
 have:(tx L).cps.toList=L:=by simp[tx]
 rw[e1,this];rfl
theorem L1:iu (tx []) none (some 1)=tx []:=by kernel_rfl
theorem S6(L:List Nat):iu (tx L) none (some 1)=tx (L.take 1):=by
 cases L with
 |nil=>exact L1
 |cons c L=>exact Dq (c::L) 1 (by simp)
theorem R5(L:List Nat)(c:Nat):uj (tx L) (tx [c])=decide (L.head?=some c):=by
 have e:=y8 (tx L) c 0;have h0:(tx L).cps.toList[0]?=L.head?:=by
  have:(tx L).cps.toList=L:=by simp[tx]
  rw[this];cases L<;>rfl
 rw[h0]at e;unfold uj
 by_cases h:L.head?=some c
 .obtain⟨a,b⟩:=e.mpr h
  have a:0+(tx [c]).length<=(tx L).length:=a;have b:va (tx L) (tx [c]) 0=true:=b;rw[yj]at a;simp[h,a,b]
 .have n:¬(0+(tx [c]).length<=(tx L).length/\va (tx L) (tx [c]) 0=true):=λz=>h (e.mp z)
  simp only[h,decide_false]
  by_cases a:0+(tx [c]).length<=(tx L).length
  .have b:va (tx L) (tx [c]) 0=false:=by
    cases q:va (tx L) (tx [c]) 0 with
    |false=>rfl
    |true=>exact absurd ⟨a,q⟩ n
   simp[b]
  .rw[yj]at a
   simp[a]
theorem wG(L:List Nat)(c i:Nat):yz (tx L) (tx [c]) (tx L).length i↔L[i]?=some c:=by
 have e:=y8 (tx L) c i;have:(tx L).cps.toList=L:=by simp[tx]
 rw[this]at e;exact e
theorem J2{L:List Nat}{c:Nat}(h:c∉L):kd (tx L) (tx [c])=-1:=by
 rcases vb (tx L) (tx [c])with⟨e,_⟩|⟨i,_,a,_⟩
 .exact e
 .exact absurd (fm ((wG L c i).mp a)) h
theorem L9{A B:List Nat}{c:Nat}(h:c∉A):kd (tx (A++c::B)) (tx [c])=(A.length:Int):=by
 have here:(A++c::B)[A.length]?=some c:=by simp
 rcases vb (tx (A++c::B)) (tx [c])with⟨_,n⟩|⟨i,e,a,n⟩
 .exact absurd ((wG _ c A.length).mpr here) (n A.length)
 .rw[e]
  have ha:=(wG _ c i).mp a;have h1:¬i<A.length:=λz=>by
   rw[ib z]at ha;exact h (fm ha)
  have h2:¬A.length<i:=λz=>n A.length z ((wG _ c A.length).mpr here);have:i=A.length:=by omega
  rw[this]
def dD(c:Nat):List (List Nat)->List Nat
 |[]=>[]
 |[p]=>p
 |p::q::r=>p++c::dD c (q::r)
theorem Zb(c:Nat):∀P:List (List Nat),vc (tx [c]) (P.map tx)=tx (dD c P)
 |[]=>rfl
 |[p]=>rfl
 |p::q::r=>by
  show tx p++tx [c]++vc (tx [c]) ((q::r).map tx)=tx (p++c::dD c (q::r));rw[Zb c (q::r),sX,sX,ko];rfl
theorem tD(L:List Nat)(c:Nat):∃P:List (List Nat),da (tx L) (tx [c])=P.map tx/\(∀p∈P,c∉p)/\dD c P=L/\P≠[]:=by
 refine⟨(da (tx L) (tx [c])).map λx=>x.cps.toList,?_,?_,?_,?_⟩
 .rw[di]
  have:(tx∘λx:Str=>x.cps.toList)=id:=by
   funext x
   exact oP x
  rw[this,jb]
 .intro p hp
  obtain⟨x,hx,rfl⟩:=df.mp hp;exact StrLaws.split_free (tx L) c x hx
 .have e:=za (tx L) (tx [c])
  apply tE;rw[<-Zb,di];have:(tx∘λx:Str=>x.cps.toList)=id:=by
   funext x
   exact oP x
  rw[this,jb];exact e
 .intro z
  have:=y9 (tx L) (tx [c]);rw[vd.mp z]at this;exact absurd this (by decide)
def bd(p:List Nat):List Nat:=if p.head?=some 45 then p.tail else p
def sN(p:List Nat):Int:=if p.head?=some 45 then-(vD (bd p))else vD (bd p)
def rL:List (List Nat)->Option (Int×Int)
 |[p]=>if eD (bd p)=true then some (sN p,1)else none
 |[p,q]=>if eD (bd p)=true/\eD q=true/\vD q≠0 then some (sN p,vD q)else none
 |_=>none
theorem yG{v:Int}(h:0<=v/\v<10^60):Bd 200 v/\Bd 200 (-v):=by
 have a:Bd 200 v:=Bd.of (n:=10^60) (by omega) (by decide+kernel);exact⟨a,a.neg⟩
theorem qL{p:List Nat}(h:eD (bd p)=true):Bd 200 (sN p):=by
 have:=yG (xC h);unfold sN;split
 .exact this.2
 .exact this.1
theorem Kc:Bd 200 (1:Int):=(Bd.of (k:=2) (n:=1) (by decide) (by decide)).mono (by decide)
theorem tF{p:List Nat}{c:Nat}(h:c∈bd p):c∈p:=by
 unfold bd at h;split at h
 .exact List.mem_of_mem_tail h
 .exact h
theorem wD(p:List Nat):(bd p).length<=p.length:=by
 unfold bd;split
 .rw[List.length_tail];omega
 .exact am _
def Ae(r:Option (Int×Int))(S:aQ):bT AV:=match r with
 |some (t,b)=>.ok (.pv (.tup ((fr t b).map .int))) S
 |none=>.exc "NoText" S
def mS(b:Bool)(T0 T1:Str):Prop:=(b=true/\gD (.str T0) (some 1) none=some (.str T1))\/(b=false/\T1=T0)
theorem Q6{S:aQ}{TL T0 T1:Str}{b:Bool}{V:Int}{F:AV}(es:fL TL [.str "/"]=some (.lst [.str T0]))(st:kI T0 [.str "-"]=some (.bl b))(hb:mS b T0 T1)(r1:iI [.pv (.str T1)] S=.ok (.pv (.int V)) S)(fq:nB [.pv (.int (if b=true then-V else V)),.pv (.int 1)] S=.ok F S)(hF:∀k,F≠.ref k):eM [.pv (.str TL)] S=.ok F S:=by
 have rf:=gU S;unfold eM bA lS;cases F with
 |ref k=>exact absurd rfl (hF k)
 |pv F=>
  rcases hb with⟨rfl,hb⟩|⟨rfl,rfl⟩
  .simp only[if_true]at fq
   simp! [aG,aR,aU,aI,aN,aM,aK,aL,aH,aJ,bS,bY,es,rf,st,cR,bV,bW,cV,hb,r1,fq]
  .simp only[ox,if_false]at fq
   simp! [aG,aR,aU,aI,aN,aM,aK,aL,aH,aJ,bS,bY,es,rf,st,r1,fq]
theorem Vv{S:aQ}{TL T0 T1:Str}{b:Bool}(es:fL TL [.str "/"]=some (.lst [.str T0]))(st:kI T0 [.str "-"]=some (.bl b))(hb:mS b T0 T1)(r1:iI [.pv (.str T1)] S=.exc "NoText" S):eM [.pv (.str TL)] S=.exc "NoText" S:=by
 have rf:=gU S;unfold eM bA lS;rcases hb with⟨rfl,hb⟩|⟨rfl,rfl⟩
 .simp! [aG,aR,aU,aI,aN,aM,aK,aL,aH,aJ,bS,bY,es,rf,st,cR,bV,bW,cV,hb,r1]
 .simp! [aG,aR,aU,aI,aN,aM,aK,aL,aH,aJ,bS,bY,es,rf,st,r1]
theorem K2{S:aQ}{TL T0 T1 T2:Str}{b:Bool}{V V2:Int}{F:AV}(es:fL TL [.str "/"]=some (.lst [.str T0,.str T2]))(st:kI T0 [.str "-"]=some (.bl b))(hb:mS b T0 T1)(r1:iI [.pv (.str T1)] S=.ok (.pv (.int V)) S)(r2:iI [.pv (.str T2)] S=.ok (.pv (.int V2)) S)(hz:V2≠0)(fq:nB [.pv (.int (if b=true then-V else V)),.pv (.int V2)] S=.ok F S)(hF:∀k,F≠.ref k):eM [.pv (.str TL)] S=.ok F S:=by
 have rf:=gU S;have hz':(V2==0)=false:=by simpa using hz
 unfold eM bA lS;cases F with
 |ref k=>exact absurd rfl (hF k)
 |pv F=>
  rcases hb with⟨rfl,hb⟩|⟨rfl,rfl⟩
  .simp only[if_true]at fq
   simp! [aG,aR,aU,aI,aN,aM,aK,aL,aH,aJ,bS,bY,es,rf,st,cR,bV,bW,cV,hb,r1,r2,hz',fq]
  .simp only[ox,if_false]at fq
   simp! [aG,aR,aU,aI,aN,aM,aK,aL,aH,aJ,bS,bY,es,rf,st,r1,r2,hz',fq]
theorem Eu{S:aQ}{TL T0 T1 T2:Str}{b:Bool}(es:fL TL [.str "/"]=some (.lst [.str T0,.str T2]))(st:kI T0 [.str "-"]=some (.bl b))(hb:mS b T0 T1)(r1:iI [.pv (.str T1)] S=.exc "NoText" S):eM [.pv (.str TL)] S=.exc "NoText" S:=by
 have rf:=gU S;unfold eM bA lS;rcases hb with⟨rfl,hb⟩|⟨rfl,rfl⟩
 .simp! [aG,aR,aU,aI,aN,aM,aK,aL,aH,aJ,bS,bY,es,rf,st,cR,bV,bW,cV,hb,r1]
 .simp! [aG,aR,aU,aI,aN,aM,aK,aL,aH,aJ,bS,bY,es,rf,st,r1]
theorem Fu{S:aQ}{TL T0 T1 T2:Str}{b:Bool}{V:Int}(es:fL TL [.str "/"]=some (.lst [.str T0,.str T2]))(st:kI T0 [.str "-"]=some (.bl b))(hb:mS b T0 T1)(r1:iI [.pv (.str T1)] S=.ok (.pv (.int V)) S)(r2:iI [.pv (.str T2)] S=.exc "NoText" S):eM [.pv (.str TL)] S=.exc "NoText" S:=by
 have rf:=gU S;unfold eM bA lS;rcases hb with⟨rfl,hb⟩|⟨rfl,rfl⟩
 .simp! [aG,aR,aU,aI,aN,aM,aK,aL,aH,aJ,bS,bY,es,rf,st,cR,bV,bW,cV,hb,r1,r2]
 .simp! [aG,aR,aU,aI,aN,aM,aK,aL,aH,aJ,bS,bY,es,rf,st,r1,r2]
theorem Ut{S:aQ}{TL T0 T1 T2:Str}{b:Bool}{V:Int}(es:fL TL [.str "/"]=some (.lst [.str T0,.str T2]))(st:kI T0 [.str "-"]=some (.bl b))(hb:mS b T0 T1)(r1:iI [.pv (.str T1)] S=.ok (.pv (.int V)) S)(r2:iI [.pv (.str T2)] S=.ok (.pv (.int 0)) S):eM [.pv (.str TL)] S=.exc "NoText" S:=by
 have rf:=gU S;unfold eM bA lS;rcases hb with⟨rfl,hb⟩|⟨rfl,rfl⟩
 .simp! [aG,aR,aU,aI,aN,aM,aK,aL,aH,aJ,bS,bY,es,rf,st,cR,bV,bW,cV,hb,r1,r2]
 .simp! [aG,aR,aU,aI,aN,aM,aK,aL,aH,aJ,bS,bY,es,rf,st,r1,r2]
theorem Ny{S:aQ}{TL:Str}{R:BH}(es:fL TL [.str "/"]=some (.lst R))(h:2<R.length):eM [.pv (.str TL)] S=.exc "NoText" S:=by
 have rf:=gU S;have h3:¬((R.length:Int)<=2):=by omega
 unfold eM bA lS;simp! [aG,aR,aU,aI,aN,aM,aK,aL,aH,aJ,bS,bY,es,rf,h3]
theorem Cc{p:List Nat}(h:p.length<=10000):kI (tx p) [.str "-"]=some (.bl (decide (p.head?=some 45)))/\mS (decide (p.head?=some 45)) (tx p) (tx (bd p)):=by
 refine⟨?_,?_⟩
 .rw[Rb]
  show some (PV.bl (uj (tx p) (tx [45])))=_;rw[R5]
 .unfold bd
  by_cases h45:p.head?=some 45
  .left
   rw[if_pos h45];refine⟨by simp[h45],?_⟩;show(if(tx p).length<=16777216 then some (PV.str (iu (tx p) (some 1) none))else none)=_;rw[if_pos (by rw[dL];omega)];have:=Mm p 1;rw[show((1:Nat):Int)=1 from rfl,List.drop_one]at this;rw[this]
  .right
   rw[if_neg h45];exact⟨by simp[h45],rfl⟩
theorem wX(p:List Nat):(if decide (p.head?=some 45)=true then-(vD (bd p))else vD (bd p))=sN p:=by
 unfold sN
 by_cases h45:p.head?=some 45<;>simp[h45]
theorem xZ(p:List Nat):rL [p]=if eD (bd p)=true then some (sN p,1)else none:=rfl
theorem xY(p q:List Nat):rL [p,q]=if eD (bd p)=true/\eD q=true/\vD q≠0 then some (sN p,vD q)else none:=rfl
theorem Ax(S:aQ){L:List Nat}{P:List (List Nat)}(hs:da (tx L) (tx [47])=P.map tx)(hp:P≠[])(ha:∀p∈P,∀c∈p,c<128)(hl:∀p∈P,p.length<=10000)(hL:L.length<=10000):eM [.pv (.str (tx L))] S=Ae (rL P) S:=by
 have es:fL (tx L) [.str "/"]=some (.lst (P.map λp=>.str (tx p))):=by
  rw[vY];show(if(tx [47]).length≠0/\(tx L).length+2<=16777216 then some (PV.lst ((da (tx L) (tx [47])).map .str))else none)=_;rw[if_pos ⟨by rw[dL];decide,by rw[dL];omega⟩,hs,di];rfl
 have bE:∀p∈P,iI [.pv (.str (tx (bd p)))] S=if eD (bd p)=true then .ok (.pv (.int (vD (bd p)))) S else .exc "NoText" S:=λp h=>Qi S (λc hc=>ha p h c (tF hc)) (dz (wD p) (hl p h));have wh:∀p∈P,iI [.pv (.str (tx p))] S=if eD p=true then .ok (.pv (.int (vD p))) S else .exc "NoText" S:=λp h=>Qi S (ha p h) (hl p h);have fq:∀t b:Int,Bd 200 t->Bd 200 b->b≠0->nB [.pv (.int t),.pv (.int b)] S=.ok (.pv (.tup ((fr t b).map .int))) S:=λt b ht hb h=>Nu t b S (ht.mono (by decide)) (hb.mono (by decide)) h
 match P,hp,hl,es,bE,wh with
 |[p],_,hl,es,bE,wh=>
  have tp:=bE p (by simp);obtain⟨st,bo⟩:=Cc (hl p (by simp));simp only[cg,il]at es;rw[xZ]
  by_cases hk:eD (bd p)=true
  .rw[if_pos hk]at tp⊢
   exact Q6 es st bo tp (by rw[wX];exact fq (sN p) 1 (qL hk) Kc (by decide)) (λ_ z=>by cases z)
  .rw[if_neg hk]at tp⊢
   exact Vv es st bo tp
 |[p,q],_,hl,es,bE,wh=>
  have tp:=bE p (by simp);have tq:=wh q (by simp);obtain⟨st,bo⟩:=Cc (hl p (by simp));simp only[cg,il]at es;rw[xY]
  by_cases hk:eD (bd p)=true
  .rw[if_pos hk]at tp
   by_cases hq:eD q=true
   .rw[if_pos hq]at tq
    by_cases hz:vD q=0
    .rw[if_neg (λz=>z.2.2 hz)]
     rw[hz]at tq;exact Ut es st bo tp tq
    .rw[if_pos ⟨hk,hq,hz⟩]
     exact K2 es st bo tp tq hz (by rw[wX];exact fq (sN p) (vD q) (qL hk) (yG (xC hq)).1 hz) (λ_ z=>by cases z)
   .rw[if_neg hq]at tq
    rw[if_neg (λz=>hq z.2.1)];exact Fu es st bo tp tq
  .rw[if_neg hk]at tp
   rw[if_neg (λz=>hk z.1)];exact Eu es st bo tp
 |p::q::r::t,_,hl,es,bE,wh=>
  exact Ny es (by simp)
theorem uS(S:aQ){L:List Nat}(ha:∀c∈L,c<128)(hl:L.length<=10000):kZ [.pv (.str (tx L))] S=.ok (.pv (.bl (eD L))) S:=by
 have z:(tx L).length<=16777216:=by rw[dL];omega
 have ec:=Pj S L ha;have eb:=Dl (L.map fA);have ll:((tx L).length:Int)=(L.length:Int):=by rw[dL]
 have a8:=No ha;have hb:zQ=(aS (bP (fD (aZ (aE gK (mR fY (aC (aA 0) aF)) (mC (.int 1)))) (aZ (aE gF (mR fY (aC (aA 0) aF)) (mC (.int 60))))) (bH (mC (.bl false))) bQ) (bH (mR gA (aC (bO ["_law_sign"] [] (mL (aA 0)) (gN 0) (aE kP (aA 0) (mC (.str "0123456789")))) aF)))):=rfl;have al:(L.map fA).all id=L.all fA:=by simp[List.all_map]
 rw[al]at eb;unfold eD;generalize tx L=T,L.length=N,L.all fA=B,(L.map fA).map PV.bl=BL,(aE kP (aA 0) (mC (.str "0123456789")))=ME1 at *;unfold kZ bA;rw[hb]
 by_cases h1:(N:Int)<1
 .have h1':¬1<=N:=by omega
  simp! [aG,aR,aU,aI,aN,aM,aK,aL,aH,aJ,fY,z,ll,h1,h1']
 .have h1':1<=N:=by omega
  by_cases h2:60<(N:Int)
  .have h2':¬N<=60:=by omega
   simp! [aG,aR,aU,aI,aN,aM,aK,aL,aH,aJ,fY,z,ll,h1,h2,h1',h2']
  .have h2':N<=60:=by omega
   simp! [aG,aR,aU,aI,aN,aM,aK,aL,aH,aJ,fY,z,ll,h1,h2,h1',h2',bO,cC,mL,tK,a8,ec,eb]
def nV(r:Option (Int×Int)):AV:=match r with
 |some (t,b)=>.pv (.tup ((fr t b).map .int))
 |none=>.pv .non
theorem Q9{S:aQ}{T0 T1 HT:Str}{b y1:Bool}{n1:Int}{FV:PV}(h1:gD (.str T0) none (some 1)=some (.str HT))(hq:(HT==("-":Str))=b)(hb:mS b T0 T1)(hf:jY T1 [.str "/"]=some (.int (-1)))(g1:kZ [.pv (.str T1)] S=.ok (.pv (.bl y1)) S)(g2:kZ [.pv (.str "1")] S=.ok (.pv (.bl true)) S)(i1:y1=true->iY [.str T1]=some (.int n1))(i2:iY [.str "1"]=some (.int 1))(fq:y1=true->mD [.pv (.int (if b=true then-n1 else n1)),.pv (.int 1)] S=.ok (.pv FV) S):
  iS [.pv (.str T0)] S=.ok (if y1=true then .pv FV else .pv .non) S:=by
 unfold iS bA uK;have m1:bF (.int (-1)) (.int n1)=some (.int (-n1)):=by rw[iU (.inl (.inl ⟨by decide,by decide⟩)),AE]
 have m2:bF (.int 1) (.int n1)=some (.int n1):=by rw[iU (.inl (.inl ⟨by decide,by decide⟩)),ja]
 cases y1 with
 |true=>
  have i1:=i1 rfl;have fq:=fq rfl;rcases hb with⟨rfl,hb⟩|⟨rfl,rfl⟩
  .simp only[if_true]at fq
   simp! [aG,aR,aU,aI,aN,aM,aK,aL,aH,aJ,cR,bV,bW,cV,h1,hq,hb,bS,bY,hf,g1,g2,i1,i2,m1,fq]
  .simp only[ox,if_false]at fq
   simp! [aG,aR,aU,aI,aN,aM,aK,aL,aH,aJ,cR,bV,bW,cV,h1,hq,bS,bY,hf,g1,g2,i1,i2,m2,fq]
 |false=>
  rcases hb with⟨rfl,hb⟩|⟨rfl,rfl⟩
  .simp! [aG,aR,aU,aI,aN,aM,aK,aL,aH,aJ,cR,bV,bW,cV,h1,hq,hb,bS,bY,hf,g1]
  .simp! [aG,aR,aU,aI,aN,aM,aK,aL,aH,aJ,cR,bV,bW,cV,h1,hq,bS,bY,hf,g1]
theorem P0{S:aQ}{T0 T1 T2 T3 HT:Str}{b y1 y2:Bool}{n1 n2:Int}{n:Nat}{FV:PV}(h1:gD (.str T0) none (some 1)=some (.str HT))(hq:(HT==("-":Str))=b)(hb:mS b T0 T1)(hf:jY T1 [.str "/"]=some (.int n))(s2:gD (.str T1) (some ((n:Int)+1)) none=some (.str T2))(s3:gD (.str T1) none (some (n:Int))=some (.str T3))(g1:kZ [.pv (.str T3)] S=.ok (.pv (.bl y1)) S)(g2:kZ [.pv (.str T2)] S=.ok (.pv (.bl y2)) S)(i1:y1=true->iY [.str T3]=some (.int n1))(i2:y2=true->iY [.str T2]=some (.int n2))(fq:y1=true->y2=true->n2≠0->mD [.pv (.int (if b=true then-n1 else n1)),.pv (.int n2)] S=.ok (.pv FV) S):
  iS [.pv (.str T0)] S=.ok (if y1=true/\y2=true/\n2≠0 then .pv FV else .pv .non) S:=by
 unfold iS bA uK;have m1:bF (.int (-1)) (.int n1)=some (.int (-n1)):=by rw[iU (.inl (.inl ⟨by decide,by decide⟩)),AE]
 have m2:bF (.int 1) (.int n1)=some (.int n1):=by rw[iU (.inl (.inl ⟨by decide,by decide⟩)),ja]
 have n0:(0:Int)<=(n:Int):=by omega
 generalize (n:Int)=N at *;cases y1 with
 |false=>
  rcases hb with⟨rfl,hb⟩|⟨rfl,rfl⟩
  .simp! [aG,aR,aU,aI,aN,aM,aK,aL,aH,aJ,cR,bV,bW,cV,h1,hq,hb,bS,bY,hf,n0,s2,s3,g1]
  .simp! [aG,aR,aU,aI,aN,aM,aK,aL,aH,aJ,cR,bV,bW,cV,h1,hq,bS,bY,hf,n0,s2,s3,g1]
 |true=>
  have i1:=i1 rfl;have fq:=fq rfl;cases y2 with
  |false=>
   rcases hb with⟨rfl,hb⟩|⟨rfl,rfl⟩
   .simp! [aG,aR,aU,aI,aN,aM,aK,aL,aH,aJ,cR,bV,bW,cV,h1,hq,hb,bS,bY,hf,n0,s2,s3,g1,g2]
   .simp! [aG,aR,aU,aI,aN,aM,aK,aL,aH,aJ,cR,bV,bW,cV,h1,hq,bS,bY,hf,n0,s2,s3,g1,g2]
  |true=>
   have i2:=i2 rfl;have fq:=fq rfl
   by_cases hz:n2=0
   .subst hz
    rcases hb with⟨rfl,hb⟩|⟨rfl,rfl⟩
    .simp! [aG,aR,aU,aI,aN,aM,aK,aL,aH,aJ,cR,bV,bW,cV,h1,hq,hb,bS,bY,hf,n0,s2,s3,g1,g2,i2]
    .simp! [aG,aR,aU,aI,aN,aM,aK,aL,aH,aJ,cR,bV,bW,cV,h1,hq,bS,bY,hf,n0,s2,s3,g1,g2,i2]
   .have fq:=fq hz
    rcases hb with⟨rfl,hb⟩|⟨rfl,rfl⟩
    .simp only[if_true]at fq
     simp! [aG,aR,aU,aI,aN,aM,aK,aL,aH,aJ,cR,bV,bW,cV,h1,hq,hb,bS,bY,hf,n0,s2,s3,g1,g2,i1,i2,hz,m1,fq]
    .simp only[ox,if_false]at fq
     simp! [aG,aR,aU,aI,aN,aM,aK,aL,aH,aJ,cR,bV,bW,cV,h1,hq,bS,bY,hf,n0,s2,s3,g1,g2,i1,i2,hz,m2,fq]
theorem zO{p:List Nat}{r:List (List Nat)}:(dD 47 (p::r)).head?=some 45↔p.head?=some 45:=by
 cases r with
 |nil=>exact Iff.rfl
 |cons q r=>
  show(p++47::dD 47 (q::r)).head?=some 45↔_;cases p with
  |nil=>simp
  |cons a p=>simp
theorem Mz(p:List Nat)(r:List (List Nat)):bd (dD 47 (p::r))=dD 47 (bd p::r):=by
 unfold bd
 by_cases h:p.head?=some 45
 .rw[if_pos h,if_pos (zO.mpr h)]
  cases p with
  |nil=>cases h
  |cons a p=>
   cases r with
   |nil=>rfl
   |cons q r=>rfl
 .rw[if_neg h,if_neg (λz=>h (zO.mp z))]
theorem sO{L:List Nat}{i:Int}{j:Nat}(hi:i=(j:Int))(h:L.length<=10000):gD (.str (tx L)) (some i) none=some (.str (tx (L.drop j))):=by
 show(if(tx L).length<=16777216 then some (PV.str (iu (tx L) (some i) none))else none)=_;rw[if_pos (by rw[dL];omega),hi,Mm]
theorem wL{L:List Nat}{j:Nat}(hj:j<=L.length)(h:L.length<=10000):gD (.str (tx L)) none (some (j:Int))=some (.str (tx (L.take j))):=by
 show(if(tx L).length<=16777216 then some (PV.str (iu (tx L) none (some (j:Int))))else none)=_;rw[if_pos (by rw[dL];omega),Dq L j hj]
theorem aaO{L:List Nat}(h:L.length<=10000):∃HT,gD (.str (tx L)) none (some 1)=some (.str HT)/\(HT==("-":Str))=decide (L.head?=some 45):=by
 refine⟨tx (L.take 1),?_,?_⟩
 .show(if(tx L).length<=16777216 then some (PV.str (iu (tx L) none (some 1)))else none)=_
  rw[if_pos (by rw[dL];omega),S6]
 .rw[Rb,aaB]
  cases L with
  |nil=>rfl
  |cons a L=>simp
theorem Jw{q r:List Nat}:eD (q++47::r)=false:=by
 unfold eD;have:(q++47::r).all fA=false:=by
  rw[List.all_append,sf];have:fA 47=false:=by decide
  rw[this];simp
 rw[this,yf]
theorem F2(S:aQ):kZ [.pv (.str "1")] S=.ok (.pv (.bl true)) S/\iY [.str "1"]=some (.int 1):=by
 have a:=uS S (L:=[49]) (by decide) (by decide);have b:=sU (L:=[49]) (by decide);rw[<-aaR]at a b;exact⟨a,b⟩
theorem pV{c:Nat}:∀{P:List (List Nat)}{p:List Nat},p∈P->∀d∈p,d∈dD c P
 |[q],p,h,d,hd=>by
  have:p=q:=by simpa using h
  rw[<-this];exact hd
 |q::q'::r,p,h,d,hd=>by
  show d∈q++c::dD c (q'::r);rcases ce.mp h with rfl |h
  .exact jt _ hd
  .exact ck _ (bf _ (pV h d hd))
theorem sE{c:Nat}:∀{P:List (List Nat)}{p:List Nat},p∈P->p.length<=(dD c P).length
 |[q],p,h=>by
  have:p=q:=by simpa using h
  rw[this];exact am _
 |q::q'::r,p,h=>by
  show _<=(q++c::dD c (q'::r)).length;rw[bq,br];rcases ce.mp h with rfl |h
  .omega
  .have:=sE (c:=c) h
   omega
theorem A5(S:aQ){L:List Nat}{P:List (List Nat)}(hi:dD 47 P=L)(hp:P≠[])(hf:∀p∈P,47∉p)(ha:∀c∈L,c<128)(hL:L.length<=10000):iS [.pv (.str (tx L))] S=.ok (nV (rL P)) S:=by
 obtain⟨HT,h1,hq⟩:=aaO hL;obtain⟨_,bo⟩:=Cc hL;obtain⟨g1,i1⟩:=F2 S;have fq:∀t b:Int,Bd 200 t->Bd 200 b->mD [.pv (.int t),.pv (.int b)] S=.ok (.pv (.tup ((fr t b).map .int))) S:=λt b ht hb=>Om t b S (ht.mono (by decide)) (hb.mono (by decide));have fl:∀{A:List Nat},47∉A->jY (tx A) [.str "/"]=some (.int (-1)):=λ{A} h=>by
  rw[vY];show some (PV.int (kd (tx A) (tx [47])))=_;rw[J2 h]
 have ft:∀{A B:List Nat},47∉A->jY (tx (A++47::B)) [.str "/"]=some (.int (A.length:Nat)):=λ{A B} h=>by
  rw[vY];show some (PV.int (kd (tx (A++47::B)) (tx [47])))=_;rw[L9 h]
 have aP:∀p∈P,∀c∈p,c<128:=λp h c hc=>ha c (by rw[<-hi];exact pV h c hc);have lP:∀p∈P,p.length<=10000:=λp h=>dz (by rw[<-hi];exact sE h) hL
 match P,hp,hi,hf,aP,lP with
 |[p],_,hi,hf,aP,lP=>
  have hi:p=L:=hi;subst hi;have g:=uS S (L:=bd p) (λc hc=>ha c (tF hc)) (dz (wD p) hL);have z:=Q9 (n1:=vD (bd p)) (FV:=.tup ((fr (sN p) 1).map .int)) h1 hq bo (fl λz=>hf p (by simp) (tF z)) g g1 sU i1 (λhk=>by rw[wX];exact fq (sN p) 1 (qL hk) Kc);rw[z,xZ]
  by_cases hk:eD (bd p)=true
  .rw[if_pos hk,if_pos hk]
   rfl
  .rw[if_neg hk,if_neg hk]
   rfl
 |p::q::r,_,hi,hf,aP,lP=>
  have hd:L.head?=some 45↔p.head?=some 45:=by rw[<-hi];exact zO
  have hb:bd L=bd p++47::dD 47 (q::r):=by
   rw[<-hi,Mz];rfl
  rw[hb]at bo;have dd:decide (L.head?=some 45)=decide (p.head?=some 45):=by simp[hd]
  have lb:(bd p++47::dD 47 (q::r)).length<=10000:=by rw[<-hb];exact dz (wD L) hL
  have s2:=sO (L:=bd p++47::dD 47 (q::r)) (i:=((bd p).length:Int)+1) (j:=(bd p).length+1) (by omega) lb;have s3:=wL (L:=bd p++47::dD 47 (q::r)) (j:=(bd p).length) (by simp) lb;have e2:(bd p++47::dD 47 (q::r)).drop ((bd p).length+1)=dD 47 (q::r):=by
   rw[<-List.drop_drop,List.drop_left];rfl
  rw[e2]at s2;rw[m7]at s3;have ai:∀c∈dD 47 (q::r),c<128:=λc hc=>ha c (by
   rw[<-hi];show c∈p++47::dD 47 (q::r);exact ck _ (bf _ hc))
  have li:(dD 47 (q::r)).length<=10000:=by
   rw[bq,br]at lb;omega
  have g3:=uS S (L:=bd p) (λc hc=>aP p (by simp) c (tF hc)) (dz (wD p) (lP p (by simp)));have g4:=uS S (L:=dD 47 (q::r)) ai li;have z:=P0 (n1:=vD (bd p)) (n2:=vD (dD 47 (q::r))) (FV:=.tup ((fr (sN p) (vD (dD 47 (q::r)))).map .int)) h1 hq bo (ft λz=>hf p (by simp) (tF z)) s2 s3 g3 g4 sU sU (λhk hk2 _=>by rw[dd,wX];exact fq (sN p) _ (qL hk) (yG (xC hk2)).1);rw[z];cases r with
  |nil=>
   rw[xY];show bT.ok (if eD (bd p)=true/\eD q=true/\vD q≠0 then _ else _) S=_
   by_cases hk:eD (bd p)=true/\eD q=true/\vD q≠0
   .rw[if_pos hk,if_pos hk]
    rfl
   .rw[if_neg hk,if_neg hk]
    rfl
  |cons t r=>
   have:eD (dD 47 (q::t::r))=false:=Jw;rw[if_neg (λz=>by rw[this]at z;exact absurd z.2.1 (by decide))];rfl
def dg(m:Nat):List Nat:=(ve 10 m).map Char.toNat
theorem Y2(m:Nat):(cc (toString ((m:Nat):Int)):Str)=tx (dg m):=by
 rw[<-oP (cc (toString ((m:Nat):Int))),PySem.W.KIN.signs_num];rfl
theorem aaI{m c:Nat}(h:c∈dg m):fA c=true:=by
 obtain⟨ch,hch,rfl⟩:=df.mp h;have r:=PyProof.Rows.digit_range (Nat.isDigit_of_mem_toDigits (by decide) (by decide) hch);unfold fA;simp[r.1,r.2]
theorem Uc:∀(k m:Nat),m<10^(k+1)->(dg m).length<=k+1
 |0,m,h=>by
  unfold dg;rw[zb (by omega)];simp
 |k+1,m,h=>by
  by_cases h10:m<10
  .unfold dg
   rw[zb h10];simp
  .have hm:m%10<10:=Nat.mod_lt m (by decide)
   have t:ve 10 (m/10)++ve 10 (m%10)=ve 10 (10*(m/10)+m%10):=Nat.toDigits_append_toDigits (by decide) (by omega) hm;rw[Nat.div_add_mod]at t;have ih:=Uc k (m/10) (by rw[xm]at h;omega);unfold dg at ih⊢;rw[<-t,zb hm];rw[ar]at ih⊢;rw[bq];simp;omega
theorem Y0{c:Nat}(h:fA c=true):c<128/\c≠45/\c≠47:=by
 unfold fA at h;rw[ee,decide_eq_true_eq,decide_eq_true_eq]at h;omega
theorem abN{v:Int}(h0:0<=v)(h1:v<10^61):pG [.int v]=some (.str (tx (dg v.toNat)))/\(dg v.toNat).length<=61:=by
 obtain⟨m,rfl⟩:=vf h0;have hm:m<10^61:=by exact_mod_cast h1
 have hl:((m:Int)).natAbs.log2<1920:=by
  have e:((m:Int)).natAbs=m:=by omega
  rw[e]
  by_cases hz:m=0
  .subst hz;decide
  .refine(xn hz).mpr (cj hm ?_)
   decide+kernel
 refine⟨?_,?_⟩
 .show(if((m:Int)).natAbs.log2<1920 then some (PV.str (cc (toString (m:Int))))else none)=_
  rw[if_pos hl,Y2];rfl
 .exact Uc 60 m hm
def eF(n:Nat)(T:Str):Prop:=∃L,T=tx L/\(∀c∈L,c<128)/\L.length<=n
theorem eF.mono{n k:Nat}{T:Str}(h:eF n T)(l:n<=k):eF k T:=by
 obtain⟨L,e,a,b⟩:=h;exact⟨L,e,a,by omega⟩
theorem jN{n k:Nat}{T U:Str}(h:eF n T)(g:eF k U)(hl:n+k<=10000):fP (.str T) (.str U)=some (.str (T++U))/\eF (n+k) (T++U):=by
 obtain⟨L,rfl,a,b⟩:=h;obtain⟨M,rfl,c,d⟩:=g;refine⟨?_,?_⟩
 .show(if(tx L).length+(tx M).length<=16777216 then some (PV.str (tx L++tx M))else none)=_
  rw[if_pos (by rw[dL,dL];omega)]
 .rw[sX]
  refine⟨_,rfl,λx hx=>?_,by rw[bq];omega⟩;rcases cu.mp hx with z |z
  .exact a x z
  .exact c x z
theorem aag{n:Nat}{T:Str}{j:Nat}(h:eF n T)(hj:(j:Int)<=T.length)(hn:n<=9000):∃A B C,gD (.str T) none (some (j:Int))=some (.str A)/\gD (.str T) (some (j:Int)) none=some (.str B)/\gD (.str T) (some ((j:Int)+1)) none=some (.str C)/\eF n A/\eF n B/\eF n C:=by
 obtain⟨L,rfl,a,b⟩:=h;rw[dL]at hj;refine⟨_,_,_,wL (by omega) (by omega),sO rfl (by omega),sO (j:=j+1) (by omega) (by omega),?_,?_,?_⟩
 .exact⟨_,rfl,λc hc=>a c (ul hc),by rw[om];omega⟩
 .exact⟨_,rfl,λc hc=>a c (qt hc),by rw[jm];omega⟩
 .exact⟨_,rfl,λc hc=>a c (qt hc),by rw[jm];omega⟩
theorem K1{n:Nat}{T:Str}(h:eF n T)(hn:n<=9000):fY [.str T]=some (.int (T.length:Nat))/\T.length<=n:=by
 obtain⟨L,rfl,a,b⟩:=h;rw[dL];refine⟨?_,b⟩;show(if(tx L).length<=16777216 then some (PV.int ((tx L).length:Nat))else none)=_;rw[if_pos (by rw[dL];omega),dL]
abbrev Xr:Type:=BB×Int
def Vr:BA->Int
 |[]=>0
 |n::r=>if n=0 then Vr r else sg n
def Mr(ns:BA):BA:=(low ns).map (Vr ns*·)
def yV:BA->BA->BA
 |[x0,y0,w0],[x1,y1,w1]=>[x1*w0-x0*w1,y1*w0-y0*w1]
 |[x0,y0,z0,w0],[x1,y1,z1,w1]=>[x1*w0-x0*w1,y1*w0-y0*w1,z1*w0-z0*w1]
 |_,_=>[]
theorem acz{x0 y0 w0 x1 y1 w1:Int}:yV [x0,y0,w0] [x1,y1,w1]=[x1*w0-x0*w1,y1*w0-y0*w1]:=rfl
theorem acA{x0 y0 z0 w0 x1 y1 z1 w1:Int}:yV [x0,y0,z0,w0] [x1,y1,z1,w1]=[x1*w0-x0*w1,y1*w0-y0*w1,z1*w0-z0*w1]:=rfl
def sd(pi s e:BA)(n:Int):List Xr:=[([pi,Mr (yV s e),s],n),([pi,Mr (yV s e),e],-n)]
theorem tV{R:aQ}(ns:BA){m:Int}(hm:0<m)(b:Bd 8000 m):∃(v:Int)(ns':BA),cZ [.ref 0,.pv (.int m)] (.lst (li ns)::R)=.ok (.pv (.int v)) (.lst (li ns')::R)/\0<=v/\v<m:=by
 obtain⟨v,n1,e,a,c,_⟩:=sS (S:=(.lst (li ns)::R)) (k:=0) (ns:=ns) (m:=m) rfl hm b;exact⟨v,n1,e,a,c⟩
theorem Lp{t b:Int}{k:Nat}(hb:0<b)(ht:Bd k t)(hbb:Bd k b):∃p q:Int,fr t b=[p,q]/\0<q/\Bd k p/\Bd k q/\fr p q=[p,q]:=by
 obtain⟨zs,z,e,Z,_⟩:=tG (n:=1) (L:=[t]) (b:=b) hb rfl (λx hx=>by
  have:x=t:=by simpa using hx
  rw[this];exact ht) hbb
 have el:=Z.len
 match zs,el,e,Z with
 |[p],_,e,Z=>
  have e:low [t,b]=[p,z]:=e;have f1:fr t b=low [t,b]:=if_neg (by omega);have zp:=Z.pos;have f2:fr p z=low [p,z]:=if_neg (by omega);refine⟨p,z,by rw[f1,e],Z.pos,Z.bx p (by simp),Z.bw,?_⟩;rw[f2];exact Z.low
def tN(p:Int):List Nat:=if p<0 then 45::dg p.natAbs else dg p.natAbs
def uC(p q:Int):List Nat:=if q=1 then tN p else tN p++47::dg q.natAbs
theorem Ci:eF 1 ("/":Str)/\eF 1 ("-":Str):=⟨⟨[47],vY,by decide,by decide⟩,⟨[45],Rb,by decide,by decide⟩⟩
theorem Y7:(" ,+/-0123456789nonepushturnby":Str)=tx [32,44,43,47,45,48,49,50,51,52,53,54,55,56,57,110,111,110,101,112,117,115,104,116,117,114,110,98,121]:=by kernel_rfl
theorem aar:(" !\"#$&'()*+,-./0123456789:;<=>?@ABCDEFGHIJKLMNOPQRSTUVWXYZ[\\]^_`abcdefghijklmnopqrstuvwxyz{|}~":Str)=tx [32,33,34,35,36,38,39,40,41,42,43,44,45,46,47,48,49,50,51,52,53,54,55,56,57,58,59,60,61,62,63,64,65,66,67,68,69,70,71,72,73,74,75,76,77,78,79,80,81,82,83,84,85,86,87,88,89,90,91,92,93,94,95,96,97,98,99,100,101,102,103,104,105,106,107,108,109,110,111,112,113,114,115,116,117,118,119,120,121,122,123,124,125,126]:=by kernel_rfl
theorem Cq{L:List Nat}(ha:∀c∈L,c<128)(hl:L.length<=1000){v:Int}(h0:0<=v)(h1:v<L.length):∃T,pE (.str (tx L)) (.int v)=some (.str T)/\eF 1 T:=by
 obtain⟨j,rfl⟩:=vf h0;have hj:j<L.length:=by omega
 refine⟨tx [L[j]],?_,⟨_,rfl,λc hc=>?_,by simp⟩⟩
 .show(if(tx L).length<=16777216 then(aR (tx L).cps.toList (j:Int)).map (λc=>PV.str ⟨#[c]⟩)else none)=_
  have e:(tx L).cps.toList=L:=by simp[tx]
  rw[if_pos (by rw[dL];omega),e,oO (j:=j) (bh hj)];rfl
 .have:c=L[j]:=by simpa using hc
  rw[this];exact ha _ (je _)
theorem Wn{L:List Nat}(hl:L.length<=1000):fY [.str (tx L)]=some (.int (L.length:Nat)):=by
 show(if(tx L).length<=16777216 then some (PV.int ((tx L).length:Nat))else none)=_;rw[if_pos (by rw[dL];omega),dL]
theorem Lv{R:aQ}(ns:BA):∃(T:Str)(ns':BA),uU [.ref 0] (.lst (li ns)::R)=.ok (.pv (.str T)) (.lst (li ns')::R)/\eF 1 T:=by
 obtain⟨a,n1,e1,a0,a1⟩:=tV (R:=R) ns (m:=2) (by decide) (oA (by decide) (by decide));have l1:=Wn (L:=[32,44,43,47,45,48,49,50,51,52,53,54,55,56,57,110,111,110,101,112,117,115,104,116,117,114,110,98,121]) (by decide);have l2:=Wn (L:=[32,33,34,35,36,38,39,40,41,42,43,44,45,46,47,48,49,50,51,52,53,54,55,56,57,58,59,60,61,62,63,64,65,66,67,68,69,70,71,72,73,74,75,76,77,78,79,80,81,82,83,84,85,86,87,88,89,90,91,92,93,94,95,96,97,98,99,100,101,102,103,104,105,106,107,108,109,110,111,112,113,114,115,116,117,118,119,120,121,122,123,124,125,126]) (by decide);obtain⟨v,n2,e2,v0,v1⟩:=tV (R:=R) n1 (m:=(([32,44,43,47,45,48,49,50,51,52,53,54,55,56,57,110,111,110,101,112,117,115,104,116,117,114,110,98,121].length:Nat):Int)) (by decide) (oA (by decide) (by decide));obtain⟨u,n3,e3,u0,u1⟩:=tV (R:=R) n1 (m:=(([32,33,34,35,36,38,39,40,41,42,43,44,45,46,47,48,49,50,51,52,53,54,55,56,57,58,59,60,61,62,63,64,65,66,67,68,69,70,71,72,73,74,75,76,77,78,79,80,81,82,83,84,85,86,87,88,89,90,91,92,93,94,95,96,97,98,99,100,101,102,103,104,105,106,107,108,109,110,111,112,113,114,115,116,117,118,119,120,121,122,123,124,125,126].length:Nat):Int)) (by decide) (oA (by decide) (by decide));obtain⟨T,t1,A1⟩:=Cq (L:=[32,44,43,47,45,48,49,50,51,52,53,54,55,56,57,110,111,110,101,112,117,115,104,116,117,114,110,98,121]) (by decide) (by decide) v0 v1;obtain⟨U,t2,A2⟩:=Cq (L:=[32,33,34,35,36,38,39,40,41,42,43,44,45,46,47,48,49,50,51,52,53,54,55,56,57,58,59,60,61,62,63,64,65,66,67,68,69,70,71,72,73,74,75,76,77,78,79,80,81,82,83,84,85,86,87,88,89,90,91,92,93,94,95,96,97,98,99,100,101,102,103,104,105,106,107,108,109,110,111,112,113,114,115,116,117,118,119,120,121,122,123,124,125,126]) (by decide) (by decide) u0 u1;rw[<-Y7]at l1 t1;rw[<-aar]at l2 t2;generalize (([32,33,34,35,36,38,39,40,41,42,43,44,45,46,47,48,49,50,51,52,53,54,55,56,57,58,59,60,61,62,63,64,65,66,67,68,69,70,71,72,73,74,75,76,77,78,79,80,81,82,83,84,85,86,87,88,89,90,91,92,93,94,95,96,97,98,99,100,101,102,103,104,105,106,107,108,109,110,111,112,113,114,115,116,117,118,119,120,121,122,123,124,125,126].length:Nat):Int)=N2,(([32,44,43,47,45,48,49,50,51,52,53,54,55,56,57,110,111,110,101,112,117,115,104,116,117,114,110,98,121].length:Nat):Int)=N1 at *;unfold uU bA zP;generalize (" !\"#$&'()*+,-./0123456789:;<=>?@ABCDEFGHIJKLMNOPQRSTUVWXYZ[\\]^_`abcdefghijklmnopqrstuvwxyz{|}~":Str)=TM,(" ,+/-0123456789nonepushturnby":Str)=TS at *;have ha:(a==0)=true\/(a==0)=false:=by cases(a==0)<;>simp
 rcases ha with ha |ha
 .exact⟨T,n2,by simp! [aG,aR,aU,aI,aN,aM,aK,aL,aH,aJ,e1,ha,l1,e2,t1],A1⟩
 .exact⟨U,n3,by simp! [aG,aR,aU,aI,aN,aM,aK,aL,aH,aJ,e1,ha,l2,e3,t2],A2⟩
theorem Ca{g:GM}{me:ME}{ρ:cA}{S:aQ}:eX [] g me [] ρ S=.ok [] S:=by
 unfold eX;rw[if_pos (jO S)]
theorem uT{g:GM}{me:ME}{x:PV}{r:BH}{ρ:cA}{S:aQ}:eX [] g me (x::r) ρ S=(match g x ρ with
  |none=>.fail
  |some ρ1=>match me ρ1 S with
   |.ok (.pv y) S1=>match eX [] g me r ρ1 S1 with
    |.ok ys S2=>.ok (y::ys) S2
    |.exc n S2=>.exc n S2
    |.fail=>.fail
   |.ok (.ref _) _=>.fail
   |.exc n S1=>.exc n S1
   |.fail=>.fail):=by
 conv=>lhs;unfold eX
 rw[if_pos (jO S)]
 all_goals (rcases g x ρ with _ |ρ1<;>dsimp only<;>first |rfl |(rcases me ρ1 S with⟨a,S1⟩|⟨n,S1⟩|_<;>first |rfl |(cases a<;>rfl)))
theorem sD{S:aQ}{me:ME}{tail:cA}{α:Type}(A B:α->PV):∀(L:List α)(x:BJ),(∀v∈L,me (some (.pv (A v))::tail) S=.ok (.pv (B v)) S)->eX [] (gN 0) me (L.map A) (x::tail) S=.ok (L.map B) S
 |[],x,_=>Ca
 |v::L,x,h=>by
  have e:=h v ay;have e':=sD A B L (some (.pv (A v))) λu hu=>h u (bf _ hu);rw[cg,uT];simp[gN,e,e']
theorem vU:(" ":Str)=tx [32]:=by kernel_rfl
def pT(w x:Int):Int:=(fr x w).getD 0 0
def pB(w x:Int):Int:=(fr x w).getD 1 0
theorem Yp{k:Nat}{w x:Int}(hw:0<w)(bw:Bd k w)(bx:Bd k x):fr x w=[pT w x,pB w x]/\0<pB w x/\Bd k (pT w x)/\Bd k (pB w x)/\fr (pT w x) (pB w x)=[pT w x,pB w x]:=by
 obtain⟨p,q,e,a,b,c,d⟩:=Lp hw bx bw;have e1:pT w x=p:=by unfold pT;rw[e];rfl
 have e2:pB w x=q:=by unfold pB;rw[e];rfl
 rw[e1,e2];exact⟨e,a,b,c,d⟩
theorem uR{S:aQ}{me:ME}{tail:cA}{α:Type}(A B:α->PV)(bad:α->Prop)(n:Str):∀(L:List α)(x:BJ),(∀v∈L,(bad v->me (some (.pv (A v))::tail) S=.exc n S)/\(¬bad v->me (some (.pv (A v))::tail) S=.ok (.pv (B v)) S))->(∃v∈L,bad v)->eX [] (gN 0) me (L.map A) (x::tail) S=.exc n S
 |[],x,_,h=>by obtain⟨v,hv,_⟩:=h;cases hv
 |v::L,x,h,hb=>by
  obtain⟨a,b⟩:=h v ay;rw[cg,uT]
  by_cases hv:bad v
  .simp[gN,a hv]
  .have:∃u∈L,bad u:=by
    obtain⟨u,hu,z⟩:=hb;rcases ce.mp hu with rfl |hu
    .exact absurd z hv
    .exact⟨u,hu,z⟩
   have e':=uR A B bad n L (some (.pv (A v))) (λu hu=>h u (bf _ hu)) this;simp[gN,b hv,e']
theorem Aa:∀Ls:List (List Nat),lE (Ls.map λl=>PV.str (tx l))=some (Ls.map tx)
 |[]=>rfl
 |l::Ls=>by
  show(match lE (Ls.map λl=>PV.str (tx l))with |some xs=>some (tx l::xs) |none=>none)=_
  rw[Aa Ls];rfl
theorem Vm{c:Nat}{Ls:List (List Nat)}{B:Nat}(hB:∀l∈Ls,l.length<=B)(hn:Ls.length<=200)(hb:B<=20000):lF (tx [c]) [.lst (Ls.map λl=>.str (tx l))]=some (.str (tx (dD c Ls))):=by
 have ok:ke (tx [c]) (Ls.map tx)=true:=by
  unfold ke;rw[AF (B:=B) (λy hy=>by
   obtain⟨l,hl,rfl⟩:=df.mp hy;rw[dL];exact hB l hl) (by
   rw[ar,dL];have:Ls.length*B<=200*20000:=uo hn hb;show Ls.length*B+Ls.length*1<=16777216;omega)]
  rfl
 show(match lE (Ls.map λl=>PV.str (tx l))with |some ts=>if ke (tx [c]) ts=true then some (PV.str (nv (tx [c]) ts))else none |none=>none)=_
 rw[Aa];dsimp only;rw[if_pos ok];have:nv (tx [c]) (Ls.map tx)=tx (dD c Ls):=by
  show AG (tx [c]) (Ls.map tx)=_;rw[AH,Zb]
 rw[this]
theorem lG{a b:Int}(hb:0<b)(bb:Bd 1000 b):eO (.int (a*b)) (.int b)=some (.int a):=by
 rw[sL (i:=a*b) (j:=b) ⟨by omega,bb.mono (by decide)⟩,xw _ (by omega),Int.mul_ediv_cancel _ (by omega)]
structure Fz(u:Int×Int):Prop where
 pos:0<u.2
 b1:Bd 300 u.1
 b2:Bd 300 u.2
abbrev fz(u:Int×Int):PV:=.tup [.int u.1,.int u.2]
def cT:List (Int×Int)->BA
 |[u,v]=>[u.1*v.2,v.1*u.2]
 |[u,v,t]=>[u.1*(v.2*t.2),v.1*(u.2*t.2),t.1*(u.2*v.2)]
 |_=>[]
def cB:List (Int×Int)->Int
 |[u,v]=>u.2*v.2
 |[u,v,t]=>u.2*v.2*t.2
 |_=>1
theorem b3{k l:Nat}{a b:Int}(h:Bd k a)(g:Bd l b)(hs:k+l<=1000):Bd 1000 (a*b):=(h.mul g).mono hs
theorem Jd{ab:List (Int×Int)}(hl:ab.length=2\/ab.length=3)(h:∀u∈ab,Fz u):0<cB ab/\Bd 1000 (cB ab)/\(cT ab).length=ab.length/\∀x∈cT ab,Bd 1000 x:=by
 match ab,hl,h with
 |[u,v],_,h=>
  have hu:=h u (by simp);have hv:=h v (by simp);refine⟨kz hu.pos hv.pos,b3 hu.b2 hv.b2 (by decide),rfl,λx hx=>?_⟩;have:x=u.1*v.2\/x=v.1*u.2:=by simpa[cT]using hx
  rcases this with rfl |rfl
  .exact b3 hu.b1 hv.b2 (by decide)
  .exact b3 hv.b1 hu.b2 (by decide)
 |[u,v,t],_,h=>
  have hu:=h u (by simp);have hv:=h v (by simp);have ht:=h t (by simp);refine⟨kz (kz hu.pos hv.pos) ht.pos,b3 (hu.b2.mul hv.b2) ht.b2 (by decide),rfl,λx hx=>?_⟩;have:x=u.1*(v.2*t.2)\/x=v.1*(u.2*t.2)\/x=t.1*(u.2*v.2):=by simpa[cT]using hx
  rcases this with rfl |rfl |rfl
  .exact b3 hu.b1 (hv.b2.mul ht.b2) (by decide)
  .exact b3 hv.b1 (hu.b2.mul ht.b2) (by decide)
  .exact b3 ht.b1 (hu.b2.mul hv.b2) (by decide)
theorem Qu(S:aQ){ab:List (Int×Int)}(hl:ab.length=2\/ab.length=3)(h:∀u∈ab,Fz u):mY [.pv (.lst (ab.map fz))] S=.ok (.pv (tv (low (cT ab++[cB ab])))) S:=by
 obtain⟨p0,pb,pl,px⟩:=Jd hl h;have ep:=D8 (w:=.lst ((cT ab).map .int)) (cT ab) (cB ab) S (.inl rfl) (λx hx=>(px x hx).mono (by decide)) (pb.mono (by decide)) (by omega) (by omega);rw[S8 p0]at ep
 match ab,hl,h,ep with
 |[u,v],_,h,ep=>
  have hu:=h u (by simp);have hv:=h v (by simp);obtain⟨a,b⟩:=u;obtain⟨c,d⟩:=v;have m1:bF (.int 1) (.int b)=some (.int b):=by rw[iU (.inl (.inl ⟨by decide,by decide⟩)),ja]
  have m2:bF (.int b) (.int d)=some (.int (b*d)):=dS hu.b2 hv.b2;have q1:eO (.int (b*d)) (.int b)=some (.int d):=by rw[qj];exact lG hu.pos (hu.b2.mono (by decide))
  have q2:eO (.int (b*d)) (.int d)=some (.int b):=lG hv.pos (hv.b2.mono (by decide));have m3:bF (.int a) (.int d)=some (.int (a*d)):=dS hu.b1 hv.b2;have m4:bF (.int c) (.int b)=some (.int (c*b)):=dS hv.b1 hu.b2;have ep:oN [.pv (.lst [.int (a*d),.int (c*b)]),.pv (.int (b*d))] S=.ok (.pv (tv (low ([a*d,c*b]++[b*d])))) S:=ep;show mY [.pv (.lst [.tup [.int a,.int b],.tup [.int c,.int d]])] S=.ok (.pv (tv (low ([a*d,c*b]++[b*d])))) S;generalize tv (low ([a*d,c*b]++[b*d]))=R at *;unfold mY bA uW;simp! [aG,aR,aU,aI,aN,aM,aK,aL,aH,aJ,dB,bN,cE,gG,hV,eV,eN,gN,m1,m2,bO,cC,q1,q2,m3,m4,ep]
 |[u,v,t],_,h,ep=>
  have hu:=h u (by simp);have hv:=h v (by simp);have ht:=h t (by simp);obtain⟨a,b⟩:=u;obtain⟨c,d⟩:=v;obtain⟨e,f⟩:=t;have m1:bF (.int 1) (.int b)=some (.int b):=by rw[iU (.inl (.inl ⟨by decide,by decide⟩)),ja]
  have m2:bF (.int b) (.int d)=some (.int (b*d)):=dS hu.b2 hv.b2;have m2':bF (.int (b*d)) (.int f)=some (.int (b*d*f)):=dS (hu.b2.mul hv.b2) ht.b2;have q1:eO (.int (b*d*f)) (.int b)=some (.int (d*f)):=by
   rw[show b*d*f=d*f*b by grind];exact lG hu.pos (hu.b2.mono (by decide))
  have q2:eO (.int (b*d*f)) (.int d)=some (.int (b*f)):=by
   rw[show b*d*f=b*f*d by grind];exact lG hv.pos (hv.b2.mono (by decide))
  have q3:eO (.int (b*d*f)) (.int f)=some (.int (b*d)):=lG ht.pos (ht.b2.mono (by decide));have m3:bF (.int a) (.int (d*f))=some (.int (a*(d*f))):=dS hu.b1 (hv.b2.mul ht.b2);have m4:bF (.int c) (.int (b*f))=some (.int (c*(b*f))):=dS hv.b1 (hu.b2.mul ht.b2);have m5:bF (.int e) (.int (b*d))=some (.int (e*(b*d))):=dS ht.b1 (hu.b2.mul hv.b2);have ep:oN [.pv (.lst [.int (a*(d*f)),.int (c*(b*f)),.int (e*(b*d))]),.pv (.int (b*d*f))] S=.ok (.pv (tv (low ([a*(d*f),c*(b*f),e*(b*d)]++[b*d*f])))) S:=ep;show mY [.pv (.lst [.tup [.int a,.int b],.tup [.int c,.int d],.tup [.int e,.int f]])] S=.ok (.pv (tv (low ([a*(d*f),c*(b*f),e*(b*d)]++[b*d*f])))) S;generalize tv (low ([a*(d*f),c*(b*f),e*(b*d)]++[b*d*f]))=R at *;unfold mY bA uW;simp! [aG,aR,aU,aI,aN,aM,aK,aL,aH,aJ,dB,bN,cE,gG,hV,eV,eN,gN,m1,m2,m2',bO,cC,q1,q2,q3,m3,m4,m5,ep]
theorem zN{L:List Nat}{Ps:List (List Nat)}(hs:da (tx L) (tx [32])=Ps.map tx)(hL:L.length<=9000):fL (tx L) [.str " "]=some (.lst (Ps.map λp=>.str (tx p))):=by
 rw[vU];show(if(tx [32]).length≠0/\(tx L).length+2<=16777216 then some (PV.lst ((da (tx L) (tx [32])).map .str))else none)=_;rw[if_pos ⟨by rw[dL];decide,by rw[dL];omega⟩,hs,di];rfl
def rr(p:List Nat):Option (Int×Int):=rL ((da (tx p) (tx [47])).map λx=>x.cps.toList)
theorem Qd(S:aQ){p:List Nat}(ha:∀c∈p,c<128)(hl:p.length<=9000):eM [.pv (.str (tx p))] S=Ae (rr p) S/\iS [.pv (.str (tx p))] S=.ok (nV (rr p)) S:=by
 obtain⟨P,es,hf,hi,hp⟩:=tD p 47;have e:rr p=rL P:=by
  unfold rr;rw[es,di];have:((λx:Str=>x.cps.toList)∘tx)=id:=by
   funext l
   simp[tx]
  rw[this,jb]
 rw[e];exact⟨Ax S es hp (λq h c hc=>ha c (by rw[<-hi];exact pV h c hc)) (λq h=>by have z:=sE (c:=47) h;rw[hi]at z;omega) (by omega),A5 S hi hp hf ha (by omega)⟩
def rF(p:List Nat):Int×Int:=match rr p with
 |some (t,b)=>(pT b t,pB b t)
 |none=>(0,1)
theorem U7{p:List Nat}{t b:Int}(h:rr p=some (t,b)):0<b/\Bd 200 t/\Bd 200 b:=by
 unfold rr at h;generalize ((da (tx p) (tx [47])).map λx=>x.cps.toList)=P at h
 match P,h with
 |[q],h=>
  rw[xZ]at h;split at h
  .rename_i hk
   cases h;exact⟨by decide,qL hk,Kc⟩
  .cases h
 |[q,r],h=>
  rw[xY]at h;split at h
  .rename_i hk
   cases h;have v:=xC hk.2.1;exact⟨by have:=hk.2.2;omega,qL hk.1,(yG v).1⟩
  .cases h
theorem tL{p:List Nat}(h:rr p≠none):Fz (rF p)/\(∀S,Ae (rr p) S=.ok (.pv (fz (rF p))) S)/\nV (rr p)=.pv (fz (rF p)):=by
 cases e:rr p with
 |none=>exact absurd e h
 |some u=>
  obtain⟨t,b⟩:=u;obtain⟨h0,ht,hb⟩:=U7 e;obtain⟨f,q0,b1,b2,_⟩:=Yp h0 hb ht;have er:rF p=(pT b t,pB b t):=by unfold rF;rw[e]
  rw[er];refine⟨⟨q0,b1.mono (by decide),b2.mono (by decide)⟩,λS=>?_,?_⟩
  .show bT.ok (AV.pv (.tup ((fr t b).map .int))) S=_
   rw[f];rfl
  .show AV.pv (.tup ((fr t b).map .int))=_
   rw[f];rfl
theorem Av(S:aQ){L:List Nat}{Ps:List (List Nat)}{ab:List Nat->Int×Int}(hs:da (tx L) (tx [32])=Ps.map tx)(hL:L.length<=9000)(hl:Ps.length=2\/Ps.length=3)(hr:∀p∈Ps,Fz (ab p)/\eM [.pv (.str (tx p))] S=.ok (.pv (fz (ab p))) S):gM [.pv (.str (tx L))] S=.ok (.pv (tv (low (cT (Ps.map ab)++[cB (Ps.map ab)])))) S:=by
 have es:=zN hs hL;have rf:=gU S;have ec:=sD (S:=S) (me:=cL eM [] (aC (aA 0) aF)) (tail:=[]) (λp=>.str (tx p)) (λp=>fz (ab p)) Ps none λp hp=>by
  have e:=(hr p hp).2;generalize tx p=T,fz (ab p)=F at *;simp! [aG,aR,aU,aI,aN,aM,aK,aL,aH,aJ,e]
 have ep:=Qu S (ab:=Ps.map ab) (by rw[ar];exact hl) λu hu=>by
  obtain⟨p,hp,rfl⟩:=df.mp hu;exact(hr p hp).1
 rw[di]at ep;have ep:mY [.pv (.lst (Ps.map λp=>fz (ab p)))] S=.ok (.pv (tv (low (cT (Ps.map ab)++[cB (Ps.map ab)])))) S:=ep;have ln:((Ps.map λp=>fz (ab p)).length:Int)=(Ps.length:Int):=by rw[ar]
 unfold gM bA;unfold uJ;generalize tx L=TL,(Ps.map λp=>fz (ab p))=FL,(Ps.map λp=>PV.str (tx p))=SL,tv (low (cT (Ps.map ab)++[cB (Ps.map ab)]))=R,(cL eM [] (aC (aA 0) aF))=ME1 at *;rcases hl with h |h
 .rw[h]at ln
  simp! [aG,aR,aU,aI,aN,aM,aK,aL,aH,aJ,fR,cC,bN,bS,bY,es,cE,ec,ln,rf,ep]
 .rw[h]at ln
  simp! [aG,aR,aU,aI,aN,aM,aK,aL,aH,aJ,fR,cC,bN,bS,bY,es,cE,ec,ln,rf,ep]
theorem Rh(S:aQ){L:List Nat}{Ps:List (List Nat)}(hs:da (tx L) (tx [32])=Ps.map tx)(hL:L.length<=9000)(ha:∀p∈Ps,(∀c∈p,c<128)/\p.length<=9000)(h:(∃p∈Ps,rr p=none)\/¬(Ps.length=2\/Ps.length=3)):gM [.pv (.str (tx L))] S=.exc "NoText" S:=by
 have es:=zN hs hL;have rf:=gU S;have step:∀p∈Ps,(rr p=none->(cL eM [] (aC (aA 0) aF)) (some (.pv (.str (tx p)))::[]) S=.exc "NoText" S)/\(¬rr p=none->(cL eM [] (aC (aA 0) aF)) (some (.pv (.str (tx p)))::[]) S=.ok (.pv (fz (rF p))) S):=λp hp=>by
  have e:=(Qd S (ha p hp).1 (ha p hp).2).1;refine⟨λz=>?_,λz=>?_⟩
  .rw[z]at e
   have e:eM [.pv (.str (tx p))] S=.exc "NoText" S:=e;simp! [aG,aR,aU,aI,aN,aM,aK,aL,aH,aJ,e]
  .rw[(tL z).2.1 S]at e
   generalize tx p=T,fz (rF p)=F at *;simp! [aG,aR,aU,aI,aN,aM,aK,aL,aH,aJ,e]
 unfold gM bA;unfold uJ
 by_cases hx:∃p∈Ps,rr p=none
 .have ec:=uR (S:=S) (tail:=[]) (λp=>PV.str (tx p)) (λp=>fz (rF p)) (λp=>rr p=none) "NoText" Ps none step hx
  generalize tx L=TL,(Ps.map λp=>PV.str (tx p))=SL,(cL eM [] (aC (aA 0) aF))=ME1 at *;simp! [aG,aR,aU,aI,aN,aM,aK,aL,aH,aJ,fR,cC,bN,bS,bY,es,cE,ec]
 .have hl:¬(Ps.length=2\/Ps.length=3):=h.resolve_left hx
  have ec:=sD (S:=S) (me:=cL eM [] (aC (aA 0) aF)) (tail:=[]) (λp=>PV.str (tx p)) (λp=>fz (rF p)) Ps none λp hp=>(step p hp).2 λz=>hx ⟨p,hp,z⟩;have ln:((Ps.map λp=>fz (rF p)).length:Int)=(Ps.length:Int):=by rw[ar]
  have l2:((Ps.length:Int)==2)=false:=by
   have:¬(Ps.length:Int)=2:=λz=>hl (.inl (by omega));simpa using this
  have l3:((Ps.length:Int)==3)=false:=by
   have:¬(Ps.length:Int)=3:=λz=>hl (.inr (by omega));simpa using this
  generalize tx L=TL,(Ps.length:Int)=N,(Ps.map λp=>fz (rF p))=FL,(Ps.map λp=>PV.str (tx p))=SL,(cL eM [] (aC (aA 0) aF))=ME1 at *;simp! [aG,aR,aU,aI,aN,aM,aK,aL,aH,aJ,fR,cC,bN,bS,bY,es,cE,ec,ln,l2,l3,rf]
theorem Oy{Ps:List (List Nat)}:((∃p∈Ps,rr p=none)->(Ps.map λp=>match nV (rr p)with |.pv v=>v |.ref _=>PV.non).any gX=true)/\((∀p∈Ps,rr p≠none)->(Ps.map λp=>match nV (rr p)with |.pv v=>v |.ref _=>PV.non)=Ps.map λp=>fz (rF p)):=by
 refine⟨λ⟨p,hp,h⟩=>vg.mpr ⟨_,df.mpr ⟨p,hp,rfl⟩,?_⟩,λh=>im λp hp=>?_⟩
 .rw[h]
  rfl
 .rw[(tL (h p hp)).2.2]
theorem Mc(S:aQ){L:List Nat}{Ps:List (List Nat)}(hs:da (tx L) (tx [32])=Ps.map tx)(hL:L.length<=9000)(ha:∀p∈Ps,(∀c∈p,c<128)/\p.length<=9000):(((∃p∈Ps,rr p=none)\/¬(Ps.length=2\/Ps.length=3))->fW [.pv (.str (tx L))] S=.ok (.pv .non) S)/\((∀p∈Ps,rr p≠none)->(Ps.length=2\/Ps.length=3)->fW [.pv (.str (tx L))] S=.ok (.pv (tv (low (cT (Ps.map rF)++[cB (Ps.map rF)])))) S):=by
 have es:=zN hs hL;have ls:((Ps.map λp=>PV.str (tx p)).length:Int)=(Ps.length:Int):=by rw[ar]
 have ec:=nC (jO S) (me:=bD iS [] (aC (aA 0) aF)) (tail:=[]) (λp=>PV.str (tx p)) (λp=>match nV (rr p)with |.pv v=>v |.ref _=>PV.non) Ps none λp hp=>by
  have e:=(Qd S (ha p hp).1 (ha p hp).2).2;obtain⟨o,eo⟩:∃v,nV (rr p)=.pv v:=by
   cases rr p with
   |none=>exact⟨_,rfl⟩
   |some u=>exact⟨_,rfl⟩
  rw[eo]at e⊢;generalize tx p=T at *;simp! [aG,aR,aU,aI,aN,aM,aK,aL,aH,aJ,e]
 obtain⟨a1,a2⟩:=Oy (Ps:=Ps);refine⟨λh=>?_,λh hl=>?_⟩
 .unfold fW bA
  unfold uQ
  by_cases hl:Ps.length=2\/Ps.length=3
  .have hx:=h.resolve_right λz=>z hl
   have a1:=a1 hx;generalize tx L=TL,(Ps.map λp=>PV.str (tx p))=SL,(Ps.map λp=>match nV (rr p)with |.pv v=>v |.ref _=>PV.non)=NLs,(bD iS [] (aC (aA 0) aF))=ME1 at*
   rcases hl with hl |hl
   .rw[hl]at ls
    simp! [aG,aR,aU,aI,aN,aM,aK,aL,aH,aJ,bS,bY,es,ls,bO,cC,bN,cE,ec,gJ,a1]
   .rw[hl]at ls
    simp! [aG,aR,aU,aI,aN,aM,aK,aL,aH,aJ,bS,bY,es,ls,bO,cC,bN,cE,ec,gJ,a1]
  .have l2:((Ps.length:Int)==2)=false:=by
    have:¬(Ps.length:Int)=2:=λz=>hl (.inl (by omega));simpa using this
   have l3:((Ps.length:Int)==3)=false:=by
    have:¬(Ps.length:Int)=3:=λz=>hl (.inr (by omega));simpa using this
   generalize tx L=TL,(Ps.length:Int)=N,(Ps.map λp=>PV.str (tx p))=SL at *;simp! [aG,aR,aU,aI,aN,aM,aK,aL,aH,aJ,bS,bY,es,ls,l2,l3]
 .rw[a2 h]at ec
  have an:(Ps.map λp=>fz (rF p)).any gX=false:=by
   rw[List.any_map];exact pz.mpr λp hp=>by simp[gX]
  have fzs:∀u∈Ps.map rF,Fz u:=λu hu=>by
   obtain⟨p,hp,rfl⟩:=df.mp hu;exact(tL (h p hp)).1
  have em:(Ps.map λp=>fz (rF p))=(Ps.map rF).map fz:=by rw[di];rfl
  rw[em]at ec an;have hl2:(Ps.map rF).length=2\/(Ps.map rF).length=3:=by rw[ar];exact hl
  obtain⟨p0,pb,pl,px⟩:=Jd hl2 fzs;have ew:=pW (cT (Ps.map rF)++[cB (Ps.map rF)]) S (λx hx=>by
   rcases cu.mp hx with z |z
   .exact(px x z).mono (by decide)
   .have:x=cB (Ps.map rF):=by simpa using z
    rw[this];exact pb.mono (by decide))
  have ls2:(((Ps.map λp=>PV.str (tx p)).length:Int)==2)=true\/((((Ps.map λp=>PV.str (tx p)).length:Int)==2)=false/\(((Ps.map λp=>PV.str (tx p)).length:Int)==3)=true):=by
   rw[ls];rcases hl with h |h<;>rw[h]
   .exact .inl rfl
   .exact .inr ⟨rfl,rfl⟩
  generalize Ps.map rF=ab at *;unfold fW bA;unfold uQ
  match ab,hl2,fzs,ew with
  |[u,v],_,h,ep=>
   have hu:=h u (by simp);have hv:=h v (by simp);obtain⟨a,b⟩:=u;obtain⟨c,d⟩:=v;have m1:bF (.int 1) (.int b)=some (.int b):=by rw[iU (.inl (.inl ⟨by decide,by decide⟩)),ja]
   have m2:bF (.int b) (.int d)=some (.int (b*d)):=dS hu.b2 hv.b2;have q1:eO (.int (b*d)) (.int b)=some (.int d):=by rw[qj];exact lG hu.pos (hu.b2.mono (by decide))
   have q2:eO (.int (b*d)) (.int d)=some (.int b):=lG hv.pos (hv.b2.mono (by decide));have m3:bF (.int a) (.int d)=some (.int (a*d)):=dS hu.b1 hv.b2;have m4:bF (.int c) (.int b)=some (.int (c*b)):=dS hv.b1 hu.b2;have ep:gH [.pv (.lst [.int (a*d),.int (c*b),.int (b*d)])] S=.ok (.pv (tv (low ([a*d,c*b]++[b*d])))) S:=ep;show _=bT.ok (AV.pv (tv (low ([a*d,c*b]++[b*d])))) S;have ec:cN [] (gN 0) (bD iS [] (aC (aA 0) aF)) (Ps.map λp=>PV.str (tx p)) [none] S=.ok [.tup [.int a,.int b],.tup [.int c,.int d]] S:=ec;generalize hme:(bD iS [] (aC (aA 0) aF))=ME1 at *;generalize tx L=TL,(Ps.map λp=>PV.str (tx p))=SL,tv (low ([a*d,c*b]++[b*d]))=R at *;rcases ls2 with l |⟨l,l'⟩
   .simp! [aG,aR,aU,aI,aN,aM,aK,aL,aH,aJ,bS,bY,es,l,bO,cC,bN,cE,ec,gJ,gX,dB,gG,hV,eV,eN,gN,m1,m2,q1,q2,m3,m4,ep]
   .simp! [aG,aR,aU,aI,aN,aM,aK,aL,aH,aJ,bS,bY,es,l,l',bO,cC,bN,cE,ec,gJ,gX,dB,gG,hV,eV,eN,gN,m1,m2,q1,q2,m3,m4,ep]
  |[u,v,t],_,h,ep=>
   have hu:=h u (by simp);have hv:=h v (by simp);have ht:=h t (by simp);obtain⟨a,b⟩:=u;obtain⟨c,d⟩:=v;obtain⟨e,f⟩:=t;have m1:bF (.int 1) (.int b)=some (.int b):=by rw[iU (.inl (.inl ⟨by decide,by decide⟩)),ja]
   have m2:bF (.int b) (.int d)=some (.int (b*d)):=dS hu.b2 hv.b2;have m2':bF (.int (b*d)) (.int f)=some (.int (b*d*f)):=dS (hu.b2.mul hv.b2) ht.b2;have q1:eO (.int (b*d*f)) (.int b)=some (.int (d*f)):=by
    rw[show b*d*f=d*f*b by grind];exact lG hu.pos (hu.b2.mono (by decide))
   have q2:eO (.int (b*d*f)) (.int d)=some (.int (b*f)):=by
    rw[show b*d*f=b*f*d by grind];exact lG hv.pos (hv.b2.mono (by decide))
   have q3:eO (.int (b*d*f)) (.int f)=some (.int (b*d)):=lG ht.pos (ht.b2.mono (by decide));have m3:bF (.int a) (.int (d*f))=some (.int (a*(d*f))):=dS hu.b1 (hv.b2.mul ht.b2);have m4:bF (.int c) (.int (b*f))=some (.int (c*(b*f))):=dS hv.b1 (hu.b2.mul ht.b2);have m5:bF (.int e) (.int (b*d))=some (.int (e*(b*d))):=dS ht.b1 (hu.b2.mul hv.b2);have ep:gH [.pv (.lst [.int (a*(d*f)),.int (c*(b*f)),.int (e*(b*d)),.int (b*d*f)])] S=.ok (.pv (tv (low ([a*(d*f),c*(b*f),e*(b*d)]++[b*d*f])))) S:=ep;show _=bT.ok (AV.pv (tv (low ([a*(d*f),c*(b*f),e*(b*d)]++[b*d*f])))) S;have ec:cN [] (gN 0) (bD iS [] (aC (aA 0) aF)) (Ps.map λp=>PV.str (tx p)) [none] S=.ok [.tup [.int a,.int b],.tup [.int c,.int d],.tup [.int e,.int f]] S:=ec;generalize tx L=TL,(Ps.map λp=>PV.str (tx p))=SL,tv (low ([a*(d*f),c*(b*f),e*(b*d)]++[b*d*f]))=R,(bD iS [] (aC (aA 0) aF))=ME1 at *;rcases ls2 with l |⟨l,l'⟩
   .simp! [aG,aR,aU,aI,aN,aM,aK,aL,aH,aJ,bS,bY,es,l,bO,cC,bN,cE,ec,gJ,gX,dB,gG,hV,eV,eN,gN,m1,m2,m2',q1,q2,q3,m3,m4,m5,ep]
   .simp! [aG,aR,aU,aI,aN,aM,aK,aL,aH,aJ,bS,bY,es,l,l',bO,cC,bN,cE,ec,gJ,gX,dB,gG,hV,eV,eN,gN,m1,m2,m2',q1,q2,q3,m3,m4,m5,ep]
theorem ab1{m:Int}(h0:0<=m)(h:m<4096):Bd 8000 m:=Bd.of (n:=4095) (by omega) (cj (show 4095<2^12 by decide) (qh (by decide) (by decide)))
theorem acf{m:Int}(h0:0<=m)(h:m<16384):Bd 8000 m:=Bd.of (n:=16383) (by omega) (cj (show 16383<2^14 by decide) (qh (by decide) (by decide)))
theorem Cy{R:aQ}{n:Nat}(hn:n<=4200)(ns:BA){T:Str}(h:eF n T):∃(U:Str)(ns':BA),sI [.ref 0,.pv (.str T)] (.lst (li ns)::R)=.ok (.pv (.str U)) (.lst (li ns')::R)/\eF (2*n+1) U:=by
 obtain⟨w,n1,e1,w0,w1⟩:=tV (R:=R) ns (m:=6) (by decide) (oA (by decide) (by decide));unfold sI bA La
 by_cases hw:2<w
 .exact⟨T,n1,by simp! [aG,aR,aU,aI,aN,aM,aK,aL,aH,aJ,e1,hw],h.mono (by omega)⟩
 .obtain⟨el,hl⟩:=K1 h (by omega)
  obtain⟨k,n2,e2,k0,k1⟩:=tV (R:=R) n1 (m:=((T.length:Nat):Int)+1) (by omega) (acf (by omega) (by omega));obtain⟨C,n3,e3,AC⟩:=Lv (R:=R) n2;obtain⟨j,rfl⟩:=vf k0;obtain⟨A,B,D,s1,s2,s3,AA,AB,AD⟩:=aag (j:=j) h (by omega) (by omega);obtain⟨a1,A1⟩:=jN AA AC (by omega);obtain⟨a2,A2⟩:=jN A1 AB (by omega);obtain⟨a3,A3⟩:=jN AA AD (by omega);obtain⟨a4,A4⟩:=jN A1 AD (by omega);generalize (j:Int)=J,((T.length:Nat):Int)=TN at*
  by_cases h0:w=0
  .subst h0
   exact⟨_,n3,by simp! [aG,aR,aU,aI,aN,aM,aK,aL,aH,aJ,e1,el,e2,e3,cR,bV,bW,cV,s1,s2,a1,a2],A2.mono (by omega)⟩
  .have h0:(w==0)=false:=by simpa using h0
   by_cases h1:w=1
   .subst h1
    exact⟨_,n3,by simp! [aG,aR,aU,aI,aN,aM,aK,aL,aH,aJ,e1,el,e2,e3,cR,bV,bW,cV,s1,s3,a3],A3.mono (by omega)⟩
   .have h1:(w==1)=false:=by simpa using h1
    exact⟨_,n3,by simp! [aG,aR,aU,aI,aN,aM,aK,aL,aH,aJ,e1,hw,h0,h1,el,e2,e3,cR,bV,bW,cV,s1,s3,a1,a4],A4.mono (by omega)⟩
def jn(s:List Nat):List (List Nat)->List Nat
 |[]=>[]
 |[p]=>p
 |p::q::r=>p++(s++jn s (q::r))
theorem vV(s:List Nat):∀P:List (List Nat),vc (tx s) (P.map tx)=tx (jn s P)
 |[]=>rfl
 |[p]=>rfl
 |p::q::r=>by
  show tx p++tx s++vc (tx s) ((q::r).map tx)=tx (p++(s++jn s (q::r)));rw[vV s (q::r),sX,sX,ko]
theorem Rn{s:List Nat}{Ls:List (List Nat)}{B:Nat}(hs:s.length<=9)(hB:∀l∈Ls,l.length<=B)(hn:Ls.length<=200)(hb:B<=20000):lF (tx s) [.lst (Ls.map λl=>.str (tx l))]=some (.str (tx (jn s Ls))):=by
 have ok:ke (tx s) (Ls.map tx)=true:=by
  unfold ke;rw[AF (B:=B) (λy hy=>by
   obtain⟨l,hl,rfl⟩:=df.mp hy;rw[dL];exact hB l hl) (by
   rw[ar,dL];have h1:Ls.length*B<=200*20000:=uo hn hb;have h2:Ls.length*s.length<=200*9:=uo hn hs;show Ls.length*B+Ls.length*s.length<=16777216;omega)]
  rfl
 show(match lE (Ls.map λl=>PV.str (tx l))with |some ts=>if ke (tx s) ts=true then some (PV.str (nv (tx s) ts))else none |none=>none)=_
 rw[Aa];dsimp only;rw[if_pos ok];have:nv (tx s) (Ls.map tx)=tx (jn s Ls):=by
  show AG (tx s) (Ls.map tx)=_;rw[AH,vV]
 rw[this]
theorem Wl:(", ":Str)=tx [44,32]:=by kernel_rfl
theorem Po:(" + ":Str)=tx [32,43,32]:=by kernel_rfl
theorem X2:("none":Str)=tx [110,111,110,101]:=by kernel_rfl
theorem Sa(c:Nat):∀P:List (List Nat),dD c P=jn [c] P
 |[]=>rfl
 |[p]=>rfl
 |p::q::r=>by
  show p++c::dD c (q::r)=p++([c]++jn [c] (q::r));rw[Sa c (q::r)];rfl
theorem sq{a b:MS}{ρ ρ':cA}{S S':aQ}{r:cU}(h:a ρ S=.nx ρ' S')(g:b ρ' S'=r):aS a b ρ S=r:=by
 rw[aS,h];exact g
theorem qR{np n:Nat}{b:MS}{xs:BK}{S S':aQ}{v:AV}{r:bT AV}(hl:xs.length=np)(h:b (iM n xs) S=.rt v S')(hc:jA S.length v S'=r):bA np n b xs S=r:=by
 unfold bA;rw[if_pos hl,h];exact hc
theorem Hk{α:Type}:∀{L:List α}{i:Nat}{x:α},L[i]?=some x->L.Perm (x::L.eraseIdx i)
 |a::L,0,x,h=>by
  simp at h;subst h;exact List.Perm.refl _
 |a::L,i+1,x,h=>((Hk (L:=L) (i:=i) (by simpa using h)).cons a).trans (List.Perm.swap x a _)
theorem act(L:BH){a:Nat}(h:a<=L.length):jE (.lst L) (some (a:Int)) none=some (.lst (L.drop a)):=by
 unfold jE;dsimp only;unfold jD;rw[HT.sIx_nat];show some (PV.lst ((L.drop (min a L.length)).take (L.length-min a L.length)))=_;rw[Nat.min_eq_left h,ky (by rw[jm];omega)]
theorem tkl{ns:BA}{L:BH}{T:aQ}{k:Nat}(hl:L.length+k<=1000)(h0:0<L.length+k):∃(a:Nat)(n1:BA),cZ [.ref 0,.pv (.int ((L.length+k:Nat):Int))] (.lst (li ns)::T)=.ok (.pv (.int (a:Int))) (.lst (li n1)::T)/\a<L.length+k:=by
 obtain⟨a,n1,e,a0,a1,_⟩:=sS (m:=((L.length+k:Nat):Int)) (show jJ (.lst (li ns)::T) 0 ns from rfl) (by omega) (oA (by omega) (by omega));exact⟨a.toNat,n1,by rw[show((a.toNat:Nat):Int)=a by omega];exact e,by omega⟩
theorem Dp(L s:List Nat):∃P:List (List Nat),da (tx L) (tx s)=P.map tx/\jn s P=L/\P≠[]:=by
 have e0:(tx∘λx:Str=>x.cps.toList)=id:=by
  funext x
  exact oP x
 refine⟨(da (tx L) (tx s)).map λx=>x.cps.toList,?_,?_,?_⟩
 .rw[di,e0,jb]
 .apply tE
  rw[<-vV,di,e0,jb];exact za (tx L) (tx s)
 .intro z
  have:=y9 (tx L) (tx s);rw[vd.mp z]at this;exact absurd this (by decide)
theorem Mo{s:List Nat}:∀{P:List (List Nat)}{p:List Nat},p∈P->(∀c∈p,c∈jn s P)/\p.length<=(jn s P).length
 |[q],p,h=>by
  have:p=q:=by simpa using h
  subst this;exact⟨λc hc=>hc,am _⟩
 |q::r::P,p,h=>by
  show(∀c∈p,c∈q++(s++jn s (r::P)))/\p.length<=(q++(s++jn s (r::P))).length;rcases ce.mp h with rfl |h
  .exact⟨λc hc=>jt _ hc,by simp⟩
  .obtain⟨a,b⟩:=Mo (s:=s) h
   exact⟨λc hc=>ck _ (ck _ (a c hc)),by simp;omega⟩
def fK(n:Nat)(L:List Nat):Prop:=(∀c∈L,c<128)/\L.length<=n
theorem fK.part{n:Nat}{L s:List Nat}{P:List (List Nat)}(h:fK n L)(e:jn s P=L):∀p∈P,fK n p:=λp hp=>by
 obtain⟨a,b⟩:=Mo (s:=s) hp;rw[e]at a b;exact⟨λc hc=>h.1 c (a c hc),by have:=h.2;omega⟩
theorem Hb{L s:List Nat}{P:List (List Nat)}(hs:da (tx L) (tx s)=P.map tx)(hL:L.length<=9000)(h0:s≠[]):fL (tx L) [.str (tx s)]=some (.lst (P.map λp=>.str (tx p))):=by
 show(if(tx s).length≠0/\(tx L).length+2<=16777216 then some (PV.lst ((da (tx L) (tx s)).map .str))else none)=_;rw[if_pos ⟨by rw[dL];exact λz=>h0 (w8.mp z),by rw[dL];omega⟩,hs,di];rfl
theorem Md{L:List Nat}(h:fK 9000 L):(∀S,gM [.pv (.str (tx L))] S=.exc "NoText" S/\fW [.pv (.str (tx L))] S=.ok (.pv .non) S)\/∃us n,(n=2\/n=3)/\Gu n 1000 us/\∀S,gM [.pv (.str (tx L))] S=.ok (.pv (tv us)) S/\fW [.pv (.str (tx L))] S=.ok (.pv (tv us)) S:=by
 obtain⟨a,b⟩:=h;obtain⟨Q,es,hf,hi,hne⟩:=tD L 32;have ha:∀p∈Q,(∀c∈p,c<128)/\p.length<=9000:=λp hp=>⟨λc hc=>a c (by rw[<-hi];exact pV hp c hc),by have z:=sE (c:=32) hp;rw[hi]at z;omega⟩
 by_cases h:(∃p∈Q,rr p=none)\/¬(Q.length=2\/Q.length=3)
 .exact .inl λS=>⟨Rh S es (by omega) ha h,(Mc S es (by omega) ha).1 h⟩
 .have h1:∀p∈Q,rr p≠none:=λp hp z=>h (.inl ⟨p,hp,z⟩)
  have h2:Q.length=2\/Q.length=3:=pf λz=>h (.inr z);have fz:∀u∈Q.map rF,Fz u:=λu hu=>by
   obtain⟨p,hp,rfl⟩:=df.mp hu;exact(tL (h1 p hp)).1
  obtain⟨c1,c2,c3,c4⟩:=Jd (ab:=Q.map rF) (by rw[ar];exact h2) fz;rw[ar]at c3;obtain⟨zs,z,e,P,_⟩:=tG (n:=Q.length) c1 c3 c4 c2;refine .inr ⟨low (cT (Q.map rF)++[cB (Q.map rF)]),Q.length,h2,⟨zs,z,e,P⟩,λS=>⟨Av S es (by omega) h2 λp hp=>?_,(Mc S es (by omega) ha).2 h1 h2⟩⟩;obtain⟨c,d,_⟩:=tL (h1 p hp);refine⟨c,?_⟩;rw[(Qd S (ha p hp).1 (ha p hp).2).1,d S]
theorem Fr{α β:Type}{L:List α}{B:α->Prop}{G:α->β->Prop}[Inhabited β](h:∀x∈L,B x\/∃y,G x y):∃(f:α->β)(bad:α->Prop),∀x∈L,(bad x->B x)/\(¬bad x->G x (f x)):=by
 classical
 refine⟨λx=>if c:∃y,G x y then c.choose else default,λx=>¬∃y,G x y,λx hx=>⟨λz=>(h x hx).resolve_right z,λz=>?_⟩⟩;have c:∃y,G x y:=pf z;simp only[dif_pos c];exact c.choose_spec
theorem Fb{α:Type}(g:α->Bool):∀L:List α,gA [.lst (L.map λx=>.bl (g x))]=some (.bl (L.all g)):=λL=>by
 have e:jB (L.map λx=>PV.bl (g x))=some (L.map g):=by
  induction L with
  |nil=>rfl
  |cons v L ih=>
   show(match jB (L.map λx=>PV.bl (g x))with |some bs=>some (g v::bs) |none=>none)=_
   rw[ih];rfl
 simp only[gA,e,uu];simp
theorem Iq{L:List Nat}(h:fK 9000 L):(∀S,lQ [.pv (.str (tx L))] S=.exc "NoText" S/\kW [.pv (.str (tx L))] S=.ok (.pv .non) S)\/∃(us:BB)(n:Nat),(n=2\/n=3)/\us.length=n+1/\(∀u∈us,Gu n 1000 u)/\∀S,lQ [.pv (.str (tx L))] S=.ok (.pv (.lst (us.map tv))) S/\kW [.pv (.str (tx L))] S=.ok (.pv (.lst (us.map tv))) S:=by
 obtain⟨Q,es,hi,hne⟩:=Dp L [44,32];have hq:=h.part hi;have ef:=Hb es h.2 (by decide);rw[<-Wl]at ef;obtain⟨f,bad,hf⟩:=Fr (L:=Q) (β:=BA) (λp hp=>Md (hq p hp));have st:∀S,∀p∈Q,(bad p->(cL gM [] (aC (aA 0) aF)) [some (.pv (.str (tx p)))] S=.exc "NoText" S)/\(¬bad p->(cL gM [] (aC (aA 0) aF)) [some (.pv (.str (tx p)))] S=.ok (.pv (tv (f p))) S):=λS p hp=>by
  refine⟨λz=>?_,λz=>?_⟩
  .have e:=((hf p hp).1 z S).1
   simp! [aG,aR,aU,aI,aN,aM,aK,aL,aH,aJ,e]
  .obtain⟨n,_,_,e⟩:=(hf p hp).2 z
   have e:=(e S).1;generalize tx p=T,tv (f p)=F at *;simp! [aG,aR,aU,aI,aN,aM,aK,aL,aH,aJ,e]
 by_cases hx:∃p∈Q,bad p
 .left
  intro S;constructor
  .have ec:=uR (S:=S) (tail:=[]) (λp=>PV.str (tx p)) (λp=>tv (f p)) bad "NoText" Q none (st S) hx
   unfold lQ bA rW;generalize tx L=TL,(Q.map λp=>PV.str (tx p))=SL,(cL gM [] (aC (aA 0) aF))=ME1 at *;simp! [aG,aR,aU,aI,aN,aM,aK,aL,aH,aJ,fR,cC,bN,bS,bY,ef,cE,ec]
  .have ec:=nC (jO S) (me:=bD fW [] (aC (aA 0) aF)) (tail:=[]) (λp=>PV.str (tx p)) (λp=>@ite _ (bad p) (jp _) PV.non (tv (f p))) Q none λp hp=>by
    by_cases z:bad p
    .rw[if_pos z]
     have e:=((hf p hp).1 z S).2;simp! [aG,aR,aU,aI,aN,aM,aK,aL,aH,aJ,e]
    .rw[if_neg z]
     obtain⟨n,_,_,e⟩:=(hf p hp).2 z;have e:=(e S).2;generalize tx p=T,tv (f p)=F at *;simp! [aG,aR,aU,aI,aN,aM,aK,aL,aH,aJ,e]
   have a1:(Q.map λp=>@ite _ (bad p) (jp _) PV.non (tv (f p))).any gX=true:=by
    obtain⟨p,hp,z⟩:=hx;refine vg.mpr ⟨_,df.mpr ⟨p,hp,rfl⟩,?_⟩;rw[if_pos z];rfl
   unfold kW bA rY;generalize tx L=TL,(Q.map λp=>PV.str (tx p))=SL,(Q.map λp=>@ite _ (bad p) (jp _) PV.non (tv (f p)))=NL,(bD fW [] (aC (aA 0) aF))=ME1 at *;simp! [aG,aR,aU,aI,aN,aM,aK,aL,aH,aJ,bO,cC,bN,bS,bY,ef,cE,ec,gJ,a1]
 .have hg:∀p∈Q,∃n,(n=2\/n=3)/\Gu n 1000 (f p)/\∀S,gM [.pv (.str (tx p))] S=.ok (.pv (tv (f p))) S/\fW [.pv (.str (tx p))] S=.ok (.pv (tv (f p))) S:=λp hp=>(hf p hp).2 λz=>hx ⟨p,hp,z⟩
  have ec:∀S,eX [] (gN 0) (cL gM [] (aC (aA 0) aF)) (Q.map λp=>PV.str (tx p)) [none] S=.ok (Q.map λp=>tv (f p)) S:=λS=>sD (S:=S) (tail:=[]) (λp=>PV.str (tx p)) (λp=>tv (f p)) Q none λp hp=>(st S p hp).2 λz=>hx ⟨p,hp,z⟩;have ed:∀S,cN [] (gN 0) (bD fW [] (aC (aA 0) aF)) (Q.map λp=>PV.str (tx p)) [none] S=.ok (Q.map λp=>tv (f p)) S:=λS=>nC (jO S) (tail:=[]) (λp=>PV.str (tx p)) (λp=>tv (f p)) Q none λp hp=>by
   obtain⟨n,_,_,e⟩:=hg p hp;have e:=(e S).2;generalize tx p=T,tv (f p)=F at *;simp! [aG,aR,aU,aI,aN,aM,aK,aL,aH,aJ,e]
  have em:(Q.map λp=>tv (f p))=(Q.map f).map tv:=by rw[di];rfl
  rw[em]at ec ed;have an:((Q.map f).map tv).any gX=false:=by
   rw[pz];intro x hx;obtain⟨u,_,rfl⟩:=df.mp hx;simp[gX]
  have hl3:∀u∈Q.map f,u.length=3\/u.length=4:=λu hu=>by
   obtain⟨p,hp,rfl⟩:=df.mp hu;obtain⟨n,hn,g,_⟩:=hg p hp;obtain⟨xs,w,e,P⟩:=g;rw[e,bq,P.len];simp;omega
  have gg:∀u∈Q.map f,∃n,(n=2\/n=3)/\Gu n 1000 u:=λu hu=>by
   obtain⟨p,hp,rfl⟩:=df.mp hu;obtain⟨n,hn,g,_⟩:=hg p hp;exact⟨n,hn,g⟩
  have ne:Q.map f≠[]:=λz=>hne (vd.mp z);generalize Q.map f=us at *;have ev:∀S,cN [] (gN 0) (aE bM (mR bR (aC (aA 0) aF)) (mR bR (aC (aA 1) aF))) (us.map tv) [none,some (.pv (.lst (us.map tv)))] S=.ok (us.map λu=>.bl (u.length==us.length)) S:=λS=>nC (jO S) tv (λu=>.bl (u.length==us.length)) us none λu hu=>by
   have l1:(us.map tv).length=us.length:=ar ..;have q:(((u.map PV.int).length:Int)==((us.map tv).length:Int))=(u.length==us.length):=by
    rw[ar,l1,sw];simp;omega
   have ht:tv u=.tup (u.map .int):=rfl;rw[ht,<-q];generalize u.map PV.int=IL,us.map tv=UL at *;simp! [aG,aR,aU,aI,aN,aM,aK,aL,aH,aJ]
  have ea:=Fb (λu:BA=>u.length==us.length) us;cases b:us.all λu=>u.length==us.length with
  |false=>
   left;intro S;rw[b]at ea;have rf:=gU S false;have c34:∃c:Bool,((((us.map tv).length:Int)==3)=c):=⟨_,rfl⟩;constructor
   .have ec:=ec S
    have ev:=ev S;unfold lQ bA rW;generalize tx L=TL,us.map tv=UL,(Q.map λp=>PV.str (tx p))=SL,(aE bM (mR bR (aC (aA 0) aF)) (mR bR (aC (aA 1) aF)))=ME2,(cL gM [] (aC (aA 0) aF))=ME1,(us.map λu=>PV.bl (u.length==us.length))=BL at *;simp! [aG,aR,aU,aI,aN,aM,aK,aL,aH,aJ,fR,bO,cC,bN,bS,bY,ef,cE,ec,ev,ea,rf]
   .have ed:=ed S
    have ev:=ev S;unfold kW bA rY;generalize tx L=TL,us.map tv=UL,(Q.map λp=>PV.str (tx p))=SL,(aE bM (mR bR (aC (aA 0) aF)) (mR bR (aC (aA 1) aF)))=ME2,(bD fW [] (aC (aA 0) aF))=ME1,(us.map λu=>PV.bl (u.length==us.length))=BL at *;cases c3:((UL.length:Int)==3)<;>cases c4:((UL.length:Int)==4)<;>simp! [aG,aR,aU,aI,aN,aM,aK,aL,aH,aJ,bO,cC,bN,bS,bY,ef,cE,ed,ev,ea,gJ,an,c3,c4]
  |true=>
   right;rw[b]at ea;have al:∀u∈us,u.length=us.length:=λu hu=>by simpa using jd.mp b u hu
   obtain⟨u0,hu0⟩:=List.exists_mem_of_ne_nil us ne;have l34:us.length=3\/us.length=4:=by rw[<-al u0 hu0];exact hl3 u0 hu0
   refine⟨us,us.length-1,by omega,by omega,λu hu=>?_,λS=>?_⟩
   .obtain⟨n,hn,g⟩:=gg u hu
    have e:=al u hu;obtain⟨xs,w,rfl,P⟩:=g;have:us.length-1=n:=by
     rw[bq,P.len]at e;simp at e;omega
    rw[this];exact⟨xs,w,rfl,P⟩
   .have rf:=gU S true
    have ec:=ec S;have ed:=ed S;have ev:=ev S;have c34:((((us.map tv).length:Int)==3)=true)\/((((us.map tv).length:Int)==4)=true):=by
     rw[ar];rcases l34 with z |z
     .exact .inl (by simp[z])
     .exact .inr (by simp[z])
    clear al hl3 gg an;constructor
    .unfold lQ bA rW
     generalize tx L=TL,us.map tv=UL,(Q.map λp=>PV.str (tx p))=SL,(aE bM (mR bR (aC (aA 0) aF)) (mR bR (aC (aA 1) aF)))=ME2,(cL gM [] (aC (aA 0) aF))=ME1,(us.map λu=>PV.bl (u.length==us.length))=BL at *;simp! [aG,aR,aU,aI,aN,aM,aK,aL,aH,aJ,fR,bO,cC,bN,bS,bY,ef,cE,ec,ev,ea,rf]
    .have an:(us.map tv).any gX=false:=by
      rw[pz];intro x hx;obtain⟨u,_,rfl⟩:=df.mp hx;simp[gX]
     unfold kW bA rY;generalize tx L=TL,us.map tv=UL,(Q.map λp=>PV.str (tx p))=SL,(aE bM (mR bR (aC (aA 0) aF)) (mR bR (aC (aA 1) aF)))=ME2,(bD fW [] (aC (aA 0) aF))=ME1,(us.map λu=>PV.bl (u.length==us.length))=BL at *;rcases c34 with c |c
     .cases c4:((UL.length:Int)==4)<;>simp! [aG,aR,aU,aI,aN,aM,aK,aL,aH,aJ,bO,cC,bN,bS,bY,ef,cE,ed,ev,ea,gJ,an,c,c4]
     .cases c3:((UL.length:Int)==3)<;>simp! [aG,aR,aU,aI,aN,aM,aK,aL,aH,aJ,bO,cC,bN,bS,bY,ef,cE,ed,ev,ea,gJ,an,c,c3]
theorem kB{R:aQ}(ns:BA){m:Int}(hm:0<m)(h:m<4096):∃(v:Int)(ns':BA),cZ [.ref 0,.pv (.int m)] (.lst (li ns)::R)=.ok (.pv (.int v)) (.lst (li ns')::R)/\0<=v/\v<m:=by
 obtain⟨v,n1,e,a,c,_⟩:=sS (S:=.lst (li ns)::R) (k:=0) (ns:=ns) (m:=m) rfl hm (ab1 (by omega) h);exact⟨v,n1,e,a,c⟩
theorem Uq{v:Int}(h0:0<=v)(h1:v<3):∃T,qN (.str "0") (.int v)=some (.str T)/\eF 2 T:=by
 have e:v=0\/v=1\/v=2:=by omega
 rcases e with rfl |rfl |rfl
 .exact⟨tx [],by kernel_rfl,[],rfl,by decide,by decide⟩
 .exact⟨tx [48],by kernel_rfl,[48],rfl,by decide,by decide⟩
 .exact⟨tx [48,48],by kernel_rfl,[48,48],rfl,by decide,by decide⟩
theorem Gq{v:Int}(h0:0<=v)(b:Bd 92 v):pG [.int v]=some (.str (tx (dg v.toNat)))/\eF 30 (tx (dg v.toNat)):=by
 have hv:v.natAbs<2^92:=b;have p:(2:Nat)^92<=10^29:=by decide
 have q:(10:Nat)^29<=10^30:=by decide
 have r:((10^30:Nat):Int)<=10^61:=by decide
 have h1:v<10^61:=by
  have:(v.natAbs:Int)<((10^30:Nat):Int):=by omega
  omega
 refine⟨(abN h0 h1).1,_,rfl,λ_ hc=>(Y0 (aaI hc)).1,Uc 29 v.toNat ?_⟩;have:v.toNat=v.natAbs:=by omega
 rw[this];omega
theorem Qy{R:aQ}(ns:BA){t b:Int}(hb:0<b)(bt:Bd 90 t)(bb:Bd 90 b):∃(T:Str)(ns':BA),oJ [.ref 0,.pv (.int t),.pv (.int b)] (.lst (li ns)::R)=.ok (.pv (.str T)) (.lst (li ns')::R)/\eF 66 T:=by
 obtain⟨ef,q0,b1,b2,_⟩:=Yp hb bb bt;have e0:=Om t b (.lst (li ns)::R) (bt.mono (by decide)) (bb.mono (by decide));rw[ef]at e0;generalize pB b t=q,pT b t=p at *;have e0:mD [.pv (.int t),.pv (.int b)] (.lst (li ns)::R)=.ok (.pv (.tup [.int p,.int q])) (.lst (li ns)::R):=e0;obtain⟨m,n1,e1,m0,m1⟩:=kB (R:=R) ns (m:=3) (by decide) (by decide);obtain⟨z,n2,e2,z0,z1⟩:=kB (R:=R) n1 (m:=3) (by decide) (by decide);obtain⟨y,n3,e3,y0,y1⟩:=kB (R:=R) n2 (m:=3) (by decide) (by decide);obtain⟨x,n4,e4,x0,x1⟩:=kB (R:=R) n3 (m:=2) (by decide) (by decide);obtain⟨Z,r1,A1⟩:=Uq z0 z1;obtain⟨Y,r2,A2⟩:=Uq y0 y1;have bm:Bd 2 (1+m):=Bd.of (n:=3) (by omega) (by decide);have ba:Bd 90 (p.natAbs:Int):=by
  have:p.natAbs<2^90:=b1;show((p.natAbs:Int)).natAbs<2^90;rw[g8];exact this
 have k1:=dS ba bm;have k2:=dS b2 bm;obtain⟨s1,A3⟩:=Gq (v:=(p.natAbs:Int)*(1+m)) (AI (by omega) (by omega)) (ba.mul bm);obtain⟨s2,A4⟩:=Gq (v:=q*(1+m)) (AI (by omega) (by omega)) (b2.mul bm);generalize tx (dg (q*(1+m)).toNat)=Q1,tx (dg ((p.natAbs:Int)*(1+m)).toNat)=P1 at *;obtain⟨a1,B1⟩:=jN A1 A3 (by decide);obtain⟨a2,B2⟩:=jN A2 A4 (by decide);generalize Y++Q1=U0,Z++P1=W0 at *;obtain⟨W,hW,AW⟩:∃W:Str,(∀x5:BJ,(bP (fD (aZ (aE gK (aA 1) (mC (.int 0)))) (gB (aZ (aE bM (aA 1) (mC (.int 0)))) (aZ (aE bM (aA 3) (mC (.int 3)))))) (aY 4 (aE fP (mC (.str "-")) (aA 4))) bQ) [some (.ref 0),some (.pv (.int p)),some (.pv (.int q)),some (.pv (.int (1+m))),some (.pv (.str W0)),x5] (.lst (li n3)::R)=.nx [some (.ref 0),some (.pv (.int p)),some (.pv (.int q)),some (.pv (.int (1+m))),some (.pv (.str W)),x5] (.lst (li n3)::R))/\eF 33 W:=by
  obtain⟨c1,C1⟩:=jN Ci.2 B1 (by decide)
  by_cases g:p<0\/(p=0/\1+m=3)
  .refine⟨"-"++W0,λx5=>?_,C1⟩
   rcases g with g |⟨g1,g2⟩
   .simp! [-eY,aG,aR,aU,aI,aN,aM,aK,aL,aH,aJ,g,c1]
   .subst g1
    rw[g2];simp! [-eY,aG,aR,aU,aI,aN,aM,aK,aL,aH,aJ,c1]
  .refine⟨W0,λx5=>?_,B1.mono (by decide)⟩
   have g1:¬p<0:=λz=>g (.inl z)
   by_cases g2:p=0
   .have g3:(1+m==3)=false:=by
     have:¬1+m=3:=λz=>g (.inr ⟨g2,z⟩);simpa using this
    subst g2;simp! [-eY,aG,aR,aU,aI,aN,aM,aK,aL,aH,aJ,g3]
   .have g3:(p==0)=false:=by simpa using g2
    simp! [-eY,aG,aR,aU,aI,aN,aM,aK,aL,aH,aJ,g1,g3]
 obtain⟨c1,C1⟩:=jN AW Ci.1 (by decide);obtain⟨c2,C2⟩:=jN C1 B2 (by decide);have fab:eY [.int p]=some (.int (p.natAbs:Int)):=by
  simp[eY];split<;>omega
 by_cases g:q*(1+m)=1/\x=0
 .obtain⟨g1,rfl⟩:=g
  refine⟨W,n4,?_,AW.mono (by decide)⟩;rw[g1]at k2 s2;unfold oJ vL;apply qR rfl;apply sq;simp! [-eY,aG,aR,aU,aI,aN,aM,aK,aL,aH,aJ,tR,gT,cP,eB,gN,e0];exact⟨rfl,rfl⟩;apply sq;simp! [-eY,aG,aR,aU,aI,aN,aM,aK,aL,aH,aJ,e1];exact⟨rfl,rfl⟩;apply sq;simp! [-eY,aG,aR,aU,aI,aN,aM,aK,aL,aH,aJ,e2,r1,fab,k1,s1,a1];exact⟨rfl,rfl⟩;apply sq;simp! [-eY,aG,aR,aU,aI,aN,aM,aK,aL,aH,aJ,e3,r2,k2,s2,a2];exact⟨rfl,rfl⟩;refine sq (hW _) ?_;simp! [-eY,aG,aR,aU,aI,aN,aM,aK,aL,aH,aJ,k2,e4];exact⟨rfl,rfl⟩;simp[jA]
 .obtain⟨n5,h5⟩:∃n5:BA,(bP (gB (aZ (aE bM (aE bF (aA 2) (aA 3)) (mC (.int 1)))) (aZ (aE bM (bD cZ [] (aC (aA 0) (aC (mC (.int 2)) aF))) (mC (.int 0))))) (bH (aA 4)) bQ) [some (.ref 0),some (.pv (.int p)),some (.pv (.int q)),some (.pv (.int (1+m))),some (.pv (.str W)),some (.pv (.str U0))] (.lst (li n3)::R)=.nx [some (.ref 0),some (.pv (.int p)),some (.pv (.int q)),some (.pv (.int (1+m))),some (.pv (.str W)),some (.pv (.str U0))] (.lst (li n5)::R):=by
   by_cases g1:q*(1+m)=1
   .have g2:(x==0)=false:=by
     have:¬x=0:=λz=>g ⟨g1,z⟩;simpa using this
    refine⟨n4,?_⟩;rw[g1]at k2;simp! [-eY,aG,aR,aU,aI,aN,aM,aK,aL,aH,aJ,k2,e4,g2]
   .refine⟨n3,?_⟩
    have g2:(q*(1+m)==1)=false:=by simpa using g1
    simp! [-eY,aG,aR,aU,aI,aN,aM,aK,aL,aH,aJ,k2,g2]
  refine⟨W++"/"++U0,n5,?_,C2⟩;unfold oJ vL;apply qR rfl;apply sq;simp! [-eY,aG,aR,aU,aI,aN,aM,aK,aL,aH,aJ,tR,gT,cP,eB,gN,e0];exact⟨rfl,rfl⟩;apply sq;simp! [-eY,aG,aR,aU,aI,aN,aM,aK,aL,aH,aJ,e1];exact⟨rfl,rfl⟩;apply sq;simp! [-eY,aG,aR,aU,aI,aN,aM,aK,aL,aH,aJ,e2,r1,fab,k1,s1,a1];exact⟨rfl,rfl⟩;apply sq;simp! [-eY,aG,aR,aU,aI,aN,aM,aK,aL,aH,aJ,e3,r2,k2,s2,a2];exact⟨rfl,rfl⟩;refine sq (hW _) (sq h5 ?_);simp! [-eY,aG,aR,aU,aI,aN,aM,aK,aL,aH,aJ,c1,c2];exact⟨rfl,rfl⟩;simp[jA]
abbrev rK:MS:=(aY 2 (aE bF (aA 2) (aE aG (aA 3) (bX cW (mC (.int 1))))))
abbrev uG:ME:=(aE bF (aE bF (aA 0) (aE aG (aA 1) (aA 3))) (aE eO (aA 2) (aE aG (aA 1) (bX cW (mC (.int 1))))))
abbrev pH:MS:=(eA (iF (aA 4) (aC (mR jT (aC (bO ["_law_weight","_law_p"] [(2,"_law_under"),(5,"_law_k")] (kQ (aC (aA 1) (aC (aA 0) aF))) (gT 2 (cP (gN 0) (cP (gN 1) eB))) uG) aF)) aF)))
theorem Ol{n k:Nat}(hk:k<=1000)(S:aQ)(x0 x1 x4 x5:BJ):∀(qs:BB)(U:Int)(b:Nat)(x3:BJ),(∀q∈qs,Gu n k q)->0<U->Bd b U->b+qs.length*k<=9000->∃(U':Int)(y3:BJ),dQ [] (gN 3) rK (qs.map tv) [x0,x1,some (.pv (.int U)),x3,x4,x5] S=.nx [x0,x1,some (.pv (.int U')),y3,x4,x5] S/\0<U'/\Bd (b+qs.length*k) U'
 |[],U,b,x3,_,hU,bU,_=>⟨U,x3,hV,hU,bU.mono (by simp)⟩
 |q::qs,U,b,x3,h,hU,bU,hb=>by
  obtain⟨w0,w1,w2,_⟩:=xF (h q ay);have hb:b+(qs.length+1)*k<=9000:=hb;have ec:(qs.length+1)*k=qs.length*k+k:=by rw[sj]
  have m:=dS bU w1 (by omega) (by omega);obtain⟨U',y3,e,u0,ub⟩:=Ol hk S x0 x1 x4 x5 qs (U*wq q) (b+k) (some (.pv (tv q))) (λv hv=>h v (bf _ hv)) (kz hU w0) (bU.mul w1) (by omega);refine⟨U',y3,?_,u0,ub.mono (by rw[br];omega)⟩;rw[cg,gG];simp only[gN,jr,gq];have st:rK [x0,x1,some (.pv (.int U)),some (.pv (tv q)),x4,x5] S=.nx [x0,x1,some (.pv (.int (U*wq q))),some (.pv (tv q)),x4,x5] S:=by
   unfold rK;generalize wq q=w,tv q=T at *;simp! [bZ,aN,aM,aK,aL,aH,aJ,w2,m]
  rw[st];exact e
theorem Cr:∀qs:BB,iE (bn qs.length (.int 1)) (qs.map tv)=qs.map λq=>PV.tup [.int 1,tv q]
 |[]=>rfl
 |q::qs=>by
  rw[br,ik,cg,cg,<-Cr qs];rfl
theorem Sl{n k:Nat}(hk:k<=1000)(S:aQ){U:Int}{b:Nat}(hU:0<U)(bU:Bd b U)(hb:b<=9000){j:Nat}(hj:j<n):∀(qs:BB)(x y:BJ),(∀q∈qs,Gu n k q)->cN [] (gT 2 (cP (gN 0) (cP (gN 1) eB))) uG (qs.map λq=>PV.tup [.int 1,tv q]) [x,y,some (.pv (.int U)),some (.pv (.int (j:Int)))] S=.ok ((qs.map λq=>q.getD j 0*U.fdiv (wq q)).map .int) S
 |[],x,y,_=>eN
 |q::qs,x,y,h=>by
  obtain⟨w0,w1,w2,w3,_⟩:=xF (h q ay);obtain⟨i1,b1⟩:=w3 j hj;have ih:=Sl hk S hU bU hb hj qs (some (.pv (.int 1))) (some (.pv (tv q))) λv hv=>h v (bf _ hv);have o1:Bd 1 (1:Int):=by unfold Bd;decide
  have m1:=dS o1 b1 (by decide) (by omega);rw[ja]at m1;have fd:eO (.int U) (.int (wq q))=some (.int (U.fdiv (wq q))):=sL ⟨by omega,w1.mono (by omega)⟩;have m2:=dS b1 (Xm hU w0 bU) (by omega) (by omega);rw[cg,eV,cg,cg];generalize ((qs.map λq=>q.getD j 0*U.fdiv (wq q)).map PV.int)=RL,(qs.map λq=>PV.tup [.int 1,tv q])=ZL,q.getD j 0=v,wq q=w,tv q=T at *;generalize (j:Int)=J,U.fdiv w=fw at *;have hs:uG [some (.pv (.int 1)),some (.pv T),some (.pv (.int U)),some (.pv (.int J))] S=.ok (.pv (.int (v*fw))) S:=by
   unfold uG;simp! [bZ,aN,aM,aK,aL,aH,aJ,i1,m1,w2,fd,m2]
  simp only[gT,cP,eB,gN,br,List.length_nil,jr,gq];simp[hs,ih,bT.bind]
theorem Wm{n k:Nat}(hk:k<=1000){A B:SO}{qs:BB}(h:∀q∈qs,Gu n k q){U:Int}{b:Nat}(hU:0<U)(bU:Bd b U)(hb:b<=7000)(hl:qs.length<=9)(x3:BJ):∀(js:List Nat)(acc:BA)(x5:BJ),(∀j∈js,j<n)->acc.length+js.length<=9->(∀x∈acc,Bd (k+b+qs.length) x)->∃(acc':BA)(y5:BJ),dQ [] (gN 5) pH (js.map λj:Nat=>PV.int (j:Int)) [some (.pv (.lst (qs.map tv))),some (.pv (.lst (bn qs.length (.int 1)))),some (.pv (.int U)),x3,some (.ref 2),x5] [A,B,.lst (li acc)]=.nx [some (.pv (.lst (qs.map tv))),some (.pv (.lst (bn qs.length (.int 1)))),some (.pv (.int U)),x3,some (.ref 2),y5] [A,B,.lst (li acc')]/\acc'.length=acc.length+js.length/\∀x∈acc',Bd (k+b+qs.length) x
 |[],acc,x5,_,_,ha=>⟨acc,x5,hV,rfl,ha⟩
 |j::js,acc,x5,hj,hz,ha=>by
  have hz:acc.length+(js.length+1)<=9:=hz;have ec:=Sl hk [A,B,.lst (li acc)] hU bU (by omega) (hj j ay) qs none none h;have sb:Bd (k+b+qs.length) (qs.map λq=>q.getD j 0*U.fdiv (wq q)).sum:=by
   have:=Yo (k:=k+b) (qs.map λq=>q.getD j 0*U.fdiv (wq q)) λx hx=>by
    obtain⟨q,hq,rfl⟩:=df.mp hx;obtain⟨w0,_,_,w3,_⟩:=xF (h q hq);exact(w3 j (hj j ay)).2.mul (Xm hU w0 bU)
   rw[ar]at this;exact this
  have fs:jT [.lst ((qs.map λq=>q.getD j 0*U.fdiv (wq q)).map .int)]=some (.int (qs.map λq=>q.getD j 0*U.fdiv (wq q)).sum):=by
   show((hZ _).map _)=_;rw[sA];rfl
  obtain⟨acc',y5,e,l,g⟩:=Wm hk h hU bU hb hl x3 js (acc++[(qs.map λq=>q.getD j 0*U.fdiv (wq q)).sum]) (some (.pv (.int (j:Int)))) (λi hi=>hj i (bf _ hi)) (by rw[bq,kr];omega) (λx hx=>by
   rcases cu.mp hx with z |z
   .exact ha x z
   .have:x=(qs.map λq=>q.getD j 0*U.fdiv (wq q)).sum:=by simpa using z
    rw[this];exact sb)
  refine⟨acc',y5,?_,by rw[l,bq,kr,br];omega,g⟩;rw[cg,gG];simp only[gN,jr,gq];have st:pH [some (.pv (.lst (qs.map tv))),some (.pv (.lst (bn qs.length (.int 1)))),some (.pv (.int U)),x3,some (.ref 2),some (.pv (.int (j:Int)))] [A,B,.lst (li acc)]=.nx [some (.pv (.lst (qs.map tv))),some (.pv (.lst (bn qs.length (.int 1)))),some (.pv (.int U)),x3,some (.ref 2),some (.pv (.int (j:Int)))] [A,B,.lst (li (acc++[(qs.map λq=>q.getD j 0*U.fdiv (wq q)).sum]))]:=by
   have el:li (acc++[(qs.map λq=>q.getD j 0*U.fdiv (wq q)).sum])=li acc++[.int (qs.map λq=>q.getD j 0*U.fdiv (wq q)).sum]:=by simp[li]
   have lz:(li acc).length<16777216:=by simp[li];omega
   have ez:=Cr qs;rw[el];clear e g ha h sb;generalize (j:Int)=J,li acc=AL,qs.map tv=QL,bn qs.length (PV.int 1)=OL,(qs.map λq=>PV.tup [.int 1,tv q])=ZL,((qs.map λq=>q.getD j 0*U.fdiv (wq q)).map PV.int)=RL,(qs.map λq=>q.getD j 0*U.fdiv (wq q)).sum=SM at *;unfold pH;generalize uG=WB at *;simp! [bZ,aN,aM,aK,aL,aH,aJ,iF,fZ,mG,bO,cC,kQ,qQ,cE,ez,ec,fs,lz]
  rw[st];exact e
theorem X7{n:Nat}(hn:n=2\/n=3){A B:SO}{qs:BB}(h:∀q∈qs,Gu n 6 q)(h1:1<=qs.length)(h4:qs.length<=4):∃r,pR [.pv (.lst (qs.map tv))] [A,B]=.ok (.pv (tv r)) [A,B]/\Gu n 90 r:=by
 have l0:(qs.map tv).length=qs.length:=ar ..;have fr:tY (.lst [.int 1]) (.int ((qs.map tv).length:Nat))=some (.lst (bn qs.length (.int 1))):=by
  rw[Rm,if_pos ⟨by omega,by omega,by simp;omega⟩,l0];show some (PV.lst (bn ((qs.length:Int)).toNat [PV.int 1]).flatten)=_;rw[oo];congr 2;generalize qs.length=m
  induction m with
  |zero=>rfl
  |succ m ih=>rw[ik,mx,ih,ik];rfl
 obtain⟨U,y3,e1,u0,ub⟩:=Ol (by decide) [A,B] (some (.pv (.lst (qs.map tv)))) (some (.pv (.lst (bn qs.length (.int 1))))) none none qs 1 1 none h (by decide) (by unfold Bd;decide) (by omega);have ub:Bd 25 U:=ub.mono (by omega);obtain⟨acc,y5,e2,l2,b2⟩:=Wm (n:=n) (A:=A) (B:=B) (by decide) h u0 ub (by decide) (by omega) y3 (cq n) [] none (λj hj=>by simpa using hj) (by simp;omega) (by simp);have l2:acc.length=n:=by simpa using l2
 have b2:∀x∈acc,Bd 90 x:=λx hx=>(b2 x hx).mono (by omega);have bl:Bd 3 (qs.length:Int):=Bd.of (n:=4) (by omega) (by decide);have bL:Bd 90 (U*(qs.length:Int)):=(ub.mul bl).mono (by decide);obtain⟨zs,z,e3,P,_⟩:=tG (n:=n) (k:=90) (L:=acc) (b:=U*(qs.length:Int)) (kz u0 (by omega)) l2 b2 bL;have e4:=pW (acc++[U*(qs.length:Int)]) [A,B,.lst (li acc)] (λx hx=>by
  rcases cu.mp hx with y |y
  .exact(b2 x y).mono (by decide)
  .have:x=U*(qs.length:Int):=by simpa using y
   rw[this];exact bL.mono (by decide))
 rw[e3,nh,cg,il]at e4;refine⟨zs++[z],?_,zs,z,rfl,P⟩;have fs:jT [.lst (bn qs.length (.int 1))]=some (.int (qs.length:Int)):=by
  have e:bn qs.length (PV.int 1)=(bn qs.length (1:Int)).map .int:=by simp
  rw[e];show((hZ _).map _)=_;rw[sA];show some (PV.int _)=_;congr 2;generalize qs.length=m
  induction m with
  |zero=>rfl
  |succ m ih=>rw[ik,uv,ih];omega
 have m1:=dS ub bl;have i0:∃QT:BH,aG (.lst (qs.map tv)) (.int 0)=some (.tup QT)/\(QT.length:Int)-1=(n:Int):=by
  match qs,h1,h with
  |q::r,_,h=>
   obtain⟨_,_,_,_,l⟩:=xF (h q ay);exact⟨q.map .int,oO (j:=0) rfl,by rw[ar,l];omega⟩
 obtain⟨QT,i0,lq⟩:=i0;have rg:=rN [A,B,.lst []] (n:=n) (by omega);rw[B9]at rg;have la:(li acc).length+1<=16777216:=by simp[li];omega
 have lf:((qs.length:Nat):Int)=((qs.map tv).length:Int):=by rw[l0]
 have hw:uO [.pv (.lst (qs.map tv)),.pv (.lst (bn qs.length (.int 1)))] [A,B]=.ok (.pv (tv (zs++[z]))) [A,B]:=by
  have hbw:zJ=(aS (aY 2 (mC (.int 1))) (aS (dB (bN (aA 0)) (gN 3) rK) (aS (aY 4 (jS aF)) (aS (dB (fF (aC (aE dN (mR bR (aC (aE aG (aA 0) (mC (.int 0))) aF)) (mC (.int 1))) aF)) (gN 5) pH) (bH (bD gH [] (aC (aE aH (aA 4) (mN dW (aC (aE bF (aA 2) (mR jT (aC (aA 1) aF))) aF))) aF))))))):=rfl;unfold uO;rw[hbw];have e4:gH [.pv (.lst (li acc++[.int (U*(qs.length:Int))]))] [A,B,.lst (li acc)]=.ok (.pv (tv (zs++[z]))) [A,B,.lst (li acc)]:=e4;have e2:dQ [] (gN 5) pH ((cq n).map λj:Nat=>PV.int (j:Int)) [some (.pv (.lst (qs.map tv))),some (.pv (.lst (bn qs.length (.int 1)))),some (.pv (.int U)),y3,some (.ref 2),none] [A,B,.lst []]=_:=e2;clear h b2 P;generalize (n:Int)=N,((cq n).map λj:Nat=>PV.int (j:Int))=RL,li acc=AL,qs.map tv=QL,bn qs.length (PV.int 1)=OL,(qs.length:Int)=LN,tv (zs++[z])=TR at *;have t1:(dB (bN (aA 0)) (gN 3) rK) [some (.pv (.lst QL)),some (.pv (.lst OL)),some (.pv (.int 1)),none,none,none] [A,B]=.nx [some (.pv (.lst QL)),some (.pv (.lst OL)),some (.pv (.int U)),y3,none,none] [A,B]:=by
   generalize rK=B1 at *;simp! [bZ,aN,aM,aK,aL,aH,aJ,dB,bN,cE,e1]
  have t3:(dB (fF (aC (aE dN (mR bR (aC (aE aG (aA 0) (mC (.int 0))) aF)) (mC (.int 1))) aF)) (gN 5) pH) [some (.pv (.lst QL)),some (.pv (.lst OL)),some (.pv (.int U)),y3,some (.ref 2),none] [A,B,.lst []]=.nx [some (.pv (.lst QL)),some (.pv (.lst OL)),some (.pv (.int U)),y3,some (.ref 2),y5] [A,B,.lst AL]:=by
   generalize pH=B2 at *;simp! [bZ,aN,aM,aK,aL,aH,aJ,dB,fF,i0,lq,rg,e2]
  apply qR rfl;apply sq;simp! [bZ,aN,aM,aK,aL,aH,aJ,iM];exact⟨rfl,rfl⟩;refine sq t1 ?_;apply sq;simp! [bZ,aN,aM,aK,aL,aH,aJ,jS,qU];exact⟨rfl,rfl⟩;refine sq t3 ?_;simp! [bZ,aN,aM,aK,aL,aH,aJ,la,fs,m1,e4];exact⟨rfl,rfl⟩;simp[jA]
 unfold pR bA zR;generalize qs.map tv=QL,bn qs.length (PV.int 1)=OL,tv (zs++[z])=TR at *;simp! [bZ,aN,aM,aK,aL,aH,aJ,fr,hw]
abbrev pK:ME:=(bD oJ [] (aC (aA 1) (aC (aA 0) (aC (aE aG (aA 2) (bX cW (mC (.int 1)))) aF))))
abbrev sv(l:List Nat):PV:=.str (tx l)
theorem sY{s:List Nat}{B:Nat}(hs:∀c∈s,c<128):∀{P:List (List Nat)},(∀p∈P,fK B p)->fK (P.length*(B+s.length)) (jn s P)
 |[],_=>⟨λ_ h=>(nomatch h),by simp[jn]⟩
 |[p],h=>⟨(h p (by simp)).1,by have:=(h p (by simp)).2;simp[jn];omega⟩
 |p::q::r,h=>by
  obtain⟨a,b⟩:=sY hs (P:=q::r) λx hx=>h x (bf _ hx);obtain⟨c,d⟩:=h p ay;refine⟨λx hx=>?_,?_⟩
  .have hx:x∈p++(s++jn s (q::r)):=hx
   rcases cu.mp hx with z |z
   .exact c x z
   .rcases cu.mp z with z |z
    .exact hs x z
    .exact a x z
  .show(p++(s++jn s (q::r))).length<=((q::r).length+1)*(B+s.length)
   rw[bq,bq,sj];omega
theorem Wb{R:aQ}{T:PV}{w:Int}(hw:0<w)(bw:Bd 90 w)(hT:aG T (.int (-1))=some (.int w)):∀(xs ns:BA)(x:BJ),(∀y∈xs,Bd 90 y)->∃(Ls:List (List Nat))(ns':BA),cN [] (gN 0) pK (xs.map .int) [x,some (.ref 0),some (.pv T)] (.lst (li ns)::R)=.ok (Ls.map sv) (.lst (li ns')::R)/\Ls.length=xs.length/\∀l∈Ls,fK 66 l
 |[],ns,x,_=>⟨[],ns,eN,rfl,λ_ h=>(nomatch h)⟩
 |y::xs,ns,x,h=>by
  obtain⟨U,n1,e1,L,rfl,a,b⟩:=Qy (R:=R) ns hw (h y ay) bw;obtain⟨Ls,n2,e2,l2,g2⟩:=Wb (R:=R) hw bw hT xs n1 (some (.pv (.int y))) λz hz=>h z (bf _ hz);refine⟨L::Ls,n2,?_,by rw[br,br,l2],λl hl=>?_⟩
  .rw[cg,eV,cg]
   generalize Ls.map sv=LL,xs.map PV.int=XL at *;have hs:pK [some (.pv (.int y)),some (.ref 0),some (.pv T)] (.lst (li ns)::R)=.ok (.pv (.str (tx L))) (.lst (li n1)::R):=by
    unfold pK;simp! [bZ,aN,aM,aK,aL,aH,aJ,hT,e1]
   simp only[gN,gq];simp[hs,e2,bT.bind]
  .rcases ce.mp hl with rfl |hl
   .exact⟨a,b⟩
   .exact g2 l hl
abbrev rP:MS:=(aS (aY 5 (lK (aA 2) (aC (bD cZ [] (aC (aA 0) (aC (mR bR (aC (aA 2) aF)) aF))) aF))) (eA (iF (aA 3) (aC (jC (mC (.str " ")) (aC (bO ["_law_number"] [(0,"_law_row_here"),(5,"_law_p")] (bN (dY (aA 5) bV (bW (bX cW (mC (.int 1)))))) (gN 0) pK) aF)) aF))))
theorem M5{n:Nat}(hn:n=2\/n=3){W:SO}(ns:BA){P:BB}{Ls:List (List Nat)}(hP:∀p∈P,Gu n 90 p)(p0:0<P.length)(p9:P.length<=9)(l9:Ls.length<=90)(x1 x4 x5:BJ):∃(P':BB)(l:List Nat)(ns':BA)(y5:BJ),rP [some (.ref 0),x1,some (.ref 2),some (.ref 3),x4,x5] [.lst (li ns),W,.lst (P.map tv),.lst (Ls.map sv)]=.nx [some (.ref 0),x1,some (.ref 2),some (.ref 3),x4,y5] [.lst (li ns'),W,.lst (P'.map tv),.lst ((Ls++[l]).map sv)]/\P'.length+1=P.length/\(∀p∈P',Gu n 90 p)/\fK 201 l:=by
 obtain⟨j,n1,e1,jl⟩:=tkl (ns:=ns) (L:=P.map tv) (T:=[W,.lst (P.map tv),.lst (Ls.map sv)]) (k:=0) (by rw[ar];omega) (by rw[ar];omega);rw[Nat.add_zero]at e1 jl;rw[ar]at jl;have hp:=Bp (S:=[.lst (li n1),W,.lst (P.map tv),.lst (Ls.map sv)]) (k:=2) (j:=j) (v:=tv P[j]) rfl (by rw[fh,bh jl];rfl) (by omega);rw[Ha]at hp;have hp:nS 2 [.pv (.int (j:Int))] [.lst (li n1),W,.lst (P.map tv),.lst (Ls.map sv)]=.ok (.pv (tv P[j])) [.lst (li n1),W,.lst ((P.eraseIdx j).map tv),.lst (Ls.map sv)]:=hp;have pm:=Hk (L:=P) (bh jl);have gp:=hP _ (je jl);obtain⟨xs,w,ep,Q⟩:=gp;rw[ep]at hp;obtain⟨Ks,n2,e2,l2,g2⟩:=Wb (R:=[W,.lst ((P.eraseIdx j).map tv),.lst (Ls.map sv)]) Q.pos Q.bw (nE xs w) xs n1 none Q.bx;have ej:=Vm (c:=32) (Ls:=Ks) (B:=66) (λl hl=>(g2 l hl).2) (by rw[l2,Q.len];omega) (by decide);rw[<-vU]at ej;have al:fK 201 (dD 32 Ks):=by
  have a:=sY (s:=[32]) (B:=66) (by decide) g2;rw[Sa];refine⟨a.1,?_⟩;have:=a.2;rw[l2,Q.len]at this;rcases hn with rfl |rfl<;>simp at this<;>omega
 refine⟨P.eraseIdx j,dD 32 Ks,n2,some (.pv (tv (xs++[w]))),?_,by have:=pm.length_eq;simp only[br]at this;omega,λp hp=>hP p (pm.mem_iff.mpr (bf _ hp)),al⟩;have es:(Ls++[dD 32 Ks]).map sv=Ls.map sv++[sv (dD 32 Ks)]:=by simp
 have lz:(Ls.map sv).length<16777216:=by rw[ar];omega
 have a1:=vQ xs w;rw[es];have ej:lF " " [.lst (Ks.map sv)]=some (sv (dD 32 Ks)):=ej;have hv:tv (xs++[w])=.tup ((xs++[w]).map .int):=rfl;rw[hv]at hp⊢;clear hP al g2 Q pm ep;generalize (j:Int)=J,Ls.map sv=LL,P.map tv=PL,(P.eraseIdx j).map tv=PE,xs.map PV.int=XL,(xs++[w]).map PV.int=XW,Ks.map sv=KL,sv (dD 32 Ks)=SJ at *;unfold rP;generalize pK=LC at *;apply sq;simp! [bZ,aN,aM,aK,aL,aH,aJ,lK,fZ,e1,hp];exact⟨rfl,rfl⟩;simp! [bZ,aN,aM,aK,aL,aH,aJ,iF,fZ,mG,jC,bY,bO,cC,bN,cE,dY,bV,bW,cV,a1,e2,ej,lz]
theorem Km{n:Nat}(hn:n=2\/n=3){W:SO}(x1:BJ):∀(is:BH)(P:BB)(Ls:List (List Nat))(ns:BA)(x4 x5:BJ),P.length=is.length->P.length<=9->Ls.length+is.length<=90->(∀p∈P,Gu n 90 p)->(∀l∈Ls,fK 201 l)->∃(Q:SO)(Ls':List (List Nat))(ns':BA)(y4 y5:BJ),dQ [] (gN 4) rP is [some (.ref 0),x1,some (.ref 2),some (.ref 3),x4,x5] [.lst (li ns),W,.lst (P.map tv),.lst (Ls.map sv)]=.nx [some (.ref 0),x1,some (.ref 2),some (.ref 3),y4,y5] [.lst (li ns'),W,Q,.lst (Ls'.map sv)]/\Ls'.length=Ls.length+is.length/\∀l∈Ls',fK 201 l
 |[],P,Ls,ns,x4,x5,_,_,_,_,h=>⟨_,Ls,ns,x4,x5,hV,rfl,h⟩
 |i::is,P,Ls,ns,x4,x5,hl,p9,l9,hP,h=>by
  have l9:Ls.length+(is.length+1)<=90:=l9;have hl:P.length=is.length+1:=hl;obtain⟨P',l,n1,y5,e1,lp,gp,al⟩:=M5 hn (W:=W) ns (P:=P) (Ls:=Ls) hP (by omega) p9 (by omega) x1 (some (.pv i)) x5;obtain⟨Q,Ls',n2,z4,z5,e2,l2,g2⟩:=Km hn x1 is P' (Ls++[l]) n1 (some (.pv i)) y5 (by omega) (by omega) (by rw[bq,kr];omega) gp (λk hk=>by
   rcases cu.mp hk with z |z
   .exact h k z
   .have:k=l:=by simpa using z
    rw[this];exact al)
  refine⟨Q,Ls',n2,z4,z5,?_,by rw[l2,bq,kr,br];omega,g2⟩;rw[gG];simp only[gN,jr,gq];rw[e1];exact e2
theorem W9(L s:List Nat)(hk:nu (tx s)=1):∃P:List (List Nat),da (tx L) (tx s)=P.map tx/\jn s P=L/\((P=[L]/\kd (tx L) (tx s)=-1)\/∃p q R,P=p::q::R/\kd (tx L) (tx s)=(p.length:Int)):=by
 have e0:(tx∘λx:Str=>x.cps.toList)=id:=by
  funext x
  exact oP x
 have sk:∀x:Str,1<=nu x:=λx=>by
  unfold nu;split
  .omega
  .split<;>omega
 refine⟨(da (tx L) (tx s)).map λx=>x.cps.toList,by rw[di,e0,jb],?_,?_⟩
 .apply tE
  rw[<-vV,di,e0,jb];exact za (tx L) (tx s)
 .rcases AJ (tx L) (tx s) ((tx L).length+1) (by omega)with⟨h0,hn⟩|⟨i,r,h0,hi,hn⟩
  .left
   have hs:da (tx L) (tx s)=[tx L]:=by
    unfold da;rw[h0];split<;>rfl
   refine⟨by rw[hs];rfl,?_⟩;rcases vb (tx L) (tx s)with⟨e,_⟩|⟨i,_,hi,_⟩
   .exact e
   .exact absurd hi (hn i)
  .right
   have ef:kd (tx L) (tx s)=(i:Int):=by
    rcases vb (tx L) (tx s)with⟨_,z⟩|⟨j,e,hj,z⟩
    .exact absurd hi (z i)
    .rw[e]
     have a:¬i<j:=λy=>z i y hi;have b:¬j<i:=λy=>hn j y hj;have:j=i:=by omega
     rw[this]
   have hs:da (tx L) (tx s)=jq (tx L) 0 i::StrLaws.partsFrom (tx L) (tx s).length (i+(tx s).length) r:=by
    unfold da;rw[h0];have c:(decide ((tx L).length<(tx s).length)||decide (nu (tx L)<nu (tx s)))=false:=by
     rw[Bool.or_eq_false_iff];refine⟨decide_eq_false ?_,decide_eq_false ?_⟩
     .have:=hi.1
      omega
     .have:=sk (tx L)
      omega
    rw[c];exact StrLaws.partsBetween_eq _ _ _
   obtain⟨p,q,e⟩:=StrLaws.partsFrom_ne (tx L) (tx s).length (i+(tx s).length) r;refine⟨(jq (tx L) 0 i).cps.toList,p.cps.toList,q.map λx=>x.cps.toList,by rw[hs,e];rfl,?_⟩;rw[ef,AK];have:=hi.1;rw[dL,dL]at this;simp;omega
theorem Xc{p:List Nat}{c:Nat}(hc:c∈p)(hd:fA c=false):eD p=false:=by
 unfold eD;have:p.all fA=false:=by
  rw[AM];exact⟨c,hc,by rw[hd];decide⟩
 rw[this,yf]
theorem Gn{p:List Nat}{c:Nat}(hc:c∈p)(h:c≠45):c∈bd p:=by
 unfold bd;split
 .rename_i e
  cases p with
  |nil=>exact absurd hc (by simp)
  |cons a r=>
   have:a=45:=by simpa using e
   rcases ce.mp hc with z |z
   .exact absurd (z.trans this) h
   .exact z
 .exact hc
theorem ab7{p:List Nat}{c:Nat}(hc:c∈p)(h:c≠45)(h':c≠47)(hd:fA c=false):rr p=none:=by
 obtain⟨P,es,_,hi,hne⟩:=tD p 47;have e1:((λx:Str=>x.cps.toList)∘tx)=id:=by
  funext x
  rfl
 unfold rr;rw[es,di,e1,jb];rw[<-hi]at hc;cases P with
 |nil=>rfl
 |cons a P=>
  cases P with
  |nil=>
   have hc:c∈a:=hc;rw[xZ,if_neg (by rw[Xc (Gn hc h) hd];decide)]
  |cons b P=>
   cases P with
   |cons d P=>rfl
   |nil=>
    have hc:c∈a++47::b:=hc;rw[xY,if_neg]
    rintro⟨y1,y2,_⟩
    rcases cu.mp hc with z |z
    .rw[Xc (Gn z h) hd]at y1
     exact absurd y1 (by decide)
    .rcases ce.mp z with z |z
     .exact absurd z h'
     .rw[Xc z hd]at y2
      exact absurd y2 (by decide)
theorem Ij{c d:Nat}(h:d≠c):∀{P:List (List Nat)},d∈dD c P->∃p∈P,d∈p
 |[],hd=>absurd hd (by simp[dD])
 |[p],hd=>⟨p,by simp,hd⟩
 |p::q::r,hd=>by
  have hd:d∈p++c::dD c (q::r):=hd;rcases cu.mp hd with z |z
  .exact⟨p,by simp,z⟩
  .rcases ce.mp z with z |z
   .exact absurd z h
   .obtain⟨x,hx,y⟩:=Ij h z
    exact⟨x,bf _ hx,y⟩
theorem acd{L:List Nat}(h:fK 9000 L)(hb:98∈L)(S:aQ):fW [.pv (.str (tx L))] S=.ok (.pv .non) S:=by
 obtain⟨a,b⟩:=h;obtain⟨Q,es,hf,hi,hne⟩:=tD L 32;have ha:∀p∈Q,(∀c∈p,c<128)/\p.length<=9000:=λp hp=>⟨λc hc=>a c (by rw[<-hi];exact pV hp c hc),by have z:=sE (c:=32) hp;rw[hi]at z;omega⟩;rw[<-hi]at hb;obtain⟨p,hp,hc⟩:=Ij (by decide) hb;exact(Mc S es (by omega) ha).1 (.inl ⟨p,hp,ab7 hc (by decide) (by decide) (by decide)⟩)
theorem Ke{L:List Nat}{c i:Nat}:yz (tx L) (tx [c]) (tx L).length i↔L[i]?=some c:=by
 unfold yz;rw[StrLaws.subAt_eq,dL,dL];show i+1<=L.length/\((L.drop i).take 1==[c])=true↔_;rw[beq_iff_eq];constructor
 .rintro⟨h,e⟩
  have:((L.drop i).take 1)[0]?=some c:=by rw[e];rfl
  rw[wx (by omega),List.getElem?_drop]at this;exact this
 .intro e
  have hl:i<L.length:=by
   rcases zd i L.length with z |z
   .exact z
   .rw[qp z]at e;cases e
  refine⟨hl,?_⟩;rw[qq hl];rw[bh hl]at e;have e:L[i]=c:=by simpa using e
  rw[e];rfl
theorem Fp(L:List Nat)(a b:Nat):jq (tx L) a b=tx ((L.drop a).take (b-a)):=by
 rw[<-oP (jq (tx L) a b),AK]
theorem Hy:(" ":Str)=tx [32]:=by kernel_rfl
theorem aaV{L:List Nat}(hL:L.length<=9000):(32∉L/\nP (tx L) [.str " "]=some (.tup [.str (tx L),.str (tx []),.str (tx [])]))\/∃A B,L=A++32::B/\32∉A/\nP (tx L) [.str " "]=some (.tup [.str (tx A),.str (tx [32]),.str (tx B)]):=by
 have fp:∀T,kN (tx L) (tx [32])=T->nP (tx L) [.str " "]=some (.tup (T.map .str)):=λT hT=>by
  rw[Hy];show(if(tx [32]).length≠0/\(tx L).length<=16777216 then some (PV.tup ((kN (tx L) (tx [32])).map .str))else none)=_;rw[if_pos ⟨by rw[dL];decide,by rw[dL];omega⟩,hT]
 rcases AJ (tx L) (tx [32]) 1 (am 1)with⟨h0,hn⟩|⟨i,r,h0,hi,hn⟩
 .refine .inl ⟨λz=>?_,fp [tx L,tx [],tx []] (by unfold kN;rw[h0];rfl)⟩
  obtain⟨k,hk⟩:=AN z;exact hn k (Ke.mpr hk)
 .have ei:=Ke.mp hi
  have hl:i<L.length:=by
   rcases zd i L.length with z |z
   .exact z
   .rw[qp z]at ei;cases ei
  refine .inr ⟨L.take i,L.drop (i+1),?_,λz=>?_,fp [tx (L.take i),tx [32],tx (L.drop (i+1))] ?_⟩
  .have e:L[i]=32:=by rw[bh hl]at ei;simpa using ei
   rw[<-e,<-qq hl,ze]
  .obtain⟨k,hk⟩:=AN z
   have kl:k<i:=by
    rcases zd k i with y |y
    .exact y
    .rw[qp (by rw[om];omega)]at hk;cases hk
   rw[wx kl]at hk;exact hn k kl (Ke.mpr hk)
  .unfold kN
   rw[h0];show[jq (tx L) 0 i,tx [32],jq (tx L) (i+1) (tx L).length]=_;rw[Fp,Fp,dL,v8,Nat.sub_zero,ky (l:=L.drop (i+1)) (by rw[jm];omega)]
theorem abX{A B C D:List Nat}{c:Nat}(hA:c∉A)(hC:c∉C)(h:A++c::B=C++c::D):A=C/\B=D:=by
 induction A generalizing C with
 |nil=>
  cases C with
  |nil=>exact⟨rfl,(vh h).2⟩
  |cons d C=>
   have:=(vh h).1;exact absurd (by rw[this];simp) hC
 |cons a A ih=>
  cases C with
  |nil=>
   have:=(vh h).1;exact absurd (by rw[this];simp) hA
  |cons d C=>
   obtain⟨e,h⟩:=vh h;obtain⟨u,v⟩:=ih (λz=>hA (bf _ z)) (λz=>hC (bf _ z)) h;exact⟨by rw[e,u],v⟩
theorem U8:("push":Str)=tx [112,117,115,104]:=by kernel_rfl
theorem W6:("turn":Str)=tx [116,117,114,110]:=by kernel_rfl
abbrev pu:List Nat:=[112,117,115,104,32]
abbrev tu:List Nat:=[116,117,114,110,32]
theorem K5:("push ":Str)=tx pu:=by kernel_rfl
theorem S5:("turn ":Str)=tx tu:=by kernel_rfl
theorem yK(A B:List Nat):(tx A==tx B)=decide (A=B):=by
 by_cases h:A=B
 .subst h
  simp
 .rw[decide_eq_false h,beq_false_of_ne λz=>h (tE z)]
theorem wZ{L A M B:Str}(S:aQ)(e:nP L [.str " "]=some (.tup [.str A,.str M,.str B])){bp bt:Bool}(hp:(A==("push":Str))=bp)(ht:(A==("turn":Str))=bt):(bp=false->bt=false->kY [.pv (.str L)] S=.exc "NoText" S)/\((bp=true\/bt=true)->gM [.pv (.str B)] S=.exc "NoText" S->kY [.pv (.str L)] S=.exc "NoText" S)/\(∀V,(bp=true\/bt=true)->gM [.pv (.str B)] S=.ok (.pv V) S->kY [.pv (.str L)] S=.ok (.pv (.tup [.int (if bp=true then 1 else-1),V])) S):=by
 have r1:=gU S true;have r0:=gU S false;have m1:∀V,qI [.pv (.int 1),.pv V] S=.ok (.pv (.tup [.int 1,V])) S:=λV=>by
  unfold qI bA wS;simp! [aG,aR,aU,aI,aN,aM,aK,aL,aH,aJ]
 have m2:∀V,qI [.pv (.int (-1)),.pv V] S=.ok (.pv (.tup [.int (-1),V])) S:=λV=>by
  unfold qI bA wS;simp! [aG,aR,aU,aI,aN,aM,aK,aL,aH,aJ]
 unfold kY bA zM;generalize ("turn":Str)=TU,("push":Str)=PU,(" ":Str)=BL at *;refine⟨λh1 h2=>?_,λh1 h2=>?_,λV h1 h2=>?_⟩
 .subst h1 h2
  simp! [aG,aR,aU,aI,aN,aM,aK,aL,aH,aJ,bS,bY,e,hp,ht,r0]
 .cases bp with
  |true=>simp! [aG,aR,aU,aI,aN,aM,aK,aL,aH,aJ,bS,bY,e,hp,r1,h2]
  |false=>
   have h1:bt=true:=by simpa using h1
   subst h1;simp! [aG,aR,aU,aI,aN,aM,aK,aL,aH,aJ,bS,bY,e,hp,ht,r1,h2]
 .cases bp with
  |true=>simp! [aG,aR,aU,aI,aN,aM,aK,aL,aH,aJ,bS,bY,e,hp,r1,h2,m1]
  |false=>
   have h1:bt=true:=by simpa using h1
   subst h1;simp! [aG,aR,aU,aI,aN,aM,aK,aL,aH,aJ,bS,bY,e,hp,ht,r1,h2,m2]
theorem Eo(S:aQ):gM [.pv (.str (tx []))] S=.exc "NoText" S:=by
 obtain⟨Q,es,hf,hi,hne⟩:=tD [] 32;have ha:∀p∈Q,p=[]:=λp hp=>by
  cases p with
  |nil=>rfl
  |cons c r=>
   have:=pV (c:=32) hp c ay;rw[hi]at this;cases this
 refine Rh S es (by simp) (λp hp=>by rw[ha p hp];exact⟨λ_ h=>(nomatch h),by simp⟩) (.inl ?_);cases Q with
 |nil=>exact absurd rfl hne
 |cons p Q=>exact⟨p,ay,by rw[ha p ay];kernel_rfl⟩
theorem abK{L:List Nat}(h:fK 9000 L):((∀S,kY [.pv (.str (tx L))] S=.exc "NoText" S)/\((L.take 5≠pu/\L.take 5≠tu)\/∀S,fW [.pv (.str (tx (L.drop 5)))] S=.ok (.pv .non) S))\/∃us n,(n=2\/n=3)/\Gu n 1000 us/\(L.take 5=pu\/L.take 5=tu)/\∀S,fW [.pv (.str (tx (L.drop 5)))] S=.ok (.pv (tv us)) S/\kY [.pv (.str (tx L))] S=.ok (.pv (.tup [.int (if L.take 5=pu then 1 else-1),tv us])) S:=by
 rcases aaV h.2 with⟨nb,e⟩|⟨A,B,eL,nA,e⟩
 .left
  refine⟨λS=>?_,.inl ⟨λz=>nb ?_,λz=>nb ?_⟩⟩
  .obtain⟨c1,c2,_⟩:=wZ S e (bp:=tx L==("push":Str)) (bt:=tx L==("turn":Str)) rfl rfl
   cases h1:(tx L==("push":Str))with
   |true=>exact c2 (.inl h1) (Eo S)
   |false=>
    cases h2:(tx L==("turn":Str))with
    |true=>exact c2 (.inr h2) (Eo S)
    |false=>exact c1 h1 h2
  .exact ul (i:=5) (by rw[z];decide)
  .exact ul (i:=5) (by rw[z];decide)
 .have key:∀W:List Nat,W.length=4->32∉W->(L.take 5=W++[32]↔A=W):=λW hW nW=>by
   constructor
   .intro z
    have:A++32::B=W++32::L.drop 5:=by
     rw[<-eL];have:=ze 5 L;rw[z,ko]at this;exact this.symm
    exact(abX nA nW this).1
   .intro z
    rw[eL,z,List.take_append,hW,ky (by omega)];rfl
  have kp:=key [112,117,115,104] rfl (by decide);have kt:=key [116,117,114,110] rfl (by decide);have kp:L.take 5=pu↔A=[112,117,115,104]:=kp;have kt:L.take 5=tu↔A=[116,117,114,110]:=kt;have bp:(tx A==("push":Str))=decide (L.take 5=pu):=by
   rw[U8,yK];exact decide_eq_decide.mpr kp.symm
  have bt:(tx A==("turn":Str))=decide (L.take 5=tu):=by
   rw[W6,yK];exact decide_eq_decide.mpr kt.symm
  by_cases hA:L.take 5=pu\/L.take 5=tu
  .have hB:B=L.drop 5:=by
    have l4:A.length=4:=by
     rcases hA with z |z
     .rw[kp.mp z];rfl
     .rw[kt.mp z];rfl
    rw[eL,AO,l4,yx (by omega)];rfl
   have aB:fK 9000 B:=⟨λc hc=>h.1 c (by rw[eL];exact ck _ (bf _ hc)),by have:=h.2;rw[eL,bq,br]at this;omega⟩;have hq:decide (L.take 5=pu)=true\/decide (L.take 5=tu)=true:=by
    rcases hA with z |z
    .exact .inl (decide_eq_true z)
    .exact .inr (decide_eq_true z)
   rcases Md aB with z |⟨us,n,hn,g,z⟩
   .left
    refine⟨λS=>(wZ S e bp bt).2.1 hq (z S).1,.inr λS=>?_⟩;rw[<-hB];exact(z S).2
   .right
    refine⟨us,n,hn,g,hA,λS=>⟨by rw[<-hB];exact(z S).2,?_⟩⟩;have:=(wZ S e bp bt).2.2 (tv us) hq (z S).1;rw[this]
    by_cases y:L.take 5=pu
    .rw[if_pos y,decide_eq_true y,if_pos rfl]
    .rw[if_neg y,decide_eq_false y,if_neg (by decide)]
  .left
   have n1:L.take 5≠pu:=λz=>hA (.inl z);have n2:L.take 5≠tu:=λz=>hA (.inr z);exact⟨λS=>(wZ S e bp bt).1 (decide_eq_false n1) (decide_eq_false n2),.inl ⟨n1,n2⟩⟩
theorem Kn(L:List Nat)(j:Nat)(h:L.length<=10000):gD (.str (tx L)) none (some (j:Int))=some (.str (tx (L.take j))):=by
 by_cases hj:j<=L.length
 .exact wL hj h
 .have e:=wL (L:=L) (j:=L.length) (am _) h
  have b:=PyProof.Rows.slice_to_beyond (x:=tx L) (j:=(j:Int)) (by rw[dL];omega);rw[ky (am _)]at e;rw[ky (by omega),<-e];show(if(tx L).length<=16777216 then some (PV.str (iu (tx L) none (some (j:Int))))else none)=_;rw[b,dL];rfl
theorem Ee:(" by ":Str)=tx [32,98,121,32]:=by kernel_rfl
theorem T7(S:aQ){T:Str}(hf:jY T [.str " by "]=some (.int (-1))):iJ [.pv (.str T)] S=.ok (.pv .non) S:=by
 unfold iJ bA uM;generalize (" by ":Str)=BY at *;simp! [aG,aR,aU,aI,aN,aM,aK,aL,aH,aJ,bS,bY,hf]
theorem T9(S:aQ){T P U V W:Str}{i:Int}{bp bt:Bool}{C F:PV}(hf:jY T [.str " by "]=some (.int i))(hi:¬i<0)(s1:gD (.str T) none (some i)=some (.str P))(s2:gD (.str T) (some (i+4)) none=some (.str U))(s3:gD (.str U) none (some 5)=some (.str V))(s4:gD (.str U) (some 5) none=some (.str W))(hp:(V==("push ":Str))=bp)(ht:(V==("turn ":Str))=bt)(hc:kW [.pv (.str P)] S=.ok (.pv C) S)(hw:fW [.pv (.str W)] S=.ok (.pv F) S):(C=.non\/F=.non\/(bp=false/\bt=false)->iJ [.pv (.str T)] S=.ok (.pv .non) S)/\(∀(cs fs:BH),C=.lst cs->F=.tup fs->(bp=true\/bt=true)->iJ [.pv (.str T)] S=.ok (.pv (if fs.length=cs.length then .tup [C,.int (if bp=true then 1 else-1),F] else .non)) S):=by
 unfold iJ bA uM;have hi:(i<0)=False:=by simpa using hi
 have nN:∀x:PV,x=.non\/∃k,gY x=some (.bl k):=λx=>by cases x<;>simp[gY]
 generalize ("turn ":Str)=TU,("push ":Str)=PU,(" by ":Str)=BY at *;refine⟨λz=>?_,λcs fs e1 e2 z=>?_⟩
 .cases bp with
  |true=>
   rcases z with rfl |rfl |⟨y,_⟩
   .simp! [aG,aR,aU,aI,aN,aM,aK,aL,aH,aJ,bS,bY,hf,hi,s1,s2,s3,s4,cR,bV,bW,cV,hp,hc,hw,gY]
   .cases C<;>simp! [aG,aR,aU,aI,aN,aM,aK,aL,aH,aJ,bS,bY,hf,hi,s1,s2,s3,s4,cR,bV,bW,cV,hp,hc,hw,gY]
   .cases y
  |false=>
   cases bt with
   |true=>
    rcases z with rfl |rfl |⟨_,y⟩
    .simp! [aG,aR,aU,aI,aN,aM,aK,aL,aH,aJ,bS,bY,hf,hi,s1,s2,s3,s4,cR,bV,bW,cV,hp,ht,hc,hw,gY]
    .cases C<;>simp! [aG,aR,aU,aI,aN,aM,aK,aL,aH,aJ,bS,bY,hf,hi,s1,s2,s3,s4,cR,bV,bW,cV,hp,ht,hc,hw,gY]
    .cases y
   |false=>cases C<;>simp! [aG,aR,aU,aI,aN,aM,aK,aL,aH,aJ,bS,bY,hf,hi,s1,s2,s3,s4,cR,bV,bW,cV,hp,ht,hc,gY]
 .subst e1 e2
  have u1:bF (.int 2) (.int 1)=some (.int 2):=kM 2 (j:=1) (by decide) (by decide);have u0:bF (.int 2) (.int 0)=some (.int 0):=kM 2 (j:=0) (by decide) (by decide);cases bp with
  |true=>
   by_cases y:fs.length=cs.length
   .simp! [aG,aR,aU,aI,aN,aM,aK,aL,aH,aJ,bS,bY,hf,hi,s1,s2,s3,s4,cR,bV,bW,cV,hp,hc,hw,gY,u1,u0,rA,y]
   .have yy:((fs.length:Int)=(cs.length:Int))=False:=eq_false λz=>y (by omega)
    simp! [aG,aR,aU,aI,aN,aM,aK,aL,aH,aJ,bS,bY,hf,hi,s1,s2,s3,s4,cR,bV,bW,cV,hp,hc,hw,gY,y,yy]
  |false=>
   have z:bt=true:=by simpa using z
   subst z
   by_cases y:fs.length=cs.length
   .simp! [aG,aR,aU,aI,aN,aM,aK,aL,aH,aJ,bS,bY,hf,hi,s1,s2,s3,s4,cR,bV,bW,cV,hp,hc,hw,gY,u1,u0,rA,y,ht]
   .have yy:((fs.length:Int)=(cs.length:Int))=False:=eq_false λz=>y (by omega)
    simp! [aG,aR,aU,aI,aN,aM,aK,aL,aH,aJ,bS,bY,hf,hi,s1,s2,s3,s4,cR,bV,bW,cV,hp,hc,hw,gY,y,yy,ht]
theorem Fq(S:aQ){T:Str}{PL:BH}(e:fL T [.str " by "]=some (.lst PL))(h:PL.length≠2):gL [.pv (.str T)] S=.exc "NoText" S:=by
 have r0:=gU S false;have h:((PL.length:Int)==2)=false:=beq_false_of_ne λz=>h (by omega);unfold gL bA uL;generalize (" by ":Str)=BY at *;simp! [aG,aR,aU,aI,aN,aM,aK,aL,aH,aJ,bS,bY,e,h,r0]
theorem Pd(S:aQ){T P U:Str}(e:fL T [.str " by "]=some (.lst [.str P,.str U])):(lQ [.pv (.str P)] S=.exc "NoText" S->gL [.pv (.str T)] S=.exc "NoText" S)/\(∀C,lQ [.pv (.str P)] S=.ok (.pv C) S->(kY [.pv (.str U)] S=.exc "NoText" S->gL [.pv (.str T)] S=.exc "NoText" S)/\∀V,kY [.pv (.str U)] S=.ok (.pv V) S->gL [.pv (.str T)] S=.ok (.pv (.tup [C,V])) S):=by
 have r1:=gU S true;unfold gL bA uL;generalize (" by ":Str)=BY at *;refine⟨λh=>?_,λC h=>⟨λg=>?_,λV g=>?_⟩⟩
 .simp! [aG,aR,aU,aI,aN,aM,aK,aL,aH,aJ,bS,bY,e,r1,h]
 .simp! [aG,aR,aU,aI,aN,aM,aK,aL,aH,aJ,bS,bY,e,r1,h,g]
 .simp! [aG,aR,aU,aI,aN,aM,aK,aL,aH,aJ,bS,bY,e,r1,h,g]
theorem Hz{L:List Nat}(h:fK 9000 L):(∀S,gL [.pv (.str (tx L))] S=.exc "NoText" S/\iJ [.pv (.str (tx L))] S=.ok (.pv .non) S)\/∃(us:BB)(n:Nat)(v:BA)(m:Nat)(w:Int),(n=2\/n=3)/\(m=2\/m=3)/\(w=1\/w=-1)/\us.length=n+1/\(∀u∈us,Gu n 1000 u)/\Gu m 1000 v/\∀S,gL [.pv (.str (tx L))] S=.ok (.pv (.tup [.lst (us.map tv),.tup [.int w,tv v]])) S/\iJ [.pv (.str (tx L))] S=.ok (.pv (if m=n then .tup [.lst (us.map tv),.int w,tv v] else .non)) S:=by
 obtain⟨P,es,hi,hP⟩:=W9 L [32,98,121,32] (by kernel_rfl);have hq:=h.part hi;have ef:=Hb es h.2 (by decide);rw[<-Ee]at ef;have ff:jY (tx L) [.str " by "]=some (.int (kd (tx L) (tx [32,98,121,32]))):=by rw[Ee];rfl
 rcases hP with⟨rfl,e⟩|⟨p,q,R,rfl,e⟩
 .left
  rw[e]at ff;exact λS=>⟨Fq S ef (by simp),T7 S ff⟩
 .rw[e]at ff
  have hj:p++([32,98,121,32]++jn [32,98,121,32] (q::R))=L:=hi;generalize hT:jn [32,98,121,32] (q::R)=T at *;have aT:fK 9000 T:=⟨λc hc=>h.1 c (by rw[<-hj];exact ck _ (ck _ hc)),by have:=h.2;rw[<-hj]at this;simp at this;omega⟩;have s1:gD (.str (tx L)) none (some (p.length:Int))=some (.str (tx p)):=by
   rw[Kn L p.length (by have:=h.2;omega),<-hj];simp
  have s2:gD (.str (tx L)) (some ((p.length:Int)+4)) none=some (.str (tx T)):=by
   rw[sO (j:=p.length+4) (by omega) (by have:=h.2;omega),<-hj,AO,yx (by omega)];have:p.length+4-p.length=4:=by omega
   rw[this];rfl
  have s3:gD (.str (tx T)) none (some 5)=some (.str (tx (T.take 5))):=Kn T 5 (by have:=aT.2;omega);have s4:gD (.str (tx T)) (some 5) none=some (.str (tx (T.drop 5))):=sO (j:=5) rfl (by have:=aT.2;omega);have bp:(tx (T.take 5)==("push ":Str))=decide (T.take 5=pu):=by rw[K5,yK]
  have bt:(tx (T.take 5)==("turn ":Str))=decide (T.take 5=tu):=by rw[S5,yK]
  have aD:fK 9000 (T.drop 5):=⟨λc hc=>aT.1 c (qt hc),by rw[jm];have:=aT.2;omega⟩;have lw:∀S(C F:PV),kW [.pv (.str (tx p))] S=.ok (.pv C) S->fW [.pv (.str (tx (T.drop 5)))] S=.ok (.pv F) S->_:=λS C F hc hw=>T9 S ff (by omega) s1 s2 s3 s4 bp bt hc hw;have cv:∃C:PV,∀S,kW [.pv (.str (tx p))] S=.ok (.pv C) S:=by
   rcases Iq (hq p ay)with z |⟨us,n,_,_,_,z⟩
   .exact⟨_,λS=>(z S).2⟩
   .exact⟨_,λS=>(z S).2⟩
  have fv:∃F:PV,∀S,fW [.pv (.str (tx (T.drop 5)))] S=.ok (.pv F) S:=by
   rcases Md aD with z |⟨us,n,_,_,z⟩
   .exact⟨_,λS=>(z S).2⟩
   .exact⟨_,λS=>(z S).2⟩
  cases R with
  |cons r R=>
   left;refine λS=>⟨Fq S ef (by simp),?_⟩;obtain⟨C,hC⟩:=cv;obtain⟨F,hF⟩:=fv;have l:=(lw S C F (hC S) (hF S)).1
   by_cases y:T.take 5=pu\/T.take 5=tu
   .have hb:98∈T.drop 5:=by
     have m:98∈T:=by
      rw[<-hT];show 98∈q++([32,98,121,32]++jn [32,98,121,32] (r::R));exact ck _ (jt _ (by decide))
     rw[<-ze 5 T]at m;rcases cu.mp m with z |z
     .rcases y with y |y<;>(rw[y]at z;exact absurd z (by decide))
     .exact z
    have:=acd aD hb S;rw[hF S]at this;have:F=.non:=by simpa using this
    exact l (.inr (.inl this))
   .exact l (.inr (.inr ⟨decide_eq_false λz=>y (.inl z),decide_eq_false λz=>y (.inr z)⟩))
  |nil=>
   have hT:q=T:=hT;subst hT;have ef:fL (tx L) [.str " by "]=some (.lst [.str (tx p),.str (tx q)]):=ef;rcases Iq (hq p ay)with z |⟨us,n,hn,lu,gu,z⟩
   .left
    obtain⟨F,hF⟩:=fv;exact λS=>⟨(Pd S ef).1 (z S).1,(lw S _ F (z S).2 (hF S)).1 (.inl rfl)⟩
   .rcases abK aT with⟨y,y2⟩|⟨v,m,hm,gv,ht,y⟩
    .left
     obtain⟨F,hF⟩:=fv;refine λS=>⟨((Pd S ef).2 _ (z S).1).1 (y S),?_⟩;rcases y2 with⟨n1,n2⟩|y2
     .exact(lw S _ F (z S).2 (hF S)).1 (.inr (.inr ⟨decide_eq_false n1,decide_eq_false n2⟩))
     .exact(lw S _ _ (z S).2 (y2 S)).1 (.inr (.inl rfl))
    .right
     refine⟨us,n,v,m,if q.take 5=pu then 1 else-1,hn,hm,by split<;>simp,lu,gu,gv,λS=>⟨((Pd S ef).2 _ (z S).1).2 _ (y S).2,?_⟩⟩;have hq2:decide (q.take 5=pu)=true\/decide (q.take 5=tu)=true:=by
      rcases ht with x |x
      .exact .inl (decide_eq_true x)
      .exact .inr (decide_eq_true x)
     have:=(lw S _ _ (z S).2 (y S).1).2 _ (v.map .int) rfl rfl hq2;rw[this];obtain⟨xs,x,ev,Q⟩:=gv;have lv:v.length=m+1:=by rw[ev,bq,Q.len];rfl
     have l1:((v.map PV.int).length=(us.map tv).length)↔m=n:=by rw[ar,ar,lv,lu];omega
     by_cases k:m=n
     .rw[if_pos (l1.mpr k),if_pos k]
      by_cases k2:q.take 5=pu
      .rw[if_pos k2,decide_eq_true k2,if_pos rfl]
      .rw[if_neg k2,decide_eq_false k2,if_neg (by decide)]
     .rw[if_neg (λx=>k (l1.mp x)),if_neg k]
abbrev vR(us:BB):PV:=.lst (us.map tv)
abbrev Pt:=BB×Nat×BA×Nat×Int
abbrev oV(y:Pt):PV:=.tup [.int y.2.2.2.2,tv y.2.2.1]
abbrev rV(y:Pt):PV:=.tup [vR y.1,oV y]
abbrev lV(y:Pt):PV:=.tup [vR y.1,.int y.2.2.2.2,tv y.2.2.1]
def Pk(y:Pt):Prop:=(y.2.1=2\/y.2.1=3)/\(y.2.2.2.1=2\/y.2.2.2.1=3)/\(y.2.2.2.2=1\/y.2.2.2.2=-1)/\y.1.length=y.2.1+1/\(∀u∈y.1,Gu y.2.1 1000 u)/\Gu y.2.2.2.1 1000 y.2.2.1
theorem Gu.lng{n k:Nat}{v:BA}(h:Gu n k v):v.length=n+1:=by
 obtain⟨xs,x,ev,Q⟩:=h;rw[ev,bq,Q.len];rfl
abbrev kS:MS:=(eA (cL jK [] (aC (iA bM bM (mR bR (aC (aA 2) aF)) (mR bR (aC (aE aG (aA 3) (mC (.int 1))) aF)) (mR bR (aC (aE aG (aE aG (aA 1) (mC (.int 0))) (mC (.int 0))) aF))) aF)))
abbrev lN:GM:=gT 2 (cP (gN 2) (cP (gN 3) eB))
theorem K9(S:aQ){y z:Pt}(hy:Pk y)(hz:Pk z){RL:BH}(x0:BJ)(h0:aG (.lst RL) (.int 0)=some (rV z)):kS [x0,some (.pv (.lst RL)),some (.pv (vR y.1)),some (.pv (oV y))] S=if y.2.1=y.2.2.2.1/\y.2.1=z.2.1 then .nx [x0,some (.pv (.lst RL)),some (.pv (vR y.1)),some (.pv (oV y))] S else .exc "NoText" S:=by
 obtain⟨_,_,_,l1,_,g1⟩:=hy;obtain⟨_,_,_,l2,_,_⟩:=hz;have r1:=gU S true;have r0:=gU S false;have a1:((y.1.map tv).length:Int)=(y.2.1:Int)+1:=by rw[ar,l1];rfl
 have a2:((y.2.2.1.map PV.int).length:Int)=(y.2.2.2.1:Int)+1:=by rw[ar,g1.lng];rfl
 have a3:((z.1.map tv).length:Int)=(z.2.1:Int)+1:=by rw[ar,l2];rfl
 have f1:bR [vR y.1]=some (.int ((y.2.1:Int)+1)):=by rw[<-a1];rfl
 have f2:bR [tv y.2.2.1]=some (.int ((y.2.2.2.1:Int)+1)):=by rw[<-a2];rfl
 have f3:bR [vR z.1]=some (.int ((z.2.1:Int)+1)):=by rw[<-a3];rfl
 have i1:aG (oV y) (.int 1)=some (tv y.2.2.1):=by simp[aG,aR,aU]
 have i2:aG (rV z) (.int 0)=some (vR z.1):=by simp[aG,aR,aU]
 have q1:∀a b:Nat,bM (.int ((a:Int)+1)) (.int ((b:Int)+1))=some (.bl (decide (a=b))):=λa b=>by
  have:(((a:Int)+1)==((b:Int)+1))=decide (a=b):=by
   by_cases h:a=b
   .rw[decide_eq_true h,h];simp
   .rw[decide_eq_false h];exact beq_false_of_ne λz=>h (by omega)
  simp[bM,bZ,this]
 have p1:=q1 y.2.1 y.2.2.2.1;have p2:=q1 y.2.2.2.1 z.2.1;generalize oV y=V5,rV z=V4,tv y.2.2.1=V2,vR z.1=V3,vR y.1=V1,(z.2.1:Int)+1=N3,(y.2.2.2.1:Int)+1=N2,(y.2.1:Int)+1=N1 at *;unfold kS
 by_cases h1:y.2.1=y.2.2.2.1
 .rw[decide_eq_true h1]at p1
  by_cases h2:y.2.2.2.1=z.2.1
  .rw[decide_eq_true h2]at p2
   rw[if_pos ⟨h1,h1.trans h2⟩];simp[eA,cL,aC,aF,iA,mR,aE,aA,mC,fQ,jQ,fS,rd,iP,fN,bT.bind,cU.of,frz,h0,f1,f2,f3,i1,i2,p1,p2,r1]
  .rw[decide_eq_false h2]at p2
   rw[if_neg λk=>h2 (h1.symm.trans k.2)];simp[eA,cL,aC,aF,iA,mR,aE,aA,mC,fQ,jQ,fS,rd,iP,fN,bT.bind,cU.of,frz,h0,f1,f2,f3,i1,i2,p1,p2,r0]
 .rw[decide_eq_false h1]at p1
  rw[if_neg λk=>h1 k.1];simp[eA,cL,aC,aF,iA,mR,aE,aA,mC,fQ,jQ,fS,rd,iP,fN,bT.bind,cU.of,frz,h0,f1,f2,i1,p1,r0]
theorem Fm(S:aQ){z:Pt}(hz:Pk z){RL:BH}(x0:BJ)(h0:aG (.lst RL) (.int 0)=some (rV z)):∀(ys:List Pt)(x2 x3:BJ),(∀y∈ys,Pk y)->((∃y∈ys,¬(y.2.1=y.2.2.2.1/\y.2.1=z.2.1))->dQ [] lN kS (ys.map rV) [x0,some (.pv (.lst RL)),x2,x3] S=.exc "NoText" S)/\((∀y∈ys,y.2.1=y.2.2.2.1/\y.2.1=z.2.1)->∃y2 y3,dQ [] lN kS (ys.map rV) [x0,some (.pv (.lst RL)),x2,x3] S=.nx [x0,some (.pv (.lst RL)),y2,y3] S)
 |[],x2,x3,_=>⟨λ⟨_,h,_⟩=>(nomatch h),λ_=>⟨x2,x3,hV⟩⟩
 |y::ys,x2,x3,h=>by
  obtain⟨c1,c2⟩:=Fm S hz x0 h0 ys (some (.pv (vR y.1))) (some (.pv (oV y))) λw hw=>h w (bf _ hw);have st:=K9 S (h y ay) hz x0 h0;have eg:lN (rV y) [x0,some (.pv (.lst RL)),x2,x3]=some [x0,some (.pv (.lst RL)),some (.pv (vR y.1)),some (.pv (oV y))]:=by
   simp[gT,cP,eB,gN]
  have e:∀r,dQ [] lN kS (ys.map rV) [x0,some (.pv (.lst RL)),some (.pv (vR y.1)),some (.pv (oV y))] S=r->(y.2.1=y.2.2.2.1/\y.2.1=z.2.1)->dQ [] lN kS ((y::ys).map rV) [x0,some (.pv (.lst RL)),x2,x3] S=r:=λr hr hq=>by
   rw[if_pos hq]at st;rw[cg,gG];rw[eg];dsimp only;rw[st];exact hr
  by_cases hq:y.2.1=y.2.2.2.1/\y.2.1=z.2.1
  .refine⟨λhx=>e _ (c1 ?_) hq,λhx=>?_⟩
   .obtain⟨w,hw,hn⟩:=hx
    rcases ce.mp hw with rfl |hw
    .exact absurd hq hn
    .exact⟨w,hw,hn⟩
   .obtain⟨y2,y3,e2⟩:=c2 λw hw=>hx w (bf _ hw)
    exact⟨y2,y3,e _ e2 hq⟩
  .refine⟨λ_=>?_,λhx=>absurd (hx y ay) hq⟩
   rw[if_neg hq]at st;rw[cg,gG];rw[eg];dsimp only;rw[st]
abbrev rO:GM:=gT 2 (cP (gN 0) (cP (gN 1) eB))
theorem Vn{S:aQ}{me:ME}{α:Type}(A1 A2 B:α->PV)(bad:α->Prop)(n:Str):∀(L:List α)(x y:BJ),(∀v∈L,(bad v->me [some (.pv (A1 v)),some (.pv (A2 v))] S=.exc n S)/\(¬bad v->me [some (.pv (A1 v)),some (.pv (A2 v))] S=.ok (.pv (B v)) S))->((∃v∈L,bad v)->eX [] rO me (L.map λv=>.tup [A1 v,A2 v]) [x,y] S=.exc n S)/\((∀v∈L,¬bad v)->eX [] rO me (L.map λv=>.tup [A1 v,A2 v]) [x,y] S=.ok (L.map B) S)
 |[],x,y,_=>⟨λ⟨_,h,_⟩=>(nomatch h),λ_=>Ca⟩
 |v::L,x,y,h=>by
  obtain⟨a,b⟩:=h v ay;obtain⟨c,d⟩:=Vn A1 A2 B bad n L (some (.pv (A1 v))) (some (.pv (A2 v))) λu hu=>h u (bf _ hu);have eg:rO (.tup [A1 v,A2 v]) [x,y]=some [some (.pv (A1 v)),some (.pv (A2 v))]:=by simp[gT,cP,eB,gN]
  refine⟨λhb=>?_,λhb=>?_⟩
  .rw[cg,uT,eg]
   dsimp only
   by_cases hv:bad v
   .rw[a hv]
   .have:∃u∈L,bad u:=by
     obtain⟨u,hu,z⟩:=hb;rcases ce.mp hu with rfl |hu
     .exact absurd z hv
     .exact⟨u,hu,z⟩
    rw[b hv];dsimp only;rw[c this]
  .rw[cg,uT,eg]
   dsimp only;rw[b (hb v ay)];dsimp only;rw[d λu hu=>hb u (bf _ hu)];rfl
abbrev yT:ME:=(mN eI (aC (cL kF [] (aC (aA 0) aF)) (aC (aA 1) aF)))
abbrev fV(y:Pt):PV:=.tup [px (fI y.1),oV y]
theorem L3(S:aQ){ys:List Pt}(h:∀y∈ys,Pk y):((∃y∈ys,dU y.1=0)->eX [] rO yT (ys.map rV) [none,none] S=.exc "Flat" S)/\((∀y∈ys,¬dU y.1=0)->eX [] rO yT (ys.map rV) [none,none] S=.ok (ys.map fV) S):=by
 refine Vn (S:=S) (λy:Pt=>vR y.1) oV fV (λy=>dU y.1=0) "Flat" ys none none λy hy=>?_;obtain⟨hn,_,_,l,g,_⟩:=h y hy;have e0:=qG hn (am 1000) l g;unfold yT;refine⟨λz=>?_,λz=>?_⟩
 .have e:=Gv (A:=vR y.1) hn S l g (.inl rfl) (by rw[e0,z];rfl)
  generalize oV y=O,vR y.1=T at *;simp! [aG,aR,aU,aI,aN,aM,aK,aL,aH,aJ,e]
 .have e:=Bv (A:=vR y.1) hn S l g (.inl rfl) (by rw[e0];exact λk=>z (wA.mp k))
  have e:kF [.pv (vR y.1)] S=.ok (.pv (px (fI y.1))) S:=e;have hf:fV y=.tup [px (fI y.1),oV y]:=rfl;rw[hf];generalize oV y=O,vR y.1=T,px (fI y.1)=R at *;simp! [aG,aR,aU,aI,aN,aM,aK,aL,aH,aJ,e]
abbrev Ie:ME:=(aE bM (mR bR (aC (aE aG (aA 0) (mC (.int 0))) aF)) (mR bR (aC (aE aG (aE aG (aA 1) (mC (.int 0))) (mC (.int 0))) aF)))
theorem Q3(S:aQ){ys:List Pt}{z:Pt}(hz:Pk z)(hk:∀y∈ys,Pk y)(h0:aG (.lst (ys.map lV)) (.int 0)=some (lV z)):cN [] (gN 0) Ie (ys.map lV) [none,some (.pv (.lst (ys.map lV)))] S=.ok (ys.map λy=>.bl (decide (y.2.1=z.2.1))) S:=by
 refine nC (jO S) lV (λy=>.bl (decide (y.2.1=z.2.1))) ys none λy hy=>?_;obtain⟨_,_,_,l1,_,_⟩:=hk y hy;obtain⟨_,_,_,l2,_,_⟩:=hz;have a1:((y.1.map tv).length:Int)=(y.2.1:Int)+1:=by rw[ar,l1];rfl
 have a3:((z.1.map tv).length:Int)=(z.2.1:Int)+1:=by rw[ar,l2];rfl
 have f1:bR [vR y.1]=some (.int ((y.2.1:Int)+1)):=by rw[<-a1];rfl
 have f3:bR [vR z.1]=some (.int ((z.2.1:Int)+1)):=by rw[<-a3];rfl
 have i1:aG (lV y) (.int 0)=some (vR y.1):=by simp[aG,aR,aU]
 have i2:aG (lV z) (.int 0)=some (vR z.1):=by simp[aG,aR,aU]
 have q1:bM (.int ((y.2.1:Int)+1)) (.int ((z.2.1:Int)+1))=some (.bl (decide (y.2.1=z.2.1))):=by
  have:(((y.2.1:Int)+1)==((z.2.1:Int)+1))=decide (y.2.1=z.2.1):=by
   by_cases h:y.2.1=z.2.1
   .rw[decide_eq_true h,h];simp
   .rw[decide_eq_false h];exact beq_false_of_ne λz=>h (by omega)
  simp[bM,bZ,this]
 generalize ys.map lV=YL,lV y=V5,lV z=V4,vR z.1=V3,vR y.1=V1,(z.2.1:Int)+1=N3,(y.2.1:Int)+1=N1,decide (y.2.1=z.2.1)=D at *;unfold Ie;simp[aC,aF,mR,aE,aA,mC,fQ,jQ,fS,rd,iP,fN,bT.bind,h0,f1,f3,i1,i2,q1]
theorem abe{L:List Nat}(h:fK 9000 L):(∀S,jL [.pv (.str (tx L))] S=.exc "NoText" S/\kX [.pv (.str (tx L))] S=.ok (.pv .non) S)\/∃(ys:List Pt)(n:Nat),(n=2\/n=3)/\(∀y∈ys,Pk y/\y.2.1=n/\y.2.2.2.1=n)/\∀S,kX [.pv (.str (tx L))] S=.ok (.pv (.lst (ys.map lV))) S/\((∃y∈ys,dU y.1=0)->jL [.pv (.str (tx L))] S=.exc "Flat" S)/\((∀y∈ys,¬dU y.1=0)->jL [.pv (.str (tx L))] S=.ok (.pv (.tup (ys.map fV))) S):=by
 obtain⟨Q,es,hi,hne⟩:=Dp L [32,43,32];have hq:=h.part hi;have ef:=Hb es h.2 (by decide);rw[<-Po]at ef;cases b0:(tx L==("none":Str))with
 |true=>
  right;refine⟨[],2,.inl rfl,λ_ h=>(nomatch h),λS=>⟨?_,λ⟨_,h,_⟩=>(nomatch h),λ_=>?_⟩⟩
  .unfold kX bA rX
   generalize tx L=TL at *;simp! [aG,aR,aU,aI,aN,aM,aK,aL,aH,aJ,b0]
  .have e1:pQ [.pv (.str (tx L))] S=.ok (.pv (.lst [])) S:=by
    unfold pQ bA uP;generalize tx L=TL at *;simp! [aG,aR,aU,aI,aN,aM,aK,aL,aH,aJ,b0]
   unfold jL bA lR;generalize tx L=TL at *;simp! [aG,aR,aU,aI,aN,aM,aK,aL,aH,aJ,fR,cC,bN,cE,e1,Ca,dB,hV]
 |false=>
 have e1:∀S,pQ [.pv (.str (tx L))] S=.ok (.pv (.lst (Q.map λp=>PV.str (tx p)))) S:=λS=>by
  unfold pQ bA uP;generalize tx L=TL,(Q.map λp=>PV.str (tx p))=SL at *;simp! [aG,aR,aU,aI,aN,aM,aK,aL,aH,aJ,b0,bS,bY,ef]
 have pk:∀p∈Q,(∀S,gL [.pv (.str (tx p))] S=.exc "NoText" S/\iJ [.pv (.str (tx p))] S=.ok (.pv .non) S)\/∃y:Pt,Pk y/\∀S,gL [.pv (.str (tx p))] S=.ok (.pv (rV y)) S/\iJ [.pv (.str (tx p))] S=.ok (.pv (if y.2.2.2.1=y.2.1 then lV y else .non)) S:=λp hp=>by
  rcases Hz (hq p hp)with z |⟨us,n,v,m,w,a,b,c,d,e,f,g⟩
  .exact .inl z
  .exact .inr ⟨(us,n,v,m,w),⟨a,b,c,d,e,f⟩,g⟩
 obtain⟨f,bad,hf⟩:=Fr (L:=Q) (β:=Pt) pk;have st:∀S,∀p∈Q,(bad p->(cL gL [] (aC (aA 0) aF)) [some (.pv (.str (tx p)))] S=.exc "NoText" S)/\(¬bad p->(cL gL [] (aC (aA 0) aF)) [some (.pv (.str (tx p)))] S=.ok (.pv (rV (f p))) S):=λS p hp=>by
  refine⟨λz=>?_,λz=>?_⟩
  .have e:=((hf p hp).1 z S).1
   simp! [aG,aR,aU,aI,aN,aM,aK,aL,aH,aJ,e]
  .have e:=(((hf p hp).2 z).2 S).1
   generalize tx p=T,rV (f p)=F at *;simp! [aG,aR,aU,aI,aN,aM,aK,aL,aH,aJ,e]
 have lw:∀S,cN [] (gN 0) (bD iJ [] (aC (aA 0) aF)) (Q.map λp=>PV.str (tx p)) [none] S=.ok (Q.map λp=>@ite _ (bad p) (jp _) PV.non (if(f p).2.2.2.1=(f p).2.1 then lV (f p)else .non)) S:=λS=>nC (jO S) (me:=bD iJ [] (aC (aA 0) aF)) (tail:=[]) (λp=>PV.str (tx p)) (λp=>@ite _ (bad p) (jp _) PV.non (if(f p).2.2.2.1=(f p).2.1 then lV (f p)else .non)) Q none λp hp=>by
  by_cases z:bad p
  .rw[if_pos z]
   have e:=((hf p hp).1 z S).2;simp! [aG,aR,aU,aI,aN,aM,aK,aL,aH,aJ,e]
  .rw[if_neg z]
   have e:=(((hf p hp).2 z).2 S).2;generalize tx p=T,(if(f p).2.2.2.1=(f p).2.1 then lV (f p)else PV.non)=F at *;simp! [aG,aR,aU,aI,aN,aM,aK,aL,aH,aJ,e]
 have lno:∀S,(Q.map λp=>@ite _ (bad p) (jp _) PV.non (if(f p).2.2.2.1=(f p).2.1 then lV (f p)else .non)).any gX=true->kX [.pv (.str (tx L))] S=.ok (.pv .non) S:=λS a1=>by
  have ec:=lw S;unfold kX bA rX;generalize tx L=TL,(Q.map λp=>PV.str (tx p))=SL,(Q.map λp=>@ite _ (bad p) (jp _) PV.non (if(f p).2.2.2.1=(f p).2.1 then lV (f p)else PV.non))=NL,(bD iJ [] (aC (aA 0) aF))=ME1 at *;simp! [aG,aR,aU,aI,aN,aM,aK,aL,aH,aJ,b0,bO,cC,bN,bS,bY,ef,cE,ec,gJ,a1]
 by_cases hx:∃p∈Q,bad p
 .left
  refine λS=>⟨?_,lno S ?_⟩
  .have ec:=uR (S:=S) (tail:=[]) (λp=>PV.str (tx p)) (λp=>rV (f p)) bad "NoText" Q none (st S) hx
   have e1:=e1 S;unfold jL bA lR;generalize tx L=TL,(Q.map λp=>PV.str (tx p))=SL,(cL gL [] (aC (aA 0) aF))=ME1 at *;simp! [aG,aR,aU,aI,aN,aM,aK,aL,aH,aJ,fR,cC,bN,cE,e1,ec]
  .obtain⟨p,hp,z⟩:=hx
   refine vg.mpr ⟨_,df.mpr ⟨p,hp,rfl⟩,?_⟩;rw[if_pos z];rfl
 .have nb:∀p∈Q,¬bad p:=λp hp z=>hx ⟨p,hp,z⟩
  have ec:∀S,eX [] (gN 0) (cL gL [] (aC (aA 0) aF)) (Q.map λp=>PV.str (tx p)) [none] S=.ok ((Q.map f).map rV) S:=λS=>by
   rw[di];exact sD (S:=S) (tail:=[]) (λp=>PV.str (tx p)) (rV∘f) Q none λp hp=>(st S p hp).2 (nb p hp)
  have em:(Q.map λp=>@ite _ (bad p) (jp _) PV.non (if(f p).2.2.2.1=(f p).2.1 then lV (f p)else .non))=(Q.map f).map λy=>if y.2.2.2.1=y.2.1 then lV y else .non:=by
   rw[di];refine im λp hp=>?_;rw[if_neg (nb p hp)];rfl
  rw[em]at lno lw;have hk:∀y∈Q.map f,Pk y:=λy hy=>by
   obtain⟨p,hp,rfl⟩:=df.mp hy;exact((hf p hp).2 (nb p hp)).1
  have ne:Q.map f≠[]:=λz=>hne (vd.mp z);clear hf st pk hq nb em hx;generalize Q.map f=ys at *;obtain⟨z,dM,er⟩:∃z dM,ys=z::dM:=by
   cases ys with
   |nil=>exact absurd rfl ne
   |cons a r=>exact⟨a,r,rfl⟩
  have hz:Pk z:=hk z (by rw[er];exact ay);have h0:aG (.lst (ys.map rV)) (.int 0)=some (rV z):=by rw[er];exact oO (j:=0) rfl
  have pr:∀S,(dB (bN (aA 1)) lN kS) [some (.pv (.str (tx L))),some (.pv (.lst (ys.map rV))),none,none] S=dQ [] lN kS (ys.map rV) [some (.pv (.str (tx L))),some (.pv (.lst (ys.map rV))),none,none] S:=λS=>by
   generalize tx L=TL,ys.map rV=YL at *;simp[dB,bN,aA,cE,bT.bind,cU.of]
  have cl:=λS=>Fm S hz (some (.pv (.str (tx L)))) h0 ys none none hk;have fl:∀S,(∀y∈ys,y.2.2.2.1=y.2.1)->kX [.pv (.str (tx L))] S=.ok (.pv (if(∀y∈ys,y.2.1=z.2.1)then .lst (ys.map lV)else .non)) S:=λS ha=>by
   have em:(ys.map λy=>if y.2.2.2.1=y.2.1 then lV y else PV.non)=ys.map lV:=im λy hy=>by rw[if_pos (ha y hy)]
   have ec:=lw S;rw[em]at ec;have a1:(ys.map lV).any gX=false:=by
    rw[pz];intro x hx;obtain⟨u,_,rfl⟩:=df.mp hx;simp[gX]
   have h1:aG (.lst (ys.map lV)) (.int 0)=some (lV z):=by rw[er];exact oO (j:=0) rfl
   have el:=Q3 S hz hk h1;unfold Ie at el;have ea:=Fb (λy:Pt=>decide (y.2.1=z.2.1)) ys;have eb:(ys.all λy=>decide (y.2.1=z.2.1))=decide (∀y∈ys,y.2.1=z.2.1):=by
    rw[sw];simp
   rw[eb]at ea;unfold kX bA rX;clear lno pr cl lw em h0 h1 eb
   by_cases k:∀y∈ys,y.2.1=z.2.1
   .rw[if_pos k]
    rw[decide_eq_true k]at ea;generalize tx L=TL,(Q.map λp=>PV.str (tx p))=SL,ys.map lV=YL,(ys.map λy=>PV.bl (decide (y.2.1=z.2.1)))=BL,(aE bM (mR bR (aC (aE aG (aA 0) (mC (.int 0))) aF)) (mR bR (aC (aE aG (aE aG (aA 1) (mC (.int 0))) (mC (.int 0))) aF)))=ME2,(bD iJ [] (aC (aA 0) aF))=ME1 at *;simp! [aG,aR,aU,aI,aN,aM,aK,aL,aH,aJ,b0,bO,cC,bN,bS,bY,ef,cE,ec,gJ,a1,el,ea]
   .rw[if_neg k]
    rw[decide_eq_false k]at ea;generalize tx L=TL,(Q.map λp=>PV.str (tx p))=SL,ys.map lV=YL,(ys.map λy=>PV.bl (decide (y.2.1=z.2.1)))=BL,(aE bM (mR bR (aC (aE aG (aA 0) (mC (.int 0))) aF)) (mR bR (aC (aE aG (aE aG (aA 1) (mC (.int 0))) (mC (.int 0))) aF)))=ME2,(bD iJ [] (aC (aA 0) aF))=ME1 at *;simp! [aG,aR,aU,aI,aN,aM,aK,aL,aH,aJ,b0,bO,cC,bN,bS,bY,ef,cE,ec,gJ,a1,el,ea]
  by_cases hg:∀y∈ys,y.2.1=y.2.2.2.1/\y.2.1=z.2.1
  .right
   refine⟨ys,z.2.1,hz.1,λy hy=>⟨hk y hy,(hg y hy).2,(hg y hy).1.symm.trans (hg y hy).2⟩,λS=>?_⟩;have f1:=fl S λy hy=>(hg y hy).1.symm;rw[if_pos λy hy=>(hg y hy).2]at f1;obtain⟨y2,y3,e2⟩:=(cl S).2 hg;have p1:=pr S;rw[e2]at p1;obtain⟨c1,c2⟩:=L3 S hk;unfold yT rO at c1 c2;have ec:=ec S;have e1:=e1 S;clear lno pr cl lw fl h0 hg e2;refine⟨f1,λx=>?_,λx=>?_⟩
   .have c1:=c1 x
    unfold jL bA lR;clear c2 f1;generalize tx L=TL,(Q.map λp=>PV.str (tx p))=SL,ys.map rV=YL,(dB (bN (aA 1)) lN kS)=ST,(mN eI (aC (cL kF [] (aC (aA 0) aF)) (aC (aA 1) aF)))=ME2,(cL gL [] (aC (aA 0) aF))=ME1 at *;simp! [aG,aR,aU,aI,aN,aM,aK,aL,aH,aJ,fR,cC,bN,cE,e1,ec,p1,c1]
   .have c2:=c2 x
    unfold jL bA lR;clear c1 f1;generalize tx L=TL,(Q.map λp=>PV.str (tx p))=SL,ys.map fV=FL,ys.map rV=YL,(dB (bN (aA 1)) lN kS)=ST,(mN eI (aC (cL kF [] (aC (aA 0) aF)) (aC (aA 1) aF)))=ME2,(cL gL [] (aC (aA 0) aF))=ME1 at *;simp! [aG,aR,aU,aI,aN,aM,aK,aL,aH,aJ,fR,cC,bN,cE,e1,ec,p1,c2]
  .left
   refine λS=>⟨?_,?_⟩
   .have p1:=pr S
    rw[(cl S).1 (pf λk=>hg λy hy=>pf λm=>k ⟨y,hy,m⟩)]at p1;have ec:=ec S;have e1:=e1 S;clear lno pr cl lw fl h0 hg;unfold jL bA lR;generalize tx L=TL,(Q.map λp=>PV.str (tx p))=SL,ys.map rV=YL,(dB (bN (aA 1)) lN kS)=ST,(cL gL [] (aC (aA 0) aF))=ME1 at *;simp! [aG,aR,aU,aI,aN,aM,aK,aL,aH,aJ,fR,cC,bN,cE,e1,ec,p1]
   .by_cases ha:∀y∈ys,y.2.2.2.1=y.2.1
    .rw[fl S ha,if_neg λk=>hg λy hy=>⟨(ha y hy).symm,k y hy⟩]
    .refine lno S ?_
     obtain⟨y,hy,hn⟩:∃y∈ys,¬y.2.2.2.1=y.2.1:=pf λk=>ha λy hy=>pf λm=>k ⟨y,hy,m⟩;refine vg.mpr ⟨_,df.mpr ⟨y,hy,rfl⟩,?_⟩;rw[if_neg hn];rfl
abbrev pM:MS:=(aS (aY 5 (bO ["_law_m"] [(0,"_law_row_here")] (fF (aC (aA 1) aF)) (gN 0) (aE dN (bD cZ [] (aC (aA 1) (aC (mC (.int 9)) aF))) (mC (.int 4))))) (eA (iF (aA 3) (aC (bD gH [] (aC (aE aH (aA 5) (mN dW (aC (aE aH (mC (.int 1)) (bD cZ [] (aC (aA 0) (aC (mC (.int 3)) aF)))) aF))) aF)) aF))))
theorem O2{n:Nat}(hn:n=2\/n=3)(ns:BA){P:BB}(hP:P.length<=20)(x2 x4 x5:BJ):∃(p ns':BA)(y5:BJ),pM [some (.ref 0),some (.pv (.int (n:Int))),x2,some (.ref 1),x4,x5,none,none,none] [.lst (li ns),.lst (P.map tv)]=.nx [some (.ref 0),some (.pv (.int (n:Int))),x2,some (.ref 1),x4,y5,none,none,none] [.lst (li ns'),.lst ((P++[p]).map tv)]/\Gu n 6 p:=by
 obtain⟨xs,n1,e1,l1,b1⟩:=Od (m:=9) (c:=4) (by decide) (oA (by decide) (by decide)) [.lst (P.map tv)] (dZ 0 n) ns none;have lx:xs.length=n:=by rw[l1];unfold dZ;simp
 obtain⟨v,n2,e2,v0,v1⟩:=kB (R:=[.lst (P.map tv)]) n1 (m:=3) (by decide) (by decide);have bx:∀x∈xs,Bd 6 x:=λx hx=>Bd.of (n:=9) (by have:=b1 x hx;omega) (by decide);have bv:Bd 6 (1+v):=Bd.of (n:=9) (by omega) (by decide);obtain⟨zs,z,e3,Q,_⟩:=tG (n:=n) (k:=6) (L:=xs) (b:=1+v) (by omega) lx bx bv;have e4:=pW (xs++[1+v]) [.lst (li n2),.lst (P.map tv)] (λx hx=>by
  rcases cu.mp hx with y |y
  .exact(bx x y).mono (by decide)
  .have:x=1+v:=by simpa using y
   rw[this];exact bv.mono (by decide))
 rw[e3,nh,cg,il]at e4;have rg:=rN [.lst (li ns),.lst (P.map tv)] (n:=n) (by omega);have lz:(P.map tv).length<16777216:=by rw[ar];omega
 have ly:(li xs).length+1<=16777216:=by simp[li];omega
 refine⟨zs++[z],n2,some (.pv (.lst (li xs))),?_,zs,z,rfl,Q⟩;have ep:(P++[zs++[z]]).map tv=P.map tv++[tv (zs++[z])]:=by simp
 rw[ep];have e4:gH [.pv (.lst (li xs++[.int (1+v)]))] [.lst (li n2),.lst (P.map tv)]=.ok (.pv (tv (zs++[z]))) [.lst (li n2),.lst (P.map tv)]:=e4;clear b1 bx Q;generalize (n:Int)=N,dZ 0 n=IP,li xs=XL,P.map tv=PL,tv (zs++[z])=TR at *;unfold pM;simp! [bZ,aN,aM,aK,aL,aH,aJ,bO,cC,fF,rg,e1,e2,ly,e4,iF,fZ,mG,lz]
theorem Bm{n:Nat}(hn:n=2\/n=3)(x2:BJ):∀(is:BH)(P:BB)(ns:BA)(x4 x5:BJ),P.length+is.length<=20->(∀p∈P,Gu n 6 p)->∃(P':BB)(ns':BA)(y4 y5:BJ),dQ [] (gN 4) pM is [some (.ref 0),some (.pv (.int (n:Int))),x2,some (.ref 1),x4,x5,none,none,none] [.lst (li ns),.lst (P.map tv)]=.nx [some (.ref 0),some (.pv (.int (n:Int))),x2,some (.ref 1),y4,y5,none,none,none] [.lst (li ns'),.lst (P'.map tv)]/\P'.length=P.length+is.length/\∀p∈P',Gu n 6 p
 |[],P,ns,x4,x5,_,h=>⟨P,ns,x4,x5,hV,rfl,h⟩
 |i::is,P,ns,x4,x5,hl,h=>by
  have hl:P.length+(is.length+1)<=20:=hl;obtain⟨p,n1,y5,e1,g1⟩:=O2 hn ns (P:=P) (by omega) x2 (some (.pv i)) x5;obtain⟨P',n2,z4,z5,e2,l2,g2⟩:=Bm hn x2 is (P++[p]) n1 (some (.pv i)) y5 (by rw[bq,kr];omega) (λq hq=>by
   rcases cu.mp hq with z |z
   .exact h q z
   .have:q=p:=by simpa using z
    rw[this];exact g1)
  refine⟨P',n2,z4,z5,?_,by rw[l2,bq,kr,br];omega,g2⟩;rw[gG];simp only[gN,jr,gq];rw[e1];exact e2
theorem Z0{n:Nat}(hn:n=2\/n=3)(ns:BA)(w:Int){P:BB}(l1:P.length=n+1)(g1:∀p∈P,Gu n 6 p)(x4 x5:BJ):∃P' P2:BB,P'.length=n+1/\(∀p∈P',Gu n 90 p)/\(bP (aZ (aE bM (aA 2) (mC (.int 1)))) (iX (aA 3) (bX cW (mC (.int 1))) (aE aG (aA 3) (mC (.int 0)))) bQ) [some (.ref 0),some (.pv (.int (n:Int))),some (.pv (.int w)),some (.ref 1),x4,x5,none,none,none] [.lst (li ns),.lst (P.map tv)]=.nx [some (.ref 0),some (.pv (.int (n:Int))),some (.pv (.int w)),some (.ref 1),x4,x5,none,none,none] [.lst (li ns),.lst (P2.map tv)]/\(bP (aZ (aE bM (aA 2) (mC (.int 2)))) (iX (aA 3) (mC (.int 0)) (bD pR [] (aC (dY (aA 3) (bW (mC (.int 1))) bV) aF))) bQ) [some (.ref 0),some (.pv (.int (n:Int))),some (.pv (.int w)),some (.ref 1),x4,x5,none,none,none] [.lst (li ns),.lst (P2.map tv)]=.nx [some (.ref 0),some (.pv (.int (n:Int))),some (.pv (.int w)),some (.ref 1),x4,x5,none,none,none] [.lst (li ns),.lst (P'.map tv)]:=by
 have lp:(P.map tv).length=n+1:=by rw[ar];exact l1
 obtain⟨pa,ea⟩:∃p,P[0]?=some p:=⟨_,bh (by omega)⟩;have ga:=g1 pa (fm ea);have i0:aG (.lst (P.map tv)) (.int 0)=some (tv pa):=oO (j:=0) (by rw[fh,ea];rfl);have x0:aU (P.map tv).length 0=some 0:=by
  unfold aU;rw[if_pos (by omega),if_pos (by omega)];simp
 have xl:aU (P.map tv).length (-1)=some n:=by
  unfold aU;rw[if_neg (by omega),if_pos (by omega),lp];congr 1;omega
 have c1:=act (P.map tv) (a:=1) (by omega);rw[<-List.map_drop]at c1;obtain⟨r1,m1,k1⟩:=X7 hn (A:=.lst (li ns)) (B:=.lst (P.map tv)) (qs:=P.drop 1) (λq hq=>g1 q (qt hq)) (by rw[jm];omega) (by rw[jm];omega);have gs:∀{j:Nat}{r:BA},Gu n 90 r->∀p∈P.set j r,Gu n 90 p:=λ{j r} gr p hp=>by
  rcases List.mem_or_eq_of_mem_set hp with z |z
  .exact(g1 p z).mono (by decide)
  .rw[z];exact gr
 by_cases a1:w=1
 .subst a1
  refine⟨P.set n pa,P.set n pa,by rw[ic];exact l1,gs (ga.mono (by decide)),?_,?_⟩
  .rw[yu]
   clear gs m1 g1;generalize (n:Int)=N,P.map tv=PL,tv pa=T0 at *;simp! [bZ,aN,aM,aK,aL,aH,aJ,iX,fZ,nQ,i0,xl]
  .generalize (P.set n pa).map tv=PL at*
   generalize (n:Int)=N at *;simp! [bZ,aN,aM,aK,aL,aH,aJ]
 have d1:(w==1)=false:=by simpa using a1
 by_cases a2:w=2
 .subst a2
  refine⟨P.set 0 r1,P,by rw[ic];exact l1,gs k1,?_,?_⟩
  .generalize P.map tv=PL at*
   generalize (n:Int)=N at *;simp! [bZ,aN,aM,aK,aL,aH,aJ]
  .rw[yu]
   clear gs g1;generalize (n:Int)=N,P.map tv=PL,(P.drop 1).map tv=DL,tv r1=T0 at *;have c1:jE (.lst PL) (some 1) none=some (.lst DL):=c1;simp! [bZ,aN,aM,aK,aL,aH,aJ,iX,fZ,nQ,dY,bV,bW,cV,c1,m1,x0]
 have d2:(w==2)=false:=by simpa using a2
 refine⟨P,P,l1,λp hp=>(g1 p hp).mono (by decide),?_,?_⟩
 .generalize P.map tv=PL at*
  generalize (n:Int)=N at *;simp! [bZ,aN,aM,aK,aL,aH,aJ,d1]
 .generalize P.map tv=PL at*
  generalize (n:Int)=N at *;simp! [bZ,aN,aM,aK,aL,aH,aJ,d2]
theorem Sy{n:Nat}(hn:n=2\/n=3)(ns:BA){P:BB}(hP:∀p∈P,Gu n 90 p)(p5:P.length<=5):∃(l:List Nat)(ns':BA),rR [.ref 0,.ref 1] [.lst (li ns),.lst (P.map tv)]=.ok (.pv (.str (tx l))) [.lst (li ns'),.lst (P.map tv)]/\fK 1015 l:=by
 obtain⟨Q,Ls,n1,y4,y5,e1,l1,g1⟩:=Km hn (W:=.lst (P.map tv)) (some (.ref 1)) (dZ 0 P.length) P [] ns none none (by unfold dZ;simp) (by omega) (by unfold dZ;simp;omega) hP (by simp);have l1:Ls.length=P.length:=by rw[l1];unfold dZ;simp
 have ej:=Rn (s:=[44,32]) (Ls:=Ls) (B:=201) (by decide) (λl hl=>(g1 l hl).2) (by omega) (by decide);rw[<-Wl]at ej;have al:=sY (s:=[44,32]) (B:=201) (by decide) g1;refine⟨jn [44,32] Ls,n1,?_,al.1,by have:=al.2;have z:([44,32]:List Nat).length=2:=rfl;rw[z]at this;have:=yw (201+2) (show Ls.length<=5 by omega);omega⟩;have rg:=rN [.lst (li ns),.lst (P.map tv),.lst (P.map tv),.lst []] (n:=P.length) (by omega);have lf:((P.map tv).length:Int)=(P.length:Int):=by rw[ar]
 rw[<-lf]at rg;have ej:lF ", " [.lst (Ls.map sv)]=some (.str (tx (jn [44,32] Ls))):=ej;rw[il]at e1;have hbp:yY=(aS (aY 2 (tJ (aC (aA 1) aF))) (aS (aY 3 (jS aF)) (aS (dB (fF (aC (mR bR (aC (aA 1) aF)) aF)) (gN 4) rP) (bH (jC (mC (.str ", ")) (aC (aA 3) aF)))))):=rfl;unfold rR;rw[hbp];clear hP al g1 lf;generalize P.map tv=PL,dZ 0 P.length=IP,Ls.map sv=LL,tx (jn [44,32] Ls)=TJ at *;have t2:(dB (fF (aC (mR bR (aC (aA 1) aF)) aF)) (gN 4) rP) [some (.ref 0),some (.ref 1),some (.ref 2),some (.ref 3),none,none] [.lst (li ns),.lst PL,.lst PL,.lst []]=.nx [some (.ref 0),some (.ref 1),some (.ref 2),some (.ref 3),y4,y5] [.lst (li n1),.lst PL,Q,.lst LL]:=by
  generalize rP=B1 at *;simp! [bZ,aN,aM,aK,aL,aH,aJ,dB,fF,rg,e1]
 apply qR rfl;apply sq;simp! [bZ,aN,aM,aK,aL,aH,aJ,iM,tJ,Yd];exact⟨rfl,rfl⟩;apply sq;simp! [bZ,aN,aM,aK,aL,aH,aJ,jS,qU];exact⟨rfl,rfl⟩;refine sq t2 ?_;simp! [bZ,aN,aM,aK,aL,aH,aJ,jC,bY,ej];exact⟨rfl,rfl⟩;simp[jA]
theorem wd2{a:Int}(h0:0<=a)(h1:a<2):∃W,aG (.lst [.str "push",.str "turn"]) (.int a)=some (.str W)/\eF 12 W:=by
 have e:a=0\/a=1:=by omega
 rcases e with rfl |rfl
 .exact⟨"push",by simp[aG,aR,aU],[112,117,115,104],by kernel_rfl,by decide,by decide⟩
 .exact⟨"turn",by simp[aG,aR,aU],[116,117,114,110],by kernel_rfl,by decide,by decide⟩
theorem wd4{a:Int}(h0:0<=a)(h1:a<4):∃W,aG (.lst [.str "pull",.str "Push",.str "push turn",.str ""]) (.int a)=some (.str W)/\eF 12 W:=by
 have e:a=0\/a=1\/a=2\/a=3:=by omega
 rcases e with rfl |rfl |rfl |rfl
 .exact⟨"pull",by simp[aG,aR,aU],[112,117,108,108],by kernel_rfl,by decide,by decide⟩
 .exact⟨"Push",by simp[aG,aR,aU],[80,117,115,104],by kernel_rfl,by decide,by decide⟩
 .exact⟨"push turn",by simp[aG,aR,aU],[112,117,115,104,32,116,117,114,110],by kernel_rfl,by decide,by decide⟩
 .exact⟨"",by simp[aG,aR,aU],[],by kernel_rfl,by decide,by decide⟩
theorem wb4{a:Int}(h0:0<=a)(h1:a<4):∃W,aG (.lst [.str " by",.str " by  ",.str " by push by ",.str " "]) (.int a)=some (.str W)/\eF 12 W:=by
 have e:a=0\/a=1\/a=2\/a=3:=by omega
 rcases e with rfl |rfl |rfl |rfl
 .exact⟨" by",by simp[aG,aR,aU],[32,98,121],by kernel_rfl,by decide,by decide⟩
 .exact⟨" by  ",by simp[aG,aR,aU],[32,98,121,32,32],by kernel_rfl,by decide,by decide⟩
 .exact⟨" by push by ",by simp[aG,aR,aU],[32,98,121,32,112,117,115,104,32,98,121,32],by kernel_rfl,by decide,by decide⟩
 .exact⟨" ",by simp[aG,aR,aU],[32],by kernel_rfl,by decide,by decide⟩
theorem abz{n:Nat}(hn:n=2\/n=3)(ns:BA):∃(l:List Nat)(ns':BA),rT [.ref 0,.pv (.int (n:Int))] [.lst (li ns)]=.ok (.pv (.str (tx l))) [.lst (li ns')]/\fK 1300 l:=by
 obtain⟨w,n1,e1,_,_⟩:=kB (R:=[]) ns (m:=24) (by decide) (by decide);obtain⟨m,hm,s2⟩:∃m:Nat,(m=2\/m=3)/\(bP (aZ (aE bM (aA 2) (mC (.int 0)))) (aY 1 (aE dN (mC (.int 5)) (aA 1))) bQ) [some (.ref 0),some (.pv (.int (n:Int))),some (.pv (.int w)),none,none,none,none,none,none] [.lst (li n1)]=.nx [some (.ref 0),some (.pv (.int (m:Int))),some (.pv (.int w)),none,none,none,none,none,none] [.lst (li n1)]:=by
  cases h0:(w==0)with
  |true=>
   rcases hn with rfl |rfl
   .exact⟨3,.inr rfl,by simp! [bZ,aN,aM,aK,aL,aH,aJ,h0]⟩
   .exact⟨2,.inl rfl,by simp! [bZ,aN,aM,aK,aL,aH,aJ,h0]⟩
  |false=>exact⟨n,hn,by simp! [bZ,aN,aM,aK,aL,aH,aJ,h0]⟩
 obtain⟨P,n2,y4,y5,e3,l3,g3⟩:=Bm hm (some (.pv (.int w))) (dZ 0 (m+1)) [] n1 none none (by unfold dZ;simp;omega) (by simp);have l3:P.length=m+1:=by rw[l3];unfold dZ;simp
 have rg:=rN [.lst (li n1),.lst []] (n:=m+1) (by omega);obtain⟨P2,P1,l4,g4,s4,s5⟩:=Z0 hm n2 w l3 g3 y4 y5;obtain⟨k,hk,s6⟩:∃k:Nat,(k=2\/k=3)/\(bP (aZ (aE bM (aA 2) (mC (.int 3)))) (aY 1 (aE dN (mC (.int 5)) (aA 1))) bQ) [some (.ref 0),some (.pv (.int (m:Int))),some (.pv (.int w)),some (.ref 1),y4,y5,none,none,none] [.lst (li n2),.lst (P2.map tv)]=.nx [some (.ref 0),some (.pv (.int (k:Int))),some (.pv (.int w)),some (.ref 1),y4,y5,none,none,none] [.lst (li n2),.lst (P2.map tv)]:=by
  cases h0:(w==3)with
  |true=>
   rcases hm with rfl |rfl
   .exact⟨3,.inr rfl,by simp! [bZ,aN,aM,aK,aL,aH,aJ,h0]⟩
   .exact⟨2,.inl rfl,by simp! [bZ,aN,aM,aK,aL,aH,aJ,h0]⟩
  |false=>exact⟨m,hm,by simp! [bZ,aN,aM,aK,aL,aH,aJ,h0]⟩
 obtain⟨a,n3,e7,a0,a1⟩:=kB (R:=[.lst (P2.map tv)]) n2 (m:=2) (by decide) (by decide);obtain⟨W1,f7,A1⟩:=wd2 a0 a1;obtain⟨W2,n4,A2,s8⟩:∃(W2:Str)(n4:BA),eF 12 W2/\(bP (aZ (aE bM (aA 2) (mC (.int 4)))) (aY 6 (aE aG (mN dW (aC (mC (.str "pull")) (aC (mC (.str "Push")) (aC (mC (.str "push turn")) (aC (mC (.str "")) aF))))) (bD cZ [] (aC (aA 0) (aC (mC (.int 4)) aF))))) bQ) [some (.ref 0),some (.pv (.int (k:Int))),some (.pv (.int w)),some (.ref 1),y4,y5,(some (.pv (.str W1))),none,none] [.lst (li n3),.lst (P2.map tv)]=.nx [some (.ref 0),some (.pv (.int (k:Int))),some (.pv (.int w)),some (.ref 1),y4,y5,(some (.pv (.str W2))),none,none] [.lst (li n4),.lst (P2.map tv)]:=by
  cases h0:(w==4)with
  |true=>
   obtain⟨b,n4,e8,b0,b1⟩:=kB (R:=[.lst (P2.map tv)]) n3 (m:=4) (by decide) (by decide);obtain⟨W2,f8,A2⟩:=wd4 b0 b1;refine⟨W2,n4,A2,?_⟩;generalize P2.map tv=PL at *;simp! [bZ,aN,aM,aK,aL,aH,aJ,h0,e8,f8]
  |false=>exact⟨W1,n3,A1,by generalize P2.map tv=PL at *;simp! [bZ,aN,aM,aK,aL,aH,aJ,h0]⟩
 obtain⟨W3,n5,A3,s10⟩:∃(W3:Str)(n5:BA),eF 12 W3/\(bP (aZ (aE bM (aA 2) (mC (.int 5)))) (aY 7 (aE aG (mN dW (aC (mC (.str " by")) (aC (mC (.str " by  ")) (aC (mC (.str " by push by ")) (aC (mC (.str " ")) aF))))) (bD cZ [] (aC (aA 0) (aC (mC (.int 4)) aF))))) bQ) [some (.ref 0),some (.pv (.int (k:Int))),some (.pv (.int w)),some (.ref 1),y4,y5,(some (.pv (.str W2))),(some (.pv (.str " by "))),none] [.lst (li n4),.lst (P2.map tv)]=.nx [some (.ref 0),some (.pv (.int (k:Int))),some (.pv (.int w)),some (.ref 1),y4,y5,(some (.pv (.str W2))),(some (.pv (.str W3))),none] [.lst (li n5),.lst (P2.map tv)]:=by
  cases h0:(w==5)with
  |true=>
   obtain⟨b,n5,e8,b0,b1⟩:=kB (R:=[.lst (P2.map tv)]) n4 (m:=4) (by decide) (by decide);obtain⟨W3,f8,A3⟩:=wb4 b0 b1;refine⟨W3,n5,A3,?_⟩;generalize P2.map tv=PL at *;simp! [bZ,aN,aM,aK,aL,aH,aJ,h0,e8,f8]
  |false=>exact⟨" by ",n4,⟨[32,98,121,32],Ee,by decide,by decide⟩,by generalize P2.map tv=PL at *;simp! [bZ,aN,aM,aK,aL,aH,aJ,h0]⟩
 obtain⟨xs,n6,e11,l11,b11⟩:=Od (m:=19) (c:=9) (by decide) (oA (by decide) (by decide)) [.lst (P2.map tv)] (dZ 0 k) n5 none;have lx:xs.length=k:=by rw[l11];unfold dZ;simp
 obtain⟨v,n7,e12,v0,v1⟩:=kB (R:=[.lst (P2.map tv)]) n6 (m:=6) (by decide) (by decide);have bx:∀x∈xs,Bd 6 x:=λx hx=>Bd.of (n:=19) (by have:=b11 x hx;omega) (by decide);have bv:Bd 6 (1+v):=Bd.of (n:=9) (by omega) (by decide);obtain⟨zs,z,e13,Q,_⟩:=tG (n:=k) (k:=6) (L:=xs) (b:=1+v) (by omega) lx bx bv;have e14:=pW (xs++[1+v]) [.lst (li n7),.lst (P2.map tv)] (λx hx=>by
  rcases cu.mp hx with y |y
  .exact(bx x y).mono (by decide)
  .have:x=1+v:=by simpa using y
   rw[this];exact bv.mono (by decide))
 rw[e13,nh,cg,il]at e14;have rg2:=rN [.lst (li n5),.lst (P2.map tv)] (n:=k) (by omega);have ly:(li xs).length+1<=16777216:=by simp[li];omega
 have e14:gH [.pv (.lst (li xs++[.int (1+v)]))] [.lst (li n7),.lst (P2.map tv)]=.ok (.pv (tv (zs++[z]))) [.lst (li n7),.lst (P2.map tv)]:=e14;obtain⟨Ks,n8,e15,l15,g15⟩:=Wb (R:=[.lst (P2.map tv)]) Q.pos (Q.bw.mono (by decide)) (nE zs z) zs n7 none (λy hy=>(Q.bx y hy).mono (by decide));have ej:=Vm (c:=32) (Ls:=Ks) (B:=66) (λl hl=>(g15 l hl).2) (by rw[l15,Q.len];omega) (by decide);rw[<-vU]at ej;have al:fK 201 (dD 32 Ks):=by
  have a:=sY (s:=[32]) (B:=66) (by decide) g15;rw[Sa];refine⟨a.1,?_⟩;have:=a.2;rw[l15,Q.len]at this;rcases hk with rfl |rfl<;>simp at this<;>omega
 have ej:lF " " [.lst (Ks.map sv)]=some (.str (tx (dD 32 Ks))):=ej;have a1:=vQ zs z;obtain⟨l,n9,e16,a16⟩:=Sy hm n8 (P:=P2) g4 (by omega);have c0:eF 1015 (tx l):=⟨l,rfl,a16.1,a16.2⟩;obtain⟨q1,c1⟩:=jN c0 A3 (by omega);obtain⟨q2,c2⟩:=jN c1 A2 (by omega);obtain⟨q3,c3⟩:=jN c2 (show eF 1 (" ":Str) from⟨[32],vU,by decide,by decide⟩) (by omega);obtain⟨q4,c4⟩:=jN c3 (show eF 201 (tx (dD 32 Ks)) from⟨_,rfl,al.1,al.2⟩) (by omega);obtain⟨R,eR,r1,r2⟩:=c4;rw[eR]at q4;refine⟨R,n9,?_,r1,by omega⟩;have hbp:zC=(aS (aY 2 (bD cZ [] (aC (aA 0) (aC (mC (.int 24)) aF)))) (aS (bP (aZ (aE bM (aA 2) (mC (.int 0)))) (aY 1 (aE dN (mC (.int 5)) (aA 1))) bQ) (aS (aY 3 (jS aF)) (aS (dB (fF (aC (aE aH (aA 1) (mC (.int 1))) aF)) (gN 4) pM) (aS (bP (aZ (aE bM (aA 2) (mC (.int 1)))) (iX (aA 3) (bX cW (mC (.int 1))) (aE aG (aA 3) (mC (.int 0)))) bQ) (aS (bP (aZ (aE bM (aA 2) (mC (.int 2)))) (iX (aA 3) (mC (.int 0)) (bD pR [] (aC (dY (aA 3) (bW (mC (.int 1))) bV) aF))) bQ) (aS (bP (aZ (aE bM (aA 2) (mC (.int 3)))) (aY 1 (aE dN (mC (.int 5)) (aA 1))) bQ) (aS (aY 6 (aE aG (mN dW (aC (mC (.str "push")) (aC (mC (.str "turn")) aF))) (bD cZ [] (aC (aA 0) (aC (mC (.int 2)) aF))))) (aS (bP (aZ (aE bM (aA 2) (mC (.int 4)))) (aY 6 (aE aG (mN dW (aC (mC (.str "pull")) (aC (mC (.str "Push")) (aC (mC (.str "push turn")) (aC (mC (.str "")) aF))))) (bD cZ [] (aC (aA 0) (aC (mC (.int 4)) aF))))) bQ) (aS (aY 7 (mC (.str " by "))) (aS (bP (aZ (aE bM (aA 2) (mC (.int 5)))) (aY 7 (aE aG (mN dW (aC (mC (.str " by")) (aC (mC (.str " by  ")) (aC (mC (.str " by push by ")) (aC (mC (.str " ")) aF))))) (bD cZ [] (aC (aA 0) (aC (mC (.int 4)) aF))))) bQ) (aS (aY 5 (bO ["_law_m"] [(0,"_law_row_here")] (fF (aC (aA 1) aF)) (gN 0) (aE dN (bD cZ [] (aC (aA 1) (aC (mC (.int 19)) aF))) (mC (.int 9))))) (aS (aY 8 (bD gH [] (aC (aE aH (aA 5) (mN dW (aC (aE aH (mC (.int 1)) (bD cZ [] (aC (aA 0) (aC (mC (.int 6)) aF)))) aF))) aF))) (aS (aY 5 (jC (mC (.str " ")) (aC (bO ["_law_number"] [(0,"_law_row_here"),(8,"_law_p")] (bN (dY (aA 8) bV (bW (bX cW (mC (.int 1)))))) (gN 0) pK) aF))) (bH (aE fP (aE fP (aE fP (aE fP (bD rR [] (aC (aA 0) (aC (aA 3) aF))) (aA 7)) (aA 6)) (mC (.str " "))) (aA 5))))))))))))))))):=rfl;unfold rT;rw[hbp];have hv:tv (zs++[z])=.tup ((zs++[z]).map .int):=rfl;rw[hv]at e14;rw[il]at e3;have e30:aH (.int (m:Int)) (.int 1)=some (.int ((m+1:Nat):Int)):=rfl;clear c0 c1 c2 c3 al g15 Q bx b11 g3 g4 a16 eR;generalize (n:Int)=N,(k:Int)=KK2,(m:Int)=M,((m+1:Nat):Int)=M1,dZ 0 k=IK,dZ 0 (m+1)=IP,P.map tv=PL,P1.map tv=PL1,P2.map tv=PL2,li xs=XL,zs.map PV.int=ZL,(zs++[z]).map PV.int=ZW,Ks.map sv=KL,tx l=TL,tx (dD 32 Ks)=TF,tx R=TR at *;have t3:(dB (fF (aC (aE aH (aA 1) (mC (.int 1))) aF)) (gN 4) pM) [some (.ref 0),some (.pv (.int M)),some (.pv (.int w)),some (.ref 1),none,none,none,none,none] [.lst (li n1),.lst []]=.nx [some (.ref 0),some (.pv (.int M)),some (.pv (.int w)),some (.ref 1),y4,y5,none,none,none] [.lst (li n2),.lst PL]:=by
  generalize pM=B1 at *;simp! [bZ,aN,aM,aK,aL,aJ,dB,fF,e30,rg,e3]
 generalize pK=LC,pM=B1 at *;apply qR rfl;apply sq;simp! [bZ,aN,aM,aK,aL,aH,aJ,iM,e1];exact⟨rfl,rfl⟩;refine sq s2 ?_;apply sq;simp! [bZ,aN,aM,aK,aL,aH,aJ,jS,qU];exact⟨rfl,rfl⟩;refine sq t3 ?_;refine sq s4 ?_;refine sq s5 ?_;refine sq s6 ?_;apply sq;simp! [bZ,aN,aM,aK,aL,aH,aJ,e7,f7];exact⟨rfl,rfl⟩;refine sq s8 ?_;apply sq;simp! [bZ,aN,aM,aK,aL,aH,aJ];exact⟨rfl,rfl⟩;refine sq s10 ?_;apply sq;simp! [bZ,aN,aM,aK,aL,aH,aJ,bO,cC,fF,rg2,e11];exact⟨rfl,rfl⟩;apply sq;simp! [bZ,aN,aM,aK,aL,aH,aJ,e12,ly,e14];exact⟨rfl,rfl⟩;apply sq;simp! [bZ,aN,aM,aK,aL,aH,aJ,jC,bY,bO,cC,bN,cE,dY,bV,bW,cV,a1,e15,ej];exact⟨rfl,rfl⟩;simp! [bZ,aN,aM,aK,aL,aH,aJ,e16,q1,q2,q3,q4];exact⟨rfl,rfl⟩;simp[jA]
abbrev Rr:=BB×Int×BA
abbrev rv(r:Rr):PV:=.tup [px r.1,.tup [.int r.2.1,tv r.2.2]]
structure Rt(n k l:Nat)(r:Rr):Prop where
 sx:Sx n k r.1
 way:r.2.1=1\/r.2.1=-1
 gu:Gu n l r.2.2
theorem in2{g:Int}(h:g=1\/g=-1):oG true (.int g) (.lst [.int 1,.int (-1)])=some (.bl false):=by
 rcases h with rfl |rfl<;>rfl
theorem abh{n k:Nat}(S:aQ)(hk:k<=2000){f:BA}(h:Gu n k f):lU [.pv (tv f),.pv (.int n)] S=.ok (.pv (.bl true)) S:=by
 obtain⟨xs,w,rfl,P⟩:=h;exact Xk S hk P
abbrev fB:MS:=(aS (bP (fD (eQ (aZ (bX (fH "tuple") (aA 3)))) (fD (aZ (aE fE (mR bR (aC (aA 3) aF)) (mC (.int 2)))) (eQ (aZ (bD rS [] (aC (aE aG (aA 3) (mC (.int 0))) (aC (aA 1) aF))))))) (bH (mC (.bl false))) bQ) (aS (bP (fD (eQ (aZ (bX (fH "tuple") (aE aG (aA 3) (mC (.int 1)))))) (aZ (aE fE (mR bR (aC (aE aG (aA 3) (mC (.int 1))) aF)) (mC (.int 2))))) (bH (mC (.bl false))) bQ) (bP (fD (eQ (aZ (bD oM [] (aC (aE aG (aE aG (aA 3) (mC (.int 1))) (mC (.int 0))) aF)))) (fD (aZ (aE (oG true) (aE aG (aE aG (aA 3) (mC (.int 1))) (mC (.int 0))) (aA 2))) (eQ (aZ (bD lU [] (aC (aE aG (aE aG (aA 3) (mC (.int 1))) (mC (.int 1))) (aC (aA 1) aF))))))) (bH (mC (.bl false))) bQ)))
theorem Lh{n k l:Nat}(hn:n=2\/n=3)(S:aQ)(hk:k<=1000)(hl:l<=1000)(x0:BJ):∀(rs:List Rr)(x3:BJ),(∀r∈rs,Rt n k l r)->∃y3,dQ [] (gN 3) fB (rs.map rv) [x0,some (.pv (.int (n:Int))),some (.pv (.lst [.int 1,.int (-1)])),x3] S=.nx [x0,some (.pv (.int (n:Int))),some (.pv (.lst [.int 1,.int (-1)])),y3] S
 |[],x3,_=>⟨x3,hV⟩
 |r::rs,x3,h=>by
  obtain⟨y3,e⟩:=Lh hn S hk hl x0 rs (some (.pv (rv r))) λq hq=>h q (bf _ hq);refine⟨y3,?_⟩;have R:=h r ay;have e1:=A8 hn S R.sx.len (λus hu=>(R.sx.gu us hu).mono hk) (by rw[qG hn hk R.sx.len R.sx.gu];exact λz=>R.sx.nz (wA.mp z)) R.sx.cn;have e2:=abh S (show l<=2000 by omega) R.gu;have e3:=in2 R.way;have e4:=Tj r.2.1 S;rw[cg,gG];simp only[gN,jr,gq];have es:fB [x0,some (.pv (.int (n:Int))),some (.pv (.lst [.int 1,.int (-1)])),some (.pv (rv r))] S=.nx [x0,some (.pv (.int (n:Int))),some (.pv (.lst [.int 1,.int (-1)])),some (.pv (rv r))] S:=by
   have hrv:rv r=.tup [px r.1,.tup [.int r.2.1,tv r.2.2]]:=rfl;have hp:px r.1=.tup (r.1.map tv):=rfl;rw[hrv,hp];generalize r.1.map tv=P1 at *;have e2:lU [.pv (.tup (r.2.2.map .int)),.pv (.int (n:Int))] S=.ok (.pv (.bl true)) S:=e2;simp only[tv];generalize (n:Int)=N,r.2.1=W,r.2.2.map PV.int=T1 at *;unfold fB;simp! [aG,aR,aU,aI,aN,aM,aK,aL,aH,aJ,fH,e1,e2,e3,e4]
  rw[es];exact e
theorem Zy{n k l:Nat}(hn:n=2\/n=3)(S:aQ)(hk:k<=1000)(hl:l<=1000){rs:List Rr}(h:∀r∈rs,Rt n k l r):rQ [.pv (.tup (rs.map rv)),.pv (.int (n:Int)),.pv (.lst [.int 1,.int (-1)])] S=.ok (.pv (.bl true)) S:=by
 obtain⟨y3,e⟩:=Lh hn S hk hl (some (.pv (.tup (rs.map rv)))) rs none h;have hbf:zA=(aS (bP (eQ (aZ (bX (fH "tuple") (aA 0)))) (bH (mC (.bl false))) bQ) (aS (dB (bN (aA 0)) (gN 3) fB) (bH (mC (.bl true))))):=rfl;unfold rQ bA;rw[hbf];generalize (n:Int)=N,rs.map rv=RL,fB=FB at *;simp! [aG,aR,aU,aI,aN,aM,aK,aL,aH,aJ,fH,dB,bN,cE,e]
theorem aaC(S:aQ){T:Str}{V:PV}(h:jL [.pv (.str T)] S=.ok (.pv V) S):kG [.pv (.str T)] S=.ok (.pv (.tup [.int 0,V])) S:=by
 unfold kG bA vI;simp! [aG,aR,aU,aI,aN,aM,aK,aL,aH,aJ,qT,qO,qE,h]
theorem Z4(S:aQ){T:Str}(h:jL [.pv (.str T)] S=.exc "NoText" S):kG [.pv (.str T)] S=.ok (.pv (.tup [.int 1,.bl true])) S:=by
 have ne:¬(cc "Flat"=cc "NoText"):=λz=>by
  have:(cc "Flat"==cc "NoText")=false:=by kernel_rfl
  rw[z]at this;simp at this
 unfold kG bA vI;simp! [aG,aR,aU,aI,aN,aM,aK,aL,aH,aJ,qT,qO,qE,h,ne]
theorem U9(S:aQ){T:Str}(h:jL [.pv (.str T)] S=.exc "Flat" S):kG [.pv (.str T)] S=.ok (.pv (.tup [.int 2,.bl true])) S:=by
 have ne:¬(cc "Flat"=cc "NoText"):=λz=>by
  have:(cc "Flat"==cc "NoText")=false:=by kernel_rfl
  rw[z]at this;simp at this
 unfold kG bA vI;simp! [aG,aR,aU,aI,aN,aM,aK,aL,aH,aJ,qT,qO,qE,h,ne]
abbrev rG:GM:=(gT 3 (cP (gN 0) (cP (gN 1) (cP (gN 2) eB))))
theorem Dd{S:aQ}{me:ME}{α:Type}(A1 A2 A3 B:α->PV):∀(L:List α)(x y z:BJ),(∀v∈L,me [some (.pv (A1 v)),some (.pv (A2 v)),some (.pv (A3 v))] S=.ok (.pv (B v)) S)->cN [] rG me (L.map λv=>.tup [A1 v,A2 v,A3 v]) [x,y,z] S=.ok (L.map B) S
 |[],x,y,z,_=>eN
 |v::L,x,y,z,h=>by
  have e:=h v ay;have e':=Dd A1 A2 A3 B L (some (.pv (A1 v))) (some (.pv (A2 v))) (some (.pv (A3 v))) λu hu=>h u (bf _ hu);have eg:rG (.tup [A1 v,A2 v,A3 v]) [x,y,z]=some [some (.pv (A1 v)),some (.pv (A2 v)),some (.pv (A3 v))]:=by simp[gT,cP,eB,gN]
  rw[cg,eV,eg];simp[e,e',bT.bind]
abbrev rM:ME:=(aE fE (bD lB [] (aC (aA 0) aF)) (mC (.int 0)))
abbrev rJ:ME:=(mN eI (aC (bD lX [] (aC (aA 0) aF)) (aC (mN eI (aC (aA 1) (aC (aA 2) aF))) aF)))
abbrev rH:MS:=(bP (gB (aZ (aE bM (aE aG (aA 6) (mC (.int 0))) (mC (.int 0)))) (gB (aZ (aE gF (mR bR (aC (aA 5) aF)) (mC (.int 0)))) (eQ (aZ (bD rQ [] (aC (aE aG (aA 7) (mC (.int 1))) (aC (aE dN (mR bR (aC (aE aG (aE aG (aA 5) (mC (.int 0))) (mC (.int 0))) aF)) (mC (.int 1))) (aC (mN dW (aC (mC (.int 1)) (aC (bX cW (mC (.int 1))) aF))) aF)))))))) (bH (mC (.bl false))) bQ)
theorem Ez(S:aQ){ys:List Pt}(h:∀y∈ys,Pk y):cN [] rG rM (ys.map lV) [none,none,none] S=.ok (ys.map λy=>.bl (!(dU y.1==0))) S:=by
 refine Dd (λy:Pt=>vR y.1) (λy=>.int y.2.2.2.2) (λy=>tv y.2.2.1) (λy=>.bl (!(dU y.1==0))) ys none none none λy hy=>?_;obtain⟨hn,_,_,l,g,_⟩:=h y hy;obtain⟨d,e,sd⟩:=Yb hn (A:=vR y.1) (L:=y.1.map tv) S (by rw[ar];exact l) (λv hv=>by
  obtain⟨u,hu,rfl⟩:=df.mp hv;exact(g u hu).gp) (.inl rfl)
 rw[qG hn (am 1000) l g]at sd;have ed:(d==0)=(dU y.1==0):=by
  by_cases z:dU y.1=0
  .have:d=0:=wA.mp (by rw[sd,z];rfl)
   rw[z,this]
  .have:d≠0:=λk=>z (wA.mp (by rw[<-sd,k];rfl))
   rw[beq_false_of_ne z,beq_false_of_ne this]
 generalize vR y.1=T at *;unfold rM;simp! [aG,aR,aU,aI,aN,aM,aK,aL,aH,aJ,e,ed]
theorem Q8(S:aQ){ys:List Pt}(h:∀y∈ys,Pk y):cN [] rG rJ (ys.map lV) [none,none,none] S=.ok (ys.map fV) S:=by
 refine Dd (λy:Pt=>vR y.1) (λy=>.int y.2.2.2.2) (λy=>tv y.2.2.1) fV ys none none none λy hy=>?_;obtain⟨hn,_,_,l,g,_⟩:=h y hy;have e:=Tg (A:=vR y.1) hn S l g (.inl rfl);have e:lX [.pv (vR y.1)] S=.ok (.pv (px (fI y.1))) S:=e;have hf:fV y=.tup [px (fI y.1),.tup [.int y.2.2.2.2,tv y.2.2.1]]:=rfl;rw[hf];generalize tv y.2.2.1=T2,vR y.1=T,px (fI y.1)=R at *;unfold rJ;simp! [aG,aR,aU,aI,aN,aM,aK,aL,aH,aJ,e]
abbrev yF:MS:=(aS (aY 5 (bD kX [] (aC (aA 4) aF))) (aS (aY 6 (mN eI (aC (mC (.int 1)) (aC (mC (.bl true)) aF)))) (aS (bP (aZ (bX lJ (aA 5))) (aS (aY 6 (mN eI (aC (mC (.int 2)) (aC (mC (.bl true)) aF)))) (bP (aZ (mR gA (aC (bO ["_law_points","_law_way","_law_far"] [] (bN (aA 5)) rG rM) aF))) (aY 6 (mN eI (aC (mC (.int 0)) (aC (mR jX (aC (bO ["_law_points","_law_way","_law_far"] [] (bN (aA 5)) rG rJ) aF)) aF)))) bQ)) bQ) (aS (aY 7 (bD kG [] (aC (aA 4) aF))) (aS (bP (aZ (aE fE (aA 7) (aA 6))) (bH (mC (.bl false))) bQ) (aS rH (bH (aE bM (bD kG [] (aC (aA 4) aF)) (aA 6)))))))))
theorem abo{L:List Nat}{ys:List Pt}{n:Nat}(hn:n=2\/n=3)(S:aQ)(h:∀y∈ys,Pk y/\y.2.1=n/\y.2.2.2.1=n)(nz:∀y∈ys,¬dU y.1=0)(x0 x1 x2 x3:BJ):rH [x0,x1,x2,x3,some (.pv (.str (tx L))),some (.pv (.lst (ys.map lV))),some (.pv (.tup [.int 0,.tup (ys.map fV)])),some (.pv (.tup [.int 0,.tup (ys.map fV)]))] S=.nx [x0,x1,x2,x3,some (.pv (.str (tx L))),some (.pv (.lst (ys.map lV))),some (.pv (.tup [.int 0,.tup (ys.map fV)])),some (.pv (.tup [.int 0,.tup (ys.map fV)]))] S:=by
 have cf:=Zy (n:=n) (k:=1000) (l:=1000) hn S (am _) (am _) (rs:=ys.map λy=>(fI y.1,y.2.2.2.2,y.2.2.1)) (λr hr=>by
  obtain⟨y,hy,rfl⟩:=df.mp hr;obtain⟨⟨a,b,c,d,e,f⟩,rfl,g⟩:=h y hy;rw[g]at f;exact⟨Oq a (am 1000) d e (nz y hy),c,f⟩)
 have em:(ys.map λy=>(fI y.1,y.2.2.2.2,y.2.2.1)).map rv=ys.map fV:=by rw[di];rfl
 rw[em]at cf;unfold rH;cases ys with
 |nil=>
  generalize tx L=TL at *;simp! [aG,aR,aU,aI,aN,aM,aK,aL,aH,aJ]
 |cons y dM=>
  obtain⟨⟨a,b,c,d,e,f⟩,g1,g2⟩:=h y ay;have a1:((y.1.map tv).length:Int)=(n:Int)+1:=by rw[ar,d,g1];rfl
  have f1:bR [vR y.1]=some (.int ((n:Int)+1)):=by rw[<-a1];rfl
  have i1:aG (lV y) (.int 0)=some (vR y.1):=by simp[aG,aR,aU]
  have i0:aG (.lst ((y::dM).map lV)) (.int 0)=some (lV y):=oO (j:=0) rfl;have f2:bR [.lst ((y::dM).map lV)]=some (.int ((dM.length:Int)+1)):=by
   show some (PV.int _)=_;rw[ar];rfl
  have g3:gF (.int ((dM.length:Int)+1)) (.int 0)=some (.bl true):=by
   show some (PV.bl (decide _))=_;rw[decide_eq_true (by omega)]
  have s1:dN (.int ((n:Int)+1)) (.int 1)=some (.int (n:Int)):=by
   show some (PV.int _)=_;congr 2;omega
  have j0:aG (.tup [.int 0,.tup ((y::dM).map fV)]) (.int 0)=some (.int 0):=by simp[aG,aR,aU]
  have j1:aG (.tup [.int 0,.tup ((y::dM).map fV)]) (.int 1)=some (.tup ((y::dM).map fV)):=by simp[aG,aR,aU]
  have q0:bM (.int 0) (.int 0)=some (.bl true):=by simp[bM,bZ]
  have ng:cW (.int 1)=some (.int (-1)):=rfl;clear em nz h;generalize lV y=V2,vR y.1=V1,(y::dM).map lV=LL,(y::dM).map fV=FL at *;generalize (n:Int)=N,(n:Int)+1=NN,(dM.length:Int)+1=RN,tx L=TL,PV.tup [.int 0,.tup FL]=DUE at *;simp[bP,gB,aZ,eQ,bD,bX,mN,pA,qV,dW,aE,mR,aC,aA,mC,aF,fQ,jQ,fS,rd,iP,fN,bT.bind,kC,cU.of,bQ,frz,oY,f1,f2,g3,i1,i0,s1,j0,j1,q0,ng,cf]
theorem O9{L:List Nat}(h:fK 9000 L)(S:aQ)(x0 x1 x2 x3:BJ):yF [x0,x1,x2,x3,some (.pv (.str (tx L))),none,none,none] S=.rt (.pv (.bl true)) S:=by
 have q1:aI 8 (.tup [.int 1,.bl true]) (.tup [.int 1,.bl true])=some true:=by kernel_rfl
 have q2:aI 8 (.tup [.int 2,.bl true]) (.tup [.int 2,.bl true])=some true:=by kernel_rfl
 unfold yF;rcases abe h with z |⟨ys,n,hn,hR,z⟩
 .obtain⟨e1,e2⟩:=z S
  have e3:=Z4 S e1;clear e1 z;generalize rJ=D2,rM=D1,tx L=TL at *;unfold rH;simp! [bZ,aN,aM,aK,aL,aH,aJ,e2,e3,q1,aG,aR,aU,lJ]
 .obtain⟨e2,c1,c2⟩:=z S
  have hK:∀y∈ys,Pk y:=λy hy=>(hR y hy).1;have d1:=Ez S hK;have d2:=Q8 S hK;have a1:=Fb (λy:Pt=>!(dU y.1==0)) ys
  by_cases f:∃y∈ys,dU y.1=0
  .have e3:=U9 S (c1 f)
   have ha:(ys.all λy=>!(dU y.1==0))=false:=by
    obtain⟨y,hu,hd⟩:=f;rw[AM];exact⟨y,hu,by rw[hd];decide⟩
   rw[ha]at a1;clear c1 c2 z ha d2 hR;generalize rJ=D2,rM=D1,tx L=TL,ys.map lV=VL,(ys.map λy=>PV.bl (!(dU y.1==0)))=BL at *;unfold rH;simp! [bZ,aN,aM,aK,aL,aH,aJ,e2,e3,q2,aG,aR,aU,lJ,bO,cC,bN,cE,d1,a1]
  .have nz:∀y∈ys,¬dU y.1=0:=λy hu hd=>f ⟨y,hu,hd⟩
   have e3:=aaC S (c2 nz);have ha:(ys.all λy=>!(dU y.1==0))=true:=by
    rw[jd];exact λy hu=>by rw[beq_false_of_ne (nz y hu)];rfl
   rw[ha]at a1;have cd:=abo (L:=L) hn S hR nz x0 x1 x2 x3;have q3:aI 8 (.tup [.int 0,.tup (ys.map fV)]) (.tup [.int 0,.tup (ys.map fV)])=some true:=by
    refine pY (m:=7) λv hv=>?_;rcases ce.mp hv with rfl |hv
    .rfl
    .have:v=.tup (ys.map fV):=by simpa using hv
     rw[this];refine pY (m:=6) λu hu=>?_;obtain⟨y,hy,rfl⟩:=df.mp hu;obtain⟨a,b,c,d,e,g⟩:=hK y hy;refine pY (m:=5) λx hx=>?_;rcases ce.mp hx with rfl |hx
     .exact X4 (m:=3) (Oq a (am 1000) d e (nz y hy)).gu
     .have:x=oV y:=by simpa using hx
      rw[this];refine pY (m:=4) λx hx=>?_;rcases ce.mp hx with rfl |hx
      .simp[bZ]
      .have:x=tv y.2.2.1:=by simpa using hx
       rw[this];exact Ec g.gp
   clear c1 c2 z ha hR nz hK;generalize rH=D3,rJ=D2,rM=D1,tx L=TL,ys.map lV=VL,ys.map fV=CL,(ys.map λy=>PV.bl (!(dU y.1==0)))=BL at *;simp! [bZ,aN,aM,aK,aL,aH,aJ,e2,e3,q3,aG,aR,aU,lJ,bO,cC,bN,cE,d1,d2,a1,cd]
abbrev uD:ME:=(bD rT [] (aC (aA 1) (aC (aA 2) aF)))
theorem Um{n:Nat}(hn:n=2\/n=3):∀(is:BH)(ns:BA)(x:BJ),∃(Ls:List (List Nat))(ns':BA),cN [] (gN 0) uD is [x,some (.ref 0),some (.pv (.int (n:Int)))] [.lst (li ns)]=.ok (Ls.map sv) [.lst (li ns')]/\Ls.length=is.length/\∀l∈Ls,fK 1300 l
 |[],ns,x=>⟨[],ns,eN,rfl,λ_ h=>(nomatch h)⟩
 |y::is,ns,x=>by
  obtain⟨l,n1,e1,a⟩:=abz hn ns;obtain⟨Ls,n2,e2,l2,g2⟩:=Um hn is n1 (some (.pv y));refine⟨l::Ls,n2,?_,by rw[br,br,l2],λk hk=>?_⟩
  .rw[eV,cg]
   generalize Ls.map sv=LL at *;have hs:uD [some (.pv y),some (.ref 0),some (.pv (.int (n:Int)))] [.lst (li ns)]=.ok (.pv (.str (tx l))) [.lst (li n1)]:=by
    unfold uD;simp! [bZ,aN,aM,aK,aL,aH,aJ,e1]
   simp only[gN,gq];simp[hs,e2,bT.bind]
  .rcases ce.mp hk with rfl |hk
   .exact a
   .exact g2 k hk
theorem D7(ns:BA)(h:ns.length<=63):∃S,Ed [.pv (.lst (ns.map .int))] []=.ok (.pv (.bl true)) S:=by
 obtain⟨n0,e0,_⟩:=aai ns [] h;have e0:qC [.pv (.lst (ns.map .int))] []=.ok (.ref 0) [.lst (li n0)]:=e0;obtain⟨a,n1,e1,a0,a1⟩:=kB (R:=[]) n0 (m:=2) (by decide) (by decide);obtain⟨n,hn,en⟩:∃n:Nat,(n=2\/n=3)/\(2:Int)+a=n:=by
  have:a=0\/a=1:=by omega
  rcases this with rfl |rfl
  .exact⟨2,.inl rfl,rfl⟩
  .exact⟨3,.inr rfl,rfl⟩
 obtain⟨b,n2,e2,b0,b1⟩:=kB (R:=[]) n1 (m:=4) (by decide) (by decide);obtain⟨j,rfl⟩:=vf b0;obtain⟨Ws,n3,e3,l3,g3⟩:=Um hn (dZ 0 j) n2 none;have l3:Ws.length=j:=by rw[l3];unfold dZ;simp
 have ej:=Rn (s:=[32,43,32]) (Ls:=Ws) (B:=1300) (by decide) (λl hl=>(g3 l hl).2) (by omega) (by decide);rw[<-Po]at ej;have aj:=sY (s:=[32,43,32]) (B:=1300) (by decide) g3;have rg:=rN [.lst (li n2)] (n:=j) (by omega);obtain⟨K,ak,s8⟩:∃K:List Nat,fK 4200 K/\∀S1,(bP (aZ (aE bM (mR bR (aC (aA 3) aF)) (mC (.int 0)))) (aY 4 (mC (.str "none"))) bQ) [some (.pv (.lst (ns.map .int))),some (.ref 0),some (.pv (.int (n:Int))),some (.pv (.lst (Ws.map sv))),some (.pv (.str (tx (jn [32,43,32] Ws)))),none,none,none] S1=.nx [some (.pv (.lst (ns.map .int))),some (.ref 0),some (.pv (.int (n:Int))),some (.pv (.lst (Ws.map sv))),some (.pv (.str (tx K))),none,none,none] S1:=by
  cases h0:(((Ws.map sv).length:Int)==0)with
  |true=>
   refine⟨[110,111,110,101],⟨by decide,by decide⟩,λS1=>?_⟩;rw[<-X2];generalize ("none":Str)=NO,ns.map PV.int=NL,Ws.map sv=WL,tx (jn [32,43,32] Ws)=JL at *;simp! [bZ,aN,aM,aK,aL,aH,aJ,h0]
  |false=>
   refine⟨jn [32,43,32] Ws,⟨aj.1,?_⟩,λS1=>?_⟩
   .have:=aj.2
    have z:([32,43,32]:List Nat).length=3:=rfl;rw[z]at this;have:=yw (1300+3) (show Ws.length<=3 by omega);omega
   .generalize tx (jn [32,43,32] Ws)=JL at*
    generalize ("none":Str)=NO,ns.map PV.int=NL,Ws.map sv=WL at *;simp! [bZ,aN,aM,aK,aL,aH,aJ,h0]
 obtain⟨U,n4,e4,L,rfl,u1,u2⟩:=Cy (R:=[]) (am 4200) n3 (T:=tx K) ⟨K,rfl,ak.1,ak.2⟩;have te:=O9 (L:=L) ⟨u1,by omega⟩ [.lst (li n4)] (some (.pv (.lst (ns.map .int)))) (some (.ref 0)) (some (.pv (.int (n:Int)))) (some (.pv (.lst (Ws.map sv))));have s8:=s8 [.lst (li n3)];have ej:lF " + " [.lst (Ws.map sv)]=some (.str (tx (jn [32,43,32] Ws))):=ej;refine⟨[],?_⟩;have hbl:Ld=(aS (aY 1 (qJ qC [] (aC (aA 0) aF))) (aS (aY 2 (aE aH (mC (.int 2)) (bD cZ [] (aC (aA 1) (aC (mC (.int 2)) aF))))) (aS (aY 3 (bO ["_law_k"] [(1,"_law_row_here"),(2,"_law_dims")] (fF (aC (bD cZ [] (aC (aA 1) (aC (mC (.int 4)) aF))) aF)) (gN 0) uD)) (aS (aY 4 (jC (mC (.str " + ")) (aC (aA 3) aF))) (aS (bP (aZ (aE bM (mR bR (aC (aA 3) aF)) (mC (.int 0)))) (aY 4 (mC (.str "none"))) bQ) (aS (aY 4 (bD sI [] (aC (aA 1) (aC (aA 4) aF)))) yF)))))):=rfl;unfold Ed;rw[hbl];clear aj g3 ak u1 u2 l3;generalize ("none":Str)=NO,(" + ":Str)=PL,uD=B1,yF=T1,(j:Int)=J,dZ 0 j=IP,ns.map PV.int=NL,Ws.map sv=WL,tx L=TL,tx K=TK,tx (jn [32,43,32] Ws)=JL at *;apply qR rfl;apply sq;simp! [bZ,aN,aM,aK,aL,aH,aJ,iM,e0];exact⟨rfl,rfl⟩;apply sq;simp! [bZ,aN,aM,aK,aL,aH,aJ,e1,en];exact⟨rfl,rfl⟩;apply sq;simp! [bZ,aN,aM,aK,aL,aH,aJ,bO,cC,fF,e2,rg,e3];exact⟨rfl,rfl⟩;apply sq;simp! [bZ,aN,aM,aK,aL,aH,aJ,jC,bY,ej];exact⟨rfl,rfl⟩;refine sq s8 ?_;apply sq;simp! [bZ,aN,aM,aK,aL,aH,aJ,e4];exact⟨rfl,rfl⟩;exact te;simp[jA]
theorem hF_k{K:ae}{x:Str}{st:Stmt}{f:Addr}{oc:Value}{od an:BF}{osl:Array BE}{kV doc pm cdv ct:Value}(a:cm K mainGlobals x=some (some (.ref f)):=by k_is)(l:K.lookup f=some ⟨oc,od,.func (du x x (gW st) (eH st) (cS st) .none kV doc pm an cdv ct),osl⟩:=by k_is)(c:jj K cdv x=true:=by k_is)(k:dl K (.ref f)=true:=by k_is):HF K x st:=aaS a l c k
theorem all_mk{l:ot}{w:ao}{K:ae}{h:Heap}{mg:Str->BE}{fa:Addr}(X:K.In h)(G:h.Ns mainGlobals mg)(hfa:mg "law"=some (.ref fa))
  (h40:HF K "_law_row" Qo)
  (h41:HF K "_law_take" Dn)
  (h42:HF K "_law_gcd" Co)
  (h43:HF K "_law_lowest" Ki)
  (h56:HF K "_law_weighted" Zg)
  (h57:HF K "_law_mean_of" Yh)
  (h46:HF K "_law_frac" Cn)
  (h64:HF K "_law_loose" Uj)
  (h65:HF K "_law_loose_points" Df)
  (h68:HF K "_law_piece_words" Of)
  (h62:HF K "_law_sign_at" Ih)
  (h63:HF K "_law_spoilt" Fi)
  (h58:HF K "_law_figures" Zh)
  (h59:HF K "_law_number_of" Bg)
  (h60:HF K "_law_point_of" Yg)
  (h61:HF K "_law_corners_of" Rf)
  (h66:HF K "_law_piece_of" Ng)
  (h67:HF K "_law_cutting_of" Vf)
  (h49:HF K "_law_dot" Do)
  (h48:HF K "_law_cross" Ik)
  (h50:HF K "_law_turn" Ym)
  (h47:HF K "_law_gap" Ap)
  (h51:HF K "_law_det" So)
  (h52:HF K "_law_simplex" Ai)
  (h35:HF K "read_rows" Ah)
  (h30:HF K "refuse_unless" Ze)
  (h23:HF K "move" Cp)
  (h31:HF K "read_whole" Jg)
  (h8:HF K "sign" Tn)
  (h9:HF K "divisor" Si)
  (h32:HF K "read_number" Xf)
  (h10:HF K "reduced" Gi)
  (h14:HF K "point_at" Bi)
  (h33:HF K "read_point" Eg)
  (h36:HF K "read_move" Og)
  (h34:HF K "read_corners" Hf)
  (h37:HF K "read_piece" Gg)
  (h15:HF K "whole_arrow" Zf)
  (h16:HF K "dot" Qp)
  (h17:HF K "normal" Nk)
  (h18:HF K "determinant" Sf)
  (h19:HF K "side" Oo)
  (h21:HF K "simplex" Ui)
  (h38:HF K "read_cutting" Lf)
  (h69:HF K "_law_asked" Tk)
  (h44:HF K "_law_whole" Yj)
  (h45:HF K "_law_wholes" Ti)
  (h53:HF K "_law_point_form" Ag)
  (h54:HF K "_law_simplex_form" Af)
  (h55:HF K "_law_cutting_form" Ef)
  {f11:Addr}{od11 an11:BF}{sl11:Array BE}{oc11 kV11 dc11 pm11 cd11 ct11:Value}
  {T11:Addr}{tc11:Value}{td11:BF}{tl11:Array BE}{tn11:Nat}{tt11:dk}
  (a11:cm K mainGlobals "fraction"=some (some (.ref f11)))(l11:K.lookup f11=some ⟨oc11,od11,.func (du "fraction" "fraction" (gW sB) (eH sB) (cS sB) (.ref T11) kV11 dc11 pm11 an11 cd11 ct11),sl11⟩)(c11:jj K cd11 "fraction"=true)(k11:dl K (.ref f11)=true)
  (t11:K.lookup T11=some ⟨tc11,td11,.seq #[.int 1 tt11] tn11,tl11⟩)
  {f13:Addr}{od13 an13:BF}{sl13:Array BE}{oc13 kV13 dc13 pm13 cd13 ct13:Value}
  {T13:Addr}{tc13:Value}{td13:BF}{tl13:Array BE}{tn13:Nat}{tt13:dk}
  (a13:cm K mainGlobals "point"=some (some (.ref f13)))(l13:K.lookup f13=some ⟨oc13,od13,.func (du "point" "point" (gW sR) (eH sR) (cS sR) (.ref T13) kV13 dc13 pm13 an13 cd13 ct13),sl13⟩)(c13:jj K cd13 "point"=true)(k13:dl K (.ref f13)=true)
  (t13:K.lookup T13=some ⟨tc13,td13,.seq #[.int 1 tt13] tn13,tl13⟩)
  {f70:Addr}{od70 an70:BF}{sl70:Array BE}{oc70 kV70 dc70 pm70 cd70 ct70:Value}
  (a70:cm K mainGlobals "law"=some (some (.ref f70)))(l70:K.lookup f70=some ⟨oc70,od70,.func (du "law" "law" (gW nR) (eH nR) (cS nR) .none kV70 dc70 pm70 an70 cd70 ct70),sl70⟩)(c70:jj K cd70 "law"=true)(k70:dl K (.ref f70)=true)
  (z1:cm K mainGlobals "abs"=some none)
  (z2:cm K mainGlobals "all"=some none)
  (z3:cm K mainGlobals "bool"=some none)
  (z4:cm K mainGlobals "enumerate"=some none)
  (z5:cm K mainGlobals "int"=some none)
  (z6:cm K mainGlobals "isinstance"=some none)
  (z7:cm K mainGlobals "len"=some none)
  (z8:cm K mainGlobals "list"=some none)
  (z9:cm K mainGlobals "range"=some none)
  (z10:cm K mainGlobals "sorted"=some none)
  (z11:cm K mainGlobals "str"=some none)
  (z12:cm K mainGlobals "sum"=some none)
  (z13:cm K mainGlobals "tuple"=some none)
  (z14:cm K mainGlobals "zip"=some none)
  {C1 C2 C3 C4 C5 C6:Addr}
  (y1:cm K mainGlobals "Flat"=some (some (.ref C1)))(x1:cy K C1 eW "ValueError.__new__"=true)
  (y2:cm K mainGlobals "HallError"=some (some (.ref C2)))(x2:cy K C2 eW "ValueError.__new__"=true)
  (y3:cm K mainGlobals "NoMove"=some (some (.ref C3)))(x3:cy K C3 eW "ValueError.__new__"=true)
  (y4:cm K mainGlobals "NoNumber"=some (some (.ref C4)))(x4:cy K C4 eW "ValueError.__new__"=true)
  (y5:cm K mainGlobals "NoPoint"=some (some (.ref C5)))(x5:cy K C5 eW "ValueError.__new__"=true)
  (y6:cm K mainGlobals "NoText"=some (some (.ref C6)))(x6:cy K C6 eW "ValueError.__new__"=true)
  (u1C1:jx K (.ref C1) "__getattribute__"=some (some (.builtin "BaseException.__getattribute__")))(u2C1:jx K (.ref C1) "__getattr__"=some none)(u3C1:jy K C1 (.type "BaseException")=some true)(u4C1:jy K C1 (.type "object")=some true)
  (u5C1:jx K (.ref C1) "__class__"=some (some (.builtin "object.__class__")))(u6C1:rk K (.builtin "object.__class__") "__get__"=some (some (.builtin "getset_descriptor.__get__")))(u7C1:wr K (.builtin "object.__class__")=some true)(u8C1:wp K C1=true)
  (u1C6:jx K (.ref C6) "__getattribute__"=some (some (.builtin "BaseException.__getattribute__")))(u2C6:jx K (.ref C6) "__getattr__"=some none)(u3C6:jy K C6 (.type "BaseException")=some true)(u4C6:jy K C6 (.type "object")=some true)
  (u5C6:jx K (.ref C6) "__class__"=some (some (.builtin "object.__class__")))(u6C6:rk K (.builtin "object.__class__") "__get__"=some (some (.builtin "getset_descriptor.__get__")))(u7C6:wr K (.builtin "object.__class__")=some true)(u8C6:wp K C6=true)
  (wFlat_HallError:gj K (.ref C1) (.ref C2)=some true)
  (wNoText_Flat:gj K (.ref C6) (.ref C1)=some false)
  (wNoText_HallError:gj K (.ref C6) (.ref C2)=some true)
  (wtC6:um K (.ref C6)=some (.type "type"))(wnC1_C6:jy K C1 (.ref C6)=some false)
  {gk1:dk}
  {gk2:dk}
  {gk3:dk}
  {gk4:dk}
  {gk5:dk}
  (v1:cm K mainGlobals "FIGURES"=some (some (.str "0123456789" gk1)))
  (v2:cm K mainGlobals "MOST_FIGURES"=some (some (.int 60 gk2)))
  (v3:cm K mainGlobals "NOTHING"=some (some (.str "none" gk3)))
  (v4:cm K mainGlobals "PUSH"=some (some (.str "push" gk4)))
  (v5:cm K mainGlobals "TURN"=some (some (.str "turn" gk5)))
  :∃fd:bi,(∀(s:aa)(v:Value),oj s fd ⟨[v],[]⟩ [("_law_script",v)])/\∀base:Heap,K.In base->base.Ns mainGlobals mg->dR l.prog w K mg base gR 10 fa fd ["_law_script"] (xL K):=by
 let cl:Str->Addr:=λn=>if n="Flat" then C1 else if n="HallError" then C2 else if n="NoMove" then C3 else if n="NoNumber" then C4 else if n="NoPoint" then C5 else if n="NoText" then C6 else 0
 have e:=hfa.symm.trans (fu X G a70);cases e;have F11:=Ul (st:=sB) l11 c11 k11 t11 rfl;have b11:=F11.binds (ps:=["top","bottom"]) (dd:=[]) λ_ _ _ _ _ _ _ us hl=>match us,hl with |[_,_],_=>⟨_,rfl,rfl⟩
 have n11:=fu X G a11;have F13:=Ul (st:=sR) l13 c13 k13 t13 rfl;have b13:=F13.binds (ps:=["numbers","bottom"]) (dd:=[]) λ_ _ _ _ _ _ _ us hl=>match us,hl with |[_,_],_=>⟨_,rfl,rfl⟩
 have n13:=fu X G a13;have F70:=Go (st:=nR) l70 c70 k70;have m:Mg mg:=⟨gw X G z1,gw X G z2,gw X G z3,gw X G z4,gw X G z5,gw X G z6,gw X G z7,gw X G z8,gw X G z9,gw X G z10,gw X G z11,gw X G z12,gw X G z13,gw X G z14⟩;have gt_FIGURES:kU K mg "FIGURES" (.str "0123456789"):=⟨_,.str "0123456789",fu X G v1,⟨_,rfl⟩,vJ⟩;have gt_MOST_FIGURES:kU K mg "MOST_FIGURES" (.int 60):=⟨_,.int 60,fu X G v2,⟨_,rfl⟩,L8⟩;have gt_NOTHING:kU K mg "NOTHING" (.str "none"):=⟨_,.str "none",fu X G v3,⟨_,rfl⟩,vJ⟩;have gt_PUSH:kU K mg "PUSH" (.str "push"):=⟨_,.str "push",fu X G v4,⟨_,rfl⟩,vJ⟩;have gt_TURN:kU K mg "TURN" (.str "turn"):=⟨_,.str "turn",fu X G v5,⟨_,rfl⟩,vJ⟩;refine⟨du "law" "law" (gW nR) (eH nR) (cS nR) .none kV70 dc70 pm70 an70 cd70 ct70,λs v=>.of_eq rfl,λbase _ _=>?_⟩
 let B:Bx:=⟨l.prog,w,K,mg,base,cl⟩
 have Xg:XG B.K B.mg:=⟨h,X,G⟩;have m:Mg B.mg:=m;have q_Flat:B.mg "Flat"=some (.ref (B.cl "Flat")):=fu X G y1;have x_Flat:cy B.K (B.cl "Flat") eW "ValueError.__new__"=true:=x1;have q_HallError:B.mg "HallError"=some (.ref (B.cl "HallError")):=fu X G y2;have x_HallError:cy B.K (B.cl "HallError") eW "ValueError.__new__"=true:=x2;have q_NoMove:B.mg "NoMove"=some (.ref (B.cl "NoMove")):=fu X G y3;have x_NoMove:cy B.K (B.cl "NoMove") eW "ValueError.__new__"=true:=x3;have q_NoNumber:B.mg "NoNumber"=some (.ref (B.cl "NoNumber")):=fu X G y4;have x_NoNumber:cy B.K (B.cl "NoNumber") eW "ValueError.__new__"=true:=x4;have q_NoPoint:B.mg "NoPoint"=some (.ref (B.cl "NoPoint")):=fu X G y5;have x_NoPoint:cy B.K (B.cl "NoPoint") eW "ValueError.__new__"=true:=x5;have q_NoText:B.mg "NoText"=some (.ref (B.cl "NoText")):=fu X G y6;have x_NoText:cy B.K (B.cl "NoText") eW "ValueError.__new__"=true:=x6;have Z_Flat:jZ B.K (B.cl "Flat"):=⟨u1C1,u2C1,u3C1,u4C1,u5C1,u6C1,u7C1,(by obtain⟨cd,hc,_⟩:=AQ u8C1;show(AR K C1).isSome=true;rw[hc];rfl)⟩;have Z_NoText:jZ B.K (B.cl "NoText"):=⟨u1C6,u2C6,u3C6,u4C6,u5C6,u6C6,u7C6,(by obtain⟨cd,hc,_⟩:=AQ u8C6;show(AR K C6).isSome=true;rw[hc];rfl)⟩;have C40:=R6 Xg m h40;have C41:=Dz Xg m h41;have C42:=R3 Xg m h42;have C43:=Jv Xg m h43 C42;have C56:=Ot Xg m h56 C43;have C57:=Pu Xg m h57 C56;have C46:=Gz Xg m h46 C43;have C64:=Qw Xg m h64 C46 C41;have C65:=Gs Xg m h65 C41 C64;have C68:=Js Xg m h68 C41 C43 C57 C64 C65;have C62:=Su Xg m h62 C41;have C63:=Qv Xg m h63 C41 C62;have C58:=Hu Xg m h58;have C59:=Et Xg m h59 C58 C46;have C60:=Wt Xg m h60 C59 C43;have C61:=Us Xg m h61 C60;have C66:=Du Xg m h66 C61 C60;have C67:=Ts Xg m h67 C66;have C49:=J1 Xg m h49;have C48:=Vx Xg m h48;have C50:=B0 Xg m h50 C49 C48;have C47:=M3 Xg m h47;have C51:=L5 Xg m h51 C50 C47;have C52:=Ou Xg m h52 C51;have C35:=Yt Xg m h35 gt_NOTHING;have H30:=Fs Xg m h30 q_NoText x_NoText;have H23:=G6 Xg m h23 q_NoMove x_NoMove;have H31:=Nt Xg m h31 H30 gt_FIGURES gt_MOST_FIGURES;have C8:=G7 Xg m h8;have C9:=Yu Xg m h9;have G11:=Tu Xg m F11 C8 C9 q_NoNumber x_NoNumber;have H11:Bh B:=Be G11 b11 k11 n11;have H32:=Ss Xg m h32 H30 H31 H11;have C10:=Wv Xg m h10 C9;have G13:=Iy Xg m F13 C10 C8 q_NoPoint x_NoPoint;have H13:Jk B:=Be G13 b13 k13 n13;have C14:=Ju Xg m h14 H13;have H33:=Kt Xg m h33 H32 H30 C14;have H36:=Au Xg m h36 H30 H23 H33 gt_PUSH gt_TURN;have H34:=Qs Xg m h34 H33 H30;have H37:=Ft Xg m h37 H30 H36 H34;have C15:=Vs Xg m h15;have C16:=aan Xg m h16;have C17:=Jx Xg m h17;have C18:=Xs Xg m h18 C15 C16 C17;have C19:=O0 Xg m h19 C8 C18;have H21:=Cv Xg m h21 C19 q_Flat x_Flat;have H38:=Os Xg m h38 C35 H37 H30 H21;have C69:=Ux Xg m h69 H38 q_Flat x_Flat q_HallError x_HallError q_NoText x_NoText Z_Flat Z_NoText wFlat_HallError wNoText_Flat wNoText_HallError wtC6 wnC1_C6;have C44:=Tw Xg m h44;have C45:=Uv Xg m h45 C44;have C53:=Zs Xg m h53 C45 C43;have C54:=Ds Xg m h54 C53 C51 C52;have C55:=Es Xg m h55 C54 C44 C53;exact(aap Xg m F70 C40 C41 C68 C63 C67 C51 C52 C69 C55).imp λvs H Q E h=>M9 D7 h
theorem walk{l:ot}{q:Program}{loose:List Str}{XP:(Str->BE)->Heap->Prop}{YP:ao->Heap->Prop}{d:DefRec}{K:oa->ae}(hn:l.most=some 63)(hdf:d.params.defaults=[])
  (hY:∀(w:ao)(h:Heap),YP w h->(K w.params).In h)
  (F:∀(w:ao)(mg:Str->BE)(fa:Addr)(h:Heap),(K w.params).In h->h.Ns mainGlobals mg->mg d.name=some (.ref fa)->
   ∃fd:bi,(∀(s:aa)(u:Value),oj s fd ⟨[u],[]⟩ [("_law_script",u)])/\∀base:Heap,(K w.params).In base->base.Ns mainGlobals mg->dR l.prog w (K w.params) mg base gR 10 fa fd ["_law_script"] (xL (K w.params))):
  PySem.W.WalkO q loose XP YP l.row.toRowW d [] (λf vs=>xj f vs):=
 L2.walk_of (n:=63) (k:=10) (x:="_law_script") (CX:=λ_=>gR) (sp:=λw=>xL (K w.params)) hn (by decide) hdf ⟨rfl,by decide,by decide⟩ hY F (λ_ _ a ns hl _ hS=>⟨a,ns,rfl,hS,hl,λ_=>rfl⟩) λ_ _ _ _ _ z=>z
end
end Sc
open PySem PySem.W PyProof.Rows
set_option maxRecDepth 100000 in
set_option maxHeartbeats 0 in
theorem PySem.Challenge.cw_scissorhall_k86_cuttings_read_holds : PySem.Challenge.rw_scissorhall_k86_cuttings_read.Holds := by
 w_on; refine holds_law Sc.wsaid λsaid=>?_
 refine holds_open (q:=Sc.VW) (loose:=[cc "fraction",cc "point"]) (Xt:=λs=>xlAt Sc.VW [] s && recOk (vm (vn (vo ph))) s) (XP:=XL Sc.VW []) (Yf:=vj (kHook Sc.KK Sc.KA Sc.KE)) (Ya:=vk (kHook Sc.KK Sc.KA Sc.KE)) (YP:=Hook.says (kHook Sc.KK Sc.KA Sc.KE)) (N:=5890) Sc.left (Hook.of (kHook Sc.KK Sc.KA Sc.KE)) (Hook.keeps (kHook Sc.KK Sc.KA Sc.KE)) (λs e=>xl_of s (AS.mp e).1) XL.keeps (by rfl) (by rfl) (by rfl) (λs e=>recFacts_of (AS.mp e).2) (by rfl) (by first | assumption | decide +kernel) (by decide +kernel) ⟨rfl,rfl,rfl,rfl,rfl,by decide +kernel⟩ ?hw ?hc
 case hw=>w_witness2
 k_fill
 refine Sc.walk (l:=ph) rfl rfl (λw h Y=>PySem.W.kIn_of Y) ?F
 case F =>
  intro w mg fa h KX G hmg;refine' Sc.all_mk KX G hmg Sc.hF_k Sc.hF_k Sc.hF_k Sc.hF_k Sc.hF_k Sc.hF_k Sc.hF_k Sc.hF_k Sc.hF_k Sc.hF_k Sc.hF_k Sc.hF_k Sc.hF_k Sc.hF_k Sc.hF_k Sc.hF_k Sc.hF_k Sc.hF_k Sc.hF_k Sc.hF_k Sc.hF_k Sc.hF_k Sc.hF_k Sc.hF_k Sc.hF_k Sc.hF_k Sc.hF_k Sc.hF_k Sc.hF_k Sc.hF_k Sc.hF_k Sc.hF_k Sc.hF_k Sc.hF_k Sc.hF_k Sc.hF_k Sc.hF_k Sc.hF_k Sc.hF_k Sc.hF_k Sc.hF_k Sc.hF_k Sc.hF_k Sc.hF_k Sc.hF_k Sc.hF_k Sc.hF_k Sc.hF_k Sc.hF_k Sc.hF_k ?a11 ?l11 ?c11 ?k11 ?t11 ?a13 ?l13 ?c13 ?k13 ?t13 ?a70 ?l70 ?c70 ?k70 ?z1 ?z2 ?z3 ?z4 ?z5 ?z6 ?z7 ?z8 ?z9 ?z10 ?z11 ?z12 ?z13 ?z14 ?y1 ?x1 ?y2 ?x2 ?y3 ?x3 ?y4 ?x4 ?y5 ?x5 ?y6 ?x6 ?u1C1 ?u2C1 ?u3C1 ?u4C1 ?u5C1 ?u6C1 ?u7C1 ?u8C1 ?u1C6 ?u2C6 ?u3C6 ?u4C6 ?u5C6 ?u6C6 ?u7C6 ?u8C6 ?wFlat_HallError ?wNoText_Flat ?wNoText_HallError ?wtC6 ?wnC1_C6 ?v1 ?v2 ?v3 ?v4 ?v5
  (case a11 | l11 | c11 | k11 | t11 | a13 | l13 | c13 | k13 | t13 | a70 | l70 | c70 | k70 | z1 | z2 | z3 | z4 | z5 | z6 | z7 | z8 | z9 | z10 | z11 | z12 | z13 | z14 | y1=>k_is)
  (case x1=>k_exc)
  (case y2=>k_is)
  (case x2=>k_exc)
  (case y3=>k_is)
  (case x3=>k_exc)
  (case y4=>k_is)
  (case x4=>k_exc)
  (case y5=>k_is)
  (case x5=>k_exc)
  (case y6=>k_is)
  (case x6=>k_exc)
  (case u1C1 | u2C1 | u3C1 | u4C1 | u5C1 | u6C1 | u7C1 | u8C1 | u1C6 | u2C6 | u3C6 | u4C6 | u5C6 | u6C6 | u7C6 | u8C6=>k_is)
  (case wFlat_HallError | wNoText_Flat | wNoText_HallError=>kit_is)
  (case wtC6 | wnC1_C6 | v1 | v2 | v3 | v4 | v5=>k_is)
#print axioms PySem.Challenge.cw_scissorhall_k86_cuttings_read_holds
