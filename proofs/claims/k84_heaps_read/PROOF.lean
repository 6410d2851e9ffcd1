import PyProof.Rows.All
import KE.KFromBytes
import KE.KIsAll
import PyProof.EqAt
import PyProof.EqKinds
import PyProof.TupleCall
import PyProof.ZipIter
import PyProof.Draws
import PyProof.CompFree
import PyProof.NeKinds
import PyProof.NsDelKeeps
import PyProof.ExcArgsOwn
import PyProof.ExcAttrAll.ValueError
import KE.KSortTup
import PyProof.DictRoadsH
import Wide.Seal
import KE.KIntText
import PyProof.FitsReplace
import PyProof.StrWalks
import PyProof.CompMap
import KE.KDictList
import KE.RegKIsAll
import PySem.Challenge.RW_scissorhall_k84_heaps_read
set_option Elab.async false
set_option compiler.extract_closed false
set_option bootstrap.genMatcherCode false
set_option maxRecDepth 100000
set_option maxHeartbeats 0
open Array renaming length_toList->oa,toList->va,append_assoc->yd,getElem?_eq_none->g9,getElem?_eq_some_iff->i3
open Bool renaming and_eq_true->ee,false_ne_true->km,false_eq_true->nj,eq_iff_iff->qu,not_eq_true'->a6,and_false->c0,and_eq_true_iff->m9
open Classical renaming propDecidable->kd,byContradiction->l6
open False renaming elim->fh
open ForInStep renaming yield->qr
open Int renaming gcd->bi,one_mul->io,zero_sub->jm,mul_pos->kg,mul_ediv_cancel_left->ky,toNat_natCast->mq,fdiv_eq_ediv_of_dvd->nh,mul_comm->ow,le_of_lt->ox,mul_neg->qq,eq_ofNat_of_zero_le->uf,neg_mul->wk,le_refl->wl,mul_zero->wm,gcd_zero_left->wn,fdiv_eq_ediv_of_nonneg->wo,natAbs_mul->za,natCast_nonneg->zd,gcd_mul_left->ze,mul_ne_zero->zf,gcd_dvd_left->zg,gcd_dvd_right->zh,natAbs_natCast->zi,pos_of_mul_pos_left->zj,fmod_nonneg_of_pos->j3,neg_one_mul->k8,mul_nonneg->l7
open List renaming length_map->ar,size_toArray->ay,mem_cons_self->bc,getElem?_eq_getElem->bf,replicate->bj,length_append->bn,mem_cons_of_mem->bp,length_cons->bq,range->ce,mem_append->cm,mem_append_right->cq,getD->cr,mem_cons->cu,map_cons->cv,mem_map->da,getElem?_eq_some_iff->db,zipWith->dm,map_map->du,getElem?_map->dy,mem_of_getElem?->fe,length_set->fy,set_cons_zero->gf,getElem?_append_left->gi,map_nil->gj,getElem?_append_right->gv,replicate_succ->gw,all_eq_true->ib,getElem?_set_self->ij,map_congr_left->im,getElem_mem->iu,set_cons_succ->ix,length_singleton->je,getElem?_set_ne->jg,mem_filterMap->jh,length_drop->jk,lookup_cons->jo,mem_append_left->jr,foldl->jx,map_id->jy,nodup_cons->kq,length_take->kr,flatten_cons->kv,append_assoc->kw,map_append->kz,toArray->lm,prefix_rfl->nr,nil_append->nv,any_eq_false->oi,forIn_cons->oy,not_mem_nil->pe,mem_of_mem_drop->pk,mem_filter->qc,mem_singleton->sj,any_cons->ss,set_set->sy,take_of_length_le->td,zipWith_cons_cons->tf,sum_cons->tj,cons_append->tm,getD_eq_getElem?_getD->tw,map_set->tz,map_eq_nil_iff->ud,mem_range->uu,filterMap_cons->uw,append_nil->vk,of_mem_zip->vm,foldl_cons->wb,drop_eq_getElem_cons->wz,drop_length->xa,getElem?_take->xb,getElem_of_mem->xc,mem_of_mem_take->xo,ext_getElem?->xu,any_eq_true->xy,getElem?_replicate->yo,zipIdx_cons->zu,zipIdx_nil->zv,forIn_nil->zw,getElem?_eq_none->c9,length_range->d3,take_left->d5,nodup_append->d6,getElem?_zipWith->d7,getElem_toArray->d8,take_length->g5,ext_getElem->g6,mem_reverse->g8,length_eq_zero_iff->j4,zipWith_nil_left->j5,map_drop->l8
open Nat renaming le_refl->am,lt_of_lt_of_le->br,ne_of_lt->ck,le_trans->dn,lt_irrefl->fj,zero_le->ia,sub_self->lg,ne_of_gt->og,le_succ->oo,pow_le_pow_right->ot,lt_of_le_of_lt->ou,two_pow_pos->pq,succ_mul->qp,mul_comm->rn,mul_le_mul->sw,toDigits->ue,le_of_lt->uv,le_of_eq->we,pow_succ->wg,log2_lt->wj,lt_trans->wp,zero_add->xf,mul_le_mul_right->xw,toDigits_of_lt_base->xx,le_of_not_lt->yz,eq_zero_or_pos->zb,exists_eq_add_of_le->c8,lt_succ_self->d4
open Ne renaming symm->ig
open Option renaming map_some->pr,isSome_iff_exists->qj,getD_none->yw
open Option.some renaming inj->cf
open Or renaming inl->gm,inr->il
open Prod renaming ext->iy
open Prod.mk renaming inj->yb
open PyProof.Rows renaming AllBare->gq,IntsAre->oq,callWith_type1->qg,slot_tuple_getitem->ql,boot_isinstance->rm,assignInOrder_cons->vd,get?_update_seq->xi,subscriptTail_builtinR->yu,find_whole->j8,split_pos->k7
open PyProof.Rows.IsTup renaming new->qd
open PySem renaming Shared->aa,Expr->af,wpAny_bind->ag,Pos->ah,World->ao,Around->aq,wpAny_pure->au,Env->az,FuncData->bh,wpAny_mono->cy,IsPair->df,Sem->di,Tok->dq,wpAny_holding->dw,wpAny_field->dz,IsZip->fg,Model->fk,Keyword->ik,CmpOp->iz,wpAny_newObj_type->ja,NameKind->jb,IsPart->jd,Draws->jf,JoinOk->jp,wpAny_truthy_bool->jt,wpAny_standAt->ju,sizeLine_eq->jw,wpAny_seqItems->kb,Paired->kj,wpAny_passesOwn->kl,Result->kn,codeAny_mono->ko,mem_of_lookup->ku,call_meets->kx,Params->lv,wpAny_execs_nil->mf,wpAny_rule->mj,BindsTo->mn,wpAny_call_entry->mx,typeIs_str->my,wpAny_setField_rec->ni,wpAny_callSpecial?_slot->om,wpAny_attempt->oz,intText?->pf,PassesOwn->qe,wpAny_Call_Name_kw->qi,wpAny_pyIter_list->qt,wpAny_setField->qw,wpAny_letGo->qy,wpAny_onRaise->re,passOn->rq,Comprehension->se,wpAny_comp_letGo->sf,wpAny_Name->uz,wpAny_execs_cons->vb,wpAny_assign_Name->vc,concat_meets->vn,seqIndex_of->vp,seqIndex_neg->vq,typeIs_int->vz,call->wd,wpAny_newFunctionEnv->wr,codeAny_compStart_list->wt,wpAny_of_eq->wu,wpAny_updateSeq_pair->wv,ExcAttrFacts->wy,wpAny_handleBy_cons->xp,codeAny_handlers_test->xq,Within->yc,wpAny_isTrue_Compare1->yg,wpAny_Tuple_spliced->yl,exec_Assign_Name_used->zm,wpAny_pyIter_tuple->a5,codeAny_call_builtin->a7,lookup_relabel_local->g7,length_partsBetween->i6,wpAny_excMatches_sub_self->i8,codeAny_handlers_suite_as->i9,sizeLine->j2
open PySem.Builtin.Int renaming intBits->zk
open PySem.Builtin.List renaming listTooLong->qo
open PySem.Builtin.ObjectAttr renaming find->n8,dataDescriptor?->n9,getOf->o0,bindTo->o4
open PySem.Builtin.Slice renaming slicePlaces->qk,sliceAdjust->vo,sliceApplied->yt
open PySem.Builtin.SmallTypes renaming nextOf->ka,ownedTupleIsFree->qz,ownedTupleHandOut->zx
open PySem.Builtin.Str renaming occurrences->oh,subAt->ua,strKind->i7,glued->l4
open PySem.Builtin.Tuple renaming tupleExact->qm,tupleHashOf->c7
open PySem.Calls renaming spliced_cons->vj,Name_function_global->yf,spliced_nil->yk,evalArgs_plain->yx
open PySem.Challenge renaming pw_scissorhall_k84_heaps_read->lu,rw_scissorhall_k84_heaps_read->ny
open PySem.Env renaming kindOf->xk
open PySem.F renaming slot_tuple_iterator_next->qv,slot_zip_next->rh,slot_str_split->sr,entry_str_split->xm,args_str_split_2->xn,slot_tuple_add->yp,entry_tuple_add->yq,args_tuple_add_2->yr,slot_list_append->yy,entry_tuple_iterator_next->zn,args_tuple_iterator_next_1->zo,entry_zip_next->zy,args_zip_next_1->zz,excAttr_ValueError->c6,plainAttrs_list->g0,plainAttrs_str->i4
open PySem.Heap renaming get?_push_of_some->aw,lt_size->ax,get?_push_size->dl,SameBut->fu,size_push->jz,HeldW->si,get?_update_self->vt,get?_update_other->vw,get?_update_ne->xj
open PySem.Heap.SameBut renaming update->zq
open PySem.NameKind renaming free->ir,cell->zl
open PySem.NumText renaming digitsVal->j6
open PySem.Obj renaming mapSeq->fx,data_mapFields->qx,isFreed_of_fields->zt
open PySem.PassesOwn renaming never->j0,leaving->j1
open PySem.SeqAt renaming EqAt->lh,RcAt->nu
open PySem.SeqAt.EqAt renaming same->rl,of_refs->f7
open PySem.SeqAt.RcAt renaming none_none->d9,bool_bool->e7,int_int->e8,str_str->e9,tuples->f6,lists->f8,lists_lengths->f9
open PySem.Str renaming ofString->cc,join->uc
open PySem.StrLaws renaming occ_length_le->i5,subAt_one->j7,join_split->j9,joinFits->k9,glued_eq_join->l5
open PySem.Txt renaming split->dh,slice->iw,join->lr,find->ph,startswith->sk
open PySem.Value renaming none->cg,ref->dk,type->jq,int->pz,bool->qa,str->ul,builtin->a9
open PySem.W renaming Frag->ae,nsIn->cj,excIn->cw,keepIn->de,fnOf->dj,kia_one->fi,kitOne->fv,mg_none_of->gh,kas_sort->ic,mg_of->ie,codeIn->jc,findIn->ji,mroIn->jj,Looks->lc,OpenLaw->ng,kHook->pw,specialIn->qh,looks_mroIn->rk,typeIn->su,instObj->um,methodObj->uo,hideAll->uq,hideAll_get->ur,lookIn->ve,hasDictIn->vf,takesIn->vg,kitx_list->vh,looks_findIn->wx,kat_nil->xh,xlAt->xz,recOk->ya,of_hideAll->ye,plainGet->yh,kitx_tuple->yi,kitx_dict->yj,callWith_K->ym,cellsFrom_some->yn,any_some->m7,clsIn->m8
open PySem.W.Hook renaming obs->ug,val->uh
open PySem.W.Looks renaming andThen->ke,ld->ww
open PySem.W.OpenLaw renaming row->uk,wellSaid->n6
open PySem.W.OpenRow renaming toRowW->uj
open PySem.W.RowW renaming records->ui
open Sum renaming inl->kh,inr->ki
open True renaming intro->oj
abbrev AE:=List Int
abbrev AF:=List AE
abbrev AG:=List AF
abbrev AH:=List PySem.Value
abbrev AI:=Option PySem.Value
abbrev AJ:=Option PySem.Addr
abbrev AK:=Option Int
namespace L2
open PySem
def fW(s:Stmt):Arguments:=match s with
 |.FunctionDef _ a _ _ _ _ _ _ _ _=>a
 |_=>{posonlyargs:=[],args:=[],vararg:=none,kwonlyargs:=[],kw_defaults:=[],kwarg:=none,defaults:=[]}
def dZ(s:Stmt):List Stmt:=match s with
 |.FunctionDef _ _ b _ _ _ _ _ _ _=>b
 |_=>[]
def cN(s:Stmt):Scope:=match s with
 |.FunctionDef _ _ _ _ _ _ sc _ _ _=>sc
 |_=>{kind:=.function,names:=[],isGenerator:=false,isCoroutine:=false}
end L2
namespace Sc
noncomputable section
open PySem L2
def bB(i:Nat):Stmt:=lu.main.body.getD i (.Pass ⟨0,0,0,0⟩)
abbrev vs(s:String)(t:Nat):Value:=.str (cc s) t
abbrev vi(i:Int):Value:=.int i 0
abbrev vr(a:Nat):Value:=.ref a
abbrev fo(n:String)(i:Nat)(dV dc pm cd ct:Value):Obj:=⟨.type "function",none,.func (dj (cc n) (cc n) (fW (bB i)) (dZ (bB i)) (cN (bB i)) dV .none dc pm none cd ct),#[]⟩
abbrev fc(l:AH):Obj:=⟨.type "code",none,.fields l.toArray,#[]⟩
abbrev Ro(n:String)(t l a r g:Nat)(x:AH):Obj:=fc (vs n t::vs n (t+1)::vs "/claim/cut.py" (t+2)::vi l::vi a::vi 0::vi 0::vi 3::vr r:: .bool true::vi g::vr (r+1):: .none::x)
abbrev eT(n:String)(t l a r g u:Nat):Obj:=Ro n t l a r g [vr (r+2),vr (r+3),vr (r+4),vi u,vi l,vs "/claim/cut.py" (u+1)]
abbrev eP(n:String)(t l a r g:Nat):Obj:=Ro n t l a r g [.none,.none,vr (r+2),vi (t+3),vi l,vs "/claim/cut.py" (t+4)]
abbrev fd(P:lv)(n:Nat)(l:List (String×Nat×Value)):Obj:=⟨.type "dict",none,.dict (l.map λe=>⟨PyData.keyHash P (cc e.1),.str (cc e.1) e.2.1,e.2.2⟩).toArray n,#[]⟩
abbrev vLq:Value:=vs "law_scissorhall_k84_heaps_read" 422
abbrev fzq (n:String)(i:Nat)(m:Value)(r:Nat):Obj:=fo n i .none .none m (vr r) .none
abbrev v0q:Value:=vs "scissorhall.texts" 365
abbrev v1q:Value:=vs "scissorhall.points" 305
abbrev v2q:Value:=vs "scissorhall.lowest" 271
noncomputable def KK(P:lv):ae:=
 (nat_lit 3,fd P 66 [("__name__",165,vs "law_scissorhall_k84_heaps_read" 422),("__doc__",166,.none),("__package__",167,.none),("__loader__",168,(.builtin "__main__.__loader__#opaque")),("__spec__",169,.none),("__annotations__",170,vr 6),("__builtins__",171,vr 4),("__file__",173,vs "/claim/cut.py" 172),("__cached__",174,.none),("HallError",206,vr 24),("NoNumber",222,vr 37),("NoPoint",238,vr 49),("Flat",254,vr 61),("NoText",270,vr 73),("sign",279,vr 82),("divisor",288,vr 89),("reduced",294,vr 94),("fraction",304,vr 102),("point",313,vr 108),("point_at",319,vr 113),("whole_arrow",325,vr 118),("dot",331,vr 123),("normal",340,vr 130),("determinant",346,vr 135),("side",353,vr 142),("simplex",364,vr 149),("FIGURES",368,vs "0123456789" 367),("MOST_FIGURES",370,(.int 60 369)),("NOTHING",372,vs "none" 371),("refuse_unless",379,vr 156),("read_whole",385,vr 161),("read_number",396,vr 168),("read_point",402,vr 173),("read_corners",408,vr 178),("read_rows",415,vr 185),("read_heap",421,vr 190),("_law_row",436,vr 197),("_law_take",445,vr 204),("_law_gcd",453,vr 211),("_law_lowest",459,vr 216),("_law_whole",466,vr 223),("_law_wholes",472,vr 228),("_law_frac",480,vr 235),("_law_gap",486,vr 240),("_law_cross",497,vr 247),("_law_dot",503,vr 252),("_law_turn",510,vr 259),("_law_det",516,vr 264),("_law_simplex",524,vr 271),("_law_point_form",532,vr 278),("_law_simplex_form",538,vr 283),("_law_heap_form",544,vr 288),("_law_weighted",550,vr 293),("_law_mean_of",557,vr 300),("_law_figures",563,vr 305),("_law_number_of",573,vr 312),("_law_point_of",579,vr 317),("_law_corners_of",585,vr 322),("_law_heap_of",591,vr 327),("_law_sign_at",600,vr 334),("_law_spoilt",611,vr 341),("_law_loose",623,vr 348),("_law_loose_points",629,vr 353),("_law_points",635,vr 358),("_law_asked",644,vr 365),("law",650,vr 370)])::
 (nat_lit 23,fd P 3 [("__module__",196,vs "scissorhall.errors" 187),("__firstlineno__",200,(.int 2 199)),("__static_attributes__",201,vr 22),("__weakref__",203,vr 25),("__doc__",204,.none)])::
 (nat_lit 24,⟨(.type "type"),none,.cls {name:="HallError",bases:=[(.type "ValueError")],mro:=[vr 24,(.type "ValueError"),(.type "Exception"),(.type "BaseException"),(.type "object")],ns:=23,qualname:="HallError",hasDict:=true,subclasses:=[vr 37,vr 49,vr 61,vr 73]},#[some (vr 15),none,some (vs "HallError" 189),some (vs "HallError" 197),some (.builtin "ValueError.__new__"),some (.bool true)]⟩)::
 (nat_lit 36,fd P 2 [("__module__",214,vs "scissorhall.errors" 187),("__firstlineno__",218,(.int 4 217)),("__static_attributes__",219,vr 35),("__doc__",220,.none)])::
 (nat_lit 37,⟨(.type "type"),none,.cls {name:="NoNumber",bases:=[vr 24],mro:=[vr 37,vr 24,(.type "ValueError"),(.type "Exception"),(.type "BaseException"),(.type "object")],ns:=36,qualname:="NoNumber",hasDict:=true,subclasses:=[]},#[some (vr 28),none,some (vs "NoNumber" 207),some (vs "NoNumber" 215),some (.builtin "ValueError.__new__"),some (.bool true)]⟩)::
 (nat_lit 48,fd P 2 [("__module__",230,vs "scissorhall.errors" 187),("__firstlineno__",234,(.int 6 233)),("__static_attributes__",235,vr 47),("__doc__",236,.none)])::
 (nat_lit 49,⟨(.type "type"),none,.cls {name:="NoPoint",bases:=[vr 24],mro:=[vr 49,vr 24,(.type "ValueError"),(.type "Exception"),(.type "BaseException"),(.type "object")],ns:=48,qualname:="NoPoint",hasDict:=true,subclasses:=[]},#[some (vr 40),none,some (vs "NoPoint" 223),some (vs "NoPoint" 231),some (.builtin "ValueError.__new__"),some (.bool true)]⟩)::
 (nat_lit 60,fd P 2 [("__module__",246,vs "scissorhall.errors" 187),("__firstlineno__",250,(.int 8 249)),("__static_attributes__",251,vr 59),("__doc__",252,.none)])::
 (nat_lit 61,⟨(.type "type"),none,.cls {name:="Flat",bases:=[vr 24],mro:=[vr 61,vr 24,(.type "ValueError"),(.type "Exception"),(.type "BaseException"),(.type "object")],ns:=60,qualname:="Flat",hasDict:=true,subclasses:=[]},#[some (vr 52),none,some (vs "Flat" 239),some (vs "Flat" 247),some (.builtin "ValueError.__new__"),some (.bool true)]⟩)::
 (nat_lit 72,fd P 2 [("__module__",262,vs "scissorhall.errors" 187),("__firstlineno__",266,(.int 10 265)),("__static_attributes__",267,vr 71),("__doc__",268,.none)])::
 (nat_lit 73,⟨(.type "type"),none,.cls {name:="NoText",bases:=[vr 24],mro:=[vr 73,vr 24,(.type "ValueError"),(.type "Exception"),(.type "BaseException"),(.type "object")],ns:=72,qualname:="NoText",hasDict:=true,subclasses:=[]},#[some (vr 64),none,some (vs "NoText" 255),some (vs "NoText" 263),some (.builtin "ValueError.__new__"),some (.bool true)]⟩)::
 (nat_lit 81,eT "sign" 273 13 1 76 181 277)::
 (nat_lit 82,fzq "sign" 7 v2q 81)::
 (nat_lit 88,eT "divisor" 280 19 2 83 181 286)::
 (nat_lit 89,fzq "divisor" 8 v2q 88)::
 (nat_lit 93,eP "reduced" 289 25 1 90 181)::
 (nat_lit 94,fzq "reduced" 9 v2q 93)::
 (nat_lit 95,⟨.type "tuple",none,.seq #[(.int 1 295)] 0,#[]⟩)::
 (nat_lit 101,eT "fraction" 296 30 2 96 181 302)::
 (nat_lit 102,fo "fraction" 10 (vr 95) .none v2q (vr 101) .none)::
 (nat_lit 103,⟨.type "tuple",none,.seq #[(.int 1 307)] 0,#[]⟩)::
 (nat_lit 107,eP "point" 308 36 2 104 181)::
 (nat_lit 108,fo "point" 12 (vr 103) .none v1q (vr 107) .none)::
 (nat_lit 112,eP "point_at" 314 40 1 109 181)::
 (nat_lit 113,fzq "point_at" 13 v1q 112)::
 (nat_lit 117,eP "whole_arrow" 320 45 2 114 181)::
 (nat_lit 118,fzq "whole_arrow" 14 v1q 117)::
 (nat_lit 122,eP "dot" 326 47 2 119 181)::
 (nat_lit 123,fzq "dot" 15 v1q 122)::
 (nat_lit 129,eT "normal" 332 49 1 124 181 338)::
 (nat_lit 130,fzq "normal" 16 v1q 129)::
 (nat_lit 134,eP "determinant" 341 55 1 131 181)::
 (nat_lit 135,fzq "determinant" 17 v1q 134)::
 (nat_lit 141,eT "side" 347 58 1 136 181 351)::
 (nat_lit 142,fzq "side" 18 v1q 141)::
 (nat_lit 148,eT "simplex" 356 61 1 143 181 362)::
 (nat_lit 149,fzq "simplex" 20 (vs "scissorhall.simplexes" 354) 148)::
 (nat_lit 155,eT "refuse_unless" 373 73 1 150 181 377)::
 (nat_lit 156,fzq "refuse_unless" 25 v0q 155)::
 (nat_lit 160,eP "read_whole" 380 76 1 157 181)::
 (nat_lit 161,fzq "read_whole" 26 v0q 160)::
 (nat_lit 167,eT "read_number" 386 79 1 162 181 394)::
 (nat_lit 168,fzq "read_number" 27 v0q 167)::
 (nat_lit 172,eP "read_point" 397 87 1 169 181)::
 (nat_lit 173,fzq "read_point" 28 v0q 172)::
 (nat_lit 177,eP "read_corners" 403 91 1 174 181)::
 (nat_lit 178,fzq "read_corners" 29 v0q 177)::
 (nat_lit 184,eT "read_rows" 409 95 1 179 181 413)::
 (nat_lit 185,fzq "read_rows" 30 v0q 184)::
 (nat_lit 189,eP "read_heap" 416 97 1 186 181)::
 (nat_lit 190,fzq "read_heap" 31 v0q 189)::
 (nat_lit 196,eT "_law_row" 424 102 1 191 181 434)::
 (nat_lit 197,fzq "_law_row" 33 vLq 196)::
 (nat_lit 203,eT "_law_take" 437 116 2 198 181 443)::
 (nat_lit 204,fzq "_law_take" 34 vLq 203)::
 (nat_lit 210,eT "_law_gcd" 446 124 2 205 181 451)::
 (nat_lit 211,fzq "_law_gcd" 35 vLq 210)::
 (nat_lit 215,eP "_law_lowest" 454 130 1 212 181)::
 (nat_lit 216,fzq "_law_lowest" 36 vLq 215)::
 (nat_lit 222,eT "_law_whole" 460 137 1 217 181 464)::
 (nat_lit 223,fzq "_law_whole" 37 vLq 222)::
 (nat_lit 227,eP "_law_wholes" 467 139 2 224 181)::
 (nat_lit 228,fzq "_law_wholes" 38 vLq 227)::
 (nat_lit 234,eT "_law_frac" 473 143 2 229 181 478)::
 (nat_lit 235,fzq "_law_frac" 39 vLq 234)::
 (nat_lit 239,eP "_law_gap" 481 147 2 236 181)::
 (nat_lit 240,fzq "_law_gap" 40 vLq 239)::
 (nat_lit 246,eT "_law_cross" 487 149 2 241 181 495)::
 (nat_lit 247,fzq "_law_cross" 41 vLq 246)::
 (nat_lit 251,eP "_law_dot" 498 154 2 248 181)::
 (nat_lit 252,fzq "_law_dot" 42 vLq 251)::
 (nat_lit 258,eT "_law_turn" 504 156 1 253 181 508)::
 (nat_lit 259,fzq "_law_turn" 43 vLq 258)::
 (nat_lit 263,eP "_law_det" 511 160 1 260 181)::
 (nat_lit 264,fzq "_law_det" 44 vLq 263)::
 (nat_lit 270,eT "_law_simplex" 517 162 1 265 181 522)::
 (nat_lit 271,fzq "_law_simplex" 45 vLq 270)::
 (nat_lit 277,eT "_law_point_form" 525 167 2 272 181 530)::
 (nat_lit 278,fzq "_law_point_form" 46 vLq 277)::
 (nat_lit 282,eP "_law_simplex_form" 533 171 2 279 181)::
 (nat_lit 283,fzq "_law_simplex_form" 47 vLq 282)::
 (nat_lit 287,eP "_law_heap_form" 539 177 2 284 181)::
 (nat_lit 288,fzq "_law_heap_form" 48 vLq 287)::
 (nat_lit 292,eP "_law_weighted" 545 181 2 289 181)::
 (nat_lit 293,fzq "_law_weighted" 49 vLq 292)::
 (nat_lit 299,eT "_law_mean_of" 551 189 1 294 181 555)::
 (nat_lit 300,fzq "_law_mean_of" 50 vLq 299)::
 (nat_lit 304,eP "_law_figures" 558 191 1 301 181)::
 (nat_lit 305,fzq "_law_figures" 51 vLq 304)::
 (nat_lit 311,eT "_law_number_of" 564 195 1 306 181 571)::
 (nat_lit 312,fzq "_law_number_of" 52 vLq 311)::
 (nat_lit 316,eP "_law_point_of" 574 210 1 313 181)::
 (nat_lit 317,fzq "_law_point_of" 53 vLq 316)::
 (nat_lit 321,eP "_law_corners_of" 580 221 1 318 181)::
 (nat_lit 322,fzq "_law_corners_of" 54 vLq 321)::
 (nat_lit 326,eP "_law_heap_of" 586 228 1 323 181)::
 (nat_lit 327,fzq "_law_heap_of" 55 vLq 326)::
 (nat_lit 333,eT "_law_sign_at" 592 237 1 328 181 598)::
 (nat_lit 334,fzq "_law_sign_at" 56 vLq 333)::
 (nat_lit 340,eT "_law_spoilt" 601 243 2 335 181 609)::
 (nat_lit 341,fzq "_law_spoilt" 57 vLq 340)::
 (nat_lit 347,eT "_law_loose" 612 254 3 342 181 621)::
 (nat_lit 348,fzq "_law_loose" 58 vLq 347)::
 (nat_lit 352,eP "_law_loose_points" 624 264 2 349 181)::
 (nat_lit 353,fzq "_law_loose_points" 59 vLq 352)::
 (nat_lit 357,eP "_law_points" 630 271 2 354 181)::
 (nat_lit 358,fzq "_law_points" 60 vLq 357)::
 (nat_lit 364,eT "_law_asked" 636 284 1 359 181 642)::
 (nat_lit 365,fzq "_law_asked" 61 vLq 364)::
 (nat_lit 369,eP "law" 645 293 1 366 181)::
 (nat_lit 370,fzq "law" 62 vLq 369)::[]
def KA:List Nat:=[3,23,24,36,37,48,49,60,61,72,73,81,82,88,89,93,94,95,101,102,103,107,108,112,113,117,118,122,123,129,130,134,135,141,142,148,149,155,156,160,161,167,168,172,173,177,178,184,185,189,190,196,197,203,204,210,211,215,216,222,223,227,228,234,235,239,240,246,247,251,252,258,259,263,264,270,271,277,278,282,283,287,288,292,293,299,300,304,305,311,312,316,317,321,322,326,327,333,334,340,341,347,348,352,353,357,358,364,365,369,370]
def VW:Program:={lu with main:={lu.main with body:=[bB 1,bB 2,bB 3,bB 4,bB 5,bB 7,bB 8,bB 9,bB 13,bB 14,bB 15,bB 16,bB 17,bB 18,bB 20,bB 22,bB 23,bB 24,bB 25,bB 26,bB 27,bB 28,bB 29,bB 30,bB 31,bB 33,bB 34,bB 35,bB 36,bB 37,bB 38,bB 39,bB 40,bB 41,bB 42,bB 43,bB 44,bB 45,bB 46,bB 47,bB 48,bB 49,bB 50,bB 51,bB 52,bB 53,bB 54,bB 55,bB 56,bB 57,bB 58,bB 59,bB 60,bB 61,bB 62]}}
theorem KE:∀P,KA=(KK P).map (·.1):=λ_=>by kernel_rfl
theorem wsaid:n6 ny=true:=by kernel_rfl
open PySem.W PyProof.Rows PySem.Spec
abbrev RN(w:ao):=openEnds treeTable lu w 5152
abbrev LW:=looseW VW [cc "fraction",cc "point"]
theorem W3:∀w,(RN w).map (λs=>ug (pw KK KA KE) s)=some (uh (pw KK KA KE) w):=by
 intro w
 kernel_rfl
theorem X5:∀w,(RN w).map (λs=>seen ((recsOf VW).map (·.name)) (ownsOf VW) [] {s with gens:=#[]})=some (expectedOf VW):=by
 intro w
 kernel_rfl
theorem aag:∀w,(RN w).map (λs=>s.heap.bltView)=some (bltViewBooted):=by
 intro w
 kernel_rfl
theorem Y4:∀w,(RN w).map (λs=>s.heap.keysOk LW ((recsOf VW).map (·.name)) ((litsOf VW).map (·.1)) ((clssOf VW LW).map (·.name)))=some (true):=by
 intro w
 kernel_rfl
theorem aac:∀w,(RN w).map (λs=>s.heap.accountedOkI (importedModules lu.main.body)&&(s.heap.isNs mainGlobals&&s.heap.isNs builtinsNs&&tablesOk VW s.heap)&&((λs=>xz VW [] s&&ya (ui (uj (uk ny))) s) s&&(s.gens.size==0)))=some (true):=by
 intro w
 kernel_rfl
theorem V7:∀w,(RN w).map (λs=>tabsOk VW s)=some (true):=by
 intro w
 kernel_rfl
theorem Z5:∀w,(RN w).map (λs=>(pinSeenD VW (drecsOf VW) s,plainSeenD VW [cc "fraction",cc "point"] s,clsSeenW VW [cc "fraction",cc "point"] s))=some (pinGoodD (drecsOf VW),plainGoodD VW [cc "fraction",cc "point"],clsGoodW VW [cc "fraction",cc "point"]):=by
 intro w
 kernel_rfl
theorem X4:∀w,(RN w).map (λs=>plainSeenE VW LW s)=some (plainGoodE VW LW):=by
 intro w
 kernel_rfl
theorem aaf:∀w,(RN w).map (λs=>wideSeen VW s)=some (wideGood VW):=by
 intro w
 kernel_rfl
theorem bz{k a n m t x g:Bool}(h:k=true)(h2:(a&&(n&&m&&t)&&(x&&g))=true):(k&&a&&n&&m&&t&&x&&g)=true:=by
 revert h h2
 cases k<;>cases a<;>cases n<;>cases m<;>cases t<;>cases x<;>cases g<;>decide
theorem aah{A B C P Q R T V Y:Type}{o:Option aa}{y:Y}{G:aa->Y}{k a n m t x g f:aa->Bool}{b:aa->B}{c:aa->C}{p:aa->P}{q:aa->Q}{r:aa->R}{u:aa->T}{v:aa->V}{b':B}{c':C}{p':P}{q':Q}{r':R}{u':T}{v':V}(hA:o.map G=some y)(hB:o.map b=some b')(hC:o.map c=some c')(hD:o.map k=some true)(hE:o.map (λs=>a s&&(n s&&m s&&t s)&&(x s&&g s))=some true)(hF:o.map f=some true)
  (hG:o.map (λs=>(p s,q s,r s))=some (p',q',r'))(hH:o.map u=some u')(hI:o.map v=some v'):o.map (λs=>((b s,c s,(k s&&a s&&n s&&m s&&t s&&x s&&g s),f s,p s,u s,q s,v s,r s),G s))=some ((b',c',true,true,p',u',q',v',r'),y):=by
 cases o with
 |none=>cases hA
 |some s=>
  have G1:=yb (cf hG);have G2:=yb G1.2;exact congrArg some (iy (iy (cf hB) (iy (cf hC) (iy (bz (cf hD) (cf hE)) (iy (cf hF) (iy G1.1 (iy (cf hH) (iy G2.1 (iy (cf hI) G2.2)))))))) (cf hA))
theorem left:LeftO lu VW [cc "fraction",cc "point"] (λs=>xz VW [] s&&ya (ui (uj (uk ny))) s) (ug (pw KK KA KE)) (uh (pw KK KA KE)) 5152:=λw=>aah (A:=Nat) (W3 w) (X5 w) (aag w) (Y4 w) (aac w) (V7 w) (Z5 w) (X4 w) (aaf w)
end
end Sc
set_option maxHeartbeats 200000
set_option Elab.async false
set_option compiler.extract_closed false
set_option bootstrap.genMatcherCode false
set_option linter.all false
set_option maxRecDepth 100000
namespace L2
open PySem PySem.Spec PyProof.Rows
abbrev gB:=Sum Int Str
def Pn:gB->Value->Bool
 |.inl k,v=>Value.isInt k v
 |.inr x,v=>Value.isStrOf x v
def aaF(w:ao):gB->Int
 |.inl k=>hashInt k
 |.inr x=>hashStr w x
theorem kX:∀{k:gB}{v:Value},Pn k v=true->(∃i t,k=kh i/\v=pz i t)\/(∃x t,k=ki x/\v=ul x t)
 |.inl i,v,h=>by
  obtain⟨t,e⟩:=Value.isInt_shape (k:=i) (v:=v) h;exact .inl ⟨i,t,rfl,e⟩
 |.inr x,v,h=>by
  obtain⟨t,e⟩:=Value.isStrOf_shape (x:=x) (v:=v) h;exact .inr ⟨x,t,rfl,e⟩
theorem R9(a b:Int):decide ((kh a:gB)=kh b)=(a==b):=by
 by_cases e:a=b
 .subst e;simp
 .have h:¬(kh a:gB)=kh b:=λq=>e (Sum.inl.inj q)
  rw[decide_eq_false h];exact(beq_eq_false_iff_ne.mpr e).symm
theorem M5(a b:Str):decide ((ki a:gB)=ki b)=decide (a=b):=by
 by_cases e:a=b
 .subst e;simp
 .have h:¬(ki a:gB)=ki b:=λq=>e (Sum.inr.inj q)
  rw[decide_eq_false h,decide_eq_false e]
theorem Q2(a:Int)(b:Str):decide ((kh a:gB)=ki b)=false:=decide_eq_false (λq=>nomatch q)
theorem P9(a:Str)(b:Int):decide ((ki a:gB)=kh b)=false:=decide_eq_false (λq=>nomatch q)
def Hj(prog:Program)(w:ao):PySem.KeyKind prog w gB where
 is:=Pn
 hash:=aaF w
 inj:=λv a b ha hb=>by
  rcases kX ha with⟨i,t,rfl,rfl⟩|⟨x,t,rfl,rfl⟩
  .rcases kX hb with⟨j,u,rfl,e⟩|⟨y,u,rfl,e⟩
   .injection e with e1 _;rw[e1]
   .exact nomatch e
  .rcases kX hb with⟨j,u,rfl,e⟩|⟨y,u,rfl,e⟩
   .exact nomatch e
   .injection e with e1 _;rw[e1]
 byValue:=λk v h=>by
  rcases kX h with⟨i,t,rfl,rfl⟩|⟨x,t,rfl,rfl⟩<;>rfl
 pyHash:=λhv h=>by
  rcases kX hv with⟨i,t,rfl,rfl⟩|⟨x,t,rfl,rfl⟩
  .exact wpAny_pyHash_int h
  .exact wpAny_pyHash_str h
 eqBool:=λhu hv h=>by
  rcases kX hu with⟨i,t,rfl,rfl⟩|⟨x,t,rfl,rfl⟩
  .rcases kX hv with⟨j,u,rfl,rfl⟩|⟨y,u,rfl,rfl⟩
   .rw[R9]at h;exact wpAny_eqBool_int h
   .rw[Q2]at h;exact SeqAt.EqAt.int_str i t y u _ _ _ _ h
  .rcases kX hv with⟨j,u,rfl,rfl⟩|⟨y,u,rfl,rfl⟩
   .rw[P9]at h;exact SeqAt.EqAt.str_int x t j u _ _ _ _ h
   .rw[M5]at h;exact wpAny_eqBool_str h
 «strs»:=λk x t v h=>by
  rcases kX h with⟨i,u,rfl,e⟩|⟨y,u,rfl,e⟩
  .exact nomatch e
  .injection e with e1 _
   subst e1;cases v<;>rfl
inductive V where
 |non |bl (b:Bool) |int (i:Int) |str (x:Str) |byt (b:Array UInt8) |flt (b:UInt64) |ref (a:Addr) |ty (n:String)
 deriving DecidableEq
def bY:V->Value->Prop
 |.non,u=>u=cg
 |.bl b,u=>u=qa b
 |.int i,u=>∃t,u=pz i t
 |.str x,u=>∃t,u=ul x t
 |.byt b,u=>∃t,u=Value.bytes b t
 |.flt b,u=>∃t,u=Value.float b t
 |.ref a,u=>u=dk a
 |.ty n,u=>u=jq n
abbrev bH:List V->AH->Prop:=kj bY
theorem bH.length{xs:List V}{us:AH}(r:bH xs us):xs.length=us.length:=Paired.length r
theorem bH.get:∀{xs:List V}{us:AH}{i:Nat}{x:V},bH xs us->xs[i]?=some x->∃u,us[i]?=some u/\bY x u
 |_,_,_,_,.nil,e=>by simp at e
 |_,_,0,_,.cons r _,e=>by simp at e;subst e;exact⟨_,rfl,r⟩
 |_,_,i+1,x,.cons _ t,e=>by
  obtain⟨u,h1,h2⟩:=bH.get (i:=i) (x:=x) t (by simpa using e);exact⟨u,by simpa using h1,h2⟩
theorem bH.set{x:V}{u:Value}(r:bY x u):∀{xs:List V}{us:AH}(i:Nat),bH xs us->bH (xs.set i x) (us.set i u)
 |_,_,_,.nil=>.nil
 |_,_,0,.cons _ t=>.cons r t
 |_,_,i+1,.cons q t=>.cons q (bH.set r i t)
theorem bH.append:∀{xs ys:List V}{us ws:AH},bH xs us->bH ys ws->bH (xs++ys) (us++ws)
 |_,_,_,_,.nil,s=>s
 |_,_,_,_,.cons r t,s=>.cons r (bH.append t s)
theorem bH.take:∀{xs:List V}{us:AH}(n:Nat),bH xs us->bH (xs.take n) (us.take n)
 |_,_,0,_=>.nil
 |_,_,_+1,.nil=>.nil
 |_,_,n+1,.cons r t=>.cons r (bH.take n t)
theorem bH.drop:∀{xs:List V}{us:AH}(n:Nat),bH xs us->bH (xs.drop n) (us.drop n)
 |_,_,0,r=>r
 |_,_,_+1,.nil=>.nil
 |_,_,n+1,.cons _ t=>bH.drop n t
def Pb:Option V->AI->Prop
 |some v,some u=>bY v u
 |none,none=>True
 |_,_=>False
def KV{κ:Type}:List (κ×V)->List (κ×Value)->Prop:=kj λ(p:κ×V) (q:κ×Value)=>p.1=q.1/\bY p.2 q.2
def kV:gB->V
 |.inl i=>.int i
 |.inr x=>.str x
inductive HO where
 /--a list -/
 |lst (xs:List V)
 /--a tuple (never changes) -/
 |tup (xs:List V)
 /--a dict whose keys are ints and texts;one whose keys are tuples of ints and texts (the empty one is both) -/
 |dK (kvs:List (gB×V)) |dT (kvs:List (List gB×V))
 /--a set of ints:its members,its size -/
 |set (S:Int->Bool) (n:Nat)
 /--an instance of the class at C,its dict at dx,its attributes -/
 |ins (C dx:Addr) (fs:List (Str×V))
 /--the dict of the instance at x -/
 |own (x:Addr)
 /--the dict of an exception -/
 |xd (fs:List (Str×V))
 /--a bound method,f of x -/
 |met (f x:Addr)
 /--a range object lo,lo+1,.. below hi -/
 |rng (lo hi:Int)
 /--a thing that is known to the object (the script;a dict while a loop walks it):read,never written while it is so -/
 |frz (o:Obj) (u:HO)
 /--a code object's table -/
 |tbl (ps:Array Value)
 /--any other thing,by what is true of its one object (a def of one's own:SetO a S n:=HO.ext λh=>..) -/
 |ext (φ:Heap->Prop)
abbrev Hp:=Addr->Option HO
def bE(H:Hp)(a:Addr)(o:HO):Hp:=λb=>if b=a then some o else H b
theorem iL{H:Hp}{a:Addr}{o:HO}:bE H a o a=some o:=by unfold bE;rw[if_pos rfl]
theorem cQ{H:Hp}{a b:Addr}{o:HO}(h:b≠a):bE H a o b=H b:=by unfold bE;rw[if_neg h]
theorem fU{H:Hp}{a b:Addr}{o:HO}(h:H a=some o)(h':H b=none):a≠b:=by
 intro e;subst e;rw[h]at h';cases h'
section
variable(P:Program)(w:ao)
def eY(H:Hp)(h:Heap)(a:Addr):HO->Prop
 |.lst xs=>xs.length<=sizeLine/\∃(its:AH)(n:Nat),bH xs its/\h.get? a=some {cls:=.type "list",data:=.seq its.toArray n}
 |.tup xs=>xs.length<=sizeLine/\∃its:AH,bH xs its/\IsTup h a its.toArray
 |.dK kvs=>kvs.length<=sizeLine/\(a==sysModules)=false/\∃vs,KV kvs vs/\h.DictOf (Hj P w) a vs
 |.dT kvs=>kvs.length<=sizeLine/\(a==sysModules)=false/\∃xs:List (List gB×Addr×Value),
   kj (λ(p:List gB×V) (q:List gB×Addr×Value)=>p.1=q.1/\H q.2.1=some (.tup (p.1.map kV))/\bY p.2 q.2.2) kvs xs/\
   ∃o es ep,h.get? a=some o/\o.ExactDict/\o.data=.dict es ep/\es.toList=xs.map (entryOfKey (tupleKind (Hj P w)))/\(xs.map (·.1)).Nodup
 |.set S n=>h.SetOf (intKind P w) a S n
 |.ins C dx fs=>H dx=some (.own a)/\fs.length<=1000/\dx≠a/\h.get? a=some (um C dx)/\
   ∃mA,h.Ns1 dx mA/\(∀f,Pb (fs.lookup f) (mA f))/\yc mA (fs.map (·.1))
 |.own _=>∃o,h.get? a=some o
 |.xd fs=>∃mA,h.Ns1 a mA/\∀f,Pb (fs.lookup f) (mA f)
 |.rng lo hi=>∃t u v,h.get? a=some {cls:=.type "range",data:=.fields #[.int lo t,.int hi u,.int 1 v]}
 |.frz o u=>h.get? a=some o/\eY H h a u
 |.tbl ps=>h.get? a=some {cls:=.none,data:=.fields ps}
 |.met f x=>h.get? a=some (uo (.ref f) (.ref x))
 |.ext φ=>φ h/\(∃o,h.get? a=some o)/\∀h1 h2:Heap,φ h1->(∀o,h1.get? a=some o->h2.get? a=some o)->φ h2
def eG(H:Hp)(h:Heap):Prop:=∀a o,H a=some o->eY P w H h a o
end
section
variable{P:Program}{w:ao}{H H':Hp}{h h':Heap}{a:Addr}{o:HO}
theorem eY.lt(x:eY P w H h a o):a<h.objs.size:=by
 cases o with
 |lst xs=>obtain⟨_,_,_,_,e⟩:=x;exact ax e
 |tup xs=>obtain⟨_,_,_,p⟩:=x;exact p.lt
 |dK kvs=>obtain⟨_,_,_,_,o,_,_,e,_⟩:=x;exact ax e
 |dT kvs=>obtain⟨_,_,_,_,o,_,_,e,_⟩:=x;exact ax e
 |set S n=>obtain⟨o,_,_,_,e,_⟩:=x;exact ax e
 |ins C dx fs=>obtain⟨_,_,_,e,_⟩:=x;exact ax e
 |own y=>obtain⟨_,e⟩:=x;exact ax e
 |xd fs=>obtain⟨_,⟨_,_,_,e,_⟩,_⟩:=x;exact ax e
 |rng lo hi=>obtain⟨_,_,_,e⟩:=x;exact ax e
 |frz ob u=>obtain⟨e,_⟩:=x;exact ax e
 |tbl ps=>exact ax (show h.get? a=some _ from x)
 |met f y=>exact ax (show h.get? a=some _ from x)
 |ext φ=>obtain⟨_,⟨_,e⟩,_⟩:=x;exact ax e
theorem Paired.mapP{α β:Type}{F G:α->β->Prop}:∀{l₁:List α}{l₂:List β},kj F l₁ l₂->(∀a b,F a b->G a b)->kj G l₁ l₂
 |_,_,.nil,_=>.nil
 |_,_,.cons r t,f=>.cons (f _ _ r) (Paired.mapP t f)
theorem eY.stay(x:eY P w H h a o)(k:∀b u,(b=a\/H b=some (.own a))->h.get? b=some u->h'.get? b=some u)
  (ho:∀b,H b=some (.own a)->H' b=some (.own a))(ht:∀b xs,H b=some (.tup xs)->H' b=some (.tup xs)):eY P w H' h' a o:=by
 induction o with
 |lst xs=>obtain⟨z,its,n,r,e⟩:=x;exact⟨z,its,n,r,k _ _ (.inl rfl) e⟩
 |tup xs=>obtain⟨z,its,r,ob,e,c⟩:=x;exact⟨z,its,r,ob,k _ _ (.inl rfl) e,c⟩
 |dK kvs=>obtain⟨z,y,vs,r,ob,es,ep,e,c⟩:=x;exact⟨z,y,vs,r,ob,es,ep,k _ _ (.inl rfl) e,c⟩
 |dT kvs=>
  obtain⟨z,y,xs,r,ob,es,ep,e,c⟩:=x;exact⟨z,y,xs,Paired.mapP r λp q z=>⟨z.1,ht _ _ z.2.1,z.2.2⟩,ob,es,ep,k _ _ (.inl rfl) e,c⟩
 |set S n=>obtain⟨ob,es,ep,t,e,c⟩:=x;exact⟨ob,es,ep,t,k _ _ (.inl rfl) e,c⟩
 |ins C dx fs=>
  obtain⟨d,z,ne,e,mA,⟨od,es,ep,e2,c⟩,r⟩:=x;exact⟨ho _ d,z,ne,k _ _ (.inl rfl) e,mA,⟨od,es,ep,k _ _ (.inr d) e2,c⟩,r⟩
 |own y=>obtain⟨ob,e⟩:=x;exact⟨ob,k _ _ (.inl rfl) e⟩
 |xd fs=>obtain⟨mA,⟨od,es,ep,e,c⟩,r⟩:=x;exact⟨mA,⟨od,es,ep,k _ _ (.inl rfl) e,c⟩,r⟩
 |rng lo hi=>obtain⟨t,u,v,e⟩:=x;exact⟨t,u,v,k _ _ (.inl rfl) e⟩
 |frz ob u ih=>obtain⟨e,q⟩:=x;exact⟨k _ _ (.inl rfl) e,ih q⟩
 |tbl ps=>
  have e:h.get? a=some {cls:=.none,data:=.fields ps}:=x;show h'.get? a=some {cls:=.none,data:=.fields ps};exact k a _ (.inl rfl) e
 |met f y=>
  have e:h.get? a=some (uo (.ref f) (.ref y)):=x;show h'.get? a=some (uo (.ref f) (.ref y));exact k a _ (.inl rfl) e
 |ext φ=>obtain⟨p,⟨o,e⟩,st⟩:=x;exact⟨st _ _ p λo q=>k _ _ (.inl rfl) q,⟨o,k _ _ (.inl rfl) e⟩,st⟩
theorem eG.lt(x:eG P w H h)(e:H a=some o):a<h.objs.size:=(x a o e).lt
theorem eG.fresh(x:eG P w H h)(e:h.objs.size<=a):H a=none:=by
 cases q:H a with
 |none=>rfl
 |some u=>exact absurd (br (x.lt q) e) (fj _)
theorem eG.kept(x:eG P w H h)(k:∀b u,h.get? b=some u->h'.get? b=some u):eG P w H h':=λa o e=>
 (x a o e).stay (λb u _ q=>k b u q) (λ_ q=>q) λ_ _ q=>q
theorem eG.laid(x:eG P w H h)(k:∀b u,h.get? b=some u->h'.get? b=some u)(hp:h.objs.size<=a)(new:eY P w (bE H a o) h' a o):eG P w (bE H a o) h':=λb u e=>by
 have hn:=x.fresh hp
 by_cases hb:b=a
 .subst hb;rw[iL]at e;cases e;exact new
 .rw[cQ hb]at e
  exact(x b u e).stay (λc v _ q=>k c v q) (λc q=>by rw[cQ (fU q hn)];exact q) λc xs q=>by rw[cQ (fU q hn)];exact q
end
def Rd(H:Hp)(a:Addr)(u:HO):Prop:=H a=some u\/∃o,H a=some (.frz o u)
theorem Rd.ok{P:Program}{w:ao}{H:Hp}{h:Heap}{a:Addr}{u:HO}(r:Rd H a u)(x:eG P w H h):eY P w H h a u:=by
 rcases r with r |⟨o,r⟩
 .exact x a u r
 .obtain⟨_,q⟩:=x a _ r
  exact q
def wK:Option HO->Prop
 |some (.lst _)=>True
 |some (.dK _)=>True
 |some (.dT _)=>True
 |some (.set _ _)=>True
 |some (.ins _ _ _)=>True
 |some (.ext _)=>True
 |_=>False
section
variable{P:Program}{w:ao}{H:Hp}{h h':Heap}{x e:Addr}{o':HO}
theorem eG.write(ok:eG P w H h)(mu:wK (H x))(he:e=x\/H e=some (.own x))(k:∀b u,b≠e->h.get? b=some u->h'.get? b=some u)(heo:∃u,h'.get? e=some u)
  (new:eY P w (bE H x o') h' x o'):eG P w (bE H x o') h':=λb u q=>by
 have nown:∀c y,H c=some (.own y)->c≠x:=λc y r z=>by subst z;rw[r]at mu;exact mu
 have ntup:∀c xs,H c=some (.tup xs)->c≠x:=λc xs r z=>by subst z;rw[r]at mu;exact mu
 by_cases hb:b=x
 .subst hb;rw[iL]at q;cases q;exact new
 .rw[cQ hb]at q
  by_cases hbe:b=e
  .have q':H b=some (.own x):=by
    rcases he with z |z
    .exact absurd (hbe.trans z) hb
    .rw[hbe];exact z
   rw[q]at q';cases q';obtain⟨v,hv⟩:=heo;exact⟨v,by rw[hbe];exact hv⟩
  .refine(ok b u q).stay (λc v hc r=>k c v ?_ r) (λc r=>by rw[cQ (nown c b r)];exact r) λc xs r=>by rw[cQ (ntup c xs r)];exact r
   rcases hc with rfl |hc
   .exact hbe
   .rintro rfl
    rcases he with z |z
    .exact nown c b hc z
    .rw[hc]at z;cases z;exact hb rfl
end
structure Un(fs ex:List Addr)(H H':Hp)(h h':Heap):Prop where
 keep:∀b o,h.get? b=some o->H b=none->b∉fs->b∉ex->h'.get? b=some o
 slot:∀b o,h.get? b=some o->H b=none->b∈fs->b∉ex->∃sl,h'.get? b=some {o with slots:=sl}
 free:∀b o,h.get? b=some o->H b=none->b∉ex->H' b=none
 there:∀b o,h.get? b=some o->b∉ex->∃o',h'.get? b=some o'
 tups:∀b xs,H b=some (.tup xs)->H' b=some (.tup xs)
 frzs:∀b o u,H b=some (.frz o u)->H' b=some (.frz o u)
 tbls:∀b ps,H b=some (.tbl ps)->∃more,H' b=some (.tbl (ps++more))
section
variable{fs fs' ex ex':List Addr}{H H1 H2:Hp}{h h1 h2 h':Heap}{a x e:Addr}{o:HO}
theorem Un.any(u:Un fs ex H H1 h h1){b:Addr}{ob:Obj}(q:h.get? b=some ob)(n:H b=none)(hx:b∉ex):∃sl,h1.get? b=some {ob with slots:=sl}:=by
 by_cases hb:b∈fs
 .exact u.slot b ob q n hb hx
 .exact⟨ob.slots,u.keep b ob q n hb hx⟩
theorem Un.trans(a:Un fs ex H H1 h h1)(b:Un fs ex H1 H2 h1 h2):Un fs ex H H2 h h2 where
 keep:=λc ob q n hc hx=>b.keep c ob (a.keep c ob q n hc hx) (a.free c ob q n hx) hc hx
 slot:=λc ob q n hc hx=>by
  obtain⟨sl,e1⟩:=a.slot c ob q n hc hx;obtain⟨sl',e2⟩:=b.slot c _ e1 (a.free c ob q n hx) hc hx;exact⟨sl',e2⟩
 free:=λc ob q n hx=>by
  obtain⟨o',e1⟩:=a.there c ob q hx;exact b.free c o' e1 (a.free c ob q n hx) hx
 there:=λc ob q hx=>by
  obtain⟨o',e1⟩:=a.there c ob q hx;exact b.there c o' e1 hx
 tups:=λc xs q=>b.tups c xs (a.tups c xs q)
 frzs:=λc ob xs q=>b.frzs c ob xs (a.frzs c ob xs q)
 tbls:=λc ps q=>by
  obtain⟨m1,e1⟩:=a.tbls c ps q;obtain⟨m2,e2⟩:=b.tbls c _ e1;exact⟨m1++m2,by rw[e2,yd]⟩
theorem Un.kept(k:∀b u,h.get? b=some u->h'.get? b=some u):Un fs ex H H h h':=
 ⟨λb ob q _ _ _=>k b ob q,λb ob q _ _ _=>⟨ob.slots,k b ob q⟩,λ_ _ _ n _=>n,λb ob q _=>⟨ob,k b ob q⟩,λ_ _ q=>q,λ_ _ _ q=>q,λ_ ps q=>⟨#[],by rw[q];simp⟩⟩
theorem Un.refl:Un fs ex H H h h:=Un.kept λ_ _ q=>q
theorem Un.laid(k:∀b u,h.get? b=some u->h'.get? b=some u)(hp:h.objs.size<=a)(hn:H a=none):Un fs ex H (bE H a o) h h' where
 keep:=λb u q _ _ _=>k b u q
 slot:=λb u q _ _ _=>⟨u.slots,k b u q⟩
 free:=λb u q n _=>by rw[cQ (ck (br (ax q) hp))];exact n
 there:=λb u q _=>⟨u,k b u q⟩
 tups:=λb xs q=>by rw[cQ (fU q hn)];exact q
 frzs:=λb u xs q=>by rw[cQ (fU q hn)];exact q
 tbls:=λb ps q=>⟨#[],by rw[cQ (fU q hn),q];simp⟩
theorem Un.write(mu:wK (H x))(he:e=x\/H e=some (.own x))(k:∀b u,b≠e->h.get? b=some u->h'.get? b=some u)(heo:∃u,h'.get? e=some u):Un fs ex H (bE H x o) h h':=by
 have hx:∀b,H b=none->b≠x:=λb n z=>by subst z;rw[n]at mu;exact mu
 have hb:∀b,H b=none->b≠e:=λb n z=>by
  subst z;rcases he with r |r
  .exact hx b n r
  .rw[n]at r;cases r
 have hm:∀b u,H b=some u->¬wK (some u)->b≠x:=λb u q nm z=>by subst z;rw[q]at mu;exact nm mu
 refine⟨λb u q n _ _=>k b u (hb b n) q,λb u q n _ _=>⟨u.slots,k b u (hb b n) q⟩,λb u q n _=>by rw[cQ (hx b n)];exact n,λb u q _=>?_,
  λb xs q=>by rw[cQ (hm b _ q λz=>z)];exact q,λb u xs q=>by rw[cQ (hm b _ q λz=>z)];exact q,λb ps q=>⟨#[],by rw[cQ (hm b _ q λz=>z),q];simp⟩⟩
 by_cases hbe:b=e
 .subst hbe;exact heo
 .exact⟨u,k b u hbe q⟩
end
def wT(h:Heap)(H:Hp):List Addr:=(ce h.objs.size).filter λa=>(H a).isSome
def lN(h:Heap)(H:Hp):Heap:=uq h (wT h H)
theorem Ut(h:Heap)(H:Hp):(lN h H).objs.size=h.objs.size:=PySem.W.hideAll_size _ _
theorem Cy{h:Heap}{H:Hp}{b:Addr}{o:Obj}(e:h.get? b=some o)(n:H b=none):(lN h H).get? b=some o:=
 ur _ e λhm=>by
  have q:(H b).isSome=true:=(qc.mp hm).2;rw[n]at q;simp at q
theorem Oy{h:Heap}{H:Hp}{b:Addr}{o:Obj}(e:(lN h H).get? b=some o):h.get? b=some o/\H b=none:=by
 have e':h.get? b=some o:=ye (wT h H) e;refine⟨e',?_⟩;cases q:H b with
 |none=>rfl
 |some x=>
  have hm:b∈wT h H:=qc.mpr ⟨uu.mpr (ax e'),by simp[q]⟩;have z:(lN h H).get? b=none:=PySem.W.hideAll_none (wT h H) hm;rw[z]at e;cases e
def G3(g h:Heap)(L:Addr):List (Addr×Obj):=(ce h.objs.size).filterMap λa=>if a=L\/(g.get? a).isSome=true then none else(h.get? a).map λo=>(a,o)
def cY(g h:Heap)(L d:Addr):List (Addr×Obj):=(G3 g h L).filter λp=>decide (p.1≠d)
structure Mod(K:ae)(mg:Str->AI)(base:Heap):Prop where
 kin:K.In base
 glob:base.Ns mainGlobals mg
 blt:∃mb,base.Ns builtinsNs mb/\∀x:Str,x≠"__name__"->mb x=bootBuiltins x
 nolimit:base.NoLimit
structure Cx where
 prog:Program
 w:ao
 K:ae
 mg:Str->AI
 base:Heap
 A:aq
 N:List Str
 AS:aa
 AT:Hp
 env:az
 outer:List az
 stack:List az
 ex:List Addr
 fn:Str->Bool
 calm:Bool
 pn:List (Addr×Obj)
 xe:Value->aa->Prop
def cL(l:List az):List Addr:=l.filterMap (·.frame)
abbrev Cx.fs(X:Cx):List Addr:=cL X.outer
def wH(sc:Scope)(x:Str):Prop:=sc.names.lookup x=some .local\/sc.names.lookup x=some .cell\/sc.names.lookup x=some .free
def jP(sc:Scope)(x:Str):Prop:=sc.names.lookup x=some .local\/sc.names.lookup x=some .cell
def aas(env:az)(h:Heap)(m:Str->AI)(x:Str)(u:Value):Prop:=
 (env.kindOf x=some .local/\m x=some u)\/((env.kindOf x=some .cell\/env.kindOf x=some .free)/\∃c,env.cells.lookup x=some c/\h.IsCell c (some u))
structure Cx.Ok(X:Cx):Prop where
 mod:Mod X.K X.mg X.base
 kind:X.env.scope.kind=.function
 glob:X.env.globals=mainGlobals
 blt:X.env.builtins=builtinsNs
 above:X.AS.heap.objs.size<=X.env.locals
 inj:∀x y c,X.env.cells.lookup x=some c->X.env.cells.lookup y=some c->x=y
 has:∀x,(X.env.kindOf x=some .cell\/X.env.kindOf x=some .free)->∃c,X.env.cells.lookup x=some c
 cab:∀x c,X.fn x=true->X.env.cells.lookup x=some c->X.AS.heap.objs.size<=c
 hd:X.calm=true->X.A.handled=none
 frames:X.A.frames=some X.stack
 stk:X.stack=X.outer\/(X.stack=X.env::X.outer/\X.env.frame=some X.env.locals)
 exf:∀b∈X.ex,b≠X.env.locals/\∀x c,X.env.cells.lookup x=some c->c≠b
 bs:∀b o,X.base.get? b=some o->X.AS.heap.get? b=some o/\X.AT b=none
 bsz:X.base.objs.size<=X.AS.heap.objs.size
 noex:∀b o,X.base.get? b=some o->b∉X.ex
 exfs:∀b∈X.ex,b∉X.fs
 funs:X.AS.heap.FunFrames X.base X.outer
 frf:∀b∈X.fs,X.AT b=none
structure aH(X:Cx)(AR:List (Addr×Obj))(σ:List (Option V))(H:Hp)(s:aa):Prop where
 ok:X.Ok
 os:s.os=X.AS.os
 bare:gq s.gens
 base:Un X.fs X.ex X.AT H X.AS.heap s.heap
 loc:∃m,s.heap.Ns X.env.locals m/\∀(i:Nat)(x:Str)(v:V),X.N[i]?=some x->σ[i]?=some (some v)->wH X.env.scope x->∃u,bY v u/\aas X.env s.heap m x u
 cell:∀x c,X.env.cells.lookup x=some c->∃v,s.heap.IsCell c v
 free:H X.env.locals=none
 freeC:∀x c,X.env.cells.lookup x=some c->H c=none
 pin:∀p∈X.pn++AR,s.heap.get? p.1=some p.2/\H p.1=none/\p.1≠X.env.locals/\p.1∉X.fs/\∀v,p.2.data≠.cell v
 hok:eG X.prog X.w H s.heap
 len:σ.length=X.N.length
section
variable{X:Cx}{AR:List (Addr×Obj)}{σ:List (Option V)}{H H':Hp}{s:aa}{h':Heap}
theorem Cx.Ok.nofr(ok:X.Ok){b:Addr}{o:Obj}(e:X.base.get? b=some o):b∉X.fs:=λhb=>by
 have:=(ok.funs.mem hb).1;rw[e]at this;cases this
theorem aH.bs(I:aH X AR σ H s):∀b o,X.base.get? b=some o->s.heap.get? b=some o/\H b=none:=λb o e=>
 ⟨I.base.keep b o (I.ok.bs b o e).1 (I.ok.bs b o e).2 (I.ok.nofr e) (I.ok.noex b o e),I.base.free b o (I.ok.bs b o e).1 (I.ok.bs b o e).2 (I.ok.noex b o e)⟩
theorem aH.bk(I:aH X AR σ H s):∀b o,X.base.get? b=some o->s.heap.get? b=some o:=λb o e=>(I.bs b o e).1
theorem aH.mod(I:aH X AR σ H s):Mod X.K X.mg X.base:=I.ok.mod
theorem aH.kIn(I:aH X AR σ H s):X.K.In s.heap:=I.ok.mod.kin.keeps I.bk
theorem aH.lt(I:aH X AR σ H s):X.env.locals<s.heap.objs.size:=let⟨_,hn,_⟩:=I.loc;hn.lt
theorem aH.sz(I:aH X AR σ H s):X.AS.heap.objs.size<=s.heap.objs.size:=dn I.ok.above (uv I.lt)
theorem aH.nofs(I:aH X AR σ H s){a:Addr}(h:s.heap.objs.size<=a):a∉X.fs:=λhb=>by
 obtain⟨_,o,ho,_⟩:=I.ok.funs.mem hb;exact absurd (br (ax ho) (dn I.sz h)) (fj _)
theorem aH.cne(I:aH X AR σ H s):∀x c,X.env.cells.lookup x=some c->c≠X.env.locals:=λx c e z=>by
 obtain⟨v,o,ho,hd⟩:=I.cell x c e;obtain⟨m,⟨o',es,ep,ho',hd',_⟩,_⟩:=I.loc;rw[z,ho']at ho;cases ho;rw[hd']at hd;cases hd
theorem aH.funs(I:aH X AR σ H s):s.heap.FunFrames X.base X.outer:=by
 have all:∀(l:List az),(∀b∈cL l,b∈X.fs)->X.AS.heap.FunFrames X.base l->s.heap.FunFrames X.base l:=by
  intro l
  induction l with
  |nil=>intro _ _;trivial
  |cons env r ih=>
   intro hs hl;obtain⟨hk,⟨L,o,hf,hn,ho,hd⟩,hr⟩:=hl;have hL:L∈X.fs:=hs L (by unfold cL;rw[uw,hf];exact bc);obtain⟨sl,e⟩:=I.base.slot L o ho (I.ok.frf L hL) hL λz=>I.ok.exfs L z hL;exact⟨hk,⟨L,_,hf,hn,e,hd⟩,ih (λb hb=>hs b (by unfold cL;rw[uw,hf];exact bp _ hb)) hr⟩
 exact all X.outer (λ_ hb=>hb) I.ok.funs
theorem aH.stack(I:aH X AR σ H s):s.heap.FunFrames X.base X.stack:=by
 rcases I.ok.stk with e |⟨e,hf⟩
 .rw[e];exact I.funs
 .rw[e]
  obtain⟨m,hn,_⟩:=I.loc;refine .cons (by rw[I.ok.kind];decide) hf hn ?_ I.funs;exact Heap.get?_none_of_le (dn I.ok.bsz I.ok.above)
theorem aH.stkSub(I:aH X AR σ H s):∀b∈cL X.stack,b∈X.env.locals::X.fs:=λb hb=>by
 rcases I.ok.stk with e |⟨e,hf⟩
 .rw[e]at hb;exact bp _ hb
 .rw[e]at hb
  unfold cL at hb;rw[uw,hf]at hb;exact hb
theorem aH.stkFree(I:aH X AR σ H s):∀b∈cL X.stack,H b=none:=λb hb=>by
 rcases cu.mp (I.stkSub b hb)with e |hb
 .rw[e];exact I.free
 .obtain⟨_,o,ho,_⟩:=I.ok.funs.mem hb
  exact I.base.free b o ho (I.ok.frf b hb) λz=>I.ok.exfs b z hb
theorem aH.step{g':Array GenState}{t':Nat}{d':Drawn}{ch:List Addr}(I:aH X AR σ H s)
  (hch:∀b∈ch,(b∈X.ex\/X.AS.heap.objs.size<=b)/\b≠X.env.locals/\(∀x c,X.env.cells.lookup x=some c->c≠b)/\∀p∈X.pn++AR,p.1≠b)
  (keep:∀b o,b≠X.env.locals->b∉X.fs->b∉ch->s.heap.get? b=some o->H b=none->h'.get? b=some o)
  (slot:∀b o,b≠X.env.locals->b∈X.fs->b∉ch->s.heap.get? b=some o->H b=none->∃sl,h'.get? b=some {o with slots:=sl})(free:∀b o,b∉ch->s.heap.get? b=some o->H b=none->H' b=none)
  (there:∀b o,b∉ch->s.heap.get? b=some o->∃o',h'.get? b=some o')
  (tups:∀b xs,H b=some (.tup xs)->H' b=some (.tup xs))(frzs:∀b o u,H b=some (.frz o u)->H' b=some (.frz o u))(tbls:∀b ps,H b=some (.tbl ps)->∃more,H' b=some (.tbl (ps++more)))
  (ns:∀m,s.heap.Ns X.env.locals m->h'.Ns X.env.locals m)(hok:eG X.prog X.w H' h')(hg:gq g'):
  aH X AR σ H' {s with heap:=h',gens:=g',drawn:=d',toks:=t'}:=by
 have neL:∀b o,X.AS.heap.get? b=some o->b≠X.env.locals:=λb o e=>ck (br (ax e) I.ok.above);have neC:∀b o,X.AS.heap.get? b=some o->b∉X.ex->b∉ch:=λb o e hx hb=>by
  rcases(hch b hb).1 with z |z
  .exact hx z
  .exact absurd (br (ax e) z) (fj _)
 have cellK:∀x c,X.env.cells.lookup x=some c->∀v,s.heap.IsCell c v->h'.IsCell c v:=λx c e v ⟨o,ho,hd⟩=>by
  have nch:c∉ch:=λz=>(hch c z).2.2.1 x c e rfl
  by_cases hc:c∈X.fs
  .obtain⟨sl,q⟩:=slot c o (I.cne x c e) hc nch ho (I.freeC x c e)
   exact⟨_,q,hd⟩
  .exact⟨o,keep c o (I.cne x c e) hc nch ho (I.freeC x c e),hd⟩
 refine⟨I.ok,I.os,hg,⟨λb o e n hb hx=>?_,λb o e n hb hx=>?_,λb o e n hx=>?_,λb o e hx=>?_,λb xs e=>tups b xs (I.base.tups b xs e),λb o xs e=>frzs b o xs (I.base.frzs b o xs e),λb ps e=>?_⟩,?_,λx c e=>?_,?_,λx c e=>?_,λp hp=>?_,hok,I.len⟩
 .exact keep b o (neL b o e) hb (neC b o e hx) (I.base.keep b o e n hb hx) (I.base.free b o e n hx)
 .obtain⟨sl,e1⟩:=I.base.slot b o e n hb hx
  obtain⟨sl',e2⟩:=slot b _ (neL b o e) hb (neC b o e hx) e1 (I.base.free b o e n hx);exact⟨sl',e2⟩
 .obtain⟨o',e1⟩:=I.base.there b o e hx
  exact free b o' (neC b o e hx) e1 (I.base.free b o e n hx)
 .obtain⟨o',e1⟩:=I.base.there b o e hx
  exact there b o' (neC b o e hx) e1
 .obtain⟨m1,e1⟩:=I.base.tbls b ps e
  obtain⟨m2,e2⟩:=tbls b _ e1;exact⟨m1++m2,by rw[e2,yd]⟩
 .obtain⟨m,hn,hl⟩:=I.loc
  refine⟨m,ns m hn,λi x v e1 e2 e3=>?_⟩;obtain⟨u,r,l⟩:=hl i x v e1 e2 e3;refine⟨u,r,?_⟩;rcases l with l |⟨k,c,e,z⟩
  .exact .inl l
  .exact .inr ⟨k,c,e,cellK x c e _ z⟩
 .obtain⟨v,z⟩:=I.cell x c e
  exact⟨v,cellK x c e v z⟩
 .obtain⟨m,⟨o,_,_,ho,_⟩,_⟩:=I.loc
  exact free _ o (λz=>(hch _ z).2.1 rfl) ho I.free
 .obtain⟨v,o,ho,hd⟩:=I.cell x c e
  exact free c o (λz=>(hch c z).2.2.1 x c e rfl) ho (I.freeC x c e)
 .obtain⟨e,n,ne,nf,d⟩:=I.pin p hp
  have nch:p.1∉ch:=λz=>(hch p.1 z).2.2.2 p hp rfl;exact⟨keep p.1 p.2 ne nf nch e n,free p.1 p.2 nch e n,ne,nf,d⟩
theorem aH.un{t':Nat}(I:aH X AR σ H s)(u:Un X.fs [] H H' s.heap h')(hok:eG X.prog X.w H' h'):aH X AR σ H' {s with heap:=h',toks:=t'}:=by
 obtain⟨m,⟨o,es,ep,ho,r⟩,_⟩:=id I.loc;obtain⟨sl,hL⟩:=u.any ho I.free (by simp);exact I.step (g':=s.gens) (d':=s.drawn) (ch:=[]) (λ_ z=>nomatch z) (λb o _ hb _ e n=>u.keep b o e n hb (by simp)) (λb o _ hb _ e n=>u.slot b o e n hb (by simp)) (λb o _ e n=>u.free b o e n (by simp)) (λb o _ e=>u.there b o e (by simp)) u.tups u.frzs u.tbls (λm' hm=>by
  obtain⟨o',es',ep',ho',r'⟩:=hm;rw[ho]at ho';cases ho';exact⟨_,es',ep',hL,r'⟩) hok I.bare
theorem aH.call{g':Array GenState}{t':Nat}{d':Drawn}{ch:List Addr}(I:aH X AR σ H s)(u:Un (cL X.stack) ch H H' s.heap h')(hok:eG X.prog X.w H' h')(hg:gq g')
  (hch:∀b∈ch,(b∈X.ex\/X.AS.heap.objs.size<=b)/\b≠X.env.locals/\(∀x c,X.env.cells.lookup x=some c->c≠b)/\∀p∈X.pn++AR,p.1≠b):
  aH X AR σ H' {s with heap:=h',gens:=g',drawn:=d',toks:=t'}:=by
 obtain⟨m,⟨o,es,ep,ho,r⟩,_⟩:=id I.loc;obtain⟨sl,hL⟩:=u.any ho I.free λz=>(hch _ z).2.1 rfl;exact I.step (ch:=ch) hch (λb o hL hb hc e n=>u.keep b o e n (λz=>(cu.mp (I.stkSub b z)).elim hL hb) hc) (λb o _ _ hc e n=>u.any e n hc) (λb o hc e n=>u.free b o e n hc) (λb o hc e=>u.there b o e hc) u.tups u.frzs u.tbls (λm' hm=>by
  obtain⟨o',es',ep',ho',r'⟩:=hm;rw[ho]at ho';cases ho';exact⟨_,es',ep',hL,r'⟩) hok hg
theorem aH.turned{t':Nat}{it:Addr}(I:aH X AR σ H s)(k:∀b o,b≠it->s.heap.get? b=some o->h'.get? b=some o)(hn:H it=none)(hL:it≠X.env.locals)
  (h1:it∈X.ex\/X.AS.heap.objs.size<=it)(h2:∀x c,X.env.cells.lookup x=some c->c≠it)(h3:∀p∈X.pn++AR,p.1≠it):aH X AR σ H {s with heap:=h',toks:=t'}:=by
 have nit:∀b u,H b=some u->b≠it:=λb u e z=>by rw[z,hn]at e;cases e
 refine I.step (g':=s.gens) (d':=s.drawn) (ch:=[it]) (λb hb=>?_) (λb o _ _ hc e _=>k b o (λz=>hc (by simp[z])) e) (λb o _ _ hc e _=>⟨o.slots,k b o (λz=>hc (by simp[z])) e⟩) (λ_ _ _ _ n=>n)
  (λb o hc e=>⟨o,k b o (λz=>hc (by simp[z])) e⟩) (λ_ _ e=>e) (λ_ _ _ e=>e) (λb ps e=>⟨#[],by rw[e];simp⟩) (λm hm=>?_) (λb u e=>?_) I.bare
 .have e:b=it:=by simpa using hb
  subst e;exact⟨h1,hL,h2,h3⟩
 .obtain⟨o,es,ep,ho,r⟩:=hm
  exact⟨o,es,ep,k _ o (ig hL) ho,r⟩
 .refine(I.hok b u e).stay (λc v hc q=>k c v ?_ q) (λ_ q=>q) λ_ _ q=>q
  rcases hc with z |z
  .rw[z];exact nit b u e
  .exact nit c _ z
theorem aH.tok(I:aH X AR σ H s)(t:Nat):aH X AR σ H {s with toks:=t}:=I.un (h':=s.heap) (t':=t) Un.refl I.hok
theorem aH.kept{t':Nat}(I:aH X AR σ H s)(k:∀b u,s.heap.get? b=some u->h'.get? b=some u):aH X AR σ H {s with heap:=h',toks:=t'}:=I.un (Un.kept k) (I.hok.kept k)
theorem aH.laid{a:Addr}{o:HO}{t':Nat}(I:aH X AR σ H s)(k:∀b u,s.heap.get? b=some u->h'.get? b=some u)(hp:s.heap.objs.size<=a)(new:eY X.prog X.w (bE H a o) h' a o):
  aH X AR σ (bE H a o) {s with heap:=h',toks:=t'}:=I.un (Un.laid k hp (I.hok.fresh hp)) (I.hok.laid k hp new)
theorem aH.write{x e:Addr}{o:HO}{t':Nat}(I:aH X AR σ H s)(mu:wK (H x))(he:e=x\/H e=some (.own x))(k:∀b u,b≠e->s.heap.get? b=some u->h'.get? b=some u)(heo:∃u,h'.get? e=some u)
  (new:eY X.prog X.w (bE H x o) h' x o):aH X AR σ (bE H x o) {s with heap:=h',toks:=t'}:=I.un (Un.write mu he k heo) (I.hok.write mu he k heo new)
theorem aH.pins_of{pins':List (Addr×Obj)}(I:aH X AR σ H s)(h:∀p∈pins',s.heap.get? p.1=some p.2/\H p.1=none/\p.1≠X.env.locals/\p.1∉X.fs/\∀v,p.2.data≠.cell v):aH X pins' σ H s:=
 ⟨I.ok,I.os,I.bare,I.base,I.loc,I.cell,I.free,I.freeC,λp hp=>(cm.mp hp).elim (λz=>I.pin p (jr _ z)) (h p),I.hok,I.len⟩
theorem yS{N:List Str}(hN:N.Nodup){i j:Nat}{x:Str}(a:N[i]?=some x)(b:N[j]?=some x):i=j:=by
 obtain⟨h1,e1⟩:=db.mp a;obtain⟨h2,e2⟩:=db.mp b;exact(List.getElem_inj hN).mp (e1.trans e2.symm)
theorem Et{M:fk}{A:aq}{E:Value->aa->Prop}{i:Nat}{x:Str}{v:V}{u:Value}{Q:Unit->aa->Prop}(I:aH X AR σ H s)(hN:X.N.Nodup)(hi:X.N[i]?=some x)(hx:jP X.env.scope x)(r:bY v u)
  (h:∀s',aH X AR (σ.set i (some v)) H s'->(∃a,fu a s.heap s'.heap/\(a=X.env.locals\/X.env.cells.lookup x=some a))->Q () s')(hf:X.fn x=true\/X.env.scope.names.lookup x=some .local:=by first |exact .inl rfl |exact .inr rfl |assumption):wpAny M A (storeName X.env x u) Q E s:=by
 obtain⟨m,hn,hl⟩:=id I.loc;have hcls:(X.env.scope.kind== .class||(X.env.scope.kind== .module&&X.env.locals !=X.env.globals))=false:=by rw[I.ok.kind];rfl
 have hiσ:i<σ.length:=by rw[I.len];exact(db.mp hi).1
 have cne:=I.cne;have tracked:∀{a:Addr}{h':Heap},(∃o,s.heap.get? a=some o/\H a=none)->fu a s.heap h'->eG X.prog X.w H h':=λ{a h'} ha hs b ob e=>by
  obtain⟨_,_,hfree⟩:=ha;refine(I.hok b ob e).stay (λc w' hc q=>(hs.2 c ?_).trans q) (λ_ q=>q) λ_ _ q=>q
  rintro rfl
  rcases hc with rfl |hc
  .rw[hfree]at e;cases e
  .rw[hfree]at hc;cases hc
 rcases hx with hk |hk
 .refine wpAny_storeName_local hk hn (λh' hn' hs=>?_) hcls
  obtain⟨oL,_,_,hoL,_⟩:=id hn;refine h _ ⟨I.ok,I.os,I.bare,⟨λb o e n hb hx=>?_,λb o e n hb hx=>?_,I.base.free,λb o e hx=>?_,I.base.tups,I.base.frzs,I.base.tbls⟩,⟨_,hn',λj y v' e1 e2 e3=>?_⟩,λy c e=>?_,I.free,I.freeC,λp hp=>?_,tracked ⟨oL,hoL,I.free⟩ hs,by simpa using I.len⟩ ⟨_,hs,.inl rfl⟩
  .exact(hs.2 b (ck (br (ax e) I.ok.above))).trans (I.base.keep b o e n hb hx)
  .obtain⟨sl,e1⟩:=I.base.slot b o e n hb hx
   exact⟨sl,(hs.2 b (ck (br (ax e) I.ok.above))).trans e1⟩
  .obtain⟨o',e1⟩:=I.base.there b o e hx
   exact⟨o',(hs.2 b (ck (br (ax e) I.ok.above))).trans e1⟩
  .by_cases hj:j=i
   .subst hj
    rw[hi]at e1;cases e1;rw[ij hiσ]at e2;cases e2;exact⟨u,r,.inl ⟨hk,by simp⟩⟩
   .rw[jg (ig hj)]at e2
    obtain⟨u',r',q⟩:=hl j y v' e1 e2 e3;refine⟨u',r',?_⟩;rcases q with⟨k,e⟩|⟨k,c,e,z⟩
    .refine .inl ⟨k,?_⟩
     have:y≠x:=λe=>hj (yS hN e1 (e▸hi));simp[this,e]
    .exact .inr ⟨k,c,e,z.sameBut hs (cne y c e)⟩
  .obtain⟨w',z⟩:=I.cell y c e
   exact⟨w',z.sameBut hs (cne y c e)⟩
  .obtain⟨e,n,ne,nf,d⟩:=I.pin p hp
   exact⟨(hs.2 p.1 ne).trans e,n,ne,nf,d⟩
 .have hfn:X.fn x=true:=by
   rcases hf with z |z
   .exact z
   .rw[z]at hk;cases hk
  obtain⟨c,hc⟩:=I.ok.has x (.inl hk);obtain⟨w',z⟩:=I.cell x c hc;refine wpAny_storeName_cell I.ok.kind hk hc z (λh' hc' hs=>?_);obtain⟨oc,hoc,hocd⟩:=id z;refine h {s with heap:=h'} ⟨I.ok,I.os,I.bare,⟨λb o e n hb hx=>?_,λb o e n hb hx=>?_,I.base.free,λb o e hx=>?_,I.base.tups,I.base.frzs,I.base.tbls⟩,⟨m,hn.sameBut hs (ig (cne x c hc)),λj y v' e1 e2 e3=>?_⟩,λy c' e=>?_,I.free,I.freeC,λp hp=>?_,tracked ⟨oc,hoc,I.freeC x c hc⟩ hs,by simpa using I.len⟩ ⟨c,hs,.inr hc⟩
  .exact(hs.2 b (ck (br (ax e) (I.ok.cab x c hfn hc)))).trans (I.base.keep b o e n hb hx)
  .obtain⟨sl,e1⟩:=I.base.slot b o e n hb hx
   exact⟨sl,(hs.2 b (ck (br (ax e) (I.ok.cab x c hfn hc)))).trans e1⟩
  .obtain⟨o',e1⟩:=I.base.there b o e hx
   exact⟨o',(hs.2 b (ck (br (ax e) (I.ok.cab x c hfn hc)))).trans e1⟩
  .by_cases hj:j=i
   .subst hj
    rw[hi]at e1;cases e1;rw[ij hiσ]at e2;cases e2;exact⟨u,r,.inr ⟨.inl hk,c,hc,hc'⟩⟩
   .rw[jg (ig hj)]at e2
    obtain⟨u',r',q⟩:=hl j y v' e1 e2 e3;refine⟨u',r',?_⟩;rcases q with q |⟨k,c',e,z'⟩
    .exact .inl q
    .refine .inr ⟨k,c',e,z'.sameBut hs ?_⟩
     rintro rfl
     exact hj (yS hN e1 (I.ok.inj _ _ _ e hc▸hi))
  .by_cases hcc:c'=c
   .subst hcc;exact⟨_,hc'⟩
   .obtain⟨w2,z2⟩:=I.cell y c' e
    exact⟨w2,z2.sameBut hs hcc⟩
  .obtain⟨e,n,ne,nf,d⟩:=I.pin p hp
   refine⟨(hs.2 p.1 ?_).trans e,n,ne,nf,d⟩;intro q;rw[q,hoc]at e;have q':oc=p.2:=cf e;exact d w' (by rw[<-q'];exact hocd)
theorem lB{M:fk}{A:aq}{E:Value->aa->Prop}{i:Nat}{x:Str}{v:V}{u:Value}{Q:Unit->aa->Prop}(I:aH X AR σ H s)(hN:X.N.Nodup)(hi:X.N[i]?=some x)(hx:jP X.env.scope x)(r:bY v u)
  (h:∀s',aH X AR (σ.set i (some v)) H s'->Q () s')(hf:X.fn x=true\/X.env.scope.names.lookup x=some .local:=by first |exact .inl rfl |exact .inr rfl |assumption):wpAny M A (storeName X.env x u) Q E s:=
 Et I hN hi hx r (λs' I' _=>h s' I') hf
theorem aH.call'{s':aa}{ch:List Addr}(I:aH X AR σ H s)(ho:s'.os=s.os)(u:Un (cL X.stack) ch H H' s.heap s'.heap)(hok:eG X.prog X.w H' s'.heap)(hg:gq s'.gens)
  (hch:∀b∈ch,(b∈X.ex\/X.AS.heap.objs.size<=b)/\b≠X.env.locals/\(∀x c,X.env.cells.lookup x=some c->c≠b)/\∀p∈X.pn++AR,p.1≠b):aH X AR σ H' s':=by
 obtain⟨h',g',d',t',o'⟩:=s';have e:o'=s.os:=ho;subst e;exact I.call (g':=g') (t':=t') (d':=d') u hok hg hch
end
abbrev XK:=Value->AJ->Hp->Prop
abbrev St:=List (Option V)
abbrev VK:=V->Hp->Prop
abbrev TE:=St->Hp->VK->Prop
abbrev TT:=St->Hp->(Bool->Hp->Prop)->Prop
abbrev TA:=St->Hp->(List V->Hp->Prop)->Prop
structure kA where
 nx:St->Hp->Prop
 rt:VK
 bk:St->Hp->Prop:=λ_ _=>False
 ct:St->Hp->Prop:=λ_ _=>False
abbrev TS:=kA->St->Hp->Prop
def EP(X:Cx)(AR:List (Addr×Obj))(σ:St)(Q:VK)(u:Value)(s':aa):Prop:=∃v H',aH X AR σ H' s'/\bY v u/\Q v H'
def TP(X:Cx)(AR:List (Addr×Obj))(σ:St)(Q:Bool->Hp->Prop)(b:Bool)(s':aa):Prop:=∃H',aH X AR σ H' s'/\Q b H'
def AP(X:Cx)(AR:List (Addr×Obj))(σ:St)(Q:List V->Hp->Prop)(us:AH)(s':aa):Prop:=∃vs H',aH X AR σ H' s'/\bH vs us/\Q vs H'
def SP(X:Cx)(AR:List (Addr×Obj))(D:kA)(f:Flow)(s':aa):Prop:=
 match f with
 |.next=>∃σ' H',aH X AR σ' H' s'/\D.nx σ' H'
 |.brk=>∃σ' H',aH X AR σ' H' s'/\D.bk σ' H'
 |.cont=>∃σ' H',aH X AR σ' H' s'/\D.ct σ' H'
 |.ret u=>∃v σ' H',aH X AR σ' H' s'/\bY v u/\D.rt v H'
def PE(X:Cx)(e:af)(t:TE):Prop:=
 ∀(AR:List (Addr×Obj))(s:aa)(σ:St)(H:Hp)(Q:VK),aH X AR σ H s->t σ H Q->wpAny (model X.prog X.w) X.A (eval e X.env) (EP X AR σ Q) X.xe s
def PT(X:Cx)(e:af)(t:TT):Prop:=
 ∀(AR:List (Addr×Obj))(s:aa)(σ:St)(H:Hp)(Q:Bool->Hp->Prop),aH X AR σ H s->t σ H Q->wpAny (model X.prog X.w) X.A (isTrue e X.env (eval e X.env)) (TP X AR σ Q) X.xe s
def PW(X:Cx)(e:af)(t:TT):Prop:=
 ∀(whole:di Value)(AR:List (Addr×Obj))(s:aa)(σ:St)(H:Hp)(Q:Bool->Hp->Prop),aH X AR σ H s->t σ H Q->wpAny (model X.prog X.w) X.A (isTrue e X.env whole) (TP X AR σ Q) X.xe s
theorem PW.pt{X:Cx}{e:af}{t:TT}(h:PW X e t):PT X e t:=h _
def PA(X:Cx)(es:List af)(t:TA):Prop:=
 ∀(pos:ah)(AR:List (Addr×Obj))(s:aa)(σ:St)(H:Hp)(Q:List V->Hp->Prop),aH X AR σ H s->t σ H Q->wpAny (model X.prog X.w) X.A (spliced (backTo pos (starEach es X.env))) (AP X AR σ Q) X.xe s
def PS(X:Cx)(st:Stmt)(t:TS):Prop:=
 ∀(AR:List (Addr×Obj))(s:aa)(σ:St)(H:Hp)(D:kA),aH X AR σ H s->t D σ H->wpAny (model X.prog X.w) X.A (exec st X.env) (SP X AR D) X.xe s
def eO(X:Cx)(st:List Stmt)(t:TS):Prop:=
 ∀(AR:List (Addr×Obj))(s:aa)(σ:St)(H:Hp)(D:kA),aH X AR σ H s->t D σ H->wpAny (model X.prog X.w) X.A (execs st X.env) (SP X AR D) X.xe s
theorem bF{α:Type}{t:di α}{Q Q':α->aa->Prop}{M:fk}{A:aq}{E:Value->aa->Prop}{s:aa}(h:wpAny M A t Q E s)(hQ:∀a s,Q a s->Q' a s):wpAny M A t Q' E s:=cy h hQ λ_ _ x=>x
section
variable{X:Cx}
theorem bin{a b:af}{ta tb:TE}(ha:PE X a ta)(hb:PE X b tb){AR:List (Addr×Obj)}{s:aa}{σ:St}{H:Hp}{R:V->V->Hp->Prop}(I:aH X AR σ H s)(h:ta σ H λx H1=>tb σ H1 λy H2=>R x y H2)
  {α:Type}{Q:α->aa->Prop}{f:Value->Value->di α}
  (hf:∀v u s2 x y H2,aH X AR σ H2 s2->bY x v->bY y u->R x y H2->wpAny (model X.prog X.w) X.A (f v u) Q X.xe s2):
  wpAny (model X.prog X.w) X.A (eval a X.env) (λv AU=>wpAny (model X.prog X.w) X.A (eval b X.env) (λu AZ=>wpAny (model X.prog X.w) X.A (f v u) Q X.xe AZ) X.xe AU) X.xe s:=by
 refine bF (ha AR s σ H _ I h) ?_
 rintro v s1 ⟨x,H1,I1,r1,q1⟩
 refine bF (hb AR s1 σ H1 _ I1 q1) ?_
 rintro u s2 ⟨y,H2,I2,r2,q2⟩
 exact hf v u s2 x y H2 I2 r1 r2 q2
def Rn(i:Nat):TE:=λσ H Q=>∃v,σ[i]?=some (some v)/\Q v H
def tC(v:V):TE:=λ_ H Q=>Q v H
theorem Yk{i:Nat}{x:Str}{pos:ah}(hN:X.N[i]?=some x)(hv:wH X.env.scope x)(hd:(x==("__debug__":Str))=false:=by decide)(hcd:(x==("__classdict__":Str))=false:=by decide):PE X (.Name x pos) (Rn i):=by
 intro AR s σ H Q I h;obtain⟨v,e,h⟩:=h;obtain⟨m,hn,hl⟩:=I.loc;obtain⟨u,r,l⟩:=hl i x v hN e hv;have fin:EP X AR σ Q u s:=⟨v,H,I,r,h⟩;rcases l with⟨hk,hm⟩|⟨hk,c,hc,hcell⟩
 .exact uz (wpAny_loadName_local I.ok.kind hk hn hm fin) hd
 .rcases hk with hk |hk
  .exact uz (wpAny_loadName_cell I.ok.kind hk hc hcell fin) hd
  .exact uz (wpAny_loadName_free I.ok.kind hk hc hcell fin hcd) hd
theorem zR{i j pos}:PE X (.Constant (.int i) j pos) (tC (.int i)):=λ_ _ _ H _ I h=>wpAny_Constant_int ⟨.int i,H,I.tok _,⟨_,rfl⟩,h⟩
theorem X9{b j pos}:PE X (.Constant (.bool b) j pos) (tC (.bl b)):=λ_ _ _ H _ I h=>Constant_bool ⟨.bl b,H,I,rfl,h⟩
theorem R4{j pos}:PE X (.Constant .none j pos) (tC .non):=λ_ _ _ H _ I h=>Constant_none ⟨.non,H,I,rfl,h⟩
theorem Ml{x j pos}:PE X (.Constant (.str x) j pos) (tC (.str x)):=λ_ _ _ H _ I h=>Calls.Constant_str ⟨.str x,H,I.tok _,⟨_,rfl⟩,h⟩
def Gl(X:Cx)(x:Str):Prop:=X.env.kindOf x=some .globalImplicit
theorem nI{E:Value->aa->Prop}{AR:List (Addr×Obj)}{s:aa}{σ:St}{H:Hp}{x:Str}{u:Value}{pos:ah}{Q:Value->aa->Prop}(I:aH X AR σ H s)(hg:Gl X x)(hm:X.mg x=some u)(h:Q u s)
  (hd:(x==("__debug__":Str))=false:=by decide):wpAny (model X.prog X.w) X.A (eval (.Name x pos) X.env) Q E s:=
 yf I.ok.kind hg (Calls.loadGlobal_global (by rw[I.ok.glob];exact I.mod.glob.keeps I.bk) hm h) hd
theorem oY{E:Value->aa->Prop}{AR:List (Addr×Obj)}{s:aa}{σ:St}{H:Hp}{x:Str}{u:Value}{pos:ah}{Q:Value->aa->Prop}(I:aH X AR σ H s)(hg:Gl X x)(hm:X.mg x=none)(hv:bootBuiltins x=some u)(h:Q u s)
  (hn:x≠"__name__":=by decide)(hd:(x==("__debug__":Str))=false:=by decide):wpAny (model X.prog X.w) X.A (eval (.Name x pos) X.env) Q E s:=by
 obtain⟨mb,h1,h2⟩:=I.mod.blt;exact yf I.ok.kind hg (Calls.loadGlobal_builtin (by rw[I.ok.glob];exact I.mod.glob.keeps I.bk) hm (by rw[I.ok.blt];exact h1.keeps I.bk) ((h2 x hn).trans hv) h) hd
theorem uB{x:Str}{v:V}{u:Value}{pos:ah}(hg:Gl X x)(hm:X.mg x=some u)(r:bY v u)(hd:(x==("__debug__":Str))=false:=by decide):PE X (.Name x pos) (tC v):=
 λ_ _ _ H _ I h=>nI I hg hm ⟨v,H,I,r,h⟩ hd
theorem A0{x:Str}{v:V}{u:Value}{pos:ah}(hg:Gl X x)(hm:X.mg x=none)(hv:bootBuiltins x=some u)(r:bY v u)(hn:x≠"__name__":=by decide)(hd:(x==("__debug__":Str))=false:=by decide):PE X (.Name x pos) (tC v):=
 λ_ _ _ H _ I h=>oY I hg hm hv ⟨v,H,I,r,h⟩ hn hd
variable{a b:af}{ta tb:TE}{pos:ah}
def PC(X:Cx)(op:iz)(a b:af)(t:TE):Prop:=
 ∀(AR:List (Addr×Obj))(s:aa)(σ:St)(H:Hp)(Q:VK),aH X AR σ H s->t σ H Q->
  wpAny (model X.prog X.w) X.A (eval a X.env) (λv AU=>wpAny (model X.prog X.w) X.A (eval b X.env) (λu AZ=>wpAny (model X.prog X.w) X.A (compareOp op v u) (EP X AR σ Q) X.xe AZ) X.xe AU) X.xe s
theorem Ww(b:af){op:iz}(h:op≠.In)(h2:op≠.NotIn):behindInMarks op b=false:=by
 have e1:(op==CmpOp.In)=false:=by cases op<;>first |rfl |exact absurd rfl h
 have e2:(op==CmpOp.NotIn)=false:=by cases op<;>first |rfl |exact absurd rfl h2
 cases b<;>simp[behindInMarks,e1,e2]
def Tm(ta:TE):TE:=λσ H Q=>ta σ H λx H1=>Q (.bl (!decide (x=.non))) H1
theorem bY.none_iff{x:V}{v:Value}(r:bY x v):(v==cg)=decide (x=.non):=by
 cases x with
 |non=>cases r;rfl
 |bl _=>cases r;rfl
 |int _=>obtain⟨t,rfl⟩:=r;rfl
 |str _=>obtain⟨t,rfl⟩:=r;rfl
 |byt _=>obtain⟨t,rfl⟩:=r;rfl
 |flt _=>obtain⟨t,rfl⟩:=r;rfl
 |ref _=>cases r;rfl
 |ty _=>cases r;rfl
theorem Gz{j pos'}(ha:PE X a ta):PC X .IsNot a (.Constant .none j pos') (Tm ta):=by
 intro AR s σ H Q I h;refine bF (ha AR s σ H _ I h) ?_
 rintro v s1 ⟨x,H1,I1,r1,q1⟩
 exact Constant_none (isnot_none_gen ⟨.bl _,H1,I1,by rw[r1.none_iff];rfl,q1⟩)
def tB(t:TE):TT:=λσ H Q=>t σ H λx H1=>∃c,x=.bl c/\Q c H1
theorem Q8{op:iz}{t:TE}(h:PC X op a b t)(h1:behindInMarks op b=false:=by first |exact Ww _ (by decide) (by decide) |rfl):PT X (.Compare a [op] [b] pos) (tB t):=by
 intro AR s σ H Q I hw;refine yg (bF (h AR s σ H _ I hw) λv s1 h1=>bF h1 λu s2 h2=>bF h2 λc s3 hq=>?_) h1;rcases hq with⟨x,H1,I1,r1,q1⟩;obtain⟨d,rfl,q⟩:=q1;cases r1;exact jt ⟨H1,I1,q⟩
theorem J9{e:af}{t:TE}(h:PE X e t)(he:∀whole,isTrue e X.env whole=(do let v <-whole;standAt e.pos;holding [v] (truthy v)):=by intro _;rfl):PT X e (tB t):=by
 intro AR s σ H Q I hw;refine isTrue_plain (bF (h AR s σ H _ I hw) λv s1 hq=>?_) (he _);rcases hq with⟨x,H1,I1,r1,q1⟩;obtain⟨d,rfl,q⟩:=q1;cases r1;exact jt ⟨H1,I1,q⟩
variable{tA tB':TT}{cY:List af}
def aam(t u:TT):TT:=λσ H Q=>t σ H λc H1=>if c=true then u σ H1 Q else Q false H1
def tOr(t u:TT):TT:=λσ H Q=>t σ H λc H1=>if c=true then Q true H1 else u σ H1 Q
def aak(t:TT):TT:=λσ H Q=>t σ H λc H1=>Q (!c) H1
theorem Yy(ha:PT X a tA):PW X (.BoolOp .And [a] pos) tA:=by
 intro wh AR s σ H Q I h;refine isTrue_and (bF (ha AR s σ H Q I h) λc s1 e=>?_);cases c with
 |true=>exact isTrue_and_nil e
 |false=>exact e
theorem P7(ha:PT X a tA):PW X (.BoolOp .Or [a] pos) tA:=by
 intro wh AR s σ H Q I h;refine isTrue_or (bF (ha AR s σ H Q I h) λc s1 e=>?_);cases c with
 |false=>exact isTrue_or_nil e
 |true=>exact e
theorem G7(ha:PT X a tA)(hb:PW X (.BoolOp .And (b::cY) pos) tB'):PW X (.BoolOp .And (a::b::cY) pos) (aam tA tB'):=by
 intro wh AR s σ H Q I h;refine isTrue_and (bF (ha AR s σ H _ I h) λc s1 hq=>?_);rcases hq with⟨H1,I1,q1⟩;cases c with
 |true=>exact hb wh AR s1 σ H1 Q I1 q1
 |false=>exact⟨H1,I1,q1⟩
theorem U3(ha:PT X a tA)(hb:PW X (.BoolOp .Or (b::cY) pos) tB'):PW X (.BoolOp .Or (a::b::cY) pos) (tOr tA tB'):=by
 intro wh AR s σ H Q I h;refine isTrue_or (bF (ha AR s σ H _ I h) λc s1 hq=>?_);rcases hq with⟨H1,I1,q1⟩;cases c with
 |true=>exact⟨H1,I1,q1⟩
 |false=>exact hb wh AR s1 σ H1 Q I1 q1
theorem Q0(ha:PT X a tA):PT X (.UnaryOp .Not a pos) (aak tA):=by
 intro AR s σ H Q I h;exact isTrue_not (ha AR s σ H (λc H1=>Q (!c) H1) I h)
def Z0(ta tb:TE):TE:=λσ H Q=>ta σ H λx H1=>∃c,x=.bl c/\if c=true then tb σ H1 Q else Q (.bl false) H1
def aat(ta tb:TE):TE:=λσ H Q=>ta σ H λx H1=>∃c,x=.bl c/\if c=true then Q (.bl true) H1 else tb σ H1 Q
def V9(ta:TE):TE:=λσ H Q=>ta σ H λx H1=>∃c,x=.bl c/\Q (.bl (!c)) H1
theorem O7{op}{t:TE}(h:PE X a t):PE X (.BoolOp op [a] pos) t:=λAR s σ H Q I hw=>BoolOp_one (h AR s σ H Q I hw)
theorem Xl(ha:PE X a ta)(hb:PE X (.BoolOp .And (b::cY) pos) tb):PE X (.BoolOp .And (a::b::cY) pos) (Z0 ta tb):=by
 intro AR s σ H Q I h;refine BoolOp_and (bF (ha AR s σ H _ I h) λv s1 hq=>?_);rcases hq with⟨x,H1,I1,r1,q1⟩;obtain⟨c,rfl,q1⟩:=q1;cases r1;refine jt ?_;cases c with
 |true=>exact hb AR s1 σ H1 Q I1 q1
 |false=>exact⟨.bl false,H1,I1,rfl,q1⟩
theorem W4(ha:PE X a ta)(hb:PE X (.BoolOp .Or (b::cY) pos) tb):PE X (.BoolOp .Or (a::b::cY) pos) (aat ta tb):=by
 intro AR s σ H Q I h;refine BoolOp_or (bF (ha AR s σ H _ I h) λv s1 hq=>?_);rcases hq with⟨x,H1,I1,r1,q1⟩;obtain⟨c,rfl,q1⟩:=q1;cases r1;refine jt ?_;cases c with
 |false=>exact hb AR s1 σ H1 Q I1 q1
 |true=>exact⟨.bl true,H1,I1,rfl,q1⟩
theorem Rl(ha:PE X a ta):PE X (.UnaryOp .Not a pos) (V9 ta):=by
 intro AR s σ H Q I h;refine UnaryOp_ (bF (ha AR s σ H _ I h) λv s1 hq=>?_);rcases hq with⟨x,H1,I1,r1,q1⟩;obtain⟨c,rfl,q1⟩:=q1;cases r1;exact not_of (jt ⟨.bl (!c),H1,I1,rfl,q1⟩)
def tIf(t:TT)(ta tb:TE):TE:=λσ H Q=>t σ H λc H1=>if c=true then ta σ H1 Q else tb σ H1 Q
theorem Fw{c:af}(hc:PT X c tA)(ha:PE X a ta)(hb:PE X b tb):PE X (.IfExp c a b pos) (tIf tA ta tb):=by
 intro AR s σ H Q I h;refine wpAny_IfExp (bF (hc AR s σ H _ I h) λd s1 hq=>?_);rcases hq with⟨H1,I1,q1⟩;cases d with
 |true=>exact ha AR s1 σ H1 Q I1 q1
 |false=>exact hb AR s1 σ H1 Q I1 q1
end
def cF(K:ae)(H:Hp)(a:Addr)(xs:List V):Prop:=
 Rd H a (.lst xs)\/
  ∃(o:Obj)(its:Array Value)(n:Nat),K.lookup a=some o/\o.cls=.type "list"/\o.dict=none/\o.data=.seq its n/\its.size<=sizeLine/\bH xs its.toList
def dD(K:ae)(H:Hp)(a:Addr)(xs:List V):Prop:=
 Rd H a (.tup xs)\/
  ∃(o:Obj)(its:Array Value)(n:Nat),K.lookup a=some o/\o.cls=.type "tuple"/\o.data=.seq its n/\its.size<=sizeLine/\bH xs its.toList
def aaE:Value->Option V
 |.none=>some .non
 |.bool b=>some (.bl b)
 |.int i _=>some (.int i)
 |.str x _=>some (.str x)
 |.bytes b _=>some (.byt b)
 |.float b _=>some (.flt b)
 |.ref a=>some (.ref a)
 |.type n=>some (.ty n)
 |_=>none
theorem bY.abs{x:V}{u:Value}(r:bY x u):aaE u=some x:=by
 cases x with
 |non=>cases r;rfl
 |bl _=>cases r;rfl
 |int _=>obtain⟨t,rfl⟩:=r;rfl
 |str _=>obtain⟨t,rfl⟩:=r;rfl
 |byt _=>obtain⟨t,rfl⟩:=r;rfl
 |flt _=>obtain⟨t,rfl⟩:=r;rfl
 |ref _=>cases r;rfl
 |ty _=>cases r;rfl
theorem bY.inj{x y:V}{u:Value}(r:bY x u)(q:bY y u):x=y:=cf (r.abs.symm.trans q.abs)
theorem bH.inj:∀{xs ys:List V}{us:AH},bH xs us->bH ys us->xs=ys
 |_,_,_,.nil,.nil=>rfl
 |_,_,_,.cons r t,.cons r' t'=>by rw[r.inj r',bH.inj t t']
section
variable{X:Cx}{AR:List (Addr×Obj)}{σ:St}{H:Hp}{s:aa}{a:Addr}{xs ys:List V}
theorem cF.of{K:ae}(h:H a=some (.lst xs)):cF K H a xs:=.inl (.inl h)
theorem dD.of{K:ae}(h:H a=some (.tup xs)):dD K H a xs:=.inl (.inl h)
theorem aH.list(I:aH X AR σ H s)(h:cF X.K H a xs):∃its:AH,bH xs its/\PlainL s.heap a its.toArray/\xs.length<=sizeLine:=by
 rcases h with h |⟨o,its,n,hk,hc,hd,hs,hz,r⟩
 .obtain⟨z,its,n,r,e⟩:=h.ok I.hok
  exact⟨its,r,⟨_,n,e,rfl,rfl,rfl⟩,z⟩
 .refine⟨its.toList,r,⟨o,n,I.kIn a o hk,hc,hd,by simpa using hs⟩,?_⟩
  have e:=r.length;simp only[oa]at e;omega
theorem aH.tuple(I:aH X AR σ H s)(h:dD X.K H a xs):∃its:AH,bH xs its/\IsTup s.heap a its.toArray/\xs.length<=sizeLine:=by
 rcases h with h |⟨o,its,n,hk,hc,hs,hz,r⟩
 .obtain⟨z,its,r,p⟩:=h.ok I.hok
  exact⟨its,r,p,z⟩
 .refine⟨its.toList,r,⟨o,I.kIn a o hk,hc,n,by simpa using hs⟩,?_⟩
  have e:=r.length;simp only[oa]at e;omega
theorem aH.list_inj(I:aH X AR σ H s)(h:cF X.K H a xs)(h':cF X.K H a ys):xs=ys:=by
 obtain⟨its,r,⟨o,n,e,_,_,d⟩,_⟩:=I.list h;obtain⟨its',r',⟨o',n',e',_,_,d'⟩,_⟩:=I.list h';rw[e]at e';cases e';rw[d]at d';injection d' with d1 _;have:its=its':=by simpa using congrArg va d1
 subst this;exact r.inj r'
theorem aH.tuple_inj(I:aH X AR σ H s)(h:dD X.K H a xs)(h':dD X.K H a ys):xs=ys:=by
 obtain⟨its,r,⟨o,e,_,n,d⟩,_⟩:=I.tuple h;obtain⟨its',r',⟨o',e',_,n',d'⟩,_⟩:=I.tuple h';rw[e]at e';cases e';rw[d]at d';injection d' with d1 _;have:its=its':=by simpa using congrArg va d1
 subst this;exact r.inj r'
end
abbrev Cx.wish(X:Cx)(E:Value->aa->Prop):Cx:={X with xe:=E}
abbrev Cx.nox(X:Cx):Cx:=X.wish λ_ _=>False
theorem Cx.Ok.wish{X:Cx}(ok:X.Ok)(E:Value->aa->Prop):(X.wish E).Ok:=
 ⟨ok.mod,ok.kind,ok.glob,ok.blt,ok.above,ok.inj,ok.has,ok.cab,ok.hd,ok.frames,ok.stk,ok.exf,ok.bs,ok.bsz,ok.noex,ok.exfs,ok.funs,ok.frf⟩
theorem Cx.Ok.unwish{X:Cx}{E:Value->aa->Prop}(ok:(X.wish E).Ok):X.Ok:=
 ⟨ok.mod,ok.kind,ok.glob,ok.blt,ok.above,ok.inj,ok.has,ok.cab,ok.hd,ok.frames,ok.stk,ok.exf,ok.bs,ok.bsz,ok.noex,ok.exfs,ok.funs,ok.frf⟩
section
variable{X:Cx}{AR:List (Addr×Obj)}{σ:St}{H:Hp}{s:aa}{E:Value->aa->Prop}
theorem aH.wish(I:aH X AR σ H s)(E:Value->aa->Prop):aH (X.wish E) AR σ H s:=⟨I.ok.wish E,I.os,I.bare,I.base,I.loc,I.cell,I.free,I.freeC,I.pin,I.hok,I.len⟩
theorem aH.unwish(I:aH (X.wish E) AR σ H s):aH X AR σ H s:=⟨I.ok.unwish,I.os,I.bare,I.base,I.loc,I.cell,I.free,I.freeC,I.pin,I.hok,I.len⟩
theorem SP.unwish{D:kA}{f:Flow}{s':aa}(h:SP (X.wish E) AR D f s'):SP X AR D f s':=by
 cases f with
 |next=>obtain⟨σ',H',I,q⟩:=h;exact⟨σ',H',I.unwish,q⟩
 |brk=>obtain⟨σ',H',I,q⟩:=h;exact⟨σ',H',I.unwish,q⟩
 |cont=>obtain⟨σ',H',I,q⟩:=h;exact⟨σ',H',I.unwish,q⟩
 |ret u=>obtain⟨v,σ',H',I,r,q⟩:=h;exact⟨v,σ',H',I.unwish,r,q⟩
theorem eO.nox{st:List Stmt}{t:TS}(h:eO X.nox st t):eO X st t:=λAR s σ H D I hw=>
 cy (h AR s σ H D (I.wish _) hw) (λ_ _ q=>q.unwish) λ_ _ z=>fh z
end
section
variable{X:Cx}{st:Stmt}{cY:List Stmt}{t u:TS}{e:af}{te:TE}{pos:ah}
def X6:TS:=λD σ H=>D.nx σ H
def aaN(t u:TS):TS:=λD σ H=>t {D with nx:=u D} σ H
theorem D9:eO X [] X6:=λ_ _ σ H _ I h=>mf ⟨σ,H,I,h⟩
theorem Sw(h1:PS X st t)(h2:eO X cY u):eO X (st::cY) (aaN t u):=by
 intro AR s σ H D I h;refine vb (bF (h1 AR s σ H {D with nx:=u D} I h) λf s1 q=>?_);cases f with
 |next=>
  obtain⟨σ',H',I',q⟩:=q;exact h2 AR s1 σ' H' D I' q
 |ret v=>exact q
 |brk=>exact q
 |cont=>exact q
theorem zO(h1:PS X st t):eO X [st] t:=by
 intro AR s σ H D I h;refine vb (bF (h1 AR s σ H D I h) λf s1 q=>?_);cases f with
 |next=>exact mf q
 |ret v=>exact q
 |brk=>exact q
 |cont=>exact q
theorem aH.quiet{AR:List (Addr×Obj)}{σ:St}{H:Hp}{s:aa}(I:aH X AR σ H s):interactive X.env=false:=by simp[interactive,I.ok.kind]
def W8(te:TE):TS:=λD σ H=>te σ H λ_ H1=>D.nx σ H1
theorem E1(he:PE X e te)(hs:swapsWith e none pos.line X.env=pure false:=by rfl):PS X (.Expr e pos) (W8 te):=by
 intro AR s σ H D I h;exact wpAny_Expr_any (bF (he AR s σ H _ I h) λv s1 ⟨x,H1,I1,r1,q1⟩=>⟨σ,H1,I1,q1⟩) I.quiet hs
def aaL(te:TE):TS:=λD σ H=>te σ H D.rt
theorem S0(he:PE X e te):PS X (.Return (some e) pos) (aaL te):=by
 intro AR s σ H D I h;exact wpAny_Return_some (bF (he AR s σ H _ I h) λv s1 ⟨x,H1,I1,r1,q1⟩=>⟨x,σ,H1,I1,r1,q1⟩)
def aar(c:TT)(t u:TS):TS:=λD σ H=>c σ H λb H1=>if b=true then t D σ H1 else u D σ H1
theorem Y8{c:af}{a b:List Stmt}{tc:TT}(hc:PT X c tc)(ha:eO X a t)(hb:eO X b u):PS X (.If c a b pos) (aar tc t u):=by
 intro AR s σ H D I h;refine wpAny_If (bF (hc AR s σ H _ I h) λd s1 hq=>?_);rcases hq with⟨H1,I1,q1⟩;cases d with
 |true=>exact ha AR s1 σ H1 D I1 q1
 |false=>exact hb AR s1 σ H1 D I1 q1
end
abbrev TG:=V->St->Hp->(St->Hp->Prop)->Prop
abbrev lX:=List V->St->Hp->(St->Hp->Prop)->Prop
def PG(X:Cx)(target:af)(t:TG):Prop:=
 ∀(AR:List (Addr×Obj))(s:aa)(σ:St)(H:Hp)(v:V)(u:Value)(Q:St->Hp->Prop),aH X AR σ H s->bY v u->t v σ H Q->
  wpAny (model X.prog X.w) X.A (assign target X.env u) (λ_ s'=>∃σ' H',aH X AR σ' H' s'/\Q σ' H') X.xe s
def kU(X:Cx)(ts:List af)(t:lX):Prop:=
 ∀(AR:List (Addr×Obj))(s:aa)(σ:St)(H:Hp)(vs:List V)(us:AH)(Q:St->Hp->Prop),aH X AR σ H s->bH vs us->t vs σ H Q->
  wpAny (model X.prog X.w) X.A (assignInOrder ((assignEach ts X.env).map (·.2)) us) (λ_ s'=>∃σ' H',aH X AR σ' H' s'/\Q σ' H') X.xe s
abbrev Kb:=V->V->V->Hp->(Hp->Prop)->Prop
def Oo(X:Cx)(t:Kb):Prop:=
 ∀(AR:List (Addr×Obj))(s:aa)(σ:St)(H:Hp)(o i v:V)(ov iv u:Value)(Q:Hp->Prop),aH X AR σ H s->bY o ov->bY i iv->bY v u->t o i v H Q->
  wpAny (model X.prog X.w) X.A (setItem ov iv u) (λ_ s'=>∃H',aH X AR σ H' s'/\Q H') X.xe s
abbrev TIp:=V->V->Hp->VK->Prop
def gY(X:Cx)(op:Operator)(t:TIp):Prop:=
 ∀(AR:List (Addr×Obj))(s:aa)(σ:St)(H:Hp)(x y:V)(v u:Value)(Q:VK),aH X AR σ H s->bY x v->bY y u->t x y H Q->
  wpAny (model X.prog X.w) X.A (inplaceOp op v u) (EP X AR σ Q) X.xe s
section
variable{X:Cx}{pos:ah}
def vI(i:Nat):TG:=λv σ H Q=>Q (σ.set i (some v)) H
theorem Pz{i:Nat}{x:Str}(hN:X.N.Nodup)(hi:X.N[i]?=some x)(hx:jP X.env.scope x)(hf:X.fn x=true\/X.env.scope.names.lookup x=some .local:=by first |exact .inl rfl |exact .inr rfl |assumption):PG X (.Name x pos) (vI i):=by
 intro AR s σ H v u Q I r h;exact vc (lB I hN hi hx r (λs' I'=>⟨_,H,I',h⟩) hf)
def aaI:lX:=λvs σ H Q=>vs=[]/\Q σ H
def Z9(t:TG)(u:lX):lX:=λvs σ H Q=>∃v r,vs=v::r/\t v σ H λσ' H'=>u r σ' H' Q
theorem D4:kU X [] aaI:=by
 intro AR s σ H vs us Q I r h;obtain⟨e,h⟩:=h;subst e;cases r;exact assignInOrder_nil ⟨σ,H,I,h⟩
theorem Tw{e:af}{es:List af}{t:TG}{u:lX}(h1:PG X e t)(h2:kU X es u)
  (hs:(assignEach (e::es) X.env).map (·.2)=assign e X.env::(assignEach es X.env).map (·.2):=by rfl):kU X (e::es) (Z9 t u):=by
 intro AR s σ H vs us Q I r h;obtain⟨v,vr,e1,h⟩:=h;subst e1;cases r with
 |cons r rr=>
  rw[hs];refine vd (bF (h1 AR s σ H _ _ _ I r h) λ_ s1 hq=>?_);rcases hq with⟨σ1,H1,I1,q1⟩;exact h2 AR s1 σ1 H1 _ _ Q I1 rr q1
def aaz(K:ae)(n:Nat)(t:lX):TG:=λv σ H Q=>∃a xs,v=.ref a/\dD K H a xs/\xs.length=n/\t xs σ H Q
theorem O6{es:List af}{k:Nat}{t:lX}{n:Nat}(hc:X.calm=true)(h:kU X es t)
  (hn:(assignEach es X.env).length=n:=by rfl)(hst:(assignEach es X.env).findIdx? (·.1)=none:=by rfl):PG X (.Tuple es k pos) (aaz X.K n t):=by
 intro AR s σ H v u Q I r hw;obtain⟨a,xs,e1,hq,hl,hw⟩:=hw;subst e1;cases r;obtain⟨its,rv,ht,hz⟩:=I.tuple hq;refine assign_Tuple_tuple (I.ok.hd hc) ht (by simp[hn,<-hl,rv.length]) hst λh' hx=>?_;have I1:aH X AR σ H {s with heap:=h'}:=I.kept (t':=s.toks) λb o e=>hx b o (ck (ax e)) e;exact h AR _ σ H xs _ Q I1 (by simpa using rv) hw
def aaQ(to ti:TE)(t:Kb):TG:=λv σ H Q=>to σ H λo H1=>ti σ H1 λi H2=>t o i v H2 λH3=>Q σ H3
theorem R7{o i:af}{to ti:TE}{t:Kb}(ho:PE X o to)(hi:PE X i ti)(hs:Oo X t)
  (ha:∀v,assign (.Subscript o i pos) X.env v=(do
   let ov <-holding [v] (eval o X.env)
   let iv <-holding [v,ov] (eval i X.env)
   standAt pos
   holding [v,ov,iv] (setItem ov iv v)
   release [v,ov,iv] []):=by intro _;rfl):PG X (.Subscript o i pos) (aaQ to ti t):=by
 intro AR s σ H v u Q I r h;rw[ha];refine ag (dw (bF (ho AR s σ H _ I h) λov s1 hq=>?_));rcases hq with⟨x,H1,I1,r1,q1⟩;refine ag (dw (bF (hi AR s1 σ H1 _ I1 q1) λiv s2 hq=>?_));rcases hq with⟨y,H2,I2,r2,q2⟩;refine ag (ju (ag (dw (bF (hs AR s2 σ H2 x y v ov iv u _ I2 r1 r2 r q2) λ_ s3 hq=>?_))));rcases hq with⟨H3,I3,q3⟩;exact wpAny_release ⟨σ,H3,I3,q3⟩
def vU(te:TE)(g:TG):TS:=λD σ H=>te σ H λx H1=>g x σ H1 D.nx
theorem Nl{tg e:af}{te:TE}{g:TG}(he:PE X e te)(hg:PG X tg g)(hs:swapsWithSole [tg] e pos.line X.env=pure false:=by rfl)(hw:swappedStores [tg] e X.env=pure none:=by rfl)
  (h1:(assignEach [tg] X.env).map (·.2)=[assign tg X.env]:=by rfl):PS X (.Assign [tg] e pos) (vU te g):=by
 intro AR s σ H D I h;refine wpAny_Assign_stores (bF (he AR s σ H _ I h) λv s1 hq=>?_) hs hw;rcases hq with⟨x,H1,I1,r1,q1⟩;rw[h1];exact bF (hg AR s1 σ H1 x v _ I1 r1 q1) λ_ s2 q=>q
theorem Ha{i:Nat}{x:Str}{e:af}{te:TE}{pos':ah}(hN:X.N.Nodup)(hi:X.N[i]?=some x)(hx:jP X.env.scope x)(he:PE X e te)(hs:swapsWith e (some (.Name x pos')) pos.line X.env=pure false:=by rfl)(hf:X.fn x=true\/X.env.scope.names.lookup x=some .local:=by first |exact .inl rfl |exact .inr rfl |assumption):
  PS X (.Assign [.Name x pos'] e pos) (vU te (vI i)):=by
 intro AR s σ H D I h;refine wpAny_Assign_Name (bF (he AR s σ H _ I h) λv s1 hq=>?_) hs;rcases hq with⟨y,H1,I1,r1,q1⟩;exact lB I1 hN hi hx r1 (λs2 I2=>⟨_,H1,I2,q1⟩) hf
def aaD(i j:Nat)(ta:TA):TS:=λD σ H=>ta σ H λvs H1=>∃v w,vs=[v,w]/\D.nx ((σ.set i (some v)).set j (some w)) H1
theorem L5{i j:Nat}{x y:Str}{a b:af}{ta:TA}{px py pt:ah}{kt k2 pt2}(hc:X.calm=true)(hN:X.N.Nodup)(hi:X.N[i]?=some x)(hj:X.N[j]?=some y)(hij:i≠j)
  (hx:X.env.scope.names.lookup x=some .local)(hy:X.env.scope.names.lookup y=some .local)(ha:PA X [a,b] ta)
  (hw:swappedStores [.Tuple [.Name x px,.Name y py] kt pt] (.Tuple [a,b] k2 pt2) X.env=pure (some [x,y]))
  (hs:swapsWithSole [.Tuple [.Name x px,.Name y py] kt pt] (.Tuple [a,b] k2 pt2) pos.line X.env=pure false:=by rfl):
  PS X (.Assign [.Tuple [.Name x px,.Name y py] kt pt] (.Tuple [a,b] k2 pt2) pos) (aaD i j ta):=by
 intro AR s σ H D I h;rw[exec_Assign_arm];refine ag (ju ?_);rw[hs];refine ag (au ?_);rw[if_neg (by decide)];refine ag (Tuple_ (bF (ha _ AR s σ H _ I h) λus s1 hq=>?_));rcases hq with⟨vs,H1,I1,r1,q1⟩;obtain⟨v,w,e1,q1⟩:=q1;subst e1;obtain⟨u1,u2,rfl,rv,rw'⟩:∃u1 u2,us=[u1,u2]/\bY v u1/\bY w u2:=by
  cases r1 with
  |cons p q=>
   cases q with
   |cons p' q'=>
    cases q';exact⟨_,_,rfl,p,p'⟩
 refine ja ?_ (by show 2<=sizeLine;decide);have I2:aH X AR σ H1 {s1 with heap:=s1.heap.push {cls:=.type "tuple",data:=.seq [u1,u2].toArray}}:=I1.kept (t':=s1.toks) λb o e=>aw _ e;rw[hw];refine ag (au ?_);show wpAny (model X.prog X.w) X.A (do rule "assign.swapped-stores";let items <-unpackItems (.ref s1.heap.objs.size) 2 none;assignInOrder [λv=>bindName X.env y v,λv=>bindName X.env x v] items.reverse;pure Flow.next) _ _ _
 refine ag (mj (ag (unpackItems_tuple (items:=#[u1,u2]) (I.ok.hd hc) (qd s1.heap _) λh' hx'=>?_)));have I3:=I2.kept (h':=h') (t':=s1.toks) λb o e=>hx' b o (ck (ax e)) e;show wpAny _ _ (assignInOrder [λv=>bindName X.env y v,λv=>bindName X.env x v] [u2,u1] >>= λ_=>pure Flow.next) _ _ _
 refine ag (vd (wpAny_bindName (lB I3 hN hj (.inl hy) rw' (λs2 I4=>?_) (.inr hy))));refine vd (wpAny_bindName (lB I4 hN hi (.inl hx) rv (λs3 I5=>assignInOrder_nil (au ?_)) (.inr hx)));rw[List.set_comm _ _ (ig hij)]at I5;exact⟨_,H1,I5,q1⟩
end
section
variable{X:Cx}{pos:ah}
def L1(c:TT)(tb:TS):TS:=λD σ H=>∃W:Nat->St->Hp->Prop,(∃m,W m σ H)/\∀m σ H,W m σ H->
 c σ H λb H1=>if b=true then ∃N:St->Hp->Prop,(∀σ' H',N σ' H'->∃m',m'<m/\W m' σ' H')/\tb {D with nx:=N,ct:=N,bk:=D.nx} σ H1 else D.nx σ H1
theorem Cv{c:af}{body:List Stmt}{tc:TT}{tb:TS}(hp:qe (model X.prog X.w) X.A X.env X.xe)(hc:PT X c tc)(hb:eO X body tb):PS X (.While c body [] pos) (L1 tc tb):=by
 intro AR s σ H D I h;obtain⟨W,⟨m0,w0⟩,turn⟩:=h;refine wpAny_While (codeAny_whileLoop (λn s'=>∃σ' H',aH X AR σ' H' s'/\W n σ' H') ?_ m0 ⟨σ,H,I,w0⟩)
 rintro n s1 ⟨σ1,H1,I1,w1⟩
 refine kl hp (bF (hc AR s1 σ1 H1 _ I1 (turn n σ1 H1 w1)) λb s2 hq=>?_);rcases hq with⟨H2,I2,q2⟩;cases b with
 |true=>
  obtain⟨N,hN,q2⟩:=q2;rw[if_pos rfl];refine kl hp (bF (hb AR s2 σ1 H2 _ I2 q2) λf s3 q3=>?_);cases f with
  |next=>
   obtain⟨σ3,H3,I3,n3⟩:=q3;obtain⟨m',hm,w3⟩:=hN σ3 H3 n3;exact⟨m',hm,σ3,H3,I3,w3⟩
  |cont=>
   obtain⟨σ3,H3,I3,n3⟩:=q3;obtain⟨m',hm,w3⟩:=hN σ3 H3 n3;exact⟨m',hm,σ3,H3,I3,w3⟩
  |brk=>exact q3
  |ret v=>exact q3
 |false=>
  rw[if_neg km];exact mf ⟨σ1,H2,I2,q2⟩
end
structure It where
 go:Nat->Hp->Prop
 yld:Nat->Hp->V->Hp->Prop
 stop:Nat->Hp->Prop
def eN(X:Cx)(AR:List (Addr×Obj))(H:Hp)(b:Addr):Prop:=
 H b=none/\b≠X.env.locals/\b∉X.fs/\(b∈X.ex\/X.AS.heap.objs.size<=b)/\(∀x c,X.env.cells.lookup x=some c->c≠b)/\∀p∈X.pn++AR,p.1≠b
theorem aH.fpOk{X:Cx}{AR:List (Addr×Obj)}{σ:St}{H H':Hp}{s:aa}{b:Addr}(I:aH X AR σ H s)(hb:s.heap.objs.size<=b)(hn:H' b=none):eN X AR H' b:=by
 refine⟨hn,og (br I.lt hb),I.nofs hb,.inr (dn I.sz hb),λx c e z=>?_,λp hp z=>?_⟩
 .obtain⟨v,q⟩:=I.cell x c e
  exact absurd (br q.lt (by rw[z];exact hb)) (fj _)
 .exact absurd (br (ax (I.pin p hp).1) (by rw[z];exact hb)) (fj _)
structure nU(P:Program)(w:ao)(K:ae)(tg:af)(J:It)(fp:List Addr)(it:Addr)(tn:Nat->Heap->Prop):Prop where
 mem:it∈fp
 obj:∀i h,tn i h->∀b∈fp,∃o,h.get? b=some o/\∀v,o.data≠.cell v
 keep:∀i h h',tn i h->(∀b∈fp,∀o,h.get? b=some o->h'.get? b=some o)->tn i h'
 item:∀(X:Cx),X.prog=P->X.w=w->X.K=K->X.calm=true->∀(i:Nat)(AR:List (Addr×Obj))(s:aa)(σ:St)(H:Hp)(E:Value->aa->Prop),aH X AR σ H s->(∀b∈fp,eN X AR H b)->tn i s.heap->J.go i H->
  wpAny (model P w) X.A (pyNext (.ref it)) (λr s1=>∃u,r=some u/\
   wpAny (model P w) X.A (letOwnedTupleGo tg (.ref it) u) (λ_ s2=>∃x H',aH X AR σ H' s2/\bY x u/\J.yld i H x H'/\tn (i+1) s2.heap/\∀b∈fp,H' b=none) E s1) E s
 done:∀(X:Cx),X.prog=P->X.w=w->X.K=K->X.calm=true->∀(i:Nat)(AR:List (Addr×Obj))(s:aa)(σ:St)(H:Hp)(E:Value->aa->Prop),aH X AR σ H s->(∀b∈fp,eN X AR H b)->tn i s.heap->J.stop i H->
  wpAny (model P w) X.A (pyNext (.ref it)) (λr s1=>r=none/\aH X AR σ H s1) E s
 self:∀(A:aq)(i:Nat)(s:aa)(Q:Value->aa->Prop)(E:Value->aa->Prop),tn i s.heap->Q (.ref it) s->wpAny (model P w) A (pyIter (.ref it)) Q E s
abbrev TI:=St->Hp->(It->Hp->Prop)->Prop
def To(X:Cx)(AR:List (Addr×Obj))(σ:St)(tg:af)(R:It->Hp->Prop)(itv:Value)(s2:aa):Prop:=
 ∃(it:Addr)(fp:List Addr)(tn:Nat->Heap->Prop)(J:It)(H':Hp),itv=.ref it/\aH X AR σ H' s2/\nU X.prog X.w X.K tg J fp it tn/\tn 0 s2.heap/\(∀b∈fp,eN X AR H' b)/\R J H'
def PI(X:Cx)(tg iter:af)(wi:TI):Prop:=
 ∀(AR:List (Addr×Obj))(s:aa)(σ:St)(H:Hp)(R:It->Hp->Prop),aH X AR σ H s->wi σ H R->
  wpAny (model X.prog X.w) X.A (eval iter X.env) (λv s1=>wpAny (model X.prog X.w) X.A (pyIter v) (To X AR σ tg R) X.xe s1) X.xe s
theorem uX {M : fk} {A : aq} {E : Value → aa → Prop} {s : aa} {tg : af} {it : Addr} {u : Value} {o : Obj} {n : String} {vs : Array Value} {Q : Unit → aa → Prop} (ho : s.heap.get? it = some o) (hc : o.cls = .type n) (hd : o.data = .fields vs)
    (hn : ["enumerate", "zip", "dict_itemiterator", "dict_reverseitemiterator", "odict_iterator", "itertools.zip_longest", "itertools.pairwise"].contains n = false) (hQ : Q () s) : wpAny M A (letOwnedTupleGo tg (.ref it) u) Q E s := by
  unfold letOwnedTupleGo;cases tg <;> first
    | exact au hQ
    | (cases u <;> first
        | exact au hQ
        | (refine ag (wpAny_load ho ?_)
           rw [hc, hd];show wpAny M A (if (["enumerate", "zip", "dict_itemiterator", "dict_reverseitemiterator", "odict_iterator", "itertools.zip_longest", "itertools.pairwise"].contains n && vs[0]? == some (rawInt _)) = true then _ else _) Q E s;rw [if_neg (by intro h; rw [hn, Bool.false_and] at h; cases h)];exact au hQ))
def wV(K:ae)(a:Addr):It:=
 ⟨λi H=>∃xs x,cF K H a xs/\xs[i]?=some x,λi H x H'=>H'=H/\∀xs,cF K H a xs->xs[i]?=some x,λi H=>∃xs,cF K H a xs/\xs.length<=i⟩
def Vb(K:ae)(a:Addr):It:=
 ⟨λi H=>∃xs x,dD K H a xs/\xs[i]?=some x,λi H x H'=>H'=H/\∀xs,dD K H a xs->xs[i]?=some x,λi H=>∃xs,dD K H a xs/\xs.length<=i⟩
def wW(lo:Int)(n:Nat):It:=⟨λi _=>i<n,λi H x H'=>H'=H/\x=.int (lo+i),λi _=>n<=i⟩
theorem Lu{P:Program}{w:ao}{K:ae}{tg:af}(a it:Addr):nU P w K tg (wV K a) [it] it (λi h=>h.IsListIter it a i) where
 mem:=by simp
 obj:=λi h st b hb=>by
  have e:b=it:=by simpa using hb
  subst e;obtain⟨o,e,c,d⟩:=st;exact⟨o,e,λv z=>by rw[d]at z;cases z⟩
 keep:=λi h h' st k=>st.at λo e=>k it (by simp) o e
 item:=by
  intro X hP hw hK hc i AR s σ H E I hf st hg;subst hP hw hK;obtain⟨xs,x,hq,hx⟩:=hg;obtain⟨its,rv,p,hz⟩:=I.list hq;obtain⟨u,hu,ru⟩:=rv.get hx;obtain⟨f0,f1,f2,f3,f4,f5⟩:=hf it (by simp);refine wpAny_pyNext_list_item st p.isList (x:=u) (by simpa using hu) λh' st' sb=>?_;have I1:aH X AR σ H {s with heap:=h'}:=I.turned (t':=s.toks) (λb o hb e=>(sb.2 b hb).trans e) f0 f1 f3 f4 f5;obtain⟨o,e,c,d⟩:=id st';exact⟨u,rfl,uX (s:={s with heap:=h'}) e c d (by decide) ⟨x,H,I1,ru,⟨rfl,λys hy=>by rw[I.list_inj hy hq];exact hx⟩,st',λb hb=>(hf b hb).1⟩⟩
 done:=by
  intro X hP hw hK hc i AR s σ H E I hf st hg;subst hP hw hK;obtain⟨xs,hq,hx⟩:=hg;obtain⟨its,rv,p,hz⟩:=I.list hq;obtain⟨f0,f1,f2,f3,f4,f5⟩:=hf it (by simp);have hl:=rv.length;exact wpAny_pyNext_list_end (I.ok.hd hc) st p.isList (by simp;omega) λh' eb=>⟨rfl,I.turned (t':=s.toks) (λb o hb e=>eb b o hb e) f0 f1 f3 f4 f5⟩
 self:=λ_ _ _ _ _ st h=>wpAny_pyIter_listiter st h
theorem Ur{P:Program}{w:ao}{K:ae}{tg:af}(a it:Addr):nU P w K tg (Vb K a) [it] it (λi h=>h.IsTupleIter it a i) where
 mem:=by simp
 obj:=λi h st b hb=>by
  have e:b=it:=by simpa using hb
  subst e;obtain⟨o,e,c,d⟩:=st;exact⟨o,e,λv z=>by rw[d]at z;cases z⟩
 keep:=λi h h' st k=>st.at λo e=>k it (by simp) o e
 item:=by
  intro X hP hw hK hc i AR s σ H E I hf st hg;subst hP hw hK;obtain⟨xs,x,hq,hx⟩:=hg;obtain⟨its,rv,p,hz⟩:=I.tuple hq;obtain⟨u,hu,ru⟩:=rv.get hx;obtain⟨f0,f1,f2,f3,f4,f5⟩:=hf it (by simp);refine wpAny_pyNext_tuple_item st (show s.heap.IsTuple a its.toArray from p) (x:=u) (by simpa using hu) λh' st' sb=>?_;have I1:aH X AR σ H {s with heap:=h'}:=I.turned (t':=s.toks) (λb o hb e=>(sb.2 b hb).trans e) f0 f1 f3 f4 f5;obtain⟨o,e,c,d⟩:=id st';exact⟨u,rfl,uX (s:={s with heap:=h'}) e c d (by decide) ⟨x,H,I1,ru,⟨rfl,λys hy=>by rw[I.tuple_inj hy hq];exact hx⟩,st',λb hb=>(hf b hb).1⟩⟩
 done:=by
  intro X hP hw hK hc i AR s σ H E I hf st hg;subst hP hw hK;obtain⟨xs,hq,hx⟩:=hg;obtain⟨its,rv,p,hz⟩:=I.tuple hq;obtain⟨f0,f1,f2,f3,f4,f5⟩:=hf it (by simp);have hl:=rv.length;exact wpAny_pyNext_tuple_end (I.ok.hd hc) st (show s.heap.IsTuple a its.toArray from p) (by simp;omega) λh' eb=>⟨rfl,I.turned (t':=s.toks) (λb o hb e=>eb b o hb e) f0 f1 f3 f4 f5⟩
 self:=λ_ _ _ _ _ st h=>wpAny_pyIter_tupleiter st h
theorem Wr{P:Program}{w:ao}{K:ae}{tg:af}(it:Addr)(lo:Int)(n:Nat):nU P w K tg (wW lo n) [it] it (λi h=>IsRangeIter h it (lo+(i:Nat)*1) ((n:Int)-(i:Nat)) 1) where
 mem:=by simp
 obj:=λi h st b hb=>by
  have e:b=it:=by simpa using hb
  subst e;exact⟨_,st,λv z=>by
   have z':Data.fields _=Data.cell v:=z;cases z'⟩
 keep:=λi h h' st k=>k it (by simp) _ st
 item:=by
  intro X hP hw hK hc i AR s σ H E I hf st hg;subst hP hw hK;obtain⟨f0,f1,f2,f3,f4,f5⟩:=hf it (by simp);have W:=Walks.range (prog:=X.prog) (w:=X.w) (I.ok.hd hc) it lo 1 n;refine W.item i s _ _ hg st λv h' tk hv st' kk=>?_;obtain⟨t,rfl⟩:=hv;have I1:aH X AR σ H {s with heap:=h',toks:=tk}:=I.turned (λb o hb e=>kk b o (by simpa using hb) e) f0 f1 f3 f4 f5;refine⟨_,rfl,uX (s:={s with heap:=h',toks:=tk}) (n:="range_iterator") st' rfl rfl (by decide) ⟨.int (lo+i),H,I1,⟨t,?_⟩,⟨rfl,rfl⟩,st',λb hb=>(hf b hb).1⟩⟩;rw[Int.mul_one]
 done:=by
  intro X hP hw hK hc i AR s σ H E I hf st hg;subst hP hw hK;obtain⟨f0,f1,f2,f3,f4,f5⟩:=hf it (by simp);exact wpAny_pyNext_range_end (I.ok.hd hc) st (by have:n<=i:=hg;omega) λh' eb=>⟨rfl,I.turned (t':=s.toks) (λb o hb e=>eb b o hb e) f0 f1 f3 f4 f5⟩
 self:=λ_ _ _ _ _ st h=>wpAny_pyIter_rangeiter st h
section
variable{X:Cx}{tg:af}
theorem Vx{AR:List (Addr×Obj)}{σ:St}{H:Hp}{s:aa}{R:It->Hp->Prop}{E:Value->aa->Prop}{lo hi:Int}{t u v:dq}{tk:Nat}(I:aH X AR σ H s)(h1:-(2^62)<=lo)(h2:lo<2^62)(h3:-(2^62)<=hi)(h4:hi<2^62)
  (q:R (wW lo (hi-lo).toNat) H):wpAny (model X.prog X.w) X.A (pyIter (.ref s.heap.objs.size)) (To X AR σ tg R) E {s with heap:=s.heap.push {cls:=.type "range",data:=.fields #[.int lo t,.int hi u,.int 1 v]},toks:=tk}:=by
 refine wpAny_pyIter_range (IsRange.new ..) (small_one h1 h2 h3 h4) ?_;have I1:aH X AR σ H {s with heap:=s.heap.push {cls:=.type "range",data:=.fields #[.int lo t,.int hi u,.int 1 v]},toks:=tk}:=I.kept λb o e=>aw _ e;refine⟨(s.heap.push {cls:=.type "range",data:=.fields #[.int lo t,.int hi u,.int 1 v]}).objs.size,[(s.heap.push {cls:=.type "range",data:=.fields #[.int lo t,.int hi u,.int 1 v]}).objs.size],_,_,H,rfl,
  I1.kept (t':=tk) λb o e=>aw _ e,Wr _ lo (hi-lo).toNat,?_,λb hb=>?_,q⟩
 .have e1:lo+((0:Nat):Int)*1=lo:=by simp
  have e2:(((hi-lo).toNat:Nat):Int)-((0:Nat):Int)=Builtin.Range.rangeSize lo hi 1:=by rw[rangeSize_one];split<;>omega
  show IsRangeIter _ _ (lo+((0:Nat):Int)*1) ((((hi-lo).toNat:Nat):Int)-((0:Nat):Int)) 1;rw[e1,e2];exact dl _ rfl
 .have e:b=(s.heap.push {cls:=.type "range",data:=.fields #[.int lo t,.int hi u,.int 1 v]}).objs.size:=by simpa using hb
  subst e;exact I1.fpOk (am _) (I1.hok.fresh (am _))
def V4(ta:TA):TI:=λσ H R=>ta σ H λvs H1=>∃j:Int,vs=[.int j]/\-(2^62)<=j/\j<2^62/\R (wW 0 j.toNat) H1
theorem Bu{a:af}{ta:TA}{p pos:ah}(hg:Gl X "range")(hm:X.mg "range"=none)(ha:PA X [a] ta)(hs:starEach [a] X.env=[(false,eval a X.env)]:=by rfl):PI X tg (.Call (.Name "range" p) [a] [] pos) (V4 ta):=by
 intro AR s σ H R I h;refine Call_ (oY I hg hm boot_range (qg (bF (ha pos AR s σ H _ I h) λus s1 hq=>?_) hs rfl));rcases hq with⟨vs,H1,I1,r1,q1⟩;obtain⟨j,e,q1,q2,q⟩:=q1;subst e;cases r1 with
 |cons r rr=>
  cases rr;obtain⟨t,rfl⟩:=r;exact call_range_1 (Vx I1 (by omega) (by omega) q1 q2 (by simpa using q))
def aan(wi:TI)(g:TG)(tb:TS):TS:=λD σ H=>wi σ H λJ H1=>∃W:Nat->Nat->St->Hp->Prop,(∃m,W 0 m σ H1)/\∀i m σ H,W i m σ H->
 (J.stop i H/\D.nx σ H)\/(J.go i H/\∃N:St->Hp->Prop,(∀σ' H',N σ' H'->∃m',m'<m/\W (i+1) m' σ' H')/\∀x H',J.yld i H x H'->g x σ H' λσ2 H2=>tb {D with nx:=N,ct:=N,bk:=D.nx} σ2 H2)
def uN(fp:List Addr)(h:Heap):List (Addr×Obj):=fp.filterMap λb=>(h.get? b).map λo=>(b,o)
theorem mD{fp:List Addr}{h:Heap}{b:Addr}{o:Obj}(hb:b∈fp)(e:h.get? b=some o):(b,o)∈uN fp h:=jh.mpr ⟨b,hb,by rw[e];rfl⟩
theorem Zs{fp:List Addr}{h:Heap}{p:Addr×Obj}(hp:p∈uN fp h):p.1∈fp/\h.get? p.1=some p.2:=by
 obtain⟨b,hb,e⟩:=jh.mp hp;cases q:h.get? b with
 |none=>rw[q]at e;cases e
 |some o=>
  rw[q]at e;have e':(b,o)=p:=cf e;subst e';exact⟨hb,q⟩
theorem aH.pinned{AR:List (Addr×Obj)}{σ:St}{H:Hp}{s:aa}{fp:List Addr}(I:aH X AR σ H s)(hf:∀b∈fp,eN X AR H b)(ho:∀b∈fp,∃o,s.heap.get? b=some o/\∀v,o.data≠.cell v):aH X (AR++uN fp s.heap) σ H s:=
 I.pins_of λp hp=>(cm.mp hp).elim (λz=>I.pin p (cq _ z)) λz=>by
  obtain⟨hb,e⟩:=Zs z;obtain⟨f0,f1,f2,_⟩:=hf p.1 hb;obtain⟨o,e',d⟩:=ho p.1 hb;rw[e]at e';cases e';exact⟨e,f0,f1,f2,d⟩
theorem aH.unpinned{AR pl:List (Addr×Obj)}{σ:St}{H:Hp}{s:aa}(I:aH X (AR++pl) σ H s):aH X AR σ H s:=I.pins_of λp hp=>I.pin p (cq _ (jr _ hp))
theorem K7{iter:af}{body:List Stmt}{wi:TI}{g:TG}{tb:TS}{pos:ah}(hp:qe (model X.prog X.w) X.A X.env X.xe)(hc:X.calm=true)(hi:PI X tg iter wi)(hg:PG X tg g)(hb:eO X body tb)
  (hs:∀x,foldedSetIterable iter X.env x=pure x:=by intro _;rfl):PS X (.For tg iter body [] pos) (aan wi g tb):=by
 intro AR s σ H D I h;refine wpAny_For (bF (hi AR s σ H _ I h) λv s1 h1=>bF h1 λitv s2 h2=>?_) hs;obtain⟨it,fp,tn,J,H2,e,I2,T,st2,f2,W,⟨m0,w0⟩,turn⟩:=h2;subst e
 --what stays true of the iterator's objects through the loop
 have stat:∀{H':Hp},(∀b∈fp,H' b=none)->∀b∈fp,eN X AR H' b:=λhn b hb=>⟨hn b hb,(f2 b hb).2⟩;refine codeAny_forLoop_any (λn s'=>∃i σ' H',aH X AR σ' H' s'/\tn i s'.heap/\(∀b∈fp,H' b=none)/\W i n σ' H') ?_ m0 ⟨0,σ,H2,I2,st2,λb hb=>(f2 b hb).1,w0⟩
 rintro n s3 ⟨i,σ3,H3,I3,st3,fr3,w3⟩
 rcases turn i n σ3 H3 w3 with⟨stop,qn⟩|⟨go,N,hN,step⟩
 .refine kl hp (bF (T.done X rfl rfl rfl hc i AR s3 σ3 H3 X.xe I3 (stat fr3) st3 stop) λr s4 hq=>?_)
  rcases hq with⟨hr,I4⟩;subst hr;exact mf ⟨σ3,H3,I4,qn⟩
 .refine kl hp (bF (T.item X rfl rfl rfl hc i AR s3 σ3 H3 X.xe I3 (stat fr3) st3 go) λr s4 hq=>?_)
  rcases hq with⟨u,hr,h4⟩;subst hr;refine kl hp (bF h4 λ_ s5 hq=>?_);rcases hq with⟨x,H5,I5,r5,y5,st5,fr5⟩;have I5':=I5.pinned (stat fr5) (T.obj _ _ st5);refine kl hp (bF (hg _ s5 σ3 H5 x u _ I5' r5 (step x H5 y5)) λ_ s6 hq=>?_);rcases hq with⟨σ6,H6,I6,q6⟩;refine kl hp (bF (hb _ s6 σ6 H6 _ I6 q6) λf s7 q7=>?_);have again:∀{σ7:St}{H7:Hp},aH X (AR++uN fp s5.heap) σ7 H7 s7->N σ7 H7->∃m,m<n/\∃i σ' H',aH X AR σ' H' s7/\tn i s7.heap/\(∀b∈fp,H' b=none)/\W i m σ' H':=λ{σ7 H7} I7 n7=>by
   obtain⟨m',hm,w7⟩:=hN σ7 H7 n7;refine⟨m',hm,i+1,σ7,H7,I7.unpinned,T.keep _ _ _ st5 λb hb o e=>(I7.pin (b,o) (cq _ (cq _ (mD hb e)))).1,λb hb=>?_,w7⟩;obtain⟨o,e,d⟩:=T.obj _ _ st5 b hb;exact(I7.pin (b,o) (cq _ (cq _ (mD hb e)))).2.1
  cases f with
  |next=>obtain⟨σ7,H7,I7,n7⟩:=q7;exact again I7 n7
  |cont=>obtain⟨σ7,H7,I7,n7⟩:=q7;exact again I7 n7
  |brk=>obtain⟨σ7,H7,I7,q7⟩:=q7;exact⟨σ7,H7,I7.unpinned,q7⟩
  |ret v=>obtain⟨x7,σ7,H7,I7,r7,q7⟩:=q7;exact⟨x7,σ7,H7,I7.unpinned,r7,q7⟩
end
abbrev R2:=V->V->Hp->VK->Prop
def dE(X:Cx)(f:Value->Value->di Value)(r:R2):Prop:=
 ∀(AR:List (Addr×Obj))(s:aa)(σ:St)(H:Hp)(x y:V)(v u:Value)(Q:VK),aH X AR σ H s->bY x v->bY y u->r x y H Q->
  wpAny (model X.prog X.w) X.A (f v u) (EP X AR σ Q) X.xe s
def wJ(X:Cx)(f:Value->di Value)(r:V->Hp->VK->Prop):Prop:=
 ∀(AR:List (Addr×Obj))(s:aa)(σ:St)(H:Hp)(x:V)(v:Value)(Q:VK),aH X AR σ H s->bY x v->r x H Q->
  wpAny (model X.prog X.w) X.A (f v) (EP X AR σ Q) X.xe s
def gW(X:Cx)(f:Value)(r:List V->Hp->VK->Prop):Prop:=
 ∀(AR:List (Addr×Obj))(s:aa)(σ:St)(H:Hp)(xs:List V)(us:AH)(Q:VK),aH X AR σ H s->bH xs us->r xs H Q->
  wpAny (model X.prog X.w) X.A (call f us) (EP X AR σ Q) X.xe s
def wG(r:R2)(ta tb:TE):TE:=λσ H Q=>ta σ H λx H1=>tb σ H1 λy H2=>r x y H2 Q
def tUn(r:V->Hp->VK->Prop)(ta:TE):TE:=λσ H Q=>ta σ H λx H1=>r x H1 Q
def rI(C:Int->Int->Prop)(g:Int->Int->V):R2:=λx y H Q=>∃i j,x=.int i/\y=.int j/\C i j/\Q (g i j) H
def iE(g:Int->Int->V):R2:=λx y H Q=>∃i j,x=.int i/\y=.int j/\Q (g i j) H
def rU(g:Int->V):V->Hp->VK->Prop:=λx H Q=>∃i,x=.int i/\Q (g i) H
section
variable{X:Cx}{a b c:af}{ta tb tc:TE}{pos:ah}
theorem Gb(ha:PE X a ta)(hb:PE X b tb){AR:List (Addr×Obj)}{s:aa}{σ:St}{H:Hp}{R:V->V->Hp->Prop}(I:aH X AR σ H s)
  (h:ta σ H λx H1=>tb σ H1 λy H2=>R x y H2){Q:Value->aa->Prop}{f:Value->Value->di Value}
  (hf:∀v u s2 x y H2,aH X AR σ H2 s2->bY x v->bY y u->R x y H2->wpAny (model X.prog X.w) X.A (f v u) Q X.xe s2):
  wpAny (model X.prog X.w) X.A (eval a X.env) (λv AU=>wpAny (model X.prog X.w) X.A (eval b X.env) (λu AZ=>wpAny (model X.prog X.w) X.A (f v u) Q X.xe AZ) X.xe AU) X.xe s:=by
 refine bF (ha AR s σ H _ I h) ?_
 rintro v s1 ⟨x,H1,I1,r1,q1⟩
 refine bF (hb AR s1 σ H1 _ I1 q1) ?_
 rintro u s2 ⟨y,H2,I2,r2,q2⟩
 exact hf v u s2 x y H2 I2 r1 r2 q2
theorem aaa{op:Operator}{r:R2}(ho:dE X (binaryOp op) r)(ha:PE X a ta)(hb:PE X b tb):PE X (.BinOp a op b pos) (wG r ta tb):=by
 intro AR s σ H Q I h;exact wpAny_BinOp (Gb ha hb I h λv u s2 x y H2 I2 rx ry q=>ho AR s2 σ H2 x y v u Q I2 rx ry q)
theorem Z8{op:UnaryOp}{r:V->Hp->VK->Prop}(ho:wJ X (unaryOp op) r)(ha:PE X a ta):PE X (.UnaryOp op a pos) (tUn r ta):=by
 intro AR s σ H Q I h;exact UnaryOp_ (bF (ha AR s σ H _ I h) λv s1 ⟨x,H1,I1,r1,q1⟩=>ho AR s1 σ H1 x v Q I1 r1 q1)
theorem wN{f:Value->Value->di Value}{C:Int->Int->Prop}{g:Int->Int->Int}
  (rule:∀(i j:Int)(t u:dq)(s:aa)(Q:Value->aa->Prop)(E:Value->aa->Prop),C i j->Q (.int (g i j) s.toks) {s with toks:=s.toks+1}->wpAny (model X.prog X.w) X.A (f (.int i t) (.int j u)) Q E s):
  dE X f (rI C λi j=>.int (g i j)):=by
 intro AR s σ H x y v u Q I rx ry h;obtain⟨i,j,rfl,rfl,hc,q⟩:=h;obtain⟨t,rfl⟩:=rx;obtain⟨t',rfl⟩:=ry;exact rule i j t t' s _ _ hc ⟨.int (g i j),H,I.tok _,⟨_,rfl⟩,q⟩
theorem Eo{f:Value->Value->di Value}{g:Int->Int->Int}
  (rule:∀(i j:Int)(t u:dq)(s:aa)(Q:Value->aa->Prop)(E:Value->aa->Prop),Q (.int (g i j) s.toks) {s with toks:=s.toks+1}->wpAny (model X.prog X.w) X.A (f (.int i t) (.int j u)) Q E s):
  dE X f (iE λi j=>.int (g i j)):=by
 intro AR s σ H x y v u Q I rx ry h;obtain⟨i,j,rfl,rfl,q⟩:=h;obtain⟨t,rfl⟩:=rx;obtain⟨t',rfl⟩:=ry;exact rule i j t t' s _ _ ⟨.int (g i j),H,I.tok _,⟨_,rfl⟩,q⟩
theorem vW{f:Value->Value->di Value}{g:Int->Int->Bool}
  (rule:∀(i j:Int)(t u:dq)(s:aa)(Q:Value->aa->Prop)(E:Value->aa->Prop),Q (.bool (g i j)) s->wpAny (model X.prog X.w) X.A (f (.int i t) (.int j u)) Q E s):
  dE X f (iE λi j=>.bl (g i j)):=by
 intro AR s σ H x y v u Q I rx ry h;obtain⟨i,j,rfl,rfl,q⟩:=h;obtain⟨t,rfl⟩:=rx;obtain⟨t',rfl⟩:=ry;exact rule i j t t' s _ _ ⟨.bl (g i j),H,I,rfl,q⟩
def vY(i j:Int):Prop:=0<=j/\j<=1000000/\i.natAbs<2^64
def Eb(i j:Int):Prop:=(-(2^64)<i/\i<2^64)\/(-(2^64)<j/\j<2^64)
theorem Eb.ok{i j:Int}(h:Eb i j):IntMulOk i j:=by
 rcases h with⟨h1,h2⟩|⟨h1,h2⟩
 .exact .of_left (intBits_le_64 h1 h2)
 .exact .of_right (intBits_le_64 h1 h2)
theorem S5:dE X (binaryOp .Add) (iE λi j=>.int (i+j)):=Eo λ_ _ _ _ _ _ _ q=>add_int q
theorem L9:dE X (binaryOp .Sub) (iE λi j=>.int (i-j)):=Eo λ_ _ _ _ _ _ _ q=>sub_int q
theorem Fy:dE X (binaryOp .Mod) (rI (λ_ j=>j≠0) λi j=>.int (i.fmod j)):=wN λ_ _ _ _ _ _ _ hc q=>mod_int' hc q
theorem M6:dE X (binaryOp .Pow) (rI vY λi j=>.int (i^j.toNat)):=wN λ_ _ _ _ _ _ _ hc q=>pow_int_small hc.1 hc.2.1 hc.2.2 q
theorem unI{f:Value->di Value}{g:Int->Int}
  (rule:∀(i:Int)(t:dq)(s:aa)(Q:Value->aa->Prop)(E:Value->aa->Prop),Q (.int (g i) s.toks) {s with toks:=s.toks+1}->wpAny (model X.prog X.w) X.A (f (.int i t)) Q E s):
  wJ X f (rU λi=>.int (g i)):=by
 intro AR s σ H x v Q I rx h;obtain⟨i,rfl,q⟩:=h;obtain⟨t,rfl⟩:=rx;exact rule i t s _ _ ⟨.int (g i),H,I.tok _,⟨_,rfl⟩,q⟩
theorem R3:wJ X (unaryOp .USub) (rU λi=>.int (-i)):=unI λ_ _ _ _ _ q=>neg_int q
end
section
variable{X:Cx}{a b c:af}{ta tb tc:TE}{pos:ah}
theorem N7{AR:List (Addr×Obj)}{σ:St}{H:Hp}{s:aa}{Q:VK}{k k':Bool}(I:aH X AR σ H s)(q:Q (.bl k) H)(e:k=k'):EP X AR σ Q (.bool k') s:=by
 subst e;exact⟨.bl k,H,I,rfl,q⟩
theorem pJ:dE X (compareOp .Lt) (iE λi j=>.bl (decide (i<j))):=vW λ_ _ _ _ _ _ _ q=>lt_int q
theorem rO:dE X (compareOp .LtE) (iE λi j=>.bl (decide (i<=j))):=vW λ_ _ _ _ _ _ _ q=>le_int q
theorem Pm:dE X (compareOp .Gt) (iE λi j=>.bl (decide (j<i))):=vW λ_ _ _ _ _ _ _ q=>gt_int q
theorem An:dE X (compareOp .GtE) (iE λi j=>.bl (decide (j<=i))):=vW λ_ _ _ _ _ _ _ q=>ge_int q
theorem Hu:dE X (compareOp .In) (λx y H Q=>∃i j,x=.str i/\y=.str j/\Q (.bl (!(oh j i 0 j.length 1).isEmpty)) H):=by
 intro AR s σ H x y v u Q I rx ry h;obtain⟨i,j,rfl,rfl,q⟩:=h;obtain⟨t,rfl⟩:=rx;obtain⟨t',rfl⟩:=ry;exact in_str (N7 I q rfl)
theorem dE.or{f:Value->Value->di Value}{r r':R2}(h:dE X f r)(h':dE X f r'):dE X f (λx y H Q=>r x y H Q\/r' x y H Q):=by
 intro AR s σ H x y v u Q I rx ry q;rcases q with q |q
 .exact h AR s σ H x y v u Q I rx ry q
 .exact h' AR s σ H x y v u Q I rx ry q
theorem jU(b:af){op:iz}(h:op≠.In:=by decide)(h2:op≠.NotIn:=by decide):behindInMarks op b=false:=by
 have e1:(op==CmpOp.In)=false:=by cases op<;>first |rfl |exact absurd rfl h
 have e2:(op==CmpOp.NotIn)=false:=by cases op<;>first |rfl |exact absurd rfl h2
 cases b<;>simp[behindInMarks,e1,e2]
theorem A7{op:iz}{r:R2}(ho:dE X (compareOp op) r)(ha:PE X a ta)(hb:PE X b tb)(hm:behindInMarks op b=false):PE X (.Compare a [op] [b] pos) (wG r ta tb):=by
 intro AR s σ H Q I h;exact wpAny_Compare1 (Gb ha hb I h λv u s2 x y H2 I2 rx ry q=>ho AR s2 σ H2 x y v u Q I2 rx ry q) hm
def T5(t:TE):TT:=λσ H Q=>t σ H λx H'=>∃k,x=.bl k/\Q k H'
theorem F5{op:iz}{r:R2}(ho:dE X (compareOp op) r)(ha:PE X a ta)(hb:PE X b tb)(hm:behindInMarks op b=false):PT X (.Compare a [op] [b] pos) (T5 (wG r ta tb)):=by
 intro AR s σ H Q I h;refine yg (bF (ha AR s σ H _ I h) λv s1 ⟨x,H1,I1,r1,q1⟩=>bF (hb AR s1 σ H1 _ I1 q1) λu s2 ⟨y,H2,I2,r2,q2⟩=>
  bF (ho AR s2 σ H2 x y v u _ I2 r1 r2 q2) λc s3 ⟨z,H3,I3,r3,k,e,q3⟩=>?_) hm
 subst e;cases r3;exact jt ⟨H3,I3,q3⟩
def R0(r r':R2)(ta tb tc:TE):TE:=λσ H Q=>ta σ H λx H1=>tb σ H1 λy H2=>r x y H2 λz H3=>∃k,z=.bl k/\
 (if k=true then tc σ H3 λw' H4=>r' y w' H4 Q else Q (.bl false) H3)
theorem Hv{op op':iz}{r r':R2}(ho:dE X (compareOp op) r)(ho':dE X (compareOp op') r')(ha:PE X a ta)(hb:PE X b tb)(hc:PE X c tc)
  (hm:lastMarks [op,op'] [b,c]=false:=by with_unfolding_all rfl):PE X (.Compare a [op,op'] [b,c] pos) (R0 r r' ta tb tc):=by
 intro AR s σ H Q I h;refine Compare_chain (bF (ha AR s σ H _ I h) λv s1 ⟨x,H1,I1,r1,q1⟩=>chain_link (bF (hb AR s1 σ H1 _ I1 q1) λu s2 ⟨y,H2,I2,r2,q2⟩=>
  bF (ho AR s2 σ H2 x y v u _ I2 r1 r2 q2) λd s3 ⟨z,H3,I3,r3,k,e,q3⟩=>?_)) hm
 subst e;cases r3;refine jt ?_;cases k with
 |false=>exact ite_ff ⟨.bl false,H3,I3,rfl,q3⟩
 |true=>exact ite_tt (chain_last (bF (hc AR s3 σ H3 _ I3 q3) λw' s4 ⟨z',H4,I4,r4,q4⟩=>ho' AR s4 σ H4 y z' u w' Q I4 r2 r4 q4))
theorem pD:(sizeLine:Nat)<2^63:=by rw[jw];decide
theorem Xr:dE X (binaryOp .Add) (λx y H Q=>∃i j,x=.str i/\y=.str j/\i.length+j.length<=sizeLine/\Q (.str (i++j)) H):=by
 intro AR s σ H x y v u Q I rx ry h;obtain⟨i,j,rfl,rfl,hz,q⟩:=h;obtain⟨t,rfl⟩:=rx;obtain⟨t',rfl⟩:=ry;exact add_str (λt' tk=>⟨.str (i++j),H,I.tok _,⟨_,rfl⟩,q⟩) hz
theorem iT{x:V}{us:AH}(r:bH [x] us):∃u,us=[u]/\bY x u:=by
 cases r with
 |cons r1 r2=>cases r2;exact⟨_,rfl,r1⟩
theorem Pa{x y:V}{us:AH}(r:bH [x,y] us):∃u w',us=[u,w']/\bY x u/\bY y w':=by
 cases r with
 |cons r1 r2=>
  cases r2 with
  |cons r3 r4=>cases r4;exact⟨_,_,rfl,r1,r3⟩
theorem Bv:gW X (.builtin "abs") (λxs H Q=>∃i,xs=[.int i]/\Q (.int (if i<0 then-i else i)) H):=by
 intro AR s σ H xs us Q I r h;obtain⟨i,rfl,q⟩:=h;obtain⟨u,rfl,t,rfl⟩:=iT r;exact call_abs_int λu tk=>⟨.int (if i<0 then-i else i),H,I.tok _,⟨_,rfl⟩,q⟩
theorem Fq:gW X (.type "str") (λxs H Q=>∃i,xs=[.int i]/\i.natAbs.log2<1920/\Q (.str (toString i)) H):=by
 intro AR s σ H xs us Q I r h;obtain⟨i,rfl,hz,q⟩:=h;obtain⟨u,rfl,t,rfl⟩:=iT r;exact PySem.P.str_of_int hz ⟨.str _,H,I.tok _,⟨_,rfl⟩,q⟩
end
structure Ob(h:Heap)(x dx C:Addr)(mA:Str->AI):Prop where
 obj:h.get? x=some (um C dx)
 ns:h.Ns1 dx mA
 ne:dx≠x
theorem Rs{h:Heap}{dx:Addr}{mA:Str->AI}(n:h.Ns1 dx mA):∃od,h.get? dx=some od/\∀name,ve name od=some (mA name):=by
 obtain⟨o,es,ep,ho,hd,hk,_,hm⟩:=n;refine⟨o,ho,λname=>?_⟩;have e:=hm name;unfold nsFind findBy at e;rw[<-Array.find?_toList]at e;unfold ve;rw[hd];dsimp only;split
 .rename_i y q
  rw[q]at e;exact congrArg some e
 .rename_i q
  rw[q]at e;have a:es.toList.any (·.refKey)=false:=by
   rw[oi];intro y hy;obtain⟨z,t,hkey⟩:=hk y (Array.mem_toList_iff.mp hy);simp[DictEntry.refKey,hkey]
  have a':¬es.toList.any (·.refKey)=true:=by rw[a];exact km
  rw[if_neg a'];exact congrArg some e
theorem Ob.look{h:Heap}{x dx C:Addr}{mA:Str->AI}(I:Ob h x dx C mA):∃od,PySem.W.InstAt h x (um C dx) C (some od)/\∀name,ve name od=some (mA name):=
 let⟨od,ho,hl⟩:=Rs I.ns
 ⟨od,⟨I.obj,rfl,rfl,ho⟩,hl⟩
section
variable{prog:Program}{w:ao}{A:aq}{E:Value->aa->Prop}{s:aa}{K:ae}{x dx C f:Addr}{mA:Str->AI}{name:Str}{v:Value}
end
section
variable{P:Program}{w:ao}{H H':Hp}{h h':Heap}{a C dx:Addr}{fs fs':List (Str×V)}
theorem Py(hok:eG P w H h)(e:H a=some (.ins C dx fs)):∃mA,Ob h a dx C mA/\(∀f,Pb (fs.lookup f) (mA f))/\yc mA (fs.map (·.1))/\fs.length<=1000/\H dx=some (.own a):=by
 obtain⟨d,z,ne,ob,mA,n,r,q⟩:=(show eY P w H h a (.ins C dx fs) from hok a _ e);exact⟨mA,⟨ob,n,ne⟩,r,q,z,d⟩
end
structure Yb(K:ae)(C:Addr):Prop where
 pg:yh K C Str.empty=true
 hd:vf K C=true
 po:PySem.W.plainOver K C=true
 sa:ji K (.ref C) "__setattr__"=some (some (.builtin "object.__setattr__"))
theorem Yb.get{K:ae}{C:Addr}(c:Yb K C)(f:Str):yh K C f=true:=c.pg
structure wU(K:ae)(C:Addr)(f:Str)(v:V)(u:Value):Prop where
 at_:ji K (.ref C) f=some (some u)
 rel:bY v u
 get:qh K u "__get__"=some none
 cp:PySem.W.copiedNames.contains f=false
section
variable{X:Cx}{AR:List (Addr×Obj)}{σ:St}{H:Hp}{s:aa}{a C dx:Addr}{fs:List (Str×V)}{f:Str}{v:V}{A:aq}{E:Value->aa->Prop}
end
section
variable{X:Cx}{o e value:af}{f:Str}{pos pos' tpos:ah}{ta tv:TE}
end
section
variable{X:Cx}{AR:List (Addr×Obj)}{σ:St}{H:Hp}{s:aa}{A:aq}{E:Value->aa->Prop}{Q:Value->aa->Prop}{c:Value}{b:Bool}
inductive jA(K:ae)(H:Hp):V->Value->Prop where
 |non:jA K H .non (.type "NoneType")
 |bl (x:Bool):jA K H (.bl x) (.type "bool")
 |int (i:Int):jA K H (.int i) (.type "int")
 |str (x:Str):jA K H (.str x) (.type "str")
 |flt (x:UInt64):jA K H (.flt x) (.type "float")
 |lst {a:Addr} {xs:List V} (e:H a=some (.lst xs)):jA K H (.ref a) (.type "list")
 |frz {a:Addr} {o:Obj} {xs:List V} (e:H a=some (.frz o (.lst xs))):jA K H (.ref a) (.type "list")
 |tup {a:Addr} {xs:List V} (e:H a=some (.tup xs)):jA K H (.ref a) (.type "tuple")
 |dK {a:Addr} {kvs:List (gB×V)} (e:H a=some (.dK kvs)):jA K H (.ref a) (.type "dict")
 |dT {a:Addr} {kvs:List (List gB×V)} (e:H a=some (.dT kvs)):jA K H (.ref a) (.type "dict")
 |ins {a C dx:Addr} {fs:List (Str×V)} (e:H a=some (.ins C dx fs)) (cl:Yb K C) (ha:ji K (.ref C) "__class__"=some (some (.builtin "object.__class__")))
   (hn:qh K (.builtin "object.__class__") "__get__"=some (some (.builtin "getset_descriptor.__get__"))) (htk:vg K (.builtin "object.__class__")=some true)
   (hm:jj K C (.type "object")=some true):jA K H (.ref a) (.ref C)
theorem Ts{x:V}{u t:Value}(I:aH X AR σ H s)(rx:bY x u)(ty:jA X.K H x t)(e:fv X.K t c=some b)(h:∀tk,Q (.bool b) {s with toks:=tk}):
  wpAny (model X.prog X.w) A (call (.builtin "isinstance") [u,c]) Q E s:=by
 cases ty with
 |non=>cases(show u=cg from rx);exact fi PySem.W.kitx_none I.kIn oj e (λz=>nomatch z) h
 |bl y=>cases(show u=qa y from rx);exact fi PySem.W.kitx_bool I.kIn oj e (λz=>nomatch z) h
 |int i=>obtain⟨t,q⟩:=(show ∃t,u=pz i t from rx);cases q;exact fi PySem.W.kitx_int I.kIn oj e (λz=>nomatch z) h
 |str y=>obtain⟨t,q⟩:=(show ∃t,u=ul y t from rx);cases q;exact fi PySem.W.kitx_str I.kIn oj e (λz=>nomatch z) h
 |flt y=>obtain⟨t,q⟩:=(show ∃t,u=Value.float y t from rx);cases q;exact fi PySem.W.kitx_float I.kIn oj e (λz=>nomatch z) h
 |@lst a xs ea=>
  cases(show u=dk a from rx);obtain⟨_,_,n,_,h1⟩:=(show eY X.prog X.w H s.heap a (.lst xs) from I.hok a _ ea);exact fi vh I.kIn ⟨_,h1,rfl⟩ e (λz=>nomatch z) h
 |@frz a ob xs ea=>
  cases(show u=dk a from rx);obtain⟨_,_,_,n,_,h1⟩:=(show eY X.prog X.w H s.heap a (.frz ob (.lst xs)) from I.hok a _ ea);exact fi vh I.kIn ⟨_,h1,rfl⟩ e (λz=>nomatch z) h
 |@tup a xs ea=>
  cases(show u=dk a from rx);obtain⟨_,_,_,p⟩:=(show eY X.prog X.w H s.heap a (.tup xs) from I.hok a _ ea);obtain⟨o,h1,h2,_⟩:=p;exact fi yi I.kIn ⟨o,h1,h2⟩ e (λz=>nomatch z) h
 |@dK a kvs ea=>
  cases(show u=dk a from rx);obtain⟨_,_,vs,_,p⟩:=(show eY X.prog X.w H s.heap a (.dK kvs) from I.hok a _ ea);obtain⟨o,es,ep,h1,h2,_⟩:=p;exact fi yj I.kIn ⟨o,h1,h2.1⟩ e (λz=>nomatch z) h
 |@dT a kvs ea=>
  cases(show u=dk a from rx);obtain⟨_,_,xs,_,o,es,ep,h1,h2,_⟩:=(show eY X.prog X.w H s.heap a (.dT kvs) from I.hok a _ ea);exact fi yj I.kIn ⟨o,h1,h2.1⟩ e (λz=>nomatch z) h
 |@ins a C dx fs ea cl ha hn htk hm=>
  cases(show u=dk a from rx);obtain⟨mA,O,_⟩:=Py I.hok ea;obtain⟨od,J,_⟩:=O.look;exact fi (PySem.W.kitx_own (cl.get _) cl.hd ha hn htk hm) I.kIn J e (λz=>nomatch z) h
end
structure cU(k:Nat)(A:aq):Prop where
 hd:A.handled=none
 dp:A.depth+3*k+5<recursionLimit
 un:A.units+16*k+200<cLine
theorem cU.mono{j k:Nat}{A:aq}(r:cU k A)(h:j<=k):cU j A:=⟨r.hd,by have:=r.dp;omega,by have:=r.un;omega⟩
theorem cU.deeper{k:Nat}{A:aq}(r:cU (k+1) A)(env:az):cU k (A.deeper env):=
 ⟨r.hd,by have:=r.dp;show A.depth+1+3*k+5<_;omega,by have:=r.un;show A.units+3+16*k+200<_;omega⟩
theorem cU.depth{k:Nat}{A:aq}(r:cU k A):A.depth<recursionLimit:=by have:=r.dp;omega
theorem cU.units{k:Nat}{A:aq}(r:cU k A):A.units+64<cLine:=by have:=r.un;omega
def aaq:TA:=λ_ H Q=>Q [] H
def U5(ta:TE)(tr:TA):TA:=λσ H Q=>ta σ H λx H1=>tr σ H1 λxs H2=>Q (x::xs) H2
section
variable{X:Cx}{e:af}{es:List af}{te:TE}{t:TA}{pos:ah}
theorem mL:PA X [] aaq:=λ_ _ _ _ H Q I h=>yk ⟨[],H,I,.nil,h⟩
theorem iN(ha:PE X e te)(hr:PA X es t)(hs:starEach (e::es) X.env=(false,eval e X.env)::starEach es X.env:=by rfl):PA X (e::es) (U5 te t):=by
 intro pos AR s σ H Q I h;rw[hs];show wpAny _ _ (spliced ((false,eval e X.env)::backTo pos (starEach es X.env))) _ _ s;refine vj (bF (ha AR s σ H _ I h) λu s1 hq=>?_);rcases hq with⟨x,H1,I1,r1,q1⟩;exact bF (hr pos AR s1 σ H1 _ I1 q1) λus s2 ⟨xs,H2,I2,r2,q2⟩=>⟨x::xs,H2,I2,.cons r1 r2,q2⟩
def aau(t:TA):TE:=λσ H Q=>t σ H λxs H1=>xs.length<=sizeLine/\∀p,H1 p=none->Q (.ref p) (bE H1 p (.tup xs))
def aaB(t:TA):TE:=λσ H Q=>t σ H λxs H1=>xs.length<=sizeLine/\∀p,H1 p=none->Q (.ref p) (bE H1 p (.lst xs))
theorem zT{x1}(h:PA X es t):PE X (.Tuple es x1 pos) (aau t):=by
 intro AR s σ H Q I hq;refine yl (bF (h pos AR s σ H _ I hq) λus s1 ⟨xs,H1,I1,r,z,q⟩=>⟨by rw[<-r.length];exact z,?_⟩);have hf:H1 s1.heap.objs.size=none:=I1.hok.fresh (am _);refine⟨.ref s1.heap.objs.size,bE H1 s1.heap.objs.size (.tup xs),I1.laid (t':=s1.toks) (λb u e=>aw _ e) (am _) ?_,rfl,q _ hf⟩;exact⟨z,us,r,⟨_,dl _ rfl,rfl,_,rfl⟩⟩
theorem Kl(h:PA X es t):PE X (.List es pos) (aaB t):=by
 intro AR s σ H Q I hq;refine wpAny_List_spliced (bF (h pos AR s σ H _ I hq) λus s1 ⟨xs,H1,I1,r,z,q⟩=>⟨by rw[<-r.length];exact z,?_⟩);have hf:H1 s1.heap.objs.size=none:=I1.hok.fresh (am _);refine⟨.ref s1.heap.objs.size,bE H1 s1.heap.objs.size (.lst xs),I1.laid (t':=s1.toks) (λb u e=>aw _ e) (am _) ?_,rfl,q _ hf⟩;exact⟨z,us,0,r,dl _ rfl⟩
end
abbrev Sp:=List V->Hp->VK->XK->Prop
abbrev iU:=List az->Hp->aa->XK->Value->aa->Prop
structure wF(P:Program)(w:ao)(K:ae)(mg:Str->AI)(base:Heap)(A:aq)(outer:List az)(s:aa)(H:Hp):Prop where
 frames:A.frames=some outer
 mod:Mod K mg base
 bs:∀b o,base.get? b=some o->s.heap.get? b=some o/\H b=none
 bsz:base.objs.size<=s.heap.objs.size
 funs:s.heap.FunFrames base outer
 frf:∀b∈cL outer,H b=none
 hok:eG P w H s.heap
 bare:gq s.gens
def CE(outer:List az)(P:Program)(w:ao)(H:Hp)(s:aa)(Q:VK)(u:Value)(s':aa):Prop:=
 ∃v H',s'.os=s.os/\gq s'.gens/\Un (cL outer) [] H H' s.heap s'.heap/\eG P w H' s'.heap/\bY v u/\Q v H'
def CR(CX:iU)(outer:List az)(P:Program)(w:ao)(H:Hp)(s:aa)(Q:VK)(E:XK)(r:kn)(s':aa):Prop:=
 match r with
 |.ok (.ret u)=>CE outer P w H s Q u s'
 |.ok _=>False
 |.error e=>CX outer H s E e s'
structure dJ(P:Program)(w:ao)(K:ae)(mg:Str->AI)(base:Heap)(CX:iU)(k:Nat)(f:Addr)(fd:bh)(ps:List Str)(sp:Sp):Prop where
 len:∀vs H Q E,sp vs H Q E->vs.length=ps.length
 run:∀(A:aq)(outer:List az)(s:aa)(H:Hp)(args:Args)(us:AH)(vs:List V)(Q:VK)(E:XK),cU k A->wF P w K mg base A outer s H->mn s fd args (ps.zip us)->bH vs us->sp vs H Q E->
  codeAny (model P w) A (.call (.ref f) args) (CR CX outer P w H s Q E) s
theorem dJ.imp{P:Program}{w:ao}{K:ae}{mg:Str->AI}{base:Heap}{CX:iU}{k:Nat}{f:Addr}{fd:bh}{ps:List Str}{sp sp':Sp}(F:dJ P w K mg base CX k f fd ps sp)
  (h:∀vs H Q E,sp' vs H Q E->sp vs H Q E):dJ P w K mg base CX k f fd ps sp':=
 ⟨λvs H Q E q=>F.len vs H Q E (h _ _ _ _ q),λA outer s H args us vs Q E hr he hb hv hs=>F.run A outer s H args us vs Q E hr he hb hv (h _ _ _ _ hs)⟩
section
variable{X:Cx}{AR:List (Addr×Obj)}{σ:St}{H:Hp}{s s':aa}
theorem aH.env0(I:aH X AR σ H s):wF X.prog X.w X.K X.mg X.base X.A X.stack s H:=
 ⟨I.ok.frames,I.ok.mod,I.bs,dn I.ok.bsz I.sz,I.stack,I.stkFree,I.hok,I.bare⟩
theorem aH.after{Q:VK}{u:Value}(I:aH X AR σ H s)(h:CE X.stack X.prog X.w H s Q u s'):EP X AR σ Q u s':=by
 obtain⟨v,H',os,bare,un,hok,r,q⟩:=h;obtain⟨hh,g,d,t,os'⟩:=s';obtain rfl:os'=s.os:=os;exact⟨v,H',I.call (h':=hh) (g':=g) (d':=d) (t':=t) (ch:=[]) un hok bare (λb z=>absurd z (by simp)),r,q⟩
end
def X1(sp:Sp)(dvs:List V)(E:XK)(t:TA):TE:=λσ H Q=>t σ H λvs H1=>sp (vs++dvs) H1 Q E
def fO(K:ae)(fd:bh)(ps:List Str)(ds:AH):Prop:=
 ∀(s:aa)(us:AH),K.In s.heap->(us++ds).length=ps.length->mn s fd ⟨us,[]⟩ (ps.zip (us++ds))
theorem fO.all{K:ae}{fd:bh}{ps:List Str}(h:∀us:AH,us.length=ps.length->bindArgs fd ⟨us,[]⟩=pure (ps.zip us)):fO K fd ps []:=λs us _ hl=>by
 rw[vk]at hl⊢;exact .of_eq (h us hl)
def iZ(CX:iU)(X:Cx)(E:XK):Prop:=∀(AR:List (Addr×Obj))(σ:St)(H:Hp)(s:aa)(e:Value)(s':aa),aH X AR σ H s->CX X.stack H s E e s'->X.xe e s'
section
variable{X:Cx}{CX:iU}{k:Nat}{f C:Addr}{fd:bh}{ps:List Str}{sp:Sp}{dvs:List V}{ds:AH}{E:XK}{x m:Str}{p pos apos:ah}{e o:af}{es:List af}{ta:TE}{t:TA}
theorem P4{AR:List (Addr×Obj)}{σ:St}{H:Hp}{s:aa}{Q:VK}{us:AH}{vs:List V}(F:dJ X.prog X.w X.K X.mg X.base CX k f fd ps sp)(hr:cU k X.A)(hb:fO X.K fd ps ds)(hd:bH dvs ds)(hx:iZ CX X E)
  (I:aH X AR σ H s)(r:bH vs us)(h:sp (vs++dvs) H Q E):wpAny (model X.prog X.w) X.A (call (.ref f) us) (EP X AR σ Q) X.xe s:=by
 have r2:bH (vs++dvs) (us++ds):=r.append hd;have hl:(us++ds).length=ps.length:=by rw[<-r2.length];exact F.len _ _ _ _ h
 refine wpAny_call (ko (F.run X.A X.stack s H ⟨us,[]⟩ (us++ds) (vs++dvs) Q E hr I.env0 (hb s us I.kIn hl) r2 h) λr s' hq=>?_);cases r with
 |error e=>exact hx AR σ H s e s' I hq
 |ok fl=>
  cases fl with
  |ret u=>exact I.after hq
  |next=>exact fh hq
  |brk=>exact fh hq
  |cont=>exact fh hq
theorem rE(F:dJ X.prog X.w X.K X.mg X.base CX k f fd ps sp)(hr:cU k X.A)(hg:Gl X x)(hm:X.mg x=some (.ref f))(hk:de X.K (.ref f)=true)(hb:fO X.K fd ps ds)(hd:bH dvs ds)(hx:iZ CX X E)
  (ha:PA X (e::es) t)(hdb:(x==("__debug__":Str))=false:=by decide)(he:starEach (e::es) X.env=(false,eval e X.env)::starEach es X.env:=by rfl)(hpl:(backTo pos (starEach es X.env)).any (·.1)=false:=by rfl):
  PE X (.Call (.Name x p) (e::es) [] pos) (X1 sp dvs E t):=by
 intro AR s σ H Q I h;refine qi (nI I hg hm ?_ hdb);refine ym (h₀:=X.base) I.ok.mod.kin hk (bF (ha pos AR s σ H _ I h) λus s1 ⟨vs,H1,I1,r,q⟩=>⟨I1.kIn,?_⟩) he hpl;exact P4 F hr hb hd hx I1 r q
end
section
variable{X:Cx}{CX:iU}{k:Nat}{f C:Addr}{fd:bh}{ps ks:List Str}{sp:Sp}{E:XK}{x m:Str}{p pos apos kpos:ah}{e o:af}{es:List af}{kws:List ik}{te ta:TE}{t tk:TA}{nm:Option Str}
variable{g:AH->AH->AH}{gV:List V->List V->List V}
end
structure iY(N P:List Str)(sc:Scope):Prop where
 kind:sc.kind=.function
 co:sc.isCoroutine=false
 gen:sc.isGenerator=false
 nd:N.Nodup
 pre:N.take P.length=P
 par:∀x∈P,sc.names.lookup x=some .local\/sc.names.lookup x=some .cell
 nofree:∀y∈sc.names,y.2≠.free
theorem Sg{kindOf:Str->Option jb}{x:Str}:∀{binds:List (Str×Value)}{m:Str->AI},(∀v,(x,v)∉binds)->bindL kindOf binds m x=m x
 |[],_,_=>rfl
 |(n,v)::r,m,h=>by
  unfold bindL;rw[Sg λw hw=>h w (bp _ hw)];split
  .have:x≠n:=by rintro rfl;exact h v bc
   simp[this]
  .rfl
theorem Yg{kindOf:Str->Option jb}{x:Str}:∀{binds:List (Str×Value)}{m:Str->AI},(∀v,(x,v)∉binds)->bindC kindOf binds m x=m x
 |[],_,_=>rfl
 |(n,v)::r,m,h=>by
  unfold bindC;rw[Yg λw hw=>h w (bp _ hw)];split
  .rfl
  .have:x≠n:=by rintro rfl;exact h v bc
   simp[this]
theorem Qg{kindOf:Str->Option jb}{x:Str}{v:Value}:∀{P:List Str}{vs:AH}{i:Nat}{m:Str->AI},P.Nodup->P[i]?=some x->vs[i]?=some v->kindOf x=some .local->
  bindL kindOf (P.zip vs) m x=some v
 |[],_,_,_,_,h,_,_=>by simp at h
 |_::_,[],_,_,_,_,h,_=>by simp at h
 |p::P,w::vs,0,m,nd,h1,h2,hk=>by
  simp at h1 h2;subst h1;subst h2;show bindL kindOf ((p,w)::P.zip vs) m p=_;unfold bindL;rw[Sg λv hv=>(kq.mp nd).1 (vm hv).1,if_pos hk];simp
 |p::P,w::vs,i+1,m,nd,h1,h2,hk=>by
  show bindL kindOf ((p,w)::P.zip vs) m x=_;unfold bindL;exact Qg (i:=i) (kq.mp nd).2 (by simpa using h1) (by simpa using h2) hk
theorem Gg{kindOf:Str->Option jb}{x:Str}{v:Value}:∀{P:List Str}{vs:AH}{i:Nat}{m:Str->AI},P.Nodup->P[i]?=some x->vs[i]?=some v->kindOf x≠some .local->
  bindC kindOf (P.zip vs) m x=some v
 |[],_,_,_,_,h,_,_=>by simp at h
 |_::_,[],_,_,_,_,h,_=>by simp at h
 |p::P,w::vs,0,m,nd,h1,h2,hk=>by
  simp at h1 h2;subst h1;subst h2;show bindC kindOf ((p,w)::P.zip vs) m p=_;unfold bindC;rw[Yg λv hv=>(kq.mp nd).1 (vm hv).1,if_neg hk];simp
 |p::P,w::vs,i+1,m,nd,h1,h2,hk=>by
  show bindC kindOf ((p,w)::P.zip vs) m x=_;unfold bindC;exact Gg (i:=i) (kq.mp nd).2 (by simpa using h1) (by simpa using h2) hk
def start(N:List Str)(vs:List V):St:=vs.map some++bj (N.length-vs.length) none
def aT(CX:iU)(P:Program)(w:ao)(K:ae)(mg:Str->AI)(base:Heap)(N:List Str)(qual:Str)(scope:Scope)(f:Addr)(cd:Value)(A:aq)(outer:List az)(s:aa)(H:Hp)(E:XK):Cx where
 prog:=P
 w:=w
 K:=K
 mg:=mg
 base:=base
 A:=A.deeper (envOfC qual scope s.heap.objs.size f cd)
 N:=N
 AS:=s
 AT:=H
 env:=envOfC qual scope s.heap.objs.size f cd
 outer:=outer
 stack:=envOfC qual scope s.heap.objs.size f cd::outer
 ex:=[]
 calm:=true
 fn:=λ_=>true
 pn:=[]
 xe:=λe s'=>wpAny (model P w) (A.deeper (envOfC qual scope s.heap.objs.size f cd)) (leaving (envOfC qual scope s.heap.objs.size f cd) e) (λ_ s''=>CX outer H s E e s'') (λe' s''=>CX outer H s E e' s'') s'
theorem Th{sc:Scope}{n:Nat}{x:Str}(h:sc.names.lookup x=some .cell):∃c,(cellsFrom n sc.names []).lookup x=some c:=by
 have q:=yn sc.names n [] (.inl h);exact qj.mp q
theorem Vs{CX:iU}{P:Program}{w:ao}{K:ae}{mg:Str->AI}{base:Heap}{N ps:List Str}{qual:Str}{scope:Scope}{f:Addr}{cd:Value}{A:aq}{outer:List az}{s s1:aa}{H:Hp}{E:XK}{us:AH}{vs:List V}
  (S:iY N ps scope)(hd:A.handled=none)(e0:wF P w K mg base A outer s H)(hl:vs.length=ps.length)(r:bH vs us)
  (x:InCallC s s.heap.objs.size (bindL (envOfC qual scope s.heap.objs.size f cd).kindOf (ps.zip us) λ_=>none) (cellsFrom (s.heap.objs.size+1) scope.names []) (bindC (envOfC qual scope s.heap.objs.size f cd).kindOf (ps.zip us) λ_=>none) s1):
  aH (aT CX P w K mg base N qual scope f cd A outer s H E) [] (start N vs) H s1:=by
 have hpl:ps.length<=N.length:=by have:=congrArg List.length S.pre;rw[kr]at this;omega
 obtain⟨h1,tk,rfl,hk⟩:=x.done;have noA:∀b:Addr,b∉(aT CX P w K mg base N qual scope f cd A outer s H E).ex:=λb z=>absurd (show b∈([]:List Addr) from z) (by simp);refine⟨⟨e0.mod,S.kind,rfl,rfl,am _,λy z c h1 h2=>?_,λy hy=>?_,λy c _ h=>?_,λ_=>hd,Around.frames_deeper e0.frames,.inr ⟨rfl,rfl⟩,λb z=>absurd z (noA b),e0.bs,e0.bsz,λb _ _=>noA b,λb z=>absurd z (noA b),e0.funs,e0.frf⟩,
  rfl,e0.bare,Un.kept hk,⟨_,x.toInCall.ns,λi y v h1 h2 h3=>?_⟩,λy c h=>⟨_,x.cell y c h⟩,e0.hok.fresh (am _),λy c h=>?_,λp hp=>absurd (show p∈([]:List (Addr×Obj)) from hp) (by simp),e0.hok.kept hk,?_⟩
 .exact name_of_addr x.apart (ku h1) (ku h2)
 .have hy:scope.names.lookup y=some .cell\/scope.names.lookup y=some .free:=hy
  rcases hy with hy |hy
  .exact Th hy
  .exact absurd rfl (S.nofree _ (ku hy))
 .exact uv (x.above y c (ku h))
 .have hi:i<vs.length:=by
   unfold start at h2
   by_cases hi:i<vs.length
   .exact hi
   .rw[gv (by simpa using hi)]at h2
    rw[yo]at h2;split at h2<;>cases h2
  have ha:vs[i]?=some v:=by
   unfold start at h2;rw[gi (by simpa using hi),dy]at h2;cases e:vs[i]? with
   |none=>rw[e]at h2;cases h2
   |some a=>rw[e]at h2;cases h2;rfl
  obtain⟨u,hu,rv⟩:=r.get ha;have hp:ps[i]?=some y:=by
   rw[<-S.pre,List.getElem?_take_of_lt (by omega)];exact h1
  have ndP:ps.Nodup:=by rw[<-S.pre];exact S.nd.sublist (List.take_sublist _ _)
  refine⟨u,rv,?_⟩;rcases S.par y (fe hp)with k |k
  .exact .inl ⟨k,Qg ndP hp hu k⟩
  .obtain⟨c,e⟩:=Th (n:=s.heap.objs.size+1) k
   refine .inr ⟨.inl k,c,e,?_⟩;have q:=x.cell y c e;rw[Gg ndP hp hu (by show scope.names.lookup y≠_;rw[k];decide)]at q;exact q
 .exact e0.hok.fresh (uv (x.above y c (ku h)))
 .unfold start
  show _=N.length;rw[bn,ar,List.length_replicate];omega
theorem Bb{CX:iU}{P:Program}{w:ao}{K:ae}{mg:Str->AI}{base:Heap}{k:Nat}{f:Addr}{name qual:Str}{params:Arguments}{body:List Stmt}{scope:Scope}{dV kV doc pm cdv ct oc:Value}{an od:AJ}
  {osl:Array AI}{N ps:List Str}{sp:Sp}(lk:K.lookup f=some ⟨oc,od,.func (dj name qual params body scope dV kV doc pm an cdv ct),osl⟩)(hcd:jc K cdv qual=true)(S:iY N ps scope)
  (len:∀vs H Q E,sp vs H Q E->vs.length=ps.length)
  (hbody:∀(A:aq)(outer:List az)(s:aa)(H:Hp)(vs:List V)(Q:VK)(E:XK),cU k (A.deeper (envOfC qual scope s.heap.objs.size f cdv))->sp vs H Q E->
   ∃t,eO (aT CX P w K mg base N qual scope f cdv A outer s H E) body t/\t {nx:=λ_ H'=>Q .non H',rt:=Q} (start N vs) H):
  dJ P w K mg base CX (k+1) f (dj name qual params body scope dV kV doc pm an cdv ct) ps sp:=by
 refine⟨len,λA outer s H args us vs Q E hr e0 hb r hsp=>?_⟩;have hl:=len _ _ _ _ hsp;have KX:K.In s.heap:=e0.mod.kin.keeps λb o e=>(e0.bs b o e).1;have lim:s.heap.NoLimit:=e0.mod.nolimit.keeps λb o e=>(e0.bs b o e).1;have hkind:∀y∈ps.zip us,scope.names.lookup y.1=some .local\/(scope.names.lookup y.1=some .cell/\((cellsFrom (s.heap.objs.size+1) scope.names []).lookup y.1).isSome=true):=λ⟨n,v⟩ hy=>by
  rcases S.par n (vm hy).1 with q |q
  .exact .inl q
  .exact .inr ⟨q,yn _ _ _ (.inl q)⟩
 refine codeAny_call_function hr.depth (KX _ _ lk) rfl S.co S.gen rfl (PySem.W.codeRec_of KX hcd) (hb _ _ _ _ ?_);refine wpAny_newFunctionEnv_cells S.kind hkind λenv he s1 x=>?_;subst he;refine⟨lim.keeps x.toInCall.keep,codeAny_func ?_⟩;obtain⟨t,ht,hq⟩:=hbody A outer s H vs Q E (hr.deeper _) hsp;have I:aH (aT CX P w K mg base N qual scope f cdv A outer s H E) [] (start N vs) H s1:=Vs S hr.hd e0 hl r x;refine cy (ht [] s1 (start N vs) H _ I hq) (λfl s' hs=>?_) λe s' hs=>hs;have fin:∀{σ':St}{H':Hp}{v:V}{u:Value},aH (aT CX P w K mg base N qual scope f cdv A outer s H E) [] σ' H' s'->bY v u->Q v H'->CE outer P w H s Q u s':=
  λ{σ' H' v u} J rv q=>⟨v,H',J.os,J.bare,J.base,J.hok,rv,q⟩
 cases fl with
 |ret u=>
  obtain⟨v,σ',H',J,rv,q⟩:=hs;exact fin J rv q
 |next=>
  obtain⟨σ',H',J,q⟩:=hs;exact fin (v:=V.non) (u:=cg) J rfl q
 |brk=>
  obtain⟨_,_,_,q⟩:=hs;exact fh q
 |cont=>
  obtain⟨_,_,_,q⟩:=hs;exact fh q
section
variable{X:Cx}{x:Str}{p pos:ah}{e:af}{es:List af}{t:TA}{id T:String}{r:List V->Hp->VK->Prop}
def Po(r:List V->Hp->VK->Prop)(t:TA):TE:=λσ H Q=>t σ H λvs H1=>r vs H1 Q
theorem qW(hc:gW X (.builtin id) r)(hg:Gl X x)(hm:X.mg x=none)(hv:bootBuiltins x=some (.builtin id))(ha:PA X (e::es) t)(hn:x≠"__name__":=by decide)(hdb:(x==("__debug__":Str))=false:=by decide)
  (he:starEach (e::es) X.env=(false,eval e X.env)::starEach es X.env:=by rfl)(hpl:(backTo pos (starEach es X.env)).any (·.1)=false:=by rfl):PE X (.Call (.Name x p) (e::es) [] pos) (Po r t):=by
 intro AR s σ H Q I h;refine qi (oY I hg hm hv ?_ hn hdb);exact PyProof.Rows.callWith_builtin1 (bF (ha pos AR s σ H _ I h) λus s1 ⟨vs,H1,I1,r1,q1⟩=>hc AR s1 σ H1 vs us Q I1 r1 q1) he hpl
theorem Ng(hc:gW X (.type T) r)(hg:Gl X x)(hm:X.mg x=none)(hv:bootBuiltins x=some (.type T))(ha:PA X (e::es) t)(hn:x≠"__name__":=by decide)(hdb:(x==("__debug__":Str))=false:=by decide)
  (he:starEach (e::es) X.env=(false,eval e X.env)::starEach es X.env:=by rfl)(hpl:(backTo pos (starEach es X.env)).any (·.1)=false:=by rfl):PE X (.Call (.Name x p) (e::es) [] pos) (Po r t):=by
 intro AR s σ H Q I h;refine qi (oY I hg hm hv ?_ hn hdb);exact qg (bF (ha pos AR s σ H _ I h) λus s1 ⟨vs,H1,I1,r1,q1⟩=>hc AR s1 σ H1 vs us Q I1 r1 q1) he hpl
end
end L2
namespace HT
open PySem PyProof.Rows
def lexLt:AE->AE->Bool
 |[],[]=>false
 |[],_::_=>true
 |_::_,[]=>false
 |x::xs,y::ys=>if x=y then lexLt xs ys else decide (x<y)
theorem lexLt_cons(x y:Int)(xs ys:AE):lexLt (x::xs) (y::ys)=if x=y then lexLt xs ys else decide (x<y):=rfl
section
open PySem.SeqAt
open PySem.AutoSeq1 (wpAny_loadPart')
open PySem.MeetsSeq PySem.MeetsSeq2 PySem.MeetsSeq3
end
section
variable{prog:Program}{w:ao}{A:aq}{E:Value->aa->Prop}{s:aa}
theorem cat_tup{t b:Addr}{vs ws:AH}{Q:Value->aa->Prop}(ht:IsTup s.heap t vs.toArray)(hb:IsTup s.heap b ws.toArray)(hv:vs≠[])
  (h1:ws=[]->Q (.ref t) s)(h2:ws≠[]->Q (.ref s.heap.objs.size) {s with heap:=s.heap.push {cls:=.type "tuple",data:=.seq (vs++ws).toArray}})
  (hsz:vs.length+ws.length<=sizeLine):wpAny (model prog w) A (binaryOp .Add (.ref t) (.ref b)) Q E s:=by
 obtain⟨⟨cls,dd,data,sl⟩,ho,hc,n,hd⟩:=id ht;obtain⟨⟨cls2,dd2,data2,sl2⟩,ho2,hc2,n2,hd2⟩:=id hb;simp only at hc hd hc2 hd2;subst hc hd hc2 hd2;have e:vs.toArray++ws.toArray=(vs++ws).toArray:=by simp
 by_cases hw:ws=[]
 .exact vn ⟨_,ho,rfl⟩ ⟨_,ho2,rfl⟩ noFill_tuple_add seq_tuple_add yp yq (yr _ _)
   (tuple_addW1 t b vs.toArray ws.toArray n n2 dd dd2 sl sl2 (by simpa using hv) (by simp[hw])) ⟨ho,ho2,h1 hw⟩
 .refine vn ⟨_,ho,rfl⟩ ⟨_,ho2,rfl⟩ noFill_tuple_add seq_tuple_add yp yq (yr _ _)
   (tuple_addW2 t b vs.toArray ws.toArray n n2 dd dd2 sl sl2 (by simpa using hv) (by simpa using hw) (by rw[ay,ay];exact hsz)) ⟨ho,ho2,?_⟩
  rw[e];exact h2 hw
def sIx(n d:Nat):AK->Nat
 |none=>d
 |some v=>if v<0 then(v+(n:Int)).toNat else min v.toNat n
theorem sIx_nat(n d k:Nat):sIx n d (some (k:Int))=min k n:=by
 show(if(k:Int)<0 then((k:Int)+(n:Int)).toNat else min (k:Int).toNat n)=min k n;rw[if_neg (by omega),mq]
theorem M7(n d:Nat)(hd:d<=n)(o:AK):sIx n d o<=n:=by
 cases o with
 |none=>exact hd
 |some v=>
  show(if v<0 then(v+(n:Int)).toNat else min v.toNat n)<=n
  by_cases hv:v<0
  .rw[if_pos hv];omega
  .rw[if_neg hv];exact Nat.min_le_right _ _
theorem Jk(v:Int)(n d:Nat):(if v<0 then max (v+(n:Int)) 0 else min v (n:Int))=((sIx n d (some v):Nat):Int):=by
 show(if v<0 then max (v+(n:Int)) 0 else min v (n:Int))=(((if v<0 then(v+(n:Int)).toNat else min v.toNat n):Nat):Int)
 by_cases hv:v<0
 .simp only[if_pos hv];omega
 .simp only[if_neg hv];omega
theorem Es(lo hi:AK)(n:Nat):vo lo hi 1 (n:Int)=(((sIx n 0 lo:Nat):Int),((sIx n n hi:Nat):Int)):=by
 have h1:¬((1:Int)<0):=by omega
 unfold vo;simp only[h1,if_false];refine iy ?_ ?_
 .cases lo with
  |none=>rfl
  |some v=>exact Jk v n 0
 .cases hi with
  |none=>rfl
  |some v=>exact Jk v n n
theorem Is(i j:Nat):qk (i:Int) (j:Int) 1=j-i:=by
 unfold qk;have h1:(1:Int)>0:=by omega
 simp only[h1,if_true,Int.ediv_one];split<;>omega
theorem Pe{v:Value}{o:AK}{Q:AK->aa->Prop}(p:jd v o)(h:Q o s):wpAny (model prog w) A (Builtin.Slice.slicePartIndex v) Q E s:=by
 cases p with
 |none=>exact slicePart_none h
 |int i t=>exact slicePart_int h
theorem Dp{sl:Addr}{vl vu:Value}{lo hi:AK}{n:Nat}{Q:Int×Int×Nat->aa->Prop}(hs:s.heap.IsSliceOf sl vl vu .none)(pl:jd vl lo)(pu:jd vu hi)
  (h:Q (((sIx n 0 lo:Nat):Int),1,sIx n n hi-sIx n 0 lo) s):wpAny (model prog w) A (yt (.ref sl) (pure (n:Int))) Q E s:=by
 obtain⟨os,hos,hcs,hds⟩:=id hs;unfold yt Builtin.Slice.sliceFields;refine ag (ag (dz hos hds (x:=vl) rfl (ag (dz hos hds (x:=vu) rfl (ag (dz hos hds (x:=.none) rfl (au ?_)))))));refine ag (slicePart_none ?_);show wpAny _ _ (if((1:Int)==0)=true then _ else _) _ _ s;rw[if_neg (by decide)];refine ag (Pe pl (ag (Pe pu (ag (au ?_)))));show wpAny _ _ (match vo lo hi 1 (n:Int)with |(lo,hi)=>pure (lo,(1:Int),qk lo hi 1)) _ _ s
 rw[Es lo hi n];show wpAny _ _ (pure (((sIx n 0 lo:Nat):Int),(1:Int),qk ((sIx n 0 lo:Nat):Int) ((sIx n n hi:Nat):Int) 1)) _ _ s;rw[Is];exact au h
theorem Lw(xs:Array Value)(i k:Nat):((ce k).filterMap λ(m:Nat)=>xs[((i:Int)+(m:Int)*1).toNat]?).toArray=((xs.toList.drop i).take k).toArray:=by
 have e:(λ(m:Nat)=>xs[((i:Int)+(m:Int)*1).toNat]?)=λm=>xs[i+m]?:=by
  funext m
  have:((i:Int)+(m:Int)*1).toNat=i+m:=by omega
  rw[this]
 rw[e];have:=pick_run xs i k;rw[List.filterMap_map]at this;have e2:((λx=>xs[x]?)∘λx=>i+x)=λm=>xs[i+m]?:=rfl;rw[e2]at this;rw[this]
theorem getItem_tuple_cut{t sl:Addr}{items:Array Value}{vl vu:Value}{lo hi:AK}{Q:Value->aa->Prop}(ht:IsTup s.heap t items)(hs:s.heap.IsSliceOf sl vl vu .none)(pl:jd vl lo)(pu:jd vu hi)
  (hw:¬(sIx items.size 0 lo=0/\sIx items.size items.size hi=items.size))
  (h:Q (.ref s.heap.objs.size) {s with heap:=s.heap.push {cls:=.type "tuple",data:=.seq ((items.toList.drop (sIx items.size 0 lo)).take (sIx items.size items.size hi-sIx items.size 0 lo)).toArray}})
  (hsz:items.size<=sizeLine):wpAny (model prog w) A (getItem (.ref t) (.ref sl)) Q E s:=by
 have htake:sizeOk (.seq ((items.toList.drop (sIx items.size 0 lo)).take (sIx items.size items.size hi-sIx items.size 0 lo)).toArray):=by
  show((items.toList.drop (sIx items.size 0 lo)).take (sIx items.size items.size hi-sIx items.size 0 lo)).toArray.size<=sizeLine;rw[ay,kr,jk,oa];omega
 have hj:sIx items.size items.size hi<=items.size:=M7 _ _ (am _) hi;obtain⟨os,hos,hcs,hds⟩:=id hs;have hTs:s.TypeIs (.ref sl) "slice":=⟨os,hos,hcs⟩;unfold getItem
 try with_reducible refine dw ?_
 first |refine ag (au ?_) |skip
 refine ag (wpAny_sequenceKey ht.typeIs (by decide) ?_);refine ag (om (name:=cc "__getitem__") ht.typeIs ql
  (mx ql ht.typeIs entry_tuple_getitem ?_ (args_tuple_getitem _ _)))
 show wpAny _ _ (Builtin.Tuple.tupleItemsOf (.ref t) >>= _) _ _ s;refine ag (tupleItemsOf_ ht ?_);refine ag (wpAny_typeOf hTs ?_);rw[if_pos (by decide)];refine ag (Dp hs pl pu ?_);have hno:¬((((sIx items.size 0 lo:Nat):Int)==0&&(1:Int)==1&&(sIx items.size items.size hi-sIx items.size 0 lo)==items.size)=true):=by
  intro q;rw[ee,ee]at q;have q1:((sIx items.size 0 lo:Nat):Int)=0:=eq_of_beq q.1.1;have q2:sIx items.size items.size hi-sIx items.size 0 lo=items.size:=eq_of_beq q.2;exact hw ⟨by omega,by omega⟩
 show wpAny _ _ (if(((sIx items.size 0 lo:Nat):Int)==0&&(1:Int)==1&&(sIx items.size items.size hi-sIx items.size 0 lo)==items.size)=true then _ else _) _ _ s;rw[if_neg hno,Lw]
 first
  |exact ag (m:=qm _) (ja (au ⟨_,rfl,au h⟩) htake)
  |exact ag (m:=qm _) (ja (ag (au (au ⟨_,rfl,au h⟩))) htake)
  |exact ag (ag (m:=qm _) (ja (au (au ⟨_,rfl,au h⟩)) htake))
  |exact ag (ag (m:=qm _) (ja (au ⟨_,rfl,au h⟩) htake))
end
end HT
namespace L2
open PySem PySem.Spec PyProof.Rows
abbrev TO:=St->Hp->(AK->Hp->Prop)->Prop
def PO(X:Cx)(e:Option af)(t:TO):Prop:=
 ∀(AR:List (Addr×Obj))(s:aa)(σ:St)(H:Hp)(Q:AK->Hp->Prop),aH X AR σ H s->t σ H Q->
  wpAny (model X.prog X.w) X.A (evalPart e X.env) (λu s'=>∃o H',aH X AR σ H' s'/\jd u o/\Q o H') X.xe s
def Iy:TO:=λ_ H Q=>Q none H
def X2(t:TE):TO:=λσ H Q=>t σ H λx H1=>∃i,x=.int i/\Q (some i) H1
section
variable{X:Cx}{e:af}{te:TE}{lo hi:Option af}{tl th:TO}{pos p2:ah}
theorem F3:PO X none Iy:=by
 intro AR s σ H Q I h;rw[evalPart_none];exact au ⟨none,H,I,.none,h⟩
theorem E3(h:PE X e te):PO X (some e) (X2 te):=by
 intro AR s σ H Q I hw;rw[evalPart_some];refine bF (h AR s σ H _ I hw) ?_
 rintro u s1 ⟨x,H1,I1,r1,q1⟩
 obtain⟨i,rfl,q⟩:=q1;obtain⟨t,rfl⟩:=r1;exact⟨some i,H1,I1,.int i t,q⟩
def lU(X:Cx)(r:V->AK->AK->Hp->VK->Prop):Prop:=
 ∀(AR:List (Addr×Obj))(s:aa)(σ:St)(H:Hp)(x:V)(v vl vu:Value)(lo hi:AK)(sl:Addr)(Q:VK),aH X AR σ H s->bY x v->s.heap.IsSliceOf sl vl vu .none->jd vl lo->jd vu hi->r x lo hi H Q->
  ∃T id,typeLookup (.type T) "__getitem__"=pure (some (.builtin id))/\s.TypeIs v T/\wpAny (model X.prog X.w) X.A (getItem v (.ref sl)) (EP X AR σ Q) X.xe s
theorem lU.or{r r':V->AK->AK->Hp->VK->Prop}(h:lU X r)(h':lU X r'):lU X (λx lo hi H Q=>r x lo hi H Q\/r' x lo hi H Q):=by
 intro AR s σ H x v vl vu lo hi sl Q I rx hs pl pu q;rcases q with q |q
 .exact h AR s σ H x v vl vu lo hi sl Q I rx hs pl pu q
 .exact h' AR s σ H x v vl vu lo hi sl Q I rx hs pl pu q
def tSl(r:V->AK->AK->Hp->VK->Prop)(te:TE)(tl th:TO):TE:=λσ H Q=>te σ H λx H1=>tl σ H1 λl H2=>th σ H2 λu H3=>r x l u H3 Q
theorem Ci{r:V->AK->AK->Hp->VK->Prop}(hr:lU X r)(he:PE X e te)(hl:PO X lo tl)(hu:PO X hi th):PE X (.Subscript e (.Slice lo hi none p2) pos) (tSl r te tl th):=by
 intro AR s σ H Q I h;refine Subscript_ (bF (he AR s σ H _ I h) λv s1 hq=>?_);rcases hq with⟨x,H1,I1,r1,q1⟩;refine wpAny_Slice (bF (hl AR s1 σ H1 _ I1 q1) λvl s2 ⟨l,H2,I2,pl,q2⟩=>bF (hu AR s2 σ H2 _ I2 q2) λvu s3 hq=>?_);rcases hq with⟨u,H3,I3,pu,q3⟩;rw[evalPart_none];refine au ?_;have I4:aH X AR σ H3 {s3 with heap:=s3.heap.push {cls:=.type "slice",data:=.fields #[vl,vu,.none]}}:=I3.kept (t':=s3.toks) λb ob q=>aw _ q;obtain⟨T,id,hT,ht,hg⟩:=hr AR {s3 with heap:=s3.heap.push {cls:=.type "slice",data:=.fields #[vl,vu,.none]}} σ H3 x v vl vu l u s3.heap.objs.size Q I4 r1 (Heap.IsSliceOf.new ..) pl pu q3;show wpAny (model X.prog X.w) X.A (subscriptTail e (.Slice lo hi none p2) v (.ref s3.heap.objs.size)) (EP X AR σ Q) X.xe {s3 with heap:=s3.heap.push {cls:=.type "slice",data:=.fields #[vl,vu,.none]}};exact tail_any (ops:=[.ref s3.heap.objs.size,v]) ht hT hg (by with_unfolding_all rfl)
def mV(xs:List V)(lo hi:AK):List V:=(xs.drop (HT.sIx xs.length 0 lo)).take (HT.sIx xs.length xs.length hi-HT.sIx xs.length 0 lo)
theorem sR(xs:List V)(lo hi:AK):(mV xs lo hi).length<=xs.length:=by
 unfold mV;rw[kr,jk];omega
def aaP(K:ae):V->AK->AK->Hp->VK->Prop:=λx lo hi H Q=>∃a xs,x=.ref a/\dD K H a xs/\
 ¬(HT.sIx xs.length 0 lo=0/\HT.sIx xs.length xs.length hi=xs.length)/\∀p,H p=none->Q (.ref p) (bE H p (.tup (mV xs lo hi)))
theorem O2:lU X (aaP X.K):=by
 intro AR s σ H x v vl vu lo hi sl Q I rx hs pl pu h;obtain⟨a,xs,rfl,hx,hw,q⟩:=h;cases rx;obtain⟨its,r,ht,hz⟩:=I.tuple hx;have hlen:its.toArray.size=xs.length:=by rw[ay];exact r.length.symm
 refine⟨"tuple",_,ql.lookup,ht.typeIs,?_⟩;refine HT.getItem_tuple_cut ht hs pl pu (by rw[hlen];exact hw) ?_ (by rw[hlen];exact hz);rw[hlen];refine⟨.ref s.heap.objs.size,_,I.laid (t':=s.toks) (o:=.tup (mV xs lo hi)) (λb ob q=>aw _ q) (am _) ?_,rfl,q _ (I.hok.fresh (am _))⟩;exact⟨dn (sR xs lo hi) hz,_,(r.drop (HT.sIx xs.length 0 lo)).take (HT.sIx xs.length xs.length hi-HT.sIx xs.length 0 lo),qd _ _⟩
def Sm(K:ae):R2:=λx y H Q=>∃a b xs ys,x=.ref a/\y=.ref b/\dD K H a xs/\dD K H b ys/\xs≠[]/\xs.length+ys.length<=sizeLine/\
 (ys=[]->Q (.ref a) H)/\(ys≠[]->∀p,H p=none->Q (.ref p) (bE H p (.tup (xs++ys))))
theorem bH.nil_iff{xs:List V}{us:AH}(r:bH xs us):us=[]↔xs=[]:=by
 cases r with
 |nil=>simp
 |cons _ _=>simp
theorem C6:dE X (binaryOp .Add) (Sm X.K):=by
 intro AR s σ H x y v u Q I rx ry h;obtain⟨a,b,xs,ys,rfl,rfl,ha,hb,hx,hz,q1,q2⟩:=h;cases rx;cases ry;obtain⟨its,r1,p1,_⟩:=I.tuple ha;obtain⟨its2,r2,p2,_⟩:=I.tuple hb;refine HT.cat_tup p1 p2 (λz=>hx (r1.nil_iff.mp z)) (λz=>⟨.ref a,H,I,rfl,q1 (r2.nil_iff.mp z)⟩) (λz=>?_) (by rw[<-r1.length,<-r2.length];exact hz);refine⟨.ref s.heap.objs.size,_,I.laid (t':=s.toks) (o:=.tup (xs++ys)) (λb ob q=>aw _ q) (am _) ?_,rfl,q2 (λw=>z (r2.nil_iff.mpr w)) _ (I.hok.fresh (am _))⟩;exact⟨by rw[bn];exact hz,_,r1.append r2,qd _ _⟩
end
def aS(n:Nat)(i:Int):Option Nat:=if 0<=i then(if i<n then some i.toNat else none)else if-(n:Int)<=i then some (i+n).toNat else none
def aR{α:Type}(xs:List α)(i:Int):Option α:=(aS xs.length i).bind λj=>xs[j]?
theorem Aj{n:Nat}{i:Int}{j:Nat}(h:aS n i=some j):seqIndex? i n=some j/\j<n/\-(n:Int)<=i/\i<n:=by
 unfold aS at h
 by_cases h0:0<=i
 .rw[if_pos h0]at h
  by_cases h1:i<n
  .rw[if_pos h1]at h
   have e:i.toNat=j:=cf h;exact⟨by rw[vp h0 h1,e],by omega,by omega,h1⟩
  .rw[if_neg h1]at h;cases h
 .rw[if_neg h0]at h
  by_cases h1:-(n:Int)<=i
  .rw[if_pos h1]at h
   have e:(i+n).toNat=j:=cf h;exact⟨by rw[vq (by omega) h1,e],by omega,h1,by omega⟩
  .rw[if_neg h1]at h;cases h
theorem zN{α:Type}{xs:List α}{i:Int}{v:α}(h:aR xs i=some v):∃j,seqIndex? i xs.length=some j/\xs[j]?=some v/\j<xs.length/\-(xs.length:Int)<=i/\i<xs.length:=by
 unfold aR at h;cases e:aS xs.length i with
 |none=>rw[e]at h;cases h
 |some j=>
  rw[e]at h;obtain⟨h1,h2,h3,h4⟩:=Aj e;exact⟨j,h1,h,h2,h3,h4⟩
theorem oX{α:Type}{xs:List α}{j:Nat}{v:α}(h:xs[j]?=some v):aR xs (j:Int)=some v:=by
 have hj:j<xs.length:=(db.mp h).1;have e:aS xs.length (j:Int)=some j:=by
  unfold aS;rw[if_pos (by omega),if_pos (by omega)];simp
 unfold aR;rw[e];exact h
theorem Xx{α:Type}(xs:List α)(v:α):aR (xs++[v]) (-1)=some v:=by
 have hl:(xs++[v]).length=xs.length+1:=by simp
 have e:aS (xs++[v]).length (-1)=some xs.length:=by
  unfold aS;rw[hl,if_neg (by decide),if_pos (by omega)];congr 1;omega
 unfold aR;rw[e];show(xs++[v])[xs.length]?=some v;simp
def zA(b:af):Prop:=∀o i,subscripted b false o i=operate [o,i] (getItem o i)
def lR(X:Cx)(r:R2):Prop:=
 ∀(value slice:af)(AR:List (Addr×Obj))(s:aa)(σ:St)(H:Hp)(x y:V)(v u:Value)(Q:VK),aH X AR σ H s->bY x v->bY y u->r x y H Q->
  subscripted slice false v u=operate [v,u] (getItem v u)->wpAny (model X.prog X.w) X.A (subscriptTail value slice v u) (EP X AR σ Q) X.xe s
def Vo(X:Cx)(id:String)(r:V->List V->Hp->VK->Prop):Prop:=
 ∀(AR:List (Addr×Obj))(s:aa)(σ:St)(H:Hp)(x:V)(xs:List V)(v:Value)(us:AH)(Q:VK),aH X AR σ H s->bY x v->bH xs us->r x xs H Q->
  wpAny (model X.prog X.w) X.A (call (.builtin id) (v::us)) (EP X AR σ Q) X.xe s
section
variable{X:Cx}{a b:af}{ta tb:TE}{pos:ah}
theorem lR.or{r r':R2}(h:lR X r)(h':lR X r'):lR X (λx y H Q=>r x y H Q\/r' x y H Q):=by
 intro value slice AR s σ H x y v u Q I rx ry q hs;rcases q with q |q
 .exact h value slice AR s σ H x y v u Q I rx ry q hs
 .exact h' value slice AR s σ H x y v u Q I rx ry q hs
theorem Lm{r:R2}(hr:lR X r)(ha:PE X a ta)(hb:PE X b tb)(hs:zA b):PE X (.Subscript a b pos) (wG r ta tb):=by
 intro AR s σ H Q I h;exact Subscript_ (Gb ha hb I h λv u s2 x y H2 I2 rx ry q=>hr a b AR s2 σ H2 x y v u Q I2 rx ry q (hs _ _))
def Go(K:ae):R2:=λx y H Q=>∃p xs i v,x=.ref p/\y=.int i/\cF K H p xs/\aR xs i=some v/\Q v H
def Io(K:ae):R2:=λx y H Q=>∃p xs i v,x=.ref p/\y=.int i/\dD K H p xs/\aR xs i=some v/\Q v H
def Qb:R2:=λx y H Q=>∃z i c,x=.str z/\y=.int i/\z.length<=sizeLine/\aR z.cps.toList i=some c/\Q (.str ⟨#[c]⟩) H
theorem B5:lR X (Go X.K):=by
 intro value slice AR s σ H x y v u Q I rx ry h hs;obtain⟨p,xs,i,z,rfl,rfl,hq,he,q⟩:=h;cases rx;obtain⟨t,rfl⟩:=ry;obtain⟨its,r,pl,hz⟩:=I.list hq;obtain⟨j,h1,h2,h3,h4,h5⟩:=zN he;obtain⟨w,ew,rw'⟩:=r.get h2;have hl:=r.length;have hn:=pD;have fin:EP X AR σ Q w s:=⟨z,H,I,rw',q⟩
 by_cases h0:0<=i
 .have hj:i.toNat=j:=by
   rw[vp h0 h5]at h1;exact cf h1
  exact item_listR pl.isList h0 (by omega) (by rw[hj];simpa using ew) fin hs
 .have hj:(i+(its.toArray.size:Int)).toNat=j:=by
   rw[vq (by omega) h4]at h1;rw[ay,<-hl];exact cf h1
  exact yu (x:=w) pl.isList.typeIs slot_list_getitem.lookup
   (wpAny_getItem_list_neg (Q:=λr s'=>r=w/\EP X AR σ Q r s') pl.isList (by omega) (by rw[ay]<;>omega) (by omega) (by rw[hj];simpa using ew) ⟨rfl,fin⟩) hs
theorem N5:lR X (Io X.K):=by
 intro value slice AR s σ H x y v u Q I rx ry h hs;obtain⟨p,xs,i,z,rfl,rfl,hq,he,q⟩:=h;cases rx;obtain⟨t,rfl⟩:=ry;obtain⟨its,r,pl,hz⟩:=I.tuple hq;obtain⟨j,h1,h2,h3,h4,h5⟩:=zN he;obtain⟨w,ew,rw'⟩:=r.get h2;have hl:=r.length;have hn:=pD;have fin:EP X AR σ Q w s:=⟨z,H,I,rw',q⟩;exact yu (x:=w) pl.typeIs ql.lookup
  (getItem_tuple (j:=j) (Q:=λr s'=>r=w/\EP X AR σ Q r s') pl (by omega) (by omega) (by rw[ay,<-hl];exact h1) (by simpa using ew) ⟨rfl,fin⟩) hs
theorem Yl:lR X Qb:=by
 intro value slice AR s σ H x y v u Q I rx ry h hs;obtain⟨z,i,c,rfl,rfl,hz,he,q⟩:=h;obtain⟨t,rfl⟩:=rx;obtain⟨t',rfl⟩:=ry;obtain⟨j,h1,h2,h3,h4,h5⟩:=zN he;have hl:z.cps.toList.length=z.length:=by simp[Str.length]
 rw[hl]at h1 h4 h5;have hn:=pD;exact tail_any (my s z t) slot_str_getitem.lookup (getItem_str (c:=c) (by
  have e1:decide (i< -(2^63:Int))=false:=decide_eq_false (by omega);have e2:decide (i>=2^63)=false:=decide_eq_false (by omega);rw[e1,e2,Bool.or_false]) (by rw[h1];simpa using h2) ⟨.str ⟨#[c]⟩,H,I.tok _,⟨_,rfl⟩,q⟩) hs
def Xo(K:ae):R2:=λx y H Q=>Go K x y H Q\/Io K x y H Q\/Qb x y H Q
theorem J6:lR X (Xo X.K):=B5.or (N5.or Yl)
theorem As(its:AH)(n j:Nat)(u:Value):fx (·.setIfInBounds j u) {cls:=.type "list",data:=.seq its.toArray n}={cls:=.type "list",data:=.seq (its.set j u).toArray n}:=by
 simp[fx]
theorem aH.lst{AR:List (Addr×Obj)}{σ:St}{H:Hp}{s:aa}{p:Addr}{xs:List V}(I:aH X AR σ H s)(h:H p=some (.lst xs)):
  ∃(its:AH)(n:Nat),bH xs its/\s.heap.get? p=some {cls:=.type "list",data:=.seq its.toArray n}/\xs.length<=sizeLine:=by
 obtain⟨z,its,n,r,e⟩:=I.hok p _ h;exact⟨its,n,r,e,z⟩
theorem aH.lstUpd{AR:List (Addr×Obj)}{σ:St}{H:Hp}{s:aa}{p:Addr}{xs ys:List V}{its its':AH}{n n':Nat}{f:Obj->Obj}(I:aH X AR σ H s)(h:H p=some (.lst xs))
  (ho:s.heap.get? p=some {cls:=.type "list",data:=.seq its.toArray n})(hf:f {cls:=.type "list",data:=.seq its.toArray n}={cls:=.type "list",data:=.seq its'.toArray n'})(r:bH ys its')(hz:ys.length<=sizeLine)(t:Nat):
  aH X AR σ (bE H p (.lst ys)) {s with heap:=s.heap.update p f,toks:=t}:=by
 have e:(s.heap.update p f).get? p=some {cls:=.type "list",data:=.seq its'.toArray n'}:=by
  rw[vt f ho (by rw[hf]<;>rfl),hf]
 refine I.write (x:=p) (e:=p) (by rw[h];trivial) (.inl rfl) (λb u hb q=>(vw _ _ (ig hb)).trans q) ⟨_,e⟩ ?_;exact⟨hz,its',n',r,e⟩
def W5:V->V->V->Hp->(Hp->Prop)->Prop:=λo i v H Q=>∃p xs k j,o=.ref p/\i=.int k/\H p=some (.lst xs)/\aS xs.length k=some j/\Q (bE H p (.lst (xs.set j v)))
theorem Dx:Oo X W5:=by
 intro AR s σ H o i v ov iv u Q I ro ri rv h;obtain⟨p,xs,k,j,rfl,rfl,hp,hj,q⟩:=h;cases ro;obtain⟨t,rfl⟩:=ri;obtain⟨its,n,r,ho,hz⟩:=I.lst hp;obtain⟨h1,h2,h3,h4⟩:=Aj hj;have hl:=r.length;have hn:=pD;have I':aH X AR σ (bE H p (.lst (xs.set j v))) {s with heap:=s.heap.update p (fx (·.setIfInBounds j u))}:=
  I.lstUpd hp ho (As its n j u) (r.set rv j) (by rw[fy];exact hz) s.toks
 by_cases h0:0<=k
 .have hk:k.toNat=j:=by
   rw[vp h0 h4]at h1;exact cf h1
  exact PySem.W.ki_setAt ho h0 (by omega) (by rw[ay,<-hl];exact h4) (by rw[hk];exact⟨_,I',q⟩)
 .have hk:(k+(its.toArray.size:Int)).toNat=j:=by
   rw[vq (by omega) h3]at h1;rw[ay,<-hl];exact cf h1
  exact PySem.W.ki_setBack ho (by omega) (by rw[ay,<-hl];exact h3) (by omega) (by rw[hk];exact⟨_,I',q⟩)
theorem Kq(lo hi:AK)(n:Nat):(sliceBounds lo hi none n).1=((HT.sIx n 0 lo:Nat):Int)/\(sliceBounds lo hi none n).2.1=((HT.sIx n n hi:Nat):Int)/\(sliceBounds lo hi none n).2.2=1:=by
 refine⟨?_,?_,rfl⟩
 .cases lo with
  |none=>simp[sliceBounds,HT.sIx]
  |some i=>
   simp only[sliceBounds,HT.sIx,yw,show(1:Int)>0 by decide,if_true]
   by_cases h:i<0
   .simp only[h,if_true]<;>omega
   .simp only[h,if_false]<;>omega
 .cases hi with
  |none=>simp[sliceBounds,HT.sIx]
  |some i=>
   simp only[sliceBounds,HT.sIx,yw,show(1:Int)>0 by decide,if_true]
   by_cases h:i<0
   .simp only[h,if_true]<;>omega
   .simp only[h,if_false]<;>omega
theorem Rp(its:AH)(lo hi:AK):slicePick its.toArray lo hi none=((its.drop (HT.sIx its.length 0 lo)).take (HT.sIx its.length its.length hi-HT.sIx its.length 0 lo)).toArray:=by
 obtain⟨h1,h2,h3⟩:=Kq lo hi its.toArray.size;unfold slicePick;rw[h1,h2,h3];simp only[sliceRange_one,pick_run,ay]<;>rfl
def aao(K:ae):V->AK->AK->Hp->VK->Prop:=λx lo hi H Q=>∃a xs,x=.ref a/\cF K H a xs/\∀p,H p=none->Q (.ref p) (bE H p (.lst (mV xs lo hi)))
theorem F0:lU X (aao X.K):=by
 intro AR s σ H x v vl vu lo hi sl Q I rx hs pl pu h;obtain⟨a,xs,rfl,hx,q⟩:=h;cases rx;obtain⟨its,r,ht,hz⟩:=I.list hx;have hlen:=r.length;refine⟨"list",_,slot_list_getitem.lookup,ht.isList.typeIs,?_⟩;refine wpAny_getItem_list_slice ht.isList hs pl pu .none (by simp) ?_ (by rw[ay]<;>omega);rw[Rp,<-hlen];refine⟨.ref s.heap.objs.size,_,I.laid (t':=s.toks) (o:=.lst (mV xs lo hi)) (λb ob q=>aw _ q) (am _) ?_,rfl,q _ (I.hok.fresh (am _))⟩;exact⟨dn (sR xs lo hi) hz,_,0,(r.drop (HT.sIx xs.length 0 lo)).take (HT.sIx xs.length xs.length hi-HT.sIx xs.length 0 lo),dl _ rfl⟩
theorem Lq:gW X (.builtin "len") (λxs H Q=>∃p ys,xs=[.ref p]/\(cF X.K H p ys\/dD X.K H p ys)/\Q (.int ys.length) H):=by
 intro AR s σ H xs us Q I r h;obtain⟨p,ys,rfl,hq,q⟩:=h;obtain⟨u,rfl,rx⟩:=iT r;cases rx;have hn:=pD;rcases hq with hq |hq
 .obtain⟨its,r',pl,hz⟩:=I.list hq
  have hlen:=r'.length;exact Calls.call_len_list pl.isList (by simp only[ay]<;>omega) ⟨.int ys.length,H,I.tok _,⟨s.toks+1,by rw[ay,hlen]⟩,q⟩
 .obtain⟨its,r',pl,hz⟩:=I.tuple hq
  have hlen:=r'.length;exact len_tuple pl (by simp only[ay]<;>omega) ⟨.int ys.length,H,I.tok _,⟨s.toks+1,by rw[ay,hlen]⟩,q⟩
theorem Hq:gW X (.builtin "len") (λxs H Q=>∃z,xs=[.str z]/\z.length<=sizeLine/\Q (.int z.length) H):=by
 intro AR s σ H xs us Q I r h;obtain⟨z,rfl,hz,q⟩:=h;obtain⟨u,rfl,t,rfl⟩:=iT r;have hn:=pD;exact len_str (by omega) ⟨.int z.length,H,I.tok _,⟨_,rfl⟩,q⟩
theorem Kd:gW X (.type "list") (λxs H Q=>∃p ys,xs=[.ref p]/\(cF X.K H p ys\/dD X.K H p ys)/\∀l,H l=none->Q (.ref l) (bE H l (.lst ys))):=by
 intro AR s σ H xs us Q I r h;obtain⟨p,ys,rfl,hq,q⟩:=h;obtain⟨u,rfl,rx⟩:=iT r;cases rx;have fin:∀(its:AH),bH ys its->ys.length<=sizeLine->∀(h':Heap)(c':Nat),(∀b o',s.heap.get? b=some o'->h'.get? b=some o')->
   h'.get? s.heap.objs.size=some {cls:=.type "list",dict:=none,data:=.seq its.toArray c',slots:=#[]}->EP X AR σ Q (.ref s.heap.objs.size) {s with heap:=h'}:=λits r' hz h' c' kp e=>
  ⟨.ref s.heap.objs.size,_,I.laid (t':=s.toks) kp (am _) (show eY X.prog X.w _ h' _ (.lst ys) from⟨hz,its,c',r',e⟩),rfl,q _ (I.hok.fresh (am _))⟩
 rcases hq with hq |hq
 .obtain⟨its,r',pl,hz⟩:=I.list hq
  have hlen:=r'.length;obtain⟨o,ho,hc,n,hd⟩:=pl.isList;exact call_list_seq p (.inl rfl) ho hc hd (λh' c' kp e=>fin its r' hz h' c' kp e) (by simp only[ay]<;>omega)
 .obtain⟨its,r',pl,hz⟩:=I.tuple hq
  have hlen:=r'.length;obtain⟨o,ho,hc,n,hd⟩:=pl;exact call_list_seq p (.inr rfl) ho hc hd (λh' c' kp e=>fin its r' hz h' c' kp e) (by simp only[ay]<;>omega)
theorem Xp:gW X (.type "tuple") (λxs H Q=>∃p ys,xs=[.ref p]/\((cF X.K H p ys/\∀l,H l=none->Q (.ref l) (bE H l (.tup ys)))\/(dD X.K H p ys/\Q (.ref p) H))):=by
 intro AR s σ H xs us Q I r h;obtain⟨p,ys,rfl,h⟩:=h;obtain⟨u,rfl,rx⟩:=iT r;cases rx;rcases h with⟨hq,q⟩|⟨hq,q⟩
 .obtain⟨its,r',pl,hz⟩:=I.list hq
  have hlen:=r'.length;refine call_tuple_list pl.isList (λh' kp=>?_) (by simp only[ay]<;>omega);have I1:aH X AR σ H {s with heap:=h'}:=I.kept (t':=s.toks) kp;have I2:aH X AR σ (bE H h'.objs.size (.tup ys)) {s with heap:=h'.push {cls:=.type "tuple",data:=.seq its.toArray}}:=
   I1.laid (t':=s.toks) (λb o e=>aw _ e) (am _) (show eY X.prog X.w _ _ _ (.tup ys) from⟨hz,its,r',qd _ _⟩)
  exact⟨.ref h'.objs.size,_,I2,rfl,q _ (I1.hok.fresh (am _))⟩
 .obtain⟨its,r',pl,hz⟩:=I.tuple hq
  exact call_tuple_same pl ⟨.ref p,H,I,rfl,q⟩
def Xb(K:ae)(T:String)(x:V)(H:Hp):Prop:=match x with
 |.str _=>T="str"
 |.int _=>T="int"
 |.ref p=>(T="list"/\∃xs,cF K H p xs)\/(T="tuple"/\∃o,K.lookup p=some o/\o.cls=.type "tuple"/\o.dict=none)\/
   (T="dict"/\((∃kvs,H p=some (.dK kvs))\/∃kvs,H p=some (.dT kvs)))\/(T="set"/\∃S n,H p=some (.set S n))
 |_=>False
theorem N4{AR:List (Addr×Obj)}{σ:St}{H:Hp}{s:aa}{T:String}{x:V}{v:Value}(I:aH X AR σ H s)(r:bY x v)(ty:Xb X.K T x H):
  s.TypeIs v T/\∀a,v=.ref a->∃ob,s.heap.get? a=some ob/\ob.dict=none:=by
 cases x with
 |str z=>
  obtain⟨t,rfl⟩:=r;cases(show T="str" from ty);exact⟨my s z t,λ_ e=>nomatch e⟩
 |int i=>
  obtain⟨t,rfl⟩:=r;cases(show T="int" from ty);exact⟨vz s i t,λ_ e=>nomatch e⟩
 |ref p=>
  cases r;rcases ty with⟨rfl,xs,hq⟩|⟨rfl,o,hk,hc,hd⟩|⟨rfl,hk⟩|⟨rfl,S,n,hk⟩
  .obtain⟨its,_,pl,_⟩:=I.list hq
   refine⟨pl.isList.typeIs,λa e=>?_⟩;cases e;obtain⟨o,n,e,c,hd,_⟩:=pl;exact⟨o,e,hd⟩
  .refine⟨⟨o,I.kIn p o hk,hc⟩,λa e=>?_⟩
   cases e;exact⟨o,I.kIn _ o hk,hd⟩
  .have z:∃o,s.heap.get? p=some o/\o.ExactDict:=by
    rcases hk with⟨kvs,hk⟩|⟨kvs,hk⟩
    .obtain⟨_,_,_,_,o,_,_,e,ex,_⟩:=I.hok p _ hk
     exact⟨o,e,ex⟩
    .obtain⟨_,_,_,_,o,_,_,e,ex,_⟩:=I.hok p _ hk
     exact⟨o,e,ex⟩
   obtain⟨o,e,ex⟩:=z;refine⟨⟨o,e,ex.1⟩,λa e2=>?_⟩;cases e2;exact⟨o,e,ex.2.1⟩
  .obtain⟨o,_,_,_,e,ex,_⟩:=I.hok p _ hk
   refine⟨⟨o,e,ex.1⟩,λa e2=>?_⟩;cases e2;exact⟨o,e,ex.2.1⟩
 |_=>exact fh ty
def tBM(K:ae)(T:String)(r:V->List V->Hp->VK->Prop)(to:TE)(t:TA):TE:=λσ H Q=>to σ H λx H1=>Xb K T x H1/\t σ H1 λxs H2=>r x xs H2 Q
variable{o e:af}{es:List af}{to:TE}{t:TA}{name:Str}{apos cpos:ah}{T id:String}{r:V->List V->Hp->VK->Prop}
theorem vK(pa:PlainAttrs T)(slot:Slot T name id)(hty:typeOf (.builtin id)=pure (.type "method_descriptor"))(hm:Vo X id r)(ho:PE X o to)(ha:PA X (e::es) t)
  (hbase:attributeBase o name X.env (eval o X.env)=eval o X.env:=by rfl)
  (hfew:((backTo cpos (starEach (e::es) X.env)).all (λx=>!x.1)&&(backToKw cpos (keywordEach [] X.env)).all (λx=>x.1.isSome)
   &&decide ((e::es).length+([]:List ik).length+(if([]:List ik).isEmpty then 0 else 1)<30))=true:=by rfl)
  (hline:(apos.endLine==cpos.line)=true:=by rfl)(hs:starEach (e::es) X.env=(false,eval e X.env)::starEach es X.env:=by rfl)(hplain:(backTo cpos (starEach es X.env)).any (·.1)=false:=by rfl):
  PE X (.Call (.Attribute o name apos) (e::es) [] cpos) (tBM X.K T r to t):=by
 intro AR s σ H Q I h;refine wpAny_Call_method_late hbase hfew hline rfl (bF (ho AR s σ H _ I h) λv s1 hq=>?_);rcases hq with⟨x,H1,I1,r1,ty,q1⟩;obtain⟨h1,h2⟩:=N4 I1 r1 ty;refine⟨T,id,pa,slot,hty,h1,h2,?_⟩;have hA:=ha cpos AR s1 σ H1 _ I1 q1;rw[hs]at hA⊢;refine Calls.callWith_builtin (by show(false||(backTo cpos (starEach es X.env)).any (·.1))=false;rw[hplain]<;>rfl) (yx ?_);exact bF hA λus s2 ⟨vs,H2,I2,r2,q2⟩=>hm AR s2 σ H2 x vs v us Q I2 r1 r2 q2
end
def So(X:Cx)(id:String)(r:V->List V->Hp->VK->Prop):Prop:=
 ∀(AR:List (Addr×Obj))(s:aa)(σ:St)(H:Hp)(x:V)(xs:List V)(v:Value)(us:AH)(Q:VK),aH X AR σ H s->bY x v->bH xs us->r x xs H Q->
  wpAny (model X.prog X.w) X.A (call (.builtin id) (v::us)) (EP X AR σ Q) X.xe s
theorem bH.one:∀{x:V}{us:AH},bH [x] us->∃u,us=[u]/\bY x u:=by
 rintro _ _ (_ |⟨r,_ |_⟩)
 exact⟨_,rfl,r⟩
theorem bH.eraseIdx:∀{xs:List V}{us:AH}(i:Nat),bH xs us->bH (xs.eraseIdx i) (us.eraseIdx i)
 |_,_,_,.nil=>.nil
 |_,_,0,.cons _ t=>t
 |_,_,i+1,.cons r t=>.cons r (bH.eraseIdx i t)
theorem bH.rep{xs:List V}{us:AH}(h:bH xs us):∀k:Nat,bH (bj k xs).flatten (bj k us).flatten
 |0=>.nil
 |k+1=>by
  rw[gw,gw,kv,kv];exact bH.append h (bH.rep h k)
theorem yB{α:Type}:∀(l:List α)(i:Nat),(l.eraseIdx i).length<=l.length
 |[],_=>am _
 |_::_,0=>oo _
 |_::r,i+1=>Nat.succ_le_succ (yB r i)
theorem Hf(its:AH):∀(k:Nat)(acc:AH),
  jx (λx1 x2=>x1++x2) acc.toArray (bj k its.toArray)=(acc++(bj k its).flatten).toArray
 |0,acc=>by simp
 |k+1,acc=>by
  have e:acc.toArray++its.toArray=(acc++its).toArray:=by simp
  have e2:(acc++its)++(bj k its).flatten=acc++(bj (k+1) its).flatten:=by
   rw[gw,kv,kw]
  rw[<-e2,<-Hf its k (acc++its),<-e,gw,wb]
section
variable{X:Cx}{AR:List (Addr×Obj)}{σ:St}{H:Hp}{s:aa}{l b:Addr}{xs ys zs:List V}
theorem aH.lset{its its':AH}{n:Nat}{f:Array Value->Array Value}{t':Nat}(I:aH X AR σ H s)(hH:H l=some (.lst xs))
  (e:s.heap.get? l=some {cls:=.type "list",data:=.seq its.toArray n})(hf:f its.toArray=its'.toArray)(hv:bH ys its')(hz:ys.length<=sizeLine):
  aH X AR σ (bE H l (.lst ys)) {s with heap:=s.heap.update l (fx f),toks:=t'}:=by
 have q:=PySem.IsL.update e f;rw[hf]at q;refine I.write (x:=l) (e:=l) (by rw[hH];exact trivial) (.inl rfl) (λb' u hb hu=>(vw s.heap (fx f) (ig hb)).trans hu) ⟨_,q⟩ ?_;exact⟨hz,its',_,hv,q⟩
theorem aH.lnew{its:AH}{t':Nat}(I:aH X AR σ H s)(hv:bH ys its)(hz:ys.length<=sizeLine):
  aH X AR σ (bE H s.heap.objs.size (.lst ys)) {s with heap:=s.heap.push {cls:=.type "list",data:=.seq its.toArray},toks:=t'}:=
 I.laid (λ_ _ q=>aw _ q) (am _) ⟨hz,its,0,hv,dl _ rfl⟩
theorem aH.fresh(I:aH X AR σ H s):H s.heap.objs.size=none:=I.hok.fresh (am _)
theorem aH.lstM(I:aH X AR σ H s)(hH:H l=some (.lst xs)):xs.length<=sizeLine/\∃(its:AH)(n:Nat),bH xs its/\xs.length=its.length/\s.heap.get? l=some {cls:=.type "list",data:=.seq its.toArray n}:=by
 obtain⟨z,its,n,r,e⟩:=I.hok l _ hH;exact⟨z,its,n,r,r.length,e⟩
theorem Yu{n:Nat}(h:n<=sizeLine):qo n=false:=by
 unfold qo;exact decide_eq_false (by omega)
end
section
variable{X:Cx}
def F8:V->List V->Hp->VK->Prop:=λx vs H Q=>∃l xs y,x=.ref l/\vs=[y]/\H l=some (.lst xs)/\xs.length<sizeLine/\Q .non (bE H l (.lst (xs++[y])))
theorem tJ:So X "list.append" F8:=by
 intro AR s σ H x vs v us Q I rx rv h;obtain⟨l,xs,y,rfl,rfl,hH,hz,q⟩:=h;cases rx;obtain⟨u,rfl,ru⟩:=rv.one;obtain⟨z,its,n,r,hl,e⟩:=I.lstM hH;refine kx yy ⟨_,e,rfl⟩ F.entry_list_append (F.args_list_append_2 _ _) (PySem.list_append l its.toArray n u (by rw[ay];omega)) ⟨e,?_⟩;refine⟨.non,_,I.lset (its':=its++[u]) hH e (by simp) (r.append (.cons ru .nil)) ?_,rfl,q⟩;rw[bn,je];omega
def J3:V->List V->Hp->VK->Prop:=λx vs H Q=>∃l xs i k y,x=.ref l/\vs=[.int i]/\H l=some (.lst xs)/\-(2^63)<=i/\i<2^63/\seqIndex? i xs.length=some k/\xs[k]?=some y/\Q y (bE H l (.lst (xs.eraseIdx k)))
theorem Vv:So X "list.pop" J3:=by
 intro AR s σ H x vs v us Q I rx rv h;obtain⟨l,xs,i,k,y,rfl,rfl,hH,h1,h2,hk,hy,q⟩:=h;cases rx;obtain⟨u,rfl,ru⟩:=rv.one;obtain⟨t,rfl⟩:=ru;obtain⟨z,its,n,r,hl,e⟩:=I.lstM hH;obtain⟨w,hw,rw'⟩:=r.get hy;refine kx F.slot_list_pop ⟨_,e,rfl⟩ F.entry_list_pop (F.args_list_pop_2 _ _)
  (MeetsSeq.list_pop_at l its.toArray n i t k w (fitsIndex_both h1 h2) (by rw[ay,<-hl];exact hk) (by rw[<-Array.getElem?_toList];exact hw) (by rw[ay];omega)) ⟨e,?_⟩
 refine⟨y,_,I.lset (its':=its.eraseIdx k) hH e ?_ (r.eraseIdx k) ?_,rw',q⟩
 .show its.toArray.eraseIdxIfInBounds k=(its.eraseIdx k).toArray
  rw[List.eraseIdxIfInBounds_toArray]
 .have:=yB xs k
  omega
theorem Kj{α:Type}(xs:List α)(k:Nat):(bj k xs).flatten.length=k*xs.length:=by
 induction k with
 |zero=>simp
 |succ k ih=>rw[gw,kv,bn,ih,qp,Nat.add_comm]
end
section
variable{prog:Program}{w:ao}{A:aq}{E:Value->aa->Prop}{s:aa}
end
section
variable{X:Cx}
end
end L2
namespace Att
open PySem PySem.W PySem.Calls PyProof.Rows
theorem Ip{P:lv}{h:Heap}:∀(ns:AE)(vs:AH),WellAll P h vs (ns.map WData.int)->oq vs ns:=by
 intro ns
 induction ns with
 |nil=>
  intro vs w;rw[gj]at w;cases w;exact .nil
 |cons n ns ih=>
  intro vs w;rw[cv]at w;cases w with
  |cons a b=>
   cases a;exact .cons _ _ (ih _ b)
theorem Du{l:ng}{n:Nat}(hn:l.most=some n){P:lv}{h:Heap}{args:List WData}{vals:AH}
  (hpre:l.row.toRowW.claim.pre args=true)(hwl:WellAll P h vals args):
  ∃a vs ns,vals=[dk a]/\args=[WData.list (ns.map WData.int)]/\h.get? a=some {cls:=.type "list",data:=.seq vs.toArray}/\oq vs ns/\ns.length<=n:=by
 have hsh:WShape.hasAll [] args [.list .int]=true:=(pre_splitW hpre).1;have hc:l.pre.holds [] {args:=args}=true:=(pre_splitW hpre).2;obtain⟨d,r,rfl,h1,h2⟩:=hasAllW_cons hsh;obtain rfl:=hasAllW_nil h2;obtain⟨xs,rfl,h3⟩:=hasW_list h1;obtain⟨ns,rfl⟩:=items_int h3;have hlen:ns.length<=n:=by
  unfold OpenLaw.pre at hc;have h4:(WTm.not (.lt (.lit (.int (n:Int))) (.len (.arg 0)))).holds [] {args:=[.list (ns.map .int)]}=true:=by
   have h4:=(holds_andW hc).1;rw[hn]at h4;exact h4
  have h5:=condW_of h4 (w_not (w_lt w_lit (w_len_list (w_arg rfl))));rw[ar]at h5;refine yz λq=>?_;have q':(n:Int)<((ns.length:Nat):Int):=by omega
  first
   |(rw[decide_eq_true q']at h5;exact absurd h5 (by decide))
   |(simp at h5;omega)
 cases hwl with
 |cons w1 w2=>
  cases w2;cases w1 with
  |list ho hall=>exact⟨_,_,ns,rfl,rfl,ho,Ip ns _ hall,hlen⟩
theorem Ft(l:ng)(args:List WData):l.row.toRowW.claim.post args (.bool true) args=true:=
 postW_of (r:=l.row.toRowW) (X:=(true==true))
  (show WShape.has [] (.bool true) .bool=true by first |rfl |decide |simp[WShape.has,WShape.arms,WShape.armsAll])
  (show(WTm.eq .res (.lit (.bool true))).value [] {args:=args,res:=some (.bool true),after:=args}=some (.bool (true==true)) from w_eq_bool (w_res rfl) w_lit) rfl
theorem attach_call{l:ng}{n:Nat}{q:Program}{loose:List Str}{XP:(Str->AI)->Heap->Prop}{YP:ao->Heap->Prop}{d:DefRec}
  (hn:l.most=some n)(hdf:d.params.defaults=[])
  (call:∀(w:ao)(AS AU:aa)(mg mb:Str->AI)(fa:Addr)(o:Obj)(pm cd doc:Value)(a:Addr)(vs:AH)(ns:AE),
   Ground q loose [] XP w AS mg mb AU.heap->YP w AU.heap->
   AU.heap.get? fa=some o->o.data=.func (docDef d.name d.params d.body d.scope pm cd doc)->AU.heap.CodeRec cd d.name->mg d.name=some (.ref fa)->
   AU.heap.get? a=some {cls:=.type "list",data:=.seq vs.toArray}->oq vs ns->ns.length<=n->AU.gens=#[]->
   codeAny (model l.prog w) callerA (.call (.ref fa) ⟨[.ref a],[]⟩) (λr s'=>r=.ok (.ret (.bool true))/\OldK AU.heap s'.heap/\s'.os=AU.os/\gq s'.gens) AU):
  WalkO q loose XP YP l.row.toRowW d [] (λf vs=>wd f vs):=by
 intro w AS AU mg mb G Y fa o pm cd doc dV kV ho hd hcd hD hmg hg args vals as hpre hlay hrd hwl hlo;obtain rfl:dV=.none:=Dflts.none hD hdf;obtain rfl:kV=.none:=Dflts.noKw hD;obtain⟨a,vs,ns,rfl,rfl,hobj,hints,hlen⟩:=Du hn hpre hwl;refine enter_call (ko (call w AS AU mg mb fa o pm cd doc a vs ns G Y ho (fd_plain hd) hcd hmg hobj hints hlen hg) λr s' hq=>?_);obtain⟨rfl,h2,h3,h4⟩:=hq;exact⟨.inl ⟨.bool true,.bool true,[],rfl,λ_=>rfl,.bool true,Ft l _,λ_=>⟨List.Pairwise.nil,λ_ hm=>(nomatch hm)⟩⟩,h2,h3,h4⟩
section
variable{prog:Program}{w:ao}{A:aq}{E:Value->aa->Prop}{s:aa}{K:Frag}
end
end Att
namespace L2
open PySem PySem.Spec PyProof.Rows
theorem Lf:∀{vs:AH}{ns:AE},oq vs ns->bH (ns.map V.int) vs
 |_,_,.nil=>.nil
 |_,_,.cons n t h=>.cons ⟨t,rfl⟩ (Lf h)
def Fb(H:Hp):Prop:=∀b,H b=none\/∃o xs,H b=some (.frz o (.lst xs))
theorem Hx{P:Program}{w:ao}{K:ae}{mg mb:Str->AI}{CX:iU}{k:Nat}{fa a:Addr}{fd:bh}{x:Str}{sp:Sp}{AU:aa}{vs:AH}{ns:AE}
  (KX:K.In AU.heap)(hns:AU.heap.Ns mainGlobals mg)(hb:AU.heap.Ns builtinsNs mb)(hbb:∀x:Str,x≠"__name__"->mb x=bootBuiltins x)(hlim:AU.heap.NoLimit)(hg:AU.gens=#[])
  (ha:AU.heap.get? a=some {cls:=.type "list",data:=.seq vs.toArray})(hi:oq vs ns)(hl:ns.length<=sizeLine)(hr:cU k callerA)
  (F:∀base:Heap,K.In base->base.Ns mainGlobals mg->dJ P w K mg base CX k fa fd [x] sp)(hbind:∀(s:aa)(u:Value),mn s fd ⟨[u],[]⟩ [(x,u)])
  (hsp:∀H:Hp,Fb H->cF K H a (ns.map V.int)->sp [.ref a] H (λv _=>v=.bl true) λ_ _ _=>False)
  (hCX:∀H e s',CX [] H AU (λ_ _ _=>False) e s'->False):
  codeAny (model P w) callerA (.call (.ref fa) ⟨[.ref a],[]⟩) (λr s'=>r=.ok (.ret (.bool true))/\OldK AU.heap s'.heap/\s'.os=AU.os/\gq s'.gens) AU:=by
 have rv:=Lf hi;have lenV:=hi.length
 --from an abstract heap in which nothing but the script may be tracked
 have core:∀H:Hp,Fb H->cF K H a (ns.map V.int)->eG P w H AU.heap->(∀b,H b≠none->b=a)->(H a≠none->K.lookup a=none)->
   codeAny (model P w) callerA (.call (.ref fa) ⟨[.ref a],[]⟩) (λr s'=>r=.ok (.ret (.bool true))/\OldK AU.heap s'.heap/\s'.os=AU.os/\gq s'.gens) AU:=by
  intro H hO hS hok hA hK;have base_of:∀{b:Addr}{o:Obj},AU.heap.get? b=some o->H b=none->(lN AU.heap H).get? b=some o:=λe n=>Cy e n;have noA:∀{b:Addr}{o:Obj}{es:Array DictEntry}{ep:Nat},AU.heap.get? b=some o->o.data=.dict es ep->H b=none:=λ{b o es ep} e d=>by
   cases q:H b with
   |none=>rfl
   |some u=>
    have e':b=a:=hA b (by rw[q];simp);subst e';rw[ha]at e;cases e;have d':Data.seq vs.toArray _=Data.dict es ep:=d;cases d'
  have nsK:∀{b:Addr}{m:Str->AI},AU.heap.Ns b m->(lN AU.heap H).Ns b m:=λ{b m} ⟨o,es,ep,e,d,r⟩=>⟨o,es,ep,base_of e (noA e d),d,r⟩;have hKb:K.In (lN AU.heap H):=λb o e=>base_of (KX b o e) (by
   cases q:H b with
   |none=>rfl
   |some u=>
    have e':b=a:=hA b (by rw[q];simp);subst e';rw[hK (by rw[q];simp)]at e;cases e)
  have hM:Mod K mg (lN AU.heap H):=⟨hKb,nsK hns,⟨mb,nsK hb,hbb⟩,let⟨mc,h1,h2⟩:=hlim;⟨mc,nsK h1,h2⟩⟩;have e0:wF P w K mg (lN AU.heap H) callerA [] AU H:=⟨rfl,hM,λb o e=>Oy e,we (Ut _ _),trivial,λb hb=>absurd (show b∈([]:List Addr) from hb) (by simp),hok,.of_eq hg⟩;refine ko ((F _ hKb (nsK hns)).run callerA [] AU H ⟨[.ref a],[]⟩ [.ref a] [.ref a] _ _ hr e0 (hbind AU (.ref a)) (.cons rfl .nil) (hsp H hO hS)) λr s' h=>?_;cases r with
  |error e=>exact(hCX H e s' h).elim
  |ok fl=>
   cases fl with
   |next=>exact fh h
   |brk=>exact fh h
   |cont=>exact fh h
   |ret u=>
    obtain⟨v,H',os,bare,un,hok',r',q⟩:=h;have q':v=.bl true:=q;subst q';obtain rfl:u=qa true:=r';refine⟨rfl,OldK.of_keep λb o e=>?_,os,bare⟩;cases q:H b with
    |none=>exact un.keep b o e q (by intro z;exact absurd (show b∈([]:List Addr) from z) (by simp)) (by simp)
    |some u=>
     rcases hO b with z |⟨ob,xs,z⟩
     .rw[q]at z;cases z
     .have z2:=un.frzs b ob _ z
      obtain⟨e1,_⟩:=hok b _ z;obtain⟨e2,_⟩:=hok' b _ z2;rw[e]at e1;cases e1;exact e2
 cases hk:K.lookup a with
 |some o=>
  --the script is one of the module's own objects
  have e:=KX a o hk;rw[ha]at e;cases e;refine core (λ_=>none) (λ_=>.inl rfl) (.inr ⟨_,vs.toArray,_,hk,rfl,rfl,rfl,by rw[ay,lenV];exact hl,by simpa using rv⟩) (λb u z=>by have z':(none:Option HO)=some u:=z;cases z') (λb z=>absurd rfl z) λz=>absurd rfl z
 |none=>
  refine core (λb=>if b=a then some (.frz {cls:=.type "list",data:=.seq vs.toArray} (.lst (ns.map V.int)))else none) (λb=>?_) (.inl (.inr ⟨{cls:=.type "list",data:=.seq vs.toArray},if_pos rfl⟩)) (λb u z=>?_) (λb z=>?_) λ_=>hk
  .by_cases hb:b=a
   .exact .inr ⟨_,_,if_pos hb⟩
   .exact .inl (if_neg hb)
  .by_cases hb:b=a
   .have z':=(if_pos hb).symm.trans z
    cases z';subst hb;exact⟨ha,by rw[ar];exact hl,vs,_,rv,ha⟩
   .have z':=(if_neg hb).symm.trans z
    cases z'
  .by_cases hb:b=a
   .exact hb
   .exact absurd (if_neg hb) z
theorem walk_of{l:ng}{n k:Nat}{q:Program}{loose:List Str}{XP:(Str->AI)->Heap->Prop}{YP:ao->Heap->Prop}{d:DefRec}{K:lv->ae}{CX:ao->iU}{sp:ao->Sp}{x:Str}
  (hn:l.most=some n)(hn2:n<=sizeLine)(hdf:d.params.defaults=[])(hr:cU k callerA)
  (hY:∀(w:ao)(h:Heap),YP w h->(K w.params).In h)
  (F:∀(w:ao)(mg:Str->AI)(fa:Addr)(h:Heap),(K w.params).In h->h.Ns mainGlobals mg->mg d.name=some (.ref fa)->
   ∃fd:bh,(∀(s:aa)(u:Value),mn s fd ⟨[u],[]⟩ [(x,u)])/\
    ∀base:Heap,(K w.params).In base->base.Ns mainGlobals mg->dJ l.prog w (K w.params) mg base (CX w) k fa fd [x] (sp w))
  (hsp:∀(w:ao)(H:Hp)(a:Addr)(ns:AE),ns.length<=n->Fb H->cF (K w.params) H a (ns.map V.int)->sp w [.ref a] H (λv _=>v=.bl true) λ_ _ _=>False)
  (hCX:∀(w:ao)(H:Hp)(s:aa)(e:Value)(s':aa),CX w [] H s (λ_ _ _=>False) e s'->False):
  PySem.W.WalkO q loose XP YP l.row.toRowW d [] (λf vs=>wd f vs):=by
 refine Att.attach_call hn hdf λw AS AU mg mb fa o pm cd doc a vs ns G Y ho hd hcd hmg hobj hints hlen hg=>?_;have KX:=hY w _ Y;obtain⟨fd,hb,hF⟩:=F w mg fa _ KX G.T.g hmg;exact Hx KX G.T.g G.T.b G.T.builtins G.T.nolimit hg hobj hints (dn hlen hn2) hr hF hb (λH hO hS=>hsp w H a ns hlen hO hS) λH e s'=>hCX w H AU e s'
abbrev fR:iU:=λ_ _ _ _ _ _=>False
abbrev E0:XK:=λ_ _ _=>False
theorem Xa{X:Cx}:iZ fR X E0:=λ_ _ _ _ _ _ _ h=>h.elim
structure iX(K:ae)(x qual:Str)(st:Stmt)(f:Addr)(fd:bh):Prop where
 ex:∃(oc:Value)(od:AJ)(kV doc pm:Value)(an:AJ)(cdv ct:Value)(osl:Array AI),
  fd=dj x qual (fW st) (dZ st) (cN st) .none kV doc pm an cdv ct/\K.lookup f=some ⟨oc,od,.func fd,osl⟩/\jc K cdv qual=true
 kp:de K (.ref f)=true
section
variable{P:Program}{w:ao}{K:ae}{mg:Str->AI}{base:Heap}
theorem iX.ok{x qual:Str}{st:Stmt}{f:Addr}{fd:bh}{N ps:List Str}{k:Nat}{sp:Sp}(F:iX K x qual st f fd)(S:iY N ps (cN st))(len:∀vs H Q E,sp vs H Q E->vs.length=ps.length)
  (hbody:∀(cdv:Value)(A:aq)(outer:List az)(s:aa)(H:Hp)(vs:List V)(Q:VK)(E:XK),cU k (A.deeper (envOfC qual (cN st) s.heap.objs.size f cdv))->sp vs H Q E->
   ∃t,eO (aT fR P w K mg base N qual (cN st) f cdv A outer s H E).nox (dZ st) t/\t {nx:=λ_ H'=>Q .non H',rt:=Q} (start N vs) H):dJ P w K mg base fR (k+1) f fd ps sp:=by
 obtain⟨oc,od,kV,doc,pm,an,cdv,ct,osl,rfl,lk,hcd⟩:=F.ex;refine Bb lk hcd S len λA outer s H vs Q E hr hsp=>?_;obtain⟨t,h,q⟩:=hbody cdv A outer s H vs Q E hr hsp;exact⟨t,h.nox,q⟩
theorem iX.binds{x qual:Str}{st:Stmt}{f:Addr}{fd:bh}{ps:List Str}(F:iX K x qual st f fd)
  (h:∀(kV doc pm:Value)(an:AJ)(cdv ct:Value)(us:AH),us.length=ps.length->bindArgs (dj x qual (fW st) (dZ st) (cN st) .none kV doc pm an cdv ct) ⟨us,[]⟩=pure (ps.zip us)):fO K fd ps []:=by
 obtain⟨oc,od,kV,doc,pm,an,cdv,ct,osl,rfl,lk,hcd⟩:=F.ex;exact .all (h kV doc pm an cdv ct)
theorem Pk{x qual:Str}{st:Stmt}{f:Addr}{oc:Value}{od an:AJ}{osl:Array AI}{kV doc pm cdv ct:Value}(l:K.lookup f=some ⟨oc,od,.func (dj x qual (fW st) (dZ st) (cN st) .none kV doc pm an cdv ct),osl⟩)
  (c:jc K cdv qual=true)(k:de K (.ref f)=true):iX K x qual st f (dj x qual (fW st) (dZ st) (cN st) .none kV doc pm an cdv ct):=⟨⟨oc,od,kV,doc,pm,an,cdv,ct,osl,rfl,l,c⟩,k⟩
end
section
variable{X:Cx}
theorem pv(i:Nat){x:Str}{pos:ah}(hN:X.N[i]?=some x:=by rfl)(hv:wH X.env.scope x:=by first |exact gm rfl |exact il (gm rfl) |exact il (il rfl))(hd:(x==("__debug__":Str))=false:=by decide)
  (hcd:(x==("__classdict__":Str))=false:=by decide):PE X (.Name x pos) (Rn i):=Yk hN hv hd hcd
end
theorem aaG{A B:Prop}(h:A):if true=true then A else B:=by
 rw[if_pos rfl];exact h
def cK(H H':Hp):Prop:=∀b o,H b=some o->H' b=some o
theorem cK.refl(H:Hp):cK H H:=λ_ _ h=>h
end L2
namespace Bn
def Bd(k:Nat)(i:Int):Prop:=i.natAbs<2^k
theorem Bd.mono{j k:Nat}{i:Int}(h:Bd j i)(l:j<=k):Bd k i:=br h (ot (by decide) l)
theorem Bd.mul{j k:Nat}{a b:Int}(h:Bd j a)(g:Bd k b):Bd (j+k) (a*b):=by
 unfold Bd at *;rw[za,Nat.pow_add];exact Nat.mul_lt_mul'' h g
theorem Bd.add{k:Nat}{a b:Int}(h:Bd k a)(g:Bd k b):Bd (k+1) (a+b):=by
 unfold Bd at *;rw[wg];have:=Int.natAbs_add_le a b;omega
theorem Bd.neg{k:Nat}{a:Int}(h:Bd k a):Bd k (-a):=by
 unfold Bd at *;rw[Int.natAbs_neg];exact h
theorem Bd.sub{k:Nat}{a b:Int}(h:Bd k a)(g:Bd k b):Bd (k+1) (a-b):=by
 rw[Int.sub_eq_add_neg];exact h.add g.neg
theorem Bd.le{k:Nat}{a b:Int}(h:Bd k b)(l:a.natAbs<=b.natAbs):Bd k a:=ou l h
theorem Bd.of{k n:Nat}{a:Int}(l:a.natAbs<=n)(h:n<2^k):Bd k a:=ou l h
theorem Bd.log{k:Nat}{a:Int}(h:Bd k a)(hk:0<k):a.natAbs.log2<k:=by
 rcases zb a.natAbs with z |z
 .rw[z]
  exact ou (we (by decide)) hk
 .exact(wj (og z)).mpr h
theorem Tf(a:Int){b:Int}(h:b≠0):(a.fmod b).natAbs<b.natAbs:=by
 rw[Int.fmod_eq_emod];have h1:=Int.emod_nonneg a h;have h2:a%b<(b.natAbs:Int):=Int.emod_lt a h
 by_cases c:0<=b\/b∣a
 .rw[if_pos c]
  omega
 .rw[if_neg c]
  have hb:b<0:=by omega
  have h3:a%b≠0:=λz=>c (.inr (Int.dvd_of_emod_eq_zero z));have h4:b.natAbs=(-b).toNat:=by omega
  omega
theorem Ei(a b:Int):bi b (a.fmod b)=bi a b:=by
 rw[Int.fmod_def,ow,Int.gcd_sub_mul_right_right,Int.gcd_comm]
theorem Fa(x:Int):(if x<0 then-x else x)=(x.natAbs:Int):=by
 split<;>omega
def gl:AE->Int->Int
 |[],g=>g
 |n::r,g=>gl r (bi g n:Nat)
def low(ns:AE):AE:=if gl ns 0=0 then ns else ns.map (· /gl ns 0)
theorem Um:∀(ns:AE)(g:Int),0<=g->0<=gl ns g
 |[],_,h=>h
 |_::r,_,_=>Um r _ (zd _)
theorem Hm(k:Int):∀(ns:AE)(g:Int),0<=g->gl (ns.map (k*·)) ((k.natAbs:Int)*g)=(k.natAbs:Int)*gl ns g
 |[],_,_=>rfl
 |n::r,g,h=>by
  show gl (r.map (k*·)) ((bi ((k.natAbs:Int)*g) (k*n):Nat):Int)=(k.natAbs:Int)*gl r _;have e:((bi ((k.natAbs:Int)*g) (k*n):Nat):Int)=(k.natAbs:Int)*((bi g n:Nat):Int):=by
   rcases Int.natAbs_eq k with q |q
   .rw[<-q,ze]
    have:(k.natAbs:Int)=k:=q.symm
    push_cast
    rw[this]
   .have e2:k*n=(k.natAbs:Int)*(-n):=by rw[qq,<-wk,<-q]
    rw[e2,ze,Int.gcd_neg]
    push_cast
    simp
  rw[e];exact Hm k r _ (zd _)
theorem yU(k:Int)(ns:AE):gl (ns.map (k*·)) 0=(k.natAbs:Int)*gl ns 0:=by
 have:=Hm k ns 0 (wl 0)
 rwa[wm]at this
theorem Og{k:Int}(h:0<k)(ns:AE):gl ns 0≠0->low (ns.map (k*·))=low ns:=λz=>by
 have hk:(k.natAbs:Int)=k:=by omega
 have e:=yU k ns;rw[hk]at e;have nz:k*gl ns 0≠0:=zf (by omega) z;unfold low;rw[e,if_neg nz,if_neg z,du];refine im λn _=>?_;show k*n/(k*gl ns 0)=n/gl ns 0;exact Int.mul_ediv_mul_of_pos _ _ h
theorem kJ:∀(ns:AE)(g:Int),gl ns g∣g/\∀n∈ns,gl ns g∣n
 |[],g=>⟨Int.dvd_refl g,λ_ h=>nomatch h⟩
 |m::r,g=>by
  obtain⟨h1,h2⟩:=kJ r ((bi g m:Nat):Int);refine⟨Int.dvd_trans h1 (zg ..),λn hn=>?_⟩;rcases cu.mp hn with q |q
  .subst q
   exact Int.dvd_trans h1 (zh ..)
  .exact h2 n q
theorem D8{ns:AE}(h:gl ns 0=0):∀n∈ns,n=0:=λn hn=>by
 have:=(kJ ns 0).2 n hn;rw[h]at this;exact Int.zero_dvd.mp this
theorem vB{ns:AE}{n:Int}(hn:n∈ns)(h:n≠0):gl ns 0≠0:=λz=>h (D8 z n hn)
theorem uH{ns:AE}{n:Int}(hn:n∈ns)(h:n≠0):0<gl ns 0:=by
 have h1:=Um ns 0 (wl 0);have h2:=vB hn h;omega
theorem uO{ns:AE}{n:Int}(hn:n∈ns)(h:n≠0):low ns=ns.map (· /gl ns 0):=by
 unfold low;rw[if_neg (vB hn h)]
theorem Bd.gcd{k:Nat}{a b:Int}(h:Bd k a)(g:Bd k b):Bd k (bi a b:Nat):=by
 unfold Bd at *;rw[zi];rcases zb a.natAbs with z |z
 .have:a=0:=by omega
  subst this;rw[wn];exact g
 .exact ou (Nat.gcd_le_left _ z) h
theorem uY{k:Nat}:∀{ns:AE}{g:Int},Bd k g->(∀n∈ns,Bd k n)->Bd k (gl ns g)
 |[],_,h,_=>h
 |n::r,g,h,hn=>by
  show Bd k (gl r _);exact uY (ns:=r) (h.gcd (hn n bc)) λm hm=>hn m (bp _ hm)
theorem M0{k:Nat}{ns:AE}(h:∀n∈ns,Bd k n):∀n∈low ns,Bd k n:=λn hn=>by
 unfold low at hn
 by_cases c:gl ns 0=0
 .rw[if_pos c]at hn
  exact h n hn
 .rw[if_neg c]at hn
  obtain⟨m,hm,rfl⟩:=da.mp hn;refine(h m hm).le ?_;have d:=(kJ ns 0).2 m hm;obtain⟨q,e⟩:=d;rw[e,ky _ c,za];exact Nat.le_mul_of_pos_left _ (by omega)
def fr(t b:Int):AE:=if b<0 then low [0-t,0-b] else low [t,b]
theorem mW(a b:Int):b∈[a,b]:=bp _ bc
theorem Km{t b:Int}(h:b≠0):∃p q:Int,fr t b=[p,q]/\0<q/\p*b=t*q:=by
 have go:∀{t b:Int},0<b->∃p q:Int,low [t,b]=[p,q]/\0<q/\p*b=t*q:=λ{t b} hb=>by
  have nz:b≠0:=by omega
  have gp:=uH (mW t b) nz;refine⟨t/gl [t,b] 0,b/gl [t,b] 0,uO (mW t b) nz,?_,?_⟩
  .obtain⟨m,e⟩:=(kJ [t,b] 0).2 b (mW t b)
   have:b/gl [t,b] 0=m:=by
    conv=>lhs;lhs;rw[e]
    exact ky _ (by omega)
   rw[this];have hm:0<m*gl [t,b] 0:=by rw[ow,<-e];exact hb
   exact zj hm gp
  .obtain⟨m,e⟩:=(kJ [t,b] 0).2 b (mW t b)
   obtain⟨n,f⟩:=(kJ [t,b] 0).2 t bc;have e1:b/gl [t,b] 0=m:=by
    conv=>lhs;lhs;rw[e]
    exact ky _ (by omega)
   have e2:t/gl [t,b] 0=n:=by
    conv=>lhs;lhs;rw[f]
    exact ky _ (by omega)
   rw[e1,e2]
   conv=>lhs;rhs;rw[e]
   conv=>rhs;lhs;rw[f]
   rw[Int.mul_left_comm,Int.mul_assoc]
 unfold fr
 by_cases c:b<0
 .rw[if_pos c]
  obtain⟨p,q,e1,e2,e3⟩:=go (t:=0-t) (b:=0-b) (by omega);refine⟨p,q,e1,e2,?_⟩;rw[jm,jm,qq,wk]at e3;omega
 .rw[if_neg c]
  exact go (by omega)
def sg(n:Int):Int:=if 0<n then 1 else if n<0 then-1 else 0
theorem Gh{b:Int}(h:b≠0):(0<b/\sg b=1)\/(b<0/\sg b=-1):=by
 unfold sg
 by_cases c:0<b
 .exact .inl ⟨c,if_pos c⟩
 .have d:b<0:=by omega
  exact .inr ⟨d,by rw[if_neg c,if_pos d]⟩
theorem Xv(b:Int):-(2^64)<sg b/\sg b<2^64:=by
 unfold sg;split
 .decide
 .split<;>decide
theorem uU(t b:Int):gl [t,b] 0=(bi t b:Nat):=by
 show((bi ((bi 0 t:Nat):Int) b:Nat):Int)=_;rw[wn];congr 1
theorem Qe{g n:Int}(h:g≠0):(g*n).fdiv g=n:=by
 rw[nh ⟨n,rfl⟩,ky _ h]
theorem Kc{g n:Int}(h:g≠0):(g*n).fdiv (-1*g)=-n:=by
 have e:g*n=(-1*g)*(-n):=by
  rw[wk,io,Int.neg_mul_neg]
 rw[e];exact Qe (by omega)
theorem Yt{t b:Int}(h:b≠0):[t.fdiv (sg b*(bi t b:Nat)),b.fdiv (sg b*(bi t b:Nat))]=fr t b:=by
 have gp:=uH (mW t b) h;rw[uU]at gp;have gn:((bi t b:Nat):Int)≠0:=by omega
 obtain⟨n,en⟩:=zg (a:=t) (b:=b);obtain⟨m,em⟩:=zh (a:=t) (b:=b);have ht:t=((bi t b:Nat):Int)*n:=en;have hb:b=((bi t b:Nat):Int)*m:=em;generalize hg:((bi t b:Nat):Int)=g at *;rcases Gh h with⟨c,s⟩|⟨c,s⟩
 .rw[s,io]
  have e1:fr t b=[t/g,b/g]:=by
   unfold fr;rw[if_neg (by omega),uO (mW t b) h,uU,hg];rfl
  have e2:t.fdiv g=t/g:=nh ⟨n,ht⟩;have e3:b.fdiv g=b/g:=nh ⟨m,hb⟩;rw[e1,e2,e3]
 .rw[s]
  have e1:fr t b=[(0-t)/g,(0-b)/g]:=by
   unfold fr;rw[if_pos c,uO (mW (0-t) (0-b)) (by omega),uU,jm,jm,Int.neg_gcd,Int.gcd_neg,hg];rfl
  have e2:t.fdiv (-1*g)=-n:=by
   conv=>lhs;lhs;rw[ht]
   exact Kc gn
  have e3:b.fdiv (-1*g)=-m:=by
   conv=>lhs;lhs;rw[hb]
   exact Kc gn
  have e4:(0-t)/g=-n:=by
   rw[ht,jm,<-qq,ky _ gn]
  have e5:(0-b)/g=-m:=by
   rw[hb,jm,<-qq,ky _ gn]
  rw[e1,e2,e3,e4,e5]
theorem Lj(n:Int):∀(l:AE)(g:Int),gl (l++[n]) g=(bi (gl l g) n:Nat)
 |[],g=>rfl
 |m::r,g=>Lj n r _
theorem Kw{k m:Int}(hk:0<k)(hm:0<m){A B:AE}(hA:gl A 0≠0)(e:A.map (k*·)=B.map (m*·)):low A=low B:=by
 have hB:gl B 0≠0:=λz=>by
  have h:=yU k A;rw[e,yU m B,z,wm]at h;have:(k.natAbs:Int)*gl A 0≠0:=zf (by omega) hA;exact this h.symm
 rw[<-Og hk A hA,e,Og hm B hB]
theorem Sl(b:Int):∀(ns:AE)(g:Int),gl ns (bi g b:Nat)=(bi (gl ns g) b:Nat)
 |[],_=>rfl
 |n::r,g=>by
  show gl r ((bi ((bi g b:Nat):Int) n:Nat):Int)=((bi (gl r _) b:Nat):Int);rw[<-Sl b r,Int.gcd_assoc,Int.gcd_comm b n,<-Int.gcd_assoc]
theorem zK{ns:AE}{b:Int}(hb:0<b):gl (ns++[b]) 0=gl ns b:=by
 rw[Lj,<-Sl,wn];congr 1;omega
theorem nF(ns:AE)(b:Int):b∈ns++[b]:=cq _ bc
theorem J4{ns:AE}{b:Int}(hb:0<b):low (ns++[b])=(ns.map λn=>n.fdiv (gl ns b))++[b.fdiv (gl ns b)]/\0<gl ns b:=by
 have gp:=uH (nF ns b) (by omega);rw[zK hb]at gp;refine⟨?_,gp⟩;rw[uO (nF ns b) (by omega),zK hb,kz];have e:∀n:Int,n/gl ns b=n.fdiv (gl ns b):=λn=>(wo n (ox gp)).symm;simp only[e,cv,gj]
theorem Al(ns:AE){b:Int}(hb:0<b):∃(zs:AE)(z g:Int),low (ns++[b])=zs++[z]/\0<g/\0<z/\ns=zs.map (g*·)/\b=g*z/\zs.length=ns.length:=by
 obtain⟨e,gp⟩:=J4 (ns:=ns) hb;have dv:=kJ (ns++[b]) 0;rw[zK hb]at dv;have ex:∀n∈ns++[b],gl ns b*n.fdiv (gl ns b)=n:=λn hn=>by
  obtain⟨q,e⟩:=dv.2 n hn
  conv=>lhs;rhs;rw[e]
  rw[Qe (by omega)];exact e.symm
 refine⟨_,_,gl ns b,e,gp,?_,?_,(ex b (nF ns b)).symm,ar _⟩
 .have h:=ex b (nF ns b)
  have:0<b.fdiv (gl ns b)*gl ns b:=by rw[ow,h];exact hb
  exact zj this gp
 .rw[du]
  conv=>lhs;rw[<-jy ns]
  refine im λn hn=>?_;exact(ex n (jr _ hn)).symm
theorem A9(ns:AE){b:Int}(hb:0<b):low (low (ns++[b]))=low (ns++[b]):=by
 obtain⟨zs,z,g,e,hg,hz,e1,e2,_⟩:=Al ns hb;rw[e];refine Kw (k:=g) (m:=1) hg (by decide) (vB (nF zs z) (by omega)) ?_ |>.trans e;rw[kz,<-e1];show ns++[g*z]=(ns++[b]).map (1*·);rw[<-e2]
 conv=>lhs;rw[<-jy (ns++[b])]
 refine im λn _=>?_;exact(io n).symm
def sm(xs:AE)(w:Int)(ys:AE)(v:Int):AE:=dm (λx y=>x*v+y*w) xs ys
end Bn
namespace L2
open PySem PySem.Spec PyProof.Rows Bn
section
variable{X:Cx}
theorem Mj{k:Nat}{i:Int}(h:Bd k i):zk i<=k:=by
 unfold zk;split
 .exact ia _
 .rename_i c
  have z:i.natAbs≠0:=by
   intro q;have:i=0:=by omega
   subst this;exact c rfl
  have:=(wj z).mpr h;omega
def nQ(_ j:Int):Prop:=j≠0/\Bd 8000 j
theorem Wx:dE X (binaryOp .FloorDiv) (rI nQ λi j=>.int (i.fdiv j)):=
 wN λ_ _ _ _ _ _ _ hc q=>floordiv_int hc.1 q (.inl (PyProof.noPylong_of_log2 (wp (hc.2.log (by decide)) (by decide))))
theorem PS.imp{st:Stmt}{t t':TS}(h:PS X st t)(i:∀D σ H,t' D σ H->t D σ H):PS X st t':=λAR s σ H D I q=>h AR s σ H D I (i D σ H q)
theorem eO.imp{st:List Stmt}{t t':TS}(h:eO X st t)(i:∀D σ H,t' D σ H->t D σ H):eO X st t':=λAR s σ H D I q=>h AR s σ H D I (i D σ H q)
theorem PE.imp{e:af}{t t':TE}(h:PE X e t)(i:∀σ H Q,t' σ H Q->t σ H Q):PE X e t':=λAR s σ H Q I q=>h AR s σ H Q I (i σ H Q q)
theorem PT.imp{e:af}{t t':TT}(h:PT X e t)(i:∀σ H Q,t' σ H Q->t σ H Q):PT X e t':=λAR s σ H Q I q=>h AR s σ H Q I (i σ H Q q)
theorem aH.turnedNew{AR:List (Addr×Obj)}{σ:St}{H:Hp}{s:aa}{h':Heap}{t':Nat}{ch:List Addr}{a:Addr}{o:HO}(I:aH X AR σ H s)(hf:∀b∈ch,eN X AR H b)
  (k:∀b u,b∉ch->s.heap.get? b=some u->h'.get? b=some u)(hp:s.heap.objs.size<=a)(new:eY X.prog X.w (bE H a o) h' a o):
  aH X AR σ (bE H a o) {s with heap:=h',toks:=t'}:=by
 have hn:H a=none:=I.hok.fresh hp;have nch:∀b u,H b=some u->b∉ch:=λb u e z=>by
  rw[(hf b z).1]at e;cases e
 have nea:∀b u,H b=some u->b≠a:=λb u e=>fU e hn;refine I.step (g':=s.gens) (d':=s.drawn) (ch:=ch) (λb hb=>?_) (λb u _ _ hc e _=>k b u hc e) (λb u _ _ hc e _=>⟨u.slots,k b u hc e⟩) (λb u _ e n=>?_)
  (λb u hc e=>⟨u,k b u hc e⟩) (λb xs e=>?_) (λb u v e=>?_) (λb ps e=>⟨#[],?_⟩) (λm hm=>?_) (λb u e=>?_) I.bare
 .obtain⟨_,f1,_,f3,f4,f5⟩:=hf b hb
  exact⟨f3,f1,f4,f5⟩
 .rw[cQ (ck (br (ax e) hp))]
  exact n
 .rw[cQ (nea b _ e)]
  exact e
 .rw[cQ (nea b _ e)]
  exact e
 .rw[cQ (nea b _ e),e]
  simp
 .obtain⟨ob,es,ep,ho,r⟩:=hm
  exact⟨ob,es,ep,k _ ob (λz=>(hf _ z).2.1 rfl) ho,r⟩
 .by_cases hb:b=a
  .subst hb
   rw[iL]at e;cases e;exact new
  .rw[cQ hb]at e
   refine(I.hok b u e).stay (λc v hc q=>k c v ?_ q) (λc q=>?_) λc xs q=>?_
   .rcases hc with z |z
    .rw[z]
     exact nch b u e
    .exact nch c _ z
   .rw[cQ (nea c _ q)]
    exact q
   .rw[cQ (nea c _ q)]
    exact q
theorem aH.turnedL{AR:List (Addr×Obj)}{σ:St}{H:Hp}{s:aa}{h':Heap}{t':Nat}{ch:List Addr}(I:aH X AR σ H s)(hf:∀b∈ch,eN X AR H b)
  (k:∀b u,b∉ch->s.heap.get? b=some u->h'.get? b=some u):aH X AR σ H {s with heap:=h',toks:=t'}:=by
 have nch:∀b u,H b=some u->b∉ch:=λb u e z=>by
  rw[(hf b z).1]at e;cases e
 refine I.step (g':=s.gens) (d':=s.drawn) (ch:=ch) (λb hb=>?_) (λb u _ _ hc e _=>k b u hc e) (λb u _ _ hc e _=>⟨u.slots,k b u hc e⟩) (λb u _ e n=>n)
  (λb u hc e=>⟨u,k b u hc e⟩) (λb xs e=>e) (λb u v e=>e) (λb ps e=>⟨#[],?_⟩) (λm hm=>?_) (λb u e=>?_) I.bare
 .obtain⟨_,f1,_,f3,f4,f5⟩:=hf b hb
  exact⟨f3,f1,f4,f5⟩
 .rw[e]
  simp
 .obtain⟨ob,es,ep,ho,r⟩:=hm
  exact⟨ob,es,ep,k _ ob (λz=>(hf _ z).2.1 rfl) ho,r⟩
 .refine(I.hok b u e).stay (λc v hc q=>k c v ?_ q) (λc q=>q) λc xs q=>q
  rcases hc with z |z
  .rw[z]
   exact nch b u e
  .exact nch c _ z
end
def Sb (K : ae) (a : Addr) : It :=
  ⟨λi H => ∃ xs x, cF K H a xs ∧ xs[i]? = some x,
   λi H x H' => ∃ p y, H p = none ∧ x = .ref p ∧ H' = bE H p (.tup [.int i, y]) ∧ ∀ xs, cF K H a xs → xs[i]? = some y,
   λi H => ∃ xs, cF K H a xs ∧ xs.length ≤ i⟩
theorem Qt{P:Program}{w:ao}{K:ae}{elts:List af}{x1:Nat}{tp:ah}(a e it:Addr)(hne:e≠it):
  nU P w K (.Tuple elts x1 tp) (Sb K a) [e,it] e (λi h=>(∃old,IsEnum h e it (i:Int) old)/\h.IsListIter it a i) where
 mem:=by simp
 obj:=λi h st b hb=>by
  obtain⟨⟨old,q⟩,o,e1,c,d⟩:=st;rcases cu.mp hb with z |z
  .subst z
   exact⟨_,q,λv z=>nomatch z⟩
  .have z':b=it:=by simpa using z
   subst z';exact⟨o,e1,λv z=>by rw[d]at z;cases z⟩
 keep:=λi h h' st k=>⟨let⟨old,q⟩:=st.1;⟨old,k e (by simp) _ q⟩,st.2.at λo q=>k it (by simp) o q⟩
 item:=by
  intro X hP hw hK hc i AR s σ H E I hf st hg;subst hP hw hK;obtain⟨xs,x,hq,hx⟩:=hg;obtain⟨its,rv,pl,hz⟩:=I.list hq;obtain⟨u,hu,ru⟩:=rv.get hx;obtain⟨⟨old,he⟩,hit⟩:=st;refine wpAny_pyNext_enum_item he hit pl.isList (x:=u) (by simpa using hu) hne λh1 ho1 hit1 ht1 hs1 hk1=>⟨_,rfl,?_⟩;have lt1:e<s.heap.objs.size:=ax he;refine wpAny_letOwnedTupleGo_enum (s:={s with heap:=h1,toks:=s.toks+1}) ho1 λh2 he2 sb2=>?_;have ht2:h2.get? s.heap.objs.size=some {cls:=.type "tuple",data:=.seq #[.int i s.toks,u]}:=(sb2.2 _ (og lt1)).trans ht1;have I2:aH X AR σ (bE H s.heap.objs.size (.tup [.int i,x])) {s with heap:=h2,toks:=s.toks+1}:=
   I.turnedNew hf (λb o hb q=>(sb2.2 b (λz=>hb (by simp[z]))).trans (hk1 b o (λz=>hb (by simp[z])) (λz=>hb (by simp[z])) q)) (am _)
    ⟨by show 2<=sizeLine;decide,[.int i s.toks,u],.cons ⟨_,rfl⟩ (.cons ru .nil),⟨_,ht2,rfl,_,rfl⟩⟩
  refine⟨.ref s.heap.objs.size,_,I2,rfl,⟨_,x,I.hok.fresh (am _),rfl,rfl,λys hy=>by rw[I.list_inj hy hq];exact hx⟩,⟨⟨_,by simpa using he2⟩,hit1.at λo q=>(sb2.2 it hne.symm).trans q⟩,λb hb=>?_⟩;have hb':=(hf b hb).1;have lt:b≠s.heap.objs.size:=by
   rcases cu.mp hb with z |z
   .subst z
    exact ck lt1
   .have z':b=it:=by simpa using z
    subst z';obtain⟨o,q,_⟩:=hit;exact ck (ax q)
  rw[cQ lt];exact hb'
 done:=by
  intro X hP hw hK hc i AR s σ H E I hf st hg;subst hP hw hK;obtain⟨xs,hq,hx⟩:=hg;obtain⟨its,rv,pl,hz⟩:=I.list hq;obtain⟨⟨old,he⟩,hit⟩:=st;have hl:=rv.length;exact wpAny_pyNext_enum_end (I.ok.hd hc) he hit pl.isList (by simp;omega) λh' eb=>⟨rfl,I.turnedL (t':=s.toks) hf λb o hb q=>eb b o (λz=>hb (by simp[z])) q⟩
 self:=λ_ _ _ _ _ st h=>let⟨_,q⟩:=st.1;wpAny_pyIter_enum q h
section
variable{X:Cx}{elts:List af}{x1:Nat}{tp:ah}
def Z6(K:ae)(tl:TA):TI:=λσ H R=>tl σ H λvs H1=>∃a,vs=[.ref a]/\(∃xs,cF K H1 a xs)/\R (Sb K a) H1
theorem G6{l:af}{tl:TA}{p pos:ah}(hg:Gl X "enumerate")(hm:X.mg "enumerate"=none)(hl:PA X [l] tl)(hs:starEach [l] X.env=[(false,eval l X.env)]:=by rfl):
  PI X (.Tuple elts x1 tp) (.Call (.Name "enumerate" p) [l] [] pos) (Z6 X.K tl):=by
 intro AR s σ H R I h;refine Call_ (oY I hg hm boot_enumerate (qg (bF (hl pos AR s σ H _ I h) λus s1 hq=>?_) hs rfl));rcases hq with⟨vs,H1,I1,r1,q1⟩;obtain⟨a,rfl,⟨xs,hq⟩,q⟩:=q1;obtain⟨u,rfl,ru⟩:=iT r1;cases ru;obtain⟨its,rv,pl,hz⟩:=I1.list hq;refine call_enumerate_list pl.isList λh' he hit hsz k=>?_;have I2:aH X AR σ H1 {s1 with heap:=h'}:=I1.kept (t':=s1.toks) k;refine wpAny_pyIter_enum (s:={s1 with heap:=h'}) he ?_;refine⟨s1.heap.objs.size+1,[s1.heap.objs.size+1,s1.heap.objs.size],_,_,H1,rfl,I2,Qt a _ _ (Nat.succ_ne_self _),⟨⟨_,he⟩,hit⟩,λb hb=>?_,q⟩;have hb':s1.heap.objs.size<=b:=by
  rcases cu.mp hb with z |z
  .rw[z]
   exact oo _
  .have z':b=s1.heap.objs.size:=by simpa using z
   rw[z'];exact am _
 exact I1.fpOk hb' (I1.hok.fresh hb')
end
def iA(env:az):List (Str×jb)->List (Str×Addr)->List (Str×Addr)
 |[],acc=>acc
 |p::r,acc=>if(p.2== .free)=true then iA env r ((p.1,(env.cells.lookup p.1).getD 0)::acc)else iA env r acc
theorem zG{sc:Scope}{env:az}(h:∀p∈sc.names,p.2=.free->∃c,env.cells.lookup p.1=some c):closureFor sc env=pure (iA env sc.names []):=by
 unfold closureFor;have go:∀(l:List (Str×jb))(acc:List (Str×Addr)),(∀p∈l,p.2=.free->∃c,env.cells.lookup p.1=some c)->
   (forIn l acc (λx r=>if(x.2==ir)=true then do let a <-cellOf env x.1;pure (qr ((x.1,a)::r))else pure (qr r)):di _)=pure (iA env l acc):=by
  intro l
  induction l with
  |nil=>intro acc _;rfl
  |cons p r ih=>
   intro acc hp;rw[oy];have hr:=λacc'=>ih acc' λq hq=>hp q (bp _ hq)
   by_cases c:(p.2==ir)=true
   .obtain⟨a,ea⟩:=hp p bc (by simpa using c)
    have e1:cellOf env p.1=pure a:=by unfold cellOf;rw[ea]
    rw[if_pos c,e1];simp only[pure_bind];rw[hr];show _=pure (if(p.2== .free)=true then _ else _);rw[if_pos c,ea];rfl
   .rw[if_neg c]
    simp only[pure_bind];rw[hr];show _=pure (if(p.2== .free)=true then _ else _);rw[if_neg c]
 have e:=go sc.names [] h;show(forIn sc.names [] _ >>= λr=>pure r)=_;rw[bind_pure];exact e
theorem xO{env:az}:∀(l:List (Str×jb))(acc:List (Str×Addr)),(∀p∈l,p.2=.free->∃c,env.cells.lookup p.1=some c)->
  ∀y c,(iA env l acc).lookup y=some c->acc.lookup y=some c\/env.cells.lookup y=some c
 |[],acc,_,y,c,e=>.inl e
 |p::r,acc,h,y,c,e=>by
  have hr:∀q∈r,q.2=.free->∃c,env.cells.lookup q.1=some c:=λq hq=>h q (bp _ hq);unfold iA at e
  by_cases k:(p.2==ir)=true
  .rw[if_pos k]at e
   obtain⟨a,ea⟩:=h p bc (by simpa using k);rcases xO r _ hr y c e with z |z
   .rw[jo]at z
    cases w:y==p.1 with
    |true=>
     rw[w,ea]at z;have hy:y=p.1:=by simpa using w
     rw[hy,ea];exact .inr z
    |false=>
     rw[w]at z;exact .inl z
   .exact .inr z
  .rw[if_neg k]at e
   exact xO r acc hr y c e
theorem tM{env:az}:∀(l:List (Str×jb))(acc:List (Str×Addr))(y:Str),((∃c,acc.lookup y=some c)\/(y,ir)∈l)->∃c,(iA env l acc).lookup y=some c
 |[],acc,y,h=>by
  rcases h with h |h
  .exact h
  .cases h
 |p::r,acc,y,h=>by
  unfold iA
  by_cases k:(p.2==ir)=true
  .rw[if_pos k]
   refine tM r _ y ?_;cases w:y==p.1 with
   |true=>exact .inl ⟨_,by rw[jo,w]⟩
   |false=>
    rcases h with⟨c,h⟩|h
    .exact .inl ⟨c,by rw[jo,w];exact h⟩
    .rcases cu.mp h with z |z
     .rw[<-z]at w
      simp at w
     .exact .inr z
  .rw[if_neg k]
   refine tM r _ y ?_;rcases h with h |h
   .exact .inl h
   .rcases cu.mp h with z |z
    .rw[<-z]at k
     simp at k
    .exact .inr z
theorem Ld{env:az}:∀{names:List (Str×jb)}{x:Str},(∀y∈names,y.2≠.cell)->
  (let l:=(names.map λ(n,k)=>if(k==ir&&env.scope.kind== .function&&env.kindOf n==some .cell)then(n,zl)else(n,k)).lookup x;l=some .cell\/l=some .free)->(x,ir)∈names
 |[],x,_,h=>by
  rcases h with h |h<;>cases h
 |(n,k)::r,x,hc,h=>by
  dsimp only at h;rw[cv]at h;have ih:=@Ld env r x λy hy=>hc y (bp _ hy);have nk:k≠.cell:=hc (n,k) bc
  by_cases c:(k==ir&&env.scope.kind== .function&&env.kindOf n==some .cell)=true
  .have kf:k=.free:=by
    simp only[ee,beq_iff_eq]at c;exact c.1.1
   dsimp only at h;rw[if_pos c,jo]at h;cases w:x==n with
   |true=>
    have hx:x=n:=by simpa using w
    rw[hx,<-kf];exact bc
   |false=>
    rw[w]at h;exact bp _ (ih h)
  .dsimp only at h
   rw[if_neg c,jo]at h;cases w:x==n with
   |true=>
    rw[w]at h;have hx:x=n:=by simpa using w
    have kf:k=.free:=by
     rcases h with h |h
     .exact absurd (cf h) nk
     .exact cf h
    rw[hx,<-kf];exact bc
   |false=>
    rw[w]at h;exact bp _ (ih h)
def cO(X:Cx)(sc:Scope)(N:List Str)(C:Addr)(AS:aa)(AT:Hp)(ex:List Addr):Cx where
 prog:=X.prog
 w:=X.w
 K:=X.K
 mg:=X.mg
 base:=X.base
 A:=X.A
 N:=N
 AS:=AS
 AT:=AT
 env:=compEnvC sc (iA X.env sc.names []) C X.env
 outer:=X.stack
 stack:=X.stack
 ex:=ex
 fn:=λ_=>false
 calm:=X.calm
 pn:=[]
 xe:=λ_ _=>False
def jW(own:List Str)(cap:List (Nat×Str))(σ:St):St:=own.map (λ_=>none)++cap.map λp=>(σ[p.1]?).join
def cP(own:List Str)(cap:List (Nat×Str)):List Str:=own++cap.map (·.2)
def qB(J:It)(g:TG)(te:TE)(AX:St)(H1:Hp)(D:Addr)(Q:VK):Prop:=
 ∃W:Nat->Nat->St->Hp->List V->Prop,(∃m,W 0 m AX (bE H1 D (.lst [])) [])/\∀i m σ H ys,W i m σ H ys->H D=some (.lst ys)/\
  ((J.stop i H/\Q (.ref D) H)\/(J.go i H/\ys.length<sizeLine/\∀x H2,J.yld i H x H2->g x σ H2 λσ3 H3=>te σ3 H3 λy H4=>H4 D=some (.lst ys)/\∃m',m'<m/\W (i+1) m' σ3 (bE H4 D (.lst (ys++[y]))) (ys++[y])))
def nO(own:List Str)(cap:List (Nat×Str))(wi:TI)(g:TG)(te:TE):TE:=λσ H Q=>wi σ H λJ H1=>∀D,H1 D=none->qB J g te (jW own cap σ) H1 D Q
def Nx(n:Nat)(Pv:Nat->St->Hp->List V->Prop)(D:Addr)(i:Nat)(ys:List V)(σ:St)(y:V)(H:Hp):Prop:=
 H D=some (.lst ys)/\∃m,m<n-i/\(m=n-(i+1)/\i+1<=n/\Pv (i+1) σ (bE H D (.lst (ys++[y]))) (ys++[y]))
theorem En{n:Nat}{Pv:Nat->St->Hp->List V->Prop}{D:Addr}{i:Nat}{ys:List V}{σ:St}{y:V}{H:Hp}(h:i<n)(hD:H D=some (.lst ys))(p:Pv (i+1) σ (bE H D (.lst (ys++[y]))) (ys++[y])):Nx n Pv D i ys σ y H:=
 ⟨hD,n-(i+1),by omega,rfl,h,p⟩
theorem Wj{J:It}{g:TG}{te:TE}{AX:St}{H1:Hp}{D:Addr}{Q:VK}(n:Nat)(hn:n<=sizeLine)(Pv:Nat->St->Hp->List V->Prop)(h0:Pv 0 AX (bE H1 D (.lst [])) [])
  (hl:∀i σ H ys,Pv i σ H ys->ys.length=i/\H D=some (.lst ys))(hgo:∀i σ H ys,i<n->Pv i σ H ys->J.go i H)
  (hs:∀i σ H ys x H2,i<n->Pv i σ H ys->J.yld i H x H2->g x σ H2 λσ3 H3=>te σ3 H3 λy H4=>Nx n Pv D i ys σ3 y H4)
  (hd:∀σ H ys,Pv n σ H ys->J.stop n H/\Q (.ref D) H):qB J g te AX H1 D Q:=by
 refine⟨λi m σ H ys=>m=n-i/\i<=n/\Pv i σ H ys,⟨n,rfl,ia _,h0⟩,?_⟩
 rintro i m σ H ys ⟨rfl,hi,p⟩
 obtain⟨l1,l2⟩:=hl i σ H ys p;refine⟨l2,?_⟩
 by_cases hlt:i<n
 .exact .inr ⟨hgo i σ H ys hlt p,by omega,λx H2 y=>hs i σ H ys x H2 hlt p y⟩
 .have e:i=n:=by omega
  subst e;exact .inl (hd σ H ys p)
section
variable{prog:Program}{w:ao}{A:aq}{R:kn->aa->Prop}{s:aa}
theorem Ct{elt target iter:af}{sc:Scope}{pos:ah}{it acc:Value}{env:az}(I:Nat->aa->Prop)
  (turn:∀n s,I n s->wpAny (model prog w) A (pyNext it) (λr s1=>match r with
   |none=>R (.ok .next) s1
   |some v=>wpAny (model prog w) A (letOwnedTupleGo target it v) (λ_ s2=>wpAny (model prog w) A (assign target env v) (λ_ s3=>wpAny (model prog w) A (eval elt env)
     (λx s4=>wpAny (model prog w) A (call (.builtin "list.append") [acc,x]) (λ_ s5=>∃m,m<n/\I m s5) (λ_ _=>False) s4) (λ_ _=>False) s3) (λ_ _=>False) s2) (λ_ _=>False) s1) (λ_ _=>False) s)
  (n:Nat)(h:I n s):codeAny (model prog w) A (.compLoop (.ListComp elt [⟨target,iter,[],0⟩] sc pos) 0 it acc env) R s:=by
 refine codeAny_loop rfl I (λn s hI=>?_) n h;show wpAny _ _ ((compTurn (.ListComp elt [⟨target,iter,[],0⟩] sc pos) 0 it acc env).onRaise (λx=>do noteFrame x env;theTreesLotGoes x)) _ _ s;refine wpAny_noted ?_;rw[compTurn_list1];refine ag (ju (ag ?_));refine cy (turn n s hI) (λr s1 h1=>?_) λ_ _ z=>z.elim;cases r with
 |none=>exact au h1
 |some v=>
  refine ag (cy h1 (λ_ s2 h2=>?_) λ_ _ z=>z.elim);refine ag (cy h2 (λ_ s3 h3=>?_) λ_ _ z=>z.elim);refine ag (ag (cy h3 (λx s4 h4=>?_) λ_ _ z=>z.elim));refine ag (cy h4 (λ_ s5 h5=>?_) λ_ _ z=>z.elim);exact au (au ⟨rfl,h5⟩)
end
structure gG(X:Cx)(sc:Scope)(own:List Str)(cap:List (Nat×Str)):Prop where
 kind:sc.kind=.function
 names:∀y∈sc.names,y.2=.local->sc.names.lookup y.1=some .local
 nocell:∀y∈sc.names,y.2≠.cell
 free:∀y∈sc.names,y.2=.free->X.env.kindOf y.1=some .cell
 at':∀p∈cap,X.N[p.1]?=some p.2
 cap:∀p∈cap,sc.names.lookup p.2=some .free
section
variable{X:Cx}{sc:Scope}{own:List Str}{cap:List (Nat×Str)}{AR:List (Addr×Obj)}{σ:St}{H:Hp}{s:aa}
theorem gG.has(k:gG X sc own cap)(ok:X.Ok):∀p∈sc.names,p.2=.free->∃c,X.env.cells.lookup p.1=some c:=λp hp e=>ok.has p.1 (.inl (k.free p hp e))
theorem Td{env:az}:∀{names:List (Str×jb)}{x:Str},env.scope.kind=.function->names.lookup x=some .free->env.kindOf x=some .cell->
  (names.map λ(n,k)=>if(k==ir&&env.scope.kind== .function&&env.kindOf n==some .cell)then(n,zl)else(n,k)).lookup x=some .cell
 |[],x,_,h,_=>by cases h
 |(n,k)::r,x,hk,h,hx=>by
  rw[cv];dsimp only;rw[jo]at h;cases w:x==n with
  |true=>
   rw[w]at h;have e:x=n:=by simpa using w
   have kf:k=.free:=cf h;have c:(k==ir&&env.scope.kind== .function&&env.kindOf n==some .cell)=true:=by
    rw[kf,hk,<-e,hx];decide
   rw[if_pos c,jo,w]
  |false=>
   rw[w]at h;have ih:=@Td env r x hk h hx
   by_cases c:(k==ir&&env.scope.kind== .function&&env.kindOf n==some .cell)=true
   .rw[if_pos c,jo,w]
    exact ih
   .rw[if_neg c,jo,w]
    exact ih
theorem aH.cmp(k:gG X sc own cap){h4:Heap}{fp:List Addr}{m:Str->AI}{t':Nat}(I:aH X AR σ H s)(hf:∀b∈fp,eN X AR H b)(hlt:∀b∈fp,b<s.heap.objs.size)(hns:h4.Ns s.heap.objs.size m)
  (kp:∀b o,s.heap.get? b=some o->h4.get? b=some o):aH (cO X sc (cP own cap) s.heap.objs.size s H fp) [] (jW own cap σ) H {s with heap:=h4,toks:=t'}:=by
 have hcl:∀y c,(iA X.env sc.names []).lookup y=some c->X.env.cells.lookup y=some c:=λy c e=>by
  rcases xO sc.names [] (k.has I.ok) y c e with z |z
  .cases z
  .exact z
 have nst:∀b∈fp,b∉cL X.stack:=λb hb z=>by
  rcases cu.mp (I.stkSub b z)with e |e
  .exact(hf b hb).2.1 e
  .exact(hf b hb).2.2.1 e
 refine⟨⟨I.ok.mod,k.kind,I.ok.glob,I.ok.blt,am _,λx y c h1 h2=>I.ok.inj x y c (hcl x c h1) (hcl y c h2),λx hx=>?_,λx c e=>(nomatch e),I.ok.hd,I.ok.frames,.inl rfl,λb hb=>⟨ck (hlt b hb),λx c e=>(hf b hb).2.2.2.2.1 x c (hcl x c e)⟩,
  I.bs,dn I.ok.bsz I.sz,λb o e hb=>?_,nst,I.stack,I.stkFree⟩,rfl,I.bare,Un.kept kp,⟨m,hns,λi x v h1 h2 h3=>?_⟩,λx c e=>?_,I.hok.fresh (am _),λx c e=>I.freeC x c (hcl x c e),λp hp=>absurd (show p∈([]:List (Addr×Obj)) from hp) (by simp),I.hok.kept kp,?_⟩
 .exact tM sc.names [] x (.inr (Ld k.nocell hx))
 .rcases(hf b hb).2.2.2.1 with z |z
  .exact I.ok.noex b o e z
  .exact absurd (br (ax (I.ok.bs b o e).1) z) (fj _)
 .have hN:(cP own cap)[i]?=some x:=h1
  unfold cP at hN;unfold jW at h2
  by_cases hi:i<own.length
  .rw[gi (by simpa using hi),dy]at h2
   cases e:own[i]? with
   |none=>rw[e]at h2;cases h2
   |some z=>rw[e]at h2;cases h2
  .rw[gv (by simpa using hi),dy,ar]at h2
   rw[gv (by omega),dy]at hN;cases e:cap[i-own.length]? with
   |none=>rw[e]at h2;cases h2
   |some p=>
    rw[e]at h2 hN;have hp:p∈cap:=fe e;have hx:p.2=x:=cf hN;have hv:(σ[p.1]?).join=some v:=cf h2;have hv':σ[p.1]?=some (some v):=by
     cases e2:σ[p.1]? with
     |none=>rw[e2]at hv;cases hv
     |some z=>rw[e2]at hv;exact congrArg some hv
    have fr:=k.cap p hp;have kc:X.env.kindOf p.2=some .cell:=k.free (p.2,.free) (ku fr) rfl;obtain⟨m0,_,hl⟩:=I.loc;obtain⟨u,ru,lk⟩:=hl p.1 p.2 v (k.at' p hp) hv' (.inr (.inl kc));refine⟨u,ru,?_⟩;rcases lk with⟨k1,_⟩|⟨_,c,ec,cell⟩
    .rw[kc]at k1
     cases k1
    .rw[<-hx]
     obtain⟨c',ec'⟩:=tM (env:=X.env) sc.names [] p.2 (.inr (ku fr));have:=(hcl _ _ ec').symm.trans ec;cases this;obtain⟨o,ho,hd⟩:=cell;exact .inr ⟨.inl (Td I.ok.kind fr kc),c,ec',o,kp c o ho,hd⟩
 .obtain⟨v,o,ho,hd⟩:=I.cell x c (hcl x c e)
  exact⟨v,o,kp c o ho,hd⟩
 .unfold jW
  show _=(cP own cap).length;unfold cP;rw[bn,bn,ar,ar,ar]
theorem aH.uncmp{s3 s':aa}{H3 H':Hp}{N:List Str}{σ':St}{C:Addr}{fp:List Addr}{pl:List (Addr×Obj)}(I:aH X AR σ H s)(hf:∀b∈fp,eN X AR H b)(u:Un (cL X.stack) fp H H3 s.heap s3.heap)(os:s3.os=s.os)
  (J:aH (cO X sc N C s3 H3 fp) pl σ' H' s'):aH X AR σ H' s':=by
 have os':s'.os=s.os:=(show s'.os=s3.os from J.os).trans os;refine I.call' (ch:=fp) os' (u.trans J.base) J.hok J.bare λb hb=>?_;obtain⟨_,f1,_,f3,f4,f5⟩:=hf b hb;exact⟨f3,f1,f4,f5⟩
end
section
variable{X:Cx}{sc:Scope}{own:List Str}{cap:List (Nat×Str)}{AR:List (Addr×Obj)}{σ:St}{H:Hp}{s:aa}{elt target iter:af}{pos pos':ah}{wi:TI}{g:TG}{te:TE}{Q:VK}
theorem Bg{use:Option (Value->di Unit)}{Qf:Value->aa->Prop}(k:gG X sc own cap)(hi:PI X target iter wi)(hc:X.calm=true)
  (hg:∀C AS AT ex,PG (cO X sc (cP own cap) C AS AT ex) target g)(he:∀C AS AT ex,PE (cO X sc (cP own cap) C AS AT ex) elt te)(I:aH X AR σ H s)(h:nO own cap wi g te σ H Q)
  (fin:∀D C s' H' m,aH X AR σ H' s'->eN X AR H' C->s'.heap.Ns C m->Q (.ref D) H'->compPost (model X.prog X.w) X.A X.xe use Qf (.ref D) C (.ok .next) s')
  (hs:∀x,foldedSetIterable iter X.env x=pure x):
  wpAny (model X.prog X.w) X.A (comprehension (.ListComp elt [⟨target,iter,[],0⟩] sc pos) sc X.env pos' (newList []) false (eval iter X.env) use) Qf X.xe s:=by
 refine wpAny_comprehension_free (use:=use) rfl hs (zG (k.has I.ok)) k.kind k.names ?_;refine bF (hi AR s σ H _ I h) λv s1 h1=>bF h1 λitv s2 h2=>?_;obtain⟨it,fp,tn,J,H2,e,I2,T,st2,f2,hW⟩:=h2;subst e;refine ja (wr k.nocell (λy hy=>nomatch hy) (λh4 hns hsb=>?_) k.kind);have I3:aH X AR σ (bE H2 s2.heap.objs.size (.lst [])) {s2 with heap:=s2.heap.push {cls:=.type "list",data:=.seq ([]:AH).toArray},toks:=s2.toks}:=I2.lnew (ys:=[]) (its:=[]) .nil (ia _);have hD:H2 s2.heap.objs.size=none:=I2.fresh;have ltf:∀b∈fp,b<s2.heap.objs.size:=λb hb=>by
  obtain⟨o,ho,_⟩:=T.obj _ _ st2 b hb;exact ax ho
 have f3:∀b∈fp,eN X AR (bE H2 s2.heap.objs.size (.lst [])) b:=λb hb=>⟨by rw[cQ (ck (ltf b hb))];exact(f2 b hb).1,(f2 b hb).2⟩;have un:Un (cL X.stack) fp H2 (bE H2 s2.heap.objs.size (.lst [])) s2.heap (s2.heap.push {cls:=.type "list",data:=.seq ([]:AH).toArray}):=Un.laid (λb u q=>aw _ q) (am _) hD;have kp:∀b o,(s2.heap.push {cls:=.type "list",data:=.seq ([]:AH).toArray}).get? b=some o->h4.get? b=some o:=λb o q=>hsb.extBut b o (ck (ax q)) (aw _ q);have J0:=I3.cmp (t':=s2.toks+([]:List (Str×Value)).length) k f3 (λb hb=>br (ltf b hb) (by rw[jz];exact oo _)) hns kp;have stat:∀{H':Hp},(∀b∈fp,H' b=none)->∀b∈fp,eN (cO X sc (cP own cap) (s2.heap.push {cls:=.type "list",data:=.seq ([]:AH).toArray}).objs.size {s2 with heap:=s2.heap.push {cls:=.type "list",data:=.seq ([]:AH).toArray},toks:=s2.toks} (bE H2 s2.heap.objs.size (.lst [])) fp) [] H' b:=λhn b hb=>
  ⟨hn b hb,(J0.ok.exf b hb).1,J0.ok.exfs b hb,.inl hb,(J0.ok.exf b hb).2,λp hp=>absurd (show p∈([]:List (Addr×Obj)) from hp) (by simp)⟩
 have st4:tn 0 h4:=T.keep _ _ _ st2 λb hb o q=>kp b o (aw _ q);have fr0:∀b∈fp,(bE H2 s2.heap.objs.size (.lst [])) b=none:=λb hb=>(f3 b hb).1;have loop:codeAny (model X.prog X.w) X.A (.compLoop (.ListComp elt [⟨target,iter,[],0⟩] sc pos) 0 (.ref it) (.ref s2.heap.objs.size) (compEnvC sc (iA X.env sc.names []) (s2.heap.push {cls:=.type "list",data:=.seq ([]:AH).toArray}).objs.size X.env))
   (compPost (model X.prog X.w) X.A X.xe use Qf (.ref s2.heap.objs.size) (s2.heap.push {cls:=.type "list",data:=.seq ([]:AH).toArray}).objs.size) {s2 with heap:=h4,toks:=s2.toks+([]:List (Str×Value)).length}:=by
  obtain⟨W,⟨m0,w0⟩,turn⟩:=hW s2.heap.objs.size hD;refine Ct (λn s'=>∃i σ' H' ys,aH (cO X sc (cP own cap) (s2.heap.push {cls:=.type "list",data:=.seq ([]:AH).toArray}).objs.size {s2 with heap:=s2.heap.push {cls:=.type "list",data:=.seq ([]:AH).toArray},toks:=s2.toks} (bE H2 s2.heap.objs.size (.lst [])) fp) [] σ' H' s'/\tn i s'.heap/\(∀b∈fp,H' b=none)/\W i n σ' H' ys) ?_ m0
   ⟨0,_,_,[],J0,st4,fr0,w0⟩
  rintro n s5 ⟨i,σ5,H5,ys,I5,st5,fr5,w5⟩
  obtain⟨hD5,w5⟩:=turn i n σ5 H5 ys w5;rcases w5 with⟨stop,qn⟩|⟨go,hlt,step⟩
  .refine bF (T.done (cO X sc (cP own cap) (s2.heap.push {cls:=.type "list",data:=.seq ([]:AH).toArray}).objs.size {s2 with heap:=s2.heap.push {cls:=.type "list",data:=.seq ([]:AH).toArray},toks:=s2.toks} (bE H2 s2.heap.objs.size (.lst [])) fp) rfl rfl rfl hc i [] s5 σ5 H5 _ I5 (stat fr5) st5 stop) ?_
   rintro r s6 ⟨hr,I6⟩
   subst hr;obtain⟨m,hn,_⟩:=id I6.loc;exact fin _ _ s6 H5 m (I2.uncmp (s3:={s2 with heap:=s2.heap.push {cls:=.type "list",data:=.seq ([]:AH).toArray},toks:=s2.toks}) f2 un rfl I6) (I3.fpOk (am _) I6.free) hn qn
  .refine bF (T.item (cO X sc (cP own cap) (s2.heap.push {cls:=.type "list",data:=.seq ([]:AH).toArray}).objs.size {s2 with heap:=s2.heap.push {cls:=.type "list",data:=.seq ([]:AH).toArray},toks:=s2.toks} (bE H2 s2.heap.objs.size (.lst [])) fp) rfl rfl rfl hc i [] s5 σ5 H5 _ I5 (stat fr5) st5 go) ?_
   rintro r s6 ⟨u,hr,h6⟩
   subst hr;refine bF h6 ?_
   rintro _ s7 ⟨x,H7,I7,r7,y7,st7,fr7⟩
   have I7':=I7.pinned (stat fr7) (T.obj _ _ st7);refine bF (hg _ _ _ _ _ s7 σ5 H7 x u _ I7' r7 (step x H7 y7)) ?_
   rintro _ s8 ⟨σ8,H8,I8,q8⟩
   refine bF (he _ _ _ _ _ s8 σ8 H8 _ I8 q8) ?_
   rintro v9 s9 ⟨y,H9,I9,r9,hD9,m',hm,w9⟩
   refine bF (tJ _ s9 σ8 H9 (.ref s2.heap.objs.size) [y] (.ref s2.heap.objs.size) [v9] (λ_ H'=>H'=bE H9 s2.heap.objs.size (.lst (ys++[y]))) I9 rfl (.cons r9 .nil) ⟨_,ys,y,rfl,rfl,hD9,hlt,rfl⟩) ?_
   rintro _ s10 ⟨_,H10,I10,_,q10⟩
   subst q10;refine⟨m',hm,i+1,σ8,_,_,I10.unpinned,T.keep _ _ _ st7 λb hb o q=>(I10.pin (b,o) (cq _ (cq _ (mD hb q)))).1,λb hb=>?_,w9⟩;obtain⟨o,q,d⟩:=T.obj _ _ st7 b hb;exact(I10.pin (b,o) (cq _ (cq _ (mD hb q)))).2.1
 exact wt loop (T.self _ 0 _ _ _ st4 loop)
theorem E8(k:gG X sc own cap)(hi:PI X target iter wi)(hc:X.calm=true)
  (hg:∀C AS AT ex,PG (cO X sc (cP own cap) C AS AT ex) target g)(he:∀C AS AT ex,PE (cO X sc (cP own cap) C AS AT ex) elt te)
  (hs:∀x,foldedSetIterable iter X.env x=pure x:=by intro _;rfl):PE X (.ListComp elt [⟨target,iter,[],0⟩] sc pos) (nO own cap wi g te):=by
 intro AR s σ H Q I h;rw[eval_ListComp];refine Bg (use:=none) k hi hc hg he I h (λD C s' H' m I' fC hn q=>?_) hs;refine⟨m,hn,λh' sb=>⟨.ref D,H',?_,rfl,q⟩⟩;obtain⟨f0,f1,f2,f3,f4,f5⟩:=fC;exact I'.turned (t':=s'.toks) (λb o hb e=>(sb.2 b hb).trans e) f0 f1 f3 f4 f5
theorem B3{i:Nat}{x:Str}{py spos:ah}(hN:X.N.Nodup)(hx:X.N[i]?=some x)(hl:jP X.env.scope x)(k:gG X sc own cap)(hi:PI X target iter wi)(hc:X.calm=true)
  (hg:∀C AS AT ex,PG (cO X sc (cP own cap) C AS AT ex) target g)(he:∀C AS AT ex,PE (cO X sc (cP own cap) C AS AT ex) elt te)
  (hs:∀x,foldedSetIterable iter X.env x=pure x:=by intro _;rfl)(hsw:swapsWith (.ListComp elt [⟨target,iter,[],0⟩] sc pos) (some (.Name x py)) spos.line X.env=pure true:=by rfl)
  (hf:X.fn x=true\/X.env.scope.names.lookup x=some .local:=by first |exact .inl rfl |exact .inr rfl |assumption):
  PS X (.Assign [.Name x py] (.ListComp elt [⟨target,iter,[],0⟩] sc pos) spos) (vU (nO own cap wi g te) (vI i)):=by
 intro AR s σ H D I h;rw[zm _ _ _ _ hsw];refine ag (ju (ag ?_));show wpAny _ X.A (comprehension (.ListComp elt [⟨target,iter,[],0⟩] sc pos) sc X.env _ (newList []) false (eval iter X.env) (some (assign (.Name x py) X.env)) >>= λ_=>pure ()) _ _ s;refine ag (bF (Bg (use:=some (assign (.Name x py) X.env)) (Qf:=λ_ s'=>SP X AR D .next s') k hi hc hg he I h (λB C s' H' m I' fC hn q=>?_) hs) λ_ s' hq=>au (au hq))
 show wpAny _ _ (assign (.Name x py) X.env (.ref B)) _ _ s';obtain⟨o,es,ep,ho,hd,r⟩:=hn;obtain⟨f0,f1,f2,f3,f4,f5⟩:=fC;have I'':aH X (AR++[(C,o)]) σ H' s':=I'.pins_of λp hp=>(cm.mp hp).elim (λz=>I'.pin p (cq _ z)) λz=>by
  have e:p=(C,o):=by simpa using z
  subst e;exact⟨ho,f0,f1,f2,λv z=>by rw[hd]at z;cases z⟩
 refine vc (lB I'' hN hx hl (v:=.ref B) rfl (λs2 I2=>?_) hf);have pC:=I2.pin (C,o) (by simp);refine⟨m,⟨o,es,ep,pC.1,hd,r⟩,λh' sb=>⟨_,H',?_,q⟩⟩;exact(I2.unpinned).turned (t':=s2.toks) (λb o hb e=>(sb.2 b hb).trans e) f0 f1 f3 f4 f5
end
section
variable{X:Cx}
theorem Zw(hc:X.calm=true):gW X (.builtin "all") (λxs H Q=>∃(a:Addr)(bs:List Bool),xs=[.ref a]/\cF X.K H a (bs.map V.bl)/\Q (.bl (bs.all id)) H):=by
 intro AR s σ H xs us Q I r h;obtain⟨a,bs,rfl,hq,q⟩:=h;obtain⟨u,rfl,ru⟩:=iT r;cases ru;obtain⟨its,rv,pl,hz⟩:=I.list hq;have hl:bs.length=its.length:=by
  have:=rv.length
  rwa[ar]at this
 refine call_all_walk (qt pl.isList ?_);have ha:a<s.heap.objs.size:=by
  obtain⟨o,ho,_⟩:=pl.isList;exact ax ho
 refine⟨_,_,_,_,_,_,λi=>bs.getD i true,rfl,Walks.list (prog:=X.prog) (w:=X.w) (A:=X.A.in1) (show X.A.in1.handled=none from I.ok.hd hc) s.heap.objs.size a (ck ha) its.toArray,⟨⟨_,dl _ rfl,rfl,rfl⟩,Heap.IsList.at pl.isList λo e=>aw _ e⟩,λi v s' Q' E' hv hQ=>?_,λh' tk kp=>?_⟩
 .have hv':its[i]?=some v:=by simpa using hv
  have hi:i<bs.length:=by
   have:=(db.mp hv').1;omega
  obtain⟨u,hu,ru⟩:=rv.get (i:=i) (x:=.bl bs[i]) (by rw[dy,bf hi];rfl);rw[hv']at hu;cases hu;cases(show v=qa bs[i] from ru);have e:bs.getD i true=bs[i]:=by simp[cr,hi]
  have hQ':Q' (bs.getD i true) s':=hQ;rw[e]at hQ';exact jt hQ'
 .have e:(ce its.toArray.size).all (λi=>bs.getD i true)=bs.all id:=by
   rw[ay,<-hl,qu,ib,ib];constructor
   .intro z b hb
    obtain⟨i,hi,rfl⟩:=List.mem_iff_getElem.mp hb;have:=z i (by simpa using hi);simpa[cr,hi]using this
   .intro z i hi
    have hi':i<bs.length:=by simpa using hi
    have:=z bs[i] (iu hi');simpa[cr,hi']using this
  show EP X AR σ Q (.bool ((ce its.toArray.size).all λi=>bs.getD i true)) _;rw[e];have I1:aH X AR σ H {s with heap:=s.heap.push {cls:=.type "list_iterator",data:=.fields #[.ref a,.int 0 0]},toks:=s.toks}:=I.kept λb o z=>aw _ z;have fp:eN X AR H s.heap.objs.size:=I.fpOk (am _) (I.hok.fresh (am _));obtain⟨f0,f1,f2,f3,f4,f5⟩:=fp;exact⟨.bl (bs.all id),H,I1.turned (λb o hb z=>kp b o (by simpa using hb) z) f0 f1 f3 f4 f5,rfl,q⟩
end
section
variable{prog:Program}{w:ao}{A:aq}{E:Value->aa->Prop}{s:aa}
theorem Ds{it t:Addr}{i:Nat}{items:Array Value}{x:Value}{Q:Value->aa->Prop}(git:s.heap.IsTupleIter it t i)(gt:s.heap.IsTuple t items)(gx:items[i]?=some x)
  (gQ:∀h',h'.IsTupleIter it t (i+1)->fu it s.heap h'->Q x {s with heap:=h'}):wpAny (model prog w) A (ka (.ref it)) Q E s:=by
 obtain⟨o,go,gc,gd⟩:=id git;obtain⟨ol,gol,_,nl,gdl⟩:=gt;unfold ka;refine ag (om (name:=cc "__next__") git.typeIs qv (mx qv git.typeIs zn ?_ (zo _)));show wpAny _ _ (field (.ref it) 0 >>= _) _ _ s;refine ag (dz go gd (x:=.ref t) rfl ?_);show wpAny _ _ (if(dk t==cg)=true then _ else _) _ _ s;rw[if_neg (show ¬((dk t==cg)=true) from km)];show wpAny _ _ (field (.ref it) 1 >>= _) _ _ s;refine ag (dz go gd (x:=.int i 0) rfl ?_);show wpAny _ _ (seqItems? (.ref t) >>= _) _ _ s;refine ag (kb gol gdl ?_);simp only[mq,gx];refine ag (qw go gd (by simp) (au ⟨_,rfl,au (gQ _ ?_ (zq ..))⟩));refine⟨_,vt _ go (zt (qx gd _)),(Obj.cls_mapFields ..).trans gc,?_⟩;rw[qx gd];simp[rawInt]
theorem Np{it t:Addr}{i:Nat}{items:Array Value}{Q:Value->aa->Prop}(hh:A.handled=none)(git:s.heap.IsTupleIter it t i)(gt:s.heap.IsTuple t items)(gx:items[i]?=none)
  (gE:∀h' e,Heap.ExtBut it s.heap h'->(∃o,h'.get? e=some o/\o.cls=.type "StopIteration")->E (.ref e) {s with heap:=h'}):wpAny (model prog w) A (ka (.ref it)) Q E s:=by
 obtain⟨o,go,gc,gd⟩:=id git;obtain⟨ol,gol,_,nl,gdl⟩:=gt;unfold ka;refine ag (om (name:=cc "__next__") git.typeIs qv (mx qv git.typeIs zn ?_ (zo _)));show wpAny _ _ (field (.ref it) 0 >>= _) _ _ s;refine ag (dz go gd (x:=.ref t) rfl ?_);show wpAny _ _ (if(dk t==cg)=true then _ else _) _ _ s;rw[if_neg (show ¬((dk t==cg)=true) from km)];show wpAny _ _ (field (.ref it) 1 >>= _) _ _ s;refine ag (dz go gd (x:=.int i 0) rfl ?_);show wpAny _ _ (seqItems? (.ref t) >>= _) _ _ s;refine ag (kb gol gdl ?_);simp only[mq,gx]
 first
  |refine ag (mj (ag (qw go gd (by simp) (ag (qy ?_)))))
  |refine ag (mj (ag (qw go gd (by simp) ?_)))
 show wpAny _ _ (newExc (.type "StopIteration") [] >>= _) _ _ _;refine ag ?_;simp only[newExc,newTuple];refine ag (ja ?_ (by size_fits));refine ag (m:=firstArgMember _ _) (wu (a:=cg) (by first |rfl |(simp only[firstArgMember];rfl)) ?_)
 refine ja ?_ (by size_fits);simp only[raiseNew];refine ag (wpAny_handled ?_)
 first
  |rw[show A.in1.handled=none from hh]
  |rw[hh]
 refine ag (au (wpAny_throw ?_));exact gE _ _ (((zq ..).extBut.push _).push _) ⟨_,dl _ rfl,rfl⟩
end
theorem Ov{prog:Program}{w:ao}{A:aq}(hh:A.handled=none)(it t:Addr)(hne:t≠it)(items:Array Value):
  jf prog w A it [it,t] items.size (λi v=>items[i]?=some v) (λi h=>h.IsTupleIter it t i/\h.IsTuple t items) where
 live:=λ_ _ st=>let⟨o,ho,_⟩:=st.1;⟨o,ho⟩
 frame:=λ_ _ _ st hk=>⟨let⟨o,ho,r⟩:=st.1;⟨o,hk it (by simp) o ho,r⟩,let⟨o,ho,r⟩:=st.2;⟨o,hk t (by simp) o ho,r⟩⟩
 item:=λi s Q E hi st hQ=>by
  refine Ds st.1 st.2 (x:=items[i]) (by simp[hi]) λh' hit' hs'=>?_;exact hQ _ h' s.toks (by simp[hi]) ⟨hit',st.2.extBut hs'.extBut hne⟩ hs'
 done:=λs Q E st hE=>Np hh st.1 st.2 (by simp) hE
structure sE(z TI TO i1 i2:Addr)(fp1 fp2:List Addr):Prop where
 tiz:TI≠z
 toz:TO≠z
 tito:TI≠TO
 ti1:TI≠i1
 ti2:TI≠i2
 z1:z∉fp1
 z2:z∉fp2
 to1:TO∉fp1
 to2:TO∉fp2
 i12:i1∉fp2
 i21:i2∉fp1
 m1:i1∈fp1
 m2:i2∈fp2
section
variable{prog:Program}{w:ao}{A:aq}{E:Value->aa->Prop}{s:aa}{z TI TO i1 i2:Addr}{fp1 fp2:List Addr}{n1 n2 i:Nat}{P1 P2:Nat->Value->Prop}{S1 S2:Nat->Heap->Prop}{a b:Value}
theorem Ht{Q:Value->aa->Prop}(D1:jf prog w A i1 fp1 n1 P1 S1)(D2:jf prog w A i2 fp2 n2 P2 S2)(ap:sE z TI TO i1 i2 fp1 fp2)(gz:fg s.heap z TI TO .none)(gTI:df s.heap TI (.ref i1) (.ref i2))(gTO:df s.heap TO a b)
  (g1:S1 i s.heap)(g2:S2 i s.heap)(l1:i<n1)(l2:i<n2)
  (gQ:∀h' tk x y,P1 i x->P2 i y->fg h' z TI TO (rawInt s.heap.objs.size)->df h' TO x y->S1 (i+1) h'->S2 (i+1) h'->df h' s.heap.objs.size x y->
   (∀c o,c≠z->c≠TO->c≠i1->c≠i2->s.heap.get? c=some o->h'.get? c=some o)->Q (.ref s.heap.objs.size) {s with heap:=h',toks:=tk}):
  wpAny (model prog w) A (Builtin.«zip.__next__» ⟨[.ref z],[]⟩) (λfin s'=>∃v,fin=.done (.ret v)/\Q v s') E s:=by
 have nz1:i1≠z:=λq=>ap.z1 (q▸ap.m1);have nz2:i2≠z:=λq=>ap.z2 (q▸ap.m2);have nt1:TO≠i1:=λq=>ap.to1 (q▸ap.m1);have nt2:TO≠i2:=λq=>ap.to2 (q▸ap.m2);show wpAny _ _ (field (.ref z) 2 >>= _) _ _ _;refine ag (dz gz rfl (x:=.bool false) rfl ?_);show wpAny _ _ (field (.ref z) 3 >>= _) _ _ _;refine ag (dz gz rfl (x:=.ref TI) rfl ?_);refine ag (kb gTI rfl ?_);show wpAny _ _ (qz (.ref z) >>= _) _ _ _;refine ag ?_;unfold qz;refine ag (dz gz rfl (x:=.none) rfl (au ?_));simp only[if_true];refine ag (mj ?_);refine ag (dz gz rfl (x:=.ref TO) rfl ?_);refine ag (ni gz (by simp) λh1 gz1 s1=>?_)
 replace gz1:fg h1 z TI TO .ellipsis:=gz1
 refine ag ?_;simp only[zu,zv,oy,zw];refine ag (ag (re ?_));show wpAny _ _ (ka (.ref i1) >>= _) _ _ _;refine ag (D1.item i _ _ _ l1 (D1.frame _ _ _ g1 λc hc o q=>s1.extBut c o (λe=>ap.z1 (e▸hc)) q) λx h2 tk2 px g1' s2=>au ?_);have gTO2:df h2 TO a b:=s2.extBut _ _ nt1 (s1.extBut _ _ ap.toz gTO);refine ag (kb gTO2 rfl ?_);refine ag (wv (s:={s with heap:=h2,toks:=tk2}) gTO2 λh3 gTO3 s3=>?_)
 replace gTO3:df h3 TO x b:=gTO3
 replace s3:fu TO h2 h3:=s3
 refine ag (qy (au ?_));refine ag (ag (re ?_));show wpAny _ _ (ka (.ref i2) >>= _) _ _ _;have g2':S2 i h3:=D2.frame _ _ _ g2 λc hc o q=>s3.extBut c o (λe=>ap.to2 (e▸hc)) (s2.extBut c o (λe=>ap.i12 (e▸hc)) (s1.extBut c o (λe=>ap.z2 (e▸hc)) q));refine ag (D2.item i _ _ _ l2 g2' λy h4 tk4 py g2'' s4=>au ?_)
 replace s4:fu i2 h3 h4:=s4
 have gTO4:df h4 TO x b:=s4.extBut _ _ nt2 gTO3;refine ag (kb gTO4 rfl ?_);refine ag (wv (s:={s with heap:=h4,toks:=tk4}) gTO4 λh5 gTO5 s5=>?_)
 replace gTO5:df h5 TO x y:=gTO5
 replace s5:fu TO h4 h5:=s5
 refine ag (qy (au (au ?_)));refine ag (kb gTO5 rfl ?_);refine ag (wpAny_newTuple ?_);have hsz:h5.objs.size=s.heap.objs.size:=by rw[s5.1,s4.1,s3.1,s2.1,s1.1]
 have gz5:fg h5 z TI TO .ellipsis:=s5.extBut _ _ ap.toz.symm (s4.extBut _ _ nz2.symm (s3.extBut _ _ ap.toz.symm (s2.extBut _ _ nz1.symm gz1)));have k5:∀c o,c≠z->c≠TO->c≠i1->c≠i2->s.heap.get? c=some o->h5.get? c=some o:=λc o c1 c2 c3 c4 q=>s5.extBut _ _ c2 (s4.extBut _ _ c4 (s3.extBut _ _ c2 (s2.extBut _ _ c3 (s1.extBut _ _ c1 q))));have g15:S1 (i+1) h5:=D1.frame _ _ _ g1' λc hc o q=>s5.extBut c o (λe=>ap.to1 (e▸hc)) (s4.extBut c o (λe=>ap.i21 (e▸hc)) (s3.extBut c o (λe=>ap.to1 (e▸hc)) q));have g25:S2 (i+1) h5:=D2.frame _ _ _ g2'' λc hc o q=>s5.extBut c o (λe=>ap.to2 (e▸hc)) q;have zlt:z<h5.objs.size:=ax gz5;show wpAny _ _ (zx (.ref z) (.ref h5.objs.size) >>= _) _ _ _;refine ag ?_;unfold zx;have gz6:fg (h5.push {cls:=.type "tuple",data:=.seq #[x,y]}) z TI TO .ellipsis:=aw _ gz5;refine ag (ni gz6 (by simp) λh7 gz7 s7=>?_)
 replace gz7:fg h7 z TI TO (rawInt h5.objs.size):=gz7
 refine ni gz7 (by simp) λh8 gz8 s8=>?_
 replace gz8:fg h8 z TI TO (rawInt h5.objs.size):=gz8
 have up:∀c o,c≠z->h5.get? c=some o->h8.get? c=some o:=λc o c1 q=>s8.extBut _ _ c1 (s7.extBut _ _ c1 (aw _ q));have gT8:df h8 h5.objs.size x y:=s8.extBut _ _ (og zlt) (s7.extBut _ _ (og zlt) (dl _ rfl));rw[hsz]at gz8 gT8;refine au ⟨_,rfl,?_⟩;show Q (.ref h5.objs.size) _;rw[hsz];exact gQ h8 _ x y px py gz8 (up _ _ ap.toz gTO5) (D1.frame _ _ _ g15 λc hc o q=>up c o (λe=>ap.z1 (e▸hc)) q) (D2.frame _ _ _ g25 λc hc o q=>up c o (λe=>ap.z2 (e▸hc)) q) gT8 λc o c1 c2 c3 c4 q=>up c o c1 (k5 c o c1 c2 c3 c4 q)
theorem Qu{Q:Fin->aa->Prop}(D1:jf prog w A i1 fp1 n1 P1 S1)(D2:jf prog w A i2 fp2 n2 P2 S2)(ap:sE z TI TO i1 i2 fp1 fp2)(gz:fg s.heap z TI TO .none)(gTI:df s.heap TI (.ref i1) (.ref i2))(gTO:df s.heap TO a b)
  (g1:S1 i s.heap)(g2:S2 i s.heap)(fin:i=n1\/(i<n1/\i=n2))
  (gE:∀h' tk e,(∀c o,c≠z->c≠TO->c≠i1->c≠i2->s.heap.get? c=some o->h'.get? c=some o)->(∃o,h'.get? e=some o/\o.cls=.type "StopIteration")->E (.ref e) {s with heap:=h',toks:=tk}):
  wpAny (model prog w) A (Builtin.«zip.__next__» ⟨[.ref z],[]⟩) Q E s:=by
 have nz1:i1≠z:=λq=>ap.z1 (q▸ap.m1);have nz2:i2≠z:=λq=>ap.z2 (q▸ap.m2);have nt1:TO≠i1:=λq=>ap.to1 (q▸ap.m1);have nt2:TO≠i2:=λq=>ap.to2 (q▸ap.m2);show wpAny _ _ (field (.ref z) 2 >>= _) _ _ _;refine ag (dz gz rfl (x:=.bool false) rfl ?_);show wpAny _ _ (field (.ref z) 3 >>= _) _ _ _;refine ag (dz gz rfl (x:=.ref TI) rfl ?_);refine ag (kb gTI rfl ?_);show wpAny _ _ (qz (.ref z) >>= _) _ _ _;refine ag ?_;unfold qz;refine ag (dz gz rfl (x:=.none) rfl (au ?_));simp only[if_true];refine ag (mj ?_);refine ag (dz gz rfl (x:=.ref TO) rfl ?_);refine ag (ni gz (by simp) λh1 gz1 s1=>?_)
 replace gz1:fg h1 z TI TO .ellipsis:=gz1
 refine ag ?_;simp only[zu,zv,oy,zw];refine ag (ag (re ?_));show wpAny _ _ (ka (.ref i1) >>= _) _ _ _;have g1':S1 i h1:=D1.frame _ _ _ g1 λc hc o q=>s1.extBut c o (λe=>ap.z1 (e▸hc)) q;rcases fin with e1 |⟨l1,e2⟩
 .subst e1
  refine ag (D1.done _ _ _ g1' λh2 e s2 he=>?_);obtain⟨oe,hoe,hce⟩:=he;have gz2:fg h2 z TI TO .ellipsis:=s2 _ _ nz1.symm gz1;have hez:e≠z:=λq=>by
   subst q;rw[gz2]at hoe;cases hoe;simp at hce
  refine ni (s:={s with heap:=h2}) gz2 (by simp) λh3 _ s3=>?_;exact gE h3 _ e (λc o c1 _ c3 _ q=>s3.extBut _ _ c1 (s2 _ _ c3 (s1.extBut _ _ c1 q))) ⟨oe,s3.extBut _ _ hez hoe,hce⟩
 .subst e2
  refine ag (D1.item i _ _ _ l1 g1' λx h2 tk2 px g1'' s2=>au ?_);have gTO2:df h2 TO a b:=s2.extBut _ _ nt1 (s1.extBut _ _ ap.toz gTO);refine ag (kb gTO2 rfl ?_);refine ag (wv (s:={s with heap:=h2,toks:=tk2}) gTO2 λh3 gTO3 s3=>?_)
  replace s3:fu TO h2 h3:=s3
  refine ag (qy (au ?_));refine ag (ag (re ?_));show wpAny _ _ (ka (.ref i2) >>= _) _ _ _;have g2':S2 i h3:=D2.frame _ _ _ g2 λc hc o q=>s3.extBut c o (λe=>ap.to2 (e▸hc)) (s2.extBut c o (λe=>ap.i12 (e▸hc)) (s1.extBut c o (λe=>ap.z2 (e▸hc)) q));refine ag (D2.done _ _ _ g2' λh4 e s4 he=>?_)
  replace s4:Heap.ExtBut i2 h3 h4:=s4
  obtain⟨oe,hoe,hce⟩:=he;have gz4:fg h4 z TI TO .ellipsis:=s4 _ _ nz2.symm (s3.extBut _ _ ap.toz.symm (s2.extBut _ _ nz1.symm gz1));have hez:e≠z:=λq=>by
   subst q;rw[gz4]at hoe;cases hoe;simp at hce
  refine ni (s:={s with heap:=h4,toks:=tk2}) gz4 (by simp) λh5 _ s5=>?_;exact gE h5 _ e (λc o c1 c2 c3 c4 q=>s5.extBut _ _ c1 (s4 _ _ c4 (s3.extBut _ _ c2 (s2.extBut _ _ c3 (s1.extBut _ _ c1 q))))) ⟨oe,s5.extBut _ _ hez hoe,hce⟩
theorem Yq{Q:AI->aa->Prop}(D1:jf prog w A.in1 i1 fp1 n1 P1 S1)(D2:jf prog w A.in1 i2 fp2 n2 P2 S2)(ap:sE z TI TO i1 i2 fp1 fp2)(gz:fg s.heap z TI TO .none)(gTI:df s.heap TI (.ref i1) (.ref i2))(gTO:df s.heap TO a b)
  (g1:S1 i s.heap)(g2:S2 i s.heap)(l1:i<n1)(l2:i<n2)
  (gQ:∀h' tk x y,P1 i x->P2 i y->fg h' z TI TO (rawInt s.heap.objs.size)->df h' TO x y->S1 (i+1) h'->S2 (i+1) h'->df h' s.heap.objs.size x y->
   (∀c o,c≠z->c≠TO->c≠i1->c≠i2->s.heap.get? c=some o->h'.get? c=some o)->Q (some (.ref s.heap.objs.size)) {s with heap:=h',toks:=tk}):
  wpAny (model prog w) A (pyNext (.ref z)) Q E s:=by
 have gT:s.TypeIs (.ref z) "zip":=⟨_,gz,rfl⟩;unfold pyNext;refine ag (oz (om (name:=cc "__next__") gT rh (mx rh gT zy ?_ (zz _))));exact Ht D1 D2 ap gz gTI gTO g1 g2 l1 l2 λh' tk x y p1 p2 e1 e2 e3 e4 e5 e6=>au (gQ h' tk x y p1 p2 e1 e2 e3 e4 e5 e6)
theorem Fp{Q:AI->aa->Prop}(D1:jf prog w A.in1 i1 fp1 n1 P1 S1)(D2:jf prog w A.in1 i2 fp2 n2 P2 S2)(ap:sE z TI TO i1 i2 fp1 fp2)(gz:fg s.heap z TI TO .none)(gTI:df s.heap TI (.ref i1) (.ref i2))(gTO:df s.heap TO a b)
  (g1:S1 i s.heap)(g2:S2 i s.heap)(fin:i=n1\/(i<n1/\i=n2))
  (gQ:∀h' tk,(∀c o,c≠z->c≠TO->c≠i1->c≠i2->s.heap.get? c=some o->h'.get? c=some o)->Q none {s with heap:=h',toks:=tk}):wpAny (model prog w) A (pyNext (.ref z)) Q E s:=by
 have gT:s.TypeIs (.ref z) "zip":=⟨_,gz,rfl⟩;unfold pyNext;refine ag (oz (om (name:=cc "__next__") gT rh (mx rh gT zy ?_ (zz _))));refine Qu D1 D2 ap gz gTI gTO g1 g2 fin λh' tk e hk he=>?_;obtain⟨o,ho,hc⟩:=he;refine ag (wpAny_isInstance (T:="StopIteration") (b:=true) ⟨o,ho,hc⟩ isSubtype_stop ?_);exact au (gQ _ _ hk)
end
abbrev vT(h:Heap)(o1:Obj):Heap:=h.push o1
abbrev wB(h:Heap)(o1 o2:Obj):Heap:=(vT h o1).push o2
abbrev vZ(h:Heap)(o1 o2:Obj):Heap:=(wB h o1 o2).push {cls:=.type "tuple",data:=.seq #[.ref h.objs.size,.ref (vT h o1).objs.size]}
abbrev vQ(h:Heap)(o1 o2:Obj):Heap:=(vZ h o1 o2).push {cls:=.type "tuple",data:=.seq #[.none,.none]}
abbrev qA(h:Heap)(o1 o2:Obj):Heap:=(vQ h o1 o2).push {cls:=.type "zip",data:=.fields #[.none,.bool false,.bool false,.ref (wB h o1 o2).objs.size,.ref (vZ h o1 o2).objs.size]}
def rX(l:Addr)(o:Obj)(G:Heap->Prop):Prop:=
 ∀(prog:Program)(w:ao)(A:aq)(E:Value->aa->Prop)(s:aa)(Q:Value->aa->Prop),G s.heap->Q (.ref s.heap.objs.size) {s with heap:=s.heap.push o}->wpAny (model prog w) A (pyIter (.ref l)) Q E s
theorem Nt(l1 l2:Addr)(o1 o2:Obj)(G1 G2:Heap->Prop)(p1:rX l1 o1 G1)(p2:rX l2 o2 G2)(k2:∀h,G2 h->G2 (h.push o1)):
  Meets (Builtin.«zip.__new__» ⟨[.type "zip",.ref l1,.ref l2],[]⟩) (λ_ R s=>G1 s.heap/\G2 s.heap/\R (.ok (.ret (.ref (vQ s.heap o1 o2).objs.size))) {s with heap:=qA s.heap o1 o2}):=
 .of_wp λprog w A R s h=>by
  obtain⟨hp,g,d,tk,os⟩:=s;obtain⟨g1,g2,h⟩:=h;have hsub:=sub_zip;have q1:=λ(A':aq) (E':Value->aa->Prop) (Q':Value->aa->Prop)=>p1 prog w A' E' ⟨hp,g,d,tk,os⟩ Q' g1;have q2:=λ(A':aq) (E':Value->aa->Prop) (Q':Value->aa->Prop)=>p2 prog w A' E' ⟨hp.push o1,g,d,tk,os⟩ Q' (k2 _ g2)
  wp_walk using q1 _ _ _,q2 _ _ _
  exact⟨_,rfl,h⟩
theorem Gq{prog:Program}{w:ao}{A:aq}{E:Value->aa->Prop}{s:aa}{l1 l2:Addr}{o1 o2:Obj}{G1 G2:Heap->Prop}{Q:Value->aa->Prop}(p1:rX l1 o1 G1)(p2:rX l2 o2 G2)(k2:∀h,G2 h->G2 (h.push o1))(g1:G1 s.heap)(g2:G2 s.heap)
  (f1:o1.isFreed=false)(f2:o2.isFreed=false)
  (h:∀h',fg h' (s.heap.objs.size+4) (s.heap.objs.size+2) (s.heap.objs.size+3) .none->df h' (s.heap.objs.size+2) (.ref s.heap.objs.size) (.ref (s.heap.objs.size+1))->df h' (s.heap.objs.size+3) .none .none->
   h'.get? s.heap.objs.size=some o1->h'.get? (s.heap.objs.size+1)=some o2->(∀c o,s.heap.get? c=some o->h'.get? c=some o)->Q (.ref (s.heap.objs.size+4)) {s with heap:=h'}):
  wpAny (model prog w) A (call (.type "zip") [.ref l1,.ref l2]) Q E s:=by
 refine callType_new F.called_zip (by decide) (F.typeCall_zip_2 _ _) (F.newCall_zip_2 _ _) (λobj=>F.args_object_init_3 obj _ _) F.entry_zip_new (Nt l1 l2 o1 o2 G1 G2 p1 p2 k2) ⟨g1,g2,?_⟩;have e1:(vT s.heap o1).objs.size=s.heap.objs.size+1:=jz ..;have e2:(wB s.heap o1 o2).objs.size=s.heap.objs.size+2:=by rw[jz,e1]
 have e3:(vZ s.heap o1 o2).objs.size=s.heap.objs.size+3:=by rw[jz,e2]
 have e4:(vQ s.heap o1 o2).objs.size=s.heap.objs.size+4:=by rw[jz,e3]
 have r5:(qA s.heap o1 o2).get? (vQ s.heap o1 o2).objs.size=some _:=dl _ rfl;have r4:(qA s.heap o1 o2).get? (vZ s.heap o1 o2).objs.size=some _:=aw _ (dl _ rfl);have r3:(qA s.heap o1 o2).get? (wB s.heap o1 o2).objs.size=some _:=aw _ (aw _ (dl _ rfl));have r2:(qA s.heap o1 o2).get? (vT s.heap o1).objs.size=some o2:=aw _ (aw _ (aw _ (dl _ f2)));have r1:(qA s.heap o1 o2).get? s.heap.objs.size=some o1:=aw _ (aw _ (aw _ (aw _ (dl _ f1))));show _/\_;rw[e2,e3,e4]at r5;rw[e1,e2]at r3;rw[e3]at r4;rw[e1]at r2;rw[e4];exact⟨⟨_,r5,rfl⟩,h _ r5 r3 r4 r1 r2 λc o q=>aw _ (aw _ (aw _ (aw _ (aw _ q))))⟩
def iW(f:Bool)(K:ae)(H:Hp)(a:Addr)(xs:List V):Prop:=match f with
 |true=>dD K H a xs
 |false=>cF K H a xs
def lV(f:Bool)(it a:Addr)(i:Nat)(h:Heap):Prop:=match f with
 |true=>h.IsTupleIter it a i
 |false=>h.IsListIter it a i
def pW(f:Bool)(a:Addr)(items:Array Value)(h:Heap):Prop:=match f with
 |true=>h.IsTuple a items
 |false=>h.IsList a items
def Zb(f:Bool)(a:Addr):Obj:=match f with
 |true=>{cls:=.type "tuple_iterator",data:=.fields #[.ref a,.int 0 0]}
 |false=>{cls:=.type "list_iterator",data:=.fields #[.ref a,.int 0 0]}
section
variable{X:Cx}{AR:List (Addr×Obj)}{σ:St}{H:Hp}{s:aa}{a:Addr}{xs ys:List V}{f:Bool}
theorem aH.seqF(I:aH X AR σ H s)(h:iW f X.K H a xs):∃its:AH,bH xs its/\pW f a its.toArray s.heap/\xs.length<=sizeLine:=by
 cases f with
 |true=>
  obtain⟨its,r,p,z⟩:=I.tuple h;exact⟨its,r,p,z⟩
 |false=>
  obtain⟨its,r,p,z⟩:=I.list h;exact⟨its,r,p.isList,z⟩
theorem aH.seqF_inj(I:aH X AR σ H s)(h:iW f X.K H a xs)(h':iW f X.K H a ys):xs=ys:=by
 cases f with
 |true=>exact I.tuple_inj h h'
 |false=>exact I.list_inj h h'
theorem aH.apart{b:Addr}(I:aH X AR σ H s)(fb:eN X AR H b)(h:iW f X.K H a xs):a≠b:=by
 have viaK:∀{o:Obj},X.K.lookup a=some o->a≠b:=λ{o} q e=>by
  have hb:X.base.get? b=some o:=e▸I.ok.mod.kin a o q;rcases fb.2.2.2.1 with z |z
  .exact I.ok.noex b o hb z
  .exact absurd (br (ax (I.ok.bs b o hb).1) z) (fj _)
 cases f with
 |true=>
  rcases h with(h |⟨o,h⟩) |⟨o,_,_,q,_⟩
  .exact fU h fb.1
  .exact fU h fb.1
  .exact viaK q
 |false=>
  rcases h with(h |⟨o,h⟩) |⟨o,_,_,q,_⟩
  .exact fU h fb.1
  .exact fU h fb.1
  .exact viaK q
end
theorem uM{prog:Program}{w:ao}{A:aq}(f:Bool)(hh:A.handled=none)(it a:Addr)(hne:a≠it)(items:Array Value):
  jf prog w A it [it,a] items.size (λi v=>items[i]?=some v) (λi h=>lV f it a i h/\pW f a items h):=by
 cases f with
 |true=>exact Ov hh it a hne items
 |false=>exact Draws.list hh it a hne items
theorem Mn(f:Bool)(a:Addr)(items:Array Value):rX a (Zb f a) (pW f a items):=by
 cases f with
 |true=>exact λprog w A E s Q g q=>a5 g q
 |false=>exact λprog w A E s Q g q=>qt g q
theorem lV.keep{f:Bool}{it a:Addr}{i:Nat}{h h':Heap}(x:lV f it a i h)(k:∀o,h.get? it=some o->h'.get? it=some o):lV f it a i h':=by
 cases f with
 |true=>obtain⟨o,e,r⟩:=x;exact⟨o,k o e,r⟩
 |false=>obtain⟨o,e,r⟩:=x;exact⟨o,k o e,r⟩
theorem pW.keep{f:Bool}{a:Addr}{items:Array Value}{h h':Heap}(x:pW f a items h)(k:∀o,h.get? a=some o->h'.get? a=some o):pW f a items h':=by
 cases f with
 |true=>obtain⟨o,e,r⟩:=x;exact⟨o,k o e,r⟩
 |false=>obtain⟨o,e,r⟩:=x;exact⟨o,k o e,r⟩
theorem lV.obj{f:Bool}{it a:Addr}{i:Nat}{h:Heap}(x:lV f it a i h):∃o,h.get? it=some o/\∀v,o.data≠.cell v:=by
 cases f with
 |true=>obtain⟨o,e,_,d⟩:=x;exact⟨o,e,λv z=>by rw[d]at z;cases z⟩
 |false=>obtain⟨o,e,_,d⟩:=x;exact⟨o,e,λv z=>by rw[d]at z;cases z⟩
theorem Ig(f:Bool)(a it:Addr){h:Heap}(e:h.get? it=some (Zb f a)):lV f it a 0 h:=by
 cases f with
 |true=>exact⟨_,e,rfl,rfl⟩
 |false=>exact⟨_,e,rfl,rfl⟩
theorem Pi(f:Bool)(a:Addr):(Zb f a).isFreed=false:=by cases f<;>rfl
def Qo (K : ae) (f1 : Bool) (a : Addr) (f2 : Bool) (b : Addr) : It :=
  ⟨λi H => ∃ xs ys x y, iW f1 K H a xs ∧ iW f2 K H b ys ∧ xs[i]? = some x ∧ ys[i]? = some y,
   λi H v H' => ∃ p x y, H p = none ∧ v = .ref p ∧ H' = bE H p (.tup [x, y]) ∧ (∀ xs, iW f1 K H a xs → xs[i]? = some x) ∧ ∀ ys, iW f2 K H b ys → ys[i]? = some y,
   λi H => ∃ xs ys, iW f1 K H a xs ∧ iW f2 K H b ys ∧ (i = xs.length ∨ (i < xs.length ∧ i = ys.length))⟩
structure wE(z TI TO i1 i2:Addr):Prop where
 tiz:TI≠z
 toz:TO≠z
 i1z:i1≠z
 i2z:i2≠z
 tito:TI≠TO
 ti1:TI≠i1
 ti2:TI≠i2
 to1:TO≠i1
 to2:TO≠i2
 i12:i1≠i2
theorem wE.ap{z TI TO i1 i2 a b:Addr}(r:wE z TI TO i1 i2)(h:∀c∈[z,TI,TO,i1,i2],a≠c)(g:∀c∈[z,TI,TO,i1,i2],b≠c):sE z TI TO i1 i2 [i1,a] [i2,b] where
 tiz:=r.tiz
 toz:=r.toz
 tito:=r.tito
 ti1:=r.ti1
 ti2:=r.ti2
 z1:=λq=>by simp at q;rcases q with q |q;exact r.i1z q.symm;exact h z (by simp) q.symm
 z2:=λq=>by simp at q;rcases q with q |q;exact r.i2z q.symm;exact g z (by simp) q.symm
 to1:=λq=>by simp at q;rcases q with q |q;exact r.to1 q;exact h TO (by simp) q.symm
 to2:=λq=>by simp at q;rcases q with q |q;exact r.to2 q;exact g TO (by simp) q.symm
 i12:=λq=>by simp at q;rcases q with q |q;exact r.i12 q;exact g i1 (by simp) q.symm
 i21:=λq=>by simp at q;rcases q with q |q;exact r.i12 q.symm;exact h i2 (by simp) q.symm
 m1:=by simp
 m2:=by simp
theorem Vu{P:Program}{w:ao}{K:ae}{elts:List af}{x1:Nat}{tp:ah}(f1 f2:Bool)(a b z TI TO i1 i2:Addr)(zr:wE z TI TO i1 i2):
  nU P w K (.Tuple elts x1 tp) (Qo K f1 a f2 b) [z,TI,TO,i1,i2] z (λi h=>fg h z TI TO .none/\df h TI (.ref i1) (.ref i2)/\(∃u v,df h TO u v)/\lV f1 i1 a i h/\lV f2 i2 b i h) where
 mem:=by simp
 obj:=λi h st c hc=>by
  obtain⟨e1,e2,⟨u,v,e3⟩,e4,e5⟩:=st;simp at hc;rcases hc with q |q |q |q |q
  .subst q
   exact⟨_,e1,λv z=>nomatch z⟩
  .subst q
   exact⟨_,e2,λv z=>nomatch z⟩
  .subst q
   exact⟨_,e3,λv z=>nomatch z⟩
  .subst q
   exact e4.obj
  .subst q
   exact e5.obj
 keep:=λi h h' st k=>by
  obtain⟨e1,e2,⟨u,v,e3⟩,e4,e5⟩:=st;exact⟨k z (by simp) _ e1,k TI (by simp) _ e2,⟨u,v,k TO (by simp) _ e3⟩,e4.keep λo q=>k i1 (by simp) o q,e5.keep λo q=>k i2 (by simp) o q⟩
 item:=by
  intro X hP hw hK hc i AR s σ H E I hf st hg;subst hP hw hK;obtain⟨xs,ys,x,y,hx,hy,ex,ey⟩:=hg;obtain⟨its,r1,p1,_⟩:=I.seqF hx;obtain⟨jts,r2,p2,_⟩:=I.seqF hy;obtain⟨ux,gx,rx⟩:=r1.get ex;obtain⟨uy,gy,ry⟩:=r2.get ey;obtain⟨e1,e2,⟨u,v,e3⟩,e4,e5⟩:=st;have na:∀c∈[z,TI,TO,i1,i2],a≠c:=λc hc=>I.apart (hf c hc) hx;have nb:∀c∈[z,TI,TO,i1,i2],b≠c:=λc hc=>I.apart (hf c hc) hy;have hd:X.A.in1.handled=none:=I.ok.hd hc;have D1:=uM (prog:=X.prog) (w:=X.w) f1 hd i1 a (na i1 (by simp)) its.toArray;have D2:=uM (prog:=X.prog) (w:=X.w) f2 hd i2 b (nb i2 (by simp)) jts.toArray;refine Yq D1 D2 (zr.ap na nb) e1 e2 e3 ⟨e4,p1⟩ ⟨e5,p2⟩ (db.mp gx).1 (db.mp gy).1 λh1 tk vx vy px py q1 q2 q3 q4 q5 k1=>⟨_,rfl,?_⟩;have ex':vx=ux:=by
   have:its[i]?=some vx:=by simpa using px
   rw[gx]at this;exact(cf this).symm
  have ey':vy=uy:=by
   have:jts[i]?=some vy:=by simpa using py
   rw[gy]at this;exact(cf this).symm
  subst ex' ey';have lt:∀c∈[z,TI,TO,i1,i2],c≠s.heap.objs.size:=λc hc=>by
   have:∃o,s.heap.get? c=some o:=by
    simp at hc;rcases hc with q |q |q |q |q
    .exact⟨_,q▸e1⟩
    .exact⟨_,q▸e2⟩
    .exact⟨_,q▸e3⟩
    .obtain⟨o,ho,_⟩:=e4.obj
     exact⟨o,q▸ho⟩
    .obtain⟨o,ho,_⟩:=e5.obj
     exact⟨o,q▸ho⟩
   obtain⟨o,ho⟩:=this;exact ck (ax ho)
  refine wpAny_letOwnedTupleGo_zip (s:={s with heap:=h1,toks:=tk}) q1 λh2 z2 sb2=>?_;have t2:h2.get? s.heap.objs.size=some {cls:=.type "tuple",data:=.seq #[vx,vy]}:=(sb2.2 _ (lt z (by simp)).symm).trans q5;have I2:aH X AR σ (bE H s.heap.objs.size (.tup [x,y])) {s with heap:=h2,toks:=tk}:=
   I.turnedNew hf (λc o hc q=>(sb2.2 c (λe=>hc (by simp[e]))).trans (k1 c o (λe=>hc (by simp[e])) (λe=>hc (by simp[e])) (λe=>hc (by simp[e])) (λe=>hc (by simp[e])) q)) (am _)
    ⟨by show 2<=sizeLine;decide,[vx,vy],.cons rx (.cons ry .nil),⟨_,t2,rfl,_,rfl⟩⟩
  refine⟨.ref s.heap.objs.size,_,I2,rfl,⟨_,x,y,I.hok.fresh (am _),rfl,rfl,λzs hz=>by rw[I.seqF_inj hz hx];exact ex,λzs hz=>by rw[I.seqF_inj hz hy];exact ey⟩,
   ⟨z2,(sb2.2 _ zr.tiz).trans (k1 _ _ zr.tiz zr.tito zr.ti1 zr.ti2 e2),⟨_,_,(sb2.2 _ zr.toz).trans q2⟩,q3.1.keep λo q=>(sb2.2 _ zr.i1z).trans q,q4.1.keep λo q=>(sb2.2 _ zr.i2z).trans q⟩,λc hc=>?_⟩
  rw[cQ (lt c hc)];exact(hf c hc).1
 done:=by
  intro X hP hw hK hc i AR s σ H E I hf st hg;subst hP hw hK;obtain⟨xs,ys,hx,hy,fin⟩:=hg;obtain⟨its,r1,p1,_⟩:=I.seqF hx;obtain⟨jts,r2,p2,_⟩:=I.seqF hy;have l1:=r1.length;have l2:=r2.length;obtain⟨e1,e2,⟨u,v,e3⟩,e4,e5⟩:=st;have na:∀c∈[z,TI,TO,i1,i2],a≠c:=λc hc=>I.apart (hf c hc) hx;have nb:∀c∈[z,TI,TO,i1,i2],b≠c:=λc hc=>I.apart (hf c hc) hy;have hd:X.A.in1.handled=none:=I.ok.hd hc;have D1:=uM (prog:=X.prog) (w:=X.w) f1 hd i1 a (na i1 (by simp)) its.toArray;have D2:=uM (prog:=X.prog) (w:=X.w) f2 hd i2 b (nb i2 (by simp)) jts.toArray;refine Fp D1 D2 (zr.ap na nb) e1 e2 e3 ⟨e4,p1⟩ ⟨e5,p2⟩ (by rw[ay,ay,<-l1,<-l2];exact fin) λh' tk k=>⟨rfl,?_⟩;exact I.turnedL hf λc o hc q=>k c o (λe=>hc (by simp[e])) (λe=>hc (by simp[e])) (λe=>hc (by simp[e])) (λe=>hc (by simp[e])) q
 self:=λ_ _ _ _ _ st h=>wpAny_pyIter_zip st.1 h
section
variable{X:Cx}{elts:List af}{x1:Nat}{tp:ah}
def aap(K:ae)(tl:TA):TI:=λσ H R=>tl σ H λvs H1=>∃f1 a f2 b xs ys,vs=[.ref a,.ref b]/\iW f1 K H1 a xs/\iW f2 K H1 b ys/\R (Qo K f1 a f2 b) H1
theorem N6{l r:af}{tl:TA}{p pos:ah}(hg:Gl X "zip")(hm:X.mg "zip"=none)(hl:PA X [l,r] tl)(hs:starEach [l,r] X.env=[(false,eval l X.env),(false,eval r X.env)]:=by rfl)(hs2:starEach [r] X.env=[(false,eval r X.env)]:=by rfl):
  PI X (.Tuple elts x1 tp) (.Call (.Name "zip" p) [l,r] [] pos) (aap X.K tl):=by
 intro AR s σ H R I h;refine Call_ (oY I hg hm boot_zip (qg (bF (hl pos AR s σ H _ I h) λus s1 hq=>?_) (by rw[hs,hs2]) (by rw[hs2];rfl)));rcases hq with⟨vs,H1,I1,r1,q1⟩;obtain⟨f1,a,f2,b,xs,ys,rfl,hx,hy,q⟩:=q1;obtain⟨u,v,rfl,ru,rv⟩:=Pa r1;cases ru;cases rv;obtain⟨its,_,p1,_⟩:=I1.seqF hx;obtain⟨jts,_,p2,_⟩:=I1.seqF hy;refine Gq (Mn f1 a its.toArray) (Mn f2 b jts.toArray) (λh g=>g.keep λo z=>aw _ z) p1 p2 (Pi _ _) (Pi _ _) λh' e1 e2 e3 e4 e5 k=>?_;refine wpAny_pyIter_zip (s:={s1 with heap:=h'}) e1 ?_;have zr:wE (s1.heap.objs.size+4) (s1.heap.objs.size+2) (s1.heap.objs.size+3) s1.heap.objs.size (s1.heap.objs.size+1):=by
  generalize s1.heap.objs.size=n;have g:∀i j:Nat,i≠j->((n:Nat)+i:Nat)≠n+j:=λi j h=>by omega
  exact⟨g 2 4 (by decide),g 3 4 (by decide),g 0 4 (by decide),g 1 4 (by decide),g 2 3 (by decide),g 2 0 (by decide),g 2 1 (by decide),g 3 0 (by decide),g 3 1 (by decide),g 0 1 (by decide)⟩
 refine⟨_,[s1.heap.objs.size+4,s1.heap.objs.size+2,s1.heap.objs.size+3,s1.heap.objs.size,s1.heap.objs.size+1],_,_,H1,rfl,I1.kept (t':=s1.toks) k,Vu f1 f2 a b _ _ _ _ _ zr,⟨e1,e2,⟨_,_,e3⟩,Ig f1 a _ e4,Ig f2 b _ e5⟩,λc hc=>?_,q⟩;have hb:s1.heap.objs.size<=c:=by
  simp only[cu,pe,or_false]at hc;rcases hc with q |q |q |q |q
  all_goals rw[q]
  all_goals first |exact am _ |exact Nat.le_add_right _ _
 exact I1.fpOk hb (I1.hok.fresh hb)
end
theorem R6(K:ae):fv K (.type "int") (.type "bool")=some false:=by
 unfold fv PySem.W.kitCls;rw[if_neg (by decide)];show(if PySem.W.kitMeta "bool"=true then PySem.W.subIn K (.type "int") (.type "bool")else none)=some false;rw[if_pos (by decide+kernel)];show(fastBuiltinMro "int").map (·.contains (.type "bool"))=some false;decide+kernel
structure lO(K:ae)(x qual:Str)(st:Stmt)(f:Addr)(fd:bh)(ds:Array Value):Prop where
 ex:∃(oc:Value)(od:AJ)(T:Addr)(oT:Obj)(n:Nat)(kV doc pm:Value)(an:AJ)(cdv ct:Value)(osl:Array AI),
  fd=dj x qual (fW st) (dZ st) (cN st) (.ref T) kV doc pm an cdv ct/\K.lookup f=some ⟨oc,od,.func fd,osl⟩/\jc K cdv qual=true/\K.lookup T=some oT/\oT.data=.seq ds n
 kp:de K (.ref f)=true
section
variable{P:Program}{w:ao}{K:ae}{mg:Str->AI}{base:Heap}
theorem lO.binds{x qual:Str}{st:Stmt}{f:Addr}{fd:bh}{ds:Array Value}{ps:List Str}{dd:AH}(F:lO K x qual st f fd ds)
  (h:∀(T:Addr)(kV doc pm:Value)(an:AJ)(cdv ct:Value)(us:AH),(us++dd).length=ps.length->
   ∃k,bindArgs (dj x qual (fW st) (dZ st) (cN st) (.ref T) kV doc pm an cdv ct) ⟨us,[]⟩=seqItems? (.ref T) >>= k/\k (some ds)=pure (ps.zip (us++dd))):fO K fd ps dd:=by
 obtain⟨oc,od,T,oT,n,kV,doc,pm,an,cdv,ct,osl,rfl,lk,hcd,lT,hT⟩:=F.ex;intro s us hK hl;obtain⟨k,h1,h2⟩:=h T kV doc pm an cdv ct us hl;exact PySem.W.binds_K hK rfl lT hT h1 h2
theorem Jj{x qual:Str}{st:Stmt}{f T:Addr}{oT:Obj}{n:Nat}{ds:Array Value}{oc:Value}{od an:AJ}{osl:Array AI}{kV doc pm cdv ct:Value}(l:K.lookup f=some ⟨oc,od,.func (dj x qual (fW st) (dZ st) (cN st) (.ref T) kV doc pm an cdv ct),osl⟩)
  (c:jc K cdv qual=true)(k:de K (.ref f)=true)(lT:K.lookup T=some oT)(hT:oT.data=.seq ds n):lO K x qual st f (dj x qual (fW st) (dZ st) (cN st) (.ref T) kV doc pm an cdv ct) ds:=
 ⟨⟨oc,od,T,oT,n,kV,doc,pm,an,cdv,ct,osl,rfl,l,c,lT,hT⟩,k⟩
end
theorem Zl{X:Cx}{sc:Scope}{own:List Str}{cap:List (Nat×Str)}(so:Scope)(N:List Str)(hso:X.env.scope=so)(hN:X.N=N)(kind:sc.kind=.function)(names:∀y∈sc.names,y.2=.local->sc.names.lookup y.1=some .local)
  (nocell:∀y∈sc.names,y.2≠.cell)(free:∀y∈sc.names,y.2=.free->so.names.lookup y.1=some .cell)(at':∀p∈cap,N[p.1]?=some p.2)(hcap:∀p∈cap,sc.names.lookup p.2=some .free):gG X sc own cap:=
 ⟨kind,names,nocell,λy hy e=>by show X.env.scope.names.lookup y.1=_;rw[hso];exact free y hy e,λp hp=>by rw[hN];exact at' p hp,hcap⟩
theorem yN(n d:Nat):HT.sIx (n+1) d (some (-1))=n:=by
 unfold HT.sIx;simp;omega
section
variable{X:Cx}
end
theorem eY.has{P:Program}{w:ao}{H:Hp}{h:Heap}{a:Addr}{o:HO}(x:eY P w H h a o):∃u,h.get? a=some u:=by
 cases o with
 |lst xs=>obtain⟨_,_,_,_,e⟩:=x;exact⟨_,e⟩
 |tup xs=>obtain⟨_,_,_,u,e,_⟩:=x;exact⟨u,e⟩
 |dK kvs=>obtain⟨_,_,_,_,o,_,_,e,_⟩:=x;exact⟨_,e⟩
 |dT kvs=>obtain⟨_,_,_,_,o,_,_,e,_⟩:=x;exact⟨_,e⟩
 |set S n=>obtain⟨o,_,_,_,e,_⟩:=x;exact⟨_,e⟩
 |ins C dx fs=>obtain⟨_,_,_,e,_⟩:=x;exact⟨_,e⟩
 |own y=>exact x
 |xd fs=>obtain⟨_,⟨_,_,_,e,_⟩,_⟩:=x;exact⟨_,e⟩
 |rng lo hi=>obtain⟨_,_,_,e⟩:=x;exact⟨_,e⟩
 |frz ob u=>obtain⟨e,_⟩:=x;exact⟨_,e⟩
 |tbl ps=>exact⟨_,show h.get? a=some _ from x⟩
 |met f y=>exact⟨_,show h.get? a=some _ from x⟩
 |ext φ=>exact x.2.1
abbrev eW:AH:=[.type "ValueError",.type "Exception",.type "BaseException",.type "object"]
theorem zJ{K:ae}{h:Heap}{C:Addr}{bmB:AH}{newId:String}(X:K.In h)(q:cw K C bmB newId=true):
  ∃bm N nm qn bs hdct sn sub ab col dd k0 k1 k2 k3 k5 mN,h.get? C=some (excClassObj nm qn C N bs bm hdct sn sub ab col dd k0 k1 k2 k3 k5 newId)/\h.Ns N mN/\mN "__init__"=none/\OwnTail h bmB bm:=by
 unfold cw at q;split at q
 .rename_i dd cd sl ho
  split at q
  .rename_i C' bm k0 k1 k2 k3 n k5 hm hs
   simp only[ee,beq_iff_eq,a6]at q;obtain⟨⟨⟨⟨⟨z1,z2⟩,hdel⟩,ht⟩,hok⟩,hni⟩:=q;subst z1 z2;obtain⟨nm,bs,mro,ns,qn,hd,sn,sub,ab,col,del⟩:=cd;dsimp only at hm hdel hok hni;subst hm hdel;have hsl:sl=#[k0,k1,k2,k3,some (.builtin n),k5]:=by
    obtain⟨l⟩:=sl;simp only at hs;rw[hs]
   subst hsl;refine⟨bm,ns,nm,qn,bs,hd,sn,sub,ab,col,dd,k0,k1,k2,k3,k5,_,X _ _ ho,.of_isNs (PySem.W.isNs_of_in X hok),PySem.W.nsMap_none_of_in X hok hni,PySem.W.tail_of_in X ht⟩
  .cases q
 .cases q
def aQ(P:Program)(w:ao):iU:=λouter H s E e s'=>∃(x C t:Addr)(B:Heap)(H':Hp),e=.ref x/\s'.os=s.os/\gq s'.gens/\Un (cL outer) [] H H' s.heap s'.heap/\eG P w H' s'.heap/\
 Heap.FlyingW B outer x (.ref C) (.ref t) s'.heap/\(∀b o,s'.heap.get? b=some o->(∃u,H' b=some u)\/(∃o',s.heap.get? b=some o'/\b∉cL outer)->B.get? b=some o)/\E (.ref C) none H'
theorem Ey{P:Program}{w:ao}{K:ae}{mg:Str->AI}{base:Heap}{N:List Str}{qual:Str}{scope:Scope}{f:Addr}{cd:Value}{A:aq}{outer:List az}{AS:aa}{AT:Hp}{E:XK}
  {x:Str}{C:Addr}{sJ:Str}{j:Nat}{np p1 cpos pos:ah}(hg:Gl (aT (aQ P w) P w K mg base N qual scope f cd A outer AS AT E) x)(hm:mg x=some (.ref C))(hx:cw K C eW "ValueError.__new__"=true)
  (hd:(x==("__debug__":Str))=false:=by decide):
  PS (aT (aQ P w) P w K mg base N qual scope f cd A outer AS AT E) (.Raise (some (.Call (.Name x np) [.Constant (.str sJ) j p1] [] cpos)) none pos) (λ_ _ H=>E (.ref C) none H):=by
 intro AR s σ H D I h;obtain⟨bm,Nn,nm,qn,bs,hdct,sn,sub,ab,col,dd,k0,k1,k2,k3,k5,mN,hC,hN,hni,T⟩:=zJ I.ok.mod.kin hx;refine wpAny_Raise_call_subT (C:=C) (nm:=nm) (q:=qn) (N:=Nn) (bs:=bs) (bm:=bm) (hdct:=hdct) (sn:=sn) (sub:=sub) (ab:=ab) (col:=col) (dd:=dd) (k0:=k0) (k1:=k1) (k2:=k2) (k3:=k3) (k5:=k5)
  PySem.F.excBase_ValueError (mN:=mN) (T.hasType (by decide)) (I.ok.hd rfl) rfl hni (nI I hg hm ⟨rfl,?_⟩ hd)
 refine yx (bF ((iN Ml mL) cpos AR s σ H (λvs H1=>vs=[.str sJ]/\H1=H) I ⟨rfl,rfl⟩) λus s2 q2=>?_);obtain⟨vs,H2,I2,r2,rfl,rfl⟩:=q2;have l2:=r2.length;refine⟨rfl,by rw[<-l2];show 1<=sizeLine;decide,I2.bk _ _ hC,hN.keeps I2.bk,T.keeps I2.bk,λh' e made=>?_⟩
 --the frame is left
 have stk:(aT (aQ P w) P w K mg base N qual scope f cd A outer AS AT E).stack=envOfC qual scope AS.heap.objs.size f cd::outer:=rfl;have nfr:∀{b u},H2 b=some u->b∉cL (envOfC qual scope AS.heap.objs.size f cd::outer):=λ{b u} q z=>by
  rw[I2.stkFree b z]at q;cases q
 have nL:∀{b o},AS.heap.get? b=some o->b∉cL outer->b∉cL (envOfC qual scope AS.heap.objs.size f cd::outer):=λ{b o} q z y=>by
  rcases cu.mp (I2.stkSub b y)with g |g
  .exact absurd (br (ax q) I2.ok.above) (by rw[g];exact fj _)
  .exact z g
 refine wpAny_leaves_madeW (base:=uq s2.heap (cL (envOfC qual scope AS.heap.objs.size f cd::outer))) (h:=s2.heap) (s:={s2 with heap:=h'}) I2.ok.frames rfl (λb o q=>ye _ q)
  (PySem.W.funFrames_hide I2.stack λenv he b hb=>jh.mpr ⟨env,he,hb⟩) made λh'' t fl tup nb ups=>?_
 have keepB:∀b o,s2.heap.get? b=some o->b∉cL (envOfC qual scope AS.heap.objs.size f cd::outer)->h''.get? b=some o:=λb o q z=>fl.1 b o (ur _ q z);have upS:∀b o,s2.heap.get? b=some o->(∀vs,o.data≠.fields vs)->∃sl,h''.get? b=some {o with slots:=sl}:=λb o q z=>ups b o (made.keeps b o q) z;refine⟨e,C,t,_,H2,rfl,I2.os,I2.bare,⟨λb o q n hb _=>?_,λb o q n hb _=>?_,λb o q n _=>I2.base.free b o q n (by intro z;cases z),λb o q _=>?_,I2.base.tups,I2.base.frzs,I2.base.tbls⟩,λb u q=>?_,fl,λb o q z=>?_,h⟩
 .exact keepB b o (I2.base.keep b o q n hb (by intro z;cases z)) (nL q hb)
 .obtain⟨sl,g⟩:=I2.base.slot b o q n hb (by intro z;cases z)
  obtain⟨_,o',ho',hd'⟩:=I2.ok.funs.mem hb;have eo:o'=o:=by
   have ho2:AS.heap.get? b=some o':=ho';rw[q]at ho2;exact(cf ho2).symm
  subst eo;obtain⟨sl',g'⟩:=upS b _ g hd';exact⟨sl',g'⟩
 .obtain⟨o',g⟩:=I2.base.there b o q (by intro z;cases z)
  by_cases c:b∈cL (envOfC qual scope AS.heap.objs.size f cd::outer)
  .obtain⟨_,o2,ho2,hd2⟩:=I2.stack.mem c
   obtain⟨sl,g'⟩:=upS b o2 ho2 hd2;exact⟨_,g'⟩
  .exact⟨o',keepB b o' g c⟩
 .refine(I2.hok b u q).stay (λc v hc g=>keepB c v g ?_) (λ_ g=>g) λ_ _ g=>g
  rcases hc with z |z
  .rw[z]
   exact nfr q
  .exact nfr z
 .have go:∀{o2},s2.heap.get? b=some o2->b∉cL (envOfC qual scope AS.heap.objs.size f cd::outer)->(uq s2.heap (cL (envOfC qual scope AS.heap.objs.size f cd::outer))).get? b=some o:=λ{o2} g n=>by
   have:=keepB b o2 g n;have q':h''.get? b=some o:=q;rw[q']at this;cases this;exact ur _ g n
  rcases z with⟨u,z⟩|⟨o',z,nz⟩
  .obtain⟨o2,g⟩:=(I2.hok b u z).has
   exact go g (nfr z)
  .obtain⟨o2,g⟩:=I2.base.there b o' z (by intro z;cases z)
   exact go g (nL z nz)
section
variable{X:Cx}{AR:List (Addr×Obj)}{σ:St}{H H':Hp}{s s':aa}
theorem aH.flown{B h5:Heap}(I:aH X AR σ H s)(os:s'.os=s.os)(bare:gq s'.gens)(un:Un (cL X.stack) [] H H' s.heap s'.heap)(hok:eG X.prog X.w H' s'.heap)
  (cov:∀b o,s'.heap.get? b=some o->(∃u,H' b=some u)\/(∃o',s.heap.get? b=some o'/\b∉cL X.stack)->B.get? b=some o)(fr:∀b∈cL X.stack,H' b=none)
  (st:B.StaysIn h5)(up:s'.heap.UpToSlots h5):aH X AR σ H' {s' with heap:=h5}:=by
 have nofr:∀{b u},H' b=some u->b∉cL X.stack:=λ{b u} q z=>by
  rw[fr b z]at q;cases q
 have frame:∀b∈cL X.stack,∃o sl,s.heap.get? b=some o/\H b=none/\h5.get? b=some {o with slots:=sl}:=λb hb=>by
  obtain⟨_,o,ho,hd⟩:=I.stack.mem hb;have hn:=I.stkFree b hb;obtain⟨sl,g⟩:=un.slot b o ho hn hb (by intro z;cases z);obtain⟨sl',g'⟩:=up b _ g hd;exact⟨o,sl',ho,hn,g'⟩
 refine I.call' (s':={s' with heap:=h5}) (ch:=[]) os ⟨λb o q n hb _=>?_,λb o q n hb _=>?_,un.free,λb o q _=>?_,un.tups,un.frzs,un.tbls⟩ (λb u q=>?_) bare λb z=>nomatch z
 .exact st b o (cov b o (un.keep b o q n hb (by intro z;cases z)) (.inr ⟨o,q,hb⟩))
 .obtain⟨o',sl,g1,_,g2⟩:=frame b hb
  rw[q]at g1;cases g1;exact⟨sl,g2⟩
 .by_cases c:b∈cL X.stack
  .obtain⟨o',sl,_,_,g2⟩:=frame b c
   exact⟨_,g2⟩
  .obtain⟨o',g⟩:=un.there b o q (by intro z;cases z)
   exact⟨o',st b o' (cov b o' g (.inr ⟨o,q,c⟩))⟩
 .refine(hok b u q).stay (λc v hc g=>st c v (cov c v g (.inl ?_))) (λ_ g=>g) λ_ _ g=>g
  rcases hc with z |z
  .exact⟨u,by rw[z];exact q⟩
  .exact⟨_,z⟩
end
section
variable{X:Cx}{k:Nat}{f:Addr}{fd:bh}{ps:List Str}{sp:Sp}{dvs:List V}{ds:AH}{E:XK}{x:Str}{p pos:ah}{e:af}{es:List af}{t:TA}
theorem Gy{AR:List (Addr×Obj)}{σ:St}{H:Hp}{s:aa}{Q:VK}{us:AH}{vs:List V}{Ex:Value->aa->Prop}(F:dJ X.prog X.w X.K X.mg X.base (aQ X.prog X.w) k f fd ps sp)(hr:cU k X.A)(hb:fO X.K fd ps ds)(hd:bH dvs ds)
  (I:aH X AR σ H s)(r:bH vs us)(h:sp (vs++dvs) H Q E)(hx:∀e s',aQ X.prog X.w X.stack H s E e s'->Ex e s'):wpAny (model X.prog X.w) X.A (call (.ref f) us) (EP X AR σ Q) Ex s:=by
 have r2:bH (vs++dvs) (us++ds):=r.append hd;have hl:(us++ds).length=ps.length:=by rw[<-r2.length];exact F.len _ _ _ _ h
 refine wpAny_call (ko (F.run X.A X.stack s H ⟨us,[]⟩ (us++ds) (vs++dvs) Q E hr I.env0 (hb s us I.kIn hl) r2 h) λrr s' hq=>?_);cases rr with
 |error e=>exact hx e s' hq
 |ok fl=>
  cases fl with
  |ret u=>exact I.after hq
  |next=>exact fh hq
  |brk=>exact fh hq
  |cont=>exact fh hq
theorem Rx{AR:List (Addr×Obj)}{σ:St}{H:Hp}{s:aa}{Q:VK}{Ex:Value->aa->Prop}(hxe:X.xe=λ_ _=>False)(F:dJ X.prog X.w X.K X.mg X.base (aQ X.prog X.w) k f fd ps sp)(hr:cU k X.A)(hg:Gl X x)(hm:X.mg x=some (.ref f))(hk:de X.K (.ref f)=true)
  (hb:fO X.K fd ps ds)(hd:bH dvs ds)(ha:PA X (e::es) t)(I:aH X AR σ H s)(h:t σ H λvs H1=>sp (vs++dvs) H1 Q E)
  (hx:∀s1 H1 e s',aH X AR σ H1 s1->aQ X.prog X.w X.stack H1 s1 E e s'->Ex e s')
  (hdb:(x==("__debug__":Str))=false:=by decide)(he:starEach (e::es) X.env=(false,eval e X.env)::starEach es X.env:=by rfl)(hpl:(backTo pos (starEach es X.env)).any (·.1)=false:=by rfl):
  wpAny (model X.prog X.w) X.A (eval (.Call (.Name x p) (e::es) [] pos) X.env) (EP X AR σ Q) Ex s:=by
 refine qi (nI I hg hm ?_ hdb);refine ym (h₀:=X.base) I.ok.mod.kin hk (cy (ha pos AR s σ H _ I h) (λus s1 q1=>?_) λ_ _ z=>?_) he hpl
 .obtain⟨vs,H1,I1,r,q⟩:=q1
  exact⟨I1.kIn,Gy F hr hb hd I1 r q λe s' c=>hx s1 H1 e s' I1 c⟩
 .rw[hxe]at z
  exact z.elim
end
section
variable{P:Program}{w:ao}{K:ae}{mg:Str->AI}{base:Heap}{CX:iU}
theorem iX.okX{x qual:Str}{st:Stmt}{f:Addr}{fd:bh}{N ps:List Str}{k:Nat}{sp:Sp}(F:iX K x qual st f fd)(S:iY N ps (cN st))(len:∀vs H Q E,sp vs H Q E->vs.length=ps.length)
  (hbody:∀(cdv:Value)(A:aq)(outer:List az)(s:aa)(H:Hp)(vs:List V)(Q:VK)(E:XK),cU k (A.deeper (envOfC qual (cN st) s.heap.objs.size f cdv))->sp vs H Q E->
   ∃t,eO (aT CX P w K mg base N qual (cN st) f cdv A outer s H E) (dZ st) t/\t {nx:=λ_ H'=>Q .non H',rt:=Q} (start N vs) H):dJ P w K mg base CX (k+1) f fd ps sp:=by
 obtain⟨oc,od,kV,doc,pm,an,cdv,ct,osl,rfl,lk,hcd⟩:=F.ex;exact Bb lk hcd S len λA outer s H vs Q E hr hsp=>hbody cdv A outer s H vs Q E hr hsp
theorem lO.okX{x qual:Str}{st:Stmt}{f:Addr}{fd:bh}{ds:Array Value}{N ps:List Str}{k:Nat}{sp:Sp}(F:lO K x qual st f fd ds)(S:iY N ps (cN st))(len:∀vs H Q E,sp vs H Q E->vs.length=ps.length)
  (hbody:∀(cdv:Value)(A:aq)(outer:List az)(s:aa)(H:Hp)(vs:List V)(Q:VK)(E:XK),cU k (A.deeper (envOfC qual (cN st) s.heap.objs.size f cdv))->sp vs H Q E->
   ∃t,eO (aT CX P w K mg base N qual (cN st) f cdv A outer s H E) (dZ st) t/\t {nx:=λ_ H'=>Q .non H',rt:=Q} (start N vs) H):dJ P w K mg base CX (k+1) f fd ps sp:=by
 obtain⟨oc,od,T,oT,n,kV,doc,pm,an,cdv,ct,osl,rfl,lk,hcd,_,_⟩:=F.ex;exact Bb lk hcd S len λA outer s H vs Q E hr hsp=>hbody cdv A outer s H vs Q E hr hsp
end
theorem W6{P:Program}{w:ao}{K:ae}{mg:Str->AI}{base:Heap}{N:List Str}{qual:Str}{scope:Scope}{f:Addr}{cd:Value}{A:aq}{outer:List az}{AS:aa}{AT:Hp}{E:XK}:
  iZ (aQ P w) (aT (aQ P w) P w K mg base N qual scope f cd A outer AS AT E) E:=by
 intro AR σ H s e s' I c;obtain⟨x,C,t,B,H',rfl,os,bare,un,hok,fl,cov,hE⟩:=c;have fr:∀b∈cL (aT (aQ P w) P w K mg base N qual scope f cd A outer AS AT E).stack,H' b=none:=λb hb=>by
  obtain⟨_,o,ho,hd⟩:=I.stack.mem hb;exact un.free b o ho (I.stkFree b hb) (by intro z;cases z)
 have nL:∀{b o},AS.heap.get? b=some o->b∉cL outer->b∉cL (envOfC qual scope AS.heap.objs.size f cd::outer):=λ{b o} q z y=>by
  rcases cu.mp (I.stkSub b y)with g |g
  .exact absurd (br (ax q) I.ok.above) (by rw[g];exact fj _)
  .exact z g
 refine wpAny_leaves_onW (base:=B) I.ok.frames rfl fl λh' fl' up=>?_;have I5:=I.flown os bare un hok cov fr fl'.1 up;refine⟨x,C,t,B,H',rfl,os.trans I.os,bare,I5.base,I5.hok,fl',λb o q z=>?_,hE⟩;have go:∀{o2},B.get? b=some o2->B.get? b=some o:=λ{o2} g=>by
  have:=fl'.1 b o2 g;have q':h'.get? b=some o:=q;rw[q']at this;cases this;exact g
 rcases z with⟨u,z⟩|⟨o',z,nz⟩
 .obtain⟨o2,g⟩:=(hok b u z).has
  exact go (cov b o2 g (.inl ⟨u,z⟩))
 .obtain⟨o2,g⟩:=I.base.there b o' z (by intro z;cases z)
  obtain⟨o3,g3⟩:=un.there b o2 g (by intro z;cases z);exact go (cov b o3 g3 (.inr ⟨o2,g,nL z nz⟩))
section
variable{X:Cx}{AR:List (Addr×Obj)}{σ:St}{H:Hp}{s:aa}
theorem lY{M:fk}{A:aq}{E:Value->aa->Prop}{i:Nat}{n:Str}{pos:ah}{Q:Unit->aa->Prop}(I:aH X AR σ H s)(hN:X.N.Nodup)(hi:X.N[i]?=some n)(hk:X.env.scope.names.lookup n=some .local)
  (h:∀s',aH X AR (σ.set i none) H s'->Q () s'):wpAny M A (do bindName X.env n cg;unbindBehindTheSuite X.env n pos) Q E s:=by
 obtain⟨m,hn,hl⟩:=id I.loc;have hcls:(X.env.scope.kind== .class||(X.env.scope.kind== .module&&X.env.locals !=X.env.globals))=false:=by rw[I.ok.kind];rfl
 have hiσ:i<σ.length:=by rw[I.len];exact(db.mp hi).1
 have cne:=I.cne;refine wpAny_nameGoes_keeps hk hn hcls λh' v hn' hs=>?_;obtain⟨oL,_,_,hoL,_⟩:=id hn;refine h _ ⟨I.ok,I.os,I.bare,⟨λb o e n hb hx=>?_,λb o e n hb hx=>?_,I.base.free,λb o e hx=>?_,I.base.tups,I.base.frzs,I.base.tbls⟩,⟨_,hn',λj y v' e1 e2 e3=>?_⟩,λy c e=>?_,I.free,I.freeC,λp hp=>?_,λb ob e=>?_,by simpa using I.len⟩
 .exact(hs.2 b (ck (br (ax e) I.ok.above))).trans (I.base.keep b o e n hb hx)
 .obtain⟨sl,e1⟩:=I.base.slot b o e n hb hx
  exact⟨sl,(hs.2 b (ck (br (ax e) I.ok.above))).trans e1⟩
 .obtain⟨o',e1⟩:=I.base.there b o e hx
  exact⟨o',(hs.2 b (ck (br (ax e) I.ok.above))).trans e1⟩
 .by_cases hj:j=i
  .subst hj
   rw[ij hiσ]at e2;cases e2
  .rw[jg (ig hj)]at e2
   obtain⟨u',r',q⟩:=hl j y v' e1 e2 e3;refine⟨u',r',?_⟩;rcases q with⟨k,e⟩|⟨k,c,e,z⟩
   .refine .inl ⟨k,?_⟩
    have:y≠n:=λe=>hj (yS hN e1 (e▸hi));simp[this,e]
   .exact .inr ⟨k,c,e,z.sameBut hs (cne y c e)⟩
 .obtain⟨w',z⟩:=I.cell y c e
  exact⟨w',z.sameBut hs (cne y c e)⟩
 .obtain⟨e,n,ne,nf,d⟩:=I.pin p hp
  exact⟨(hs.2 p.1 ne).trans e,n,ne,nf,d⟩
 .refine(I.hok b ob e).stay (λc w' hc q=>(hs.2 c ?_).trans q) (λ_ q=>q) λ_ _ q=>q
  have hfree:=I.free
  rintro rfl
  rcases hc with rfl |hc
  .rw[hfree]at e;cases e
  .rw[hfree]at hc;cases hc
end
abbrev Cx.mk1(X:Cx)(x:Addr)(l:List (Addr×Obj)):Cx:={X with A:=X.A.mark (some (.ref x)),calm:=false,pn:=l++X.pn,xe:=λ_ _=>False}
section
variable{X:Cx}{AR:List (Addr×Obj)}{σ:St}{H:Hp}{s:aa}
theorem Cx.Ok.mk1(ok:X.Ok)(x:Addr)(l:List (Addr×Obj)):(X.mk1 x l).Ok:=
 ⟨ok.mod,ok.kind,ok.glob,ok.blt,ok.above,ok.inj,ok.has,ok.cab,λz=>(by cases z),ok.frames,ok.stk,ok.exf,ok.bs,ok.bsz,ok.noex,ok.exfs,ok.funs,ok.frf⟩
theorem aH.mk1(I:aH X AR σ H s)(x:Addr)(l:List (Addr×Obj))(h:∀p∈l,s.heap.get? p.1=some p.2/\H p.1=none/\p.1≠X.env.locals/\p.1∉X.fs/\∀v,p.2.data≠.cell v):aH (X.mk1 x l) AR σ H s:=
 ⟨I.ok.mk1 x l,I.os,I.bare,I.base,I.loc,I.cell,I.free,I.freeC,λp hp=>by
  rw[kw]at hp;exact(cm.mp hp).elim (h p) (I.pin p),I.hok,I.len⟩
theorem aH.unmk1{x:Addr}{l:List (Addr×Obj)}(ok:X.Ok)(I:aH (X.mk1 x l) AR σ H s):aH X AR σ H s:=
 ⟨ok,I.os,I.bare,I.base,I.loc,I.cell,I.free,I.freeC,λp hp=>I.pin p (by rw[kw];exact cq _ hp),I.hok,I.len⟩
end
theorem zE{a b c:Heap}(h1:a.UpToSlots b)(h2:b.UpToSlots c):a.UpToSlots c:=λx o q d=>by
 obtain⟨sl,g⟩:=h1 x o q d;obtain⟨sl',g'⟩:=h2 x _ g d;exact⟨sl',g'⟩
section
variable{X:Cx}{k:Nat}{f:Addr}{fd:bh}{ps:List Str}{sp:Sp}{dvs:List V}{ds:AH}{x:Str}{p pos pos1 pos2 pos3 pc:ah}{e:af}{es:List af}{t:TA}{c n:Str}{C:Addr}{i:Nat}{AY:Stmt}{body:List Stmt}{newId:String}
end
open PySem.W PySem.Calls PySem.Builtin PySem.Builtin.Getset_descriptor
section
variable{prog:Program}{w:ao}{A:aq}{E:Value->aa->Prop}{s:aa}{K:ae}{x D:Addr}{B:String}{R:kn->aa->Prop}
def lE(h:Heap)(x D:Addr):Prop:=∃o,h.get? x=some o/\o.cls=.ref D
theorem lE.ty{M:fk}{h:Heap}(I:lE h x D):lc M h (typeOf (.ref x)) (.ref D):=by
 obtain⟨o,h1,h2⟩:=I;rw[<-h2];exact(ww h1).andThen .now
structure jL(K:ae)(D:Addr):Prop where
 ga:findIn K (.ref D) "__getattribute__"=some (some (.builtin "BaseException.__getattribute__"))
 gt:findIn K (.ref D) "__getattr__"=some none
 be:mroIn K D (.type "BaseException")=some true
 ob:mroIn K D (.type "object")=some true
 cl:findIn K (.ref D) "__class__"=some (some (.builtin "object.__class__"))
 sp:specialIn K (.builtin "object.__class__") "__get__"=some (some (.builtin "getset_descriptor.__get__"))
 tk:takesIn K (.builtin "object.__class__")=some true
 ci:(clsIn K D).isSome=true
theorem Lv{M:fk}{h:Heap}(Z:jL K D)(X:K.In h):lc M h (n8 (.ref x) (.ref D) "__class__") (.bind (.builtin "getset_descriptor.__get__") (.builtin "object.__class__")):=by
 have d:lc M h (n9 (some (.builtin "object.__class__")) (some (.builtin "getset_descriptor.__get__"))) (some (.builtin "getset_descriptor.__get__",.builtin "object.__class__")):=
  (looks_takesIn X Z.tk).andThen .now
 have g:lc M h (o0 (some (.builtin "object.__class__"))) (some (.builtin "getset_descriptor.__get__")):=looks_specialIn X Z.sp;exact(wx X Z.cl).andThen (g.andThen (d.andThen (Looks.tag .now)))
theorem F9{tp:Value}(Z:jL K D)(X:K.In s.heap)(I:lE s.heap x D)(h:R (.ok (.ret (.ref D))) s):
  codeAny (model prog w) A (.call (.builtin "getset_descriptor.__get__") ⟨[.builtin "object.__class__",.ref x,tp],[]⟩) R s:=by
 obtain⟨hh,g,dr,t,os⟩:=s;have l0:=I.ty (M:=model prog w);have l1:=rk (M:=model prog w) X Z.ob;refine a7 KF.slot_gs.plain KF.entry_gs
  (KF.slot_gs.check _ _ _ _ _ _ _ _ KF.type_class (KF.args_gs _ _ _) ?_)
 unfold Builtin.«getset_descriptor.__get__» descrGet;rw[dga_obj];refine ag (au ?_);unfold descrGetter descrCheckInstance descrNameAndClass isInstance;simp only[KF.owner_class];repeat lk
 refine⟨Code.quiet_builtin _ (by decide+kernel),
  codeAny_builtin KF.entry_class ?_⟩
 unfold Builtin.«object.__class__» shownTypeOf;repeat lk
 exact h
theorem K1{tk:dq}(FB:wy B)(Z:jL K D)(X:K.In s.heap)(I:lE s.heap x D)(h:R (.ok (.ret (.ref D))) s):
  codeAny (model prog w) A (.call (.builtin "BaseException.__getattribute__") ⟨[.ref x,.str "__class__" tk],[]⟩) R s:=by
 obtain⟨hh,g,d,t,os⟩:=s;have l0:=I.ty (M:=model prog w);have lb:=rk (M:=model prog w) X Z.be;have l1:=Lv (M:=model prog w) (x:=x) Z X;refine a7 FB.ga.plain F.entry_bexc_ga ?_;have e1:builtinKind "BaseException.__getattribute__"=some .slot:=by decide+kernel
 have e2:splitId "BaseException.__getattribute__"=some ("BaseException","__getattribute__"):=by decide+kernel
 have ha:=F.args_bexc_ga (.ref x) (.str "__class__" tk);simp only[checkBuiltinCall,e1,e2];refine ag ?_;unfold isInstance;refine ag (l0.at (lb.at ?_))
 repeat (any_goals (first |wp_step))
 obtain⟨o,h1,h2⟩:=id I;refine wpAny_loadPart h1 (au ?_);rw[h2];refine ag (l1.at ?_);unfold o4
 repeat (any_goals (first |wp_step))
 exact F9 Z X I (au h)
theorem Nu{Q:AI->aa->Prop}(FB:wy B)(Z:jL K D)(X:K.In s.heap)(I:lE s.heap x D)(h:Q (some (.ref D)) {s with toks:=s.toks+1}):
  wpAny (model prog w) A (getAttr? (.ref x) "__class__") Q E s:=by
 obtain⟨hh,g,d,t,os⟩:=s;have l0:=I.ty (M:=model prog w);have l1:=wx (M:=model prog w) X Z.ga;have l2:=wx (M:=model prog w) X Z.gt;have f3:=FB.ga.bind (.ref x);have e2:(a9 "BaseException.__getattribute__"==a9 "object.__getattribute__")=false:=by decide+kernel
 unfold getAttr? getAttrBy? getAttrBy;refine ag (wpAny_mkText (ag (oz (dw (ag (l0.at (ag (l1.at ?_))))))));dsimp only;rw[e2];simp only[c0,nj,if_false];unfold getAttrByItsOwn hookBefore onTheHeap;simp only[if_true];refine ag (l2.at ?_)
 repeat (any_goals (first |assumption |wp_step))
 refine K1 (s:=⟨hh,g,d,t+1,os⟩) FB Z X I ?_;exact handed_on rfl (au h)
theorem Xh(FB:wy B)(Z:jL K D):KitX K (.ref x) (.ref D) (λh=>lE h x D) where
 ty:=λ_ _ _ I=>I.ty
 it:=λ_ _ X _=>by
  obtain⟨cd,hc⟩:=qj.mp Z.ci;unfold clsIn at hc;split at hc
  .rename_i _ _ _ _ ho
   exact(ww (X _ _ ho)).andThen .now
  .cases hc
 ne:=λh tp dd its n sl X htp=>by
  obtain⟨cd,hc⟩:=qj.mp Z.ci;cases q:(dk D==dk tp)with
  |false=>rfl
  |true=>
   cases Value.ref.inj (beq_iff_eq.mp q);unfold clsIn at hc;split at hc
   .rename_i _ _ _ _ ho
    cases(X _ _ ho).symm.trans htp
   .cases hc
 ca:=λX I k=>Nu FB Z X I k
end
section
variable{X:Cx}{y D:Addr}{oe:Obj}
theorem yZ(Z:jL X.K D)(hp:(y,oe)∈X.pn)(hc:oe.cls=.ref D):gW X (.builtin "isinstance") (λxs H Q=>∃c b,((∃n,c=V.ty n/\fv X.K (.ref D) (.type n)=some b)\/∃C,c=V.ref C/\fv X.K (.ref D) (.ref C)=some b)/\xs=[.ref y,c]/\Q (.bl b) H):=by
 intro AR s σ H xs us Q I r h;obtain⟨c,b,e,rfl,q⟩:=h;obtain⟨u,c',rfl,rx,rc⟩:=Pa r;cases(show u=dk y from rx);have of:lE s.heap y D:=⟨oe,(I.pin _ (jr _ hp)).1,hc⟩;rcases e with⟨n,rfl,e⟩|⟨C,rfl,e⟩
 .cases(show c'=jq n from rc)
  exact fi (Xh c6 Z) I.kIn of e (by intro q;cases q) λtk=>⟨.bl b,H,I.tok tk,rfl,q⟩
 .cases(show c'=dk C from rc)
  exact fi (Xh c6 Z) I.kIn of e (by intro q;cases q) λtk=>⟨.bl b,H,I.tok tk,rfl,q⟩
end
def hF(l:AE):Int:=reduceHash (c7 (l.map hashInt))
def hN(l:AF):Int:=reduceHash (c7 (l.map hF))
section
variable{prog:Program}{w:ao}{A:aq}{E:Value->aa->Prop}{s:aa}{h h':Heap}{a b d:Addr}
end
def pY:Bool->Type
 |false=>AE
 |true=>AF
instance decK:(n:Bool)->DecidableEq (pY n)
 |false=>inferInstanceAs (DecidableEq AE)
 |true=>inferInstanceAs (DecidableEq AF)
def Z3:(n:Bool)->pY n->Int
 |false=>hF
 |true=>hN
end L2
namespace L2.Pp
open PySem PySem.Spec PyProof.Rows Bn
section
inductive PV where
 |non |bl (b:Bool) |int (i:Int) |str (x:Str) |tup (xs:List PV) |lst (xs:List PV)
abbrev AM:=List PV
abbrev AN:=Option PV
inductive SO where
 |lst (xs:AM)
 |lol (xss:List AM)
 |dic (n:Bool) (kvs:List (PV×PV))
 |dol (n:Bool) (kvs:List (PV×AM))
abbrev aN:=List SO
inductive AV where
 |pv (v:PV) |ref (k:Nat)
abbrev AO:=Option AV
abbrev AQ:=List AV
abbrev bS:=List AO
inductive bO(α:Type) where
 |ok (a:α) (S:aN) |exc (n:Str) (S:aN) |fail
def bO.bind{α β:Type}(r:bO α)(k:α->aN->bO β):bO β:=match r with
 |.ok a S=>k a S
 |.exc n S=>.exc n S
 |.fail=>.fail
inductive cS where
 |nx (ρ:bS) (S:aN) |rt (v:AV) (S:aN) |bk (ρ:bS) (S:aN) |ct (ρ:bS) (S:aN) |exc (n:Str) (S:aN) |fail
def jM(K:ae)(c:Addr->Prop)(H:Hp)(a:Addr)(vs:List V):Prop:=
 (H a=some (.lst vs)/\¬c a)\/(∃o,H a=some (.frz o (.lst vs)))\/
  ∃(o:Obj)(its:Array Value)(n:Nat),K.lookup a=some o/\o.cls=.type "list"/\o.dict=none/\o.data=.seq its n/\its.size<=sizeLine/\bH vs its.toList
theorem jM.sq{K:ae}{c:Addr->Prop}{H:Hp}{a:Addr}{vs:List V}(h:jM K c H a vs):cF K H a vs:=by
 rcases h with h |h |h
 .exact .inl (.inl h.1)
 .exact .inl (.inr h)
 .exact .inr h
mutual
def aY(K:ae)(c:Addr->Prop)(H:Hp):PV->V->Prop
 |.non,x=>x=.non
 |.bl b,x=>x=.bl b
 |.int i,x=>x=.int i
 |.str s,x=>x=.str s
 |.tup xs,x=>∃a vs,x=.ref a/\dD K H a vs/\vs.length<=sizeLine/\aV K c H xs vs
 |.lst xs,x=>∃a vs,x=.ref a/\jM K c H a vs/\vs.length<=sizeLine/\aV K c H xs vs
def aV(K:ae)(c:Addr->Prop)(H:Hp):AM->List V->Prop
 |[],vs=>vs=[]
 |p::ps,vs=>∃v r,vs=v::r/\aY K c H p v/\aV K c H ps r
end
section
variable{K:ae}{c c':Addr->Prop}{H H':Hp}
mutual
theorem aY.mono(hT:∀a vs,dD K H a vs->dD K H' a vs)(hL:∀a vs,jM K c H a vs->jM K c' H' a vs):∀(v:PV)(x:V),aY K c H v x->aY K c' H' v x
 |.non,x,h=>h
 |.bl b,x,h=>h
 |.int i,x,h=>h
 |.str s,x,h=>h
 |.tup xs,x,h=>by
  unfold aY at h⊢;obtain⟨a,vs,e,t,z,r⟩:=h;exact⟨a,vs,e,hT a vs t,z,aV.mono hT hL xs vs r⟩
 |.lst xs,x,h=>by
  unfold aY at h⊢;obtain⟨a,vs,e,t,z,r⟩:=h;exact⟨a,vs,e,hL a vs t,z,aV.mono hT hL xs vs r⟩
theorem aV.mono(hT:∀a vs,dD K H a vs->dD K H' a vs)(hL:∀a vs,jM K c H a vs->jM K c' H' a vs):∀(v:AM)(x:List V),aV K c H v x->aV K c' H' v x
 |[],vs,h=>by
  unfold aV at h⊢;exact h
 |p::ps,vs,h=>by
  unfold aV at h⊢;obtain⟨v,r,e,h1,h2⟩:=h;exact⟨v,r,e,aY.mono hT hL p v h1,aV.mono hT hL ps r h2⟩
end
theorem aV.length:∀{xs:AM}{vs:List V},aV K c H xs vs->xs.length=vs.length
 |[],vs,h=>by
  unfold aV at h;rw[h];rfl
 |p::ps,vs,h=>by
  unfold aV at h;obtain⟨v,r,rfl,_,h2⟩:=h;rw[bq,bq,aV.length h2]
theorem aV.get:∀{xs:AM}{vs:List V}{i:Nat}{p:PV},aV K c H xs vs->xs[i]?=some p->∃v,vs[i]?=some v/\aY K c H p v
 |[],vs,i,p,h,e=>by simp at e
 |q::ps,vs,0,p,h,e=>by
  unfold aV at h;obtain⟨v,r,rfl,h1,_⟩:=h;simp at e;subst e;exact⟨v,rfl,h1⟩
 |q::ps,vs,i+1,p,h,e=>by
  unfold aV at h;obtain⟨v,r,rfl,_,h2⟩:=h;obtain⟨u,e1,e2⟩:=aV.get (i:=i) h2 (by simpa using e);exact⟨u,by simpa using e1,e2⟩
theorem aV.nil:aV K c H [] []:=by
 unfold aV;rfl
theorem aV.cons{p:PV}{v:V}{ps:AM}{vs:List V}(h:aY K c H p v)(t:aV K c H ps vs):aV K c H (p::ps) (v::vs):=by
 unfold aV;exact⟨v,vs,rfl,h,t⟩
theorem aV.append:∀{xs ys:AM}{vs ws:List V},aV K c H xs vs->aV K c H ys ws->aV K c H (xs++ys) (vs++ws)
 |[],ys,vs,ws,h,g=>by
  unfold aV at h;subst h;exact g
 |p::ps,ys,vs,ws,h,g=>by
  unfold aV at h;obtain⟨v,r,rfl,h1,h2⟩:=h;exact .cons h1 (h2.append g)
theorem aV.drop:∀{xs:AM}{vs:List V}(n:Nat),aV K c H xs vs->aV K c H (xs.drop n) (vs.drop n)
 |xs,vs,0,h=>by simpa using h
 |[],vs,n+1,h=>by
  unfold aV at h;subst h;simpa using aV.nil
 |p::ps,vs,n+1,h=>by
  unfold aV at h;obtain⟨v,r,rfl,_,h2⟩:=h;simpa using h2.drop n
theorem aV.take:∀{xs:AM}{vs:List V}(n:Nat),aV K c H xs vs->aV K c H (xs.take n) (vs.take n)
 |xs,vs,0,h=>by simpa using aV.nil
 |[],vs,n+1,h=>by
  unfold aV at h;subst h;simpa using aV.nil
 |p::ps,vs,n+1,h=>by
  unfold aV at h;obtain⟨v,r,rfl,h1,h2⟩:=h;simpa using aV.cons h1 (h2.take n)
theorem aV.eraseIdx:∀{xs:AM}{vs:List V}(n:Nat),aV K c H xs vs->aV K c H (xs.eraseIdx n) (vs.eraseIdx n)
 |[],vs,n,h=>by
  unfold aV at h;subst h;simpa using aV.nil
 |p::ps,vs,0,h=>by
  unfold aV at h;obtain⟨v,r,rfl,h1,h2⟩:=h;simpa using h2
 |p::ps,vs,n+1,h=>by
  unfold aV at h;obtain⟨v,r,rfl,h1,h2⟩:=h;simpa using aV.cons h1 (h2.eraseIdx n)
theorem aV.set{p:PV}{v:V}(g:aY K c H p v):∀{xs:AM}{vs:List V}(n:Nat),aV K c H xs vs->aV K c H (xs.set n p) (vs.set n v)
 |[],vs,n,h=>by
  unfold aV at h;subst h;simpa using aV.nil
 |q::ps,vs,0,h=>by
  unfold aV at h;obtain⟨v,r,rfl,h1,h2⟩:=h;simpa using aV.cons g h2
 |q::ps,vs,n+1,h=>by
  unfold aV at h;obtain⟨v,r,rfl,h1,h2⟩:=h;simpa using aV.cons h1 (aV.set g n h2)
end
structure Ph where
 f:List Addr
 w:Addr->Prop
 c:Addr->Prop
def vL(K:ae)(c:Addr->Prop)(H:Hp)(xss:List AM)(bs:List Addr):Prop:=
 xss.length=bs.length/\∀(i:Nat)(xs:AM)(b:Addr),xss[i]?=some xs->bs[i]?=some b->∃vs,H b=some (.lst vs)/\vs.length<=sizeLine/\aV K c H xs vs
def aaj:(n:Bool)->pY n->PV
 |false,l=>.tup (List.map PV.int l)
 |true,l=>.tup (List.map (λr:AE=>PV.tup (r.map PV.int)) l)
def oD(es:Array DictEntry)(ep:Nat):Obj:={cls:=.type "dict",data:=.dict es ep}
def dO(a:Addr)(es:Array DictEntry)(ep:Nat):HO:=.ext λh=>h.get? a=some (oD es ep)
def enK(n:Bool)(x:pY n×Addr×Value):DictEntry:=⟨Z3 n x.1,.ref x.2.1,x.2.2⟩
def sI(K:ae)(c:Addr->Prop)(H:Hp)(a:Addr)(n:Bool)(ks:AM)(us:AH):Prop:=
 ∃(xs:List (pY n×Addr×Value))(ep:Nat),H a=some (dO a (xs.map (enK n)).toArray ep)/\(a==sysModules)=false/\xs.length<=sizeLine/\(xs.map (·.1)).Nodup/\ks=xs.map (λx=>aaj n x.1)/\aV K c H ks (xs.map λx=>V.ref x.2.1)/\us=xs.map (·.2.2)
def vV(K:ae)(p:Ph)(H:Hp)(a:Addr):SO->Prop
 |.lst xs=>∃vs,H a=some (.lst vs)/\vs.length<=sizeLine/\aV K p.c H xs vs
 |.lol xss=>∃bs:List Addr,H a=some (.lst (bs.map V.ref))/\bs.length<=sizeLine/\bs.Nodup/\(∀b∈bs,p.w b/\b∉p.f)/\vL K p.c H xss bs
 |.dic n kvs=>∃us vs,sI K p.c H a n (kvs.map (·.1)) us/\bH vs us/\aV K p.c H (kvs.map (·.2)) vs
 |.dol n kvs=>∃bs:List Addr,sI K p.c H a n (kvs.map (·.1)) (bs.map dk)/\bs.Nodup/\(∀b∈bs,p.w b/\b∉p.f)/\vL K p.c H (kvs.map (·.2)) bs
theorem sI.mono{K:ae}{c c':Addr->Prop}{H H':Hp}{a:Addr}{n:Bool}{ks:AM}{us:AH}(h:sI K c H a n ks us)(ha:∀o,H a=some o->H' a=some o)(hR:∀xs vs,aV K c H xs vs->aV K c' H' xs vs):sI K c' H' a n ks us:=by
 obtain⟨xs,ep,e,z,l,nd,ek,r,eu⟩:=h;exact⟨xs,ep,ha _ e,z,l,nd,ek,hR _ _ r,eu⟩
theorem vV.mono{K:ae}{p p':Ph}{H H':Hp}{a:Addr}{o:SO}(h:vV K p H a o)(ha:∀o,H a=some o->H' a=some o)
  (hb:∀b,p.w b->b∉p.f->(p'.w b/\b∉p'.f)/\∀vs,H b=some (.lst vs)->H' b=some (.lst vs))(hR:∀xs vs,aV K p.c H xs vs->aV K p'.c H' xs vs):vV K p' H' a o:=by
 have lol:∀{xss:List AM}{bs:List Addr},(∀b∈bs,p.w b/\b∉p.f)->vL K p.c H xss bs->vL K p'.c H' xss bs:=λwf ⟨z,at_⟩=>⟨z,λi xs b e1 e2=>by
  obtain⟨vs,g1,g2,g3⟩:=at_ i xs b e1 e2;have m:=wf b (fe e2);exact⟨vs,(hb b m.1 m.2).2 vs g1,g2,hR xs vs g3⟩⟩
 cases o with
 |lst xs=>
  obtain⟨vs,e,l,r⟩:=h;exact⟨vs,ha _ e,l,hR xs vs r⟩
 |lol xss=>
  obtain⟨bs,e,l,nd,wf,z⟩:=h;exact⟨bs,ha _ e,l,nd,λb m=>(hb b (wf b m).1 (wf b m).2).1,lol wf z⟩
 |dic n kvs=>
  obtain⟨us,vs,d,v,r⟩:=h;exact⟨us,vs,d.mono ha hR,v,hR _ _ r⟩
 |dol n kvs=>
  obtain⟨bs,d,nd,wf,z⟩:=h;exact⟨bs,d.mono ha hR,nd,λb m=>(hb b (wf b m).1 (wf b m).2).1,lol wf z⟩
def Mb:HO->Prop
 |.lst _=>True
 |.dK _=>True
 |.dT _=>True
 |.ins _ _ _=>True
 |.ext _=>True
 |_=>False
structure bD(K:ae)(p:Ph)(S:aN)(H:Hp):Prop where
 nd:p.f.Nodup
 len:p.f.length=S.length
 sub:∀a∈p.f,p.w a
 wc:∀a,p.w a->p.c a
 mu:∀a,p.c a->∃o,H a=some o/\Mb o
 obj:∀(k:Nat)(a:Addr)(o:SO),p.f[k]?=some a->S[k]?=some o->vV K p H a o
structure bV(p:Ph)(H:Hp)(q:Ph)(H':Hp):Prop where
 wc:∀a,p.w a->p.c a
 mu:∀a,p.c a->∃o,H a=some o/\Mb o
 pre:p.f <+:q.f
 mw:∀a,p.w a->q.w a
 mono:∀a,p.c a->q.c a
 nf:∀a∈q.f,a∉p.f->H a=none
 nw:∀a,q.w a->¬p.w a->H a=none
 nc:∀a,q.c a->¬p.c a->H a=none
 keep:∀a o,H a=some o->¬p.w a->H' a=some o
def cE(K:ae)(p:Ph)(H:Hp):AV->V->Prop
 |.pv v,x=>aY K p.c H v x
 |.ref k,x=>∃a,p.f[k]?=some a/\x=.ref a
abbrev gU(K:ae)(p:Ph)(H:Hp):AQ->List V->Prop:=kj (cE K p H)
structure cR(K:ae)(p:Ph)(H:Hp)(ρ:bS)(σ:St):Prop where
 len:ρ.length=σ.length
 at_:∀(i:Nat)(v:AV),ρ[i]?=some (some v)->∃x,σ[i]?=some (some x)/\cE K p H v x
section
variable{K:ae}{p q r:Ph}{H H' H'':Hp}{S:aN}
theorem bD.step(s:bD K p S H):bV p H p H:=⟨s.wc,s.mu,nr,λ_ h=>h,λ_ h=>h,λ_ h g=>absurd h g,λ_ h g=>absurd h g,λ_ h g=>absurd h g,λ_ _ h _=>h⟩
theorem bV.trans(a:bV p H q H')(b:bV q H' r H''):bV p H r H'':=by
 have back:∀x,H' x=none->¬p.w x->H x=none:=λx h n=>by
  cases e:H x with
  |none=>rfl
  |some o=>rw[a.keep x o e n]at h;cases h
 refine⟨a.wc,a.mu,a.pre.trans b.pre,λx h=>b.mw x (a.mw x h),λx h=>b.mono x (a.mono x h),λx h n=>?_,λx h n=>?_,λx h n=>?_,λx o e n=>?_⟩
 .by_cases m:x∈q.f
  .exact a.nf x m n
  .have hn:=b.nf x h m
   refine back x hn λz=>?_;obtain⟨o,ho,_⟩:=b.mu x (a.mono x (a.wc x z));rw[hn]at ho;cases ho
 .by_cases m:q.w x
  .exact a.nw x m n
  .exact back x (b.nw x h m) n
 .by_cases m:q.c x
  .exact a.nc x m n
  .exact back x (b.nc x h m) λz=>n (a.wc x z)
 .refine b.keep x o (a.keep x o e n) λz=>?_
  rw[a.nw x z n]at e;cases e
theorem bV.tup(s:bV p H q H'){a:Addr}{vs:List V}(h:dD K H a vs):dD K H' a vs:=by
 have go:∀o,H a=some o->¬Mb o->H' a=some o:=λo e n=>s.keep a o e λz=>by
  obtain⟨u,e',m⟩:=s.mu a (s.wc a z);rw[e]at e';cases e';exact n m
 rcases h with(h |⟨o,h⟩) |h
 .exact .inl (.inl (go _ h (λz=>z)))
 .exact .inl (.inr ⟨o,go _ h (λz=>z)⟩)
 .exact .inr h
theorem bV.lat(s:bV p H q H'){a:Addr}{vs:List V}(h:jM K p.c H a vs):jM K q.c H' a vs:=by
 rcases h with⟨h,n⟩|⟨o,h⟩|h
 .refine .inl ⟨s.keep a _ h λz=>n (s.wc a z),λz=>?_⟩
  rw[s.nc a z n]at h;cases h
 .refine .inr (.inl ⟨o,s.keep a _ h λz=>?_⟩)
  obtain⟨u,e',m⟩:=s.mu a (s.wc a z);rw[h]at e';cases e';exact m
 .exact .inr (.inr h)
theorem bV.rep(s:bV p H q H'){v:PV}{x:V}(h:aY K p.c H v x):aY K q.c H' v x:=aY.mono (λ_ _=>s.tup) (λ_ _=>s.lat) v x h
theorem bV.reps(s:bV p H q H'){v:AM}{x:List V}(h:aV K p.c H v x):aV K q.c H' v x:=aV.mono (λ_ _=>s.tup) (λ_ _=>s.lat) v x h
theorem bV.at_(s:bV p H q H'){k:Nat}{a:Addr}(h:p.f[k]?=some a):q.f[k]?=some a:=by
 obtain⟨t,e⟩:=s.pre;rw[<-e,gi (by
  have:=db.mp h;exact this.1)]
 exact h
theorem bV.repA(s:bV p H q H'){v:AV}{x:V}(h:cE K p H v x):cE K q H' v x:=by
 cases v with
 |pv v=>exact s.rep h
 |ref k=>
  obtain⟨a,e,f⟩:=h;exact⟨a,s.at_ e,f⟩
theorem bV.repE(s:bV p H q H'){ρ:bS}{σ:St}(h:cR K p H ρ σ):cR K q H' ρ σ:=
 ⟨h.len,λi v e=>let⟨x,e1,e2⟩:=h.at_ i v e;⟨x,e1,s.repA e2⟩⟩
theorem bD.same(s:bD K p S H)(h:cK H H'):bV p H p H':=⟨s.wc,s.mu,nr,λ_ h=>h,λ_ h=>h,λ_ h g=>absurd h g,λ_ h g=>absurd h g,λ_ h g=>absurd h g,λa o e _=>h a o e⟩
theorem bD.ofSame(s:bD K p S H)(h:cK H H'):bD K p S H':=
 ⟨s.nd,s.len,s.sub,s.wc,λa m=>let⟨o,e,m⟩:=s.mu a m;⟨o,h a o e,m⟩,λk a o e1 e2=>by
  exact(s.obj k a o e1 e2).mono (λvs e=>h _ _ e) (λb w f=>⟨⟨w,f⟩,λvs e=>h _ _ e⟩) λxs vs=>(s.same h).reps⟩
theorem fH{a:Addr}{o:HO}(h:H a=none):cK H (bE H a o):=λb u e=>by
 rw[cQ (fU e h)];exact e
end
section
variable{α β γ δ:Type}
def cA(K:ae)(cl:Str->Addr)(R:Ph->Hp->α->β->Prop)(p:Ph)(H:Hp)(r:bO α)(Q:β->Hp->Prop)(E:XK):Prop:=match r with
 |.ok a S=>∀q H' x,bV p H q H'->bD K q S H'->R q H' a x->Q x H'
 |.exc n S=>∀q H',bV p H q H'->bD K q S H'->E (.ref (cl n)) none H'
 |.fail=>False
def dY(K:ae)(cl:Str->Addr)(p:Ph)(H:Hp)(r:cS)(D:kA)(E:XK):Prop:=match r with
 |.nx ρ S=>∀q H' σ,bV p H q H'->bD K q S H'->cR K q H' ρ σ->D.nx σ H'
 |.bk ρ S=>∀q H' σ,bV p H q H'->bD K q S H'->cR K q H' ρ σ->D.bk σ H'
 |.ct ρ S=>∀q H' σ,bV p H q H'->bD K q S H'->cR K q H' ρ σ->D.ct σ H'
 |.rt v S=>∀q H' x,bV p H q H'->bD K q S H'->cE K q H' v x->D.rt x H'
 |.exc n S=>∀q H',bV p H q H'->bD K q S H'->E (.ref (cl n)) none H'
 |.fail=>False
variable{K:ae}{cl:Str->Addr}{p q:Ph}{H H':Hp}{S:aN}{E:XK}{R:Ph->Hp->α->β->Prop}{R':Ph->Hp->γ->δ->Prop}
theorem cA.mono{r:bO α}{Q:β->Hp->Prop}(h:cA K cl R p H r Q E)(s:bV p H q H'):cA K cl R q H' r Q E:=by
 cases r with
 |ok a S=>exact λq' H'' x s'=>h q' H'' x (s.trans s')
 |exc n S=>exact λq' H'' s'=>h q' H'' (s.trans s')
 |fail=>exact h
theorem dY.mono{r:cS}{D:kA}(h:dY K cl p H r D E)(s:bV p H q H'):dY K cl q H' r D E:=by
 cases r with
 |nx ρ S=>exact λq' H'' x s'=>h q' H'' x (s.trans s')
 |bk ρ S=>exact λq' H'' x s'=>h q' H'' x (s.trans s')
 |ct ρ S=>exact λq' H'' x s'=>h q' H'' x (s.trans s')
 |rt v S=>exact λq' H'' x s'=>h q' H'' x (s.trans s')
 |exc n S=>exact λq' H'' s'=>h q' H'' (s.trans s')
 |fail=>exact h
theorem cA.ret{a:α}{x:β}{Q:β->Hp->Prop}(h:cA K cl R p H (.ok a S) Q E)(s:bD K p S H)(r:R p H a x):Q x H:=h p H x s.step s r
theorem cA.same{a:α}{x:β}{Q:β->Hp->Prop}(h:cA K cl R p H (.ok a S) Q E)(s:bD K p S H)(e:cK H H')(r:R p H' a x):Q x H':=h p H' x (s.same e) (s.ofSame e) r
def tP(K:ae)(cl:Str->Addr)(E:XK)(R:Ph->Hp->α->β->Prop)(m:bS->aN->bO α)(σ:St)(H:Hp)(Q:β->Hp->Prop):Prop:=
 ∃p S ρ,bD K p S H/\cR K p H ρ σ/\cA K cl R p H (m ρ S) Q E
def tS(K:ae)(cl:Str->Addr)(E:XK)(m:bS->aN->cS):TS:=λD σ H=>
 ∃p S ρ,bD K p S H/\cR K p H ρ σ/\dY K cl p H (m ρ S) D E
theorem bZ{m:bS->aN->bO α}{k:α->aN->bO γ}{ρ:bS}{σ:St}{Q:δ->Hp->Prop}{T:β->Hp->Prop}(s:bD K p S H)(e:cR K p H ρ σ)(h:cA K cl R' p H ((m ρ S).bind k) Q E)
  (g:∀q H' a b S',bV p H q H'->bD K q S' H'->cR K q H' ρ σ->R q H' a b->cA K cl R' q H' (k a S') Q E->T b H'):tP K cl E R m σ H T:=by
 refine⟨p,S,ρ,s,e,?_⟩;cases z:m ρ S with
 |ok a S1=>
  rw[z]at h;exact λq H' b st sm r=>g q H' a b S1 st sm (st.repE e) r (cA.mono (r:=k a S1) h st)
 |exc n S1=>
  rw[z]at h;exact h
 |fail=>
  rw[z]at h;exact h
def cS.of{α:Type}(r:bO α)(k:α->aN->cS):cS:=match r with
 |.ok a S=>k a S
 |.exc n S=>.exc n S
 |.fail=>.fail
theorem jR{m:bS->aN->bO α}{k:α->aN->cS}{ρ:bS}{σ:St}{D:kA}{T:β->Hp->Prop}(s:bD K p S H)(e:cR K p H ρ σ)(h:dY K cl p H (cS.of (m ρ S) k) D E)
  (g:∀q H' a b S',bV p H q H'->bD K q S' H'->cR K q H' ρ σ->R q H' a b->dY K cl q H' (k a S') D E->T b H'):tP K cl E R m σ H T:=by
 refine⟨p,S,ρ,s,e,?_⟩;cases z:m ρ S with
 |ok a S1=>
  rw[z]at h;exact λq H' b st sm r=>g q H' a b S1 st sm (st.repE e) r (dY.mono (r:=k a S1) h st)
 |exc n S1=>
  rw[z]at h;exact h
 |fail=>
  rw[z]at h;exact h
end
end
abbrev RB:Ph->Hp->Bool->Bool->Prop:=λ_ _ a b=>a=b
abbrev ME:=bS->aN->bO AV
abbrev MT:=bS->aN->bO Bool
abbrev MA:=bS->aN->bO AQ
abbrev MS:=bS->aN->cS
section
variable(K:ae)(cl:Str->Addr)(E:XK)(X:Cx)
def aU(e:af)(m:ME):Prop:=X.K=K->PE X e (tP K cl E (cE K) m)
def eU(e:af)(m:MT):Prop:=X.K=K->PT X e (tP K cl E RB m)
def jG(e:af)(m:MT):Prop:=X.K=K->PW X e (tP K cl E RB m)
def dW(es:List af)(m:MA):Prop:=X.K=K->PA X es (tP K cl E (gU K) m)
def eE(st:Stmt)(m:MS):Prop:=X.K=K->PS X st (tS K cl E m)
def gA(st:List Stmt)(m:MS):Prop:=X.K=K->eO X st (tS K cl E m)
end
theorem PA.imp{X:Cx}{es:List af}{t t':TA}(h:PA X es t)(i:∀σ H Q,t' σ H Q->t σ H Q):PA X es t':=λpos AR s σ H Q I q=>h pos AR s σ H Q I (i σ H Q q)
theorem PW.imp{X:Cx}{e:af}{t t':TT}(h:PW X e t)(i:∀σ H Q,t' σ H Q->t σ H Q):PW X e t':=λwh AR s σ H Q I q=>h wh AR s σ H Q I (i σ H Q q)
def aA(i:Nat):ME:=λρ S=>match ρ[i]? with
 |some (some v)=>.ok v S
 |_=>.fail
def mC(v:PV):ME:=λ_ S=>.ok (.pv v) S
def rd(S:aN):AV->AN
 |.pv v=>some v
 |.ref k=>match S[k]? with
  |some (.lst xs)=>some (.lst xs)
  |_=>none
def fY(S:aN):AQ->Option AM
 |[]=>some []
 |a::r=>match rd S a with
  |some v=>match fY S r with
   |some vs=>some (v::vs)
   |none=>none
  |none=>none
def fG(o:AN)(S:aN):bO AV:=match o with
 |some r=>.ok (.pv r) S
 |none=>.fail
def rN(f:PV->AN)(a:AV)(S:aN):bO AV:=fG ((rd S a).bind f) S
def fJ(f:PV->PV->AN)(a b:AV)(S:aN):bO AV:=fG ((rd S a).bind λx=>(rd S b).bind λy=>f x y) S
def cD(f:PV->AN)(ma:ME):ME:=λρ S=>(ma ρ S).bind λx S1=>rN f x S1
def aB(f:PV->PV->AN)(ma mb:ME):ME:=λρ S=>(ma ρ S).bind λx S1=>(mb ρ S1).bind λy S2=>fJ f x y S2
def aD:MA:=λ_ S=>.ok [] S
def aC(ma:ME)(mr:MA):MA:=λρ S=>(ma ρ S).bind λx S1=>(mr ρ S1).bind λxs S2=>.ok (x::xs) S2
def jY:AQ->Option AM
 |[]=>some []
 |.pv v::r=>match jY r with
  |some vs=>some (v::vs)
  |none=>none
 |.ref _::_=>none
def pR(f:AM->AN)(xs:AQ)(S:aN):bO AV:=fG ((jY xs).bind f) S
def lF(f:AM->AN)(xs:AQ)(S:aN):bO AV:=fG ((fY S xs).bind f) S
def mR(f:AM->AN)(ma:MA):ME:=λρ S=>(ma ρ S).bind λxs S1=>lF f xs S1
def mN(f:AM->AN)(ma:MA):ME:=λρ S=>(ma ρ S).bind λxs S1=>pR f xs S1
def gJ(vs:AM):AN:=if vs.length<=16777216 then some (.tup vs)else none
def eR(vs:AM):AN:=if vs.length<=16777216 then some (.lst vs)else none
def jC:AV->aN->bO Bool
 |.pv (.bl b),S=>.ok b S
 |_,_=>.fail
def aZ(m:ME):MT:=λρ S=>(m ρ S).bind jC
def iC(m:MT):MT:=λρ S=>(m ρ S).bind λb S1=>.ok (!b) S1
def gI(m n:MT):MT:=λρ S=>(m ρ S).bind λb S1=>if b=true then n ρ S1 else .ok false S1
def jD(m n:MT):MT:=λρ S=>(m ρ S).bind λb S1=>if b=true then .ok true S1 else n ρ S1
def lH(m n:ME):ME:=λρ S=>(m ρ S).bind λx S1=>match x with
 |.pv (.bl true)=>n ρ S1
 |.pv (.bl false)=>.ok (.pv (.bl false)) S1
 |_=>.fail
def vX(m n:ME):ME:=λρ S=>(m ρ S).bind λx S1=>match x with
 |.pv (.bl false)=>n ρ S1
 |.pv (.bl true)=>.ok (.pv (.bl true)) S1
 |_=>.fail
def rY:PV->AN
 |.bl b=>some (.bl (!b))
 |_=>none
def jO(c:MT)(a b:ME):ME:=λρ S=>(c ρ S).bind λt S1=>if t=true then a ρ S1 else b ρ S1
section
variable{K:ae}{cl:Str->Addr}{E:XK}{X:Cx}{a b c e:af}{es:List af}{ma mb mc m:ME}{mt nt:MT}{ms:MA}{pos:ah}
theorem zV(i:Nat){x:Str}(hN:X.N[i]?=some x:=by rfl)(hv:wH X.env.scope x:=by first |exact gm rfl |exact il (gm rfl) |exact il (il rfl))(hd:(x==("__debug__":Str))=false:=by decide)
  (hcd:(x==("__classdict__":Str))=false:=by decide):aU K cl E X (.Name x pos) (aA i):=λ_=>(Yk hN hv hd hcd).imp λσ H Q ⟨p,S,ρ,s,e,h⟩=>by
 unfold aA at h;cases z:ρ[i]? with
 |none=>rw[z]at h;exact h.elim
 |some o=>
  cases o with
  |none=>rw[z]at h;exact h.elim
  |some v=>
   rw[z]at h;obtain⟨x,e1,e2⟩:=e.at_ i v z;exact⟨x,e1,cA.ret h s e2⟩
theorem Fl{i:Int}{j}:aU K cl E X (.Constant (.int i) j pos) (mC (.int i)):=λ_=>zR.imp λσ H Q ⟨p,S,ρ,s,e,h⟩=>cA.ret (R:=cE K) (x:=.int i) h s (by show aY K p.c H (.int i) (.int i);unfold aY;rfl)
theorem X3{i:Bool}{j}:aU K cl E X (.Constant (.bool i) j pos) (mC (.bl i)):=λ_=>X9.imp λσ H Q ⟨p,S,ρ,s,e,h⟩=>cA.ret (R:=cE K) (x:=.bl i) h s (by show aY K p.c H (.bl i) (.bl i);unfold aY;rfl)
theorem O0{i:Str}{j}:aU K cl E X (.Constant (.str i) j pos) (mC (.str i)):=λ_=>Ml.imp λσ H Q ⟨p,S,ρ,s,e,h⟩=>cA.ret (R:=cE K) (x:=.str i) h s (by show aY K p.c H (.str i) (.str i);unfold aY;rfl)
theorem Qk{j}:aU K cl E X (.Constant .none j pos) (mC .non):=λ_=>R4.imp λσ H Q ⟨p,S,ρ,s,e,h⟩=>cA.ret (R:=cE K) (x:=.non) h s (by show aY K p.c H .non .non;unfold aY;rfl)
def eD(K:ae)(p:Ph)(H:Hp)(v:PV)(x:V):Prop:=aY K p.c H v x\/∃xs a vs,v=.lst xs/\x=.ref a/\H a=some (.lst vs)/\vs.length<=sizeLine/\aV K p.c H xs vs
theorem eD.int{p:Ph}{H:Hp}{i:Int}{x:V}(h:eD K p H (.int i) x):x=.int i:=by
 rcases h with h |⟨_,_,_,e,_⟩
 .unfold aY at h;exact h
 .cases e
theorem eD.bl{p:Ph}{H:Hp}{i:Bool}{x:V}(h:eD K p H (.bl i) x):x=.bl i:=by
 rcases h with h |⟨_,_,_,e,_⟩
 .unfold aY at h;exact h
 .cases e
theorem eD.str{p:Ph}{H:Hp}{i:Str}{x:V}(h:eD K p H (.str i) x):x=.str i:=by
 rcases h with h |⟨_,_,_,e,_⟩
 .unfold aY at h;exact h
 .cases e
theorem eD.non{p:Ph}{H:Hp}{x:V}(h:eD K p H .non x):x=.non:=by
 rcases h with h |⟨_,_,_,e,_⟩
 .unfold aY at h;exact h
 .cases e
theorem eD.tup{p:Ph}{H:Hp}{xs:AM}{x:V}(h:eD K p H (.tup xs) x):∃a vs,x=.ref a/\dD K H a vs/\vs.length<=sizeLine/\aV K p.c H xs vs:=by
 rcases h with h |⟨_,_,_,e,_⟩
 .unfold aY at h;exact h
 .cases e
theorem eD.lst{p:Ph}{H:Hp}{xs:AM}{x:V}(h:eD K p H (.lst xs) x):∃a vs,x=.ref a/\cF K H a vs/\vs.length<=sizeLine/\aV K p.c H xs vs:=by
 rcases h with h |⟨ys,a,vs,e,e2,h,z,r⟩
 .unfold aY at h
  obtain⟨a,vs,e,l,z,r⟩:=h;exact⟨a,vs,e,l.sq,z,r⟩
 .cases e
  exact⟨a,vs,e2,cF.of h,z,r⟩
theorem pE{p:Ph}{S:aN}{H:Hp}{a:AV}{v:PV}{x:V}(s:bD K p S H)(r:cE K p H a x)(e:rd S a=some v):eD K p H v x:=by
 cases a with
 |pv u=>cases e;exact .inl r
 |ref k=>
  obtain⟨a,e1,rfl⟩:=r;unfold rd at e;cases z:S[k]? with
  |none=>simp only[z]at e;cases e
  |some o=>
   cases o with
   |lst xs=>
    simp only[z]at e;cases e;obtain⟨vs,h,l,r⟩:=s.obj k a _ e1 z;exact .inr ⟨xs,a,vs,rfl,rfl,h,l,r⟩
   |lol _=>simp only[z]at e;cases e
   |dic _ _=>simp only[z]at e;cases e
   |dol _ _=>simp only[z]at e;cases e
abbrev Rm(K:ae)(p:Ph)(H:Hp):AM->List V->Prop:=kj (eD K p H)
theorem tD{p:Ph}{S:aN}{H:Hp}(s:bD K p S H):∀{as:AQ}{vs:AM}{xs:List V},gU K p H as xs->fY S as=some vs->Rm K p H vs xs
 |[],vs,_,.nil,e=>by
  cases e;exact .nil
 |a::r,vs,_,.cons h t,e=>by
  unfold fY at e;cases z:rd S a with
  |none=>simp only[z]at e;cases e
  |some v=>
   simp only[z]at e;cases y:fY S r with
   |none=>simp only[y]at e;cases e
   |some us=>
    simp only[y]at e;cases e;exact .cons (pE s h z) (tD s t y)
def eF(K:ae)(r:R2)(f:PV->PV->AN):Prop:=∀{p:Ph}{S:aN}{H:Hp}{a b c:PV}{x y:V}{Q:VK},bD K p S H->eD K p H a x->eD K p H b y->f a b=some c->
 (∀H' z,cK H H'->aY K p.c H' c z->Q z H')->r x y H Q
def wO(K:ae)(r:V->Hp->VK->Prop)(f:PV->AN):Prop:=∀{p:Ph}{S:aN}{H:Hp}{a c:PV}{x:V}{Q:VK},bD K p S H->eD K p H a x->f a=some c->
 (∀H' z,cK H H'->aY K p.c H' c z->Q z H')->r x H Q
def CaS(K:ae)(r:List V->Hp->VK->Prop)(f:AM->AN):Prop:=∀{p:Ph}{S:aN}{H:Hp}{as:AM}{c:PV}{xs:List V}{Q:VK},bD K p S H->aV K p.c H as xs->f as=some c->
 (∀H' z,cK H H'->aY K p.c H' c z->Q z H')->r xs H Q
def jE(K:ae)(r:List V->Hp->VK->Prop)(f:AM->AN):Prop:=∀{p:Ph}{S:aN}{H:Hp}{as:AM}{c:PV}{xs:List V}{Q:VK},bD K p S H->Rm K p H as xs->f as=some c->
 (∀H' z,cK H H'->aY K p.c H' c z->Q z H')->r xs H Q
theorem mJ{p:Ph}{S:aN}{H:Hp}{o:AN}{Q:VK}(s:bD K p S H)(h:cA K cl (cE K) p H (fG o S) Q E):∃c,o=some c/\∀H' z,cK H H'->aY K p.c H' c z->Q z H':=by
 cases o with
 |none=>exact h.elim
 |some c=>exact⟨c,rfl,λH' z sm rz=>cA.same (R:=cE K) h s sm rz⟩
theorem nE{r:R2}{f:PV->PV->AN}(hf:eF K r f){p:Ph}{S:aN}{H:Hp}{a b:AV}{x y:V}{Q:VK}(s:bD K p S H)(ra:cE K p H a x)(rb:cE K p H b y)(h:cA K cl (cE K) p H (fJ f a b S) Q E):r x y H Q:=by
 obtain⟨c,e,k⟩:=mJ s h;cases z:rd S a with
 |none=>rw[z]at e;cases e
 |some v=>
  cases y:rd S b with
  |none=>rw[z,y]at e;cases e
  |some w=>
   rw[z,y]at e;exact hf s (pE s ra z) (pE s rb y) e k
theorem tH{r:V->Hp->VK->Prop}{f:PV->AN}(hf:wO K r f){p:Ph}{S:aN}{H:Hp}{a:AV}{x:V}{Q:VK}(s:bD K p S H)(ra:cE K p H a x)(h:cA K cl (cE K) p H (rN f a S) Q E):r x H Q:=by
 obtain⟨c,e,k⟩:=mJ s h;cases z:rd S a with
 |none=>rw[z]at e;cases e
 |some v=>
  rw[z]at e;exact hf s (pE s ra z) e k
theorem Zg{r:List V->Hp->VK->Prop}{f:AM->AN}(hf:jE K r f){p:Ph}{S:aN}{H:Hp}{as:AQ}{xs:List V}{Q:VK}(s:bD K p S H)(ra:gU K p H as xs)(h:cA K cl (cE K) p H (lF f as S) Q E):r xs H Q:=by
 obtain⟨c,e,k⟩:=mJ s h;cases z:fY S as with
 |none=>rw[z]at e;cases e
 |some v=>
  rw[z]at e;exact hf s (tD s ra z) e k
theorem sX{p:Ph}{H:Hp}:∀{as:AQ}{vs:AM}{xs:List V},jY as=some vs->gU K p H as xs->aV K p.c H vs xs
 |[],vs,_,e,.nil=>by
  cases e;exact .nil
 |.pv v::r,vs,_,e,.cons h t=>by
  unfold jY at e;cases z:jY r with
  |none=>simp only[z]at e;cases e
  |some us=>
   simp only[z]at e;cases e;exact .cons h (sX z t)
 |.ref k::r,vs,_,e,.cons h t=>by
  cases e
theorem yH{r:List V->Hp->VK->Prop}{f:AM->AN}(hf:CaS K r f){p:Ph}{S:aN}{H:Hp}{as:AQ}{xs:List V}{Q:VK}(s:bD K p S H)(ra:gU K p H as xs)(h:cA K cl (cE K) p H (pR f as S) Q E):r xs H Q:=by
 obtain⟨c,e,k⟩:=mJ s h;cases z:jY as with
 |none=>rw[z]at e;cases e
 |some v=>
  rw[z]at e;exact hf s (sX z ra) e k
theorem lG{op:Operator}{r:R2}{f:PV->PV->AN}(ho:dE X (binaryOp op) r)(hf:eF X.K r f)(ha:aU K cl E X a ma)(hb:aU K cl E X b mb):aU K cl E X (.BinOp a op b pos) (aB f ma mb):=by
 intro hK;subst hK;refine(aaa ho (ha rfl) (hb rfl)).imp ?_
 rintro σ H Q ⟨p,S,ρ,s,e,h⟩
 exact bZ s e h λq H1 a x S1 st s1 e1 r1 h1=>bZ s1 e1 h1 λq2 H2 b y S2 st2 s2 e2 r2 h2=>nE hf s2 (st2.repA r1) r2 h2
theorem V5{op:UnaryOp}{r:V->Hp->VK->Prop}{f:PV->AN}(ho:wJ X (unaryOp op) r)(hf:wO X.K r f)(ha:aU K cl E X a ma):aU K cl E X (.UnaryOp op a pos) (cD f ma):=by
 intro hK;subst hK;refine(Z8 ho (ha rfl)).imp ?_
 rintro σ H Q ⟨p,S,ρ,s,e,h⟩
 exact bZ s e h λq H1 a x S1 st s1 e1 r1 h1=>tH hf s1 r1 h1
theorem mO{op:iz}{r:R2}{f:PV->PV->AN}(ho:dE X (compareOp op) r)(hf:eF X.K r f)(ha:aU K cl E X a ma)(hb:aU K cl E X b mb)(hm:behindInMarks op b=false):aU K cl E X (.Compare a [op] [b] pos) (aB f ma mb):=by
 intro hK;subst hK;refine(A7 ho (ha rfl) (hb rfl) hm).imp ?_
 rintro σ H Q ⟨p,S,ρ,s,e,h⟩
 exact bZ s e h λq H1 a x S1 st s1 e1 r1 h1=>bZ s1 e1 h1 λq2 H2 b y S2 st2 s2 e2 r2 h2=>nE hf s2 (st2.repA r1) r2 h2
theorem rP{p:Ph}{H:Hp}{v:AV}{x:V}(r:cE K p H v x){b:Bool}(e:v=.pv (.bl b)):x=.bl b:=by
 subst e;unfold cE aY at r;exact r
theorem yR{p:Ph}{S:aN}{H:Hp}{v:AV}{x:V}{Q:Bool->Hp->Prop}(s:bD K p S H)(r:cE K p H v x)
  (h:cA K cl RB p H (jC v S) Q E):∃k,x=.bl k/\Q k H:=by
 cases v with
 |ref k=>exact h.elim
 |pv v=>
  cases v with
  |bl b=>exact⟨b,rP r rfl,cA.ret (R:=RB) h s rfl⟩
  |_=>exact h.elim
theorem oU{op:iz}{r:R2}{f:PV->PV->AN}(ho:dE X (compareOp op) r)(hf:eF X.K r f)(ha:aU K cl E X a ma)(hb:aU K cl E X b mb)(hm:behindInMarks op b=false):eU K cl E X (.Compare a [op] [b] pos) (aZ (aB f ma mb)):=by
 intro hK;subst hK;refine(F5 ho (ha rfl) (hb rfl) hm).imp ?_
 rintro σ H Q ⟨p,S,ρ,s,e,h⟩
 have z:tP X.K cl E (cE X.K) (aB f ma mb) σ H λx H'=>∃k,x=.bl k/\Q k H':=bZ s e h λq H1 a x S1 st s1 e1 r1 h1=>yR s1 r1 h1;obtain⟨p',S',ρ',s',e',h'⟩:=z;exact bZ s' e' h' λq H1 a x S1 st s1 e1 r1 h1=>bZ s1 e1 h1 λq2 H2 b y S2 st2 s2 e2 r2 h2=>nE hf s2 (st2.repA r1) r2 h2
theorem E5(ha:aU K cl E X a ma)(he:∀whole,isTrue a X.env whole=(do let v <-whole;standAt a.pos;holding [v] (truthy v)):=by intro _;rfl):eU K cl E X a (aZ ma):=by
 intro hK;subst hK;refine(J9 (ha rfl) he).imp ?_
 rintro σ H Q ⟨p,S,ρ,s,e,h⟩
 exact bZ s e h λq H1 a x S1 st s1 e1 r1 h1=>yR s1 r1 h1
theorem Yz(ha:eU K cl E X a mt):eU K cl E X (.UnaryOp .Not a pos) (iC mt):=by
 intro hK;subst hK;refine(Q0 (ha rfl)).imp ?_
 rintro σ H Q ⟨p,S,ρ,s,e,h⟩
 exact bZ s e h λq H1 a x S1 st s1 e1 r1 h1=>by
  cases r1;exact cA.ret (R:=RB) h1 s1 rfl
theorem Av(ha:eU K cl E X a mt):jG K cl E X (.BoolOp .And [a] pos) mt:=λhK=>Yy (ha hK)
theorem My(ha:eU K cl E X a mt):jG K cl E X (.BoolOp .Or [a] pos) mt:=λhK=>P7 (ha hK)
theorem jG.pt(h:jG K cl E X a mt):eU K cl E X a mt:=λhK=>PW.pt (h hK)
theorem Lz{cY:List af}(ha:eU K cl E X a mt)(hb:jG K cl E X (.BoolOp .And (b::cY) pos) nt):jG K cl E X (.BoolOp .And (a::b::cY) pos) (gI mt nt):=by
 intro hK;subst hK;refine PW.imp (G7 (ha rfl) (hb rfl)) ?_
 rintro σ H Q ⟨p,S,ρ,s,e,h⟩
 refine bZ s e h λq H1 a x S1 st s1 e1 r1 h1=>?_;cases r1;cases a with
 |true=>exact⟨q,S1,ρ,s1,e1,h1⟩
 |false=>exact cA.ret (R:=RB) h1 s1 rfl
theorem M4{cY:List af}(ha:eU K cl E X a mt)(hb:jG K cl E X (.BoolOp .Or (b::cY) pos) nt):jG K cl E X (.BoolOp .Or (a::b::cY) pos) (jD mt nt):=by
 intro hK;subst hK;refine PW.imp (U3 (ha rfl) (hb rfl)) ?_
 rintro σ H Q ⟨p,S,ρ,s,e,h⟩
 refine bZ s e h λq H1 a x S1 st s1 e1 r1 h1=>?_;cases r1;cases a with
 |true=>exact cA.ret (R:=RB) h1 s1 rfl
 |false=>exact⟨q,S1,ρ,s1,e1,h1⟩
theorem M2{cY:List af}(ha:aU K cl E X a ma)(hb:aU K cl E X (.BoolOp .And (b::cY) pos) mb):aU K cl E X (.BoolOp .And (a::b::cY) pos) (lH ma mb):=by
 intro hK;subst hK;refine(Xl (ha rfl) (hb rfl)).imp ?_
 rintro σ H Q ⟨p,S,ρ,s,e,h⟩
 refine bZ s e h λq H1 a x S1 st s1 e1 r1 h1=>?_;cases a with
 |ref k=>exact h1.elim
 |pv v=>
  cases v with
  |bl b=>
   refine⟨b,rP r1 rfl,?_⟩;cases b with
   |true=>exact⟨q,S1,ρ,s1,e1,h1⟩
   |false=>exact cA.ret (R:=cE X.K) h1 s1 (by show aY X.K q.c H1 _ _;unfold aY;rfl)
  |_=>exact h1.elim
theorem U7{cY:List af}(ha:aU K cl E X a ma)(hb:aU K cl E X (.BoolOp .Or (b::cY) pos) mb):aU K cl E X (.BoolOp .Or (a::b::cY) pos) (vX ma mb):=by
 intro hK;subst hK;refine(W4 (ha rfl) (hb rfl)).imp ?_
 rintro σ H Q ⟨p,S,ρ,s,e,h⟩
 refine bZ s e h λq H1 a x S1 st s1 e1 r1 h1=>?_;cases a with
 |ref k=>exact h1.elim
 |pv v=>
  cases v with
  |bl b=>
   refine⟨b,rP r1 rfl,?_⟩;cases b with
   |true=>exact cA.ret (R:=cE X.K) h1 s1 (by show aY X.K q.c H1 _ _;unfold aY;rfl)
   |false=>exact⟨q,S1,ρ,s1,e1,h1⟩
  |_=>exact h1.elim
theorem P8(ha:aU K cl E X a ma):aU K cl E X (.UnaryOp .Not a pos) (cD rY ma):=by
 intro hK;subst hK;refine(Rl (ha rfl)).imp ?_
 rintro σ H Q ⟨p,S,ρ,s,e,h⟩
 refine bZ s e h λq H1 a x S1 st s1 e1 r1 h1=>?_;refine tH (r:=λx H Q=>∃c,x=.bl c/\Q (.bl (!c)) H) (f:=rY) (λ{p S H a c x Q} s r e k=>?_) s1 r1 h1;cases a with
 |bl b=>
  cases e;exact⟨b,r.bl,k H _ (cK.refl H) (by unfold aY;rfl)⟩
 |_=>cases e
theorem T8(hc:eU K cl E X c mt)(ha:aU K cl E X a ma)(hb:aU K cl E X b mb):aU K cl E X (.IfExp c a b pos) (jO mt ma mb):=by
 intro hK;subst hK;refine(Fw (hc rfl) (ha rfl) (hb rfl)).imp ?_
 rintro σ H Q ⟨p,S,ρ,s,e,h⟩
 refine bZ s e h λq H1 a x S1 st s1 e1 r1 h1=>?_;cases r1;cases a with
 |true=>exact⟨q,S1,ρ,s1,e1,h1⟩
 |false=>exact⟨q,S1,ρ,s1,e1,h1⟩
theorem Zi:dW K cl E X [] aD:=λ_=>(PA.imp mL λσ H Q ⟨p,S,ρ,s,e,h⟩=>cA.ret (R:=gU K) h s .nil)
theorem Eh(ha:aU K cl E X e m)(hr:dW K cl E X es ms)(hs:starEach (e::es) X.env=(false,eval e X.env)::starEach es X.env:=by rfl):dW K cl E X (e::es) (aC m ms):=by
 intro hK;subst hK;refine PA.imp (iN (ha rfl) (hr rfl) hs) ?_
 rintro σ H Q ⟨p,S,ρ,s,e,h⟩
 exact bZ s e h λq H1 a x S1 st s1 e1 r1 h1=>bZ s1 e1 h1 λq2 H2 b y S2 st2 s2 e2 r2 h2=>cA.ret (R:=gU X.K) h2 s2 (.cons (st2.repA r1) r2)
theorem mH{p:Ph}{S:aN}{H:Hp}{vs:AM}{xs:List V}{t:Addr}(s:bD K p S H)(r:aV K p.c H vs xs)(z:xs.length<=sizeLine)(ht:H t=none):aY K p.c (bE H t (.tup xs)) (.tup vs) (.ref t):=by
 unfold aY;exact⟨t,xs,rfl,dD.of iL,z,(s.same (fH ht)).reps r⟩
theorem mI{p:Ph}{S:aN}{H:Hp}{vs:AM}{xs:List V}{t:Addr}(s:bD K p S H)(r:aV K p.c H vs xs)(z:xs.length<=sizeLine)(ht:H t=none):aY K p.c (bE H t (.lst xs)) (.lst vs) (.ref t):=by
 unfold aY;refine⟨t,xs,rfl,.inl ⟨iL,λc=>?_⟩,z,(s.same (fH ht)).reps r⟩;obtain⟨o,e,_⟩:=s.mu t c;rw[ht]at e;cases e
theorem fN:sizeLine=16777216:=jw
theorem S9{x1}(h:dW K cl E X es ms):aU K cl E X (.Tuple es x1 pos) (mN gJ ms):=by
 intro hK;subst hK;refine(zT (h rfl)).imp ?_
 rintro σ H Q ⟨p,S,ρ,s,e,h⟩
 refine bZ s e h λq H1 as xs S1 st s1 e1 r1 h1=>?_;refine yH (r:=λxs H Q=>xs.length<=sizeLine/\∀t,H t=none->Q (.ref t) (bE H t (.tup xs))) (f:=gJ) (λ{p S H as c xs Q} s r e k=>?_) s1 r1 h1;unfold gJ at e;split at e
 .rename_i hl
  cases e;rw[r.length,<-fN]at hl;exact⟨hl,λt ht=>k _ _ (fH ht) (mH s r hl ht)⟩
 .cases e
theorem Q6(h:dW K cl E X es ms):aU K cl E X (.List es pos) (mN eR ms):=by
 intro hK;subst hK;refine(Kl (h rfl)).imp ?_
 rintro σ H Q ⟨p,S,ρ,s,e,h⟩
 refine bZ s e h λq H1 as xs S1 st s1 e1 r1 h1=>?_;refine yH (r:=λxs H Q=>xs.length<=sizeLine/\∀t,H t=none->Q (.ref t) (bE H t (.lst xs))) (f:=eR) (λ{p S H as c xs Q} s r e k=>?_) s1 r1 h1;unfold eR at e;split at e
 .rename_i hl
  cases e;rw[r.length,<-fN]at hl;exact⟨hl,λt ht=>k _ _ (fH ht) (mI s r hl ht)⟩
 .cases e
end
noncomputable section
open PySem PySem.Spec PyProof.Rows Bn
def bP:MS:=λρ S=>.nx ρ S
def aO(a b:MS):MS:=λρ S=>match a ρ S with
 |.nx ρ1 S1=>b ρ1 S1
 |r=>r
def eI(m:ME):MS:=λρ S=>cS.of (m ρ S) λ_ S1=>.nx ρ S1
def bG(m:ME):MS:=λρ S=>cS.of (m ρ S) λv S1=>.rt v S1
def Y2:MS:=λ_ S=>.rt (.pv .non) S
def bN(c:MT)(a b:MS):MS:=λρ S=>cS.of (c ρ S) λt S1=>if t=true then a ρ S1 else b ρ S1
def aW(i:Nat)(m:ME):MS:=λρ S=>cS.of (m ρ S) λv S1=>.nx (ρ.set i (some v)) S1
def rZ(i j:Nat)(m:MA):MS:=λρ S=>cS.of (m ρ S) λvs S1=>match vs with
 |[v,w]=>.nx ((ρ.set i (some v)).set j (some w)) S1
 |_=>.fail
abbrev GM:=PV->bS->Option bS
abbrev mZ:=AM->bS->Option bS
def gN(i:Nat):GM:=λv ρ=>some (ρ.set i (some (.pv v)))
def fK:mZ:=λvs ρ=>match vs with
 |[]=>some ρ
 |_=>none
def dQ(g:GM)(gs:mZ):mZ:=λvs ρ=>match vs with
 |[]=>none
 |v::r=>match g v ρ with
  |some ρ1=>gs r ρ1
  |none=>none
def gT(n:Nat)(gs:mZ):GM:=λv ρ=>match v with
 |.tup vs=>if vs.length=n then gs vs ρ else none
 |_=>none
def rS(g:GM)(m:ME):MS:=λρ S=>cS.of (m ρ S) λv S1=>match v with
 |.pv v=>match g v ρ with
  |some ρ1=>.nx ρ1 S1
  |none=>.fail
 |_=>.fail
abbrev Gd:=List (Nat×AM)
def gL(G:Gd)(S:aN):Prop:=∀g∈G,S[g.1]?=some (.lst g.2)
theorem gF(S:aN):gL [] S:=λ_ h=>nomatch h
abbrev MI:=bS->aN->bO (AM×Gd)
open Classical in
def dR(G:Gd)(g:GM)(mb:MS):AM->bS->aN->cS
 |[],ρ,S=>if gL G S then .nx ρ S else .fail
 |x::r,ρ,S=>if gL G S then(match g x ρ with
  |none=>.fail
  |some ρ1=>match mb ρ1 S with
   |.nx ρ2 S2=>dR G g mb r ρ2 S2
   |.ct ρ2 S2=>dR G g mb r ρ2 S2
   |.bk ρ2 S2=>.nx ρ2 S2
   |.rt v S2=>.rt v S2
   |.exc n S2=>.exc n S2
   |.fail=>.fail)else .fail
def dB(mi:MI)(g:GM)(mb:MS):MS:=λρ S=>cS.of (mi ρ S) λxs S1=>dR xs.2 g mb xs.1 ρ S1
theorem hJ{g:GM}{mb:MS}{ρ:bS}{S:aN}:dR [] g mb [] ρ S=.nx ρ S:=by
 unfold dR;rw[if_pos (gF S)]
theorem fV{g:GM}{mb:MS}{x:PV}{r:AM}{ρ:bS}{S:aN}:dR [] g mb (x::r) ρ S=(match g x ρ with
  |none=>.fail
  |some ρ1=>match mb ρ1 S with
   |.nx ρ2 S2=>dR [] g mb r ρ2 S2
   |.ct ρ2 S2=>dR [] g mb r ρ2 S2
   |.bk ρ2 S2=>.nx ρ2 S2
   |.rt v S2=>.rt v S2
   |.exc n S2=>.exc n S2
   |.fail=>.fail):=by
 rw[dR,if_pos (gF S)]
def dP(c:MT)(mb:MS):Nat->bS->aN->cS
 |0,_,_=>.fail
 |n+1,ρ,S=>cS.of (c ρ S) λt S1=>if t=true then(match mb ρ S1 with
   |.nx ρ2 S2=>dP c mb n ρ2 S2
   |.ct ρ2 S2=>dP c mb n ρ2 S2
   |.bk ρ2 S2=>.nx ρ2 S2
   |.rt v S2=>.rt v S2
   |.exc n S2=>.exc n S2
   |.fail=>.fail)else .nx ρ S1
open Classical in
def mK(c:MT)(mb:MS):MS:=λρ S=>if h:∃n,dP c mb n ρ S≠.fail then dP c mb h.choose ρ S else .fail
theorem cS.of_ok{α:Type}{r:bO α}{k k':α->aN->cS}(h:∀a S,k a S≠.fail->k' a S=k a S)(n:cS.of r k≠.fail):cS.of r k'=cS.of r k:=by
 cases r with
 |ok a S=>exact h a S n
 |exc=>rfl
 |fail=>rfl
theorem xI{c:MT}{mb:MS}:∀{n:Nat}{ρ:bS}{S:aN},dP c mb n ρ S≠.fail->dP c mb (n+1) ρ S=dP c mb n ρ S
 |0,_,_,h=>absurd rfl h
 |n+1,ρ,S,h=>by
  unfold dP at h;rw[dP]
  conv=>rhs;rw[dP]
  refine cS.of_ok (λt S1 h1=>?_) h
  by_cases ht:t=true
  .simp only[if_pos ht]at h1⊢
   cases z:mb ρ S1 with
   |nx ρ2 S2=>rw[z]at h1;exact xI h1
   |ct ρ2 S2=>rw[z]at h1;exact xI h1
   |_=>rfl
  .simp only[if_neg ht]at h1⊢
theorem xV{c:MT}{mb:MS}{n:Nat}{ρ:bS}{S:aN}(h:dP c mb n ρ S≠.fail):∀k,dP c mb (n+k) ρ S=dP c mb n ρ S
 |0=>rfl
 |k+1=>by
  have ih:=xV h k;rw[<-Nat.add_assoc,xI (by rw[ih];exact h),ih]
theorem yE{c:MT}{mb:MS}{n:Nat}{ρ:bS}{S:aN}{r:cS}(e:dP c mb n ρ S=r)(h:r≠.fail):mK c mb ρ S=r:=by
 have h':∃n,dP c mb n ρ S≠.fail:=⟨n,by rw[e];exact h⟩;unfold mK;rw[dif_pos h'];have e2:=h'.choose_spec;rcases Nat.le_total n h'.choose with l |l
 .obtain⟨k,q⟩:=c8 l
  rw[q,xV (by rw[e];exact h),e]
 .obtain⟨k,q⟩:=c8 l
  have z:=xV e2 k;rw[<-q,e]at z;exact z.symm
section
variable{K:ae}{cl:Str->Addr}{E:XK}{X:Cx}{a b c e tg:af}{es:List af}{m:ME}{mt:MT}{ms:MA}{b1 b2:MS}{st:Stmt}{sts sts':List Stmt}{pos:ah}
theorem cR.set{p:Ph}{H:Hp}{ρ:bS}{σ:St}{v:AV}{x:V}(h:cR K p H ρ σ)(r:cE K p H v x)(i:Nat):cR K p H (ρ.set i (some v)) (σ.set i (some x)):=by
 refine⟨by rw[fy,fy,h.len],λj u e=>?_⟩
 by_cases q:i=j
 .subst q
  by_cases l:i<ρ.length
  .rw[ij l]at e
   cases e;exact⟨x,ij (by rw[<-h.len];exact l),r⟩
  .rw[c9 (by rw[fy];omega)]at e
   cases e
 .rw[jg q]at e⊢
  exact h.at_ j u e
theorem Iv:gA K cl E X [] bP:=λ_=>eO.imp D9 λD σ H ⟨p,S,ρ,s,e,h⟩=>h p H σ s.step s e
theorem dY.nxD{p:Ph}{H:Hp}{ρ:bS}{S:aN}{D:kA}(h:dY K cl p H (.nx ρ S) D E){σ:St}(s:bD K p S H)(e:cR K p H ρ σ):D.nx σ H:=h p H σ s.step s e
theorem yG(h1:eE K cl E X st b1)(h2:gA K cl E X sts b2):gA K cl E X (st::sts) (aO b1 b2):=by
 intro hK;subst hK;refine eO.imp (Sw (h1 rfl) (h2 rfl)) λD σ H ⟨p,S,ρ,s,e,h⟩=>⟨p,S,ρ,s,e,?_⟩;unfold aO at h;cases z:b1 ρ S with
 |nx ρ1 S1=>
  rw[z]at h;exact λq H' σ' stp sm ev=>⟨q,S1,ρ1,sm,ev,dY.mono (r:=b2 ρ1 S1) h stp⟩
 |bk ρ1 S1=>rw[z]at h;exact h
 |ct ρ1 S1=>rw[z]at h;exact h
 |rt v S1=>rw[z]at h;exact h
 |exc n S1=>rw[z]at h;exact h
 |fail=>rw[z]at h;exact h
theorem Li(h1:eE K cl E X st b1):gA K cl E X [st] b1:=λhK=>zO (h1 hK)
theorem Uw(he:aU K cl E X e m)(hs:swapsWith e none pos.line X.env=pure false:=by rfl):eE K cl E X (.Expr e pos) (eI m):=by
 intro hK;subst hK;refine PS.imp (E1 (he rfl) hs) ?_
 rintro D σ H ⟨p,S,ρ,s,e,h⟩
 exact jR s e h λq H' a b S' stp sm ev r k=>dY.nxD k sm ev
theorem Ti(he:aU K cl E X e m):eE K cl E X (.Return (some e) pos) (bG m):=by
 intro hK;subst hK;refine PS.imp (S0 (he rfl)) ?_
 rintro D σ H ⟨p,S,ρ,s,e,h⟩
 exact jR s e h λq H' a b S' stp sm ev r k=>k q H' b sm.step sm r
theorem S7(hc:eU K cl E X c mt)(ha:gA K cl E X sts b1)(hb:gA K cl E X sts' b2):eE K cl E X (.If c sts sts' pos) (bN mt b1 b2):=by
 intro hK;subst hK;refine PS.imp (Y8 (hc rfl) (ha rfl) (hb rfl)) ?_
 rintro D σ H ⟨p,S,ρ,s,e,h⟩
 refine jR s e h λq H' a b S' stp sm ev r k=>?_;cases r;cases a with
 |true=>exact⟨q,S',ρ,sm,ev,k⟩
 |false=>exact⟨q,S',ρ,sm,ev,k⟩
theorem zC{i:Nat}{x:Str}{pos':ah}(hN:X.N.Nodup)(hi:X.N[i]?=some x)(hx:jP X.env.scope x)(he:aU K cl E X e m)(hs:swapsWith e (some (.Name x pos')) pos.line X.env=pure false:=by rfl)
  (hf:X.fn x=true\/X.env.scope.names.lookup x=some .local:=by first |exact .inl rfl |exact .inr rfl |assumption):eE K cl E X (.Assign [.Name x pos'] e pos) (aW i m):=by
 intro hK;subst hK;refine PS.imp (Ha hN hi hx (he rfl) hs hf) ?_
 rintro D σ H ⟨p,S,ρ,s,e,h⟩
 exact jR s e h λq H' a b S' stp sm ev r k=>dY.nxD k sm (ev.set r i)
theorem Vz{i j:Nat}{x y:Str}{px py pt:ah}{kt k2 pt2}(hc:X.calm=true)(hN:X.N.Nodup)(hi:X.N[i]?=some x)(hj:X.N[j]?=some y)(hij:i≠j)
  (hx:X.env.scope.names.lookup x=some .local)(hy:X.env.scope.names.lookup y=some .local)(ha:dW K cl E X [a,b] ms)
  (hw:swappedStores [.Tuple [.Name x px,.Name y py] kt pt] (.Tuple [a,b] k2 pt2) X.env=pure (some [x,y]))
  (hs:swapsWithSole [.Tuple [.Name x px,.Name y py] kt pt] (.Tuple [a,b] k2 pt2) pos.line X.env=pure false:=by rfl):
  eE K cl E X (.Assign [.Tuple [.Name x px,.Name y py] kt pt] (.Tuple [a,b] k2 pt2) pos) (rZ i j ms):=by
 intro hK;subst hK;refine PS.imp (L5 hc hN hi hj hij hx hy (ha rfl) hw hs) ?_
 rintro D σ H ⟨p,S,ρ,s,e,h⟩
 refine jR s e h λq H' vs xs S' stp sm ev r k=>?_;cases r with
 |nil=>exact k.elim
 |cons r1 rr=>
  cases rr with
  |nil=>exact k.elim
  |cons r2 rs=>
   cases rs with
   |nil=>exact⟨_,_,rfl,dY.nxD k sm ((ev.set r1 i).set r2 j)⟩
   |cons _ _=>exact k.elim
def gP(K:ae)(g:GM):TG:=λx σ H Q=>∃p S ρ v ρ',bD K p S H/\cR K p H ρ σ/\aY K p.c H v x/\g v ρ=some ρ'/\∀σ',cR K p H ρ' σ'->Q σ' H
def gPs(K:ae)(g:mZ):lX:=λxs σ H Q=>∃p S ρ vs ρ',bD K p S H/\cR K p H ρ σ/\aV K p.c H vs xs/\g vs ρ=some ρ'/\∀σ',cR K p H ρ' σ'->Q σ' H
variable(K X)
def kD(tg:af)(g:GM):Prop:=X.K=K->PG X tg (gP K g)
def pX(ts:List af)(g:mZ):Prop:=X.K=K->kU X ts (gPs K g)
variable{K X}
theorem PG.imp{tg:af}{t t':TG}(h:PG X tg t)(i:∀x σ H Q,t' x σ H Q->t x σ H Q):PG X tg t':=λAR s σ H v u Q I r q=>h AR s σ H v u Q I r (i v σ H Q q)
theorem kU.imp{ts:List af}{t t':lX}(h:kU X ts t)(i:∀x σ H Q,t' x σ H Q->t x σ H Q):kU X ts t':=λAR s σ H v u Q I r q=>h AR s σ H v u Q I r (i v σ H Q q)
theorem Xu{i:Nat}{x:Str}(hN:X.N.Nodup)(hi:X.N[i]?=some x)(hx:jP X.env.scope x)(hf:X.fn x=true\/X.env.scope.names.lookup x=some .local:=by first |exact .inl rfl |exact .inr rfl |assumption):kD K X (.Name x pos) (gN i):=
 λ_=>PG.imp (Pz hN hi hx hf) λx σ H Q ⟨p,S,ρ,v,ρ',s,ev,r,g,k⟩=>by
  cases g;exact k _ (ev.set (v:=.pv v) r i)
theorem Zx:pX K X [] fK:=λ_=>kU.imp D4 λxs σ H Q ⟨p,S,ρ,vs,ρ',s,ev,r,g,k⟩=>by
 cases vs with
 |nil=>
  cases g;unfold aV at r;exact⟨r,k _ ev⟩
 |cons _ _=>cases g
theorem Fu{g:GM}{gs:mZ}(h1:kD K X e g)(h2:pX K X es gs)(hs:(assignEach (e::es) X.env).map (·.2)=assign e X.env::(assignEach es X.env).map (·.2):=by rfl):pX K X (e::es) (dQ g gs):=by
 intro hK;subst hK;refine kU.imp (Tw (h1 rfl) (h2 rfl) hs) ?_
 rintro xs σ H Q ⟨p,S,ρ,vs,ρ',s,ev,r,g1,k⟩
 cases vs with
 |nil=>cases g1
 |cons v vr=>
  unfold aV at r;obtain⟨x,xr,rfl,r1,r2⟩:=r;unfold dQ at g1;cases z:g v ρ with
  |none=>simp only[z]at g1;cases g1
  |some ρ1=>
   simp only[z]at g1;exact⟨x,xr,rfl,p,S,ρ,v,ρ1,s,ev,r1,z,λσ' ev'=>⟨p,S,ρ1,vr,ρ',s,ev',r2,g1,k⟩⟩
theorem Wy{k:Nat}{gs:mZ}{n:Nat}(hc:X.calm=true)(h:pX K X es gs)(hn:(assignEach es X.env).length=n:=by rfl)(hst:(assignEach es X.env).findIdx? (·.1)=none:=by rfl):kD K X (.Tuple es k pos) (gT n gs):=by
 intro hK;subst hK;refine PG.imp (O6 hc (h rfl) hn hst) ?_
 rintro x σ H Q ⟨p,S,ρ,v,ρ',s,ev,r,g1,k⟩
 cases v with
 |tup vs=>
  unfold aY at r;obtain⟨a,xs,rfl,t,z,r⟩:=r;unfold gT at g1;dsimp only at g1;split at g1
  .rename_i hl
   exact⟨a,xs,rfl,t,r.length.symm.trans hl,p,S,ρ,vs,ρ',s,ev,r,g1,k⟩
  .cases g1
 |_=>cases g1
theorem Mz{g:GM}(he:aU K cl E X e m)(hg:kD K X tg g)(hs:swapsWithSole [tg] e pos.line X.env=pure false:=by rfl)(hw:swappedStores [tg] e X.env=pure none:=by rfl)
  (h1:(assignEach [tg] X.env).map (·.2)=[assign tg X.env]:=by rfl):eE K cl E X (.Assign [tg] e pos) (rS g m):=by
 intro hK;subst hK;refine PS.imp (Nl (he rfl) (hg rfl) hs hw h1) ?_
 rintro D σ H ⟨p,S,ρ,s,e,h⟩
 refine jR s e h λq H' a b S' stp sm ev r k=>?_;cases a with
 |ref k'=>exact k.elim
 |pv v=>
  dsimp only at k;cases z:g v ρ with
  |none=>simp only[z]at k;exact k.elim
  |some ρ1=>
   simp only[z]at k;exact⟨q,S',ρ,v,ρ1,sm,ev,r,z,λσ' ev'=>dY.nxD k sm ev'⟩
def eK(K:ae)(p:Ph)(H:Hp)(xs:AM×Gd)(J:It):Prop:=xs.1.length<=sizeLine/\∀q H1 S1,bV p H q H1->bD K q S1 H1->gL xs.2 S1->
 (∀(i:Nat)(v:PV),xs.1[i]?=some v->J.go i H1/\∀x H2,J.yld i H1 x H2->cK H1 H2/\aY K q.c H2 v x)/\J.stop xs.1.length H1
theorem eK.step{p q:Ph}{H H':Hp}{xs:AM×Gd}{J:It}(h:eK K p H xs J)(s:bV p H q H'):eK K q H' xs J:=⟨h.1,λr H1 S1 t=>h.2 r H1 S1 (s.trans t)⟩
variable(K cl E X)
def gY(tg iter:af)(m:MI):Prop:=X.K=K->PI X tg iter (tP K cl E (eK K) m)
variable{K cl E X}
theorem PI.imp{tg iter:af}{t t':TI}(h:PI X tg iter t)(i:∀σ H Q,t' σ H Q->t σ H Q):PI X tg iter t':=λAR s σ H R I q=>h AR s σ H R I (i σ H R q)
def aaH(K:ae)(tl:TE):TI:=λσ H R=>tl σ H λx H1=>∃a,x=.ref a/\(((∃xs,cF K H1 a xs)/\R (wV K a) H1)\/((∃xs,dD K H1 a xs)/\R (Vb K a) H1))
theorem L8{l:af}{tl:TE}(hl:PE X l tl):PI X tg l (aaH X.K tl):=by
 intro AR s σ H R I h;refine bF (hl AR s σ H _ I h) ?_
 rintro v s1 ⟨x,H1,I1,r1,q1⟩
 obtain⟨a,e,q⟩:=q1;subst e;cases r1;rcases q with⟨⟨xs,hq⟩,q⟩|⟨⟨xs,hq⟩,q⟩
 .obtain⟨its,rv,p,hz⟩:=I1.list hq
  refine qt p.isList ?_;refine⟨s1.heap.objs.size,[s1.heap.objs.size],_,_,H1,rfl,I1.kept (t':=s1.toks) λb o e=>aw _ e,Lu a _,⟨_,dl _ rfl,rfl,rfl⟩,λb hb=>?_,q⟩;have e:b=s1.heap.objs.size:=by simpa using hb
  subst e;exact I1.fpOk (am _) (I1.hok.fresh (am _))
 .obtain⟨its,rv,p,hz⟩:=I1.tuple hq
  refine a5 (show s1.heap.IsTuple a its.toArray from p) ?_;refine⟨s1.heap.objs.size,[s1.heap.objs.size],_,_,H1,rfl,I1.kept (t':=s1.toks) λb o e=>aw _ e,Ur a _,⟨_,dl _ rfl,rfl,rfl⟩,λb hb=>?_,q⟩;have e:b=s1.heap.objs.size:=by simpa using hb
  subst e;exact I1.fpOk (am _) (I1.hok.fresh (am _))
def bX:AV->aN->bO (AM×Gd)
 |.pv (.lst xs),S=>.ok (xs,[]) S
 |.pv (.tup xs),S=>.ok (xs,[]) S
 |.ref k,S=>match S[k]? with
  |some (.lst xs)=>.ok (xs,[(k,xs)]) S
  |_=>.fail
 |_,_=>.fail
def bK(m:ME):MI:=λρ S=>(m ρ S).bind bX
theorem K9{p:Ph}{H:Hp}{xs:AM}{a:Addr}{vs:List V}(l:jM K p.c H a vs)(z:vs.length<=sizeLine)(r:aV K p.c H xs vs):eK K p H (xs,[]) (wV K a):=by
 refine⟨by rw[r.length];exact z,λq H1 S1 st _ _=>⟨λi v e=>?_,?_⟩⟩
 .have l1:=(st.lat l).sq
  obtain⟨x,e1,r1⟩:=(st.reps r).get e;refine⟨⟨vs,x,l1,e1⟩,λy H2 hy=>?_⟩;obtain⟨rfl,hy⟩:=hy;have:=(hy vs l1).symm.trans e1;cases this;exact⟨cK.refl _,r1⟩
 .exact⟨vs,(st.lat l).sq,by rw[r.length];exact am _⟩
theorem J1{p:Ph}{H:Hp}{xs:AM}{a:Addr}{vs:List V}(l:dD K H a vs)(z:vs.length<=sizeLine)(r:aV K p.c H xs vs):eK K p H (xs,[]) (Vb K a):=by
 refine⟨by rw[r.length];exact z,λq H1 S1 st _ _=>⟨λi v e=>?_,?_⟩⟩
 .have l1:=st.tup l
  obtain⟨x,e1,r1⟩:=(st.reps r).get e;refine⟨⟨vs,x,l1,e1⟩,λy H2 hy=>?_⟩;obtain⟨rfl,hy⟩:=hy;have:=(hy vs l1).symm.trans e1;cases this;exact⟨cK.refl _,r1⟩
 .exact⟨vs,st.tup l,by rw[r.length];exact am _⟩
theorem N9{p:Ph}{H:Hp}{xs:AM}{a:Addr}{k:Nat}{n:xs.length<=sizeLine}(hf:p.f[k]?=some a):eK K p H (xs,[(k,xs)]) (wV K a):=by
 refine⟨n,λq H1 S1 st sm g=>?_⟩;have e0:S1[k]?=some (.lst xs):=g (k,xs) bc;obtain⟨vs,h1,l1,r1⟩:=sm.obj k a _ (st.at_ hf) e0;refine⟨λi v e=>?_,?_⟩
 .obtain⟨x,e1,r2⟩:=r1.get e
  refine⟨⟨vs,x,cF.of h1,e1⟩,λy H2 hy=>?_⟩;obtain⟨rfl,hy⟩:=hy;have:=(hy vs (cF.of h1)).symm.trans e1;cases this;exact⟨cK.refl _,r2⟩
 .exact⟨vs,cF.of h1,by rw[r1.length];exact am _⟩
theorem D7(h:aU K cl E X e m):gY K cl E X tg e (bK m):=by
 intro hK;subst hK;refine PI.imp (L8 (h rfl)) ?_
 rintro σ H R ⟨p,S,ρ,s,ev,h⟩
 refine bZ s ev h λq H' v x S' stp sm ev r k=>?_;cases v with
 |ref j=>
  obtain⟨a,e,rfl⟩:=r;unfold bX at k;dsimp only at k;cases z:S'[j]? with
  |none=>rw[z]at k;exact k.elim
  |some o=>
   cases o with
   |lst xs=>
    rw[z]at k;obtain⟨vs,h1,l1,r1⟩:=sm.obj j a _ e z;exact⟨a,rfl,.inl ⟨⟨vs,cF.of h1⟩,cA.ret (R:=eK X.K) k sm (N9 (n:=by rw[r1.length];exact l1) e)⟩⟩
   |lol _=>rw[z]at k;exact k.elim
   |dic _ _=>rw[z]at k;exact k.elim
   |dol _ _=>rw[z]at k;exact k.elim
 |pv v=>
  cases v with
  |lst xs=>
   have r:aY X.K q.c H' (.lst xs) x:=r;unfold aY at r;obtain⟨a,vs,rfl,l,z,r⟩:=r;exact⟨a,rfl,.inl ⟨⟨vs,l.sq⟩,cA.ret (R:=eK X.K) k sm (K9 l z r)⟩⟩
  |tup xs=>
   have r:aY X.K q.c H' (.tup xs) x:=r;unfold aY at r;obtain⟨a,vs,rfl,l,z,r⟩:=r;exact⟨a,rfl,.inr ⟨⟨vs,l⟩,cA.ret (R:=eK X.K) k sm (J1 l z r)⟩⟩
  |_=>exact k.elim
def dX(lo:Int)(n:Nat):AM:=(ce n).map λi=>.int (lo+(i:Nat))
def pV:AQ->aN->bO (AM×Gd)
 |[.pv (.int j)],S1=>@ite _ (j<=16777216/\-16777216<=j) (kd _) (.ok (dX 0 j.toNat,[]) S1) .fail
 |_,_=>.fail
def eV(ms:MA):MI:=λρ S=>(ms ρ S).bind pV
theorem K2{p:Ph}{H:Hp}{lo:Int}{n:Nat}(h:n<=sizeLine):eK K p H (dX lo n,[]) (wW lo n):=by
 have hl:(dX lo n).length=n:=by unfold dX;rw[ar,d3]
 refine⟨by show(dX lo n).length<=_;rw[hl];exact h,λq H1 S1 st _ _=>⟨λi v e=>?_,?_⟩⟩
 .have hi:i<n:=by
   have:=(db.mp (show(dX lo n)[i]?=some v from e)).1;omega
  refine⟨hi,λx H2 hy=>?_⟩;obtain⟨rfl,rfl⟩:=hy;have e:(dX lo n)[i]?=some v:=e;unfold dX at e;rw[dy,List.getElem?_range hi]at e;cases e;refine⟨cK.refl _,?_⟩;unfold aY;rfl
 .show n<=(dX lo n).length
  rw[hl];exact am n
theorem Qr{p:ah}(hg:Gl X "range")(hm:X.mg "range"=none)(ha:dW K cl E X [a] ms)(hs:starEach [a] X.env=[(false,eval a X.env)]:=by rfl):gY K cl E X tg (.Call (.Name "range" p) [a] [] pos) (eV ms):=by
 intro hK;subst hK;refine PI.imp (Bu hg hm (ha rfl) hs) ?_
 rintro σ H R ⟨p,S,ρ,s,ev,h⟩
 refine bZ s ev h λq H' vs xs S' stp sm ev r k=>?_;unfold pV at k;split at k
 .rename_i j
  cases r with
  |cons r1 r2=>
   cases r2;rename_i x;have e:x=.int j:=by
    have r1:aY X.K q.c H' (.int j) x:=r1;unfold aY at r1;exact r1
   subst e;split at k
   .rename_i hj
    have hz:=fN;exact⟨j,rfl,by omega,by omega,cA.ret (R:=eK X.K) k sm (K2 (by omega))⟩
   .exact k.elim
 .exact k.elim
theorem Jy{mi:MI}{g:GM}(hp:qe (model X.prog X.w) X.A X.env X.xe)(hc:X.calm=true)(hi:gY K cl E X tg e mi)(hg:kD K X tg g)(hb:gA K cl E X sts b1)
  (hs:∀x,foldedSetIterable e X.env x=pure x:=by intro _;rfl):eE K cl E X (.For tg e sts [] pos) (dB mi g b1):=by
 intro hK;subst hK;refine PS.imp (K7 hp hc (hi rfl) (hg rfl) (hb rfl) hs) ?_
 rintro D σ H ⟨p,S,ρ,s,ev,h⟩
 refine jR s ev h λq H' xg J S' stp sm ev it k=>?_;obtain⟨xs,G⟩:=xg;refine⟨λi n σ H=>n=xs.length-i/\i<=xs.length/\∃p S ρ,bD X.K p S H/\cR X.K p H ρ σ/\eK X.K p H (xs,G) J/\dY X.K cl p H (dR G g b1 (xs.drop i) ρ S) D E,⟨xs.length,by simp,ia _,q,S',ρ,sm,ev,it,by simpa using k⟩,?_⟩
 rintro i n σ1 H1 ⟨rfl,hi,p1,S1,ρ1,sm1,ev1,it1,k1⟩
 by_cases hlt:i<xs.length
 .have hx:xs[i]?=some xs[i]:=bf hlt
  rw[wz hlt]at k1;unfold dR at k1;split at k1
  .rename_i gk
   obtain⟨g1,y1⟩:=(it1.2 p1 H1 S1 sm1.step sm1 gk).1 i _ hx;cases z:g xs[i] ρ1 with
   |none=>simp only[z]at k1;exact k1.elim
   |some ρ2=>
    simp only[z]at k1;refine .inr ⟨g1,λσ' H'=>i+1<=xs.length/\∃p S ρ,bD X.K p S H'/\cR X.K p H' ρ σ'/\eK X.K p H' (xs,G) J/\dY X.K cl p H' (dR G g b1 (xs.drop (i+1)) ρ S) D E,λσ' H' hN=>⟨xs.length-(i+1),by omega,rfl,hN⟩,λx H2 hy=>?_⟩;obtain⟨same,rx⟩:=y1 x H2 hy;have st2:=sm1.same same;have sm2:=sm1.ofSame same;refine⟨p1,S1,ρ1,xs[i],ρ2,sm2,st2.repE ev1,rx,z,λσ3 ev3=>⟨p1,S1,ρ2,sm2,ev3,?_⟩⟩;have it2:=it1.step st2;cases y:b1 ρ2 S1 with
    |nx ρ4 S4=>
     rw[y]at k1;exact λq5 H5 σ5 st5 sm5 ev5=>⟨hlt,q5,S4,ρ4,sm5,ev5,it2.step st5,dY.mono (r:=dR G g b1 (xs.drop (i+1)) ρ4 S4) k1 (st2.trans st5)⟩
    |ct ρ4 S4=>
     rw[y]at k1;exact λq5 H5 σ5 st5 sm5 ev5=>⟨hlt,q5,S4,ρ4,sm5,ev5,it2.step st5,dY.mono (r:=dR G g b1 (xs.drop (i+1)) ρ4 S4) k1 (st2.trans st5)⟩
    |bk ρ4 S4=>rw[y]at k1;exact dY.mono (r:=.nx ρ4 S4) k1 st2
    |rt v S4=>rw[y]at k1;exact dY.mono (r:=.rt v S4) k1 st2
    |exc v S4=>rw[y]at k1;exact dY.mono (r:=.exc v S4) k1 st2
    |fail=>rw[y]at k1;exact k1.elim
  .exact k1.elim
 .have e:i=xs.length:=by omega
  subst e;rw[xa]at k1;unfold dR at k1;split at k1
  .rename_i gk
   exact .inl ⟨(it1.2 p1 H1 S1 sm1.step sm1 gk).2,dY.nxD k1 sm1 ev1⟩
  .exact k1.elim
theorem Os(hp:qe (model X.prog X.w) X.A X.env X.xe)(hc:eU K cl E X c mt)(hb:gA K cl E X sts b1):eE K cl E X (.While c sts [] pos) (mK mt b1):=by
 intro hK;subst hK;refine PS.imp (Cv hp (hc rfl) (hb rfl)) ?_
 rintro D σ H ⟨p,S,ρ,s,ev,h⟩
 unfold mK at h;split at h
 .rename_i hh
  refine⟨λn σ H=>∃p S ρ,bD X.K p S H/\cR X.K p H ρ σ/\dY X.K cl p H (dP mt b1 n ρ S) D E,⟨_,p,S,ρ,s,ev,h⟩,?_⟩
  rintro n σ1 H1 ⟨p1,S1,ρ1,sm1,ev1,k1⟩
  cases n with
  |zero=>exact k1.elim
  |succ n=>
   unfold dP at k1;refine jR sm1 ev1 k1 λq H2 t t' S2 stp sm2 ev2 r k2=>?_;cases r;cases t with
   |true=>
    rw[if_pos rfl]at k2⊢;refine⟨λσ' H'=>∃p S ρ,bD X.K p S H'/\cR X.K p H' ρ σ'/\dY X.K cl p H' (dP mt b1 n ρ S) D E,λσ' H' hN=>⟨n,d4 n,hN⟩,q,S2,ρ1,sm2,ev2,?_⟩;cases y:b1 ρ1 S2 with
    |nx ρ4 S4=>
     rw[y]at k2;exact λq5 H5 σ5 st5 sm5 ev5=>⟨q5,S4,ρ4,sm5,ev5,dY.mono (r:=dP mt b1 n ρ4 S4) k2 st5⟩
    |ct ρ4 S4=>
     rw[y]at k2;exact λq5 H5 σ5 st5 sm5 ev5=>⟨q5,S4,ρ4,sm5,ev5,dY.mono (r:=dP mt b1 n ρ4 S4) k2 st5⟩
    |bk ρ4 S4=>rw[y]at k2;exact k2
    |rt v S4=>rw[y]at k2;exact k2
    |exc v S4=>rw[y]at k2;exact k2
    |fail=>rw[y]at k2;exact k2.elim
   |false=>
    rw[if_neg km]at k2⊢;exact dY.nxD k2 sm2 ev2
 .exact h.elim
end
end
def hZ(n:Nat)(xs:AQ):bS:=xs.map some++bj (n-xs.length) none
def iS(n:Nat):AV->aN->bO AV
 |.pv v,S=>.ok (.pv v) (S.take n)
 |.ref k,S=>if k<n then .ok (.ref k) (S.take n)else match S[k]? with
  |some (.lst xs)=>.ok (.ref n) (S.take n++[.lst xs])
  |some (.dic b kvs)=>.ok (.ref n) (S.take n++[.dic b kvs])
  |_=>.fail
def frz(n:Nat):bO AV->bO AV
 |.ok (.ref k) S=>if k<n then .ok (.ref k) S else match S[k]? with
  |some (.lst xs)=>.ok (.pv (.lst xs)) (S.take n)
  |_=>.fail
 |r=>r
def mM(n:Nat):cS->bO AV
 |.rt v S=>iS n v S
 |.nx _ S=>.ok (.pv .non) (S.take n)
 |.exc e S=>.exc e (S.take n)
 |_=>.fail
def aX(np n:Nat)(b:MS)(xs:AQ)(S:aN):bO AV:=if xs.length=np then mM S.length (b (hZ n xs) S)else .fail
def pL{α:Type}:bO α->bO α
 |.ok a S=>.ok a S
 |_=>.fail
abbrev FM:=AQ->aN->bO AV
def cJ(f:FM)(ds:AM)(ms:MA):ME:=λρ S=>(ms ρ S).bind λxs S1=>frz S1.length (f (xs++ds.map .pv) S1)
def bA(f:FM)(ds:AM)(ms:MA):ME:=λρ S=>(ms ρ S).bind λxs S1=>frz S1.length (pL (f (xs++ds.map .pv) S1))
def pF(f:FM)(ds:AM)(ms:MA):ME:=λρ S=>(ms ρ S).bind λxs S1=>pL (f (xs++ds.map .pv) S1)
def jF(K:ae)(cl:Str->Addr)(f:FM):Sp:=λvs H Q E=>∃p S xs,bD K p S H/\gU K p H xs vs/\cA K cl (cE K) p H (f xs S) Q E
def kR(K:ae)(cl:Str->Addr)(f:FM):Sp:=λvs H Q _=>jF K cl f vs H Q E0
section
variable{K:ae}{cl:Str->Addr}{p q:Ph}{H H':Hp}{S S':aN}
theorem Ke{c c':Addr->Prop}(h:∀a,c a->c' a){a:Addr}{vs:List V}(l:jM K c' H a vs):jM K c H a vs:=by
 rcases l with⟨l,n⟩|l |l
 .exact .inl ⟨l,λz=>n (h a z)⟩
 .exact .inr (.inl l)
 .exact .inr (.inr l)
theorem qN{c c':Addr->Prop}(h:∀a,c a->c' a){ps:AM}{vs:List V}(r:aV K c' H ps vs):aV K c H ps vs:=aV.mono (λ_ _ t=>t) (λ_ _ l=>Ke h l) ps vs r
theorem Zr{c c':Addr->Prop}(h:∀a,c a->c' a){v:PV}{x:V}(r:aY K c' H v x):aY K c H v x:=aY.mono (λ_ _ t=>t) (λ_ _ l=>Ke h l) v x r
theorem Oq{f g:List Addr}(h:f <+:g):g.take f.length=f:=by
 obtain⟨t,e⟩:=h;rw[<-e,d5]
theorem yC{α:Type}:∀{l:List α}{i j:Nat}{a:α},l.Nodup->l[i]?=some a->l[j]?=some a->i=j
 |[],i,j,a,_,e,_=>by simp at e
 |b::l,0,0,a,_,_,_=>rfl
 |b::l,0,j+1,a,n,e,f=>by
  simp at e f;subst e;exact absurd (fe f) (kq.mp n).1
 |b::l,i+1,0,a,n,e,f=>by
  simp at e f;subst f;exact absurd (fe e) (kq.mp n).1
 |b::l,i+1,j+1,a,n,e,f=>by
  exact congrArg (·+1) (yC (l:=l) (a:=a) (kq.mp n).2 (by simpa using e) (by simpa using f))
theorem bD.cutX(D:Addr->Prop)(s:bD K p S H)(st:bV p H q H')(s':bD K q S' H')(hD:∀b,D b->H b=none)(hq:(∀b,D b->b∈q.f)\/∀k o,S'[k]?=some o->k<S.length->∃xs,o=.lst xs):
  let r:Ph:=⟨p.f,λb=>q.w b/\¬D b,λb=>q.c b/\¬D b⟩
  bV p H r H'/\bD K r (S'.take S.length) H':=by
 intro r;have nD:∀a,p.c a->¬D a:=λa c d=>by
  obtain⟨o,ho,_⟩:=s.mu a c;rw[hD a d]at ho;cases ho
 have le:S.length<=S'.length:=by
  have:=st.pre.length_le;rw[<-s.len,<-s'.len];exact this
 refine⟨⟨s.wc,s.mu,nr,λa h=>⟨st.mw a h,nD a (s.wc a h)⟩,λa h=>⟨st.mono a h,nD a h⟩,λ_ h g=>absurd h g,λa h=>st.nw a h.1,λa h=>st.nc a h.1,st.keep⟩,s.nd,by rw[s.len,kr];omega,λa h=>⟨st.mw a (s.sub a h),nD a (s.wc a (s.sub a h))⟩,λa h=>⟨s'.wc a h.1,h.2⟩,λa h=>s'.mu a h.1,λk a o e1 e2=>?_⟩;have hk:k<S.length:=by
  have:=(db.mp e1).1;rw[<-s.len];exact this
 have e2':S'[k]?=some o:=by
  rw[xb,if_pos hk]at e2;exact e2
 have z:=s'.obj k a o (st.at_ e1) e2';have shr:∀xs vs,aV K q.c H' xs vs->aV K r.c H' xs vs:=λxs vs=>qN (λb h=>h.1);have sub:∀b,b∉q.f->b∉p.f:=λb n h=>n (st.pre.subset h);rcases hq with hq |hq
 .exact z.mono (λ_ e=>e) (λb w f=>⟨⟨⟨w,λd=>f (hq b d)⟩,sub b f⟩,λ_ e=>e⟩) shr
 .obtain⟨xs,rfl⟩:=hq k o e2' hk
  obtain⟨vs,e,l,g⟩:=z;exact⟨vs,e,l,shr xs vs g⟩
theorem bD.cut(s:bD K p S H)(st:bV p H q H')(s':bD K q S' H'):bV p H ⟨p.f,λb=>q.w b/\¬False,λb=>q.c b/\¬False⟩ H'/\bD K ⟨p.f,λb=>q.w b/\¬False,λb=>q.c b/\¬False⟩ (S'.take S.length) H':=
 s.cutX (λ_=>False) st s' (λ_ h=>h.elim) (.inl λ_ h=>h.elim)
theorem Sf(s:bD K p S H)(st:bV p H q H')(sm:bD K q S' H'){k:Nat}{a:Addr}(e:q.f[k]?=some a)(hk:¬k<S.length):a∉p.f/\H a=none/\¬p.c a:=by
 have na:a∉p.f:=λhm=>by
  obtain⟨j,hj,ej⟩:=xc hm;have e2:q.f[j]?=some a:=st.at_ (by rw[bf hj,ej]);have hjk:j=k:=yC sm.nd e2 e;rw[s.len]at hj;omega
 have hn:=st.nf a (fe e) na;refine⟨na,hn,λc=>?_⟩;obtain⟨o,ho,_⟩:=s.mu a c;rw[hn]at ho;cases ho
theorem qY{r:bO AV}{Q:VK}{E:XK}(s:bD K p S H)(h:cA K cl (cE K) p H (frz S.length r) Q E):cA K cl (cE K) p H r Q E:=by
 cases r with
 |exc n S1=>exact h
 |fail=>exact h
 |ok v S1=>
  cases v with
  |pv v=>exact h
  |ref k=>
   have h:cA K cl (cE K) p H (if k<S.length then .ok (.ref k) S1 else match S1[k]? with
    |some (.lst xs)=>.ok (.pv (.lst xs)) (S1.take S.length)
    |_=>.fail) Q E:=h
   split at h
   .exact h
   .rename_i hk
    cases z:S1[k]? with
    |none=>rw[z]at h;exact h.elim
    |some o=>
     cases o with
     |lol _=>rw[z]at h;exact h.elim
     |dic _ _=>rw[z]at h;exact h.elim
     |dol _ _=>rw[z]at h;exact h.elim
     |lst xs=>
      rw[z]at h;intro q H' x st sm r;obtain⟨a,e,rfl⟩:=r;obtain⟨na,hn,nc⟩:=Sf s st sm e hk;obtain⟨st1,sm1⟩:=s.cutX (λb=>b=a) st sm (λb d=>d▸hn) (.inl λb d=>d▸fe e);obtain⟨vs,h1,l,r⟩:=sm.obj k a _ e z;refine h _ H' (.ref a) st1 sm1 ?_;show aY K (λb=>q.c b/\¬b=a) H' (.lst xs) (.ref a);unfold aY;exact⟨a,vs,rfl,.inl ⟨h1,λd=>d.2 rfl⟩,l,qN (λb h=>h.1) r⟩
theorem xS{r:cS}{Q:VK}{E:XK}(s:bD K p S H)(h:cA K cl (cE K) p H (mM S.length r) Q E):dY K cl p H r {nx:=λ_ H'=>Q .non H',rt:=Q} E:=by
 cases r with
 |nx ρ S1=>
  intro q H' σ st sm ev;obtain⟨st1,sm1⟩:=s.cut st sm;exact h _ H' .non st1 sm1 (by show aY K (λb=>q.c b/\¬False) H' .non .non;unfold aY;rfl)
 |exc n S1=>
  intro q H' st sm;obtain⟨st1,sm1⟩:=s.cut st sm;exact h _ H' st1 sm1
 |rt v S1=>
  intro q H' x st sm r;obtain⟨st1,sm1⟩:=s.cut st sm;cases v with
  |pv v=>exact h _ H' x st1 sm1 (show aY K (λb=>q.c b/\¬False) H' v x from Zr (λb h=>h.1) r)
  |ref k=>
   obtain⟨a,e,rfl⟩:=r;have h:cA K cl (cE K) p H (if k<S.length then .ok (.ref k) (S1.take S.length)else match S1[k]? with
    |some (.lst xs)=>.ok (.ref S.length) (S1.take S.length++[.lst xs])
    |some (.dic b kvs)=>.ok (.ref S.length) (S1.take S.length++[.dic b kvs])
    |_=>.fail) Q E:=h
   split at h
   .rename_i hk
    refine h _ H' (.ref a) st1 sm1 ⟨a,?_,rfl⟩;show p.f[k]?=some a;have hf:=Oq st.pre;rw[<-hf,xb,if_pos (by rw[s.len];exact hk)];exact e
   .rename_i hk
    have fin:∀o,S1[k]?=some o->cA K cl (cE K) p H (.ok (.ref S.length) (S1.take S.length++[o])) Q E->Q (.ref a) H':=λo z h=>by
     obtain⟨na,hn,nc⟩:=Sf s st sm e hk;have l1:(S1.take S.length).length=S.length:=by rw[<-sm1.len,<-s.len]
     have ma:a∈q.f:=fe e;refine h ⟨p.f++[a],q.w,q.c⟩ H' (.ref a) ⟨s.wc,s.mu,⟨[a],rfl⟩,st.mw,st.mono,λb hb n=>?_,st.nw,st.nc,st.keep⟩ ⟨?_,?_,λb hb=>?_,sm.wc,sm.mu,λj b o e1 e2=>?_⟩ ⟨a,?_,rfl⟩
     .rcases cm.mp hb with z |z
      .exact absurd z n
      .have:b=a:=by simpa using z
       rw[this];exact hn
     .show(p.f++[a]).Nodup
      rw[d6];refine⟨s.nd,by simp,λb hb c hc z=>?_⟩;have:c=a:=by simpa using hc
      exact na (this▸z▸hb)
     .show(p.f++[a]).length=_
      rw[bn,bn,l1,s.len];rfl
     .rcases cm.mp hb with z |z
      .exact st.mw b (s.sub b z)
      .have:b=a:=by simpa using z
       rw[this];exact sm.sub a ma
     .by_cases hj:j<S.length
      .have e1':p.f[j]?=some b:=by
        have e1:(p.f++[a])[j]?=some b:=e1
        rwa[gi (by rw[s.len];exact hj)]at e1
       rw[gi (by rw[l1];exact hj),xb,if_pos hj]at e2;refine(sm.obj j b o (st.at_ e1') e2).mono (λ_ e=>e) (λc w f=>⟨⟨w,λm=>?_⟩,λ_ e=>e⟩) λ_ _ r=>r;rcases cm.mp m with z |z
       .exact f (st.pre.subset z)
       .have:c=a:=by simpa using z
        exact f (this▸ma)
      .have hj':j=S.length:=by
        have:=(db.mp e2).1;rw[bn,l1]at this;simp at this;omega
       subst hj';rw[gv (by rw[l1];exact am _),l1,lg]at e2;have e1:(p.f++[a])[S.length]?=some b:=e1;rw[<-s.len,gv (am _),lg]at e1;cases e1;cases e2;refine(sm.obj k a _ e z).mono (λ_ e=>e) (λc w f=>⟨⟨w,λm=>?_⟩,λ_ e=>e⟩) λ_ _ r=>r;rcases cm.mp m with z |z
       .exact f (st.pre.subset z)
       .have:c=a:=by simpa using z
        exact f (this▸ma)
     .show(p.f++[a])[S.length]?=some a
      rw[<-s.len,gv (am _),lg];rfl
    split at h
    .rename_i z
     exact fin _ z h
    .rename_i z
     exact fin _ z h
    .exact h.elim
 |bk ρ S1=>exact h.elim
 |ct ρ S1=>exact h.elim
 |fail=>exact h.elim
theorem xU{N:List Str}{xs:AQ}{vs:List V}(r:gU K p H xs vs):cR K p H (hZ N.length xs) (L2.start N vs):=by
 have go:∀{xs:AQ}{vs:List V},gU K p H xs vs->xs.length=vs.length:=λ{xs vs} r=>by
  induction r with
  |nil=>rfl
  |cons _ _ ih=>rw[bq,bq,ih]
 have get:∀{xs:AQ}{vs:List V},gU K p H xs vs->∀(i:Nat)(v:AV),xs[i]?=some v->∃x,vs[i]?=some x/\cE K p H v x:=λ{xs vs} r=>by
  induction r with
  |nil=>intro i v e;simp at e
  |cons h _ ih=>
   intro i v e;cases i with
   |zero=>
    simp at e;subst e;exact⟨_,rfl,h⟩
   |succ i=>simpa using ih i v (by simpa using e)
 have hl:=go r;refine⟨by unfold hZ L2.start;simp[hl],λi v e=>?_⟩;unfold hZ at e;unfold L2.start
 by_cases hi:i<xs.length
 .rw[gi (by simpa using hi),dy]at e
  cases z:xs[i]? with
  |none=>rw[z]at e;cases e
  |some u=>
   rw[z]at e;cases e;obtain⟨x,e1,e2⟩:=get r i v z;refine⟨x,?_,e2⟩;rw[gi (by rw[ar,<-hl];exact hi),dy,e1];rfl
 .rw[gv (by rw[ar];omega),yo]at e
  split at e
  .cases e
  .cases e
end
section
variable{P:Program}{w:ao}{K:ae}{mg:Str->AI}{base:Heap}{cl:Str->Addr}
theorem Ou{K:ae}{p:Ph}{H:Hp}{xs:AQ}{vs:List V}(h:gU K p H xs vs):xs.length=vs.length:=by
 induction h with
 |nil=>rfl
 |cons _ _ ih=>rw[bq,bq,ih]
theorem zY{np n:Nat}{b:MS}{vs:List V}{H:Hp}{Q:VK}{E:XK}(h:jF K cl (aX np n b) vs H Q E):vs.length=np:=by
 obtain⟨p,S,xs,sm,ra,h⟩:=h;unfold aX at h;split at h
 .rename_i e
  rw[<-Ou ra,e]
 .exact h.elim
theorem Zo{x qual:Str}{st:Stmt}{f:Addr}{fd:bh}{N ps:List Str}{k np n:Nat}{b:MS}(F:iX K x qual st f fd)(S:iY N ps (cN st))(hnp:ps.length=np)(hn:N.length=n)
  (hb:∀(cdv:Value)(A:aq)(outer:List az)(s:aa)(H:Hp)(E:XK),cU k (A.deeper (envOfC qual (cN st) s.heap.objs.size f cdv))->gA K cl E0 (aT fR P w K mg base N qual (cN st) f cdv A outer s H E).nox (dZ st) b):
  dJ P w K mg base fR (k+1) f fd ps (kR K cl (aX np n b)):=by
 subst hnp hn;refine F.ok S (λvs H Q E h=>zY h) λcdv A outer s H vs Q E hr h=>⟨_,hb cdv A outer s H E hr rfl,?_⟩;obtain⟨p,S,xs,sm,ra,h⟩:=h;unfold aX at h;split at h
 .exact⟨p,S,_,sm,xU ra,xS sm h⟩
 .exact h.elim
theorem okX{x qual:Str}{st:Stmt}{f:Addr}{fd:bh}{N ps:List Str}{k np n:Nat}{b:MS}(F:iX K x qual st f fd)(S:iY N ps (cN st))(hnp:ps.length=np)(hn:N.length=n)
  (hb:∀(cdv:Value)(A:aq)(outer:List az)(s:aa)(H:Hp)(E:XK),cU k (A.deeper (envOfC qual (cN st) s.heap.objs.size f cdv))->gA K cl E (aT (aQ P w) P w K mg base N qual (cN st) f cdv A outer s H E) (dZ st) b):
  dJ P w K mg base (aQ P w) (k+1) f fd ps (jF K cl (aX np n b)):=by
 subst hnp hn;refine F.okX S (λvs H Q E h=>zY h) λcdv A outer s H vs Q E hr h=>⟨_,hb cdv A outer s H E hr rfl,?_⟩;obtain⟨p,S,xs,sm,ra,h⟩:=h;unfold aX at h;split at h
 .exact⟨p,S,_,sm,xU ra,xS sm h⟩
 .exact h.elim
theorem aaO{x qual:Str}{st:Stmt}{f:Addr}{fd:bh}{ds:Array Value}{N ps:List Str}{k np n:Nat}{b:MS}(F:lO K x qual st f fd ds)(S:iY N ps (cN st))(hnp:ps.length=np)(hn:N.length=n)
  (hb:∀(cdv:Value)(A:aq)(outer:List az)(s:aa)(H:Hp)(E:XK),cU k (A.deeper (envOfC qual (cN st) s.heap.objs.size f cdv))->gA K cl E (aT (aQ P w) P w K mg base N qual (cN st) f cdv A outer s H E) (dZ st) b):
  dJ P w K mg base (aQ P w) (k+1) f fd ps (jF K cl (aX np n b)):=by
 subst hnp hn;refine F.okX S (λvs H Q E h=>zY h) λcdv A outer s H vs Q E hr h=>⟨_,hb cdv A outer s H E hr rfl,?_⟩;obtain⟨p,S,xs,sm,ra,h⟩:=h;unfold aX at h;split at h
 .exact⟨p,S,_,sm,xU ra,xS sm h⟩
 .exact h.elim
theorem x0{f:Addr}{fd:bh}{ps:List Str}{k:Nat}{g:FM}(F:dJ P w K mg base (aQ P w) k f fd ps (jF K cl g)):dJ P w K mg base fR k f fd ps (kR K cl g):=
 ⟨λvs H Q E h=>F.len vs H Q E0 h,λA outer s H args us vs Q E hr e0 hb hv h=>ko (F.run A outer s H args us vs Q E0 hr e0 hb hv h) λr s' hq=>by
  cases r with
  |error e=>
   obtain⟨_,_,_,_,_,_,_,_,_,_,_,_,z⟩:=hq;exact z
  |ok fl=>
   cases fl with
   |ret u=>exact hq
   |next=>exact hq
   |brk=>exact hq
   |cont=>exact hq⟩
end
section
variable{K:ae}{cl:Str->Addr}{E:XK}{X:Cx}{e:af}{es:List af}{ms:MA}{pos p:ah}{k n:Nat}{f:Addr}{fd:bh}{ps:List Str}{g:FM}{x:Str}{dvs:List V}{ds:AH}{dv:AM}
theorem oJ{p:Ph}{H:Hp}{xs ys:AQ}{vs ws:List V}(h:gU K p H xs vs)(g:gU K p H ys ws):gU K p H (xs++ys) (vs++ws):=by
 induction h with
 |nil=>exact g
 |cons h _ ih=>exact .cons h ih
def Dv(dv:AM)(dvs:List V):Prop:=∀K p H,gU K p H (dv.map .pv) dvs
theorem Dv.nil:Dv [] []:=λ_ _ _=>.nil
theorem Ly(F:dJ X.prog X.w X.K X.mg X.base fR k f fd ps (kR K cl g))(hr:cU k X.A)(hg:Gl X x)(hm:X.mg x=some (.ref f))(hk:de X.K (.ref f)=true)(hb:fO X.K fd ps ds)(hd:bH dvs ds)(hv:Dv dv dvs)
  (ha:dW K cl E0 X (e::es) ms)(hdb:(x==("__debug__":Str))=false:=by decide)(he:starEach (e::es) X.env=(false,eval e X.env)::starEach es X.env:=by rfl)(hpl:(backTo pos (starEach es X.env)).any (·.1)=false:=by rfl):
  aU K cl E0 X (.Call (.Name x p) (e::es) [] pos) (cJ g dv ms):=by
 intro hK;refine PE.imp (rE F hr hg hm hk hb hd Xa (ha hK) hdb he hpl) ?_
 rintro σ H Q ⟨p,S,ρ,s,ev,h⟩
 exact bZ s ev h λq H' as xs S' stp sm ev r k=>⟨q,S',_,sm,oJ r (hv K q H'),qY sm k⟩
theorem We{α β:Type}{R:Ph->Hp->α->β->Prop}{p:Ph}{H:Hp}{r:bO α}{Q:β->Hp->Prop}(h:cA K cl R p H (pL r) Q E):cA K cl R p H r Q E0:=by
 cases r with
 |ok a S=>exact h
 |exc n S=>exact h.elim
 |fail=>exact h.elim
theorem Fx(F:dJ X.prog X.w X.K X.mg X.base fR k f fd ps (kR K cl g))(hr:cU k X.A)(hg:Gl X x)(hm:X.mg x=some (.ref f))(hk:de X.K (.ref f)=true)(hb:fO X.K fd ps ds)(hd:bH dvs ds)(hv:Dv dv dvs)
  (ha:dW K cl E X (e::es) ms)(hdb:(x==("__debug__":Str))=false:=by decide)(he:starEach (e::es) X.env=(false,eval e X.env)::starEach es X.env:=by rfl)(hpl:(backTo pos (starEach es X.env)).any (·.1)=false:=by rfl):
  aU K cl E X (.Call (.Name x p) (e::es) [] pos) (bA g dv ms):=by
 intro hK;refine PE.imp (rE F hr hg hm hk hb hd Xa (ha hK) hdb he hpl) ?_
 rintro σ H Q ⟨p,S,ρ,s,ev,h⟩
 exact bZ s ev h λq H' as xs S' stp sm ev r k=>⟨q,S',_,sm,oJ r (hv K q H'),We (qY sm k)⟩
theorem Qx(F:dJ X.prog X.w X.K X.mg X.base fR k f fd ps (kR K cl g))(hr:cU k X.A)(hg:Gl X x)(hm:X.mg x=some (.ref f))(hk:de X.K (.ref f)=true)(hb:fO X.K fd ps ds)(hd:bH dvs ds)(hv:Dv dv dvs)
  (ha:dW K cl E X (e::es) ms)(hdb:(x==("__debug__":Str))=false:=by decide)(he:starEach (e::es) X.env=(false,eval e X.env)::starEach es X.env:=by rfl)(hpl:(backTo pos (starEach es X.env)).any (·.1)=false:=by rfl):
  aU K cl E X (.Call (.Name x p) (e::es) [] pos) (pF g dv ms):=by
 intro hK;refine PE.imp (rE F hr hg hm hk hb hd Xa (ha hK) hdb he hpl) ?_
 rintro σ H Q ⟨p,S,ρ,s,ev,h⟩
 exact bZ s ev h λq H' as xs S' stp sm ev r k=>⟨q,S',_,sm,oJ r (hv K q H'),We k⟩
theorem Ox{P:Program}{w:ao}{mg:Str->AI}{base:Heap}{N:List Str}{qual:Str}{scope:Scope}{fo:Addr}{cd:Value}{A:aq}{outer:List az}{AS:aa}{AT:Hp}
  (F:dJ P w K mg base (aQ P w) k f fd ps (jF K cl g))(hr:cU k (aT (aQ P w) P w K mg base N qual scope fo cd A outer AS AT E).A)(hg:Gl (aT (aQ P w) P w K mg base N qual scope fo cd A outer AS AT E) x)(hm:mg x=some (.ref f))(hk:de K (.ref f)=true)(hb:fO K fd ps ds)(hd:bH dvs ds)(hv:Dv dv dvs)
  (ha:dW K cl E (aT (aQ P w) P w K mg base N qual scope fo cd A outer AS AT E) (e::es) ms)(hdb:(x==("__debug__":Str))=false:=by decide)
  (he:starEach (e::es) (aT (aQ P w) P w K mg base N qual scope fo cd A outer AS AT E).env=(false,eval e (aT (aQ P w) P w K mg base N qual scope fo cd A outer AS AT E).env)::starEach es (aT (aQ P w) P w K mg base N qual scope fo cd A outer AS AT E).env:=by rfl)
  (hpl:(backTo pos (starEach es (aT (aQ P w) P w K mg base N qual scope fo cd A outer AS AT E).env)).any (·.1)=false:=by rfl):
  aU K cl E (aT (aQ P w) P w K mg base N qual scope fo cd A outer AS AT E) (.Call (.Name x p) (e::es) [] pos) (cJ g dv ms):=by
 intro hK;refine PE.imp (rE F hr hg hm hk hb hd W6 (ha hK) hdb he hpl) ?_
 rintro σ H Q ⟨p,S,ρ,s,ev,h⟩
 exact bZ s ev h λq H' as xs S' stp sm ev r k=>⟨q,S',_,sm,oJ r (hv K q H'),qY sm k⟩
def mP(n:Str):MS:=λ_ S=>.exc n S
theorem Cu{P:Program}{w:ao}{mg:Str->AI}{base:Heap}{N:List Str}{qual:Str}{scope:Scope}{f:Addr}{cd:Value}{A:aq}{outer:List az}{AS:aa}{AT:Hp}
  {sJ:Str}{j:Nat}{np p1 cpos:ah}(hg:Gl (aT (aQ P w) P w K mg base N qual scope f cd A outer AS AT E) x)(hm:mg x=some (.ref (cl x)))(hx:cw K (cl x) eW "ValueError.__new__"=true)
  (hd:(x==("__debug__":Str))=false:=by decide):
  eE K cl E (aT (aQ P w) P w K mg base N qual scope f cd A outer AS AT E) (.Raise (some (.Call (.Name x np) [.Constant (.str sJ) j p1] [] cpos)) none pos) (mP x):=
 λ_=>PS.imp (Ey hg hm hx hd) λD σ H ⟨p,S,ρ,s,ev,h⟩=>h p H s.step s
end
def bT(own:List Str)(cap:List (Nat×Str))(ρ:bS):bS:=own.map (λ_=>none)++cap.map λp=>(ρ[p.1]?).join
open Classical in
noncomputable def cG(G:Gd)(g:GM)(me:ME):AM->bS->aN->bO AM
 |[],_,S=>if gL G S then .ok [] S else .fail
 |x::r,ρ,S=>if gL G S then(match g x ρ with
  |none=>.fail
  |some ρ1=>match me ρ1 S with
   |.ok (.pv y) S1=>match cG G g me r ρ1 S1 with
    |.ok ys S2=>.ok (y::ys) S2
    |_=>.fail
   |_=>.fail)else .fail
theorem eH{g:GM}{me:ME}{ρ:bS}{S:aN}:cG [] g me [] ρ S=.ok [] S:=by
 unfold cG;rw[if_pos (gF S)]
theorem eQ{g:GM}{me:ME}{x:PV}{r:AM}{ρ:bS}{S:aN}:cG [] g me (x::r) ρ S=(match g x ρ with
  |none=>.fail
  |some ρ1=>match me ρ1 S with
   |.ok (.pv y) S1=>match cG [] g me r ρ1 S1 with
    |.ok ys S2=>.ok (y::ys) S2
    |_=>.fail
   |_=>.fail):=by
 rw[cG,if_pos (gF S)]
noncomputable def bI(own:List Str)(cap:List (Nat×Str))(mi:MI)(g:GM)(me:ME):ME:=λρ S=>(mi ρ S).bind λxs S1=>(cG xs.2 g me xs.1 (bT own cap ρ) S1).bind λys S2=>.ok (.pv (.lst ys)) S2
theorem Rq{G:Gd}{g:GM}{me:ME}:∀(xs:AM)(ρ:bS)(S:aN)(n:Str)(S':aN),cG G g me xs ρ S≠.exc n S'
 |[],_,_,_,_,e=>by
  unfold cG at e;split at e<;>cases e
 |x::r,ρ,S,n,S',e=>by
  unfold cG at e;split at e
  .split at e
   .cases e
   .split at e
    .split at e
     .cases e
     .cases e
    .cases e
  .cases e
theorem Mi{G:Gd}{g:GM}{me:ME}{xs zs:AM}{ρ:bS}{S S':aN}(e:cG G g me xs ρ S=.ok zs S'):gL G S:=by
 cases xs with
 |nil=>
  unfold cG at e;split at e
  .assumption
  .cases e
 |cons x r=>
  unfold cG at e;split at e
  .assumption
  .cases e
section
variable{K:ae}{cl:Str->Addr}{E:XK}{X:Cx}{p q:Ph}{H H':Hp}{S:aN}
theorem Ch{ρ:bS}{σ:St}{own:List Str}{cap:List (Nat×Str)}(h:cR K p H ρ σ):cR K p H (bT own cap ρ) (jW own cap σ):=by
 refine⟨by unfold bT jW;simp,λi v e=>?_⟩;unfold bT at e;unfold jW
 by_cases hi:i<own.length
 .rw[gi (by simpa using hi),dy,bf hi]at e
  cases e
 .rw[gv (by rw[ar];omega),dy,ar]at e⊢
  cases z:cap[i-own.length]? with
  |none=>rw[z]at e;cases e
  |some c=>
   rw[z]at e;have e:(ρ[c.1]?).join=some v:=cf e;have e':ρ[c.1]?=some (some v):=by
    cases y:ρ[c.1]? with
    |none=>rw[y]at e;cases e
    |some o=>rw[y]at e;exact congrArg some e
   obtain⟨x,e1,e2⟩:=h.at_ c.1 v e';refine⟨x,?_,e2⟩;show some ((σ[c.1]?).join)=some (some x);rw[e1];rfl
def Ph.res(p:Ph)(D:Addr):Ph:=⟨p.f,λa=>p.w a\/a=D,λa=>p.c a\/a=D⟩
def Ph.hold(p:Ph)(D:Addr):Ph:=⟨p.f,λa=>p.w a/\a≠D,p.c⟩
def Ph.less(p:Ph)(D:Addr):Ph:=⟨p.f,λa=>p.w a/\a≠D,λa=>p.c a/\a≠D⟩
theorem bD.notin(s:bD K p S H){D:Addr}(h:H D=none):¬p.c D:=λc=>by
 obtain⟨o,e,_⟩:=s.mu D c;rw[h]at e;cases e
theorem bD.res(s:bD K p S H){D:Addr}{o:HO}(h:H D=none)(mo:Mb o):bV p H (p.res D) (bE H D o)/\bD K (p.res D) S (bE H D o):=by
 have st:bV p H (p.res D) (bE H D o):=⟨s.wc,s.mu,nr,λa h=>.inl h,λa h=>.inl h,λa h g=>absurd h g,λa x n=>x.elim (λz=>absurd z n) (λz=>by rw[z];exact h),λa x n=>x.elim (λz=>absurd z n) (λz=>by rw[z];exact h),λa u e _=>by
  rw[cQ (fU e h)];exact e⟩
 refine⟨st,s.nd,s.len,λa h=>.inl (s.sub a h),λa x=>x.elim (λz=>.inl (s.wc a z)) .inr,λa x=>?_,λk a u e1 e2=>?_⟩
 .by_cases z:a=D
  .rw[z,iL]
   exact⟨o,rfl,mo⟩
  .rw[cQ z]
   exact s.mu a (x.elim id λy=>absurd y z)
 .exact(s.obj k a u e1 e2).mono (λvs e=>by rw[cQ (fU e h)];exact e) (λb w f=>⟨⟨.inl w,f⟩,λvs e=>by rw[cQ (fU e h)];exact e⟩) λ_ _ r=>st.reps r
theorem bD.resHold(s:bD K p S H){D:Addr}{o:HO}(h:H D=none)(mo:Mb o):bD K ((p.res D).hold D) S (bE H D o):=by
 obtain⟨st,sm⟩:=s.res (o:=o) h mo;have ne:∀a,p.w a->a≠D:=λa w z=>s.notin h (z▸s.wc a w);refine⟨sm.nd,sm.len,λa m=>⟨sm.sub a m,ne a (s.sub a m)⟩,λa x=>sm.wc a x.1,sm.mu,λk a u e1 e2=>?_⟩;exact(s.obj k a u e1 e2).mono (λvs e=>by rw[cQ (fU e h)];exact e) (λb w f=>⟨⟨⟨.inl w,ne b w⟩,f⟩,λvs e=>by rw[cQ (fU e h)];exact e⟩) λ_ _ r=>st.reps r
theorem bV.unhold{D:Addr}(h:p.w D)(st:bV (p.hold D) H q H')(s:bD K p S H):bV p H ⟨q.f,λa=>q.w a\/a=D,q.c⟩ H':=
 ⟨s.wc,s.mu,st.pre,λa x=>by
  by_cases z:a=D
  .exact .inr z
  .exact .inl (st.mw a ⟨x,z⟩),st.mono,st.nf,λa x n=>by
  rcases x with x |x
  .exact st.nw a x λz=>n z.1
  .exact absurd (x▸h) n,st.nc,λa o e n=>st.keep a o e λz=>n z.1⟩
theorem bD.grow{D:Addr}{ys:List V}{o:HO}(s:bD K p S H)(sh:bD K (p.hold D) S H)(w:p.w D)(n:D∉p.f)(mo:Mb o):bV p H p (bE H D o)/\bD K p S (bE H D o)/\bD K (p.hold D) S (bE H D o):=by
 have st:bV p H p (bE H D o):=⟨s.wc,s.mu,nr,λ_ h=>h,λ_ h=>h,λ_ h g=>absurd h g,λ_ h g=>absurd h g,λ_ h g=>absurd h g,λa u e nw=>by
  rw[cQ (λz:a=D=>nw (by rw[z];exact w))];exact e⟩
 have hm:∀a,p.c a->∃u,bE H D o a=some u/\Mb u:=λa x=>by
  by_cases z:a=D
  .rw[z,iL]
   exact⟨o,rfl,mo⟩
  .rw[cQ z]
   exact s.mu a x
 refine⟨st,⟨s.nd,s.len,s.sub,s.wc,hm,λk a u e1 e2=>?_⟩,⟨sh.nd,sh.len,sh.sub,sh.wc,hm,λk a u e1 e2=>?_⟩⟩
 .have ne:a≠D:=λz=>n (z▸fe e1)
  exact(sh.obj k a u e1 e2).mono (λvs e=>by rw[cQ ne];exact e) (λb w f=>⟨⟨w.1,f⟩,λvs e=>by rw[cQ w.2];exact e⟩) λ_ _ r=>st.reps r
 .have ne:a≠D:=λz=>n (z▸fe e1)
  exact(sh.obj k a u e1 e2).mono (λvs e=>by rw[cQ ne];exact e) (λb w f=>⟨⟨w,f⟩,λvs e=>by rw[cQ w.2];exact e⟩) λ_ _ r=>st.reps r
theorem bD.toLess{D:Addr}(s:bD K (p.hold D) S H):bD K (p.less D) S H:=
 ⟨s.nd,s.len,s.sub,λa h=>⟨s.wc a h,h.2⟩,λa h=>s.mu a h.1,λk a o e1 e2=>
  (s.obj k a o e1 e2).mono (λ_ e=>e) (λb w f=>⟨⟨w,f⟩,λ_ e=>e⟩) λ_ _ r=>qN (λa h=>h.1) r⟩
theorem bV.toLess{D:Addr}(st:bV p H q H')(h:H D=none):bV p H (q.less D) H':=by
 have nD:∀a,p.c a->a≠D:=λa c z=>by
  obtain⟨o,e,_⟩:=st.mu a c;rw[z,h]at e;cases e
 exact⟨st.wc,st.mu,st.pre,λa x=>⟨st.mw a x,nD a (st.wc a x)⟩,λa x=>⟨st.mono a x,nD a x⟩,st.nf,λa x=>st.nw a x.1,λa x=>st.nc a x.1,st.keep⟩
variable{sc:Scope}{own:List Str}{cap:List (Nat×Str)}{elt target iter:af}{pos:ah}{mi:MI}{g:GM}{me:ME}
theorem Us{σ:St}{ρ:bS}{xs zs:AM}{G:Gd}{J:It}{Q:VK}{D:Addr}{S2:aN}(sm:bD K p S H)(ev:cR K p H ρ σ)(it:eK K p H (xs,G) J)(z:cG G g me xs (bT own cap ρ) S=.ok zs S2)(hD:H D=none)
  (k:∀q H' vs,bV p H q H'->bD K q S2 H'->bD K (q.hold D) S2 H'->q.w D->D∉q.f->H' D=some (.lst vs)->vs.length<=sizeLine->aV K q.c H' zs vs->Q (.ref D) H'):
  qB J (gP K g) (tP K cl E0 (cE K) me) (jW own cap σ) H D Q:=by
 obtain⟨st0,sm0⟩:=sm.res (D:=D) (o:=.lst []) hD trivial;have sh0:=sm.resHold (D:=D) (o:=.lst []) hD trivial;have nf0:D∉p.f:=λh=>sm.notin hD (sm.wc D (sm.sub D h));refine Wj xs.length it.1 (λi σ1 H1 ys=>ys.length=i/\i<=xs.length/\H1 D=some (.lst ys)/\∃p1 S1 ρ1 us ws,(bD K p1 S1 H1/\bD K (p1.hold D) S1 H1)/\bV p H p1 H1/\p1.w D/\D∉p1.f/\cR K p1 H1 ρ1 σ1/\eK K p1 H1 (xs,G) J/\gL G S1/\aV K p1.c H1 us ys/\zs=us++ws/\cG G g me (xs.drop i) ρ1 S1=.ok ws S2) ?_ ?_ ?_ ?_ ?_
 .refine⟨rfl,ia _,iL,p.res D,S,bT own cap ρ,[],zs,⟨sm0,sh0⟩,st0,.inr rfl,nf0,Ch (st0.repE ev),it.step st0,?_,.nil,rfl,by simpa using z⟩
  exact Mi z
 .rintro i σ1 H1 ys ⟨h1,_,h2,_⟩
  exact⟨h1,h2⟩
 .rintro i σ1 H1 ys hi ⟨_,_,_,p1,S1,ρ1,us,ws,⟨sm1,sh1⟩,st1,w1,f1,ev1,it1,g1,_⟩
  exact((it1.2 p1 H1 S1 sm1.step sm1 g1).1 i xs[i] (bf hi)).1
 .rintro i σ1 H1 ys x H2 hi ⟨hl,_,hH,p1,S1,ρ1,us,ws,⟨sm1,sh1⟩,st1,w1,f1,ev1,it1,g1,r1,e1,c1⟩ hy
  obtain⟨same,rx⟩:=((it1.2 p1 H1 S1 sm1.step sm1 g1).1 i xs[i] (bf hi)).2 x H2 hy;rw[wz hi]at c1;unfold cG at c1;rw[if_pos g1]at c1;split at c1
  .cases c1
  .rename_i ρ2 gz
   split at c1
   .rename_i y S3 mz
    split at c1
    .rename_i vs S4 cz
     cases c1;have st2:=sm1.same same;have sm2:=sm1.ofSame same;have smh:=sh1.ofSame same;have stS:bV p H p1 H2:=st1.trans st2;refine⟨p1,S1,ρ1,xs[i],ρ2,sm2,st2.repE ev1,rx,gz,λσ3 ev3=>⟨p1.hold D,S1,ρ2,smh,⟨ev3.len,ev3.at_⟩,?_⟩⟩;rw[mz];intro q H4 y' st4 sm4 ry;have hD2:H2 D=some (.lst ys):=same _ _ hH;have hD4:H4 D=some (.lst ys):=st4.keep D _ hD2 λz=>z.2 rfl;have fq:D∉q.f:=λh=>by
      have:=st4.nf D h f1;rw[hD2]at this;cases this
     have stU:=bV.unhold w1 st4 sm2;have nq:¬q.w D:=λz=>by
      have:=st4.nw D z λy=>y.2 rfl;rw[hD2]at this;cases this
     have smU:bD K ⟨q.f,λa=>q.w a\/a=D,q.c⟩ S3 H4:=⟨sm4.nd,sm4.len,λa h=>.inl (sm4.sub a h),λa h=>h.elim (sm4.wc a) λz=>z▸st4.mono D (sm2.wc D w1),sm4.mu,λk a o e1 e2=>
      (sm4.obj k a o e1 e2).mono (λ_ e=>e) (λb w f=>⟨⟨.inl w,f⟩,λ_ e=>e⟩) λ_ _ r=>r⟩
     have shU:bD K (Ph.hold ⟨q.f,λa=>q.w a\/a=D,q.c⟩ D) S3 H4:=⟨sm4.nd,sm4.len,λa h=>⟨.inl (sm4.sub a h),λz=>nq (z▸sm4.sub a h)⟩,λa h=>smU.wc a h.1,sm4.mu,λk a o e1 e2=>
      (sm4.obj k a o e1 e2).mono (λ_ e=>e) (λb w f=>⟨⟨⟨.inl w,λz=>nq (z▸w)⟩,f⟩,λ_ e=>e⟩) λ_ _ r=>r⟩
     obtain⟨stG,smG,shG⟩:=smU.grow (ys:=ys) (D:=D) (o:=.lst (ys++[y'])) shU (.inr rfl) fq trivial;have stA:=st2.trans (stU.trans stG);refine En hi hD4 ⟨by rw[bn,hl];rfl,hi,iL,_,S3,ρ2,us++[y],vs,⟨smG,shG⟩,st1.trans stA,.inr rfl,fq,stG.repE (stU.repE ev3),it1.step stA,Mi cz,?_,by rw[e1,kw];rfl,cz⟩;exact(stA.reps r1).append (.cons (stG.rep ry) .nil)
    .cases c1
   .cases c1
 .rintro σ1 H1 ys ⟨hl,_,hH,p1,S1,ρ1,us,ws,⟨sm1,sh1⟩,st1,w1,f1,ev1,it1,g1,r1,e1,c1⟩
  rw[xa]at c1;unfold cG at c1;rw[if_pos g1]at c1;cases c1;refine⟨(it1.2 p1 H1 _ sm1.step sm1 g1).2,?_⟩;rw[vk]at e1;subst e1;exact k p1 H1 ys st1 sm1 sh1 w1 f1 hH (by rw[hl];exact it.1) r1
theorem Rg{σ:St}{ρ:bS}{xs:AM×Gd}{J:It}{Q:VK}{D:Addr}(sm:bD K p S H)(ev:cR K p H ρ σ)(it:eK K p H xs J)(k:cA K cl (cE K) p H ((cG xs.2 g me xs.1 (bT own cap ρ) S).bind λys S2=>.ok (.pv (.lst ys)) S2) Q E)(hD:H D=none):
  qB J (gP K g) (tP K cl E0 (cE K) me) (jW own cap σ) H D Q:=by
 cases z:cG xs.2 g me xs.1 (bT own cap ρ) S with
 |fail=>rw[z]at k;exact k.elim
 |exc n S'=>exact absurd z (Rq _ _ _ _ _)
 |ok zs S2=>
  rw[z]at k;have k:∀q H' x,bV p H q H'->bD K q S2 H'->aY K q.c H' (.lst zs) x->Q x H':=k;refine Us sm ev it z hD λq H' vs st1 sm1 sh1 w1 f1 hH l1 r1=>?_;refine k (q.less D) H' (.ref D) (st1.toLess hD) sh1.toLess ?_;unfold aY;exact⟨D,vs,rfl,.inl ⟨hH,λz=>z.2 rfl⟩,l1,qN (λa h=>h.1) r1⟩
theorem Hy(k:gG X sc own cap)(hi:gY K cl E X target iter mi)(hc:X.calm=true)(hg:∀C AS AT ex,kD K (cO X sc (cP own cap) C AS AT ex) target g)(he:∀C AS AT ex,aU K cl E0 (cO X sc (cP own cap) C AS AT ex) elt me)
  (hs:∀x,foldedSetIterable iter X.env x=pure x:=by intro _;rfl):aU K cl E X (.ListComp elt [⟨target,iter,[],0⟩] sc pos) (bI own cap mi g me):=by
 intro hK;refine PE.imp (E8 k (hi hK) hc (λC AS AT ex=>hg C AS AT ex hK) (λC AS AT ex=>he C AS AT ex hK) hs) ?_
 rintro σ H Q ⟨p,S,ρ,s,ev,h⟩
 exact bZ s ev h λq H' xs J S' stp sm ev it kk D hD=>Rg sm ev it kk hD
theorem Uv{i:Nat}{x:Str}{py spos:ah}(hN:X.N.Nodup)(hx:X.N[i]?=some x)(hl:jP X.env.scope x)(k:gG X sc own cap)(hi:gY K cl E X target iter mi)(hc:X.calm=true)(hg:∀C AS AT ex,kD K (cO X sc (cP own cap) C AS AT ex) target g)(he:∀C AS AT ex,aU K cl E0 (cO X sc (cP own cap) C AS AT ex) elt me)
  (hs:∀x,foldedSetIterable iter X.env x=pure x:=by intro _;rfl)(hsw:swapsWith (.ListComp elt [⟨target,iter,[],0⟩] sc pos) (some (.Name x py)) spos.line X.env=pure true:=by rfl)
  (hf:X.fn x=true\/X.env.scope.names.lookup x=some .local:=by first |exact .inl rfl |exact .inr rfl |assumption):
  eE K cl E X (.Assign [.Name x py] (.ListComp elt [⟨target,iter,[],0⟩] sc pos) spos) (aW i (bI own cap mi g me)):=by
 intro hK;refine PS.imp (B3 hN hx hl k (hi hK) hc (λC AS AT ex=>hg C AS AT ex hK) (λC AS AT ex=>he C AS AT ex hK) hs hsw hf) ?_
 rintro D σ H ⟨p,S,ρ,s,ev,h⟩
 have h2:tP K cl E (cE K) (bI own cap mi g me) σ H λy H1=>D.nx (σ.set i (some y)) H1:=by
  refine⟨p,S,ρ,s,ev,?_⟩;unfold aW at h;cases z:bI own cap mi g me ρ S with
  |ok v S1=>
   rw[z]at h;exact λq H' y st sm r=>h q H' _ st sm ((st.repE ev).set r i)
  |exc n S1=>rw[z]at h;exact h
  |fail=>rw[z]at h;exact h
 obtain⟨p,S,ρ,s,ev,h⟩:=h2;exact bZ s ev h λq H' xs J S' stp sm ev it kk B hB=>Rg sm ev it kk hB
end
def iO:List (Option Bool)->Option (List Bool)
 |[]=>some []
 |some b::r=>match iO r with
  |some bs=>some (b::bs)
  |none=>none
 |none::_=>none
theorem Je:∀{l:List (Option Bool)}{bs:List Bool},iO l=some bs->bs.length=l.length
 |[],_,e=>by cases e;rfl
 |some b::r,bs,e=>by
  unfold iO at e;split at e
  .rename_i cs h
   cases e;rw[bq,bq,Je h]
  .cases e
 |none::r,_,e=>by cases e
theorem xR:∀{l:List (Option Bool)}{bs:List Bool}{i:Nat}{o:Option Bool},iO l=some bs->l[i]?=some o->∃b,o=some b/\bs[i]?=some b
 |[],_,i,o,_,h=>by simp at h
 |some b::r,bs,i,o,e,h=>by
  unfold iO at e;split at e
  .rename_i cs h'
   cases e;cases i with
   |zero=>
    simp at h;exact⟨b,h.symm,rfl⟩
   |succ i=>simpa using xR h' (by simpa using h)
  .cases e
 |none::r,_,_,_,e,_=>by cases e
def aG:Nat->PV->PV->Option Bool
 |_,.non,.non=>some true
 |_,.bl a,.bl b=>some (a==b)
 |_,.int a,.int b=>some (a==b)
 |_,.str a,.str b=>some (a==b)
 |n+1,.tup xs,.tup ys=>match iO (dm (aG n) xs ys)with
  |some bs=>some (bs.all id&&xs.length==ys.length)
  |none=>none
 |n+1,.lst xs,.lst ys=>if xs.length=ys.length then(match iO (dm (aG n) xs ys)with
  |some bs=>some (bs.all id)
  |none=>none)else some false
 |_,_,_=>none
theorem tF(bs:List Bool):((ce bs.length).all λj=>bs.getD j true)=bs.all id:=by
 rw[qu,ib,ib];constructor
 .intro h b hb
  obtain⟨j,hj,e⟩:=xc hb;have:=h j (by simpa using hj);simpa[cr,hj,e]using this
 .intro h j hj
  have hj:j<bs.length:=by simpa using hj
  have:=h bs[j] (iu hj);simpa[cr,hj]using this
section
variable{X:Cx}{AR:List (Addr×Obj)}{σ:St}{H:Hp}{s:aa}{c:Addr->Prop}
theorem tR{n:Nat}{xs ys:AM}{vs ws:List V}{its jts:AH}{bs:List Bool}{A:aq}
  (ih:∀(v w:PV)(x y:V)(u u':Value)(b:Bool),aY X.K c H v x->aY X.K c H w y->bY x u->bY y u'->aG n v w=some b->lh A s u u' b)
  (r1:aV X.K c H xs vs)(r2:aV X.K c H ys ws)(q1:bH vs its)(q2:bH ws jts)(e:iO (dm (aG n) xs ys)=some bs):
  ∀j(h1:j<its.toArray.size)(h2:j<jts.toArray.size),lh A s its.toArray[j] jts.toArray[j] (bs.getD j true):=λj h1 h2=>by
 have l1:=r1.length.trans q1.length;have l2:=r2.length.trans q2.length;have g1:j<xs.length:=by rw[l1];simpa using h1
 have g2:j<ys.length:=by rw[l2];simpa using h2
 obtain⟨x,ex,rx⟩:=r1.get (bf g1);obtain⟨y,ey,ry⟩:=r2.get (bf g2);obtain⟨u,eu,ru⟩:=q1.get ex;obtain⟨u',eu',ru'⟩:=q2.get ey;have hz:(dm (aG n) xs ys)[j]?=some (aG n xs[j] ys[j]):=by
  rw[d7,bf g1,bf g2]
 obtain⟨b,eb,eb'⟩:=xR e hz;have e1:its.toArray[j]=u:=by
  rw[d8];rw[bf (by simpa using h1)]at eu;exact cf eu
 have e2:jts.toArray[j]=u':=by
  rw[d8];rw[bf (by simpa using h2)]at eu';exact cf eu'
 rw[e1,e2];have e3:bs.getD j true=b:=by simp[cr,eb']
 rw[e3];exact ih _ _ _ _ _ _ _ rx ry ru ru' eb
theorem rG{n:Nat}{xs ys:AM}{bs:List Bool}(e:iO (dm (aG n) xs ys)=some bs):bs.length=min xs.length ys.length:=by
 rw[Je e,List.length_zipWith]
theorem Lg(n:Nat)(v w:PV)(x:V)(b:Bool)(nt:∀xs,v≠.tup xs)(nl:∀xs,v≠.lst xs)(h:aY X.K c H v x)(g:aY X.K c H w x)(e:aG n v w=some b):b=true:=by
 cases v with
 |tup xs=>exact absurd rfl (nt xs)
 |lst xs=>exact absurd rfl (nl xs)
 |non=>
  cases w<;>first |(unfold aG at e;simp at e;done) |skip
  unfold aG at e;cases e;rfl
 |bl i=>
  cases w<;>first |(unfold aG at e;simp at e;done) |skip
  unfold aY at h g;subst h;injection g with g';subst g';unfold aG at e;cases e;exact beq_self_eq_true _
 |int i=>
  cases w<;>first |(unfold aG at e;simp at e;done) |skip
  unfold aY at h g;subst h;injection g with g';subst g';unfold aG at e;cases e;exact beq_self_eq_true _
 |str i=>
  cases w<;>first |(unfold aG at e;simp at e;done) |skip
  unfold aY at h g;subst h;injection g with g';subst g';unfold aG at e;cases e;exact beq_self_eq_true _
theorem Ii(I:aH X AR σ H s):∀(n:Nat)(v w:PV)(x:V)(b:Bool),aY X.K c H v x->aY X.K c H w x->aG n v w=some b->b=true:=by
 intro n
 induction n with
 |zero=>
  intro v w x b h g e;cases v with
  |tup xs=>unfold aG at e;simp at e
  |lst xs=>unfold aG at e;simp at e
  |_=>exact Lg 0 _ w x b (by intro _ z;cases z) (by intro _ z;cases z) h g e
 |succ n ih=>
  have items:∀(xs ys:AM)(vs:List V)(bs:List Bool),aV X.K c H xs vs->aV X.K c H ys vs->iO (dm (aG n) xs ys)=some bs->bs.all id=true/\xs.length=ys.length:=λxs ys vs bs r1 r2 e=>by
   have ll:=r1.length.trans r2.length.symm;refine⟨?_,ll⟩;rw[ib];intro b hb;obtain⟨j,hj,ej⟩:=xc hb;have hj':=hj;rw[rG e]at hj';have g1:j<xs.length:=by omega
   have g2:j<ys.length:=by omega
   obtain⟨x,ex,rx⟩:=r1.get (bf g1);obtain⟨y,ey,ry⟩:=r2.get (bf g2);have:=ex.symm.trans ey;cases this;have hz:(dm (aG n) xs ys)[j]?=some (aG n xs[j] ys[j]):=by
    rw[d7,bf g1,bf g2]
   obtain⟨b',eb,eb'⟩:=xR e hz;rw[bf hj,ej]at eb';cases eb';exact ih _ _ _ _ rx ry eb
  intro v w x b h g e;cases v with
  |tup xs=>
   cases w with
   |tup ys=>
    unfold aY at h g;obtain⟨a,vs,rfl,t1,_,r1⟩:=h;obtain⟨a',ws,e1,t2,_,r2⟩:=g;cases e1;have:=I.tuple_inj t1 t2;subst this;unfold aG at e;split at e
    .rename_i bs hb
     obtain⟨z1,z2⟩:=items xs ys vs bs r1 r2 hb;rw[z1,z2,beq_self_eq_true]at e;cases e;rfl
    .cases e
   |_=>unfold aG at e;simp at e
  |lst xs=>
   cases w with
   |lst ys=>
    unfold aY at h g;obtain⟨a,vs,rfl,t1,_,r1⟩:=h;obtain⟨a',ws,e1,t2,_,r2⟩:=g;cases e1;have:=I.list_inj t1.sq t2.sq;subst this;unfold aG at e;rw[if_pos (r1.length.trans r2.length.symm)]at e;split at e
    .rename_i bs hb
     obtain⟨z1,z2⟩:=items xs ys vs bs r1 r2 hb;rw[z1]at e;cases e;rfl
    .cases e
   |_=>unfold aG at e;simp at e
  |_=>exact Lg (n+1) _ w x b (by intro _ z;cases z) (by intro _ z;cases z) h g e
theorem Ll(I:aH X AR σ H s):∀(n:Nat)(v w:PV)(x y:V)(u u':Value)(b:Bool)(A:aq),A.units+n<cLine->aY X.K c H v x->aY X.K c H w y->bY x u->bY y u'->aG n v w=some b->nu A s u u' b/\lh A s u u' b:=by
 have flat:∀(n:Nat)(v w:PV)(x y:V)(u u':Value)(b:Bool)(A:aq),(∀xs,v≠.tup xs)->(∀xs,v≠.lst xs)->aY X.K c H v x->aY X.K c H w y->bY x u->bY y u'->aG n v w=some b->nu A s u u' b/\lh A s u u' b:=by
  intro n v w x y u u' b A nt nl h g r r' e;cases v with
  |tup xs=>exact absurd rfl (nt xs)
  |lst xs=>exact absurd rfl (nl xs)
  |non=>
   cases w<;>first |(unfold aG at e;simp at e;done) |skip
   unfold aY at h g;subst h g;cases r;cases r';unfold aG at e;cases e;exact⟨d9,rl _⟩
  |bl i=>
   cases w<;>first |(unfold aG at e;simp at e;done) |skip
   unfold aY at h g;subst h g;cases r;cases r';unfold aG at e;cases e;exact⟨e7 _ _,SeqAt.EqAt.bool_bool _ _⟩
  |int i=>
   cases w<;>first |(unfold aG at e;simp at e;done) |skip
   unfold aY at h g;subst h g;obtain⟨t,rfl⟩:=r;obtain⟨t',rfl⟩:=r';unfold aG at e;cases e;exact⟨e8 _ _ _ _,SeqAt.EqAt.int_int _ _ _ _⟩
  |str i=>
   cases w<;>first |(unfold aG at e;simp at e;done) |skip
   unfold aY at h g;subst h g;obtain⟨t,rfl⟩:=r;obtain⟨t',rfl⟩:=r';unfold aG at e;cases e;exact⟨e9 _ _ _ _,SeqAt.EqAt.str_str _ _ _ _⟩
 have main:∀(n:Nat)(v w:PV)(x y:V)(u u':Value)(b:Bool)(A:aq),A.units+n<cLine->aY X.K c H v x->aY X.K c H w y->bY x u->bY y u'->aG n v w=some b->nu A s u u' b/\lh A s u u' b:=by
  intro n
  induction n with
  |zero=>
   intro v w x y u u' b A hu h g r r' e;cases v with
   |tup xs=>unfold aG at e;simp at e
   |lst xs=>unfold aG at e;simp at e
   |_=>exact flat 0 _ w x y u u' b A (by intro _ z;cases z) (by intro _ z;cases z) h g r r' e
  |succ n ih=>
   intro v w x y u u' b A hu h g r r' e;have hin:A.in1.units+n<cLine:=by show A.units+1+n<cLine;omega
   cases v with
   |tup xs=>
    cases w with
    |tup ys=>
     have hs:x=y->b=true:=λz=>Ii I (n+1) _ _ x b h (z▸g) e;unfold aY at h g;obtain⟨a,vs,rfl,t1,_,r1⟩:=h;obtain⟨a',ws,rfl,t2,_,r2⟩:=g;cases r;cases r';obtain⟨its,q1,p1,_⟩:=I.tuple t1;obtain⟨jts,q2,p2,_⟩:=I.tuple t2;unfold aG at e;split at e
     .rename_i bs hb
      cases e;have z:=f6 (A:=A) (s:=s) (e:=λj=>bs.getD j true) (show s.heap.IsTuple a its.toArray from p1) (show s.heap.IsTuple a' jts.toArray from p2) (by omega)
       (tR (A:=A.in1) (λv w x y u u' b h1 h2 h3 h4 h5=>(ih v w x y u u' b A.in1 hin h1 h2 h3 h4 h5).2) r1 r2 q1 q2 hb)
      have l1:=r1.length.trans q1.length;have l2:=r2.length.trans q2.length;rw[ay,ay,<-l1,<-l2,<-rG hb,tF]at z;refine⟨z,?_⟩
      by_cases ha:a=a'
      .subst ha
       rw[hs rfl];exact rl _
      .exact f7 ha z
     .cases e
    |_=>unfold aG at e;simp at e
   |lst xs=>
    cases w with
    |lst ys=>
     have hs:x=y->b=true:=λz=>Ii I (n+1) _ _ x b h (z▸g) e;unfold aY at h g;obtain⟨a,vs,rfl,t1,_,r1⟩:=h;obtain⟨a',ws,rfl,t2,_,r2⟩:=g;cases r;cases r';obtain⟨its,q1,p1,_⟩:=I.list t1.sq;obtain⟨jts,q2,p2,_⟩:=I.list t2.sq;have l1:=r1.length.trans q1.length;have l2:=r2.length.trans q2.length;have fin:nu A s (.ref a) (.ref a') b->nu A s (.ref a) (.ref a') b/\lh A s (.ref a) (.ref a') b:=λz=>by
      refine⟨z,?_⟩
      by_cases ha:a=a'
      .subst ha
       rw[hs rfl];exact rl _
      .exact f7 ha z
     unfold aG at e;split at e
     .rename_i hl
      split at e
      .rename_i bs hb
       cases e;have z:=f8 (A:=A) (s:=s) (e:=λj=>bs.getD j true) p1.isList p2.isList (by rw[ay,ay];omega) (by omega)
        (tR (A:=A.in1) (λv w x y u u' b h1 h2 h3 h4 h5=>(ih v w x y u u' b A.in1 hin h1 h2 h3 h4 h5).2) r1 r2 q1 q2 hb)
       have hm:its.length=bs.length:=by rw[rG hb];omega
       rw[ay,hm,tF]at z;exact fin z
      .cases e
     .rename_i hl
      cases e;exact fin (f9 p1.isList p2.isList (by rw[ay,ay];simp;omega) (by omega))
    |_=>unfold aG at e;simp at e
   |_=>exact flat (n+1) _ w x y u u' b A (by intro _ z;cases z) (by intro _ z;cases z) h g r r' e
 exact main
end
noncomputable section
open PySem PySem.Spec PyProof.Rows Bn
section
variable{X:Cx}
theorem Xm{AR:List (Addr×Obj)}{σ:St}{H:Hp}{s:aa}(I:aH X AR σ H s){p:Ph}{v w:PV}{x y:V}{u u':Value}{b:Bool}{A:aq}(hu:A.units+8<cLine)(h:eD X.K p H v x)(g:eD X.K p H w y)(r:bY x u)(r':bY y u')(e:aG 8 v w=some b):
  nu A s u u' b/\SeqAt.RcNeAt A s u u' (!b):=by
 have hin:A.in1.units+7<cLine:=by show A.units+1+7<cLine;omega
 cases v with
 |non=>
  cases w<;>first |(unfold aG at e;simp at e;done) |skip
  have h:=h.non;have g:=g.non;subst h g;cases r;cases r';unfold aG at e;cases e;exact⟨d9,SeqAt.RcNeAt.none_none⟩
 |bl i=>
  cases w<;>first |(unfold aG at e;simp at e;done) |skip
  have h:=h.bl;have g:=g.bl;subst h g;cases r;cases r';unfold aG at e;cases e;exact⟨e7 _ _,SeqAt.RcNeAt.bool_bool _ _⟩
 |int i=>
  cases w<;>first |(unfold aG at e;simp at e;done) |skip
  have h:=h.int;have g:=g.int;subst h g;obtain⟨t,rfl⟩:=r;obtain⟨t',rfl⟩:=r';unfold aG at e;cases e;exact⟨e8 _ _ _ _,SeqAt.RcNeAt.int_int _ _ _ _⟩
 |str i=>
  cases w<;>first |(unfold aG at e;simp at e;done) |skip
  have h:=h.str;have g:=g.str;subst h g;obtain⟨t,rfl⟩:=r;obtain⟨t',rfl⟩:=r';unfold aG at e;cases e;exact⟨e9 _ _ _ _,SeqAt.RcNeAt.str_str _ _ _ _⟩
 |tup xs=>
  cases w with
  |tup ys=>
   obtain⟨a,vs,rfl,t1,_,r1⟩:=h.tup;obtain⟨a',ws,rfl,t2,_,r2⟩:=g.tup;cases r;cases r';obtain⟨its,q1,p1,_⟩:=I.tuple t1;obtain⟨jts,q2,p2,_⟩:=I.tuple t2;unfold aG at e;split at e
   .rename_i bs hb
    cases e;have it:=tR (s:=s) (A:=A.in1) (λv w x y u u' b h1 h2 h3 h4 h5=>(Ll I 7 v w x y u u' b A.in1 hin h1 h2 h3 h4 h5).2) r1 r2 q1 q2 hb;have z:=f6 (A:=A) (s:=s) (e:=λj=>bs.getD j true) (show s.heap.IsTuple a its.toArray from p1) (show s.heap.IsTuple a' jts.toArray from p2) (by omega) it;have z':=SeqAt.RcNeAt.tuples (A:=A) (s:=s) (e:=λj=>bs.getD j true) (show s.heap.IsTuple a its.toArray from p1) (show s.heap.IsTuple a' jts.toArray from p2) (by omega) it;have l1:=r1.length.trans q1.length;have l2:=r2.length.trans q2.length;rw[ay,ay,<-l1,<-l2,<-rG hb,tF]at z z';exact⟨z,z'⟩
   .cases e
  |_=>unfold aG at e;simp at e
 |lst xs=>
  cases w with
  |lst ys=>
   obtain⟨a,vs,rfl,t1,_,r1⟩:=h.lst;obtain⟨a',ws,rfl,t2,_,r2⟩:=g.lst;cases r;cases r';obtain⟨its,q1,p1,_⟩:=I.list t1;obtain⟨jts,q2,p2,_⟩:=I.list t2;have l1:=r1.length.trans q1.length;have l2:=r2.length.trans q2.length;unfold aG at e;split at e
   .rename_i hl
    split at e
    .rename_i bs hb
     cases e;have it:=tR (s:=s) (A:=A.in1) (λv w x y u u' b h1 h2 h3 h4 h5=>(Ll I 7 v w x y u u' b A.in1 hin h1 h2 h3 h4 h5).2) r1 r2 q1 q2 hb;have z:=f8 (A:=A) (s:=s) (e:=λj=>bs.getD j true) p1.isList p2.isList (by rw[ay,ay];omega) (by omega) it;have z':=SeqAt.RcNeAt.lists (A:=A) (s:=s) (e:=λj=>bs.getD j true) p1.isList p2.isList (by rw[ay,ay];omega) (by omega) it;have hm:its.length=bs.length:=by rw[rG hb];omega
     rw[ay,hm,tF]at z z';exact⟨z,z'⟩
    .cases e
   .rename_i hl
    cases e;exact⟨f9 p1.isList p2.isList (by rw[ay,ay];simp;omega) (by omega),SeqAt.RcNeAt.lists_lengths p1.isList p2.isList (by rw[ay,ay];simp;omega) (by omega)⟩
  |_=>unfold aG at e;simp at e
def wD(K:ae)(neg:Bool):R2:=λx y H Q=>∃p v w b,eD K p H v x/\eD K p H w y/\aG 8 v w=some b/\Q (.bl (if neg then !b else b)) H
theorem uK(hu:X.A.units+8<cLine):dE X (compareOp .Eq) (wD X.K false):=by
 intro AR s σ H x y v u Q I rx ry h;obtain⟨p,a,b,k,h1,h2,e,q⟩:=h;exact(Xm I hu h1 h2 rx ry e).1 X.prog X.w X.xe _ ⟨.bl k,H,I,rfl,q⟩
theorem Gm(hu:X.A.units+8<cLine):dE X (compareOp .NotEq) (wD X.K true):=by
 intro AR s σ H x y v u Q I rx ry h;obtain⟨p,a,b,k,h1,h2,e,q⟩:=h;exact(Xm I hu h1 h2 rx ry e).2 X.prog X.w X.xe _ ⟨.bl (!k),H,I,rfl,q⟩
def bJ(a b:PV):AN:=(aG 8 a b).map .bl
def gM(a b:PV):AN:=(aG 8 a b).map λk=>.bl (!k)
theorem wC{K:ae}:eF K (wD K false) bJ:=λ{p S H a b c x y Q} s ra rb e k=>by
 unfold bJ at e;cases z:aG 8 a b with
 |none=>rw[z]at e;cases e
 |some t=>
  rw[z]at e;cases e;exact⟨p,a,b,t,ra,rb,z,k H _ (cK.refl H) (by unfold aY;rfl)⟩
theorem Tn{K:ae}:eF K (wD K true) gM:=λ{p S H a b c x y Q} s ra rb e k=>by
 unfold gM at e;cases z:aG 8 a b with
 |none=>rw[z]at e;cases e
 |some t=>
  rw[z]at e;cases e;exact⟨p,a,b,t,ra,rb,z,k H _ (cK.refl H) (by unfold aY;rfl)⟩
def i2(f:Int->Int->AN):PV->PV->AN
 |.int a,.int b=>f a b
 |_,_=>none
open Classical in
def cI(C:Int->Int->Prop)(g:Int->Int->PV)(a b:Int):AN:=if C a b then some (g a b)else none
def nZ:PV->V
 |.int i=>.int i
 |.bl b=>.bl b
 |.str s=>.str s
 |_=>.non
def pI:PV->Bool
 |.int _=>true
 |.bl _=>true
 |.str _=>true
 |.non=>true
 |_=>false
theorem gS{K:ae}{c:Addr->Prop}{H:Hp}{v:PV}(h:pI v=true):aY K c H v (nZ v):=by
 cases v with
 |tup _=>cases h
 |lst _=>cases h
 |_=>unfold aY nZ;rfl
theorem wA{K:ae}{C:Int->Int->Prop}{g:Int->Int->PV}{h:Int->Int->V}(fl:∀i j,pI (g i j)=true/\nZ (g i j)=h i j):eF K (rI C h) (i2 (cI C g)):=λ{p S H a b c x y Q} s ra rb e k=>by
 cases a with
 |int i=>
  cases b with
  |int j=>
   unfold i2 cI at e;dsimp only at e;split at e
   .rename_i hc
    cases e;refine⟨i,j,ra.int,rb.int,hc,?_⟩;rw[<-(fl i j).2];exact k H _ (cK.refl H) (gS (fl i j).1)
   .cases e
  |_=>cases e
 |_=>cases e
theorem sB{K:ae}{g:Int->Int->PV}{h:Int->Int->V}(fl:∀i j,pI (g i j)=true/\nZ (g i j)=h i j):eF K (iE h) (i2 λi j=>some (g i j)):=λ{p S H a b c x y Q} s ra rb e k=>by
 cases a with
 |int i=>
  cases b with
  |int j=>
   cases e;refine⟨i,j,ra.int,rb.int,?_⟩;rw[<-(fl i j).2];exact k H _ (cK.refl H) (gS (fl i j).1)
  |_=>cases e
 |_=>cases e
def nR(i j:Int):Prop:=Eb i j\/(Bd 1000000 i/\Bd 1000000 j)
theorem nR.ok{i j:Int}(h:nR i j):IntMulOk i j:=by
 rcases h with h |h
 .exact h.ok
 have h1:=Mj h.1;have h2:=Mj h.2;unfold IntMulOk Builtin.Int.intTooBig bitsLine;intro c;simp only[ee,decide_eq_true_eq]at c;have:=c.2;omega
theorem F1:dE X (binaryOp .Mult) (rI nR λi j=>.int (i*j)):=wN λ_ _ _ _ _ _ _ hc q=>mul_int q hc.ok
def bC:=i2 (cI nR λi j=>.int (i*j))
def eC:=i2 (cI nQ λi j=>.int (i.fdiv j))
def fB:=i2 (cI (λ_ j=>j≠0) λi j=>.int (i.fmod j))
def kP:=i2 (cI vY λi j=>.int (i^j.toNat))
def dN:=i2 λi j=>some (.int (i-j))
def fS:=i2 λi j=>some (.bl (decide (i<j)))
def jN:=i2 λi j=>some (.bl (decide (i<=j)))
def eZ:=i2 λi j=>some (.bl (decide (j<i)))
def nX:=i2 λi j=>some (.bl (decide (j<=i)))
theorem V6{K:ae}:eF K (rI nR λi j=>.int (i*j)) bC:=wA λ_ _=>⟨rfl,rfl⟩
theorem H0{K:ae}:eF K (rI nQ λi j=>.int (i.fdiv j)) eC:=wA λ_ _=>⟨rfl,rfl⟩
theorem aae{K:ae}:eF K (rI (λ_ j=>j≠0) λi j=>.int (i.fmod j)) fB:=wA λ_ _=>⟨rfl,rfl⟩
theorem T6{K:ae}:eF K (rI vY λi j=>.int (i^j.toNat)) kP:=wA λ_ _=>⟨rfl,rfl⟩
theorem Z4{K:ae}:eF K (iE λi j=>.int (i-j)) dN:=sB λ_ _=>⟨rfl,rfl⟩
theorem pZ{K:ae}:eF K (iE λi j=>.bl (decide (i<j))) fS:=sB λ_ _=>⟨rfl,rfl⟩
theorem rW{K:ae}:eF K (iE λi j=>.bl (decide (i<=j))) jN:=sB λ_ _=>⟨rfl,rfl⟩
theorem Yn{K:ae}:eF K (iE λi j=>.bl (decide (j<i))) eZ:=sB λ_ _=>⟨rfl,rfl⟩
theorem Wn{K:ae}:eF K (iE λi j=>.bl (decide (j<=i))) nX:=sB λ_ _=>⟨rfl,rfl⟩
def dA:PV->AN
 |.int i=>some (.int (-i))
 |_=>none
theorem U4{K:ae}:wO K (rU λi=>.int (-i)) dA:=λ{p S H a c x Q} s ra e k=>by
 cases a with
 |int i=>
  cases e;exact⟨i,ra.int,k H _ (cK.refl H) (gS (v:=.int (-i)) rfl)⟩
 |_=>cases e
def On(K:ae):R2:=λx y H Q=>∃l b xs zs,x=.ref l/\y=.ref b/\cF K H l xs/\cF K H b zs/\xs.length+zs.length<=sizeLine/\∀p,H p=none->Q (.ref p) (bE H p (.lst (xs++zs)))
theorem Hz:dE X (binaryOp .Add) (On X.K):=by
 intro AR s σ H x y v u Q I rx ry h;obtain⟨l,b,xs,zs,rfl,rfl,hx,hy,hz,q⟩:=h;cases rx;cases ry;obtain⟨its,r1,p1,_⟩:=I.list hx;obtain⟨jts,r2,p2,_⟩:=I.list hy;obtain⟨⟨cls,dd,data,sl⟩,n,ho,hc,_,hd⟩:=p1;obtain⟨⟨cls2,dd2,data2,sl2⟩,n2,ho2,hc2,_,hd2⟩:=p2;simp only at hc hd hc2 hd2;subst hc hd hc2 hd2;have e:its.toArray++jts.toArray=(its++jts).toArray:=by simp
 have l1:=r1.length;have l2:=r2.length;refine vn ⟨_,ho,rfl⟩ ⟨_,ho2,rfl⟩ noFill_list_add seq_list_add PySem.F.slot_list_add PySem.F.entry_list_add (PySem.F.args_list_add_2 _ _) (list_addW l b its.toArray jts.toArray n n2 dd dd2 sl sl2 (by rw[ay,ay];omega)) ⟨ho,ho2,?_⟩;rw[e];exact⟨.ref _,_,I.lnew (t':=s.toks) (r1.append r2) (by rw[bn];omega),rfl,q _ I.fresh⟩
def aF:PV->PV->AN
 |.int a,.int b=>some (.int (a+b))
 |.lst xs,.lst ys=>if xs.length+ys.length<=16777216 then some (.lst (xs++ys))else none
 |.tup xs,.tup ys=>if xs.length≠0/\ys.length≠0/\xs.length+ys.length<=16777216 then some (.tup (xs++ys))else none
 |_,_=>none
def Gn(K:ae):R2:=λx y H Q=>(iE λi j=>.int (i+j)) x y H Q\/On K x y H Q\/Sm K x y H Q
theorem Ez:dE X (binaryOp .Add) (Gn X.K):=dE.or S5 (dE.or Hz C6)
theorem T7{K:ae}:eF K (Gn K) aF:=λ{p S H a b c x y Q} s ra rb e k=>by
 cases a with
 |int i=>
  cases b with
  |int j=>
   cases e;exact .inl ⟨i,j,ra.int,rb.int,k H _ (cK.refl H) (gS (v:=.int (i+j)) rfl)⟩
  |_=>cases e
 |lst xs=>
  cases b with
  |lst ys=>
   have e:(if xs.length+ys.length<=16777216 then some (PV.lst (xs++ys))else none)=some c:=e;split at e
   .rename_i hl
    cases e;obtain⟨a1,vs,rfl,l1,z1,r1⟩:=ra.lst;obtain⟨a2,ws,rfl,l2,z2,r2⟩:=rb.lst;have hz:vs.length+ws.length<=sizeLine:=by rw[<-r1.length,<-r2.length,fN];exact hl
    exact .inr (.inl ⟨a1,a2,vs,ws,rfl,rfl,l1,l2,hz,λt ht=>k _ _ (fH ht) (mI s (r1.append r2) (by rw[bn];exact hz) ht)⟩)
   .cases e
  |_=>cases e
 |tup xs=>
  cases b with
  |tup ys=>
   have e:(if xs.length≠0/\ys.length≠0/\xs.length+ys.length<=16777216 then some (PV.tup (xs++ys))else none)=some c:=e;split at e
   .rename_i hl
    cases e;obtain⟨a1,vs,rfl,l1,z1,r1⟩:=ra.tup;obtain⟨a2,ws,rfl,l2,z2,r2⟩:=rb.tup;have hz:vs.length+ws.length<=sizeLine:=by rw[<-r1.length,<-r2.length,fN];exact hl.2.2
    refine .inr (.inr ⟨a1,a2,vs,ws,rfl,rfl,l1,l2,λq=>hl.1 (by rw[r1.length,q];rfl),hz,λq=>absurd (show ys.length=0 by rw[r2.length,q];rfl) hl.2.1,λ_ t ht=>k _ _ (fH ht) (mH s (r1.append r2) (by rw[bn];exact hz) ht)⟩)
   .cases e
  |_=>cases e
 |_=>cases e
end
section
variable{K:ae}{cl:Str->Addr}{E:XK}{X:Cx}{a b e:af}{es:List af}{ma mb m:ME}{ms:MA}{pos p2:ah}
def aE:PV->PV->AN
 |.lst xs,.int i=>aR xs i
 |.tup xs,.int i=>aR xs i
 |_,_=>none
theorem zB{c:Addr->Prop}{H:Hp}{xs:AM}{vs:List V}{i:Int}{v:PV}(r:aV K c H xs vs)(e:aR xs i=some v):∃x,aR vs i=some x/\aY K c H v x:=by
 unfold aR at e⊢;rw[<-r.length];cases z:aS xs.length i with
 |none=>rw[z]at e;cases e
 |some j=>
  rw[z]at e;exact r.get e
theorem aay:eF K (Xo K) aE:=λ{p S H a b c x y Q} s ra rb e k=>by
 cases b with
 |int i=>
  cases a with
  |lst xs=>
   obtain⟨a1,vs,rfl,l1,z1,r1⟩:=ra.lst;obtain⟨x,e1,r2⟩:=zB r1 e;exact .inl ⟨a1,vs,i,x,rfl,rb.int,l1,e1,k H x (cK.refl H) r2⟩
  |tup xs=>
   obtain⟨a1,vs,rfl,l1,z1,r1⟩:=ra.tup;obtain⟨x,e1,r2⟩:=zB r1 e;exact .inr (.inl ⟨a1,vs,i,x,rfl,rb.int,l1,e1,k H x (cK.refl H) r2⟩)
  |_=>cases e
 |_=>cases a<;>cases e
theorem Y1(ha:aU K cl E X a ma)(hb:aU K cl E X b mb)(hs:zA b:=by intro _ _;rfl):aU K cl E X (.Subscript a b pos) (aB aE ma mb):=by
 intro hK;subst hK;refine(Lm J6 (ha rfl) (hb rfl) hs).imp ?_
 rintro σ H Q ⟨p,S,ρ,s,e,h⟩
 exact bZ s e h λq H1 a x S1 st s1 e1 r1 h1=>bZ s1 e1 h1 λq2 H2 b y S2 st2 s2 e2 r2 h2=>nE aay s2 (st2.repA r1) r2 h2
abbrev MO:=bS->aN->bO AK
def bR:MO:=λ_ S=>.ok none S
def cW:AV->aN->bO AK
 |.pv (.int i),S=>.ok (some i) S
 |_,_=>.fail
def bQ(m:ME):MO:=λρ S=>(m ρ S).bind cW
abbrev RO:Ph->Hp->AK->AK->Prop:=λ_ _ a b=>a=b
variable(K cl E X)
def mY(e:Option af)(m:MO):Prop:=X.K=K->PO X e (tP K cl E RO m)
variable{K cl E X}
theorem PO.imp{e:Option af}{t t':TO}(h:PO X e t)(i:∀σ H Q,t' σ H Q->t σ H Q):PO X e t':=λAR s σ H Q I q=>h AR s σ H Q I (i σ H Q q)
theorem Aw:mY K cl E X none bR:=λ_=>PO.imp F3 λσ H Q ⟨p,S,ρ,s,e,h⟩=>cA.ret (R:=RO) h s rfl
theorem Px(h:aU K cl E X e m):mY K cl E X (some e) (bQ m):=by
 intro hK;subst hK;refine PO.imp (E3 (h rfl)) ?_
 rintro σ H Q ⟨p,S,ρ,s,e,h⟩
 refine bZ s e h λq H1 a x S1 st s1 e1 r1 h1=>?_;unfold cW at h1;split at h1
 .rename_i i
  exact⟨i,(show eD X.K q H1 (.int i) x from .inl r1).int,cA.ret (R:=RO) h1 s1 rfl⟩
 .exact h1.elim
def iD(xs:AM)(lo hi:AK):AM:=(xs.drop (HT.sIx xs.length 0 lo)).take (HT.sIx xs.length xs.length hi-HT.sIx xs.length 0 lo)
def fT(v:PV)(lo hi:AK):AN:=match v with
 |.lst xs=>some (.lst (iD xs lo hi))
 |.tup xs=>if HT.sIx xs.length 0 lo=0/\HT.sIx xs.length xs.length hi=xs.length then none else some (.tup (iD xs lo hi))
 |_=>none
def dF(m:ME)(ml mh:MO):ME:=λρ S=>(m ρ S).bind λv S1=>(ml ρ S1).bind λlo S2=>(mh ρ S2).bind λhi S3=>fG ((rd S3 v).bind λx=>fT x lo hi) S3
theorem Ji{c:Addr->Prop}{H:Hp}{xs:AM}{vs:List V}{lo hi:AK}(r:aV K c H xs vs):aV K c H (iD xs lo hi) (mV vs lo hi):=by
 unfold iD mV;rw[<-r.length];exact(r.drop _).take _
theorem T9{lo hi:Option af}{ml mh:MO}(he:aU K cl E X e m)(hl:mY K cl E X lo ml)(hu:mY K cl E X hi mh):aU K cl E X (.Subscript e (.Slice lo hi none p2) pos) (dF m ml mh):=by
 intro hK;subst hK;refine(Ci (lU.or F0 O2) (he rfl) (hl rfl) (hu rfl)).imp ?_
 rintro σ H Q ⟨p,S,ρ,s,e,h⟩
 refine bZ s e h λq H1 a x S1 st s1 e1 r1 h1=>bZ s1 e1 h1 λq2 H2 lo lo' S2 st2 s2 e2 r2 h2=>bZ s2 e2 h2 λq3 H3 hi hi' S3 st3 s3 e3 r3 h3=>?_;cases r2;cases r3;have ra:=st3.repA (st2.repA r1);obtain⟨c,ec,k⟩:=mJ s3 h3;cases z:rd S3 a with
 |none=>rw[z]at ec;cases ec
 |some v=>
  rw[z]at ec;have rv:=pE s3 ra z;cases v with
  |lst xs=>
   have ec:some (PV.lst (iD xs lo hi))=some c:=ec;cases ec;obtain⟨a1,vs,rfl,l1,z1,r1⟩:=rv.lst;exact .inl ⟨a1,vs,rfl,l1,λt ht=>k _ _ (fH ht) (mI s3 (Ji r1) (dn (sR vs lo hi) z1) ht)⟩
  |tup xs=>
   obtain⟨a1,vs,rfl,l1,z1,r1⟩:=rv.tup;have ec:(if HT.sIx xs.length 0 lo=0/\HT.sIx xs.length xs.length hi=xs.length then none else some (PV.tup (iD xs lo hi)))=some c:=ec;split at ec
   .cases ec
   .rename_i hw
    cases ec;rw[r1.length]at hw;exact .inr ⟨a1,vs,rfl,l1,hw,λt ht=>k _ _ (fH ht) (mH s3 (Ji r1) (dn (sR vs lo hi) z1) ht)⟩
  |_=>cases ec
theorem oS{id:String}{r:List V->Hp->VK->Prop}{f:AM->AN}{x:Str}{p:ah}(hc:gW X (.builtin id) r)(hf:jE X.K r f)(hg:Gl X x)(hm:X.mg x=none)(hv:bootBuiltins x=some (.builtin id))(ha:dW K cl E X (e::es) ms)(hn:x≠"__name__":=by decide)(hdb:(x==("__debug__":Str))=false:=by decide)
  (he:starEach (e::es) X.env=(false,eval e X.env)::starEach es X.env:=by rfl)(hpl:(backTo pos (starEach es X.env)).any (·.1)=false:=by rfl):aU K cl E X (.Call (.Name x p) (e::es) [] pos) (mR f ms):=by
 intro hK;subst hK;refine PE.imp (qW hc hg hm hv (ha rfl) hn hdb he hpl) ?_
 rintro σ H Q ⟨p,S,ρ,s,ev,h⟩
 exact bZ s ev h λq H' as xs S' stp sm ev r k=>Zg hf sm r k
theorem tK{T:String}{r:List V->Hp->VK->Prop}{f:AM->AN}{x:Str}{p:ah}(hc:gW X (.type T) r)(hf:jE X.K r f)(hg:Gl X x)(hm:X.mg x=none)(hv:bootBuiltins x=some (.type T))(ha:dW K cl E X (e::es) ms)(hn:x≠"__name__":=by decide)(hdb:(x==("__debug__":Str))=false:=by decide)
  (he:starEach (e::es) X.env=(false,eval e X.env)::starEach es X.env:=by rfl)(hpl:(backTo pos (starEach es X.env)).any (·.1)=false:=by rfl):aU K cl E X (.Call (.Name x p) (e::es) [] pos) (mR f ms):=by
 intro hK;subst hK;refine PE.imp (Ng hc hg hm hv (ha rfl) hn hdb he hpl) ?_
 rintro σ H Q ⟨p,S,ρ,s,ev,h⟩
 exact bZ s ev h λq H' as xs S' stp sm ev r k=>Zg hf sm r k
def bM:AM->AN
 |[.lst xs]=>some (.int xs.length)
 |[.tup xs]=>some (.int xs.length)
 |_=>none
theorem Y5:jE K (λxs H Q=>∃p ys,xs=[.ref p]/\(cF K H p ys\/dD K H p ys)/\Q (.int ys.length) H) bM:=λ{p S H as c xs Q} s ra e k=>by
 unfold bM at e;split at e
 .rename_i zs
  cases e;cases ra with
  |cons h t=>
   cases t;obtain⟨a,vs,rfl,l,z,r⟩:=h.lst;refine⟨a,vs,rfl,.inl l,?_⟩;rw[<-r.length];exact k H _ (cK.refl H) (gS (v:=.int zs.length) rfl)
 .rename_i zs
  cases e;cases ra with
  |cons h t=>
   cases t;obtain⟨a,vs,rfl,l,z,r⟩:=h.tup;refine⟨a,vs,rfl,.inr l,?_⟩;rw[<-r.length];exact k H _ (cK.refl H) (gS (v:=.int zs.length) rfl)
 .cases e
def eJ:AM->AN
 |[.int i]=>some (.int (if i<0 then-i else i))
 |_=>none
theorem Y7:jE K (λxs H Q=>∃i,xs=[.int i]/\Q (.int (if i<0 then-i else i)) H) eJ:=λ{p S H as c xs Q} s ra e k=>by
 unfold eJ at e;split at e
 .rename_i i
  cases e;cases ra with
  |cons h t=>
   cases t;cases h.int;exact⟨i,rfl,k H _ (cK.refl H) (gS (v:=.int _) rfl)⟩
 .cases e
def jI:AM->AN
 |[.lst xs]=>some (.tup xs)
 |[.tup xs]=>some (.tup xs)
 |_=>none
theorem Iz:jE K (λxs H Q=>∃p ys,xs=[.ref p]/\((cF K H p ys/\∀l,H l=none->Q (.ref l) (bE H l (.tup ys)))\/(dD K H p ys/\Q (.ref p) H))) jI:=λ{p S H as c xs Q} s ra e k=>by
 unfold jI at e;split at e
 .rename_i zs
  cases e;cases ra with
  |cons h t=>
   cases t;obtain⟨a,vs,rfl,l,z,r⟩:=h.lst;exact⟨a,vs,rfl,.inl ⟨l,λt ht=>k _ _ (fH ht) (mH s r z ht)⟩⟩
 .rename_i zs
  cases e;cases ra with
  |cons h t=>
   cases t;obtain⟨a,vs,rfl,l,z,r⟩:=h.tup;refine⟨a,vs,rfl,.inr ⟨l,k H _ (cK.refl H) ?_⟩⟩;unfold aY;exact⟨a,vs,rfl,l,z,r⟩
 .cases e
def nN:AM->AN
 |[.lst xs]=>some (.lst xs)
 |[.tup xs]=>some (.lst xs)
 |_=>none
theorem Sy:jE K (λxs H Q=>∃p ys,xs=[.ref p]/\(cF K H p ys\/dD K H p ys)/\∀l,H l=none->Q (.ref l) (bE H l (.lst ys))) nN:=λ{p S H as c xs Q} s ra e k=>by
 unfold nN at e;split at e
 .rename_i zs
  cases e;cases ra with
  |cons h t=>
   cases t;obtain⟨a,vs,rfl,l,z,r⟩:=h.lst;exact⟨a,vs,rfl,.inl l,λt ht=>k _ _ (fH ht) (mI s r z ht)⟩
 .rename_i zs
  cases e;cases ra with
  |cons h t=>
   cases t;obtain⟨a,vs,rfl,l,z,r⟩:=h.tup;exact⟨a,vs,rfl,.inr l,λt ht=>k _ _ (fH ht) (mI s r z ht)⟩
 .cases e
def iQ:AM->Option (List Bool)
 |[]=>some []
 |.bl b::r=>match iQ r with
  |some bs=>some (b::bs)
  |none=>none
 |_::_=>none
def eM:AM->AN
 |[.lst xs]=>(iQ xs).map λbs=>.bl (bs.all id)
 |_=>none
theorem Hi{c:Addr->Prop}{H:Hp}:∀{xs:AM}{bs:List Bool}{vs:List V},iQ xs=some bs->aV K c H xs vs->vs=bs.map V.bl
 |[],bs,vs,e,r=>by
  cases e;unfold aV at r;exact r
 |.bl b::xs,bs,vs,e,r=>by
  unfold iQ at e;split at e
  .rename_i cs h
   cases e;unfold aV at r;obtain⟨v,w,rfl,r1,r2⟩:=r;unfold aY at r1;rw[r1,Hi h r2];rfl
  .cases e
 |.non::_,_,_,e,_=>by cases e
 |.int _::_,_,_,e,_=>by cases e
 |.str _::_,_,_,e,_=>by cases e
 |.tup _::_,_,_,e,_=>by cases e
 |.lst _::_,_,_,e,_=>by cases e
theorem W9:jE K (λxs H Q=>∃(a:Addr)(bs:List Bool),xs=[.ref a]/\cF K H a (bs.map V.bl)/\Q (.bl (bs.all id)) H) eM:=λ{p S H as c xs Q} s ra e k=>by
 unfold eM at e;split at e
 .rename_i zs
  cases y:iQ zs with
  |none=>rw[y]at e;cases e
  |some bs=>
   rw[y]at e;cases e;cases ra with
   |cons h t=>
    cases t;obtain⟨a,vs,rfl,l,z,r⟩:=h.lst;rw[Hi y r]at l;exact⟨a,bs,rfl,l,k H _ (cK.refl H) (gS (v:=.bl _) rfl)⟩
 .cases e
end
end
section
variable{K:ae}{cl:Str->Addr}{E:XK}{X:Cx}{a b c e l tg:af}{es:List af}{m ma mb:ME}{ms:MA}{pos:ah}{p q:Ph}{H H':Hp}{S:aN}
theorem bD.push(s:bD K p S H){D:Addr}{ps:AM}{vs:List V}(h:H D=none)(l:vs.length<=sizeLine)(r:aV K p.c H ps vs):
  let q:Ph:=⟨p.f++[D],λa=>p.w a\/a=D,λa=>p.c a\/a=D⟩
  bV p H q (bE H D (.lst vs))/\bD K q (S++[.lst ps]) (bE H D (.lst vs)):=by
 intro q;obtain⟨st0,sm0⟩:=s.res (D:=D) (o:=.lst vs) h trivial;have nf0:D∉p.f:=λz=>s.notin h (s.wc D (s.sub D z));refine⟨⟨st0.wc,st0.mu,⟨[D],rfl⟩,st0.mw,st0.mono,λa x n=>?_,st0.nw,st0.nc,st0.keep⟩,?_,by simp[q,s.len],λa x=>?_,sm0.wc,sm0.mu,λk a o e1 e2=>?_⟩
 .rcases cm.mp x with z |z
  .exact absurd z n
  .have:a=D:=by simpa using z
   rw[this];exact h
 .show(p.f++[D]).Nodup
  rw[d6];refine⟨s.nd,by simp,λa ha b hb z=>?_⟩;have:b=D:=by simpa using hb
  exact nf0 (this▸z▸ha)
 .rcases cm.mp x with z |z
  .exact .inl (s.sub a z)
  .exact .inr (by simpa using z)
 .by_cases hk:k<S.length
  .have e1':p.f[k]?=some a:=by
    have e1:(p.f++[D])[k]?=some a:=e1
    rwa[gi (by rw[s.len];exact hk)]at e1
   rw[gi hk]at e2;refine(s.obj k a o e1' e2).mono (λvs e=>by rw[cQ (fU e h)];exact e) (λb w f=>⟨⟨.inl w,λm=>?_⟩,λvs e=>by rw[cQ (fU e h)];exact e⟩) λ_ _ r=>st0.reps r;rcases cm.mp m with z |z
   .exact f z
   .have:b=D:=by simpa using z
    exact s.notin h (this▸s.wc b w)
  .have hk':k=S.length:=by
    have:=(db.mp e2).1;simp at this;omega
   subst hk';rw[gv (am _),lg]at e2;have e1:(p.f++[D])[S.length]?=some a:=e1;rw[<-s.len,gv (am _),lg]at e1;cases e1;cases e2;exact⟨vs,iL,l,st0.reps r⟩
theorem bD.write(s:bD K p S H){D:Addr}{k:Nat}{ps:AM}{vs:List V}(h:p.f[k]?=some D)(hk:k<S.length)(l:vs.length<=sizeLine)(r:aV K p.c H ps vs):
  bV p H p (bE H D (.lst vs))/\bD K p (S.set k (.lst ps)) (bE H D (.lst vs)):=by
 have w:p.w D:=s.sub D (fe h);have st:bV p H p (bE H D (.lst vs)):=⟨s.wc,s.mu,nr,λ_ h=>h,λ_ h=>h,λ_ h g=>absurd h g,λ_ h g=>absurd h g,λ_ h g=>absurd h g,λa u e nw=>by
  rw[cQ (λz:a=D=>nw (by rw[z];exact w))];exact e⟩
 refine⟨st,s.nd,by rw[fy];exact s.len,s.sub,s.wc,λa x=>?_,λj a o e1 e2=>?_⟩
 .by_cases z:a=D
  .rw[z,iL]
   exact⟨_,rfl,trivial⟩
  .rw[cQ z]
   exact s.mu a x
 .by_cases hj:k=j
  .subst hj
   rw[h]at e1;cases e1;rw[ij hk]at e2;cases e2;exact⟨vs,iL,l,st.reps r⟩
  .rw[jg hj]at e2
   have ne:a≠D:=λq=>hj (yC s.nd h (q▸e1));exact(s.obj j a o e1 e2).mono (λvs e=>by rw[cQ ne];exact e) (λb w f=>⟨⟨w,f⟩,λvs e=>by rw[cQ (λz:b=D=>f (z▸fe h))];exact e⟩) λ_ _ r=>st.reps r
def nP(xs:AQ)(S:aN):bO AV:=match jY xs with
 |some vs=>if vs.length<=16777216 then .ok (.ref S.length) (S++[.lst vs])else .fail
 |none=>.fail
def gX(ms:MA):ME:=λρ S=>(ms ρ S).bind nP
theorem Vy(h:dW K cl E X es ms):aU K cl E X (.List es pos) (gX ms):=by
 intro hK;subst hK;refine(Kl (h rfl)).imp ?_
 rintro σ H Q ⟨p,S,ρ,s,e,h⟩
 refine bZ s e h λq H1 as xs S1 st s1 e1 r1 h1=>?_;unfold nP at h1;split at h1
 .rename_i vs hv
  split at h1
  .rename_i hl
   have r:=sX hv r1;rw[r.length,<-fN]at hl;refine⟨hl,λt ht=>?_⟩;obtain⟨st2,sm2⟩:=s1.push ht hl r;exact h1 _ _ (.ref t) st2 sm2 ⟨t,by show(q.f++[t])[S1.length]?=some t;rw[<-s1.len,gv (am _),lg];rfl,rfl⟩
  .exact h1.elim
 .exact h1.elim
def Lb(xs:AQ)(S:aN):bO AV:=match(fY S xs).bind nN with
 |some (.lst vs)=>.ok (.ref S.length) (S++[.lst vs])
 |_=>.fail
def rR(ms:MA):ME:=λρ S=>(ms ρ S).bind Lb
theorem Ux{x:Str}{p:ah}(hx:x="list")(hg:Gl X "list")(hm:X.mg "list"=none)(ha:dW K cl E X [e] ms)(he:starEach [e] X.env=[(false,eval e X.env)]:=by rfl):aU K cl E X (.Call (.Name x p) [e] [] pos) (rR ms):=by
 intro hK;subst hK hx;refine PE.imp (Ng Kd hg hm (by decide+kernel) (ha rfl) (by decide) (by decide) he rfl) ?_
 rintro σ H Q ⟨p,S,ρ,s,ev,h⟩
 refine bZ s ev h λq H1 as xs S1 st s1 e1 r1 h1=>?_;unfold Lb at h1;cases z:fY S1 as with
 |none=>rw[z]at h1;exact h1.elim
 |some us=>
  rw[z]at h1;have rr:=tD s1 r1 z;have fin:∀(vs:AM)(ws:List V)(a:Addr),aV X.K q.c H1 vs ws->ws.length<=sizeLine->cA X.K cl (cE X.K) q H1 (.ok (.ref S1.length) (S1++[.lst vs])) Q E->∀l,H1 l=none->Q (.ref l) (bE H1 l (.lst ws)):=λvs ws a r hl k t ht=>by
   obtain⟨st2,sm2⟩:=s1.push ht hl r;exact k _ _ (.ref t) st2 sm2 ⟨t,by show(q.f++[t])[S1.length]?=some t;rw[<-s1.len,gv (am _),lg];rfl,rfl⟩
  cases rr with
  |nil=>exact h1.elim
  |cons h t=>
   rename_i u x ut xt;cases t with
   |cons _ _=>cases u<;>exact h1.elim
   |nil=>
    cases u with
    |lst vs=>
     obtain⟨a,ws,rfl,l,z,r⟩:=h.lst;exact⟨a,ws,rfl,.inl l,fin vs ws a r z h1⟩
    |tup vs=>
     obtain⟨a,ws,rfl,l,z,r⟩:=h.tup;exact⟨a,ws,rfl,.inr l,fin vs ws a r z h1⟩
    |_=>exact h1.elim
def kM(k:Nat)(ys:AQ)(S:aN):bO AV:=match ys with
 |[.pv y]=>match S[k]? with
  |some (.lst xs)=>if xs.length<16777216 then .ok (.pv .non) (S.set k (.lst (xs++[y])))else .fail
  |_=>.fail
 |_=>.fail
def eX{α:Type}(k:AV)(S:aN)(f:Nat->bO α):bO α:=match k with
 |.ref k=>(match S[k]? with
  |some (.dic _ _)=>.fail
  |some (.dol _ _)=>.fail
  |_=>f k)
 |_=>.fail
theorem yQ{α:Type}(k:Nat)(S:aN)(f:Nat->bO α):eX (.ref k) S f=.fail\/(eX (.ref k) S f=f k/\(∀n l,S[k]?≠some (.dic n l))/\∀n l,S[k]?≠some (.dol n l)):=by
 have e:eX (.ref k) S f=(match S[k]? with
  |some (.dic _ _)=>.fail
  |some (.dol _ _)=>.fail
  |_=>f k):=rfl
 rw[e];cases S[k]? with
 |none=>exact .inr ⟨rfl,λ_ _ z=>(nomatch z),λ_ _ z=>(nomatch z)⟩
 |some o=>
  cases o with
  |dic n l=>exact .inl rfl
  |dol n l=>exact .inl rfl
  |lst xs=>exact .inr ⟨rfl,λ_ _ z=>(nomatch z),λ_ _ z=>(nomatch z)⟩
  |lol xs=>exact .inr ⟨rfl,λ_ _ z=>(nomatch z),λ_ _ z=>(nomatch z)⟩
def fM(m:ME)(ms:MA):ME:=λρ S=>(m ρ S).bind λk S1=>eX k S1 λk=>(ms ρ S1).bind λys S2=>kM k ys S2
theorem Tj{k:Nat}{x:V}(s:bD K p S H)(r:cE K p H (.ref k) x)(n1:∀n l,S[k]?≠some (.dic n l))(n2:∀n l,S[k]?≠some (.dol n l)):Xb K "list" x H:=by
 obtain⟨a,e,rfl⟩:=r;have hk:k<S.length:=by
  have:=(db.mp e).1;rw[<-s.len];exact this
 have z:=s.obj k a S[k] e (bf hk);cases y:S[k]with
 |lst xs=>
  rw[y]at z;obtain⟨vs,h,_⟩:=z;exact .inl ⟨rfl,vs,cF.of h⟩
 |lol xss=>
  rw[y]at z;obtain⟨bs,h,_⟩:=z;exact .inl ⟨rfl,_,cF.of h⟩
 |dic n l=>exact absurd (by rw[bf hk,y]) (n1 n l)
 |dol n l=>exact absurd (by rw[bf hk,y]) (n2 n l)
theorem Jt{apos cpos:ah}(ho:aU K cl E X a m)(ha:dW K cl E X [e] ms)(hbase:attributeBase a "append" X.env (eval a X.env)=eval a X.env:=by rfl)
  (hfew:((backTo cpos (starEach [e] X.env)).all (λx=>!x.1)&&(backToKw cpos (keywordEach [] X.env)).all (λx=>x.1.isSome)&&decide (([e]:List af).length+([]:List ik).length+(if([]:List ik).isEmpty then 0 else 1)<30))=true:=by rfl)
  (hline:(apos.endLine==cpos.line)=true:=by rfl)(hs:starEach [e] X.env=[(false,eval e X.env)]:=by rfl):aU K cl E X (.Call (.Attribute a "append" apos) [e] [] cpos) (fM m ms):=by
 intro hK;subst hK;refine PE.imp (vK g0 yy PySem.F.type_list_append tJ (ho rfl) (ha rfl) hbase hfew hline hs rfl) ?_
 rintro σ H Q ⟨p,S,ρ,s,ev,h⟩
 refine bZ s ev h λq H1 k x S1 st s1 e1 r1 h1=>?_;cases k with
 |pv v=>exact h1.elim
 |ref k=>
  have h1:cA X.K cl (cE X.K) q H1 (eX (.ref k) S1 λk=>(ms ρ S1).bind λys S2=>kM k ys S2) Q E:=h1;rcases yQ k S1 (λk=>(ms ρ S1).bind λys S2=>kM k ys S2)with z |⟨z,n1,n2⟩
  .rw[z]at h1
   exact h1.elim
  rw[z]at h1;refine⟨Tj s1 r1 n1 n2,bZ s1 e1 h1 λq2 H2 ys xs S2 st2 s2 e2 r2 h2=>?_⟩;obtain⟨a,ea,rfl⟩:=st2.repA r1;unfold kM at h2;split at h2
  .rename_i y
   cases r2 with
   |cons r3 r4=>
    cases r4;rename_i x;cases z:S2[k]? with
    |none=>rw[z]at h2;exact h2.elim
    |some o=>
     cases o with
     |lol _=>simp only[z]at h2;exact h2.elim
     |dic _ _=>simp only[z]at h2;exact h2.elim
     |dol _ _=>simp only[z]at h2;exact h2.elim
     |lst zs=>
      simp only[z]at h2;obtain⟨vs,h3,l3,r4⟩:=s2.obj k a _ ea z;split at h2
      .rename_i hl
       rw[r4.length]at hl;have hz:=fN;refine⟨a,vs,x,rfl,rfl,h3,by omega,?_⟩;obtain⟨st3,sm3⟩:=s2.write ea (db.mp z).1 (ps:=zs++[y]) (vs:=vs++[x]) (by rw[bn,je];omega) (r4.append (.cons r3 .nil));exact h2 _ _ .non st3 sm3 (by show aY X.K q2.c (bE H2 a (.lst (vs++[x]))) .non .non;unfold aY;rfl)
      .exact h2.elim
  .exact h2.elim
def mU(k:Nat)(ys:AQ)(S:aN):bO AV:=match ys with
 |[.pv (.int i)]=>if-9223372036854775808<=i/\i<9223372036854775808 then(match S[k]? with
  |some (.lst xs)=>match seqIndex? i xs.length with
   |some j=>match xs[j]? with
    |some v=>.ok (.pv v) (S.set k (.lst (xs.eraseIdx j)))
    |none=>.fail
   |none=>.fail
  |_=>.fail)else .fail
 |_=>.fail
def kO(m:ME)(ms:MA):ME:=λρ S=>(m ρ S).bind λk S1=>eX k S1 λk=>(ms ρ S1).bind λys S2=>mU k ys S2
theorem K0{apos cpos:ah}(ho:aU K cl E X a m)(ha:dW K cl E X [e] ms)(hbase:attributeBase a "pop" X.env (eval a X.env)=eval a X.env:=by rfl)
  (hfew:((backTo cpos (starEach [e] X.env)).all (λx=>!x.1)&&(backToKw cpos (keywordEach [] X.env)).all (λx=>x.1.isSome)&&decide (([e]:List af).length+([]:List ik).length+(if([]:List ik).isEmpty then 0 else 1)<30))=true:=by rfl)
  (hline:(apos.endLine==cpos.line)=true:=by rfl)(hs:starEach [e] X.env=[(false,eval e X.env)]:=by rfl):aU K cl E X (.Call (.Attribute a "pop" apos) [e] [] cpos) (kO m ms):=by
 intro hK;subst hK;refine PE.imp (vK g0 PySem.F.slot_list_pop PySem.F.type_list_pop Vv (ho rfl) (ha rfl) hbase hfew hline hs rfl) ?_
 rintro σ H Q ⟨p,S,ρ,s,ev,h⟩
 refine bZ s ev h λq H1 k x S1 st s1 e1 r1 h1=>?_;cases k with
 |pv v=>exact h1.elim
 |ref k=>
  have h1:cA X.K cl (cE X.K) q H1 (eX (.ref k) S1 λk=>(ms ρ S1).bind λys S2=>mU k ys S2) Q E:=h1;rcases yQ k S1 (λk=>(ms ρ S1).bind λys S2=>mU k ys S2)with z |⟨z,n1,n2⟩
  .rw[z]at h1
   exact h1.elim
  rw[z]at h1;refine⟨Tj s1 r1 n1 n2,bZ s1 e1 h1 λq2 H2 ys xs S2 st2 s2 e2 r2 h2=>?_⟩;obtain⟨a,ea,rfl⟩:=st2.repA r1;unfold mU at h2;split at h2
  .rename_i i
   cases r2 with
   |cons r3 r4=>
    cases r4;rename_i x;have ex:x=.int i:=(show eD X.K q2 H2 (.int i) x from .inl r3).int;subst ex;split at h2
    .rename_i hi
     cases z:S2[k]? with
     |none=>rw[z]at h2;exact h2.elim
     |some o=>
      cases o with
      |lol _=>simp only[z]at h2;exact h2.elim
      |dic _ _=>simp only[z]at h2;exact h2.elim
      |dol _ _=>simp only[z]at h2;exact h2.elim
      |lst zs=>
       simp only[z]at h2;obtain⟨vs,h3,l3,r4⟩:=s2.obj k a _ ea z;cases y:seqIndex? i zs.length with
       |none=>simp only[y]at h2;exact h2.elim
       |some j=>
        simp only[y]at h2;cases yv:zs[j]? with
        |none=>simp only[yv]at h2;exact h2.elim
        |some v=>
         simp only[yv]at h2;obtain⟨u,eu,ru⟩:=r4.get yv;refine⟨a,vs,i,j,u,rfl,rfl,h3,hi.1,hi.2,by rw[<-r4.length];exact y,eu,?_⟩;obtain⟨st3,sm3⟩:=s2.write ea (db.mp z).1 (ps:=zs.eraseIdx j) (vs:=vs.eraseIdx j) (dn (yB vs j) l3) (r4.eraseIdx j);exact h2 _ _ u st3 sm3 (st3.rep ru)
    .exact h2.elim
  .exact h2.elim
def lK(k:Nat)(i:AV)(v:AV)(S:aN):bO Unit:=match i,v with
 |.pv (.int i),.pv v=>match S[k]? with
  |some (.lst xs)=>match aS xs.length i with
   |some j=>.ok () (S.set k (.lst (xs.set j v)))
   |none=>.fail
  |_=>.fail
 |_,_=>.fail
def fX(mo mi mv:ME):MS:=λρ S=>cS.of (mv ρ S) λv S1=>cS.of (mo ρ S1) λk S2=>cS.of (mi ρ S2) λi S3=>cS.of (eX k S3 λk=>lK k i v S3) λ_ S4=>.nx ρ S4
theorem Eu{o i v:af}{mo mi mv:ME}{tpos:ah}(hv:aU K cl E X v mv)(ho:aU K cl E X o mo)(hi:aU K cl E X i mi)
  (ha:∀v,assign (.Subscript o i tpos) X.env v=(do
   let ov <-holding [v] (eval o X.env)
   let iv <-holding [v,ov] (eval i X.env)
   standAt tpos
   holding [v,ov,iv] (setItem ov iv v)
   release [v,ov,iv] []):=by intro _;rfl)
  (hs:swapsWithSole [.Subscript o i tpos] v pos.line X.env=pure false:=by rfl)(hw:swappedStores [.Subscript o i tpos] v X.env=pure none:=by rfl)
  (h1:(assignEach [.Subscript o i tpos] X.env).map (·.2)=[assign (.Subscript o i tpos) X.env]:=by rfl):eE K cl E X (.Assign [.Subscript o i tpos] v pos) (fX mo mi mv):=by
 intro hK;subst hK;refine PS.imp (Nl (hv rfl) (R7 (ho rfl) (hi rfl) Dx ha) hs hw h1) ?_
 rintro D σ H ⟨p,S,ρ,s,ev,h⟩
 refine jR s ev h λq H1 v x S1 st s1 e1 r1 h1=>?_;refine jR s1 e1 h1 λq2 H2 k y S2 st2 s2 e2 r2 h2=>?_;refine jR s2 e2 h2 λq3 H3 i z S3 st3 s3 e3 r3 h3=>?_;cases k with
 |pv _=>exact h3.elim
 |ref k=>
  obtain⟨a,ea,rfl⟩:=st3.repA r2;have rv:=st3.repA (st2.repA r1);have h3:dY X.K cl q3 H3 (cS.of (eX (.ref k) S3 λk=>lK k i v S3) λ_ S4=>.nx ρ S4) D E:=h3;rcases yQ k S3 (λk=>lK k i v S3)with z0 |⟨z0,_,_⟩
  .rw[z0]at h3
   exact h3.elim
  rw[z0]at h3;unfold lK at h3;split at h3
  .rename_i ii vv _
   have ez:z=.int ii:=(show eD X.K q3 H3 (.int ii) z from .inl r3).int;subst ez;cases w:S3[k]? with
   |none=>rw[w]at h3;exact h3.elim
   |some o=>
    cases o with
    |lol _=>simp only[w]at h3;exact h3.elim
    |dic _ _=>simp only[w]at h3;exact h3.elim
    |dol _ _=>simp only[w]at h3;exact h3.elim
    |lst zs=>
     simp only[w]at h3;obtain⟨vs,hh,ll,rr⟩:=s3.obj k a _ ea w;cases y:aS zs.length ii with
     |none=>simp only[y]at h3;exact h3.elim
     |some j=>
      simp only[y]at h3;refine⟨a,vs,ii,j,rfl,rfl,hh,by rw[<-rr.length];exact y,?_⟩;obtain⟨st4,sm4⟩:=s3.write ea (db.mp w).1 (ps:=zs.set j vv) (vs:=vs.set j x) (by rw[fy];exact ll) (aV.set rv j rr);exact h3 _ _ _ st4 sm4 (st4.repE e3)
  .exact h3.elim
def gH:AM->AM->AM
 |x::xs,y::ys=>.tup [x,y]::gH xs ys
 |_,_=>[]
theorem yP:∀(xs ys:AM),(gH xs ys).length=min xs.length ys.length
 |[],ys=>by cases ys<;>simp[gH]
 |x::xs,[]=>by simp[gH]
 |x::xs,y::ys=>by
  unfold gH;rw[bq,yP xs ys,bq,bq];omega
theorem Wh:∀{xs ys:AM}{i:Nat}{v:PV},(gH xs ys)[i]?=some v->∃x y,xs[i]?=some x/\ys[i]?=some y/\v=.tup [x,y]
 |[],ys,i,v,e=>by cases ys<;>simp[gH]at e
 |x::xs,[],i,v,e=>by simp[gH]at e
 |x::xs,y::ys,0,v,e=>by
  unfold gH at e;simp at e;exact⟨x,y,rfl,rfl,e.symm⟩
 |x::xs,y::ys,i+1,v,e=>by
  unfold gH at e;obtain⟨a,b,h1,h2,h3⟩:=Wh (xs:=xs) (ys:=ys) (i:=i) (v:=v) (by simpa using e);exact⟨a,b,by simpa using h1,by simpa using h2,h3⟩
def pU:AQ->aN->bO (AM×Gd)
 |[a,b],S=>match bX a S with
  |.ok xs _=>match bX b S with
   |.ok ys _=>.ok (gH xs.1 ys.1,xs.2++ys.2) S
   |_=>.fail
  |_=>.fail
 |_,_=>.fail
def kB(ms:MA):MI:=λρ S=>(ms ρ S).bind pU
theorem Di{a:AV}{x:V}{xs:AM×Gd}{S':aN}(s:bD K p S H)(r:cE K p H a x)(e:bX a S=.ok xs S'):∃f ad vs,x=.ref ad/\iW f K H ad vs/\xs.1.length<=sizeLine/\∀q H1 S1,bV p H q H1->bD K q S1 H1->gL xs.2 S1->∃vs,iW f K H1 ad vs/\aV K q.c H1 xs.1 vs:=by
 cases a with
 |ref j=>
  obtain⟨a,e1,rfl⟩:=r;unfold bX at e;dsimp only at e;cases z:S[j]? with
  |none=>rw[z]at e;cases e
  |some o=>
   cases o with
   |lol _=>rw[z]at e;cases e
   |dic _ _=>rw[z]at e;cases e
   |dol _ _=>rw[z]at e;cases e
   |lst ys=>
    rw[z]at e;cases e;obtain⟨vs,h1,l1,r1⟩:=s.obj j a _ e1 z;refine⟨false,a,vs,rfl,cF.of h1,by rw[r1.length];exact l1,λq H1 S1 st sm g=>?_⟩;obtain⟨ws,h2,l2,r2⟩:=sm.obj j a _ (st.at_ e1) (g (j,ys) bc);exact⟨ws,cF.of h2,r2⟩
 |pv v=>
  cases v with
  |lst ys=>
   cases e;have r:aY K p.c H (.lst ys) x:=r;unfold aY at r;obtain⟨a,vs,rfl,l,z,r⟩:=r;exact⟨false,a,vs,rfl,l.sq,by rw[r.length];exact z,λq H1 S1 st sm g=>⟨vs,(st.lat l).sq,st.reps r⟩⟩
  |tup ys=>
   cases e;have r:aY K p.c H (.tup ys) x:=r;unfold aY at r;obtain⟨a,vs,rfl,l,z,r⟩:=r;exact⟨true,a,vs,rfl,l,by rw[r.length];exact z,λq H1 S1 st sm g=>⟨vs,st.tup l,st.reps r⟩⟩
  |_=>cases e
theorem Bz{elts:List af}{x1:Nat}{tp p:ah}(hg:Gl X "zip")(hm:X.mg "zip"=none)(hl:dW K cl E X [a,b] ms)(hs:starEach [a,b] X.env=[(false,eval a X.env),(false,eval b X.env)]:=by rfl)(hs2:starEach [b] X.env=[(false,eval b X.env)]:=by rfl):
  gY K cl E X (.Tuple elts x1 tp) (.Call (.Name "zip" p) [a,b] [] pos) (kB ms):=by
 intro hK;subst hK;refine PI.imp (N6 hg hm (hl rfl) hs hs2) ?_
 rintro σ H R ⟨p,S,ρ,s,ev,h⟩
 refine bZ s ev h λq H' as xs S' stp sm ev r k=>?_;unfold pU at k;split at k
 .rename_i u v
  cases r with
  |cons r1 r2=>
   cases r2 with
   |cons r2 r3=>
    cases r3;split at k
    .rename_i xs1 S1 hx
     split at k
     .rename_i ys1 S2 hy
      obtain⟨f1,a1,vs1,rfl,q1,z1,st1⟩:=Di sm r1 hx;obtain⟨f2,a2,vs2,rfl,q2,z2,st2⟩:=Di sm r2 hy;refine⟨f1,a1,f2,a2,vs1,vs2,rfl,q1,q2,cA.ret (R:=eK X.K) k sm ?_⟩;refine⟨by rw[yP];omega,λq3 H3 S3 st3 sm3 g3=>?_⟩;obtain⟨ws1,w1,rr1⟩:=st1 q3 H3 S3 st3 sm3 λg hg=>g3 g (jr _ hg);obtain⟨ws2,w2,rr2⟩:=st2 q3 H3 S3 st3 sm3 λg hg=>g3 g (cq _ hg);refine⟨λi v e=>?_,?_⟩
      .obtain⟨x,y,ex,ey,rfl⟩:=Wh e
       obtain⟨x',ex',rx⟩:=rr1.get ex;obtain⟨y',ey',ry⟩:=rr2.get ey;refine⟨⟨ws1,ws2,x',y',w1,w2,ex',ey'⟩,λz H4 hz=>?_⟩;obtain⟨t,x2,y2,ht,rfl,rfl,g1,g2⟩:=hz;have e1:=(g1 ws1 w1).symm.trans ex';have e2:=(g2 ws2 w2).symm.trans ey';cases e1;cases e2;refine⟨fH ht,mH sm3 (.cons rx (.cons ry .nil)) (by show 2<=sizeLine;decide) ht⟩
      .refine⟨ws1,ws2,w1,w2,?_⟩
       show(gH xs1.1 ys1.1).length=_\/_;rw[yP,rr1.length,rr2.length];omega
     .exact k.elim
    .exact k.elim
 .exact k.elim
def iP:Nat->AM->AM
 |_,[]=>[]
 |n,x::xs=>.tup [.int n,x]::iP (n+1) xs
theorem yI:∀(n:Nat)(xs:AM),(iP n xs).length=xs.length
 |_,[]=>rfl
 |n,x::xs=>by
  unfold iP;rw[bq,yI (n+1) xs,bq]
theorem Wg:∀{n:Nat}{xs:AM}{i:Nat}{v:PV},(iP n xs)[i]?=some v->∃x,xs[i]?=some x/\v=.tup [.int ((n+i:Nat):Int),x]
 |n,[],i,v,e=>by simp[iP]at e
 |n,x::xs,0,v,e=>by
  unfold iP at e;simp at e;exact⟨x,rfl,e.symm⟩
 |n,x::xs,i+1,v,e=>by
  unfold iP at e;obtain⟨y,h1,h2⟩:=Wg (n:=n+1) (xs:=xs) (i:=i) (v:=v) (by simpa using e);refine⟨y,by simpa using h1,?_⟩;rw[h2,show n+1+i=n+(i+1) by omega]
def Ia:AQ->aN->bO (AM×Gd)
 |[.pv (.lst xs)],S=>.ok (iP 0 xs,[]) S
 |[.ref k],S=>match bX (.ref k) S with
  |.ok xs _=>.ok (iP 0 xs.1,xs.2) S
  |_=>.fail
 |_,_=>.fail
def vP(ms:MA):MI:=λρ S=>(ms ρ S).bind Ia
theorem Zk{xs:AM}{G:Gd}{a:Addr}(z:xs.length<=sizeLine)(st1:∀q H1 S1,bV p H q H1->bD K q S1 H1->gL G S1->∃vs,cF K H1 a vs/\aV K q.c H1 xs vs):eK K p H (iP 0 xs,G) (Sb K a):=by
 refine⟨by rw[yI];exact z,λq3 H3 S3 st3 sm3 g3=>?_⟩;obtain⟨ws1,w1,rr1⟩:=st1 q3 H3 S3 st3 sm3 g3;refine⟨λi v e=>?_,?_⟩
 .obtain⟨x,ex,rfl⟩:=Wg e
  obtain⟨x',ex',rx⟩:=rr1.get ex;refine⟨⟨ws1,x',w1,ex'⟩,λz H4 hz=>?_⟩;obtain⟨t,y2,ht,rfl,rfl,g1⟩:=hz;have e1:=(g1 ws1 w1).symm.trans ex';cases e1;refine⟨fH ht,mH sm3 (.cons ?_ (.cons rx .nil)) (by show 2<=sizeLine;decide) ht⟩;rw[xf];exact gS (v:=.int _) rfl
 .refine⟨ws1,w1,?_⟩
  show _<=(iP 0 xs).length;rw[yI,rr1.length];exact am _
theorem Ew{elts:List af}{x1:Nat}{tp p:ah}(hg:Gl X "enumerate")(hm:X.mg "enumerate"=none)(hl:dW K cl E X [l] ms)(hs:starEach [l] X.env=[(false,eval l X.env)]:=by rfl):
  gY K cl E X (.Tuple elts x1 tp) (.Call (.Name "enumerate" p) [l] [] pos) (vP ms):=by
 intro hK;subst hK;refine PI.imp (G6 hg hm (hl rfl) hs) ?_
 rintro σ H R ⟨p,S,ρ,s,ev,h⟩
 refine bZ s ev h λq H' as xs S' stp sm ev r k=>?_;unfold Ia at k;split at k
 .rename_i ys
  cases r with
  |cons r1 r2=>
   cases r2;rename_i x;have r1:aY X.K q.c H' (.lst ys) x:=r1;unfold aY at r1;obtain⟨a,vs,rfl,l,z,r⟩:=r1;exact⟨a,rfl,⟨vs,l.sq⟩,cA.ret (R:=eK X.K) k sm (Zk (by rw[r.length];exact z) λq H1 S1 st sm g=>⟨vs,(st.lat l).sq,st.reps r⟩)⟩
 .rename_i j
  cases r with
  |cons r1 r2=>
   cases r2;split at k
   .rename_i xs1 S1 hx
    obtain⟨a,e1,rfl⟩:=r1;cases z:S'[j]? with
    |none=>unfold bX at hx;simp only[z]at hx;cases hx
    |some o=>
     cases o with
     |lol _=>unfold bX at hx;simp only[z]at hx;cases hx
     |dic _ _=>unfold bX at hx;simp only[z]at hx;cases hx
     |dol _ _=>unfold bX at hx;simp only[z]at hx;cases hx
     |lst ys=>
      unfold bX at hx;simp only[z]at hx;cases hx;obtain⟨vs,h1,l1,r1⟩:=sm.obj j a _ e1 z;refine⟨a,rfl,⟨vs,cF.of h1⟩,cA.ret (R:=eK X.K) k sm (Zk (by rw[r1.length];exact l1) λq H1 S1 st sm g=>?_)⟩;obtain⟨ws,h2,l2,r2⟩:=sm.obj j a _ (st.at_ e1) (g (j,ys) bc);exact⟨ws,cF.of h2,r2⟩
   .exact k.elim
 .exact k.elim
end
theorem nB{A:aq}{k:Nat}(hr:cU k A):A.units+8<cLine:=by
 have:=hr.units;omega
section
variable{K:ae}{cl:Str->Addr}{E:XK}{X:Cx}{a b c e l tg:af}{es:List af}{m ma mb:ME}{ms:MA}{pos:ah}{p q:Ph}{H H':Hp}{S:aN}
def fP(n:String):PV->AN
 |.int _=>if n="int" then some (.bl true)else if n="bool" then some (.bl false)else none
 |.tup _=>if n="tuple" then some (.bl true)else none
 |.lst _=>if n="list" then some (.bl true)else none
 |.str _=>if n="str" then some (.bl true)else none
 |.bl _=>if n="bool" then some (.bl true)else none
 |_=>none
theorem qV(K:ae)(n:String):fv K (.type n) (.type n)=some true:=by
 unfold fv;rw[if_pos (beq_self_eq_true _)]
def Ko(K:ae)(n:String):V->Hp->VK->Prop:=λx H Q=>(∃t b,jA K H x t/\fv K t (.type n)=some b/\Q (.bl b) H)\/(n="tuple"/\∃a xs,x=.ref a/\dD K H a xs/\Q (.bl true) H)\/(n="list"/\∃a xs,x=.ref a/\cF K H a xs/\Q (.bl true) H)
theorem Tu(n:String):gW X (.builtin "isinstance") (λxs H Q=>∃x,xs=[x,.ty n]/\Ko X.K n x H Q):=by
 intro AR s σ H xs us Q I r h;obtain⟨x,rfl,h⟩:=h;obtain⟨u,c,rfl,rx,rc⟩:=Pa r;cases(show c=jq n from rc);rcases h with⟨t,b,ty,e,q⟩|⟨rfl,a,xs,rfl,t,q⟩|⟨rfl,a,xs,rfl,t,q⟩
 .exact Ts I rx ty e λtk=>⟨.bl b,H,I.tok tk,rfl,q⟩
 .cases rx
  obtain⟨its,_,⟨o,h1,h2,_⟩,_⟩:=I.tuple t;exact fi yi I.kIn ⟨o,h1,h2⟩ (qV X.K "tuple") (λz=>nomatch z) λtk=>⟨.bl true,H,I.tok tk,rfl,q⟩
 .cases rx
  obtain⟨its,_,pl,_⟩:=I.list t;obtain⟨o,h1,h2,_⟩:=pl.isList;exact fi vh I.kIn ⟨o,h1,h2⟩ (qV X.K "list") (λz=>nomatch z) λtk=>⟨.bl true,H,I.tok tk,rfl,q⟩
theorem U9(n:String):wO K (Ko K n) (fP n):=λ{p S H a c x Q} s ra e k=>by
 have fin:∀b,c=.bl b->Q (.bl b) H:=λb h=>by
  subst h;exact k H _ (cK.refl H) (by unfold aY;rfl)
 cases a with
 |int i=>
  cases ra.int;unfold fP at e;dsimp only at e;split at e
  .rename_i hn
   cases e;subst hn;exact .inl ⟨_,true,.int i,qV K _,fin _ rfl⟩
  .split at e
   .rename_i hn
    cases e;subst hn;exact .inl ⟨_,false,.int i,R6 K,fin _ rfl⟩
   .cases e
 |bl i=>
  cases ra.bl;unfold fP at e;dsimp only at e;split at e
  .rename_i hn
   cases e;subst hn;exact .inl ⟨_,true,.bl i,qV K _,fin _ rfl⟩
  .cases e
 |str i=>
  cases ra.str;unfold fP at e;dsimp only at e;split at e
  .rename_i hn
   cases e;subst hn;exact .inl ⟨_,true,.str i,qV K _,fin _ rfl⟩
  .cases e
 |tup xs=>
  obtain⟨a,vs,rfl,t,_,_⟩:=ra.tup;unfold fP at e;dsimp only at e;split at e
  .rename_i hn
   cases e;exact .inr (.inl ⟨hn,a,vs,rfl,t,fin _ rfl⟩)
  .cases e
 |lst xs=>
  obtain⟨a,vs,rfl,t,_,_⟩:=ra.lst;unfold fP at e;dsimp only at e;split at e
  .rename_i hn
   cases e;exact .inr (.inr ⟨hn,a,vs,rfl,t,fin _ rfl⟩)
  .cases e
 |non=>cases e
theorem Ca{n:String}{t:Str}{p p2:ah}(hg:Gl X "isinstance")(hm:X.mg "isinstance"=none)(hgt:Gl X t)(hmt:X.mg t=none)(hv:bootBuiltins t=some (.type n))(ha:aU K cl E X a m)
  (htn:t≠"__name__":=by decide)(htd:(t==("__debug__":Str))=false:=by decide)
  (he:starEach [a,.Name t p2] X.env=(false,eval a X.env)::starEach [.Name t p2] X.env:=by rfl)(he2:starEach [.Name t p2] X.env=[(false,eval (.Name t p2) X.env)]:=by rfl)(hpl:(backTo pos (starEach [.Name t p2] X.env)).any (·.1)=false:=by rfl):
  aU K cl E X (.Call (.Name "isinstance" p) [a,.Name t p2] [] pos) (cD (fP n) m):=by
 intro hK;subst hK;refine PE.imp (qW (Tu n) hg hm rm (iN (ha rfl) (iN (A0 hgt hmt hv (v:=.ty n) rfl htn htd) mL he2) he) (by decide) (by decide) he hpl) ?_
 rintro σ H Q ⟨p,S,ρ,s,ev,h⟩
 exact bZ s ev h λq H' as x S' stp sm ev r k=>⟨x,rfl,tH (U9 n) sm r k⟩
def vJ(K:ae):Sp:=λvs H Q _=>∃(a:Addr)(ns:AE),vs=[.ref a]/\cF K H a (ns.map V.int)/\ns.length<=63/\∀H',Q (.bl true) H'
theorem Ky{f:FM}(ht:∀ns:AE,ns.length<=63->∃S,f [.pv (.lst (ns.map .int))] []=.ok (.pv (.bl true)) S){vs:List V}{H:Hp}{Q:VK}{E:XK}(h:vJ K vs H Q E):kR K cl f vs H Q E:=by
 obtain⟨a,ns,rfl,hS,hl,hQ⟩:=h;obtain⟨S,e⟩:=ht ns hl;have rs:∀(ns:AE),aV K (λ_=>False) H (ns.map .int) (ns.map V.int):=λns=>by
  induction ns with
  |nil=>exact .nil
  |cons n ns ih=>exact .cons (by unfold aY;rfl) ih
 refine⟨⟨[],λ_=>False,λ_=>False⟩,[],[.pv (.lst (ns.map .int))],⟨List.nodup_nil,rfl,(λ_ h=>absurd h (pe)),(λ_ h=>h),(λ_ h=>h.elim),(λk a o e=>by simp at e)⟩,.cons ?_ .nil,?_⟩
 .show aY K (λ_=>False) H (.lst (ns.map .int)) (.ref a)
  unfold aY;refine⟨a,_,rfl,?_,?_,rs ns⟩
  .rcases hS with(h |h) |h
   .exact .inl ⟨h,λz=>z⟩
   .exact .inr (.inl h)
   .exact .inr (.inr h)
  .rw[ar,fN]
   omega
 .rw[e]
  intro q H' x st sm r;have r:aY K q.c H' (.bl true) x:=r;unfold aY at r;rw[r];exact hQ H'
end
section
variable{K:ae}{cl:Str->Addr}{E:XK}{X:Cx}{e:af}{es:List af}{ms:MA}{p q:Ph}{H H':Hp}{S:aN}
theorem cR.forget{ρ:bS}{σ:St}(h:cR K p H ρ σ)(i:Nat)(x:Option V):cR K p H (ρ.set i none) (σ.set i x):=by
 refine⟨by rw[fy,fy,h.len],λj u e=>?_⟩
 by_cases q:i=j
 .subst q
  by_cases l:i<ρ.length
  .rw[ij l]at e
   cases e
  .rw[c9 (by rw[fy];omega)]at e
   cases e
 .rw[jg q]at e⊢
  exact h.at_ j u e
variable{k:Nat}{f:Addr}{fd:bh}{ps:List Str}{g:FM}{dvs:List V}{ds:AH}{dv:AM}{x:Str}{pp pos pos1 pos2 pos3 pc:ah}{c n:Str}{i nn:Nat}{AY:Stmt}{body:List Stmt}{newId:String}{up:bS->bS}
end
end L2.Pp
namespace L2
open PySem PySem.Spec PyProof.Rows Bn
section
variable{X:Cx}{k:Nat}{f:Addr}{fd:bh}{ps:List Str}{sp:Sp}{dvs:List V}{ds:AH}{x:Str}{p pos pos1 pos2 pos3 pc:ah}{e:af}{es:List af}{t:TA}{c n:Str}{C:Addr}{i:Nat}{AY:Stmt}{body:List Stmt}{newId:String}
end
end L2
namespace L2.Pp
open PySem PySem.Spec PyProof.Rows Bn
section
variable{K:ae}{cl:Str->Addr}{E:XK}{X:Cx}{e:af}{es:List af}{ms:MA}{p q:Ph}{H H':Hp}{S:aN}
variable{k:Nat}{f:Addr}{fd:bh}{ps:List Str}{g:FM}{dvs:List V}{ds:AH}{dv:AM}{x:Str}{pp pos pos1 pos2 pos3 pc:ah}{c n:Str}{i nn:Nat}{AY:Stmt}{body:List Stmt}{newId:String}{up:bS->bS}
end
section
variable{prog:Program}{w:ao}{A:aq}{E:Value->aa->Prop}{s:aa}
end
end L2.Pp
namespace L2
open PySem PyProof.Rows
end L2
namespace L2.Pp
open PySem
end L2.Pp
namespace L2
open PySem PySem.Spec PyProof.Rows Bn
section
variable{X:Cx}
theorem Ud(is:AE):∀j,j<=is.length->preSum (λi=>is.getD i 0) j=(is.take j).sum
 |0,_=>by simp[preSum]
 |j+1,h=>by
  have hj:j<is.length:=h;rw[preSum,Ud is j (by omega),List.take_add_one,bf hj,Option.toList_some,List.sum_append,List.sum_singleton];simp only[cr,bf hj,Option.getD_some]
theorem Ku(hc:X.calm=true):gW X (.builtin "sum") (λxs H Q=>∃(a:Addr)(is:AE),xs=[.ref a]/\cF X.K H a (is.map V.int)/\Q (.int is.sum) H):=by
 intro AR s σ H xs us Q I r h;obtain⟨a,is,rfl,hq,q⟩:=h;obtain⟨u,rfl,ru⟩:=iT r;cases ru;obtain⟨its,rv,pl,hz⟩:=I.list hq;have hl:is.length=its.length:=by
  have:=rv.length
  rwa[ar]at this
 refine call_sum_walkG (qt pl.isList ?_);have ha:a<s.heap.objs.size:=by
  obtain⟨o,ho,_⟩:=pl.isList;exact ax ho
 refine⟨_,_,_,_,_,_,λi=>is.getD i 0,rfl,Walks.list (prog:=X.prog) (w:=X.w) (A:=X.A.in1) (show X.A.in1.handled=none from I.ok.hd hc) s.heap.objs.size a (ck ha) its.toArray,⟨⟨_,dl _ rfl,rfl,rfl⟩,Heap.IsList.at pl.isList λo e=>aw _ e⟩,λb hb=>?_,λi v hv=>?_,λh' tk t' kp=>?_⟩
 .have hb':b=s.heap.objs.size\/b=a:=by simpa using hb
  rw[jz];rcases hb' with e |e<;>rw[e]
  .exact d4 _
  .exact Nat.lt_succ_of_lt ha
 .have hv':its[i]?=some v:=by simpa using hv
  have hi:i<is.length:=by
   have:=(db.mp hv').1;omega
  obtain⟨u,hu,ru⟩:=rv.get (i:=i) (x:=.int is[i]) (by rw[dy,bf hi];rfl);rw[hv']at hu;cases hu;obtain⟨t,ht⟩:=(show ∃t,v=pz is[i] t from ru);exact⟨t,by rw[ht];simp[cr,hi]⟩
 .have e:preSum (λi=>is.getD i 0) its.toArray.size=is.sum:=by
   rw[ay,<-hl,Ud is _ (am _),g5]
  show EP X AR σ Q (.int (preSum (λi=>is.getD i 0) its.toArray.size) t') _;rw[e];have I1:aH X AR σ H {s with heap:=s.heap.push {cls:=.type "list_iterator",data:=.fields #[.ref a,.int 0 0]},toks:=s.toks}:=I.kept λb o z=>aw _ z;have fp:eN X AR H s.heap.objs.size:=I.fpOk (am _) (I.hok.fresh (am _));obtain⟨f0,f1,f2,f3,f4,f5⟩:=fp;exact⟨.int is.sum,H,I1.turned (λb o hb z=>kp b o (by simpa using hb) z) f0 f1 f3 f4 f5,⟨t',rfl⟩,q⟩
end
end L2
namespace L2.Pp
open PySem PySem.Spec PyProof.Rows Bn
section
variable{K:ae}{cl:Str->Addr}{E:XK}{X:Cx}
def jT:AM->Option AE
 |[]=>some []
 |.int b::r=>match jT r with
  |some bs=>some (b::bs)
  |none=>none
 |_::_=>none
theorem xX{c:Addr->Prop}{H:Hp}:∀{xs:AM}{bs:AE}{vs:List V},jT xs=some bs->aV K c H xs vs->vs=bs.map V.int
 |[],bs,vs,e,r=>by
  cases e;unfold aV at r;exact r
 |.int b::xs,bs,vs,e,r=>by
  unfold jT at e;split at e
  .rename_i cs h
   cases e;unfold aV at r;obtain⟨v,w,rfl,r1,r2⟩:=r;unfold aY at r1;rw[r1,xX h r2];rfl
  .cases e
 |.non::_,_,_,e,_=>by cases e
 |.bl _::_,_,_,e,_=>by cases e
 |.str _::_,_,_,e,_=>by cases e
 |.tup _::_,_,_,e,_=>by cases e
 |.lst _::_,_,_,e,_=>by cases e
def jB:AM->AN
 |[.lst xs]=>(jT xs).map λbs=>.int bs.sum
 |_=>none
theorem Y3:jE K (λxs H Q=>∃(a:Addr)(is:AE),xs=[.ref a]/\cF K H a (is.map V.int)/\Q (.int is.sum) H) jB:=λ{p S H as c xs Q} s ra e k=>by
 unfold jB at e;split at e
 .rename_i zs
  cases y:jT zs with
  |none=>rw[y]at e;cases e
  |some bs=>
   rw[y]at e;cases e;cases ra with
   |cons h t=>
    cases t;obtain⟨a,vs,rfl,l,z,r⟩:=h.lst;rw[xX y r]at l;exact⟨a,bs,rfl,l,k H _ (cK.refl H) (gS (v:=.int _) rfl)⟩
 .cases e
theorem Dt(l:Addr)(items:Array Value)(n:Nat)(dd:AJ)(sl:Array AI)(x:Int)(u:dq)(hc0:¬(!Builtin.List.listFitsIndex x)=true)(hc1:¬items.size*x.toNat>(2^63-1)/8)(hc2:¬qo (items.size*x.toNat)=true):
  Meets (Builtin.«list.__mul__» ⟨[.ref l,.int x u],[]⟩) (λ_ R s=>s.heap.get? l=some {cls:=.type "list",dict:=dd,data:=.seq items n,slots:=sl}/\R (.ok (.ret (dk s.heap.objs.size))) {s with heap:=s.heap.push {cls:=jq "list",data:=Data.seq (jx (λx1 x2=>x1++x2) #[] (bj (if items.isEmpty=true then 0 else x.toNat) items))},toks:=s.toks}):=
 .of_wp λprog w A R s h=>by
  obtain⟨hp,g,d,tk,os⟩:=s;obtain⟨hl,h⟩:=h;have hsz:=AutoListH.joined_fits hc2
  wp_walk;refine wpAny_ite_false (decide_eq_false (Nat.not_lt.mpr hsz)) ?_;wp_walk;exact⟨_,rfl,h⟩
theorem Pt(a:Int)(t:dq)(l:Addr)(items:Array Value)(n:Nat)(dd:AJ)(sl:Array AI):
  Meets (Builtin.«int.__rmul__» ⟨[.int a t,.ref l],[]⟩) (λ_ R s=>s.heap.get? l=some {cls:=.type "list",dict:=dd,data:=.seq items n,slots:=sl}/\R (.ok (.ret Value.notImplemented)) s):=
 .of_wp λprog w A R s h=>by obtain⟨hp,g,d,tk,os⟩:=s;obtain⟨hl,h⟩:=h;wp_walk;exact⟨_,rfl,h⟩
def Kn(K:ae):R2:=λx y H Q=>∃l k xs,x=.ref l/\y=.int k/\cF K H l xs/\-(2^63)<=k/\k<2^63/\xs.length*k.toNat<=sizeLine/\
 ∀p,H p=none->Q (.ref p) (bE H p (.lst (bj k.toNat xs).flatten))
theorem F7:dE X (binaryOp .Mult) (Kn X.K):=by
 intro AR s σ H x y v u Q I rx ry h;obtain⟨l,k,xs,rfl,rfl,hx,h1,h2,hz,q⟩:=h;cases rx;obtain⟨t,rfl⟩:=ry;obtain⟨its,r,p1,_⟩:=I.list hx;obtain⟨⟨cls,dd,data,sl⟩,n,e,hc,_,hd⟩:=p1;simp only at hc hd;subst hc hd;have hl:=r.length;have hlen:its.toArray.size*k.toNat<=sizeLine:=by rw[ay,<-hl];exact hz
 have hcap:¬its.toArray.size*k.toNat>(2^63-1)/8:=by
  have:(sizeLine:Nat)<=(2^63-1)/8:=by decide
  omega
 have hfit:¬(!Builtin.List.listFitsIndex k)=true:=by
  rw[fitsIndex_both h1 h2];exact km
 have hlong:¬qo (its.toArray.size*k.toNat)=true:=by
  rw[Yu hlen];exact km
 have hnew:jx (λx1 x2=>x1++x2) #[] (bj (if its.toArray.isEmpty=true then 0 else k.toNat) its.toArray)=(bj k.toNat its).flatten.toArray:=by
  have f0:∀m:Nat,jx (λx1 x2=>x1++x2) #[] (bj m its.toArray)=(bj m its).flatten.toArray:=λm=>by
   have:=Hf its m [];rw[nv]at this;exact this
  rw[f0];cases its with
  |nil=>simp
  |cons a r'=>rw[if_neg (by simp)]
 refine wpAny_binaryOp_repeat_ref (T:="list") (U:="int") (by decide) ⟨_,e,rfl⟩ (λs'=>vz s' k t) noFill_list_mul F.fills_int_mul F.slot_int_rmul repeat_list F.slot_int_index.lookup
  (kx F.slot_int_rmul (vz s k t) F.entry_int_rmul (F.args_int_rmul_2 _ _) (Pt k t l its.toArray n dd sl)
   ⟨e,rfl,⟨_,e,rfl⟩,kx F.slot_list_mul ⟨_,e,rfl⟩ F.entry_list_mul (F.args_list_mul_2 _ _) (Dt l its.toArray n dd sl k t hfit hcap hlong) ⟨e,?_⟩⟩)
 rw[hnew];exact⟨.ref _,_,I.lnew (t':=s.toks) (r.rep k.toNat) (by rw[Kj,rn];exact hz),rfl,q _ I.fresh⟩
def Vn(xs:AM)(k:Int):AM:=(bj k.toNat xs).flatten
def Bo(n:Nat)(k:Int):Prop:=-(2^63)<=k/\k<2^63/\n*k.toNat<=16777216
open Classical in
noncomputable def sC:PV->PV->AN
 |.lst xs,.int k=>if Bo xs.length k then some (.lst (Vn xs k))else none
 |_,_=>none
open Classical in
theorem Nj{xs:AM}{k:Int}:sC (.lst xs) (.int k)=if Bo xs.length k then some (.lst (Vn xs k))else none:=rfl
theorem aV.rep{c:Addr->Prop}{H:Hp}{xs:AM}{vs:List V}(r:aV K c H xs vs):∀n:Nat,aV K c H (bj n xs).flatten (bj n vs).flatten
 |0=>aV.nil
 |n+1=>by
  rw[gw,gw,kv,kv];exact r.append (aV.rep r n)
theorem X0:eF K (Kn K) sC:=λ{p S H a b c x y Q} s ra rb e k=>by
 cases a with
 |lst xs=>
  cases b with
  |int j=>
   rw[Nj]at e;split at e
   .rename_i hl
    cases e;obtain⟨a1,vs,rfl,l1,z1,r1⟩:=ra.lst;have hz:vs.length*j.toNat<=sizeLine:=by rw[<-r1.length,fN];exact hl.2.2
    exact⟨a1,j,vs,rfl,rb.int,l1,hl.1,hl.2.1,hz,λt ht=>k _ _ (fH ht) (mI s (aV.rep r1 _) (by rw[Kj,rn];exact hz) ht)⟩
   .cases e
  |_=>cases e
 |_=>cases e
end
section
variable{K:ae}{cl:Str->Addr}{E:XK}{X:Cx}{p q:Ph}{H H':Hp}{S:aN}
variable{sc:Scope}{own:List Str}{cap:List (Nat×Str)}{elt target iter:af}{pos:ah}{mi:MI}{g:GM}{me:ME}
end
section
variable{K:ae}{cl:Str->Addr}{E:XK}{X:Cx}{e:af}{m:ME}{pos p2:ah}
end
section
variable{K:ae}{cl:Str->Addr}{E:XK}{X:Cx}
end
end L2.Pp
namespace L2
open PySem PySem.Spec PyProof.Rows Bn
open PySem.W (KasT kas_sort kas_ask KatLex KatGo KatTups kat_run kat_kind kat_lt kat_one kas_item kat_snds)
def lL{α:Type}(lt:Nat->Nat->Bool):KasT α->α
 |.ret a=>a
 |.ask i j k=>lL lt (k (lt i j))
def hV{α:Type}(n:Nat):KasT α->Bool
 |.ret _=>true
 |.ask i j k=>decide (i<n)&&decide (j<n)&&hV n (k true)&&hV n (k false)
theorem Oi{α:Type}{cmp:Nat->Nat->(Bool->aa->Prop)->aa->Prop}{lt:Nat->Nat->Bool}{n:Nat}{s:aa}(hc:∀i j(C:Bool->aa->Prop),i<n->j<n->C (lt i j) s->cmp i j C s):∀(t:KasT α)(Q:α->aa->Prop),hV n t=true->Q (lL lt t) s->t.kasWp cmp Q s
 |.ret a,Q,_,h=>h
 |.ask i j k,Q,ok,h=>by
  unfold hV at ok;simp only[ee,decide_eq_true_eq]at ok;obtain⟨⟨⟨hi,hj⟩,h1⟩,h2⟩:=ok;refine hc i j _ hi hj (Oi hc (k (lt i j)) Q ?_ h);cases lt i j
  .exact h2
  .exact h1
def pP(h:Heap)(v:Value)(us:AE):Prop:=∃a o its n,v=.ref a/\h.get? a=some o/\o.cls=.type "tuple"/\o.data=.seq (lm its) n/\bH (us.map V.int) its
section
variable{prog:Program}{w:ao}{A:aq}{E:Value->aa->Prop}{s:aa}
theorem Ui{Q:Bool->aa->Prop}:∀(us vs:AE)(its jts:AH)(i:Nat)(fin:Bool),bH (us.map V.int) its->bH (vs.map V.int) jts->fin=decide (us.length<vs.length)->Q (HT.lexLt us vs) s->KatLex prog w A true fin Q (its.zip jts) i s
 |[],vs,its,jts,i,fin,h1,h2,hf,hQ=>by
  cases h1;cases vs with
  |nil=>
   subst hf;exact xh hQ
  |cons v vs=>
   have e:fin=true:=by rw[hf];simp
   subst e;exact xh hQ
 |u::us,[],its,jts,i,fin,h1,h2,hf,hQ=>by
  cases h2;have e:fin=false:=by rw[hf];simp
  subst e;rw[List.zip_nil_right];exact xh hQ
 |u::us,v::vs,its,jts,i,fin,h1,h2,hf,hQ=>by
  cases h1 with
  |cons r1 t1=>
   cases h2 with
   |cons r2 t2=>
    obtain⟨k1,rfl⟩:=r1;obtain⟨k2,rfl⟩:=r2;rw[List.zip_cons_cons];refine PySem.W.kat_cons (wpAny_eqBool_int ?_);rw[HT.lexLt_cons]at hQ
    by_cases e:u=v
    .rw[if_pos e]at hQ
     have b:(u==v)=true:=by simpa using e
     rw[b];exact PySem.W.kat_yes (Ui us vs _ _ (i+1) fin t1 t2 (by rw[hf];simp) hQ)
    .rw[if_neg e]at hQ
     have b:(u==v)=false:=by simpa using e
     rw[b];refine PySem.W.kat_no ?_
     by_cases hi:i=0
     .subst hi
      exact oneLt_int hQ
     .have b2:(true&&i==0)=false:=by simpa using hi
      rw[b2];exact kat_one _ _ (PySem.P.lt_int hQ)
theorem K3{x y:Value}{us vs:AE}{Q:Bool->aa->Prop}(hx:pP s.heap x us)(hy:pP s.heap y vs)(h:Q (HT.lexLt us vs) s):wpAny (model prog w) A (keyLt' (tuples' true) x y) Q E s:=by
 obtain⟨a,o,its,n,rfl,ho,hc,hd,r⟩:=hx;obtain⟨b,o2,jts,k,rfl,ho2,hc2,hd2,r2⟩:=hy;refine kat_lt ho hd ho2 hd2 ?_;have l1:=r.length;have l2:=r2.length;rw[ar]at l1 l2;refine Ui us vs its jts 0 _ r r2 ?_ h;rw[ay,ay,l1,l2]
theorem Af:∀(vs:AH)(uss:AF),vs.length=uss.length->(∀i,i<vs.length->pP s.heap (vs.getD i cg) (uss.getD i [])/\uss.getD i []≠[])->∃fs,KatTups s.heap vs fs/\fs.length=vs.length/\∀v∈fs,∃i t,v=.int i t
 |[],uss,_,_=>⟨[],trivial,rfl,λ_ h=>absurd h pe⟩
 |v::vs,[],hl,_=>by cases hl
 |v::vs,us::uss,hl,h=>by
  obtain⟨fs,k,l,q⟩:=Af vs uss (by simpa using hl) λi hi=>by
   have:=h (i+1) (by simp;omega);simpa using this
  obtain⟨⟨a,o,its,n,e,ho,hc,hd,r⟩,ne⟩:=h 0 (by simp);have e:v=.ref a:=e;subst e;cases us with
  |nil=>exact absurd rfl ne
  |cons u us=>
   have r:bH (V.int u::us.map V.int) its:=r;cases r with
   |cons r1 t1=>
    obtain⟨t,rfl⟩:=r1;refine⟨.int u t::fs,KatTups.cons ho hc hd (by simp) k,by simp[l],λx hx=>?_⟩;rcases cu.mp hx with rfl |hx
    .exact⟨u,t,rfl⟩
    .exact q x hx
def dH(uss:AF):List Nat:=(lL (λi j=>HT.lexLt (uss.getD i []) (uss.getD j [])) (ic uss.length)).toList
theorem Qp{a:Addr}{vs:AH}{uss:AF}{n:Nat}{P:PySem.Fin->aa->Prop}(ho:s.heap.get? a=some (seqObj "list" vs.toArray n))(hl:vs.length=uss.length)(h2:2<=vs.length)(h64:vs.length<64)(ok:hV uss.length (ic uss.length)=true)
  (tu:∀i,i<vs.length->pP s.heap (vs.getD i cg) (uss.getD i [])/\uss.getD i []≠[])
  (h:P (.done (.ret .none)) {s with heap:=sortedHeap s.heap a vs (lm ((dH uss).map λi=>vs.getD i cg))}):
  wpAny (model prog w) A (Builtin.«list.sort» ⟨[.ref a],[]⟩) P E s:=by
 have ha:a<s.heap.objs.size:=ax ho;obtain⟨e1,ho1⟩:∃e1,(s.heap.update a (fx λ_=>(#[]:Array Value))).get? a=some (seqObj "list" #[] e1):=⟨_,xi ho λ_=>#[]⟩;have kp:∀b o,b≠a->s.heap.get? b=some o->(((s.heap.update a (fx λ_=>(#[]:Array Value))).push (seqObj "tuple" vs.toArray 0)).push (seqObj "list" #[] 0)).get? b=some o:=λb o hb e=>
  aw _ (aw _ ((xj _ _ _ _ hb).trans e))
 have tu2:∀i,i<vs.length->pP (((s.heap.update a (fx λ_=>(#[]:Array Value))).push (seqObj "tuple" vs.toArray 0)).push (seqObj "list" #[] 0)) (vs.getD i cg) (uss.getD i [])/\uss.getD i []≠[]:=λi hi=>by
  obtain⟨⟨b,o,its,m,e,hb,hc,hd,r⟩,ne⟩:=tu i hi;refine⟨⟨b,o,its,m,e,kp b o (λz=>?_) hb,hc,hd,r⟩,ne⟩;subst z;rw[ho]at hb;cases hb;have hc:jq "list"=jq "tuple":=hc;injection hc with hc;exact absurd hc (by decide)
 have na:(((s.heap.update a (fx λ_=>(#[]:Array Value))).push (seqObj "tuple" vs.toArray 0)).push (seqObj "list" #[] 0)).get? a=some (seqObj "list" #[] e1):=aw _ (aw _ ho1);rw[list_sort_plain];refine ag (listItems_at ho rfl ?_);refine ag (listUpdate_at ho rfl ?_ (by rw[ay,jw];omega) (ia _));refine ag (seqEpoch_at ho1 rfl ?_);refine ag (wpAny_newTuple ?_ (by show vs.length<=_;rw[jw];omega));refine ag (wpAny_newList ?_ (ia _));refine dw ?_;show wpAny (model prog w) A _ P E {s with heap:=((s.heap.update a (fx λ_=>(#[]:Array Value))).push (seqObj "tuple" vs.toArray 0)).push (seqObj "list" #[] 0)};dsimp only;have hn2:¬vs.toArray.size<2:=by rw[ay];omega
 rw[if_neg hn2,if_neg hn2];obtain⟨fs,kt,lf,qf⟩:=Af (s:={s with heap:=((s.heap.update a (fx λ_=>(#[]:Array Value))).push (seqObj "tuple" vs.toArray 0)).push (seqObj "list" #[] 0)}) vs uss hl tu2;refine ag (kat_kind (T:=.type "int") kt (by omega) (λv hv=>?_) rfl ?_)
 .obtain⟨i,t,rfl⟩:=qf v hv
  exact .now
 have bt:(jq "int" !=jq "tuple")=true:=by decide
 rw[bt];refine ag (cy (kat_run (Q:=λst' s'=>∃p:Array Nat,p.size=vs.length/\arrOf st'=p.map (kas_item (vs.toArray.zip vs.toArray))/\failedOf st'=none/\p.toList=dH uss/\s'={s with heap:=((s.heap.update a (fx λ_=>(#[]:Array Value))).push (seqObj "tuple" vs.toArray 0)).push (seqObj "list" #[] 0)})
  (G:=λp s'=>p.toList=dH uss/\s'={s with heap:=((s.heap.update a (fx λ_=>(#[]:Array Value))).push (seqObj "tuple" vs.toArray 0)).push (seqObj "list" #[] 0)})
  rfl h2 h64 (λp' st' s' a1 a2 a3 a4=>⟨p',a1,a2,a3,a4⟩) ?_) ?_ λ_ _ e=>e)
 .rw[hl]
  refine Oi (lt:=λi j=>HT.lexLt (uss.getD i []) (uss.getD j [])) (n:=uss.length) (λi j C hi hj hC=>?_) _ _ ok ⟨rfl,rfl⟩;exact K3 (tu2 i (by omega)).1 (tu2 j (by omega)).1 hC
 rintro⟨⟨⟩,st'⟩ s' ⟨p,hp,har,hf,hpl,rfl⟩
 dsimp only;have hout:=kat_snds rfl har;have hsz:(lm (p.toList.map λi=>vs.getD i cg)).size=vs.length:=by rw[ay,ar,oa,hp]
 rw[hout];refine ag (seqEpoch_at na rfl ?_);refine ag (listUpdate_at na rfl ?_ (ia _) (dn (we hsz) (by rw[jw];omega)));rw[hf];simp only[bne_self_eq_false,nj,if_false];refine au ?_;rw[hpl];exact h
theorem Jr{l:Addr}{o:Obj}{T:String}{vs:AH}{uss:AF}{n:Nat}{Q:Value->aa->Prop}(hT:T="list"\/T="tuple")(ho:s.heap.get? l=some o)(hc:o.cls=.type T)(hd:o.data=.seq vs.toArray n)(hl:vs.length=uss.length)(h2:2<=vs.length)(h64:vs.length<64)(ok:hV uss.length (ic uss.length)=true)
  (tu:∀i,i<vs.length->pP s.heap (vs.getD i cg) (uss.getD i [])/\uss.getD i []≠[])
  (h:∀(h1 h':Heap)(c:Nat),(∀b o',s.heap.get? b=some o'->h1.get? b=some o')->(∀b o',h1.get? b=some o'->h'.get? b=some o')->h'.get? h1.objs.size=some (seqObj "list" (lm ((dH uss).map λi=>vs.getD i cg)) c)->Q (.ref h1.objs.size) {s with heap:=h'}):
  wpAny (model prog w) A (call (.builtin "sorted") [.ref l]) Q E s:=by
 refine PySem.Calls.call_function_entry kind_sorted plain_sorted entry_sorted (args_sorted1 _) ?_;unfold Builtin.«sorted»;refine ag (m:=checkCount "sorted" 1 1 _) (au ?_);refine ag (wpAny_collect_seq l hT ho hc hd (λh1 k1=>?_) (by rw[ay,jw];omega));refine ag (wpAny_newList ?_ (by rw[jw];simp;omega));have hoL:(h1.push (seqObj "list" vs.toArray 0)).get? h1.objs.size=some (seqObj "list" vs.toArray 0):=dl _ rfl;show wpAny _ _ _ _ _ {s with heap:=h1.push (seqObj "list" vs.toArray 0)};refine ag (dw (mx slot_list_sort ⟨_,hoL,rfl⟩ entry_list_sort ?body (args_list_sort _)))
 case body=>
  refine Qp (s:={s with heap:=h1.push (seqObj "list" vs.toArray 0)}) hoL hl h2 h64 ok (λi hi=>?_) ⟨_,rfl,au ⟨_,rfl,?_⟩⟩
  .obtain⟨⟨b,o,its,m,e,hb,hc,hd,r⟩,ne⟩:=tu i hi
   exact⟨⟨b,o,its,m,e,aw _ (k1 b o hb),hc,hd,r⟩,ne⟩
  .obtain⟨e1,ho1⟩:∃e1,((h1.push (seqObj "list" vs.toArray 0)).update h1.objs.size (fx λ_=>(#[]:Array Value))).get? h1.objs.size=some (seqObj "list" #[] e1):=⟨_,xi hoL λ_=>#[]⟩
   have ho2:=aw (seqObj "list" #[] 0) (aw (seqObj "tuple" vs.toArray 0) ho1);obtain⟨e2,ho3⟩:∃e2,(sortedHeap (h1.push (seqObj "list" vs.toArray 0)) h1.objs.size vs (lm ((dH uss).map λi=>vs.getD i cg))).get? h1.objs.size=some (seqObj "list" (lm ((dH uss).map λi=>vs.getD i cg)) e2):=⟨_,xi ho2 λ_=>lm ((dH uss).map λi=>vs.getD i cg)⟩;refine h h1 _ e2 k1 (λb o' hb1=>?_) ho3;have hne:b≠h1.objs.size:=ck (ax hb1);exact(xj _ _ _ _ hne).trans (aw _ (aw _ ((xj _ _ _ _ hne).trans (aw _ hb1))))
end
def Ua(K:ae)(H:Hp)(ts:List V)(uss:AF):Prop:=ts.length=uss.length/\∀i t,ts[i]?=some t->∃a,t=.ref a/\dD K H a ((uss.getD i []).map V.int)/\uss.getD i []≠[]
theorem Fs{X:Cx}:gW X (.builtin "sorted") (λxs H Q=>∃(a:Addr)(ts:List V)(uss:AF),xs=[.ref a]/\(cF X.K H a ts\/dD X.K H a ts)/\Ua X.K H ts uss/\2<=ts.length/\ts.length<64/\hV uss.length (ic uss.length)=true/\(dH uss).length<=64/\
  ∀l,H l=none->Q (.ref l) (bE H l (.lst ((dH uss).map λi=>ts.getD i .non)))):=by
 intro AR s σ H xs us Q I r h;obtain⟨a,ts,uss,rfl,hq,⟨hl,ht⟩,h2,h64,ok,hpl,q⟩:=h;obtain⟨u,rfl,ru⟩:=iT r;cases ru;have go:∀(its:AH)(T:String)(o:Obj)(n:Nat),bH ts its->(T="list"\/T="tuple")->s.heap.get? a=some o->o.cls=.type T->o.data=.seq its.toArray n->ts.length<=sizeLine->
   wpAny (model X.prog X.w) X.A (call (.builtin "sorted") [.ref a]) (EP X AR σ Q) X.xe s:=λits T o n rv hT ho hc hd hz=>by
  have hlen:=rv.length;refine Jr (uss:=uss) hT ho hc hd (by omega) (by omega) (by omega) ok (λi hi=>?_) λh1 h' c k1 k2 e=>?_
  .have hi':i<ts.length:=by omega
   obtain⟨b,e1,sq,ne⟩:=ht i ts[i] (bf hi');obtain⟨v,e2,rel⟩:=rv.get (bf hi');rw[e1]at rel;cases rel;obtain⟨jts,rj,⟨o2,ho2,hc2,m,hd2⟩,_⟩:=I.tuple sq;refine⟨⟨b,o2,jts,m,?_,ho2,hc2,hd2,rj⟩,ne⟩;rw[cr,e2];rfl
  .have I1:aH X AR σ H {s with heap:=h1,toks:=s.toks}:=I.kept k1
   have hz2:((dH uss).map λi=>ts.getD i .non).length<=sizeLine:=by
    rw[ar,jw];omega
   have rel:∀ps:List Nat,bH (ps.map λi=>ts.getD i .non) (ps.map λi=>its.getD i cg):=λps=>by
    induction ps with
    |nil=>exact .nil
    |cons i ps ih=>
     refine .cons ?_ ih
     by_cases hi:i<ts.length
     .obtain⟨v,e2,rr⟩:=rv.get (bf hi)
      have q1:ts.getD i .non=ts[i]:=by simp[cr,hi]
      have q2:its.getD i cg=v:=by simp[cr,e2]
      show bY (ts.getD i .non) (its.getD i cg);rw[q1,q2];exact rr
     .have q1:ts.getD i .non=.non:=by simp[cr,hi]
      have q2:its.getD i cg=cg:=by simp[cr,show its.length<=i by omega]
      show bY (ts.getD i .non) (its.getD i cg);rw[q1,q2];rfl
   refine⟨.ref h1.objs.size,_,I1.laid (t':=s.toks) (o:=.lst ((dH uss).map λi=>ts.getD i .non)) k2 (am _) ?_,rfl,q _ (I1.hok.fresh (am _))⟩;exact⟨hz2,_,c,rel _,e⟩
 rcases hq with hq |hq
 .obtain⟨its,rv,pl,hz⟩:=I.list hq
  obtain⟨o,ho,hc,n,hd⟩:=pl.isList;exact go its "list" o n rv (.inl rfl) ho hc hd hz
 .obtain⟨its,rv,⟨o,ho,hc,n,hd⟩,hz⟩:=I.tuple hq
  exact go its "tuple" o n rv (.inr rfl) ho hc hd hz
end L2
namespace L2.Pp
open PySem PySem.Spec PyProof.Rows Bn
open PySem.W (kas_sort)
section
variable{K:ae}
def mQ:AM->Option AF
 |[]=>some []
 |.tup us::r=>match jT us,mQ r with
  |some is,some uss=>some (is::uss)
  |_,_=>none
 |_::_=>none
theorem Kh:∀{xs:AM}{uss:AF},mQ xs=some uss->xs.length=uss.length
 |[],uss,e=>by cases e;rfl
 |.tup us::r,uss,e=>by
  unfold mQ at e;split at e
  .rename_i is uss' h1 h2
   cases e;rw[bq,bq,Kh h2]
  .cases e
 |.non::_,_,e=>by cases e
 |.bl _::_,_,e=>by cases e
 |.int _::_,_,e=>by cases e
 |.str _::_,_,e=>by cases e
 |.lst _::_,_,e=>by cases e
theorem Ri{c:Addr->Prop}{H:Hp}:∀{xs:AM}{uss:AF}{vs:List V},mQ xs=some uss->aV K c H xs vs->∀i t,vs[i]?=some t->∃a,t=.ref a/\dD K H a ((uss.getD i []).map V.int)
 |[],uss,vs,e,r,i,t,h=>by
  unfold aV at r;subst r;simp at h
 |.tup us::r,uss,vs,e,rr,i,t,h=>by
  unfold mQ at e;split at e
  .rename_i is uss' h1 h2
   cases e;unfold aV at rr;obtain⟨v,w,rfl,r1,r2⟩:=rr;cases i with
   |zero=>
    cases h;unfold aY at r1;obtain⟨a,ws,rfl,sq,_,r3⟩:=r1;rw[xX h1 r3]at sq;exact⟨a,rfl,sq⟩
   |succ i=>
    have:=Ri h2 r2 i t (by simpa using h);simpa using this
  .cases e
 |.non::_,_,_,e,_,_,_,_=>by cases e
 |.bl _::_,_,_,e,_,_,_,_=>by cases e
 |.int _::_,_,_,e,_,_,_,_=>by cases e
 |.str _::_,_,_,e,_,_,_,_=>by cases e
 |.lst _::_,_,_,e,_,_,_,_=>by cases e
def Ra(uss:AF):Prop:=2<=uss.length/\uss.length<64/\hV uss.length (ic uss.length)=true/\(dH uss).length<=64/\∀us∈uss,us≠[]
def Oa(xs:AM)(uss:AF):AM:=(dH uss).map λi=>xs.getD i .non
open Classical in
noncomputable def pS(xs:AM):AN:=match mQ xs with
 |some uss=>if Ra uss then some (.lst (Oa xs uss))else none
 |none=>none
noncomputable def oV:AM->AN
 |[.lst xs]=>pS xs
 |[.tup xs]=>pS xs
 |_=>none
theorem Pf{c:Addr->Prop}{H:Hp}{xs:AM}{vs:List V}(r:aV K c H xs vs):∀ps:List Nat,aV K c H (ps.map λi=>xs.getD i .non) (ps.map λi=>vs.getD i .non)
 |[]=>.nil
 |i::ps=>by
  refine .cons ?_ (Pf r ps)
  by_cases hi:i<xs.length
  .obtain⟨v,e1,e2⟩:=r.get (bf hi)
   have q1:xs.getD i .non=xs[i]:=by simp[cr,hi]
   have q2:vs.getD i .non=v:=by simp[cr,e1]
   show aY K c H (xs.getD i .non) (vs.getD i .non);rw[q1,q2];exact e2
  .have hl:=r.length
   have q1:xs.getD i .non=.non:=by simp[cr,hi]
   have q2:vs.getD i .non=.non:=by simp[cr,show vs.length<=i by omega]
   show aY K c H (xs.getD i .non) (vs.getD i .non);rw[q1,q2];unfold aY;rfl
theorem N8:jE K (λxs H Q=>∃(a:Addr)(ts:List V)(uss:AF),xs=[.ref a]/\(cF K H a ts\/dD K H a ts)/\Ua K H ts uss/\2<=ts.length/\ts.length<64/\hV uss.length (ic uss.length)=true/\(dH uss).length<=64/\
  ∀l,H l=none->Q (.ref l) (bE H l (.lst ((dH uss).map λi=>ts.getD i .non)))) oV:=λ{p S H as c xs Q} s ra e k=>by
 have key:∀(zs:AM)(a:Addr)(vs:List V),pS zs=some c->(cF K H a vs\/dD K H a vs)->aV K p.c H zs vs->∃(a':Addr)(ts:List V)(uss:AF),[V.ref a]=[.ref a']/\(cF K H a' ts\/dD K H a' ts)/\Ua K H ts uss/\2<=ts.length/\ts.length<64/\hV uss.length (ic uss.length)=true/\(dH uss).length<=64/\
   ∀l,H l=none->Q (.ref l) (bE H l (.lst ((dH uss).map λi=>ts.getD i .non))):=λzs a vs e sq r=>by
  unfold pS at e;split at e
  .rename_i uss hu
   split at e
   .rename_i hc
    cases e;obtain⟨c1,c2,c3,c4,c5⟩:=hc;have l1:=Kh hu;have l2:=r.length;refine⟨a,vs,uss,rfl,sq,⟨by omega,λi t h=>?_⟩,by omega,by omega,c3,c4,λl hl=>?_⟩
    .obtain⟨b,e1,e2⟩:=Ri hu r i t h
     have hi:i<uss.length:=by
      have:=(db.mp h).1;omega
     refine⟨b,e1,e2,?_⟩;rw[cr,bf hi];exact c5 _ (iu hi)
    .refine k _ _ (fH hl) (mI s (Pf r _) ?_ hl)
     rw[ar,fN];omega
   .cases e
  .cases e
 unfold oV at e;split at e
 .rename_i zs
  cases ra with
  |cons h t=>
   cases t;obtain⟨a,vs,rfl,l,z,r⟩:=h.lst;exact key zs a vs e (.inl l) r
 .rename_i zs
  cases ra with
  |cons h t=>
   cases t;obtain⟨a,vs,rfl,l,z,r⟩:=h.tup;exact key zs a vs e (.inr l) r
 .cases e
end
end L2.Pp
namespace L2
section
open PySem.W (KasT kas_sort)
theorem Xe{α:Type}{lt lt':Nat->Nat->Bool}{n:Nat}(h:∀i j,i<n->j<n->lt i j=lt' i j):∀t:KasT α,hV n t=true->lL lt t=lL lt' t
 |.ret a,_=>rfl
 |.ask i j k,ok=>by
  unfold hV at ok;simp only[ee,decide_eq_true_eq]at ok;obtain⟨⟨⟨hi,hj⟩,h1⟩,h2⟩:=ok;show lL lt (k (lt i j))=lL lt' (k (lt' i j));rw[<-h i j hi hj];refine Xe h (k (lt i j)) ?_;cases lt i j
  .exact h2
  .exact h1
theorem kI:∀u:AE,HT.lexLt u u=false
 |[]=>rfl
 |x::u=>by rw[HT.lexLt_cons,if_pos rfl,kI u]
theorem zP:∀u v:AE,u=v\/HT.lexLt u v=true\/HT.lexLt v u=true
 |[],[]=>.inl rfl
 |[],_::_=>.inr (.inl rfl)
 |_::_,[]=>.inr (.inr rfl)
 |x::u,y::v=>by
  rw[HT.lexLt_cons,HT.lexLt_cons]
  by_cases h:x=y
  .subst h
   rw[if_pos rfl,if_pos rfl];rcases zP u v with h |h |h
   .exact .inl (by rw[h])
   .exact .inr (.inl h)
   .exact .inr (.inr h)
  .rw[if_neg h,if_neg (λz=>h z.symm)]
   by_cases q:x<y
   .exact .inr (.inl (by simpa using q))
   .exact .inr (.inr (by simp;omega))
theorem tE:∀u v w:AE,HT.lexLt u v=true->HT.lexLt v w=true->HT.lexLt u w=true
 |[],[],_,h,_=>by cases h
 |[],_::_,[],_,h=>by cases h
 |[],_::_,_::_,_,_=>rfl
 |_::_,[],_,h,_=>by cases h
 |_::_,_::_,[],_,h=>by cases h
 |x::u,y::v,z::w,h1,h2=>by
  rw[HT.lexLt_cons]at h1 h2⊢
  by_cases e1:x=y
  .subst e1
   rw[if_pos rfl]at h1
   by_cases e2:x=z
   .rw[if_pos e2]at h2⊢
    exact tE u v w h1 h2
   .rw[if_neg e2]at h2⊢
    exact h2
  .rw[if_neg e1]at h1
   have h1:x<y:=by simpa using h1
   by_cases e2:y=z
   .subst e2
    rw[if_neg e1];simpa using h1
   .rw[if_neg e2]at h2
    have h2:y<z:=by simpa using h2
    rw[if_neg (by omega)];simp;omega
theorem Ix{u v:AE}(h:HT.lexLt u v=true):HT.lexLt v u=false:=by
 cases q:HT.lexLt v u with
 |false=>rfl
 |true=>
  have:=tE u v u h q;rw[kI]at this;cases this
theorem Qw{u v:AE}(h:HT.lexLt u v=false)(g:HT.lexLt v u=false):u=v:=by
 rcases zP u v with e |e |e
 .exact e
 .rw[h]at e;cases e
 .rw[g]at e;cases e
def r3(a b c d e f:Bool):Bool:=(!(a&&b)||c)&&(!(d&&e)||f)
def wQ(b:Nat->Nat->Bool)(n:Nat):Bool:=(ce n).all λi=>!(b i i)&&(ce n).all λj=>!(b i j&&b j i)&&(ce n).all λk=>(!(b i j&&b j k)||b i k)&&(b i j||b j k|| !(b i k))
def vO(b:Nat->Nat->Bool)(n:Nat)(ps:List (List Nat)):Bool:=let p:=(lL b (ic n)).toList
 ps.contains p&&(ce n).all λi=>(ce n).all λj=>!(decide (i<j))|| !(b (p.getD j 0) (p.getD i 0))
def Ja:List (List Nat):=[[0,1,2],[0,2,1],[1,0,2],[1,2,0],[2,0,1],[2,1,0]]
def Ba:List (List Nat):=[[0,1,2,3],[0,1,3,2],[0,2,1,3],[0,2,3,1],[0,3,1,2],[0,3,2,1],[1,0,2,3],[1,0,3,2],[1,2,0,3],[1,2,3,0],[1,3,0,2],[1,3,2,0],
 [2,0,1,3],[2,0,3,1],[2,1,0,3],[2,1,3,0],[2,3,0,1],[2,3,1,0],[3,0,1,2],[3,0,2,1],[3,1,0,2],[3,1,2,0],[3,2,0,1],[3,2,1,0]]
def Wb(b01 b02 b10 b12 b20 b21:Bool)(i j:Nat):Bool:=match i,j with
 |0,1=>b01 |0,2=>b02 |1,0=>b10 |1,2=>b12 |2,0=>b20 |2,1=>b21 |_,_=>false
def Rb(b01 b02 b03 b10 b12 b13 b20 b21 b23 b30 b31 b32:Bool)(i j:Nat):Bool:=match i,j with
 |0,1=>b01 |0,2=>b02 |0,3=>b03 |1,0=>b10 |1,2=>b12 |1,3=>b13 |2,0=>b20 |2,1=>b21 |2,3=>b23 |3,0=>b30 |3,1=>b31 |3,2=>b32 |_,_=>false
theorem Nm:hV 3 (ic 3)=true:=by decide+kernel
theorem Ln:hV 4 (ic 4)=true:=by decide+kernel
theorem aaK:∀b01 b02 b10 b12 b20 b21:Bool,wQ (Wb b01 b02 b10 b12 b20 b21) 3=true->vO (Wb b01 b02 b10 b12 b20 b21) 3 Ja=true:=by decide+kernel
theorem aaA:∀b01 b02 b03 b10 b12 b13 b20 b21 b23 b30 b31 b32:Bool,wQ (Rb b01 b02 b03 b10 b12 b13 b20 b21 b23 b30 b31 b32) 4=true->vO (Rb b01 b02 b03 b10 b12 b13 b20 b21 b23 b30 b31 b32) 4 Ba=true:=by decide+kernel
theorem Cm{b:Nat->Nat->Bool}{n:Nat}{uss:AF}(h:∀i j,i<n->j<n->b i j=HT.lexLt (uss.getD i []) (uss.getD j [])):wQ b n=true:=by
 unfold wQ;simp only[ib,uu,ee,a6,Bool.or_eq_true,Bool.and_eq_false_imp];intro i hi;refine⟨by rw[h i i hi hi,kI],λj hj=>⟨λq=>?_,λk hk=>⟨?_,?_⟩⟩⟩
 .rw[h i j hi hj]at q
  rw[h j i hj hi,Ix q]
 .rw[h i j hi hj,h j k hj hk,h i k hi hk]
  cases q1:HT.lexLt (uss.getD i []) (uss.getD j [])with
  |false=>exact .inl λz=>by cases z
  |true=>
   cases q2:HT.lexLt (uss.getD j []) (uss.getD k [])with
   |false=>exact .inl λ_=>rfl
   |true=>exact .inr (tE _ _ _ q1 q2)
 .rw[h i j hi hj,h j k hj hk,h i k hi hk]
  cases q1:HT.lexLt (uss.getD i []) (uss.getD j [])with
  |true=>exact .inl (.inl rfl)
  |false=>
   cases q2:HT.lexLt (uss.getD j []) (uss.getD k [])with
   |true=>exact .inl (.inr rfl)
   |false=>
    refine .inr ?_;cases q3:HT.lexLt (uss.getD i []) (uss.getD k [])with
    |false=>rfl
    |true=>
     rcases zP (uss.getD i []) (uss.getD j [])with e |e |e
     .rw[e]at q3;rw[q2]at q3;cases q3
     .rw[q1]at e;cases e
     .have:=tE _ _ _ e q3
      rw[q2]at this;cases this
end
section
open PySem.W (KasT kas_sort)
def cX(uss:AF):AF:=(dH uss).map λi=>uss.getD i []
def nY(u v:AE):Prop:=HT.lexLt v u=false
theorem Uf{uss:AF}{n:Nat}{ps:List (List Nat)}(hl:uss.length=n)(ok:hV n (ic n)=true){b:Nat->Nat->Bool}(hb:∀i j,i<n->j<n->b i j=HT.lexLt (uss.getD i []) (uss.getD j []))(good:vO b n ps=true)(hp:∀p∈ps,p.Perm (ce n)):
  dH uss∈ps/\(dH uss).Perm (ce n)/\(cX uss).Pairwise nY:=by
 have e:dH uss=(lL b (ic n)).toList:=by
  unfold dH;rw[hl];exact congrArg va (Xe (n:=n) (λi j hi hj=>(hb i j hi hj).symm) _ ok)
 unfold vO at good;simp only[ee,ib,uu]at good;rw[<-e]at good;obtain⟨g1,g2⟩:=good;have m:dH uss∈ps:=by simpa using g1
 have pm:=hp _ m;refine⟨m,pm,?_⟩;have ln:(dH uss).length=n:=by rw[pm.length_eq,d3]
 unfold cX;rw[List.pairwise_iff_getElem];intro i j hi hj hij;rw[ar]at hi hj;have q:=g2 i (by omega) j (by omega);have pi:(dH uss).getD i 0=(dH uss)[i]:=by simp[cr,hi]
 have pj:(dH uss).getD j 0=(dH uss)[j]:=by simp[cr,hj]
 rw[pi,pj]at q;have li:(dH uss)[i]<n:=by
  have:=pm.subset (iu hi);simpa using this
 have lj:(dH uss)[j]<n:=by
  have:=pm.subset (iu hj);simpa using this
 rw[hb _ _ lj li]at q;simp only[List.getElem_map];unfold nY;have d:decide (i<j)=true:=by simpa using hij
 rw[d]at q;simpa using q
theorem Jv:∀p∈Ja,p.Perm (ce 3):=by decide
theorem Mw:∀p∈Ba,p.Perm (ce 4):=by decide
theorem Vj{uss:AF}(h:uss.length=3):dH uss∈Ja/\(dH uss).Perm (ce 3)/\(cX uss).Pairwise nY:=by
 match uss,h with
 |[u0,u1,u2],_=>
  have hb:∀i j,i<3->j<3->Wb (HT.lexLt u0 u1) (HT.lexLt u0 u2) (HT.lexLt u1 u0) (HT.lexLt u1 u2) (HT.lexLt u2 u0) (HT.lexLt u2 u1) i j=HT.lexLt (([u0,u1,u2]:AF).getD i []) (([u0,u1,u2]:AF).getD j []):=λi j hi hj=>by
   match i,j,hi,hj with
   |0,0,_,_=>exact(kI u0).symm
   |0,1,_,_=>rfl
   |0,2,_,_=>rfl
   |1,0,_,_=>rfl
   |1,1,_,_=>exact(kI u1).symm
   |1,2,_,_=>rfl
   |2,0,_,_=>rfl
   |2,1,_,_=>rfl
   |2,2,_,_=>exact(kI u2).symm
  exact Uf rfl Nm hb (aaK _ _ _ _ _ _ (Cm hb)) Jv
theorem Bk{uss:AF}(h:uss.length=4):dH uss∈Ba/\(dH uss).Perm (ce 4)/\(cX uss).Pairwise nY:=by
 match uss,h with
 |[u0,u1,u2,u3],_=>
  have hb:∀i j,i<4->j<4->Rb (HT.lexLt u0 u1) (HT.lexLt u0 u2) (HT.lexLt u0 u3) (HT.lexLt u1 u0) (HT.lexLt u1 u2) (HT.lexLt u1 u3) (HT.lexLt u2 u0) (HT.lexLt u2 u1) (HT.lexLt u2 u3) (HT.lexLt u3 u0) (HT.lexLt u3 u1) (HT.lexLt u3 u2) i j=HT.lexLt (([u0,u1,u2,u3]:AF).getD i []) (([u0,u1,u2,u3]:AF).getD j []):=λi j hi hj=>by
   match i,j,hi,hj with
   |0,0,_,_=>exact(kI u0).symm
   |0,1,_,_=>rfl
   |0,2,_,_=>rfl
   |0,3,_,_=>rfl
   |1,0,_,_=>rfl
   |1,1,_,_=>exact(kI u1).symm
   |1,2,_,_=>rfl
   |1,3,_,_=>rfl
   |2,0,_,_=>rfl
   |2,1,_,_=>rfl
   |2,2,_,_=>exact(kI u2).symm
   |2,3,_,_=>rfl
   |3,0,_,_=>rfl
   |3,1,_,_=>rfl
   |3,2,_,_=>rfl
   |3,3,_,_=>exact(kI u3).symm
  exact Uf rfl Ln hb (aaA _ _ _ _ _ _ _ _ _ _ _ _ (Cm hb)) Mw
theorem lA{uss:AF}(h:uss.length=3\/uss.length=4):(cX uss).Perm uss/\(cX uss).Pairwise nY:=by
 have key:∀n,uss.length=n->(dH uss).Perm (ce n)->(cX uss).Perm uss:=λn hn hp=>by
  have e:(ce n).map (λi=>uss.getD i [])=uss:=by
   refine g6 (by simp[hn]) λi h1 h2=>?_;have hi:i<uss.length:=h2;simp[cr,hi]
  have:=hp.map (λi=>uss.getD i []);rw[e]at this;exact this
 rcases h with h |h
 .obtain⟨_,hp,hs⟩:=Vj h
  exact⟨key 3 h hp,hs⟩
 .obtain⟨_,hp,hs⟩:=Bk h
  exact⟨key 4 h hp,hs⟩
theorem Zp{A B:AF}(hp:A.Perm B)(ha:A.Pairwise nY)(hb:B.Pairwise nY):A=B:=
 hp.eq_of_pairwise (λu v _ _ h g=>Qw g h) ha hb
theorem Up{A B:AF}(hp:A.Perm B)(h:B.length=3\/B.length=4):cX A=cX B:=by
 obtain⟨p1,s1⟩:=lA (uss:=A) (by rw[hp.length_eq];exact h);obtain⟨p2,s2⟩:=lA h;exact Zp (p1.trans (hp.trans p2.symm)) s1 s2
end
open PySem PySem.Spec PyProof.Rows Bn
section
variable{M:fk}{A:aq}{E:Value->aa->Prop}{s:aa}
end
section
variable{X:Cx}{sc:Scope}{own:List Str}{cap:List (Nat×Str)}{AR:List (Addr×Obj)}{σ:St}{H:Hp}{s:aa}{elt target iter:af}{pos pos':ah}{wi:TI}{g:TG}{te:TE}{Q:VK}
end
end L2
namespace L2.Pp
open PySem PySem.Spec PyProof.Rows Bn
section
variable{K:ae}{cl:Str->Addr}{E:XK}{X:Cx}{p q:Ph}{H H':Hp}{S:aN}
variable{sc:Scope}{own:List Str}{cap:List (Nat×Str)}{elt target iter:af}{pos:ah}{mi:MI}{g:GM}{me:ME}
end
section
variable{K:ae}{cl:Str->Addr}{E:XK}{X:Cx}{a e:af}{m:ME}{ms:MA}{pos:ah}{p q:Ph}{H H':Hp}{S:aN}
def Do(k:Nat)(ys:AQ)(S:aN):bO AV:=match(fY S ys).bind nN,S[k]? with
 |some (.lst vs),some (.lol xss)=>if xss.length<16777216 then .ok (.pv .non) (S.set k (.lol (xss++[vs])))else .fail
 |_,_=>.fail
def Qn(m:ME)(ms:MA):ME:=λρ S=>(m ρ S).bind λk S1=>eX k S1 λk=>(ms ρ S1).bind λys S2=>Do k ys S2
end
section
variable{P:Program}{w:ao}{K:ae}{mg:Str->AI}{base:Heap}{cl:Str->Addr}
end
def Ub(P:Program)(w:ao)(K:ae)(mg:Str->AI)(base:Heap)(cl:Str->Addr)(x:Str)(k:Nat)(ps:List Str)(g:FM):Prop:=∃(a:Addr)(d:bh),dJ P w K mg base fR k a d ps (kR K cl g)/\fO K d ps []/\de K (.ref a)=true/\mg x=some (.ref a)
section
variable{cl:Str->Addr}{E:XK}{X:Cx}{e:af}{es:List af}{ms:MA}{pos p:ah}{k k0:Nat}{ps:List Str}{g:FM}{x:Str}
theorem Z7(C:Ub X.prog X.w X.K X.mg X.base cl x k ps g)(hr:cU k0 X.A)(hk:k<=k0)(hg:Gl X x)(ha:dW X.K cl E X (e::es) ms)(hdb:(x==("__debug__":Str))=false:=by decide)(he:starEach (e::es) X.env=(false,eval e X.env)::starEach es X.env:=by rfl)(hpl:(backTo pos (starEach es X.env)).any (·.1)=false:=by rfl):
  aU X.K cl E X (.Call (.Name x p) (e::es) [] pos) (bA g [] ms):=by
 obtain⟨a,d,G,b,kk,n⟩:=C;exact Fx G (hr.mono hk) hg n kk b .nil Dv.nil ha hdb he hpl
theorem Z2(C:Ub X.prog X.w X.K X.mg X.base cl x k ps g)(hr:cU k0 X.A)(hk:k<=k0)(hg:Gl X x)(ha:dW X.K cl E X (e::es) ms)(hdb:(x==("__debug__":Str))=false:=by decide)(he:starEach (e::es) X.env=(false,eval e X.env)::starEach es X.env:=by rfl)(hpl:(backTo pos (starEach es X.env)).any (·.1)=false:=by rfl):
  aU X.K cl E X (.Call (.Name x p) (e::es) [] pos) (pF g [] ms):=by
 obtain⟨a,d,G,b,kk,n⟩:=C;exact Qx G (hr.mono hk) hg n kk b .nil Dv.nil ha hdb he hpl
end
section
variable{X:Cx}
end
section
variable{K:ae}{cl:Str->Addr}{E:XK}{X:Cx}{e:af}{m:ME}{pos:ah}
end
section
variable{K:ae}{cl:Str->Addr}{E:XK}{X:Cx}
variable{a e:af}{m:ME}{ms:MA}{pos:ah}
def kQ:PV->AN
 |.non=>some (.bl false)
 |_=>some (.bl true)
theorem E4{σ:St}{H:Hp}{Q:VK}(z:tP X.K cl E (cE X.K) (cD kQ m) σ H Q):Tm (tP X.K cl E (cE X.K) m) σ H Q:=by
 obtain⟨p,S,ρ,s,ev,h⟩:=z;refine bZ s ev h λq H' as x S' stp sm ev r k=>?_;refine tH (r:=λx H Q=>Q (.bl (!decide (x=.non))) H) (f:=kQ) (λ{p S H a c x Q} s ra e k=>?_) sm r k;have z:c=.bl (!decide (x=.non)):=by
  cases a with
  |non=>cases ra.non;cases e;rfl
  |int i=>cases ra.int;cases e;rfl
  |bl i=>cases ra.bl;cases e;rfl
  |str i=>cases ra.str;cases e;rfl
  |tup xs=>obtain⟨a,vs,rfl,_⟩:=ra.tup;cases e;rfl
  |lst xs=>obtain⟨a,vs,rfl,_⟩:=ra.lst;cases e;rfl
 subst z;exact k H _ (cK.refl H) (by unfold aY;rfl)
theorem M9{j pos'}(ha:aU K cl E X a m):eU K cl E X (.Compare a [.IsNot] [.Constant .none j pos'] pos) (aZ (cD kQ m)):=by
 intro hK;subst hK;refine(Q8 (Gz (ha rfl))).imp ?_
 rintro σ H Q ⟨p,S,ρ,s,e,h⟩
 have z:tP X.K cl E (cE X.K) (cD kQ m) σ H λx H'=>∃k,x=.bl k/\Q k H':=bZ s e h λq H1 a x S1 st s1 e1 r1 h1=>yR s1 r1 h1;exact E4 z
end
section
variable{K:ae}{cl:Str->Addr}{E:XK}{X:Cx}
end
section
variable{K:ae}{cl:Str->Addr}{E:XK}{X:Cx}
def nV(K:ae)(mg:Str->AI)(x:Str)(pv:PV):Prop:=∃(u:Value)(v:V),mg x=some u/\bY v u/\∀c H,aY K c H pv v
theorem Xi{x:Str}{pv:PV}{pos:ah}(hg:Gl X x)(hm:nV K X.mg x pv)(hd:(x==("__debug__":Str))=false:=by decide):aU K cl E X (.Name x pos) (mC pv):=λ_=>by
 obtain⟨u,v,hm,r,hr⟩:=hm;exact(uB hg hm r hd).imp λσ H Q ⟨p,S,ρ,s,e,h⟩=>cA.ret (R:=cE K) (x:=v) h s (hr p.c H)
theorem E9{i:Int}:∀c H,aY K c H (.int i) (.int i):=λc H=>by
 unfold aY;rfl
end
section
variable{K:ae}{cl:Str->Addr}{E:XK}{X:Cx}
end
section
variable{K:ae}{cl:Str->Addr}{E:XK}{X:Cx}
variable{a e:af}{m:ME}{ms:MA}{pos:ah}
end
section
variable{M:fk}{A:aq}{E:Value->aa->Prop}{s:aa}{env:az}
def yV(M:fk)(A:aq)(E:Value->aa->Prop)(Q:Value->aa->Prop)(acc:Value)(c:az):kn->aa->Prop
 |.ok _,s'=>∃m,s'.heap.Ns c.locals m/\∀h',fu c.locals s'.heap h'->Q acc {s' with heap:=h'}
 |.error x,s'=>∃m,s'.heap.Ns c.locals m/\∀h',fu c.locals s'.heap h'->wpAny M A (rq "comprehension.variables-let-go" x c:di Value) (λ_ _=>False) E {s' with heap:=h'}
theorem Ow{e:af}{sc:Scope}{pos:ah}{newAcc first:di Value}{g:se}{gs:List se}{cl:List (Str×Addr)}{Q:Value->aa->Prop}
  (hc:clausesOf e=g::gs)(hs:∀x,foldedSetIterable g.iter env x=pure x)(hcl:closureFor sc env=pure cl)(hk:sc.kind=.function)(hn:∀x∈sc.names,x.2=.local->sc.names.lookup x.1=some .local)
  (h:wpAny M A first (λx s1=>wpAny M A (pyIter x) (λit s2=>wpAny M A newAcc (λacc s3=>wpAny M A (newFunctionEnv sc env.globals cl [] env.qual none .none (some env)) (λc s4=>
    codeAny M A (.compStart e 0 it acc {c with scope:=relabel sc env}) (yV M A E Q acc {c with scope:=relabel sc env}) s4) E s3) E s2) E s1) E s):
  wpAny M A (comprehension e sc env pos newAcc false first none) Q E s:=by
 unfold comprehension;rw[hcl,hc];refine ag (bF h λx s1 h1=>ag (ju (ag (wu (hs x) (ag (dw (bF h1 λit s2 h2=>?_)))))));refine wpAny_standIf (ag (bF h2 λacc s3 h3=>ag (au (ag (bF h3 λc s4 h4=>?_)))));dsimp only;have loc:∀x∈(sc.names.filter λx=>(x.2== .local||x.2== .cell)&&x.1 !=(".0":Str)).reverse,x.2=.local->xk {c with scope:=relabel sc env} x.1=some .local:=λx hx hl=>
  g7 (hn x (qc.mp (g8.mp hx)).1 hl)
 refine dw (ag (oz (dw (wpAny_run (ko h4 λr s' hr=>?_)))));cases r with
 |ok f=>
  obtain⟨m,hm,hr⟩:=hr;exact ag (dw (sf (cenv:={c with scope:=relabel sc env}) hk _ s' m loc hm λh' _ _ sb=>au (hr h' sb)))
 |error x=>
  obtain⟨m,hm,hr⟩:=hr;exact ag (dw (sf (cenv:={c with scope:=relabel sc env}) hk _ s' m loc hm λh' _ _ sb=>cy (hr h' sb) (λ_ _ z=>z.elim) λ_ _ y=>y))
end
section
variable{prog:Program}{w:ao}{A:aq}{R:kn->aa->Prop}{s:aa}
theorem Zj{elt target iter:af}{sc:Scope}{pos:ah}{it acc:Value}{env:az}(I:Nat->aa->Prop)
  (turn:∀n s,I n s->wpAny (model prog w) A (pyNext it) (λr s1=>match r with
   |none=>R (.ok .next) s1
   |some v=>wpAny (model prog w) A (letOwnedTupleGo target it v) (λ_ s2=>wpAny (model prog w) A (assign target env v) (λ_ s3=>wpAny (model prog w) A (eval elt env)
     (λx s4=>wpAny (model prog w) A (call (.builtin "list.append") [acc,x]) (λ_ s5=>∃m,m<n/\I m s5) (λ_ _=>False) s4) (notedBy (model prog w) A env λx s'=>R (.error x) s') s3) (λ_ _=>False) s2) (λ_ _=>False) s1) (λ_ _=>False) s)
  (n:Nat)(h:I n s):codeAny (model prog w) A (.compLoop (.ListComp elt [⟨target,iter,[],0⟩] sc pos) 0 it acc env) R s:=by
 refine codeAny_loop rfl I (λn s hI=>?_) n h;show wpAny _ _ ((compTurn (.ListComp elt [⟨target,iter,[],0⟩] sc pos) 0 it acc env).onRaise (λx=>do noteFrame x env;theTreesLotGoes x)) _ _ s;refine wpAny_noted ?_;rw[compTurn_list1];refine ag (ju (ag ?_));refine cy (turn n s hI) (λr s1 h1=>?_) λ_ _ z=>z.elim;cases r with
 |none=>exact au h1
 |some v=>
  refine ag (cy h1 (λ_ s2 h2=>?_) λ_ _ z=>z.elim);refine ag (cy h2 (λ_ s3 h3=>?_) λ_ _ z=>z.elim);refine ag (ag (cy h3 (λx s4 h4=>?_) λ_ _ z=>z));refine ag (cy h4 (λ_ s5 h5=>?_) λ_ _ z=>z.elim);exact au (au ⟨rfl,h5⟩)
end
def jV(B:Heap)(C:Addr):Heap:={B with objs:=B.objs.setIfInBounds C ⟨.none,none,.freed,#[]⟩}
theorem Ae{B:Heap}{C:Addr}:(jV B C).get? C=none:=by
 unfold jV Heap.get?;dsimp only
 by_cases h:C<B.objs.size
 .rw[Array.getElem?_setIfInBounds_self_of_lt h]
 .rw[g9 (by rw[Array.size_setIfInBounds];exact yz h)]
theorem tG{B:Heap}{C b:Addr}(h:b≠C):(jV B C).get? b=B.get? b:=by
 unfold jV Heap.get?;dsimp only;rw[Array.getElem?_setIfInBounds_ne (ig h)]
theorem xG{B:Heap}{C b:Addr}(h:B.get? b=none):(jV B C).get? b=none:=by
 by_cases z:b=C
 .rw[z];exact Ae
 .rw[tG z];exact h
theorem Xq{B:Heap}{C b:Addr}{o:Obj}(h:(jV B C).get? b=some o):b≠C/\B.get? b=some o:=by
 by_cases z:b=C
 .rw[z,Ae]at h;cases h
 .rw[tG z]at h;exact⟨z,h⟩
theorem Su{B h h':Heap}{l:List az}{e L C:Addr}{cls a0:Value}(hC:∃o,B.get? C=some o)(hh:si B l e cls a0 L h)(sb:fu C h h'):si (jV B C) l e cls a0 L h':=by
 obtain⟨oC,hC⟩:=hC;have ne:∀{b},B.get? b=none->b≠C:=λ{b} hb z=>by
  rw[z,hC]at hb;cases hb
 obtain⟨k1,k2,k3,k4⟩:=hh;refine⟨λb o hb=>?_,xG k2,?_,?_⟩
 .obtain⟨z,hb⟩:=Xq hb
  rw[sb.2 b z];exact k1 b o hb
 .clear k4
  induction l with
  |nil=>trivial
  |cons env cY ih=>
   obtain⟨a,⟨L0,o,hf,hn,ho,hd⟩,hr⟩:=k3;exact⟨a,⟨L0,o,hf,xG hn,(sb.2 L0 (ne hn)).trans ho,hd⟩,ih hr⟩
 .obtain⟨oe,vs,T,oT,ts,he,hcls,hd,h1,hnT,hTe,hT,hdT,h3⟩:=k4
  exact⟨oe,vs,T,oT,ts,(sb.2 e (ne k2)).trans he,hcls,hd,h1,xG hnT,hTe,(sb.2 T (ne hnT)).trans hT,hdT,h3⟩
theorem Iu{e:Value}{c env:az}(h:c.frame=env.frame):noteFrame e c=noteFrame e env:=by
 unfold noteFrame PySem.frameOf;rw[h]
theorem Au{M:fk}{A:aq}{E:Value->aa->Prop}{s:aa}{α:Type}{Q:α->aa->Prop}{B:Heap}{l:List az}{e L:Addr}{cls a0:Value}{c:az}{what:String}(hf:c.frame=some L)(hh:si B l e cls a0 L s.heap)
  (h:∀h',si B l e cls a0 L h'->(∀b o,s.heap.get? b=some o->(∀vs,o.data≠.fields vs)->h'.get? b=some o)->E (.ref e) {s with heap:=h'}):wpAny M A (rq what (.ref e) c:di α) Q E s:=by
 obtain⟨k1,k2,k3,oe,vs,T,oT,ts,he,hcls,hd,h1,hnT,hTe,hT,hdT,h3⟩:=hh;have hsz3:3<ts.size:=(i3.mp h3).1;have other:∀b,b≠T->(s.heap.update T (Obj.mapFields (·.setIfInBounds 3 (rawInt L)))).get? b=s.heap.get? b:=λb hb=>vw _ _ (ig hb);have noRec:∀b o,s.heap.get? b=some o->(∀vs,o.data≠.fields vs)->b≠T:=λb o hb hnf q=>by
  rw[q,hT]at hb;injection hb with hb;subst hb;exact hnf ts hdT
 unfold rq;refine ag (dz he hd h1 ?_);rw[if_neg (show ¬((dk T==cg)=true) from by simp)];refine ag ?_;unfold setFlight;rw[hf];refine ag (dz he hd h1 ?_);rw[if_pos (show(dk T !=cg)=true from by simp)];refine qw hT hdT hsz3 (wpAny_throw (h _ ⟨λb o hbo=>(other b λq=>by rw[q,hnT]at hbo;cases hbo).trans (k1 b o hbo),k2,k3.of_keeps λb o hb hnf=>⟨o,(other b (noRec b o hb hnf)).trans hb,rfl⟩,?_⟩ λb o hb hnf=>(other b (noRec b o hb hnf)).trans hb));exact⟨oe,vs,T,_,_,(other e (ig hTe)).trans he,hcls,hd,h1,hnT,hTe,vt _ hT (zt (qx hdT _)),qx hdT _,by simp[hsz3]⟩
end L2.Pp
namespace L2
open PySem PySem.Spec PyProof.Rows Bn
section
variable{X:Cx}{AR:List (Addr×Obj)}{σ:St}{H H':Hp}{s s':aa}
theorem aH.flownC{B h5:Heap}{C:Addr}(I:aH X AR σ H s)(hC:eN X AR H C)(os:s'.os=s.os)(bare:gq s'.gens)(un:Un (cL X.stack) [] H H' s.heap s'.heap)(hok:eG X.prog X.w H' s'.heap)
  (cov:∀b o,s'.heap.get? b=some o->(∃u,H' b=some u)\/(∃o',s.heap.get? b=some o'/\b∉cL X.stack)->b≠C->B.get? b=some o)(fr:∀b∈cL X.stack,H' b=none)(hn:H' C=none)
  (st:B.StaysIn h5)(up:∀b o,b≠C->s'.heap.get? b=some o->(∀vs,o.data≠.fields vs)->∃sl,h5.get? b=some {o with slots:=sl}):aH X AR σ H' {s' with heap:=h5}:=by
 have one:∀{b},b∉[C]->b≠C:=λ{b} h z=>h (by rw[z];exact sj.mpr rfl);have frame:∀b∈cL X.stack,b≠C->∃o sl,s.heap.get? b=some o/\H b=none/\h5.get? b=some {o with slots:=sl}:=λb hb hx=>by
  obtain⟨_,o,ho,hd⟩:=I.stack.mem hb;have hn:=I.stkFree b hb;obtain⟨sl,g⟩:=un.slot b o ho hn hb (by intro z;cases z);obtain⟨sl',g'⟩:=up b _ hx g hd;exact⟨o,sl',ho,hn,g'⟩
 refine I.call' (s':={s' with heap:=h5}) (ch:=[C]) os ⟨λb o q n hb hx=>?_,λb o q n hb hx=>?_,λb o q n _=>un.free b o q n (by intro z;cases z),λb o q hx=>?_,un.tups,un.frzs,un.tbls⟩ (λb u q=>?_) bare λb z=>?_
 .exact st b o (cov b o (un.keep b o q n hb (by intro z;cases z)) (.inr ⟨o,q,hb⟩) (one hx))
 .obtain⟨o',sl,g1,_,g2⟩:=frame b hb (one hx)
  rw[q]at g1;cases g1;exact⟨sl,g2⟩
 .by_cases c:b∈cL X.stack
  .obtain⟨o',sl,_,_,g2⟩:=frame b c (one hx)
   exact⟨_,g2⟩
  .obtain⟨o',g⟩:=un.there b o q (by intro z;cases z)
   exact⟨o',st b o' (cov b o' g (.inr ⟨o,q,c⟩) (one hx))⟩
 .refine(hok b u q).stay (λc v hc g=>?_) (λ_ g=>g) λ_ _ g=>g
  have nc:∀{y},H' c=some y->c≠C:=λ{y} e z=>by
   rw[z,hn]at e;cases e
  rcases hc with z |z
  .have q':H' c=some u:=by rw[z];exact q
   exact st c v (cov c v g (.inl ⟨u,q'⟩) (nc q'))
  .exact st c v (cov c v g (.inl ⟨_,z⟩) (nc z))
 .have z:b=C:=sj.mp z
  subst z;obtain⟨_,f1,_,f3,f4,f5⟩:=hC;exact⟨f3,f1,f4,f5⟩
end
open L2.Pp
section
variable{P:Program}{w:ao}{K:ae}{mg:Str->AI}{base:Heap}{N:List Str}{qual:Str}{scope:Scope}{f:Addr}{cd:Value}{A:aq}{outer:List az}{AS:aa}{AT:Hp}{E:XK}
theorem Ym{AR:List (Addr×Obj)}{σ:St}{H2 H3:Hp}{s2 s3:aa}{sc:Scope}{Nb:List Str}{C:Addr}{fp:List Addr}{Qf:Value->aa->Prop}{acc:Value}
  (I2:aH (aT (aQ P w) P w K mg base N qual scope f cd A outer AS AT E) AR σ H2 s2)(f2:∀b∈fp,eN (aT (aQ P w) P w K mg base N qual scope f cd A outer AS AT E) AR H2 b)(un:Un (cL (aT (aQ P w) P w K mg base N qual scope f cd A outer AS AT E).stack) fp H2 H3 s2.heap s3.heap)(os3:s3.os=s2.os)
  (hF:∀H:Hp,H C=none->eN (aT (aQ P w) P w K mg base N qual scope f cd A outer AS AT E) AR H C)(hCf:C∉cL (aT (aQ P w) P w K mg base N qual scope f cd A outer AS AT E).stack)(hC0:∀o,AS.heap.get? C≠some o):
  iZ (aQ P w) ((cO (aT (aQ P w) P w K mg base N qual scope f cd A outer AS AT E) sc Nb C s3 H3 fp).wish (notedBy (model P w) (aT (aQ P w) P w K mg base N qual scope f cd A outer AS AT E).A (cO (aT (aQ P w) P w K mg base N qual scope f cd A outer AS AT E) sc Nb C s3 H3 fp).env λx s''=>yV (model P w) (aT (aQ P w) P w K mg base N qual scope f cd A outer AS AT E).A (aT (aQ P w) P w K mg base N qual scope f cd A outer AS AT E).xe Qf acc (cO (aT (aQ P w) P w K mg base N qual scope f cd A outer AS AT E) sc Nb C s3 H3 fp).env (.error x) s'')) E:=by
 intro pl σ' H s e s' I c;have J:=I.unwish;obtain⟨x,Cl,t,B,H',rfl,os,bare,un',hok,fl,cov,hE⟩:=c;have fr:∀b∈cL (aT (aQ P w) P w K mg base N qual scope f cd A outer AS AT E).stack,H' b=none:=λb hb=>by
  obtain⟨_,o,ho,hd⟩:=J.stack.mem hb;exact un'.free b o ho (J.stkFree b hb) (by intro z;cases z)
 have IX:=I2.uncmp f2 un os3 J;show wpAny _ _ (noteFrame (.ref x) _) _ _ s';rw[Iu (c:=(cO (aT (aQ P w) P w K mg base N qual scope f cd A outer AS AT E) sc Nb C s3 H3 fp).env) (env:=(aT (aQ P w) P w K mg base N qual scope f cd A outer AS AT E).env) rfl];refine wpAny_looks_onW IX.ok.frames rfl fl λh1 held up=>?_;have J5:=J.flown os bare un' hok cov fr held.1 up;obtain⟨m,hn,_⟩:=id J5.loc;refine⟨m,hn,λh2 sb=>?_⟩;obtain⟨mC,hnC,_⟩:=id J.loc;obtain⟨oC,_,_,hoC,_⟩:=hnC;obtain⟨oC',gC⟩:=un'.there C oC hoC (by intro z;cases z);have hCB:∃o,B.get? C=some o:=⟨oC',cov C oC' gC (.inr ⟨oC,hoC,hCf⟩)⟩;have held2:=Su hCB held sb;have hHC:H C=none:=J.free;have hnC':H' C=none:=un'.free C oC hoC hHC (by intro z;cases z);refine Au rfl held2 λh3 held3 keep=>?_;show wpAny _ _ (leaving _ (.ref x)) _ _ _;unfold leaving;refine ag (wpAny_noteFrame_againW rfl held3.2.2.2 ?_);refine wpAny_landsW held3 λh4 fl4 up4=>?_;have I4:=IX.flownC (s':=s') (B:=jV B C) (h5:=h4) (hF H hHC) os bare un' hok (λb o g d hb=>by rw[tG hb];exact cov b o g d) fr hnC' fl4.1 (λb o hb g hnf=>by
  obtain⟨sl,g1⟩:=up b o g hnf;have g2:=(sb.2 b hb).trans g1;have g3:=keep b _ g2 hnf;obtain⟨sl',g4⟩:=up4 b _ g3 hnf;exact⟨sl',g4⟩)
 have nL:∀{b o},AS.heap.get? b=some o->b∉cL outer->b∉cL (envOfC qual scope AS.heap.objs.size f cd::outer):=λ{b o} q z y=>by
  rcases cu.mp (IX.stkSub b y)with g |g
  .exact absurd (br (ax q) IX.ok.above) (by rw[g];exact fj _)
  .exact z g
 obtain⟨k1,k2,⟨_,_,k3⟩,k4⟩:=fl4;refine⟨x,Cl,t,jV B C,H',rfl,os.trans IX.os,bare,I4.base,I4.hok,⟨k1,k2,k3,k4⟩,λb o q z=>?_,hE⟩;have go:∀{o2},B.get? b=some o2->b≠C->(jV B C).get? b=some o:=λ{o2} g hb=>by
  have g':(jV B C).get? b=some o2:=by rw[tG hb];exact g
  have:=k1 b o2 g';have q':h4.get? b=some o:=q;rw[q']at this;cases this;exact g'
 rcases z with⟨u,z⟩|⟨o',z,nz⟩
 .obtain⟨o2,g⟩:=(hok b u z).has
  exact go (cov b o2 g (.inl ⟨u,z⟩)) λy=>by rw[y,hnC']at z;cases z
 .obtain⟨o2,g⟩:=IX.base.there b o' z (by intro z;cases z)
  obtain⟨o3,g3⟩:=un'.there b o2 g (by intro z;cases z);exact go (cov b o3 g3 (.inr ⟨o2,g,nL z nz⟩)) λy=>hC0 o' (by rw[<-y];exact z)
end
section
variable{P:Program}{w:ao}{K:ae}{mg:Str->AI}{base:Heap}{N:List Str}{qual:Str}{scope:Scope}{f:Addr}{cd:Value}{A:aq}{outer:List az}{AS:aa}{AT:Hp}{E:XK}
variable{sc:Scope}{own:List Str}{cap:List (Nat×Str)}{AR:List (Addr×Obj)}{σ:St}{H:Hp}{s:aa}{elt target iter:af}{pos pos':ah}{wi:TI}{g:TG}{te:TE}{Q:VK}
theorem Gs{Qf:Value->aa->Prop}(k:gG (aT (aQ P w) P w K mg base N qual scope f cd A outer AS AT E) sc own cap)(hi:PI (aT (aQ P w) P w K mg base N qual scope f cd A outer AS AT E) target iter wi)(hc:(aT (aQ P w) P w K mg base N qual scope f cd A outer AS AT E).calm=true)
  (hg:∀C AU H₁ ex,PG (cO (aT (aQ P w) P w K mg base N qual scope f cd A outer AS AT E) sc (cP own cap) C AU H₁ ex) target g)(he:∀C AU H₁ ex E',iZ (aQ P w) ((cO (aT (aQ P w) P w K mg base N qual scope f cd A outer AS AT E) sc (cP own cap) C AU H₁ ex).wish E') E->PE ((cO (aT (aQ P w) P w K mg base N qual scope f cd A outer AS AT E) sc (cP own cap) C AU H₁ ex).wish E') elt te)(I:aH (aT (aQ P w) P w K mg base N qual scope f cd A outer AS AT E) AR σ H s)(h:nO own cap wi g te σ H Q)
  (fin:∀D C s' H' m,aH (aT (aQ P w) P w K mg base N qual scope f cd A outer AS AT E) AR σ H' s'->eN (aT (aQ P w) P w K mg base N qual scope f cd A outer AS AT E) AR H' C->s'.heap.Ns C m->Q (.ref D) H'->∃m,s'.heap.Ns C m/\∀h',fu C s'.heap h'->Qf (.ref D) {s' with heap:=h'})
  (hs:∀x,foldedSetIterable iter (aT (aQ P w) P w K mg base N qual scope f cd A outer AS AT E).env x=pure x):
  wpAny (model (aT (aQ P w) P w K mg base N qual scope f cd A outer AS AT E).prog (aT (aQ P w) P w K mg base N qual scope f cd A outer AS AT E).w) (aT (aQ P w) P w K mg base N qual scope f cd A outer AS AT E).A (comprehension (.ListComp elt [⟨target,iter,[],0⟩] sc pos) sc (aT (aQ P w) P w K mg base N qual scope f cd A outer AS AT E).env pos' (newList []) false (eval iter (aT (aQ P w) P w K mg base N qual scope f cd A outer AS AT E).env) none) Qf (aT (aQ P w) P w K mg base N qual scope f cd A outer AS AT E).xe s:=by
 refine Ow rfl hs (zG (k.has I.ok)) k.kind k.names ?_;refine bF (hi AR s σ H _ I h) λv s1 h1=>bF h1 λitv s2 h2=>?_;obtain⟨it,fp,tn,J,H2,e,I2,T,st2,f2,hW⟩:=h2;subst e;refine ja (wr k.nocell (λy hy=>nomatch hy) (λh4 hns hsb=>?_) k.kind);have I3:aH (aT (aQ P w) P w K mg base N qual scope f cd A outer AS AT E) AR σ (bE H2 s2.heap.objs.size (.lst [])) {s2 with heap:=s2.heap.push {cls:=.type "list",data:=.seq ([]:AH).toArray},toks:=s2.toks}:=I2.lnew (ys:=[]) (its:=[]) .nil (ia _);have hD:H2 s2.heap.objs.size=none:=I2.fresh;have ltf:∀b∈fp,b<s2.heap.objs.size:=λb hb=>by
  obtain⟨o,ho,_⟩:=T.obj _ _ st2 b hb;exact ax ho
 have f3:∀b∈fp,eN (aT (aQ P w) P w K mg base N qual scope f cd A outer AS AT E) AR (bE H2 s2.heap.objs.size (.lst [])) b:=λb hb=>⟨by rw[cQ (ck (ltf b hb))];exact(f2 b hb).1,(f2 b hb).2⟩;have un:Un (cL (aT (aQ P w) P w K mg base N qual scope f cd A outer AS AT E).stack) fp H2 (bE H2 s2.heap.objs.size (.lst [])) s2.heap (s2.heap.push {cls:=.type "list",data:=.seq ([]:AH).toArray}):=Un.laid (λb u q=>aw _ q) (am _) hD;have kp:∀b o,(s2.heap.push {cls:=.type "list",data:=.seq ([]:AH).toArray}).get? b=some o->h4.get? b=some o:=λb o q=>hsb.extBut b o (ck (ax q)) (aw _ q);have J0:=I3.cmp (t':=s2.toks+([]:List (Str×Value)).length) k f3 (λb hb=>br (ltf b hb) (by rw[jz];exact oo _)) hns kp;have stat:∀{H':Hp},(∀b∈fp,H' b=none)->∀b∈fp,eN (cO (aT (aQ P w) P w K mg base N qual scope f cd A outer AS AT E) sc (cP own cap) (s2.heap.push {cls:=.type "list",data:=.seq ([]:AH).toArray}).objs.size {s2 with heap:=s2.heap.push {cls:=.type "list",data:=.seq ([]:AH).toArray},toks:=s2.toks} (bE H2 s2.heap.objs.size (.lst [])) fp) [] H' b:=λhn b hb=>
  ⟨hn b hb,(J0.ok.exf b hb).1,J0.ok.exfs b hb,.inl hb,(J0.ok.exf b hb).2,λp hp=>absurd (show p∈([]:List (Addr×Obj)) from hp) (by simp)⟩
 have st4:tn 0 h4:=T.keep _ _ _ st2 λb hb o q=>kp b o (aw _ q);have fr0:∀b∈fp,(bE H2 s2.heap.objs.size (.lst [])) b=none:=λb hb=>(f3 b hb).1;have hCf:(s2.heap.push {cls:=.type "list",data:=.seq ([]:AH).toArray}).objs.size∉cL (aT (aQ P w) P w K mg base N qual scope f cd A outer AS AT E).stack:=λhb=>by
  obtain⟨_,o,ho,hd⟩:=I3.stack.mem hb;exact fj _ (ax ho)
 have hC0:∀o,AS.heap.get? (s2.heap.push {cls:=.type "list",data:=.seq ([]:AH).toArray}).objs.size≠some o:=λo ho=>by
  obtain⟨m,⟨oL,_,_,hoL,_⟩,_⟩:=id I3.loc;exact fj _ (wp (br (ax ho) I3.ok.above) (ax hoL))
 have loop:codeAny (model (aT (aQ P w) P w K mg base N qual scope f cd A outer AS AT E).prog (aT (aQ P w) P w K mg base N qual scope f cd A outer AS AT E).w) (aT (aQ P w) P w K mg base N qual scope f cd A outer AS AT E).A (.compLoop (.ListComp elt [⟨target,iter,[],0⟩] sc pos) 0 (.ref it) (.ref s2.heap.objs.size) (compEnvC sc (iA (aT (aQ P w) P w K mg base N qual scope f cd A outer AS AT E).env sc.names []) (s2.heap.push {cls:=.type "list",data:=.seq ([]:AH).toArray}).objs.size (aT (aQ P w) P w K mg base N qual scope f cd A outer AS AT E).env))
   (yV (model (aT (aQ P w) P w K mg base N qual scope f cd A outer AS AT E).prog (aT (aQ P w) P w K mg base N qual scope f cd A outer AS AT E).w) (aT (aQ P w) P w K mg base N qual scope f cd A outer AS AT E).A (aT (aQ P w) P w K mg base N qual scope f cd A outer AS AT E).xe Qf (.ref s2.heap.objs.size) (compEnvC sc (iA (aT (aQ P w) P w K mg base N qual scope f cd A outer AS AT E).env sc.names []) (s2.heap.push {cls:=.type "list",data:=.seq ([]:AH).toArray}).objs.size (aT (aQ P w) P w K mg base N qual scope f cd A outer AS AT E).env)) {s2 with heap:=h4,toks:=s2.toks+([]:List (Str×Value)).length}:=by
  obtain⟨W,⟨m0,w0⟩,turn⟩:=hW s2.heap.objs.size hD;refine Zj (λn s'=>∃i σ' H' ys,aH (cO (aT (aQ P w) P w K mg base N qual scope f cd A outer AS AT E) sc (cP own cap) (s2.heap.push {cls:=.type "list",data:=.seq ([]:AH).toArray}).objs.size {s2 with heap:=s2.heap.push {cls:=.type "list",data:=.seq ([]:AH).toArray},toks:=s2.toks} (bE H2 s2.heap.objs.size (.lst [])) fp) [] σ' H' s'/\tn i s'.heap/\(∀b∈fp,H' b=none)/\W i n σ' H' ys) ?_ m0
   ⟨0,_,_,[],J0,st4,fr0,w0⟩
  rintro n s5 ⟨i,σ5,H5,ys,I5,st5,fr5,w5⟩
  obtain⟨hD5,w5⟩:=turn i n σ5 H5 ys w5;rcases w5 with⟨stop,qn⟩|⟨go,hlt,step⟩
  .refine bF (T.done (cO (aT (aQ P w) P w K mg base N qual scope f cd A outer AS AT E) sc (cP own cap) (s2.heap.push {cls:=.type "list",data:=.seq ([]:AH).toArray}).objs.size {s2 with heap:=s2.heap.push {cls:=.type "list",data:=.seq ([]:AH).toArray},toks:=s2.toks} (bE H2 s2.heap.objs.size (.lst [])) fp) rfl rfl rfl hc i [] s5 σ5 H5 _ I5 (stat fr5) st5 stop) ?_
   rintro r s6 ⟨hr,I6⟩
   subst hr;obtain⟨m,hn,_⟩:=id I6.loc;exact fin _ _ s6 H5 m (I2.uncmp (s3:={s2 with heap:=s2.heap.push {cls:=.type "list",data:=.seq ([]:AH).toArray},toks:=s2.toks}) f2 un rfl I6) (I3.fpOk (am _) I6.free) hn qn
  .refine bF (T.item (cO (aT (aQ P w) P w K mg base N qual scope f cd A outer AS AT E) sc (cP own cap) (s2.heap.push {cls:=.type "list",data:=.seq ([]:AH).toArray}).objs.size {s2 with heap:=s2.heap.push {cls:=.type "list",data:=.seq ([]:AH).toArray},toks:=s2.toks} (bE H2 s2.heap.objs.size (.lst [])) fp) rfl rfl rfl hc i [] s5 σ5 H5 _ I5 (stat fr5) st5 go) ?_
   rintro r s6 ⟨u,hr,h6⟩
   subst hr;refine bF h6 ?_
   rintro _ s7 ⟨x,H7,I7,r7,y7,st7,fr7⟩
   have I7':=I7.pinned (stat fr7) (T.obj _ _ st7);refine bF (hg _ _ _ _ _ s7 σ5 H7 x u _ I7' r7 (step x H7 y7)) ?_
   rintro _ s8 ⟨σ8,H8,I8,q8⟩
   refine bF (he _ _ _ _ _ (Ym (s3:={s2 with heap:=s2.heap.push {cls:=.type "list",data:=.seq ([]:AH).toArray},toks:=s2.toks}) I2 f2 un rfl (λH hH=>I3.fpOk (am _) hH) hCf hC0) _ s8 σ8 H8 _ (I8.wish _) q8) ?_
   rintro v9 s9 ⟨y,H9,I9,r9,hD9,m',hm,w9⟩
   have I9:=I9.unwish;refine bF (tJ _ s9 σ8 H9 (.ref s2.heap.objs.size) [y] (.ref s2.heap.objs.size) [v9] (λ_ H'=>H'=bE H9 s2.heap.objs.size (.lst (ys++[y]))) I9 rfl (.cons r9 .nil) ⟨_,ys,y,rfl,rfl,hD9,hlt,rfl⟩) ?_
   rintro _ s10 ⟨_,H10,I10,_,q10⟩
   subst q10;refine⟨m',hm,i+1,σ8,_,_,I10.unpinned,T.keep _ _ _ st7 λb hb o q=>(I10.pin (b,o) (cq _ (cq _ (mD hb q)))).1,λb hb=>?_,w9⟩;obtain⟨o,q,d⟩:=T.obj _ _ st7 b hb;exact(I10.pin (b,o) (cq _ (cq _ (mD hb q)))).2.1
 exact wt loop (T.self _ 0 _ _ _ st4 loop)
end
end L2
namespace L2.Pp
open PySem PySem.Spec PyProof.Rows Bn
open Classical in
noncomputable def eL(G:Gd)(g:GM)(me:ME):AM->bS->aN->bO AM
 |[],_,S=>if gL G S then .ok [] S else .fail
 |x::r,ρ,S=>if gL G S then(match g x ρ with
  |none=>.fail
  |some ρ1=>match me ρ1 S with
   |.ok (.pv y) S1=>match eL G g me r ρ1 S1 with
    |.ok ys S2=>.ok (y::ys) S2
    |.exc n S2=>.exc n S2
    |.fail=>.fail
   |.ok (.ref _) _=>.fail
   |.exc n S1=>.exc n S1
   |.fail=>.fail)else .fail
section
variable{K:ae}{cl:Str->Addr}{E:XK}{X:Cx}{p q:Ph}{H H':Hp}{S:aN}
def uZ(K:ae)(cl:Str->Addr)(E:XK)(p:Ph)(H:Hp)(D:Addr)(Q:VK)(us:AM):bO AM->Prop
 |.ok ws S2=>∀q H' vs,bV p H q H'->bD K q S2 H'->bD K (q.hold D) S2 H'->q.w D->D∉q.f->H' D=some (.lst vs)->vs.length<=sizeLine->aV K q.c H' (us++ws) vs->Q (.ref D) H'
 |.exc n S2=>∀q H',bV p H q H'->bD K q S2 H'->E (.ref (cl n)) none H'
 |.fail=>False
theorem Eg{G:Gd}{g:GM}{me:ME}{xs us:AM}{ρ:bS}{D:Addr}{Q:VK}(h:uZ K cl E p H D Q us (eL G g me xs ρ S)):gL G S:=by
 cases xs with
 |nil=>
  unfold eL at h;split at h
  .assumption
  .exact h.elim
 |cons x r=>
  unfold eL at h;split at h
  .assumption
  .exact h.elim
variable{sc:Scope}{own:List Str}{cap:List (Nat×Str)}{elt target iter:af}{pos:ah}{mi:MI}{g:GM}{me:ME}
theorem Vr{σ:St}{ρ:bS}{xs:AM}{G:Gd}{J:It}{Q:VK}{D:Addr}(sm:bD K p S H)(ev:cR K p H ρ σ)(it:eK K p H (xs,G) J)(hD:H D=none)(kk:uZ K cl E p H D Q [] (eL G g me xs (bT own cap ρ) S)):
  qB J (gP K g) (tP K cl E (cE K) me) (jW own cap σ) H D Q:=by
 obtain⟨st0,sm0⟩:=sm.res (D:=D) (o:=.lst []) hD trivial;have sh0:=sm.resHold (D:=D) (o:=.lst []) hD trivial;have nf0:D∉p.f:=λh=>sm.notin hD (sm.wc D (sm.sub D h));refine Wj xs.length it.1 (λi σ1 H1 ys=>ys.length=i/\i<=xs.length/\H1 D=some (.lst ys)/\∃p1 S1 ρ1 us,(bD K p1 S1 H1/\bD K (p1.hold D) S1 H1)/\bV p H p1 H1/\p1.w D/\D∉p1.f/\cR K p1 H1 ρ1 σ1/\eK K p1 H1 (xs,G) J/\gL G S1/\aV K p1.c H1 us ys/\uZ K cl E p H D Q us (eL G g me (xs.drop i) ρ1 S1)) ?_ ?_ ?_ ?_ ?_
 .refine⟨rfl,ia _,iL,p.res D,S,bT own cap ρ,[],⟨sm0,sh0⟩,st0,.inr rfl,nf0,Ch (st0.repE ev),it.step st0,?_,.nil,by simpa using kk⟩
  exact Eg kk
 .rintro i σ1 H1 ys ⟨h1,_,h2,_⟩
  exact⟨h1,h2⟩
 .rintro i σ1 H1 ys hi ⟨_,_,_,p1,S1,ρ1,us,⟨sm1,sh1⟩,st1,w1,f1,ev1,it1,g1,_⟩
  exact((it1.2 p1 H1 S1 sm1.step sm1 g1).1 i xs[i] (bf hi)).1
 .rintro i σ1 H1 ys x H2 hi ⟨hl,_,hH,p1,S1,ρ1,us,⟨sm1,sh1⟩,st1,w1,f1,ev1,it1,g1,r1,c1⟩ hy
  obtain⟨same,rx⟩:=((it1.2 p1 H1 S1 sm1.step sm1 g1).1 i xs[i] (bf hi)).2 x H2 hy;rw[wz hi]at c1;unfold eL at c1;rw[if_pos g1]at c1;cases gz:g xs[i] ρ1 with
  |none=>rw[gz]at c1;exact c1.elim
  |some ρ2=>
   rw[gz]at c1;dsimp only at c1;have st2:=sm1.same same;have sm2:=sm1.ofSame same;have smh:=sh1.ofSame same;have stS:bV p H p1 H2:=st1.trans st2;refine⟨p1,S1,ρ1,xs[i],ρ2,sm2,st2.repE ev1,rx,gz,λσ3 ev3=>⟨p1.hold D,S1,ρ2,smh,⟨ev3.len,ev3.at_⟩,?_⟩⟩;cases mz:me ρ2 S1 with
   |fail=>rw[mz]at c1;exact c1.elim
   |exc n S3=>
    rw[mz]at c1;intro q H4 st4 sm4;have hD2:H2 D=some (.lst ys):=same _ _ hH;have hD4:H4 D=some (.lst ys):=st4.keep D _ hD2 λz=>z.2 rfl;have fq:D∉q.f:=λh=>by
     have:=st4.nf D h f1;rw[hD2]at this;cases this
    have stU:=bV.unhold w1 st4 sm2;have nq:¬q.w D:=λz=>by
     have:=st4.nw D z λy=>y.2 rfl;rw[hD2]at this;cases this
    have smU:bD K ⟨q.f,λa=>q.w a\/a=D,q.c⟩ S3 H4:=⟨sm4.nd,sm4.len,λa h=>.inl (sm4.sub a h),λa h=>h.elim (sm4.wc a) λz=>z▸st4.mono D (sm2.wc D w1),sm4.mu,λk a o e1 e2=>
     (sm4.obj k a o e1 e2).mono (λ_ e=>e) (λb w f=>⟨⟨.inl w,f⟩,λ_ e=>e⟩) λ_ _ r=>r⟩
    have shU:bD K (Ph.hold ⟨q.f,λa=>q.w a\/a=D,q.c⟩ D) S3 H4:=⟨sm4.nd,sm4.len,λa h=>⟨.inl (sm4.sub a h),λz=>nq (z▸sm4.sub a h)⟩,λa h=>smU.wc a h.1,sm4.mu,λk a o e1 e2=>
     (sm4.obj k a o e1 e2).mono (λ_ e=>e) (λb w f=>⟨⟨⟨.inl w,λz=>nq (z▸w)⟩,f⟩,λ_ e=>e⟩) λ_ _ r=>r⟩
    exact c1 _ H4 ((stS.trans stU).toLess hD) shU.toLess
   |ok av S3=>
    cases av with
    |ref k=>rw[mz]at c1;exact c1.elim
    |pv y=>
     rw[mz]at c1;dsimp only at c1;intro q H4 y' st4 sm4 ry;have hD2:H2 D=some (.lst ys):=same _ _ hH;have hD4:H4 D=some (.lst ys):=st4.keep D _ hD2 λz=>z.2 rfl;have fq:D∉q.f:=λh=>by
      have:=st4.nf D h f1;rw[hD2]at this;cases this
     have stU:=bV.unhold w1 st4 sm2;have nq:¬q.w D:=λz=>by
      have:=st4.nw D z λy=>y.2 rfl;rw[hD2]at this;cases this
     have smU:bD K ⟨q.f,λa=>q.w a\/a=D,q.c⟩ S3 H4:=⟨sm4.nd,sm4.len,λa h=>.inl (sm4.sub a h),λa h=>h.elim (sm4.wc a) λz=>z▸st4.mono D (sm2.wc D w1),sm4.mu,λk a o e1 e2=>
      (sm4.obj k a o e1 e2).mono (λ_ e=>e) (λb w f=>⟨⟨.inl w,f⟩,λ_ e=>e⟩) λ_ _ r=>r⟩
     have shU:bD K (Ph.hold ⟨q.f,λa=>q.w a\/a=D,q.c⟩ D) S3 H4:=⟨sm4.nd,sm4.len,λa h=>⟨.inl (sm4.sub a h),λz=>nq (z▸sm4.sub a h)⟩,λa h=>smU.wc a h.1,sm4.mu,λk a o e1 e2=>
      (sm4.obj k a o e1 e2).mono (λ_ e=>e) (λb w f=>⟨⟨⟨.inl w,λz=>nq (z▸w)⟩,f⟩,λ_ e=>e⟩) λ_ _ r=>r⟩
     have c2:uZ K cl E p H D Q (us++[y]) (eL G g me (xs.drop (i+1)) ρ2 S3):=by
      cases cz:eL G g me (xs.drop (i+1)) ρ2 S3 with
      |fail=>rw[cz]at c1;exact c1.elim
      |exc n S4=>rw[cz]at c1;exact c1
      |ok ws S4=>
       rw[cz]at c1;intro q H' vs z1 z2 z3 z4 z5 z6 z7 r;rw[kw]at r;exact c1 q H' vs z1 z2 z3 z4 z5 z6 z7 r
     obtain⟨stG,smG,shG⟩:=smU.grow (ys:=ys) (D:=D) (o:=.lst (ys++[y'])) shU (.inr rfl) fq trivial;have stA:=st2.trans (stU.trans stG);refine En hi hD4 ⟨by rw[bn,hl];rfl,hi,iL,_,S3,ρ2,us++[y],⟨smG,shG⟩,st1.trans stA,.inr rfl,fq,stG.repE (stU.repE ev3),it1.step stA,Eg c2,?_,c2⟩;exact(stA.reps r1).append (.cons (stG.rep ry) .nil)
 .rintro σ1 H1 ys ⟨hl,_,hH,p1,S1,ρ1,us,⟨sm1,sh1⟩,st1,w1,f1,ev1,it1,g1,r1,c1⟩
  rw[xa]at c1;unfold eL at c1;rw[if_pos g1]at c1;refine⟨(it1.2 p1 H1 _ sm1.step sm1 g1).2,?_⟩;exact c1 p1 H1 ys st1 sm1 sh1 w1 f1 hH (by rw[hl];exact it.1) (by rw[vk];exact r1)
theorem He{σ:St}{ρ:bS}{xs:AM×Gd}{J:It}{Q:VK}{D:Addr}(sm:bD K p S H)(ev:cR K p H ρ σ)(it:eK K p H xs J)(k:cA K cl (cE K) p H ((eL xs.2 g me xs.1 (bT own cap ρ) S).bind λys S2=>.ok (.pv (.lst ys)) S2) Q E)(hD:H D=none):
  qB J (gP K g) (tP K cl E (cE K) me) (jW own cap σ) H D Q:=by
 refine Vr sm ev it hD ?_;cases z:eL xs.2 g me xs.1 (bT own cap ρ) S with
 |fail=>rw[z]at k;exact k.elim
 |exc n S'=>rw[z]at k;exact k
 |ok zs S2=>
  rw[z]at k;have k:∀q H' x,bV p H q H'->bD K q S2 H'->aY K q.c H' (.lst zs) x->Q x H':=k;intro q H' vs st1 sm1 sh1 w1 f1 hH l1 r1;rw[nv]at r1;refine k (q.less D) H' (.ref D) (st1.toLess hD) sh1.toLess ?_;unfold aY;exact⟨D,vs,rfl,.inl ⟨hH,λz=>z.2 rfl⟩,l1,qN (λa h=>h.1) r1⟩
end
noncomputable def fD(own:List Str)(cap:List (Nat×Str))(mi:MI)(g:GM)(me:ME):ME:=λρ S=>(mi ρ S).bind λxs S1=>(eL xs.2 g me xs.1 (bT own cap ρ) S1).bind λys S2=>.ok (.pv (.lst ys)) S2
section
variable{P:Program}{w:ao}{K:ae}{mg:Str->AI}{base:Heap}{N:List Str}{qual:Str}{scope:Scope}{f:Addr}{cd:Value}{A:aq}{outer:List az}{AS:aa}{AT:Hp}{E:XK}{cl:Str->Addr}
variable{sc:Scope}{own:List Str}{cap:List (Nat×Str)}{elt target iter:af}{pos:ah}{mi:MI}{g:GM}{me:ME}{wi:TI}{tg:TG}{te:TE}
theorem Dy(k:gG (aT (aQ P w) P w K mg base N qual scope f cd A outer AS AT E) sc own cap)(hi:PI (aT (aQ P w) P w K mg base N qual scope f cd A outer AS AT E) target iter wi)(hc:(aT (aQ P w) P w K mg base N qual scope f cd A outer AS AT E).calm=true)
  (hg:∀C AU H₁ ex,PG (cO (aT (aQ P w) P w K mg base N qual scope f cd A outer AS AT E) sc (cP own cap) C AU H₁ ex) target tg)(he:∀C AU H₁ ex E',iZ (aQ P w) ((cO (aT (aQ P w) P w K mg base N qual scope f cd A outer AS AT E) sc (cP own cap) C AU H₁ ex).wish E') E->PE ((cO (aT (aQ P w) P w K mg base N qual scope f cd A outer AS AT E) sc (cP own cap) C AU H₁ ex).wish E') elt te)
  (hs:∀x,foldedSetIterable iter (aT (aQ P w) P w K mg base N qual scope f cd A outer AS AT E).env x=pure x:=by intro _;rfl):PE (aT (aQ P w) P w K mg base N qual scope f cd A outer AS AT E) (.ListComp elt [⟨target,iter,[],0⟩] sc pos) (nO own cap wi tg te):=by
 intro AR s σ H Q I h;rw[eval_ListComp];refine Gs k hi hc hg he I h (λD C s' H' m I' fC hn q=>?_) hs;refine⟨m,hn,λh' sb=>⟨.ref D,H',?_,rfl,q⟩⟩;obtain⟨f0,f1,f2,f3,f4,f5⟩:=fC;exact I'.turned (t':=s'.toks) (λb o hb e=>(sb.2 b hb).trans e) f0 f1 f3 f4 f5
theorem Xw(k:gG (aT (aQ P w) P w K mg base N qual scope f cd A outer AS AT E) sc own cap)(hi:gY K cl E (aT (aQ P w) P w K mg base N qual scope f cd A outer AS AT E) target iter mi)(hc:(aT (aQ P w) P w K mg base N qual scope f cd A outer AS AT E).calm=true)(hg:∀C AU H₁ ex,kD K (cO (aT (aQ P w) P w K mg base N qual scope f cd A outer AS AT E) sc (cP own cap) C AU H₁ ex) target g)(he:∀C AU H₁ ex E',iZ (aQ P w) ((cO (aT (aQ P w) P w K mg base N qual scope f cd A outer AS AT E) sc (cP own cap) C AU H₁ ex).wish E') E->aU K cl E ((cO (aT (aQ P w) P w K mg base N qual scope f cd A outer AS AT E) sc (cP own cap) C AU H₁ ex).wish E') elt me)
  (hs:∀x,foldedSetIterable iter (aT (aQ P w) P w K mg base N qual scope f cd A outer AS AT E).env x=pure x:=by intro _;rfl):aU K cl E (aT (aQ P w) P w K mg base N qual scope f cd A outer AS AT E) (.ListComp elt [⟨target,iter,[],0⟩] sc pos) (fD own cap mi g me):=by
 intro hK;refine PE.imp (Dy k (hi hK) hc (λC AU H₁ ex=>hg C AU H₁ ex hK) (λC AU H₁ ex E' ps=>he C AU H₁ ex E' ps hK) hs) ?_
 rintro σ H Q ⟨p,S,ρ,s,ev,h⟩
 exact bZ s ev h λq H' xs J S' stp sm ev it kk D hD=>He sm ev it kk hD
end
section
variable{K:ae}{cl:Str->Addr}{E:XK}{X:Cx}{e:af}{es:List af}{ms:MA}{pos p:ah}{k n:Nat}{f:Addr}{fd:bh}{ps:List Str}{g:FM}{x:Str}{dvs:List V}{ds:AH}{dv:AM}
theorem Jw(hp:iZ (aQ X.prog X.w) X E)(F:dJ X.prog X.w X.K X.mg X.base (aQ X.prog X.w) k f fd ps (jF K cl g))(hr:cU k X.A)(hg:Gl X x)(hm:X.mg x=some (.ref f))(hk:de X.K (.ref f)=true)(hb:fO X.K fd ps ds)(hd:bH dvs ds)(hv:Dv dv dvs)
  (ha:dW K cl E X (e::es) ms)(hdb:(x==("__debug__":Str))=false:=by decide)(he:starEach (e::es) X.env=(false,eval e X.env)::starEach es X.env:=by rfl)(hpl:(backTo pos (starEach es X.env)).any (·.1)=false:=by rfl):
  aU K cl E X (.Call (.Name x p) (e::es) [] pos) (cJ g dv ms):=by
 intro hK;refine PE.imp (rE F hr hg hm hk hb hd hp (ha hK) hdb he hpl) ?_
 rintro σ H Q ⟨p,S,ρ,s,ev,h⟩
 exact bZ s ev h λq H' as xs S' stp sm ev r k=>⟨q,S',_,sm,oJ r (hv K q H'),qY sm k⟩
end
section
variable{K:ae}{cl:Str->Addr}{E:XK}{X:Cx}
end
section
variable{K:ae}{cl:Str->Addr}{E:XK}{X:Cx}{a b e:af}{m:ME}{ms:MA}{pos:ah}
theorem P5:bootBuiltins "str"=some (.type "str"):=by decide+kernel
theorem lQ{c:Addr->Prop}{H:Hp}(x:Str):aY K c H (.str x) (.str x):=by
 unfold aY;rfl
def iB:PV->PV->AN
 |.str x,.str y=>if x.length+y.length<=16777216 then some (.str (x++y))else none
 |_,_=>none
theorem O5:eF K (λx y H Q=>∃i j,x=.str i/\y=.str j/\i.length+j.length<=sizeLine/\Q (.str (i++j)) H) iB:=λ{p S H a b c x y Q} s ra rb e k=>by
 unfold iB at e;split at e
 .split at e
  .rename_i h
   cases e;rw[<-fN]at h;exact⟨_,_,ra.str,rb.str,h,k H _ (cK.refl H) (lQ _)⟩
  .cases e
 .cases e
def Mo(y x:Str):Bool:=!(oh y x 0 y.length 1).isEmpty
def jZ:PV->PV->AN
 |.str x,.str y=>some (.bl (Mo y x))
 |_,_=>none
theorem aad:eF K (λx y H Q=>∃i j,x=.str i/\y=.str j/\Q (.bl (!(oh j i 0 j.length 1).isEmpty)) H) jZ:=λ{p S H a b c x y Q} s ra rb e k=>by
 unfold jZ at e;split at e
 .cases e
  exact⟨_,_,ra.str,rb.str,k H _ (cK.refl H) (gS (v:=.bl _) rfl)⟩
 .cases e
def fE:AM->AN
 |[.str x]=>if x.length<=16777216 then some (.int x.length)else none
 |_=>none
theorem L4:jE K (λxs H Q=>∃z,xs=[.str z]/\z.length<=sizeLine/\Q (.int z.length) H) fE:=λ{p S H as c xs Q} s ra e k=>by
 unfold fE at e;split at e
 .rename_i x
  split at e
  .rename_i h
   cases e;rw[<-fN]at h;cases ra with
   |cons h1 t=>
    cases t;exact⟨x,by rw[h1.str],h,k H _ (cK.refl H) (gS (v:=.int _) rfl)⟩
  .cases e
 .cases e
def nT:AM->AN
 |[.int i]=>if i.natAbs.log2<1920 then some (.str (toString i))else none
 |_=>none
theorem W2:jE K (λxs H Q=>∃i,xs=[.int i]/\i.natAbs.log2<1920/\Q (.str (toString i)) H) nT:=λ{p S H as c xs Q} s ra e k=>by
 unfold nT at e;split at e
 .rename_i x
  split at e
  .rename_i h
   cases e;cases ra with
   |cons h1 t=>
    cases t;exact⟨x,by rw[h1.int],h,k H _ (cK.refl H) (lQ _)⟩
  .cases e
 .cases e
theorem Tp:gW X (.type "int") (λxs H Q=>∃x n,xs=[.str x]/\pf x=some n/\x.length<=640/\Q (.int n) H):=by
 intro AR s σ H xs us Q I r h;obtain⟨x,n,rfl,hn,hl,q⟩:=h;obtain⟨u,rfl,t,rfl⟩:=iT r;exact PySem.W.KIN.call_text hn hl ⟨.int n,H,I.tok _,⟨_,rfl⟩,q⟩
def iR:AM->AN
 |[.str x]=>if x.length<=640 then(pf x).map .int else none
 |_=>none
theorem Q3:jE K (λxs H Q=>∃x n,xs=[.str x]/\pf x=some n/\x.length<=640/\Q (.int n) H) iR:=λ{p S H as c xs Q} s ra e k=>by
 unfold iR at e;split at e
 .rename_i x
  split at e
  .rename_i h
   cases z:pf x with
   |none=>rw[z]at e;cases e
   |some n=>
    rw[z]at e;cases e;cases ra with
    |cons h1 t=>
     cases t;exact⟨x,n,by rw[h1.str],z,h,k H _ (cK.refl H) (gS (v:=.int _) rfl)⟩
  .cases e
 .cases e
theorem Bs{h:Heap}{sl:Addr}{vl vu:Value}{lo hi:AK}(hs:h.IsSliceOf sl vl vu .none)(pl:jd vl lo)(pu:jd vu hi):∃l u:Option (Int×dq),h.IsSlice sl l u none/\l.map (·.1)=lo/\u.map (·.1)=hi:=by
 obtain⟨o,e,c,d⟩:=hs;cases pl with
 |none=>
  cases pu with
  |none=>exact⟨none,none,⟨o,e,c,d⟩,rfl,rfl⟩
  |int j u=>exact⟨none,some (j,u),⟨o,e,c,d⟩,rfl,rfl⟩
 |int i t=>
  cases pu with
  |none=>exact⟨some (i,t),none,⟨o,e,c,d⟩,rfl,rfl⟩
  |int j u=>exact⟨some (i,t),some (j,u),⟨o,e,c,d⟩,rfl,rfl⟩
theorem J2:lU X (λx lo hi H Q=>∃z,x=.str z/\z.length<=sizeLine/\Q (.str (iw z lo hi)) H):=by
 intro AR s σ H x v vl vu lo hi sl Q I rx hs pl pu h;obtain⟨z,rfl,hz,q⟩:=h;obtain⟨t,rfl⟩:=rx;obtain⟨l,u,hs,rfl,rfl⟩:=Bs hs pl pu;refine⟨"str",_,PySem.F.slot_str_getitem.lookup,my _ _ _,?_⟩;exact wpAny_getItem_str_slice hs rfl (post_val_or_str ⟨dn (Txt.slice_le z _ _) hz,λt' k=>⟨.str _,H,I.tok _,⟨_,rfl⟩,q⟩⟩)
def jK(v:PV)(lo hi:AK):AN:=match v with
 |.str x=>if x.length<=16777216 then some (.str (iw x lo hi))else none
 |_=>none
def dM(m:ME)(ml mh:MO):ME:=λρ S=>(m ρ S).bind λv S1=>(ml ρ S1).bind λlo S2=>(mh ρ S2).bind λhi S3=>fG ((rd S3 v).bind λx=>jK x lo hi) S3
theorem K8{lo hi:Option af}{ml mh:MO}{p2:ah}(he:aU K cl E X e m)(hl:mY K cl E X lo ml)(hu:mY K cl E X hi mh):aU K cl E X (.Subscript e (.Slice lo hi none p2) pos) (dM m ml mh):=by
 intro hK;subst hK;refine(Ci J2 (he rfl) (hl rfl) (hu rfl)).imp ?_
 rintro σ H Q ⟨p,S,ρ,s,e,h⟩
 refine bZ s e h λq H1 a x S1 st s1 e1 r1 h1=>bZ s1 e1 h1 λq2 H2 lo lo' S2 st2 s2 e2 r2 h2=>bZ s2 e2 h2 λq3 H3 hi hi' S3 st3 s3 e3 r3 h3=>?_;cases r2;cases r3;have ra:=st3.repA (st2.repA r1);obtain⟨c,ec,k⟩:=mJ s3 h3;cases z:rd S3 a with
 |none=>rw[z]at ec;cases ec
 |some v=>
  rw[z]at ec;have rv:=pE s3 ra z;cases v with
  |str w=>
   have ec:(if w.length<=16777216 then some (PV.str (iw w lo hi))else none)=some c:=ec;split at ec
   .rename_i hw
    cases ec;rw[<-fN]at hw;exact⟨w,rv.str,hw,k _ _ (cK.refl _) (lQ _)⟩
   .cases ec
  |_=>cases ec
def wP(X:Cx)(id:String)(f:Str->AM->AN):Prop:=
 ∀(AR:List (Addr×Obj))(s:aa)(σ:St)(H:Hp)(x:Str)(t:dq)(as:AM)(xs:List V)(us:AH)(c:PV)(Q:VK),aH X AR σ H s->bH xs us->(∃p:Ph,aV X.K p.c H as xs)->f x as=some c->
  (∀H' z,cK H H'->(∀(p:Ph) S,bD X.K p S H->aV X.K p.c H as xs->aY X.K p.c H' c z)->Q z H')->wpAny (model X.prog X.w) X.A (call (.builtin id) (.str x t::us)) (EP X AR σ Q) X.xe s
def cH{α:Type}(k:AV)(f:Str->bO α):bO α:=match k with
 |.pv (.str x)=>f x
 |_=>.fail
def cC(f:Str->AM->AN)(m:ME)(ms:MA):ME:=λρ S=>(m ρ S).bind λk S1=>cH k λx=>(ms ρ S1).bind λys S2=>fG ((jY ys).bind (f x)) S2
theorem Ea{name:Str}{id:String}{f:Str->AM->AN}{es:List af}{apos cpos:ah}(slot:Slot "str" name id)(hty:typeOf (.builtin id)=pure (.type "method_descriptor"))(hm:wP X id f)(ho:aU K cl E X a m)(ha:dW K cl E X (e::es) ms)(hbase:attributeBase a name X.env (eval a X.env)=eval a X.env:=by rfl)
  (hfew:((backTo cpos (starEach (e::es) X.env)).all (λx=>!x.1)&&(backToKw cpos (keywordEach [] X.env)).all (λx=>x.1.isSome)
   &&decide ((e::es).length+([]:List ik).length+(if([]:List ik).isEmpty then 0 else 1)<30))=true:=by rfl)
  (hline:(apos.endLine==cpos.line)=true:=by rfl)(hs:starEach (e::es) X.env=(false,eval e X.env)::starEach es X.env:=by rfl)(hplain:(backTo cpos (starEach es X.env)).any (·.1)=false:=by rfl):
  aU K cl E X (.Call (.Attribute a name apos) (e::es) [] cpos) (cC f m ms):=by
 intro hK;subst hK;refine PE.imp (vK (r:=λx xs H Q=>∃(z:Str)(as:AM)(c:PV),x=.str z/\(∃p:Ph,aV X.K p.c H as xs)/\f z as=some c/\∀H' y,cK H H'->(∀(p:Ph) S,bD X.K p S H->aV X.K p.c H as xs->aY X.K p.c H' c y)->Q y H') i4 slot hty (λAR s σ H x xs v us Q I rx rs h=>?_) (ho rfl) (ha rfl) hbase hfew hline hs hplain) λσ H Q ⟨p,S,ρ,s,ev,h⟩=>?_
 .obtain⟨z,as,c,rfl,hp,hf,k⟩:=h
  obtain⟨t,rfl⟩:=rx;exact hm AR s σ H z t as xs us c Q I rs hp hf k
 .refine bZ s ev h λq H1 k x S1 st s1 e1 r1 h1=>?_
  unfold cH at h1;split at h1
  .rename_i z
   have ex:=(show eD X.K q H1 (.str z) x from .inl r1).str;subst ex;refine⟨rfl,bZ s1 e1 h1 λq2 H2 ys xs S2 st2 s2 e2 r2 h2=>?_⟩;obtain⟨c,ec,k⟩:=mJ s2 h2;cases y:jY ys with
   |none=>rw[y]at ec;cases ec
   |some as=>
    rw[y]at ec;have rr:=sX y r2;exact⟨z,as,c,rfl,⟨q2,rr⟩,ec,λH' w sm hr=>k H' w sm (hr q2 S2 s2 rr)⟩
  .exact h1.elim
theorem Ki{c:PV}{H H':Hp}{as:AM}{xs:List V}(h:pI c=true):∀(p:Ph) S,bD K p S H->aV K p.c H as xs->aY K p.c H' c (nZ c):=λp S _ _=>gS h
theorem zD{c:Addr->Prop}{H:Hp}{y:Str}{xs:List V}(r:aV K c H [.str y] xs):xs=[.str y]:=by
 unfold aV at r;obtain⟨v,r1,rfl,h,t⟩:=r;unfold aV at t;subst t;unfold aY at h;rw[h]
def jS(x:Str):AM->AN
 |[.str y]=>some (.bl (sk x y))
 |_=>none
theorem Bt:wP X "str.startswith" jS:=by
 intro AR s σ H x t as xs us c Q I rs ⟨p,rp⟩ hf k;unfold jS at hf;split at hf
 .rename_i y
  cases hf;rw[zD rp]at rs;obtain⟨u,rfl,t',rfl⟩:=iT rs;exact SC.startswith ⟨.bl _,H,I,rfl,k H _ (cK.refl H) (Ki (c:=.bl _) rfl)⟩
 .cases hf
def mS(x:Str):AM->AN
 |[.str y]=>some (.int (ph x y))
 |_=>none
theorem Qy:wP X "str.find" mS:=by
 intro AR s σ H x t as xs us c Q I rs ⟨p,rp⟩ hf k;unfold mS at hf;split at hf
 .rename_i y
  cases hf;rw[zD rp]at rs;obtain⟨u,rfl,t',rfl⟩:=iT rs;exact SC.find ⟨.int _,H,I.tok _,⟨_,rfl⟩,k H _ (cK.refl H) (Ki (c:=.int _) rfl)⟩
 .cases hf
theorem Hg:∀l:List (Str×dq),bH (l.map λp=>V.str p.1) (strValues l)
 |[]=>.nil
 |p::l=>.cons ⟨p.2,rfl⟩ (Hg l)
theorem Pg{c:Addr->Prop}{H:Hp}:∀l:List Str,aV K c H (l.map PV.str) (l.map V.str)
 |[]=>.nil
 |x::l=>.cons (lQ x) (Pg l)
def fI(x:Str):AM->AN
 |[.str y]=>if y.length≠0/\x.length+2<=16777216 then some (.lst ((dh x y).map .str))else none
 |_=>none
theorem Rt(x y:Str):(dh x y).length<=x.length+2:=by
 unfold dh;split
 .simp
 .split
  .simp
  .have e1:=i5 x y 0 x.length (x.length+1)
   rw[i6];omega
theorem Rw:wP X "str.split" fI:=by
 intro AR s σ H x t as xs us c Q I rs ⟨p,rp⟩ hf k;unfold fI at hf;split at hf
 .rename_i y
  split at hf
  .rename_i hp
   cases hf;rw[zD rp]at rs;obtain⟨u,rfl,t',rfl⟩:=iT rs;have hl:=Rt x y;have hz:((dh x y).map V.str).length<=sizeLine:=by rw[ar,fN];omega
   have hn:(Builtin.Str.partsBetween x (oh x y 0 x.length (x.length+1)) y.length).length<=sizeLine:=by
    have e1:=i5 x y 0 x.length (x.length+1);rw[i6,fN];omega
   have fin:∀(l:List (Str×dq))(n:Nat)(h':Heap)(tk:Nat),l.map (·.1)=dh x y->h'=s.heap.push {cls:=.type "list",data:=.seq (strValues l).toArray}->EP X AR σ Q (.ref s.heap.objs.size) {s with heap:=h',toks:=tk}:=λl n h' tk el eh=>by
    have ev:(dh x y).map V.str=l.map λp=>V.str p.1:=by rw[<-el,du];rfl
    subst eh;refine⟨.ref s.heap.objs.size,_,I.laid (o:=.lst ((dh x y).map V.str)) (λb ob q=>aw _ q) (am _) ⟨hz,_,0,by rw[ev];exact Hg l,dl _ rfl⟩,rfl,?_⟩;have hnone:=I.hok.fresh (am s.heap.objs.size);refine k _ _ (fH hnone) λp S sm _=>?_;exact mI sm (Pg _) hz hnone
   cases h1:(decide (x.length<y.length)||decide (i7 x<i7 y))
   .cases hf:(oh x y 0 x.length (x.length+1)).isEmpty
    .refine kx sr (my _ _ _) xm (xn _ _) (meets_str_split_sep x y t t' h1 (by simpa using hp.1) hf (by rw[fN];omega) hn) ?_
     rw[strsFrom_eq];exact fin (numbered s.toks _) 0 _ _ ((numbered_texts _ _).trans ((if_neg (ne_true_of_eq_false h1)).trans (if_neg (ne_true_of_eq_false hf))).symm) rfl
    .exact kx sr (my _ _ _) xm (xn _ _) (meets_str_split_not_found x y t t' h1 (by simpa using hp.1) hf)
      (fin [(x,t)] 0 _ s.toks ((if_neg (ne_true_of_eq_false h1)).trans (if_pos hf)).symm rfl)
   .exact kx sr (my _ _ _) xm (xn _ _) (meets_str_split_cannot_occur x y t t' h1)
     (fin [(x,t)] 0 _ s.toks (if_pos h1).symm rfl)
  .cases hf
 .cases hf
end
end L2.Pp
namespace L2
open PySem PySem.Spec PyProof.Rows Bn
def Ac(x:Str):It:=⟨λi _=>i<x.cps.size,λi H v H'=>H'=H/\∃c,x.cps[i]?=some c/\v=.str ⟨#[c]⟩,λi _=>x.cps.size<=i⟩
theorem Fv{P:Program}{w:ao}{K:ae}{tg:af}(x:Str)(t:dq)(it:Addr):nU P w K tg (Ac x) [it] it (λi h=>h.IsStrIter it "str_ascii_iterator" x t i) where
 mem:=by simp
 obj:=λi h st b hb=>by
  have e:b=it:=by simpa using hb
  subst e;obtain⟨o,e,c,d⟩:=st;exact⟨o,e,λv z=>by rw[d]at z;cases z⟩
 keep:=λi h h' st k=>by
  obtain⟨o,e,c,d⟩:=st;exact⟨o,k it (by simp) o e,c,d⟩
 item:=by
  intro X hP hw hK hc i AR s σ H E I hf st hg;subst hP hw hK;have hg:i<x.cps.size:=hg;obtain⟨f0,f1,f2,f3,f4,f5⟩:=hf it (by simp);have hx:x.cps[i]?=some x.cps[i]:=Array.getElem?_eq_getElem hg;refine wpAny_pyNext_ascii_item st hx λh' st' sb=>?_;have I1:aH X AR σ H {s with heap:=h',toks:=s.toks+1}:=I.turned (λb o hb e=>(sb.2 b hb).trans e) f0 f1 f3 f4 f5;obtain⟨o,e,c,d⟩:=id st';exact⟨_,rfl,uX (s:={s with heap:=h',toks:=s.toks+1}) e c d (by decide) ⟨.str ⟨#[x.cps[i]]⟩,H,I1,⟨_,rfl⟩,⟨rfl,_,hx,rfl⟩,st',λb hb=>(hf b hb).1⟩⟩
 done:=by
  intro X hP hw hK hc i AR s σ H E I hf st hg;subst hP hw hK;have hg:x.cps.size<=i:=hg;obtain⟨f0,f1,f2,f3,f4,f5⟩:=hf it (by simp);exact wpAny_pyNext_ascii_end (I.ok.hd hc) st (g9 hg) λh' eb=>⟨rfl,I.turned (t':=s.toks) (λb o hb e=>eb b o hb e) f0 f1 f3 f4 f5⟩
 self:=λ_ _ _ _ _ st h=>wpAny_pyIter_striter_ascii st h
def kS(X:Cx)(e:af)(te:XK->TE):Prop:=
 ∀(AR:List (Addr×Obj))(s:aa)(σ:St)(H:Hp)(Q:VK)(E:XK)(Ex:Value->aa->Prop),aH X AR σ H s->te E σ H Q->
  (∀s1 H1 e' s',aH X AR σ H1 s1->aQ X.prog X.w X.stack H1 s1 E e' s'->Ex e' s')->wpAny (model X.prog X.w) X.A (eval e X.env) (EP X AR σ Q) Ex s
section
variable{X:Cx}{k:Nat}{f:Addr}{fd:bh}{ps:List Str}{sp:Sp}{dvs:List V}{ds:AH}{x:Str}{p pos pos1 pos2 pos3 pc:ah}{e a:af}{es:List af}{t:TA}{ta:TE}{te:XK->TE}{c n:Str}{C:Addr}{i:Nat}{AY:Stmt}{body:List Stmt}{newId:String}
theorem Ev(hxe:X.xe=λ_ _=>False)(F:dJ X.prog X.w X.K X.mg X.base (aQ X.prog X.w) k f fd ps sp)(hr:cU k X.A)(hg:Gl X x)(hm:X.mg x=some (.ref f))(hkp:de X.K (.ref f)=true)
  (hb:fO X.K fd ps ds)(hd:bH dvs ds)(ha:PA X (e::es) t)
  (hdb:(x==("__debug__":Str))=false:=by decide)(he:starEach (e::es) X.env=(false,eval e X.env)::starEach es X.env:=by rfl)(hpl:(backTo pos (starEach es X.env)).any (·.1)=false:=by rfl):
  kS X (.Call (.Name x p) (e::es) [] pos) (λE σ H Q=>t σ H λvs H1=>sp (vs++dvs) H1 Q E):=
 λAR s σ H Q E Ex I h hx=>Rx hxe F hr hg hm hkp hb hd ha I h hx hdb he hpl
theorem Wv{x1}(hxe:X.xe=λ_ _=>False)(ha:PE X a ta)(he:kS X e te)
  (hs:starEach [a,e] X.env=[(false,eval a X.env),(false,eval e X.env)]:=by rfl):
  kS X (.Tuple [a,e] x1 pos) (λE σ H Q=>ta σ H λu H1=>te E σ H1 λv H2=>∀t,H2 t=none->Q (.ref t) (bE H2 t (.tup [u,v]))):=by
 intro AR s σ H Q E Ex I h hx;refine yl ?_;rw[hs];show wpAny _ _ (spliced ((false,eval a X.env)::[(false,eval e X.env)])) _ _ s;refine vj (cy (ha AR s σ H _ I h) (λu s1 hq=>?_) λ_ _ z=>by rw[hxe]at z;exact z.elim);rcases hq with⟨x,H1,I1,r1,q1⟩;refine vj (cy (he AR s1 σ H1 _ E Ex I1 q1 hx) (λv s2 hq=>?_) λ_ _ z=>z);rcases hq with⟨y,H2,I2,r2,q2⟩;refine yk ⟨by show 2<=sizeLine;decide,?_⟩;have hf:H2 s2.heap.objs.size=none:=I2.hok.fresh (am _);refine⟨.ref s2.heap.objs.size,bE H2 s2.heap.objs.size (.tup [x,y]),I2.laid (t':=s2.toks) (λb u e=>aw _ e) (am _) ?_,rfl,q2 _ hf⟩;exact⟨by show 2<=sizeLine;decide,[u,v],.cons r1 (.cons r2 .nil),⟨_,dl _ rfl,rfl,_,rfl⟩⟩
end
end L2
namespace L2.Pp
open PySem PySem.Spec PyProof.Rows Bn
section
variable{K:ae}{cl:Str->Addr}{E:XK}{X:Cx}{a b c e:af}{m mc:ME}{ms:MA}{pos:ah}{tg:af}{ma mb:ME}
def kC(x:Str):AM:=x.cps.toList.map λc=>.str ⟨#[c]⟩
def rQ:AV->aN->bO (AM×Gd)
 |.pv (.str x),S=>if x.cps.all (· <128)=true/\x.length<=16777216 then .ok (kC x,[]) S else .fail
 |_,_=>.fail
def lM(m:ME):MI:=λρ S=>(m ρ S).bind rQ
theorem R5{p:Ph}{H:Hp}{x:Str}(hz:x.length<=16777216):eK K p H (kC x,[]) (Ac x):=by
 have hl:(kC x).length=x.cps.size:=by unfold kC;rw[ar,oa]
 refine⟨by show(kC x).length<=sizeLine;rw[hl,fN];exact hz,λq H1 S1 st _ _=>⟨λi v e=>?_,?_⟩⟩
 .have e:(kC x)[i]?=some v:=e
  unfold kC at e;rw[dy]at e;cases z:x.cps.toList[i]? with
  |none=>rw[z]at e;cases e
  |some d=>
   rw[z]at e;cases e;have z:x.cps[i]?=some d:=by simpa using z
   refine⟨(i3.mp z).1,λy H2 hy=>?_⟩;obtain⟨rfl,d',e1,rfl⟩:=hy;rw[z]at e1;cases e1;exact⟨cK.refl _,lQ _⟩
 .show x.cps.size<=(kC x).length
  rw[hl];exact am _
theorem F6(h:aU K cl E X e m):gY K cl E X tg e (lM m):=by
 intro hK;subst hK;intro AR s σ H R I hh;obtain⟨p,S,ρ,sm,ev,hh⟩:=hh;have z:=h rfl AR s σ H (λx H1=>∃y,x=.str y/\y.cps.all (· <128)=true/\R (Ac y) H1) I (bZ sm ev hh λq H' v x S' stp sm ev r k=>by
  unfold rQ at k;split at k
  .rename_i y
   split at k
   .rename_i hy
    exact⟨y,(show eD X.K q H' (.str y) x from .inl r).str,hy.1,cA.ret (R:=eK X.K) k sm (R5 hy.2)⟩
   .exact k.elim
  .exact k.elim)
 refine bF z ?_
 rintro v s1 ⟨x,H1,I1,r1,y,e,ha,q⟩
 subst e;obtain⟨t,rfl⟩:=r1;refine wpAny_pyIter_ascii ha ?_;refine⟨s1.heap.objs.size,[s1.heap.objs.size],_,_,H1,rfl,I1.kept (t':=s1.toks) λb o e=>aw _ e,Fv y t _,⟨_,dl _ rfl,rfl,rfl⟩,λb hb=>?_,q⟩;have e:b=s1.heap.objs.size:=by simpa using hb
 subst e;exact I1.fpOk (am _) (I1.hok.fresh (am _))
def jJ(f f':PV->PV->AN)(ma mb mc:ME):ME:=λρ S=>(ma ρ S).bind λx S1=>(mb ρ S1).bind λy S2=>(fJ f x y S2).bind λz S3=>match z with
 |.pv (.bl true)=>(mc ρ S3).bind λw S4=>fJ f' y w S4
 |.pv (.bl false)=>.ok (.pv (.bl false)) S3
 |_=>.fail
theorem qX{op op':iz}{r r':R2}{f f':PV->PV->AN}(ho:dE X (compareOp op) r)(hf:eF X.K r f)(ho':dE X (compareOp op') r')(hf':eF X.K r' f')(ha:aU K cl E X a ma)(hb:aU K cl E X b mb)(hc:aU K cl E X c mc)
  (hm:lastMarks [op,op'] [b,c]=false:=by with_unfolding_all rfl):aU K cl E X (.Compare a [op,op'] [b,c] pos) (jJ f f' ma mb mc):=by
 intro hK;subst hK;refine PE.imp (Hv ho ho' (ha rfl) (hb rfl) (hc rfl) hm) ?_
 rintro σ H Q ⟨p,S,ρ,s,e,h⟩
 refine bZ s e h λq H1 x x' S1 st s1 e1 r1 h1=>bZ s1 e1 h1 λq2 H2 y y' S2 st2 s2 e2 r2 h2=>?_;cases z:fJ f x y S2 with
 |fail=>rw[z]at h2;exact h2.elim
 |exc n S3=>
  exfalso;unfold fJ at z;cases w:((rd S2 x).bind λx=>(rd S2 y).bind λy=>f x y)with
  |none=>rw[w]at z;cases z
  |some u=>rw[w]at z;cases z
 |ok u S3=>
  rw[z]at h2;simp only[bO.bind]at h2;have eS:S3=S2:=by
   unfold fJ at z;cases w:((rd S2 x).bind λx=>(rd S2 y).bind λy=>f x y)with
   |none=>rw[w]at z;cases z
   |some u=>rw[w]at z;cases z;rfl
  subst eS;refine nE (cl:=cl) (E:=E) hf s2 (st2.repA r1) r2 ?_;rw[z];intro q3 H3 w st3 s3 r3;have e3:=st3.repE e2;have ry:=st3.repA r2;split at h2
  .have:w=.bl true:=rP r3 rfl
   subst this;refine⟨true,rfl,if_pos rfl▸ ?_⟩;refine⟨q3,S3,ρ,s3,e3,?_⟩;have h2:cA X.K cl (cE X.K) q2 H2 ((mc ρ S3).bind λw S4=>fJ f' y w S4) Q E:=h2;cases zc:mc ρ S3 with
   |fail=>rw[zc]at h2;exact h2.elim
   |exc n S4=>
    rw[zc]at h2;intro q4 H4 st4 s4;exact h2 q4 H4 (st3.trans st4) s4
   |ok v S4=>
    rw[zc]at h2;intro q4 H4 v' st4 s4 r4;refine nE (cl:=cl) (E:=E) hf' s4 (st4.repA ry) r4 ?_;exact cA.mono h2 (st3.trans st4)
  .have:w=.bl false:=rP r3 rfl
   subst this;refine⟨false,rfl,?_⟩;show Q (.bl false) H3;exact h2 q3 H3 _ st3 s3 (by show aY X.K q3.c H3 _ _;unfold aY;rfl)
  .exact h2.elim
theorem Fi{x:Str}:∀c H,aY K c H (.str x) (.str x):=λc H=>lQ x
end
section
variable{K:ae}{cl:Str->Addr}{E:XK}{X:Cx}{e a:af}{es:List af}{ms:MA}{ma me:ME}{p q:Ph}{H H':Hp}{S:aN}
variable{k:Nat}{f:Addr}{fd:bh}{ps:List Str}{g:FM}{dvs:List V}{ds:AH}{dv:AM}{x:Str}{pp pos pos1 pos2 pos3 pc:ah}{c n:Str}{i nn:Nat}{AY:Stmt}{body:List Stmt}{newId:String}{up:bS->bS}
variable(K cl X)
def wR(e:af)(m:ME):Prop:=X.K=K->kS X e λE=>tP K cl E (cE K) m
variable{K cl X}
def pH(f:FM)(ds:AM)(ms:MA):ME:=λρ S=>(pL (ms ρ S)).bind λxs S1=>frz S1.length (f (xs++ds.map .pv) S1)
def pO(ma me:ME):ME:=λρ S=>(pL (ma ρ S)).bind λu S1=>(me ρ S1).bind λv S2=>pR gJ [u,v] S2
theorem kS.imp{te te':XK->TE}(h:kS X e te)(i:∀E σ H Q,te' E σ H Q->te E σ H Q):kS X e te':=λAR s σ H Q E Ex I q hx=>h AR s σ H Q E Ex I (i E σ H Q q) hx
theorem Uy(hxe:X.xe=λ_ _=>False)(F:dJ X.prog X.w X.K X.mg X.base (aQ X.prog X.w) k f fd ps (jF K cl g))(hr:cU k X.A)(hg:Gl X x)(hm:X.mg x=some (.ref f))(hkp:de X.K (.ref f)=true)
  (hb:fO X.K fd ps ds)(hd:bH dvs ds)(hv:Dv dv dvs)(ha:dW K cl E0 X (e::es) ms)
  (hdb:(x==("__debug__":Str))=false:=by decide)(he:starEach (e::es) X.env=(false,eval e X.env)::starEach es X.env:=by rfl)(hpl:(backTo pos (starEach es X.env)).any (·.1)=false:=by rfl):
  wR K cl X (.Call (.Name x pp) (e::es) [] pos) (pH g dv ms):=by
 intro hK;refine kS.imp (Ev hxe F hr hg hm hkp hb hd (ha hK) hdb he hpl) ?_
 rintro E σ H Q ⟨p,S,ρ,s,ev,h⟩
 refine⟨p,S,ρ,s,ev,?_⟩;unfold pH at h;cases z:ms ρ S with
 |ok xs S1=>
  rw[z]at h;intro q H1 vs st sm r;exact⟨q,S1,xs++dv.map .pv,sm,oJ r (hv K q H1),qY sm (cA.mono h st)⟩
 |exc m S1=>rw[z]at h;exact h.elim
 |fail=>rw[z]at h;exact h.elim
theorem Nz{x1}(hxe:X.xe=λ_ _=>False)(ha:aU K cl E0 X a ma)(he:wR K cl X e me)
  (hs:starEach [a,e] X.env=[(false,eval a X.env),(false,eval e X.env)]:=by rfl):wR K cl X (.Tuple [a,e] x1 pos) (pO ma me):=by
 intro hK;refine kS.imp (Wv hxe (ha hK) (he hK) hs) ?_
 rintro E σ H Q ⟨p,S,ρ,s,ev,h⟩
 refine⟨p,S,ρ,s,ev,?_⟩;unfold pO at h;cases z:ma ρ S with
 |exc m S1=>rw[z]at h;exact h.elim
 |fail=>rw[z]at h;exact h.elim
 |ok u S1=>
  rw[z]at h;have h:cA K cl (cE K) p H ((me ρ S1).bind λv S2=>pR gJ [u,v] S2) Q E:=h;intro q H1 u' st sm r;refine⟨q,S1,ρ,sm,st.repE ev,?_⟩;cases z2:me ρ S1 with
  |fail=>rw[z2]at h;exact h.elim
  |exc n S2=>
   rw[z2]at h;intro q2 H2 st2 sm2;exact h q2 H2 (st.trans st2) sm2
  |ok v S2=>
   rw[z2]at h;have h:cA K cl (cE K) p H (pR gJ [u,v] S2) Q E:=h;intro q2 H2 v' st2 sm2 r2 t ht;have h:=cA.mono h (st.trans st2);refine yH (r:=λxs H Q=>xs.length<=sizeLine/\∀t,H t=none->Q (.ref t) (bE H t (.tup xs))) (f:=gJ) (λ{p S H as c xs Q} s r e k=>?_) sm2 (.cons (st2.repA r) (.cons r2 .nil)) h |>.2 t ht;unfold gJ at e;split at e
   .rename_i hl
    cases e;rw[r.length,<-fN]at hl;exact⟨hl,λt ht=>k _ _ (fH ht) (mH s r hl ht)⟩
   .cases e
theorem Gf{c:Addr->Prop}:∀{vs:AM},(∀v∈vs,pI v=true)->aV K c H vs (vs.map nZ)
 |[],_=>.nil
 |v::vs,h=>.cons (gS (h v bc)) (Gf λu hu=>h u (bp _ hu))
theorem cR.setT{ρ:bS}{σ:St}(s:bD K p S H)(ev:cR K p H ρ σ){t:Addr}(ht:H t=none){vs:AM}(fl:∀v∈vs,pI v=true)(hl:vs.length<=sizeLine)(i:Nat):cR K p (bE H t (.tup (vs.map nZ))) (ρ.set i (some (.pv (.tup vs)))) (σ.set i (some (.ref t))):=
 ((s.same (fH ht)).repE ev).set (v:=.pv (.tup vs)) (x:=.ref t) (mH s (Gf fl) (by rw[ar];exact hl) ht) i
end
section
variable{K:ae}{cl:Str->Addr}{E:XK}{X:Cx}{a b:af}{ma mb:ME}{pos:ah}
def nS:PV->PV->AN
 |.str x,.int i=>if x.length<=16777216 then(aR x.cps.toList i).map λc=>.str ⟨#[c]⟩ else none
 |_,_=>none
theorem Y6:eF K Qb nS:=λ{p S H a b c x y Q} s ra rb e k=>by
 unfold nS at e;split at e
 .rename_i z i
  split at e
  .rename_i hz
   rw[<-fN]at hz;cases w:aR z.cps.toList i with
   |none=>rw[w]at e;cases e
   |some d=>
    rw[w]at e;cases e;exact⟨z,i,d,ra.str,rb.int,hz,w,k H _ (cK.refl H) (lQ _)⟩
  .cases e
 .cases e
theorem O8(ha:aU K cl E X a ma)(hb:aU K cl E X b mb)(hs:zA b:=by intro _ _;rfl):aU K cl E X (.Subscript a b pos) (aB nS ma mb):=by
 intro hK;subst hK;refine(Lm Yl (ha rfl) (hb rfl) hs).imp ?_
 rintro σ H Q ⟨p,S,ρ,s,e,h⟩
 exact bZ s e h λq H1 a x S1 st s1 e1 r1 h1=>bZ s1 e1 h1 λq2 H2 b y S2 st2 s2 e2 r2 h2=>nE Y6 s2 (st2.repA r1) r2 h2
end
end L2.Pp
namespace L2
open PySem PySem.Spec PyProof.Rows Bn
section
variable{X:Cx}{k:Nat}{p pos pos1 pos2 pos3 pc:ah}{e:af}{te:XK->TE}{c:Str}{C:Addr}{AY:Stmt}{body:List Stmt}{newId:String}
end
end L2
namespace L2.Pp
open PySem PySem.Spec PyProof.Rows Bn
section
variable{K:ae}{cl:Str->Addr}{E:XK}{X:Cx}{a b e:af}{m me:ME}{ms:MA}{pos pos1 pos2 pos3 pc:ah}{c:Str}{nn:Nat}{AY:Stmt}{body:List Stmt}{newId:String}{up:bS->bS}
def kL:AM->Option (List Str)
 |[]=>some []
 |.str x::r=>match kL r with
  |some xs=>some (x::xs)
  |none=>none
 |_=>none
theorem Ef{c:Addr->Prop}{H:Hp}:∀{xs:AM}{ts:List Str}{vs:List V},kL xs=some ts->aV K c H xs vs->vs=ts.map V.str
 |[],ts,vs,e,r=>by
  unfold aV at r;cases e;exact r
 |x::xs,ts,vs,e,r=>by
  unfold aV at r;obtain⟨v,r1,rfl,h,t⟩:=r;unfold kL at e;split at e
  .rename_i he;cases he
  .rename_i y r' he
   cases he;split at e
   .rename_i ys hy
    cases e;unfold aY at h;rw[h,Ef hy t];rfl
   .cases e
  .cases e
theorem Mh:∀{ts:List Str}{its:AH},bH (ts.map V.str) its->∃l:List (Str×dq),its=strValues l/\l.map (·.1)=ts
 |[],_,.nil=>⟨[],rfl,rfl⟩
 |t::ts,_,.cons r v=>by
  obtain⟨tk,rfl⟩:=r;obtain⟨l,rfl,rfl⟩:=Mh v;exact⟨(t,tk)::l,rfl,rfl⟩
theorem G5:Vo X "str.join" (λx vs H Q=>∃(z:Str)(a:Addr)(ts:List Str),x=.str z/\vs=[.ref a]/\cF X.K H a (ts.map V.str)/\jp z ts=true/\Q (.str (lr z ts)) H):=by
 intro AR s σ H x vs v us Q I rx rv h;obtain⟨z,a,ts,rfl,rfl,hq,hj,q⟩:=h;obtain⟨t,rfl⟩:=rx;obtain⟨u,rfl,ru⟩:=rv.one;cases ru;obtain⟨its,r,pl,hz⟩:=I.list hq;obtain⟨l,rfl,hl⟩:=Mh r;exact SC.join pl.isList hl hj λt' k=>⟨.str _,H,I.tok _,⟨_,rfl⟩,q⟩
def lJ(z:Str):AM->AN
 |[.lst xs]=>match kL xs with
  |some ts=>if jp z ts=true then some (.str (lr z ts))else none
  |none=>none
 |_=>none
theorem Ir{z:Str}{as:AM}{c:PV}(h:lJ z as=some c):∃zs ts,as=[.lst zs]/\kL zs=some ts/\jp z ts=true/\c=.str (lr z ts):=by
 unfold lJ at h;split at h
 .rename_i zs
  cases w:kL zs with
  |none=>rw[w]at h;cases h
  |some ts=>
   rw[w]at h;dsimp only at h;split at h
   .rename_i hj
    cases h;exact⟨zs,ts,rfl,w,hj,rfl⟩
   .cases h
 .cases h
def jX(m:ME)(ms:MA):ME:=λρ S=>(m ρ S).bind λk S1=>cH k λx=>(ms ρ S1).bind λys S2=>fG ((fY S2 ys).bind (lJ x)) S2
theorem B7{apos cpos:ah}(ho:aU K cl E X a m)(ha:dW K cl E X [e] ms)(hbase:attributeBase a "join" X.env (eval a X.env)=eval a X.env:=by rfl)
  (hfew:((backTo cpos (starEach [e] X.env)).all (λx=>!x.1)&&(backToKw cpos (keywordEach [] X.env)).all (λx=>x.1.isSome)&&decide (([e]:List af).length+([]:List ik).length+(if([]:List ik).isEmpty then 0 else 1)<30))=true:=by rfl)
  (hline:(apos.endLine==cpos.line)=true:=by rfl)(hs:starEach [e] X.env=[(false,eval e X.env)]:=by rfl):aU K cl E X (.Call (.Attribute a "join" apos) [e] [] cpos) (jX m ms):=by
 intro hK;subst hK;refine PE.imp (vK i4 PySem.F.slot_str_join PySem.F.type_str_join G5 (ho rfl) (ha rfl) hbase hfew hline hs rfl) ?_
 rintro σ H Q ⟨p,S,ρ,s,ev,h⟩
 refine bZ s ev h λq H1 k x S1 st s1 e1 r1 h1=>?_;unfold cH at h1;split at h1
 .rename_i z
  have ex:=(show eD X.K q H1 (.str z) x from .inl r1).str;subst ex;refine⟨rfl,bZ s1 e1 h1 λq2 H2 ys xs S2 st2 s2 e2 r2 h2=>?_⟩;obtain⟨c,ec,kk⟩:=mJ s2 h2;cases y:fY S2 ys with
  |none=>rw[y]at ec;cases ec
  |some as=>
   rw[y]at ec;have rr:=tD s2 r2 y;have ec:lJ z as=some c:=ec;obtain⟨zs,ts,rfl,w,hj,rfl⟩:=Ir ec;cases rr with
   |cons h t=>
    cases t;obtain⟨b0,ws,rfl,sq,lw,rw0⟩:=h.lst;rw[Ef w rw0]at sq;exact⟨z,b0,ts,rfl,rfl,sq,hj,kk H2 _ (cK.refl H2) (lQ _)⟩
 .exact h1.elim
def vS:V->Bool
 |.non=>true
 |_=>false
def rT:Value->Bool
 |.none=>true
 |_=>false
def sF(K:ae)(H:Hp):V->Prop
 |.non=>True
 |.bl _=>True
 |.int _=>True
 |.str _=>True
 |.ref a=>(∃xs,cF K H a xs)\/∃xs,dD K H a xs
 |_=>False
theorem Wi{H:Hp}:∀{xs:List V}{us:AH},bH xs us->(∀v∈xs,sF K H v)->us.any rT=xs.any vS
 |_,_,.nil,_=>rfl
 |y::xs,u::us,.cons r t,f=>by
  rw[ss,ss,Wi t λv hv=>f v (bp _ hv)];have h:=f y bc;cases y with
  |non=>cases r;rfl
  |bl b=>cases r;rfl
  |int i=>obtain⟨t,rfl⟩:=r;rfl
  |str z=>obtain⟨t,rfl⟩:=r;rfl
  |ref a=>cases r;rfl
  |_=>exact h.elim
theorem Df{AR:List (Addr×Obj)}{σ:St}{H:Hp}{s:aa}(I:aH X AR σ H s){A:aq}(hu:A.units<cLine):∀{xs:List V}{us:AH},bH xs us->(∀v∈xs,sF X.K H v)->∀u∈us,lh A s u .none (rT u)
 |_,_,.nil,_=>λu hu=>by cases hu
 |y::xs,u::us,.cons r t,f=>λu' hm=>by
  rcases cu.mp hm with rfl |hm
  .have h:=f y bc
   cases y with
   |non=>cases r;exact rl _
   |bl b=>cases r;exact SeqAt.EqAt.bool_none b
   |int i=>obtain⟨t,rfl⟩:=r;exact SeqAt.EqAt.int_none i t
   |str z=>obtain⟨t,rfl⟩:=r;exact SeqAt.EqAt.str_none z t
   |ref a=>
    cases r;rcases h with⟨zs,h⟩|⟨zs,h⟩
    .obtain⟨its,_,pl,_⟩:=I.list h
     exact SeqAt.EqAt.list_none pl.isList hu
    .obtain⟨its,_,pl,_⟩:=I.tuple h
     exact SeqAt.EqAt.tuple_none pl hu
   |_=>exact h.elim
  .exact Df I hu t (λv hv=>f v (bp _ hv)) u' hm
def Jo(K:ae):R2:=λx y H Q=>∃p xs,x=.non/\y=.ref p/\cF K H p xs/\(∀v∈xs,sF K H v)/\Q (.bl (xs.any vS)) H
theorem Wk(hu:X.A.units+8<cLine):dE X (compareOp .In) (Jo X.K):=by
 intro AR s σ H x y v u Q I rx ry h;obtain⟨p,xs,rfl,rfl,hq,f,q⟩:=h;cases rx;cases ry;obtain⟨its,r,pl,hz⟩:=I.list hq;refine SeqAt.in_listAt rT pl.isList (λw hw=>Df I (A:=X.A.in1) (by show X.A.units+1<cLine;omega) r f w (by simpa using hw)) ⟨.bl _,H,I,rfl,?_⟩;rw[show its.toArray.any rT=its.any rT by simp,Wi r f];exact q
def fZ:PV->Bool
 |.non=>true
 |_=>false
theorem L6{c:Addr->Prop}{H:Hp}{v:PV}{x:V}(h:aY K c H v x):sF K H x/\vS x=fZ v:=by
 cases v with
 |non=>unfold aY at h;subst h;exact⟨trivial,rfl⟩
 |bl b=>unfold aY at h;subst h;exact⟨trivial,rfl⟩
 |int i=>unfold aY at h;subst h;exact⟨trivial,rfl⟩
 |str z=>unfold aY at h;subst h;exact⟨trivial,rfl⟩
 |tup xs=>
  unfold aY at h;obtain⟨a,vs,rfl,t,_,_⟩:=h;exact⟨.inr ⟨vs,t⟩,rfl⟩
 |lst xs=>
  unfold aY at h;obtain⟨a,vs,rfl,t,_,_⟩:=h;exact⟨.inl ⟨vs,t.sq⟩,rfl⟩
theorem Hk{c:Addr->Prop}{H:Hp}:∀{xs:AM}{vs:List V},aV K c H xs vs->(∀v∈vs,sF K H v)/\vs.any vS=xs.any fZ
 |[],vs,r=>by
  unfold aV at r;subst r;exact⟨λv hv=>absurd hv pe,rfl⟩
 |x::xs,vs,r=>by
  unfold aV at r;obtain⟨v,r1,rfl,h,t⟩:=r;obtain⟨a,b⟩:=L6 h;obtain⟨c1,d⟩:=Hk t;refine⟨λw hw=>?_,by rw[ss,ss,b,d]⟩;rcases cu.mp hw with rfl |hw
  .exact a
  .exact c1 w hw
def fL:PV->PV->AN
 |.non,.lst xs=>some (.bl (xs.any fZ))
 |_,_=>none
theorem Mm:eF K (Jo K) fL:=λ{p S H a b c x y Q} s ra rb e k=>by
 unfold fL at e;split at e
 .cases e
  obtain⟨a1,vs,rfl,l1,z1,r1⟩:=rb.lst;obtain⟨f,g⟩:=Hk r1;refine⟨a1,vs,ra.non,rfl,l1,f,?_⟩;rw[g];exact k H _ (cK.refl H) (gS (v:=.bl _) rfl)
 .cases e
end
section
variable{M:fk}{A:aq}{E:Value->aa->Prop}{s:aa}{env:az}
def Xf(u:Value->di Unit)(M:fk)(A:aq)(E:Value->aa->Prop)(Q:Value->aa->Prop)(acc:Value)(c:az):kn->aa->Prop
 |.ok _,s'=>wpAny M A (u acc) (λ_ s''=>∃m,s''.heap.Ns c.locals m/\∀h',fu c.locals s''.heap h'->Q .none {s'' with heap:=h'}) E s'
 |.error x,s'=>∃m,s'.heap.Ns c.locals m/\∀h',fu c.locals s'.heap h'->wpAny M A (rq "comprehension.variables-let-go" x c:di Value) (λ_ _=>False) E {s' with heap:=h'}
theorem Pu{u:Value->di Unit}{e:af}{sc:Scope}{pos:ah}{newAcc first:di Value}{g:se}{gs:List se}{cl:List (Str×Addr)}{Q:Value->aa->Prop}
  (hc:clausesOf e=g::gs)(hs:∀x,foldedSetIterable g.iter env x=pure x)(hcl:closureFor sc env=pure cl)(hk:sc.kind=.function)(hn:∀x∈sc.names,x.2=.local->sc.names.lookup x.1=some .local)
  (h:wpAny M A first (λx s1=>wpAny M A (pyIter x) (λit s2=>wpAny M A newAcc (λacc s3=>wpAny M A (newFunctionEnv sc env.globals cl [] env.qual none .none (some env)) (λc s4=>
    codeAny M A (.compStart e 0 it acc {c with scope:=relabel sc env}) (Xf u M A E Q acc {c with scope:=relabel sc env}) s4) E s3) E s2) E s1) E s):
  wpAny M A (comprehension e sc env pos newAcc false first (some u)) Q E s:=by
 unfold comprehension;rw[hcl,hc];refine ag (bF h λx s1 h1=>ag (ju (ag (wu (hs x) (ag (dw (bF h1 λit s2 h2=>?_)))))));refine wpAny_standIf (ag (bF h2 λacc s3 h3=>ag (au (ag (bF h3 λc s4 h4=>?_)))));dsimp only;have loc:∀x∈(sc.names.filter λx=>(x.2== .local||x.2== .cell)&&x.1 !=(".0":Str)).reverse,x.2=.local->xk {c with scope:=relabel sc env} x.1=some .local:=λx hx hl=>
  g7 (hn x (qc.mp (g8.mp hx)).1 hl)
 have loc':∀x∈(sc.names.filter λx=>(x.2== .local||x.2== .cell)&&x.1 !=(".0":Str)).reverse.drop 1++(sc.names.filter λx=>(x.2== .local||x.2== .cell)&&x.1 !=(".0":Str)).reverse.take 1,x.2=.local->xk {c with scope:=relabel sc env} x.1=some .local:=λx hx hl=>by
  rcases cm.mp hx with h1 |h1
  .exact loc x (pk h1) hl
  .exact loc x (xo h1) hl
 refine dw (ag (oz (dw (wpAny_run (ko h4 λr s' hr=>?_)))));cases r with
 |ok f=>
  refine ag (mj (ag (dw (cy hr (λ_ s'' hr'=>?_) λ_ _ h'=>h'))));obtain⟨m,hm,hr'⟩:=hr';exact ag (sf (cenv:={c with scope:=relabel sc env}) hk _ s'' m loc' hm λh' _ _ sb=>au (hr' h' sb))
 |error x=>
  obtain⟨m,hm,hr⟩:=hr;exact ag (dw (sf (cenv:={c with scope:=relabel sc env}) hk _ s' m loc hm λh' _ _ sb=>cy (hr h' sb) (λ_ _ z=>z.elim) λ_ _ y=>y))
end
end L2.Pp
namespace L2
open PySem PySem.Spec PyProof.Rows Bn L2.Pp
section
variable{P:Program}{w:ao}{K:ae}{mg:Str->AI}{base:Heap}{N:List Str}{qual:Str}{scope:Scope}{f:Addr}{cd:Value}{A:aq}{outer:List az}{AS:aa}{AT:Hp}{E:XK}
variable{sc:Scope}{own:List Str}{cap:List (Nat×Str)}{AR:List (Addr×Obj)}{σ:St}{H:Hp}{s:aa}{elt target iter:af}{pos pos':ah}{wi:TI}{g:TG}{te:TE}{Q:VK}
theorem Mq{u:Value->di Unit}{Qf:Value->aa->Prop}(k:gG (aT (aQ P w) P w K mg base N qual scope f cd A outer AS AT E) sc own cap)(hi:PI (aT (aQ P w) P w K mg base N qual scope f cd A outer AS AT E) target iter wi)(hc:(aT (aQ P w) P w K mg base N qual scope f cd A outer AS AT E).calm=true)
  (hg:∀C AU H₁ ex,PG (cO (aT (aQ P w) P w K mg base N qual scope f cd A outer AS AT E) sc (cP own cap) C AU H₁ ex) target g)(he:∀C AU H₁ ex E',iZ (aQ P w) ((cO (aT (aQ P w) P w K mg base N qual scope f cd A outer AS AT E) sc (cP own cap) C AU H₁ ex).wish E') E->PE ((cO (aT (aQ P w) P w K mg base N qual scope f cd A outer AS AT E) sc (cP own cap) C AU H₁ ex).wish E') elt te)(I:aH (aT (aQ P w) P w K mg base N qual scope f cd A outer AS AT E) AR σ H s)(h:nO own cap wi g te σ H Q)
  (fin:∀D C s' H' m,aH (aT (aQ P w) P w K mg base N qual scope f cd A outer AS AT E) AR σ H' s'->eN (aT (aQ P w) P w K mg base N qual scope f cd A outer AS AT E) AR H' C->s'.heap.Ns C m->Q (.ref D) H'->wpAny (model (aT (aQ P w) P w K mg base N qual scope f cd A outer AS AT E).prog (aT (aQ P w) P w K mg base N qual scope f cd A outer AS AT E).w) (aT (aQ P w) P w K mg base N qual scope f cd A outer AS AT E).A (u (.ref D)) (λ_ s''=>∃m,s''.heap.Ns C m/\∀h',fu C s''.heap h'->Qf .none {s'' with heap:=h'}) (aT (aQ P w) P w K mg base N qual scope f cd A outer AS AT E).xe s')
  (hs:∀x,foldedSetIterable iter (aT (aQ P w) P w K mg base N qual scope f cd A outer AS AT E).env x=pure x):
  wpAny (model (aT (aQ P w) P w K mg base N qual scope f cd A outer AS AT E).prog (aT (aQ P w) P w K mg base N qual scope f cd A outer AS AT E).w) (aT (aQ P w) P w K mg base N qual scope f cd A outer AS AT E).A (comprehension (.ListComp elt [⟨target,iter,[],0⟩] sc pos) sc (aT (aQ P w) P w K mg base N qual scope f cd A outer AS AT E).env pos' (newList []) false (eval iter (aT (aQ P w) P w K mg base N qual scope f cd A outer AS AT E).env) (some u)) Qf (aT (aQ P w) P w K mg base N qual scope f cd A outer AS AT E).xe s:=by
 refine Pu (u:=u) rfl hs (zG (k.has I.ok)) k.kind k.names ?_;refine bF (hi AR s σ H _ I h) λv s1 h1=>bF h1 λitv s2 h2=>?_;obtain⟨it,fp,tn,J,H2,e,I2,T,st2,f2,hW⟩:=h2;subst e;refine ja (wr k.nocell (λy hy=>nomatch hy) (λh4 hns hsb=>?_) k.kind);have I3:aH (aT (aQ P w) P w K mg base N qual scope f cd A outer AS AT E) AR σ (bE H2 s2.heap.objs.size (.lst [])) {s2 with heap:=s2.heap.push {cls:=.type "list",data:=.seq ([]:AH).toArray},toks:=s2.toks}:=I2.lnew (ys:=[]) (its:=[]) .nil (ia _);have hD:H2 s2.heap.objs.size=none:=I2.fresh;have ltf:∀b∈fp,b<s2.heap.objs.size:=λb hb=>by
  obtain⟨o,ho,_⟩:=T.obj _ _ st2 b hb;exact ax ho
 have f3:∀b∈fp,eN (aT (aQ P w) P w K mg base N qual scope f cd A outer AS AT E) AR (bE H2 s2.heap.objs.size (.lst [])) b:=λb hb=>⟨by rw[cQ (ck (ltf b hb))];exact(f2 b hb).1,(f2 b hb).2⟩;have un:Un (cL (aT (aQ P w) P w K mg base N qual scope f cd A outer AS AT E).stack) fp H2 (bE H2 s2.heap.objs.size (.lst [])) s2.heap (s2.heap.push {cls:=.type "list",data:=.seq ([]:AH).toArray}):=Un.laid (λb u q=>aw _ q) (am _) hD;have kp:∀b o,(s2.heap.push {cls:=.type "list",data:=.seq ([]:AH).toArray}).get? b=some o->h4.get? b=some o:=λb o q=>hsb.extBut b o (ck (ax q)) (aw _ q);have J0:=I3.cmp (t':=s2.toks+([]:List (Str×Value)).length) k f3 (λb hb=>br (ltf b hb) (by rw[jz];exact oo _)) hns kp;have stat:∀{H':Hp},(∀b∈fp,H' b=none)->∀b∈fp,eN (cO (aT (aQ P w) P w K mg base N qual scope f cd A outer AS AT E) sc (cP own cap) (s2.heap.push {cls:=.type "list",data:=.seq ([]:AH).toArray}).objs.size {s2 with heap:=s2.heap.push {cls:=.type "list",data:=.seq ([]:AH).toArray},toks:=s2.toks} (bE H2 s2.heap.objs.size (.lst [])) fp) [] H' b:=λhn b hb=>
  ⟨hn b hb,(J0.ok.exf b hb).1,J0.ok.exfs b hb,.inl hb,(J0.ok.exf b hb).2,λp hp=>absurd (show p∈([]:List (Addr×Obj)) from hp) (by simp)⟩
 have st4:tn 0 h4:=T.keep _ _ _ st2 λb hb o q=>kp b o (aw _ q);have fr0:∀b∈fp,(bE H2 s2.heap.objs.size (.lst [])) b=none:=λb hb=>(f3 b hb).1;have hCf:(s2.heap.push {cls:=.type "list",data:=.seq ([]:AH).toArray}).objs.size∉cL (aT (aQ P w) P w K mg base N qual scope f cd A outer AS AT E).stack:=λhb=>by
  obtain⟨_,o,ho,hd⟩:=I3.stack.mem hb;exact fj _ (ax ho)
 have hC0:∀o,AS.heap.get? (s2.heap.push {cls:=.type "list",data:=.seq ([]:AH).toArray}).objs.size≠some o:=λo ho=>by
  obtain⟨m,⟨oL,_,_,hoL,_⟩,_⟩:=id I3.loc;exact fj _ (wp (br (ax ho) I3.ok.above) (ax hoL))
 have loop:codeAny (model (aT (aQ P w) P w K mg base N qual scope f cd A outer AS AT E).prog (aT (aQ P w) P w K mg base N qual scope f cd A outer AS AT E).w) (aT (aQ P w) P w K mg base N qual scope f cd A outer AS AT E).A (.compLoop (.ListComp elt [⟨target,iter,[],0⟩] sc pos) 0 (.ref it) (.ref s2.heap.objs.size) (compEnvC sc (iA (aT (aQ P w) P w K mg base N qual scope f cd A outer AS AT E).env sc.names []) (s2.heap.push {cls:=.type "list",data:=.seq ([]:AH).toArray}).objs.size (aT (aQ P w) P w K mg base N qual scope f cd A outer AS AT E).env))
   (Xf u (model (aT (aQ P w) P w K mg base N qual scope f cd A outer AS AT E).prog (aT (aQ P w) P w K mg base N qual scope f cd A outer AS AT E).w) (aT (aQ P w) P w K mg base N qual scope f cd A outer AS AT E).A (aT (aQ P w) P w K mg base N qual scope f cd A outer AS AT E).xe Qf (.ref s2.heap.objs.size) (compEnvC sc (iA (aT (aQ P w) P w K mg base N qual scope f cd A outer AS AT E).env sc.names []) (s2.heap.push {cls:=.type "list",data:=.seq ([]:AH).toArray}).objs.size (aT (aQ P w) P w K mg base N qual scope f cd A outer AS AT E).env)) {s2 with heap:=h4,toks:=s2.toks+([]:List (Str×Value)).length}:=by
  obtain⟨W,⟨m0,w0⟩,turn⟩:=hW s2.heap.objs.size hD;refine Zj (λn s'=>∃i σ' H' ys,aH (cO (aT (aQ P w) P w K mg base N qual scope f cd A outer AS AT E) sc (cP own cap) (s2.heap.push {cls:=.type "list",data:=.seq ([]:AH).toArray}).objs.size {s2 with heap:=s2.heap.push {cls:=.type "list",data:=.seq ([]:AH).toArray},toks:=s2.toks} (bE H2 s2.heap.objs.size (.lst [])) fp) [] σ' H' s'/\tn i s'.heap/\(∀b∈fp,H' b=none)/\W i n σ' H' ys) ?_ m0
   ⟨0,_,_,[],J0,st4,fr0,w0⟩
  rintro n s5 ⟨i,σ5,H5,ys,I5,st5,fr5,w5⟩
  obtain⟨hD5,w5⟩:=turn i n σ5 H5 ys w5;rcases w5 with⟨stop,qn⟩|⟨go,hlt,step⟩
  .refine bF (T.done (cO (aT (aQ P w) P w K mg base N qual scope f cd A outer AS AT E) sc (cP own cap) (s2.heap.push {cls:=.type "list",data:=.seq ([]:AH).toArray}).objs.size {s2 with heap:=s2.heap.push {cls:=.type "list",data:=.seq ([]:AH).toArray},toks:=s2.toks} (bE H2 s2.heap.objs.size (.lst [])) fp) rfl rfl rfl hc i [] s5 σ5 H5 _ I5 (stat fr5) st5 stop) ?_
   rintro r s6 ⟨hr,I6⟩
   subst hr;obtain⟨m,hn,_⟩:=id I6.loc;exact fin _ _ s6 H5 m (I2.uncmp (s3:={s2 with heap:=s2.heap.push {cls:=.type "list",data:=.seq ([]:AH).toArray},toks:=s2.toks}) f2 un rfl I6) (I3.fpOk (am _) I6.free) hn qn
  .refine bF (T.item (cO (aT (aQ P w) P w K mg base N qual scope f cd A outer AS AT E) sc (cP own cap) (s2.heap.push {cls:=.type "list",data:=.seq ([]:AH).toArray}).objs.size {s2 with heap:=s2.heap.push {cls:=.type "list",data:=.seq ([]:AH).toArray},toks:=s2.toks} (bE H2 s2.heap.objs.size (.lst [])) fp) rfl rfl rfl hc i [] s5 σ5 H5 _ I5 (stat fr5) st5 go) ?_
   rintro r s6 ⟨u,hr,h6⟩
   subst hr;refine bF h6 ?_
   rintro _ s7 ⟨x,H7,I7,r7,y7,st7,fr7⟩
   have I7':=I7.pinned (stat fr7) (T.obj _ _ st7);refine bF (hg _ _ _ _ _ s7 σ5 H7 x u _ I7' r7 (step x H7 y7)) ?_
   rintro _ s8 ⟨σ8,H8,I8,q8⟩
   refine bF (he _ _ _ _ _ (Ym (Qf:=Qf) (acc:=.ref s2.heap.objs.size) (s3:={s2 with heap:=s2.heap.push {cls:=.type "list",data:=.seq ([]:AH).toArray},toks:=s2.toks}) I2 f2 un rfl (λH hH=>I3.fpOk (am _) hH) hCf hC0) _ s8 σ8 H8 _ (I8.wish _) q8) ?_
   rintro v9 s9 ⟨y,H9,I9,r9,hD9,m',hm,w9⟩
   have I9:=I9.unwish;refine bF (tJ _ s9 σ8 H9 (.ref s2.heap.objs.size) [y] (.ref s2.heap.objs.size) [v9] (λ_ H'=>H'=bE H9 s2.heap.objs.size (.lst (ys++[y]))) I9 rfl (.cons r9 .nil) ⟨_,ys,y,rfl,rfl,hD9,hlt,rfl⟩) ?_
   rintro _ s10 ⟨_,H10,I10,_,q10⟩
   subst q10;refine⟨m',hm,i+1,σ8,_,_,I10.unpinned,T.keep _ _ _ st7 λb hb o q=>(I10.pin (b,o) (cq _ (cq _ (mD hb q)))).1,λb hb=>?_,w9⟩;obtain⟨o,q,d⟩:=T.obj _ _ st7 b hb;exact(I10.pin (b,o) (cq _ (cq _ (mD hb q)))).2.1
 exact wt loop (T.self _ 0 _ _ _ st4 loop)
theorem Vw{i:Nat}{x:Str}{py spos:ah}(hN:N.Nodup)(hx:N[i]?=some x)(hl:jP (aT (aQ P w) P w K mg base N qual scope f cd A outer AS AT E).env.scope x)(k:gG (aT (aQ P w) P w K mg base N qual scope f cd A outer AS AT E) sc own cap)(hi:PI (aT (aQ P w) P w K mg base N qual scope f cd A outer AS AT E) target iter wi)(hc:(aT (aQ P w) P w K mg base N qual scope f cd A outer AS AT E).calm=true)
  (hg:∀C AU H₁ ex,PG (cO (aT (aQ P w) P w K mg base N qual scope f cd A outer AS AT E) sc (cP own cap) C AU H₁ ex) target g)(he:∀C AU H₁ ex E',iZ (aQ P w) ((cO (aT (aQ P w) P w K mg base N qual scope f cd A outer AS AT E) sc (cP own cap) C AU H₁ ex).wish E') E->PE ((cO (aT (aQ P w) P w K mg base N qual scope f cd A outer AS AT E) sc (cP own cap) C AU H₁ ex).wish E') elt te)
  (hs:∀x,foldedSetIterable iter (aT (aQ P w) P w K mg base N qual scope f cd A outer AS AT E).env x=pure x:=by intro _;rfl)(hsw:swapsWith (.ListComp elt [⟨target,iter,[],0⟩] sc pos) (some (.Name x py)) spos.line (aT (aQ P w) P w K mg base N qual scope f cd A outer AS AT E).env=pure true:=by rfl)
  (hf:(aT (aQ P w) P w K mg base N qual scope f cd A outer AS AT E).fn x=true\/(aT (aQ P w) P w K mg base N qual scope f cd A outer AS AT E).env.scope.names.lookup x=some .local:=by first |exact .inl rfl |exact .inr rfl |assumption):
  PS (aT (aQ P w) P w K mg base N qual scope f cd A outer AS AT E) (.Assign [.Name x py] (.ListComp elt [⟨target,iter,[],0⟩] sc pos) spos) (vU (nO own cap wi g te) (vI i)):=by
 intro AR s σ H D I h;rw[zm _ _ _ _ hsw];refine ag (ju (ag ?_));show wpAny _ (aT (aQ P w) P w K mg base N qual scope f cd A outer AS AT E).A (comprehension (.ListComp elt [⟨target,iter,[],0⟩] sc pos) sc (aT (aQ P w) P w K mg base N qual scope f cd A outer AS AT E).env _ (newList []) false (eval iter (aT (aQ P w) P w K mg base N qual scope f cd A outer AS AT E).env) (some (assign (.Name x py) (aT (aQ P w) P w K mg base N qual scope f cd A outer AS AT E).env)) >>= λ_=>pure ()) _ _ s;refine ag (bF (Mq (u:=assign (.Name x py) (aT (aQ P w) P w K mg base N qual scope f cd A outer AS AT E).env) (Qf:=λ_ s'=>SP (aT (aQ P w) P w K mg base N qual scope f cd A outer AS AT E) AR D .next s') k hi hc hg he I h (λB C s' H' m I' fC hn q=>?_) hs) λ_ s' hq=>au (au hq))
 show wpAny _ _ (assign (.Name x py) (aT (aQ P w) P w K mg base N qual scope f cd A outer AS AT E).env (.ref B)) _ _ s';obtain⟨o,es,ep,ho,hd,r⟩:=hn;obtain⟨f0,f1,f2,f3,f4,f5⟩:=fC;have I'':aH (aT (aQ P w) P w K mg base N qual scope f cd A outer AS AT E) (AR++[(C,o)]) σ H' s':=I'.pins_of λp hp=>(cm.mp hp).elim (λz=>I'.pin p (cq _ z)) λz=>by
  have e:p=(C,o):=by simpa using z
  subst e;exact⟨ho,f0,f1,f2,λv z=>by rw[hd]at z;cases z⟩
 refine vc (lB I'' hN hx hl (v:=.ref B) rfl (λs2 I2=>?_) hf);have pC:=I2.pin (C,o) (by simp);refine⟨m,⟨o,es,ep,pC.1,hd,r⟩,λh' sb=>⟨_,H',?_,q⟩⟩;exact(I2.unpinned).turned (t':=s2.toks) (λb o hb e=>(sb.2 b hb).trans e) f0 f1 f3 f4 f5
end
end L2
namespace L2.Pp
open PySem PySem.Spec PyProof.Rows Bn
section
variable{P:Program}{w:ao}{K:ae}{mg:Str->AI}{base:Heap}{N:List Str}{qual:Str}{scope:Scope}{f:Addr}{cd:Value}{A:aq}{outer:List az}{AS:aa}{AT:Hp}{E:XK}{cl:Str->Addr}
variable{sc:Scope}{own:List Str}{cap:List (Nat×Str)}{elt target iter:af}{pos:ah}{mi:MI}{g:GM}{me:ME}
theorem Mu{i:Nat}{x:Str}{py spos:ah}(hN:N.Nodup)(hx:N[i]?=some x)(hl:jP (aT (aQ P w) P w K mg base N qual scope f cd A outer AS AT E).env.scope x)(k:gG (aT (aQ P w) P w K mg base N qual scope f cd A outer AS AT E) sc own cap)(hi:gY K cl E (aT (aQ P w) P w K mg base N qual scope f cd A outer AS AT E) target iter mi)(hc:(aT (aQ P w) P w K mg base N qual scope f cd A outer AS AT E).calm=true)(hg:∀C AU H₁ ex,kD K (cO (aT (aQ P w) P w K mg base N qual scope f cd A outer AS AT E) sc (cP own cap) C AU H₁ ex) target g)(he:∀C AU H₁ ex E',iZ (aQ P w) ((cO (aT (aQ P w) P w K mg base N qual scope f cd A outer AS AT E) sc (cP own cap) C AU H₁ ex).wish E') E->aU K cl E ((cO (aT (aQ P w) P w K mg base N qual scope f cd A outer AS AT E) sc (cP own cap) C AU H₁ ex).wish E') elt me)
  (hs:∀x,foldedSetIterable iter (aT (aQ P w) P w K mg base N qual scope f cd A outer AS AT E).env x=pure x:=by intro _;rfl)(hsw:swapsWith (.ListComp elt [⟨target,iter,[],0⟩] sc pos) (some (.Name x py)) spos.line (aT (aQ P w) P w K mg base N qual scope f cd A outer AS AT E).env=pure true:=by rfl)
  (hf:(aT (aQ P w) P w K mg base N qual scope f cd A outer AS AT E).fn x=true\/(aT (aQ P w) P w K mg base N qual scope f cd A outer AS AT E).env.scope.names.lookup x=some .local:=by first |exact .inl rfl |exact .inr rfl |assumption):
  eE K cl E (aT (aQ P w) P w K mg base N qual scope f cd A outer AS AT E) (.Assign [.Name x py] (.ListComp elt [⟨target,iter,[],0⟩] sc pos) spos) (aW i (fD own cap mi g me)):=by
 intro hK;refine PS.imp (Vw hN hx hl k (hi hK) hc (λC AU H₁ ex=>hg C AU H₁ ex hK) (λC AU H₁ ex E' ps=>he C AU H₁ ex E' ps hK) hs hsw hf) ?_
 rintro D σ H ⟨p,S,ρ,s,ev,h⟩
 have h2:tP K cl E (cE K) (fD own cap mi g me) σ H λy H1=>D.nx (σ.set i (some y)) H1:=by
  refine⟨p,S,ρ,s,ev,?_⟩;unfold aW at h;cases z:fD own cap mi g me ρ S with
  |ok v S1=>
   rw[z]at h;exact λq H' y st sm r=>h q H' _ st sm ((st.repE ev).set r i)
  |exc n S1=>rw[z]at h;exact h
  |fail=>rw[z]at h;exact h
 obtain⟨p,S,ρ,s,ev,h⟩:=h2;exact bZ s ev h λq H' xs J S' stp sm ev it kk D hD=>He sm ev it kk hD
end
section
variable{K:ae}
end
section
variable{K:ae}{X:Cx}
end
end L2.Pp
namespace L2
open PySem PySem.Spec PyProof.Rows Bn
section
variable{prog:Program}{w:ao}{A:aq}{R:kn->aa->Prop}{s:aa}
end
section
variable{X:Cx}{sc:Scope}{own:List Str}{cap:List (Nat×Str)}{AR:List (Addr×Obj)}{σ:St}{H:Hp}{s:aa}{elt target iter cnd:af}{pos pos':ah}{wi:TI}{g:TG}{tc:TT}{te:TE}{Q:VK}
end
end L2
namespace L2.Pp
open PySem PySem.Spec PyProof.Rows Bn
theorem n1{n i:Nat}{P:Prop}(h:i<n)(p:P):∃m',m'<n-i/\(m'=n-(i+1)/\i+1<=n/\P):=⟨n-(i+1),by omega,rfl,h,p⟩
section
variable{K:ae}{cl:Str->Addr}{E:XK}{X:Cx}{p q:Ph}{H H':Hp}{S:aN}{sc:Scope}{own:List Str}{cap:List (Nat×Str)}{elt target iter cnd:af}{pos:ah}{mi:MI}{g:GM}{mc:MT}{me:ME}
end
end L2.Pp
namespace L2
open PySem PySem.Spec PyProof.Rows Bn
open L2.Pp
section
variable{X:Cx}{AR:List (Addr×Obj)}{σ:St}{H:Hp}{s:aa}{c:Addr->Prop}{a b:Addr}{n:Bool}{k:pY n}{ks:AM}{us:AH}
theorem zB:∀{ps:AM}{vs:List V}{i:Nat}{v:V},aV X.K c H ps vs->vs[i]?=some v->∃p,ps[i]?=some p/\aY X.K c H p v:=λ{ps vs i v} r e=>by
 have hi:i<ps.length:=by
  rw[r.length];exact(db.mp e).1
 obtain⟨u,e1,e2⟩:=r.get (bf hi);rw[e]at e1;cases e1;exact⟨_,bf hi,e2⟩
end
end L2
namespace L2.Pp
open PySem PySem.Spec PyProof.Rows Bn
section
variable{K:ae}{cl:Str->Addr}{E:XK}{X:Cx}{p q:Ph}{H H':Hp}{S:aN}{a b e o i v:af}{es:List af}{m md mk mv:ME}{ms:MA}{pos:ah}
end
end L2.Pp
namespace L2
open PySem PySem.Spec PyProof.Rows Bn L2.Pp
section
variable{prog:Program}{w:ao}{A:aq}{E:Value->aa->Prop}{s:aa}{it d i ep:Nat}{es:Array DictEntry}
end
section
variable{X:Cx}
end
section
variable{prog:Program}{w:ao}{A:aq}{E:Value->aa->Prop}{s:aa}{v d ep:Nat}{es:Array DictEntry}
end
section
variable{X:Cx}
end
end L2
namespace L2.Pp
open PySem PySem.Spec PyProof.Rows Bn
section
variable{K:ae}{cl:Str->Addr}{E:XK}{X:Cx}{p q:Ph}{H H':Hp}{S:aN}{a b e o i v:af}{es:List af}{m md mk mv:ME}{ms:MA}{pos:ah}
end
end L2.Pp
namespace L2
open PySem PySem.Spec PyProof.Rows Bn
section
variable{X:Cx}
end
section
variable{X:Cx}{sc:Scope}{own:List Str}{cap:List (Nat×Str)}{AR:List (Addr×Obj)}{σ:St}{H:Hp}{s:aa}{elt target iter:af}{pos pos':ah}{wi:TI}{g:TG}{te:TE}{Q:VK}
end
end L2
namespace L2.Pp
open PySem PySem.Spec PyProof.Rows Bn
section
variable{K:ae}{cl:Str->Addr}{E:XK}{X:Cx}{p q:Ph}{H H':Hp}{S:aN}{a b e o i v:af}{es:List af}{m ma mb md mk mv:ME}{ms:MA}{pos:ah}
variable{sc:Scope}{own:List Str}{cap:List (Nat×Str)}{elt target iter:af}{mi:MI}{g:GM}{me:ME}
end
section
variable{K:ae}{cl:Str->Addr}{E:XK}{X:Cx}{a b:af}{ma mb:ME}{pos:ah}
end
section
variable{P:Program}{w:ao}{K:ae}{mg:Str->AI}{base:Heap}{cl:Str->Addr}{x qual:Str}{st:Stmt}{f:Addr}{fd:bh}{N ps:List Str}{k np n:Nat}{b:MS}
variable{so sc sc1:Scope}{own own1:List Str}{cap cap1:List (Nat×Str)}{cd:Value}{A:aq}{outer:List az}{s:aa}{H:Hp}{E:XK}{C:Addr}{AS:aa}{AT:Hp}{ex:List Addr}
theorem vN(a:sc.kind=.function:=by rfl)(b:∀y∈sc.names,y.2=.local->sc.names.lookup y.1=some .local:=by decide+kernel)(c:∀y∈sc.names,y.2≠.cell:=by decide+kernel)(d:∀y∈sc.names,y.2=.free->so.names.lookup y.1=some .cell:=by decide+kernel)(e:∀p∈cap,N[p.1]?=some p.2:=by decide+kernel)(g:∀p∈cap,sc.names.lookup p.2=some .free:=by decide+kernel):gG (aT fR P w K mg base N qual so f cd A outer s H E).nox sc own cap:=Zl so N rfl rfl a b c d e g
theorem cM{N ps:List Str}{sc:Scope}(a:sc.kind=.function:=by rfl)(b:sc.isCoroutine=false:=by rfl)(c:sc.isGenerator=false:=by rfl)(d:N.Nodup:=by decide+kernel)(e:N.take ps.length=ps:=by rfl)(f:∀x∈ps,sc.names.lookup x=some .local\/sc.names.lookup x=some .cell:=by decide+kernel)(g:∀y∈sc.names,y.2≠.free:=by decide+kernel):iY N ps sc:=⟨a,b,c,d,e,f,g⟩
def sA(P:Program)(w:ao)(K:ae)(mg:Str->AI)(base:Heap)(cl:Str->Addr)(x:Str)(k:Nat)(ps:List Str)(g:FM):Prop:=∃(a:Addr)(d:bh),dJ P w K mg base (aQ P w) k a d ps (jF K cl g)/\dJ P w K mg base fR k a d ps (kR K cl g)/\fO K d ps []/\de K (.ref a)=true/\mg x=some (.ref a)
theorem Jb{g:FM}{a:Addr}{d:bh}(G:dJ P w K mg base (aQ P w) k a d ps (jF K cl g))(b:fO K d ps [])(kp:de K (.ref a)=true)(n:mg x=some (.ref a)):sA P w K mg base cl x k ps g:=⟨_,_,G,x0 G,b,kp,n⟩
theorem X7{X:Cx}{e:af}{es:List af}{ms:MA}{pos p:ah}{k0:Nat}{g:FM}(C:sA X.prog X.w X.K X.mg X.base cl x k ps g)(hr:cU k0 X.A)(hk:k<=k0)(hg:Gl X x)(ha:dW X.K cl E0 X (e::es) ms)(hdb:(x==("__debug__":Str))=false:=by decide)(he:starEach (e::es) X.env=(false,eval e X.env)::starEach es X.env:=by rfl)(hpl:(backTo pos (starEach es X.env)).any (·.1)=false:=by rfl):
  aU X.K cl E0 X (.Call (.Name x p) (e::es) [] pos) (cJ g [] ms):=by
 obtain⟨a,d,_,G,b,kk,n⟩:=C;exact Ly G (hr.mono hk) hg n kk b .nil Dv.nil ha hdb he hpl
end
structure Bx where
 P:Program
 w:ao
 K:ae
 mg:Str->AI
 base:Heap
 cl:Str->Addr
abbrev cZ(B:Bx)(x:Str)(k:Nat)(ps:List Str)(g:FM):Prop:=Ub B.P B.w B.K B.mg B.base B.cl x k ps g
abbrev kT(B:Bx)(x:Str)(k:Nat)(ps:List Str)(g:FM):Prop:=sA B.P B.w B.K B.mg B.base B.cl x k ps g
def HF(K:ae)(x:Str)(st:Stmt):Prop:=∃(f:Addr)(fd:bh),cj K mainGlobals x=some (some (.ref f))/\iX K x x st f fd
def XG(K:ae)(mg:Str->AI):Prop:=∃h:Heap,K.In h/\h.Ns mainGlobals mg
section
variable{B:Bx}{x:Str}{st:Stmt}{f:Addr}{fd:bh}{N ps:List Str}{k np n:Nat}{b:MS}
theorem Vk(X:XG B.K B.mg)(q:HF B.K x st):∃f fd,iX B.K x x st f fd/\de B.K (.ref f)=true/\B.mg x=some (.ref f):=by
 obtain⟨f,fd,a,F⟩:=q;obtain⟨h,X,G⟩:=X;exact⟨f,fd,F,F.kp,ie X G a⟩
theorem Y0{K:ae}{oc:Value}{od an:AJ}{osl:Array AI}{kV doc pm cdv ct:Value}(a:cj K mainGlobals x=some (some (.ref f)))(l:K.lookup f=some ⟨oc,od,.func (dj x x (fW st) (dZ st) (cN st) .none kV doc pm an cdv ct),osl⟩)
  (c:jc K cdv x=true)(k:de K (.ref f)=true):HF K x st:=⟨_,_,a,Pk l c k⟩
theorem Wo(F:iX B.K x x st f fd)(h:∀(kV doc pm:Value)(an:AJ)(cdv ct:Value)(us:AH),us.length=ps.length->bindArgs (dj x x (fW st) (dZ st) (cN st) .none kV doc pm an cdv ct) ⟨us,[]⟩=pure (ps.zip us)):fO B.K fd ps []:=F.binds λkV doc pm an cdv ct us hl=>h kV doc pm an cdv ct us hl
theorem dC(X:XG B.K B.mg)(q:HF B.K x st)(S:iY N ps (cN st))(hb:N.Nodup->∀(f:Addr)(cdv:Value)(A:aq)(outer:List az)(s:aa)(H:Hp)(E:XK),cU k (A.deeper (envOfC x (cN st) s.heap.objs.size f cdv))->gA B.K B.cl E0 (aT fR B.P B.w B.K B.mg B.base N x (cN st) f cdv A outer s H E).nox (dZ st) b)(hnp:ps.length=np:=by rfl)(hn:N.length=n:=by rfl)
  (h:∀(kV doc pm:Value)(an:AJ)(cdv ct:Value)(us:AH),us.length=ps.length->bindArgs (dj x x (fW st) (dZ st) (cN st) .none kV doc pm an cdv ct) ⟨us,[]⟩=pure (ps.zip us):=by intro _ _ _ _ _ _ us h;rcases us with _ |⟨_,_ |⟨_,_ |⟨_,_ |⟨_,_ |⟨_,_ |⟨_,_⟩⟩⟩⟩⟩⟩<;>first |(cases h;done) |rfl |(simp at h)):cZ B x (k+1) ps (aX np n b):=by
 obtain⟨f,fd,F,kp,m⟩:=Vk X q;exact⟨f,fd,Zo F S hnp hn λcdv A outer s H E hr=>hb S.nd f cdv A outer s H E hr,Wo F h,kp,m⟩
theorem oB(X:XG B.K B.mg)(q:HF B.K x st)(S:iY N ps (cN st))(hb:N.Nodup->∀(f:Addr)(cdv:Value)(A:aq)(outer:List az)(s:aa)(H:Hp)(E:XK),cU k (A.deeper (envOfC x (cN st) s.heap.objs.size f cdv))->gA B.K B.cl E (aT (aQ B.P B.w) B.P B.w B.K B.mg B.base N x (cN st) f cdv A outer s H E) (dZ st) b)(hnp:ps.length=np:=by rfl)(hn:N.length=n:=by rfl)
  (h:∀(kV doc pm:Value)(an:AJ)(cdv ct:Value)(us:AH),us.length=ps.length->bindArgs (dj x x (fW st) (dZ st) (cN st) .none kV doc pm an cdv ct) ⟨us,[]⟩=pure (ps.zip us):=by intro _ _ _ _ _ _ us h;rcases us with _ |⟨_,_ |⟨_,_ |⟨_,_ |⟨_,_ |⟨_,_ |⟨_,_⟩⟩⟩⟩⟩⟩<;>first |(cases h;done) |rfl |(simp at h)):kT B x (k+1) ps (aX np n b):=by
 obtain⟨f,fd,F,kp,m⟩:=Vk X q;exact Jb (okX F S hnp hn λcdv A outer s H E hr=>hb S.nd f cdv A outer s H E hr) (Wo F h) kp m
theorem mkR(F:iX B.K x x st f fd)(S:iY N ps (cN st))(hb:N.Nodup->∀(f:Addr)(cdv:Value)(A:aq)(outer:List az)(s:aa)(H:Hp)(E:XK),cU k (A.deeper (envOfC x (cN st) s.heap.objs.size f cdv))->gA B.K B.cl E0 (aT fR B.P B.w B.K B.mg B.base N x (cN st) f cdv A outer s H E).nox (dZ st) b)(hnp:ps.length=np:=by rfl)(hn:N.length=n:=by rfl):dJ B.P B.w B.K B.mg B.base fR (k+1) f fd ps (kR B.K B.cl (aX np n b)):=Zo F S hnp hn λcdv A outer s H E hr=>hb S.nd f cdv A outer s H E hr
theorem Ao{dsv:Array Value}(F:lO B.K x x st f fd dsv)(S:iY N ps (cN st))(hb:N.Nodup->∀(f:Addr)(cdv:Value)(A:aq)(outer:List az)(s:aa)(H:Hp)(E:XK),cU k (A.deeper (envOfC x (cN st) s.heap.objs.size f cdv))->gA B.K B.cl E (aT (aQ B.P B.w) B.P B.w B.K B.mg B.base N x (cN st) f cdv A outer s H E) (dZ st) b)(hnp:ps.length=np:=by rfl)(hn:N.length=n:=by rfl):dJ B.P B.w B.K B.mg B.base (aQ B.P B.w) (k+1) f fd ps (jF B.K B.cl (aX np n b)):=aaO F S hnp hn λcdv A outer s H E hr=>hb S.nd f cdv A outer s H E hr
section
variable{X:Cx}{cl:Str->Addr}{E:XK}{e:af}{es:List af}{ms:MA}{pos p:ah}{k0:Nat}{g:FM}{dv:AM}
end
section
variable{P:Program}{w:ao}{K:ae}{mg:Str->AI}{base:Heap}{qual:Str}{so sc:Scope}{own:List Str}{cap:List (Nat×Str)}{cd:Value}{A:aq}{outer:List az}{s:aa}{H:Hp}{E:XK}
theorem uQ(a:sc.kind=.function:=by rfl)(b:∀y∈sc.names,y.2=.local->sc.names.lookup y.1=some .local:=by decide+kernel)(c:∀y∈sc.names,y.2≠.cell:=by decide+kernel)(d:∀y∈sc.names,y.2=.free->so.names.lookup y.1=some .cell:=by decide+kernel)(e:∀p∈cap,N[p.1]?=some p.2:=by decide+kernel)(g:∀p∈cap,sc.names.lookup p.2=some .free:=by decide+kernel):gG (aT (aQ P w) P w K mg base N qual so f cd A outer s H E) sc own cap:=Zl so N rfl rfl a b c d e g
end
end
section
variable{P:Program}{w:ao}{K:ae}{mg:Str->AI}{base:Heap}{cl:Str->Addr}{E:XK}{x:Str}{k k0:Nat}{ps:List Str}{g:FM}{e:af}{es:List af}{ms:MA}{pos p:ah}
theorem W7{N:List Str}{qual:Str}{scope:Scope}{fo:Addr}{cd:Value}{A:aq}{outer:List az}{AS:aa}{AT:Hp}(C:sA P w K mg base cl x k ps g)(hr:cU k0 (aT (aQ P w) P w K mg base N qual scope fo cd A outer AS AT E).A)(hk:k<=k0)(hg:Gl (aT (aQ P w) P w K mg base N qual scope fo cd A outer AS AT E) x)
  (ha:dW K cl E (aT (aQ P w) P w K mg base N qual scope fo cd A outer AS AT E) (e::es) ms)(hdb:(x==("__debug__":Str))=false:=by decide)
  (he:starEach (e::es) (aT (aQ P w) P w K mg base N qual scope fo cd A outer AS AT E).env=(false,eval e (aT (aQ P w) P w K mg base N qual scope fo cd A outer AS AT E).env)::starEach es (aT (aQ P w) P w K mg base N qual scope fo cd A outer AS AT E).env:=by rfl)
  (hpl:(backTo pos (starEach es (aT (aQ P w) P w K mg base N qual scope fo cd A outer AS AT E).env)).any (·.1)=false:=by rfl):
  aU K cl E (aT (aQ P w) P w K mg base N qual scope fo cd A outer AS AT E) (.Call (.Name x p) (e::es) [] pos) (cJ g [] ms):=by
 obtain⟨a,d,GX,_,b,kk,n⟩:=C;exact Ox GX (hr.mono hk) hg n kk b .nil Dv.nil ha hdb he hpl
theorem Y9{X:Cx}(hp:iZ (aQ X.prog X.w) X E)(C:sA X.prog X.w X.K X.mg X.base cl x k ps g)(hr:cU k0 X.A)(hk:k<=k0)(hg:Gl X x)(ha:dW X.K cl E X (e::es) ms)(hdb:(x==("__debug__":Str))=false:=by decide)(he:starEach (e::es) X.env=(false,eval e X.env)::starEach es X.env:=by rfl)(hpl:(backTo pos (starEach es X.env)).any (·.1)=false:=by rfl):
  aU X.K cl E X (.Call (.Name x p) (e::es) [] pos) (cJ g [] ms):=by
 obtain⟨a,d,GX,_,b,kk,n⟩:=C;exact Jw hp GX (hr.mono hk) hg n kk b .nil Dv.nil ha hdb he hpl
end
end L2.Pp
namespace L2
open PySem PySem.Spec PySem.W PyProof.Rows Bn
section
variable{K:ae}{x D C:Addr}
theorem M8:isSubtype (.type "type") (.type "tuple")=pure false:=by kernel_rfl
theorem J8{M:fk}{h:Heap}(X:K.In h)(I:lE h x D)(Zt:typeIn K (.ref C)=some (.type "type"))(Zc:(clsIn K C).isSome=true)(be:mroIn K C (.type "BaseException")=some true)(no:mroIn K D (.ref C)=some false):lc M h (excMatches (.ref x) (.ref C)) false:=by
 have ty:lc M h (isType (.ref C)) true:=by
  obtain⟨cd,hc⟩:=qj.mp Zc;unfold clsIn at hc;split at hc
  .rename_i _ _ _ _ ho
   exact(ww (X _ _ ho)).andThen .now
  .cases hc
 have ex:lc M h (isExcClass (.ref C)) true:=ty.andThen (rk X be);unfold excMatches;refine ke ((looks_typeIn X Zt).andThen (by rw[M8];exact .now)) ?_;refine ke .now ?_;refine ke (a:=PUnit.unit) ?_ ?_
 .rw[oy]
  refine ke (a:=qr PUnit.unit) (ke ex ?_) ?_
  .exact .now
  .exact .now
 .refine I.ty.andThen ?_
  refine ke (a:=(none,())) ?_ .now;rw[oy];refine ke (a:=qr (none,())) (ke (rk X no) ?_) ?_
  .exact .now
  .exact .now
end
section
variable{X:Cx}{p pos pos1 pos2 pos3 pos4 pc pd:ah}{e:af}{te:XK->TE}{c1 c2 n:Str}{C1 C2:Addr}{i:Nat}{b₁ b₂:Stmt}{body1 body2:List Stmt}{newId1 newId2:String}
theorem Sz{jv:Nat}{xv:Str}{posv:ah}{ts1 ts2:Addr->Obj->TS}(stk:X.stack=X.env::X.outer)(hN:X.N.Nodup)(hi:X.N[i]?=some n)(hk:X.env.scope.names.lookup n=some .local)
  (hgc1:Gl X c1)(hmc1:X.mg c1=some (.ref C1))(hxC1:cw X.K C1 eW newId1=true)(hgc2:Gl X c2)(hmc2:X.mg c2=some (.ref C2))(hxC2:cw X.K C2 eW newId2=true)
  (Zt:su X.K (.ref C1)=some (.type "type"))(Z1:jL X.K C1)(Zn:jj X.K C2 (.ref C1)=some false)(he:kS X e te)
  (hjv:X.N[jv]?=some xv)(hxv:jP X.env.scope xv)(hs1:∀y oe,oe.cls=.ref C1->eO (X.mk1 y [(y,oe)]) (b₁::body1) (ts1 y oe))(hs2:∀y oe,oe.cls=.ref C2->eO (X.mk1 y [(y,oe)]) (b₂::body2) (ts2 y oe))
  (hsw:swapsWith e (some (.Name xv posv)) pos1.line X.env=pure false:=by rfl)
  (hfv:X.fn xv=true\/X.env.scope.names.lookup xv=some .local:=by first |exact .inl rfl |exact .inr rfl |assumption)
  (hfr:X.env.frame=some X.env.locals:=by rfl)
  (hdc1:(c1==("__debug__":Str))=false:=by decide)(hdc2:(c2==("__debug__":Str))=false:=by decide):
  PS X (.Try [.Assign [.Name xv posv] e pos1] [.ExceptHandler (some (.Name c1 pc)) (some n) (b₁::body1) pos2,.ExceptHandler (some (.Name c2 pd)) (some n) (b₂::body2) pos4] [] [] pos3)
   (λD σ H=>te (λcls _ H2=>(cls=.ref C1/\∀y oe,oe.cls=.ref C1->ts1 y oe {nx:=λσ' H'=>D.nx (σ'.set i none) H',rt:=D.rt,bk:=λσ' H'=>D.bk (σ'.set i none) H',ct:=λσ' H'=>D.ct (σ'.set i none) H'} (σ.set i (some (.ref y))) H2)\/
    (cls=.ref C2/\∀y oe,oe.cls=.ref C2->ts2 y oe {nx:=λσ' H'=>D.nx (σ'.set i none) H',rt:=D.rt,bk:=λσ' H'=>D.bk (σ'.set i none) H',ct:=λσ' H'=>D.ct (σ'.set i none) H'} (σ.set i (some (.ref y))) H2)) σ H (λv H2=>D.nx (σ.set jv (some v)) H2)):=by
 intro AR s σ H D I h;refine wpAny_Try_except (vb (wpAny_Assign_Name (cy (he AR s σ H _ _ _ I h (λs1 H1 e' s' I1 cx=>?_)) (λv s1 q=>?_) λe' s1 z=>z) hsw));rotate_left
 .obtain⟨v,H1,I1,rv,q⟩:=q
  exact lB I1 hN hjv hxv rv (λs2 I2=>mf (mf ⟨_,H1,I2,q⟩)) hfv
 obtain⟨y,C',tt,B,H',rfl,os,bare,un,hok,fl,cov,hE⟩:=cx;rw[stk]at fl;have fr:∀b∈cL X.stack,H' b=none:=λb hb=>by
  obtain⟨_,o,ho,hd⟩:=I1.stack.mem hb;exact un.free b o ho (I1.stkFree b hb) (by intro z;cases z)
 have ff:X.A.frames=some (X.env::X.outer):=by rw[I.ok.frames,stk]
 refine wpAny_looks_onW (base:=B) ff hfr fl λh2 held up2=>?_;refine wpAny_landsW (base:=B) held λh3 fl3 up3=>?_;have up:=zE up2 up3;have I3:=I1.flown os bare un hok cov fr fl3.1 up;rcases hE with⟨hC',hts⟩|⟨hC',hts⟩
 .cases hC'
  refine xp ?_ (by intro z;cases z);refine xq (nI (X:=X.mk1 y []) (I3.mk1 y [] λp hp=>nomatch hp) hgc1 hmc1 ?_ hdc1);obtain⟨bm,Nn,nm,qn,bs,hdct,sn,sub,ab,col,dd,k0,k1,k2,k3,k5,mN,hC,hNs,hni,T⟩:=zJ I.ok.mod.kin hxC1;obtain⟨oe,vs,TT,oT,tts,hoe,⟨hcls,_⟩,hdat,_⟩:=fl3.2.2.2;refine i8 (I3.bk _ _ hC) hoe hcls (T.hasType (by decide)) ?_;refine i9 (lands_againW (base:=B) fl3 λh4 fl4 up4=>?_);have I4:=I1.flown os bare un hok cov fr fl4.1 (zE up up4);obtain⟨oe,vs,TT,oT,tts,hoe,⟨hcls,_⟩,hdat,_⟩:=fl4.2.2.2;have I5:aH (X.mk1 y [(y,oe)]) AR σ H' _:=I4.mk1 y [(y,oe)] λp hp=>by
   rw[sj]at hp;subst hp;have nfr:y∉cL X.stack:=λz=>by
    obtain⟨_,o,ho,hd⟩:=I4.stack.mem z;have hoe':h4.get? y=some oe:=hoe;have ho':h4.get? y=some o:=ho;rw[hoe']at ho';cases ho';exact hd vs hdat
   refine⟨hoe,?_,?_,?_,λv z=>?_⟩
   .cases hq:H' y with
    |none=>rfl
    |some u=>
     obtain⟨o2,g⟩:=(hok y u hq).has;have:=cov y o2 g (.inl ⟨u,hq⟩);rw[fl4.2.1]at this;cases this
   .intro z
    refine nfr ?_;rw[stk];exact jh.mpr ⟨X.env,bc,by rw[hfr];exact congrArg some z.symm⟩
   .intro z
    refine nfr ?_;rw[stk];obtain⟨env,hm,hq⟩:=jh.mp z;exact jh.mpr ⟨env,bp _ hm,hq⟩
   .have:oe.data=.cell v:=z
    rw[hdat]at this;cases this
  refine lB (X:=X.mk1 y [(y,oe)]) (v:=.ref y) I5 hN hi (.inl hk) rfl (λs6 I6=>?_) (.inr hk);refine cy (hs1 y oe hcls AR s6 _ H' _ I6 (hts y oe hcls)) (λfl s7 q7=>?_) λ_ _ z=>fh z;cases fl with
  |next=>obtain⟨σ',H7,I7,q⟩:=q7;exact lY (I7.unmk1 I.ok) hN hi hk λs8 I8=>⟨_,_,I8,q⟩
  |brk=>obtain⟨σ',H7,I7,q⟩:=q7;exact lY (I7.unmk1 I.ok) hN hi hk λs8 I8=>⟨_,_,I8,q⟩
  |cont=>obtain⟨σ',H7,I7,q⟩:=q7;exact lY (I7.unmk1 I.ok) hN hi hk λs8 I8=>⟨_,_,I8,q⟩
  |ret u=>obtain⟨v,σ',H7,I7,r,q⟩:=q7;exact lY (I7.unmk1 I.ok) hN hi hk λs8 I8=>⟨v,_,_,I8,r,q⟩
 .cases hC'
  refine xp ?_ (by intro z;cases z);refine xq (nI (X:=X.mk1 y []) (I3.mk1 y [] λp hp=>nomatch hp) hgc1 hmc1 ?_ hdc1);have of:lE h3 y C2:=by
   obtain⟨oe,vs,TT,oT,tts,hoe,⟨hcls,_⟩,hdat,_⟩:=fl3.2.2.2;exact⟨oe,hoe,hcls⟩
  refine Looks.at (J8 I3.kIn of Zt Z1.ci Z1.be Zn) ?_;show wpAny _ _ (handleBy _ _ _) _ _ _;refine xp ?_ (by intro z;cases z);refine xq (nI (X:=X.mk1 y []) (I3.mk1 y [] λp hp=>nomatch hp) hgc2 hmc2 ?_ hdc2);obtain⟨bm,Nn,nm,qn,bs,hdct,sn,sub,ab,col,dd,k0,k1,k2,k3,k5,mN,hC,hNs,hni,T⟩:=zJ I.ok.mod.kin hxC2;obtain⟨oe,vs,TT,oT,tts,hoe,⟨hcls,_⟩,hdat,_⟩:=fl3.2.2.2;refine i8 (I3.bk _ _ hC) hoe hcls (T.hasType (by decide)) ?_;refine i9 (lands_againW (base:=B) fl3 λh4 fl4 up4=>?_);have I4:=I1.flown os bare un hok cov fr fl4.1 (zE up up4);obtain⟨oe,vs,TT,oT,tts,hoe,⟨hcls,_⟩,hdat,_⟩:=fl4.2.2.2;have I5:aH (X.mk1 y [(y,oe)]) AR σ H' _:=I4.mk1 y [(y,oe)] λp hp=>by
   rw[sj]at hp;subst hp;have nfr:y∉cL X.stack:=λz=>by
    obtain⟨_,o,ho,hd⟩:=I4.stack.mem z;have hoe':h4.get? y=some oe:=hoe;have ho':h4.get? y=some o:=ho;rw[hoe']at ho';cases ho';exact hd vs hdat
   refine⟨hoe,?_,?_,?_,λv z=>?_⟩
   .cases hq:H' y with
    |none=>rfl
    |some u=>
     obtain⟨o2,g⟩:=(hok y u hq).has;have:=cov y o2 g (.inl ⟨u,hq⟩);rw[fl4.2.1]at this;cases this
   .intro z
    refine nfr ?_;rw[stk];exact jh.mpr ⟨X.env,bc,by rw[hfr];exact congrArg some z.symm⟩
   .intro z
    refine nfr ?_;rw[stk];obtain⟨env,hm,hq⟩:=jh.mp z;exact jh.mpr ⟨env,bp _ hm,hq⟩
   .have:oe.data=.cell v:=z
    rw[hdat]at this;cases this
  refine lB (X:=X.mk1 y [(y,oe)]) (v:=.ref y) I5 hN hi (.inl hk) rfl (λs6 I6=>?_) (.inr hk);refine cy (hs2 y oe hcls AR s6 _ H' _ I6 (hts y oe hcls)) (λfl s7 q7=>?_) λ_ _ z=>fh z;cases fl with
  |next=>obtain⟨σ',H7,I7,q⟩:=q7;exact lY (I7.unmk1 I.ok) hN hi hk λs8 I8=>⟨_,_,I8,q⟩
  |brk=>obtain⟨σ',H7,I7,q⟩:=q7;exact lY (I7.unmk1 I.ok) hN hi hk λs8 I8=>⟨_,_,I8,q⟩
  |cont=>obtain⟨σ',H7,I7,q⟩:=q7;exact lY (I7.unmk1 I.ok) hN hi hk λs8 I8=>⟨_,_,I8,q⟩
  |ret u=>obtain⟨v,σ',H7,I7,r,q⟩:=q7;exact lY (I7.unmk1 I.ok) hN hi hk λs8 I8=>⟨v,_,_,I8,r,q⟩
end
end L2
namespace L2.Pp
open PySem PySem.Spec PyProof.Rows Bn
section
variable{K:ae}{cl:Str->Addr}{E:XK}{X:Cx}{p pos pos1 pos2 pos3 pos4 pc pd:ah}{e:af}{me:ME}{c1 c2 n:Str}{i nn:Nat}{b₁ b₂:Stmt}{body1 body2:List Stmt}{newId1 newId2:String}{up1 up2:bS->bS}
def pK(me:ME)(c1 c2:Str)(nn j:Nat)(up1 up2:bS->bS):MS:=λρ S=>if ρ.length=nn then(match me ρ S with
 |.ok v S2=>.nx (ρ.set j (some v)) S2
 |.exc n S2=>if n=c1 then .nx (up1 ρ) S2 else if n=c2 then .nx (up2 ρ) S2 else .fail
 |.fail=>.fail)else .fail
theorem Dw{jv:Nat}{xv:Str}{posv:ah}{ts1 ts2:Addr->Obj->TS}(stk:X.stack=X.env::X.outer)(hN:X.N.Nodup)(hi:X.N[i]?=some n)(hk:X.env.scope.names.lookup n=some .local)
  (hgc1:Gl X c1)(hmc1:X.mg c1=some (.ref (cl c1)))(hxC1:cw X.K (cl c1) eW newId1=true)(hgc2:Gl X c2)(hmc2:X.mg c2=some (.ref (cl c2)))(hxC2:cw X.K (cl c2) eW newId2=true)
  (Zt:su X.K (.ref (cl c1))=some (.type "type"))(Z1:jL X.K (cl c1))(Zn:jj X.K (cl c2) (.ref (cl c1))=some false)(he:wR K cl X e me)
  (hjv:X.N[jv]?=some xv)(hxv:jP X.env.scope xv)(hs1:∀y oe,oe.cls=.ref (cl c1)->eO (X.mk1 y [(y,oe)]) (b₁::body1) (ts1 y oe))(hs2:∀y oe,oe.cls=.ref (cl c2)->eO (X.mk1 y [(y,oe)]) (b₂::body2) (ts2 y oe))
  (hts1:∀(y:Addr)(oe:Obj)(D:kA)(σ:St)(H:Hp)(p:Ph)(S:aN)(ρ:bS),bD K p S H->σ.length=nn->cR K p H ρ σ->(∀H' σ',cK H H'->cR K p H' (up1 ρ) σ'->D.nx σ' H')->
   ts1 y oe {nx:=λσ' H'=>D.nx (σ'.set i none) H',rt:=D.rt,bk:=λσ' H'=>D.bk (σ'.set i none) H',ct:=λσ' H'=>D.ct (σ'.set i none) H'} (σ.set i (some (.ref y))) H)
  (hts2:∀(y:Addr)(oe:Obj)(D:kA)(σ:St)(H:Hp)(p:Ph)(S:aN)(ρ:bS),bD K p S H->σ.length=nn->cR K p H ρ σ->(∀H' σ',cK H H'->cR K p H' (up2 ρ) σ'->D.nx σ' H')->
   ts2 y oe {nx:=λσ' H'=>D.nx (σ'.set i none) H',rt:=D.rt,bk:=λσ' H'=>D.bk (σ'.set i none) H',ct:=λσ' H'=>D.ct (σ'.set i none) H'} (σ.set i (some (.ref y))) H)
  (hsw:swapsWith e (some (.Name xv posv)) pos1.line X.env=pure false:=by rfl)
  (hfv:X.fn xv=true\/X.env.scope.names.lookup xv=some .local:=by first |exact .inl rfl |exact .inr rfl |assumption)
  (hfr:X.env.frame=some X.env.locals:=by rfl)
  (hdc1:(c1==("__debug__":Str))=false:=by decide)(hdc2:(c2==("__debug__":Str))=false:=by decide):
  eE K cl E0 X (.Try [.Assign [.Name xv posv] e pos1] [.ExceptHandler (some (.Name c1 pc)) (some n) (b₁::body1) pos2,.ExceptHandler (some (.Name c2 pd)) (some n) (b₂::body2) pos4] [] [] pos3) (pK me c1 c2 nn jv up1 up2):=by
 intro hK;refine PS.imp (Sz stk hN hi hk hgc1 hmc1 hxC1 hgc2 hmc2 hxC2 Zt Z1 Zn (he hK) hjv hxv hs1 hs2 hsw hfv hfr hdc1 hdc2) ?_
 rintro D σ H ⟨p,S,ρ,s,ev,h⟩
 unfold pK at h;split at h
 .rename_i hl
  refine⟨p,S,ρ,s,ev,?_⟩;cases z:me ρ S with
  |ok v S2=>
   simp only[z]at h;intro q2 H2 y st2 sm2 r2;exact h q2 H2 _ st2 sm2 ((st2.repE ev).set r2 jv)
  |exc m S2=>
   simp only[z]at h;split at h
   .rename_i hm
    subst hm;intro q2 H2 st2 sm2;refine .inl ⟨rfl,λy oe hc=>hts1 y oe D σ H2 q2 S2 ρ sm2 (by rw[<-ev.len];exact hl) (st2.repE ev) λH' σ' hs e'=>h q2 H' σ' (st2.trans (sm2.same hs)) (sm2.ofSame hs) e'⟩
   .split at h
    .rename_i hm
     subst hm;intro q2 H2 st2 sm2;refine .inr ⟨rfl,λy oe hc=>hts2 y oe D σ H2 q2 S2 ρ sm2 (by rw[<-ev.len];exact hl) (st2.repE ev) λH' σ' hs e'=>h q2 H' σ' (st2.trans (sm2.same hs)) (sm2.ofSame hs) e'⟩
    .exact h.elim
  |fail=>simp only[z]at h;exact h.elim
 .exact h.elim
def uJ(x:Str)(n:Int):Str:=if n<1 then Str.empty else if(n==1||x.length==0)=true then x else {cps:=jx (λx1 x2=>x1++x2) #[] (bj n.toNat x.cps)}
def pN:PV->PV->AN
 |.str x,.int n=>if x.length<=1000/\-1000<=n/\n<=1000 then some (.str (uJ x n))else none
 |_,_=>none
theorem Mt:dE X (binaryOp .Mult) (λx y H Q=>∃i n,x=.str i/\y=.int n/\i.length<=1000/\-1000<=n/\n<=1000/\Q (.str (uJ i n)) H):=by
 intro AR s σ H x y v u Q I rx ry h;obtain⟨i,n,rfl,rfl,h1,h2,h3,q⟩:=h;obtain⟨t,rfl⟩:=rx;obtain⟨t',rfl⟩:=ry;have lz:∀{m:Nat},m<=1000->i.length*m<=1000000:=λ{m} hm=>sw h1 hm;have ls:(1000000:Nat)<=sizeLine:=by decide
 refine P.mul_str (by simp;omega) (λa _=>?_) (λa _=>?_) ?_
 .have e:(9007199254740991:Int)<=(2^63-1)/n:=by
   refine Int.le_ediv_of_mul_le (by omega) ?_;have:=Int.mul_le_mul_of_nonneg_left h3 (show(0:Int)<=9007199254740991 by decide);omega
  omega
 .unfold Builtin.Str.tooLong
  have:=lz (m:=n.toNat) (by omega);simp;omega
 .unfold uJ at q
  split
  .rename_i c
   rw[if_pos c]at q;exact⟨by decide,.str _,H,I.tok _,⟨_,rfl⟩,q⟩
  .rename_i c
   rw[if_neg c]at q;split
   .rename_i d
    rw[if_pos d]at q;exact⟨.str _,H,I,⟨_,rfl⟩,q⟩
   .rename_i d
    rw[if_neg d]at q;refine⟨?_,.str _,H,I.tok _,⟨_,rfl⟩,q⟩;have f0:∀(m:Nat)(acc:Array Nat),(jx (λx1 x2=>x1++x2) acc (bj m i.cps)).size=acc.size+m*i.cps.size:=λm=>by
     induction m with
     |zero=>simp
     |succ m ih=>intro acc;rw[gw,wb,ih,Array.size_append,qp];omega
    show(jx (λx1 x2=>x1++x2) #[] (bj n.toNat i.cps)).size<=sizeLine;rw[f0];have:=lz (m:=n.toNat) (by omega);have e:i.length=i.cps.size:=rfl;rw[e,rn]at this;simp;omega
theorem Yw:eF K (λx y H Q=>∃i n,x=.str i/\y=.int n/\i.length<=1000/\-1000<=n/\n<=1000/\Q (.str (uJ i n)) H) pN:=λ{p S H a b c x y Q} s ra rb e k=>by
 unfold pN at e;split at e
 .split at e
  .rename_i h
   cases e;exact⟨_,_,ra.str,rb.int,h.1,h.2.1,h.2.2,k H _ (cK.refl H) (lQ _)⟩
  .cases e
 .cases e
end
theorem Lk:bootBuiltins "len"=some (.builtin "len"):=by decide+kernel
theorem Q5:bootBuiltins "abs"=some (.builtin "abs"):=by decide+kernel
theorem K6:bootBuiltins "all"=some (.builtin "all"):=by decide+kernel
theorem Q9:bootBuiltins "sum"=some (.builtin "sum"):=by decide+kernel
theorem Kt:bootBuiltins "sorted"=some (.builtin "sorted"):=by decide+kernel
theorem Em:bootBuiltins "int"=some (.type "int"):=by decide+kernel
theorem D0:bootBuiltins "bool"=some (.type "bool"):=by decide+kernel
theorem A6:bootBuiltins "list"=some (.type "list"):=by decide+kernel
theorem Lh:bootBuiltins "tuple"=some (.type "tuple"):=by decide+kernel
end L2.Pp
set_option Elab.async false
set_option compiler.extract_closed false
set_option bootstrap.genMatcherCode false
set_option maxRecDepth 100000
set_option maxHeartbeats 4000000
namespace Sc
noncomputable section
open PySem L2 Bn L2.Pp
abbrev Ol:Stmt:=bB 7
abbrev Zf:Stmt:=bB 8
abbrev Ah:Stmt:=bB 9
abbrev qQ:Stmt:=bB 10
abbrev rB:Stmt:=bB 12
abbrev Fe:Stmt:=bB 13
abbrev Yc:Stmt:=bB 14
abbrev Cn:Stmt:=bB 15
abbrev Ni:Stmt:=bB 16
abbrev Oc:Stmt:=bB 17
abbrev Mk:Stmt:=bB 18
abbrev Tg:Stmt:=bB 20
abbrev Gc:Stmt:=bB 25
abbrev Cd:Stmt:=bB 26
abbrev Pc:Stmt:=bB 27
abbrev Jd:Stmt:=bB 28
abbrev Jc:Stmt:=bB 29
abbrev Vd:Stmt:=bB 30
abbrev Qd:Stmt:=bB 31
abbrev Xk:Stmt:=bB 33
abbrev Ij:Stmt:=bB 34
abbrev Tl:Stmt:=bB 35
abbrev Kf:Stmt:=bB 36
abbrev Yh:Stmt:=bB 37
abbrev Jg:Stmt:=bB 38
abbrev Yj:Stmt:=bB 39
abbrev Pl:Stmt:=bB 40
abbrev Ai:Stmt:=bB 41
abbrev Sk:Stmt:=bB 42
abbrev Fk:Stmt:=bB 43
abbrev Il:Stmt:=bB 44
abbrev Ve:Stmt:=bB 45
abbrev Tc:Stmt:=bB 46
abbrev Ec:Stmt:=bB 47
abbrev Hd:Stmt:=bB 48
abbrev Xd:Stmt:=bB 49
abbrev De:Stmt:=bB 50
abbrev Se:Stmt:=bB 51
abbrev Dd:Stmt:=bB 52
abbrev Pd:Stmt:=bB 53
abbrev Rc:Stmt:=bB 54
abbrev Bf:Stmt:=bB 55
abbrev Te:Stmt:=bB 56
abbrev Of:Stmt:=bB 57
abbrev Fh:Stmt:=bB 58
abbrev Dc:Stmt:=bB 59
abbrev Cg:Stmt:=bB 60
abbrev Hh:Stmt:=bB 61
abbrev mT:Stmt:=bB 62
def zZ:MS:=(aO (bN (aZ (aB eZ (aA 0) (mC (.int 0)))) (bG (mC (.int 1))) bP)
 (aO (bN (aZ (aB fS (aA 0) (mC (.int 0)))) (bG (cD dA (mC (.int 1)))) bP)
 (bG (mC (.int 0)))))
def nM:FM:=aX 1 1 zZ
def xZ:MS:=(aO (mK (aZ (aB gM (aA 1) (mC (.int 0)))) (aO (aW 2 (aB fB (aA 0) (aA 1)))
 (aO (aW 0 (aA 1))
 (aW 1 (aA 2)))))
 (bG (mR eJ (aC (aA 0) aD))))
def oO:FM:=aX 2 3 xZ
def xY:MS:=(aO (aW 1 (mC (.int 0)))
 (aO (dB (bK (aA 0)) (gN 2) (aW 1 (bA oO [] (aC (aA 1) (aC (aA 2) aD)))))
 (bG (bI ["number"] [(1,"common")] (bK (aA 0)) (gN 0) (aB eC (aA 0) (aA 1))))))
def tI:FM:=aX 1 3 xY
def xM:MS:=(aO (bN (aZ (aB bJ (aA 1) (mC (.int 0)))) (mP "NoNumber") bP)
 (aO (aW 2 (aB bC (bA nM [] (aC (aA 1) aD)) (bA oO [] (aC (aA 0) (aC (aA 1) aD)))))
 (bG (mN gJ (aC (aB eC (aA 0) (aA 2)) (aC (aB eC (aA 1) (aA 2)) aD))))))
def mF:FM:=aX 2 3 xM
def zL:MS:=(aO (bN (aZ (aB bJ (aA 1) (mC (.int 0)))) (mP "NoPoint") bP)
 (bG (mR jI (aC (bI ["number"] [(1,"bottom")] (bK (bA tI [] (aC (aB aF (mR nN (aC (aA 0) aD)) (mN eR (aC (aA 1) aD))) aD))) (gN 0) (aB bC (bA nM [] (aC (aA 1) aD)) (aA 0))) aD))))
def nJ:FM:=aX 2 2 zL
def sW:MS:=(aO (aW 1 (mC (.int 1)))
 (aO (dB (bK (aA 0)) (gN 2) (aW 1 (aB bC (aA 1) (aB aE (aA 2) (mC (.int 1))))))
 (bG (cJ nJ [] (aC (bI ["part"] [(1,"bottom")] (bK (aA 0)) (gN 0) (aB bC (aB aE (aA 0) (mC (.int 0))) (aB eC (aA 1) (aB aE (aA 0) (mC (.int 1)))))) (aC (aA 1) aD))))))
def mE:FM:=aX 1 3 sW
def xB:MS:=(bG (bI ["near","far"] [(0,"start"),(1,"end")] (kB (aC (dF (aA 0) bR (bQ (cD dA (mC (.int 1))))) (aC (dF (aA 1) bR (bQ (cD dA (mC (.int 1))))) aD))) (gT 2 (dQ (gN 0) (dQ (gN 1) fK))) (aB dN (aB bC (aA 1) (aB aE (aA 2) (cD dA (mC (.int 1))))) (aB bC (aA 0) (aB aE (aA 3) (cD dA (mC (.int 1))))))))
def oH:FM:=aX 2 2 xB
def Ab:MS:=(bG (mR jB (aC (bI ["one","other"] [] (kB (aC (aA 0) (aC (aA 1) aD))) (gT 2 (dQ (gN 0) (dQ (gN 1) fK))) (aB bC (aA 0) (aA 1))) aD)))
def vE:FM:=aX 2 2 Ab
def tQ:MS:=(aO (aW 1 (aB aE (aA 0) (mC (.int 0))))
 (aO (bN (aZ (aB bJ (mR bM (aC (aA 0) aD)) (mC (.int 1)))) (bG (mN eR (aC (cD dA (aB aE (aA 1) (mC (.int 1)))) (aC (aB aE (aA 1) (mC (.int 0))) aD)))) bP)
 (aO (aW 2 (aB aE (aA 0) (mC (.int 1))))
 (bG (mN eR (aC (aB dN (aB bC (aB aE (aA 1) (mC (.int 1))) (aB aE (aA 2) (mC (.int 2)))) (aB bC (aB aE (aA 1) (mC (.int 2))) (aB aE (aA 2) (mC (.int 1))))) (aC (aB dN (aB bC (aB aE (aA 1) (mC (.int 2))) (aB aE (aA 2) (mC (.int 0)))) (aB bC (aB aE (aA 1) (mC (.int 0))) (aB aE (aA 2) (mC (.int 2))))) (aC (aB dN (aB bC (aB aE (aA 1) (mC (.int 0))) (aB aE (aA 2) (mC (.int 1)))) (aB bC (aB aE (aA 1) (mC (.int 1))) (aB aE (aA 2) (mC (.int 0))))) aD))))))))
def oQ:FM:=aX 1 3 tQ
def sL:MS:=(aO (aW 1 (bI ["p"] [(0,"points")] (bK (dF (aA 0) (bQ (mC (.int 1))) bR)) (gN 0) (bA oH [] (aC (aB aE (aA 1) (mC (.int 0))) (aC (aA 0) aD)))))
 (bG (bA vE [] (aC (bA oQ [] (aC (dF (aA 1) bR (bQ (cD dA (mC (.int 1))))) aD)) (aC (aB aE (aA 1) (cD dA (mC (.int 1)))) aD)))))
def oI:FM:=aX 1 2 sL
def uT:MS:=(bG (bA nM [] (aC (bA oI [] (aC (aA 0) aD)) aD)))
def nK:FM:=aX 1 1 uT
def qS:MS:=(aO (aW 1 (mR oV (aC (aA 0) aD)))
 (aO (aW 2 (bA nK [] (aC (aA 1) aD)))
 (aO (bN (aZ (aB bJ (aA 2) (mC (.int 0)))) (mP "Flat") bP)
 (aO (bN (aZ (aB fS (aA 2) (mC (.int 0)))) (aW 1 (aB aF (dF (aA 1) bR (bQ (cD dA (mC (.int 2))))) (mN eR (aC (aB aE (aA 1) (cD dA (mC (.int 1)))) (aC (aB aE (aA 1) (cD dA (mC (.int 2)))) aD))))) bP)
 (bG (mR jI (aC (aA 1) aD)))))))
def iK:FM:=aX 1 3 qS
def wZ:MS:=(bN (iC (aZ (aA 0))) (mP "NoText") bP)
def kF:FM:=aX 1 1 wZ
def xC:MS:=(aO (eI (cJ kF [] (aC (lH (jJ jN jN (mC (.int 1)) (mR fE (aC (aA 0) aD)) (mC (.int 60))) (mR eM (aC (bI ["sign"] [] (lM (aA 0)) (gN 0) (aB jZ (aA 0) (mC (.str "0123456789")))) aD))) aD)))
 (bG (mR iR (aC (aA 0) aD))))
def gR:FM:=aX 1 1 xC
def kW:MS:=(aO (aW 1 (cC fI (aA 0) (aC (mC (.str "/")) aD)))
 (aO (eI (cJ kF [] (aC (aB jN (mR bM (aC (aA 1) aD)) (mC (.int 2))) aD)))
 (aO (aW 2 (cC jS (aB aE (aA 1) (mC (.int 0))) (aC (mC (.str "-")) aD)))
 (aO (aW 3 (cJ gR [] (aC (jO (aZ (aA 2)) (dM (aB aE (aA 1) (mC (.int 0))) (bQ (mC (.int 1))) bR) (aB aE (aA 1) (mC (.int 0)))) aD)))
 (aO (aW 4 (jO (aZ (aB bJ (mR bM (aC (aA 1) aD)) (mC (.int 2)))) (cJ gR [] (aC (aB aE (aA 1) (mC (.int 1))) aD)) (mC (.int 1))))
 (aO (eI (cJ kF [] (aC (aB gM (aA 4) (mC (.int 0))) aD)))
 (bG (cJ mF [] (aC (jO (aZ (aA 2)) (cD dA (aA 3)) (aA 3)) (aC (aA 4) aD))))))))))
def eB:FM:=aX 1 5 kW
def sO:MS:=(aO (aW 1 (fD ["text"] [] (bK (cC fI (aA 0) (aC (mC (.str " ")) aD))) (gN 0) (cJ eB [] (aC (aA 0) aD))))
 (aO (eI (cJ kF [] (aC (vX (aB bJ (mR bM (aC (aA 1) aD)) (mC (.int 2))) (aB bJ (mR bM (aC (aA 1) aD)) (mC (.int 3)))) aD)))
 (bG (bA mE [] (aC (aA 1) aD)))))
def gZ:FM:=aX 1 2 sO
def qK:MS:=(aO (aW 1 (fD ["part"] [] (bK (cC fI (aA 0) (aC (mC (.str ", ")) aD))) (gN 0) (cJ gZ [] (aC (aA 0) aD))))
 (aO (eI (cJ kF [] (aC (mR eM (aC (bI ["p"] [(1,"corners")] (bK (aA 1)) (gN 0) (aB bJ (mR bM (aC (aA 0) aD)) (mR bM (aC (aA 1) aD)))) aD)) aD)))
 (bG (aA 1))))
def gO:FM:=aX 1 2 qK
def sP:MS:=(bG (jO (aZ (aB bJ (aA 0) (mC (.str "none")))) (mN eR aD) (cC fI (aA 0) (aC (mC (.str " + ")) aD))))
def nC:FM:=aX 1 1 sP
def lZ:MS:=(aO (aW 1 (fD ["text"] [] (bK (bA nC [] (aC (aA 0) aD))) (gN 0) (cJ gO [] (aC (aA 0) aD))))
 (aO (eI (cJ kF [] (aC (mR eM (aC (bI ["corners"] [(1,"rows")] (bK (aA 1)) (gN 0) (aB bJ (mR bM (aC (aA 0) aD)) (mR bM (aC (aB aE (aA 1) (mC (.int 0))) aD)))) aD)) aD)))
 (bG (mR jI (aC (fD ["corners"] [] (bK (aA 1)) (gN 0) (cJ iK [] (aC (aA 0) aD))) aD)))))
def iI:FM:=aX 1 2 lZ
def zX:MS:=(aO (aW 1 (gX aD))
 (aO (dB (vP (aC (dF (aA 0) bR (bQ (mC (.int 63)))) aD)) (gT 2 (dQ (gN 2) (dQ (gN 3) fK))) (bN (aZ (aB nX (aA 3) (aB kP (mC (.int 10)) (mC (.int 18))))) (eI (fM (aA 1) (aC (aB dN (aA 3) (aB kP (mC (.int 10)) (mC (.int 18)))) aD))) (aO (aW 4 (aB fB (aB bC (aB aF (aB aF (aB aF (aA 3) (aB bC (aB bC (mC (.int 7)) (aA 2)) (aA 2))) (aB bC (mC (.int 13)) (aA 2))) (mC (.int 5))) (mC (.int 48271))) (mC (.int 2147483647))))
 (aO (aW 5 (aB fB (aB bC (aB aF (aB aF (aB aF (aA 3) (aB bC (aB bC (mC (.int 11)) (aA 2)) (aA 2))) (aB bC (mC (.int 17)) (aA 2))) (mC (.int 3))) (mC (.int 40692))) (mC (.int 2147483399))))
 (aO (aW 6 (aB fB (aB bC (aB aF (aB aF (aB aF (aA 3) (aB bC (aB bC (mC (.int 5)) (aA 2)) (aA 2))) (aB bC (mC (.int 29)) (aA 2))) (mC (.int 8))) (mC (.int 39373))) (mC (.int 2147483587))))
 (aO (aW 4 (aB fB (aB bC (aA 4) (mC (.int 52021))) (mC (.int 1000000007))))
 (aO (aW 5 (aB fB (aB bC (aA 5) (mC (.int 30011))) (mC (.int 998244353))))
 (aO (aW 6 (aB fB (aB bC (aA 6) (mC (.int 45989))) (mC (.int 1000000009))))
 (eI (fM (aA 1) (aC (aB aF (aB bC (aB aF (aB bC (aA 4) (mC (.int 998244353))) (aA 5)) (mC (.int 1000000009))) (aA 6)) aD)))))))))))
 (bG (aA 1))))
def oZ:FM:=aX 1 7 zX
def uE:MS:=(aO (mK (gI (aZ (aB eZ (mR bM (aC (aA 0) aD)) (mC (.int 0)))) (aZ (aB bJ (aB aE (aA 0) (mC (.int 0))) (mC (.int 0))))) (eI (kO (aA 0) (aC (mC (.int 0)) aD))))
 (aO (bN (aZ (aB bJ (mR bM (aC (aA 0) aD)) (mC (.int 0)))) (bG (mC (.int 0))) bP)
 (aO (aW 2 (aB fB (aB aE (aA 0) (mC (.int 0))) (aA 1)))
 (aO (fX (aA 0) (mC (.int 0)) (aB eC (aB aE (aA 0) (mC (.int 0))) (aA 1)))
 (bG (aA 2))))))
def dG:FM:=aX 2 3 uE
def Ka:MS:=(aO (aW 0 (mR eJ (aC (aA 0) aD)))
 (aO (aW 1 (mR eJ (aC (aA 1) aD)))
 (aO (mK (aZ (aB eZ (aA 1) (mC (.int 0)))) (rZ 0 1 (aC (aA 1) (aC (aB fB (aA 0) (aA 1)) aD))))
 (bG (aA 0)))))
def rK:FM:=aX 2 2 Ka
def tO:MS:=(aO (aW 1 (mC (.int 0)))
 (aO (dB (bK (aA 0)) (gN 2) (aW 1 (bA rK [] (aC (aA 1) (aC (aA 2) aD)))))
 (aO (bN (aZ (aB bJ (aA 1) (mC (.int 0)))) (bG (mR jI (aC (aA 0) aD))) bP)
 (bG (mR jI (aC (bI ["_law_number"] [(1,"_law_by")] (bK (aA 0)) (gN 0) (aB eC (aA 0) (aA 1))) aD))))))
def gD:FM:=aX 1 3 tO
def yM:MS:=(bG (lH (cD (fP "int") (aA 0)) (cD rY (cD (fP "bool") (aA 0)))))
def rA:FM:=aX 1 1 yM
def yF:MS:=(aO (bN (jD (iC (aZ (cD (fP "tuple") (aA 0)))) (aZ (aB gM (mR bM (aC (aA 0) aD)) (aA 1)))) (bG (mC (.bl false))) bP)
 (bG (mR eM (aC (bI ["_law_number"] [] (bK (aA 0)) (gN 0) (bA rA [] (aC (aA 0) aD))) aD))))
def tL:FM:=aX 2 2 yF
def zM:MS:=(aO (bN (aZ (aB fS (aA 1) (mC (.int 0)))) (bG (bA gD [] (aC (mN eR (aC (aB dN (mC (.int 0)) (aA 0)) (aC (aB dN (mC (.int 0)) (aA 1)) aD))) aD))) bP)
 (bG (bA gD [] (aC (mN eR (aC (aA 0) (aC (aA 1) aD))) aD))))
def lD:FM:=aX 2 2 zM
def zU:MS:=(bG (bI ["_law_k"] [(1,"_law_q"),(0,"_law_p")] (eV (aC (aB dN (mR bM (aC (aA 0) aD)) (mC (.int 1))) aD)) (gN 0) (aB dN (aB bC (aB aE (aA 1) (aA 0)) (aB aE (aA 2) (cD dA (mC (.int 1))))) (aB bC (aB aE (aA 2) (aA 0)) (aB aE (aA 1) (cD dA (mC (.int 1))))))))
def pG:FM:=aX 2 2 zU
def yY:MS:=(aO (aW 2 (aB dN (aB bC (aB aE (aA 0) (mC (.int 1))) (aB aE (aA 1) (mC (.int 2)))) (aB bC (aB aE (aA 0) (mC (.int 2))) (aB aE (aA 1) (mC (.int 1))))))
 (aO (aW 3 (aB dN (aB bC (aB aE (aA 0) (mC (.int 2))) (aB aE (aA 1) (mC (.int 0)))) (aB bC (aB aE (aA 0) (mC (.int 0))) (aB aE (aA 1) (mC (.int 2))))))
 (aO (aW 4 (aB dN (aB bC (aB aE (aA 0) (mC (.int 0))) (aB aE (aA 1) (mC (.int 1)))) (aB bC (aB aE (aA 0) (mC (.int 1))) (aB aE (aA 1) (mC (.int 0))))))
 (bG (mN eR (aC (aA 2) (aC (aA 3) (aC (aA 4) aD))))))))
def tT:FM:=aX 2 5 yY
def zS:MS:=(bG (mR jB (aC (bI ["_law_one","_law_other"] [] (kB (aC (aA 0) (aC (aA 1) aD))) (gT 2 (dQ (gN 0) (dQ (gN 1) fK))) (aB bC (aA 0) (aA 1))) aD)))
def uW:FM:=aX 2 2 zS
def uF:MS:=(aO (bN (aZ (aB bJ (mR bM (aC (aA 0) aD)) (mC (.int 2)))) (bG (aB dN (aB bC (aB aE (aB aE (aA 0) (mC (.int 0))) (mC (.int 0))) (aB aE (aB aE (aA 0) (mC (.int 1))) (mC (.int 1)))) (aB bC (aB aE (aB aE (aA 0) (mC (.int 0))) (mC (.int 1))) (aB aE (aB aE (aA 0) (mC (.int 1))) (mC (.int 0)))))) bP)
 (bG (bA uW [] (aC (bA tT [] (aC (aB aE (aA 0) (mC (.int 0))) (aC (aB aE (aA 0) (mC (.int 1))) aD))) (aC (aB aE (aA 0) (mC (.int 2))) aD)))))
def oW:FM:=aX 1 1 uF
def uS:MS:=(bG (bA oW [] (aC (bI ["_law_p"] [(0,"_law_points_here")] (bK (dF (aA 0) (bQ (mC (.int 1))) bR)) (gN 0) (bA pG [] (aC (aB aE (aA 1) (mC (.int 0))) (aC (aA 0) aD)))) aD)))
def kK:FM:=aX 1 1 uS
def sT:MS:=(aO (aW 1 (mR oV (aC (aA 0) aD)))
 (aO (bN (aZ (aB fS (bA kK [] (aC (aA 1) aD)) (mC (.int 0)))) (aW 1 (aB aF (dF (aA 1) bR (bQ (cD dA (mC (.int 2))))) (mN eR (aC (aB aE (aA 1) (cD dA (mC (.int 1)))) (aC (aB aE (aA 1) (cD dA (mC (.int 2)))) aD))))) bP)
 (bG (mR jI (aC (aA 1) aD)))))
def kY:FM:=aX 1 2 sT
def xA:MS:=(aO (bN (jD (iC (aZ (bA tL [] (aC (aA 0) (aC (aB aF (aA 1) (mC (.int 1))) aD))))) (aZ (aB fS (aB aE (aA 0) (cD dA (mC (.int 1)))) (mC (.int 1))))) (bG (mC (.bl false))) bP)
 (bG (aB bJ (bA gD [] (aC (aA 0) aD)) (aA 0))))
def qL:FM:=aX 2 2 xA
def wX:MS:=(aO (bN (jD (iC (aZ (cD (fP "tuple") (aA 0)))) (aZ (aB gM (mR bM (aC (aA 0) aD)) (aB aF (aA 1) (mC (.int 1)))))) (bG (mC (.bl false))) bP)
 (aO (bN (iC (aZ (mR eM (aC (bI ["_law_p"] [(1,"_law_many")] (bK (aA 0)) (gN 0) (bA qL [] (aC (aA 0) (aC (aA 1) aD)))) aD)))) (bG (mC (.bl false))) bP)
 (bG (lH (aB gM (bA kK [] (aC (aA 0) aD)) (mC (.int 0))) (aB bJ (bA kY [] (aC (aA 0) aD)) (aA 0))))))
def qI:FM:=aX 2 2 wX
def xD:MS:=(aO (bN (iC (aZ (cD (fP "tuple") (aA 0)))) (bG (mC (.bl false))) bP)
 (bG (mR eM (aC (bI ["_law_points_here"] [(1,"_law_many")] (bK (aA 0)) (gN 0) (bA qI [] (aC (aA 0) (aC (aA 1) aD)))) aD))))
def oK:FM:=aX 2 2 xD
def xF:MS:=(aO (aW 2 (mC (.int 1)))
 (aO (dB (bK (aA 0)) (gN 3) (aW 2 (aB bC (aA 2) (aB aE (aA 3) (cD dA (mC (.int 1)))))))
 (aO (aW 4 (gX aD))
 (aO (dB (eV (aC (aB dN (mR bM (aC (aB aE (aA 0) (mC (.int 0))) aD)) (mC (.int 1))) aD)) (gN 5) (eI (fM (aA 4) (aC (mR jB (aC (bI ["_law_weight","_law_p"] [(2,"_law_under"),(5,"_law_k")] (kB (aC (aA 1) (aC (aA 0) aD))) (gT 2 (dQ (gN 0) (dQ (gN 1) fK))) (aB bC (aB bC (aA 0) (aB aE (aA 1) (aA 3))) (aB eC (aA 2) (aB aE (aA 1) (cD dA (mC (.int 1))))))) aD)) aD))))
 (bG (bA gD [] (aC (aB aF (aA 4) (mN eR (aC (aB bC (aA 2) (mR jB (aC (aA 1) aD))) aD))) aD)))))))
def sQ:FM:=aX 2 6 xF
def xW:MS:=(bG (bA sQ [] (aC (aA 0) (aC (aB sC (mN eR (aC (mC (.int 1)) aD)) (mR bM (aC (aA 0) aD))) aD))))
def kH:FM:=aX 1 1 xW
def xL:MS:=(aO (bN (jD (aZ (aB fS (mR fE (aC (aA 0) aD)) (mC (.int 1)))) (aZ (aB eZ (mR fE (aC (aA 0) aD)) (mC (.int 60))))) (bG (mC (.bl false))) bP)
 (bG (mR eM (aC (bI ["_law_sign"] [] (lM (aA 0)) (gN 0) (aB jZ (aA 0) (mC (.str "0123456789")))) aD))))
def kG:FM:=aX 1 1 xL
def sM:MS:=(aO (aW 1 (mC (.int 1)))
 (aO (bN (aZ (aB bJ (dM (aA 0) bR (bQ (mC (.int 1)))) (mC (.str "-")))) (aO (aW 1 (cD dA (mC (.int 1))))
 (aW 0 (dM (aA 0) (bQ (mC (.int 1))) bR))) bP)
 (aO (aW 2 (mC (.str "1")))
 (aO (aW 3 (cC mS (aA 0) (aC (mC (.str "/")) aD)))
 (aO (bN (aZ (aB nX (aA 3) (mC (.int 0)))) (aO (aW 2 (dM (aA 0) (bQ (aB aF (aA 3) (mC (.int 1)))) bR))
 (aW 0 (dM (aA 0) bR (bQ (aA 3))))) bP)
 (aO (bN (jD (iC (aZ (bA kG [] (aC (aA 0) aD)))) (iC (aZ (bA kG [] (aC (aA 2) aD))))) (bG (mC .non)) bP)
 (aO (bN (aZ (aB bJ (mR iR (aC (aA 2) aD)) (mC (.int 0)))) (bG (mC .non)) bP)
 (bG (bA lD [] (aC (aB bC (aA 1) (mR iR (aC (aA 0) aD))) (aC (mR iR (aC (aA 2) aD)) aD)))))))))))
def iG:FM:=aX 1 4 sM
def sS:MS:=(aO (aW 1 (cC fI (aA 0) (aC (mC (.str " ")) aD)))
 (aO (bN (gI (aZ (aB gM (mR bM (aC (aA 1) aD)) (mC (.int 2)))) (aZ (aB gM (mR bM (aC (aA 1) aD)) (mC (.int 3))))) (bG (mC .non)) bP)
 (aO (aW 2 (bI ["_law_word"] [] (bK (aA 1)) (gN 0) (bA iG [] (aC (aA 0) aD))))
 (aO (bN (aZ (aB fL (mC .non) (aA 2))) (bG (mC .non)) bP)
 (aO (aW 3 (mC (.int 1)))
 (aO (dB (bK (aA 2)) (gN 4) (aW 3 (aB bC (aA 3) (aB aE (aA 4) (mC (.int 1))))))
 (bG (bA gD [] (aC (aB aF (bI ["_law_number"] [(3,"_law_under")] (bK (aA 2)) (gN 0) (aB bC (aB aE (aA 0) (mC (.int 0))) (aB eC (aA 1) (aB aE (aA 0) (mC (.int 1)))))) (mN eR (aC (aA 3) aD))) aD)))))))))
def iH:FM:=aX 1 5 sS
def qM:MS:=(aO (aW 1 (bI ["_law_word"] [] (bK (cC fI (aA 0) (aC (mC (.str ", ")) aD))) (gN 0) (bA iH [] (aC (aA 0) aD))))
 (aO (bN (jD (aZ (aB fL (mC .non) (aA 1))) (gI (aZ (aB gM (mR bM (aC (aA 1) aD)) (mC (.int 3)))) (aZ (aB gM (mR bM (aC (aA 1) aD)) (mC (.int 4)))))) (bG (mC .non)) bP)
 (aO (bN (iC (aZ (mR eM (aC (bI ["_law_p"] [(1,"_law_points_here")] (bK (aA 1)) (gN 0) (aB bJ (mR bM (aC (aA 0) aD)) (mR bM (aC (aA 1) aD)))) aD)))) (bG (mC .non)) bP)
 (bG (aA 1)))))
def iF:FM:=aX 1 2 qM
def oN:MS:=(aO (bN (aZ (aB bJ (aA 0) (mC (.str "none")))) (bG (mN eR aD)) bP)
 (aO (aW 1 (bI ["_law_words"] [] (bK (cC fI (aA 0) (aC (mC (.str " + ")) aD))) (gN 0) (bA iF [] (aC (aA 0) aD))))
 (aO (bN (aZ (aB fL (mC .non) (aA 1))) (bG (mC .non)) bP)
 (aO (bN (iC (aZ (mR eM (aC (bI ["_law_points_here"] [(1,"_law_rows")] (bK (aA 1)) (gN 0) (aB bJ (mR bM (aC (aA 0) aD)) (mR bM (aC (aB aE (aA 1) (mC (.int 0))) aD)))) aD)))) (bG (mC .non)) bP)
 (bG (aA 1))))))
def kZ:FM:=aX 1 2 oN
def xK:MS:=(aO (aW 1 (mC (.str " ,+/-0123456789nonepushturnby")))
 (aO (bN (aZ (aB bJ (bA dG [] (aC (aA 0) (aC (mC (.int 2)) aD))) (mC (.int 0)))) (bG (aB nS (aA 1) (bA dG [] (aC (aA 0) (aC (mR fE (aC (aA 1) aD)) aD))))) bP)
 (aO (aW 2 (mC (.str " !\"#$&'()*+,-./0123456789:;<=>?@ABCDEFGHIJKLMNOPQRSTUVWXYZ[\\]^_`abcdefghijklmnopqrstuvwxyz{|}~")))
 (bG (aB nS (aA 2) (bA dG [] (aC (aA 0) (aC (mR fE (aC (aA 2) aD)) aD))))))))
def sV:FM:=aX 1 3 xK
def yD:MS:=(aO (aW 2 (bA dG [] (aC (aA 0) (aC (mC (.int 6)) aD))))
 (aO (bN (aZ (aB eZ (aA 2) (mC (.int 2)))) (bG (aA 1)) bP)
 (aO (aW 3 (bA dG [] (aC (aA 0) (aC (aB aF (mR fE (aC (aA 1) aD)) (mC (.int 1))) aD))))
 (aO (aW 4 (bA sV [] (aC (aA 0) aD)))
 (aO (bN (aZ (aB bJ (aA 2) (mC (.int 0)))) (bG (aB iB (aB iB (dM (aA 1) bR (bQ (aA 3))) (aA 4)) (dM (aA 1) (bQ (aA 3)) bR))) bP)
 (aO (bN (aZ (aB bJ (aA 2) (mC (.int 1)))) (bG (aB iB (dM (aA 1) bR (bQ (aA 3))) (dM (aA 1) (bQ (aB aF (aA 3) (mC (.int 1)))) bR))) bP)
 (bG (aB iB (aB iB (dM (aA 1) bR (bQ (aA 3))) (aA 4)) (dM (aA 1) (bQ (aB aF (aA 3) (mC (.int 1)))) bR)))))))))
def qU:FM:=aX 2 5 yD
def tY:MS:=(aO (rS (gT 2 (dQ (gN 1) (dQ (gN 2) fK))) (bA lD [] (aC (aA 1) (aC (aA 2) aD))))
 (aO (aW 3 (aB aF (mC (.int 1)) (bA dG [] (aC (aA 0) (aC (mC (.int 3)) aD)))))
 (aO (aW 4 (aB iB (aB pN (mC (.str "0")) (bA dG [] (aC (aA 0) (aC (mC (.int 3)) aD)))) (mR nT (aC (aB bC (mR eJ (aC (aA 1) aD)) (aA 3)) aD))))
 (aO (aW 5 (aB iB (aB pN (mC (.str "0")) (bA dG [] (aC (aA 0) (aC (mC (.int 3)) aD)))) (mR nT (aC (aB bC (aA 2) (aA 3)) aD))))
 (aO (bN (jD (aZ (aB fS (aA 1) (mC (.int 0)))) (gI (aZ (aB bJ (aA 1) (mC (.int 0)))) (aZ (aB bJ (aA 3) (mC (.int 3)))))) (aW 4 (aB iB (mC (.str "-")) (aA 4))) bP)
 (aO (bN (gI (aZ (aB bJ (aB bC (aA 2) (aA 3)) (mC (.int 1)))) (aZ (aB bJ (bA dG [] (aC (aA 0) (aC (mC (.int 2)) aD))) (mC (.int 0))))) (bG (aA 4)) bP)
 (bG (aB iB (aB iB (aA 4) (mC (.str "/"))) (aA 5)))))))))
def oR:FM:=aX 3 6 tY
def wY:MS:=(aO (aW 2 (rR (aC (aA 1) aD)))
 (aO (aW 3 (gX aD))
 (aO (dB (eV (aC (mR bM (aC (aA 1) aD)) aD)) (gN 4) (aO (aW 5 (kO (aA 2) (aC (bA dG [] (aC (aA 0) (aC (mR bM (aC (aA 2) aD)) aD))) aD)))
 (eI (fM (aA 3) (aC (jX (mC (.str " ")) (aC (bI ["_law_number"] [(0,"_law_row_here"),(5,"_law_p")] (bK (dF (aA 5) bR (bQ (cD dA (mC (.int 1)))))) (gN 0) (bA oR [] (aC (aA 1) (aC (aA 0) (aC (aB aE (aA 2) (cD dA (mC (.int 1)))) aD))))) aD)) aD)))))
 (bG (jX (mC (.str ", ")) (aC (aA 3) aD))))))
def qJ:FM:=aX 2 6 wY
def yJ:MS:=(aO (aW 2 (gX aD))
 (aO (dB (eV (aC (aB aF (aA 1) (mC (.int 1))) aD)) (gN 3) (aO (aW 4 (bI ["_law_m"] [(0,"_law_row_here")] (eV (aC (aA 1) aD)) (gN 0) (aB dN (bA dG [] (aC (aA 1) (aC (mC (.int 9)) aD))) (mC (.int 4)))))
 (eI (fM (aA 2) (aC (bA gD [] (aC (aB aF (aA 4) (mN eR (aC (aB aF (mC (.int 1)) (bA dG [] (aC (aA 0) (aC (mC (.int 3)) aD)))) aD))) aD)) aD)))))
 (aO (aW 5 (bA dG [] (aC (aA 0) (aC (mC (.int 12)) aD))))
 (aO (bN (aZ (aB bJ (aA 5) (mC (.int 0)))) (fX (aA 2) (cD dA (mC (.int 1))) (aB aE (aA 2) (mC (.int 0)))) bP)
 (aO (bN (aZ (aB bJ (aA 5) (mC (.int 1)))) (fX (aA 2) (mC (.int 0)) (bA kH [] (aC (dF (aA 2) (bQ (mC (.int 1))) bR) aD))) bP)
 (aO (bN (aZ (aB bJ (aA 5) (mC (.int 2)))) (fX (aA 2) (mC (.int 1)) (bA kH [] (aC (mN eR (aC (aB aE (aA 2) (mC (.int 0))) (aC (aB aE (aA 2) (mC (.int 2))) aD))) aD))) bP)
 (bG (aA 2))))))))
def qT:FM:=aX 2 6 yJ
def tU:MS:=(aO (aW 1 (mC .non))
 (aO (pK (pO (mC (.int 0)) (pH iI [] (aC (aA 0) aD))) "NoText" "Flat" 3 1 (λρ=>(((ρ.set 2 none).set 1 (some (.pv (.tup [.int 1,.bl true])))).set 2 none)) (λρ=>(((ρ.set 2 none).set 1 (some (.pv (.tup [.int 2,.bl true])))).set 2 none)))
 (bG (aA 1))))
def jQ:FM:=aX 1 3 tU
def Za:MS:=(aO (aW 1 (pF oZ [] (aC (aA 0) aD)))
 (aO (aW 2 (aB aF (mC (.int 2)) (bA dG [] (aC (aA 1) (aC (mC (.int 2)) aD)))))
 (aO (aW 3 (gX aD))
 (aO (dB (eV (aC (bA dG [] (aC (aA 1) (aC (mC (.int 5)) aD))) aD)) (gN 4) (aO (aW 5 (aA 2))
 (aO (aW 6 (bA dG [] (aC (aA 1) (aC (mC (.int 32)) aD))))
 (aO (bN (aZ (aB bJ (aA 6) (mC (.int 0)))) (aW 5 (aB dN (mC (.int 5)) (aA 2))) bP)
 (aO (aW 7 (bA qT [] (aC (aA 1) (aC (aA 5) aD))))
 (aO (bN (aZ (aB bJ (aA 6) (mC (.int 1)))) (aW 7 (dF (aA 7) (bQ (mC (.int 1))) bR)) bP)
 (aO (bN (aZ (aB bJ (aA 6) (mC (.int 2)))) (aW 7 (aB aF (aA 7) (dF (aA 7) bR (bQ (mC (.int 1)))))) bP)
 (eI (fM (aA 3) (aC (bA qJ [] (aC (aA 1) (aC (aA 7) aD))) aD))))))))))
 (aO (aW 8 (jX (mC (.str " + ")) (aC (aA 3) aD)))
 (aO (bN (aZ (aB bJ (mR bM (aC (aA 3) aD)) (mC (.int 0)))) (aW 8 (mC (.str "none"))) bP)
 (aO (aW 8 (bA qU [] (aC (aA 1) (aC (aA 8) aD))))
 (aO (aW 9 (bA kZ [] (aC (aA 8) aD)))
 (aO (aW 10 (mN gJ (aC (mC (.int 1)) (aC (mC (.bl true)) aD))))
 (aO (bN (aZ (cD kQ (aA 9))) (aO (aW 10 (mN gJ (aC (mC (.int 2)) (aC (mC (.bl true)) aD))))
 (bN (aZ (mR eM (aC (bI ["_law_points_here"] [] (bK (aA 9)) (gN 0) (aB gM (bA kK [] (aC (aA 0) aD)) (mC (.int 0)))) aD))) (aW 10 (mN gJ (aC (mC (.int 0)) (aC (mR jI (aC (bI ["_law_points_here"] [] (bK (aA 9)) (gN 0) (bA kY [] (aC (aA 0) aD))) aD)) aD)))) bP)) bP)
 (aO (aW 11 (bA jQ [] (aC (aA 8) aD)))
 (aO (bN (gI (aZ (aB bJ (aB aE (aA 10) (mC (.int 0))) (mC (.int 0)))) (iC (aZ (bA oK [] (aC (aB aE (aA 11) (mC (.int 1))) (aC (jO (aZ (aB eZ (mR bM (aC (aA 9) aD)) (mC (.int 0)))) (aB dN (mR bM (aC (aB aE (aA 9) (mC (.int 0))) aD)) (mC (.int 1))) (mC (.int 2))) aD)))))) (bG (mC (.bl false))) bP)
 (bG (lH (aB bJ (aA 11) (aA 10)) (aB bJ (bA jQ [] (aC (aA 8) aD)) (aA 10))))))))))))))))
def Qa:FM:=aX 1 12 Za
abbrev uD(B:Bx):=cZ B "sign" 1 ["number"] nM
abbrev xJ(B:Bx):=cZ B "divisor" 1 ["one","other"] oO
abbrev Re(B:Bx):=cZ B "reduced" 2 ["numbers"] tI
abbrev Od(B:Bx):=kT B "fraction" 2 ["top","bottom"] mF
abbrev Dh(B:Bx):=kT B "point" 3 ["numbers","bottom"] nJ
abbrev Sd(B:Bx):=cZ B "point_at" 4 ["parts"] mE
abbrev Mc(B:Bx):=cZ B "whole_arrow" 1 ["start","end"] oH
abbrev Ql(B:Bx):=cZ B "dot" 1 ["u","v"] vE
abbrev Dg(B:Bx):=cZ B "normal" 1 ["arrows"] oQ
abbrev Hc(B:Bx):=cZ B "determinant" 2 ["points"] oI
abbrev Bj(B:Bx):=cZ B "side" 3 ["points"] nK
abbrev Ze(B:Bx):=kT B "simplex" 4 ["points"] iK
abbrev oG(B:Bx):=kT B "refuse_unless" 1 ["fits"] kF
abbrev Wc(B:Bx):=kT B "read_whole" 2 ["text"] gR
abbrev Nc(B:Bx):=kT B "read_number" 3 ["line"] eB
abbrev Qc(B:Bx):=kT B "read_point" 5 ["line"] gZ
abbrev Fc(B:Bx):=kT B "read_corners" 6 ["text"] gO
abbrev Fd(B:Bx):=cZ B "read_rows" 1 ["line"] nC
abbrev Ed(B:Bx):=kT B "read_heap" 7 ["line"] iI
abbrev Qj(B:Bx):=cZ B "_law_row" 1 ["_law_script"] oZ
abbrev nH(B:Bx):=cZ B "_law_take" 1 ["_law_row_here","_law_many"] dG
abbrev Si(B:Bx):=cZ B "_law_gcd" 1 ["_law_one","_law_other"] rK
abbrev oM(B:Bx):=cZ B "_law_lowest" 2 ["_law_numbers"] gD
abbrev Rf(B:Bx):=cZ B "_law_whole" 1 ["_law_number"] rA
abbrev Ue(B:Bx):=cZ B "_law_wholes" 2 ["_law_told","_law_many"] tL
abbrev yX(B:Bx):=cZ B "_law_frac" 3 ["_law_top","_law_bottom"] lD
abbrev Dj(B:Bx):=cZ B "_law_gap" 1 ["_law_p","_law_q"] pG
abbrev Wf(B:Bx):=cZ B "_law_cross" 1 ["_law_u","_law_v"] tT
abbrev Qi(B:Bx):=cZ B "_law_dot" 1 ["_law_u","_law_v"] uW
abbrev Uh(B:Bx):=cZ B "_law_turn" 2 ["_law_ways"] oW
abbrev uA(B:Bx):=cZ B "_law_det" 3 ["_law_points_here"] kK
abbrev xE(B:Bx):=cZ B "_law_simplex" 4 ["_law_points_here"] kY
abbrev Lc(B:Bx):=cZ B "_law_point_form" 3 ["_law_p","_law_many"] qL
abbrev Bc(B:Bx):=cZ B "_law_simplex_form" 5 ["_law_points_here","_law_many"] qI
abbrev Uc(B:Bx):=cZ B "_law_heap_form" 6 ["_law_heap","_law_many"] oK
abbrev Ad(B:Bx):=cZ B "_law_weighted" 3 ["_law_points_here","_law_weights"] sQ
abbrev Zd(B:Bx):=cZ B "_law_mean_of" 4 ["_law_points_here"] kH
abbrev Nd(B:Bx):=cZ B "_law_figures" 1 ["_law_word"] kG
abbrev Vc(B:Bx):=cZ B "_law_number_of" 4 ["_law_word"] iG
abbrev Md(B:Bx):=cZ B "_law_point_of" 5 ["_law_line"] iH
abbrev Ic(B:Bx):=cZ B "_law_corners_of" 6 ["_law_line"] iF
abbrev Be(B:Bx):=cZ B "_law_heap_of" 7 ["_law_line"] kZ
abbrev Ce(B:Bx):=cZ B "_law_sign_at" 2 ["_law_row_here"] sV
abbrev Ie(B:Bx):=cZ B "_law_spoilt" 3 ["_law_row_here","_law_line"] qU
abbrev Nf(B:Bx):=cZ B "_law_loose" 4 ["_law_row_here","_law_top","_law_bottom"] oR
abbrev Cc(B:Bx):=cZ B "_law_loose_points" 5 ["_law_row_here","_law_points_here"] qJ
abbrev Le(B:Bx):=cZ B "_law_points" 5 ["_law_row_here","_law_dims"] qT
abbrev Ug(B:Bx):=cZ B "_law_asked" 8 ["_law_line"] jQ
structure Mg(mg:Str->AI):Prop where
 m_abs:mg "abs"=none
 m_all:mg "all"=none
 m_bool:mg "bool"=none
 m_enumerate:mg "enumerate"=none
 m_int:mg "int"=none
 m_isinstance:mg "isinstance"=none
 m_len:mg "len"=none
 m_list:mg "list"=none
 m_range:mg "range"=none
 m_sorted:mg "sorted"=none
 m_str:mg "str"=none
 m_sum:mg "sum"=none
 m_tuple:mg "tuple"=none
 m_zip:mg "zip"=none
set_option hygiene false
local macro_rules | `(tactic|trivial)=> `(tactic|(first
 |(with_reducible show aU _ _ _ _ _ (dM _ _ _));refine K8 ?_ ?_ ?_
 |(with_reducible show aU _ _ _ _ _ (aB nS _ _));refine O8 ?_ ?_
 |(with_reducible show aU _ _ _ _ _ (jX _ _));refine B7 ?_ ?_
 |(with_reducible show gY _ _ _ _ _ _ (lM _));refine F6 ?_
 |(with_reducible show aU _ _ _ _ _ (mR fE _));refine oS Hq L4 rfl m.m_len Lk ?_
 |(with_reducible show aU _ _ _ _ _ (mR iR _));refine tK Tp Q3 rfl m.m_int Em ?_
 |(with_reducible show aU _ _ _ _ _ (mR nT _));refine tK Fq W2 rfl m.m_str P5 ?_
 |(with_reducible show aU _ _ _ _ _ (fD _ _ _ _ _));refine Xw (by first |exact vN |exact uQ) ?_ rfl (λ_ _ _ _=> ?_) (λ_ _ _ _ _ hp=> ?_)
 |(with_reducible show eE _ _ _ _ _ (aW _ (fD _ _ _ _ _)));refine Mu nd rfl (by first |exact gm rfl |exact il rfl) (by first |exact vN |exact uQ) ?_ rfl (λ_ _ _ _=> ?_) (λ_ _ _ _ _ hp=> ?_)
 |(with_reducible show aU _ _ _ _ _ (cC fI _ _));refine Ea sr PySem.F.type_str_split Rw ?_ ?_
 |(with_reducible show aU _ _ _ _ _ (cC jS _ _));refine Ea PySem.F.slot_str_startswith PySem.F.type_str_startswith Bt ?_ ?_
 |(with_reducible show aU _ _ _ _ _ (cC mS _ _));refine Ea PySem.F.slot_str_find PySem.F.type_str_find Qy ?_ ?_
 |(with_reducible show aU _ _ _ _ _ (aB jZ _ _));refine mO Hu aad ?_ ?_ rfl
 |(with_reducible show aU _ _ _ _ _ (aB fL _ _));refine mO (Wk (nB hr)) Mm ?_ ?_ rfl
 |(with_reducible show eU _ _ _ _ _ (aZ (aB fL _ _)));refine oU (Wk (nB hr)) Mm ?_ ?_ rfl
 |(with_reducible show aU _ _ _ _ _ (jJ jN jN _ _ _));refine qX rO rW rO rW ?_ ?_ ?_
 |(with_reducible show aU _ _ _ _ _ (jJ jN fS _ _ _));refine qX rO rW pJ pZ ?_ ?_ ?_
 |(with_reducible show aU _ _ _ _ _ (jJ fS jN _ _ _));refine qX pJ pZ rO rW ?_ ?_ ?_
 |(with_reducible show aU _ _ _ _ _ (jJ fS fS _ _ _));refine qX pJ pZ pJ pZ ?_ ?_ ?_
 |(with_reducible show aU _ _ _ _ _ (jJ bJ bJ _ _ _));refine qX (uK (nB hr)) wC (uK (nB hr)) wC ?_ ?_ ?_
 |(with_reducible show dW _ _ _ _ _ aD);exact Zi
 |(with_reducible show dW _ _ _ _ _ (aC _ _));refine Eh ?_ ?_
 |(with_reducible show aU _ _ _ _ _ (aA _));exact zV _
 |(with_reducible show aU _ _ _ _ _ (mC (.int _)));(first |exact Fl |exact Xi rfl (by assumption))
 |(with_reducible show aU _ _ _ _ _ (mC (.bl _)));exact X3
 |(with_reducible show aU _ _ _ _ _ (mC (.str _)));(first |exact O0 |exact Xi rfl (by assumption))
 |(with_reducible show aU _ _ _ _ _ (mC .non));exact Qk
 |(with_reducible show aU _ _ _ _ _ (cD dA _));refine V5 R3 U4 ?_
 |(with_reducible show aU _ _ _ _ _ (cD rY _));refine P8 ?_
 |(with_reducible show aU _ _ _ _ _ (aB pN _ _));refine lG Mt Yw ?_ ?_
 |(with_reducible show aU _ _ _ _ _ (aB iB _ _));refine lG Xr O5 ?_ ?_
 |(with_reducible show aU _ _ _ _ _ (aB sC _ _));refine lG F7 X0 ?_ ?_
 |(with_reducible show aU _ _ _ _ _ (aB aF _ _));refine lG Ez T7 ?_ ?_
 |(with_reducible show aU _ _ _ _ _ (aB dN _ _));refine lG L9 Z4 ?_ ?_
 |(with_reducible show aU _ _ _ _ _ (aB bC _ _));refine lG F1 V6 ?_ ?_
 |(with_reducible show aU _ _ _ _ _ (aB eC _ _));refine lG Wx H0 ?_ ?_
 |(with_reducible show aU _ _ _ _ _ (aB fB _ _));refine lG Fy aae ?_ ?_
 |(with_reducible show aU _ _ _ _ _ (aB kP _ _));refine lG M6 T6 ?_ ?_
 |(with_reducible show aU _ _ _ _ _ (aB aE _ _));refine Y1 ?_ ?_
 |(with_reducible show aU _ _ _ _ _ (aB bJ _ _));refine mO (uK (nB hr)) wC ?_ ?_ (jU _)
 |(with_reducible show aU _ _ _ _ _ (aB gM _ _));refine mO (Gm (nB hr)) Tn ?_ ?_ (jU _)
 |(with_reducible show aU _ _ _ _ _ (aB fS _ _));refine mO pJ pZ ?_ ?_ (jU _)
 |(with_reducible show aU _ _ _ _ _ (aB jN _ _));refine mO rO rW ?_ ?_ (jU _)
 |(with_reducible show aU _ _ _ _ _ (aB eZ _ _));refine mO Pm Yn ?_ ?_ (jU _)
 |(with_reducible show aU _ _ _ _ _ (aB nX _ _));refine mO An Wn ?_ ?_ (jU _)
 |(with_reducible show eU _ _ _ _ _ (aZ (aB bJ _ _)));refine oU (uK (nB hr)) wC ?_ ?_ (jU _)
 |(with_reducible show eU _ _ _ _ _ (aZ (aB gM _ _)));refine oU (Gm (nB hr)) Tn ?_ ?_ (jU _)
 |(with_reducible show eU _ _ _ _ _ (aZ (aB fS _ _)));refine oU pJ pZ ?_ ?_ (jU _)
 |(with_reducible show eU _ _ _ _ _ (aZ (aB eZ _ _)));refine oU Pm Yn ?_ ?_ (jU _)
 |(with_reducible show eU _ _ _ _ _ (aZ (aB nX _ _)));refine oU An Wn ?_ ?_ (jU _)
 |(with_reducible show eU _ _ _ _ _ (aZ (cD kQ _)));refine M9 ?_
 |(with_reducible show eU _ _ _ _ _ (aZ _));refine E5 ?_
 |(with_reducible show eU _ _ _ _ _ (iC _));refine Yz ?_
 |(with_reducible show eU _ _ _ _ _ (gI _ _));refine jG.pt ?_
 |(with_reducible show eU _ _ _ _ _ (jD _ _));refine jG.pt ?_
 |(with_reducible show jG _ _ _ _ _ (gI _ _));refine Lz ?_ ?_
 |(with_reducible show jG _ _ _ _ _ (jD _ _));refine M4 ?_ ?_
 |(with_reducible show jG _ _ _ _ _ _);(first |refine Av ?_ |refine My ?_)
 |(with_reducible show aU _ _ _ _ _ (lH _ _));refine M2 ?_ ?_
 |(with_reducible show aU _ _ _ _ _ (vX _ _));refine U7 ?_ ?_
 |(with_reducible show aU _ _ _ _ _ (jO _ _ _));refine T8 ?_ ?_ ?_
 |(with_reducible show aU _ _ _ _ _ (mN gJ _));refine S9 ?_
 |(with_reducible show aU _ _ _ _ _ (mN eR _));refine Q6 ?_
 |(with_reducible show aU _ _ _ _ _ (gX _));refine Vy ?_
 |(with_reducible show aU _ _ _ _ _ (dF _ _ _));refine T9 ?_ ?_ ?_
 |(with_reducible show mY _ _ _ _ _ bR);exact Aw
 |(with_reducible show mY _ _ _ _ _ (bQ _));refine Px ?_
 |(with_reducible show aU _ _ _ _ _ (fM _ _));refine Jt ?_ ?_
 |(with_reducible show aU _ _ _ _ _ (kO _ _));refine K0 ?_ ?_
 |(with_reducible show aU _ _ _ _ _ (cJ _ [] _));(first |refine W7 (by assumption) hr (by decide) rfl ?_ |refine Y9 hp (by assumption) hr (by decide) rfl ?_ |refine X7 (by assumption) hr (by decide) rfl ?_)
 |(with_reducible show aU _ _ _ _ _ (bA _ [] _));refine Z7 (by assumption) hr (by decide) rfl ?_
 |(with_reducible show aU _ _ _ _ _ (pF _ [] _));refine Z2 (by assumption) hr (by decide) rfl ?_
 |(with_reducible show aU _ _ _ _ _ (cD (fP "int") _));refine Ca (n:="int") rfl m.m_isinstance rfl m.m_int Em ?_
 |(with_reducible show aU _ _ _ _ _ (cD (fP "bool") _));refine Ca (n:="bool") rfl m.m_isinstance rfl m.m_bool D0 ?_
 |(with_reducible show aU _ _ _ _ _ (cD (fP "tuple") _));refine Ca (n:="tuple") rfl m.m_isinstance rfl m.m_tuple Lh ?_
 |(with_reducible show aU _ _ _ _ _ (rR _));refine Ux rfl rfl m.m_list ?_
 |(with_reducible show aU _ _ _ _ _ (mR bM _));refine oS Lq Y5 rfl m.m_len Lk ?_
 |(with_reducible show aU _ _ _ _ _ (mR eJ _));refine oS Bv Y7 rfl m.m_abs Q5 ?_
 |(with_reducible show aU _ _ _ _ _ (mR eM _));refine oS (Zw rfl) W9 rfl m.m_all K6 ?_
 |(with_reducible show aU _ _ _ _ _ (mR jI _));refine tK Xp Iz rfl m.m_tuple Lh ?_
 |(with_reducible show aU _ _ _ _ _ (mR nN _));refine tK Kd Sy rfl m.m_list A6 ?_
 |(with_reducible show aU _ _ _ _ _ (mR jB _));refine oS (Ku rfl) Y3 rfl m.m_sum Q9 ?_
 |(with_reducible show aU _ _ _ _ _ (mR oV _));refine oS Fs N8 rfl m.m_sorted Kt ?_
 |(with_reducible show aU _ _ _ _ _ (bI _ _ _ _ _));refine Hy (by first |exact vN |exact uQ) ?_ rfl (λ_ _ _ _=> ?_) (λ_ _ _ _=> ?_)
 |(with_reducible show gY _ _ _ _ _ _ (kB _));refine Bz rfl m.m_zip ?_
 |(with_reducible show gY _ _ _ _ _ _ (vP _));refine Ew rfl m.m_enumerate ?_
 |(with_reducible show gY _ _ _ _ _ _ (eV _));refine Qr rfl m.m_range ?_
 |(with_reducible show gY _ _ _ _ _ _ (bK _));refine D7 ?_
 |(with_reducible show kD _ _ _ (gN _));exact Xu (by first |exact nd |(show(cP _ _).Nodup;decide+kernel)) rfl (by first |exact gm rfl |exact il rfl)
 |(with_reducible show kD _ _ _ (gT _ _));refine Wy rfl ?_
 |(with_reducible show pX _ _ _ fK);exact Zx
 |(with_reducible show pX _ _ _ (dQ _ _));refine Fu ?_ ?_
 |(with_reducible show gA _ _ _ _ _ bP);exact Iv
 |(with_reducible show gA _ _ _ _ _ (aO _ _));refine yG ?_ ?_
 |(with_reducible show gA _ _ _ _ _ _);refine Li ?_
 |(with_reducible show eE _ _ _ _ _ (bG _));refine Ti ?_
 |(with_reducible show eE _ _ _ _ _ (bN _ _ _));refine S7 ?_ ?_ ?_
 |(with_reducible show eE _ _ _ _ _ (eI _));refine Uw ?_
 |(with_reducible show eE _ _ _ _ _ (mP _));exact Cu rfl (by assumption) (by assumption)
 |(with_reducible show eE _ _ _ _ _ (aW _ (bI _ _ _ _ _)));(first |refine Uv nd rfl (by first |exact gm rfl |exact il rfl) (by first |exact vN |exact uQ) ?_ rfl (λ_ _ _ _=> ?_) (λ_ _ _ _=> ?_) |refine zC nd rfl (by first |exact gm rfl |exact il rfl) ?_)
 |(with_reducible show eE _ _ _ _ _ (aW _ _));refine zC nd rfl (by first |exact gm rfl |exact il rfl) ?_
 |(with_reducible show eE _ _ _ _ _ (rZ _ _ _));refine Vz rfl nd rfl rfl (by decide) rfl rfl ?_ rfl
 |(with_reducible show eE _ _ _ _ _ (rS _ _));refine Mz ?_ ?_
 |(with_reducible show eE _ _ _ _ _ (fX _ _ _));refine Eu ?_ ?_ ?_
 |(with_reducible show eE _ _ _ _ _ (mK _ _));refine Os (by first |exact j0 |exact j1) ?_ ?_
 |(with_reducible show eE _ _ _ _ _ (dB _ _ _));refine Jy (by first |exact j0 |exact j1) rfl ?_ ?_ ?_)<;>trivial)
set_option hygiene true
section
variable{B:Bx}(X:XG B.K B.mg)(m:Mg B.mg)
include X m
theorem G0(h:HF B.K "sign" Ol):uD B:=dC (N:=["number"]) X h cM λnd _ _ _ _ _ _ _ hr=>by unfold zZ;trivial
theorem Js(h:HF B.K "divisor" Zf):xJ B:=dC (N:=["one","other","rest"]) X h cM λnd _ _ _ _ _ _ _ hr=>by unfold xZ;trivial
theorem Fr(h:HF B.K "reduced" Ah)(C_divisor:xJ B):Re B:=dC (N:=["numbers","common","number"]) X h cM λnd _ _ _ _ _ _ _ hr=>by unfold xY;trivial
theorem Uq{f:Addr}{fd:bh}{dsv:Array Value}(F:lO B.K "fraction" "fraction" qQ f fd dsv)(C_sign:uD B)(C_divisor:xJ B)(q_NoNumber:B.mg "NoNumber"=some (.ref (B.cl "NoNumber")))(x_NoNumber:cw B.K (B.cl "NoNumber") eW "ValueError.__new__"=true):dJ B.P B.w B.K B.mg B.base (aQ B.P B.w) 2 f fd ["top","bottom"] (jF B.K B.cl mF):=Ao (N:=["top","bottom","common"]) F cM λnd _ _ _ _ _ _ _ hr=>by unfold xM;trivial
theorem Gx{f:Addr}{fd:bh}{dsv:Array Value}(F:lO B.K "point" "point" rB f fd dsv)(C_reduced:Re B)(C_sign:uD B)(q_NoPoint:B.mg "NoPoint"=some (.ref (B.cl "NoPoint")))(x_NoPoint:cw B.K (B.cl "NoPoint") eW "ValueError.__new__"=true):dJ B.P B.w B.K B.mg B.base (aQ B.P B.w) 3 f fd ["numbers","bottom"] (jF B.K B.cl nJ):=Ao (N:=["numbers","bottom"]) F cM λnd _ _ _ _ _ _ _ hr=>by unfold zL;trivial
theorem Qq(h:HF B.K "point_at" Fe)(H_point:Dh B):Sd B:=dC (N:=["parts","bottom","part"]) X h cM λnd _ _ _ _ _ _ _ hr=>by unfold sW;trivial
theorem Lp(h:HF B.K "whole_arrow" Yc):Mc B:=dC (N:=["start","end"]) X h cM λnd _ _ _ _ _ _ _ hr=>by unfold xB;trivial
theorem K5(h:HF B.K "dot" Cn):Ql B:=dC (N:=["u","v"]) X h cM λnd _ _ _ _ _ _ _ hr=>by unfold Ab;trivial
theorem Xs(h:HF B.K "normal" Ni):Dg B:=dC (N:=["arrows","u","v"]) X h cM λnd _ _ _ _ _ _ _ hr=>by unfold tQ;trivial
theorem Mp(h:HF B.K "determinant" Oc)(C_whole_arrow:Mc B)(C_dot:Ql B)(C_normal:Dg B):Hc B:=dC (N:=["points","rows"]) X h cM λnd _ _ _ _ _ _ _ hr=>by unfold sL;trivial
theorem Kz(h:HF B.K "side" Mk)(C_sign:uD B)(C_determinant:Hc B):Bj B:=dC (N:=["points"]) X h cM λnd _ _ _ _ _ _ _ hr=>by unfold uT;trivial
theorem Mr(h:HF B.K "simplex" Tg)(C_side:Bj B)(q_Flat:B.mg "Flat"=some (.ref (B.cl "Flat")))(x_Flat:cw B.K (B.cl "Flat") eW "ValueError.__new__"=true):Ze B:=oB (N:=["points","corners","turn"]) X h cM λnd _ _ _ _ _ _ _ hr=>by unfold qS;trivial
theorem Bp(h:HF B.K "refuse_unless" Gc)(q_NoText:B.mg "NoText"=some (.ref (B.cl "NoText")))(x_NoText:cw B.K (B.cl "NoText") eW "ValueError.__new__"=true):oG B:=oB (N:=["fits"]) X h cM λnd _ _ _ _ _ _ _ hr=>by unfold wZ;trivial
theorem Wp(h:HF B.K "read_whole" Cd)(H_refuse_unless:oG B)(gt_FIGURES:nV B.K B.mg "FIGURES" (.str "0123456789"))(gt_MOST_FIGURES:nV B.K B.mg "MOST_FIGURES" (.int 60)):Wc B:=oB (N:=["text"]) X h cM λnd _ _ _ _ _ _ _ hr=>by unfold xC;trivial
theorem Kp(h:HF B.K "read_number" Pc)(H_refuse_unless:oG B)(H_read_whole:Wc B)(H_fraction:Od B):Nc B:=oB (N:=["line","parts","below","top","bottom"]) X h cM λnd _ _ _ _ _ _ _ hr=>by unfold kW;trivial
theorem Yp(h:HF B.K "read_point" Jd)(H_read_number:Nc B)(H_refuse_unless:oG B)(C_point_at:Sd B):Qc B:=oB (N:=["line","parts"]) X h cM λnd _ _ _ _ _ _ _ hr=>by unfold sO;trivial
theorem Ep(h:HF B.K "read_corners" Jc)(H_read_point:Qc B)(H_refuse_unless:oG B):Fc B:=oB (N:=["text","corners"]) X h cM λnd _ _ _ _ _ _ _ hr=>by unfold qK;trivial
theorem Bq(h:HF B.K "read_rows" Vd)(gt_NOTHING:nV B.K B.mg "NOTHING" (.str "none")):Fd B:=dC (N:=["line"]) X h cM λnd _ _ _ _ _ _ _ hr=>by unfold sP;trivial
theorem Jq(h:HF B.K "read_heap" Qd)(C_read_rows:Fd B)(H_read_corners:Fc B)(H_refuse_unless:oG B)(H_simplex:Ze B):Ed B:=oB (N:=["line","rows"]) X h cM λnd _ _ _ _ _ _ _ hr=>by unfold lZ;trivial
theorem Wz(h:HF B.K "_law_row" Xk):Qj B:=dC (N:=["_law_script","_law_row_here","_law_k","_law_cell","_law_one","_law_two","_law_three"]) X h cM λnd _ _ _ _ _ _ _ hr=>by unfold zX;trivial
theorem Gw(h:HF B.K "_law_take" Ij):nH B:=dC (N:=["_law_row_here","_law_many","_law_found"]) X h cM λnd _ _ _ _ _ _ _ hr=>by unfold uE;trivial
theorem D5(h:HF B.K "_law_gcd" Tl):Si B:=dC (N:=["_law_one","_law_other"]) X h cM λnd _ _ _ _ _ _ _ hr=>by unfold Ka;trivial
theorem Nr(h:HF B.K "_law_lowest" Kf)(C_wgcd:Si B):oM B:=dC (N:=["_law_numbers","_law_by","_law_number"]) X h cM λnd _ _ _ _ _ _ _ hr=>by unfold tO;trivial
theorem Ys(h:HF B.K "_law_whole" Yh):Rf B:=dC (N:=["_law_number"]) X h cM λnd _ _ _ _ _ _ _ hr=>by unfold yM;trivial
theorem Tr(h:HF B.K "_law_wholes" Jg)(C_wwhole:Rf B):Ue B:=dC (N:=["_law_told","_law_many"]) X h cM λnd _ _ _ _ _ _ _ hr=>by unfold yF;trivial
theorem Bw(h:HF B.K "_law_frac" Yj)(C_wlowest:oM B):yX B:=dC (N:=["_law_top","_law_bottom"]) X h cM λnd _ _ _ _ _ _ _ hr=>by unfold zM;trivial
theorem Cz(h:HF B.K "_law_gap" Pl):Dj B:=dC (N:=["_law_p","_law_q"]) X h cM λnd _ _ _ _ _ _ _ hr=>by unfold zU;trivial
theorem Tt(h:HF B.K "_law_cross" Ai):Wf B:=dC (N:=["_law_u","_law_v","_law_x","_law_y","_law_z"]) X h cM λnd _ _ _ _ _ _ _ hr=>by unfold yY;trivial
theorem F4(h:HF B.K "_law_dot" Sk):Qi B:=dC (N:=["_law_u","_law_v"]) X h cM λnd _ _ _ _ _ _ _ hr=>by unfold zS;trivial
theorem Rv(h:HF B.K "_law_turn" Fk)(C_wdot:Qi B)(C_wcross:Wf B):Uh B:=dC (N:=["_law_ways"]) X h cM λnd _ _ _ _ _ _ _ hr=>by unfold uF;trivial
theorem E2(h:HF B.K "_law_det" Il)(C_wturn:Uh B)(C_wgap:Dj B):uA B:=dC (N:=["_law_points_here"]) X h cM λnd _ _ _ _ _ _ _ hr=>by unfold uS;trivial
theorem Cr(h:HF B.K "_law_simplex" Ve)(C_wdet:uA B):xE B:=dC (N:=["_law_points_here","_law_told"]) X h cM λnd _ _ _ _ _ _ _ hr=>by unfold sT;trivial
theorem Jp(h:HF B.K "_law_point_form" Tc)(C_wwholes:Ue B)(C_wlowest:oM B):Lc B:=dC (N:=["_law_p","_law_many"]) X h cM λnd _ _ _ _ _ _ _ hr=>by unfold xA;trivial
theorem Ap(h:HF B.K "_law_simplex_form" Ec)(C_wpoint_form:Lc B)(C_wdet:uA B)(C_wsimplex:xE B):Bc B:=dC (N:=["_law_points_here","_law_many"]) X h cM λnd _ _ _ _ _ _ _ hr=>by unfold wX;trivial
theorem Aq(h:HF B.K "_law_heap_form" Hd)(C_wsimplex_form:Bc B):Uc B:=dC (N:=["_law_heap","_law_many"]) X h cM λnd _ _ _ _ _ _ _ hr=>by unfold xD;trivial
theorem Dq(h:HF B.K "_law_weighted" Xd)(C_wlowest:oM B):Ad B:=dC (N:=["_law_points_here","_law_weights","_law_under","_law_p","_law_far","_law_k"]) X h cM λnd _ _ _ _ _ _ _ hr=>by unfold xF;trivial
theorem Zq(h:HF B.K "_law_mean_of" De)(C_wweighted:Ad B):Zd B:=dC (N:=["_law_points_here"]) X h cM λnd _ _ _ _ _ _ _ hr=>by unfold xW;trivial
theorem Vq(h:HF B.K "_law_figures" Se):Nd B:=dC (N:=["_law_word"]) X h cM λnd _ _ _ _ _ _ _ hr=>by unfold xL;trivial
theorem Vp(h:HF B.K "_law_number_of" Dd)(C_wfigures:Nd B)(C_wfrac:yX B):Vc B:=dC (N:=["_law_word","_law_sign","_law_low","_law_at"]) X h cM λnd _ _ _ _ _ _ _ hr=>by unfold sM;trivial
theorem Cq(h:HF B.K "_law_point_of" Pd)(C_wnumber_of:Vc B)(C_wlowest:oM B):Md B:=dC (N:=["_law_line","_law_words","_law_numbers","_law_under","_law_number"]) X h cM λnd _ _ _ _ _ _ _ hr=>by unfold sS;trivial
theorem Op(h:HF B.K "_law_corners_of" Rc)(C_wpoint_of:Md B):Ic B:=dC (N:=["_law_line","_law_points_here"]) X h cM λnd _ _ _ _ _ _ _ hr=>by unfold qM;trivial
theorem Dr(h:HF B.K "_law_heap_of" Bf)(C_wcorners_of:Ic B):Be B:=dC (N:=["_law_line","_law_rows"]) X h cM λnd _ _ _ _ _ _ _ hr=>by unfold oN;trivial
theorem Nq(h:HF B.K "_law_sign_at" Te)(C_wtake:nH B):Ce B:=dC (N:=["_law_row_here","_law_some","_law_most"]) X h cM λnd _ _ _ _ _ _ _ hr=>by unfold xK;trivial
theorem Hs(h:HF B.K "_law_spoilt" Of)(C_wtake:nH B)(C_wsign_at:Ce B):Ie B:=dC (N:=["_law_row_here","_law_line","_law_way","_law_at","_law_sign"]) X h cM λnd _ _ _ _ _ _ _ hr=>by unfold yD;trivial
theorem Qs(h:HF B.K "_law_loose" Fh)(C_wfrac:yX B)(C_wtake:nH B):Nf B:=dC (N:=["_law_row_here","_law_top","_law_bottom","_law_many","_law_word","_law_under"]) X h cM λnd _ _ _ _ _ _ _ hr=>by unfold tY;trivial
theorem Cp(h:HF B.K "_law_loose_points" Dc)(C_wtake:nH B)(C_wloose:Nf B):Cc B:=dC (N:=["_law_row_here","_law_points_here","_law_rest","_law_words","_law_k","_law_p"]) X h cM λnd _ _ _ _ _ _ _ hr=>by unfold wY;trivial
theorem Gr(h:HF B.K "_law_points" Cg)(C_wtake:nH B)(C_wlowest:oM B)(C_wmean_of:Zd B):Le B:=dC (N:=["_law_row_here","_law_dims","_law_points_here","_law_k","_law_far","_law_way"]) X h cM λnd _ _ _ _ _ _ _ hr=>by unfold yJ;trivial
theorem Ot(h:HF B.K "_law_asked" Hh)(H_read_heap:Ed B)(q_Flat:B.mg "Flat"=some (.ref (B.cl "Flat")))(x_Flat:cw B.K (B.cl "Flat") eW "ValueError.__new__"=true)(q_HallError:B.mg "HallError"=some (.ref (B.cl "HallError")))(x_HallError:cw B.K (B.cl "HallError") eW "ValueError.__new__"=true)(q_NoText:B.mg "NoText"=some (.ref (B.cl "NoText")))(x_NoText:cw B.K (B.cl "NoText") eW "ValueError.__new__"=true)(Z_Flat:jL B.K (B.cl "Flat"))(Z_NoText:jL B.K (B.cl "NoText"))(kt_Flat_HallError:fv B.K (.ref (B.cl "Flat")) (.ref (B.cl "HallError"))=some true)(kt_NoText_Flat:fv B.K (.ref (B.cl "NoText")) (.ref (B.cl "Flat"))=some false)(kt_NoText_HallError:fv B.K (.ref (B.cl "NoText")) (.ref (B.cl "HallError"))=some true)(Zt_NoText:su B.K (.ref (B.cl "NoText"))=some (.type "type"))(Zn_Flat_NoText:jj B.K (B.cl "Flat") (.ref (B.cl "NoText"))=some false):Ug B:=dC (N:=["_law_line","_law_found","e"]) X h cM λnd _ _ _ _ _ _ _ hr=>by obtain⟨a_read_heap,d_read_heap,GX_read_heap,G_read_heap,lZ,k_read_heap,n_read_heap⟩:=H_read_heap;have m_isinstance:=m.m_isinstance;exact(yG (zC (i:=1) nd rfl (gm rfl) Qk) (yG (Dw (i:=2) (jv:=1) (nn:=3) (c1:="NoText") (c2:="Flat") (up1:=λρ=>(((ρ.set 2 none).set 1 (some (.pv (.tup [.int 1,.bl true])))).set 2 none)) (up2:=λρ=>(((ρ.set 2 none).set 1 (some (.pv (.tup [.int 2,.bl true])))).set 2 none)) rfl nd rfl rfl rfl q_NoText x_NoText rfl q_Flat x_Flat Zt_NoText Z_NoText Zn_Flat_NoText (Nz rfl Fl (Uy rfl GX_read_heap (hr.mono (by decide)) rfl n_read_heap k_read_heap lZ .nil Dv.nil (Eh (zV 0) Zi))) rfl (gm rfl) (λy oe hc=>(zO (Ha (i:=1) nd rfl (gm rfl) (zT (iN zR (iN (Xl (qW (yZ Z_NoText bc hc) rfl m_isinstance rm (iN (pv 2) (iN (uB (v:=.ref (B.cl "HallError")) rfl q_HallError rfl) mL))) (O7 (Rl (qW (yZ Z_NoText bc hc) rfl m_isinstance rm (iN (pv 2) (iN (uB (v:=.ref (B.cl "Flat")) rfl q_Flat rfl) mL)))))) mL)))))) (λy oe hc=>(zO (Ha (i:=1) nd rfl (gm rfl) (zT (iN zR (iN (qW (yZ Z_Flat bc hc) rfl m_isinstance rm (iN (pv 2) (iN (uB (v:=.ref (B.cl "HallError")) rfl q_HallError rfl) mL))) mL)))))) (λy oe D σ H p S ρ sm hl ev k=>by match σ,hl,ev with |[s0,s1,s2],_,ev=>exact⟨_,rfl,_,true,.inr ⟨_,rfl,kt_NoText_HallError⟩,rfl,true,rfl,aaG ⟨_,rfl,_,false,.inr ⟨_,rfl,kt_NoText_Flat⟩,rfl,false,rfl,(by show 2<=j2;decide),λt ht=>k _ _ (fH ht) ((cR.setT (vs:=[.int 1,.bl true]) sm (ev.forget 2 (some (.ref y))) ht (by decide) (by decide) 1).forget 2 none)⟩⟩) (λy oe D σ H p S ρ sm hl ev k=>by match σ,hl,ev with |[s0,s1,s2],_,ev=>exact⟨_,rfl,_,true,.inr ⟨_,rfl,kt_Flat_HallError⟩,rfl,(by show 2<=j2;decide),λt ht=>k _ _ (fH ht) ((cR.setT (vs:=[.int 2,.bl true]) sm (ev.forget 2 (some (.ref y))) ht (by decide) (by decide) 1).forget 2 none)⟩)) (Li (Ti (zV 1)))))
theorem Q4{f:Addr}{fd:bh}(F:iX B.K "law" "law" mT f fd)(C_wrow:Qj B)(C_wtake:nH B)(C_wpoints:Le B)(C_wloose_points:Cc B)(C_wspoilt:Ie B)(C_wheap_of:Be B)(C_wdet:uA B)(C_wsimplex:xE B)(C_wasked:Ug B)(C_wheap_form:Uc B):dJ B.P B.w B.K B.mg B.base fR 9 f fd ["_law_script"] (kR B.K B.cl Qa):=mkR (N:=["_law_script","_law_row_here","_law_dims","_law_words","_law_k","_law_other","_law_way","_law_points_here","_law_line","_law_rows","_law_due","_law_found"]) F cM λnd _ _ _ _ _ _ _ hr=>by unfold Za;trivial
end
local macro_rules
 | `(tactic|simp! [$l,*] $[$loc:location]?)=>`(tactic|simp[hZ,aO,bN,aZ,iC,gI,jD,lH,vX,jO,aB,cD,mR,mN,aC,aA,mC,aD,bO.bind,rN,fJ,lF,pR,fY,rd,jY,fG,bM,gJ,eR,dA,rY,jC,cS.of,bG,Y2,bP,eI,aW,mM,iS,bA,cJ,pF,eJ,jI,nN,bJ,gM,frz,pL,$l,*] $[$loc]?)
def iV(S:aN)(k:Nat)(ns:AE):Prop:=S[k]?=some (.lst (ns.map .int))
theorem iV.lt{S:aN}{k:Nat}{ns:AE}(h:iV S k ns):k<S.length:=(db.mp h).1
theorem iV.set{S:aN}{k:Nat}{ns:AE}(h:iV S k ns)(ms:AE):iV (S.set k (.lst (ms.map .int))) k ms:=ij h.lt
theorem Ee{r:bS}{k:Nat}{m:AV}:∀(ns:AE)(S:aN),iV S k ns->∃n ns',dP (gI (aZ (aB eZ (mR bM (aC (aA 0) aD)) (mC (.int 0)))) (aZ (aB bJ (aB aE (aA 0) (mC (.int 0))) (mC (.int 0))))) (eI (kO (aA 0) (aC (mC (.int 0)) aD))) n (some (.ref k)::some m::r) S=.nx (some (.ref k)::some m::r) (S.set k (.lst (ns'.map .int)))/\ns'.length<=ns.length/\(ns'=[]\/∃i t,ns'=i::t/\i≠0)
 |[],S,h=>by
  refine⟨1,[],?_,am _,.inl rfl⟩;have h':S[k]?=some (.lst []):=h;have e:S.set k (.lst (([]:AE).map .int))=S:=xu λi=>by
   by_cases q:k=i
   .subst q;rw[ij h.lt,h'];rfl
   .rw[jg q]
  rw[e];simp[dP,gI,aZ,aB,mR,aC,aA,mC,aD,bO.bind,lF,fY,rd,h',fG,bM,fJ,eZ,i2,jC,cS.of]
 |i::t,S,h=>by
  have h':S[k]?=some (.lst (.int i::t.map .int)):=h
  by_cases hi:i=0
  .subst hi
   have hr:iV (S.set k (.lst (t.map .int))) k t:=h.set t;obtain⟨n,ns',e,l,q⟩:=Ee (r:=r) (m:=m) t _ hr;refine⟨n+1,ns',?_,by simp;omega,q⟩;rw[sy]at e;rw[<-e];have hl:(0:Int)<(t.length:Int)+1:=by omega
   simp[dP,gI,aZ,aB,mR,aC,aA,mC,aD,bO.bind,lF,fY,rd,h',fG,bM,fJ,eZ,i2,jC,cS.of,aE,aR,aS,bJ,aG,eI,kO,eX,mU,seqIndex?,hl]
  .refine⟨1,i::t,?_,am _,.inr ⟨i,t,rfl,hi⟩⟩
   have e:S.set k (.lst ((i::t).map .int))=S:=xu λj=>by
    by_cases q:k=j
    .subst q;rw[ij h.lt,h'];rfl
    .rw[jg q]
   rw[e];have hl:(0:Int)<(t.length:Int)+1:=by omega
   simp[dP,gI,aZ,aB,mR,aC,aA,mC,aD,bO.bind,lF,fY,rd,h',fG,bM,fJ,eZ,i2,jC,cS.of,aE,aR,aS,bJ,aG,hl,hi]
theorem rD{S:aN}{k:Nat}{ns:AE}{m:Int}(h:iV S k ns)(hm:0<m)(b:Bd 8000 m):∃(v:Int)(ns':AE),dG [.ref k,.pv (.int m)] S=.ok (.pv (.int v)) (S.set k (.lst (ns'.map .int)))/\0<=v/\v<m/\ns'.length<=ns.length:=by
 obtain⟨n,ns',e,l,q⟩:=Ee (r:=[none]) (m:=.pv (.int m)) ns S h;have hr:=h.set ns';have hl1:(S.set k (.lst (ns'.map .int))).length=S.length:=by simp
 have hss:∀x,(S.set k (.lst (ns'.map .int))).set k x=S.set k x:=λx=>sy ..;generalize hS1:S.set k (.lst (ns'.map .int))=S1 at e hr hl1 hss;have w:=yE e (by simp);rcases q with rfl |⟨i,t,rfl,hi⟩
 .refine⟨0,[],?_,wl 0,hm,ia _⟩
  rw[hS1];have hr':S1[k]?=some (.lst []):=hr;have tk:List.take S.length S1=S1:=td (by omega);unfold dG aX uE;simp[hZ,aO,w,bN,aZ,aB,mR,aC,aA,mC,aD,bO.bind,lF,fY,rd,hr',fG,bM,fJ,bJ,aG,jC,cS.of,bG,mM,iS,tk]
 .have hr':S1[k]?=some (.lst (.int i::t.map .int)):=hr
  refine⟨i.fmod m,i.fdiv m::t,?_,j3 i hm,Int.fmod_lt_of_pos i hm,l⟩;rw[<-hss];have tk:∀x,List.take S.length (S1.set k x)=S1.set k x:=λx=>td (by simp;omega);have hl:¬((t.length:Int)+1=0):=by omega
  have hq:nQ i m:=⟨by omega,b⟩;have hm0:m≠0:=by omega
  unfold dG aX uE;simp[hZ,aO,w,bN,aZ,aB,mR,aC,aA,mC,aD,bO.bind,lF,fY,rd,hr',fG,bM,fJ,bJ,aG,jC,cS.of,bG,mM,iS,tk,bP,hl,aW,fB,eC,i2,cI,aE,aR,aS,hm0,hq,fX,eX,lK]
theorem aJ(i j:Int):eZ (.int i) (.int j)=some (.bl (decide (j<i))):=rfl
theorem aL(i j:Int):fS (.int i) (.int j)=some (.bl (decide (i<j))):=rfl
theorem aM(i j:Int):nX (.int i) (.int j)=some (.bl (decide (j<=i))):=rfl
theorem aK(i j:Int):jN (.int i) (.int j)=some (.bl (decide (i<=j))):=rfl
theorem aI(i j:Int):dN (.int i) (.int j)=some (.int (i-j)):=rfl
theorem iM{i j:Int}(h:nR i j):bC (.int i) (.int j)=some (.int (i*j)):=by
 simp[bC,i2,cI,h]
theorem qZ{i j:Int}(h:nQ i j):eC (.int i) (.int j)=some (.int (i.fdiv j)):=by
 simp[eC,i2,cI,h]
theorem mG{i j:Int}(h:j≠0):fB (.int i) (.int j)=some (.int (i.fmod j)):=by
 simp[fB,i2,cI,h]
theorem Cj{i j:Int}(h:vY i j):kP (.int i) (.int j)=some (.int (i^j.toNat)):=by
 simp[kP,i2,cI,h]
theorem uG(n:Int)(S:aN):nM [.pv (.int n)] S=.ok (.pv (.int (sg n))) S:=by
 unfold nM aX zZ sg
 by_cases h1:0<n
 .simp[hZ,aO,bN,aZ,aB,aA,mC,bO.bind,fJ,rd,fG,eZ,i2,jC,cS.of,bG,mM,iS,h1]
 .by_cases h2:n<0
  .simp[hZ,aO,bN,aZ,aB,aA,mC,bO.bind,fJ,rd,fG,eZ,fS,i2,jC,cS.of,bG,mM,iS,h1,h2,bP,cD,rN,dA]
  .simp[hZ,aO,bN,aZ,aB,aA,mC,bO.bind,fJ,rd,fG,eZ,fS,i2,jC,cS.of,bG,mM,iS,h1,h2,bP,cD,rN,dA]
theorem Xc(S:aN):∀(m:Nat)(a b:Int)(x:AO),b.natAbs<=m->∃(n:Nat)(g:Int)(x':AO),dP (aZ (aB gM (aA 1) (mC (.int 0)))) (aO (aW 2 (aB fB (aA 0) (aA 1))) (aO (aW 0 (aA 1)) (aW 1 (aA 2)))) n [some (.pv (.int a)),some (.pv (.int b)),x] S=.nx [some (.pv (.int g)),some (.pv (.int 0)),x'] S/\g.natAbs=bi a b
 |0,a,b,x,h=>by
  have hb:b=0:=by omega
  subst hb;refine⟨1,a,x,?_,by simp⟩;simp! [dP,aE,aR,aS,aG,aJ,aL,aM,aK,aF,aI]
 |m+1,a,b,x,h=>by
  by_cases hb:b=0
  .subst hb
   refine⟨1,a,x,?_,by simp⟩;simp! [dP,aE,aR,aS,aG,aJ,aL,aM,aK,aF,aI]
  .have hl:=Tf a hb
   obtain⟨n,g,x',e,q⟩:=Xc S m b (a.fmod b) (some (.pv (.int (a.fmod b)))) (by omega);refine⟨n+1,g,x',?_,by rw[q,Ei]⟩;rw[<-e];simp! [dP,aE,aR,aS,aG,aJ,aL,aM,aK,aF,aI,mG hb,hb]
theorem Oe(a b:Int)(S:aN):oO [.pv (.int a),.pv (.int b)] S=.ok (.pv (.int (bi a b:Nat))) S:=by
 obtain⟨n,g,x',e,q⟩:=Xc S b.natAbs a b none (am _);have w:=yE e (by simp);unfold oO aX xZ;have hg:(if g<0 then-g else g)=((bi a b:Nat):Int):=by rw[<-q];exact Fa g
 simp! [aE,aR,aS,aG,aJ,aL,aM,aK,aF,aI,w,hg]
theorem Ag(S:aN):∀(m:Nat)(a b:Int),0<=a->0<=b->b.natAbs<=m->∃(n:Nat),dP (aZ (aB eZ (aA 1) (mC (.int 0)))) (rZ 0 1 (aC (aA 1) (aC (aB fB (aA 0) (aA 1)) aD))) n [some (.pv (.int a)),some (.pv (.int b))] S=.nx [some (.pv (.int (bi a b:Nat))),some (.pv (.int 0))] S
 |0,a,b,ha,hb,h=>by
  have hb:b=0:=by omega
  subst hb;have ea:((bi a 0:Nat):Int)=a:=by simp;omega
  refine⟨1,?_⟩;rw[ea];simp! [dP,aE,aR,aS,aG,aJ,aL,aM,aK,aF,aI]
 |m+1,a,b,ha,hb,h=>by
  by_cases h0:b=0
  .subst h0
   have ea:((bi a 0:Nat):Int)=a:=by simp;omega
   refine⟨1,?_⟩;rw[ea];simp! [dP,aE,aR,aS,aG,aJ,aL,aM,aK,aF,aI]
  .have hl:=Tf a h0
   have hp:0<b:=by omega
   obtain⟨n,e⟩:=Ag S m b (a.fmod b) hb (j3 a hp) (by omega);refine⟨n+1,?_⟩;rw[<-Ei,<-e];simp! [dP,aE,aR,aS,aG,aJ,aL,aM,aK,aF,aI,mG h0,hp,rZ]
theorem J7(a b:Int)(S:aN):rK [.pv (.int a),.pv (.int b)] S=.ok (.pv (.int (bi a b:Nat))) S:=by
 have ha:0<=(if a<0 then-a else a):=by split<;>omega
 have hb:0<=(if b<0 then-b else b):=by split<;>omega
 obtain⟨n,e⟩:=Ag S _ _ _ ha hb (am _);have w:=yE e (by simp);have eg:bi (if a<0 then-a else a) (if b<0 then-b else b)=bi a b:=by
  rw[Fa,Fa];simp[bi]
 rw[eg]at w;unfold rK aX Ka;simp! [aE,aR,aS,aG,aJ,aL,aM,aK,aF,aI,w]
theorem yT(S:aN)(v2:AO):∀(ns:AE)(g:Int)(a:AV),∃v',dR [] (gN 2) (aW 1 (bA rK [] (aC (aA 1) (aC (aA 2) aD)))) (ns.map .int) [some a,some (.pv (.int g)),v2] S=.nx [some a,some (.pv (.int (gl ns g))),v'] S
 |[],g,a=>⟨v2,hJ⟩
 |n::ns,g,a=>by
  obtain⟨v',e⟩:=yT S (some (.pv (.int n))) ns (bi g n:Nat) a;refine⟨v',?_⟩;show dR [] _ _ (.int n::ns.map .int) _ S=_;rw[fV];simp! [gN,aE,aR,aS,aG,aJ,aL,aM,aK,aF,aI,J7];exact e
theorem tV(S:aN)(g:Int)(hg:g≠0)(b:Bd 8000 g):∀(ns:AE)(x:AO),cG [] (gN 0) (aB eC (aA 0) (aA 1)) (ns.map .int) [x,some (.pv (.int g))] S=.ok ((ns.map λn=>n.fdiv g).map .int) S
 |[],x=>eH
 |n::ns,x=>by
  have ih:=tV S g hg b ns (some (.pv (.int n)));show cG [] _ _ (.int n::ns.map .int) _ S=_;rw[eQ];simp! [gN,aE,aR,aS,aG,aJ,aL,aM,aK,aF,aI,qZ (show nQ n g from⟨hg,b⟩),ih]
theorem qR(ns:AE)(S:aN)(hb:∀n∈ns,Bd 8000 n):gD [.pv (.lst (ns.map .int))] S=.ok (.pv (.tup ((low ns).map .int))) S:=by
 obtain⟨v',e⟩:=yT S none ns 0 (.pv (.lst (ns.map .int)));unfold gD aX tO
 by_cases h:gl ns 0=0
 .have el:low ns=ns:=by unfold low;rw[if_pos h]
  simp! [aE,aR,aS,aG,aJ,aL,aM,aK,aF,aI,dB,bK,bX,e,h,el]
 .have el:low ns=ns.map λn=>n.fdiv (gl ns 0):=by
   unfold low;rw[if_neg h];exact im λn hn=>(nh ((kJ ns 0).2 n hn)).symm
  have bg:Bd 8000 (gl ns 0):=uY (Bd.of (n:=0) (by simp) (pq 8000)) hb;have ec:=tV S (gl ns 0) h bg ns none;simp! [aE,aR,aS,aG,aJ,aL,aM,aK,aF,aI,dB,bK,bX,e,h,el,bI,bT,ec]
theorem Mx(n:Int)(S:aN):rA [.pv (.int n)] S=.ok (.pv (.bl true)) S:=by
 unfold rA aX yM;simp! [aE,aR,aS,aG,aJ,aL,aM,aK,aF,aI,fP]
theorem Wd(S:aN):∀(ns:AE)(x:AO),cG [] (gN 0) (bA rA [] (aC (aA 0) aD)) (ns.map .int) [x] S=.ok (ns.map λ_=>.bl true) S
 |[],x=>eH
 |n::ns,x=>by
  have ih:=Wd S ns (some (.pv (.int n)));show cG [] _ _ (.int n::ns.map .int) _ S=_;rw[eQ];simp! [gN,aE,aR,aS,aG,aJ,aL,aM,aK,aF,aI,Mx,ih]
theorem Nh:∀(ns:AE),iQ (ns.map λ_=>PV.bl true)=some (ns.map λ_=>true)
 |[]=>rfl
 |n::ns=>by
  show iQ (.bl true::ns.map λ_=>PV.bl true)=_;unfold iQ;rw[Nh ns];rfl
theorem Ms(ns:AE)(S:aN):tL [.pv (.tup (ns.map .int)),.pv (.int ns.length)] S=.ok (.pv (.bl true)) S:=by
 unfold tL aX yF;have e:=Wd S ns none;have ea:((ns.map λ_=>true).all id)=true:=by simp
 simp! [aE,aR,aS,aG,aJ,aL,aM,aK,aF,aI,fP,bI,bK,bX,bT,e,eM,Nh]
theorem Gk:∀(n:Nat)(ns:AE),iO (dm (aG n) (ns.map .int) (ns.map .int))=some (ns.map λ_=>true)
 |n,[]=>rfl
 |n,m::ns=>by
  have ih:=Gk n ns;simp only[cv,tf];have e:aG n (.int m) (.int m)=some true:=by cases n<;>simp[aG]
  rw[e];unfold iO;rw[ih]
theorem Oj(n:Nat)(ns:AE):aG (n+1) (.tup (ns.map .int)) (.tup (ns.map .int))=some true:=by
 rw[aG,Gk];simp
theorem Hr(ns:AE)(S:aN)(hb:∀n∈ns,Bd 8000 n):gD [.pv (.tup (ns.map .int))] S=.ok (.pv (.tup ((low ns).map .int))) S:=by
 obtain⟨v',e⟩:=yT S none ns 0 (.pv (.tup (ns.map .int)));unfold gD aX tO
 by_cases h:gl ns 0=0
 .have el:low ns=ns:=by unfold low;rw[if_pos h]
  simp! [aE,aR,aS,aG,aJ,aL,aM,aK,aF,aI,dB,bK,bX,e,h,el]
 .have el:low ns=ns.map λn=>n.fdiv (gl ns 0):=by
   unfold low;rw[if_neg h];exact im λn hn=>(nh ((kJ ns 0).2 n hn)).symm
  have bg:Bd 8000 (gl ns 0):=uY (Bd.of (n:=0) (by simp) (pq 8000)) hb;have ec:=tV S (gl ns 0) h bg ns none;simp! [aE,aR,aS,aG,aJ,aL,aM,aK,aF,aI,dB,bK,bX,e,h,el,bI,bT,ec]
theorem lI(i:Int){j:Int}(h1:-(2^64)<j)(h2:j<2^64):bC (.int i) (.int j)=some (.int (i*j)):=iM (.inl (.inr ⟨h1,h2⟩))
theorem Uo:kP (.int 10) (.int 18)=some (.int 1000000000000000000):=Cj (i:=10) (j:=18) ⟨by decide,by decide,by decide⟩
theorem yO{k:Nat}{a:AV}:∀(cs:AE)(n:Nat)(acc:AE)(S:aN)(v2 v3 v4 v5 v6:AO),iV S k acc->acc.length+cs.length<=63->n+cs.length<=63->∃(acc':AE)(w2 w3 w4 w5 w6:AO),dR [] (gT 2 (dQ (gN 2) (dQ (gN 3) fK))) ((bN (aZ (aB nX (aA 3) (aB kP (mC (.int 10)) (mC (.int 18))))) (eI (fM (aA 1) (aC (aB dN (aA 3) (aB kP (mC (.int 10)) (mC (.int 18)))) aD))) (aO (aW 4 (aB fB (aB bC (aB aF (aB aF (aB aF (aA 3) (aB bC (aB bC (mC (.int 7)) (aA 2)) (aA 2))) (aB bC (mC (.int 13)) (aA 2))) (mC (.int 5))) (mC (.int 48271))) (mC (.int 2147483647))))
 (aO (aW 5 (aB fB (aB bC (aB aF (aB aF (aB aF (aA 3) (aB bC (aB bC (mC (.int 11)) (aA 2)) (aA 2))) (aB bC (mC (.int 17)) (aA 2))) (mC (.int 3))) (mC (.int 40692))) (mC (.int 2147483399))))
 (aO (aW 6 (aB fB (aB bC (aB aF (aB aF (aB aF (aA 3) (aB bC (aB bC (mC (.int 5)) (aA 2)) (aA 2))) (aB bC (mC (.int 29)) (aA 2))) (mC (.int 8))) (mC (.int 39373))) (mC (.int 2147483587))))
 (aO (aW 4 (aB fB (aB bC (aA 4) (mC (.int 52021))) (mC (.int 1000000007))))
 (aO (aW 5 (aB fB (aB bC (aA 5) (mC (.int 30011))) (mC (.int 998244353))))
 (aO (aW 6 (aB fB (aB bC (aA 6) (mC (.int 45989))) (mC (.int 1000000009))))
 (eI (fM (aA 1) (aC (aB aF (aB bC (aB aF (aB bC (aA 4) (mC (.int 998244353))) (aA 5)) (mC (.int 1000000009))) (aA 6)) aD))))))))))) (iP n (cs.map .int)) [some a,some (.ref k),v2,v3,v4,v5,v6] S=.nx [some a,some (.ref k),w2,w3,w4,w5,w6] (S.set k (.lst (acc'.map .int)))/\acc'.length<=63
 |[],n,acc,S,v2,v3,v4,v5,v6,h,hl,_=>by
  refine⟨acc,v2,v3,v4,v5,v6,?_,by simpa using hl⟩;have e:S.set k (.lst (acc.map .int))=S:=xu λj=>by
   by_cases q:k=j
   .subst q;rw[ij h.lt];exact h.symm
   .rw[jg q]
  rw[e];exact hJ
 |x::cs,n,acc,S,v2,v3,v4,v5,v6,h,hl,hn=>by
  simp only[bq]at hl hn;have h':S[k]?=some (.lst (acc.map .int)):=h;have hlen:acc.length<16777216:=by omega
  have hk1:-(2^64)<(n:Int):=by omega
  have hk2:(n:Int)<2^64:=by omega
  by_cases c:(1000000000000000000:Int)<=x
  .obtain⟨acc',w2,w3,w4,w5,w6,e,q⟩:=yO (k:=k) (a:=a) cs (n+1) (acc++[x-1000000000000000000]) (S.set k (.lst ((acc++[x-1000000000000000000]).map .int))) (some (.pv (.int n))) (some (.pv (.int x))) v4 v5 v6 (h.set _) (by simp;omega) (by omega)
   refine⟨acc',w2,w3,w4,w5,w6,?_,q⟩;rw[sy]at e;rw[<-e];show dR [] _ _ (.tup [.int n,.int x]::iP (n+1) (cs.map .int)) _ S=_;rw[fV];simp! [gT,dQ,fK,gN,aE,aR,aS,aG,aJ,aL,aM,aK,aF,aI,Uo,c,fM,eX,kM,h',hlen]
  .obtain⟨acc',w2,w3,w4,w5,w6,e,q⟩:=yO (k:=k) (a:=a) cs (n+1) (acc++[((((x+7*n*n+13*n+5)*48271).fmod 2147483647*52021).fmod 1000000007*998244353+(((x+11*n*n+17*n+3)*40692).fmod 2147483399*30011).fmod 998244353)*1000000009+(((x+5*n*n+29*n+8)*39373).fmod 2147483587*45989).fmod 1000000009]) (S.set k (.lst ((acc++[((((x+7*n*n+13*n+5)*48271).fmod 2147483647*52021).fmod 1000000007*998244353+(((x+11*n*n+17*n+3)*40692).fmod 2147483399*30011).fmod 998244353)*1000000009+(((x+5*n*n+29*n+8)*39373).fmod 2147483587*45989).fmod 1000000009]).map .int))) (some (.pv (.int n))) (some (.pv (.int x))) (some (.pv (.int ((((x+7*n*n+13*n+5)*48271).fmod 2147483647*52021).fmod 1000000007)))) (some (.pv (.int ((((x+11*n*n+17*n+3)*40692).fmod 2147483399*30011).fmod 998244353)))) (some (.pv (.int ((((x+5*n*n+29*n+8)*39373).fmod 2147483587*45989).fmod 1000000009)))) (h.set _) (by simp;omega) (by omega)
   refine⟨acc',w2,w3,w4,w5,w6,?_,q⟩;rw[sy]at e;rw[<-e];show dR [] _ _ (.tup [.int n,.int x]::iP (n+1) (cs.map .int)) _ S=_;rw[fV];simp! [gT,dQ,fK,gN,aE,aR,aS,aG,aJ,aL,aM,aK,aF,aI,Uo,c,fM,eX,kM,h',hlen,lI _ hk1 hk2,lI _ (show-(2^64)<(48271:Int) by decide) (by decide),lI _ (show-(2^64)<(40692:Int) by decide) (by decide),lI _ (show-(2^64)<(39373:Int) by decide) (by decide),lI _ (show-(2^64)<(52021:Int) by decide) (by decide),lI _ (show-(2^64)<(30011:Int) by decide) (by decide),lI _ (show-(2^64)<(45989:Int) by decide) (by decide),lI _ (show-(2^64)<(998244353:Int) by decide) (by decide),lI _ (show-(2^64)<(1000000009:Int) by decide) (by decide),mG (show(2147483647:Int)≠0 by decide),mG (show(2147483399:Int)≠0 by decide),mG (show(2147483587:Int)≠0 by decide),mG (show(1000000007:Int)≠0 by decide),mG (show(998244353:Int)≠0 by decide),mG (show(1000000009:Int)≠0 by decide)]
theorem R8(ns:AE)(S:aN)(h:ns.length<=63):∃ms:AE,oZ [.pv (.lst (ns.map .int))] S=.ok (.ref S.length) (S++[.lst (ms.map .int)])/\ms.length<=63:=by
 have hr:iV (S++[.lst []]) S.length []:=by unfold iV;simp
 obtain⟨ms,w2,w3,w4,w5,w6,e,q⟩:=yO (a:=.pv (.lst (ns.map .int))) ns 0 [] (S++[.lst []]) none none none none none hr (by simpa using h) (by simpa using h);have ec:iD (ns.map .int) none (some 63)=ns.map .int:=by
  unfold iD;have e1:HT.sIx (ns.map PV.int).length 0 none=0:=rfl;have e2:HT.sIx (ns.map PV.int).length (ns.map PV.int).length (some 63)=(ns.map PV.int).length:=by
   have:=HT.sIx_nat (ns.map PV.int).length (ns.map PV.int).length 63;rw[show((63:Nat):Int)=63 from rfl]at this;rw[this,ar];omega
  rw[e1,e2,List.drop_zero,Nat.sub_zero,g5]
 refine⟨ms,?_,q⟩;have es:(S++[SO.lst []]).set S.length (.lst (ms.map .int))=S++[.lst (ms.map .int)]:=by simp
 rw[es]at e;unfold oZ aX zX;simp! [aE,aR,aS,aG,aJ,aL,aM,aK,aF,aI,dB,gX,nP,vP,dF,bR,bQ,cW,fT,Ia,ec,e]
def PT(L:AE)(b:Int):AE:=(low (L++[b])).map (sg b*·)
theorem aaC{L:AE}{b:Int}(hb:b≠0):gl (L++[b]) 0≠0:=vB (nF L b) hb
theorem T4{L:AE}{b:Int}(hb:0<b):PT L b=low (L++[b]):=by
 unfold PT sg;rw[if_pos hb]
 conv=>rhs;rw[<-jy (low (L++[b]))]
 exact im λn _=>io n
theorem Qh(S:aN)(v2:AO):∀(ns:AE)(g:Int)(a:AV),∃v',dR [] (gN 2) (aW 1 (bA oO [] (aC (aA 1) (aC (aA 2) aD)))) (ns.map .int) [some a,some (.pv (.int g)),v2] S=.nx [some a,some (.pv (.int (gl ns g))),v'] S
 |[],g,a=>⟨v2,hJ⟩
 |n::ns,g,a=>by
  obtain⟨v',e⟩:=Qh S (some (.pv (.int n))) ns (bi g n:Nat) a;refine⟨v',?_⟩;show dR [] _ _ (.int n::ns.map .int) _ S=_;rw[fV];simp! [gN,aE,aR,aS,aG,aJ,aL,aM,aK,aF,aI,Oe];exact e
theorem Rr(ns:AE)(S:aN)(hb:∀n∈ns,Bd 8000 n)(h:gl ns 0≠0):tI [.pv (.lst (ns.map .int))] S=.ok (.pv (.lst ((low ns).map .int))) S:=by
 obtain⟨v',e⟩:=Qh S none ns 0 (.pv (.lst (ns.map .int)));have el:low ns=ns.map λn=>n.fdiv (gl ns 0):=by
  unfold low;rw[if_neg h];exact im λn hn=>(nh ((kJ ns 0).2 n hn)).symm
 have bg:Bd 8000 (gl ns 0):=uY (Bd.of (n:=0) (by simp) (pq 8000)) hb;have ec:=tV S (gl ns 0) h bg ns none;unfold tI aX xY;simp! [aE,aR,aS,aG,aJ,aL,aM,aK,aF,aI,dB,bK,bX,e,h,el,bI,bT,ec]
theorem Oh(S:aN)(b:Int):∀(ns:AE)(x:AO),cG [] (gN 0) (aB bC (bA nM [] (aC (aA 1) aD)) (aA 0)) (ns.map .int) [x,some (.pv (.int b))] S=.ok ((ns.map (sg b*·)).map .int) S
 |[],x=>eH
 |n::ns,x=>by
  have ih:=Oh S b ns (some (.pv (.int n)));have hm:bC (.int (sg b)) (.int n)=some (.int (sg b*n)):=iM (.inl (.inl (Xv b)));show cG [] _ _ (.int n::ns.map .int) _ S=_;rw[eQ];simp! [gN,aE,aR,aS,aG,aJ,aL,aM,aK,aF,aI,uG,hm,ih]
theorem Nv{w:PV}(L:AE)(b:Int)(S:aN)(hw:w=.lst (L.map .int)\/w=.tup (L.map .int))(hL:∀n∈L,Bd 8000 n)(bb:Bd 8000 b)(hb:b≠0)(hl:L.length<=100):nJ [.pv w,.pv (.int b)] S=.ok (.pv (.tup ((PT L b).map .int))) S:=by
 have e1:=Rr (L++[b]) S (λn hn=>by
  rcases cm.mp hn with z |z
  .exact hL n z
  .have:n=b:=by simpa using z
   rw[this];exact bb) (aaC hb)
 have e2:=Oh S b (low (L++[b])) none;have hz:L.length+1<=16777216:=by omega
 simp only[kz,cv,gj]at e1;unfold PT nJ aX zL;rcases hw with rfl |rfl<;>simp! [aE,aR,aS,aG,aJ,aL,aM,aK,aF,aI,hb,hz,e1,bK,bX,bI,bT,e2]
theorem Qv(zs:AE)(z:Int):iD ((zs++[z]).map .int) none (some (-1))=zs.map .int:=by
 unfold iD;have e1:HT.sIx ((zs++[z]).map PV.int).length 0 none=0:=rfl;have e2:HT.sIx ((zs++[z]).map PV.int).length ((zs++[z]).map PV.int).length (some (-1))=zs.length:=by
  rw[ar,bn];exact yN zs.length _
 rw[e1,e2];simp
theorem Ss(zs:AE)(z:Int):¬(HT.sIx ((zs++[z]).map PV.int).length 0 none=0/\HT.sIx ((zs++[z]).map PV.int).length ((zs++[z]).map PV.int).length (some (-1))=((zs++[z]).map PV.int).length):=by
 rintro⟨_,e⟩
 have e2:HT.sIx ((zs++[z]).map PV.int).length ((zs++[z]).map PV.int).length (some (-1))=zs.length:=by
  rw[ar,bn];exact yN zs.length _
 rw[e2,ar,bn]at e;simp at e
theorem yL(zs:AE)(z:Int):fT (.tup ((zs++[z]).map .int)) none (some (-1))=some (.tup (zs.map .int)):=by
 unfold fT;dsimp only;rw[if_neg (Ss zs z),Qv]
theorem nG(zs:AE)(z:Int):aE (.tup ((zs++[z]).map .int)) (.int (-1))=some (.int z):=by
 show aR ((zs++[z]).map PV.int) (-1)=_;rw[kz];exact Xx _ _
theorem oA{m:Int}(h0:0<=m)(h:m<1024):Bd 8000 m:=Bd.of (n:=1023) (by omega) (br (show 1023<2^10 by decide) (ot (by decide) (by decide)))
theorem bW(n:Nat)(a b:Int):aG n (.int a) (.int b)=some (a==b):=by cases n<;>rfl
theorem mB{a b:Int}(h:Bd 2000 a)(g:Bd 2000 b):bC (.int a) (.int b)=some (.int (a*b)):=iM (.inr ⟨h.mono (by decide),g.mono (by decide)⟩)
theorem La(zs:AE)(z:Int)(j:Nat)(h:j<zs.length):aE (.tup ((zs++[z]).map .int)) (.int (j:Nat))=some (.int (zs.getD j 0)):=by
 show aR ((zs++[z]).map PV.int) (j:Int)=_;refine oX ?_;rw[dy,gi h,bf h];simp[cr,h]
theorem Ej{xs:AE}{k:Nat}(h:∀x∈xs,Bd k x)(j:Nat):Bd k (xs.getD j 0):=by
 by_cases hj:j<xs.length
 .have e:xs.getD j 0=xs[j]:=by simp[cr,hj]
  rw[e];exact h _ (iu hj)
 .have e:xs.getD j 0=0:=by simp[cr,hj]
  rw[e];exact Bd.of (n:=0) (by decide) (pq k)
theorem Uu{xs ys:AE}(hl:xs.length=ys.length)(f:Int->Int->Int):(ce xs.length).map (λj=>f (xs.getD j 0) (ys.getD j 0))=dm f xs ys:=by
 refine g6 (by simp[hl]) λi h1 h2=>?_;have hi:i<xs.length:=by simpa using h1
 have hj:i<ys.length:=by omega
 simp[cr,hi,hj]
structure Pq(n k:Nat)(xs:AE)(w:Int):Prop where
 len:xs.length=n
 pos:0<w
 low:low (xs++[w])=xs++[w]
 bx:∀x∈xs,Bd k x
 bw:Bd k w
theorem Pq.mono{n k l:Nat}{xs:AE}{w:Int}(P:Pq n k xs w)(h:k<=l):Pq n l xs w:=⟨P.len,P.pos,P.low,λx hx=>(P.bx x hx).mono h,P.bw.mono h⟩
theorem Nw{xs:AE}{w:Int}{n k:Nat}(S:aN)(hk:k<=2000)(h:Pq n k xs w):qL [.pv (.tup ((xs++[w]).map .int)),.pv (.int n)] S=.ok (.pv (.bl true)) S:=by
 have e1:=Ms (xs++[w]) S;have hl:((xs++[w]).length:Int)=(n:Int)+1:=by simp[h.len]
 rw[hl]at e1;have ip:=nG xs w;have el:=Hr (xs++[w]) S (λm hm=>by
  rcases cm.mp hm with z |z
  .exact(h.bx m z).mono (by omega)
  .have:m=w:=by simpa using z
   rw[this];exact h.bw.mono (by omega))
 rw[h.low]at el;have q:aG 8 (.tup ((xs++[w]).map .int)) (.tup ((xs++[w]).map .int))=some true:=Oj 7 _;have hw:¬w<1:=by have:=h.pos;omega
 generalize (xs++[w]).map PV.int=PL at e1 ip el q;unfold qL aX xA;simp! [bW,aJ,aL,aM,aK,aF,aI,e1,ip,hw,el,q]
theorem Rj(t b:Int)(S:aN)(ht:Bd 8000 t)(hb:Bd 8000 b):lD [.pv (.int t),.pv (.int b)] S=.ok (.pv (.tup ((fr t b).map .int))) S:=by
 unfold lD aX zM fr;have e1:=qR [0-t,0-b] S (by
  intro n hn;rcases cu.mp hn with rfl |hn
  .rw[jm];exact ht.neg
  .have:n=0-b:=by simpa using hn
   rw[this,jm];exact hb.neg)
 have e2:=qR [t,b] S (by
  intro n hn;rcases cu.mp hn with rfl |hn
  .exact ht
  .have:n=b:=by simpa using hn
   rw[this];exact hb)
 by_cases h:b<0
 .simp only[cv,gj,jm]at e1
  simp! [aE,aR,aS,aG,aJ,aL,aM,aK,aF,aI,h,e1]
 .simp only[cv,gj]at e2
  simp! [aE,aR,aS,aG,aJ,aL,aM,aK,aF,aI,h,e2]
theorem Tq(t b:Int)(S:aN)(ht:Bd 7000 t)(hb:Bd 7000 b)(h:b≠0):mF [.pv (.int t),.pv (.int b)] S=.ok (.pv (.tup ((fr t b).map .int))) S:=by
 have gb:Bd 7000 ((bi t b:Nat):Int):=ht.gcd hb;have sb:Bd 2 (sg b):=by
  unfold sg;split
  .unfold Bd;simp
  .split<;>(unfold Bd;simp)
 have mb:nR (sg b) (bi t b:Nat):=.inr ⟨sb.mono (by decide),gb.mono (by decide)⟩;have nz:sg b*(bi t b:Nat)≠0:=by
  have gp:=uH (mW t b) h;rw[uU]at gp;rcases Gh h with⟨_,s⟩|⟨_,s⟩<;>rw[s]<;>omega
 have qb:∀x,nQ x (sg b*(bi t b:Nat)):=λx=>⟨nz,(sb.mul gb).mono (by decide)⟩;rw[<-Yt h];unfold mF aX xM;simp! [aE,aR,aS,aG,aJ,aL,aM,aK,aF,aI,h,uG,Oe,iM mb,qZ (qb t),qZ (qb b)]
theorem qO:∀is:AE,jT (is.map .int)=some is
 |[]=>rfl
 |i::is=>by
  have ih:=qO is;show(match jT (is.map .int)with |some bs=>some (i::bs) |none=>none)=_
  rw[ih]
theorem Kg(is:AE):jB [.lst (is.map .int)]=some (.int is.sum):=by
 simp only[jB,qO,pr]
def wa(xs:AE)(w:Int)(ys:AE)(v:Int):AE:=dm (λx y=>y*w-x*v) xs ys
theorem Pj(S:aN)(PL QL:AM)(w v:Int)(hp:aE (.tup PL) (.int (-1))=some (.int w))(hq:aE (.tup QL) (.int (-1))=some (.int v))(bw:Bd 2000 w)(bv:Bd 2000 v):∀(xs ys:AE)(x y:AO),xs.length=ys.length->(∀x∈xs,Bd 2000 x)->(∀y∈ys,Bd 2000 y)->
  cG [] (gT 2 (dQ (gN 0) (dQ (gN 1) fK))) (aB dN (aB bC (aA 1) (aB aE (aA 2) (cD dA (mC (.int 1))))) (aB bC (aA 0) (aB aE (aA 3) (cD dA (mC (.int 1)))))) (gH (xs.map .int) (ys.map .int)) [x,y,some (.pv (.tup PL)),some (.pv (.tup QL))] S=.ok ((wa xs w ys v).map .int) S
 |[],ys,x,y,hl,_,_=>by
  have:ys=[]:=j4.mp hl.symm;subst this;exact eH
 |a::xs,[],x,y,hl,_,_=>by cases hl
 |a::xs,b::ys,x,y,hl,hx,hy=>by
  have ih:=Pj S PL QL w v hp hq bw bv xs ys (some (.pv (.int a))) (some (.pv (.int b))) (by simpa using hl) (λm hm=>hx m (bp _ hm)) (λm hm=>hy m (bp _ hm));have m1:=mB (hx a bc) bv;have m2:=mB (hy b bc) bw;show cG [] _ _ (.tup [.int a,.int b]::gH (xs.map .int) (ys.map .int)) _ S=_;rw[eQ];simp! [gT,dQ,fK,gN,bW,aJ,aL,aM,aK,aF,aI,hp,hq,m1,m2,ih,wa]
theorem Vh{xs ys:AE}{w v:Int}(S:aN)(hl:xs.length=ys.length)(hx:∀x∈xs,Bd 2000 x)(hy:∀y∈ys,Bd 2000 y)(bw:Bd 2000 w)(bv:Bd 2000 v):
  oH [.pv (.tup ((xs++[w]).map .int)),.pv (.tup ((ys++[v]).map .int))] S=.ok (.pv (.lst ((wa xs w ys v).map .int))) S:=by
 have ip:=nG xs w;have iq:=nG ys v;have sp:=yL xs w;have sq:=yL ys v;have ec:=Pj S _ _ w v ip iq bw bv xs ys none none hl hx hy;generalize (xs++[w]).map PV.int=PL at ip sp ec;generalize (ys++[v]).map PV.int=QL at iq sq ec;unfold oH aX xB;simp! [bW,aJ,aL,aM,aK,aF,aI,bI,kB,pU,bX,dF,bR,bQ,cW,sp,sq,bT,ec]
theorem yK(S:aN):∀(us vs:AE)(x y:AO),(∀x∈us,Bd 100000 x)->(∀y∈vs,Bd 100000 y)->
  cG [] (gT 2 (dQ (gN 0) (dQ (gN 1) fK))) (aB bC (aA 0) (aA 1)) (gH (us.map .int) (vs.map .int)) [x,y] S=.ok ((dm (·*·) us vs).map .int) S
 |[],vs,x,y,_,_=>by
  show cG [] _ _ [] _ S=_;exact eH
 |a::us,[],x,y,_,_=>by
  show cG [] _ _ [] _ S=_;exact eH
 |a::us,b::vs,x,y,hx,hy=>by
  have ih:=yK S us vs (some (.pv (.int a))) (some (.pv (.int b))) (λm hm=>hx m (bp _ hm)) (λm hm=>hy m (bp _ hm));have m1:bC (.int a) (.int b)=some (.int (a*b)):=iM (.inr ⟨(hx a bc).mono (by decide),(hy b bc).mono (by decide)⟩);show cG [] _ _ (.tup [.int a,.int b]::gH (us.map .int) (vs.map .int)) _ S=_;rw[eQ];simp! [gT,dQ,fK,gN,bW,aJ,aL,aM,aK,aF,aI,m1,ih]
def dt(us vs:AE):Int:=(dm (·*·) us vs).sum
def Sq(A:PV)(us:AE):Prop:=A=.lst (us.map .int)\/A=.tup (us.map .int)
theorem Dl{A B:PV}{us vs:AE}(S:aN)(hA:Sq A us)(hB:Sq B vs)(hx:∀x∈us,Bd 100000 x)(hy:∀y∈vs,Bd 100000 y):vE [.pv A,.pv B] S=.ok (.pv (.int (dt us vs))) S:=by
 have ec:=yK S us vs none none hx hy;have es:=Kg (dm (·*·) us vs);unfold dt;generalize (dm (·*·) us vs).map PV.int=ZL at ec es;generalize (dm (·*·) us vs).sum=Z at es;unfold vE aX Ab;rcases hA with rfl |rfl<;>rcases hB with rfl |rfl<;>
  (generalize us.map PV.int=UL at ec⊢;generalize vs.map PV.int=VL at ec⊢;simp! [bW,aJ,aL,aM,aK,aF,aI,bI,kB,pU,bX,bT,ec,es])
theorem G4{A B:PV}{us vs:AE}(S:aN)(hA:Sq A us)(hB:Sq B vs)(hx:∀x∈us,Bd 100000 x)(hy:∀y∈vs,Bd 100000 y):uW [.pv A,.pv B] S=.ok (.pv (.int (dt us vs))) S:=by
 have ec:=yK S us vs none none hx hy;have es:=Kg (dm (·*·) us vs);unfold dt;generalize (dm (·*·) us vs).map PV.int=ZL at ec es;generalize (dm (·*·) us vs).sum=Z at es;unfold uW aX zS;rcases hA with rfl |rfl<;>rcases hB with rfl |rfl<;>
  (generalize us.map PV.int=UL at ec⊢;generalize vs.map PV.int=VL at ec⊢;simp! [bW,aJ,aL,aM,aK,aF,aI,bI,kB,pU,bX,bT,ec,es])
theorem dL{k l:Nat}{a b:Int}(h:Bd k a)(g:Bd l b)(hk:k<=1000000:=by decide)(hl:l<=1000000:=by decide):bC (.int a) (.int b)=some (.int (a*b)):=iM (.inr ⟨h.mono hk,g.mono hl⟩)
theorem B6(a b:Int)(S:aN):oQ [.pv (.lst [.lst [.int a,.int b]])] S=.ok (.pv (.lst [.int (-b),.int a])) S:=by
 unfold oQ aX tQ;simp! [aE,aR,aS,aG,aJ,aL,aM,aK,aF,aI]
theorem B0{a b c d e f:Int}(S:aN)(ha:Bd 10000 a)(hb:Bd 10000 b)(hc:Bd 10000 c)(hd:Bd 10000 d)(he:Bd 10000 e)(hf:Bd 10000 f):oQ [.pv (.lst [.lst [.int a,.int b,.int c],.lst [.int d,.int e,.int f]])] S=.ok (.pv (.lst [.int (b*f-c*e),.int (c*d-a*f),.int (a*e-b*d)])) S:=by
 have m1:=dL hb hf;have m2:=dL hc he;have m3:=dL hc hd;have m4:=dL ha hf;have m5:=dL ha he;have m6:=dL hb hd;unfold oQ aX tQ;simp! [aE,aR,aS,aG,aJ,aL,aM,aK,aF,aI,m1,m2,m3,m4,m5,m6]
theorem Tx{A B:PV}{a b c d e f:Int}(S:aN)(hA:Sq A [a,b,c])(hB:Sq B [d,e,f])(ha:Bd 10000 a)(hb:Bd 10000 b)(hc:Bd 10000 c)(hd:Bd 10000 d)(he:Bd 10000 e)(hf:Bd 10000 f):tT [.pv A,.pv B] S=.ok (.pv (.lst [.int (b*f-c*e),.int (c*d-a*f),.int (a*e-b*d)])) S:=by
 have m1:=dL hb hf;have m2:=dL hc he;have m3:=dL hc hd;have m4:=dL ha hf;have m5:=dL ha he;have m6:=dL hb hd;unfold tT aX yY;rcases hA with rfl |rfl<;>rcases hB with rfl |rfl<;>simp! [aE,aR,aS,aG,aJ,aL,aM,aK,aF,aI,m1,m2,m3,m4,m5,m6]
structure P2(x y w:Int):Prop where
 bx:Bd 1000 x
 by_:Bd 1000 y
 bw:Bd 1000 w
 pos:0<w
structure P3(x y z w:Int):Prop where
 bx:Bd 1000 x
 by_:Bd 1000 y
 bz:Bd 1000 z
 bw:Bd 1000 w
 pos:0<w
abbrev v2(x y w:Int):PV:=.tup [.int x,.int y,.int w]
abbrev v3(x y z w:Int):PV:=.tup [.int x,.int y,.int z,.int w]
def Sv(A:PV)(L:AM):Prop:=A=.lst L\/A=.tup L
theorem Lo(p:PV)(L:AM):iD (p::L) (some 1) none=L:=by
 unfold iD;have e1:HT.sIx (p::L).length 0 (some 1)=1:=by
  rw[show(some (1:Int))=some ((1:Nat):Int) from rfl,HT.sIx_nat,bq];omega
 rw[e1];show((p::L).drop 1).take ((p::L).length-1)=L;simp
theorem vM(p:PV)(L:AM):fT (.lst (p::L)) (some 1) none=some (.lst L):=by
 unfold fT;dsimp only;rw[Lo]
theorem vH(p:PV)(L:AM):fT (.tup (p::L)) (some 1) none=some (.tup L):=by
 unfold fT;dsimp only;have e1:HT.sIx (p::L).length 0 (some 1)=1:=by
  rw[show(some (1:Int))=some ((1:Nat):Int) from rfl,HT.sIx_nat,bq];omega
 rw[if_neg (by rw[e1];simp),Lo]
theorem Bl(L:AM)(p:PV):fT (.lst (L++[p])) none (some (-1))=some (.lst L):=by
 unfold fT;dsimp only;unfold iD;have e1:HT.sIx (L++[p]).length (L++[p]).length (some (-1))=L.length:=by
  rw[bn];exact yN L.length _
 rw[e1];show some (PV.lst (((L++[p]).drop 0).take (L.length-0)))=_;simp
theorem Jm{x0 y0 w0 x1 y1 w1:Int}(S:aN)(p:P2 x0 y0 w0)(q:P2 x1 y1 w1):oH [.pv (v2 x0 y0 w0),.pv (v2 x1 y1 w1)] S=.ok (.pv (.lst [.int (x1*w0-x0*w1),.int (y1*w0-y0*w1)])) S:=by
 have e:=Vh (xs:=[x0,y0]) (ys:=[x1,y1]) (w:=w0) (v:=w1) S rfl (by simp;exact⟨p.bx.mono (by decide),p.by_.mono (by decide)⟩) (by simp;exact⟨q.bx.mono (by decide),q.by_.mono (by decide)⟩) (p.bw.mono (by decide)) (q.bw.mono (by decide));exact e
theorem Aa{x0 y0 z0 w0 x1 y1 z1 w1:Int}(S:aN)(p:P3 x0 y0 z0 w0)(q:P3 x1 y1 z1 w1):oH [.pv (v3 x0 y0 z0 w0),.pv (v3 x1 y1 z1 w1)] S=.ok (.pv (.lst [.int (x1*w0-x0*w1),.int (y1*w0-y0*w1),.int (z1*w0-z0*w1)])) S:=by
 have e:=Vh (xs:=[x0,y0,z0]) (ys:=[x1,y1,z1]) (w:=w0) (v:=w1) S rfl (by simp;exact⟨p.bx.mono (by decide),p.by_.mono (by decide),p.bz.mono (by decide)⟩) (by simp;exact⟨q.bx.mono (by decide),q.by_.mono (by decide),q.bz.mono (by decide)⟩) (p.bw.mono (by decide)) (q.bw.mono (by decide));exact e
theorem sb{x0 w0 x1 w1:Int}(a:Bd 1000 x0)(b:Bd 1000 w0)(c:Bd 1000 x1)(d:Bd 1000 w1):Bd 2001 (x1*w0-x0*w1):=((c.mul b).mono (show 1000+1000<=2000 by decide)).sub ((a.mul d).mono (show 1000+1000<=2000 by decide))
theorem cb{a b c d:Int}(h1:Bd 2001 a)(h2:Bd 2001 b)(h3:Bd 2001 c)(h4:Bd 2001 d):Bd 4003 (a*b-c*d):=((h1.mul h2).mono (show 2001+2001<=4002 by decide)).sub ((h3.mul h4).mono (show 2001+2001<=4002 by decide))
def D2(x0 y0 w0 x1 y1 w1 x2 y2 w2:Int):Int:=w0*(x1*y2-y1*x2)-w1*(x0*y2-y0*x2)+w2*(x0*y1-y0*x1)
def D3(x0 y0 z0 w0 x1 y1 z1 w1 x2 y2 z2 w2 x3 y3 z3 w3:Int):Int:=
 w0*((y1*z2-z1*y2)*x3+(z1*x2-x1*z2)*y3+(x1*y2-y1*x2)*z3)-w1*((y0*z2-z0*y2)*x3+(z0*x2-x0*z2)*y3+(x0*y2-y0*x2)*z3)
 +w2*((y0*z1-z0*y1)*x3+(z0*x1-x0*z1)*y3+(x0*y1-y0*x1)*z3)-w3*((y0*z1-z0*y1)*x2+(z0*x1-x0*z1)*y2+(x0*y1-y0*x1)*z2)
theorem U8(x0 y0 w0 x1 y1 w1 x2 y2 w2:Int):dt [-(y1*w0-y0*w1),x1*w0-x0*w1] [x2*w0-x0*w2,y2*w0-y0*w2]=w0*D2 x0 y0 w0 x1 y1 w1 x2 y2 w2:=by
 simp only[dt,D2,tf,j5,tj,List.sum_nil];grind
theorem Vm(x0 y0 z0 w0 x1 y1 z1 w1 x2 y2 z2 w2 x3 y3 z3 w3:Int):dt [(y1*w0-y0*w1)*(z2*w0-z0*w2)-(z1*w0-z0*w1)*(y2*w0-y0*w2),(z1*w0-z0*w1)*(x2*w0-x0*w2)-(x1*w0-x0*w1)*(z2*w0-z0*w2),(x1*w0-x0*w1)*(y2*w0-y0*w2)-(y1*w0-y0*w1)*(x2*w0-x0*w2)] [x3*w0-x0*w3,y3*w0-y0*w3,z3*w0-z0*w3]=w0*w0*D3 x0 y0 z0 w0 x1 y1 z1 w1 x2 y2 z2 w2 x3 y3 z3 w3:=by
 simp only[dt,D3,tf,j5,tj,List.sum_nil];grind
theorem uR{w d:Int}(h:0<w):sg (w*d)=sg d:=by
 unfold sg
 by_cases h1:0<d
 .rw[if_pos (kg h h1),if_pos h1]
 .by_cases h2:d<0
  .have:w*d<0:=Int.mul_neg_of_pos_of_neg h h2
   rw[if_neg (by omega),if_pos this,if_neg h1,if_pos h2]
  .have:d=0:=by omega
   subst this;rw[wm]
theorem B9{A:PV}{x0 y0 w0 x1 y1 w1 x2 y2 w2:Int}(S:aN)(hA:Sv A [v2 x0 y0 w0,v2 x1 y1 w1,v2 x2 y2 w2])(p:P2 x0 y0 w0)(q:P2 x1 y1 w1)(r:P2 x2 y2 w2):oI [.pv A] S=.ok (.pv (.int (w0*D2 x0 y0 w0 x1 y1 w1 x2 y2 w2))) S:=by
 have a1:=Jm S p q;have a2:=Jm S p r;have bu:=sb p.bx p.bw q.bx q.bw;have bv:=sb p.by_ p.bw q.by_ q.bw;have bu2:=sb p.bx p.bw r.bx r.bw;have bv2:=sb p.by_ p.bw r.by_ r.bw;have id:=U8 x0 y0 w0 x1 y1 w1 x2 y2 w2;generalize y2*w0-y0*w2=V1,x2*w0-x0*w2=V0,y1*w0-y0*w1=U1,x1*w0-x0*w1=U0,w0*D2 x0 y0 w0 x1 y1 w1 x2 y2 w2=D at *;have en:=B6 U0 U1 S;have ed:=Dl (A:=.lst [.int (-U1),.int U0]) (B:=.lst [.int V0,.int V1]) (us:=[-U1,U0]) (vs:=[V0,V1]) S (.inl rfl) (.inl rfl) (by simp;exact⟨bv.neg.mono (by decide),bu.mono (by decide)⟩) (by simp;exact⟨bu2.mono (by decide),bv2.mono (by decide)⟩);rw[id]at ed;have pre:=Bl [.lst [.int U0,.int U1]] (.lst [.int V0,.int V1]);simp only[tm,nv]at pre;generalize v2 x2 y2 w2=R,v2 x1 y1 w1=Q,v2 x0 y0 w0=P at *;unfold oI aX sL;rcases hA with rfl |rfl
 .have s1:=vM P [Q,R]
  simp! [aE,aR,aS,aG,aJ,aL,aM,aK,aF,aI,bI,bK,bX,dF,bR,bQ,cW,s1,bT,eQ,eH,gN,a1,a2,pre,en,ed]
 .have s1:=vH P [Q,R]
  simp! [aE,aR,aS,aG,aJ,aL,aM,aK,aF,aI,bI,bK,bX,dF,bR,bQ,cW,s1,bT,eQ,eH,gN,a1,a2,pre,en,ed]
theorem E6{A:PV}{x0 y0 z0 w0 x1 y1 z1 w1 x2 y2 z2 w2 x3 y3 z3 w3:Int}(S:aN)(hA:Sv A [v3 x0 y0 z0 w0,v3 x1 y1 z1 w1,v3 x2 y2 z2 w2,v3 x3 y3 z3 w3])(p:P3 x0 y0 z0 w0)(q:P3 x1 y1 z1 w1)(r:P3 x2 y2 z2 w2)(s:P3 x3 y3 z3 w3):oI [.pv A] S=.ok (.pv (.int (w0*w0*D3 x0 y0 z0 w0 x1 y1 z1 w1 x2 y2 z2 w2 x3 y3 z3 w3))) S:=by
 have a1:=Aa S p q;have a2:=Aa S p r;have a3:=Aa S p s;have b1:=sb p.bx p.bw q.bx q.bw;have b2:=sb p.by_ p.bw q.by_ q.bw;have b3:=sb p.bz p.bw q.bz q.bw;have b4:=sb p.bx p.bw r.bx r.bw;have b5:=sb p.by_ p.bw r.by_ r.bw;have b6:=sb p.bz p.bw r.bz r.bw;have b7:=sb p.bx p.bw s.bx s.bw;have b8:=sb p.by_ p.bw s.by_ s.bw;have b9:=sb p.bz p.bw s.bz s.bw;have id:=Vm x0 y0 z0 w0 x1 y1 z1 w1 x2 y2 z2 w2 x3 y3 z3 w3;generalize z3*w0-z0*w3=T2,y3*w0-y0*w3=T1,x3*w0-x0*w3=T0,z2*w0-z0*w2=V2,y2*w0-y0*w2=V1,x2*w0-x0*w2=V0,z1*w0-z0*w1=U2,y1*w0-y0*w1=U1,x1*w0-x0*w1=U0,w0*w0*D3 x0 y0 z0 w0 x1 y1 z1 w1 x2 y2 z2 w2 x3 y3 z3 w3=D at *;have h:∀{a:Int},Bd 2001 a->Bd 10000 a:=λh=>h.mono (by decide);have h4:∀{a:Int},Bd 4003 a->Bd 100000 a:=λh=>h.mono (by decide);have h2:∀{a:Int},Bd 2001 a->Bd 100000 a:=λh=>h.mono (by decide);have en:=B0 S (h b1) (h b2) (h b3) (h b4) (h b5) (h b6);have c1:=cb b2 b6 b3 b5;have c2:=cb b3 b4 b1 b6;have c3:=cb b1 b5 b2 b4;have ed:=Dl (A:=.lst [.int (U1*V2-U2*V1),.int (U2*V0-U0*V2),.int (U0*V1-U1*V0)]) (B:=.lst [.int T0,.int T1,.int T2]) (us:=[U1*V2-U2*V1,U2*V0-U0*V2,U0*V1-U1*V0]) (vs:=[T0,T1,T2]) S (.inl rfl) (.inl rfl) (by simp;exact⟨h4 c1,h4 c2,h4 c3⟩) (by simp;exact⟨h2 b7,h2 b8,h2 b9⟩);rw[id]at ed;generalize U0*V1-U1*V0=N2,U2*V0-U0*V2=N1,U1*V2-U2*V1=N0 at *;have pre:=Bl [.lst [.int U0,.int U1,.int U2],.lst [.int V0,.int V1,.int V2]] (.lst [.int T0,.int T1,.int T2]);simp only[tm,nv]at pre;generalize v3 x3 y3 z3 w3=T,v3 x2 y2 z2 w2=R,v3 x1 y1 z1 w1=Q,v3 x0 y0 z0 w0=P at *;unfold oI aX sL;rcases hA with rfl |rfl
 .have s1:=vM P [Q,R,T]
  simp! [aE,aR,aS,aG,aJ,aL,aM,aK,aF,aI,bI,bK,bX,dF,bR,bQ,cW,s1,bT,eQ,eH,gN,a1,a2,a3,pre,en,ed]
 .have s1:=vH P [Q,R,T]
  simp! [aE,aR,aS,aG,aJ,aL,aM,aK,aF,aI,bI,bK,bX,dF,bR,bQ,cW,s1,bT,eQ,eH,gN,a1,a2,a3,pre,en,ed]
theorem Tv{A:PV}{x0 y0 w0 x1 y1 w1 x2 y2 w2:Int}(S:aN)(hA:Sv A [v2 x0 y0 w0,v2 x1 y1 w1,v2 x2 y2 w2])(p:P2 x0 y0 w0)(q:P2 x1 y1 w1)(r:P2 x2 y2 w2):nK [.pv A] S=.ok (.pv (.int (sg (D2 x0 y0 w0 x1 y1 w1 x2 y2 w2)))) S:=by
 have e1:=B9 S hA p q r;have e2:=uG (w0*D2 x0 y0 w0 x1 y1 w1 x2 y2 w2) S;rw[uR p.pos]at e2;unfold nK aX uT;simp! [aE,aR,aS,aG,aJ,aL,aM,aK,aF,aI,e1,e2]
theorem Ax{A:PV}{x0 y0 z0 w0 x1 y1 z1 w1 x2 y2 z2 w2 x3 y3 z3 w3:Int}(S:aN)(hA:Sv A [v3 x0 y0 z0 w0,v3 x1 y1 z1 w1,v3 x2 y2 z2 w2,v3 x3 y3 z3 w3])(p:P3 x0 y0 z0 w0)(q:P3 x1 y1 z1 w1)(r:P3 x2 y2 z2 w2)(s:P3 x3 y3 z3 w3):nK [.pv A] S=.ok (.pv (.int (sg (D3 x0 y0 z0 w0 x1 y1 z1 w1 x2 y2 z2 w2 x3 y3 z3 w3)))) S:=by
 have e1:=E6 S hA p q r s;have e2:=uG (w0*w0*D3 x0 y0 z0 w0 x1 y1 z1 w1 x2 y2 z2 w2 x3 y3 z3 w3) S;rw[uR (kg p.pos p.pos)]at e2;unfold nK aX uT;simp! [aE,aR,aS,aG,aJ,aL,aM,aK,aF,aI,e1,e2]
def Gp(n k:Nat)(v:PV):Prop:=∃xs w,v=.tup ((xs++[w]).map .int)/\Pq n k xs w
theorem Gp.two{v:PV}(h:Gp 2 1000 v):∃x y w,v=v2 x y w/\P2 x y w:=by
 obtain⟨xs,w,rfl,P⟩:=h
 match xs,P.len with
 |[x,y],_=>exact⟨x,y,w,rfl,P.bx x (by simp),P.bx y (by simp),P.bw,P.pos⟩
theorem Gp.three{v:PV}(h:Gp 3 1000 v):∃x y z w,v=v3 x y z w/\P3 x y z w:=by
 obtain⟨xs,w,rfl,P⟩:=h
 match xs,P.len with
 |[x,y,z],_=>exact⟨x,y,z,w,rfl,P.bx x (by simp),P.bx y (by simp),P.bx z (by simp),P.bw,P.pos⟩
theorem Dm{n k m:Nat}{v:PV}(h:Gp n k v):aG (m+1) v v=some true:=by
 obtain⟨xs,w,rfl,_⟩:=h;exact Oj m _
theorem xQ:∀L:AM,∀m,(∀v∈L,aG m v v=some true)->iO (dm (aG m) L L)=some (L.map λ_=>true)
 |[],m,_=>rfl
 |v::L,m,h=>by
  rw[tf,h v bc,iO,xQ L m λu hu=>h u (bp _ hu)];rfl
theorem B4{m:Nat}{L:AM}(h:∀v∈L,aG m v v=some true):aG (m+1) (.lst L) (.lst L)=some true:=by
 rw[aG,if_pos rfl,xQ L m h];simp
theorem tX{m:Nat}{L:AM}(h:∀v∈L,aG m v v=some true):aG (m+1) (.tup L) (.tup L)=some true:=by
 rw[aG,xQ L m h];simp
theorem Rh(S:aN)(PL QL:AM)(xs ys:AE)(w v:Int)(hp:aE (.tup PL) (.int (-1))=some (.int w))(hq:aE (.tup QL) (.int (-1))=some (.int v))(hpj:∀j:Nat,j<xs.length->aE (.tup PL) (.int (j:Nat))=some (.int (xs.getD j 0)))(hqj:∀j:Nat,j<xs.length->aE (.tup QL) (.int (j:Nat))=some (.int (ys.getD j 0)))
  (bw:Bd 1000 w)(bv:Bd 1000 v)(hx:∀j,Bd 1000 (xs.getD j 0))(hy:∀j,Bd 1000 (ys.getD j 0)):∀(js:List Nat)(x:AO),(∀j∈js,j<xs.length)->
  cG [] (gN 0) (aB dN (aB bC (aB aE (aA 1) (aA 0)) (aB aE (aA 2) (cD dA (mC (.int 1))))) (aB bC (aB aE (aA 2) (aA 0)) (aB aE (aA 1) (cD dA (mC (.int 1)))))) (js.map λj=>.int (0+(j:Nat))) [x,some (.pv (.tup QL)),some (.pv (.tup PL))] S=.ok ((js.map λj=>ys.getD j 0*w-xs.getD j 0*v).map .int) S
 |[],x,_=>eH
 |j::js,x,h=>by
  have ih:=Rh S PL QL xs ys w v hp hq hpj hqj bw bv hx hy js (some (.pv (.int (0+(j:Nat))))) λi hi=>h i (bp _ hi);have e1:=hpj j (h j bc);have e2:=hqj j (h j bc);have m1:=mB ((hx j).mono (show 1000<=2000 by decide)) (bv.mono (show 1000<=2000 by decide));have m2:=mB ((hy j).mono (show 1000<=2000 by decide)) (bw.mono (show 1000<=2000 by decide));show cG [] _ _ (.int (0+(j:Nat))::js.map λj=>.int (0+(j:Nat))) _ S=_;rw[eQ];simp only[Int.zero_add]at ih⊢;generalize hX:xs.getD j 0=X at e1 m1;generalize hY:ys.getD j 0=Y at e2 m2;simp! [gN,bW,aJ,aL,aM,aK,aF,aI,e1,e2,hp,hq,m1,m2,ih];simp only[tw]at hX hY;rw[hX,hY]
theorem Jl{xs ys:AE}{w v:Int}(S:aN)(hl:xs.length=ys.length)(h9:xs.length<=9)(hx:∀x∈xs,Bd 1000 x)(hy:∀y∈ys,Bd 1000 y)(bw:Bd 1000 w)(bv:Bd 1000 v):
  pG [.pv (.tup ((xs++[w]).map .int)),.pv (.tup ((ys++[v]).map .int))] S=.ok (.pv (.lst ((wa xs w ys v).map .int))) S:=by
 have ip:=nG xs w;have iq:=nG ys v;have ec:=Rh S _ _ xs ys w v ip iq (λj h=>La xs w j h) (λj h=>La ys v j (by omega)) bw bv (Ej hx) (Ej hy) (ce xs.length) none λj hj=>by simpa using hj
 have er:(ce xs.length).map (λj=>ys.getD j 0*w-xs.getD j 0*v)=wa xs w ys v:=Uu hl λx y=>y*w-x*v;rw[er]at ec;have hlen:((xs++[w]).map PV.int).length=xs.length+1:=by simp
 have hr:pV [.pv (.int (((xs.length+1:Nat):Int)-1))] S=.ok ((ce xs.length).map λj=>.int (0+(j:Nat)),[]) S:=by
  unfold pV;dsimp only;rw[if_pos ⟨by omega,by omega⟩];have:(((xs.length+1:Nat):Int)-1).toNat=xs.length:=by omega
  rw[this];rfl
 generalize (wa xs w ys v).map PV.int=ZL at ec;generalize (ce xs.length).map (λj=>PV.int (0+(j:Nat)))=RL at ec hr;generalize hP:(xs++[w]).map PV.int=PL at ip ec hlen;generalize (ys++[v]).map PV.int=QL at iq ec;unfold pG aX zU;have hr2:=hr;rw[<-hlen]at hr2;simp! [bW,aJ,aL,aM,aK,aF,aI,bI,eV,hr2,bT,ec]
theorem Xn{x0 y0 w0 x1 y1 w1:Int}(S:aN)(p:P2 x0 y0 w0)(q:P2 x1 y1 w1):pG [.pv (v2 x0 y0 w0),.pv (v2 x1 y1 w1)] S=.ok (.pv (.lst [.int (x1*w0-x0*w1),.int (y1*w0-y0*w1)])) S:=by
 have e:=Jl (xs:=[x0,y0]) (ys:=[x1,y1]) (w:=w0) (v:=w1) S rfl (by simp) (by simp;exact⟨p.bx,p.by_⟩) (by simp;exact⟨q.bx,q.by_⟩) p.bw q.bw;exact e
theorem Hb{x0 y0 z0 w0 x1 y1 z1 w1:Int}(S:aN)(p:P3 x0 y0 z0 w0)(q:P3 x1 y1 z1 w1):pG [.pv (v3 x0 y0 z0 w0),.pv (v3 x1 y1 z1 w1)] S=.ok (.pv (.lst [.int (x1*w0-x0*w1),.int (y1*w0-y0*w1),.int (z1*w0-z0*w1)])) S:=by
 have e:=Jl (xs:=[x0,y0,z0]) (ys:=[x1,y1,z1]) (w:=w0) (v:=w1) S rfl (by simp) (by simp;exact⟨p.bx,p.by_,p.bz⟩) (by simp;exact⟨q.bx,q.by_,q.bz⟩) p.bw q.bw;exact e
theorem Kx{A:PV}{x0 y0 w0 x1 y1 w1 x2 y2 w2:Int}(S:aN)(hA:Sv A [v2 x0 y0 w0,v2 x1 y1 w1,v2 x2 y2 w2])(p:P2 x0 y0 w0)(q:P2 x1 y1 w1)(r:P2 x2 y2 w2):kK [.pv A] S=.ok (.pv (.int (w0*D2 x0 y0 w0 x1 y1 w1 x2 y2 w2))) S:=by
 have a1:=Xn S p q;have a2:=Xn S p r;have bu:=sb p.bx p.bw q.bx q.bw;have bv:=sb p.by_ p.bw q.by_ q.bw;have bu2:=sb p.bx p.bw r.bx r.bw;have bv2:=sb p.by_ p.bw r.by_ r.bw;have id:(x1*w0-x0*w1)*(y2*w0-y0*w2)-(y1*w0-y0*w1)*(x2*w0-x0*w2)=w0*D2 x0 y0 w0 x1 y1 w1 x2 y2 w2:=by
  unfold D2;grind
 generalize y2*w0-y0*w2=V1,x2*w0-x0*w2=V0,y1*w0-y0*w1=U1,x1*w0-x0*w1=U0,w0*D2 x0 y0 w0 x1 y1 w1 x2 y2 w2=D at *;have m1:=dL bu bv2;have m2:=dL bv bu2;generalize v2 x2 y2 w2=R,v2 x1 y1 w1=Q,v2 x0 y0 w0=P at *;have et:oW [.pv (.lst [.lst [.int U0,.int U1],.lst [.int V0,.int V1]])] S=.ok (.pv (.int D)) S:=by
  unfold oW aX uF;simp! [aE,aR,aS,aG,aJ,aL,aM,aK,aF,aI,m1,m2,id]
 unfold kK aX uS;rcases hA with rfl |rfl
 .have s1:=vM P [Q,R]
  simp! [aE,aR,aS,aG,aJ,aL,aM,aK,aF,aI,bI,bK,bX,dF,bR,bQ,cW,s1,bT,eQ,eH,gN,a1,a2,et]
 .have s1:=vH P [Q,R]
  simp! [aE,aR,aS,aG,aJ,aL,aM,aK,aF,aI,bI,bK,bX,dF,bR,bQ,cW,s1,bT,eQ,eH,gN,a1,a2,et]
theorem Cw{A:PV}{x0 y0 z0 w0 x1 y1 z1 w1 x2 y2 z2 w2 x3 y3 z3 w3:Int}(S:aN)(hA:Sv A [v3 x0 y0 z0 w0,v3 x1 y1 z1 w1,v3 x2 y2 z2 w2,v3 x3 y3 z3 w3])(p:P3 x0 y0 z0 w0)(q:P3 x1 y1 z1 w1)(r:P3 x2 y2 z2 w2)(s:P3 x3 y3 z3 w3):kK [.pv A] S=.ok (.pv (.int (w0*w0*D3 x0 y0 z0 w0 x1 y1 z1 w1 x2 y2 z2 w2 x3 y3 z3 w3))) S:=by
 have a1:=Hb S p q;have a2:=Hb S p r;have a3:=Hb S p s;have b1:=sb p.bx p.bw q.bx q.bw;have b2:=sb p.by_ p.bw q.by_ q.bw;have b3:=sb p.bz p.bw q.bz q.bw;have b4:=sb p.bx p.bw r.bx r.bw;have b5:=sb p.by_ p.bw r.by_ r.bw;have b6:=sb p.bz p.bw r.bz r.bw;have b7:=sb p.bx p.bw s.bx s.bw;have b8:=sb p.by_ p.bw s.by_ s.bw;have b9:=sb p.bz p.bw s.bz s.bw;have id:=Vm x0 y0 z0 w0 x1 y1 z1 w1 x2 y2 z2 w2 x3 y3 z3 w3;generalize z3*w0-z0*w3=T2,y3*w0-y0*w3=T1,x3*w0-x0*w3=T0,z2*w0-z0*w2=V2,y2*w0-y0*w2=V1,x2*w0-x0*w2=V0,z1*w0-z0*w1=U2,y1*w0-y0*w1=U1,x1*w0-x0*w1=U0,w0*w0*D3 x0 y0 z0 w0 x1 y1 z1 w1 x2 y2 z2 w2 x3 y3 z3 w3=D at *;have h:∀{a:Int},Bd 2001 a->Bd 10000 a:=λh=>h.mono (by decide);have h4:∀{a:Int},Bd 4003 a->Bd 100000 a:=λh=>h.mono (by decide);have h2:∀{a:Int},Bd 2001 a->Bd 100000 a:=λh=>h.mono (by decide);have en:=Tx (A:=.lst [.int U0,.int U1,.int U2]) (B:=.lst [.int V0,.int V1,.int V2]) S (.inl rfl) (.inl rfl) (h b1) (h b2) (h b3) (h b4) (h b5) (h b6);have c1:=cb b2 b6 b3 b5;have c2:=cb b3 b4 b1 b6;have c3:=cb b1 b5 b2 b4;have ed:=G4 (A:=.lst [.int (U1*V2-U2*V1),.int (U2*V0-U0*V2),.int (U0*V1-U1*V0)]) (B:=.lst [.int T0,.int T1,.int T2]) (us:=[U1*V2-U2*V1,U2*V0-U0*V2,U0*V1-U1*V0]) (vs:=[T0,T1,T2]) S (.inl rfl) (.inl rfl) (by simp;exact⟨h4 c1,h4 c2,h4 c3⟩) (by simp;exact⟨h2 b7,h2 b8,h2 b9⟩);rw[id]at ed;generalize v3 x3 y3 z3 w3=T,v3 x2 y2 z2 w2=R,v3 x1 y1 z1 w1=Q,v3 x0 y0 z0 w0=P,U0*V1-U1*V0=N2,U2*V0-U0*V2=N1,U1*V2-U2*V1=N0 at *;have et:oW [.pv (.lst [.lst [.int U0,.int U1,.int U2],.lst [.int V0,.int V1,.int V2],.lst [.int T0,.int T1,.int T2]])] S=.ok (.pv (.int D)) S:=by
  unfold oW aX uF;simp! [aE,aR,aS,aG,aJ,aL,aM,aK,aF,aI,en,ed]
 unfold kK aX uS;rcases hA with rfl |rfl
 .have s1:=vM P [Q,R,T]
  simp! [aE,aR,aS,aG,aJ,aL,aM,aK,aF,aI,bI,bK,bX,dF,bR,bQ,cW,s1,bT,eQ,eH,gN,a1,a2,a3,et]
 .have s1:=vH P [Q,R,T]
  simp! [aE,aR,aS,aG,aJ,aL,aM,aK,aF,aI,bI,bK,bX,dF,bR,bQ,cW,s1,bT,eQ,eH,gN,a1,a2,a3,et]
def B2(x0 y0 w0 x1 y1 w1:Int):AE:=[-(y1*w0-y0*w1),x1*w0-x0*w1,x0*y1-y0*x1]
theorem A5{G:Gd}{g:GM}{me:ME}{x:PV}{r:AM}{ρ:bS}{S:aN}(h:gL G S):cG G g me (x::r) ρ S=(match g x ρ with
  |none=>.fail
  |some ρ1=>match me ρ1 S with
   |.ok (.pv y) S1=>match cG G g me r ρ1 S1 with
    |.ok ys S2=>.ok (y::ys) S2
    |_=>.fail
   |_=>.fail):=by
 rw[cG,if_pos h]
 all_goals rfl
theorem Ay{G:Gd}{g:GM}{me:ME}{ρ:bS}{S:aN}(h:gL G S):cG G g me [] ρ S=.ok [] S:=by
 rw[cG,if_pos h]
structure R2(x y w X Y D:Int):Prop where
 pos:0<w
 dos:0<D
 ex:x*D=X*w
 ey:y*D=Y*w
theorem Pq.p2{k:Nat}{x y w:Int}(P:Pq 2 k [x,y] w)(h:k<=1000):P2 x y w:=⟨(P.bx x (by simp)).mono h,(P.bx y (by simp)).mono h,P.bw.mono h,P.pos⟩
theorem Pq.p3{k:Nat}{x y z w:Int}(P:Pq 3 k [x,y,z] w)(h:k<=1000):P3 x y z w:=⟨(P.bx x (by simp)).mono h,(P.bx y (by simp)).mono h,(P.bx z (by simp)).mono h,P.bw.mono h,P.pos⟩
def gK:AM->Int
 |[.tup [.int x0,.int y0,.int w0],.tup [.int x1,.int y1,.int w1],.tup [.int x2,.int y2,.int w2]]=>sg (D2 x0 y0 w0 x1 y1 w1 x2 y2 w2)
 |[.tup [.int x0,.int y0,.int z0,.int w0],.tup [.int x1,.int y1,.int z1,.int w1],.tup [.int x2,.int y2,.int z2,.int w2],.tup [.int x3,.int y3,.int z3,.int w3]]=>sg (D3 x0 y0 z0 w0 x1 y1 z1 w1 x2 y2 z2 w2 x3 y3 z3 w3)
 |_=>0
theorem Gj{n:Nat}(hn:n=2\/n=3){A:PV}{L:AM}(S:aN)(hl:L.length=n+1)(hg:∀v∈L,Gp n 1000 v)(hA:Sv A L):nK [.pv A] S=.ok (.pv (.int (gK L))) S:=by
 rcases hn with rfl |rfl
 .match L,hl with
  |[P,Q,R],_=>
   obtain⟨x0,y0,w0,rfl,p⟩:=(hg P (by simp)).two;obtain⟨x1,y1,w1,rfl,q⟩:=(hg Q (by simp)).two;obtain⟨x2,y2,w2,rfl,r⟩:=(hg R (by simp)).two;exact Tv S hA p q r
 .match L,hl with
  |[P,Q,R,T],_=>
   obtain⟨x0,y0,z0,w0,rfl,p⟩:=(hg P (by simp)).three;obtain⟨x1,y1,z1,w1,rfl,q⟩:=(hg Q (by simp)).three;obtain⟨x2,y2,z2,w2,rfl,r⟩:=(hg R (by simp)).three;obtain⟨x3,y3,z3,w3,rfl,s⟩:=(hg T (by simp)).three;exact Ax S hA p q r s
theorem P0(D:Int):sg (-D)=-sg D:=by
 unfold sg;split<;>split<;>(try split)<;>(try split)<;>omega
abbrev tv(us:AE):PV:=.tup (us.map .int)
def Gu(n k:Nat)(us:AE):Prop:=∃xs w,us=xs++[w]/\Pq n k xs w
theorem Gu.gp{n k:Nat}{us:AE}(h:Gu n k us):Gp n k (tv us):=by
 obtain⟨xs,w,rfl,P⟩:=h;exact⟨xs,w,rfl,P⟩
theorem Gu.ne{n k:Nat}{us:AE}(h:Gu n k us):us≠[]:=by
 obtain⟨xs,w,rfl,P⟩:=h;simp
theorem wS{n k:Nat}{uss:AF}(h:∀us∈uss,Gu n k us):∀v∈uss.map tv,Gp n k v:=λv hv=>by
 obtain⟨us,hu,rfl⟩:=da.mp hv;exact(h us hu).gp
theorem Ye:∀uss:AF,mQ (uss.map tv)=some uss
 |[]=>rfl
 |us::uss=>by
  have ih:=Ye uss;show(match jT (us.map .int),mQ (uss.map tv)with |some is,some uss=>some (is::uss) |_,_=>none)=_
  rw[ih,qO]
theorem Vg{uss:AF}{n:Nat}(hl:uss.length=n)(hp:(dH uss).Perm (ce n)):Oa (uss.map tv) uss=(cX uss).map tv:=by
 unfold Oa cX;rw[du];refine im λi hi=>?_;have h:i<uss.length:=by
  have:=hp.subset hi;rw[hl];simpa using this
 simp[cr,h]
theorem xT{A:PV}{uss:AF}(hl:uss.length=3\/uss.length=4)(hA:Sv A (uss.map tv))(hne:∀us∈uss,us≠[]):oV [A]=some (.lst ((cX uss).map tv)):=by
 have e:pS (uss.map tv)=some (.lst ((cX uss).map tv)):=by
  unfold pS;rw[Ye];dsimp only;rcases hl with h |h
  .obtain⟨_,hp,_⟩:=Vj h
   rw[if_pos (show Ra uss from⟨by omega,by omega,by rw[h];exact Nm,by rw[hp.length_eq];simp,hne⟩),Vg h hp]
  .obtain⟨_,hp,_⟩:=Bk h
   rw[if_pos (show Ra uss from⟨by omega,by omega,by rw[h];exact Ln,by rw[hp.length_eq];simp,hne⟩),Vg h hp]
 rcases hA with rfl |rfl
 .exact e
 .exact e
def nA{α:Type}:List α->List α
 |[a,b,c]=>[a,c,b]
 |[a,b,c,d]=>[a,b,d,c]
 |l=>l
theorem Dk{α β:Type}(f:α->β)(l:List α):(nA l).map f=nA (l.map f):=by
 unfold nA;split
 .rfl
 .rfl
 .rename_i h1 h2
  split
  .rename_i e
   match l,e with
   |[a,b,c],_=>exact absurd rfl (h1 a b c)
  .rename_i e
   match l,e with
   |[a,b,c,d],_=>exact absurd rfl (h2 a b c d)
  .rfl
theorem Yv{α:Type}(l:List α):(nA l).Perm l:=by
 unfold nA;split
 .exact .cons _ (.swap _ _ _)
 .exact .cons _ (.cons _ (.swap _ _ _))
 .exact .refl _
def dU:AF->Int
 |[[x0,y0,w0],[x1,y1,w1],[x2,y2,w2]]=>D2 x0 y0 w0 x1 y1 w1 x2 y2 w2
 |[[x0,y0,z0,w0],[x1,y1,z1,w1],[x2,y2,z2,w2],[x3,y3,z3,w3]]=>D3 x0 y0 z0 w0 x1 y1 z1 w1 x2 y2 z2 w2 x3 y3 z3 w3
 |_=>0
theorem Gu.two{k:Nat}{us:AE}(h:Gu 2 k us)(hk:k<=1000):∃x y w,us=[x,y,w]/\P2 x y w:=by
 obtain⟨xs,w,rfl,P⟩:=h
 match xs,P.len,P with
 |[x,y],_,P=>exact⟨x,y,w,rfl,P.p2 hk⟩
theorem Gu.three{k:Nat}{us:AE}(h:Gu 3 k us)(hk:k<=1000):∃x y z w,us=[x,y,z,w]/\P3 x y z w:=by
 obtain⟨xs,w,rfl,P⟩:=h
 match xs,P.len,P with
 |[x,y,z],_,P=>exact⟨x,y,z,w,rfl,P.p3 hk⟩
theorem pA{n k:Nat}(hn:n=2\/n=3)(hk:k<=1000){uss:AF}(hl:uss.length=n+1)(hg:∀us∈uss,Gu n k us):gK (uss.map tv)=sg (dU uss):=by
 rcases hn with rfl |rfl
 .match uss,hl with
  |[a,b,c],_=>
   obtain⟨x0,y0,w0,rfl,_⟩:=(hg a (by simp)).two hk;obtain⟨x1,y1,w1,rfl,_⟩:=(hg b (by simp)).two hk;obtain⟨x2,y2,w2,rfl,_⟩:=(hg c (by simp)).two hk;rfl
 .match uss,hl with
  |[a,b,c,d],_=>
   obtain⟨x0,y0,z0,w0,rfl,_⟩:=(hg a (by simp)).three hk;obtain⟨x1,y1,z1,w1,rfl,_⟩:=(hg b (by simp)).three hk;obtain⟨x2,y2,z2,w2,rfl,_⟩:=(hg c (by simp)).three hk;obtain⟨x3,y3,z3,w3,rfl,_⟩:=(hg d (by simp)).three hk;rfl
def Pw(n:Nat)(us:AE):Prop:=∃xs w,us=xs++[w]/\xs.length=n/\0<w
theorem Pw.two{us:AE}(h:Pw 2 us):∃x y w,us=[x,y,w]/\0<w:=by
 obtain⟨xs,w,rfl,l,p⟩:=h
 match xs,l with
 |[x,y],_=>exact⟨x,y,w,rfl,p⟩
theorem Pw.three{us:AE}(h:Pw 3 us):∃x y z w,us=[x,y,z,w]/\0<w:=by
 obtain⟨xs,w,rfl,l,p⟩:=h
 match xs,l with
 |[x,y,z],_=>exact⟨x,y,z,w,rfl,p⟩
theorem Gu.pt{n k:Nat}{us:AE}(h:Gu n k us):Pw n us:=by
 obtain⟨xs,w,e,P⟩:=h;exact⟨xs,w,e,P.len,P.pos⟩
theorem dU2{x0 y0 w0 x1 y1 w1 x2 y2 w2:Int}:dU [[x0,y0,w0],[x1,y1,w1],[x2,y2,w2]]=D2 x0 y0 w0 x1 y1 w1 x2 y2 w2:=rfl
theorem dU3{x0 y0 z0 w0 x1 y1 z1 w1 x2 y2 z2 w2 x3 y3 z3 w3:Int}:dU [[x0,y0,z0,w0],[x1,y1,z1,w1],[x2,y2,z2,w2],[x3,y3,z3,w3]]=D3 x0 y0 z0 w0 x1 y1 z1 w1 x2 y2 z2 w2 x3 y3 z3 w3:=rfl
theorem B8{n:Nat}(hn:n=2\/n=3){pre l:AF}{x y:AE}(hl:(pre++y::x::l).length=n+1)(hp:∀u∈pre++y::x::l,Pw n u):dU (pre++x::y::l)=-dU (pre++y::x::l):=by
 have hx:=hp x (by simp);have hy:=hp y (by simp);rcases hn with rfl |rfl
 .obtain⟨x0,y0,w0,rfl,_⟩:=hx.two
  obtain⟨x1,y1,w1,rfl,_⟩:=hy.two;have fin:∀c∈pre++l,∃x y w,c=[x,y,w]:=λc hc=>by
   obtain⟨x,y,w,e,_⟩:=(hp c (by simp at hc⊢;rcases hc with h |h<;>simp[h])).two;exact⟨x,y,w,e⟩
  match pre,l,hl,fin with
  |[],[c],_,fin |[c],[],_,fin=>
   obtain⟨x2,y2,w2,rfl⟩:=fin c (by simp);simp only[nv,tm,dU2,D2];grind
  |[],[],h,_=>simp at h
  |[],_::_::_,h,_=>simp at h
  |_::_::_,_,h,_=>simp at h;omega
  |[_],_::_,h,_=>simp at h
 .obtain⟨x0,y0,z0,w0,rfl,_⟩:=hx.three
  obtain⟨x1,y1,z1,w1,rfl,_⟩:=hy.three;have fin:∀c∈pre++l,∃x y z w,c=[x,y,z,w]:=λc hc=>by
   obtain⟨x,y,z,w,e,_⟩:=(hp c (by simp at hc⊢;rcases hc with h |h<;>simp[h])).three;exact⟨x,y,z,w,e⟩
  match pre,l,hl,fin with
  |[],[c,d],_,fin |[c],[d],_,fin |[c,d],[],_,fin=>
   obtain⟨x2,y2,z2,w2,rfl⟩:=fin c (by simp);obtain⟨x3,y3,z3,w3,rfl⟩:=fin d (by simp);simp only[nv,tm,dU3,D3];grind
  |[],[],h,_=>simp at h
  |[],[_],h,_=>simp at h
  |[],_::_::_::_,h,_=>simp at h
  |[_],[],h,_=>simp at h
  |[_],_::_::_,h,_=>simp at h
  |[_,_],_::_,h,_=>simp at h
  |_::_::_::_,_,h,_=>simp at h;omega
theorem Rz{n:Nat}(hn:n=2\/n=3){A B:AF}(h:A.Perm B):∀pre:AF,(pre++A).length=n+1->(∀u∈pre++A,Pw n u)->dU (pre++B)=dU (pre++A)\/dU (pre++B)=-dU (pre++A):=by
 induction h with
 |nil=>exact λpre _ _=>.inl rfl
 |cons x _ ih=>
  intro pre hl hp;have:=ih (pre++[x]) (by simpa using hl) (by simpa using hp);simpa using this
 |swap x y l=>exact λpre hl hp=>.inr (B8 hn hl hp)
 |trans h1 h2 ih1 ih2=>
  intro pre hl hp;have q1:=ih1 pre hl hp;have q2:=ih2 pre (by rw[<-(h1.append_left pre).length_eq];exact hl) λu hu=>hp u ((h1.append_left pre).mem_iff.mpr hu);omega
theorem Sj{n k:Nat}(hn:n=2\/n=3)(hk:k<=1000){uss:AF}(hl:uss.length=n+1)(hg:∀us∈uss,Gu n k us):dU (cX uss)=dU uss\/dU (cX uss)=-dU uss:=
 Rz hn (lA (by omega)).1.symm [] hl λu hu=>(hg u hu).pt
theorem vG{n:Nat}(hn:n=2\/n=3){uss:AF}(hl:uss.length=n+1):uss.length=3\/uss.length=4:=by
 rcases hn with rfl |rfl
 .exact .inl hl
 .exact .inr hl
theorem Jh{n:Nat}(hn:n=2\/n=3){uss:AF}(hl:uss.length=n+1)(hg:∀us∈uss,Gu n 1000 us):gK ((cX uss).map tv)=gK (uss.map tv)\/gK ((cX uss).map tv)=-gK (uss.map tv):=by
 have hp:=(lA (vG hn hl)).1;rw[pA hn (am 1000) (by rw[hp.length_eq,hl]) (λus hu=>hg us (hp.subset hu)),pA hn (am 1000) hl hg];rcases Sj hn (am 1000) hl hg with e |e
 .exact .inl (by rw[e])
 .exact .inr (by rw[e,P0])
theorem zQ{n:Nat}(hn:n=2\/n=3){A:PV}{L:AM}(S:aN)(hl:L.length=n+1)(hg:∀v∈L,Gp n 1000 v)(hA:Sv A L):∃d:Int,kK [.pv A] S=.ok (.pv (.int d)) S/\sg d=gK L:=by
 rcases hn with rfl |rfl
 .match L,hl with
  |[P,Q,R],_=>
   obtain⟨x0,y0,w0,rfl,p⟩:=(hg P (by simp)).two;obtain⟨x1,y1,w1,rfl,q⟩:=(hg Q (by simp)).two;obtain⟨x2,y2,w2,rfl,r⟩:=(hg R (by simp)).two;exact⟨_,Kx S hA p q r,uR p.pos⟩
 .match L,hl with
  |[P,Q,R,T],_=>
   obtain⟨x0,y0,z0,w0,rfl,p⟩:=(hg P (by simp)).three;obtain⟨x1,y1,z1,w1,rfl,q⟩:=(hg Q (by simp)).three;obtain⟨x2,y2,z2,w2,rfl,r⟩:=(hg R (by simp)).three;obtain⟨x3,y3,z3,w3,rfl,s⟩:=(hg T (by simp)).three;exact⟨_,Cw S hA p q r s,uR (kg p.pos p.pos)⟩
def cV(uss:AF):AF:=if gK ((cX uss).map tv)<0 then nA (cX uss)else cX uss
theorem Dn{n:Nat}(hn:n=2\/n=3){L:AM}(hl:L.length=n+1):∃a b M,fT (.lst L) none (some (-2))=some (.lst M)/\aE (.lst L) (.int (-1))=some a/\aE (.lst L) (.int (-2))=some b/\aF (.lst M) (.lst [a,b])=some (.lst (nA L)):=by
 rcases hn with rfl |rfl
 .match L,hl with
  |[P,Q,R],_=>exact⟨R,Q,[P],rfl,rfl,rfl,rfl⟩
 .match L,hl with
  |[P,Q,R,T],_=>exact⟨T,R,[P,Q],rfl,rfl,rfl,rfl⟩
theorem Br{n:Nat}(hn:n=2\/n=3){A:PV}{a:AV}{uss:AF}(S:aN)(ha:rd S a=some A)(hl:uss.length=n+1)(hg:∀us∈uss,Gu n 1000 us)(hA:Sv A (uss.map tv)):kY [a] S=.ok (.pv (.tup ((cV uss).map tv))) S:=by
 have h34:uss.length=3\/uss.length=4:=by omega
 have e1:=xT h34 hA λus hu=>(hg us hu).ne;obtain⟨pm,_⟩:=lA h34;have hl2:((cX uss).map tv).length=n+1:=by rw[ar,pm.length_eq];exact hl
 have hg2:∀v∈(cX uss).map tv,Gp n 1000 v:=wS λus hu=>hg us (pm.subset hu);obtain⟨d,e2,hd⟩:=zQ (A:=.lst ((cX uss).map tv)) hn S hl2 hg2 (.inl rfl);obtain⟨a1,b1,M,t1,t2,t3,t4⟩:=Dn hn hl2;unfold cV;have hlt:d<0↔gK ((cX uss).map tv)<0:=by
  rw[<-hd];unfold sg;split
  .omega
  .split<;>omega
 by_cases h:d<0
 .rw[if_pos (hlt.mp h),Dk]
  generalize (cX uss).map tv=L at *;unfold kY aX sT;simp! [-rd,rd.eq_1,bW,aJ,aL,aM,aK,aI,ha,e1,e2,h,dF,bR,bQ,cW,t1,t2,t3,t4]
 .rw[if_neg (λz=>h (hlt.mpr z))]
  generalize (cX uss).map tv=L at *;unfold kY aX sT;simp! [-rd,rd.eq_1,bW,aJ,aL,aM,aK,aI,ha,e1,e2,h]
theorem Yd{n:Nat}(hn:n=2\/n=3){A:PV}{uss:AF}(S:aN)(hl:uss.length=n+1)(hg:∀us∈uss,Gu n 1000 us)(hA:Sv A (uss.map tv)):kY [.pv A] S=.ok (.pv (.tup ((cV uss).map tv))) S:=Br hn S rfl hl hg hA
theorem Cs{n:Nat}(hn:n=2\/n=3){A:PV}{uss:AF}(S:aN)(hl:uss.length=n+1)(hg:∀us∈uss,Gu n 1000 us)(hA:Sv A (uss.map tv))(h0:gK (uss.map tv)≠0):iK [.pv A] S=.ok (.pv (.tup ((cV uss).map tv))) S:=by
 have h34:uss.length=3\/uss.length=4:=by omega
 have e1:=xT h34 hA λus hu=>(hg us hu).ne;obtain⟨pm,_⟩:=lA h34;have hl2:((cX uss).map tv).length=n+1:=by rw[ar,pm.length_eq];exact hl
 have hg2:∀v∈(cX uss).map tv,Gp n 1000 v:=wS λus hu=>hg us (pm.subset hu);have e2:=Gj (A:=.lst ((cX uss).map tv)) hn S hl2 hg2 (.inl rfl);have h1:gK ((cX uss).map tv)≠0:=by rcases Jh hn hl hg with e |e<;>omega
 obtain⟨a,b,M,t1,t2,t3,t4⟩:=Dn hn hl2;unfold cV
 by_cases h:gK ((cX uss).map tv)<0
 .rw[if_pos h,Dk]
  generalize (cX uss).map tv=L at *;generalize gK L=D at *;unfold iK aX qS;simp! [bW,aJ,aL,aM,aK,aI,e1,e2,h,h1,dF,bR,bQ,cW,t1,t2,t3,t4]
 .rw[if_neg h]
  generalize (cX uss).map tv=L at *;generalize gK L=D at *;unfold iK aX qS;simp! [bW,aJ,aL,aM,aK,aI,e1,e2,h,h1]
theorem Sr{n:Nat}(hn:n=2\/n=3){A:PV}{uss:AF}(S:aN)(hl:uss.length=n+1)(hg:∀us∈uss,Gu n 1000 us)(hA:Sv A (uss.map tv))(h0:gK (uss.map tv)=0):iK [.pv A] S=.exc "Flat" S:=by
 have h34:uss.length=3\/uss.length=4:=by omega
 have e1:=xT h34 hA λus hu=>(hg us hu).ne;obtain⟨pm,_⟩:=lA h34;have hl2:((cX uss).map tv).length=n+1:=by rw[ar,pm.length_eq];exact hl
 have hg2:∀v∈(cX uss).map tv,Gp n 1000 v:=wS λus hu=>hg us (pm.subset hu);have e2:=Gj (A:=.lst ((cX uss).map tv)) hn S hl2 hg2 (.inl rfl);have h1:gK ((cX uss).map tv)=0:=by rcases Jh hn hl hg with e |e<;>omega
 rw[h1]at e2;generalize (cX uss).map tv=L at *;unfold iK aX qS;simp! [bW,aJ,aL,aM,aK,aI,e1,e2,mP]
theorem Zh{uss:AF}(h:uss.length=3\/uss.length=4):(cV uss).Perm uss:=by
 obtain⟨pm,_⟩:=lA h;unfold cV;split
 .exact(Yv _).trans pm
 .exact pm
theorem A8{uss:AF}(h:uss.length=3\/uss.length=4):cV (cV uss)=cV uss:=by
 have e:=Up (Zh h) h;unfold cV at e⊢;rw[e]
theorem Uk{S:aN}{k j:Nat}{xs:AM}{v:PV}(hS:S[k]?=some (.lst xs))(hv:xs[j]?=some v)(hj:j<1000):mU k [.pv (.int (j:Int))] S=.ok (.pv v) (S.set k (.lst (xs.eraseIdx j))):=by
 have hl:=(db.mp hv).1;have e:seqIndex? (j:Int) xs.length=some j:=by
  unfold seqIndex?;have h1:¬((j:Int)<0):=by omega
  have h2:(decide (0<=(j:Int))&&decide ((j:Int)<(xs.length:Int)))=true:=by
   simp only[ee,decide_eq_true_eq];omega
  simp only[h1,if_false];rw[if_pos h2,mq]
 unfold mU;dsimp only;rw[if_pos ⟨by omega,by omega⟩,hS];dsimp only;rw[e];dsimp only;rw[hv]
theorem Gu.mono{n k l:Nat}{us:AE}(h:Gu n k us)(hl:k<=l):Gu n l us:=by
 obtain⟨xs,w,e,P⟩:=h;exact⟨xs,w,e,P.mono hl⟩
theorem tZ{d:Int}:sg d=0↔d=0:=by
 unfold sg;split
 .omega
 .split<;>omega
theorem Jn{d:Int}:sg d<0↔d<0:=by
 unfold sg;split
 .omega
 .split<;>omega
theorem K4{n k:Nat}(hn:n=2\/n=3)(hk:k<=1000){uss:AF}(hl:uss.length=n+1)(hg:∀us∈uss,Gu n k us):dU (nA uss)=-dU uss:=by
 rcases hn with rfl |rfl
 .match uss,hl with
  |[a,b,c],_=>
   obtain⟨x0,y0,w0,rfl,_⟩:=(hg a (by simp)).two hk;obtain⟨x1,y1,w1,rfl,_⟩:=(hg b (by simp)).two hk;obtain⟨x2,y2,w2,rfl,_⟩:=(hg c (by simp)).two hk;show D2 x0 y0 w0 x2 y2 w2 x1 y1 w1=-(D2 x0 y0 w0 x1 y1 w1 x2 y2 w2);unfold D2;grind
 .match uss,hl with
  |[a,b,c,d],_=>
   obtain⟨x0,y0,z0,w0,rfl,_⟩:=(hg a (by simp)).three hk;obtain⟨x1,y1,z1,w1,rfl,_⟩:=(hg b (by simp)).three hk;obtain⟨x2,y2,z2,w2,rfl,_⟩:=(hg c (by simp)).three hk;obtain⟨x3,y3,z3,w3,rfl,_⟩:=(hg d (by simp)).three hk;show D3 x0 y0 z0 w0 x1 y1 z1 w1 x3 y3 z3 w3 x2 y2 z2 w2=-(D3 x0 y0 z0 w0 x1 y1 z1 w1 x2 y2 z2 w2 x3 y3 z3 w3);unfold D3;grind
theorem L3{n k:Nat}(hn:n=2\/n=3)(hk:k<=1000){uss:AF}(hl:uss.length=n+1)(hg:∀us∈uss,Gu n k us):dU (cV uss)=((dU uss).natAbs:Int):=by
 have hp:=(lA (vG hn hl)).1;have gs:∀us∈cX uss,Gu n k us:=λus hu=>hg us (hp.subset hu);have ls:(cX uss).length=n+1:=by rw[hp.length_eq,hl]
 have e:=Sj hn hk hl hg;have s:=K4 hn hk ls gs;have q:=pA hn hk ls gs;unfold cV;split
 .rename_i h
  rw[q,Jn]at h;rw[s];omega
 .rename_i h
  rw[q,Jn]at h;omega
structure Sx(n k:Nat)(uss:AF):Prop where
 len:uss.length=n+1
 gu:∀us∈uss,Gu n k us
 nz:dU uss≠0
 cn:cV uss=uss
abbrev px(uss:AF):PV:=.tup (uss.map tv)
theorem V3{n k:Nat}(hn:n=2\/n=3)(hk:k<=1000){uss:AF}(hl:uss.length=n+1)(hg:∀us∈uss,Gu n k us)(nz:dU uss≠0):Sx n k (cV uss):=by
 have hp:=Zh (vG hn hl);refine⟨by rw[hp.length_eq,hl],λus hu=>hg us (hp.subset hu),?_,A8 (vG hn hl)⟩;rw[L3 hn hk hl hg];omega
theorem jH{G:Gd}{S:aN}(hG:gL G S){me:ME}{tail:bS}{α:Type}(A B:α->PV):∀(L:List α)(x:AO),(∀v∈L,me (some (.pv (A v))::tail) S=.ok (.pv (B v)) S)->cG G (gN 0) me (L.map A) (x::tail) S=.ok (L.map B) S
 |[],x,_=>Ay hG
 |v::L,x,h=>by
  have e:=h v bc;have e':=jH hG A B L (some (.pv (A v))) λu hu=>h u (bp _ hu);rw[cv,A5 hG];simp[gN,e,e']
def pl(u v:Int×Int):Int×Int:=((fr (u.1*v.2+v.1*u.2) (u.2*v.2)).getD 0 0,(fr (u.1*v.2+v.1*u.2) (u.2*v.2)).getD 1 0)
theorem Ge{n:Nat}(S:aN):∀(L:AM)(x:AO),(∀v∈L,Gp n 1000 v)->cG [] (gN 0) (bA qL [] (aC (aA 0) (aC (aA 1) aD))) L [x,some (.pv (.int n))] S=.ok (L.map λ_=>.bl true) S
 |[],x,_=>eH
 |v::L,x,h=>by
  have ih:=Ge (n:=n) S L (some (.pv v)) λu hu=>h u (bp _ hu);obtain⟨xs,w,rfl,P⟩:=h v bc;have e:=Nw S (by decide) P;rw[eQ];generalize (n:Int)=N,(xs++[w]).map PV.int=XL at *;simp! [gN,aE,aR,aS,aG,aJ,aL,aM,aK,aF,aI,e,ih]
theorem Ff:∀L:AM,eM [.lst (L.map λ_=>.bl true)]=some (.bl true):=λL=>by
 have e:iQ (L.map λ_=>PV.bl true)=some (L.map λ_=>true):=by
  induction L with
  |nil=>rfl
  |cons v L ih=>
   show(match iQ (L.map λ_=>PV.bl true)with |some bs=>some (true::bs) |none=>none)=_
   rw[ih];rfl
 simp only[eM,e,pr];simp
theorem Gv{n:Nat}(hn:n=2\/n=3){uss:AF}(S:aN)(hl:uss.length=n+1)(hg:∀us∈uss,Gu n 1000 us)(h0:gK (uss.map tv)≠0)(hc:cV uss=uss):qI [.pv (.tup (uss.map tv)),.pv (.int n)] S=.ok (.pv (.bl true)) S:=by
 have gp:=wS hg;have hl2:(uss.map tv).length=n+1:=by rw[ar];exact hl
 have ec:=Ge S (uss.map tv) none gp;have ea:=Ff (uss.map tv);obtain⟨d,e2,hd⟩:=zQ (A:=.tup (uss.map tv)) hn S hl2 gp (.inr rfl);have hd0:d≠0:=λz=>h0 (by rw[<-hd,z];rfl);have hdb:(d==0)=false:=by simpa using hd0
 have e3:=Yd (A:=.tup (uss.map tv)) hn S hl hg (.inr rfl);rw[hc]at e3;have q:aG 8 (.tup (uss.map tv)) (.tup (uss.map tv))=some true:=tX λv hv=>Dm (m:=6) (gp v hv);have a3:aF (.int (n:Int)) (.int 1)=some (.int ((uss.map tv).length:Nat)):=by rw[aF,hl2];rfl
 generalize uss.map tv=L at *;generalize L.map (λ_=>PV.bl true)=BL at *;unfold qI aX wX;generalize (n:Int)=N at *;simp! [bW,aJ,aL,aM,aK,aI,fP,a3,bI,bK,bX,bT,ec,ea,e2,hdb,e3,q]
theorem Cf{n k:Nat}(hn:n=2\/n=3)(S:aN){hs:AG}(h:∀uss∈hs,Sx n k uss)(hk:k<=1000):oK [.pv (.tup (hs.map px)),.pv (.int n)] S=.ok (.pv (.bl true)) S:=by
 have e:cG [] (gN 0) (bA qI [] (aC (aA 0) (aC (aA 1) aD))) (hs.map px) [none,some (.pv (.int n))] S=.ok (hs.map λ_=>.bl true) S:=by
  refine jH (gF S) px (λ_=>.bl true) hs none λuss hu=>?_;have s:=h uss hu;have e1:=Gv hn S s.len (λus hu=>(s.gu us hu).mono hk) (by rw[pA hn hk s.len s.gu];exact λz=>s.nz (tZ.mp z)) s.cn;simp! [aE,aR,aS,aG,aJ,aL,aM,aK,aF,aI,e1]
 have ea:eM [.lst (hs.map λ_=>PV.bl true)]=some (.bl true):=by
  have:=Ff (hs.map px);rw[du]at this;exact this
 unfold oK aX xD;simp! [aE,aR,aS,aG,aJ,aL,aM,aK,aF,aI,fP,bI,bT,bK,bX,e,ea]
theorem M3{n k m:Nat}{uss:AF}(h:∀us∈uss,Gu n k us):aG (m+2) (px uss) (px uss)=some true:=
 tX λv hv=>by
  obtain⟨us,hu,rfl⟩:=da.mp hv;exact Dm (h us hu).gp
theorem By{n k m:Nat}{hs:AG}(h:∀uss∈hs,Sx n k uss):aG (m+3) (.tup (hs.map px)) (.tup (hs.map px))=some true/\aG (m+3) (.lst (hs.map px)) (.lst (hs.map px))=some true:=by
 have a:∀v∈hs.map px,aG (m+2) v v=some true:=λv hv=>by
  obtain⟨uss,hu,rfl⟩:=da.mp hv;exact M3 (h uss hu).gu
 exact⟨tX a,B4 a⟩
abbrev li(xs:AE):AM:=xs.map .int
theorem yA{α β:Type}(f:α->β):∀(R:List α)(j:Nat),(R.map f).eraseIdx j=(R.eraseIdx j).map f
 |[],j=>by simp
 |a::R,0=>by simp
 |a::R,j+1=>by simp[yA f R j]
theorem ix3:∀v<3,aS 3 ((v:Nat):Int)=some v:=by decide
abbrev sD:MS:=(aO (fX (aA 2) (kO (aA 1) (aC (bA dG [] (aC (aA 0) (aC (mR bM (aC (aA 1) aD)) aD))) aD)) (mC (.int 1)))
 (eI (Qn (aA 3) (aC (aA 2) aD))))
theorem Va(ns:AE)(hl:AM)(R C:AE)(L:AF)(x4 x5:AO)(hR0:0<R.length)(hR3:R.length<=3)(hv:∀v∈R,0<=v/\v<3)(hC:C.length=3)(hL:L.length<=9):
  ∃(j v:Nat)(ns':AE),j<R.length/\R[j]?=some (v:Int)/\sD [some (.ref 0),some (.ref 2),some (.ref 3),some (.ref 4),x4,x5] [.lst (li ns),.lst hl,.lst (li R),.lst (li C),.lol (L.map li)]
   = .nx [some (.ref 0),some (.ref 2),some (.ref 3),some (.ref 4),x4,x5] [.lst (li ns'),.lst hl,.lst (li (R.eraseIdx j)),.lst (li (C.set v 1)),.lol ((L++[C.set v 1]).map li)]:=by
 have hr:iV [.lst (li ns),.lst hl,.lst (li R),.lst (li C),.lol (L.map li)] 0 ns:=rfl;obtain⟨t,n1,e1,t0,t1,_⟩:=rD (m:=(R.length:Int)) hr (by omega) (oA (by omega) (by omega));simp only[gf]at e1;obtain⟨j,rfl⟩:∃j:Nat,t=(j:Int):=⟨t.toNat,by omega⟩;have hj:j<R.length:=by omega
 obtain⟨v,ev⟩:∃v:Nat,R[j]=(v:Int):=⟨R[j].toNat,by have:=hv _ (iu hj);omega⟩;have hv3:v<3:=by have:=hv _ (iu hj);omega
 have hq:R[j]?=some (v:Int):=by rw[bf hj,ev]
 have ep:=Uk (S:=[.lst (li n1),.lst hl,.lst (li R),.lst (li C),.lol (L.map li)]) (k:=2) (j:=j) (xs:=li R) (v:=.int v) rfl (by rw[dy,hq];rfl) (by omega);simp only[ix,gf]at ep;have er:(li R).eraseIdx j=li (R.eraseIdx j):=yA _ _ _;rw[er]at ep;have ei:aS (li C).length (v:Int)=some v:=by
  rw[ar,hC];exact ix3 v hv3
 have ec:(li C).set v (.int 1)=li (C.set v 1):=by simp[li,tz]
 refine⟨j,v,n1,hj,hq,?_⟩;have e1':dG [.ref 0,.pv (.int ((li R).length:Int))] [.lst (li ns),.lst hl,.lst (li R),.lst (li C),.lol (L.map li)]=.ok (.pv (.int (j:Int))) [.lst (li n1),.lst hl,.lst (li R),.lst (li C),.lol (L.map li)]:=by
  rw[ar];exact e1
 have el:(L++[C.set v 1]).map li=L.map li++[li (C.set v 1)]:=by simp
 rw[el];have lz:(L.map li).length<16777216:=by rw[ar];omega
 generalize li n1=NL1,li ns=NL,(j:Int)=J,li R=RL,li (R.eraseIdx j)=RE,li C=CL,li (C.set v 1)=CS,L.map li=LL at *;unfold sD;simp! [bW,aJ,aL,aM,aK,aF,aI,fX,lK,kO,Qn,Do,eX,e1',ep,ei,ec,lz]
def k6:AG:=[[[0,0,0],[1,0,0],[1,1,0],[1,1,1]],[[0,0,0],[1,0,0],[1,0,1],[1,1,1]],[[0,0,0],[0,1,0],[1,1,0],[1,1,1]],[[0,0,0],[0,1,0],[0,1,1],[1,1,1]],[[0,0,0],[0,0,1],[1,0,1],[1,1,1]],[[0,0,0],[0,0,1],[0,1,1],[1,1,1]]]
theorem aaJ{R:AE}{j v:Nat}{a b c:Int}(h:R=[a,b,c])(hj:j<R.length)(e:R[j]?=some (v:Int)):(j=0/\(v:Int)=a)\/(j=1/\(v:Int)=b)\/(j=2/\(v:Int)=c):=by
 subst h
 match j,hj,e with
 |0,_,e=>simp at e;exact .inl ⟨rfl,e.symm⟩
 |1,_,e=>simp at e;exact .inr (.inl ⟨rfl,e.symm⟩)
 |2,_,e=>simp at e;exact .inr (.inr ⟨rfl,e.symm⟩)
theorem aaw{R:AE}{j v:Nat}{a b:Int}(h:R=[a,b])(hj:j<R.length)(e:R[j]?=some (v:Int)):(j=0/\(v:Int)=a)\/(j=1/\(v:Int)=b):=by
 subst h
 match j,hj,e with
 |0,_,e=>simp at e;exact .inl ⟨rfl,e.symm⟩
 |1,_,e=>simp at e;exact .inr ⟨rfl,e.symm⟩
theorem aal{R:AE}{j v:Nat}{a:Int}(h:R=[a])(hj:j<R.length)(e:R[j]?=some (v:Int)):j=0/\(v:Int)=a:=by
 subst h
 match j,hj,e with
 |0,_,e=>simp at e;exact⟨rfl,e.symm⟩
theorem k3(ns:AE)(hl:AM)(R C:AE)(A:AF)(a b c:Nat)(x4 x5:AO)(hR:R=[(c:Int)])(hc:c<3)(hC:C.length=3)(hA:A.length<=9)(ks:AG)(hk:A++[C.set c 1]∈ks):
  ∃(xss:AF)(ns':AE)(C':AE),xss∈ks/\dR [] (gN 4) sD [.int 2] [some (.ref 0),some (.ref 2),some (.ref 3),some (.ref 4),x4,x5] [.lst (li ns),.lst hl,.lst (li R),.lst (li C),.lol (A.map li)]
   = .nx [some (.ref 0),some (.ref 2),some (.ref 3),some (.ref 4),some (.pv (.int 2)),x5] [.lst (li ns'),.lst hl,.lst [],.lst (li C'),.lol (xss.map li)]:=by
 obtain⟨j,v,n1,hj,e,h⟩:=Va ns hl R C A (some (.pv (.int 2))) x5 (by rw[hR];simp) (by rw[hR];simp) (by rw[hR];simp;omega) hC hA;obtain⟨rfl,ev⟩:=aal hR hj e;have:v=c:=by omega
 subst this;subst hR;refine⟨_,n1,C.set v 1,hk,?_⟩;rw[fV];simp only[gN,ix,gf];rw[h];exact hJ
theorem k2(ns:AE)(hl:AM)(R C:AE)(A:AF)(b c:Nat)(x4 x5:AO)(hR:R=[(b:Int),(c:Int)])(hb:b<3)(hc:c<3)(hC:C.length=3)(hA:A.length<=8)(ks:AG)(h1:A++[C.set b 1]++[(C.set b 1).set c 1]∈ks)(h2:A++[C.set c 1]++[(C.set c 1).set b 1]∈ks):
  ∃(xss:AF)(ns':AE)(C':AE),xss∈ks/\dR [] (gN 4) sD [.int 1,.int 2] [some (.ref 0),some (.ref 2),some (.ref 3),some (.ref 4),x4,x5] [.lst (li ns),.lst hl,.lst (li R),.lst (li C),.lol (A.map li)]
   = .nx [some (.ref 0),some (.ref 2),some (.ref 3),some (.ref 4),some (.pv (.int 2)),x5] [.lst (li ns'),.lst hl,.lst [],.lst (li C'),.lol (xss.map li)]:=by
 obtain⟨j,v,n1,hj,e,h⟩:=Va ns hl R C A (some (.pv (.int 1))) x5 (by rw[hR];simp) (by rw[hR];simp) (by rw[hR];simp;omega) hC (by omega);rw[fV];simp only[gN,ix,gf];rw[h];rcases aaw hR hj e with⟨rfl,ev⟩|⟨rfl,ev⟩
 .have:v=b:=by omega
  subst this;subst hR;exact k3 n1 hl _ (C.set v 1) _ 0 0 c _ x5 rfl hc (by rw[fy];exact hC) (by simp;omega) ks h1
 .have:v=c:=by omega
  subst this;subst hR;exact k3 n1 hl _ (C.set v 1) _ 0 0 b _ x5 rfl hb (by rw[fy];exact hC) (by simp;omega) ks h2
theorem k1(ns:AE)(hl:AM)(x4 x5:AO):
  ∃(xss:AF)(ns':AE)(C':AE),xss∈k6/\dR [] (gN 4) sD [.int 0,.int 1,.int 2] [some (.ref 0),some (.ref 2),some (.ref 3),some (.ref 4),x4,x5] [.lst (li ns),.lst hl,.lst (li [0,1,2]),.lst (li [0,0,0]),.lol ([[0,0,0]].map li)]
   = .nx [some (.ref 0),some (.ref 2),some (.ref 3),some (.ref 4),some (.pv (.int 2)),x5] [.lst (li ns'),.lst hl,.lst [],.lst (li C'),.lol (xss.map li)]:=by
 obtain⟨j,v,n1,hj,e,h⟩:=Va ns hl [0,1,2] [0,0,0] [[0,0,0]] (some (.pv (.int 0))) x5 (by decide) (by decide) (by decide) rfl (by decide);rw[fV];simp only[gN,ix,gf];rw[h];rcases aaJ rfl hj e with⟨rfl,ev⟩|⟨rfl,ev⟩|⟨rfl,ev⟩
 .have:v=0:=by omega
  subst this;exact k2 n1 hl _ [1,0,0] _ 1 2 _ x5 rfl (by decide) (by decide) rfl (by decide) k6 (by decide) (by decide)
 .have:v=1:=by omega
  subst this;exact k2 n1 hl _ [0,1,0] _ 0 2 _ x5 rfl (by decide) (by decide) rfl (by decide) k6 (by decide) (by decide)
 .have:v=2:=by omega
  subst this;exact k2 n1 hl _ [0,0,1] _ 0 1 _ x5 rfl (by decide) (by decide) rfl (by decide) k6 (by decide) (by decide)
theorem sH(S:aN){n:Nat}(h:n<=9):pV [.pv (.int (n:Int))] S=.ok (dX 0 n,[]) S:=by
 have e:pV [.pv (.int (n:Int))] S=@ite _ ((n:Int)<=16777216/\-16777216<=(n:Int)) (kd _) (.ok (dX 0 (n:Int).toNat,[]) S) .fail:=rfl;rw[e,if_pos ⟨by omega,by omega⟩,mq]
theorem uV{n k:Nat}{L:AE}{b:Int}(hb:0<b)(hl:L.length=n)(hL:∀x∈L,Bd k x)(bb:Bd k b):∃(zs:AE)(z:Int),low (L++[b])=zs++[z]/\Pq n k zs z/\∀j,j<n->zs.getD j 0*b=L.getD j 0*z:=by
 obtain⟨zs,z,g,e,hg,hz,g1,g2,hzl⟩:=Al L hb;have hlow:=A9 L hb;have hbd:=M0 (k:=k) (ns:=L++[b]) λm hm=>by
  rcases cm.mp hm with y |y
  .exact hL m y
  .have:m=b:=by simpa using y
   rw[this];exact bb
 rw[e]at hlow hbd;refine⟨zs,z,e,⟨hzl.trans hl,hz,hlow,λx hx=>hbd x (jr _ hx),hbd z (nF zs z)⟩,λj hj=>?_⟩;have hj':j<zs.length:=by omega
 have e1:L.getD j 0=g*zs.getD j 0:=by
  rw[g1];simp[cr,hj']
 rw[e1,g2];grind
theorem p9:kP (.int 10) (.int 9)=some (.int 1000000000):=Cj (i:=10) (j:=9) ⟨by decide,by decide,by decide⟩
theorem Hw(m:Nat):dX 0 m=(ce m).map λj:Nat=>PV.int (j:Int):=by
 unfold dX;refine im λj _=>?_;simp
theorem Qm{m c:Int}(hm:0<m)(bm:Bd 8000 m)(R:aN):∀(is:AM)(ns:AE)(x:AO),∃xs ns':AE,cG [] (gN 0) (aB dN (bA dG [] (aC (aA 1) (aC (mC (.int m)) aD))) (mC (.int c))) is [x,some (.ref 0)] (.lst (li ns)::R)=.ok (li xs) (.lst (li ns')::R)/\xs.length=is.length/\∀y∈xs,-c<=y/\y<m-c
 |[],ns,x=>⟨[],ns,eH,rfl,λ_ h=>absurd h pe⟩
 |i::is,ns,x=>by
  obtain⟨t,n1,e1,t0,t1,_⟩:=rD (m:=m) (show iV (.lst (li ns)::R) 0 ns from rfl) hm bm;simp only[gf]at e1;have e1:dG [.ref 0,.pv (.int m)] (.lst (li ns)::R)=.ok (.pv (.int t)) (.lst (li n1)::R):=e1;obtain⟨xs,n2,e2,l2,b2⟩:=Qm (c:=c) hm bm R is n1 (some (.pv i));refine⟨(t-c)::xs,n2,?_,by rw[bq,bq,l2],λy hy=>?_⟩
  .rw[eQ]
   simp! [gN,aE,aR,aS,aG,aJ,aL,aM,aK,aF,aI,e1,e2]
  .rcases cu.mp hy with rfl |hy
   .omega
   .exact b2 y hy
def wq(q:AE):Int:=q.getLastD 0
theorem vF{n k:Nat}{q:AE}(h:Gu n k q):0<wq q/\Bd k (wq q)/\aE (tv q) (.int (-1))=some (.int (wq q))/\(∀j,j<n->aE (tv q) (.int (j:Nat))=some (.int (q.getD j 0))/\Bd k (q.getD j 0))/\q.length=n+1:=by
 obtain⟨xs,w,rfl,P⟩:=h;have e:wq (xs++[w])=w:=by unfold wq;simp
 rw[e];refine⟨P.pos,P.bw,nG xs w,λj hj=>?_,by rw[bn,P.len];rfl⟩;have hj2:j<xs.length:=by rw[P.len];exact hj
 have eg:(xs++[w]).getD j 0=xs.getD j 0:=by
  rw[tw,tw,gi hj2]
 rw[eg];refine⟨La xs w j hj2,?_⟩;rw[tw,bf hj2];exact P.bx _ (iu _)
theorem Ek{b:Nat}{U w:Int}(hU:0<U)(hw:0<w)(bU:Bd b U):Bd b (U.fdiv w):=by
 have e:U.fdiv w=U/w:=wo U (ox hw);rw[e];have h1:=Int.ediv_nonneg (ox hU) (ox hw);have h2:=Int.ediv_le_self w (ox hU);exact ou (by omega) bU
theorem Vl{k:Nat}:∀(L:AE),(∀x∈L,Bd k x)->Bd (k+L.length) L.sum
 |[],_=>by
  show(0:Int).natAbs<2^_;exact pq _
 |x::L,h=>by
  have ih:=Vl L λy hy=>h y (bp _ hy);rw[tj];exact(((h x (by simp)).mono (show k<=k+L.length by omega)).add ih).mono (by rw[bq];omega)
abbrev tx(L:List Nat):Str:=⟨L.toArray⟩
theorem rC(x:Str):tx x.cps.toList=x:=by
 cases x;simp[tx]
theorem dS(L:List Nat):(tx L).length=L.length:=by
 show L.toArray.size=L.length;simp
theorem rL(A B:List Nat):tx A++tx B=tx (A++B):=by
 have e:=PySem.W.KT.app_list (tx A) (tx B);rw[<-rC (tx A++tx B),e]
theorem Da{A B:List Nat}(h:tx A=tx B):A=B:=by
 have e:=congrArg (λx:Str=>x.cps.toList) h;simpa using e
theorem P6(A B:List Nat):(tx A==tx B)=decide (A=B):=by
 by_cases h:A=B
 .subst h
  simp
 .have:tx A≠tx B:=λz=>h (Da z)
  simp[h,this]
theorem uC:("/":Str)=tx [47]:=by kernel_rfl
theorem zI:("-":Str)=tx [45]:=by kernel_rfl
theorem X8:("1":Str)=tx [49]:=by kernel_rfl
def fA(c:Nat):Bool:=decide (48<=c)&&decide (c<=57)
theorem Jx:∀c:Nat,c<128->Mo "0123456789" ⟨#[c]⟩=fA c:=by decide+kernel
theorem Rk{L:List Nat}(h:∀c∈L,c<128):(tx L).cps.all (· <128)=true:=by
 simpa[tx]using h
theorem Ih(bs:List Bool):eM [.lst (bs.map .bl)]=some (.bl (bs.all id)):=by
 have e:iQ (bs.map PV.bl)=some bs:=by
  induction bs with
  |nil=>rfl
  |cons v L ih=>
   show(match iQ (L.map PV.bl)with |some bs=>some (v::bs) |none=>none)=_
   rw[ih]
 simp only[eM,e,pr]
theorem Vf(S:aN)(L:List Nat)(h:∀c∈L,c<128):cG [] (gN 0) (aB jZ (aA 0) (mC (.str "0123456789"))) (kC (tx L)) [none] S=.ok ((L.map fA).map .bl) S:=by
 have e:kC (tx L)=L.map λc=>PV.str ⟨#[c]⟩:=by unfold kC;simp
 rw[e,du];refine jH (gF S) (λc:Nat=>PV.str ⟨#[c]⟩) (λc=>.bl (fA c)) L none λc hc=>?_;have q:=Jx c (h c hc);simp[aB,aA,mC,bO.bind,fJ,rd,jZ,q,fG]
def eA(L:List Nat):Bool:=decide (1<=L.length)&&decide (L.length<=60)&&L.all fA
def vD(L:List Nat):Int:=((j6 L:Nat):Int)
theorem rH{L:List Nat}(h:eA L=true):iR [.str (tx L)]=some (.int (vD L)):=by
 unfold eA at h;rw[ee,ee,decide_eq_true_eq,decide_eq_true_eq]at h;have hl:(tx L).length<=640:=by rw[dS];omega
 have hd:PySem.NumText.AllDigits (tx L).cps.toList:=by
  intro c hc;have hc:c∈L:=by simpa[tx]using hc
  have:=ib.mp h.2 c hc;unfold fA at this;rw[ee,decide_eq_true_eq,decide_eq_true_eq]at this;exact this
 have hn:(tx L).cps.toList≠[]:=by
  intro z;have:L=[]:=by simpa[tx]using z
  rw[this]at h;exact absurd h.1.1 (by decide)
 have e:=PySem.intText_digits hd hn (by omega);show(if(tx L).length<=640 then(pf (tx L)).map PV.int else none)=_;rw[if_pos hl,e];simp[vD,tx]
theorem Fg:∀(L:List Nat)(a:Nat),(∀c∈L,fA c=true)->L.foldl (λacc c=>acc*10+(c-48)) a<(a+1)*10^L.length
 |[],a,_=>by simp
 |c::L,a,h=>by
  have hc:=h c bc;unfold fA at hc;rw[ee,decide_eq_true_eq,decide_eq_true_eq]at hc;have ih:=Fg L (a*10+(c-48)) λd hd=>h d (bp _ hd);rw[wb,bq,wg];have:a*10+(c-48)+1<=(a+1)*10:=by omega
  have:=xw (10^L.length) this;have e:(a+1)*10*10^L.length=(a+1)*(10^L.length*10):=by rw[Nat.mul_assoc,rn 10]
  omega
theorem vC{L:List Nat}(h:eA L=true):0<=vD L/\vD L<10^60:=by
 unfold eA at h;rw[ee,ee,decide_eq_true_eq,decide_eq_true_eq]at h;have a:=Fg L 0 (ib.mp h.2);have b:10^L.length<=10^60:=ot (by decide) h.1.2;unfold vD j6;refine⟨by omega,?_⟩;have:jx (λacc c=>acc*10+(c-48)) 0 L<10^60:=by omega
 exact_mod_cast this
theorem iJ(S:aN)(b:Bool):kF [.pv (.bl b)] S=if b=true then .ok (.pv .non) S else .exc "NoText" S:=by
 unfold kF aX wZ;cases b<;>simp! [aE,aR,aS,aG,aJ,aL,aM,aK,aF,aI,mP]
theorem Bh(S:aN){L:List Nat}(ha:∀c∈L,c<128)(hl:L.length<=10000):gR [.pv (.str (tx L))] S=if eA L=true then .ok (.pv (.int (vD L))) S else .exc "NoText" S:=by
 have z:(tx L).length<=16777216:=by rw[dS];omega
 have ec:=Vf S L ha;have eb:=Ih (L.map fA);have ll:((tx L).length:Int)=(L.length:Int):=by rw[dS]
 have a8:=Rk ha;have ei:=@rH L;have rf:=iJ S;have hb:xC=(aO (eI (cJ kF [] (aC (lH (jJ jN jN (mC (.int 1)) (mR fE (aC (aA 0) aD)) (mC (.int 60))) (mR eM (aC (bI ["sign"] [] (lM (aA 0)) (gN 0) (aB jZ (aA 0) (mC (.str "0123456789")))) aD))) aD))) (bG (mR iR (aC (aA 0) aD)))):=rfl;have al:(L.map fA).all id=L.all fA:=by simp[List.all_map]
 rw[al]at eb;unfold eA at ei⊢;generalize tx L=T,L.length=N,vD L=V,L.all fA=B,(L.map fA).map PV.bl=BL,(aB jZ (aA 0) (mC (.str "0123456789")))=ME1 at *;unfold gR aX;rw[hb]
 by_cases h1:(1:Int)<=(N:Int)
 .have h1':1<=N:=by omega
  by_cases h2:(N:Int)<=60
  .have h2':N<=60:=by omega
   cases B with
   |true=>
    have ei:=ei (by simp[h1',h2']);simp! [aE,aR,aS,aG,aJ,aL,aM,aK,aF,aI,jJ,fE,z,ll,h1,h2,h1',h2',bI,bT,lM,rQ,a8,ec,eb,rf,ei]
   |false=>simp! [aE,aR,aS,aG,aJ,aL,aM,aK,aF,aI,jJ,fE,z,ll,h1,h2,h1',h2',bI,bT,lM,rQ,a8,ec,eb,rf]
  .have h2':¬N<=60:=by omega
   simp! [aE,aR,aS,aG,aJ,aL,aM,aK,aF,aI,jJ,fE,z,ll,h1,h2,h1',h2',rf]
 .have h1':¬1<=N:=by omega
  simp! [aE,aR,aS,aG,aJ,aL,aM,aK,aF,aI,jJ,fE,z,ll,h1,h1',rf]
theorem Xj(L:List Nat)(i:Nat):iw (tx L) (some (i:Int)) none=tx (L.drop i):=by
 have hl:=dS L
 by_cases h:i<=L.length
 .rw[PyProof.Rows.slice_from_eq (b:=((tx L).length:Int)) (by omega) (by omega) rfl]
  have e1:((i:Int)).toNat=i:=by omega
  have e2:(((tx L).length:Int)-(i:Int)).toNat=L.length-i:=by omega
  rw[e1,e2];have:(tx L).cps.toList=L:=by simp[tx]
  rw[this,td (by rw[jk];exact am _)]
 .rw[PyProof.Rows.slice_beyond (by omega),List.drop_of_length_le (by omega)]
  rfl
theorem Zm(L:List Nat)(i:Nat)(h:i<=L.length):iw (tx L) none (some (i:Int))=tx (L.take i):=by
 have hl:=dS L;have e:=beq_iff_eq.mp (PyProof.Rows.slice_closes_toL (x:=tx L) (j:=(i:Int)) (by omega) (by omega));rw[e];have e1:((i:Int)-0).toNat=i:=by omega
 have:(tx L).cps.toList=L:=by simp[tx]
 rw[e1,this];rfl
theorem Zy:iw (tx []) none (some 1)=tx []:=by kernel_rfl
theorem Zz(L:List Nat):iw (tx L) none (some 1)=tx (L.take 1):=by
 cases L with
 |nil=>exact Zy
 |cons c L=>exact Zm (c::L) 1 (by simp)
theorem Oz(L:List Nat)(c:Nat):sk (tx L) (tx [c])=decide (L.head?=some c):=by
 have e:=j7 (tx L) c 0;have h0:(tx L).cps.toList[0]?=L.head?:=by
  have:(tx L).cps.toList=L:=by simp[tx]
  rw[this];cases L<;>rfl
 rw[h0]at e;unfold sk
 by_cases h:L.head?=some c
 .obtain⟨a,b⟩:=e.mpr h
  have a:0+(tx [c]).length<=(tx L).length:=a;have b:ua (tx L) (tx [c]) 0=true:=b;rw[xf]at a;simp[h,a,b]
 .have n:¬(0+(tx [c]).length<=(tx L).length/\ua (tx L) (tx [c]) 0=true):=λz=>h (e.mp z)
  simp only[h,decide_false]
  by_cases a:0+(tx [c]).length<=(tx L).length
  .have b:ua (tx L) (tx [c]) 0=false:=by
    cases q:ua (tx L) (tx [c]) 0 with
    |false=>rfl
    |true=>exact absurd ⟨a,q⟩ n
   simp[b]
  .rw[xf]at a
   simp[a]
theorem uL(L:List Nat)(c i:Nat):StrLaws.At (tx L) (tx [c]) (tx L).length i↔L[i]?=some c:=by
 have e:=j7 (tx L) c i;have:(tx L).cps.toList=L:=by simp[tx]
 rw[this]at e;exact e
theorem C0{L:List Nat}{c:Nat}(h:c∉L):ph (tx L) (tx [c])=-1:=by
 rcases j8 (tx L) (tx [c])with⟨e,_⟩|⟨i,_,a,_⟩
 .exact e
 .exact absurd (fe ((uL L c i).mp a)) h
theorem Jz{A B:List Nat}{c:Nat}(h:c∉A):ph (tx (A++c::B)) (tx [c])=(A.length:Int):=by
 have here:(A++c::B)[A.length]?=some c:=by simp
 rcases j8 (tx (A++c::B)) (tx [c])with⟨_,n⟩|⟨i,e,a,n⟩
 .exact absurd ((uL _ c A.length).mpr here) (n A.length)
 .rw[e]
  have ha:=(uL _ c i).mp a;have h1:¬i<A.length:=λz=>by
   rw[gi z]at ha;exact h (fe ha)
  have h2:¬A.length<i:=λz=>n A.length z ((uL _ c A.length).mpr here);have:i=A.length:=by omega
  rw[this]
def dI(c:Nat):List (List Nat)->List Nat
 |[]=>[]
 |[p]=>p
 |p::q::r=>p++c::dI c (q::r)
theorem zF(c:Nat):∀P:List (List Nat),uc (tx [c]) (P.map tx)=tx (dI c P)
 |[]=>rfl
 |[p]=>rfl
 |p::q::r=>by
  show tx p++tx [c]++uc (tx [c]) ((q::r).map tx)=tx (p++c::dI c (q::r));rw[zF c (q::r),rL,rL,kw];rfl
theorem Wl(L:List Nat)(c:Nat):∃P:List (List Nat),dh (tx L) (tx [c])=P.map tx/\(∀p∈P,c∉p)/\dI c P=L/\P≠[]:=by
 refine⟨(dh (tx L) (tx [c])).map λx=>x.cps.toList,?_,?_,?_,?_⟩
 .rw[du]
  have:(tx∘λx:Str=>x.cps.toList)=id:=by
   funext x
   exact rC x
  rw[this,jy]
 .intro p hp
  obtain⟨x,hx,rfl⟩:=da.mp hp;exact StrLaws.split_free (tx L) c x hx
 .have e:=j9 (tx L) (tx [c])
  apply Da;rw[<-zF,du];have:(tx∘λx:Str=>x.cps.toList)=id:=by
   funext x
   exact rC x
  rw[this,jy];exact e
 .intro z
  have:=k7 (tx L) (tx [c]);rw[ud.mp z]at this;exact absurd this (by decide)
def bd(p:List Nat):List Nat:=if p.head?=some 45 then p.tail else p
def sN(p:List Nat):Int:=if p.head?=some 45 then-(vD (bd p))else vD (bd p)
def qE:List (List Nat)->Option (Int×Int)
 |[p]=>if eA (bd p)=true then some (sN p,1)else none
 |[p,q]=>if eA (bd p)=true/\eA q=true/\vD q≠0 then some (sN p,vD q)else none
 |_=>none
theorem wL{v:Int}(h:0<=v/\v<10^60):Bd 200 v/\Bd 200 (-v):=by
 have a:Bd 200 v:=Bd.of (n:=10^60) (by omega) (by decide+kernel);exact⟨a,a.neg⟩
theorem pQ{p:List Nat}(h:eA (bd p)=true):Bd 200 (sN p):=by
 have:=wL (vC h);unfold sN;split
 .exact this.2
 .exact this.1
theorem Ma:Bd 200 (1:Int):=(Bd.of (k:=2) (n:=1) (by decide) (by decide)).mono (by decide)
theorem rJ{p:List Nat}{c:Nat}(h:c∈bd p):c∈p:=by
 unfold bd at h;split at h
 .exact List.mem_of_mem_tail h
 .exact h
theorem uP(p:List Nat):(bd p).length<=p.length:=by
 unfold bd;split
 .rw[List.length_tail];omega
 .exact am _
def Cb(r:Option (Int×Int))(S:aN):bO AV:=match r with
 |some (t,b)=>.ok (.pv (.tup ((fr t b).map .int))) S
 |none=>.exc "NoText" S
def lS(b:Bool)(T0 T1:Str):Prop:=(b=true/\jK (.str T0) (some 1) none=some (.str T1))\/(b=false/\T1=T0)
theorem Qz{S:aN}{TL T0 T1:Str}{b:Bool}{V:Int}{F:AV}(es:fI TL [.str "/"]=some (.lst [.str T0]))(st:jS T0 [.str "-"]=some (.bl b))(hb:lS b T0 T1)(r1:gR [.pv (.str T1)] S=.ok (.pv (.int V)) S)(fq:mF [.pv (.int (if b=true then-V else V)),.pv (.int 1)] S=.ok F S)(hF:∀k,F≠.ref k):eB [.pv (.str TL)] S=.ok F S:=by
 have rf:=iJ S;unfold eB aX kW;cases F with
 |ref k=>exact absurd rfl (hF k)
 |pv F=>
  rcases hb with⟨rfl,hb⟩|⟨rfl,rfl⟩
  .simp only[if_true]at fq
   simp! [aE,aR,aS,aG,aJ,aL,aM,aK,aF,aI,cC,cH,es,rf,st,dM,bR,bQ,cW,hb,r1,fq]
  .simp only[nj,if_false]at fq
   simp! [aE,aR,aS,aG,aJ,aL,aM,aK,aF,aI,cC,cH,es,rf,st,r1,fq]
theorem Pr{S:aN}{TL T0 T1:Str}{b:Bool}(es:fI TL [.str "/"]=some (.lst [.str T0]))(st:jS T0 [.str "-"]=some (.bl b))(hb:lS b T0 T1)(r1:gR [.pv (.str T1)] S=.exc "NoText" S):eB [.pv (.str TL)] S=.exc "NoText" S:=by
 have rf:=iJ S;unfold eB aX kW;rcases hb with⟨rfl,hb⟩|⟨rfl,rfl⟩
 .simp! [aE,aR,aS,aG,aJ,aL,aM,aK,aF,aI,cC,cH,es,rf,st,dM,bR,bQ,cW,hb,r1]
 .simp! [aE,aR,aS,aG,aJ,aL,aM,aK,aF,aI,cC,cH,es,rf,st,r1]
theorem Xz{S:aN}{TL T0 T1 T2:Str}{b:Bool}{V V2:Int}{F:AV}(es:fI TL [.str "/"]=some (.lst [.str T0,.str T2]))(st:jS T0 [.str "-"]=some (.bl b))(hb:lS b T0 T1)(r1:gR [.pv (.str T1)] S=.ok (.pv (.int V)) S)(r2:gR [.pv (.str T2)] S=.ok (.pv (.int V2)) S)(hz:V2≠0)(fq:mF [.pv (.int (if b=true then-V else V)),.pv (.int V2)] S=.ok F S)(hF:∀k,F≠.ref k):eB [.pv (.str TL)] S=.ok F S:=by
 have rf:=iJ S;have hz':(V2==0)=false:=by simpa using hz
 unfold eB aX kW;cases F with
 |ref k=>exact absurd rfl (hF k)
 |pv F=>
  rcases hb with⟨rfl,hb⟩|⟨rfl,rfl⟩
  .simp only[if_true]at fq
   simp! [aE,aR,aS,aG,aJ,aL,aM,aK,aF,aI,cC,cH,es,rf,st,dM,bR,bQ,cW,hb,r1,r2,hz',fq]
  .simp only[nj,if_false]at fq
   simp! [aE,aR,aS,aG,aJ,aL,aM,aK,aF,aI,cC,cH,es,rf,st,r1,r2,hz',fq]
theorem Er{S:aN}{TL T0 T1 T2:Str}{b:Bool}(es:fI TL [.str "/"]=some (.lst [.str T0,.str T2]))(st:jS T0 [.str "-"]=some (.bl b))(hb:lS b T0 T1)(r1:gR [.pv (.str T1)] S=.exc "NoText" S):eB [.pv (.str TL)] S=.exc "NoText" S:=by
 have rf:=iJ S;unfold eB aX kW;rcases hb with⟨rfl,hb⟩|⟨rfl,rfl⟩
 .simp! [aE,aR,aS,aG,aJ,aL,aM,aK,aF,aI,cC,cH,es,rf,st,dM,bR,bQ,cW,hb,r1]
 .simp! [aE,aR,aS,aG,aJ,aL,aM,aK,aF,aI,cC,cH,es,rf,st,r1]
theorem Wq{S:aN}{TL T0 T1 T2:Str}{b:Bool}{V:Int}(es:fI TL [.str "/"]=some (.lst [.str T0,.str T2]))(st:jS T0 [.str "-"]=some (.bl b))(hb:lS b T0 T1)(r1:gR [.pv (.str T1)] S=.ok (.pv (.int V)) S)(r2:gR [.pv (.str T2)] S=.exc "NoText" S):eB [.pv (.str TL)] S=.exc "NoText" S:=by
 have rf:=iJ S;unfold eB aX kW;rcases hb with⟨rfl,hb⟩|⟨rfl,rfl⟩
 .simp! [aE,aR,aS,aG,aJ,aL,aM,aK,aF,aI,cC,cH,es,rf,st,dM,bR,bQ,cW,hb,r1,r2]
 .simp! [aE,aR,aS,aG,aJ,aL,aM,aK,aF,aI,cC,cH,es,rf,st,r1,r2]
theorem Iq{S:aN}{TL T0 T1 T2:Str}{b:Bool}{V:Int}(es:fI TL [.str "/"]=some (.lst [.str T0,.str T2]))(st:jS T0 [.str "-"]=some (.bl b))(hb:lS b T0 T1)(r1:gR [.pv (.str T1)] S=.ok (.pv (.int V)) S)(r2:gR [.pv (.str T2)] S=.ok (.pv (.int 0)) S):eB [.pv (.str TL)] S=.exc "NoText" S:=by
 have rf:=iJ S;unfold eB aX kW;rcases hb with⟨rfl,hb⟩|⟨rfl,rfl⟩
 .simp! [aE,aR,aS,aG,aJ,aL,aM,aK,aF,aI,cC,cH,es,rf,st,dM,bR,bQ,cW,hb,r1,r2]
 .simp! [aE,aR,aS,aG,aJ,aL,aM,aK,aF,aI,cC,cH,es,rf,st,r1,r2]
theorem Yx{S:aN}{TL:Str}{R:AM}(es:fI TL [.str "/"]=some (.lst R))(h:2<R.length):eB [.pv (.str TL)] S=.exc "NoText" S:=by
 have rf:=iJ S;have h3:¬((R.length:Int)<=2):=by omega
 unfold eB aX kW;simp! [aE,aR,aS,aG,aJ,aL,aM,aK,aF,aI,cC,cH,es,rf,h3]
theorem Ga{p:List Nat}(h:p.length<=10000):jS (tx p) [.str "-"]=some (.bl (decide (p.head?=some 45)))/\lS (decide (p.head?=some 45)) (tx p) (tx (bd p)):=by
 refine⟨?_,?_⟩
 .rw[zI]
  show some (PV.bl (sk (tx p) (tx [45])))=_;rw[Oz]
 .unfold bd
  by_cases h45:p.head?=some 45
  .left
   rw[if_pos h45];refine⟨by simp[h45],?_⟩;show(if(tx p).length<=16777216 then some (PV.str (iw (tx p) (some 1) none))else none)=_;rw[if_pos (by rw[dS];omega)];have:=Xj p 1;rw[show((1:Nat):Int)=1 from rfl,List.drop_one]at this;rw[this]
  .right
   rw[if_neg h45];exact⟨by simp[h45],rfl⟩
theorem vA(p:List Nat):(if decide (p.head?=some 45)=true then-(vD (bd p))else vD (bd p))=sN p:=by
 unfold sN
 by_cases h45:p.head?=some 45<;>simp[h45]
theorem Ib(p:List Nat):qE [p]=if eA (bd p)=true then some (sN p,1)else none:=rfl
theorem Db(p q:List Nat):qE [p,q]=if eA (bd p)=true/\eA q=true/\vD q≠0 then some (sN p,vD q)else none:=rfl
theorem Ru(S:aN){L:List Nat}{P:List (List Nat)}(hs:dh (tx L) (tx [47])=P.map tx)(hp:P≠[])(ha:∀p∈P,∀c∈p,c<128)(hl:∀p∈P,p.length<=10000)(hL:L.length<=10000):eB [.pv (.str (tx L))] S=Cb (qE P) S:=by
 have es:fI (tx L) [.str "/"]=some (.lst (P.map λp=>.str (tx p))):=by
  rw[uC];show(if(tx [47]).length≠0/\(tx L).length+2<=16777216 then some (PV.lst ((dh (tx L) (tx [47])).map .str))else none)=_;rw[if_pos ⟨by rw[dS];decide,by rw[dS];omega⟩,hs,du];rfl
 have bB:∀p∈P,gR [.pv (.str (tx (bd p)))] S=if eA (bd p)=true then .ok (.pv (.int (vD (bd p)))) S else .exc "NoText" S:=λp h=>Bh S (λc hc=>ha p h c (rJ hc)) (dn (uP p) (hl p h));have wh:∀p∈P,gR [.pv (.str (tx p))] S=if eA p=true then .ok (.pv (.int (vD p))) S else .exc "NoText" S:=λp h=>Bh S (ha p h) (hl p h);have fq:∀t b:Int,Bd 200 t->Bd 200 b->b≠0->mF [.pv (.int t),.pv (.int b)] S=.ok (.pv (.tup ((fr t b).map .int))) S:=λt b ht hb h=>Tq t b S (ht.mono (by decide)) (hb.mono (by decide)) h
 match P,hp,hl,es,bB,wh with
 |[p],_,hl,es,bB,wh=>
  have tp:=bB p (by simp);obtain⟨st,bo⟩:=Ga (hl p (by simp));simp only[cv,gj]at es;rw[Ib]
  by_cases hk:eA (bd p)=true
  .rw[if_pos hk]at tp⊢
   exact Qz es st bo tp (by rw[vA];exact fq (sN p) 1 (pQ hk) Ma (by decide)) (λ_ z=>by cases z)
  .rw[if_neg hk]at tp⊢
   exact Pr es st bo tp
 |[p,q],_,hl,es,bB,wh=>
  have tp:=bB p (by simp);have tq:=wh q (by simp);obtain⟨st,bo⟩:=Ga (hl p (by simp));simp only[cv,gj]at es;rw[Db]
  by_cases hk:eA (bd p)=true
  .rw[if_pos hk]at tp
   by_cases hq:eA q=true
   .rw[if_pos hq]at tq
    by_cases hz:vD q=0
    .rw[if_neg (λz=>z.2.2 hz)]
     rw[hz]at tq;exact Iq es st bo tp tq
    .rw[if_pos ⟨hk,hq,hz⟩]
     exact Xz es st bo tp tq hz (by rw[vA];exact fq (sN p) (vD q) (pQ hk) (wL (vC hq)).1 hz) (λ_ z=>by cases z)
   .rw[if_neg hq]at tq
    rw[if_neg (λz=>hq z.2.1)];exact Wq es st bo tp tq
  .rw[if_neg hk]at tp
   rw[if_neg (λz=>hk z.1)];exact Er es st bo tp
 |p::q::r::t,_,hl,es,bB,wh=>
  exact Yx es (by simp)
theorem sU(S:aN){L:List Nat}(ha:∀c∈L,c<128)(hl:L.length<=10000):kG [.pv (.str (tx L))] S=.ok (.pv (.bl (eA L))) S:=by
 have z:(tx L).length<=16777216:=by rw[dS];omega
 have ec:=Vf S L ha;have eb:=Ih (L.map fA);have ll:((tx L).length:Int)=(L.length:Int):=by rw[dS]
 have a8:=Rk ha;have hb:xL=(aO (bN (jD (aZ (aB fS (mR fE (aC (aA 0) aD)) (mC (.int 1)))) (aZ (aB eZ (mR fE (aC (aA 0) aD)) (mC (.int 60))))) (bG (mC (.bl false))) bP) (bG (mR eM (aC (bI ["_law_sign"] [] (lM (aA 0)) (gN 0) (aB jZ (aA 0) (mC (.str "0123456789")))) aD)))):=rfl;have al:(L.map fA).all id=L.all fA:=by simp[List.all_map]
 rw[al]at eb;unfold eA;generalize tx L=T,L.length=N,L.all fA=B,(L.map fA).map PV.bl=BL,(aB jZ (aA 0) (mC (.str "0123456789")))=ME1 at *;unfold kG aX;rw[hb]
 by_cases h1:(N:Int)<1
 .have h1':¬1<=N:=by omega
  simp! [aE,aR,aS,aG,aJ,aL,aM,aK,aF,aI,fE,z,ll,h1,h1']
 .have h1':1<=N:=by omega
  by_cases h2:60<(N:Int)
  .have h2':¬N<=60:=by omega
   simp! [aE,aR,aS,aG,aJ,aL,aM,aK,aF,aI,fE,z,ll,h1,h2,h1',h2']
  .have h2':N<=60:=by omega
   simp! [aE,aR,aS,aG,aJ,aL,aM,aK,aF,aI,fE,z,ll,h1,h2,h1',h2',bI,bT,lM,rQ,a8,ec,eb]
def mX(r:Option (Int×Int)):AV:=match r with
 |some (t,b)=>.pv (.tup ((fr t b).map .int))
 |none=>.pv .non
theorem Ny{S:aN}{T0 T1 HT:Str}{b y1:Bool}{n1:Int}{FV:PV}(h1:jK (.str T0) none (some 1)=some (.str HT))(hq:(HT==("-":Str))=b)(hb:lS b T0 T1)(hf:mS T1 [.str "/"]=some (.int (-1)))(g1:kG [.pv (.str T1)] S=.ok (.pv (.bl y1)) S)(g2:kG [.pv (.str "1")] S=.ok (.pv (.bl true)) S)(i1:y1=true->iR [.str T1]=some (.int n1))(i2:iR [.str "1"]=some (.int 1))(fq:y1=true->lD [.pv (.int (if b=true then-n1 else n1)),.pv (.int 1)] S=.ok (.pv FV) S):
  iG [.pv (.str T0)] S=.ok (if y1=true then .pv FV else .pv .non) S:=by
 unfold iG aX sM;have m1:bC (.int (-1)) (.int n1)=some (.int (-n1)):=by rw[iM (.inl (.inl ⟨by decide,by decide⟩)),k8]
 have m2:bC (.int 1) (.int n1)=some (.int n1):=by rw[iM (.inl (.inl ⟨by decide,by decide⟩)),io]
 cases y1 with
 |true=>
  have i1:=i1 rfl;have fq:=fq rfl;rcases hb with⟨rfl,hb⟩|⟨rfl,rfl⟩
  .simp only[if_true]at fq
   simp! [aE,aR,aS,aG,aJ,aL,aM,aK,aF,aI,dM,bR,bQ,cW,h1,hq,hb,cC,cH,hf,g1,g2,i1,i2,m1,fq]
  .simp only[nj,if_false]at fq
   simp! [aE,aR,aS,aG,aJ,aL,aM,aK,aF,aI,dM,bR,bQ,cW,h1,hq,cC,cH,hf,g1,g2,i1,i2,m2,fq]
 |false=>
  rcases hb with⟨rfl,hb⟩|⟨rfl,rfl⟩
  .simp! [aE,aR,aS,aG,aJ,aL,aM,aK,aF,aI,dM,bR,bQ,cW,h1,hq,hb,cC,cH,hf,g1]
  .simp! [aE,aR,aS,aG,aJ,aL,aM,aK,aF,aI,dM,bR,bQ,cW,h1,hq,cC,cH,hf,g1]
theorem Dz{S:aN}{T0 T1 T2 T3 HT:Str}{b y1 y2:Bool}{n1 n2:Int}{n:Nat}{FV:PV}(h1:jK (.str T0) none (some 1)=some (.str HT))(hq:(HT==("-":Str))=b)(hb:lS b T0 T1)(hf:mS T1 [.str "/"]=some (.int n))(s2:jK (.str T1) (some ((n:Int)+1)) none=some (.str T2))(s3:jK (.str T1) none (some (n:Int))=some (.str T3))(g1:kG [.pv (.str T3)] S=.ok (.pv (.bl y1)) S)(g2:kG [.pv (.str T2)] S=.ok (.pv (.bl y2)) S)(i1:y1=true->iR [.str T3]=some (.int n1))(i2:y2=true->iR [.str T2]=some (.int n2))(fq:y1=true->y2=true->n2≠0->lD [.pv (.int (if b=true then-n1 else n1)),.pv (.int n2)] S=.ok (.pv FV) S):
  iG [.pv (.str T0)] S=.ok (if y1=true/\y2=true/\n2≠0 then .pv FV else .pv .non) S:=by
 unfold iG aX sM;have m1:bC (.int (-1)) (.int n1)=some (.int (-n1)):=by rw[iM (.inl (.inl ⟨by decide,by decide⟩)),k8]
 have m2:bC (.int 1) (.int n1)=some (.int n1):=by rw[iM (.inl (.inl ⟨by decide,by decide⟩)),io]
 have n0:(0:Int)<=(n:Int):=by omega
 generalize (n:Int)=N at *;cases y1 with
 |false=>
  rcases hb with⟨rfl,hb⟩|⟨rfl,rfl⟩
  .simp! [aE,aR,aS,aG,aJ,aL,aM,aK,aF,aI,dM,bR,bQ,cW,h1,hq,hb,cC,cH,hf,n0,s2,s3,g1]
  .simp! [aE,aR,aS,aG,aJ,aL,aM,aK,aF,aI,dM,bR,bQ,cW,h1,hq,cC,cH,hf,n0,s2,s3,g1]
 |true=>
  have i1:=i1 rfl;have fq:=fq rfl;cases y2 with
  |false=>
   rcases hb with⟨rfl,hb⟩|⟨rfl,rfl⟩
   .simp! [aE,aR,aS,aG,aJ,aL,aM,aK,aF,aI,dM,bR,bQ,cW,h1,hq,hb,cC,cH,hf,n0,s2,s3,g1,g2]
   .simp! [aE,aR,aS,aG,aJ,aL,aM,aK,aF,aI,dM,bR,bQ,cW,h1,hq,cC,cH,hf,n0,s2,s3,g1,g2]
  |true=>
   have i2:=i2 rfl;have fq:=fq rfl
   by_cases hz:n2=0
   .subst hz
    rcases hb with⟨rfl,hb⟩|⟨rfl,rfl⟩
    .simp! [aE,aR,aS,aG,aJ,aL,aM,aK,aF,aI,dM,bR,bQ,cW,h1,hq,hb,cC,cH,hf,n0,s2,s3,g1,g2,i2]
    .simp! [aE,aR,aS,aG,aJ,aL,aM,aK,aF,aI,dM,bR,bQ,cW,h1,hq,cC,cH,hf,n0,s2,s3,g1,g2,i2]
   .have fq:=fq hz
    rcases hb with⟨rfl,hb⟩|⟨rfl,rfl⟩
    .simp only[if_true]at fq
     simp! [aE,aR,aS,aG,aJ,aL,aM,aK,aF,aI,dM,bR,bQ,cW,h1,hq,hb,cC,cH,hf,n0,s2,s3,g1,g2,i1,i2,hz,m1,fq]
    .simp only[nj,if_false]at fq
     simp! [aE,aR,aS,aG,aJ,aL,aM,aK,aF,aI,dM,bR,bQ,cW,h1,hq,cC,cH,hf,n0,s2,s3,g1,g2,i1,i2,hz,m2,fq]
theorem xP{p:List Nat}{r:List (List Nat)}:(dI 47 (p::r)).head?=some 45↔p.head?=some 45:=by
 cases r with
 |nil=>exact Iff.rfl
 |cons q r=>
  show(p++47::dI 47 (q::r)).head?=some 45↔_;cases p with
  |nil=>simp
  |cons a p=>simp
theorem Iw(p:List Nat)(r:List (List Nat)):bd (dI 47 (p::r))=dI 47 (bd p::r):=by
 unfold bd
 by_cases h:p.head?=some 45
 .rw[if_pos h,if_pos (xP.mpr h)]
  cases p with
  |nil=>cases h
  |cons a p=>
   cases r with
   |nil=>rfl
   |cons q r=>rfl
 .rw[if_neg h,if_neg (λz=>h (xP.mp z))]
theorem yW{L:List Nat}{i:Int}{j:Nat}(hi:i=(j:Int))(h:L.length<=10000):jK (.str (tx L)) (some i) none=some (.str (tx (L.drop j))):=by
 show(if(tx L).length<=16777216 then some (PV.str (iw (tx L) (some i) none))else none)=_;rw[if_pos (by rw[dS];omega),hi,Xj]
theorem Nk{L:List Nat}{j:Nat}(hj:j<=L.length)(h:L.length<=10000):jK (.str (tx L)) none (some (j:Int))=some (.str (tx (L.take j))):=by
 show(if(tx L).length<=16777216 then some (PV.str (iw (tx L) none (some (j:Int))))else none)=_;rw[if_pos (by rw[dS];omega),Zm L j hj]
theorem O9{L:List Nat}(h:L.length<=10000):∃HT,jK (.str (tx L)) none (some 1)=some (.str HT)/\(HT==("-":Str))=decide (L.head?=some 45):=by
 refine⟨tx (L.take 1),?_,?_⟩
 .show(if(tx L).length<=16777216 then some (PV.str (iw (tx L) none (some 1)))else none)=_
  rw[if_pos (by rw[dS];omega),Zz]
 .rw[zI,P6]
  cases L with
  |nil=>rfl
  |cons a L=>simp
theorem Wt{q r:List Nat}:eA (q++47::r)=false:=by
 unfold eA;have:(q++47::r).all fA=false:=by
  rw[List.all_append,List.all_cons];have:fA 47=false:=by decide
  rw[this];simp
 rw[this,c0]
theorem Az(S:aN):kG [.pv (.str "1")] S=.ok (.pv (.bl true)) S/\iR [.str "1"]=some (.int 1):=by
 have a:=sU S (L:=[49]) (by decide) (by decide);have b:=rH (L:=[49]) (by decide);rw[<-X8]at a b;exact⟨a,b⟩
theorem sZ{c:Nat}:∀{P:List (List Nat)}{p:List Nat},p∈P->∀d∈p,d∈dI c P
 |[q],p,h,d,hd=>by
  have:p=q:=by simpa using h
  rw[<-this];exact hd
 |q::q'::r,p,h,d,hd=>by
  show d∈q++c::dI c (q'::r);rcases cu.mp h with rfl |h
  .exact jr _ hd
  .exact cq _ (bp _ (sZ h d hd))
theorem sY{c:Nat}:∀{P:List (List Nat)}{p:List Nat},p∈P->p.length<=(dI c P).length
 |[q],p,h=>by
  have:p=q:=by simpa using h
  rw[this];exact am _
 |q::q'::r,p,h=>by
  show _<=(q++c::dI c (q'::r)).length;rw[bn,bq];rcases cu.mp h with rfl |h
  .omega
  .have:=sY (c:=c) h
   omega
theorem Zu(S:aN){L:List Nat}{P:List (List Nat)}(hi:dI 47 P=L)(hp:P≠[])(hf:∀p∈P,47∉p)(ha:∀c∈L,c<128)(hL:L.length<=10000):iG [.pv (.str (tx L))] S=.ok (mX (qE P)) S:=by
 obtain⟨HT,h1,hq⟩:=O9 hL;obtain⟨_,bo⟩:=Ga hL;obtain⟨g1,i1⟩:=Az S;have fq:∀t b:Int,Bd 200 t->Bd 200 b->lD [.pv (.int t),.pv (.int b)] S=.ok (.pv (.tup ((fr t b).map .int))) S:=λt b ht hb=>Rj t b S (ht.mono (by decide)) (hb.mono (by decide));have fl:∀{A:List Nat},47∉A->mS (tx A) [.str "/"]=some (.int (-1)):=λ{A} h=>by
  rw[uC];show some (PV.int (ph (tx A) (tx [47])))=_;rw[C0 h]
 have ft:∀{A B:List Nat},47∉A->mS (tx (A++47::B)) [.str "/"]=some (.int (A.length:Nat)):=λ{A B} h=>by
  rw[uC];show some (PV.int (ph (tx (A++47::B)) (tx [47])))=_;rw[Jz h]
 have aP:∀p∈P,∀c∈p,c<128:=λp h c hc=>ha c (by rw[<-hi];exact sZ h c hc);have lP:∀p∈P,p.length<=10000:=λp h=>dn (by rw[<-hi];exact sY h) hL
 match P,hp,hi,hf,aP,lP with
 |[p],_,hi,hf,aP,lP=>
  have hi:p=L:=hi;subst hi;have g:=sU S (L:=bd p) (λc hc=>ha c (rJ hc)) (dn (uP p) hL);have z:=Ny (n1:=vD (bd p)) (FV:=.tup ((fr (sN p) 1).map .int)) h1 hq bo (fl λz=>hf p (by simp) (rJ z)) g g1 rH i1 (λhk=>by rw[vA];exact fq (sN p) 1 (pQ hk) Ma);rw[z,Ib]
  by_cases hk:eA (bd p)=true
  .rw[if_pos hk,if_pos hk]
   rfl
  .rw[if_neg hk,if_neg hk]
   rfl
 |p::q::r,_,hi,hf,aP,lP=>
  have hd:L.head?=some 45↔p.head?=some 45:=by rw[<-hi];exact xP
  have hb:bd L=bd p++47::dI 47 (q::r):=by
   rw[<-hi,Iw];rfl
  rw[hb]at bo;have dd:decide (L.head?=some 45)=decide (p.head?=some 45):=by simp[hd]
  have lb:(bd p++47::dI 47 (q::r)).length<=10000:=by rw[<-hb];exact dn (uP L) hL
  have s2:=yW (L:=bd p++47::dI 47 (q::r)) (i:=((bd p).length:Int)+1) (j:=(bd p).length+1) (by omega) lb;have s3:=Nk (L:=bd p++47::dI 47 (q::r)) (j:=(bd p).length) (by simp) lb;have e2:(bd p++47::dI 47 (q::r)).drop ((bd p).length+1)=dI 47 (q::r):=by
   rw[<-List.drop_drop,List.drop_left];rfl
  rw[e2]at s2;rw[d5]at s3;have ai:∀c∈dI 47 (q::r),c<128:=λc hc=>ha c (by
   rw[<-hi];show c∈p++47::dI 47 (q::r);exact cq _ (bp _ hc))
  have li:(dI 47 (q::r)).length<=10000:=by
   rw[bn,bq]at lb;omega
  have g3:=sU S (L:=bd p) (λc hc=>aP p (by simp) c (rJ hc)) (dn (uP p) (lP p (by simp)));have g4:=sU S (L:=dI 47 (q::r)) ai li;have z:=Dz (n1:=vD (bd p)) (n2:=vD (dI 47 (q::r))) (FV:=.tup ((fr (sN p) (vD (dI 47 (q::r)))).map .int)) h1 hq bo (ft λz=>hf p (by simp) (rJ z)) s2 s3 g3 g4 rH rH (λhk hk2 _=>by rw[dd,vA];exact fq (sN p) _ (pQ hk) (wL (vC hk2)).1);rw[z];cases r with
  |nil=>
   rw[Db];show bO.ok (if eA (bd p)=true/\eA q=true/\vD q≠0 then _ else _) S=_
   by_cases hk:eA (bd p)=true/\eA q=true/\vD q≠0
   .rw[if_pos hk,if_pos hk]
    rfl
   .rw[if_neg hk,if_neg hk]
    rfl
  |cons t r=>
   have:eA (dI 47 (q::t::r))=false:=Wt;rw[if_neg (λz=>by rw[this]at z;exact absurd z.2.1 (by decide))];rfl
def dg(m:Nat):List Nat:=(ue 10 m).map Char.toNat
theorem G9(m:Nat):(cc (toString ((m:Nat):Int)):Str)=tx (dg m):=by
 rw[<-rC (cc (toString ((m:Nat):Int))),PySem.W.KIN.signs_num];rfl
theorem M1{m c:Nat}(h:c∈dg m):fA c=true:=by
 obtain⟨ch,hch,rfl⟩:=da.mp h;have r:=PyProof.Rows.digit_range (Nat.isDigit_of_mem_toDigits (by decide) (by decide) hch);unfold fA;simp[r.1,r.2]
theorem zW:∀(k m:Nat),m<10^(k+1)->(dg m).length<=k+1
 |0,m,h=>by
  unfold dg;rw[xx (by omega)];simp
 |k+1,m,h=>by
  by_cases h10:m<10
  .unfold dg
   rw[xx h10];simp
  .have hm:m%10<10:=Nat.mod_lt m (by decide)
   have t:ue 10 (m/10)++ue 10 (m%10)=ue 10 (10*(m/10)+m%10):=Nat.toDigits_append_toDigits (by decide) (by omega) hm;rw[Nat.div_add_mod]at t;have ih:=zW k (m/10) (by rw[wg]at h;omega);unfold dg at ih⊢;rw[<-t,xx hm];rw[ar]at ih⊢;rw[bn];simp;omega
theorem O4{c:Nat}(h:fA c=true):c<128/\c≠45/\c≠47:=by
 unfold fA at h;rw[ee,decide_eq_true_eq,decide_eq_true_eq]at h;omega
theorem aab{v:Int}(h0:0<=v)(h1:v<10^61):nT [.int v]=some (.str (tx (dg v.toNat)))/\(dg v.toNat).length<=61:=by
 obtain⟨m,rfl⟩:=uf h0;have hm:m<10^61:=by exact_mod_cast h1
 have hl:((m:Int)).natAbs.log2<1920:=by
  have e:((m:Int)).natAbs=m:=by omega
  rw[e]
  by_cases hz:m=0
  .subst hz;decide
  .refine(wj hz).mpr (br hm ?_)
   decide+kernel
 refine⟨?_,?_⟩
 .show(if((m:Int)).natAbs.log2<1920 then some (PV.str (cc (toString (m:Int))))else none)=_
  rw[if_pos hl,G9];rfl
 .exact zW 60 m hm
def fF(n:Nat)(T:Str):Prop:=∃L,T=tx L/\(∀c∈L,c<128)/\L.length<=n
theorem fF.mono{n k:Nat}{T:Str}(h:fF n T)(l:n<=k):fF k T:=by
 obtain⟨L,e,a,b⟩:=h;exact⟨L,e,a,by omega⟩
theorem lC{n k:Nat}{T U:Str}(h:fF n T)(g:fF k U)(hl:n+k<=10000):iB (.str T) (.str U)=some (.str (T++U))/\fF (n+k) (T++U):=by
 obtain⟨L,rfl,a,b⟩:=h;obtain⟨M,rfl,c,d⟩:=g;refine⟨?_,?_⟩
 .show(if(tx L).length+(tx M).length<=16777216 then some (PV.str (tx L++tx M))else none)=_
  rw[if_pos (by rw[dS,dS];omega)]
 .rw[rL]
  refine⟨_,rfl,λx hx=>?_,by rw[bn];omega⟩;rcases cm.mp hx with z |z
  .exact a x z
  .exact c x z
theorem N3{n:Nat}{T:Str}{j:Nat}(h:fF n T)(hj:(j:Int)<=T.length)(hn:n<=9000):∃A B C,jK (.str T) none (some (j:Int))=some (.str A)/\jK (.str T) (some (j:Int)) none=some (.str B)/\jK (.str T) (some ((j:Int)+1)) none=some (.str C)/\fF n A/\fF n B/\fF n C:=by
 obtain⟨L,rfl,a,b⟩:=h;rw[dS]at hj;refine⟨_,_,_,Nk (by omega) (by omega),yW rfl (by omega),yW (j:=j+1) (by omega) (by omega),?_,?_,?_⟩
 .exact⟨_,rfl,λc hc=>a c (xo hc),by rw[kr];omega⟩
 .exact⟨_,rfl,λc hc=>a c (pk hc),by rw[jk];omega⟩
 .exact⟨_,rfl,λc hc=>a c (pk hc),by rw[jk];omega⟩
theorem Uz{n:Nat}{T:Str}(h:fF n T)(hn:n<=9000):fE [.str T]=some (.int (T.length:Nat))/\T.length<=n:=by
 obtain⟨L,rfl,a,b⟩:=h;rw[dS];refine⟨?_,b⟩;show(if(tx L).length<=16777216 then some (PV.int ((tx L).length:Nat))else none)=_;rw[if_pos (by rw[dS];omega),dS]
def kE(k:AF):PV:=.tup (k.map λr:AE=>PV.tup (r.map PV.int))
abbrev wU:Type:=AF×Int
def Na:List wU->AF->Int
 |[],_=>0
 |c::C,k=>(if c.1=k then c.2 else 0)+Na C k
structure Tb(kvs:List (PV×PV))(C:List wU):Prop where
 int:∀x∈kvs,∃k i,x=(kE k,.int i)
 nd:(kvs.map (·.1)).Nodup
 val:∀k,(kE k,PV.int (Na C k))∈kvs\/((∀v,(kE k,v)∉kvs)/\Na C k=0)
 len:kvs.length<=C.length
def Yo:AE->Int
 |[]=>0
 |n::r=>if n=0 then Yo r else sg n
def Fo(ns:AE):AE:=(low ns).map (Yo ns*·)
def wI:AE->AE->AE
 |[x0,y0,w0],[x1,y1,w1]=>[x1*w0-x0*w1,y1*w0-y0*w1]
 |[x0,y0,z0,w0],[x1,y1,z1,w1]=>[x1*w0-x0*w1,y1*w0-y0*w1,z1*w0-z0*w1]
 |_,_=>[]
theorem aaS{x0 y0 w0 x1 y1 w1:Int}:wI [x0,y0,w0] [x1,y1,w1]=[x1*w0-x0*w1,y1*w0-y0*w1]:=rfl
theorem aaR{x0 y0 z0 w0 x1 y1 z1 w1:Int}:wI [x0,y0,z0,w0] [x1,y1,z1,w1]=[x1*w0-x0*w1,y1*w0-y0*w1,z1*w0-z0*w1]:=rfl
def sd(pi s e:AE)(n:Int):List wU:=[([pi,Fo (wI s e),s],n),([pi,Fo (wI s e),e],-n)]
theorem rV{R:aN}(ns:AE){m:Int}(hm:0<m)(b:Bd 8000 m):∃(v:Int)(ns':AE),dG [.ref 0,.pv (.int m)] (.lst (li ns)::R)=.ok (.pv (.int v)) (.lst (li ns')::R)/\0<=v/\v<m:=by
 obtain⟨v,n1,e,a,c,_⟩:=rD (S:=(.lst (li ns)::R)) (k:=0) (ns:=ns) (m:=m) rfl hm b;exact⟨v,n1,e,a,c⟩
theorem Km{t b:Int}{k:Nat}(hb:0<b)(ht:Bd k t)(hbb:Bd k b):∃p q:Int,fr t b=[p,q]/\0<q/\Bd k p/\Bd k q/\fr p q=[p,q]:=by
 obtain⟨zs,z,e,Z,_⟩:=uV (n:=1) (L:=[t]) (b:=b) hb rfl (λx hx=>by
  have:x=t:=by simpa using hx
  rw[this];exact ht) hbb
 have el:=Z.len
 match zs,el,e,Z with
 |[p],_,e,Z=>
  have e:low [t,b]=[p,z]:=e;have f1:fr t b=low [t,b]:=if_neg (by omega);have zp:=Z.pos;have f2:fr p z=low [p,z]:=if_neg (by omega);refine⟨p,z,by rw[f1,e],Z.pos,Z.bx p (by simp),Z.bw,?_⟩;rw[f2];exact Z.low
def tN(p:Int):List Nat:=if p<0 then 45::dg p.natAbs else dg p.natAbs
def sJ(p q:Int):List Nat:=if q=1 then tN p else tN p++47::dg q.natAbs
theorem Mf:fF 1 ("/":Str)/\fF 1 ("-":Str):=⟨⟨[47],uC,by decide,by decide⟩,⟨[45],zI,by decide,by decide⟩⟩
theorem O1:(" ,+/-0123456789nonepushturnby":Str)=tx [32,44,43,47,45,48,49,50,51,52,53,54,55,56,57,110,111,110,101,112,117,115,104,116,117,114,110,98,121]:=by kernel_rfl
theorem L7:(" !\"#$&'()*+,-./0123456789:;<=>?@ABCDEFGHIJKLMNOPQRSTUVWXYZ[\\]^_`abcdefghijklmnopqrstuvwxyz{|}~":Str)=tx [32,33,34,35,36,38,39,40,41,42,43,44,45,46,47,48,49,50,51,52,53,54,55,56,57,58,59,60,61,62,63,64,65,66,67,68,69,70,71,72,73,74,75,76,77,78,79,80,81,82,83,84,85,86,87,88,89,90,91,92,93,94,95,96,97,98,99,100,101,102,103,104,105,106,107,108,109,110,111,112,113,114,115,116,117,118,119,120,121,122,123,124,125,126]:=by kernel_rfl
theorem Om{L:List Nat}(ha:∀c∈L,c<128)(hl:L.length<=1000){v:Int}(h0:0<=v)(h1:v<L.length):∃T,nS (.str (tx L)) (.int v)=some (.str T)/\fF 1 T:=by
 obtain⟨j,rfl⟩:=uf h0;have hj:j<L.length:=by omega
 refine⟨tx [L[j]],?_,⟨_,rfl,λc hc=>?_,by simp⟩⟩
 .show(if(tx L).length<=16777216 then(aR (tx L).cps.toList (j:Int)).map (λc=>PV.str ⟨#[c]⟩)else none)=_
  have e:(tx L).cps.toList=L:=by simp[tx]
  rw[if_pos (by rw[dS];omega),e,oX (j:=j) (bf hj)];rfl
 .have:c=L[j]:=by simpa using hc
  rw[this];exact ha _ (iu _)
theorem Im{L:List Nat}(hl:L.length<=1000):fE [.str (tx L)]=some (.int (L.length:Nat)):=by
 show(if(tx L).length<=16777216 then some (PV.int ((tx L).length:Nat))else none)=_;rw[if_pos (by rw[dS];omega),dS]
theorem Kr{R:aN}(ns:AE):∃(T:Str)(ns':AE),sV [.ref 0] (.lst (li ns)::R)=.ok (.pv (.str T)) (.lst (li ns')::R)/\fF 1 T:=by
 obtain⟨a,n1,e1,a0,a1⟩:=rV (R:=R) ns (m:=2) (by decide) (oA (by decide) (by decide));have l1:=Im (L:=[32,44,43,47,45,48,49,50,51,52,53,54,55,56,57,110,111,110,101,112,117,115,104,116,117,114,110,98,121]) (by decide);have l2:=Im (L:=[32,33,34,35,36,38,39,40,41,42,43,44,45,46,47,48,49,50,51,52,53,54,55,56,57,58,59,60,61,62,63,64,65,66,67,68,69,70,71,72,73,74,75,76,77,78,79,80,81,82,83,84,85,86,87,88,89,90,91,92,93,94,95,96,97,98,99,100,101,102,103,104,105,106,107,108,109,110,111,112,113,114,115,116,117,118,119,120,121,122,123,124,125,126]) (by decide);obtain⟨v,n2,e2,v0,v1⟩:=rV (R:=R) n1 (m:=(([32,44,43,47,45,48,49,50,51,52,53,54,55,56,57,110,111,110,101,112,117,115,104,116,117,114,110,98,121].length:Nat):Int)) (by decide) (oA (by decide) (by decide));obtain⟨u,n3,e3,u0,u1⟩:=rV (R:=R) n1 (m:=(([32,33,34,35,36,38,39,40,41,42,43,44,45,46,47,48,49,50,51,52,53,54,55,56,57,58,59,60,61,62,63,64,65,66,67,68,69,70,71,72,73,74,75,76,77,78,79,80,81,82,83,84,85,86,87,88,89,90,91,92,93,94,95,96,97,98,99,100,101,102,103,104,105,106,107,108,109,110,111,112,113,114,115,116,117,118,119,120,121,122,123,124,125,126].length:Nat):Int)) (by decide) (oA (by decide) (by decide));obtain⟨T,t1,A1⟩:=Om (L:=[32,44,43,47,45,48,49,50,51,52,53,54,55,56,57,110,111,110,101,112,117,115,104,116,117,114,110,98,121]) (by decide) (by decide) v0 v1;obtain⟨U,t2,A2⟩:=Om (L:=[32,33,34,35,36,38,39,40,41,42,43,44,45,46,47,48,49,50,51,52,53,54,55,56,57,58,59,60,61,62,63,64,65,66,67,68,69,70,71,72,73,74,75,76,77,78,79,80,81,82,83,84,85,86,87,88,89,90,91,92,93,94,95,96,97,98,99,100,101,102,103,104,105,106,107,108,109,110,111,112,113,114,115,116,117,118,119,120,121,122,123,124,125,126]) (by decide) (by decide) u0 u1;rw[<-O1]at l1 t1;rw[<-L7]at l2 t2;generalize (([32,33,34,35,36,38,39,40,41,42,43,44,45,46,47,48,49,50,51,52,53,54,55,56,57,58,59,60,61,62,63,64,65,66,67,68,69,70,71,72,73,74,75,76,77,78,79,80,81,82,83,84,85,86,87,88,89,90,91,92,93,94,95,96,97,98,99,100,101,102,103,104,105,106,107,108,109,110,111,112,113,114,115,116,117,118,119,120,121,122,123,124,125,126].length:Nat):Int)=N2,(([32,44,43,47,45,48,49,50,51,52,53,54,55,56,57,110,111,110,101,112,117,115,104,116,117,114,110,98,121].length:Nat):Int)=N1 at *;unfold sV aX xK;generalize (" !\"#$&'()*+,-./0123456789:;<=>?@ABCDEFGHIJKLMNOPQRSTUVWXYZ[\\]^_`abcdefghijklmnopqrstuvwxyz{|}~":Str)=TM,(" ,+/-0123456789nonepushturnby":Str)=TS at *;have ha:(a==0)=true\/(a==0)=false:=by cases(a==0)<;>simp
 rcases ha with ha |ha
 .exact⟨T,n2,by simp! [aE,aR,aS,aG,aJ,aL,aM,aK,aF,aI,e1,ha,l1,e2,t1],A1⟩
 .exact⟨U,n3,by simp! [aE,aR,aS,aG,aJ,aL,aM,aK,aF,aI,e1,ha,l2,e3,t2],A2⟩
theorem Jf{g:GM}{me:ME}{ρ:bS}{S:aN}:eL [] g me [] ρ S=.ok [] S:=by
 unfold eL;rw[if_pos (gF S)]
theorem Me{g:GM}{me:ME}{x:PV}{r:AM}{ρ:bS}{S:aN}:eL [] g me (x::r) ρ S=(match g x ρ with
  |none=>.fail
  |some ρ1=>match me ρ1 S with
   |.ok (.pv y) S1=>match eL [] g me r ρ1 S1 with
    |.ok ys S2=>.ok (y::ys) S2
    |.exc n S2=>.exc n S2
    |.fail=>.fail
   |.ok (.ref _) _=>.fail
   |.exc n S1=>.exc n S1
   |.fail=>.fail):=by
 conv=>lhs;unfold eL
 rw[if_pos (gF S)]
 all_goals (rcases g x ρ with _ |ρ1<;>dsimp only<;>first |rfl |(rcases me ρ1 S with⟨a,S1⟩|⟨n,S1⟩|_<;>first |rfl |(cases a<;>rfl)))
theorem oP{S:aN}{me:ME}{tail:bS}{α:Type}(A B:α->PV):∀(L:List α)(x:AO),(∀v∈L,me (some (.pv (A v))::tail) S=.ok (.pv (B v)) S)->eL [] (gN 0) me (L.map A) (x::tail) S=.ok (L.map B) S
 |[],x,_=>Jf
 |v::L,x,h=>by
  have e:=h v bc;have e':=oP A B L (some (.pv (A v))) λu hu=>h u (bp _ hu);rw[cv,Me];simp[gN,e,e']
theorem Ck:(" ":Str)=tx [32]:=by kernel_rfl
def pT(w x:Int):Int:=(fr x w).getD 0 0
def pB(w x:Int):Int:=(fr x w).getD 1 0
theorem Hn{k:Nat}{w x:Int}(hw:0<w)(bw:Bd k w)(bx:Bd k x):fr x w=[pT w x,pB w x]/\0<pB w x/\Bd k (pT w x)/\Bd k (pB w x)/\fr (pT w x) (pB w x)=[pT w x,pB w x]:=by
 obtain⟨p,q,e,a,b,c,d⟩:=Km hw bx bw;have e1:pT w x=p:=by unfold pT;rw[e];rfl
 have e2:pB w x=q:=by unfold pB;rw[e];rfl
 rw[e1,e2];exact⟨e,a,b,c,d⟩
theorem qP{S:aN}{me:ME}{tail:bS}{α:Type}(A B:α->PV)(bad:α->Prop)(n:Str):∀(L:List α)(x:AO),(∀v∈L,(bad v->me (some (.pv (A v))::tail) S=.exc n S)/\(¬bad v->me (some (.pv (A v))::tail) S=.ok (.pv (B v)) S))->(∃v∈L,bad v)->eL [] (gN 0) me (L.map A) (x::tail) S=.exc n S
 |[],x,_,h=>by obtain⟨v,hv,_⟩:=h;cases hv
 |v::L,x,h,hb=>by
  obtain⟨a,b⟩:=h v bc;rw[cv,Me]
  by_cases hv:bad v
  .simp[gN,a hv]
  .have:∃u∈L,bad u:=by
    obtain⟨u,hu,z⟩:=hb;rcases cu.mp hu with rfl |hu
    .exact absurd z hv
    .exact⟨u,hu,z⟩
   have e':=qP A B bad n L (some (.pv (A v))) (λu hu=>h u (bp _ hu)) this;simp[gN,b hv,e']
theorem xN:∀Ls:List (List Nat),kL (Ls.map λl=>PV.str (tx l))=some (Ls.map tx)
 |[]=>rfl
 |l::Ls=>by
  show(match kL (Ls.map λl=>PV.str (tx l))with |some xs=>some (tx l::xs) |none=>none)=_
  rw[xN Ls];rfl
theorem Xy{c:Nat}{Ls:List (List Nat)}{B:Nat}(hB:∀l∈Ls,l.length<=B)(hn:Ls.length<=200)(hb:B<=20000):lJ (tx [c]) [.lst (Ls.map λl=>.str (tx l))]=some (.str (tx (dI c Ls))):=by
 have ok:jp (tx [c]) (Ls.map tx)=true:=by
  unfold jp;rw[k9 (B:=B) (λy hy=>by
   obtain⟨l,hl,rfl⟩:=da.mp hy;rw[dS];exact hB l hl) (by
   rw[ar,dS];have:Ls.length*B<=200*20000:=sw hn hb;show Ls.length*B+Ls.length*1<=16777216;omega)]
  rfl
 show(match kL (Ls.map λl=>PV.str (tx l))with |some ts=>if jp (tx [c]) ts=true then some (PV.str (lr (tx [c]) ts))else none |none=>none)=_
 rw[xN];dsimp only;rw[if_pos ok];have:lr (tx [c]) (Ls.map tx)=tx (dI c Ls):=by
  show l4 (tx [c]) (Ls.map tx)=_;rw[l5,zF]
 rw[this]
theorem kN{a b:Int}(hb:0<b)(bb:Bd 1000 b):eC (.int (a*b)) (.int b)=some (.int a):=by
 rw[qZ (i:=a*b) (j:=b) ⟨by omega,bb.mono (by decide)⟩,wo _ (by omega),Int.mul_ediv_cancel _ (by omega)]
structure Fz(u:Int×Int):Prop where
 pos:0<u.2
 b1:Bd 300 u.1
 b2:Bd 300 u.2
abbrev fz(u:Int×Int):PV:=.tup [.int u.1,.int u.2]
def cT:List (Int×Int)->AE
 |[u,v]=>[u.1*v.2,v.1*u.2]
 |[u,v,t]=>[u.1*(v.2*t.2),v.1*(u.2*t.2),t.1*(u.2*v.2)]
 |_=>[]
def cB:List (Int×Int)->Int
 |[u,v]=>u.2*v.2
 |[u,v,t]=>u.2*v.2*t.2
 |_=>1
theorem b3{k l:Nat}{a b:Int}(h:Bd k a)(g:Bd l b)(hs:k+l<=1000):Bd 1000 (a*b):=(h.mul g).mono hs
theorem Sa{ab:List (Int×Int)}(hl:ab.length=2\/ab.length=3)(h:∀u∈ab,Fz u):0<cB ab/\Bd 1000 (cB ab)/\(cT ab).length=ab.length/\∀x∈cT ab,Bd 1000 x:=by
 match ab,hl,h with
 |[u,v],_,h=>
  have hu:=h u (by simp);have hv:=h v (by simp);refine⟨kg hu.pos hv.pos,b3 hu.b2 hv.b2 (by decide),rfl,λx hx=>?_⟩;have:x=u.1*v.2\/x=v.1*u.2:=by simpa[cT]using hx
  rcases this with rfl |rfl
  .exact b3 hu.b1 hv.b2 (by decide)
  .exact b3 hv.b1 hu.b2 (by decide)
 |[u,v,t],_,h=>
  have hu:=h u (by simp);have hv:=h v (by simp);have ht:=h t (by simp);refine⟨kg (kg hu.pos hv.pos) ht.pos,b3 (hu.b2.mul hv.b2) ht.b2 (by decide),rfl,λx hx=>?_⟩;have:x=u.1*(v.2*t.2)\/x=v.1*(u.2*t.2)\/x=t.1*(u.2*v.2):=by simpa[cT]using hx
  rcases this with rfl |rfl |rfl
  .exact b3 hu.b1 (hv.b2.mul ht.b2) (by decide)
  .exact b3 hv.b1 (hu.b2.mul ht.b2) (by decide)
  .exact b3 ht.b1 (hu.b2.mul hv.b2) (by decide)
theorem Ar(S:aN){ab:List (Int×Int)}(hl:ab.length=2\/ab.length=3)(h:∀u∈ab,Fz u):mE [.pv (.lst (ab.map fz))] S=.ok (.pv (tv (low (cT ab++[cB ab])))) S:=by
 obtain⟨p0,pb,pl,px⟩:=Sa hl h;have ep:=Nv (w:=.lst ((cT ab).map .int)) (cT ab) (cB ab) S (.inl rfl) (λx hx=>(px x hx).mono (by decide)) (pb.mono (by decide)) (by omega) (by omega);rw[T4 p0]at ep
 match ab,hl,h,ep with
 |[u,v],_,h,ep=>
  have hu:=h u (by simp);have hv:=h v (by simp);obtain⟨a,b⟩:=u;obtain⟨c,d⟩:=v;have m1:bC (.int 1) (.int b)=some (.int b):=by rw[iM (.inl (.inl ⟨by decide,by decide⟩)),io]
  have m2:bC (.int b) (.int d)=some (.int (b*d)):=dL hu.b2 hv.b2;have q1:eC (.int (b*d)) (.int b)=some (.int d):=by rw[ow];exact kN hu.pos (hu.b2.mono (by decide))
  have q2:eC (.int (b*d)) (.int d)=some (.int b):=kN hv.pos (hv.b2.mono (by decide));have m3:bC (.int a) (.int d)=some (.int (a*d)):=dL hu.b1 hv.b2;have m4:bC (.int c) (.int b)=some (.int (c*b)):=dL hv.b1 hu.b2;have ep:nJ [.pv (.lst [.int (a*d),.int (c*b)]),.pv (.int (b*d))] S=.ok (.pv (tv (low ([a*d,c*b]++[b*d])))) S:=ep;show mE [.pv (.lst [.tup [.int a,.int b],.tup [.int c,.int d]])] S=.ok (.pv (tv (low ([a*d,c*b]++[b*d])))) S;generalize tv (low ([a*d,c*b]++[b*d]))=R at *;unfold mE aX sW;simp! [aE,aR,aS,aG,aJ,aL,aM,aK,aF,aI,dB,bK,bX,fV,hJ,eQ,eH,gN,m1,m2,bI,bT,q1,q2,m3,m4,ep]
 |[u,v,t],_,h,ep=>
  have hu:=h u (by simp);have hv:=h v (by simp);have ht:=h t (by simp);obtain⟨a,b⟩:=u;obtain⟨c,d⟩:=v;obtain⟨e,f⟩:=t;have m1:bC (.int 1) (.int b)=some (.int b):=by rw[iM (.inl (.inl ⟨by decide,by decide⟩)),io]
  have m2:bC (.int b) (.int d)=some (.int (b*d)):=dL hu.b2 hv.b2;have m2':bC (.int (b*d)) (.int f)=some (.int (b*d*f)):=dL (hu.b2.mul hv.b2) ht.b2;have q1:eC (.int (b*d*f)) (.int b)=some (.int (d*f)):=by
   rw[show b*d*f=d*f*b by grind];exact kN hu.pos (hu.b2.mono (by decide))
  have q2:eC (.int (b*d*f)) (.int d)=some (.int (b*f)):=by
   rw[show b*d*f=b*f*d by grind];exact kN hv.pos (hv.b2.mono (by decide))
  have q3:eC (.int (b*d*f)) (.int f)=some (.int (b*d)):=kN ht.pos (ht.b2.mono (by decide));have m3:bC (.int a) (.int (d*f))=some (.int (a*(d*f))):=dL hu.b1 (hv.b2.mul ht.b2);have m4:bC (.int c) (.int (b*f))=some (.int (c*(b*f))):=dL hv.b1 (hu.b2.mul ht.b2);have m5:bC (.int e) (.int (b*d))=some (.int (e*(b*d))):=dL ht.b1 (hu.b2.mul hv.b2);have ep:nJ [.pv (.lst [.int (a*(d*f)),.int (c*(b*f)),.int (e*(b*d))]),.pv (.int (b*d*f))] S=.ok (.pv (tv (low ([a*(d*f),c*(b*f),e*(b*d)]++[b*d*f])))) S:=ep;show mE [.pv (.lst [.tup [.int a,.int b],.tup [.int c,.int d],.tup [.int e,.int f]])] S=.ok (.pv (tv (low ([a*(d*f),c*(b*f),e*(b*d)]++[b*d*f])))) S;generalize tv (low ([a*(d*f),c*(b*f),e*(b*d)]++[b*d*f]))=R at *;unfold mE aX sW;simp! [aE,aR,aS,aG,aJ,aL,aM,aK,aF,aI,dB,bK,bX,fV,hJ,eQ,eH,gN,m1,m2,m2',bI,bT,q1,q2,q3,m3,m4,m5,ep]
theorem xH{L:List Nat}{Ps:List (List Nat)}(hs:dh (tx L) (tx [32])=Ps.map tx)(hL:L.length<=9000):fI (tx L) [.str " "]=some (.lst (Ps.map λp=>.str (tx p))):=by
 rw[Ck];show(if(tx [32]).length≠0/\(tx L).length+2<=16777216 then some (PV.lst ((dh (tx L) (tx [32])).map .str))else none)=_;rw[if_pos ⟨by rw[dS];decide,by rw[dS];omega⟩,hs,du];rfl
def rr(p:List Nat):Option (Int×Int):=qE ((dh (tx p) (tx [47])).map λx=>x.cps.toList)
theorem Wa(S:aN){p:List Nat}(ha:∀c∈p,c<128)(hl:p.length<=9000):eB [.pv (.str (tx p))] S=Cb (rr p) S/\iG [.pv (.str (tx p))] S=.ok (mX (rr p)) S:=by
 obtain⟨P,es,hf,hi,hp⟩:=Wl p 47;have e:rr p=qE P:=by
  unfold rr;rw[es,du];have:((λx:Str=>x.cps.toList)∘tx)=id:=by
   funext l
   simp[tx]
  rw[this,jy]
 rw[e];exact⟨Ru S es hp (λq h c hc=>ha c (by rw[<-hi];exact sZ h c hc)) (λq h=>by have z:=sY (c:=47) h;rw[hi]at z;omega) (by omega),Zu S hi hp hf ha (by omega)⟩
def rF(p:List Nat):Int×Int:=match rr p with
 |some (t,b)=>(pT b t,pB b t)
 |none=>(0,1)
theorem O3{p:List Nat}{t b:Int}(h:rr p=some (t,b)):0<b/\Bd 200 t/\Bd 200 b:=by
 unfold rr at h;generalize ((dh (tx p) (tx [47])).map λx=>x.cps.toList)=P at h
 match P,h with
 |[q],h=>
  rw[Ib]at h;split at h
  .rename_i hk
   cases h;exact⟨by decide,pQ hk,Ma⟩
  .cases h
 |[q,r],h=>
  rw[Db]at h;split at h
  .rename_i hk
   cases h;have v:=vC hk.2.1;exact⟨by have:=hk.2.2;omega,pQ hk.1,(wL v).1⟩
  .cases h
theorem rM{p:List Nat}(h:rr p≠none):Fz (rF p)/\(∀S,Cb (rr p) S=.ok (.pv (fz (rF p))) S)/\mX (rr p)=.pv (fz (rF p)):=by
 cases e:rr p with
 |none=>exact absurd e h
 |some u=>
  obtain⟨t,b⟩:=u;obtain⟨h0,ht,hb⟩:=O3 e;obtain⟨f,q0,b1,b2,_⟩:=Hn h0 hb ht;have er:rF p=(pT b t,pB b t):=by unfold rF;rw[e]
  rw[er];refine⟨⟨q0,b1.mono (by decide),b2.mono (by decide)⟩,λS=>?_,?_⟩
  .show bO.ok (AV.pv (.tup ((fr t b).map .int))) S=_
   rw[f];rfl
  .show AV.pv (.tup ((fr t b).map .int))=_
   rw[f];rfl
theorem Lr(S:aN){L:List Nat}{Ps:List (List Nat)}{ab:List Nat->Int×Int}(hs:dh (tx L) (tx [32])=Ps.map tx)(hL:L.length<=9000)(hl:Ps.length=2\/Ps.length=3)(hr:∀p∈Ps,Fz (ab p)/\eB [.pv (.str (tx p))] S=.ok (.pv (fz (ab p))) S):gZ [.pv (.str (tx L))] S=.ok (.pv (tv (low (cT (Ps.map ab)++[cB (Ps.map ab)])))) S:=by
 have es:=xH hs hL;have rf:=iJ S;have ec:=oP (S:=S) (me:=cJ eB [] (aC (aA 0) aD)) (tail:=[]) (λp=>.str (tx p)) (λp=>fz (ab p)) Ps none λp hp=>by
  have e:=(hr p hp).2;generalize tx p=T,fz (ab p)=F at *;simp! [aE,aR,aS,aG,aJ,aL,aM,aK,aF,aI,e]
 have ep:=Ar S (ab:=Ps.map ab) (by rw[ar];exact hl) λu hu=>by
  obtain⟨p,hp,rfl⟩:=da.mp hu;exact(hr p hp).1
 rw[du]at ep;have ep:mE [.pv (.lst (Ps.map λp=>fz (ab p)))] S=.ok (.pv (tv (low (cT (Ps.map ab)++[cB (Ps.map ab)])))) S:=ep;have ln:((Ps.map λp=>fz (ab p)).length:Int)=(Ps.length:Int):=by rw[ar]
 unfold gZ aX;unfold sO;generalize tx L=TL,(Ps.map λp=>fz (ab p))=FL,(Ps.map λp=>PV.str (tx p))=SL,tv (low (cT (Ps.map ab)++[cB (Ps.map ab)]))=R,(cJ eB [] (aC (aA 0) aD))=ME1 at *;rcases hl with h |h
 .rw[h]at ln
  simp! [aE,aR,aS,aG,aJ,aL,aM,aK,aF,aI,fD,bT,bK,cC,cH,es,bX,ec,ln,rf,ep]
 .rw[h]at ln
  simp! [aE,aR,aS,aG,aJ,aL,aM,aK,aF,aI,fD,bT,bK,cC,cH,es,bX,ec,ln,rf,ep]
theorem Yr(S:aN){L:List Nat}{Ps:List (List Nat)}(hs:dh (tx L) (tx [32])=Ps.map tx)(hL:L.length<=9000)(ha:∀p∈Ps,(∀c∈p,c<128)/\p.length<=9000)(h:(∃p∈Ps,rr p=none)\/¬(Ps.length=2\/Ps.length=3)):gZ [.pv (.str (tx L))] S=.exc "NoText" S:=by
 have es:=xH hs hL;have rf:=iJ S;have step:∀p∈Ps,(rr p=none->(cJ eB [] (aC (aA 0) aD)) (some (.pv (.str (tx p)))::[]) S=.exc "NoText" S)/\(¬rr p=none->(cJ eB [] (aC (aA 0) aD)) (some (.pv (.str (tx p)))::[]) S=.ok (.pv (fz (rF p))) S):=λp hp=>by
  have e:=(Wa S (ha p hp).1 (ha p hp).2).1;refine⟨λz=>?_,λz=>?_⟩
  .rw[z]at e
   have e:eB [.pv (.str (tx p))] S=.exc "NoText" S:=e;simp! [aE,aR,aS,aG,aJ,aL,aM,aK,aF,aI,e]
  .rw[(rM z).2.1 S]at e
   generalize tx p=T,fz (rF p)=F at *;simp! [aE,aR,aS,aG,aJ,aL,aM,aK,aF,aI,e]
 unfold gZ aX;unfold sO
 by_cases hx:∃p∈Ps,rr p=none
 .have ec:=qP (S:=S) (tail:=[]) (λp=>PV.str (tx p)) (λp=>fz (rF p)) (λp=>rr p=none) "NoText" Ps none step hx
  generalize tx L=TL,(Ps.map λp=>PV.str (tx p))=SL,(cJ eB [] (aC (aA 0) aD))=ME1 at *;simp! [aE,aR,aS,aG,aJ,aL,aM,aK,aF,aI,fD,bT,bK,cC,cH,es,bX,ec]
 .have hl:¬(Ps.length=2\/Ps.length=3):=h.resolve_left hx
  have ec:=oP (S:=S) (me:=cJ eB [] (aC (aA 0) aD)) (tail:=[]) (λp=>PV.str (tx p)) (λp=>fz (rF p)) Ps none λp hp=>(step p hp).2 λz=>hx ⟨p,hp,z⟩;have ln:((Ps.map λp=>fz (rF p)).length:Int)=(Ps.length:Int):=by rw[ar]
  have l2:((Ps.length:Int)==2)=false:=by
   have:¬(Ps.length:Int)=2:=λz=>hl (.inl (by omega));simpa using this
  have l3:((Ps.length:Int)==3)=false:=by
   have:¬(Ps.length:Int)=3:=λz=>hl (.inr (by omega));simpa using this
  generalize tx L=TL,(Ps.length:Int)=N,(Ps.map λp=>fz (rF p))=FL,(Ps.map λp=>PV.str (tx p))=SL,(cJ eB [] (aC (aA 0) aD))=ME1 at *;simp! [aE,aR,aS,aG,aJ,aL,aM,aK,aF,aI,fD,bT,bK,cC,cH,es,bX,ec,ln,l2,l3,rf]
theorem Lx{Ps:List (List Nat)}:((∃p∈Ps,rr p=none)->(Ps.map λp=>match mX (rr p)with |.pv v=>v |.ref _=>PV.non).any fZ=true)/\((∀p∈Ps,rr p≠none)->(Ps.map λp=>match mX (rr p)with |.pv v=>v |.ref _=>PV.non)=Ps.map λp=>fz (rF p)):=by
 refine⟨λ⟨p,hp,h⟩=>xy.mpr ⟨_,da.mpr ⟨p,hp,rfl⟩,?_⟩,λh=>im λp hp=>?_⟩
 .rw[h]
  rfl
 .rw[(rM (h p hp)).2.2]
theorem Bm(S:aN){L:List Nat}{Ps:List (List Nat)}(hs:dh (tx L) (tx [32])=Ps.map tx)(hL:L.length<=9000)(ha:∀p∈Ps,(∀c∈p,c<128)/\p.length<=9000):(((∃p∈Ps,rr p=none)\/¬(Ps.length=2\/Ps.length=3))->iH [.pv (.str (tx L))] S=.ok (.pv .non) S)/\((∀p∈Ps,rr p≠none)->(Ps.length=2\/Ps.length=3)->iH [.pv (.str (tx L))] S=.ok (.pv (tv (low (cT (Ps.map rF)++[cB (Ps.map rF)])))) S):=by
 have es:=xH hs hL;have ls:((Ps.map λp=>PV.str (tx p)).length:Int)=(Ps.length:Int):=by rw[ar]
 have ec:=jH (gF S) (me:=bA iG [] (aC (aA 0) aD)) (tail:=[]) (λp=>PV.str (tx p)) (λp=>match mX (rr p)with |.pv v=>v |.ref _=>PV.non) Ps none λp hp=>by
  have e:=(Wa S (ha p hp).1 (ha p hp).2).2;obtain⟨o,eo⟩:∃v,mX (rr p)=.pv v:=by
   cases rr p with
   |none=>exact⟨_,rfl⟩
   |some u=>exact⟨_,rfl⟩
  rw[eo]at e⊢;generalize tx p=T at *;simp! [aE,aR,aS,aG,aJ,aL,aM,aK,aF,aI,e]
 obtain⟨a1,a2⟩:=Lx (Ps:=Ps);refine⟨λh=>?_,λh hl=>?_⟩
 .unfold iH aX
  unfold sS
  by_cases hl:Ps.length=2\/Ps.length=3
  .have hx:=h.resolve_right λz=>z hl
   have a1:=a1 hx;generalize tx L=TL,(Ps.map λp=>PV.str (tx p))=SL,(Ps.map λp=>match mX (rr p)with |.pv v=>v |.ref _=>PV.non)=NLs,(bA iG [] (aC (aA 0) aD))=ME1 at*
   rcases hl with hl |hl
   .rw[hl]at ls
    simp! [aE,aR,aS,aG,aJ,aL,aM,aK,aF,aI,cC,cH,es,ls,bI,bT,bK,bX,ec,fL,a1]
   .rw[hl]at ls
    simp! [aE,aR,aS,aG,aJ,aL,aM,aK,aF,aI,cC,cH,es,ls,bI,bT,bK,bX,ec,fL,a1]
  .have l2:((Ps.length:Int)==2)=false:=by
    have:¬(Ps.length:Int)=2:=λz=>hl (.inl (by omega));simpa using this
   have l3:((Ps.length:Int)==3)=false:=by
    have:¬(Ps.length:Int)=3:=λz=>hl (.inr (by omega));simpa using this
   generalize tx L=TL,(Ps.length:Int)=N,(Ps.map λp=>PV.str (tx p))=SL at *;simp! [aE,aR,aS,aG,aJ,aL,aM,aK,aF,aI,cC,cH,es,ls,l2,l3]
 .rw[a2 h]at ec
  have an:(Ps.map λp=>fz (rF p)).any fZ=false:=by
   rw[List.any_map];exact oi.mpr λp hp=>by simp[fZ]
  have fzs:∀u∈Ps.map rF,Fz u:=λu hu=>by
   obtain⟨p,hp,rfl⟩:=da.mp hu;exact(rM (h p hp)).1
  have em:(Ps.map λp=>fz (rF p))=(Ps.map rF).map fz:=by rw[du];rfl
  rw[em]at ec an;have hl2:(Ps.map rF).length=2\/(Ps.map rF).length=3:=by rw[ar];exact hl
  obtain⟨p0,pb,pl,px⟩:=Sa hl2 fzs;have ew:=qR (cT (Ps.map rF)++[cB (Ps.map rF)]) S (λx hx=>by
   rcases cm.mp hx with z |z
   .exact(px x z).mono (by decide)
   .have:x=cB (Ps.map rF):=by simpa using z
    rw[this];exact pb.mono (by decide))
  have ls2:(((Ps.map λp=>PV.str (tx p)).length:Int)==2)=true\/((((Ps.map λp=>PV.str (tx p)).length:Int)==2)=false/\(((Ps.map λp=>PV.str (tx p)).length:Int)==3)=true):=by
   rw[ls];rcases hl with h |h<;>rw[h]
   .exact .inl rfl
   .exact .inr ⟨rfl,rfl⟩
  generalize Ps.map rF=ab at *;unfold iH aX;unfold sS
  match ab,hl2,fzs,ew with
  |[u,v],_,h,ep=>
   have hu:=h u (by simp);have hv:=h v (by simp);obtain⟨a,b⟩:=u;obtain⟨c,d⟩:=v;have m1:bC (.int 1) (.int b)=some (.int b):=by rw[iM (.inl (.inl ⟨by decide,by decide⟩)),io]
   have m2:bC (.int b) (.int d)=some (.int (b*d)):=dL hu.b2 hv.b2;have q1:eC (.int (b*d)) (.int b)=some (.int d):=by rw[ow];exact kN hu.pos (hu.b2.mono (by decide))
   have q2:eC (.int (b*d)) (.int d)=some (.int b):=kN hv.pos (hv.b2.mono (by decide));have m3:bC (.int a) (.int d)=some (.int (a*d)):=dL hu.b1 hv.b2;have m4:bC (.int c) (.int b)=some (.int (c*b)):=dL hv.b1 hu.b2;have ep:gD [.pv (.lst [.int (a*d),.int (c*b),.int (b*d)])] S=.ok (.pv (tv (low ([a*d,c*b]++[b*d])))) S:=ep;show _=bO.ok (AV.pv (tv (low ([a*d,c*b]++[b*d])))) S;have ec:cG [] (gN 0) (bA iG [] (aC (aA 0) aD)) (Ps.map λp=>PV.str (tx p)) [none] S=.ok [.tup [.int a,.int b],.tup [.int c,.int d]] S:=ec;generalize hme:(bA iG [] (aC (aA 0) aD))=ME1 at *;generalize tx L=TL,(Ps.map λp=>PV.str (tx p))=SL,tv (low ([a*d,c*b]++[b*d]))=R at *;rcases ls2 with l |⟨l,l'⟩
   .simp! [aE,aR,aS,aG,aJ,aL,aM,aK,aF,aI,cC,cH,es,l,bI,bT,bK,bX,ec,fL,fZ,dB,fV,hJ,eQ,eH,gN,m1,m2,q1,q2,m3,m4,ep]
   .simp! [aE,aR,aS,aG,aJ,aL,aM,aK,aF,aI,cC,cH,es,l,l',bI,bT,bK,bX,ec,fL,fZ,dB,fV,hJ,eQ,eH,gN,m1,m2,q1,q2,m3,m4,ep]
  |[u,v,t],_,h,ep=>
   have hu:=h u (by simp);have hv:=h v (by simp);have ht:=h t (by simp);obtain⟨a,b⟩:=u;obtain⟨c,d⟩:=v;obtain⟨e,f⟩:=t;have m1:bC (.int 1) (.int b)=some (.int b):=by rw[iM (.inl (.inl ⟨by decide,by decide⟩)),io]
   have m2:bC (.int b) (.int d)=some (.int (b*d)):=dL hu.b2 hv.b2;have m2':bC (.int (b*d)) (.int f)=some (.int (b*d*f)):=dL (hu.b2.mul hv.b2) ht.b2;have q1:eC (.int (b*d*f)) (.int b)=some (.int (d*f)):=by
    rw[show b*d*f=d*f*b by grind];exact kN hu.pos (hu.b2.mono (by decide))
   have q2:eC (.int (b*d*f)) (.int d)=some (.int (b*f)):=by
    rw[show b*d*f=b*f*d by grind];exact kN hv.pos (hv.b2.mono (by decide))
   have q3:eC (.int (b*d*f)) (.int f)=some (.int (b*d)):=kN ht.pos (ht.b2.mono (by decide));have m3:bC (.int a) (.int (d*f))=some (.int (a*(d*f))):=dL hu.b1 (hv.b2.mul ht.b2);have m4:bC (.int c) (.int (b*f))=some (.int (c*(b*f))):=dL hv.b1 (hu.b2.mul ht.b2);have m5:bC (.int e) (.int (b*d))=some (.int (e*(b*d))):=dL ht.b1 (hu.b2.mul hv.b2);have ep:gD [.pv (.lst [.int (a*(d*f)),.int (c*(b*f)),.int (e*(b*d)),.int (b*d*f)])] S=.ok (.pv (tv (low ([a*(d*f),c*(b*f),e*(b*d)]++[b*d*f])))) S:=ep;show _=bO.ok (AV.pv (tv (low ([a*(d*f),c*(b*f),e*(b*d)]++[b*d*f])))) S;have ec:cG [] (gN 0) (bA iG [] (aC (aA 0) aD)) (Ps.map λp=>PV.str (tx p)) [none] S=.ok [.tup [.int a,.int b],.tup [.int c,.int d],.tup [.int e,.int f]] S:=ec;generalize tx L=TL,(Ps.map λp=>PV.str (tx p))=SL,tv (low ([a*(d*f),c*(b*f),e*(b*d)]++[b*d*f]))=R,(bA iG [] (aC (aA 0) aD))=ME1 at *;rcases ls2 with l |⟨l,l'⟩
   .simp! [aE,aR,aS,aG,aJ,aL,aM,aK,aF,aI,cC,cH,es,l,bI,bT,bK,bX,ec,fL,fZ,dB,fV,hJ,eQ,eH,gN,m1,m2,m2',q1,q2,q3,m3,m4,m5,ep]
   .simp! [aE,aR,aS,aG,aJ,aL,aM,aK,aF,aI,cC,cH,es,l,l',bI,bT,bK,bX,ec,fL,fZ,dB,fV,hJ,eQ,eH,gN,m1,m2,m2',q1,q2,q3,m3,m4,m5,ep]
theorem aav{m:Int}(h0:0<=m)(h:m<4096):Bd 8000 m:=Bd.of (n:=4095) (by omega) (br (show 4095<2^12 by decide) (ot (by decide) (by decide)))
theorem aaM{m:Int}(h0:0<=m)(h:m<16384):Bd 8000 m:=Bd.of (n:=16383) (by omega) (br (show 16383<2^14 by decide) (ot (by decide) (by decide)))
theorem Ju{R:aN}{n:Nat}(hn:n<=4200)(ns:AE){T:Str}(h:fF n T):∃(U:Str)(ns':AE),qU [.ref 0,.pv (.str T)] (.lst (li ns)::R)=.ok (.pv (.str U)) (.lst (li ns')::R)/\fF (2*n+1) U:=by
 obtain⟨w,n1,e1,w0,w1⟩:=rV (R:=R) ns (m:=6) (by decide) (oA (by decide) (by decide));unfold qU aX yD
 by_cases hw:2<w
 .exact⟨T,n1,by simp! [aE,aR,aS,aG,aJ,aL,aM,aK,aF,aI,e1,hw],h.mono (by omega)⟩
 .obtain⟨el,hl⟩:=Uz h (by omega)
  obtain⟨k,n2,e2,k0,k1⟩:=rV (R:=R) n1 (m:=((T.length:Nat):Int)+1) (by omega) (aaM (by omega) (by omega));obtain⟨C,n3,e3,AC⟩:=Kr (R:=R) n2;obtain⟨j,rfl⟩:=uf k0;obtain⟨A,B,D,s1,s2,s3,AA,AB,AD⟩:=N3 (j:=j) h (by omega) (by omega);obtain⟨a1,A1⟩:=lC AA AC (by omega);obtain⟨a2,A2⟩:=lC A1 AB (by omega);obtain⟨a3,A3⟩:=lC AA AD (by omega);obtain⟨a4,A4⟩:=lC A1 AD (by omega);generalize (j:Int)=J,((T.length:Nat):Int)=TN at*
  by_cases h0:w=0
  .subst h0
   exact⟨_,n3,by simp! [aE,aR,aS,aG,aJ,aL,aM,aK,aF,aI,e1,el,e2,e3,dM,bR,bQ,cW,s1,s2,a1,a2],A2.mono (by omega)⟩
  .have h0:(w==0)=false:=by simpa using h0
   by_cases h1:w=1
   .subst h1
    exact⟨_,n3,by simp! [aE,aR,aS,aG,aJ,aL,aM,aK,aF,aI,e1,el,e2,e3,dM,bR,bQ,cW,s1,s3,a3],A3.mono (by omega)⟩
   .have h1:(w==1)=false:=by simpa using h1
    exact⟨_,n3,by simp! [aE,aR,aS,aG,aJ,aL,aM,aK,aF,aI,e1,hw,h0,h1,el,e2,e3,dM,bR,bQ,cW,s1,s3,a1,a4],A4.mono (by omega)⟩
def jn(s:List Nat):List (List Nat)->List Nat
 |[]=>[]
 |[p]=>p
 |p::q::r=>p++(s++jn s (q::r))
theorem zH(s:List Nat):∀P:List (List Nat),uc (tx s) (P.map tx)=tx (jn s P)
 |[]=>rfl
 |[p]=>rfl
 |p::q::r=>by
  show tx p++tx s++uc (tx s) ((q::r).map tx)=tx (p++(s++jn s (q::r)));rw[zH s (q::r),rL,rL,kw]
theorem Tk{s:List Nat}{Ls:List (List Nat)}{B:Nat}(hs:s.length<=9)(hB:∀l∈Ls,l.length<=B)(hn:Ls.length<=200)(hb:B<=20000):lJ (tx s) [.lst (Ls.map λl=>.str (tx l))]=some (.str (tx (jn s Ls))):=by
 have ok:jp (tx s) (Ls.map tx)=true:=by
  unfold jp;rw[k9 (B:=B) (λy hy=>by
   obtain⟨l,hl,rfl⟩:=da.mp hy;rw[dS];exact hB l hl) (by
   rw[ar,dS];have h1:Ls.length*B<=200*20000:=sw hn hb;have h2:Ls.length*s.length<=200*9:=sw hn hs;show Ls.length*B+Ls.length*s.length<=16777216;omega)]
  rfl
 show(match kL (Ls.map λl=>PV.str (tx l))with |some ts=>if jp (tx s) ts=true then some (PV.str (lr (tx s) ts))else none |none=>none)=_
 rw[xN];dsimp only;rw[if_pos ok];have:lr (tx s) (Ls.map tx)=tx (jn s Ls):=by
  show l4 (tx s) (Ls.map tx)=_;rw[l5,zH]
 rw[this]
theorem Yi:(", ":Str)=tx [44,32]:=by kernel_rfl
theorem Fm:(" + ":Str)=tx [32,43,32]:=by kernel_rfl
theorem R1:("none":Str)=tx [110,111,110,101]:=by kernel_rfl
theorem Bi(c:Nat):∀P:List (List Nat),dI c P=jn [c] P
 |[]=>rfl
 |[p]=>rfl
 |p::q::r=>by
  show p++c::dI c (q::r)=p++([c]++jn [c] (q::r));rw[Bi c (q::r)];rfl
theorem aai(L:AM){a:Nat}(h:a<=L.length):fT (.lst L) none (some (a:Int))=some (.lst (L.take a)):=by
 unfold fT;dsimp only;unfold iD;rw[HT.sIx_nat];show some (PV.lst ((L.drop 0).take (_-0)))=_;simp
theorem sq{a b:MS}{ρ ρ':bS}{S S':aN}{r:cS}(h:a ρ S=.nx ρ' S')(g:b ρ' S'=r):aO a b ρ S=r:=by
 rw[aO,h];exact g
theorem pM{np n:Nat}{b:MS}{xs:AQ}{S S':aN}{v:AV}{r:bO AV}(hl:xs.length=np)(h:b (hZ n xs) S=.rt v S')(hc:iS S.length v S'=r):aX np n b xs S=r:=by
 unfold aX;rw[if_pos hl,h];exact hc
theorem Sh{α:Type}:∀{L:List α}{i:Nat}{x:α},L[i]?=some x->L.Perm (x::L.eraseIdx i)
 |a::L,0,x,h=>by
  simp at h;subst h;exact List.Perm.refl _
 |a::L,i+1,x,h=>((Sh (L:=L) (i:=i) (by simpa using h)).cons a).trans (List.Perm.swap x a _)
theorem Ho(L:AM){a:Nat}(h:a<=L.length):fT (.lst L) (some (a:Int)) none=some (.lst (L.drop a)):=by
 unfold fT;dsimp only;unfold iD;rw[HT.sIx_nat];show some (PV.lst ((L.drop (min a L.length)).take (L.length-min a L.length)))=_;rw[Nat.min_eq_left h,td (by rw[jk];omega)]
theorem tkl{ns:AE}{L:AM}{T:aN}{k:Nat}(hl:L.length+k<=1000)(h0:0<L.length+k):∃(a:Nat)(n1:AE),dG [.ref 0,.pv (.int ((L.length+k:Nat):Int))] (.lst (li ns)::T)=.ok (.pv (.int (a:Int))) (.lst (li n1)::T)/\a<L.length+k:=by
 obtain⟨a,n1,e,a0,a1,_⟩:=rD (m:=((L.length+k:Nat):Int)) (show iV (.lst (li ns)::T) 0 ns from rfl) (by omega) (oA (by omega) (by omega));exact⟨a.toNat,n1,by rw[show((a.toNat:Nat):Int)=a by omega];exact e,by omega⟩
theorem Am(L s:List Nat):∃P:List (List Nat),dh (tx L) (tx s)=P.map tx/\jn s P=L/\P≠[]:=by
 have e0:(tx∘λx:Str=>x.cps.toList)=id:=by
  funext x
  exact rC x
 refine⟨(dh (tx L) (tx s)).map λx=>x.cps.toList,?_,?_,?_⟩
 .rw[du,e0,jy]
 .apply Da
  rw[<-zH,du,e0,jy];exact j9 (tx L) (tx s)
 .intro z
  have:=k7 (tx L) (tx s);rw[ud.mp z]at this;exact absurd this (by decide)
theorem El{s:List Nat}:∀{P:List (List Nat)}{p:List Nat},p∈P->(∀c∈p,c∈jn s P)/\p.length<=(jn s P).length
 |[q],p,h=>by
  have:p=q:=by simpa using h
  subst this;exact⟨λc hc=>hc,am _⟩
 |q::r::P,p,h=>by
  show(∀c∈p,c∈q++(s++jn s (r::P)))/\p.length<=(q++(s++jn s (r::P))).length;rcases cu.mp h with rfl |h
  .exact⟨λc hc=>jr _ hc,by simp⟩
  .obtain⟨a,b⟩:=El (s:=s) h
   exact⟨λc hc=>cq _ (cq _ (a c hc)),by simp;omega⟩
def fQ(n:Nat)(L:List Nat):Prop:=(∀c∈L,c<128)/\L.length<=n
theorem fQ.part{n:Nat}{L s:List Nat}{P:List (List Nat)}(h:fQ n L)(e:jn s P=L):∀p∈P,fQ n p:=λp hp=>by
 obtain⟨a,b⟩:=El (s:=s) hp;rw[e]at a b;exact⟨λc hc=>h.1 c (a c hc),by have:=h.2;omega⟩
theorem Gi{L s:List Nat}{P:List (List Nat)}(hs:dh (tx L) (tx s)=P.map tx)(hL:L.length<=9000)(h0:s≠[]):fI (tx L) [.str (tx s)]=some (.lst (P.map λp=>.str (tx p))):=by
 show(if(tx s).length≠0/\(tx L).length+2<=16777216 then some (PV.lst ((dh (tx L) (tx s)).map .str))else none)=_;rw[if_pos ⟨by rw[dS];exact λz=>h0 (j4.mp z),by rw[dS];omega⟩,hs,du];rfl
theorem V8{L:List Nat}(h:fQ 9000 L):(∀S,gZ [.pv (.str (tx L))] S=.exc "NoText" S/\iH [.pv (.str (tx L))] S=.ok (.pv .non) S)\/∃us n,(n=2\/n=3)/\Gu n 1000 us/\∀S,gZ [.pv (.str (tx L))] S=.ok (.pv (tv us)) S/\iH [.pv (.str (tx L))] S=.ok (.pv (tv us)) S:=by
 obtain⟨a,b⟩:=h;obtain⟨Q,es,hf,hi,hne⟩:=Wl L 32;have ha:∀p∈Q,(∀c∈p,c<128)/\p.length<=9000:=λp hp=>⟨λc hc=>a c (by rw[<-hi];exact sZ hp c hc),by have z:=sY (c:=32) hp;rw[hi]at z;omega⟩
 by_cases h:(∃p∈Q,rr p=none)\/¬(Q.length=2\/Q.length=3)
 .exact .inl λS=>⟨Yr S es (by omega) ha h,(Bm S es (by omega) ha).1 h⟩
 .have h1:∀p∈Q,rr p≠none:=λp hp z=>h (.inl ⟨p,hp,z⟩)
  have h2:Q.length=2\/Q.length=3:=l6 λz=>h (.inr z);have fz:∀u∈Q.map rF,Fz u:=λu hu=>by
   obtain⟨p,hp,rfl⟩:=da.mp hu;exact(rM (h1 p hp)).1
  obtain⟨c1,c2,c3,c4⟩:=Sa (ab:=Q.map rF) (by rw[ar];exact h2) fz;rw[ar]at c3;obtain⟨zs,z,e,P,_⟩:=uV (n:=Q.length) c1 c3 c4 c2;refine .inr ⟨low (cT (Q.map rF)++[cB (Q.map rF)]),Q.length,h2,⟨zs,z,e,P⟩,λS=>⟨Lr S es (by omega) h2 λp hp=>?_,(Bm S es (by omega) ha).2 h1 h2⟩⟩;obtain⟨c,d,_⟩:=rM (h1 p hp);refine⟨c,?_⟩;rw[(Wa S (ha p hp).1 (ha p hp).2).1,d S]
theorem Co{α β:Type}{L:List α}{B:α->Prop}{G:α->β->Prop}[Inhabited β](h:∀x∈L,B x\/∃y,G x y):∃(f:α->β)(bad:α->Prop),∀x∈L,(bad x->B x)/\(¬bad x->G x (f x)):=by
 classical
 refine⟨λx=>if c:∃y,G x y then c.choose else default,λx=>¬∃y,G x y,λx hx=>⟨λz=>(h x hx).resolve_right z,λz=>?_⟩⟩;have c:∃y,G x y:=l6 z;simp only[dif_pos c];exact c.choose_spec
theorem tW{α:Type}(g:α->Bool):∀L:List α,eM [.lst (L.map λx=>.bl (g x))]=some (.bl (L.all g)):=λL=>by
 have e:iQ (L.map λx=>PV.bl (g x))=some (L.map g):=by
  induction L with
  |nil=>rfl
  |cons v L ih=>
   show(match iQ (L.map λx=>PV.bl (g x))with |some bs=>some (g v::bs) |none=>none)=_
   rw[ih];rfl
 simp only[eM,e,pr];simp
theorem U6{L:List Nat}(h:fQ 9000 L):(∀S,gO [.pv (.str (tx L))] S=.exc "NoText" S/\iF [.pv (.str (tx L))] S=.ok (.pv .non) S)\/∃(us:AF)(n:Nat),(n=2\/n=3)/\us.length=n+1/\(∀u∈us,Gu n 1000 u)/\∀S,gO [.pv (.str (tx L))] S=.ok (.pv (.lst (us.map tv))) S/\iF [.pv (.str (tx L))] S=.ok (.pv (.lst (us.map tv))) S:=by
 obtain⟨Q,es,hi,hne⟩:=Am L [44,32];have hq:=h.part hi;have ef:=Gi es h.2 (by decide);rw[<-Yi]at ef;obtain⟨f,bad,hf⟩:=Co (L:=Q) (β:=AE) (λp hp=>V8 (hq p hp));have st:∀S,∀p∈Q,(bad p->(cJ gZ [] (aC (aA 0) aD)) [some (.pv (.str (tx p)))] S=.exc "NoText" S)/\(¬bad p->(cJ gZ [] (aC (aA 0) aD)) [some (.pv (.str (tx p)))] S=.ok (.pv (tv (f p))) S):=λS p hp=>by
  refine⟨λz=>?_,λz=>?_⟩
  .have e:=((hf p hp).1 z S).1
   simp! [aE,aR,aS,aG,aJ,aL,aM,aK,aF,aI,e]
  .obtain⟨n,_,_,e⟩:=(hf p hp).2 z
   have e:=(e S).1;generalize tx p=T,tv (f p)=F at *;simp! [aE,aR,aS,aG,aJ,aL,aM,aK,aF,aI,e]
 by_cases hx:∃p∈Q,bad p
 .left
  intro S;constructor
  .have ec:=qP (S:=S) (tail:=[]) (λp=>PV.str (tx p)) (λp=>tv (f p)) bad "NoText" Q none (st S) hx
   unfold gO aX qK;generalize tx L=TL,(Q.map λp=>PV.str (tx p))=SL,(cJ gZ [] (aC (aA 0) aD))=ME1 at *;simp! [aE,aR,aS,aG,aJ,aL,aM,aK,aF,aI,fD,bT,bK,cC,cH,ef,bX,ec]
  .have ec:=jH (gF S) (me:=bA iH [] (aC (aA 0) aD)) (tail:=[]) (λp=>PV.str (tx p)) (λp=>@ite _ (bad p) (kd _) PV.non (tv (f p))) Q none λp hp=>by
    by_cases z:bad p
    .rw[if_pos z]
     have e:=((hf p hp).1 z S).2;simp! [aE,aR,aS,aG,aJ,aL,aM,aK,aF,aI,e]
    .rw[if_neg z]
     obtain⟨n,_,_,e⟩:=(hf p hp).2 z;have e:=(e S).2;generalize tx p=T,tv (f p)=F at *;simp! [aE,aR,aS,aG,aJ,aL,aM,aK,aF,aI,e]
   have a1:(Q.map λp=>@ite _ (bad p) (kd _) PV.non (tv (f p))).any fZ=true:=by
    obtain⟨p,hp,z⟩:=hx;refine xy.mpr ⟨_,da.mpr ⟨p,hp,rfl⟩,?_⟩;rw[if_pos z];rfl
   unfold iF aX qM;generalize tx L=TL,(Q.map λp=>PV.str (tx p))=SL,(Q.map λp=>@ite _ (bad p) (kd _) PV.non (tv (f p)))=NL,(bA iH [] (aC (aA 0) aD))=ME1 at *;simp! [aE,aR,aS,aG,aJ,aL,aM,aK,aF,aI,bI,bT,bK,cC,cH,ef,bX,ec,fL,a1]
 .have hg:∀p∈Q,∃n,(n=2\/n=3)/\Gu n 1000 (f p)/\∀S,gZ [.pv (.str (tx p))] S=.ok (.pv (tv (f p))) S/\iH [.pv (.str (tx p))] S=.ok (.pv (tv (f p))) S:=λp hp=>(hf p hp).2 λz=>hx ⟨p,hp,z⟩
  have ec:∀S,eL [] (gN 0) (cJ gZ [] (aC (aA 0) aD)) (Q.map λp=>PV.str (tx p)) [none] S=.ok (Q.map λp=>tv (f p)) S:=λS=>oP (S:=S) (tail:=[]) (λp=>PV.str (tx p)) (λp=>tv (f p)) Q none λp hp=>(st S p hp).2 λz=>hx ⟨p,hp,z⟩;have ed:∀S,cG [] (gN 0) (bA iH [] (aC (aA 0) aD)) (Q.map λp=>PV.str (tx p)) [none] S=.ok (Q.map λp=>tv (f p)) S:=λS=>jH (gF S) (tail:=[]) (λp=>PV.str (tx p)) (λp=>tv (f p)) Q none λp hp=>by
   obtain⟨n,_,_,e⟩:=hg p hp;have e:=(e S).2;generalize tx p=T,tv (f p)=F at *;simp! [aE,aR,aS,aG,aJ,aL,aM,aK,aF,aI,e]
  have em:(Q.map λp=>tv (f p))=(Q.map f).map tv:=by rw[du];rfl
  rw[em]at ec ed;have an:((Q.map f).map tv).any fZ=false:=by
   rw[oi];intro x hx;obtain⟨u,_,rfl⟩:=da.mp hx;simp[fZ]
  have hl3:∀u∈Q.map f,u.length=3\/u.length=4:=λu hu=>by
   obtain⟨p,hp,rfl⟩:=da.mp hu;obtain⟨n,hn,g,_⟩:=hg p hp;obtain⟨xs,w,e,P⟩:=g;rw[e,bn,P.len];simp;omega
  have gg:∀u∈Q.map f,∃n,(n=2\/n=3)/\Gu n 1000 u:=λu hu=>by
   obtain⟨p,hp,rfl⟩:=da.mp hu;obtain⟨n,hn,g,_⟩:=hg p hp;exact⟨n,hn,g⟩
  have ne:Q.map f≠[]:=λz=>hne (ud.mp z);generalize Q.map f=us at *;have ev:∀S,cG [] (gN 0) (aB bJ (mR bM (aC (aA 0) aD)) (mR bM (aC (aA 1) aD))) (us.map tv) [none,some (.pv (.lst (us.map tv)))] S=.ok (us.map λu=>.bl (u.length==us.length)) S:=λS=>jH (gF S) tv (λu=>.bl (u.length==us.length)) us none λu hu=>by
   have l1:(us.map tv).length=us.length:=ar ..;have q:(((u.map PV.int).length:Int)==((us.map tv).length:Int))=(u.length==us.length):=by
    rw[ar,l1,qu];simp;omega
   have ht:tv u=.tup (u.map .int):=rfl;rw[ht,<-q];generalize u.map PV.int=IL,us.map tv=UL at *;simp! [aE,aR,aS,aG,aJ,aL,aM,aK,aF,aI]
  have ea:=tW (λu:AE=>u.length==us.length) us;cases b:us.all λu=>u.length==us.length with
  |false=>
   left;intro S;rw[b]at ea;have rf:=iJ S false;have c34:∃c:Bool,((((us.map tv).length:Int)==3)=c):=⟨_,rfl⟩;constructor
   .have ec:=ec S
    have ev:=ev S;unfold gO aX qK;generalize tx L=TL,us.map tv=UL,(Q.map λp=>PV.str (tx p))=SL,(aB bJ (mR bM (aC (aA 0) aD)) (mR bM (aC (aA 1) aD)))=ME2,(cJ gZ [] (aC (aA 0) aD))=ME1,(us.map λu=>PV.bl (u.length==us.length))=BL at *;simp! [aE,aR,aS,aG,aJ,aL,aM,aK,aF,aI,fD,bI,bT,bK,cC,cH,ef,bX,ec,ev,ea,rf]
   .have ed:=ed S
    have ev:=ev S;unfold iF aX qM;generalize tx L=TL,us.map tv=UL,(Q.map λp=>PV.str (tx p))=SL,(aB bJ (mR bM (aC (aA 0) aD)) (mR bM (aC (aA 1) aD)))=ME2,(bA iH [] (aC (aA 0) aD))=ME1,(us.map λu=>PV.bl (u.length==us.length))=BL at *;cases c3:((UL.length:Int)==3)<;>cases c4:((UL.length:Int)==4)<;>simp! [aE,aR,aS,aG,aJ,aL,aM,aK,aF,aI,bI,bT,bK,cC,cH,ef,bX,ed,ev,ea,fL,an,c3,c4]
  |true=>
   right;rw[b]at ea;have al:∀u∈us,u.length=us.length:=λu hu=>by simpa using ib.mp b u hu
   obtain⟨u0,hu0⟩:=List.exists_mem_of_ne_nil us ne;have l34:us.length=3\/us.length=4:=by rw[<-al u0 hu0];exact hl3 u0 hu0
   refine⟨us,us.length-1,by omega,by omega,λu hu=>?_,λS=>?_⟩
   .obtain⟨n,hn,g⟩:=gg u hu
    have e:=al u hu;obtain⟨xs,w,rfl,P⟩:=g;have:us.length-1=n:=by
     rw[bn,P.len]at e;simp at e;omega
    rw[this];exact⟨xs,w,rfl,P⟩
   .have rf:=iJ S true
    have ec:=ec S;have ed:=ed S;have ev:=ev S;have c34:((((us.map tv).length:Int)==3)=true)\/((((us.map tv).length:Int)==4)=true):=by
     rw[ar];rcases l34 with z |z
     .exact .inl (by simp[z])
     .exact .inr (by simp[z])
    clear al hl3 gg an;constructor
    .unfold gO aX qK
     generalize tx L=TL,us.map tv=UL,(Q.map λp=>PV.str (tx p))=SL,(aB bJ (mR bM (aC (aA 0) aD)) (mR bM (aC (aA 1) aD)))=ME2,(cJ gZ [] (aC (aA 0) aD))=ME1,(us.map λu=>PV.bl (u.length==us.length))=BL at *;simp! [aE,aR,aS,aG,aJ,aL,aM,aK,aF,aI,fD,bI,bT,bK,cC,cH,ef,bX,ec,ev,ea,rf]
    .have an:(us.map tv).any fZ=false:=by
      rw[oi];intro x hx;obtain⟨u,_,rfl⟩:=da.mp hx;simp[fZ]
     unfold iF aX qM;generalize tx L=TL,us.map tv=UL,(Q.map λp=>PV.str (tx p))=SL,(aB bJ (mR bM (aC (aA 0) aD)) (mR bM (aC (aA 1) aD)))=ME2,(bA iH [] (aC (aA 0) aD))=ME1,(us.map λu=>PV.bl (u.length==us.length))=BL at *;rcases c34 with c |c
     .cases c4:((UL.length:Int)==4)<;>simp! [aE,aR,aS,aG,aJ,aL,aM,aK,aF,aI,bI,bT,bK,cC,cH,ef,bX,ed,ev,ea,fL,an,c,c4]
     .cases c3:((UL.length:Int)==3)<;>simp! [aE,aR,aS,aG,aJ,aL,aM,aK,aF,aI,bI,bT,bK,cC,cH,ef,bX,ed,ev,ea,fL,an,c,c3]
abbrev vR(us:AF):PV:=.lst (us.map tv)
abbrev nW(n:Nat)(us:AF):Prop:=us.length=n+1/\∀u∈us,Gu n 1000 u
theorem Wu{n:Nat}(hn:n=2\/n=3)(S:aN){rows:AG}(h:∀us∈rows,nW n us):((∃us∈rows,dU us=0)->eL [] (gN 0) (cJ iK [] (aC (aA 0) aD)) (rows.map vR) [none] S=.exc "Flat" S)/\((∀us∈rows,dU us≠0)->eL [] (gN 0) (cJ iK [] (aC (aA 0) aD)) (rows.map vR) [none] S=.ok (rows.map λus=>px (cV us)) S):=by
 have st:∀us∈rows,(dU us=0->(cJ iK [] (aC (aA 0) aD)) [some (.pv (vR us))] S=.exc "Flat" S)/\(¬dU us=0->(cJ iK [] (aC (aA 0) aD)) [some (.pv (vR us))] S=.ok (.pv (px (cV us))) S):=λus hu=>by
  obtain⟨l,g⟩:=h us hu;have e0:=pA hn (am 1000) l g;refine⟨λz=>?_,λz=>?_⟩
  .have e:=Sr (A:=vR us) hn S l g (.inl rfl) (by rw[e0,z];rfl)
   generalize vR us=T at *;simp! [aE,aR,aS,aG,aJ,aL,aM,aK,aF,aI,e]
  .have e:=Cs (A:=vR us) hn S l g (.inl rfl) (by rw[e0];exact λy=>z (tZ.mp y))
   have e:iK [.pv (vR us)] S=.ok (.pv (px (cV us))) S:=e;generalize vR us=T,px (cV us)=R at *;simp! [aE,aR,aS,aG,aJ,aL,aM,aK,aF,aI,e]
 exact⟨λz=>qP (S:=S) (tail:=[]) vR (λus=>px (cV us)) (λus=>dU us=0) "Flat" rows none st z,λz=>oP (S:=S) (tail:=[]) vR (λus=>px (cV us)) rows none λus hu=>(st us hu).2 (z us hu)⟩
theorem W1{L:List Nat}(h:fQ 9000 L):(∀S,iI [.pv (.str (tx L))] S=.exc "NoText" S/\kZ [.pv (.str (tx L))] S=.ok (.pv .non) S)\/∃(rows:AG)(n:Nat),(n=2\/n=3)/\(∀us∈rows,nW n us)/\∀S,kZ [.pv (.str (tx L))] S=.ok (.pv (.lst (rows.map vR))) S/\((∃us∈rows,dU us=0)->iI [.pv (.str (tx L))] S=.exc "Flat" S)/\((∀us∈rows,dU us≠0)->iI [.pv (.str (tx L))] S=.ok (.pv (.tup (rows.map λus=>px (cV us)))) S):=by
 obtain⟨Q,es,hi,hne⟩:=Am L [32,43,32];have hq:=h.part hi;have ef:=Gi es h.2 (by decide);rw[<-Fm]at ef;have fin:∀{rows:AG}{n:Nat}(hn:n=2\/n=3)(hR:∀us∈rows,nW n us)(S:aN){RL:AM},nC [.pv (.str (tx L))] S=.ok (.pv (.lst RL)) S->eL [] (gN 0) (cJ gO [] (aC (aA 0) aD)) RL [none] S=.ok (rows.map vR) S->cG [] (gN 0) (aB bJ (mR bM (aC (aA 0) aD)) (mR bM (aC (aB aE (aA 1) (mC (.int 0))) aD))) (rows.map vR) [none,some (.pv (.lst (rows.map vR)))] S=.ok (rows.map λ_=>.bl true) S->((∃us∈rows,dU us=0)->iI [.pv (.str (tx L))] S=.exc "Flat" S)/\((∀us∈rows,dU us≠0)->iI [.pv (.str (tx L))] S=.ok (.pv (.tup (rows.map λus=>px (cV us)))) S):=λ{rows n} hn hR S {RL} e1 e2 e3=>by
  obtain⟨c1,c2⟩:=Wu hn S hR;have ea:eM [.lst (rows.map λ_=>PV.bl true)]=some (.bl true):=by
   have:=tW (λ_:AF=>true) rows;rw[this];simp
  have rf:=iJ S true;refine⟨λz=>?_,λz=>?_⟩
  .have c1:=c1 z
   unfold iI aX lZ;clear c2;generalize tx L=TL,rows.map vR=VL,(aB bJ (mR bM (aC (aA 0) aD)) (mR bM (aC (aB aE (aA 1) (mC (.int 0))) aD)))=ME2,(cJ iK [] (aC (aA 0) aD))=ME3,(cJ gO [] (aC (aA 0) aD))=ME1,(rows.map λ_=>PV.bl true)=BL at *;simp! [aE,aR,aS,aG,aJ,aL,aM,aK,aF,aI,fD,bI,bT,bK,bX,e1,e2,e3,ea,rf,c1]
  .have c2:=c2 z
   unfold iI aX lZ;clear c1;generalize tx L=TL,rows.map vR=VL,(aB bJ (mR bM (aC (aA 0) aD)) (mR bM (aC (aB aE (aA 1) (mC (.int 0))) aD)))=ME2,(cJ iK [] (aC (aA 0) aD))=ME3,(cJ gO [] (aC (aA 0) aD))=ME1,(rows.map λus=>px (cV us))=CL,(rows.map λ_=>PV.bl true)=BL at *;simp! [aE,aR,aS,aG,aJ,aL,aM,aK,aF,aI,fD,bI,bT,bK,bX,e1,e2,e3,ea,rf,c2]
 cases b0:(tx L==("none":Str))with
 |true=>
  right;refine⟨[],2,.inl rfl,λ_ h=>(nomatch h),λS=>⟨?_,?_⟩⟩
  .unfold kZ aX oN
   generalize tx L=TL at *;simp! [aE,aR,aS,aG,aJ,aL,aM,aK,aF,aI,b0]
  .have e1:nC [.pv (.str (tx L))] S=.ok (.pv (.lst [])) S:=by
    unfold nC aX sP;generalize tx L=TL at *;simp! [aE,aR,aS,aG,aJ,aL,aM,aK,aF,aI,b0]
   exact fin (rows:=[]) (.inl rfl) (λ_ h=>nomatch h) S e1 (by simp[Jf]) (by simp[eH])
 |false=>
 have e1:∀S,nC [.pv (.str (tx L))] S=.ok (.pv (.lst (Q.map λp=>PV.str (tx p)))) S:=λS=>by
  unfold nC aX sP;generalize tx L=TL,(Q.map λp=>PV.str (tx p))=SL at *;simp! [aE,aR,aS,aG,aJ,aL,aM,aK,aF,aI,b0,cC,cH,ef]
 obtain⟨f,bad,hf⟩:=Co (L:=Q) (β:=AF) (λp hp=>U6 (hq p hp));have st:∀S,∀p∈Q,(bad p->(cJ gO [] (aC (aA 0) aD)) [some (.pv (.str (tx p)))] S=.exc "NoText" S)/\(¬bad p->(cJ gO [] (aC (aA 0) aD)) [some (.pv (.str (tx p)))] S=.ok (.pv (vR (f p))) S):=λS p hp=>by
  refine⟨λz=>?_,λz=>?_⟩
  .have e:=((hf p hp).1 z S).1
   simp! [aE,aR,aS,aG,aJ,aL,aM,aK,aF,aI,e]
  .obtain⟨n,_,_,_,e⟩:=(hf p hp).2 z
   have e:=(e S).1;have e:gO [.pv (.str (tx p))] S=.ok (.pv (vR (f p))) S:=e;generalize tx p=T,vR (f p)=F at *;simp! [aE,aR,aS,aG,aJ,aL,aM,aK,aF,aI,e]
 by_cases hx:∃p∈Q,bad p
 .left
  intro S;constructor
  .have ec:=qP (S:=S) (tail:=[]) (λp=>PV.str (tx p)) (λp=>vR (f p)) bad "NoText" Q none (st S) hx
   have e1:=e1 S;unfold iI aX lZ;generalize tx L=TL,(Q.map λp=>PV.str (tx p))=SL,(cJ gO [] (aC (aA 0) aD))=ME1 at *;simp! [aE,aR,aS,aG,aJ,aL,aM,aK,aF,aI,fD,bT,bK,bX,e1,ec]
  .have ec:=jH (gF S) (me:=bA iF [] (aC (aA 0) aD)) (tail:=[]) (λp=>PV.str (tx p)) (λp=>@ite _ (bad p) (kd _) PV.non (vR (f p))) Q none λp hp=>by
    by_cases z:bad p
    .rw[if_pos z]
     have e:=((hf p hp).1 z S).2;simp! [aE,aR,aS,aG,aJ,aL,aM,aK,aF,aI,e]
    .rw[if_neg z]
     obtain⟨n,_,_,_,e⟩:=(hf p hp).2 z;have e:=(e S).2;have e:iF [.pv (.str (tx p))] S=.ok (.pv (vR (f p))) S:=e;generalize tx p=T,vR (f p)=F at *;simp! [aE,aR,aS,aG,aJ,aL,aM,aK,aF,aI,e]
   have a1:(Q.map λp=>@ite _ (bad p) (kd _) PV.non (vR (f p))).any fZ=true:=by
    obtain⟨p,hp,z⟩:=hx;refine xy.mpr ⟨_,da.mpr ⟨p,hp,rfl⟩,?_⟩;rw[if_pos z];rfl
   unfold kZ aX oN;generalize tx L=TL,(Q.map λp=>PV.str (tx p))=SL,(Q.map λp=>@ite _ (bad p) (kd _) PV.non (vR (f p)))=NL,(bA iF [] (aC (aA 0) aD))=ME1 at *;simp! [aE,aR,aS,aG,aJ,aL,aM,aK,aF,aI,b0,bI,bT,bK,cC,cH,ef,bX,ec,fL,a1]
 .have hg:=λp hp=>(hf p hp).2 λz=>hx ⟨p,hp,z⟩
  have ec:∀S,eL [] (gN 0) (cJ gO [] (aC (aA 0) aD)) (Q.map λp=>PV.str (tx p)) [none] S=.ok (Q.map λp=>vR (f p)) S:=λS=>oP (S:=S) (tail:=[]) (λp=>PV.str (tx p)) (λp=>vR (f p)) Q none λp hp=>(st S p hp).2 λz=>hx ⟨p,hp,z⟩;have ed:∀S,cG [] (gN 0) (bA iF [] (aC (aA 0) aD)) (Q.map λp=>PV.str (tx p)) [none] S=.ok (Q.map λp=>vR (f p)) S:=λS=>jH (gF S) (tail:=[]) (λp=>PV.str (tx p)) (λp=>vR (f p)) Q none λp hp=>by
   obtain⟨n,_,_,_,e⟩:=hg p hp;have e:=(e S).2;have e:iF [.pv (.str (tx p))] S=.ok (.pv (vR (f p))) S:=e;generalize tx p=T,vR (f p)=F at *;simp! [aE,aR,aS,aG,aJ,aL,aM,aK,aF,aI,e]
  have em:(Q.map λp=>vR (f p))=(Q.map f).map vR:=by rw[du];rfl
  rw[em]at ec ed;have gg:∀us∈Q.map f,∃n,(n=2\/n=3)/\nW n us:=λus hu=>by
   obtain⟨p,hp,rfl⟩:=da.mp hu;obtain⟨n,hn,l,g,_⟩:=hg p hp;exact⟨n,hn,l,g⟩
  have ne:Q.map f≠[]:=λz=>hne (ud.mp z);have an:((Q.map f).map vR).any fZ=false:=by
   rw[oi];intro x hx;obtain⟨u,_,rfl⟩:=da.mp hx;simp[fZ]
  generalize Q.map f=rows at *;obtain⟨u0,cY,rfl⟩:∃u0 cY,rows=u0::cY:=by
   cases rows with
   |nil=>exact absurd rfl ne
   |cons a r=>exact⟨a,r,rfl⟩
  have i0:aE (.lst ((u0::cY).map vR)) (.int 0)=some (vR u0):=oX (j:=0) rfl;have ev:∀S,cG [] (gN 0) (aB bJ (mR bM (aC (aA 0) aD)) (mR bM (aC (aB aE (aA 1) (mC (.int 0))) aD))) ((u0::cY).map vR) [none,some (.pv (.lst ((u0::cY).map vR)))] S=.ok ((u0::cY).map λus=>.bl (us.length==u0.length)) S:=λS=>jH (gF S) vR (λus=>.bl (us.length==u0.length)) (u0::cY) none λus hu=>by
   have q:(((us.map tv).length:Int)==((u0.map tv).length:Int))=(us.length==u0.length):=by
    rw[ar,ar,qu];simp;omega
   have ht:vR us=.lst (us.map tv):=rfl;have h0:vR u0=.lst (u0.map tv):=rfl;rw[h0]at i0;rw[ht,<-q];generalize u0.map tv=I0,us.map tv=IL,(u0::cY).map vR=UL at *;simp! [bW,aJ,aL,aM,aK,aF,aI,i0]
  have ea:=tW (λus:AF=>us.length==u0.length) (u0::cY);generalize (u0::cY)=rows at *;cases b:rows.all λus=>us.length==u0.length with
  |false=>
   left;intro S;rw[b]at ea;have rf:=iJ S false;constructor
   .have ec:=ec S
    have ev:=ev S;have e1:=e1 S;unfold iI aX lZ;generalize tx L=TL,rows.map vR=UL,(Q.map λp=>PV.str (tx p))=SL,(aB bJ (mR bM (aC (aA 0) aD)) (mR bM (aC (aB aE (aA 1) (mC (.int 0))) aD)))=ME2,(cJ gO [] (aC (aA 0) aD))=ME1,(rows.map λus=>PV.bl (us.length==u0.length))=BL at *;simp! [aE,aR,aS,aG,aJ,aL,aM,aK,aF,aI,fD,bI,bT,bK,bX,e1,ec,ev,ea,rf]
   .have ed:=ed S
    have ev:=ev S;unfold kZ aX oN;generalize tx L=TL,rows.map vR=UL,(Q.map λp=>PV.str (tx p))=SL,(aB bJ (mR bM (aC (aA 0) aD)) (mR bM (aC (aB aE (aA 1) (mC (.int 0))) aD)))=ME2,(bA iF [] (aC (aA 0) aD))=ME1,(rows.map λus=>PV.bl (us.length==u0.length))=BL at *;simp! [aE,aR,aS,aG,aJ,aL,aM,aK,aF,aI,b0,bI,bT,bK,cC,cH,ef,bX,ed,ev,ea,fL,an]
  |true=>
   right;rw[b]at ea;have al:∀us∈rows,us.length=u0.length:=λus hu=>by simpa using ib.mp b us hu
   have hR:∃n,(n=2\/n=3)/\∀us∈rows,nW n us:=by
    cases rows with
    |nil=>exact absurd rfl ne
    |cons v r=>
     obtain⟨n,hn,l,g⟩:=gg v bc;refine⟨n,hn,λus hu=>?_⟩;obtain⟨m,hm,l2,g2⟩:=gg us hu;have:=al us hu;have:=al v bc;have:m=n:=by omega
     rw[<-this];exact⟨l2,g2⟩
   obtain⟨n,hn,hR⟩:=hR;have et:(rows.map λus=>PV.bl (us.length==u0.length))=rows.map λ_=>.bl true:=im λus hu=>by rw[al us hu];simp
   refine⟨rows,n,hn,hR,λS=>⟨?_,?_⟩⟩
   .have ed:=ed S
    have ev:=ev S;clear et gg al hR;unfold kZ aX oN;generalize tx L=TL,rows.map vR=UL,(Q.map λp=>PV.str (tx p))=SL,(aB bJ (mR bM (aC (aA 0) aD)) (mR bM (aC (aB aE (aA 1) (mC (.int 0))) aD)))=ME2,(bA iF [] (aC (aA 0) aD))=ME1,(rows.map λus=>PV.bl (us.length==u0.length))=BL at *;simp! [aE,aR,aS,aG,aJ,aL,aM,aK,aF,aI,b0,bI,bT,bK,cC,cH,ef,bX,ed,ev,ea,fL,an]
   .exact fin hn hR S (e1 S) (ec S) (by rw[<-et];exact ev S)
theorem lW{R:aN}(ns:AE){m:Int}(hm:0<m)(h:m<4096):∃(v:Int)(ns':AE),dG [.ref 0,.pv (.int m)] (.lst (li ns)::R)=.ok (.pv (.int v)) (.lst (li ns')::R)/\0<=v/\v<m:=by
 obtain⟨v,n1,e,a,c,_⟩:=rD (S:=.lst (li ns)::R) (k:=0) (ns:=ns) (m:=m) rfl hm (aav (by omega) h);exact⟨v,n1,e,a,c⟩
theorem No{v:Int}(h0:0<=v)(h1:v<3):∃T,pN (.str "0") (.int v)=some (.str T)/\fF 2 T:=by
 have e:v=0\/v=1\/v=2:=by omega
 rcases e with rfl |rfl |rfl
 .exact⟨tx [],by kernel_rfl,[],rfl,by decide,by decide⟩
 .exact⟨tx [48],by kernel_rfl,[48],rfl,by decide,by decide⟩
 .exact⟨tx [48,48],by kernel_rfl,[48,48],rfl,by decide,by decide⟩
theorem Wm{v:Int}(h0:0<=v)(b:Bd 92 v):nT [.int v]=some (.str (tx (dg v.toNat)))/\fF 30 (tx (dg v.toNat)):=by
 have hv:v.natAbs<2^92:=b;have p:(2:Nat)^92<=10^29:=by decide
 have q:(10:Nat)^29<=10^30:=by decide
 have r:((10^30:Nat):Int)<=10^61:=by decide
 have h1:v<10^61:=by
  have:(v.natAbs:Int)<((10^30:Nat):Int):=by omega
  omega
 refine⟨(aab h0 h1).1,_,rfl,λ_ hc=>(O4 (M1 hc)).1,zW 29 v.toNat ?_⟩;have:v.toNat=v.natAbs:=by omega
 rw[this];omega
theorem Mv{R:aN}(ns:AE){t b:Int}(hb:0<b)(bt:Bd 90 t)(bb:Bd 90 b):∃(T:Str)(ns':AE),oR [.ref 0,.pv (.int t),.pv (.int b)] (.lst (li ns)::R)=.ok (.pv (.str T)) (.lst (li ns')::R)/\fF 66 T:=by
 obtain⟨ef,q0,b1,b2,_⟩:=Hn hb bb bt;have e0:=Rj t b (.lst (li ns)::R) (bt.mono (by decide)) (bb.mono (by decide));rw[ef]at e0;generalize pB b t=q,pT b t=p at *;have e0:lD [.pv (.int t),.pv (.int b)] (.lst (li ns)::R)=.ok (.pv (.tup [.int p,.int q])) (.lst (li ns)::R):=e0;obtain⟨m,n1,e1,m0,m1⟩:=lW (R:=R) ns (m:=3) (by decide) (by decide);obtain⟨z,n2,e2,z0,z1⟩:=lW (R:=R) n1 (m:=3) (by decide) (by decide);obtain⟨y,n3,e3,y0,y1⟩:=lW (R:=R) n2 (m:=3) (by decide) (by decide);obtain⟨x,n4,e4,x0,x1⟩:=lW (R:=R) n3 (m:=2) (by decide) (by decide);obtain⟨Z,r1,A1⟩:=No z0 z1;obtain⟨Y,r2,A2⟩:=No y0 y1;have bm:Bd 2 (1+m):=Bd.of (n:=3) (by omega) (by decide);have ba:Bd 90 (p.natAbs:Int):=by
  have:p.natAbs<2^90:=b1;show((p.natAbs:Int)).natAbs<2^90;rw[zi];exact this
 have k1:=dL ba bm;have k2:=dL b2 bm;obtain⟨s1,A3⟩:=Wm (v:=(p.natAbs:Int)*(1+m)) (l7 (by omega) (by omega)) (ba.mul bm);obtain⟨s2,A4⟩:=Wm (v:=q*(1+m)) (l7 (by omega) (by omega)) (b2.mul bm);generalize tx (dg (q*(1+m)).toNat)=Q1,tx (dg ((p.natAbs:Int)*(1+m)).toNat)=P1 at *;obtain⟨a1,B1⟩:=lC A1 A3 (by decide);obtain⟨a2,B2⟩:=lC A2 A4 (by decide);generalize Y++Q1=U0,Z++P1=W0 at *;obtain⟨W,hW,AW⟩:∃W:Str,(∀x5:AO,(bN (jD (aZ (aB fS (aA 1) (mC (.int 0)))) (gI (aZ (aB bJ (aA 1) (mC (.int 0)))) (aZ (aB bJ (aA 3) (mC (.int 3)))))) (aW 4 (aB iB (mC (.str "-")) (aA 4))) bP) [some (.ref 0),some (.pv (.int p)),some (.pv (.int q)),some (.pv (.int (1+m))),some (.pv (.str W0)),x5] (.lst (li n3)::R)=.nx [some (.ref 0),some (.pv (.int p)),some (.pv (.int q)),some (.pv (.int (1+m))),some (.pv (.str W)),x5] (.lst (li n3)::R))/\fF 33 W:=by
  obtain⟨c1,C1⟩:=lC Mf.2 B1 (by decide)
  by_cases g:p<0\/(p=0/\1+m=3)
  .refine⟨"-"++W0,λx5=>?_,C1⟩
   rcases g with g |⟨g1,g2⟩
   .simp! [-eJ,aE,aR,aS,aG,aJ,aL,aM,aK,aF,aI,g,c1]
   .subst g1
    rw[g2];simp! [-eJ,aE,aR,aS,aG,aJ,aL,aM,aK,aF,aI,c1]
  .refine⟨W0,λx5=>?_,B1.mono (by decide)⟩
   have g1:¬p<0:=λz=>g (.inl z)
   by_cases g2:p=0
   .have g3:(1+m==3)=false:=by
     have:¬1+m=3:=λz=>g (.inr ⟨g2,z⟩);simpa using this
    subst g2;simp! [-eJ,aE,aR,aS,aG,aJ,aL,aM,aK,aF,aI,g3]
   .have g3:(p==0)=false:=by simpa using g2
    simp! [-eJ,aE,aR,aS,aG,aJ,aL,aM,aK,aF,aI,g1,g3]
 obtain⟨c1,C1⟩:=lC AW Mf.1 (by decide);obtain⟨c2,C2⟩:=lC C1 B2 (by decide);have fab:eJ [.int p]=some (.int (p.natAbs:Int)):=by
  simp[eJ];split<;>omega
 by_cases g:q*(1+m)=1/\x=0
 .obtain⟨g1,rfl⟩:=g
  refine⟨W,n4,?_,AW.mono (by decide)⟩;rw[g1]at k2 s2;unfold oR tY;apply pM rfl;apply sq;simp! [-eJ,aE,aR,aS,aG,aJ,aL,aM,aK,aF,aI,rS,gT,dQ,fK,gN,e0];exact⟨rfl,rfl⟩;apply sq;simp! [-eJ,aE,aR,aS,aG,aJ,aL,aM,aK,aF,aI,e1];exact⟨rfl,rfl⟩;apply sq;simp! [-eJ,aE,aR,aS,aG,aJ,aL,aM,aK,aF,aI,e2,r1,fab,k1,s1,a1];exact⟨rfl,rfl⟩;apply sq;simp! [-eJ,aE,aR,aS,aG,aJ,aL,aM,aK,aF,aI,e3,r2,k2,s2,a2];exact⟨rfl,rfl⟩;refine sq (hW _) ?_;simp! [-eJ,aE,aR,aS,aG,aJ,aL,aM,aK,aF,aI,k2,e4];exact⟨rfl,rfl⟩;simp[iS]
 .obtain⟨n5,h5⟩:∃n5:AE,(bN (gI (aZ (aB bJ (aB bC (aA 2) (aA 3)) (mC (.int 1)))) (aZ (aB bJ (bA dG [] (aC (aA 0) (aC (mC (.int 2)) aD))) (mC (.int 0))))) (bG (aA 4)) bP) [some (.ref 0),some (.pv (.int p)),some (.pv (.int q)),some (.pv (.int (1+m))),some (.pv (.str W)),some (.pv (.str U0))] (.lst (li n3)::R)=.nx [some (.ref 0),some (.pv (.int p)),some (.pv (.int q)),some (.pv (.int (1+m))),some (.pv (.str W)),some (.pv (.str U0))] (.lst (li n5)::R):=by
   by_cases g1:q*(1+m)=1
   .have g2:(x==0)=false:=by
     have:¬x=0:=λz=>g ⟨g1,z⟩;simpa using this
    refine⟨n4,?_⟩;rw[g1]at k2;simp! [-eJ,aE,aR,aS,aG,aJ,aL,aM,aK,aF,aI,k2,e4,g2]
   .refine⟨n3,?_⟩
    have g2:(q*(1+m)==1)=false:=by simpa using g1
    simp! [-eJ,aE,aR,aS,aG,aJ,aL,aM,aK,aF,aI,k2,g2]
  refine⟨W++"/"++U0,n5,?_,C2⟩;unfold oR tY;apply pM rfl;apply sq;simp! [-eJ,aE,aR,aS,aG,aJ,aL,aM,aK,aF,aI,rS,gT,dQ,fK,gN,e0];exact⟨rfl,rfl⟩;apply sq;simp! [-eJ,aE,aR,aS,aG,aJ,aL,aM,aK,aF,aI,e1];exact⟨rfl,rfl⟩;apply sq;simp! [-eJ,aE,aR,aS,aG,aJ,aL,aM,aK,aF,aI,e2,r1,fab,k1,s1,a1];exact⟨rfl,rfl⟩;apply sq;simp! [-eJ,aE,aR,aS,aG,aJ,aL,aM,aK,aF,aI,e3,r2,k2,s2,a2];exact⟨rfl,rfl⟩;refine sq (hW _) (sq h5 ?_);simp! [-eJ,aE,aR,aS,aG,aJ,aL,aM,aK,aF,aI,c1,c2];exact⟨rfl,rfl⟩;simp[iS]
abbrev qG:MS:=(aW 2 (aB bC (aA 2) (aB aE (aA 3) (cD dA (mC (.int 1))))))
abbrev sK:ME:=(aB bC (aB bC (aA 0) (aB aE (aA 1) (aA 3))) (aB eC (aA 2) (aB aE (aA 1) (cD dA (mC (.int 1))))))
abbrev oF:MS:=(eI (fM (aA 4) (aC (mR jB (aC (bI ["_law_weight","_law_p"] [(2,"_law_under"),(5,"_law_k")] (kB (aC (aA 1) (aC (aA 0) aD))) (gT 2 (dQ (gN 0) (dQ (gN 1) fK))) sK) aD)) aD)))
theorem Fj{n k:Nat}(hk:k<=1000)(S:aN)(x0 x1 x4 x5:AO):∀(qs:AF)(U:Int)(b:Nat)(x3:AO),(∀q∈qs,Gu n k q)->0<U->Bd b U->b+qs.length*k<=9000->∃(U':Int)(y3:AO),dR [] (gN 3) qG (qs.map tv) [x0,x1,some (.pv (.int U)),x3,x4,x5] S=.nx [x0,x1,some (.pv (.int U')),y3,x4,x5] S/\0<U'/\Bd (b+qs.length*k) U'
 |[],U,b,x3,_,hU,bU,_=>⟨U,x3,hJ,hU,bU.mono (by simp)⟩
 |q::qs,U,b,x3,h,hU,bU,hb=>by
  obtain⟨w0,w1,w2,_⟩:=vF (h q bc);have hb:b+(qs.length+1)*k<=9000:=hb;have ec:(qs.length+1)*k=qs.length*k+k:=by rw[qp]
  have m:=dL bU w1 (by omega) (by omega);obtain⟨U',y3,e,u0,ub⟩:=Fj hk S x0 x1 x4 x5 qs (U*wq q) (b+k) (some (.pv (tv q))) (λv hv=>h v (bp _ hv)) (kg hU w0) (bU.mul w1) (by omega);refine⟨U',y3,?_,u0,ub.mono (by rw[bq];omega)⟩;rw[cv,fV];simp only[gN,ix,gf];have st:qG [x0,x1,some (.pv (.int U)),some (.pv (tv q)),x4,x5] S=.nx [x0,x1,some (.pv (.int (U*wq q))),some (.pv (tv q)),x4,x5] S:=by
   unfold qG;generalize wq q=w,tv q=T at *;simp! [bW,aJ,aL,aM,aK,aF,aI,w2,m]
  rw[st];exact e
theorem Sn:∀qs:AF,gH (bj qs.length (.int 1)) (qs.map tv)=qs.map λq=>PV.tup [.int 1,tv q]
 |[]=>rfl
 |q::qs=>by
  rw[bq,gw,cv,cv,<-Sn qs];rfl
theorem Uj{n k:Nat}(hk:k<=1000)(S:aN){U:Int}{b:Nat}(hU:0<U)(bU:Bd b U)(hb:b<=9000){j:Nat}(hj:j<n):∀(qs:AF)(x y:AO),(∀q∈qs,Gu n k q)->cG [] (gT 2 (dQ (gN 0) (dQ (gN 1) fK))) sK (qs.map λq=>PV.tup [.int 1,tv q]) [x,y,some (.pv (.int U)),some (.pv (.int (j:Int)))] S=.ok ((qs.map λq=>q.getD j 0*U.fdiv (wq q)).map .int) S
 |[],x,y,_=>eH
 |q::qs,x,y,h=>by
  obtain⟨w0,w1,w2,w3,_⟩:=vF (h q bc);obtain⟨i1,b1⟩:=w3 j hj;have ih:=Uj hk S hU bU hb hj qs (some (.pv (.int 1))) (some (.pv (tv q))) λv hv=>h v (bp _ hv);have o1:Bd 1 (1:Int):=by unfold Bd;decide
  have m1:=dL o1 b1 (by decide) (by omega);rw[io]at m1;have fd:eC (.int U) (.int (wq q))=some (.int (U.fdiv (wq q))):=qZ ⟨by omega,w1.mono (by omega)⟩;have m2:=dL b1 (Ek hU w0 bU) (by omega) (by omega);rw[cv,eQ,cv,cv];generalize ((qs.map λq=>q.getD j 0*U.fdiv (wq q)).map PV.int)=RL,(qs.map λq=>PV.tup [.int 1,tv q])=ZL,q.getD j 0=v,wq q=w,tv q=T at *;generalize (j:Int)=J,U.fdiv w=fw at *;have hs:sK [some (.pv (.int 1)),some (.pv T),some (.pv (.int U)),some (.pv (.int J))] S=.ok (.pv (.int (v*fw))) S:=by
   unfold sK;simp! [bW,aJ,aL,aM,aK,aF,aI,i1,m1,w2,fd,m2]
  simp only[gT,dQ,fK,gN,bq,List.length_nil,ix,gf];simp[hs,ih,bO.bind]
theorem Ik{n k:Nat}(hk:k<=1000){A B C:SO}{qs:AF}(h:∀q∈qs,Gu n k q){U:Int}{b:Nat}(hU:0<U)(bU:Bd b U)(hb:b<=7000)(hl:qs.length<=9)(x3:AO):∀(js:List Nat)(acc:AE)(x5:AO),(∀j∈js,j<n)->acc.length+js.length<=9->(∀x∈acc,Bd (k+b+qs.length) x)->∃(acc':AE)(y5:AO),dR [] (gN 5) oF (js.map λj:Nat=>PV.int (j:Int)) [some (.pv (.lst (qs.map tv))),some (.pv (.lst (bj qs.length (.int 1)))),some (.pv (.int U)),x3,some (.ref 3),x5] [A,B,C,.lst (li acc)]=.nx [some (.pv (.lst (qs.map tv))),some (.pv (.lst (bj qs.length (.int 1)))),some (.pv (.int U)),x3,some (.ref 3),y5] [A,B,C,.lst (li acc')]/\acc'.length=acc.length+js.length/\∀x∈acc',Bd (k+b+qs.length) x
 |[],acc,x5,_,_,ha=>⟨acc,x5,hJ,rfl,ha⟩
 |j::js,acc,x5,hj,hz,ha=>by
  have hz:acc.length+(js.length+1)<=9:=hz;have ec:=Uj hk [A,B,C,.lst (li acc)] hU bU (by omega) (hj j bc) qs none none h;have sb:Bd (k+b+qs.length) (qs.map λq=>q.getD j 0*U.fdiv (wq q)).sum:=by
   have:=Vl (k:=k+b) (qs.map λq=>q.getD j 0*U.fdiv (wq q)) λx hx=>by
    obtain⟨q,hq,rfl⟩:=da.mp hx;obtain⟨w0,_,_,w3,_⟩:=vF (h q hq);exact(w3 j (hj j bc)).2.mul (Ek hU w0 bU)
   rw[ar]at this;exact this
  have fs:jB [.lst ((qs.map λq=>q.getD j 0*U.fdiv (wq q)).map .int)]=some (.int (qs.map λq=>q.getD j 0*U.fdiv (wq q)).sum):=by
   show((jT _).map _)=_;rw[qO];rfl
  obtain⟨acc',y5,e,l,g⟩:=Ik hk h hU bU hb hl x3 js (acc++[(qs.map λq=>q.getD j 0*U.fdiv (wq q)).sum]) (some (.pv (.int (j:Int)))) (λi hi=>hj i (bp _ hi)) (by rw[bn,je];omega) (λx hx=>by
   rcases cm.mp hx with z |z
   .exact ha x z
   .have:x=(qs.map λq=>q.getD j 0*U.fdiv (wq q)).sum:=by simpa using z
    rw[this];exact sb)
  refine⟨acc',y5,?_,by rw[l,bn,je,bq];omega,g⟩;rw[cv,fV];simp only[gN,ix,gf];have st:oF [some (.pv (.lst (qs.map tv))),some (.pv (.lst (bj qs.length (.int 1)))),some (.pv (.int U)),x3,some (.ref 3),some (.pv (.int (j:Int)))] [A,B,C,.lst (li acc)]=.nx [some (.pv (.lst (qs.map tv))),some (.pv (.lst (bj qs.length (.int 1)))),some (.pv (.int U)),x3,some (.ref 3),some (.pv (.int (j:Int)))] [A,B,C,.lst (li (acc++[(qs.map λq=>q.getD j 0*U.fdiv (wq q)).sum]))]:=by
   have el:li (acc++[(qs.map λq=>q.getD j 0*U.fdiv (wq q)).sum])=li acc++[.int (qs.map λq=>q.getD j 0*U.fdiv (wq q)).sum]:=by simp[li]
   have lz:(li acc).length<16777216:=by simp[li];omega
   have ez:=Sn qs;rw[el];clear e g ha h sb;generalize (j:Int)=J,li acc=AL,qs.map tv=QL,bj qs.length (PV.int 1)=OL,(qs.map λq=>PV.tup [.int 1,tv q])=ZL,((qs.map λq=>q.getD j 0*U.fdiv (wq q)).map PV.int)=RL,(qs.map λq=>q.getD j 0*U.fdiv (wq q)).sum=SM at *;unfold oF;generalize sK=WB at *;simp! [bW,aJ,aL,aM,aK,aF,aI,fM,eX,kM,bI,bT,kB,pU,bX,ez,ec,fs,lz]
  rw[st];exact e
theorem Ul{n:Nat}(hn:n=2\/n=3){A B C:SO}{qs:AF}(h:∀q∈qs,Gu n 6 q)(h1:1<=qs.length)(h4:qs.length<=4):∃r,kH [.pv (.lst (qs.map tv))] [A,B,C]=.ok (.pv (tv r)) [A,B,C]/\Gu n 90 r:=by
 have l0:(qs.map tv).length=qs.length:=ar ..;have fr:sC (.lst [.int 1]) (.int ((qs.map tv).length:Nat))=some (.lst (bj qs.length (.int 1))):=by
  rw[Nj,if_pos ⟨by omega,by omega,by simp;omega⟩,l0];show some (PV.lst (bj ((qs.length:Int)).toNat [PV.int 1]).flatten)=_;rw[mq];congr 2;generalize qs.length=m
  induction m with
  |zero=>rfl
  |succ m ih=>rw[gw,kv,ih,gw];rfl
 obtain⟨U,y3,e1,u0,ub⟩:=Fj (by decide) [A,B,C] (some (.pv (.lst (qs.map tv)))) (some (.pv (.lst (bj qs.length (.int 1))))) none none qs 1 1 none h (by decide) (by unfold Bd;decide) (by omega);have ub:Bd 25 U:=ub.mono (by omega);obtain⟨acc,y5,e2,l2,b2⟩:=Ik (n:=n) (A:=A) (B:=B) (C:=C) (by decide) h u0 ub (by decide) (by omega) y3 (ce n) [] none (λj hj=>by simpa using hj) (by simp;omega) (by simp);have l2:acc.length=n:=by simpa using l2
 have b2:∀x∈acc,Bd 90 x:=λx hx=>(b2 x hx).mono (by omega);have bl:Bd 3 (qs.length:Int):=Bd.of (n:=4) (by omega) (by decide);have bL:Bd 90 (U*(qs.length:Int)):=(ub.mul bl).mono (by decide);obtain⟨zs,z,e3,P,_⟩:=uV (n:=n) (k:=90) (L:=acc) (b:=U*(qs.length:Int)) (kg u0 (by omega)) l2 b2 bL;have e4:=qR (acc++[U*(qs.length:Int)]) [A,B,C,.lst (li acc)] (λx hx=>by
  rcases cm.mp hx with y |y
  .exact(b2 x y).mono (by decide)
  .have:x=U*(qs.length:Int):=by simpa using y
   rw[this];exact bL.mono (by decide))
 rw[e3,kz,cv,gj]at e4;refine⟨zs++[z],?_,zs,z,rfl,P⟩;have fs:jB [.lst (bj qs.length (.int 1))]=some (.int (qs.length:Int)):=by
  have e:bj qs.length (PV.int 1)=(bj qs.length (1:Int)).map .int:=by simp
  rw[e];show((jT _).map _)=_;rw[qO];show some (PV.int _)=_;congr 2;generalize qs.length=m
  induction m with
  |zero=>rfl
  |succ m ih=>rw[gw,tj,ih];omega
 have m1:=dL ub bl;have i0:∃QT:AM,aE (.lst (qs.map tv)) (.int 0)=some (.tup QT)/\(QT.length:Int)-1=(n:Int):=by
  match qs,h1,h with
  |q::r,_,h=>
   obtain⟨_,_,_,_,l⟩:=vF (h q bc);exact⟨q.map .int,oX (j:=0) rfl,by rw[ar,l];omega⟩
 obtain⟨QT,i0,lq⟩:=i0;have rg:=sH [A,B,C,.lst []] (n:=n) (by omega);rw[Hw]at rg;have la:(li acc).length+1<=16777216:=by simp[li];omega
 have lf:((qs.length:Nat):Int)=((qs.map tv).length:Int):=by rw[l0]
 have hw:sQ [.pv (.lst (qs.map tv)),.pv (.lst (bj qs.length (.int 1)))] [A,B,C]=.ok (.pv (tv (zs++[z]))) [A,B,C]:=by
  have hbw:xF=(aO (aW 2 (mC (.int 1))) (aO (dB (bK (aA 0)) (gN 3) qG) (aO (aW 4 (gX aD)) (aO (dB (eV (aC (aB dN (mR bM (aC (aB aE (aA 0) (mC (.int 0))) aD)) (mC (.int 1))) aD)) (gN 5) oF) (bG (bA gD [] (aC (aB aF (aA 4) (mN eR (aC (aB bC (aA 2) (mR jB (aC (aA 1) aD))) aD))) aD))))))):=rfl;unfold sQ;rw[hbw];have e4:gD [.pv (.lst (li acc++[.int (U*(qs.length:Int))]))] [A,B,C,.lst (li acc)]=.ok (.pv (tv (zs++[z]))) [A,B,C,.lst (li acc)]:=e4;have e2:dR [] (gN 5) oF ((ce n).map λj:Nat=>PV.int (j:Int)) [some (.pv (.lst (qs.map tv))),some (.pv (.lst (bj qs.length (.int 1)))),some (.pv (.int U)),y3,some (.ref 3),none] [A,B,C,.lst []]=_:=e2;clear h b2 P;generalize (n:Int)=N,((ce n).map λj:Nat=>PV.int (j:Int))=RL,li acc=AL,qs.map tv=QL,bj qs.length (PV.int 1)=OL,(qs.length:Int)=LN,tv (zs++[z])=TR at *;have t1:(dB (bK (aA 0)) (gN 3) qG) [some (.pv (.lst QL)),some (.pv (.lst OL)),some (.pv (.int 1)),none,none,none] [A,B,C]=.nx [some (.pv (.lst QL)),some (.pv (.lst OL)),some (.pv (.int U)),y3,none,none] [A,B,C]:=by
   generalize qG=B1 at *;simp! [bW,aJ,aL,aM,aK,aF,aI,dB,bK,bX,e1]
  have t3:(dB (eV (aC (aB dN (mR bM (aC (aB aE (aA 0) (mC (.int 0))) aD)) (mC (.int 1))) aD)) (gN 5) oF) [some (.pv (.lst QL)),some (.pv (.lst OL)),some (.pv (.int U)),y3,some (.ref 3),none] [A,B,C,.lst []]=.nx [some (.pv (.lst QL)),some (.pv (.lst OL)),some (.pv (.int U)),y3,some (.ref 3),y5] [A,B,C,.lst AL]:=by
   generalize oF=B2 at *;simp! [bW,aJ,aL,aM,aK,aF,aI,dB,eV,i0,lq,rg,e2]
  apply pM rfl;apply sq;simp! [bW,aJ,aL,aM,aK,aF,aI,hZ];exact⟨rfl,rfl⟩;refine sq t1 ?_;apply sq;simp! [bW,aJ,aL,aM,aK,aF,aI,gX,nP];exact⟨rfl,rfl⟩;refine sq t3 ?_;simp! [bW,aJ,aL,aM,aK,aF,aI,la,fs,m1,e4];exact⟨rfl,rfl⟩;simp[iS]
 unfold kH aX xW;generalize qs.map tv=QL,bj qs.length (PV.int 1)=OL,tv (zs++[z])=TR at *;simp! [bW,aJ,aL,aM,aK,aF,aI,fr,hw]
abbrev qC:MS:=(aO (aW 4 (bI ["_law_m"] [(0,"_law_row_here")] (eV (aC (aA 1) aD)) (gN 0) (aB dN (bA dG [] (aC (aA 1) (aC (mC (.int 9)) aD))) (mC (.int 4))))) (eI (fM (aA 2) (aC (bA gD [] (aC (aB aF (aA 4) (mN eR (aC (aB aF (mC (.int 1)) (bA dG [] (aC (aA 0) (aC (mC (.int 3)) aD)))) aD))) aD)) aD))))
theorem S8{n:Nat}(hn:n=2\/n=3){W:SO}(ns:AE){P:AF}(hP:P.length<=20)(x3 x4 x5:AO):∃(p ns':AE)(y4:AO),qC [some (.ref 0),some (.pv (.int (n:Int))),some (.ref 2),x3,x4,x5] [.lst (li ns),W,.lst (P.map tv)]=.nx [some (.ref 0),some (.pv (.int (n:Int))),some (.ref 2),x3,y4,x5] [.lst (li ns'),W,.lst ((P++[p]).map tv)]/\Gu n 6 p:=by
 obtain⟨xs,n1,e1,l1,b1⟩:=Qm (m:=9) (c:=4) (by decide) (oA (by decide) (by decide)) [W,.lst (P.map tv)] (dX 0 n) ns none;have lx:xs.length=n:=by rw[l1];unfold dX;simp
 obtain⟨v,n2,e2,v0,v1⟩:=lW (R:=[W,.lst (P.map tv)]) n1 (m:=3) (by decide) (by decide);have bx:∀x∈xs,Bd 6 x:=λx hx=>Bd.of (n:=9) (by have:=b1 x hx;omega) (by decide);have bv:Bd 6 (1+v):=Bd.of (n:=9) (by omega) (by decide);obtain⟨zs,z,e3,Q,_⟩:=uV (n:=n) (k:=6) (L:=xs) (b:=1+v) (by omega) lx bx bv;have e4:=qR (xs++[1+v]) [.lst (li n2),W,.lst (P.map tv)] (λx hx=>by
  rcases cm.mp hx with y |y
  .exact(bx x y).mono (by decide)
  .have:x=1+v:=by simpa using y
   rw[this];exact bv.mono (by decide))
 rw[e3,kz,cv,gj]at e4;have rg:=sH [.lst (li ns),W,.lst (P.map tv)] (n:=n) (by omega);have lz:(P.map tv).length<16777216:=by rw[ar];omega
 have ly:(li xs).length+1<=16777216:=by simp[li];omega
 refine⟨zs++[z],n2,some (.pv (.lst (li xs))),?_,zs,z,rfl,Q⟩;have ep:(P++[zs++[z]]).map tv=P.map tv++[tv (zs++[z])]:=by simp
 rw[ep];have e4:gD [.pv (.lst (li xs++[.int (1+v)]))] [.lst (li n2),W,.lst (P.map tv)]=.ok (.pv (tv (zs++[z]))) [.lst (li n2),W,.lst (P.map tv)]:=e4;clear b1 bx Q;generalize (n:Int)=N,dX 0 n=IP,li xs=XL,P.map tv=PL,tv (zs++[z])=TR at *;unfold qC;simp! [bW,aJ,aL,aM,aK,aF,aI,bI,bT,eV,rg,e1,e2,ly,e4,fM,eX,kM,lz]
theorem Hl{n:Nat}(hn:n=2\/n=3){W:SO}(x5:AO):∀(is:AM)(P:AF)(ns:AE)(x3 x4:AO),P.length+is.length<=20->(∀p∈P,Gu n 6 p)->∃(P':AF)(ns':AE)(y3 y4:AO),dR [] (gN 3) qC is [some (.ref 0),some (.pv (.int (n:Int))),some (.ref 2),x3,x4,x5] [.lst (li ns),W,.lst (P.map tv)]=.nx [some (.ref 0),some (.pv (.int (n:Int))),some (.ref 2),y3,y4,x5] [.lst (li ns'),W,.lst (P'.map tv)]/\P'.length=P.length+is.length/\∀p∈P',Gu n 6 p
 |[],P,ns,x3,x4,_,h=>⟨P,ns,x3,x4,hJ,rfl,h⟩
 |i::is,P,ns,x3,x4,hl,h=>by
  have hl:P.length+(is.length+1)<=20:=hl;obtain⟨p,n1,y4,e1,g1⟩:=S8 hn (W:=W) ns (P:=P) (by omega) (some (.pv i)) x4 x5;obtain⟨P',n2,z3,z4,e2,l2,g2⟩:=Hl hn x5 is (P++[p]) n1 (some (.pv i)) y4 (by rw[bn,je];omega) (λq hq=>by
   rcases cm.mp hq with z |z
   .exact h q z
   .have:q=p:=by simpa using z
    rw[this];exact g1)
  refine⟨P',n2,z3,z4,?_,by rw[l2,bn,je,bq];omega,g2⟩;rw[fV];simp only[gN,ix,gf];rw[e1];exact e2
theorem Vt{n:Nat}(hn:n=2\/n=3){W:SO}(ns:AE):∃(P:AF)(ns':AE),qT [.ref 0,.pv (.int (n:Int))] [.lst (li ns),W]=.ok (.ref 2) [.lst (li ns'),W,.lst (P.map tv)]/\P.length=n+1/\∀p∈P,Gu n 90 p:=by
 obtain⟨P,n1,y3,y4,e1,l1,g1⟩:=Hl hn (W:=W) none (dX 0 (n+1)) [] ns none none (by unfold dX;simp;omega) (by simp);have l1:P.length=n+1:=by rw[l1];unfold dX;simp
 obtain⟨w,n2,e2,w0,w1⟩:=lW (R:=[W,.lst (P.map tv)]) n1 (m:=12) (by decide) (by decide);have rg:=sH [.lst (li ns),W,.lst []] (n:=n+1) (by omega);have lp:(P.map tv).length=n+1:=by rw[ar];exact l1
 obtain⟨pa,ea⟩:∃p,P[0]?=some p:=⟨_,bf (by omega)⟩;obtain⟨pc,ec⟩:∃p,P[2]?=some p:=⟨_,bf (by omega)⟩;have ga:=g1 pa (fe ea);have gc:=g1 pc (fe ec);have i0:aE (.lst (P.map tv)) (.int 0)=some (tv pa):=oX (j:=0) (by rw[dy,ea];rfl);have i2:aE (.lst (P.map tv)) (.int 2)=some (tv pc):=oX (j:=2) (by rw[dy,ec];rfl);clear ea ec;have hx:∀{j:Int}{k:Nat},j=k->k<n+1->aS (P.map tv).length j=some k:=λ{j k} a b=>by
  subst a;unfold aS;rw[if_pos (by omega),if_pos (by omega)];simp
 have xl:aS (P.map tv).length (-1)=some n:=by
  unfold aS;rw[if_neg (by omega),if_pos (by omega),lp];congr 1;omega
 have c1:=Ho (P.map tv) (a:=1) (by omega);rw[<-l8]at c1;obtain⟨r1,m1,k1⟩:=Ul hn (A:=.lst (li n2)) (B:=W) (C:=.lst (P.map tv)) (qs:=P.drop 1) (λq hq=>g1 q (pk hq)) (by rw[jk];omega) (by rw[jk];omega);obtain⟨r2,m2,k2⟩:=Ul hn (A:=.lst (li n2)) (B:=W) (C:=.lst (P.map tv)) (qs:=[pa,pc]) (λq hq=>by
  have hq:q=pa\/q=pc:=by simpa using hq
  rcases hq with rfl |rfl
  .exact ga
  .exact gc) (by simp) (by simp)
 have m2:kH [.pv (.lst [tv pa,tv pc])] [.lst (li n2),W,.lst (P.map tv)]=.ok (.pv (tv r2)) [.lst (li n2),W,.lst (P.map tv)]:=m2;have gs:∀{j:Nat}{r:AE},Gu n 90 r->∀p∈P.set j r,Gu n 90 p:=λ{j r} gr p hp=>by
  rcases List.mem_or_eq_of_mem_set hp with z |z
  .exact(g1 p z).mono (by decide)
  .rw[z];exact gr
 obtain⟨P',hs,l',g'⟩:∃P':AF,(aO (bN (aZ (aB bJ (aA 5) (mC (.int 0)))) (fX (aA 2) (cD dA (mC (.int 1))) (aB aE (aA 2) (mC (.int 0)))) bP) (aO (bN (aZ (aB bJ (aA 5) (mC (.int 1)))) (fX (aA 2) (mC (.int 0)) (bA kH [] (aC (dF (aA 2) (bQ (mC (.int 1))) bR) aD))) bP) (aO (bN (aZ (aB bJ (aA 5) (mC (.int 2)))) (fX (aA 2) (mC (.int 1)) (bA kH [] (aC (mN eR (aC (aB aE (aA 2) (mC (.int 0))) (aC (aB aE (aA 2) (mC (.int 2))) aD))) aD))) bP) (bG (aA 2))))) [some (.ref 0),some (.pv (.int (n:Int))),some (.ref 2),y3,y4,some (.pv (.int w))] [.lst (li n2),W,.lst (P.map tv)]=.rt (.ref 2) [.lst (li n2),W,.lst (P'.map tv)]/\P'.length=n+1/\∀p∈P',Gu n 90 p:=by
  have x0:=hx (j:=0) (k:=0) rfl (by omega);have x1:=hx (j:=1) (k:=1) rfl (by omega)
  by_cases a0:w=0
  .subst a0
   refine⟨P.set n pa,?_,by rw[fy];exact l1,gs (ga.mono (by decide))⟩;rw[tz];clear gs hx m1 m2 g1;generalize (n:Int)=N,P.map tv=PL,tv pa=T0 at *;simp! [bW,aJ,aL,aM,aK,aF,aI,fX,eX,lK,i0,xl]
  have d0:(w==0)=false:=by simpa using a0
  by_cases a1:w=1
  .subst a1
   refine⟨P.set 0 r1,?_,by rw[fy];exact l1,gs k1⟩;rw[tz];clear gs hx m2 g1;generalize (n:Int)=N,P.map tv=PL,(P.drop 1).map tv=DL,tv r1=T0 at *;have c1:fT (.lst PL) (some 1) none=some (.lst DL):=c1;simp! [bW,aJ,aL,aM,aK,aF,aI,fX,eX,lK,dF,bR,bQ,cW,c1,m1,x0]
  have d1:(w==1)=false:=by simpa using a1
  by_cases a2:w=2
  .subst a2
   refine⟨P.set 1 r2,?_,by rw[fy];exact l1,gs k2⟩;rw[tz];clear gs hx m1 g1;generalize (n:Int)=N,P.map tv=PL,tv pc=Tb,tv pa=Ta,tv r2=T0 at *;simp! [bW,aJ,aL,aM,aK,aF,aI,fX,eX,lK,i0,i2,m2,x1]
  have d2:(w==2)=false:=by simpa using a2
  refine⟨P,?_,l1,λp hp=>(g1 p hp).mono (by decide)⟩;generalize (n:Int)=N,P.map tv=PL at *;simp! [bW,aJ,aL,aM,aK,aF,aI,d0,d1,d2]
 refine⟨P',n2,?_,l',g'⟩;have e3:aF (.int (n:Int)) (.int 1)=some (.int ((n+1:Nat):Int)):=rfl;rw[gj]at e1;have hbp:yJ=(aO (aW 2 (gX aD)) (aO (dB (eV (aC (aB aF (aA 1) (mC (.int 1))) aD)) (gN 3) qC) (aO (aW 5 (bA dG [] (aC (aA 0) (aC (mC (.int 12)) aD)))) (aO (bN (aZ (aB bJ (aA 5) (mC (.int 0)))) (fX (aA 2) (cD dA (mC (.int 1))) (aB aE (aA 2) (mC (.int 0)))) bP) (aO (bN (aZ (aB bJ (aA 5) (mC (.int 1)))) (fX (aA 2) (mC (.int 0)) (bA kH [] (aC (dF (aA 2) (bQ (mC (.int 1))) bR) aD))) bP) (aO (bN (aZ (aB bJ (aA 5) (mC (.int 2)))) (fX (aA 2) (mC (.int 1)) (bA kH [] (aC (mN eR (aC (aB aE (aA 2) (mC (.int 0))) (aC (aB aE (aA 2) (mC (.int 2))) aD))) aD))) bP) (bG (aA 2)))))))):=rfl;unfold qT;rw[hbp];clear m1 m2 c1 gs g1 g' hx;generalize P'.map tv=PL' at *;generalize (n:Int)=N,((n+1:Nat):Int)=N1,dX 0 (n+1)=IP,P.map tv=PL at *;have t1:(dB (eV (aC (aB aF (aA 1) (mC (.int 1))) aD)) (gN 3) qC) [some (.ref 0),some (.pv (.int N)),some (.ref 2),none,none,none] [.lst (li ns),W,.lst []]=.nx [some (.ref 0),some (.pv (.int N)),some (.ref 2),y3,y4,none] [.lst (li n1),W,.lst PL]:=by
  generalize qC=B1 at *;simp! [bW,aJ,aL,aM,aK,aI,dB,eV,e3,rg,e1]
 apply pM rfl;apply sq;simp! [bW,aJ,aL,aM,aK,aF,aI,hZ,gX,nP];exact⟨rfl,rfl⟩;refine sq t1 ?_;apply sq;simp! [bW,aJ,aL,aM,aK,aF,aI,e2];exact⟨rfl,rfl⟩;exact hs;simp[iS]
abbrev sG:ME:=(bA oR [] (aC (aA 1) (aC (aA 0) (aC (aB aE (aA 2) (cD dA (mC (.int 1)))) aD))))
abbrev sv(l:List Nat):PV:=.str (tx l)
theorem uI{s:List Nat}{B:Nat}(hs:∀c∈s,c<128):∀{P:List (List Nat)},(∀p∈P,fQ B p)->fQ (P.length*(B+s.length)) (jn s P)
 |[],_=>⟨λ_ h=>(nomatch h),by simp[jn]⟩
 |[p],h=>⟨(h p (by simp)).1,by have:=(h p (by simp)).2;simp[jn];omega⟩
 |p::q::r,h=>by
  obtain⟨a,b⟩:=uI hs (P:=q::r) λx hx=>h x (bp _ hx);obtain⟨c,d⟩:=h p bc;refine⟨λx hx=>?_,?_⟩
  .have hx:x∈p++(s++jn s (q::r)):=hx
   rcases cm.mp hx with z |z
   .exact c x z
   .rcases cm.mp z with z |z
    .exact hs x z
    .exact a x z
  .show(p++(s++jn s (q::r))).length<=((q::r).length+1)*(B+s.length)
   rw[bn,bn,qp];omega
theorem Ak{R:aN}{T:PV}{w:Int}(hw:0<w)(bw:Bd 90 w)(hT:aE T (.int (-1))=some (.int w)):∀(xs ns:AE)(x:AO),(∀y∈xs,Bd 90 y)->∃(Ls:List (List Nat))(ns':AE),cG [] (gN 0) sG (xs.map .int) [x,some (.ref 0),some (.pv T)] (.lst (li ns)::R)=.ok (Ls.map sv) (.lst (li ns')::R)/\Ls.length=xs.length/\∀l∈Ls,fQ 66 l
 |[],ns,x,_=>⟨[],ns,eH,rfl,λ_ h=>(nomatch h)⟩
 |y::xs,ns,x,h=>by
  obtain⟨U,n1,e1,L,rfl,a,b⟩:=Mv (R:=R) ns hw (h y bc) bw;obtain⟨Ls,n2,e2,l2,g2⟩:=Ak (R:=R) hw bw hT xs n1 (some (.pv (.int y))) λz hz=>h z (bp _ hz);refine⟨L::Ls,n2,?_,by rw[bq,bq,l2],λl hl=>?_⟩
  .rw[cv,eQ,cv]
   generalize Ls.map sv=LL,xs.map PV.int=XL at *;have hs:sG [some (.pv (.int y)),some (.ref 0),some (.pv T)] (.lst (li ns)::R)=.ok (.pv (.str (tx L))) (.lst (li n1)::R):=by
    unfold sG;simp! [bW,aJ,aL,aM,aK,aF,aI,hT,e1]
   simp only[gN,gf];simp[hs,e2,bO.bind]
  .rcases cu.mp hl with rfl |hl
   .exact⟨a,b⟩
   .exact g2 l hl
abbrev qD:MS:=(aO (aW 5 (kO (aA 2) (aC (bA dG [] (aC (aA 0) (aC (mR bM (aC (aA 2) aD)) aD))) aD))) (eI (fM (aA 3) (aC (jX (mC (.str " ")) (aC (bI ["_law_number"] [(0,"_law_row_here"),(5,"_law_p")] (bK (dF (aA 5) bR (bQ (cD dA (mC (.int 1)))))) (gN 0) sG) aD)) aD))))
theorem F2{n:Nat}(hn:n=2\/n=3){W:SO}(ns:AE){P:AF}{Ls:List (List Nat)}(hP:∀p∈P,Gu n 90 p)(p0:0<P.length)(p9:P.length<=9)(l9:Ls.length<=90)(x1 x4 x5:AO):∃(P':AF)(l:List Nat)(ns':AE)(y5:AO),qD [some (.ref 0),x1,some (.ref 2),some (.ref 3),x4,x5] [.lst (li ns),W,.lst (P.map tv),.lst (Ls.map sv)]=.nx [some (.ref 0),x1,some (.ref 2),some (.ref 3),x4,y5] [.lst (li ns'),W,.lst (P'.map tv),.lst ((Ls++[l]).map sv)]/\P'.length+1=P.length/\(∀p∈P',Gu n 90 p)/\fQ 201 l:=by
 obtain⟨j,n1,e1,jl⟩:=tkl (ns:=ns) (L:=P.map tv) (T:=[W,.lst (P.map tv),.lst (Ls.map sv)]) (k:=0) (by rw[ar];omega) (by rw[ar];omega);rw[Nat.add_zero]at e1 jl;rw[ar]at jl;have hp:=Uk (S:=[.lst (li n1),W,.lst (P.map tv),.lst (Ls.map sv)]) (k:=2) (j:=j) (v:=tv P[j]) rfl (by rw[dy,bf jl];rfl) (by omega);rw[yA]at hp;have hp:mU 2 [.pv (.int (j:Int))] [.lst (li n1),W,.lst (P.map tv),.lst (Ls.map sv)]=.ok (.pv (tv P[j])) [.lst (li n1),W,.lst ((P.eraseIdx j).map tv),.lst (Ls.map sv)]:=hp;have pm:=Sh (L:=P) (bf jl);have gp:=hP _ (iu jl);obtain⟨xs,w,ep,Q⟩:=gp;rw[ep]at hp;obtain⟨Ks,n2,e2,l2,g2⟩:=Ak (R:=[W,.lst ((P.eraseIdx j).map tv),.lst (Ls.map sv)]) Q.pos Q.bw (nG xs w) xs n1 none Q.bx;have ej:=Xy (c:=32) (Ls:=Ks) (B:=66) (λl hl=>(g2 l hl).2) (by rw[l2,Q.len];omega) (by decide);rw[<-Ck]at ej;have al:fQ 201 (dI 32 Ks):=by
  have a:=uI (s:=[32]) (B:=66) (by decide) g2;rw[Bi];refine⟨a.1,?_⟩;have:=a.2;rw[l2,Q.len]at this;rcases hn with rfl |rfl<;>simp at this<;>omega
 refine⟨P.eraseIdx j,dI 32 Ks,n2,some (.pv (tv (xs++[w]))),?_,by have:=pm.length_eq;simp only[bq]at this;omega,λp hp=>hP p (pm.mem_iff.mpr (bp _ hp)),al⟩;have es:(Ls++[dI 32 Ks]).map sv=Ls.map sv++[sv (dI 32 Ks)]:=by simp
 have lz:(Ls.map sv).length<16777216:=by rw[ar];omega
 have a1:=yL xs w;rw[es];have ej:lJ " " [.lst (Ks.map sv)]=some (sv (dI 32 Ks)):=ej;have hv:tv (xs++[w])=.tup ((xs++[w]).map .int):=rfl;rw[hv]at hp⊢;clear hP al g2 Q pm ep;generalize (j:Int)=J,Ls.map sv=LL,P.map tv=PL,(P.eraseIdx j).map tv=PE,xs.map PV.int=XL,(xs++[w]).map PV.int=XW,Ks.map sv=KL,sv (dI 32 Ks)=SJ at *;unfold qD;generalize sG=LC at *;apply sq;simp! [bW,aJ,aL,aM,aK,aF,aI,kO,eX,e1,hp];exact⟨rfl,rfl⟩;simp! [bW,aJ,aL,aM,aK,aF,aI,fM,eX,kM,jX,cH,bI,bT,bK,bX,dF,bR,bQ,cW,a1,e2,ej,lz]
theorem Kk{n:Nat}(hn:n=2\/n=3){W:SO}(x1:AO):∀(is:AM)(P:AF)(Ls:List (List Nat))(ns:AE)(x4 x5:AO),P.length=is.length->P.length<=9->Ls.length+is.length<=90->(∀p∈P,Gu n 90 p)->(∀l∈Ls,fQ 201 l)->∃(Q:SO)(Ls':List (List Nat))(ns':AE)(y4 y5:AO),dR [] (gN 4) qD is [some (.ref 0),x1,some (.ref 2),some (.ref 3),x4,x5] [.lst (li ns),W,.lst (P.map tv),.lst (Ls.map sv)]=.nx [some (.ref 0),x1,some (.ref 2),some (.ref 3),y4,y5] [.lst (li ns'),W,Q,.lst (Ls'.map sv)]/\Ls'.length=Ls.length+is.length/\∀l∈Ls',fQ 201 l
 |[],P,Ls,ns,x4,x5,_,_,_,_,h=>⟨_,Ls,ns,x4,x5,hJ,rfl,h⟩
 |i::is,P,Ls,ns,x4,x5,hl,p9,l9,hP,h=>by
  have l9:Ls.length+(is.length+1)<=90:=l9;have hl:P.length=is.length+1:=hl;obtain⟨P',l,n1,y5,e1,lp,gp,al⟩:=F2 hn (W:=W) ns (P:=P) (Ls:=Ls) hP (by omega) p9 (by omega) x1 (some (.pv i)) x5;obtain⟨Q,Ls',n2,z4,z5,e2,l2,g2⟩:=Kk hn x1 is P' (Ls++[l]) n1 (some (.pv i)) y5 (by omega) (by omega) (by rw[bn,je];omega) gp (λk hk=>by
   rcases cm.mp hk with z |z
   .exact h k z
   .have:k=l:=by simpa using z
    rw[this];exact al)
  refine⟨Q,Ls',n2,z4,z5,?_,by rw[l2,bn,je,bq];omega,g2⟩;rw[fV];simp only[gN,ix,gf];rw[e1];exact e2
theorem Tz{n:Nat}(hn:n=2\/n=3){W:SO}(ns:AE){P:AF}(hP:∀p∈P,Gu n 90 p)(p5:P.length<=5):∃(l:List Nat)(ns':AE),qJ [.ref 0,.pv (.lst (P.map tv))] [.lst (li ns),W]=.ok (.pv (.str (tx l))) [.lst (li ns'),W]/\fQ 1015 l:=by
 obtain⟨Q,Ls,n1,y4,y5,e1,l1,g1⟩:=Kk hn (W:=W) (some (.pv (.lst (P.map tv)))) (dX 0 P.length) P [] ns none none (by unfold dX;simp) (by omega) (by unfold dX;simp;omega) hP (by simp);have l1:Ls.length=P.length:=by rw[l1];unfold dX;simp
 have ej:=Tk (s:=[44,32]) (Ls:=Ls) (B:=201) (by decide) (λl hl=>(g1 l hl).2) (by omega) (by decide);rw[<-Yi]at ej;have al:=uI (s:=[44,32]) (B:=201) (by decide) g1;refine⟨jn [44,32] Ls,n1,?_,al.1,by have:=al.2;have z:([44,32]:List Nat).length=2:=rfl;rw[z]at this;have:=xw (201+2) (show Ls.length<=5 by omega);omega⟩;have rg:=sH [.lst (li ns),W,.lst (P.map tv),.lst []] (n:=P.length) (by omega);have lf:((P.map tv).length:Int)=(P.length:Int):=by rw[ar]
 rw[<-lf]at rg;have ej:lJ ", " [.lst (Ls.map sv)]=some (.str (tx (jn [44,32] Ls))):=ej;rw[gj]at e1;have hbp:wY=(aO (aW 2 (rR (aC (aA 1) aD))) (aO (aW 3 (gX aD)) (aO (dB (eV (aC (mR bM (aC (aA 1) aD)) aD)) (gN 4) qD) (bG (jX (mC (.str ", ")) (aC (aA 3) aD)))))):=rfl;unfold qJ;rw[hbp];clear hP al g1 lf;generalize P.map tv=PL,dX 0 P.length=IP,Ls.map sv=LL,tx (jn [44,32] Ls)=TJ at *;have t2:(dB (eV (aC (mR bM (aC (aA 1) aD)) aD)) (gN 4) qD) [some (.ref 0),some (.pv (.lst PL)),some (.ref 2),some (.ref 3),none,none] [.lst (li ns),W,.lst PL,.lst []]=.nx [some (.ref 0),some (.pv (.lst PL)),some (.ref 2),some (.ref 3),y4,y5] [.lst (li n1),W,Q,.lst LL]:=by
  generalize qD=B1 at *;simp! [bW,aJ,aL,aM,aK,aF,aI,dB,eV,rg,e1]
 apply pM rfl;apply sq;simp! [bW,aJ,aL,aM,aK,aF,aI,hZ,rR,Lb];exact⟨rfl,rfl⟩;apply sq;simp! [bW,aJ,aL,aM,aK,aF,aI,gX,nP];exact⟨rfl,rfl⟩;refine sq t2 ?_;simp! [bW,aJ,aL,aM,aK,aF,aI,jX,cH,ej];exact⟨rfl,rfl⟩;simp[iS]
theorem S6(S:aN){T:Str}{V:PV}(h:iI [.pv (.str T)] S=.ok (.pv V) S):jQ [.pv (.str T)] S=.ok (.pv (.tup [.int 0,V])) S:=by
 unfold jQ aX tU;simp! [aE,aR,aS,aG,aJ,aL,aM,aK,aF,aI,pK,pO,pH,h]
theorem Q7(S:aN){T:Str}(h:iI [.pv (.str T)] S=.exc "NoText" S):jQ [.pv (.str T)] S=.ok (.pv (.tup [.int 1,.bl true])) S:=by
 unfold jQ aX tU;simp! [aE,aR,aS,aG,aJ,aL,aM,aK,aF,aI,pK,pO,pH,h]
theorem G8(S:aN){T:Str}(h:iI [.pv (.str T)] S=.exc "Flat" S):jQ [.pv (.str T)] S=.ok (.pv (.tup [.int 2,.bl true])) S:=by
 have ne:¬(cc "Flat"=cc "NoText"):=λz=>by
  have:(cc "Flat"==cc "NoText")=false:=by kernel_rfl
  rw[z]at this;simp at this
 unfold jQ aX tU;simp! [aE,aR,aS,aG,aJ,aL,aM,aK,aF,aI,pK,pO,pH,h,ne]
abbrev qF:ME:=(aB gM (bA kK [] (aC (aA 0) aD)) (mC (.int 0)))
abbrev qH:ME:=(bA kY [] (aC (aA 0) aD))
theorem Kv{n:Nat}(hn:n=2\/n=3)(S:aN){rows:AG}(h:∀us∈rows,nW n us):cG [] (gN 0) qF (rows.map vR) [none] S=.ok (rows.map λus=>.bl (!(dU us==0))) S:=by
 refine jH (gF S) vR (λus=>.bl (!(dU us==0))) rows none λus hu=>?_;obtain⟨l,g⟩:=h us hu;obtain⟨d,e,sd⟩:=zQ hn (A:=vR us) (L:=us.map tv) S (by rw[ar];exact l) (λv hv=>by
  obtain⟨u,hu,rfl⟩:=da.mp hv;exact(g u hu).gp) (.inl rfl)
 rw[pA hn (am 1000) l g]at sd;have ed:(d==0)=(dU us==0):=by
  by_cases z:dU us=0
  .have:d=0:=tZ.mp (by rw[sd,z];rfl)
   rw[z,this]
  .have:d≠0:=λy=>z (tZ.mp (by rw[<-sd,y];rfl))
   rw[beq_false_of_ne z,beq_false_of_ne this]
 generalize vR us=T at *;unfold qF;simp! [aE,aR,aS,aG,aJ,aL,aM,aK,aF,aI,e,ed]
theorem E7{n:Nat}(hn:n=2\/n=3)(S:aN){rows:AG}(h:∀us∈rows,nW n us):cG [] (gN 0) qH (rows.map vR) [none] S=.ok (rows.map λus=>px (cV us)) S:=by
 refine jH (gF S) vR (λus=>px (cV us)) rows none λus hu=>?_;obtain⟨l,g⟩:=h us hu;have e:=Yd (A:=vR us) hn S l g (.inl rfl);have e:kY [.pv (vR us)] S=.ok (.pv (px (cV us))) S:=e;generalize vR us=T,px (cV us)=R at *;unfold qH;simp! [aE,aR,aS,aG,aJ,aL,aM,aK,aF,aI,e]
abbrev wM:MS:=(aO (aW 9 (bA kZ [] (aC (aA 8) aD))) (aO (aW 10 (mN gJ (aC (mC (.int 1)) (aC (mC (.bl true)) aD)))) (aO (bN (aZ (cD kQ (aA 9))) (aO (aW 10 (mN gJ (aC (mC (.int 2)) (aC (mC (.bl true)) aD)))) (bN (aZ (mR eM (aC (bI ["_law_points_here"] [] (bK (aA 9)) (gN 0) qF) aD))) (aW 10 (mN gJ (aC (mC (.int 0)) (aC (mR jI (aC (bI ["_law_points_here"] [] (bK (aA 9)) (gN 0) qH) aD)) aD)))) bP)) bP) (aO (aW 11 (bA jQ [] (aC (aA 8) aD))) (aO (bN (gI (aZ (aB bJ (aB aE (aA 10) (mC (.int 0))) (mC (.int 0)))) (iC (aZ (bA oK [] (aC (aB aE (aA 11) (mC (.int 1))) (aC (jO (aZ (aB eZ (mR bM (aC (aA 9) aD)) (mC (.int 0)))) (aB dN (mR bM (aC (aB aE (aA 9) (mC (.int 0))) aD)) (mC (.int 1))) (mC (.int 2))) aD)))))) (bG (mC (.bl false))) bP) (bG (lH (aB bJ (aA 11) (aA 10)) (aB bJ (bA jQ [] (aC (aA 8) aD)) (aA 10)))))))))
theorem Ry{L:List Nat}(h:fQ 9000 L)(S:aN)(x0 x1 x2 x3 x4 x5 x6 x7:AO):wM [x0,x1,x2,x3,x4,x5,x6,x7,some (.pv (.str (tx L))),none,none,none] S=.rt (.pv (.bl true)) S:=by
 have q1:aG 8 (.tup [.int 1,.bl true]) (.tup [.int 1,.bl true])=some true:=by kernel_rfl
 have q2:aG 8 (.tup [.int 2,.bl true]) (.tup [.int 2,.bl true])=some true:=by kernel_rfl
 unfold wM;rcases W1 h with z |⟨rows,n,hn,hR,z⟩
 .obtain⟨e1,e2⟩:=z S
  have e3:=Q7 S e1;clear e1 z;generalize qH=D2,qF=D1,tx L=TL at *;simp! [bW,aJ,aL,aM,aK,aF,aI,e2,e3,q1,aE,aR,aS,kQ]
 .obtain⟨e2,c1,c2⟩:=z S
  have d1:=Kv hn S hR;have d2:=E7 hn S hR;have a1:=tW (λus:AF=>!(dU us==0)) rows
  by_cases f:∃us∈rows,dU us=0
  .have e3:=G8 S (c1 f)
   have ha:(rows.all λus=>!(dU us==0))=false:=by
    obtain⟨us,hu,hd⟩:=f;rw[List.all_eq_false];exact⟨us,hu,by rw[hd];decide⟩
   rw[ha]at a1;clear c1 c2 z ha d2 hR;generalize qH=D2,qF=D1,tx L=TL,rows.map vR=VL,(rows.map λus=>PV.bl (!(dU us==0)))=BL at *;simp! [bW,aJ,aL,aM,aK,aF,aI,e2,e3,q2,aE,aR,aS,kQ,bI,bT,bK,bX,d1,a1]
  .have nz:∀us∈rows,dU us≠0:=λus hu hd=>f ⟨us,hu,hd⟩
   have e3:=S6 S (c2 nz);have ha:(rows.all λus=>!(dU us==0))=true:=by
    rw[ib];exact λus hu=>by rw[beq_false_of_ne (nz us hu)];rfl
   rw[ha]at a1;have sx:∀uss∈rows.map cV,Sx n 1000 uss:=λuss hu=>by
    obtain⟨us,ht,rfl⟩:=da.mp hu;exact V3 hn (am 1000) (hR us ht).1 (hR us ht).2 (nz us ht)
   have mm:(rows.map cV).map px=rows.map λus=>px (cV us):=by rw[du];rfl
   have fm:∃k:Nat,(jO (aZ (aB eZ (mR bM (aC (aA 9) aD)) (mC (.int 0)))) (aB dN (mR bM (aC (aB aE (aA 9) (mC (.int 0))) aD)) (mC (.int 1))) (mC (.int 2))) [x0,x1,x2,x3,x4,x5,x6,x7,some (.pv (.str (tx L))),some (.pv (.lst (rows.map vR))),some (.pv (.tup [.int 0,.tup (rows.map λus=>px (cV us))])),some (.pv (.tup [.int 0,.tup (rows.map λus=>px (cV us))]))] S=.ok (.pv (.int (k:Int))) S/\oK [.pv (.tup (rows.map λus=>px (cV us))),.pv (.int (k:Int))] S=.ok (.pv (.bl true)) S:=by
    cases rows with
    |nil=>
     have e:=Cf (n:=2) (k:=1000) (.inl rfl) S (hs:=[]) (by simp) (am _);refine⟨2,?_,e⟩;generalize tx L=TL at *;simp! [bW,aJ,aL,aM,aK,aF,aI]
    |cons us cY=>
     have e:=Cf (k:=1000) hn S sx (am _);rw[mm]at e;refine⟨n,?_,e⟩;have l:=(hR us bc).1;have lz:((cY.map vR).length:Int)+1>0:=by omega
     have ll:((us.map tv).length:Int)=(n:Int)+1:=by rw[ar,l];rfl
     clear e3 sx mm a1 d1 d2 c1 c2 z e2;generalize ((us::cY).map λus=>px (cV us))=CL at *;rw[cv];generalize tx L=TL at *;have hv:vR us=.lst (us.map tv):=rfl;rw[hv];generalize cY.map vR=RL,us.map tv=UL at *;have l1:bM [.lst UL]=some (.int ((n:Int)+1)):=by rw[<-ll];rfl
     have l2:bM [.lst (.lst UL::RL)]=some (.int ((RL.length:Int)+1)):=rfl;have g1:eZ (.int ((RL.length:Int)+1)) (.int 0)=some (.bl true):=by
      show some (PV.bl (decide _))=_;rw[decide_eq_true (by omega)]
     have i1:aE (.lst (.lst UL::RL)) (.int 0)=some (.lst UL):=by simp[aE,aR,aS]
     have s1:dN (.int ((n:Int)+1)) (.int 1)=some (.int (n:Int)):=by
      show some (PV.int _)=_;congr 2;omega
     generalize PV.lst UL::RL=AL,(n:Int)+1=NN,(RL.length:Int)+1=RN at *;simp[jO,aZ,aB,mR,aC,aA,mC,aD,fJ,lF,fY,rd,jY,fG,bO.bind,jC,l1,l2,g1,i1,s1]
   obtain⟨k,f1,f2⟩:=fm;have q0:=(By (m:=4) sx).1;rw[mm]at q0;have q3:aG 8 (.tup [.int 0,.tup (rows.map λus=>px (cV us))]) (.tup [.int 0,.tup (rows.map λus=>px (cV us))])=some true:=by
    exact tX (m:=7) (L:=[.int 0,.tup (rows.map λus=>px (cV us))]) (by
     intro v hv;rcases cu.mp hv with rfl |hv
     .rfl
     .have:v=.tup (rows.map λus=>px (cV us)):=by simpa using hv
      rw[this];exact q0)
   clear c1 c2 z ha hR sx mm q0 nz;generalize (jO (aZ (aB eZ (mR bM (aC (aA 9) aD)) (mC (.int 0)))) (aB dN (mR bM (aC (aB aE (aA 9) (mC (.int 0))) aD)) (mC (.int 1))) (mC (.int 2)))=D3,qH=D2,qF=D1,tx L=TL,rows.map vR=VL,(rows.map λus=>px (cV us))=CL,(rows.map λus=>PV.bl (!(dU us==0)))=BL at *;simp! [bW,aJ,aL,aM,aK,aF,aI,e2,e3,q3,aE,aR,aS,kQ,bI,bT,bK,bX,d1,d2,a1,f1,f2]
theorem aax(L M:AM)(h:L.length+M.length<=100):aF (.lst L) (.lst M)=some (.lst (L++M)):=by
 show(if L.length+M.length<=16777216 then some (PV.lst (L++M))else none)=_;rw[if_pos (by omega)]
abbrev oE:MS:=(aO (aW 5 (aA 2)) (aO (aW 6 (bA dG [] (aC (aA 1) (aC (mC (.int 32)) aD)))) (aO (bN (aZ (aB bJ (aA 6) (mC (.int 0)))) (aW 5 (aB dN (mC (.int 5)) (aA 2))) bP) (aO (aW 7 (bA qT [] (aC (aA 1) (aC (aA 5) aD)))) (aO (bN (aZ (aB bJ (aA 6) (mC (.int 1)))) (aW 7 (dF (aA 7) (bQ (mC (.int 1))) bR)) bP) (aO (bN (aZ (aB bJ (aA 6) (mC (.int 2)))) (aW 7 (aB aF (aA 7) (dF (aA 7) bR (bQ (mC (.int 1)))))) bP) (eI (fM (aA 3) (aC (bA qJ [] (aC (aA 1) (aC (aA 7) aD))) aD)))))))))
theorem D6{n:Nat}(hn:n=2\/n=3)(ns:AE){Ws:List (List Nat)}(w9:Ws.length<=90)(x0 x4 x5 x6 x7:AO):∃(l:List Nat)(ns':AE)(y5 y6 y7:AO),oE [x0,some (.ref 0),some (.pv (.int (n:Int))),some (.ref 1),x4,x5,x6,x7,none,none,none,none] [.lst (li ns),.lst (Ws.map sv)]=.nx [x0,some (.ref 0),some (.pv (.int (n:Int))),some (.ref 1),x4,y5,y6,y7,none,none,none,none] [.lst (li ns'),.lst ((Ws++[l]).map sv)]/\fQ 1015 l:=by
 obtain⟨v,n1,e1,_,_⟩:=lW (R:=[.lst (Ws.map sv)]) ns (m:=32) (by decide) (by decide);obtain⟨m,hm,s3⟩:∃m:Nat,(m=2\/m=3)/\(bN (aZ (aB bJ (aA 6) (mC (.int 0)))) (aW 5 (aB dN (mC (.int 5)) (aA 2))) bP) [x0,some (.ref 0),some (.pv (.int (n:Int))),some (.ref 1),x4,some (.pv (.int (n:Int))),some (.pv (.int v)),x7,none,none,none,none] [.lst (li n1),.lst (Ws.map sv)]=.nx [x0,some (.ref 0),some (.pv (.int (n:Int))),some (.ref 1),x4,some (.pv (.int (m:Int))),some (.pv (.int v)),x7,none,none,none,none] [.lst (li n1),.lst (Ws.map sv)]:=by
  cases h0:(v==0)with
  |true=>
   rcases hn with rfl |rfl
   .exact⟨3,.inr rfl,by simp! [bW,aJ,aL,aM,aK,aF,aI,h0]⟩
   .exact⟨2,.inl rfl,by simp! [bW,aJ,aL,aM,aK,aF,aI,h0]⟩
  |false=>exact⟨n,hn,by simp! [bW,aJ,aL,aM,aK,aF,aI,h0]⟩
 obtain⟨P,n2,e2,pl,gp⟩:=Vt hm (W:=.lst (Ws.map sv)) n1;have p4:P.length<=4:=by omega
 obtain⟨Q,hq,q5,s5⟩:∃Q:AF,(∀p∈Q,p∈P)/\Q.length<=4/\(bN (aZ (aB bJ (aA 6) (mC (.int 1)))) (aW 7 (dF (aA 7) (bQ (mC (.int 1))) bR)) bP) [x0,some (.ref 0),some (.pv (.int (n:Int))),some (.ref 1),x4,some (.pv (.int (m:Int))),some (.pv (.int v)),some (.pv (.lst (P.map tv))),none,none,none,none] [.lst (li n2),.lst (Ws.map sv)]=.nx [x0,some (.ref 0),some (.pv (.int (n:Int))),some (.ref 1),x4,some (.pv (.int (m:Int))),some (.pv (.int v)),some (.pv (.lst (Q.map tv))),none,none,none,none] [.lst (li n2),.lst (Ws.map sv)]:=by
  cases h0:(v==1)with
  |true=>
   refine⟨P.drop 1,λp hp=>pk hp,by rw[jk];omega,?_⟩;have c:=Ho (P.map tv) (a:=1) (by rw[ar];omega);rw[<-l8]at c;have c:fT (.lst (P.map tv)) (some 1) none=some (.lst ((P.drop 1).map tv)):=c;generalize Ws.map sv=WL,(P.drop 1).map tv=QL,P.map tv=PL at *;simp! [bW,aJ,aL,aM,aK,aF,aI,h0,dF,bR,bQ,cW,c]
  |false=>
   refine⟨P,λp hp=>hp,p4,?_⟩;generalize Ws.map sv=WL,P.map tv=PL at *;simp! [bW,aJ,aL,aM,aK,aF,aI,h0]
 obtain⟨U,hu,u5,s6⟩:∃U:AF,(∀p∈U,p∈P)/\U.length<=5/\(bN (aZ (aB bJ (aA 6) (mC (.int 2)))) (aW 7 (aB aF (aA 7) (dF (aA 7) bR (bQ (mC (.int 1)))))) bP) [x0,some (.ref 0),some (.pv (.int (n:Int))),some (.ref 1),x4,some (.pv (.int (m:Int))),some (.pv (.int v)),some (.pv (.lst (Q.map tv))),none,none,none,none] [.lst (li n2),.lst (Ws.map sv)]=.nx [x0,some (.ref 0),some (.pv (.int (n:Int))),some (.ref 1),x4,some (.pv (.int (m:Int))),some (.pv (.int v)),some (.pv (.lst (U.map tv))),none,none,none,none] [.lst (li n2),.lst (Ws.map sv)]:=by
  cases h0:(v==2)with
  |true=>
   by_cases hz:Q=[]
   .subst hz
    refine⟨[],λp hp=>(nomatch hp),by simp,?_⟩;have c:fT (.lst []) none (some 1)=some (.lst []):=by kernel_rfl
    have d:aF (.lst []) (.lst [])=some (.lst []):=by kernel_rfl
    rw[gj];generalize Ws.map sv=WL at *;simp! [bW,aJ,aL,aM,aK,aF,aI,h0,dF,bR,bQ,cW,c,d]
   .have q1:1<=Q.length:=by cases Q with
     |nil=>exact absurd rfl hz
     |cons a b=>rw[bq];omega
    refine⟨Q++Q.take 1,λp hp=>?_,by rw[bn,kr];omega,?_⟩
    .rcases cm.mp hp with z |z
     .exact hq p z
     .exact hq p (xo z)
    .have c:=aai (Q.map tv) (a:=1) (by rw[ar];omega)
     rw[<-List.map_take]at c;have c:fT (.lst (Q.map tv)) none (some 1)=some (.lst ((Q.take 1).map tv)):=c;have d:=aax (Q.map tv) ((Q.take 1).map tv) (by rw[ar,ar,kr];omega);rw[<-kz]at d;generalize Ws.map sv=WL,Q.map tv=QL,(Q.take 1).map tv=TL,(Q++Q.take 1).map tv=UL at *;simp only[bN,aZ,aB,aA,mC,dF,bR,bQ,cW,aW,fJ,rd,fG,bO.bind,jC,cS.of,bJ,bW,h0,c,d,List.getElem?_cons_succ,List.getElem?_cons_zero,pr,Option.bind_some,ix,gf,↓reduceIte]
  |false=>
   refine⟨Q,hq,by omega,?_⟩;generalize Ws.map sv=WL,Q.map tv=QL at *;simp! [bW,aJ,aL,aM,aK,aF,aI,h0]
 obtain⟨l,n3,e3,al⟩:=Tz hm (W:=.lst (Ws.map sv)) n2 (P:=U) (λp hp=>gp p (hu p hp)) u5;refine⟨l,n3,some (.pv (.int (m:Int))),some (.pv (.int v)),some (.pv (.lst (U.map tv))),?_,al⟩;have es:(Ws++[l]).map sv=Ws.map sv++[sv l]:=by simp
 have lz:(Ws.map sv).length<16777216:=by rw[ar];omega
 rw[es];have hs:(PV.str (tx l))=sv l:=rfl;rw[hs]at e3;clear hq hu gp al pl p4 u5 q5 es;generalize (n:Int)=NN,(m:Int)=MM,Ws.map sv=WL,P.map tv=PL,Q.map tv=QL,U.map tv=UL,sv l=LV at *;unfold oE;apply sq;simp! [bW,aJ,aL,aM,aK,aF,aI];exact⟨rfl,rfl⟩;apply sq;simp! [bW,aJ,aL,aM,aK,aF,aI,e1];exact⟨rfl,rfl⟩;refine sq s3 ?_;apply sq;simp! [bW,aJ,aL,aM,aK,aF,aI,e2];exact⟨rfl,rfl⟩;refine sq s5 ?_;refine sq s6 ?_;simp! [bW,aJ,aL,aM,aK,aF,aI,fM,eX,kM,e3,lz]
theorem Vi{n:Nat}(hn:n=2\/n=3)(x0:AO):∀(is:AM)(Ws:List (List Nat))(ns:AE)(x4 x5 x6 x7:AO),Ws.length+is.length<=90->(∀l∈Ws,fQ 1015 l)->∃(Ws':List (List Nat))(ns':AE)(y4 y5 y6 y7:AO),dR [] (gN 4) oE is [x0,some (.ref 0),some (.pv (.int (n:Int))),some (.ref 1),x4,x5,x6,x7,none,none,none,none] [.lst (li ns),.lst (Ws.map sv)]=.nx [x0,some (.ref 0),some (.pv (.int (n:Int))),some (.ref 1),y4,y5,y6,y7,none,none,none,none] [.lst (li ns'),.lst (Ws'.map sv)]/\Ws'.length=Ws.length+is.length/\∀l∈Ws',fQ 1015 l
 |[],Ws,ns,x4,x5,x6,x7,_,h=>⟨Ws,ns,x4,x5,x6,x7,hJ,rfl,h⟩
 |i::is,Ws,ns,x4,x5,x6,x7,l9,h=>by
  have l9:Ws.length+(is.length+1)<=90:=l9;obtain⟨l,n1,y5,y6,y7,e1,al⟩:=D6 hn ns (Ws:=Ws) (by omega) x0 (some (.pv i)) x5 x6 x7;obtain⟨Ws',n2,z4,z5,z6,z7,e2,l2,g2⟩:=Vi hn x0 is (Ws++[l]) n1 (some (.pv i)) y5 y6 y7 (by rw[bn,je];omega) (λk hk=>by
   rcases cm.mp hk with z |z
   .exact h k z
   .have:k=l:=by simpa using z
    rw[this];exact al)
  refine⟨Ws',n2,z4,z5,z6,z7,?_,by rw[l2,bn,je,bq];omega,g2⟩;rw[fV];simp only[gN,ix,gf];rw[e1];exact e2
theorem Zv(ns:AE)(h:ns.length<=63):∃S,Qa [.pv (.lst (ns.map .int))] []=.ok (.pv (.bl true)) S:=by
 obtain⟨n0,e0,_⟩:=R8 ns [] h;have e0:oZ [.pv (.lst (ns.map .int))] []=.ok (.ref 0) [.lst (li n0)]:=e0;obtain⟨a,n1,e1,a0,a1⟩:=lW (R:=[]) n0 (m:=2) (by decide) (by decide);obtain⟨n,hn,en⟩:∃n:Nat,(n=2\/n=3)/\(2:Int)+a=n:=by
  have:a=0\/a=1:=by omega
  rcases this with rfl |rfl
  .exact⟨2,.inl rfl,rfl⟩
  .exact⟨3,.inr rfl,rfl⟩
 obtain⟨b,n2,e2,b0,b1⟩:=lW (R:=[.lst []]) n1 (m:=5) (by decide) (by decide);obtain⟨j,rfl⟩:=uf b0;obtain⟨Ws,n3,y4,y5,y6,y7,e3,l3,g3⟩:=Vi hn (some (.pv (.lst (ns.map .int)))) (dX 0 j) [] n2 none none none none (by unfold dX;simp;omega) (by simp);have l3:Ws.length=j:=by rw[l3];unfold dX;simp
 have ej:=Tk (s:=[32,43,32]) (Ls:=Ws) (B:=1015) (by decide) (λl hl=>(g3 l hl).2) (by omega) (by decide);rw[<-Fm]at ej;have aj:=uI (s:=[32,43,32]) (B:=1015) (by decide) g3;have rg:=sH [.lst (li n2),.lst []] (n:=j) (by omega);obtain⟨K,ak,s8⟩:∃K:List Nat,fQ 4200 K/\∀S1,(bN (aZ (aB bJ (mR bM (aC (aA 3) aD)) (mC (.int 0)))) (aW 8 (mC (.str "none"))) bP) [some (.pv (.lst (ns.map .int))),some (.ref 0),some (.pv (.int (n:Int))),some (.ref 1),y4,y5,y6,y7,some (.pv (.str (tx (jn [32,43,32] Ws)))),none,none,none] [.lst S1,.lst (Ws.map sv)]=.nx [some (.pv (.lst (ns.map .int))),some (.ref 0),some (.pv (.int (n:Int))),some (.ref 1),y4,y5,y6,y7,some (.pv (.str (tx K))),none,none,none] [.lst S1,.lst (Ws.map sv)]:=by
  cases h0:(((Ws.map sv).length:Int)==0)with
  |true=>
   refine⟨[110,111,110,101],⟨by decide,by decide⟩,λS1=>?_⟩;rw[<-R1];generalize ("none":Str)=NO,ns.map PV.int=NL,Ws.map sv=WL,tx (jn [32,43,32] Ws)=JL at *;simp! [bW,aJ,aL,aM,aK,aF,aI,h0]
  |false=>
   refine⟨jn [32,43,32] Ws,⟨aj.1,?_⟩,λS1=>?_⟩
   .have:=aj.2
    have z:([32,43,32]:List Nat).length=3:=rfl;rw[z]at this;have:=xw (1015+3) (show Ws.length<=4 by omega);omega
   .generalize tx (jn [32,43,32] Ws)=JL at*
    generalize ("none":Str)=NO,ns.map PV.int=NL,Ws.map sv=WL at *;simp! [bW,aJ,aL,aM,aK,aF,aI,h0]
 obtain⟨U,n4,e4,L,rfl,u1,u2⟩:=Ju (R:=[.lst (Ws.map sv)]) (am 4200) n3 (T:=tx K) ⟨K,rfl,ak.1,ak.2⟩;have te:=Ry (L:=L) ⟨u1,by omega⟩ [.lst (li n4),.lst (Ws.map sv)] (some (.pv (.lst (ns.map .int)))) (some (.ref 0)) (some (.pv (.int (n:Int)))) (some (.ref 1)) y4 y5 y6 y7;have s8:=s8 (li n3);have ej:lJ " + " [.lst (Ws.map sv)]=some (.str (tx (jn [32,43,32] Ws))):=ej;refine⟨[],?_⟩;have hbl:Za=(aO (aW 1 (pF oZ [] (aC (aA 0) aD))) (aO (aW 2 (aB aF (mC (.int 2)) (bA dG [] (aC (aA 1) (aC (mC (.int 2)) aD))))) (aO (aW 3 (gX aD)) (aO (dB (eV (aC (bA dG [] (aC (aA 1) (aC (mC (.int 5)) aD))) aD)) (gN 4) oE) (aO (aW 8 (jX (mC (.str " + ")) (aC (aA 3) aD))) (aO (bN (aZ (aB bJ (mR bM (aC (aA 3) aD)) (mC (.int 0)))) (aW 8 (mC (.str "none"))) bP) (aO (aW 8 (bA qU [] (aC (aA 1) (aC (aA 8) aD)))) wM))))))):=rfl;unfold Qa;rw[hbl];clear aj g3 ak u1 u2 l3;rw[gj]at e3;generalize (j:Int)=J,dX 0 j=IP,ns.map PV.int=NL,Ws.map sv=WL,tx L=TL,tx K=TK,tx (jn [32,43,32] Ws)=JL at *;have t4:(dB (eV (aC (bA dG [] (aC (aA 1) (aC (mC (.int 5)) aD))) aD)) (gN 4) oE) [some (.pv (.lst NL)),some (.ref 0),some (.pv (.int (n:Int))),some (.ref 1),none,none,none,none,none,none,none,none] [.lst (li n1),.lst []]=.nx [some (.pv (.lst NL)),some (.ref 0),some (.pv (.int (n:Int))),some (.ref 1),y4,y5,y6,y7,none,none,none,none] [.lst (li n3),.lst WL]:=by
  generalize oE=B1 at *;simp! [bW,aJ,aL,aM,aK,aF,aI,dB,eV,e2,rg,e3]
 generalize ("none":Str)=NO,(" + ":Str)=PL,oE=B1,wM=T1 at *;apply pM rfl;apply sq;simp! [bW,aJ,aL,aM,aK,aF,aI,hZ,e0];exact⟨rfl,rfl⟩;apply sq;simp! [bW,aJ,aL,aM,aK,aF,aI,e1,en];exact⟨rfl,rfl⟩;apply sq;simp! [bW,aJ,aL,aM,aK,aF,aI,gX,nP];exact⟨rfl,rfl⟩;refine sq t4 ?_;apply sq;simp! [bW,aJ,aL,aM,aK,aF,aI,jX,cH,ej];exact⟨rfl,rfl⟩;refine sq s8 ?_;apply sq;simp! [bW,aJ,aL,aM,aK,aF,aI,e4];exact⟨rfl,rfl⟩;exact te;simp[iS]
theorem hF_k{K:ae}{x:Str}{st:Stmt}{f:Addr}{oc:Value}{od an:AJ}{osl:Array AI}{kV doc pm cdv ct:Value}(a:cj K mainGlobals x=some (some (.ref f)):=by k_is)(l:K.lookup f=some ⟨oc,od,.func (dj x x (fW st) (dZ st) (cN st) .none kV doc pm an cdv ct),osl⟩:=by k_is)(c:jc K cdv x=true:=by k_is)(k:de K (.ref f)=true:=by k_is):HF K x st:=Y0 a l c k
theorem all_mk{l:ng}{w:ao}{K:ae}{h:Heap}{mg:Str->AI}{fa:Addr}(X:K.In h)(G:h.Ns mainGlobals mg)(hfa:mg "law"=some (.ref fa))
  (h33:HF K "_law_row" Xk)
  (h34:HF K "_law_take" Ij)
  (h35:HF K "_law_gcd" Tl)
  (h36:HF K "_law_lowest" Kf)
  (h49:HF K "_law_weighted" Xd)
  (h50:HF K "_law_mean_of" De)
  (h60:HF K "_law_points" Cg)
  (h39:HF K "_law_frac" Yj)
  (h58:HF K "_law_loose" Fh)
  (h59:HF K "_law_loose_points" Dc)
  (h56:HF K "_law_sign_at" Te)
  (h57:HF K "_law_spoilt" Of)
  (h51:HF K "_law_figures" Se)
  (h52:HF K "_law_number_of" Dd)
  (h53:HF K "_law_point_of" Pd)
  (h54:HF K "_law_corners_of" Rc)
  (h55:HF K "_law_heap_of" Bf)
  (h42:HF K "_law_dot" Sk)
  (h41:HF K "_law_cross" Ai)
  (h43:HF K "_law_turn" Fk)
  (h40:HF K "_law_gap" Pl)
  (h44:HF K "_law_det" Il)
  (h45:HF K "_law_simplex" Ve)
  (h30:HF K "read_rows" Vd)
  (h25:HF K "refuse_unless" Gc)
  (h26:HF K "read_whole" Cd)
  (h7:HF K "sign" Ol)
  (h8:HF K "divisor" Zf)
  (h27:HF K "read_number" Pc)
  (h9:HF K "reduced" Ah)
  (h13:HF K "point_at" Fe)
  (h28:HF K "read_point" Jd)
  (h29:HF K "read_corners" Jc)
  (h14:HF K "whole_arrow" Yc)
  (h15:HF K "dot" Cn)
  (h16:HF K "normal" Ni)
  (h17:HF K "determinant" Oc)
  (h18:HF K "side" Mk)
  (h20:HF K "simplex" Tg)
  (h31:HF K "read_heap" Qd)
  (h61:HF K "_law_asked" Hh)
  (h37:HF K "_law_whole" Yh)
  (h38:HF K "_law_wholes" Jg)
  (h46:HF K "_law_point_form" Tc)
  (h47:HF K "_law_simplex_form" Ec)
  (h48:HF K "_law_heap_form" Hd)
  {f10:Addr}{od10 an10:AJ}{sl10:Array AI}{oc10 kV10 dc10 pm10 cd10 ct10:Value}
  {T10:Addr}{tc10:Value}{td10:AJ}{tl10:Array AI}{tn10:Nat}{tt10:dq}
  (a10:cj K mainGlobals "fraction"=some (some (.ref f10)))(l10:K.lookup f10=some ⟨oc10,od10,.func (dj "fraction" "fraction" (fW qQ) (dZ qQ) (cN qQ) (.ref T10) kV10 dc10 pm10 an10 cd10 ct10),sl10⟩)(c10:jc K cd10 "fraction"=true)(k10:de K (.ref f10)=true)
  (t10:K.lookup T10=some ⟨tc10,td10,.seq #[.int 1 tt10] tn10,tl10⟩)
  {f12:Addr}{od12 an12:AJ}{sl12:Array AI}{oc12 kV12 dc12 pm12 cd12 ct12:Value}
  {T12:Addr}{tc12:Value}{td12:AJ}{tl12:Array AI}{tn12:Nat}{tt12:dq}
  (a12:cj K mainGlobals "point"=some (some (.ref f12)))(l12:K.lookup f12=some ⟨oc12,od12,.func (dj "point" "point" (fW rB) (dZ rB) (cN rB) (.ref T12) kV12 dc12 pm12 an12 cd12 ct12),sl12⟩)(c12:jc K cd12 "point"=true)(k12:de K (.ref f12)=true)
  (t12:K.lookup T12=some ⟨tc12,td12,.seq #[.int 1 tt12] tn12,tl12⟩)
  {f62:Addr}{od62 an62:AJ}{sl62:Array AI}{oc62 kV62 dc62 pm62 cd62 ct62:Value}
  (a62:cj K mainGlobals "law"=some (some (.ref f62)))(l62:K.lookup f62=some ⟨oc62,od62,.func (dj "law" "law" (fW mT) (dZ mT) (cN mT) .none kV62 dc62 pm62 an62 cd62 ct62),sl62⟩)(c62:jc K cd62 "law"=true)(k62:de K (.ref f62)=true)
  (z1:cj K mainGlobals "abs"=some none)
  (z2:cj K mainGlobals "all"=some none)
  (z3:cj K mainGlobals "bool"=some none)
  (z4:cj K mainGlobals "enumerate"=some none)
  (z5:cj K mainGlobals "int"=some none)
  (z6:cj K mainGlobals "isinstance"=some none)
  (z7:cj K mainGlobals "len"=some none)
  (z8:cj K mainGlobals "list"=some none)
  (z9:cj K mainGlobals "range"=some none)
  (z10:cj K mainGlobals "sorted"=some none)
  (z11:cj K mainGlobals "str"=some none)
  (z12:cj K mainGlobals "sum"=some none)
  (z13:cj K mainGlobals "tuple"=some none)
  (z14:cj K mainGlobals "zip"=some none)
  {C1 C2 C3 C4 C5:Addr}
  (y1:cj K mainGlobals "Flat"=some (some (.ref C1)))(x1:cw K C1 eW "ValueError.__new__"=true)
  (y2:cj K mainGlobals "HallError"=some (some (.ref C2)))(x2:cw K C2 eW "ValueError.__new__"=true)
  (y3:cj K mainGlobals "NoNumber"=some (some (.ref C3)))(x3:cw K C3 eW "ValueError.__new__"=true)
  (y4:cj K mainGlobals "NoPoint"=some (some (.ref C4)))(x4:cw K C4 eW "ValueError.__new__"=true)
  (y5:cj K mainGlobals "NoText"=some (some (.ref C5)))(x5:cw K C5 eW "ValueError.__new__"=true)
  (u1C1:ji K (.ref C1) "__getattribute__"=some (some (.builtin "BaseException.__getattribute__")))(u2C1:ji K (.ref C1) "__getattr__"=some none)(u3C1:jj K C1 (.type "BaseException")=some true)(u4C1:jj K C1 (.type "object")=some true)
  (u5C1:ji K (.ref C1) "__class__"=some (some (.builtin "object.__class__")))(u6C1:qh K (.builtin "object.__class__") "__get__"=some (some (.builtin "getset_descriptor.__get__")))(u7C1:vg K (.builtin "object.__class__")=some true)(u8C1:vf K C1=true)
  (u1C5:ji K (.ref C5) "__getattribute__"=some (some (.builtin "BaseException.__getattribute__")))(u2C5:ji K (.ref C5) "__getattr__"=some none)(u3C5:jj K C5 (.type "BaseException")=some true)(u4C5:jj K C5 (.type "object")=some true)
  (u5C5:ji K (.ref C5) "__class__"=some (some (.builtin "object.__class__")))(u6C5:qh K (.builtin "object.__class__") "__get__"=some (some (.builtin "getset_descriptor.__get__")))(u7C5:vg K (.builtin "object.__class__")=some true)(u8C5:vf K C5=true)
  (wFlat_HallError:fv K (.ref C1) (.ref C2)=some true)
  (wNoText_Flat:fv K (.ref C5) (.ref C1)=some false)
  (wNoText_HallError:fv K (.ref C5) (.ref C2)=some true)
  (wtC5:su K (.ref C5)=some (.type "type"))(wnC1_C5:jj K C1 (.ref C5)=some false)
  {gk1:dq}
  {gk2:dq}
  {gk3:dq}
  (v1:cj K mainGlobals "FIGURES"=some (some (.str "0123456789" gk1)))
  (v2:cj K mainGlobals "MOST_FIGURES"=some (some (.int 60 gk2)))
  (v3:cj K mainGlobals "NOTHING"=some (some (.str "none" gk3)))
  :∃fd:bh,(∀(s:aa)(v:Value),mn s fd ⟨[v],[]⟩ [("_law_script",v)])/\∀base:Heap,K.In base->base.Ns mainGlobals mg->dJ l.prog w K mg base fR 9 fa fd ["_law_script"] (vJ K):=by
 let cl:Str->Addr:=λn=>if n="Flat" then C1 else if n="HallError" then C2 else if n="NoNumber" then C3 else if n="NoPoint" then C4 else if n="NoText" then C5 else 0
 have e:=hfa.symm.trans (ie X G a62);cases e;have F10:=Jj (st:=qQ) l10 c10 k10 t10 rfl;have b10:=F10.binds (ps:=["top","bottom"]) (dd:=[]) λ_ _ _ _ _ _ _ us hl=>match us,hl with |[_,_],_=>⟨_,rfl,rfl⟩
 have n10:=ie X G a10;have F12:=Jj (st:=rB) l12 c12 k12 t12 rfl;have b12:=F12.binds (ps:=["numbers","bottom"]) (dd:=[]) λ_ _ _ _ _ _ _ us hl=>match us,hl with |[_,_],_=>⟨_,rfl,rfl⟩
 have n12:=ie X G a12;have F62:=Pk (st:=mT) l62 c62 k62;have m:Mg mg:=⟨gh X G z1,gh X G z2,gh X G z3,gh X G z4,gh X G z5,gh X G z6,gh X G z7,gh X G z8,gh X G z9,gh X G z10,gh X G z11,gh X G z12,gh X G z13,gh X G z14⟩;have gt_FIGURES:nV K mg "FIGURES" (.str "0123456789"):=⟨_,.str "0123456789",ie X G v1,⟨_,rfl⟩,Fi⟩;have gt_MOST_FIGURES:nV K mg "MOST_FIGURES" (.int 60):=⟨_,.int 60,ie X G v2,⟨_,rfl⟩,E9⟩;have gt_NOTHING:nV K mg "NOTHING" (.str "none"):=⟨_,.str "none",ie X G v3,⟨_,rfl⟩,Fi⟩;refine⟨dj "law" "law" (fW mT) (dZ mT) (cN mT) .none kV62 dc62 pm62 an62 cd62 ct62,λs v=>.of_eq rfl,λbase _ _=>?_⟩
 let B:Bx:=⟨l.prog,w,K,mg,base,cl⟩
 have Xg:XG B.K B.mg:=⟨h,X,G⟩;have m:Mg B.mg:=m;have q_Flat:B.mg "Flat"=some (.ref (B.cl "Flat")):=ie X G y1;have x_Flat:cw B.K (B.cl "Flat") eW "ValueError.__new__"=true:=x1;have q_HallError:B.mg "HallError"=some (.ref (B.cl "HallError")):=ie X G y2;have x_HallError:cw B.K (B.cl "HallError") eW "ValueError.__new__"=true:=x2;have q_NoNumber:B.mg "NoNumber"=some (.ref (B.cl "NoNumber")):=ie X G y3;have x_NoNumber:cw B.K (B.cl "NoNumber") eW "ValueError.__new__"=true:=x3;have q_NoPoint:B.mg "NoPoint"=some (.ref (B.cl "NoPoint")):=ie X G y4;have x_NoPoint:cw B.K (B.cl "NoPoint") eW "ValueError.__new__"=true:=x4;have q_NoText:B.mg "NoText"=some (.ref (B.cl "NoText")):=ie X G y5;have x_NoText:cw B.K (B.cl "NoText") eW "ValueError.__new__"=true:=x5;have Z_Flat:jL B.K (B.cl "Flat"):=⟨u1C1,u2C1,u3C1,u4C1,u5C1,u6C1,u7C1,(by obtain⟨cd,hc,_⟩:=m7 u8C1;show(m8 K C1).isSome=true;rw[hc];rfl)⟩;have Z_NoText:jL B.K (B.cl "NoText"):=⟨u1C5,u2C5,u3C5,u4C5,u5C5,u6C5,u7C5,(by obtain⟨cd,hc,_⟩:=m7 u8C5;show(m8 K C5).isSome=true;rw[hc];rfl)⟩;have C33:=Wz Xg m h33;have C34:=Gw Xg m h34;have C35:=D5 Xg m h35;have C36:=Nr Xg m h36 C35;have C49:=Dq Xg m h49 C36;have C50:=Zq Xg m h50 C49;have C60:=Gr Xg m h60 C34 C36 C50;have C39:=Bw Xg m h39 C36;have C58:=Qs Xg m h58 C39 C34;have C59:=Cp Xg m h59 C34 C58;have C56:=Nq Xg m h56 C34;have C57:=Hs Xg m h57 C34 C56;have C51:=Vq Xg m h51;have C52:=Vp Xg m h52 C51 C39;have C53:=Cq Xg m h53 C52 C36;have C54:=Op Xg m h54 C53;have C55:=Dr Xg m h55 C54;have C42:=F4 Xg m h42;have C41:=Tt Xg m h41;have C43:=Rv Xg m h43 C42 C41;have C40:=Cz Xg m h40;have C44:=E2 Xg m h44 C43 C40;have C45:=Cr Xg m h45 C44;have C30:=Bq Xg m h30 gt_NOTHING;have H25:=Bp Xg m h25 q_NoText x_NoText;have H26:=Wp Xg m h26 H25 gt_FIGURES gt_MOST_FIGURES;have C7:=G0 Xg m h7;have C8:=Js Xg m h8;have G10:=Uq Xg m F10 C7 C8 q_NoNumber x_NoNumber;have H10:Od B:=Jb G10 b10 k10 n10;have H27:=Kp Xg m h27 H25 H26 H10;have C9:=Fr Xg m h9 C8;have G12:=Gx Xg m F12 C9 C7 q_NoPoint x_NoPoint;have H12:Dh B:=Jb G12 b12 k12 n12;have C13:=Qq Xg m h13 H12;have H28:=Yp Xg m h28 H27 H25 C13;have H29:=Ep Xg m h29 H28 H25;have C14:=Lp Xg m h14;have C15:=K5 Xg m h15;have C16:=Xs Xg m h16;have C17:=Mp Xg m h17 C14 C15 C16;have C18:=Kz Xg m h18 C7 C17;have H20:=Mr Xg m h20 C18 q_Flat x_Flat;have H31:=Jq Xg m h31 C30 H29 H25 H20;have C61:=Ot Xg m h61 H31 q_Flat x_Flat q_HallError x_HallError q_NoText x_NoText Z_Flat Z_NoText wFlat_HallError wNoText_Flat wNoText_HallError wtC5 wnC1_C5;have C37:=Ys Xg m h37;have C38:=Tr Xg m h38 C37;have C46:=Jp Xg m h46 C38 C36;have C47:=Ap Xg m h47 C46 C44 C45;have C48:=Aq Xg m h48 C47;exact(Q4 Xg m F62 C33 C34 C60 C59 C57 C55 C44 C45 C61 C48).imp λvs H Q E h=>Ky Zv h
theorem walk{l:ng}{q:Program}{loose:List Str}{XP:(Str->AI)->Heap->Prop}{YP:ao->Heap->Prop}{d:DefRec}{K:lv->ae}(hn:l.most=some 63)(hdf:d.params.defaults=[])
  (hY:∀(w:ao)(h:Heap),YP w h->(K w.params).In h)
  (F:∀(w:ao)(mg:Str->AI)(fa:Addr)(h:Heap),(K w.params).In h->h.Ns mainGlobals mg->mg d.name=some (.ref fa)->
   ∃fd:bh,(∀(s:aa)(u:Value),mn s fd ⟨[u],[]⟩ [("_law_script",u)])/\∀base:Heap,(K w.params).In base->base.Ns mainGlobals mg->dJ l.prog w (K w.params) mg base fR 9 fa fd ["_law_script"] (vJ (K w.params))):
  PySem.W.WalkO q loose XP YP l.row.toRowW d [] (λf vs=>wd f vs):=
 L2.walk_of (n:=63) (k:=9) (x:="_law_script") (CX:=λ_=>fR) (sp:=λw=>vJ (K w.params)) hn (by decide) hdf ⟨rfl,by decide,by decide⟩ hY F (λ_ _ a ns hl _ hS=>⟨a,ns,rfl,hS,hl,λ_=>rfl⟩) λ_ _ _ _ _ z=>z
end
end Sc
open PySem PySem.W PyProof.Rows
set_option maxRecDepth 100000 in
set_option maxHeartbeats 0 in
theorem PySem.Challenge.cw_scissorhall_k84_heaps_read_holds : PySem.Challenge.rw_scissorhall_k84_heaps_read.Holds := by
 w_on; refine holds_law Sc.wsaid λsaid=>?_
 refine holds_open (q:=Sc.VW) (loose:=[cc "fraction",cc "point"]) (Xt:=λs=>xlAt Sc.VW [] s && recOk (ui (uj (uk ny))) s) (XP:=XL Sc.VW []) (Yf:=ug (kHook Sc.KK Sc.KA Sc.KE)) (Ya:=uh (kHook Sc.KK Sc.KA Sc.KE)) (YP:=Hook.says (kHook Sc.KK Sc.KA Sc.KE)) (N:=5152) Sc.left (Hook.of (kHook Sc.KK Sc.KA Sc.KE)) (Hook.keeps (kHook Sc.KK Sc.KA Sc.KE)) (λs e=>xl_of s (m9.mp e).1) XL.keeps (by rfl) (by rfl) (by rfl) (λs e=>recFacts_of (m9.mp e).2) (by rfl) (by first | assumption | decide +kernel) (by decide +kernel) ⟨rfl,rfl,rfl,rfl,rfl,by decide +kernel⟩ ?hw ?hc
 case hw=>w_witness2
 k_fill
 refine Sc.walk (l:=ny) rfl rfl (λw h Y=>PySem.W.kIn_of Y) ?F
 case F =>
  intro w mg fa h KX G hmg;refine' Sc.all_mk KX G hmg Sc.hF_k Sc.hF_k Sc.hF_k Sc.hF_k Sc.hF_k Sc.hF_k Sc.hF_k Sc.hF_k Sc.hF_k Sc.hF_k Sc.hF_k Sc.hF_k Sc.hF_k Sc.hF_k Sc.hF_k Sc.hF_k Sc.hF_k Sc.hF_k Sc.hF_k Sc.hF_k Sc.hF_k Sc.hF_k Sc.hF_k Sc.hF_k Sc.hF_k Sc.hF_k Sc.hF_k Sc.hF_k Sc.hF_k Sc.hF_k Sc.hF_k Sc.hF_k Sc.hF_k Sc.hF_k Sc.hF_k Sc.hF_k Sc.hF_k Sc.hF_k Sc.hF_k Sc.hF_k Sc.hF_k Sc.hF_k Sc.hF_k Sc.hF_k Sc.hF_k Sc.hF_k ?a10 ?l10 ?c10 ?k10 ?t10 ?a12 ?l12 ?c12 ?k12 ?t12 ?a62 ?l62 ?c62 ?k62 ?z1 ?z2 ?z3 ?z4 ?z5 ?z6 ?z7 ?z8 ?z9 ?z10 ?z11 ?z12 ?z13 ?z14 ?y1 ?x1 ?y2 ?x2 ?y3 ?x3 ?y4 ?x4 ?y5 ?x5 ?u1C1 ?u2C1 ?u3C1 ?u4C1 ?u5C1 ?u6C1 ?u7C1 ?u8C1 ?u1C5 ?u2C5 ?u3C5 ?u4C5 ?u5C5 ?u6C5 ?u7C5 ?u8C5 ?wFlat_HallError ?wNoText_Flat ?wNoText_HallError ?wtC5 ?wnC1_C5 ?v1 ?v2 ?v3
  (case a10 | l10 | c10 | k10 | t10 | a12 | l12 | c12 | k12 | t12 | a62 | l62 | c62 | k62 | z1 | z2 | z3 | z4 | z5 | z6 | z7 | z8 | z9 | z10 | z11 | z12 | z13 | z14 | y1=>k_is)
  (case x1=>k_exc)
  (case y2=>k_is)
  (case x2=>k_exc)
  (case y3=>k_is)
  (case x3=>k_exc)
  (case y4=>k_is)
  (case x4=>k_exc)
  (case y5=>k_is)
  (case x5=>k_exc)
  (case u1C1 | u2C1 | u3C1 | u4C1 | u5C1 | u6C1 | u7C1 | u8C1 | u1C5 | u2C5 | u3C5 | u4C5 | u5C5 | u6C5 | u7C5 | u8C5=>k_is)
  (case wFlat_HallError | wNoText_Flat | wNoText_HallError=>kit_is)
  (case wtC5 | wnC1_C5 | v1 | v2 | v3=>k_is)
#print axioms PySem.Challenge.cw_scissorhall_k84_heaps_read_holds
