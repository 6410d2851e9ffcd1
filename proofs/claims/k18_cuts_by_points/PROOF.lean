import PyProof.Rows.All
import KE.KFromBytes
import KE.KIsAll
import PyProof.EqAt
import PyProof.EqKinds
import PyProof.TupleCall
import PyProof.ZipIter
import PyProof.Draws
import PyProof.CompFree
import PyProof.NeKinds
import PyProof.NsDelKeeps
import PyProof.ExcArgsOwn
import PyProof.ExcAttrAll.ValueError
import KE.KSortTup
import PyProof.DictRoadsH
import Wide.Seal
import KE.KIntText
import PyProof.FitsReplace
import PyProof.StrWalks
import PyProof.CompMap
import KE.KDictList
import PySem.Challenge.RW_scissorhall_k18_cuts_by_points
set_option Elab.async false
set_option compiler.extract_closed false
set_option bootstrap.genMatcherCode false
set_option maxRecDepth 100000
set_option maxHeartbeats 0
open Array renaming length_toList->iz,toList->ss,append_assoc->ww
open Bool renaming false_ne_true->fu,and_eq_true->gj,eq_iff_iff->uu,not_eq_true'->zb,and_eq_true_iff->i7
open Classical renaming propDecidable->qv
open False renaming elim->ja
open ForInStep renaming yield->ym
open Int renaming gcd->cr,mul_pos->cu,mul_comm->ee,neg_mul->kq,mul_zero->kr,mul_neg->mf,one_mul->mj,toNat_natCast->ny,le_refl->oh,mul_ne_zero->oi,mul_ediv_cancel_left->oj,mul_one->pw,natAbs_mul->qi,fdiv_eq_ediv_of_dvd->qk,le_of_lt->ql,zero_add->wd,mul_neg_of_pos_of_neg->wj,ne_of_gt->wk,add_zero->wm,natAbs_neg->ye,sub_eq_add_neg->yf,natCast_nonneg->yh,gcd_mul_left->yi,gcd_zero_left->yj,pos_of_mul_pos_left->yk,fmod_nonneg_of_pos->d4,natCast_mul->d6,mul_nonneg->d8,mul_eq_zero->f6
open List renaming length_map->ai,size_toArray->aq,map_cons->ar,getElem?_eq_getElem->aw,mem_cons->ay,range->az,getElem?_eq_some_iff->bf,length_append->bi,mem_append->bj,mem_cons_of_mem->bo,zipWith->br,length_cons->ca,mem_cons_self->ce,getD->cf,map_nil->cg,getElem?_map->ci,set_cons_zero->cx,replicate->da,mem_of_getElem?->db,not_mem_nil->de,getElem?_set_self->dg,lookup_cons->dh,mem_append_right->dj,length_set->dk,getElem?_append_right->dn,getElem?_set_ne->dq,getElem_mem->du,nil_append->dw,getElem?_append_left->dz,set_cons_succ->ff,map_append->fh,mem_map->gg,append_nil->ib,append_assoc->ie,cons_append->iu,mem_append_left->iw,map_map->ix,map_congr_left->jc,sum_cons->jf,length_take->ji,prefix_rfl->jn,length_zipWith->jo,length_singleton->ju,all_eq_true->jv,set_set->jy,zipWith_cons_cons->jz,sum_nil->ka,nodup_cons->kl,length->km,replicate_succ->kn,toArray->ku,count_cons->kw,flatten_cons->lh,ext_getElem?->mx,zipWith_nil_left->my,map_set->ng,getElem_of_mem->oq,mem_map_of_mem->ow,mem_range->pb,any_cons->qg,foldl->qh,map_id->qm,getElem?_take->qx,nodup_append->qy,eraseIdx_set_eq->rm,count_append->rn,filterMap_cons->sk,mem_filterMap->sy,of_mem_zip->tq,length_drop->ue,all_cons->uh,forIn_cons->uq,forIn_nil->uz,length_range->vb,drop_eq_getElem_cons->vd,drop_length->ve,take_length->vf,length_eq_zero_iff->vn,length_pos_iff->vp,min?_eq_some_iff->vq,take_of_length_le->vz,getElem_zipWith->we,mem_or_eq_of_mem_set->wl,count_nil->wn,mem_filter->wz,any_eq_false->xi,getElem?_replicate->xp,mem_iff_getElem->yp,zipIdx_cons->yw,zipIdx_nil->yx,getElem?_eq_none->ze,getElem?_zipWith->zf,getElem_toArray->zg,any_eq_true->zt,ext_getElem->zu,map_inj_right->zx,set_getElem_self->zz,eq_nil_of_length_eq_zero->a6,range_eq_range'->a8,max?_eq_some_iff->c7,getD_eq_getElem?_getD->d5,range_succ_eq_map->d7,countP_cons->g7,mem_singleton->i4,length_nil->i5,count_eq_zero->i6
open List.cons renaming injEq->f7
open Nat renaming le_refl->am,ne_of_lt->cj,lt_of_lt_of_le->cy,le_trans->gh,sub_self->gv,lt_irrefl->gw,zero_le->ig,ne_of_gt->la,le_of_lt->ni,le_succ->og,add_zero->ot,lt_of_le_of_lt->qj,lt_succ_self->qw,lt_succ_of_lt->re,two_pow_pos->rk,le_of_eq->um,pow_le_pow_right->uo,eq_zero_or_pos->yg,exists_eq_add_of_le->zd,le_succ_of_le->zw,min_eq_left->zy,lt_of_succ_lt_succ->a7
open Ne renaming symm->gi
open Option renaming map_some->wg,getD_none->xx,getD_some->zq
open Option.some renaming inj->ck
open Or renaming inl->gn,inr->gr
open PyProof.Rows renaming AllBare->iy,IntsAre->ko,callWith_type1->nr,slot_tuple_getitem->qc,assignInOrder_cons->sv,get?_update_seq->vj,subscriptTail_builtinR->xu
open PyProof.Rows.IsTup renaming new->pr
open PySem renaming Shared->aa,Expr->af,wpAny_bind->ag,Pos->ah,World->aj,Around->ak,Env->av,wpAny_pure->ax,FuncData->bn,IsPair->di,NameKind->dy,IsZip->fk,Keyword->fv,wpAny_field->fw,mem_of_lookup->jb,Draws->jd,wpAny_mono->jg,wpAny_newObj_type->jh,Model->jp,CmpOp->jq,sizeLine_eq->jr,IsPart->jt,wpAny_seqItems->jx,Paired->kg,wpAny_holding->ki,wpAny_passesOwn->kj,Params->kx,wpAny_truthy_bool->ky,wpAny_rule->kz,BindsTo->lc,wpAny_call_entry->lg,call_meets->lq,wpAny_setField_rec->mn,PassesOwn->nj,Result->nv,wpAny_callSpecial?_slot->oa,wpAny_pyIter_list->om,wpAny_pyIter_tuple->oo,wpAny_execs_nil->pe,Operator->pf,wpAny_standAt->ph,codeAny_mono->pz,concat_meets->qa,wpAny_letGo->qp,wpAny_onRaise->qr,intItems_at->rf,numAt_eq->rh,wpAny_Name->sr,wpAny_Call_Name_kw->tm,noFill_tuple_add->tx,seq_tuple_add->tz,seqIndex_of->uf,seqIndex_neg->ug,typeIs_int->ui,call->ul,wpAny_setField->uv,wpAny_of_eq->uw,wpAny_updateSeq_pair->va,pushCells_keeps->vm,wpAny_loadPart'->vo,Within->wv,wpAny_loadName_local->xb,wpAny_loadName_cell->xc,wpAny_isTrue_Compare1->xh,wpAny_Call_method_late->yc,wpAny_comprehension_free->yn,codeAny_compStart_list->yo
open PySem.Builtin.Int renaming intBits->yl
open PySem.Builtin.List renaming listTooLong->lm
open PySem.Builtin.Slice renaming slicePlaces->qb,sliceAdjust->ud,sliceApplied->xq
open PySem.Builtin.SmallTypes renaming nextOf->jw,ownedTupleIsFree->qq,ownedTupleHandOut->yy
open PySem.Builtin.Tuple renaming tupleExact->qd,tupleHashOf->zc
open PySem.Calls renaming evalArgs_plain->uj,Name_function_global->xf,callWith_builtin->yd
open PySem.Challenge renaming pw_scissorhall_k18_cuts_by_points->ox,rw_scissorhall_k18_cuts_by_points->oy
open PySem.F renaming slot_tuple_iterator_next->qo,slot_zip_next->qu,plainAttrs_list->qz,slot_tuple_add->ua,entry_tuple_add->ub,args_tuple_add_2->uc,slot_list_append->uk,entry_tuple_iterator_next->yq,args_tuple_iterator_next_1->yr,entry_zip_next->yz,args_zip_next_1->za,type_list_append->zp,slot_list_iadd->a5,slot_tuple_index->c8
open PySem.Heap renaming get?_push_of_some->ao,lt_size->au,get?_push_size->cq,size_push->io,SameBut->kh,get?_update_ne->vk,get?_update_self->xv,get?_update_other->xw
open PySem.Heap.SameBut renaming update->yt
open PySem.NameKind renaming cell->dr,free->fe
open PySem.Obj renaming mapSeq->fz,data_mapFields->yu
open PySem.PassesOwn renaming never->vt,leaving->vw
open PySem.SeqAt renaming EqAt->jm,RcAt->mq
open PySem.SeqAt.EqAt renaming same->qe,int_str->wt,str_int->wu,bool_bool->xy,int_int->ya,str_str->yb,of_refs->zm
open PySem.SeqAt.RcAt renaming none_none->zh,bool_bool->zi,int_int->zj,str_str->zk,tuples->zl,lists->zn,lists_lengths->zo
open PySem.Str renaming ofString->ik
open PySem.Value renaming none->cw,ref->ft,type->ke,int->nh,bool->oz,str->rp
open PySem.W renaming Frag->ae,nsIn->df,fnOf->dm,keepIn->fg,mg_none_of->fm,kia_one->ia,kas_sort->ir,excIn->je,codeIn->jk,kitOne->lb,OpenLaw->lu,mg_of->ou,instObj->se,methodObj->sf,hideAll->si,hideAll_get->sj,lookIn->td,findIn->tf,kitx_list->tj,kat_nil->vh,kHook->wr,of_hideAll->xa,plainGet->xj,specialIn->xk,kitx_tuple->xl,kitx_dict->xn,cellsFrom_some->xo
open PySem.W.OpenLaw renaming row->wq,wellSaid->i8
open PySem.W.OpenRow renaming toRowW->wo
open PySem.Walks renaming list->ur,tuple->vg
open Std.Legacy.Range renaming forIn_eq_forIn_range'->i9,size->j0
open Sum renaming inl->kb,inr->kd
open True renaming intro->nu
abbrev AA:=List Int
abbrev AC:=List AA
abbrev AD:=List AC
abbrev AE:=List PySem.Value
abbrev AF:=Option PySem.Value
abbrev AG:=Option PySem.Addr
abbrev AH:=Option Int
namespace L2
open PySem
def fP(s:Stmt):Arguments:=match s with
 |.FunctionDef _ a _ _ _ _ _ _ _ _=>a
 |_=>{posonlyargs:=[],args:=[],vararg:=none,kwonlyargs:=[],kw_defaults:=[],kwarg:=none,defaults:=[]}
def dS(s:Stmt):List Stmt:=match s with
 |.FunctionDef _ _ b _ _ _ _ _ _ _=>b
 |_=>[]
def bU(s:Stmt):Scope:=match s with
 |.FunctionDef _ _ _ _ _ _ sc _ _ _=>sc
 |_=>{kind:=.function,names:=[],isGenerator:=false,isCoroutine:=false}
end L2
namespace Sc
noncomputable section
open PySem L2
def bC(i:Nat):Stmt:=ox.main.body.getD i (.Pass ⟨0,0,0,0⟩)
abbrev vs(s:String)(t:Nat):Value:=.str (ik s) t
abbrev vi(i:Int):Value:=.int i 0
abbrev vr(a:Nat):Value:=.ref a
abbrev fo(n:String)(i:Nat)(dV dc pm cd ct:Value):Obj:=⟨.type "function",none,.func (dm (ik n) (ik n) (fP (bC i)) (dS (bC i)) (bU (bC i)) dV .none dc pm none cd ct),#[]⟩
abbrev fc(l:AE):Obj:=⟨.type "code",none,.fields l.toArray,#[]⟩
abbrev Bo(n:String)(t l a r g:Nat)(x:AE):Obj:=fc (vs n t::vs n (t+1)::vs "/claim/cut.py" (t+2)::vi l::vi a::vi 0::vi 0::vi 3::vr r:: .bool true::vi g::vr (r+1):: .none::x)
abbrev fD(n:String)(t l a r g u:Nat):Obj:=Bo n t l a r g [vr (r+2),vr (r+3),vr (r+4),vi u,vi l,vs "/claim/cut.py" (u+1)]
abbrev eH(n:String)(t l a r g:Nat):Obj:=Bo n t l a r g [.none,.none,vr (r+2),vi (t+3),vi l,vs "/claim/cut.py" (t+4)]
abbrev fd(P:kx)(n:Nat)(l:List (String×Nat×Value)):Obj:=⟨.type "dict",none,.dict (l.map λe=>⟨PyData.keyHash P (ik e.1),.str (ik e.1) e.2.1,e.2.2⟩).toArray n,#[]⟩
abbrev vLq:Value:=vs "law_scissorhall_k18_cuts_by_points" 373
abbrev fzq (n:String)(i:Nat)(m:Value)(r:Nat):Obj:=fo n i .none .none m (vr r) .none
abbrev v0q:Value:=vs "scissorhall.points" 263
abbrev v1q:Value:=vs "scissorhall.cuts" 326
abbrev v2q:Value:=vs "scissorhall.lowest" 239
noncomputable def KK(P:kx):ae:=
 (nat_lit 3,fd P 59 [("__name__",165,vs "law_scissorhall_k18_cuts_by_points" 373),("__doc__",166,.none),("__package__",167,.none),("__loader__",168,(.builtin "__main__.__loader__#opaque")),("__spec__",169,.none),("__annotations__",170,vr 6),("__builtins__",171,vr 4),("__file__",173,vs "/claim/cut.py" 172),("__cached__",174,.none),("HallError",206,vr 24),("NoPoint",222,vr 37),("Flat",238,vr 49),("sign",247,vr 58),("divisor",256,vr 65),("reduced",262,vr 70),("point",271,vr 76),("whole_arrow",277,vr 81),("dot",283,vr 86),("normal",292,vr 93),("determinant",298,vr 98),("side",305,vr 105),("simplex",316,vr 112),("replaced",325,vr 119),("height",335,vr 126),("crossing",341,vr 131),("parted",354,vr 138),("heights_of",360,vr 143),("cut",372,vr 150),("_law_row",387,vr 157),("_law_take",396,vr 164),("_law_gcd",404,vr 171),("_law_lowest",410,vr 176),("_law_whole",417,vr 183),("_law_wholes",423,vr 188),("_law_joined",429,vr 193),("_law_gap",435,vr 198),("_law_cross",446,vr 205),("_law_dot",452,vr 210),("_law_turn",459,vr 217),("_law_det",465,vr 222),("_law_simplex",473,vr 229),("_law_gone",479,vr 234),("_law_point_form",487,vr 241),("_law_simplex_form",493,vr 246),("_law_heap_form",499,vr 251),("_law_raw",505,vr 256),("_law_raw_turn",511,vr 261),("_law_kuhn",523,vr 268),("_law_raw_heap",535,vr 275),("_law_far",541,vr 280),("_law_spot",547,vr 285),("_law_handed",555,vr 292),("_law_blade",561,vr 297),("_law_some_blade",575,vr 304),("_law_near",581,vr 309),("_law_place",594,vr 316),("_law_aside",600,vr 321),("_law_counted",606,vr 326),("law",612,vr 331)])::
 (nat_lit 23,fd P 3 [("__module__",196,vs "scissorhall.errors" 187),("__firstlineno__",200,(.int 2 199)),("__static_attributes__",201,vr 22),("__weakref__",203,vr 25),("__doc__",204,.none)])::
 (nat_lit 24,⟨(.type "type"),none,.cls {name:="HallError",bases:=[(.type "ValueError")],mro:=[vr 24,(.type "ValueError"),(.type "Exception"),(.type "BaseException"),(.type "object")],ns:=23,qualname:="HallError",hasDict:=true,subclasses:=[vr 37,vr 49]},#[some (vr 15),none,some (vs "HallError" 189),some (vs "HallError" 197),some (.builtin "ValueError.__new__"),some (.bool true)]⟩)::
 (nat_lit 36,fd P 2 [("__module__",214,vs "scissorhall.errors" 187),("__firstlineno__",218,(.int 4 217)),("__static_attributes__",219,vr 35),("__doc__",220,.none)])::
 (nat_lit 37,⟨(.type "type"),none,.cls {name:="NoPoint",bases:=[vr 24],mro:=[vr 37,vr 24,(.type "ValueError"),(.type "Exception"),(.type "BaseException"),(.type "object")],ns:=36,qualname:="NoPoint",hasDict:=true,subclasses:=[]},#[some (vr 28),none,some (vs "NoPoint" 207),some (vs "NoPoint" 215),some (.builtin "ValueError.__new__"),some (.bool true)]⟩)::
 (nat_lit 48,fd P 2 [("__module__",230,vs "scissorhall.errors" 187),("__firstlineno__",234,(.int 6 233)),("__static_attributes__",235,vr 47),("__doc__",236,.none)])::
 (nat_lit 49,⟨(.type "type"),none,.cls {name:="Flat",bases:=[vr 24],mro:=[vr 49,vr 24,(.type "ValueError"),(.type "Exception"),(.type "BaseException"),(.type "object")],ns:=48,qualname:="Flat",hasDict:=true,subclasses:=[]},#[some (vr 40),none,some (vs "Flat" 223),some (vs "Flat" 231),some (.builtin "ValueError.__new__"),some (.bool true)]⟩)::
 (nat_lit 57,fD "sign" 241 9 1 52 181 245)::
 (nat_lit 58,fzq "sign" 5 v2q 57)::
 (nat_lit 64,fD "divisor" 248 15 2 59 181 254)::
 (nat_lit 65,fzq "divisor" 6 v2q 64)::
 (nat_lit 69,eH "reduced" 257 21 1 66 181)::
 (nat_lit 70,fzq "reduced" 7 v2q 69)::
 (nat_lit 71,⟨.type "tuple",none,.seq #[(.int 1 265)] 0,#[]⟩)::
 (nat_lit 75,eH "point" 266 27 2 72 181)::
 (nat_lit 76,fo "point" 9 (vr 71) .none v0q (vr 75) .none)::
 (nat_lit 80,eH "whole_arrow" 272 31 2 77 181)::
 (nat_lit 81,fzq "whole_arrow" 10 v0q 80)::
 (nat_lit 85,eH "dot" 278 33 2 82 181)::
 (nat_lit 86,fzq "dot" 11 v0q 85)::
 (nat_lit 92,fD "normal" 284 35 1 87 181 290)::
 (nat_lit 93,fzq "normal" 12 v0q 92)::
 (nat_lit 97,eH "determinant" 293 41 1 94 181)::
 (nat_lit 98,fzq "determinant" 13 v0q 97)::
 (nat_lit 104,fD "side" 299 44 1 99 181 303)::
 (nat_lit 105,fzq "side" 14 v0q 104)::
 (nat_lit 111,fD "simplex" 308 47 1 106 181 314)::
 (nat_lit 112,fzq "simplex" 16 (vs "scissorhall.simplexes" 306) 111)::
 (nat_lit 118,fD "replaced" 317 55 3 113 181 323)::
 (nat_lit 119,fzq "replaced" 17 (vs "scissorhall.simplexes" 306) 118)::
 (nat_lit 125,fD "height" 328 58 2 120 181 333)::
 (nat_lit 126,fzq "height" 19 v1q 125)::
 (nat_lit 130,eH "crossing" 336 60 4 127 181)::
 (nat_lit 131,fzq "crossing" 20 v1q 130)::
 (nat_lit 137,fD "parted" 342 63 2 132 181 352)::
 (nat_lit 138,fzq "parted" 21 v1q 137)::
 (nat_lit 142,eH "heights_of" 355 73 2 139 181)::
 (nat_lit 143,fzq "heights_of" 22 v1q 142)::
 (nat_lit 149,fD "cut" 361 75 2 144 181 370)::
 (nat_lit 150,fzq "cut" 23 v1q 149)::
 (nat_lit 156,fD "_law_row" 375 86 1 151 181 385)::
 (nat_lit 157,fzq "_law_row" 25 vLq 156)::
 (nat_lit 163,fD "_law_take" 388 100 2 158 181 394)::
 (nat_lit 164,fzq "_law_take" 26 vLq 163)::
 (nat_lit 170,fD "_law_gcd" 397 108 2 165 181 402)::
 (nat_lit 171,fzq "_law_gcd" 27 vLq 170)::
 (nat_lit 175,eH "_law_lowest" 405 114 1 172 181)::
 (nat_lit 176,fzq "_law_lowest" 28 vLq 175)::
 (nat_lit 182,fD "_law_whole" 411 121 1 177 181 415)::
 (nat_lit 183,fzq "_law_whole" 29 vLq 182)::
 (nat_lit 187,eH "_law_wholes" 418 123 2 184 181)::
 (nat_lit 188,fzq "_law_wholes" 30 vLq 187)::
 (nat_lit 192,eH "_law_joined" 424 127 3 189 181)::
 (nat_lit 193,fzq "_law_joined" 31 vLq 192)::
 (nat_lit 197,eH "_law_gap" 430 130 2 194 181)::
 (nat_lit 198,fzq "_law_gap" 32 vLq 197)::
 (nat_lit 204,fD "_law_cross" 436 132 2 199 181 444)::
 (nat_lit 205,fzq "_law_cross" 33 vLq 204)::
 (nat_lit 209,eH "_law_dot" 447 137 2 206 181)::
 (nat_lit 210,fzq "_law_dot" 34 vLq 209)::
 (nat_lit 216,fD "_law_turn" 453 139 1 211 181 457)::
 (nat_lit 217,fzq "_law_turn" 35 vLq 216)::
 (nat_lit 221,eH "_law_det" 460 143 1 218 181)::
 (nat_lit 222,fzq "_law_det" 36 vLq 221)::
 (nat_lit 228,fD "_law_simplex" 466 145 1 223 181 471)::
 (nat_lit 229,fzq "_law_simplex" 37 vLq 228)::
 (nat_lit 233,eH "_law_gone" 474 150 3 230 181)::
 (nat_lit 234,fzq "_law_gone" 38 vLq 233)::
 (nat_lit 240,fD "_law_point_form" 480 152 2 235 181 485)::
 (nat_lit 241,fzq "_law_point_form" 39 vLq 240)::
 (nat_lit 245,eH "_law_simplex_form" 488 156 2 242 181)::
 (nat_lit 246,fzq "_law_simplex_form" 40 vLq 245)::
 (nat_lit 250,eH "_law_heap_form" 494 162 2 247 181)::
 (nat_lit 251,fzq "_law_heap_form" 41 vLq 250)::
 (nat_lit 255,eH "_law_raw" 500 166 3 252 181)::
 (nat_lit 256,fzq "_law_raw" 42 vLq 255)::
 (nat_lit 260,eH "_law_raw_turn" 506 173 1 257 181)::
 (nat_lit 261,fzq "_law_raw_turn" 43 vLq 260)::
 (nat_lit 267,fD "_law_kuhn" 512 175 1 262 181 521)::
 (nat_lit 268,fzq "_law_kuhn" 44 vLq 267)::
 (nat_lit 274,fD "_law_raw_heap" 524 187 3 269 181 533)::
 (nat_lit 275,fzq "_law_raw_heap" 45 vLq 274)::
 (nat_lit 279,eH "_law_far" 536 200 2 276 181)::
 (nat_lit 280,fzq "_law_far" 46 vLq 279)::
 (nat_lit 284,eH "_law_spot" 542 206 2 281 181)::
 (nat_lit 285,fzq "_law_spot" 47 vLq 284)::
 (nat_lit 291,fD "_law_handed" 548 212 2 286 181 553)::
 (nat_lit 292,fzq "_law_handed" 48 vLq 291)::
 (nat_lit 296,eH "_law_blade" 556 216 1 293 181)::
 (nat_lit 297,fzq "_law_blade" 49 vLq 296)::
 (nat_lit 303,fD "_law_some_blade" 562 222 3 298 181 573)::
 (nat_lit 304,fzq "_law_some_blade" 50 vLq 303)::
 (nat_lit 308,eH "_law_near" 576 235 2 305 181)::
 (nat_lit 309,fzq "_law_near" 51 vLq 308)::
 (nat_lit 315,fD "_law_place" 582 241 2 310 181 592)::
 (nat_lit 316,fzq "_law_place" 52 vLq 315)::
 (nat_lit 320,eH "_law_aside" 595 253 3 317 181)::
 (nat_lit 321,fzq "_law_aside" 53 vLq 320)::
 (nat_lit 325,eH "_law_counted" 601 264 2 322 181)::
 (nat_lit 326,fzq "_law_counted" 54 vLq 325)::
 (nat_lit 330,eH "law" 607 269 1 327 181)::
 (nat_lit 331,fzq "law" 55 vLq 330)::[]
def KA:List Nat:=[3,23,24,36,37,48,49,57,58,64,65,69,70,71,75,76,80,81,85,86,92,93,97,98,104,105,111,112,118,119,125,126,130,131,137,138,142,143,149,150,156,157,163,164,170,171,175,176,182,183,187,188,192,193,197,198,204,205,209,210,216,217,221,222,228,229,233,234,240,241,245,246,250,251,255,256,260,261,267,268,274,275,279,280,284,285,291,292,296,297,303,304,308,309,315,316,320,321,325,326,330,331]
def VW:Program:={ox with main:={ox.main with body:=[bC 1,bC 2,bC 3,bC 5,bC 6,bC 7,bC 10,bC 11,bC 12,bC 13,bC 14,bC 16,bC 17,bC 19,bC 20,bC 21,bC 22,bC 23,bC 25,bC 26,bC 27,bC 28,bC 29,bC 30,bC 31,bC 32,bC 33,bC 34,bC 35,bC 36,bC 37,bC 38,bC 39,bC 40,bC 41,bC 42,bC 43,bC 44,bC 45,bC 46,bC 47,bC 48,bC 49,bC 50,bC 51,bC 52,bC 53,bC 54,bC 55]}}
theorem KE:∀P,KA=(KK P).map (·.1):=λ_=>by kernel_rfl
theorem wsaid:i8 oy=true:=by kernel_rfl
theorem left:PySem.W.LeftO ox VW [ik "point"] (λs=>PySem.W.xlAt VW [] s&&PySem.W.recOk (PySem.W.RowW.records (wo (wq oy))) s) (PySem.W.Hook.obs (wr KK KA KE)) (PySem.W.Hook.val (wr KK KA KE)) 4156:=by
 intro w
 kernel_rfl
end
end Sc
set_option maxHeartbeats 200000
set_option Elab.async false
set_option compiler.extract_closed false
set_option bootstrap.genMatcherCode false
set_option linter.all false
set_option maxRecDepth 100000
namespace L2
open PySem PySem.Spec PyProof.Rows
abbrev fV:=Sum Int Str
def Wl:fV->Value->Bool
 |.inl k,v=>Value.isInt k v
 |.inr x,v=>Value.isStrOf x v
def aak(w:aj):fV->Int
 |.inl k=>hashInt k
 |.inr x=>hashStr w x
theorem kC:∀{k:fV}{v:Value},Wl k v=true->(∃i t,k=kb i/\v=nh i t)\/(∃x t,k=kd x/\v=rp x t)
 |.inl i,v,h=>by
  obtain⟨t,e⟩:=Value.isInt_shape (k:=i) (v:=v) h;exact .inl ⟨i,t,rfl,e⟩
 |.inr x,v,h=>by
  obtain⟨t,e⟩:=Value.isStrOf_shape (x:=x) (v:=v) h;exact .inr ⟨x,t,rfl,e⟩
theorem O5(a b:Int):decide ((kb a:fV)=kb b)=(a==b):=by
 by_cases e:a=b
 .subst e;simp
 .have h:¬(kb a:fV)=kb b:=λq=>e (Sum.inl.inj q)
  rw[decide_eq_false h];exact(beq_eq_false_iff_ne.mpr e).symm
theorem G0(a b:Str):decide ((kd a:fV)=kd b)=decide (a=b):=by
 by_cases e:a=b
 .subst e;simp
 .have h:¬(kd a:fV)=kd b:=λq=>e (Sum.inr.inj q)
  rw[decide_eq_false h,decide_eq_false e]
theorem A5(a:Int)(b:Str):decide ((kb a:fV)=kd b)=false:=decide_eq_false (λq=>nomatch q)
theorem C3(a:Str)(b:Int):decide ((kd a:fV)=kb b)=false:=decide_eq_false (λq=>nomatch q)
def Ci(prog:Program)(w:aj):PySem.KeyKind prog w fV where
 is:=Wl
 hash:=aak w
 inj:=λv a b ha hb=>by
  rcases kC ha with⟨i,t,rfl,rfl⟩|⟨x,t,rfl,rfl⟩
  .rcases kC hb with⟨j,u,rfl,e⟩|⟨y,u,rfl,e⟩
   .injection e with e1 _;rw[e1]
   .exact nomatch e
  .rcases kC hb with⟨j,u,rfl,e⟩|⟨y,u,rfl,e⟩
   .exact nomatch e
   .injection e with e1 _;rw[e1]
 byValue:=λk v h=>by
  rcases kC h with⟨i,t,rfl,rfl⟩|⟨x,t,rfl,rfl⟩<;>rfl
 pyHash:=λhv h=>by
  rcases kC hv with⟨i,t,rfl,rfl⟩|⟨x,t,rfl,rfl⟩
  .exact wpAny_pyHash_int h
  .exact wpAny_pyHash_str h
 eqBool:=λhu hv h=>by
  rcases kC hu with⟨i,t,rfl,rfl⟩|⟨x,t,rfl,rfl⟩
  .rcases kC hv with⟨j,u,rfl,rfl⟩|⟨y,u,rfl,rfl⟩
   .rw[O5]at h;exact wpAny_eqBool_int h
   .rw[A5]at h;exact wt i t y u _ _ _ _ h
  .rcases kC hv with⟨j,u,rfl,rfl⟩|⟨y,u,rfl,rfl⟩
   .rw[C3]at h;exact wu x t j u _ _ _ _ h
   .rw[G0]at h;exact wpAny_eqBool_str h
 «strs»:=λk x t v h=>by
  rcases kC h with⟨i,u,rfl,e⟩|⟨y,u,rfl,e⟩
  .exact nomatch e
  .injection e with e1 _
   subst e1;cases v<;>rfl
inductive V where
 |non |bl (b:Bool) |int (i:Int) |str (x:Str) |byt (b:Array UInt8) |flt (b:UInt64) |ref (a:Addr) |ty (n:String)
 deriving DecidableEq
def bM:V->Value->Prop
 |.non,u=>u=cw
 |.bl b,u=>u=oz b
 |.int i,u=>∃t,u=nh i t
 |.str x,u=>∃t,u=rp x t
 |.byt b,u=>∃t,u=Value.bytes b t
 |.flt b,u=>∃t,u=Value.float b t
 |.ref a,u=>u=ft a
 |.ty n,u=>u=ke n
abbrev bG:List V->AE->Prop:=kg bM
theorem bG.length{xs:List V}{us:AE}(r:bG xs us):xs.length=us.length:=Paired.length r
theorem bG.get:∀{xs:List V}{us:AE}{i:Nat}{x:V},bG xs us->xs[i]?=some x->∃u,us[i]?=some u/\bM x u
 |_,_,_,_,.nil,e=>by simp at e
 |_,_,0,_,.cons r _,e=>by simp at e;subst e;exact⟨_,rfl,r⟩
 |_,_,i+1,x,.cons _ t,e=>by
  obtain⟨u,h1,h2⟩:=bG.get (i:=i) (x:=x) t (by simpa using e);exact⟨u,by simpa using h1,h2⟩
theorem bG.set{x:V}{u:Value}(r:bM x u):∀{xs:List V}{us:AE}(i:Nat),bG xs us->bG (xs.set i x) (us.set i u)
 |_,_,_,.nil=>.nil
 |_,_,0,.cons _ t=>.cons r t
 |_,_,i+1,.cons q t=>.cons q (bG.set r i t)
theorem bG.append:∀{xs ys:List V}{us ws:AE},bG xs us->bG ys ws->bG (xs++ys) (us++ws)
 |_,_,_,_,.nil,s=>s
 |_,_,_,_,.cons r t,s=>.cons r (bG.append t s)
theorem bG.take:∀{xs:List V}{us:AE}(n:Nat),bG xs us->bG (xs.take n) (us.take n)
 |_,_,0,_=>.nil
 |_,_,_+1,.nil=>.nil
 |_,_,n+1,.cons r t=>.cons r (bG.take n t)
theorem bG.drop:∀{xs:List V}{us:AE}(n:Nat),bG xs us->bG (xs.drop n) (us.drop n)
 |_,_,0,r=>r
 |_,_,_+1,.nil=>.nil
 |_,_,n+1,.cons _ t=>bG.drop n t
def Qa:Option V->AF->Prop
 |some v,some u=>bM v u
 |none,none=>True
 |_,_=>False
def KV{κ:Type}:List (κ×V)->List (κ×Value)->Prop:=kg λ(p:κ×V) (q:κ×Value)=>p.1=q.1/\bM p.2 q.2
def kV:fV->V
 |.inl i=>.int i
 |.inr x=>.str x
inductive HO where
 /--a list -/
 |lst (xs:List V)
 /--a tuple (never changes) -/
 |tup (xs:List V)
 /--a dict whose keys are ints and texts;one whose keys are tuples of ints and texts (the empty one is both) -/
 |dK (kvs:List (fV×V)) |dT (kvs:List (List fV×V))
 /--a set of ints:its members,its size -/
 |set (S:Int->Bool) (n:Nat)
 /--an instance of the class at C,its dict at dx,its attributes -/
 |ins (C dx:Addr) (fs:List (Str×V))
 /--the dict of the instance at x -/
 |own (x:Addr)
 /--the dict of an exception -/
 |xd (fs:List (Str×V))
 /--a bound method,f of x -/
 |met (f x:Addr)
 /--a range object lo,lo+1,.. below hi -/
 |rng (lo hi:Int)
 /--a thing that is known to the object (the script;a dict while a loop walks it):read,never written while it is so -/
 |frz (o:Obj) (u:HO)
 /--a code object's table -/
 |tbl (ps:Array Value)
 /--any other thing,by what is true of its one object (a def of one's own:SetO a S n:=HO.ext λh=>..) -/
 |ext (φ:Heap->Prop)
abbrev Hp:=Addr->Option HO
def aX(H:Hp)(a:Addr)(o:HO):Hp:=λb=>if b=a then some o else H b
theorem fI{H:Hp}{a:Addr}{o:HO}:aX H a o a=some o:=by unfold aX;rw[if_pos rfl]
theorem bS{H:Hp}{a b:Addr}{o:HO}(h:b≠a):aX H a o b=H b:=by unfold aX;rw[if_neg h]
theorem fH{H:Hp}{a b:Addr}{o:HO}(h:H a=some o)(h':H b=none):a≠b:=by
 intro e;subst e;rw[h]at h';cases h'
section
variable(P:Program)(w:aj)
def eP(H:Hp)(h:Heap)(a:Addr):HO->Prop
 |.lst xs=>xs.length<=sizeLine/\∃(its:AE)(n:Nat),bG xs its/\h.get? a=some {cls:=.type "list",data:=.seq its.toArray n}
 |.tup xs=>(xs.length<=sizeLine/\∃o,h.get? a=some o/\o.dict=none)/\∃its:AE,bG xs its/\IsTup h a its.toArray
 |.dK kvs=>kvs.length<=sizeLine/\(a==sysModules)=false/\∃vs,KV kvs vs/\h.DictOf (Ci P w) a vs
 |.dT kvs=>kvs.length<=sizeLine/\(a==sysModules)=false/\∃xs:List (List fV×Addr×Value),
   kg (λ(p:List fV×V) (q:List fV×Addr×Value)=>p.1=q.1/\H q.2.1=some (.tup (p.1.map kV))/\bM p.2 q.2.2) kvs xs/\
   ∃o es ep,h.get? a=some o/\o.ExactDict/\o.data=.dict es ep/\es.toList=xs.map (entryOfKey (tupleKind (Ci P w)))/\(xs.map (·.1)).Nodup
 |.set S n=>h.SetOf (intKind P w) a S n
 |.ins C dx fs=>H dx=some (.own a)/\fs.length<=1000/\dx≠a/\h.get? a=some (se C dx)/\
   ∃mA,h.Ns1 dx mA/\(∀f,Qa (fs.lookup f) (mA f))/\wv mA (fs.map (·.1))
 |.own _=>∃o,h.get? a=some o
 |.xd fs=>∃mA,h.Ns1 a mA/\∀f,Qa (fs.lookup f) (mA f)
 |.rng lo hi=>∃t u v,h.get? a=some {cls:=.type "range",data:=.fields #[.int lo t,.int hi u,.int 1 v]}
 |.frz o u=>h.get? a=some o/\eP H h a u
 |.tbl ps=>h.get? a=some {cls:=.none,data:=.fields ps}
 |.met f x=>h.get? a=some (sf (.ref f) (.ref x))
 |.ext φ=>φ h/\(∃o,h.get? a=some o)/\∀h1 h2:Heap,φ h1->(∀o,h1.get? a=some o->h2.get? a=some o)->φ h2
def eJ(H:Hp)(h:Heap):Prop:=∀a o,H a=some o->eP P w H h a o
end
section
variable{P:Program}{w:aj}{H H':Hp}{h h':Heap}{a:Addr}{o:HO}
theorem eP.lt(x:eP P w H h a o):a<h.objs.size:=by
 cases o with
 |lst xs=>obtain⟨_,_,_,_,e⟩:=x;exact au e
 |tup xs=>obtain⟨_,_,_,p⟩:=x;exact p.lt
 |dK kvs=>obtain⟨_,_,_,_,o,_,_,e,_⟩:=x;exact au e
 |dT kvs=>obtain⟨_,_,_,_,o,_,_,e,_⟩:=x;exact au e
 |set S n=>obtain⟨o,_,_,_,e,_⟩:=x;exact au e
 |ins C dx fs=>obtain⟨_,_,_,e,_⟩:=x;exact au e
 |own y=>obtain⟨_,e⟩:=x;exact au e
 |xd fs=>obtain⟨_,⟨_,_,_,e,_⟩,_⟩:=x;exact au e
 |rng lo hi=>obtain⟨_,_,_,e⟩:=x;exact au e
 |frz ob u=>obtain⟨e,_⟩:=x;exact au e
 |tbl ps=>exact au (show h.get? a=some _ from x)
 |met f y=>exact au (show h.get? a=some _ from x)
 |ext φ=>obtain⟨_,⟨_,e⟩,_⟩:=x;exact au e
theorem Paired.mapP{α β:Type}{F G:α->β->Prop}:∀{l₁:List α}{l₂:List β},kg F l₁ l₂->(∀a b,F a b->G a b)->kg G l₁ l₂
 |_,_,.nil,_=>.nil
 |_,_,.cons r t,f=>.cons (f _ _ r) (Paired.mapP t f)
theorem eP.stay(x:eP P w H h a o)(k:∀b u,(b=a\/H b=some (.own a))->h.get? b=some u->h'.get? b=some u)
  (ho:∀b,H b=some (.own a)->H' b=some (.own a))(ht:∀b xs,H b=some (.tup xs)->H' b=some (.tup xs)):eP P w H' h' a o:=by
 induction o with
 |lst xs=>obtain⟨z,its,n,r,e⟩:=x;exact⟨z,its,n,r,k _ _ (.inl rfl) e⟩
 |tup xs=>obtain⟨⟨z,o9,e9,d9⟩,its,r,ob,e,c⟩:=x;exact⟨⟨z,o9,k _ _ (.inl rfl) e9,d9⟩,its,r,ob,k _ _ (.inl rfl) e,c⟩
 |dK kvs=>obtain⟨z,y,vs,r,ob,es,ep,e,c⟩:=x;exact⟨z,y,vs,r,ob,es,ep,k _ _ (.inl rfl) e,c⟩
 |dT kvs=>
  obtain⟨z,y,xs,r,ob,es,ep,e,c⟩:=x;exact⟨z,y,xs,Paired.mapP r λp q z=>⟨z.1,ht _ _ z.2.1,z.2.2⟩,ob,es,ep,k _ _ (.inl rfl) e,c⟩
 |set S n=>obtain⟨ob,es,ep,t,e,c⟩:=x;exact⟨ob,es,ep,t,k _ _ (.inl rfl) e,c⟩
 |ins C dx fs=>
  obtain⟨d,z,ne,e,mA,⟨od,es,ep,e2,c⟩,r⟩:=x;exact⟨ho _ d,z,ne,k _ _ (.inl rfl) e,mA,⟨od,es,ep,k _ _ (.inr d) e2,c⟩,r⟩
 |own y=>obtain⟨ob,e⟩:=x;exact⟨ob,k _ _ (.inl rfl) e⟩
 |xd fs=>obtain⟨mA,⟨od,es,ep,e,c⟩,r⟩:=x;exact⟨mA,⟨od,es,ep,k _ _ (.inl rfl) e,c⟩,r⟩
 |rng lo hi=>obtain⟨t,u,v,e⟩:=x;exact⟨t,u,v,k _ _ (.inl rfl) e⟩
 |frz ob u ih=>obtain⟨e,q⟩:=x;exact⟨k _ _ (.inl rfl) e,ih q⟩
 |tbl ps=>
  have e:h.get? a=some {cls:=.none,data:=.fields ps}:=x;show h'.get? a=some {cls:=.none,data:=.fields ps};exact k a _ (.inl rfl) e
 |met f y=>
  have e:h.get? a=some (sf (.ref f) (.ref y)):=x;show h'.get? a=some (sf (.ref f) (.ref y));exact k a _ (.inl rfl) e
 |ext φ=>obtain⟨p,⟨o,e⟩,st⟩:=x;exact⟨st _ _ p λo q=>k _ _ (.inl rfl) q,⟨o,k _ _ (.inl rfl) e⟩,st⟩
theorem eJ.lt(x:eJ P w H h)(e:H a=some o):a<h.objs.size:=(x a o e).lt
theorem eJ.fresh(x:eJ P w H h)(e:h.objs.size<=a):H a=none:=by
 cases q:H a with
 |none=>rfl
 |some u=>exact absurd (cy (x.lt q) e) (gw _)
theorem eJ.kept(x:eJ P w H h)(k:∀b u,h.get? b=some u->h'.get? b=some u):eJ P w H h':=λa o e=>
 (x a o e).stay (λb u _ q=>k b u q) (λ_ q=>q) λ_ _ q=>q
theorem eJ.laid(x:eJ P w H h)(k:∀b u,h.get? b=some u->h'.get? b=some u)(hp:h.objs.size<=a)(new:eP P w (aX H a o) h' a o):eJ P w (aX H a o) h':=λb u e=>by
 have hn:=x.fresh hp
 by_cases hb:b=a
 .subst hb;rw[fI]at e;cases e;exact new
 .rw[bS hb]at e
  exact(x b u e).stay (λc v _ q=>k c v q) (λc q=>by rw[bS (fH q hn)];exact q) λc xs q=>by rw[bS (fH q hn)];exact q
end
def Rd(H:Hp)(a:Addr)(u:HO):Prop:=H a=some u\/∃o,H a=some (.frz o u)
theorem Rd.ok{P:Program}{w:aj}{H:Hp}{h:Heap}{a:Addr}{u:HO}(r:Rd H a u)(x:eJ P w H h):eP P w H h a u:=by
 rcases r with r |⟨o,r⟩
 .exact x a u r
 .obtain⟨_,q⟩:=x a _ r
  exact q
def vQ:Option HO->Prop
 |some (.lst _)=>True
 |some (.dK _)=>True
 |some (.dT _)=>True
 |some (.set _ _)=>True
 |some (.ins _ _ _)=>True
 |some (.ext _)=>True
 |_=>False
section
variable{P:Program}{w:aj}{H:Hp}{h h':Heap}{x e:Addr}{o':HO}
theorem eJ.write(ok:eJ P w H h)(mu:vQ (H x))(he:e=x\/H e=some (.own x))(k:∀b u,b≠e->h.get? b=some u->h'.get? b=some u)(heo:∃u,h'.get? e=some u)
  (new:eP P w (aX H x o') h' x o'):eJ P w (aX H x o') h':=λb u q=>by
 have nown:∀c y,H c=some (.own y)->c≠x:=λc y r z=>by subst z;rw[r]at mu;exact mu
 have ntup:∀c xs,H c=some (.tup xs)->c≠x:=λc xs r z=>by subst z;rw[r]at mu;exact mu
 by_cases hb:b=x
 .subst hb;rw[fI]at q;cases q;exact new
 .rw[bS hb]at q
  by_cases hbe:b=e
  .have q':H b=some (.own x):=by
    rcases he with z |z
    .exact absurd (hbe.trans z) hb
    .rw[hbe];exact z
   rw[q]at q';cases q';obtain⟨v,hv⟩:=heo;exact⟨v,by rw[hbe];exact hv⟩
  .refine(ok b u q).stay (λc v hc r=>k c v ?_ r) (λc r=>by rw[bS (nown c b r)];exact r) λc xs r=>by rw[bS (ntup c xs r)];exact r
   rcases hc with rfl |hc
   .exact hbe
   .rintro rfl
    rcases he with z |z
    .exact nown c b hc z
    .rw[hc]at z;cases z;exact hb rfl
end
structure Un(fs ex:List Addr)(H H':Hp)(h h':Heap):Prop where
 keep:∀b o,h.get? b=some o->H b=none->b∉fs->b∉ex->h'.get? b=some o
 slot:∀b o,h.get? b=some o->H b=none->b∈fs->b∉ex->∃sl,h'.get? b=some {o with slots:=sl}
 free:∀b o,h.get? b=some o->H b=none->b∉ex->H' b=none
 there:∀b o,h.get? b=some o->b∉ex->∃o',h'.get? b=some o'
 tups:∀b xs,H b=some (.tup xs)->H' b=some (.tup xs)
 frzs:∀b o u,H b=some (.frz o u)->H' b=some (.frz o u)
 tbls:∀b ps,H b=some (.tbl ps)->∃more,H' b=some (.tbl (ps++more))
section
variable{fs fs' ex ex':List Addr}{H H1 H2:Hp}{h h1 h2 h':Heap}{a x e:Addr}{o:HO}
theorem Un.any(u:Un fs ex H H1 h h1){b:Addr}{ob:Obj}(q:h.get? b=some ob)(n:H b=none)(hx:b∉ex):∃sl,h1.get? b=some {ob with slots:=sl}:=by
 by_cases hb:b∈fs
 .exact u.slot b ob q n hb hx
 .exact⟨ob.slots,u.keep b ob q n hb hx⟩
theorem Un.trans(a:Un fs ex H H1 h h1)(b:Un fs ex H1 H2 h1 h2):Un fs ex H H2 h h2 where
 keep:=λc ob q n hc hx=>b.keep c ob (a.keep c ob q n hc hx) (a.free c ob q n hx) hc hx
 slot:=λc ob q n hc hx=>by
  obtain⟨sl,e1⟩:=a.slot c ob q n hc hx;obtain⟨sl',e2⟩:=b.slot c _ e1 (a.free c ob q n hx) hc hx;exact⟨sl',e2⟩
 free:=λc ob q n hx=>by
  obtain⟨o',e1⟩:=a.there c ob q hx;exact b.free c o' e1 (a.free c ob q n hx) hx
 there:=λc ob q hx=>by
  obtain⟨o',e1⟩:=a.there c ob q hx;exact b.there c o' e1 hx
 tups:=λc xs q=>b.tups c xs (a.tups c xs q)
 frzs:=λc ob xs q=>b.frzs c ob xs (a.frzs c ob xs q)
 tbls:=λc ps q=>by
  obtain⟨m1,e1⟩:=a.tbls c ps q;obtain⟨m2,e2⟩:=b.tbls c _ e1;exact⟨m1++m2,by rw[e2,ww]⟩
theorem Un.kept(k:∀b u,h.get? b=some u->h'.get? b=some u):Un fs ex H H h h':=
 ⟨λb ob q _ _ _=>k b ob q,λb ob q _ _ _=>⟨ob.slots,k b ob q⟩,λ_ _ _ n _=>n,λb ob q _=>⟨ob,k b ob q⟩,λ_ _ q=>q,λ_ _ _ q=>q,λ_ ps q=>⟨#[],by rw[q];simp⟩⟩
theorem Un.refl:Un fs ex H H h h:=Un.kept λ_ _ q=>q
theorem Un.laid(k:∀b u,h.get? b=some u->h'.get? b=some u)(hp:h.objs.size<=a)(hn:H a=none):Un fs ex H (aX H a o) h h' where
 keep:=λb u q _ _ _=>k b u q
 slot:=λb u q _ _ _=>⟨u.slots,k b u q⟩
 free:=λb u q n _=>by rw[bS (cj (cy (au q) hp))];exact n
 there:=λb u q _=>⟨u,k b u q⟩
 tups:=λb xs q=>by rw[bS (fH q hn)];exact q
 frzs:=λb u xs q=>by rw[bS (fH q hn)];exact q
 tbls:=λb ps q=>⟨#[],by rw[bS (fH q hn),q];simp⟩
theorem Un.write(mu:vQ (H x))(he:e=x\/H e=some (.own x))(k:∀b u,b≠e->h.get? b=some u->h'.get? b=some u)(heo:∃u,h'.get? e=some u):Un fs ex H (aX H x o) h h':=by
 have hx:∀b,H b=none->b≠x:=λb n z=>by subst z;rw[n]at mu;exact mu
 have hb:∀b,H b=none->b≠e:=λb n z=>by
  subst z;rcases he with r |r
  .exact hx b n r
  .rw[n]at r;cases r
 have hm:∀b u,H b=some u->¬vQ (some u)->b≠x:=λb u q nm z=>by subst z;rw[q]at mu;exact nm mu
 refine⟨λb u q n _ _=>k b u (hb b n) q,λb u q n _ _=>⟨u.slots,k b u (hb b n) q⟩,λb u q n _=>by rw[bS (hx b n)];exact n,λb u q _=>?_,
  λb xs q=>by rw[bS (hm b _ q λz=>z)];exact q,λb u xs q=>by rw[bS (hm b _ q λz=>z)];exact q,λb ps q=>⟨#[],by rw[bS (hm b _ q λz=>z),q];simp⟩⟩
 by_cases hbe:b=e
 .subst hbe;exact heo
 .exact⟨u,k b u hbe q⟩
end
def vV(h:Heap)(H:Hp):List Addr:=(az h.objs.size).filter λa=>(H a).isSome
def kO(h:Heap)(H:Hp):Heap:=si h (vV h H)
theorem Js(h:Heap)(H:Hp):(kO h H).objs.size=h.objs.size:=PySem.W.hideAll_size _ _
theorem Zt{h:Heap}{H:Hp}{b:Addr}{o:Obj}(e:h.get? b=some o)(n:H b=none):(kO h H).get? b=some o:=
 sj _ e λhm=>by
  have q:(H b).isSome=true:=(wz.mp hm).2;rw[n]at q;simp at q
theorem Xx{h:Heap}{H:Hp}{b:Addr}{o:Obj}(e:(kO h H).get? b=some o):h.get? b=some o/\H b=none:=by
 have e':h.get? b=some o:=xa (vV h H) e;refine⟨e',?_⟩;cases q:H b with
 |none=>rfl
 |some x=>
  have hm:b∈vV h H:=wz.mpr ⟨pb.mpr (au e'),by simp[q]⟩;have z:(kO h H).get? b=none:=PySem.W.hideAll_none (vV h H) hm;rw[z]at e;cases e
def Dz(g h:Heap)(L:Addr):List (Addr×Obj):=(az h.objs.size).filterMap λa=>if a=L\/(g.get? a).isSome=true then none else(h.get? a).map λo=>(a,o)
def eF(g h:Heap)(L d:Addr):List (Addr×Obj):=(Dz g h L).filter λp=>decide (p.1≠d)
structure Mod(K:ae)(mg:Str->AF)(base:Heap):Prop where
 kin:K.In base
 glob:base.Ns mainGlobals mg
 blt:∃mb,base.Ns builtinsNs mb/\∀x:Str,x≠"__name__"->mb x=bootBuiltins x
 nolimit:base.NoLimit
structure Cx where
 prog:Program
 w:aj
 K:ae
 mg:Str->AF
 base:Heap
 A:ak
 N:List Str
 AN:aa
 AO:Hp
 env:av
 outer:List av
 stack:List av
 ex:List Addr
 fn:Str->Bool
 calm:Bool
 pn:List (Addr×Obj)
 xe:Value->aa->Prop
def eC(l:List av):List Addr:=l.filterMap (·.frame)
abbrev Cx.fs(X:Cx):List Addr:=eC X.outer
def mP(sc:Scope)(x:Str):Prop:=sc.names.lookup x=some .local\/sc.names.lookup x=some .cell\/sc.names.lookup x=some .free
def jM(sc:Scope)(x:Str):Prop:=sc.names.lookup x=some .local\/sc.names.lookup x=some .cell
def Y5(env:av)(h:Heap)(m:Str->AF)(x:Str)(u:Value):Prop:=
 (env.kindOf x=some .local/\m x=some u)\/((env.kindOf x=some .cell\/env.kindOf x=some .free)/\∃c,env.cells.lookup x=some c/\h.IsCell c (some u))
structure Cx.Ok(X:Cx):Prop where
 mod:Mod X.K X.mg X.base
 kind:X.env.scope.kind=.function
 glob:X.env.globals=mainGlobals
 blt:X.env.builtins=builtinsNs
 above:X.AN.heap.objs.size<=X.env.locals
 inj:∀x y c,X.env.cells.lookup x=some c->X.env.cells.lookup y=some c->x=y
 has:∀x,(X.env.kindOf x=some .cell\/X.env.kindOf x=some .free)->∃c,X.env.cells.lookup x=some c
 cab:∀x c,X.fn x=true->X.env.cells.lookup x=some c->X.AN.heap.objs.size<=c
 hd:X.calm=true->X.A.handled=none
 frames:X.A.frames=some X.stack
 stk:X.stack=X.outer\/(X.stack=X.env::X.outer/\X.env.frame=some X.env.locals)
 exf:∀b∈X.ex,b≠X.env.locals/\∀x c,X.env.cells.lookup x=some c->c≠b
 bs:∀b o,X.base.get? b=some o->X.AN.heap.get? b=some o/\X.AO b=none
 bsz:X.base.objs.size<=X.AN.heap.objs.size
 noex:∀b o,X.base.get? b=some o->b∉X.ex
 exfs:∀b∈X.ex,b∉X.fs
 funs:X.AN.heap.FunFrames X.base X.outer
 frf:∀b∈X.fs,X.AO b=none
structure aH(X:Cx)(AM:List (Addr×Obj))(σ:List (Option V))(H:Hp)(s:aa):Prop where
 ok:X.Ok
 os:s.os=X.AN.os
 bare:iy s.gens
 base:Un X.fs X.ex X.AO H X.AN.heap s.heap
 loc:∃m,s.heap.Ns X.env.locals m/\∀(i:Nat)(x:Str)(v:V),X.N[i]?=some x->σ[i]?=some (some v)->mP X.env.scope x->∃u,bM v u/\Y5 X.env s.heap m x u
 cell:∀x c,X.env.cells.lookup x=some c->∃v,s.heap.IsCell c v
 free:H X.env.locals=none
 freeC:∀x c,X.env.cells.lookup x=some c->H c=none
 pin:∀p∈X.pn++AM,s.heap.get? p.1=some p.2/\H p.1=none/\p.1≠X.env.locals/\p.1∉X.fs/\∀v,p.2.data≠.cell v
 hok:eJ X.prog X.w H s.heap
 len:σ.length=X.N.length
section
variable{X:Cx}{AM:List (Addr×Obj)}{σ:List (Option V)}{H H':Hp}{s:aa}{h':Heap}
theorem Cx.Ok.nofr(ok:X.Ok){b:Addr}{o:Obj}(e:X.base.get? b=some o):b∉X.fs:=λhb=>by
 have:=(ok.funs.mem hb).1;rw[e]at this;cases this
theorem aH.bs(I:aH X AM σ H s):∀b o,X.base.get? b=some o->s.heap.get? b=some o/\H b=none:=λb o e=>
 ⟨I.base.keep b o (I.ok.bs b o e).1 (I.ok.bs b o e).2 (I.ok.nofr e) (I.ok.noex b o e),I.base.free b o (I.ok.bs b o e).1 (I.ok.bs b o e).2 (I.ok.noex b o e)⟩
theorem aH.bk(I:aH X AM σ H s):∀b o,X.base.get? b=some o->s.heap.get? b=some o:=λb o e=>(I.bs b o e).1
theorem aH.mod(I:aH X AM σ H s):Mod X.K X.mg X.base:=I.ok.mod
theorem aH.kIn(I:aH X AM σ H s):X.K.In s.heap:=I.ok.mod.kin.keeps I.bk
theorem aH.lt(I:aH X AM σ H s):X.env.locals<s.heap.objs.size:=let⟨_,hn,_⟩:=I.loc;hn.lt
theorem aH.sz(I:aH X AM σ H s):X.AN.heap.objs.size<=s.heap.objs.size:=gh I.ok.above (ni I.lt)
theorem aH.nofs(I:aH X AM σ H s){a:Addr}(h:s.heap.objs.size<=a):a∉X.fs:=λhb=>by
 obtain⟨_,o,ho,_⟩:=I.ok.funs.mem hb;exact absurd (cy (au ho) (gh I.sz h)) (gw _)
theorem aH.cne(I:aH X AM σ H s):∀x c,X.env.cells.lookup x=some c->c≠X.env.locals:=λx c e z=>by
 obtain⟨v,o,ho,hd⟩:=I.cell x c e;obtain⟨m,⟨o',es,ep,ho',hd',_⟩,_⟩:=I.loc;rw[z,ho']at ho;cases ho;rw[hd']at hd;cases hd
theorem aH.funs(I:aH X AM σ H s):s.heap.FunFrames X.base X.outer:=by
 have all:∀(l:List av),(∀b∈eC l,b∈X.fs)->X.AN.heap.FunFrames X.base l->s.heap.FunFrames X.base l:=by
  intro l
  induction l with
  |nil=>intro _ _;trivial
  |cons env r ih=>
   intro hs hl;obtain⟨hk,⟨L,o,hf,hn,ho,hd⟩,hr⟩:=hl;have hL:L∈X.fs:=hs L (by unfold eC;rw[sk,hf];exact ce);obtain⟨sl,e⟩:=I.base.slot L o ho (I.ok.frf L hL) hL λz=>I.ok.exfs L z hL;exact⟨hk,⟨L,_,hf,hn,e,hd⟩,ih (λb hb=>hs b (by unfold eC;rw[sk,hf];exact bo _ hb)) hr⟩
 exact all X.outer (λ_ hb=>hb) I.ok.funs
theorem aH.stack(I:aH X AM σ H s):s.heap.FunFrames X.base X.stack:=by
 rcases I.ok.stk with e |⟨e,hf⟩
 .rw[e];exact I.funs
 .rw[e]
  obtain⟨m,hn,_⟩:=I.loc;refine .cons (by rw[I.ok.kind];decide) hf hn ?_ I.funs;exact Heap.get?_none_of_le (gh I.ok.bsz I.ok.above)
theorem aH.stkSub(I:aH X AM σ H s):∀b∈eC X.stack,b∈X.env.locals::X.fs:=λb hb=>by
 rcases I.ok.stk with e |⟨e,hf⟩
 .rw[e]at hb;exact bo _ hb
 .rw[e]at hb
  unfold eC at hb;rw[sk,hf]at hb;exact hb
theorem aH.stkFree(I:aH X AM σ H s):∀b∈eC X.stack,H b=none:=λb hb=>by
 rcases ay.mp (I.stkSub b hb)with e |hb
 .rw[e];exact I.free
 .obtain⟨_,o,ho,_⟩:=I.ok.funs.mem hb
  exact I.base.free b o ho (I.ok.frf b hb) λz=>I.ok.exfs b z hb
theorem aH.step{g':Array GenState}{t':Nat}{d':Drawn}{ch:List Addr}(I:aH X AM σ H s)
  (hch:∀b∈ch,(b∈X.ex\/X.AN.heap.objs.size<=b)/\b≠X.env.locals/\(∀x c,X.env.cells.lookup x=some c->c≠b)/\∀p∈X.pn++AM,p.1≠b)
  (keep:∀b o,b≠X.env.locals->b∉X.fs->b∉ch->s.heap.get? b=some o->H b=none->h'.get? b=some o)
  (slot:∀b o,b≠X.env.locals->b∈X.fs->b∉ch->s.heap.get? b=some o->H b=none->∃sl,h'.get? b=some {o with slots:=sl})(free:∀b o,b∉ch->s.heap.get? b=some o->H b=none->H' b=none)
  (there:∀b o,b∉ch->s.heap.get? b=some o->∃o',h'.get? b=some o')
  (tups:∀b xs,H b=some (.tup xs)->H' b=some (.tup xs))(frzs:∀b o u,H b=some (.frz o u)->H' b=some (.frz o u))(tbls:∀b ps,H b=some (.tbl ps)->∃more,H' b=some (.tbl (ps++more)))
  (ns:∀m,s.heap.Ns X.env.locals m->h'.Ns X.env.locals m)(hok:eJ X.prog X.w H' h')(hg:iy g'):
  aH X AM σ H' {s with heap:=h',gens:=g',drawn:=d',toks:=t'}:=by
 have neL:∀b o,X.AN.heap.get? b=some o->b≠X.env.locals:=λb o e=>cj (cy (au e) I.ok.above);have neC:∀b o,X.AN.heap.get? b=some o->b∉X.ex->b∉ch:=λb o e hx hb=>by
  rcases(hch b hb).1 with z |z
  .exact hx z
  .exact absurd (cy (au e) z) (gw _)
 have cellK:∀x c,X.env.cells.lookup x=some c->∀v,s.heap.IsCell c v->h'.IsCell c v:=λx c e v ⟨o,ho,hd⟩=>by
  have nch:c∉ch:=λz=>(hch c z).2.2.1 x c e rfl
  by_cases hc:c∈X.fs
  .obtain⟨sl,q⟩:=slot c o (I.cne x c e) hc nch ho (I.freeC x c e)
   exact⟨_,q,hd⟩
  .exact⟨o,keep c o (I.cne x c e) hc nch ho (I.freeC x c e),hd⟩
 refine⟨I.ok,I.os,hg,⟨λb o e n hb hx=>?_,λb o e n hb hx=>?_,λb o e n hx=>?_,λb o e hx=>?_,λb xs e=>tups b xs (I.base.tups b xs e),λb o xs e=>frzs b o xs (I.base.frzs b o xs e),λb ps e=>?_⟩,?_,λx c e=>?_,?_,λx c e=>?_,λp hp=>?_,hok,I.len⟩
 .exact keep b o (neL b o e) hb (neC b o e hx) (I.base.keep b o e n hb hx) (I.base.free b o e n hx)
 .obtain⟨sl,e1⟩:=I.base.slot b o e n hb hx
  obtain⟨sl',e2⟩:=slot b _ (neL b o e) hb (neC b o e hx) e1 (I.base.free b o e n hx);exact⟨sl',e2⟩
 .obtain⟨o',e1⟩:=I.base.there b o e hx
  exact free b o' (neC b o e hx) e1 (I.base.free b o e n hx)
 .obtain⟨o',e1⟩:=I.base.there b o e hx
  exact there b o' (neC b o e hx) e1
 .obtain⟨m1,e1⟩:=I.base.tbls b ps e
  obtain⟨m2,e2⟩:=tbls b _ e1;exact⟨m1++m2,by rw[e2,ww]⟩
 .obtain⟨m,hn,hl⟩:=I.loc
  refine⟨m,ns m hn,λi x v e1 e2 e3=>?_⟩;obtain⟨u,r,l⟩:=hl i x v e1 e2 e3;refine⟨u,r,?_⟩;rcases l with l |⟨k,c,e,z⟩
  .exact .inl l
  .exact .inr ⟨k,c,e,cellK x c e _ z⟩
 .obtain⟨v,z⟩:=I.cell x c e
  exact⟨v,cellK x c e v z⟩
 .obtain⟨m,⟨o,_,_,ho,_⟩,_⟩:=I.loc
  exact free _ o (λz=>(hch _ z).2.1 rfl) ho I.free
 .obtain⟨v,o,ho,hd⟩:=I.cell x c e
  exact free c o (λz=>(hch c z).2.2.1 x c e rfl) ho (I.freeC x c e)
 .obtain⟨e,n,ne,nf,d⟩:=I.pin p hp
  have nch:p.1∉ch:=λz=>(hch p.1 z).2.2.2 p hp rfl;exact⟨keep p.1 p.2 ne nf nch e n,free p.1 p.2 nch e n,ne,nf,d⟩
theorem aH.un{t':Nat}(I:aH X AM σ H s)(u:Un X.fs [] H H' s.heap h')(hok:eJ X.prog X.w H' h'):aH X AM σ H' {s with heap:=h',toks:=t'}:=by
 obtain⟨m,⟨o,es,ep,ho,r⟩,_⟩:=id I.loc;obtain⟨sl,hL⟩:=u.any ho I.free (by simp);exact I.step (g':=s.gens) (d':=s.drawn) (ch:=[]) (λ_ z=>nomatch z) (λb o _ hb _ e n=>u.keep b o e n hb (by simp)) (λb o _ hb _ e n=>u.slot b o e n hb (by simp)) (λb o _ e n=>u.free b o e n (by simp)) (λb o _ e=>u.there b o e (by simp)) u.tups u.frzs u.tbls (λm' hm=>by
  obtain⟨o',es',ep',ho',r'⟩:=hm;rw[ho]at ho';cases ho';exact⟨_,es',ep',hL,r'⟩) hok I.bare
theorem aH.call{g':Array GenState}{t':Nat}{d':Drawn}{ch:List Addr}(I:aH X AM σ H s)(u:Un (eC X.stack) ch H H' s.heap h')(hok:eJ X.prog X.w H' h')(hg:iy g')
  (hch:∀b∈ch,(b∈X.ex\/X.AN.heap.objs.size<=b)/\b≠X.env.locals/\(∀x c,X.env.cells.lookup x=some c->c≠b)/\∀p∈X.pn++AM,p.1≠b):
  aH X AM σ H' {s with heap:=h',gens:=g',drawn:=d',toks:=t'}:=by
 obtain⟨m,⟨o,es,ep,ho,r⟩,_⟩:=id I.loc;obtain⟨sl,hL⟩:=u.any ho I.free λz=>(hch _ z).2.1 rfl;exact I.step (ch:=ch) hch (λb o hL hb hc e n=>u.keep b o e n (λz=>(ay.mp (I.stkSub b z)).elim hL hb) hc) (λb o _ _ hc e n=>u.any e n hc) (λb o hc e n=>u.free b o e n hc) (λb o hc e=>u.there b o e hc) u.tups u.frzs u.tbls (λm' hm=>by
  obtain⟨o',es',ep',ho',r'⟩:=hm;rw[ho]at ho';cases ho';exact⟨_,es',ep',hL,r'⟩) hok hg
theorem aH.turned{t':Nat}{it:Addr}(I:aH X AM σ H s)(k:∀b o,b≠it->s.heap.get? b=some o->h'.get? b=some o)(hn:H it=none)(hL:it≠X.env.locals)
  (h1:it∈X.ex\/X.AN.heap.objs.size<=it)(h2:∀x c,X.env.cells.lookup x=some c->c≠it)(h3:∀p∈X.pn++AM,p.1≠it):aH X AM σ H {s with heap:=h',toks:=t'}:=by
 have nit:∀b u,H b=some u->b≠it:=λb u e z=>by rw[z,hn]at e;cases e
 refine I.step (g':=s.gens) (d':=s.drawn) (ch:=[it]) (λb hb=>?_) (λb o _ _ hc e _=>k b o (λz=>hc (by simp[z])) e) (λb o _ _ hc e _=>⟨o.slots,k b o (λz=>hc (by simp[z])) e⟩) (λ_ _ _ _ n=>n)
  (λb o hc e=>⟨o,k b o (λz=>hc (by simp[z])) e⟩) (λ_ _ e=>e) (λ_ _ _ e=>e) (λb ps e=>⟨#[],by rw[e];simp⟩) (λm hm=>?_) (λb u e=>?_) I.bare
 .have e:b=it:=by simpa using hb
  subst e;exact⟨h1,hL,h2,h3⟩
 .obtain⟨o,es,ep,ho,r⟩:=hm
  exact⟨o,es,ep,k _ o (gi hL) ho,r⟩
 .refine(I.hok b u e).stay (λc v hc q=>k c v ?_ q) (λ_ q=>q) λ_ _ q=>q
  rcases hc with z |z
  .rw[z];exact nit b u e
  .exact nit c _ z
theorem aH.tok(I:aH X AM σ H s)(t:Nat):aH X AM σ H {s with toks:=t}:=I.un (h':=s.heap) (t':=t) Un.refl I.hok
theorem aH.kept{t':Nat}(I:aH X AM σ H s)(k:∀b u,s.heap.get? b=some u->h'.get? b=some u):aH X AM σ H {s with heap:=h',toks:=t'}:=I.un (Un.kept k) (I.hok.kept k)
theorem aH.laid{a:Addr}{o:HO}{t':Nat}(I:aH X AM σ H s)(k:∀b u,s.heap.get? b=some u->h'.get? b=some u)(hp:s.heap.objs.size<=a)(new:eP X.prog X.w (aX H a o) h' a o):
  aH X AM σ (aX H a o) {s with heap:=h',toks:=t'}:=I.un (Un.laid k hp (I.hok.fresh hp)) (I.hok.laid k hp new)
theorem aH.write{x e:Addr}{o:HO}{t':Nat}(I:aH X AM σ H s)(mu:vQ (H x))(he:e=x\/H e=some (.own x))(k:∀b u,b≠e->s.heap.get? b=some u->h'.get? b=some u)(heo:∃u,h'.get? e=some u)
  (new:eP X.prog X.w (aX H x o) h' x o):aH X AM σ (aX H x o) {s with heap:=h',toks:=t'}:=I.un (Un.write mu he k heo) (I.hok.write mu he k heo new)
theorem aH.pins_of{pins':List (Addr×Obj)}(I:aH X AM σ H s)(h:∀p∈pins',s.heap.get? p.1=some p.2/\H p.1=none/\p.1≠X.env.locals/\p.1∉X.fs/\∀v,p.2.data≠.cell v):aH X pins' σ H s:=
 ⟨I.ok,I.os,I.bare,I.base,I.loc,I.cell,I.free,I.freeC,λp hp=>(bj.mp hp).elim (λz=>I.pin p (iw _ z)) (h p),I.hok,I.len⟩
theorem Cg{N:List Str}(hN:N.Nodup){i j:Nat}{x:Str}(a:N[i]?=some x)(b:N[j]?=some x):i=j:=by
 obtain⟨h1,e1⟩:=bf.mp a;obtain⟨h2,e2⟩:=bf.mp b;exact(List.getElem_inj hN).mp (e1.trans e2.symm)
theorem Qr{M:jp}{A:ak}{E:Value->aa->Prop}{i:Nat}{x:Str}{v:V}{u:Value}{Q:Unit->aa->Prop}(I:aH X AM σ H s)(hN:X.N.Nodup)(hi:X.N[i]?=some x)(hx:jM X.env.scope x)(r:bM v u)
  (h:∀s',aH X AM (σ.set i (some v)) H s'->(∃a,kh a s.heap s'.heap/\(a=X.env.locals\/X.env.cells.lookup x=some a))->Q () s')(hf:X.fn x=true\/X.env.scope.names.lookup x=some .local:=by first |exact .inl rfl |exact .inr rfl |assumption):wpAny M A (storeName X.env x u) Q E s:=by
 obtain⟨m,hn,hl⟩:=id I.loc;have hcls:(X.env.scope.kind== .class||(X.env.scope.kind== .module&&X.env.locals !=X.env.globals))=false:=by rw[I.ok.kind];rfl
 have hiσ:i<σ.length:=by rw[I.len];exact(bf.mp hi).1
 have cne:=I.cne;have tracked:∀{a:Addr}{h':Heap},(∃o,s.heap.get? a=some o/\H a=none)->kh a s.heap h'->eJ X.prog X.w H h':=λ{a h'} ha hs b ob e=>by
  obtain⟨_,_,hfree⟩:=ha;refine(I.hok b ob e).stay (λc w' hc q=>(hs.2 c ?_).trans q) (λ_ q=>q) λ_ _ q=>q
  rintro rfl
  rcases hc with rfl |hc
  .rw[hfree]at e;cases e
  .rw[hfree]at hc;cases hc
 rcases hx with hk |hk
 .refine wpAny_storeName_local hk hn (λh' hn' hs=>?_) hcls
  obtain⟨oL,_,_,hoL,_⟩:=id hn;refine h _ ⟨I.ok,I.os,I.bare,⟨λb o e n hb hx=>?_,λb o e n hb hx=>?_,I.base.free,λb o e hx=>?_,I.base.tups,I.base.frzs,I.base.tbls⟩,⟨_,hn',λj y v' e1 e2 e3=>?_⟩,λy c e=>?_,I.free,I.freeC,λp hp=>?_,tracked ⟨oL,hoL,I.free⟩ hs,by simpa using I.len⟩ ⟨_,hs,.inl rfl⟩
  .exact(hs.2 b (cj (cy (au e) I.ok.above))).trans (I.base.keep b o e n hb hx)
  .obtain⟨sl,e1⟩:=I.base.slot b o e n hb hx
   exact⟨sl,(hs.2 b (cj (cy (au e) I.ok.above))).trans e1⟩
  .obtain⟨o',e1⟩:=I.base.there b o e hx
   exact⟨o',(hs.2 b (cj (cy (au e) I.ok.above))).trans e1⟩
  .by_cases hj:j=i
   .subst hj
    rw[hi]at e1;cases e1;rw[dg hiσ]at e2;cases e2;exact⟨u,r,.inl ⟨hk,by simp⟩⟩
   .rw[dq (gi hj)]at e2
    obtain⟨u',r',q⟩:=hl j y v' e1 e2 e3;refine⟨u',r',?_⟩;rcases q with⟨k,e⟩|⟨k,c,e,z⟩
    .refine .inl ⟨k,?_⟩
     have:y≠x:=λe=>hj (Cg hN e1 (e▸hi));simp[this,e]
    .exact .inr ⟨k,c,e,z.sameBut hs (cne y c e)⟩
  .obtain⟨w',z⟩:=I.cell y c e
   exact⟨w',z.sameBut hs (cne y c e)⟩
  .obtain⟨e,n,ne,nf,d⟩:=I.pin p hp
   exact⟨(hs.2 p.1 ne).trans e,n,ne,nf,d⟩
 .have hfn:X.fn x=true:=by
   rcases hf with z |z
   .exact z
   .rw[z]at hk;cases hk
  obtain⟨c,hc⟩:=I.ok.has x (.inl hk);obtain⟨w',z⟩:=I.cell x c hc;refine wpAny_storeName_cell I.ok.kind hk hc z (λh' hc' hs=>?_);obtain⟨oc,hoc,hocd⟩:=id z;refine h {s with heap:=h'} ⟨I.ok,I.os,I.bare,⟨λb o e n hb hx=>?_,λb o e n hb hx=>?_,I.base.free,λb o e hx=>?_,I.base.tups,I.base.frzs,I.base.tbls⟩,⟨m,hn.sameBut hs (gi (cne x c hc)),λj y v' e1 e2 e3=>?_⟩,λy c' e=>?_,I.free,I.freeC,λp hp=>?_,tracked ⟨oc,hoc,I.freeC x c hc⟩ hs,by simpa using I.len⟩ ⟨c,hs,.inr hc⟩
  .exact(hs.2 b (cj (cy (au e) (I.ok.cab x c hfn hc)))).trans (I.base.keep b o e n hb hx)
  .obtain⟨sl,e1⟩:=I.base.slot b o e n hb hx
   exact⟨sl,(hs.2 b (cj (cy (au e) (I.ok.cab x c hfn hc)))).trans e1⟩
  .obtain⟨o',e1⟩:=I.base.there b o e hx
   exact⟨o',(hs.2 b (cj (cy (au e) (I.ok.cab x c hfn hc)))).trans e1⟩
  .by_cases hj:j=i
   .subst hj
    rw[hi]at e1;cases e1;rw[dg hiσ]at e2;cases e2;exact⟨u,r,.inr ⟨.inl hk,c,hc,hc'⟩⟩
   .rw[dq (gi hj)]at e2
    obtain⟨u',r',q⟩:=hl j y v' e1 e2 e3;refine⟨u',r',?_⟩;rcases q with q |⟨k,c',e,z'⟩
    .exact .inl q
    .refine .inr ⟨k,c',e,z'.sameBut hs ?_⟩
     rintro rfl
     exact hj (Cg hN e1 (I.ok.inj _ _ _ e hc▸hi))
  .by_cases hcc:c'=c
   .subst hcc;exact⟨_,hc'⟩
   .obtain⟨w2,z2⟩:=I.cell y c' e
    exact⟨w2,z2.sameBut hs hcc⟩
  .obtain⟨e,n,ne,nf,d⟩:=I.pin p hp
   refine⟨(hs.2 p.1 ?_).trans e,n,ne,nf,d⟩;intro q;rw[q,hoc]at e;have q':oc=p.2:=ck e;exact d w' (by rw[<-q'];exact hocd)
theorem oI{M:jp}{A:ak}{E:Value->aa->Prop}{i:Nat}{x:Str}{v:V}{u:Value}{Q:Unit->aa->Prop}(I:aH X AM σ H s)(hN:X.N.Nodup)(hi:X.N[i]?=some x)(hx:jM X.env.scope x)(r:bM v u)
  (h:∀s',aH X AM (σ.set i (some v)) H s'->Q () s')(hf:X.fn x=true\/X.env.scope.names.lookup x=some .local:=by first |exact .inl rfl |exact .inr rfl |assumption):wpAny M A (storeName X.env x u) Q E s:=
 Qr I hN hi hx r (λs' I' _=>h s' I') hf
theorem aH.call'{s':aa}{ch:List Addr}(I:aH X AM σ H s)(ho:s'.os=s.os)(u:Un (eC X.stack) ch H H' s.heap s'.heap)(hok:eJ X.prog X.w H' s'.heap)(hg:iy s'.gens)
  (hch:∀b∈ch,(b∈X.ex\/X.AN.heap.objs.size<=b)/\b≠X.env.locals/\(∀x c,X.env.cells.lookup x=some c->c≠b)/\∀p∈X.pn++AM,p.1≠b):aH X AM σ H' s':=by
 obtain⟨h',g',d',t',o'⟩:=s';have e:o'=s.os:=ho;subst e;exact I.call (g':=g') (t':=t') (d':=d') u hok hg hch
end
abbrev XK:=Value->AG->Hp->Prop
abbrev St:=List (Option V)
abbrev VK:=V->Hp->Prop
abbrev TE:=St->Hp->VK->Prop
abbrev TT:=St->Hp->(Bool->Hp->Prop)->Prop
abbrev TA:=St->Hp->(List V->Hp->Prop)->Prop
structure kN where
 nx:St->Hp->Prop
 rt:VK
 bk:St->Hp->Prop:=λ_ _=>False
 ct:St->Hp->Prop:=λ_ _=>False
abbrev TS:=kN->St->Hp->Prop
def EP(X:Cx)(AM:List (Addr×Obj))(σ:St)(Q:VK)(u:Value)(s':aa):Prop:=∃v H',aH X AM σ H' s'/\bM v u/\Q v H'
def TP(X:Cx)(AM:List (Addr×Obj))(σ:St)(Q:Bool->Hp->Prop)(b:Bool)(s':aa):Prop:=∃H',aH X AM σ H' s'/\Q b H'
def AP(X:Cx)(AM:List (Addr×Obj))(σ:St)(Q:List V->Hp->Prop)(us:AE)(s':aa):Prop:=∃vs H',aH X AM σ H' s'/\bG vs us/\Q vs H'
def SP(X:Cx)(AM:List (Addr×Obj))(D:kN)(f:Flow)(s':aa):Prop:=
 match f with
 |.next=>∃σ' H',aH X AM σ' H' s'/\D.nx σ' H'
 |.brk=>∃σ' H',aH X AM σ' H' s'/\D.bk σ' H'
 |.cont=>∃σ' H',aH X AM σ' H' s'/\D.ct σ' H'
 |.ret u=>∃v σ' H',aH X AM σ' H' s'/\bM v u/\D.rt v H'
def PE(X:Cx)(e:af)(t:TE):Prop:=
 ∀(AM:List (Addr×Obj))(s:aa)(σ:St)(H:Hp)(Q:VK),aH X AM σ H s->t σ H Q->wpAny (model X.prog X.w) X.A (eval e X.env) (EP X AM σ Q) X.xe s
def PT(X:Cx)(e:af)(t:TT):Prop:=
 ∀(AM:List (Addr×Obj))(s:aa)(σ:St)(H:Hp)(Q:Bool->Hp->Prop),aH X AM σ H s->t σ H Q->wpAny (model X.prog X.w) X.A (isTrue e X.env (eval e X.env)) (TP X AM σ Q) X.xe s
def PW(X:Cx)(e:af)(t:TT):Prop:=
 ∀(whole:Sem Value)(AM:List (Addr×Obj))(s:aa)(σ:St)(H:Hp)(Q:Bool->Hp->Prop),aH X AM σ H s->t σ H Q->wpAny (model X.prog X.w) X.A (isTrue e X.env whole) (TP X AM σ Q) X.xe s
theorem PW.pt{X:Cx}{e:af}{t:TT}(h:PW X e t):PT X e t:=h _
def PA(X:Cx)(es:List af)(t:TA):Prop:=
 ∀(pos:ah)(AM:List (Addr×Obj))(s:aa)(σ:St)(H:Hp)(Q:List V->Hp->Prop),aH X AM σ H s->t σ H Q->wpAny (model X.prog X.w) X.A (spliced (backTo pos (starEach es X.env))) (AP X AM σ Q) X.xe s
def PS(X:Cx)(st:Stmt)(t:TS):Prop:=
 ∀(AM:List (Addr×Obj))(s:aa)(σ:St)(H:Hp)(D:kN),aH X AM σ H s->t D σ H->wpAny (model X.prog X.w) X.A (exec st X.env) (SP X AM D) X.xe s
def fG(X:Cx)(st:List Stmt)(t:TS):Prop:=
 ∀(AM:List (Addr×Obj))(s:aa)(σ:St)(H:Hp)(D:kN),aH X AM σ H s->t D σ H->wpAny (model X.prog X.w) X.A (execs st X.env) (SP X AM D) X.xe s
theorem bH{α:Type}{t:Sem α}{Q Q':α->aa->Prop}{M:jp}{A:ak}{E:Value->aa->Prop}{s:aa}(h:wpAny M A t Q E s)(hQ:∀a s,Q a s->Q' a s):wpAny M A t Q' E s:=jg h hQ λ_ _ x=>x
section
variable{X:Cx}
theorem bin{a b:af}{ta tb:TE}(ha:PE X a ta)(hb:PE X b tb){AM:List (Addr×Obj)}{s:aa}{σ:St}{H:Hp}{R:V->V->Hp->Prop}(I:aH X AM σ H s)(h:ta σ H λx H1=>tb σ H1 λy H2=>R x y H2)
  {α:Type}{Q:α->aa->Prop}{f:Value->Value->Sem α}
  (hf:∀v u s2 x y H2,aH X AM σ H2 s2->bM x v->bM y u->R x y H2->wpAny (model X.prog X.w) X.A (f v u) Q X.xe s2):
  wpAny (model X.prog X.w) X.A (eval a X.env) (λv AQ=>wpAny (model X.prog X.w) X.A (eval b X.env) (λu AT=>wpAny (model X.prog X.w) X.A (f v u) Q X.xe AT) X.xe AQ) X.xe s:=by
 refine bH (ha AM s σ H _ I h) ?_
 rintro v s1 ⟨x,H1,I1,r1,q1⟩
 refine bH (hb AM s1 σ H1 _ I1 q1) ?_
 rintro u s2 ⟨y,H2,I2,r2,q2⟩
 exact hf v u s2 x y H2 I2 r1 r2 q2
def On(i:Nat):TE:=λσ H Q=>∃v,σ[i]?=some (some v)/\Q v H
def tC(v:V):TE:=λ_ H Q=>Q v H
theorem nI{i:Nat}{x:Str}{pos:ah}(hN:X.N[i]?=some x)(hv:mP X.env.scope x)(hd:(x==("__debug__":Str))=false:=by decide)(hcd:(x==("__classdict__":Str))=false:=by decide):PE X (.Name x pos) (On i):=by
 intro AM s σ H Q I h;obtain⟨v,e,h⟩:=h;obtain⟨m,hn,hl⟩:=I.loc;obtain⟨u,r,l⟩:=hl i x v hN e hv;have fin:EP X AM σ Q u s:=⟨v,H,I,r,h⟩;rcases l with⟨hk,hm⟩|⟨hk,c,hc,hcell⟩
 .exact sr (xb I.ok.kind hk hn hm fin) hd
 .rcases hk with hk |hk
  .exact sr (xc I.ok.kind hk hc hcell fin) hd
  .exact sr (wpAny_loadName_free I.ok.kind hk hc hcell fin hcd) hd
theorem Lk{i j pos}:PE X (.Constant (.int i) j pos) (tC (.int i)):=λ_ _ _ H _ I h=>wpAny_Constant_int ⟨.int i,H,I.tok _,⟨_,rfl⟩,h⟩
theorem R9{b j pos}:PE X (.Constant (.bool b) j pos) (tC (.bl b)):=λ_ _ _ H _ I h=>Constant_bool ⟨.bl b,H,I,rfl,h⟩
theorem C4{j pos}:PE X (.Constant .none j pos) (tC .non):=λ_ _ _ H _ I h=>Constant_none ⟨.non,H,I,rfl,h⟩
theorem J2{x j pos}:PE X (.Constant (.str x) j pos) (tC (.str x)):=λ_ _ _ H _ I h=>Calls.Constant_str ⟨.str x,H,I.tok _,⟨_,rfl⟩,h⟩
def Gl(X:Cx)(x:Str):Prop:=X.env.kindOf x=some .globalImplicit
theorem Ni{E:Value->aa->Prop}{AM:List (Addr×Obj)}{s:aa}{σ:St}{H:Hp}{x:Str}{u:Value}{pos:ah}{Q:Value->aa->Prop}(I:aH X AM σ H s)(hg:Gl X x)(hm:X.mg x=some u)(h:Q u s)
  (hd:(x==("__debug__":Str))=false:=by decide):wpAny (model X.prog X.w) X.A (eval (.Name x pos) X.env) Q E s:=
 xf I.ok.kind hg (Calls.loadGlobal_global (by rw[I.ok.glob];exact I.mod.glob.keeps I.bk) hm h) hd
theorem nH{E:Value->aa->Prop}{AM:List (Addr×Obj)}{s:aa}{σ:St}{H:Hp}{x:Str}{u:Value}{pos:ah}{Q:Value->aa->Prop}(I:aH X AM σ H s)(hg:Gl X x)(hm:X.mg x=none)(hv:bootBuiltins x=some u)(h:Q u s)
  (hn:x≠"__name__":=by decide)(hd:(x==("__debug__":Str))=false:=by decide):wpAny (model X.prog X.w) X.A (eval (.Name x pos) X.env) Q E s:=by
 obtain⟨mb,h1,h2⟩:=I.mod.blt;exact xf I.ok.kind hg (Calls.loadGlobal_builtin (by rw[I.ok.glob];exact I.mod.glob.keeps I.bk) hm (by rw[I.ok.blt];exact h1.keeps I.bk) ((h2 x hn).trans hv) h) hd
theorem Gx{x:Str}{v:V}{u:Value}{pos:ah}(hg:Gl X x)(hm:X.mg x=none)(hv:bootBuiltins x=some u)(r:bM v u)(hn:x≠"__name__":=by decide)(hd:(x==("__debug__":Str))=false:=by decide):PE X (.Name x pos) (tC v):=
 λ_ _ _ H _ I h=>nH I hg hm hv ⟨v,H,I,r,h⟩ hn hd
variable{a b:af}{ta tb:TE}{pos:ah}
def PC(X:Cx)(op:jq)(a b:af)(t:TE):Prop:=
 ∀(AM:List (Addr×Obj))(s:aa)(σ:St)(H:Hp)(Q:VK),aH X AM σ H s->t σ H Q->
  wpAny (model X.prog X.w) X.A (eval a X.env) (λv AQ=>wpAny (model X.prog X.w) X.A (eval b X.env) (λu AT=>wpAny (model X.prog X.w) X.A (compareOp op v u) (EP X AM σ Q) X.xe AT) X.xe AQ) X.xe s
theorem Ot(b:af){op:jq}(h:op≠.In)(h2:op≠.NotIn):behindInMarks op b=false:=by
 have e1:(op==CmpOp.In)=false:=by cases op<;>first |rfl |exact absurd rfl h
 have e2:(op==CmpOp.NotIn)=false:=by cases op<;>first |rfl |exact absurd rfl h2
 cases b<;>simp[behindInMarks,e1,e2]
def Nm(ta:TE):TE:=λσ H Q=>ta σ H λx H1=>Q (.bl (!decide (x=.non))) H1
theorem bM.none_iff{x:V}{v:Value}(r:bM x v):(v==cw)=decide (x=.non):=by
 cases x with
 |non=>cases r;rfl
 |bl _=>cases r;rfl
 |int _=>obtain⟨t,rfl⟩:=r;rfl
 |str _=>obtain⟨t,rfl⟩:=r;rfl
 |byt _=>obtain⟨t,rfl⟩:=r;rfl
 |flt _=>obtain⟨t,rfl⟩:=r;rfl
 |ref _=>cases r;rfl
 |ty _=>cases r;rfl
theorem Uy{j pos'}(ha:PE X a ta):PC X .IsNot a (.Constant .none j pos') (Nm ta):=by
 intro AM s σ H Q I h;refine bH (ha AM s σ H _ I h) ?_
 rintro v s1 ⟨x,H1,I1,r1,q1⟩
 exact Constant_none (isnot_none_gen ⟨.bl _,H1,I1,by rw[r1.none_iff];rfl,q1⟩)
def tB(t:TE):TT:=λσ H Q=>t σ H λx H1=>∃c,x=.bl c/\Q c H1
theorem L0{op:jq}{t:TE}(h:PC X op a b t)(h1:behindInMarks op b=false:=by first |exact Ot _ (by decide) (by decide) |rfl):PT X (.Compare a [op] [b] pos) (tB t):=by
 intro AM s σ H Q I hw;refine xh (bH (h AM s σ H _ I hw) λv s1 h1=>bH h1 λu s2 h2=>bH h2 λc s3 hq=>?_) h1;rcases hq with⟨x,H1,I1,r1,q1⟩;obtain⟨d,rfl,q⟩:=q1;cases r1;exact ky ⟨H1,I1,q⟩
theorem B9{e:af}{t:TE}(h:PE X e t)(he:∀whole,isTrue e X.env whole=(do let v <-whole;standAt e.pos;holding [v] (truthy v)):=by intro _;rfl):PT X e (tB t):=by
 intro AM s σ H Q I hw;refine isTrue_plain (bH (h AM s σ H _ I hw) λv s1 hq=>?_) (he _);rcases hq with⟨x,H1,I1,r1,q1⟩;obtain⟨d,rfl,q⟩:=q1;cases r1;exact ky ⟨H1,I1,q⟩
variable{tA tB':TT}{eF:List af}
def W7(t u:TT):TT:=λσ H Q=>t σ H λc H1=>if c=true then u σ H1 Q else Q false H1
def tOr(t u:TT):TT:=λσ H Q=>t σ H λc H1=>if c=true then Q true H1 else u σ H1 Q
def aae(t:TT):TT:=λσ H Q=>t σ H λc H1=>Q (!c) H1
theorem Jx(ha:PT X a tA):PW X (.BoolOp .And [a] pos) tA:=by
 intro wh AM s σ H Q I h;refine isTrue_and (bH (ha AM s σ H Q I h) λc s1 e=>?_);cases c with
 |true=>exact isTrue_and_nil e
 |false=>exact e
theorem J3(ha:PT X a tA):PW X (.BoolOp .Or [a] pos) tA:=by
 intro wh AM s σ H Q I h;refine isTrue_or (bH (ha AM s σ H Q I h) λc s1 e=>?_);cases c with
 |false=>exact isTrue_or_nil e
 |true=>exact e
theorem D7(ha:PT X a tA)(hb:PW X (.BoolOp .And (b::eF) pos) tB'):PW X (.BoolOp .And (a::b::eF) pos) (W7 tA tB'):=by
 intro wh AM s σ H Q I h;refine isTrue_and (bH (ha AM s σ H _ I h) λc s1 hq=>?_);rcases hq with⟨H1,I1,q1⟩;cases c with
 |true=>exact hb wh AM s1 σ H1 Q I1 q1
 |false=>exact⟨H1,I1,q1⟩
theorem U5(ha:PT X a tA)(hb:PW X (.BoolOp .Or (b::eF) pos) tB'):PW X (.BoolOp .Or (a::b::eF) pos) (tOr tA tB'):=by
 intro wh AM s σ H Q I h;refine isTrue_or (bH (ha AM s σ H _ I h) λc s1 hq=>?_);rcases hq with⟨H1,I1,q1⟩;cases c with
 |true=>exact⟨H1,I1,q1⟩
 |false=>exact hb wh AM s1 σ H1 Q I1 q1
theorem G7(ha:PT X a tA):PT X (.UnaryOp .Not a pos) (aae tA):=by
 intro AM s σ H Q I h;exact isTrue_not (ha AM s σ H (λc H1=>Q (!c) H1) I h)
def P6(ta tb:TE):TE:=λσ H Q=>ta σ H λx H1=>∃c,x=.bl c/\if c=true then tb σ H1 Q else Q (.bl false) H1
def T8(ta:TE):TE:=λσ H Q=>ta σ H λx H1=>∃c,x=.bl c/\Q (.bl (!c)) H1
theorem J6(ha:PE X a ta)(hb:PE X (.BoolOp .And (b::eF) pos) tb):PE X (.BoolOp .And (a::b::eF) pos) (P6 ta tb):=by
 intro AM s σ H Q I h;refine BoolOp_and (bH (ha AM s σ H _ I h) λv s1 hq=>?_);rcases hq with⟨x,H1,I1,r1,q1⟩;obtain⟨c,rfl,q1⟩:=q1;cases r1;refine ky ?_;cases c with
 |true=>exact hb AM s1 σ H1 Q I1 q1
 |false=>exact⟨.bl false,H1,I1,rfl,q1⟩
theorem B8(ha:PE X a ta):PE X (.UnaryOp .Not a pos) (T8 ta):=by
 intro AM s σ H Q I h;refine UnaryOp_ (bH (ha AM s σ H _ I h) λv s1 hq=>?_);rcases hq with⟨x,H1,I1,r1,q1⟩;obtain⟨c,rfl,q1⟩:=q1;cases r1;exact not_of (ky ⟨.bl (!c),H1,I1,rfl,q1⟩)
end
def bN(K:ae)(H:Hp)(a:Addr)(xs:List V):Prop:=
 Rd H a (.lst xs)\/
  ∃(o:Obj)(its:Array Value)(n:Nat),K.lookup a=some o/\o.cls=.type "list"/\o.dict=none/\o.data=.seq its n/\its.size<=sizeLine/\bG xs its.toList
def cE(K:ae)(H:Hp)(a:Addr)(xs:List V):Prop:=
 Rd H a (.tup xs)\/
  ∃(o:Obj)(its:Array Value)(n:Nat),K.lookup a=some o/\(o.cls=.type "tuple"/\o.dict=none)/\o.data=.seq its n/\its.size<=sizeLine/\bG xs its.toList
def aaa:Value->Option V
 |.none=>some .non
 |.bool b=>some (.bl b)
 |.int i _=>some (.int i)
 |.str x _=>some (.str x)
 |.bytes b _=>some (.byt b)
 |.float b _=>some (.flt b)
 |.ref a=>some (.ref a)
 |.type n=>some (.ty n)
 |_=>none
theorem bM.abs{x:V}{u:Value}(r:bM x u):aaa u=some x:=by
 cases x with
 |non=>cases r;rfl
 |bl _=>cases r;rfl
 |int _=>obtain⟨t,rfl⟩:=r;rfl
 |str _=>obtain⟨t,rfl⟩:=r;rfl
 |byt _=>obtain⟨t,rfl⟩:=r;rfl
 |flt _=>obtain⟨t,rfl⟩:=r;rfl
 |ref _=>cases r;rfl
 |ty _=>cases r;rfl
theorem bM.inj{x y:V}{u:Value}(r:bM x u)(q:bM y u):x=y:=ck (r.abs.symm.trans q.abs)
theorem bG.inj:∀{xs ys:List V}{us:AE},bG xs us->bG ys us->xs=ys
 |_,_,_,.nil,.nil=>rfl
 |_,_,_,.cons r t,.cons r' t'=>by rw[r.inj r',bG.inj t t']
section
variable{X:Cx}{AM:List (Addr×Obj)}{σ:St}{H:Hp}{s:aa}{a:Addr}{xs ys:List V}
theorem bN.of{K:ae}(h:H a=some (.lst xs)):bN K H a xs:=.inl (.inl h)
theorem cE.of{K:ae}(h:H a=some (.tup xs)):cE K H a xs:=.inl (.inl h)
theorem aH.list(I:aH X AM σ H s)(h:bN X.K H a xs):∃its:AE,bG xs its/\PlainL s.heap a its.toArray/\xs.length<=sizeLine:=by
 rcases h with h |⟨o,its,n,hk,hc,hd,hs,hz,r⟩
 .obtain⟨z,its,n,r,e⟩:=h.ok I.hok
  exact⟨its,r,⟨_,n,e,rfl,rfl,rfl⟩,z⟩
 .refine⟨its.toList,r,⟨o,n,I.kIn a o hk,hc,hd,by simpa using hs⟩,?_⟩
  have e:=r.length;simp only[iz]at e;omega
theorem aH.tuple(I:aH X AM σ H s)(h:cE X.K H a xs):∃its:AE,bG xs its/\IsTup s.heap a its.toArray/\xs.length<=sizeLine:=by
 rcases h with h |⟨o,its,n,hk,hc,hs,hz,r⟩
 .obtain⟨z,its,r,p⟩:=h.ok I.hok
  exact⟨its,r,p,z.1⟩
 .refine⟨its.toList,r,⟨o,I.kIn a o hk,hc.1,n,by simpa using hs⟩,?_⟩
  have e:=r.length;simp only[iz]at e;omega
theorem aH.tupD(I:aH X AM σ H s)(h:cE X.K H a xs):∃o,s.heap.get? a=some o/\o.dict=none:=by
 rcases h with h |⟨o,its,n,hk,hc,hs,hz,r⟩
 .exact(h.ok I.hok).1.2
 .exact⟨o,I.kIn a o hk,hc.2⟩
theorem aH.list_inj(I:aH X AM σ H s)(h:bN X.K H a xs)(h':bN X.K H a ys):xs=ys:=by
 obtain⟨its,r,⟨o,n,e,_,_,d⟩,_⟩:=I.list h;obtain⟨its',r',⟨o',n',e',_,_,d'⟩,_⟩:=I.list h';rw[e]at e';cases e';rw[d]at d';injection d' with d1 _;have:its=its':=by simpa using congrArg ss d1
 subst this;exact r.inj r'
theorem aH.tuple_inj(I:aH X AM σ H s)(h:cE X.K H a xs)(h':cE X.K H a ys):xs=ys:=by
 obtain⟨its,r,⟨o,e,_,n,d⟩,_⟩:=I.tuple h;obtain⟨its',r',⟨o',e',_,n',d'⟩,_⟩:=I.tuple h';rw[e]at e';cases e';rw[d]at d';injection d' with d1 _;have:its=its':=by simpa using congrArg ss d1
 subst this;exact r.inj r'
end
abbrev Cx.wish(X:Cx)(E:Value->aa->Prop):Cx:={X with xe:=E}
abbrev Cx.nox(X:Cx):Cx:=X.wish λ_ _=>False
theorem Cx.Ok.wish{X:Cx}(ok:X.Ok)(E:Value->aa->Prop):(X.wish E).Ok:=
 ⟨ok.mod,ok.kind,ok.glob,ok.blt,ok.above,ok.inj,ok.has,ok.cab,ok.hd,ok.frames,ok.stk,ok.exf,ok.bs,ok.bsz,ok.noex,ok.exfs,ok.funs,ok.frf⟩
theorem Cx.Ok.unwish{X:Cx}{E:Value->aa->Prop}(ok:(X.wish E).Ok):X.Ok:=
 ⟨ok.mod,ok.kind,ok.glob,ok.blt,ok.above,ok.inj,ok.has,ok.cab,ok.hd,ok.frames,ok.stk,ok.exf,ok.bs,ok.bsz,ok.noex,ok.exfs,ok.funs,ok.frf⟩
section
variable{X:Cx}{AM:List (Addr×Obj)}{σ:St}{H:Hp}{s:aa}{E:Value->aa->Prop}
theorem aH.wish(I:aH X AM σ H s)(E:Value->aa->Prop):aH (X.wish E) AM σ H s:=⟨I.ok.wish E,I.os,I.bare,I.base,I.loc,I.cell,I.free,I.freeC,I.pin,I.hok,I.len⟩
theorem aH.unwish(I:aH (X.wish E) AM σ H s):aH X AM σ H s:=⟨I.ok.unwish,I.os,I.bare,I.base,I.loc,I.cell,I.free,I.freeC,I.pin,I.hok,I.len⟩
theorem SP.unwish{D:kN}{f:Flow}{s':aa}(h:SP (X.wish E) AM D f s'):SP X AM D f s':=by
 cases f with
 |next=>obtain⟨σ',H',I,q⟩:=h;exact⟨σ',H',I.unwish,q⟩
 |brk=>obtain⟨σ',H',I,q⟩:=h;exact⟨σ',H',I.unwish,q⟩
 |cont=>obtain⟨σ',H',I,q⟩:=h;exact⟨σ',H',I.unwish,q⟩
 |ret u=>obtain⟨v,σ',H',I,r,q⟩:=h;exact⟨v,σ',H',I.unwish,r,q⟩
theorem fG.nox{st:List Stmt}{t:TS}(h:fG X.nox st t):fG X st t:=λAM s σ H D I hw=>
 jg (h AM s σ H D (I.wish _) hw) (λ_ _ q=>q.unwish) λ_ _ z=>ja z
end
section
variable{X:Cx}{st:Stmt}{eF:List Stmt}{t u:TS}{e:af}{te:TE}{pos:ah}
def V9:TS:=λD σ H=>D.nx σ H
def X7(t u:TS):TS:=λD σ H=>t {D with nx:=u D} σ H
theorem Kw:fG X [] V9:=λ_ _ σ H _ I h=>pe ⟨σ,H,I,h⟩
theorem Mu(h1:PS X st t)(h2:fG X eF u):fG X (st::eF) (X7 t u):=by
 intro AM s σ H D I h;refine wpAny_execs_cons (bH (h1 AM s σ H {D with nx:=u D} I h) λf s1 q=>?_);cases f with
 |next=>
  obtain⟨σ',H',I',q⟩:=q;exact h2 AM s1 σ' H' D I' q
 |ret v=>exact q
 |brk=>exact q
 |cont=>exact q
theorem Li(h1:PS X st t):fG X [st] t:=by
 intro AM s σ H D I h;refine wpAny_execs_cons (bH (h1 AM s σ H D I h) λf s1 q=>?_);cases f with
 |next=>exact pe q
 |ret v=>exact q
 |brk=>exact q
 |cont=>exact q
theorem aH.quiet{AM:List (Addr×Obj)}{σ:St}{H:Hp}{s:aa}(I:aH X AM σ H s):interactive X.env=false:=by simp[interactive,I.ok.kind]
def S8(te:TE):TS:=λD σ H=>te σ H λ_ H1=>D.nx σ H1
theorem Xy(he:PE X e te)(hs:swapsWith e none pos.line X.env=pure false:=by rfl):PS X (.Expr e pos) (S8 te):=by
 intro AM s σ H D I h;exact wpAny_Expr_any (bH (he AM s σ H _ I h) λv s1 ⟨x,H1,I1,r1,q1⟩=>⟨σ,H1,I1,q1⟩) I.quiet hs
def aau(te:TE):TS:=λD σ H=>te σ H D.rt
theorem L4(he:PE X e te):PS X (.Return (some e) pos) (aau te):=by
 intro AM s σ H D I h;exact wpAny_Return_some (bH (he AM s σ H _ I h) λv s1 ⟨x,H1,I1,r1,q1⟩=>⟨x,σ,H1,I1,r1,q1⟩)
def Y6(c:TT)(t u:TS):TS:=λD σ H=>c σ H λb H1=>if b=true then t D σ H1 else u D σ H1
theorem Q8{c:af}{a b:List Stmt}{tc:TT}(hc:PT X c tc)(ha:fG X a t)(hb:fG X b u):PS X (.If c a b pos) (Y6 tc t u):=by
 intro AM s σ H D I h;refine wpAny_If (bH (hc AM s σ H _ I h) λd s1 hq=>?_);rcases hq with⟨H1,I1,q1⟩;cases d with
 |true=>exact ha AM s1 σ H1 D I1 q1
 |false=>exact hb AM s1 σ H1 D I1 q1
end
abbrev TG:=V->St->Hp->(St->Hp->Prop)->Prop
abbrev kU:=List V->St->Hp->(St->Hp->Prop)->Prop
def PG(X:Cx)(target:af)(t:TG):Prop:=
 ∀(AM:List (Addr×Obj))(s:aa)(σ:St)(H:Hp)(v:V)(u:Value)(Q:St->Hp->Prop),aH X AM σ H s->bM v u->t v σ H Q->
  wpAny (model X.prog X.w) X.A (assign target X.env u) (λ_ s'=>∃σ' H',aH X AM σ' H' s'/\Q σ' H') X.xe s
def jY(X:Cx)(ts:List af)(t:kU):Prop:=
 ∀(AM:List (Addr×Obj))(s:aa)(σ:St)(H:Hp)(vs:List V)(us:AE)(Q:St->Hp->Prop),aH X AM σ H s->bG vs us->t vs σ H Q->
  wpAny (model X.prog X.w) X.A (assignInOrder ((assignEach ts X.env).map (·.2)) us) (λ_ s'=>∃σ' H',aH X AM σ' H' s'/\Q σ' H') X.xe s
abbrev Va:=V->V->V->Hp->(Hp->Prop)->Prop
def Tm(X:Cx)(t:Va):Prop:=
 ∀(AM:List (Addr×Obj))(s:aa)(σ:St)(H:Hp)(o i v:V)(ov iv u:Value)(Q:Hp->Prop),aH X AM σ H s->bM o ov->bM i iv->bM v u->t o i v H Q->
  wpAny (model X.prog X.w) X.A (setItem ov iv u) (λ_ s'=>∃H',aH X AM σ H' s'/\Q H') X.xe s
abbrev vM:=V->V->Hp->VK->Prop
def PIp(X:Cx)(op:pf)(t:vM):Prop:=
 ∀(AM:List (Addr×Obj))(s:aa)(σ:St)(H:Hp)(x y:V)(v u:Value)(Q:VK),aH X AM σ H s->bM x v->bM y u->t x y H Q->
  wpAny (model X.prog X.w) X.A (inplaceOp op v u) (EP X AM σ Q) X.xe s
section
variable{X:Cx}{pos:ah}
def La(i:Nat):TG:=λv σ H Q=>Q (σ.set i (some v)) H
theorem Mi{i:Nat}{x:Str}(hN:X.N.Nodup)(hi:X.N[i]?=some x)(hx:jM X.env.scope x)(hf:X.fn x=true\/X.env.scope.names.lookup x=some .local:=by first |exact .inl rfl |exact .inr rfl |assumption):PG X (.Name x pos) (La i):=by
 intro AM s σ H v u Q I r h;exact wpAny_assign_Name (oI I hN hi hx r (λs' I'=>⟨_,H,I',h⟩) hf)
def Y7:kU:=λvs σ H Q=>vs=[]/\Q σ H
def V8(t:TG)(u:kU):kU:=λvs σ H Q=>∃v r,vs=v::r/\t v σ H λσ' H'=>u r σ' H' Q
theorem Zy:jY X [] Y7:=by
 intro AM s σ H vs us Q I r h;obtain⟨e,h⟩:=h;subst e;cases r;exact assignInOrder_nil ⟨σ,H,I,h⟩
theorem Gw{e:af}{es:List af}{t:TG}{u:kU}(h1:PG X e t)(h2:jY X es u)
  (hs:(assignEach (e::es) X.env).map (·.2)=assign e X.env::(assignEach es X.env).map (·.2):=by rfl):jY X (e::es) (V8 t u):=by
 intro AM s σ H vs us Q I r h;obtain⟨v,vr,e1,h⟩:=h;subst e1;cases r with
 |cons r rr=>
  rw[hs];refine sv (bH (h1 AM s σ H _ _ _ I r h) λ_ s1 hq=>?_);rcases hq with⟨σ1,H1,I1,q1⟩;exact h2 AM s1 σ1 H1 _ _ Q I1 rr q1
def aaw(K:ae)(n:Nat)(t:kU):TG:=λv σ H Q=>∃a xs,v=.ref a/\cE K H a xs/\xs.length=n/\t xs σ H Q
theorem D9{es:List af}{k:Nat}{t:kU}{n:Nat}(hc:X.calm=true)(h:jY X es t)
  (hn:(assignEach es X.env).length=n:=by rfl)(hst:(assignEach es X.env).findIdx? (·.1)=none:=by rfl):PG X (.Tuple es k pos) (aaw X.K n t):=by
 intro AM s σ H v u Q I r hw;obtain⟨a,xs,e1,hq,hl,hw⟩:=hw;subst e1;cases r;obtain⟨its,rv,ht,hz⟩:=I.tuple hq;refine assign_Tuple_tuple (I.ok.hd hc) ht (by simp[hn,<-hl,rv.length]) hst λh' hx=>?_;have I1:aH X AM σ H {s with heap:=h'}:=I.kept (t':=s.toks) λb o e=>hx b o (cj (au e)) e;exact h AM _ σ H xs _ Q I1 (by simpa using rv) hw
def W8(to ti:TE)(t:Va):TG:=λv σ H Q=>to σ H λo H1=>ti σ H1 λi H2=>t o i v H2 λH3=>Q σ H3
theorem Fk{o i:af}{to ti:TE}{t:Va}(ho:PE X o to)(hi:PE X i ti)(hs:Tm X t)
  (ha:∀v,assign (.Subscript o i pos) X.env v=(do
   let ov <-holding [v] (eval o X.env)
   let iv <-holding [v,ov] (eval i X.env)
   standAt pos
   holding [v,ov,iv] (setItem ov iv v)
   release [v,ov,iv] []):=by intro _;rfl):PG X (.Subscript o i pos) (W8 to ti t):=by
 intro AM s σ H v u Q I r h;rw[ha];refine ag (ki (bH (ho AM s σ H _ I h) λov s1 hq=>?_));rcases hq with⟨x,H1,I1,r1,q1⟩;refine ag (ki (bH (hi AM s1 σ H1 _ I1 q1) λiv s2 hq=>?_));rcases hq with⟨y,H2,I2,r2,q2⟩;refine ag (ph (ag (ki (bH (hs AM s2 σ H2 x y v ov iv u _ I2 r1 r2 r q2) λ_ s3 hq=>?_))));rcases hq with⟨H3,I3,q3⟩;exact wpAny_release ⟨σ,H3,I3,q3⟩
def Wa(te:TE)(g:TG):TS:=λD σ H=>te σ H λx H1=>g x σ H1 D.nx
theorem Pj{tg e:af}{te:TE}{g:TG}(he:PE X e te)(hg:PG X tg g)(hs:swapsWithSole [tg] e pos.line X.env=pure false:=by rfl)(hw:swappedStores [tg] e X.env=pure none:=by rfl)
  (h1:(assignEach [tg] X.env).map (·.2)=[assign tg X.env]:=by rfl):PS X (.Assign [tg] e pos) (Wa te g):=by
 intro AM s σ H D I h;refine wpAny_Assign_stores (bH (he AM s σ H _ I h) λv s1 hq=>?_) hs hw;rcases hq with⟨x,H1,I1,r1,q1⟩;rw[h1];exact bH (hg AM s1 σ H1 x v _ I1 r1 q1) λ_ s2 q=>q
theorem E2{i:Nat}{x:Str}{e:af}{te:TE}{pos':ah}(hN:X.N.Nodup)(hi:X.N[i]?=some x)(hx:jM X.env.scope x)(he:PE X e te)(hs:swapsWith e (some (.Name x pos')) pos.line X.env=pure false:=by rfl)(hf:X.fn x=true\/X.env.scope.names.lookup x=some .local:=by first |exact .inl rfl |exact .inr rfl |assumption):
  PS X (.Assign [.Name x pos'] e pos) (Wa te (La i)):=by
 intro AM s σ H D I h;refine wpAny_Assign_Name (bH (he AM s σ H _ I h) λv s1 hq=>?_) hs;rcases hq with⟨y,H1,I1,r1,q1⟩;exact oI I1 hN hi hx r1 (λs2 I2=>⟨_,H1,I2,q1⟩) hf
def aai(i j:Nat)(ta:TA):TS:=λD σ H=>ta σ H λvs H1=>∃v w,vs=[v,w]/\D.nx ((σ.set i (some v)).set j (some w)) H1
theorem G3{i j:Nat}{x y:Str}{a b:af}{ta:TA}{px py pt:ah}{kt k2 pt2}(hc:X.calm=true)(hN:X.N.Nodup)(hi:X.N[i]?=some x)(hj:X.N[j]?=some y)(hij:i≠j)
  (hx:X.env.scope.names.lookup x=some .local)(hy:X.env.scope.names.lookup y=some .local)(ha:PA X [a,b] ta)
  (hw:swappedStores [.Tuple [.Name x px,.Name y py] kt pt] (.Tuple [a,b] k2 pt2) X.env=pure (some [x,y]))
  (hs:swapsWithSole [.Tuple [.Name x px,.Name y py] kt pt] (.Tuple [a,b] k2 pt2) pos.line X.env=pure false:=by rfl):
  PS X (.Assign [.Tuple [.Name x px,.Name y py] kt pt] (.Tuple [a,b] k2 pt2) pos) (aai i j ta):=by
 intro AM s σ H D I h;rw[exec_Assign_arm];refine ag (ph ?_);rw[hs];refine ag (ax ?_);rw[if_neg (by decide)];refine ag (Tuple_ (bH (ha _ AM s σ H _ I h) λus s1 hq=>?_));rcases hq with⟨vs,H1,I1,r1,q1⟩;obtain⟨v,w,e1,q1⟩:=q1;subst e1;obtain⟨u1,u2,rfl,rv,rw'⟩:∃u1 u2,us=[u1,u2]/\bM v u1/\bM w u2:=by
  cases r1 with
  |cons p q=>
   cases q with
   |cons p' q'=>
    cases q';exact⟨_,_,rfl,p,p'⟩
 refine jh ?_ (by show 2<=sizeLine;decide);have I2:aH X AM σ H1 {s1 with heap:=s1.heap.push {cls:=.type "tuple",data:=.seq [u1,u2].toArray}}:=I1.kept (t':=s1.toks) λb o e=>ao _ e;rw[hw];refine ag (ax ?_);show wpAny (model X.prog X.w) X.A (do rule "assign.swapped-stores";let items <-unpackItems (.ref s1.heap.objs.size) 2 none;assignInOrder [λv=>bindName X.env y v,λv=>bindName X.env x v] items.reverse;pure Flow.next) _ _ _
 refine ag (kz (ag (unpackItems_tuple (items:=#[u1,u2]) (I.ok.hd hc) (pr s1.heap _) λh' hx'=>?_)));have I3:=I2.kept (h':=h') (t':=s1.toks) λb o e=>hx' b o (cj (au e)) e;show wpAny _ _ (assignInOrder [λv=>bindName X.env y v,λv=>bindName X.env x v] [u2,u1] >>= λ_=>pure Flow.next) _ _ _
 refine ag (sv (wpAny_bindName (oI I3 hN hj (.inl hy) rw' (λs2 I4=>?_) (.inr hy))));refine sv (wpAny_bindName (oI I4 hN hi (.inl hx) rv (λs3 I5=>assignInOrder_nil (ax ?_)) (.inr hx)));rw[List.set_comm _ _ (gi hij)]at I5;exact⟨_,H1,I5,q1⟩
def aal(i:Nat)(te:TE)(ti:vM):TS:=λD σ H=>∃x,σ[i]?=some (some x)/\te σ H λy H1=>ti x y H1 λz H2=>D.nx (σ.set i (some z)) H2
theorem B7{i:Nat}{x:Str}{e:af}{te:TE}{op:pf}{ti:vM}{pos':ah}(hN:X.N.Nodup)(hi:X.N[i]?=some x)(hx:jM X.env.scope x)(he:PE X e te)(ho:PIp X op ti)(hf:X.fn x=true\/X.env.scope.names.lookup x=some .local:=by first |exact .inl rfl |exact .inr rfl |assumption):
  PS X (.AugAssign (.Name x pos') op e pos) (aal i te ti):=by
 intro AM s σ H D I h;obtain⟨v,e1,h⟩:=h;obtain⟨m,hn,hl⟩:=I.loc;have vis:mP X.env.scope x:=by rcases hx with k |k;exact .inl k;exact .inr (.inl k)
 obtain⟨u,r,l⟩:=hl i x v hi e1 vis;refine wpAny_AugAssign_Name ?_;have go:wpAny (model X.prog X.w) X.A (eval e X.env) (λw AT=>wpAny (model X.prog X.w) X.A (inplaceOp op u w) (λr s₃=>wpAny (model X.prog X.w) X.A (storeName X.env x r) (λ_=>SP X AM D .next) X.xe s₃) X.xe AT) X.xe s:=by
  refine bH (he AM s σ H _ I h) ?_
  rintro w s1 ⟨y,H1,I1,r1,q1⟩
  refine bH (ho AM s1 σ H1 v y u w _ I1 r r1 q1) ?_
  rintro z s2 ⟨zv,H2,I2,r2,q2⟩
  exact oI I2 hN hi hx r2 (λs3 I3=>⟨_,H2,I3,q2⟩) hf
 rcases l with⟨hk,hm⟩|⟨hk,c,hc,hcell⟩
 .exact xb I.ok.kind hk hn hm go
 .rcases hk with hk |hk
  .exact xc I.ok.kind hk hc hcell go
  .rcases hx with k |k
   .have:X.env.scope.names.lookup x=some .free:=hk
    rw[k]at this;cases this
   .have:X.env.scope.names.lookup x=some .free:=hk
    rw[k]at this;cases this
end
section
variable{X:Cx}{pos:ah}
def O2(c:TT)(tb:TS):TS:=λD σ H=>∃W:Nat->St->Hp->Prop,(∃m,W m σ H)/\∀m σ H,W m σ H->
 c σ H λb H1=>if b=true then ∃N:St->Hp->Prop,(∀σ' H',N σ' H'->∃m',m'<m/\W m' σ' H')/\tb {D with nx:=N,ct:=N,bk:=D.nx} σ H1 else D.nx σ H1
theorem Ev{c:af}{body:List Stmt}{tc:TT}{tb:TS}(hp:nj (model X.prog X.w) X.A X.env X.xe)(hc:PT X c tc)(hb:fG X body tb):PS X (.While c body [] pos) (O2 tc tb):=by
 intro AM s σ H D I h;obtain⟨W,⟨m0,w0⟩,turn⟩:=h;refine wpAny_While (codeAny_whileLoop (λn s'=>∃σ' H',aH X AM σ' H' s'/\W n σ' H') ?_ m0 ⟨σ,H,I,w0⟩)
 rintro n s1 ⟨σ1,H1,I1,w1⟩
 refine kj hp (bH (hc AM s1 σ1 H1 _ I1 (turn n σ1 H1 w1)) λb s2 hq=>?_);rcases hq with⟨H2,I2,q2⟩;cases b with
 |true=>
  obtain⟨N,hN,q2⟩:=q2;rw[if_pos rfl];refine kj hp (bH (hb AM s2 σ1 H2 _ I2 q2) λf s3 q3=>?_);cases f with
  |next=>
   obtain⟨σ3,H3,I3,n3⟩:=q3;obtain⟨m',hm,w3⟩:=hN σ3 H3 n3;exact⟨m',hm,σ3,H3,I3,w3⟩
  |cont=>
   obtain⟨σ3,H3,I3,n3⟩:=q3;obtain⟨m',hm,w3⟩:=hN σ3 H3 n3;exact⟨m',hm,σ3,H3,I3,w3⟩
  |brk=>exact q3
  |ret v=>exact q3
 |false=>
  rw[if_neg fu];exact pe ⟨σ1,H2,I2,q2⟩
end
structure It where
 go:Nat->Hp->Prop
 yld:Nat->Hp->V->Hp->Prop
 stop:Nat->Hp->Prop
def eT(X:Cx)(AM:List (Addr×Obj))(H:Hp)(b:Addr):Prop:=
 H b=none/\b≠X.env.locals/\b∉X.fs/\(b∈X.ex\/X.AN.heap.objs.size<=b)/\(∀x c,X.env.cells.lookup x=some c->c≠b)/\∀p∈X.pn++AM,p.1≠b
theorem aH.fpOk{X:Cx}{AM:List (Addr×Obj)}{σ:St}{H H':Hp}{s:aa}{b:Addr}(I:aH X AM σ H s)(hb:s.heap.objs.size<=b)(hn:H' b=none):eT X AM H' b:=by
 refine⟨hn,la (cy I.lt hb),I.nofs hb,.inr (gh I.sz hb),λx c e z=>?_,λp hp z=>?_⟩
 .obtain⟨v,q⟩:=I.cell x c e
  exact absurd (cy q.lt (by rw[z];exact hb)) (gw _)
 .exact absurd (cy (au (I.pin p hp).1) (by rw[z];exact hb)) (gw _)
structure pB(P:Program)(w:aj)(K:ae)(tg:af)(J:It)(fp:List Addr)(it:Addr)(tn:Nat->Heap->Prop):Prop where
 mem:it∈fp
 obj:∀i h,tn i h->∀b∈fp,∃o,h.get? b=some o/\∀v,o.data≠.cell v
 keep:∀i h h',tn i h->(∀b∈fp,∀o,h.get? b=some o->h'.get? b=some o)->tn i h'
 item:∀(X:Cx),X.prog=P->X.w=w->X.K=K->X.calm=true->∀(i:Nat)(AM:List (Addr×Obj))(s:aa)(σ:St)(H:Hp)(E:Value->aa->Prop),aH X AM σ H s->(∀b∈fp,eT X AM H b)->tn i s.heap->J.go i H->
  wpAny (model P w) X.A (pyNext (.ref it)) (λr s1=>∃u,r=some u/\
   wpAny (model P w) X.A (letOwnedTupleGo tg (.ref it) u) (λ_ s2=>∃x H',aH X AM σ H' s2/\bM x u/\J.yld i H x H'/\tn (i+1) s2.heap/\∀b∈fp,H' b=none) E s1) E s
 done:∀(X:Cx),X.prog=P->X.w=w->X.K=K->X.calm=true->∀(i:Nat)(AM:List (Addr×Obj))(s:aa)(σ:St)(H:Hp)(E:Value->aa->Prop),aH X AM σ H s->(∀b∈fp,eT X AM H b)->tn i s.heap->J.stop i H->
  wpAny (model P w) X.A (pyNext (.ref it)) (λr s1=>r=none/\aH X AM σ H s1) E s
 self:∀(A:ak)(i:Nat)(s:aa)(Q:Value->aa->Prop)(E:Value->aa->Prop),tn i s.heap->Q (.ref it) s->wpAny (model P w) A (pyIter (.ref it)) Q E s
abbrev TI:=St->Hp->(It->Hp->Prop)->Prop
def Yn(X:Cx)(AM:List (Addr×Obj))(σ:St)(tg:af)(R:It->Hp->Prop)(itv:Value)(s2:aa):Prop:=
 ∃(it:Addr)(fp:List Addr)(tn:Nat->Heap->Prop)(J:It)(H':Hp),itv=.ref it/\aH X AM σ H' s2/\pB X.prog X.w X.K tg J fp it tn/\tn 0 s2.heap/\(∀b∈fp,eT X AM H' b)/\R J H'
def PI(X:Cx)(tg iter:af)(wi:TI):Prop:=
 ∀(AM:List (Addr×Obj))(s:aa)(σ:St)(H:Hp)(R:It->Hp->Prop),aH X AM σ H s->wi σ H R->
  wpAny (model X.prog X.w) X.A (eval iter X.env) (λv s1=>wpAny (model X.prog X.w) X.A (pyIter v) (Yn X AM σ tg R) X.xe s1) X.xe s
theorem zW {M : jp} {A : ak} {E : Value → aa → Prop} {s : aa} {tg : af} {it : Addr} {u : Value} {o : Obj} {n : String} {vs : Array Value} {Q : Unit → aa → Prop} (ho : s.heap.get? it = some o) (hc : o.cls = .type n) (hd : o.data = .fields vs)
    (hn : ["enumerate", "zip", "dict_itemiterator", "dict_reverseitemiterator", "odict_iterator", "itertools.zip_longest", "itertools.pairwise"].contains n = false) (hQ : Q () s) : wpAny M A (letOwnedTupleGo tg (.ref it) u) Q E s := by
  unfold letOwnedTupleGo;cases tg <;> first
    | exact ax hQ
    | (cases u <;> first
        | exact ax hQ
        | (refine ag (wpAny_load ho ?_)
           rw [hc, hd];show wpAny M A (if (["enumerate", "zip", "dict_itemiterator", "dict_reverseitemiterator", "odict_iterator", "itertools.zip_longest", "itertools.pairwise"].contains n && vs[0]? == some (rawInt _)) = true then _ else _) Q E s;rw [if_neg (by intro h; rw [hn, Bool.false_and] at h; cases h)];exact ax hQ))
def vN(K:ae)(a:Addr):It:=
 ⟨λi H=>∃xs x,bN K H a xs/\xs[i]?=some x,λi H x H'=>H'=H/\∀xs,bN K H a xs->xs[i]?=some x,λi H=>∃xs,bN K H a xs/\xs.length<=i⟩
def Fb(K:ae)(a:Addr):It:=
 ⟨λi H=>∃xs x,cE K H a xs/\xs[i]?=some x,λi H x H'=>H'=H/\∀xs,cE K H a xs->xs[i]?=some x,λi H=>∃xs,cE K H a xs/\xs.length<=i⟩
def rS(lo:Int)(n:Nat):It:=⟨λi _=>i<n,λi H x H'=>H'=H/\x=.int (lo+i),λi _=>n<=i⟩
theorem Nr{P:Program}{w:aj}{K:ae}{tg:af}(a it:Addr):pB P w K tg (vN K a) [it] it (λi h=>h.IsListIter it a i) where
 mem:=by simp
 obj:=λi h st b hb=>by
  have e:b=it:=by simpa using hb
  subst e;obtain⟨o,e,c,d⟩:=st;exact⟨o,e,λv z=>by rw[d]at z;cases z⟩
 keep:=λi h h' st k=>st.at λo e=>k it (by simp) o e
 item:=by
  intro X hP hw hK hc i AM s σ H E I hf st hg;subst hP hw hK;obtain⟨xs,x,hq,hx⟩:=hg;obtain⟨its,rv,p,hz⟩:=I.list hq;obtain⟨u,hu,ru⟩:=rv.get hx;obtain⟨f0,f1,f2,f3,f4,f5⟩:=hf it (by simp);refine wpAny_pyNext_list_item st p.isList (x:=u) (by simpa using hu) λh' st' sb=>?_;have I1:aH X AM σ H {s with heap:=h'}:=I.turned (t':=s.toks) (λb o hb e=>(sb.2 b hb).trans e) f0 f1 f3 f4 f5;obtain⟨o,e,c,d⟩:=id st';exact⟨u,rfl,zW (s:={s with heap:=h'}) e c d (by decide) ⟨x,H,I1,ru,⟨rfl,λys hy=>by rw[I.list_inj hy hq];exact hx⟩,st',λb hb=>(hf b hb).1⟩⟩
 done:=by
  intro X hP hw hK hc i AM s σ H E I hf st hg;subst hP hw hK;obtain⟨xs,hq,hx⟩:=hg;obtain⟨its,rv,p,hz⟩:=I.list hq;obtain⟨f0,f1,f2,f3,f4,f5⟩:=hf it (by simp);have hl:=rv.length;exact wpAny_pyNext_list_end (I.ok.hd hc) st p.isList (by simp;omega) λh' eb=>⟨rfl,I.turned (t':=s.toks) (λb o hb e=>eb b o hb e) f0 f1 f3 f4 f5⟩
 self:=λ_ _ _ _ _ st h=>wpAny_pyIter_listiter st h
theorem Gq{P:Program}{w:aj}{K:ae}{tg:af}(a it:Addr):pB P w K tg (Fb K a) [it] it (λi h=>h.IsTupleIter it a i) where
 mem:=by simp
 obj:=λi h st b hb=>by
  have e:b=it:=by simpa using hb
  subst e;obtain⟨o,e,c,d⟩:=st;exact⟨o,e,λv z=>by rw[d]at z;cases z⟩
 keep:=λi h h' st k=>st.at λo e=>k it (by simp) o e
 item:=by
  intro X hP hw hK hc i AM s σ H E I hf st hg;subst hP hw hK;obtain⟨xs,x,hq,hx⟩:=hg;obtain⟨its,rv,p,hz⟩:=I.tuple hq;obtain⟨u,hu,ru⟩:=rv.get hx;obtain⟨f0,f1,f2,f3,f4,f5⟩:=hf it (by simp);refine wpAny_pyNext_tuple_item st (show s.heap.IsTuple a its.toArray from p) (x:=u) (by simpa using hu) λh' st' sb=>?_;have I1:aH X AM σ H {s with heap:=h'}:=I.turned (t':=s.toks) (λb o hb e=>(sb.2 b hb).trans e) f0 f1 f3 f4 f5;obtain⟨o,e,c,d⟩:=id st';exact⟨u,rfl,zW (s:={s with heap:=h'}) e c d (by decide) ⟨x,H,I1,ru,⟨rfl,λys hy=>by rw[I.tuple_inj hy hq];exact hx⟩,st',λb hb=>(hf b hb).1⟩⟩
 done:=by
  intro X hP hw hK hc i AM s σ H E I hf st hg;subst hP hw hK;obtain⟨xs,hq,hx⟩:=hg;obtain⟨its,rv,p,hz⟩:=I.tuple hq;obtain⟨f0,f1,f2,f3,f4,f5⟩:=hf it (by simp);have hl:=rv.length;exact wpAny_pyNext_tuple_end (I.ok.hd hc) st (show s.heap.IsTuple a its.toArray from p) (by simp;omega) λh' eb=>⟨rfl,I.turned (t':=s.toks) (λb o hb e=>eb b o hb e) f0 f1 f3 f4 f5⟩
 self:=λ_ _ _ _ _ st h=>wpAny_pyIter_tupleiter st h
theorem Yp{P:Program}{w:aj}{K:ae}{tg:af}(it:Addr)(lo:Int)(n:Nat):pB P w K tg (rS lo n) [it] it (λi h=>IsRangeIter h it (lo+(i:Nat)*1) ((n:Int)-(i:Nat)) 1) where
 mem:=by simp
 obj:=λi h st b hb=>by
  have e:b=it:=by simpa using hb
  subst e;exact⟨_,st,λv z=>by
   have z':Data.fields _=Data.cell v:=z;cases z'⟩
 keep:=λi h h' st k=>k it (by simp) _ st
 item:=by
  intro X hP hw hK hc i AM s σ H E I hf st hg;subst hP hw hK;obtain⟨f0,f1,f2,f3,f4,f5⟩:=hf it (by simp);have W:=Walks.range (prog:=X.prog) (w:=X.w) (I.ok.hd hc) it lo 1 n;refine W.item i s _ _ hg st λv h' tk hv st' kk=>?_;obtain⟨t,rfl⟩:=hv;have I1:aH X AM σ H {s with heap:=h',toks:=tk}:=I.turned (λb o hb e=>kk b o (by simpa using hb) e) f0 f1 f3 f4 f5;refine⟨_,rfl,zW (s:={s with heap:=h',toks:=tk}) (n:="range_iterator") st' rfl rfl (by decide) ⟨.int (lo+i),H,I1,⟨t,?_⟩,⟨rfl,rfl⟩,st',λb hb=>(hf b hb).1⟩⟩;rw[pw]
 done:=by
  intro X hP hw hK hc i AM s σ H E I hf st hg;subst hP hw hK;obtain⟨f0,f1,f2,f3,f4,f5⟩:=hf it (by simp);exact wpAny_pyNext_range_end (I.ok.hd hc) st (by have:n<=i:=hg;omega) λh' eb=>⟨rfl,I.turned (t':=s.toks) (λb o hb e=>eb b o hb e) f0 f1 f3 f4 f5⟩
 self:=λ_ _ _ _ _ st h=>wpAny_pyIter_rangeiter st h
section
variable{X:Cx}{tg:af}
theorem Rg{AM:List (Addr×Obj)}{σ:St}{H:Hp}{s:aa}{R:It->Hp->Prop}{E:Value->aa->Prop}{lo hi:Int}{t u v:Tok}{tk:Nat}(I:aH X AM σ H s)(h1:-(2^62)<=lo)(h2:lo<2^62)(h3:-(2^62)<=hi)(h4:hi<2^62)
  (q:R (rS lo (hi-lo).toNat) H):wpAny (model X.prog X.w) X.A (pyIter (.ref s.heap.objs.size)) (Yn X AM σ tg R) E {s with heap:=s.heap.push {cls:=.type "range",data:=.fields #[.int lo t,.int hi u,.int 1 v]},toks:=tk}:=by
 refine wpAny_pyIter_range (IsRange.new ..) (small_one h1 h2 h3 h4) ?_;have I1:aH X AM σ H {s with heap:=s.heap.push {cls:=.type "range",data:=.fields #[.int lo t,.int hi u,.int 1 v]},toks:=tk}:=I.kept λb o e=>ao _ e;refine⟨(s.heap.push {cls:=.type "range",data:=.fields #[.int lo t,.int hi u,.int 1 v]}).objs.size,[(s.heap.push {cls:=.type "range",data:=.fields #[.int lo t,.int hi u,.int 1 v]}).objs.size],_,_,H,rfl,
  I1.kept (t':=tk) λb o e=>ao _ e,Yp _ lo (hi-lo).toNat,?_,λb hb=>?_,q⟩
 .have e1:lo+((0:Nat):Int)*1=lo:=by simp
  have e2:(((hi-lo).toNat:Nat):Int)-((0:Nat):Int)=Builtin.Range.rangeSize lo hi 1:=by rw[rangeSize_one];split<;>omega
  show IsRangeIter _ _ (lo+((0:Nat):Int)*1) ((((hi-lo).toNat:Nat):Int)-((0:Nat):Int)) 1;rw[e1,e2];exact cq _ rfl
 .have e:b=(s.heap.push {cls:=.type "range",data:=.fields #[.int lo t,.int hi u,.int 1 v]}).objs.size:=by simpa using hb
  subst e;exact I1.fpOk (am _) (I1.hok.fresh (am _))
def O7(ta:TA):TI:=λσ H R=>ta σ H λvs H1=>∃j:Int,vs=[.int j]/\-(2^62)<=j/\j<2^62/\R (rS 0 j.toNat) H1
def S7(ta:TA):TI:=λσ H R=>ta σ H λvs H1=>∃i j:Int,vs=[.int i,.int j]/\(-(2^62)<=i/\i<2^62/\-(2^62)<=j/\j<2^62)/\R (rS i (j-i).toNat) H1
theorem Lr{a:af}{ta:TA}{p pos:ah}(hg:Gl X "range")(hm:X.mg "range"=none)(ha:PA X [a] ta)(hs:starEach [a] X.env=[(false,eval a X.env)]:=by rfl):PI X tg (.Call (.Name "range" p) [a] [] pos) (O7 ta):=by
 intro AM s σ H R I h;refine Call_ (nH I hg hm boot_range (nr (bH (ha pos AM s σ H _ I h) λus s1 hq=>?_) hs rfl));rcases hq with⟨vs,H1,I1,r1,q1⟩;obtain⟨j,e,q1,q2,q⟩:=q1;subst e;cases r1 with
 |cons r rr=>
  cases rr;obtain⟨t,rfl⟩:=r;exact call_range_1 (Rg I1 (by omega) (by omega) q1 q2 (by simpa using q))
theorem Zr{a b:af}{ta:TA}{p pos:ah}(hg:Gl X "range")(hm:X.mg "range"=none)(ha:PA X [a,b] ta)(hs:starEach [a,b] X.env=[(false,eval a X.env),(false,eval b X.env)]:=by rfl)(hs2:starEach [b] X.env=[(false,eval b X.env)]:=by rfl):
  PI X tg (.Call (.Name "range" p) [a,b] [] pos) (S7 ta):=by
 intro AM s σ H R I h;refine Call_ (nH I hg hm boot_range (nr (bH (ha pos AM s σ H _ I h) λus s1 hq=>?_) (by rw[hs,hs2]) (by rw[hs2];rfl)));rcases hq with⟨vs,H1,I1,r1,q1⟩;obtain⟨i,j,e,⟨q1,q2,q3,q4⟩,q⟩:=q1;subst e;cases r1 with
 |cons r rr=>
  cases rr with
  |cons r' rr=>
   cases rr;obtain⟨t,rfl⟩:=r;obtain⟨t',rfl⟩:=r';exact call_range_2 (Rg I1 q1 q2 q3 q4 q)
def aad(wi:TI)(g:TG)(tb:TS):TS:=λD σ H=>wi σ H λJ H1=>∃W:Nat->Nat->St->Hp->Prop,(∃m,W 0 m σ H1)/\∀i m σ H,W i m σ H->
 (J.stop i H/\D.nx σ H)\/(J.go i H/\∃N:St->Hp->Prop,(∀σ' H',N σ' H'->∃m',m'<m/\W (i+1) m' σ' H')/\∀x H',J.yld i H x H'->g x σ H' λσ2 H2=>tb {D with nx:=N,ct:=N,bk:=D.nx} σ2 H2)
def tY(fp:List Addr)(h:Heap):List (Addr×Obj):=fp.filterMap λb=>(h.get? b).map λo=>(b,o)
theorem oG{fp:List Addr}{h:Heap}{b:Addr}{o:Obj}(hb:b∈fp)(e:h.get? b=some o):(b,o)∈tY fp h:=sy.mpr ⟨b,hb,by rw[e];rfl⟩
theorem Cr{fp:List Addr}{h:Heap}{p:Addr×Obj}(hp:p∈tY fp h):p.1∈fp/\h.get? p.1=some p.2:=by
 obtain⟨b,hb,e⟩:=sy.mp hp;cases q:h.get? b with
 |none=>rw[q]at e;cases e
 |some o=>
  rw[q]at e;have e':(b,o)=p:=ck e;subst e';exact⟨hb,q⟩
theorem aH.pinned{AM:List (Addr×Obj)}{σ:St}{H:Hp}{s:aa}{fp:List Addr}(I:aH X AM σ H s)(hf:∀b∈fp,eT X AM H b)(ho:∀b∈fp,∃o,s.heap.get? b=some o/\∀v,o.data≠.cell v):aH X (AM++tY fp s.heap) σ H s:=
 I.pins_of λp hp=>(bj.mp hp).elim (λz=>I.pin p (dj _ z)) λz=>by
  obtain⟨hb,e⟩:=Cr z;obtain⟨f0,f1,f2,_⟩:=hf p.1 hb;obtain⟨o,e',d⟩:=ho p.1 hb;rw[e]at e';cases e';exact⟨e,f0,f1,f2,d⟩
theorem aH.unpinned{AM pl:List (Addr×Obj)}{σ:St}{H:Hp}{s:aa}(I:aH X (AM++pl) σ H s):aH X AM σ H s:=I.pins_of λp hp=>I.pin p (dj _ (iw _ hp))
theorem Zj{iter:af}{body:List Stmt}{wi:TI}{g:TG}{tb:TS}{pos:ah}(hp:nj (model X.prog X.w) X.A X.env X.xe)(hc:X.calm=true)(hi:PI X tg iter wi)(hg:PG X tg g)(hb:fG X body tb)
  (hs:∀x,foldedSetIterable iter X.env x=pure x:=by intro _;rfl):PS X (.For tg iter body [] pos) (aad wi g tb):=by
 intro AM s σ H D I h;refine wpAny_For (bH (hi AM s σ H _ I h) λv s1 h1=>bH h1 λitv s2 h2=>?_) hs;obtain⟨it,fp,tn,J,H2,e,I2,T,st2,f2,W,⟨m0,w0⟩,turn⟩:=h2;subst e
 --what stays true of the iterator's objects through the loop
 have stat:∀{H':Hp},(∀b∈fp,H' b=none)->∀b∈fp,eT X AM H' b:=λhn b hb=>⟨hn b hb,(f2 b hb).2⟩;refine codeAny_forLoop_any (λn s'=>∃i σ' H',aH X AM σ' H' s'/\tn i s'.heap/\(∀b∈fp,H' b=none)/\W i n σ' H') ?_ m0 ⟨0,σ,H2,I2,st2,λb hb=>(f2 b hb).1,w0⟩
 rintro n s3 ⟨i,σ3,H3,I3,st3,fr3,w3⟩
 rcases turn i n σ3 H3 w3 with⟨stop,qn⟩|⟨go,N,hN,step⟩
 .refine kj hp (bH (T.done X rfl rfl rfl hc i AM s3 σ3 H3 X.xe I3 (stat fr3) st3 stop) λr s4 hq=>?_)
  rcases hq with⟨hr,I4⟩;subst hr;exact pe ⟨σ3,H3,I4,qn⟩
 .refine kj hp (bH (T.item X rfl rfl rfl hc i AM s3 σ3 H3 X.xe I3 (stat fr3) st3 go) λr s4 hq=>?_)
  rcases hq with⟨u,hr,h4⟩;subst hr;refine kj hp (bH h4 λ_ s5 hq=>?_);rcases hq with⟨x,H5,I5,r5,y5,st5,fr5⟩;have I5':=I5.pinned (stat fr5) (T.obj _ _ st5);refine kj hp (bH (hg _ s5 σ3 H5 x u _ I5' r5 (step x H5 y5)) λ_ s6 hq=>?_);rcases hq with⟨σ6,H6,I6,q6⟩;refine kj hp (bH (hb _ s6 σ6 H6 _ I6 q6) λf s7 q7=>?_);have again:∀{σ7:St}{H7:Hp},aH X (AM++tY fp s5.heap) σ7 H7 s7->N σ7 H7->∃m,m<n/\∃i σ' H',aH X AM σ' H' s7/\tn i s7.heap/\(∀b∈fp,H' b=none)/\W i m σ' H':=λ{σ7 H7} I7 n7=>by
   obtain⟨m',hm,w7⟩:=hN σ7 H7 n7;refine⟨m',hm,i+1,σ7,H7,I7.unpinned,T.keep _ _ _ st5 λb hb o e=>(I7.pin (b,o) (dj _ (dj _ (oG hb e)))).1,λb hb=>?_,w7⟩;obtain⟨o,e,d⟩:=T.obj _ _ st5 b hb;exact(I7.pin (b,o) (dj _ (dj _ (oG hb e)))).2.1
  cases f with
  |next=>obtain⟨σ7,H7,I7,n7⟩:=q7;exact again I7 n7
  |cont=>obtain⟨σ7,H7,I7,n7⟩:=q7;exact again I7 n7
  |brk=>obtain⟨σ7,H7,I7,q7⟩:=q7;exact⟨σ7,H7,I7.unpinned,q7⟩
  |ret v=>obtain⟨x7,σ7,H7,I7,r7,q7⟩:=q7;exact⟨x7,σ7,H7,I7.unpinned,r7,q7⟩
end
abbrev R2:=V->V->Hp->VK->Prop
def dB(X:Cx)(f:Value->Value->Sem Value)(r:R2):Prop:=
 ∀(AM:List (Addr×Obj))(s:aa)(σ:St)(H:Hp)(x y:V)(v u:Value)(Q:VK),aH X AM σ H s->bM x v->bM y u->r x y H Q->
  wpAny (model X.prog X.w) X.A (f v u) (EP X AM σ Q) X.xe s
def vK(X:Cx)(f:Value->Sem Value)(r:V->Hp->VK->Prop):Prop:=
 ∀(AM:List (Addr×Obj))(s:aa)(σ:St)(H:Hp)(x:V)(v:Value)(Q:VK),aH X AM σ H s->bM x v->r x H Q->
  wpAny (model X.prog X.w) X.A (f v) (EP X AM σ Q) X.xe s
def gB(X:Cx)(f:Value)(r:List V->Hp->VK->Prop):Prop:=
 ∀(AM:List (Addr×Obj))(s:aa)(σ:St)(H:Hp)(xs:List V)(us:AE)(Q:VK),aH X AM σ H s->bG xs us->r xs H Q->
  wpAny (model X.prog X.w) X.A (call f us) (EP X AM σ Q) X.xe s
def vP(r:R2)(ta tb:TE):TE:=λσ H Q=>ta σ H λx H1=>tb σ H1 λy H2=>r x y H2 Q
def tUn(r:V->Hp->VK->Prop)(ta:TE):TE:=λσ H Q=>ta σ H λx H1=>r x H1 Q
def rI(C:Int->Int->Prop)(g:Int->Int->V):R2:=λx y H Q=>∃i j,x=.int i/\y=.int j/\C i j/\Q (g i j) H
def gY(g:Int->Int->V):R2:=λx y H Q=>∃i j,x=.int i/\y=.int j/\Q (g i j) H
def rU(g:Int->V):V->Hp->VK->Prop:=λx H Q=>∃i,x=.int i/\Q (g i) H
section
variable{X:Cx}{a b c:af}{ta tb tc:TE}{pos:ah}
theorem Sa(ha:PE X a ta)(hb:PE X b tb){AM:List (Addr×Obj)}{s:aa}{σ:St}{H:Hp}{R:V->V->Hp->Prop}(I:aH X AM σ H s)
  (h:ta σ H λx H1=>tb σ H1 λy H2=>R x y H2){Q:Value->aa->Prop}{f:Value->Value->Sem Value}
  (hf:∀v u s2 x y H2,aH X AM σ H2 s2->bM x v->bM y u->R x y H2->wpAny (model X.prog X.w) X.A (f v u) Q X.xe s2):
  wpAny (model X.prog X.w) X.A (eval a X.env) (λv AQ=>wpAny (model X.prog X.w) X.A (eval b X.env) (λu AT=>wpAny (model X.prog X.w) X.A (f v u) Q X.xe AT) X.xe AQ) X.xe s:=by
 refine bH (ha AM s σ H _ I h) ?_
 rintro v s1 ⟨x,H1,I1,r1,q1⟩
 refine bH (hb AM s1 σ H1 _ I1 q1) ?_
 rintro u s2 ⟨y,H2,I2,r2,q2⟩
 exact hf v u s2 x y H2 I2 r1 r2 q2
theorem Om{op:pf}{r:R2}(ho:dB X (binaryOp op) r)(ha:PE X a ta)(hb:PE X b tb):PE X (.BinOp a op b pos) (vP r ta tb):=by
 intro AM s σ H Q I h;exact wpAny_BinOp (Sa ha hb I h λv u s2 x y H2 I2 rx ry q=>ho AM s2 σ H2 x y v u Q I2 rx ry q)
theorem P4{op:UnaryOp}{r:V->Hp->VK->Prop}(ho:vK X (unaryOp op) r)(ha:PE X a ta):PE X (.UnaryOp op a pos) (tUn r ta):=by
 intro AM s σ H Q I h;exact UnaryOp_ (bH (ha AM s σ H _ I h) λv s1 ⟨x,H1,I1,r1,q1⟩=>ho AM s1 σ H1 x v Q I1 r1 q1)
theorem vH{f:Value->Value->Sem Value}{C:Int->Int->Prop}{g:Int->Int->Int}
  (rule:∀(i j:Int)(t u:Tok)(s:aa)(Q:Value->aa->Prop)(E:Value->aa->Prop),C i j->Q (.int (g i j) s.toks) {s with toks:=s.toks+1}->wpAny (model X.prog X.w) X.A (f (.int i t) (.int j u)) Q E s):
  dB X f (rI C λi j=>.int (g i j)):=by
 intro AM s σ H x y v u Q I rx ry h;obtain⟨i,j,rfl,rfl,hc,q⟩:=h;obtain⟨t,rfl⟩:=rx;obtain⟨t',rfl⟩:=ry;exact rule i j t t' s _ _ hc ⟨.int (g i j),H,I.tok _,⟨_,rfl⟩,q⟩
theorem Kn{f:Value->Value->Sem Value}{g:Int->Int->Int}
  (rule:∀(i j:Int)(t u:Tok)(s:aa)(Q:Value->aa->Prop)(E:Value->aa->Prop),Q (.int (g i j) s.toks) {s with toks:=s.toks+1}->wpAny (model X.prog X.w) X.A (f (.int i t) (.int j u)) Q E s):
  dB X f (gY λi j=>.int (g i j)):=by
 intro AM s σ H x y v u Q I rx ry h;obtain⟨i,j,rfl,rfl,q⟩:=h;obtain⟨t,rfl⟩:=rx;obtain⟨t',rfl⟩:=ry;exact rule i j t t' s _ _ ⟨.int (g i j),H,I.tok _,⟨_,rfl⟩,q⟩
theorem uU{f:Value->Value->Sem Value}{g:Int->Int->Bool}
  (rule:∀(i j:Int)(t u:Tok)(s:aa)(Q:Value->aa->Prop)(E:Value->aa->Prop),Q (.bool (g i j)) s->wpAny (model X.prog X.w) X.A (f (.int i t) (.int j u)) Q E s):
  dB X f (gY λi j=>.bl (g i j)):=by
 intro AM s σ H x y v u Q I rx ry h;obtain⟨i,j,rfl,rfl,q⟩:=h;obtain⟨t,rfl⟩:=rx;obtain⟨t',rfl⟩:=ry;exact rule i j t t' s _ _ ⟨.bl (g i j),H,I,rfl,q⟩
def vD(i j:Int):Prop:=0<=j/\j<=1000000/\i.natAbs<2^64
def Pa(i j:Int):Prop:=(-(2^64)<i/\i<2^64)\/(-(2^64)<j/\j<2^64)
theorem Pa.ok{i j:Int}(h:Pa i j):IntMulOk i j:=by
 rcases h with⟨h1,h2⟩|⟨h1,h2⟩
 .exact .of_left (intBits_le_64 h1 h2)
 .exact .of_right (intBits_le_64 h1 h2)
theorem A3:dB X (binaryOp .Add) (gY λi j=>.int (i+j)):=Kn λ_ _ _ _ _ _ _ q=>add_int q
theorem Jj:dB X (binaryOp .Sub) (gY λi j=>.int (i-j)):=Kn λ_ _ _ _ _ _ _ q=>sub_int q
theorem Ky:dB X (binaryOp .Mod) (rI (λ_ j=>j≠0) λi j=>.int (i.fmod j)):=vH λ_ _ _ _ _ _ _ hc q=>mod_int' hc q
theorem E1:dB X (binaryOp .Pow) (rI vD λi j=>.int (i^j.toNat)):=vH λ_ _ _ _ _ _ _ hc q=>pow_int_small hc.1 hc.2.1 hc.2.2 q
theorem unI{f:Value->Sem Value}{g:Int->Int}
  (rule:∀(i:Int)(t:Tok)(s:aa)(Q:Value->aa->Prop)(E:Value->aa->Prop),Q (.int (g i) s.toks) {s with toks:=s.toks+1}->wpAny (model X.prog X.w) X.A (f (.int i t)) Q E s):
  vK X f (rU λi=>.int (g i)):=by
 intro AM s σ H x v Q I rx h;obtain⟨i,rfl,q⟩:=h;obtain⟨t,rfl⟩:=rx;exact rule i t s _ _ ⟨.int (g i),H,I.tok _,⟨_,rfl⟩,q⟩
theorem E7:vK X (unaryOp .USub) (rU λi=>.int (-i)):=unI λ_ _ _ _ _ q=>neg_int q
end
section
variable{X:Cx}{a b c:af}{ta tb tc:TE}{pos:ah}
theorem Km:dB X (compareOp .Lt) (gY λi j=>.bl (decide (i<j))):=uU λ_ _ _ _ _ _ _ q=>lt_int q
theorem Nl:dB X (compareOp .LtE) (gY λi j=>.bl (decide (i<=j))):=uU λ_ _ _ _ _ _ _ q=>le_int q
theorem Im:dB X (compareOp .Gt) (gY λi j=>.bl (decide (j<i))):=uU λ_ _ _ _ _ _ _ q=>gt_int q
theorem Rm:dB X (compareOp .GtE) (gY λi j=>.bl (decide (j<=i))):=uU λ_ _ _ _ _ _ _ q=>ge_int q
theorem dB.or{f:Value->Value->Sem Value}{r r':R2}(h:dB X f r)(h':dB X f r'):dB X f (λx y H Q=>r x y H Q\/r' x y H Q):=by
 intro AM s σ H x y v u Q I rx ry q;rcases q with q |q
 .exact h AM s σ H x y v u Q I rx ry q
 .exact h' AM s σ H x y v u Q I rx ry q
theorem iS(b:af){op:jq}(h:op≠.In:=by decide)(h2:op≠.NotIn:=by decide):behindInMarks op b=false:=by
 have e1:(op==CmpOp.In)=false:=by cases op<;>first |rfl |exact absurd rfl h
 have e2:(op==CmpOp.NotIn)=false:=by cases op<;>first |rfl |exact absurd rfl h2
 cases b<;>simp[behindInMarks,e1,e2]
theorem Iy{op:jq}{r:R2}(ho:dB X (compareOp op) r)(ha:PE X a ta)(hb:PE X b tb)(hm:behindInMarks op b=false):PE X (.Compare a [op] [b] pos) (vP r ta tb):=by
 intro AM s σ H Q I h;exact wpAny_Compare1 (Sa ha hb I h λv u s2 x y H2 I2 rx ry q=>ho AM s2 σ H2 x y v u Q I2 rx ry q) hm
def Q2(t:TE):TT:=λσ H Q=>t σ H λx H'=>∃k,x=.bl k/\Q k H'
theorem Wz{op:jq}{r:R2}(ho:dB X (compareOp op) r)(ha:PE X a ta)(hb:PE X b tb)(hm:behindInMarks op b=false):PT X (.Compare a [op] [b] pos) (Q2 (vP r ta tb)):=by
 intro AM s σ H Q I h;refine xh (bH (ha AM s σ H _ I h) λv s1 ⟨x,H1,I1,r1,q1⟩=>bH (hb AM s1 σ H1 _ I1 q1) λu s2 ⟨y,H2,I2,r2,q2⟩=>
  bH (ho AM s2 σ H2 x y v u _ I2 r1 r2 q2) λc s3 ⟨z,H3,I3,r3,k,e,q3⟩=>?_) hm
 subst e;cases r3;exact ky ⟨H3,I3,q3⟩
theorem qW:(sizeLine:Nat)<2^63:=by rw[jr];decide
theorem iM{x:V}{us:AE}(r:bG [x] us):∃u,us=[u]/\bM x u:=by
 cases r with
 |cons r1 r2=>cases r2;exact⟨_,rfl,r1⟩
theorem Am{x y:V}{us:AE}(r:bG [x,y] us):∃u w',us=[u,w']/\bM x u/\bM y w':=by
 cases r with
 |cons r1 r2=>
  cases r2 with
  |cons r3 r4=>cases r4;exact⟨_,_,rfl,r1,r3⟩
theorem Su:gB X (.builtin "abs") (λxs H Q=>∃i,xs=[.int i]/\Q (.int (if i<0 then-i else i)) H):=by
 intro AM s σ H xs us Q I r h;obtain⟨i,rfl,q⟩:=h;obtain⟨u,rfl,t,rfl⟩:=iM r;exact call_abs_int λu tk=>⟨.int (if i<0 then-i else i),H,I.tok _,⟨_,rfl⟩,q⟩
theorem Hs:gB X (.type "int") (λxs H Q=>(∃i,xs=[.int i]/\Q (.int i) H)\/∃k,xs=[.bl k]/\Q (.int (if k then 1 else 0)) H):=by
 intro AM s σ H xs us Q I r h;rcases h with⟨i,rfl,q⟩|⟨k,rfl,q⟩
 .obtain⟨u,rfl,t,rfl⟩:=iM r
  exact call_int_int ⟨.int i,H,I,⟨_,rfl⟩,q⟩
 .obtain⟨u,rfl,r1⟩:=iM r
  cases r1;exact call_int_bool ⟨.int (if k then 1 else 0),H,I.tok _,⟨_,rfl⟩,q⟩
end
structure Oa(h:Heap)(x dx C:Addr)(mA:Str->AF):Prop where
 obj:h.get? x=some (se C dx)
 ns:h.Ns1 dx mA
 ne:dx≠x
theorem Os{h:Heap}{dx:Addr}{mA:Str->AF}(n:h.Ns1 dx mA):∃od,h.get? dx=some od/\∀name,td name od=some (mA name):=by
 obtain⟨o,es,ep,ho,hd,hk,_,hm⟩:=n;refine⟨o,ho,λname=>?_⟩;have e:=hm name;unfold nsFind findBy at e;rw[<-Array.find?_toList]at e;unfold td;rw[hd];dsimp only;split
 .rename_i y q
  rw[q]at e;exact congrArg some e
 .rename_i q
  rw[q]at e;have a:es.toList.any (·.refKey)=false:=by
   rw[xi];intro y hy;obtain⟨z,t,hkey⟩:=hk y (Array.mem_toList_iff.mp hy);simp[DictEntry.refKey,hkey]
  have a':¬es.toList.any (·.refKey)=true:=by rw[a];exact fu
  rw[if_neg a'];exact congrArg some e
theorem Oa.look{h:Heap}{x dx C:Addr}{mA:Str->AF}(I:Oa h x dx C mA):∃od,PySem.W.InstAt h x (se C dx) C (some od)/\∀name,td name od=some (mA name):=
 let⟨od,ho,hl⟩:=Os I.ns
 ⟨od,⟨I.obj,rfl,rfl,ho⟩,hl⟩
section
variable{prog:Program}{w:aj}{A:ak}{E:Value->aa->Prop}{s:aa}{K:ae}{x dx C f:Addr}{mA:Str->AF}{name:Str}{v:Value}
end
section
variable{P:Program}{w:aj}{H H':Hp}{h h':Heap}{a C dx:Addr}{fs fs':List (Str×V)}
theorem Zz(hok:eJ P w H h)(e:H a=some (.ins C dx fs)):∃mA,Oa h a dx C mA/\(∀f,Qa (fs.lookup f) (mA f))/\wv mA (fs.map (·.1))/\fs.length<=1000/\H dx=some (.own a):=by
 obtain⟨d,z,ne,ob,mA,n,r,q⟩:=(show eP P w H h a (.ins C dx fs) from hok a _ e);exact⟨mA,⟨ob,n,ne⟩,r,q,z,d⟩
end
structure Xa(K:ae)(C:Addr):Prop where
 pg:xj K C Str.empty=true
 hd:PySem.W.hasDictIn K C=true
 po:PySem.W.plainOver K C=true
 sa:tf K (.ref C) "__setattr__"=some (some (.builtin "object.__setattr__"))
theorem Xa.get{K:ae}{C:Addr}(c:Xa K C)(f:Str):xj K C f=true:=c.pg
structure Eb(K:ae)(C:Addr)(f:Str)(v:V)(u:Value):Prop where
 at_:tf K (.ref C) f=some (some u)
 rel:bM v u
 get:xk K u "__get__"=some none
 cp:PySem.W.copiedNames.contains f=false
section
variable{X:Cx}{AM:List (Addr×Obj)}{σ:St}{H:Hp}{s:aa}{a C dx:Addr}{fs:List (Str×V)}{f:Str}{v:V}{A:ak}{E:Value->aa->Prop}
end
section
variable{X:Cx}{o e value:af}{f:Str}{pos pos' tpos:ah}{ta tv:TE}
end
section
variable{X:Cx}{AM:List (Addr×Obj)}{σ:St}{H:Hp}{s:aa}{A:ak}{E:Value->aa->Prop}{Q:Value->aa->Prop}{c:Value}{b:Bool}
inductive iN(K:ae)(H:Hp):V->Value->Prop where
 |non:iN K H .non (.type "NoneType")
 |bl (x:Bool):iN K H (.bl x) (.type "bool")
 |int (i:Int):iN K H (.int i) (.type "int")
 |str (x:Str):iN K H (.str x) (.type "str")
 |flt (x:UInt64):iN K H (.flt x) (.type "float")
 |lst {a:Addr} {xs:List V} (e:H a=some (.lst xs)):iN K H (.ref a) (.type "list")
 |frz {a:Addr} {o:Obj} {xs:List V} (e:H a=some (.frz o (.lst xs))):iN K H (.ref a) (.type "list")
 |tup {a:Addr} {xs:List V} (e:H a=some (.tup xs)):iN K H (.ref a) (.type "tuple")
 |dK {a:Addr} {kvs:List (fV×V)} (e:H a=some (.dK kvs)):iN K H (.ref a) (.type "dict")
 |dT {a:Addr} {kvs:List (List fV×V)} (e:H a=some (.dT kvs)):iN K H (.ref a) (.type "dict")
 |ins {a C dx:Addr} {fs:List (Str×V)} (e:H a=some (.ins C dx fs)) (cl:Xa K C) (ha:tf K (.ref C) "__class__"=some (some (.builtin "object.__class__")))
   (hn:xk K (.builtin "object.__class__") "__get__"=some (some (.builtin "getset_descriptor.__get__"))) (htk:PySem.W.takesIn K (.builtin "object.__class__")=some true)
   (hm:PySem.W.mroIn K C (.type "object")=some true):iN K H (.ref a) (.ref C)
theorem Qs{x:V}{u t:Value}(I:aH X AM σ H s)(rx:bM x u)(ty:iN X.K H x t)(e:lb X.K t c=some b)(h:∀tk,Q (.bool b) {s with toks:=tk}):
  wpAny (model X.prog X.w) A (call (.builtin "isinstance") [u,c]) Q E s:=by
 cases ty with
 |non=>cases(show u=cw from rx);exact ia PySem.W.kitx_none I.kIn nu e (λz=>nomatch z) h
 |bl y=>cases(show u=oz y from rx);exact ia PySem.W.kitx_bool I.kIn nu e (λz=>nomatch z) h
 |int i=>obtain⟨t,q⟩:=(show ∃t,u=nh i t from rx);cases q;exact ia PySem.W.kitx_int I.kIn nu e (λz=>nomatch z) h
 |str y=>obtain⟨t,q⟩:=(show ∃t,u=rp y t from rx);cases q;exact ia PySem.W.kitx_str I.kIn nu e (λz=>nomatch z) h
 |flt y=>obtain⟨t,q⟩:=(show ∃t,u=Value.float y t from rx);cases q;exact ia PySem.W.kitx_float I.kIn nu e (λz=>nomatch z) h
 |@lst a xs ea=>
  cases(show u=ft a from rx);obtain⟨_,_,n,_,h1⟩:=(show eP X.prog X.w H s.heap a (.lst xs) from I.hok a _ ea);exact ia tj I.kIn ⟨_,h1,rfl⟩ e (λz=>nomatch z) h
 |@frz a ob xs ea=>
  cases(show u=ft a from rx);obtain⟨_,_,_,n,_,h1⟩:=(show eP X.prog X.w H s.heap a (.frz ob (.lst xs)) from I.hok a _ ea);exact ia tj I.kIn ⟨_,h1,rfl⟩ e (λz=>nomatch z) h
 |@tup a xs ea=>
  cases(show u=ft a from rx);obtain⟨_,_,_,p⟩:=(show eP X.prog X.w H s.heap a (.tup xs) from I.hok a _ ea);obtain⟨o,h1,h2,_⟩:=p;exact ia xl I.kIn ⟨o,h1,h2⟩ e (λz=>nomatch z) h
 |@dK a kvs ea=>
  cases(show u=ft a from rx);obtain⟨_,_,vs,_,p⟩:=(show eP X.prog X.w H s.heap a (.dK kvs) from I.hok a _ ea);obtain⟨o,es,ep,h1,h2,_⟩:=p;exact ia xn I.kIn ⟨o,h1,h2.1⟩ e (λz=>nomatch z) h
 |@dT a kvs ea=>
  cases(show u=ft a from rx);obtain⟨_,_,xs,_,o,es,ep,h1,h2,_⟩:=(show eP X.prog X.w H s.heap a (.dT kvs) from I.hok a _ ea);exact ia xn I.kIn ⟨o,h1,h2.1⟩ e (λz=>nomatch z) h
 |@ins a C dx fs ea cl ha hn htk hm=>
  cases(show u=ft a from rx);obtain⟨mA,O,_⟩:=Zz I.hok ea;obtain⟨od,J,_⟩:=O.look;exact ia (PySem.W.kitx_own (cl.get _) cl.hd ha hn htk hm) I.kIn J e (λz=>nomatch z) h
end
structure dF(k:Nat)(A:ak):Prop where
 hd:A.handled=none
 dp:A.depth+3*k+5<recursionLimit
 un:A.units+16*k+200<cLine
theorem dF.mono{j k:Nat}{A:ak}(r:dF k A)(h:j<=k):dF j A:=⟨r.hd,by have:=r.dp;omega,by have:=r.un;omega⟩
theorem dF.deeper{k:Nat}{A:ak}(r:dF (k+1) A)(env:av):dF k (A.deeper env):=
 ⟨r.hd,by have:=r.dp;show A.depth+1+3*k+5<_;omega,by have:=r.un;show A.units+3+16*k+200<_;omega⟩
theorem dF.depth{k:Nat}{A:ak}(r:dF k A):A.depth<recursionLimit:=by have:=r.dp;omega
theorem dF.units{k:Nat}{A:ak}(r:dF k A):A.units+64<cLine:=by have:=r.un;omega
def aaf:TA:=λ_ H Q=>Q [] H
def T7(ta:TE)(tr:TA):TA:=λσ H Q=>ta σ H λx H1=>tr σ H1 λxs H2=>Q (x::xs) H2
section
variable{X:Cx}{e:af}{es:List af}{te:TE}{t:TA}{pos:ah}
theorem qR:PA X [] aaf:=λ_ _ _ _ H Q I h=>Calls.spliced_nil ⟨[],H,I,.nil,h⟩
theorem oK(ha:PE X e te)(hr:PA X es t)(hs:starEach (e::es) X.env=(false,eval e X.env)::starEach es X.env:=by rfl):PA X (e::es) (T7 te t):=by
 intro pos AM s σ H Q I h;rw[hs];show wpAny _ _ (spliced ((false,eval e X.env)::backTo pos (starEach es X.env))) _ _ s;refine Calls.spliced_cons (bH (ha AM s σ H _ I h) λu s1 hq=>?_);rcases hq with⟨x,H1,I1,r1,q1⟩;exact bH (hr pos AM s1 σ H1 _ I1 q1) λus s2 ⟨xs,H2,I2,r2,q2⟩=>⟨x::xs,H2,I2,.cons r1 r2,q2⟩
def Y8(t:TA):TE:=λσ H Q=>t σ H λxs H1=>xs.length<=sizeLine/\∀p,H1 p=none->Q (.ref p) (aX H1 p (.tup xs))
def aas(t:TA):TE:=λσ H Q=>t σ H λxs H1=>xs.length<=sizeLine/\∀p,H1 p=none->Q (.ref p) (aX H1 p (.lst xs))
theorem M4{x1}(h:PA X es t):PE X (.Tuple es x1 pos) (Y8 t):=by
 intro AM s σ H Q I hq;refine wpAny_Tuple_spliced (bH (h pos AM s σ H _ I hq) λus s1 ⟨xs,H1,I1,r,z,q⟩=>⟨by rw[<-r.length];exact z,?_⟩);have hf:H1 s1.heap.objs.size=none:=I1.hok.fresh (am _);refine⟨.ref s1.heap.objs.size,aX H1 s1.heap.objs.size (.tup xs),I1.laid (t':=s1.toks) (λb u e=>ao _ e) (am _) ?_,rfl,q _ hf⟩;exact⟨⟨z,_,cq _ rfl,rfl⟩,us,r,⟨_,cq _ rfl,rfl,_,rfl⟩⟩
theorem zC(h:PA X es t):PE X (.List es pos) (aas t):=by
 intro AM s σ H Q I hq;refine wpAny_List_spliced (bH (h pos AM s σ H _ I hq) λus s1 ⟨xs,H1,I1,r,z,q⟩=>⟨by rw[<-r.length];exact z,?_⟩);have hf:H1 s1.heap.objs.size=none:=I1.hok.fresh (am _);refine⟨.ref s1.heap.objs.size,aX H1 s1.heap.objs.size (.lst xs),I1.laid (t':=s1.toks) (λb u e=>ao _ e) (am _) ?_,rfl,q _ hf⟩;exact⟨z,us,0,r,cq _ rfl⟩
end
abbrev Sp:=List V->Hp->VK->XK->Prop
abbrev iH:=List av->Hp->aa->XK->Value->aa->Prop
structure uV(P:Program)(w:aj)(K:ae)(mg:Str->AF)(base:Heap)(A:ak)(outer:List av)(s:aa)(H:Hp):Prop where
 frames:A.frames=some outer
 mod:Mod K mg base
 bs:∀b o,base.get? b=some o->s.heap.get? b=some o/\H b=none
 bsz:base.objs.size<=s.heap.objs.size
 funs:s.heap.FunFrames base outer
 frf:∀b∈eC outer,H b=none
 hok:eJ P w H s.heap
 bare:iy s.gens
def CE(outer:List av)(P:Program)(w:aj)(H:Hp)(s:aa)(Q:VK)(u:Value)(s':aa):Prop:=
 ∃v H',s'.os=s.os/\iy s'.gens/\Un (eC outer) [] H H' s.heap s'.heap/\eJ P w H' s'.heap/\bM v u/\Q v H'
def CR(CX:iH)(outer:List av)(P:Program)(w:aj)(H:Hp)(s:aa)(Q:VK)(E:XK)(r:nv)(s':aa):Prop:=
 match r with
 |.ok (.ret u)=>CE outer P w H s Q u s'
 |.ok _=>False
 |.error e=>CX outer H s E e s'
structure dX(P:Program)(w:aj)(K:ae)(mg:Str->AF)(base:Heap)(CX:iH)(k:Nat)(f:Addr)(fd:bn)(ps:List Str)(sp:Sp):Prop where
 len:∀vs H Q E,sp vs H Q E->vs.length=ps.length
 run:∀(A:ak)(outer:List av)(s:aa)(H:Hp)(args:Args)(us:AE)(vs:List V)(Q:VK)(E:XK),dF k A->uV P w K mg base A outer s H->lc s fd args (ps.zip us)->bG vs us->sp vs H Q E->
  codeAny (model P w) A (.call (.ref f) args) (CR CX outer P w H s Q E) s
theorem dX.imp{P:Program}{w:aj}{K:ae}{mg:Str->AF}{base:Heap}{CX:iH}{k:Nat}{f:Addr}{fd:bn}{ps:List Str}{sp sp':Sp}(F:dX P w K mg base CX k f fd ps sp)
  (h:∀vs H Q E,sp' vs H Q E->sp vs H Q E):dX P w K mg base CX k f fd ps sp':=
 ⟨λvs H Q E q=>F.len vs H Q E (h _ _ _ _ q),λA outer s H args us vs Q E hr he hb hv hs=>F.run A outer s H args us vs Q E hr he hb hv (h _ _ _ _ hs)⟩
section
variable{X:Cx}{AM:List (Addr×Obj)}{σ:St}{H:Hp}{s s':aa}
theorem aH.env0(I:aH X AM σ H s):uV X.prog X.w X.K X.mg X.base X.A X.stack s H:=
 ⟨I.ok.frames,I.ok.mod,I.bs,gh I.ok.bsz I.sz,I.stack,I.stkFree,I.hok,I.bare⟩
theorem aH.after{Q:VK}{u:Value}(I:aH X AM σ H s)(h:CE X.stack X.prog X.w H s Q u s'):EP X AM σ Q u s':=by
 obtain⟨v,H',os,bare,un,hok,r,q⟩:=h;obtain⟨hh,g,d,t,os'⟩:=s';obtain rfl:os'=s.os:=os;exact⟨v,H',I.call (h':=hh) (g':=g) (d':=d) (t':=t) (ch:=[]) un hok bare (λb z=>absurd z (by simp)),r,q⟩
end
def U7(sp:Sp)(dvs:List V)(E:XK)(t:TA):TE:=λσ H Q=>t σ H λvs H1=>sp (vs++dvs) H1 Q E
def iL(K:ae)(fd:bn)(ps:List Str)(ds:AE):Prop:=
 ∀(s:aa)(us:AE),K.In s.heap->(us++ds).length=ps.length->lc s fd ⟨us,[]⟩ (ps.zip (us++ds))
theorem iL.all{K:ae}{fd:bn}{ps:List Str}(h:∀us:AE,us.length=ps.length->bindArgs fd ⟨us,[]⟩=pure (ps.zip us)):iL K fd ps []:=λs us _ hl=>by
 rw[ib]at hl⊢;exact .of_eq (h us hl)
def yW(CX:iH)(X:Cx)(E:XK):Prop:=∀(AM:List (Addr×Obj))(σ:St)(H:Hp)(s:aa)(e:Value)(s':aa),aH X AM σ H s->CX X.stack H s E e s'->X.xe e s'
section
variable{X:Cx}{CX:iH}{k:Nat}{f C:Addr}{fd:bn}{ps:List Str}{sp:Sp}{dvs:List V}{ds:AE}{E:XK}{x m:Str}{p pos apos:ah}{e o:af}{es:List af}{ta:TE}{t:TA}
theorem A2{AM:List (Addr×Obj)}{σ:St}{H:Hp}{s:aa}{Q:VK}{us:AE}{vs:List V}(F:dX X.prog X.w X.K X.mg X.base CX k f fd ps sp)(hr:dF k X.A)(hb:iL X.K fd ps ds)(hd:bG dvs ds)(hx:yW CX X E)
  (I:aH X AM σ H s)(r:bG vs us)(h:sp (vs++dvs) H Q E):wpAny (model X.prog X.w) X.A (call (.ref f) us) (EP X AM σ Q) X.xe s:=by
 have r2:bG (vs++dvs) (us++ds):=r.append hd;have hl:(us++ds).length=ps.length:=by rw[<-r2.length];exact F.len _ _ _ _ h
 refine wpAny_call (pz (F.run X.A X.stack s H ⟨us,[]⟩ (us++ds) (vs++dvs) Q E hr I.env0 (hb s us I.kIn hl) r2 h) λr s' hq=>?_);cases r with
 |error e=>exact hx AM σ H s e s' I hq
 |ok fl=>
  cases fl with
  |ret u=>exact I.after hq
  |next=>exact ja hq
  |brk=>exact ja hq
  |cont=>exact ja hq
theorem yG(F:dX X.prog X.w X.K X.mg X.base CX k f fd ps sp)(hr:dF k X.A)(hg:Gl X x)(hm:X.mg x=some (.ref f))(hk:fg X.K (.ref f)=true)(hb:iL X.K fd ps ds)(hd:bG dvs ds)(hx:yW CX X E)
  (ha:PA X (e::es) t)(hdb:(x==("__debug__":Str))=false:=by decide)(he:starEach (e::es) X.env=(false,eval e X.env)::starEach es X.env:=by rfl)(hpl:(backTo pos (starEach es X.env)).any (·.1)=false:=by rfl):
  PE X (.Call (.Name x p) (e::es) [] pos) (U7 sp dvs E t):=by
 intro AM s σ H Q I h;refine tm (Ni I hg hm ?_ hdb);refine PySem.W.callWith_K (h₀:=X.base) I.ok.mod.kin hk (bH (ha pos AM s σ H _ I h) λus s1 ⟨vs,H1,I1,r,q⟩=>⟨I1.kIn,?_⟩) he hpl;exact A2 F hr hb hd hx I1 r q
end
section
variable{X:Cx}{CX:iH}{k:Nat}{f C:Addr}{fd:bn}{ps ks:List Str}{sp:Sp}{E:XK}{x m:Str}{p pos apos kpos:ah}{e o:af}{es:List af}{kws:List fv}{te ta:TE}{t tk:TA}{nm:Option Str}
variable{g:AE->AE->AE}{gV:List V->List V->List V}
end
structure gI(N P:List Str)(sc:Scope):Prop where
 kind:sc.kind=.function
 co:sc.isCoroutine=false
 gen:sc.isGenerator=false
 nd:N.Nodup
 pre:N.take P.length=P
 par:∀x∈P,sc.names.lookup x=some .local\/sc.names.lookup x=some .cell
 nofree:∀y∈sc.names,y.2≠.free
theorem Ve{kindOf:Str->Option dy}{x:Str}:∀{binds:List (Str×Value)}{m:Str->AF},(∀v,(x,v)∉binds)->bindL kindOf binds m x=m x
 |[],_,_=>rfl
 |(n,v)::r,m,h=>by
  unfold bindL;rw[Ve λw hw=>h w (bo _ hw)];split
  .have:x≠n:=by rintro rfl;exact h v ce
   simp[this]
  .rfl
theorem Ef{kindOf:Str->Option dy}{x:Str}:∀{binds:List (Str×Value)}{m:Str->AF},(∀v,(x,v)∉binds)->bindC kindOf binds m x=m x
 |[],_,_=>rfl
 |(n,v)::r,m,h=>by
  unfold bindC;rw[Ef λw hw=>h w (bo _ hw)];split
  .rfl
  .have:x≠n:=by rintro rfl;exact h v ce
   simp[this]
theorem Ee{kindOf:Str->Option dy}{x:Str}{v:Value}:∀{P:List Str}{vs:AE}{i:Nat}{m:Str->AF},P.Nodup->P[i]?=some x->vs[i]?=some v->kindOf x=some .local->
  bindL kindOf (P.zip vs) m x=some v
 |[],_,_,_,_,h,_,_=>by simp at h
 |_::_,[],_,_,_,_,h,_=>by simp at h
 |p::P,w::vs,0,m,nd,h1,h2,hk=>by
  simp at h1 h2;subst h1;subst h2;show bindL kindOf ((p,w)::P.zip vs) m p=_;unfold bindL;rw[Ve λv hv=>(kl.mp nd).1 (tq hv).1,if_pos hk];simp
 |p::P,w::vs,i+1,m,nd,h1,h2,hk=>by
  show bindL kindOf ((p,w)::P.zip vs) m x=_;unfold bindL;exact Ee (i:=i) (kl.mp nd).2 (by simpa using h1) (by simpa using h2) hk
theorem Bf{kindOf:Str->Option dy}{x:Str}{v:Value}:∀{P:List Str}{vs:AE}{i:Nat}{m:Str->AF},P.Nodup->P[i]?=some x->vs[i]?=some v->kindOf x≠some .local->
  bindC kindOf (P.zip vs) m x=some v
 |[],_,_,_,_,h,_,_=>by simp at h
 |_::_,[],_,_,_,_,h,_=>by simp at h
 |p::P,w::vs,0,m,nd,h1,h2,hk=>by
  simp at h1 h2;subst h1;subst h2;show bindC kindOf ((p,w)::P.zip vs) m p=_;unfold bindC;rw[Ef λv hv=>(kl.mp nd).1 (tq hv).1,if_neg hk];simp
 |p::P,w::vs,i+1,m,nd,h1,h2,hk=>by
  show bindC kindOf ((p,w)::P.zip vs) m x=_;unfold bindC;exact Bf (i:=i) (kl.mp nd).2 (by simpa using h1) (by simpa using h2) hk
def start(N:List Str)(vs:List V):St:=vs.map some++da (N.length-vs.length) none
def eB(CX:iH)(P:Program)(w:aj)(K:ae)(mg:Str->AF)(base:Heap)(N:List Str)(qual:Str)(scope:Scope)(f:Addr)(cd:Value)(A:ak)(outer:List av)(s:aa)(H:Hp)(E:XK):Cx where
 prog:=P
 w:=w
 K:=K
 mg:=mg
 base:=base
 A:=A.deeper (envOfC qual scope s.heap.objs.size f cd)
 N:=N
 AN:=s
 AO:=H
 env:=envOfC qual scope s.heap.objs.size f cd
 outer:=outer
 stack:=envOfC qual scope s.heap.objs.size f cd::outer
 ex:=[]
 calm:=true
 fn:=λ_=>true
 pn:=[]
 xe:=λe s'=>wpAny (model P w) (A.deeper (envOfC qual scope s.heap.objs.size f cd)) (leaving (envOfC qual scope s.heap.objs.size f cd) e) (λ_ s''=>CX outer H s E e s'') (λe' s''=>CX outer H s E e' s'') s'
theorem Pf{sc:Scope}{n:Nat}{x:Str}(h:sc.names.lookup x=some .cell):∃c,(cellsFrom n sc.names []).lookup x=some c:=by
 have q:=xo sc.names n [] (.inl h);exact Option.isSome_iff_exists.mp q
theorem As{CX:iH}{P:Program}{w:aj}{K:ae}{mg:Str->AF}{base:Heap}{N ps:List Str}{qual:Str}{scope:Scope}{f:Addr}{cd:Value}{A:ak}{outer:List av}{s s1:aa}{H:Hp}{E:XK}{us:AE}{vs:List V}
  (S:gI N ps scope)(hd:A.handled=none)(e0:uV P w K mg base A outer s H)(hl:vs.length=ps.length)(r:bG vs us)
  (x:InCallC s s.heap.objs.size (bindL (envOfC qual scope s.heap.objs.size f cd).kindOf (ps.zip us) λ_=>none) (cellsFrom (s.heap.objs.size+1) scope.names []) (bindC (envOfC qual scope s.heap.objs.size f cd).kindOf (ps.zip us) λ_=>none) s1):
  aH (eB CX P w K mg base N qual scope f cd A outer s H E) [] (start N vs) H s1:=by
 have hpl:ps.length<=N.length:=by have:=congrArg km S.pre;rw[ji]at this;omega
 obtain⟨h1,tk,rfl,hk⟩:=x.done;have noA:∀b:Addr,b∉(eB CX P w K mg base N qual scope f cd A outer s H E).ex:=λb z=>absurd (show b∈([]:List Addr) from z) (by simp);refine⟨⟨e0.mod,S.kind,rfl,rfl,am _,λy z c h1 h2=>?_,λy hy=>?_,λy c _ h=>?_,λ_=>hd,Around.frames_deeper e0.frames,.inr ⟨rfl,rfl⟩,λb z=>absurd z (noA b),e0.bs,e0.bsz,λb _ _=>noA b,λb z=>absurd z (noA b),e0.funs,e0.frf⟩,
  rfl,e0.bare,Un.kept hk,⟨_,x.toInCall.ns,λi y v h1 h2 h3=>?_⟩,λy c h=>⟨_,x.cell y c h⟩,e0.hok.fresh (am _),λy c h=>?_,λp hp=>absurd (show p∈([]:List (Addr×Obj)) from hp) (by simp),e0.hok.kept hk,?_⟩
 .exact name_of_addr x.apart (jb h1) (jb h2)
 .have hy:scope.names.lookup y=some .cell\/scope.names.lookup y=some .free:=hy
  rcases hy with hy |hy
  .exact Pf hy
  .exact absurd rfl (S.nofree _ (jb hy))
 .exact ni (x.above y c (jb h))
 .have hi:i<vs.length:=by
   unfold start at h2
   by_cases hi:i<vs.length
   .exact hi
   .rw[dn (by simpa using hi)]at h2
    rw[xp]at h2;split at h2<;>cases h2
  have ha:vs[i]?=some v:=by
   unfold start at h2;rw[dz (by simpa using hi),ci]at h2;cases e:vs[i]? with
   |none=>rw[e]at h2;cases h2
   |some a=>rw[e]at h2;cases h2;rfl
  obtain⟨u,hu,rv⟩:=r.get ha;have hp:ps[i]?=some y:=by
   rw[<-S.pre,List.getElem?_take_of_lt (by omega)];exact h1
  have ndP:ps.Nodup:=by rw[<-S.pre];exact S.nd.sublist (List.take_sublist _ _)
  refine⟨u,rv,?_⟩;rcases S.par y (db hp)with k |k
  .exact .inl ⟨k,Ee ndP hp hu k⟩
  .obtain⟨c,e⟩:=Pf (n:=s.heap.objs.size+1) k
   refine .inr ⟨.inl k,c,e,?_⟩;have q:=x.cell y c e;rw[Bf ndP hp hu (by show scope.names.lookup y≠_;rw[k];decide)]at q;exact q
 .exact e0.hok.fresh (ni (x.above y c (jb h)))
 .unfold start
  show _=N.length;rw[bi,ai,List.length_replicate];omega
theorem zT{CX:iH}{P:Program}{w:aj}{K:ae}{mg:Str->AF}{base:Heap}{k:Nat}{f:Addr}{name qual:Str}{params:Arguments}{body:List Stmt}{scope:Scope}{dV kV doc pm cdv ct oc:Value}{an od:AG}
  {osl:Array AF}{N ps:List Str}{sp:Sp}(lk:K.lookup f=some ⟨oc,od,.func (dm name qual params body scope dV kV doc pm an cdv ct),osl⟩)(hcd:jk K cdv qual=true)(S:gI N ps scope)
  (len:∀vs H Q E,sp vs H Q E->vs.length=ps.length)
  (hbody:∀(A:ak)(outer:List av)(s:aa)(H:Hp)(vs:List V)(Q:VK)(E:XK),dF k (A.deeper (envOfC qual scope s.heap.objs.size f cdv))->sp vs H Q E->
   ∃t,fG (eB CX P w K mg base N qual scope f cdv A outer s H E) body t/\t {nx:=λ_ H'=>Q .non H',rt:=Q} (start N vs) H):
  dX P w K mg base CX (k+1) f (dm name qual params body scope dV kV doc pm an cdv ct) ps sp:=by
 refine⟨len,λA outer s H args us vs Q E hr e0 hb r hsp=>?_⟩;have hl:=len _ _ _ _ hsp;have KX:K.In s.heap:=e0.mod.kin.keeps λb o e=>(e0.bs b o e).1;have lim:s.heap.NoLimit:=e0.mod.nolimit.keeps λb o e=>(e0.bs b o e).1;have hkind:∀y∈ps.zip us,scope.names.lookup y.1=some .local\/(scope.names.lookup y.1=some .cell/\((cellsFrom (s.heap.objs.size+1) scope.names []).lookup y.1).isSome=true):=λ⟨n,v⟩ hy=>by
  rcases S.par n (tq hy).1 with q |q
  .exact .inl q
  .exact .inr ⟨q,xo _ _ _ (.inl q)⟩
 refine codeAny_call_function hr.depth (KX _ _ lk) rfl S.co S.gen rfl (PySem.W.codeRec_of KX hcd) (hb _ _ _ _ ?_);refine wpAny_newFunctionEnv_cells S.kind hkind λenv he s1 x=>?_;subst he;refine⟨lim.keeps x.toInCall.keep,codeAny_func ?_⟩;obtain⟨t,ht,hq⟩:=hbody A outer s H vs Q E (hr.deeper _) hsp;have I:aH (eB CX P w K mg base N qual scope f cdv A outer s H E) [] (start N vs) H s1:=As S hr.hd e0 hl r x;refine jg (ht [] s1 (start N vs) H _ I hq) (λfl s' hs=>?_) λe s' hs=>hs;have fin:∀{σ':St}{H':Hp}{v:V}{u:Value},aH (eB CX P w K mg base N qual scope f cdv A outer s H E) [] σ' H' s'->bM v u->Q v H'->CE outer P w H s Q u s':=
  λ{σ' H' v u} J rv q=>⟨v,H',J.os,J.bare,J.base,J.hok,rv,q⟩
 cases fl with
 |ret u=>
  obtain⟨v,σ',H',J,rv,q⟩:=hs;exact fin J rv q
 |next=>
  obtain⟨σ',H',J,q⟩:=hs;exact fin (v:=V.non) (u:=cw) J rfl q
 |brk=>
  obtain⟨_,_,_,q⟩:=hs;exact ja q
 |cont=>
  obtain⟨_,_,_,q⟩:=hs;exact ja q
section
variable{X:Cx}{x:Str}{p pos:ah}{e:af}{es:List af}{t:TA}{id T:String}{r:List V->Hp->VK->Prop}
def Vn(r:List V->Hp->VK->Prop)(t:TA):TE:=λσ H Q=>t σ H λvs H1=>r vs H1 Q
theorem Vg(hc:gB X (.builtin id) r)(hg:Gl X x)(hm:X.mg x=none)(hv:bootBuiltins x=some (.builtin id))(ha:PA X (e::es) t)(hn:x≠"__name__":=by decide)(hdb:(x==("__debug__":Str))=false:=by decide)
  (he:starEach (e::es) X.env=(false,eval e X.env)::starEach es X.env:=by rfl)(hpl:(backTo pos (starEach es X.env)).any (·.1)=false:=by rfl):PE X (.Call (.Name x p) (e::es) [] pos) (Vn r t):=by
 intro AM s σ H Q I h;refine tm (nH I hg hm hv ?_ hn hdb);exact PyProof.Rows.callWith_builtin1 (bH (ha pos AM s σ H _ I h) λus s1 ⟨vs,H1,I1,r1,q1⟩=>hc AM s1 σ H1 vs us Q I1 r1 q1) he hpl
theorem sP(hc:gB X (.type T) r)(hg:Gl X x)(hm:X.mg x=none)(hv:bootBuiltins x=some (.type T))(ha:PA X (e::es) t)(hn:x≠"__name__":=by decide)(hdb:(x==("__debug__":Str))=false:=by decide)
  (he:starEach (e::es) X.env=(false,eval e X.env)::starEach es X.env:=by rfl)(hpl:(backTo pos (starEach es X.env)).any (·.1)=false:=by rfl):PE X (.Call (.Name x p) (e::es) [] pos) (Vn r t):=by
 intro AM s σ H Q I h;refine tm (nH I hg hm hv ?_ hn hdb);exact nr (bH (ha pos AM s σ H _ I h) λus s1 ⟨vs,H1,I1,r1,q1⟩=>hc AM s1 σ H1 vs us Q I1 r1 q1) he hpl
end
end L2
namespace HT
open PySem PyProof.Rows
def lexLt:AA->AA->Bool
 |[],[]=>false
 |[],_::_=>true
 |_::_,[]=>false
 |x::xs,y::ys=>if x=y then lexLt xs ys else decide (x<y)
theorem lexLt_cons(x y:Int)(xs ys:AA):lexLt (x::xs) (y::ys)=if x=y then lexLt xs ys else decide (x<y):=rfl
section
open PySem.SeqAt
open PySem.AutoSeq1 (wpAny_loadPart')
open PySem.MeetsSeq PySem.MeetsSeq2 PySem.MeetsSeq3
end
section
variable{prog:Program}{w:aj}{A:ak}{E:Value->aa->Prop}{s:aa}
theorem cat_tup{t b:Addr}{vs ws:AE}{Q:Value->aa->Prop}(ht:IsTup s.heap t vs.toArray)(hb:IsTup s.heap b ws.toArray)(hv:vs≠[])
  (h1:ws=[]->Q (.ref t) s)(h2:ws≠[]->Q (.ref s.heap.objs.size) {s with heap:=s.heap.push {cls:=.type "tuple",data:=.seq (vs++ws).toArray}})
  (hsz:vs.length+ws.length<=sizeLine):wpAny (model prog w) A (binaryOp .Add (.ref t) (.ref b)) Q E s:=by
 obtain⟨⟨cls,dd,data,sl⟩,ho,hc,n,hd⟩:=id ht;obtain⟨⟨cls2,dd2,data2,sl2⟩,ho2,hc2,n2,hd2⟩:=id hb;simp only at hc hd hc2 hd2;subst hc hd hc2 hd2;have e:vs.toArray++ws.toArray=(vs++ws).toArray:=by simp
 by_cases hw:ws=[]
 .exact qa ⟨_,ho,rfl⟩ ⟨_,ho2,rfl⟩ tx tz ua ub (uc _ _)
   (tuple_addW1 t b vs.toArray ws.toArray n n2 dd dd2 sl sl2 (by simpa using hv) (by simp[hw])) ⟨ho,ho2,h1 hw⟩
 .refine qa ⟨_,ho,rfl⟩ ⟨_,ho2,rfl⟩ tx tz ua ub (uc _ _)
   (tuple_addW2 t b vs.toArray ws.toArray n n2 dd dd2 sl sl2 (by simpa using hv) (by simpa using hw) (by rw[aq,aq];exact hsz)) ⟨ho,ho2,?_⟩
  rw[e];exact h2 hw
def sIx(n d:Nat):AH->Nat
 |none=>d
 |some v=>if v<0 then(v+(n:Int)).toNat else min v.toNat n
theorem sIx_nat(n d k:Nat):sIx n d (some (k:Int))=min k n:=by
 show(if(k:Int)<0 then((k:Int)+(n:Int)).toNat else min (k:Int).toNat n)=min k n;rw[if_neg (by omega),ny]
theorem J7(n d:Nat)(hd:d<=n)(o:AH):sIx n d o<=n:=by
 cases o with
 |none=>exact hd
 |some v=>
  show(if v<0 then(v+(n:Int)).toNat else min v.toNat n)<=n
  by_cases hv:v<0
  .rw[if_pos hv];omega
  .rw[if_neg hv];exact Nat.min_le_right _ _
theorem Hj(v:Int)(n d:Nat):(if v<0 then max (v+(n:Int)) 0 else min v (n:Int))=((sIx n d (some v):Nat):Int):=by
 show(if v<0 then max (v+(n:Int)) 0 else min v (n:Int))=(((if v<0 then(v+(n:Int)).toNat else min v.toNat n):Nat):Int)
 by_cases hv:v<0
 .simp only[if_pos hv];omega
 .simp only[if_neg hv];omega
theorem Tp(lo hi:AH)(n:Nat):ud lo hi 1 (n:Int)=(((sIx n 0 lo:Nat):Int),((sIx n n hi:Nat):Int)):=by
 have h1:¬((1:Int)<0):=by omega
 unfold ud;simp only[h1,if_false];refine Prod.ext ?_ ?_
 .cases lo with
  |none=>rfl
  |some v=>exact Hj v n 0
 .cases hi with
  |none=>rfl
  |some v=>exact Hj v n n
theorem Fq(i j:Nat):qb (i:Int) (j:Int) 1=j-i:=by
 unfold qb;have h1:(1:Int)>0:=by omega
 simp only[h1,if_true,Int.ediv_one];split<;>omega
theorem Oc{v:Value}{o:AH}{Q:AH->aa->Prop}(p:jt v o)(h:Q o s):wpAny (model prog w) A (Builtin.Slice.slicePartIndex v) Q E s:=by
 cases p with
 |none=>exact slicePart_none h
 |int i t=>exact slicePart_int h
theorem Eo{sl:Addr}{vl vu:Value}{lo hi:AH}{n:Nat}{Q:Int×Int×Nat->aa->Prop}(hs:s.heap.IsSliceOf sl vl vu .none)(pl:jt vl lo)(pu:jt vu hi)
  (h:Q (((sIx n 0 lo:Nat):Int),1,sIx n n hi-sIx n 0 lo) s):wpAny (model prog w) A (xq (.ref sl) (pure (n:Int))) Q E s:=by
 obtain⟨os,hos,hcs,hds⟩:=id hs;unfold xq Builtin.Slice.sliceFields;refine ag (ag (fw hos hds (x:=vl) rfl (ag (fw hos hds (x:=vu) rfl (ag (fw hos hds (x:=.none) rfl (ax ?_)))))));refine ag (slicePart_none ?_);show wpAny _ _ (if((1:Int)==0)=true then _ else _) _ _ s;rw[if_neg (by decide)];refine ag (Oc pl (ag (Oc pu (ag (ax ?_)))));show wpAny _ _ (match ud lo hi 1 (n:Int)with |(lo,hi)=>pure (lo,(1:Int),qb lo hi 1)) _ _ s
 rw[Tp lo hi n];show wpAny _ _ (pure (((sIx n 0 lo:Nat):Int),(1:Int),qb ((sIx n 0 lo:Nat):Int) ((sIx n n hi:Nat):Int) 1)) _ _ s;rw[Fq];exact ax h
theorem Iu(xs:Array Value)(i k:Nat):((az k).filterMap λ(m:Nat)=>xs[((i:Int)+(m:Int)*1).toNat]?).toArray=((xs.toList.drop i).take k).toArray:=by
 have e:(λ(m:Nat)=>xs[((i:Int)+(m:Int)*1).toNat]?)=λm=>xs[i+m]?:=by
  funext m
  have:((i:Int)+(m:Int)*1).toNat=i+m:=by omega
  rw[this]
 rw[e];have:=pick_run xs i k;rw[List.filterMap_map]at this;have e2:((λx=>xs[x]?)∘λx=>i+x)=λm=>xs[i+m]?:=rfl;rw[e2]at this;rw[this]
theorem getItem_tuple_cut{t sl:Addr}{items:Array Value}{vl vu:Value}{lo hi:AH}{Q:Value->aa->Prop}(ht:IsTup s.heap t items)(hs:s.heap.IsSliceOf sl vl vu .none)(pl:jt vl lo)(pu:jt vu hi)
  (hw:¬(sIx items.size 0 lo=0/\sIx items.size items.size hi=items.size))
  (h:Q (.ref s.heap.objs.size) {s with heap:=s.heap.push {cls:=.type "tuple",data:=.seq ((items.toList.drop (sIx items.size 0 lo)).take (sIx items.size items.size hi-sIx items.size 0 lo)).toArray}})
  (hsz:items.size<=sizeLine):wpAny (model prog w) A (getItem (.ref t) (.ref sl)) Q E s:=by
 have htake:sizeOk (.seq ((items.toList.drop (sIx items.size 0 lo)).take (sIx items.size items.size hi-sIx items.size 0 lo)).toArray):=by
  show((items.toList.drop (sIx items.size 0 lo)).take (sIx items.size items.size hi-sIx items.size 0 lo)).toArray.size<=sizeLine;rw[aq,ji,ue,iz];omega
 have hj:sIx items.size items.size hi<=items.size:=J7 _ _ (am _) hi;obtain⟨os,hos,hcs,hds⟩:=id hs;have hTs:s.TypeIs (.ref sl) "slice":=⟨os,hos,hcs⟩;unfold getItem
 try with_reducible refine ki ?_
 first |refine ag (ax ?_) |skip
 refine ag (wpAny_sequenceKey ht.typeIs (by decide) ?_);refine ag (oa (name:=ik "__getitem__") ht.typeIs qc
  (lg qc ht.typeIs entry_tuple_getitem ?_ (args_tuple_getitem _ _)))
 show wpAny _ _ (Builtin.Tuple.tupleItemsOf (.ref t) >>= _) _ _ s;refine ag (tupleItemsOf_ ht ?_);refine ag (wpAny_typeOf hTs ?_);rw[if_pos (by decide)];refine ag (Eo hs pl pu ?_);have hno:¬((((sIx items.size 0 lo:Nat):Int)==0&&(1:Int)==1&&(sIx items.size items.size hi-sIx items.size 0 lo)==items.size)=true):=by
  intro q;rw[gj,gj]at q;have q1:((sIx items.size 0 lo:Nat):Int)=0:=eq_of_beq q.1.1;have q2:sIx items.size items.size hi-sIx items.size 0 lo=items.size:=eq_of_beq q.2;exact hw ⟨by omega,by omega⟩
 show wpAny _ _ (if(((sIx items.size 0 lo:Nat):Int)==0&&(1:Int)==1&&(sIx items.size items.size hi-sIx items.size 0 lo)==items.size)=true then _ else _) _ _ s;rw[if_neg hno,Iu]
 first
  |exact ag (m:=qd _) (jh (ax ⟨_,rfl,ax h⟩) htake)
  |exact ag (m:=qd _) (jh (ag (ax (ax ⟨_,rfl,ax h⟩))) htake)
  |exact ag (ag (m:=qd _) (jh (ax (ax ⟨_,rfl,ax h⟩)) htake))
  |exact ag (ag (m:=qd _) (jh (ax ⟨_,rfl,ax h⟩) htake))
end
end HT
namespace L2
open PySem PySem.Spec PyProof.Rows
abbrev TO:=St->Hp->(AH->Hp->Prop)->Prop
def PO(X:Cx)(e:Option af)(t:TO):Prop:=
 ∀(AM:List (Addr×Obj))(s:aa)(σ:St)(H:Hp)(Q:AH->Hp->Prop),aH X AM σ H s->t σ H Q->
  wpAny (model X.prog X.w) X.A (evalPart e X.env) (λu s'=>∃o H',aH X AM σ H' s'/\jt u o/\Q o H') X.xe s
def Yz:TO:=λ_ H Q=>Q none H
def R8(t:TE):TO:=λσ H Q=>t σ H λx H1=>∃i,x=.int i/\Q (some i) H1
section
variable{X:Cx}{e:af}{te:TE}{lo hi:Option af}{tl th:TO}{pos p2:ah}
theorem Ay:PO X none Yz:=by
 intro AM s σ H Q I h;rw[evalPart_none];exact ax ⟨none,H,I,.none,h⟩
theorem Uz(h:PE X e te):PO X (some e) (R8 te):=by
 intro AM s σ H Q I hw;rw[evalPart_some];refine bH (h AM s σ H _ I hw) ?_
 rintro u s1 ⟨x,H1,I1,r1,q1⟩
 obtain⟨i,rfl,q⟩:=q1;obtain⟨t,rfl⟩:=r1;exact⟨some i,H1,I1,.int i t,q⟩
def mS(X:Cx)(r:V->AH->AH->Hp->VK->Prop):Prop:=
 ∀(AM:List (Addr×Obj))(s:aa)(σ:St)(H:Hp)(x:V)(v vl vu:Value)(lo hi:AH)(sl:Addr)(Q:VK),aH X AM σ H s->bM x v->s.heap.IsSliceOf sl vl vu .none->jt vl lo->jt vu hi->r x lo hi H Q->
  ∃T id,typeLookup (.type T) "__getitem__"=pure (some (.builtin id))/\s.TypeIs v T/\wpAny (model X.prog X.w) X.A (getItem v (.ref sl)) (EP X AM σ Q) X.xe s
theorem mS.or{r r':V->AH->AH->Hp->VK->Prop}(h:mS X r)(h':mS X r'):mS X (λx lo hi H Q=>r x lo hi H Q\/r' x lo hi H Q):=by
 intro AM s σ H x v vl vu lo hi sl Q I rx hs pl pu q;rcases q with q |q
 .exact h AM s σ H x v vl vu lo hi sl Q I rx hs pl pu q
 .exact h' AM s σ H x v vl vu lo hi sl Q I rx hs pl pu q
def tSl(r:V->AH->AH->Hp->VK->Prop)(te:TE)(tl th:TO):TE:=λσ H Q=>te σ H λx H1=>tl σ H1 λl H2=>th σ H2 λu H3=>r x l u H3 Q
theorem Vv{r:V->AH->AH->Hp->VK->Prop}(hr:mS X r)(he:PE X e te)(hl:PO X lo tl)(hu:PO X hi th):PE X (.Subscript e (.Slice lo hi none p2) pos) (tSl r te tl th):=by
 intro AM s σ H Q I h;refine Subscript_ (bH (he AM s σ H _ I h) λv s1 hq=>?_);rcases hq with⟨x,H1,I1,r1,q1⟩;refine wpAny_Slice (bH (hl AM s1 σ H1 _ I1 q1) λvl s2 ⟨l,H2,I2,pl,q2⟩=>bH (hu AM s2 σ H2 _ I2 q2) λvu s3 hq=>?_);rcases hq with⟨u,H3,I3,pu,q3⟩;rw[evalPart_none];refine ax ?_;have I4:aH X AM σ H3 {s3 with heap:=s3.heap.push {cls:=.type "slice",data:=.fields #[vl,vu,.none]}}:=I3.kept (t':=s3.toks) λb ob q=>ao _ q;obtain⟨T,id,hT,ht,hg⟩:=hr AM {s3 with heap:=s3.heap.push {cls:=.type "slice",data:=.fields #[vl,vu,.none]}} σ H3 x v vl vu l u s3.heap.objs.size Q I4 r1 (Heap.IsSliceOf.new ..) pl pu q3;show wpAny (model X.prog X.w) X.A (subscriptTail e (.Slice lo hi none p2) v (.ref s3.heap.objs.size)) (EP X AM σ Q) X.xe {s3 with heap:=s3.heap.push {cls:=.type "slice",data:=.fields #[vl,vu,.none]}};exact tail_any (ops:=[.ref s3.heap.objs.size,v]) ht hT hg (by with_unfolding_all rfl)
def mK(xs:List V)(lo hi:AH):List V:=(xs.drop (HT.sIx xs.length 0 lo)).take (HT.sIx xs.length xs.length hi-HT.sIx xs.length 0 lo)
theorem sC(xs:List V)(lo hi:AH):(mK xs lo hi).length<=xs.length:=by
 unfold mK;rw[ji,ue];omega
def Z6(K:ae):V->AH->AH->Hp->VK->Prop:=λx lo hi H Q=>∃a xs,x=.ref a/\cE K H a xs/\
 ¬(HT.sIx xs.length 0 lo=0/\HT.sIx xs.length xs.length hi=xs.length)/\∀p,H p=none->Q (.ref p) (aX H p (.tup (mK xs lo hi)))
theorem G6:mS X (Z6 X.K):=by
 intro AM s σ H x v vl vu lo hi sl Q I rx hs pl pu h;obtain⟨a,xs,rfl,hx,hw,q⟩:=h;cases rx;obtain⟨its,r,ht,hz⟩:=I.tuple hx;have hlen:its.toArray.size=xs.length:=by rw[aq];exact r.length.symm
 refine⟨"tuple",_,qc.lookup,ht.typeIs,?_⟩;refine HT.getItem_tuple_cut ht hs pl pu (by rw[hlen];exact hw) ?_ (by rw[hlen];exact hz);rw[hlen];refine⟨.ref s.heap.objs.size,_,I.laid (t':=s.toks) (o:=.tup (mK xs lo hi)) (λb ob q=>ao _ q) (am _) ?_,rfl,q _ (I.hok.fresh (am _))⟩;exact⟨⟨gh (sC xs lo hi) hz,_,cq _ rfl,rfl⟩,_,(r.drop (HT.sIx xs.length 0 lo)).take (HT.sIx xs.length xs.length hi-HT.sIx xs.length 0 lo),pr _ _⟩
def zY(K:ae):R2:=λx y H Q=>∃a b xs ys,x=.ref a/\y=.ref b/\cE K H a xs/\cE K H b ys/\xs≠[]/\xs.length+ys.length<=sizeLine/\
 (ys=[]->Q (.ref a) H)/\(ys≠[]->∀p,H p=none->Q (.ref p) (aX H p (.tup (xs++ys))))
theorem bG.nil_iff{xs:List V}{us:AE}(r:bG xs us):us=[]↔xs=[]:=by
 cases r with
 |nil=>simp
 |cons _ _=>simp
theorem Vi:dB X (binaryOp .Add) (zY X.K):=by
 intro AM s σ H x y v u Q I rx ry h;obtain⟨a,b,xs,ys,rfl,rfl,ha,hb,hx,hz,q1,q2⟩:=h;cases rx;cases ry;obtain⟨its,r1,p1,_⟩:=I.tuple ha;obtain⟨its2,r2,p2,_⟩:=I.tuple hb;refine HT.cat_tup p1 p2 (λz=>hx (r1.nil_iff.mp z)) (λz=>⟨.ref a,H,I,rfl,q1 (r2.nil_iff.mp z)⟩) (λz=>?_) (by rw[<-r1.length,<-r2.length];exact hz);refine⟨.ref s.heap.objs.size,_,I.laid (t':=s.toks) (o:=.tup (xs++ys)) (λb ob q=>ao _ q) (am _) ?_,rfl,q2 (λw=>z (r2.nil_iff.mpr w)) _ (I.hok.fresh (am _))⟩;exact⟨⟨by rw[bi];exact hz,_,cq _ rfl,rfl⟩,_,r1.append r2,pr _ _⟩
end
def aZ(n:Nat)(i:Int):Option Nat:=if 0<=i then(if i<n then some i.toNat else none)else if-(n:Int)<=i then some (i+n).toNat else none
def aY{α:Type}(xs:List α)(i:Int):Option α:=(aZ xs.length i).bind λj=>xs[j]?
theorem Nh{n:Nat}{i:Int}{j:Nat}(h:aZ n i=some j):seqIndex? i n=some j/\j<n/\-(n:Int)<=i/\i<n:=by
 unfold aZ at h
 by_cases h0:0<=i
 .rw[if_pos h0]at h
  by_cases h1:i<n
  .rw[if_pos h1]at h
   have e:i.toNat=j:=ck h;exact⟨by rw[uf h0 h1,e],by omega,by omega,h1⟩
  .rw[if_neg h1]at h;cases h
 .rw[if_neg h0]at h
  by_cases h1:-(n:Int)<=i
  .rw[if_pos h1]at h
   have e:(i+n).toNat=j:=ck h;exact⟨by rw[ug (by omega) h1,e],by omega,h1,by omega⟩
  .rw[if_neg h1]at h;cases h
theorem yS{α:Type}{xs:List α}{i:Int}{v:α}(h:aY xs i=some v):∃j,seqIndex? i xs.length=some j/\xs[j]?=some v/\j<xs.length/\-(xs.length:Int)<=i/\i<xs.length:=by
 unfold aY at h;cases e:aZ xs.length i with
 |none=>rw[e]at h;cases h
 |some j=>
  rw[e]at h;obtain⟨h1,h2,h3,h4⟩:=Nh e;exact⟨j,h1,h,h2,h3,h4⟩
theorem iJ{α:Type}{xs:List α}{j:Nat}{v:α}(h:xs[j]?=some v):aY xs (j:Int)=some v:=by
 have hj:j<xs.length:=(bf.mp h).1;have e:aZ xs.length (j:Int)=some j:=by
  unfold aZ;rw[if_pos (by omega),if_pos (by omega)];simp
 unfold aY;rw[e];exact h
theorem Nv{α:Type}(xs:List α)(v:α):aY (xs++[v]) (-1)=some v:=by
 have hl:(xs++[v]).length=xs.length+1:=by simp
 have e:aZ (xs++[v]).length (-1)=some xs.length:=by
  unfold aZ;rw[hl,if_neg (by decide),if_pos (by omega)];congr 1;omega
 unfold aY;rw[e];show(xs++[v])[xs.length]?=some v;simp
def yP(b:af):Prop:=∀o i,subscripted b false o i=operate [o,i] (getItem o i)
def kQ(X:Cx)(r:R2):Prop:=
 ∀(value slice:af)(AM:List (Addr×Obj))(s:aa)(σ:St)(H:Hp)(x y:V)(v u:Value)(Q:VK),aH X AM σ H s->bM x v->bM y u->r x y H Q->
  subscripted slice false v u=operate [v,u] (getItem v u)->wpAny (model X.prog X.w) X.A (subscriptTail value slice v u) (EP X AM σ Q) X.xe s
def vW(X:Cx)(id:String)(r:V->List V->Hp->VK->Prop):Prop:=
 ∀(AM:List (Addr×Obj))(s:aa)(σ:St)(H:Hp)(x:V)(xs:List V)(v:Value)(us:AE)(Q:VK),aH X AM σ H s->bM x v->bG xs us->r x xs H Q->
  wpAny (model X.prog X.w) X.A (call (.builtin id) (v::us)) (EP X AM σ Q) X.xe s
section
variable{X:Cx}{a b:af}{ta tb:TE}{pos:ah}
theorem kQ.or{r r':R2}(h:kQ X r)(h':kQ X r'):kQ X (λx y H Q=>r x y H Q\/r' x y H Q):=by
 intro value slice AM s σ H x y v u Q I rx ry q hs;rcases q with q |q
 .exact h value slice AM s σ H x y v u Q I rx ry q hs
 .exact h' value slice AM s σ H x y v u Q I rx ry q hs
theorem Sl{r:R2}(hr:kQ X r)(ha:PE X a ta)(hb:PE X b tb)(hs:yP b):PE X (.Subscript a b pos) (vP r ta tb):=by
 intro AM s σ H Q I h;exact Subscript_ (Sa ha hb I h λv u s2 x y H2 I2 rx ry q=>hr a b AM s2 σ H2 x y v u Q I2 rx ry q (hs _ _))
def Zm(K:ae):R2:=λx y H Q=>∃p xs i v,x=.ref p/\y=.int i/\bN K H p xs/\aY xs i=some v/\Q v H
def Wm(K:ae):R2:=λx y H Q=>∃p xs i v,x=.ref p/\y=.int i/\cE K H p xs/\aY xs i=some v/\Q v H
def Dn:R2:=λx y H Q=>∃z i c,x=.str z/\y=.int i/\z.length<=sizeLine/\aY z.cps.toList i=some c/\Q (.str ⟨#[c]⟩) H
theorem Ix:kQ X (Zm X.K):=by
 intro value slice AM s σ H x y v u Q I rx ry h hs;obtain⟨p,xs,i,z,rfl,rfl,hq,he,q⟩:=h;cases rx;obtain⟨t,rfl⟩:=ry;obtain⟨its,r,pl,hz⟩:=I.list hq;obtain⟨j,h1,h2,h3,h4,h5⟩:=yS he;obtain⟨w,ew,rw'⟩:=r.get h2;have hl:=r.length;have hn:=qW;have fin:EP X AM σ Q w s:=⟨z,H,I,rw',q⟩
 by_cases h0:0<=i
 .have hj:i.toNat=j:=by
   rw[uf h0 h5]at h1;exact ck h1
  exact item_listR pl.isList h0 (by omega) (by rw[hj];simpa using ew) fin hs
 .have hj:(i+(its.toArray.size:Int)).toNat=j:=by
   rw[ug (by omega) h4]at h1;rw[aq,<-hl];exact ck h1
  exact xu (x:=w) pl.isList.typeIs slot_list_getitem.lookup
   (wpAny_getItem_list_neg (Q:=λr s'=>r=w/\EP X AM σ Q r s') pl.isList (by omega) (by rw[aq]<;>omega) (by omega) (by rw[hj];simpa using ew) ⟨rfl,fin⟩) hs
theorem L1:kQ X (Wm X.K):=by
 intro value slice AM s σ H x y v u Q I rx ry h hs;obtain⟨p,xs,i,z,rfl,rfl,hq,he,q⟩:=h;cases rx;obtain⟨t,rfl⟩:=ry;obtain⟨its,r,pl,hz⟩:=I.tuple hq;obtain⟨j,h1,h2,h3,h4,h5⟩:=yS he;obtain⟨w,ew,rw'⟩:=r.get h2;have hl:=r.length;have hn:=qW;have fin:EP X AM σ Q w s:=⟨z,H,I,rw',q⟩;exact xu (x:=w) pl.typeIs qc.lookup
  (getItem_tuple (j:=j) (Q:=λr s'=>r=w/\EP X AM σ Q r s') pl (by omega) (by omega) (by rw[aq,<-hl];exact h1) (by simpa using ew) ⟨rfl,fin⟩) hs
theorem B4:kQ X Dn:=by
 intro value slice AM s σ H x y v u Q I rx ry h hs;obtain⟨z,i,c,rfl,rfl,hz,he,q⟩:=h;obtain⟨t,rfl⟩:=rx;obtain⟨t',rfl⟩:=ry;obtain⟨j,h1,h2,h3,h4,h5⟩:=yS he;have hl:z.cps.toList.length=z.length:=by simp[Str.length]
 rw[hl]at h1 h4 h5;have hn:=qW;exact tail_any (typeIs_str s z t) slot_str_getitem.lookup (getItem_str (c:=c) (by
  have e1:decide (i< -(2^63:Int))=false:=decide_eq_false (by omega);have e2:decide (i>=2^63)=false:=decide_eq_false (by omega);rw[e1,e2,Bool.or_false]) (by rw[h1];simpa using h2) ⟨.str ⟨#[c]⟩,H,I.tok _,⟨_,rfl⟩,q⟩) hs
def Ao(K:ae):R2:=λx y H Q=>Zm K x y H Q\/Wm K x y H Q\/Dn x y H Q
theorem Nk:kQ X (Ao X.K):=Ix.or (L1.or B4)
theorem Nq(its:AE)(n j:Nat)(u:Value):fz (·.setIfInBounds j u) {cls:=.type "list",data:=.seq its.toArray n}={cls:=.type "list",data:=.seq (its.set j u).toArray n}:=by
 simp[fz]
theorem aH.lst{AM:List (Addr×Obj)}{σ:St}{H:Hp}{s:aa}{p:Addr}{xs:List V}(I:aH X AM σ H s)(h:H p=some (.lst xs)):
  ∃(its:AE)(n:Nat),bG xs its/\s.heap.get? p=some {cls:=.type "list",data:=.seq its.toArray n}/\xs.length<=sizeLine:=by
 obtain⟨z,its,n,r,e⟩:=I.hok p _ h;exact⟨its,n,r,e,z⟩
theorem aH.lstUpd{AM:List (Addr×Obj)}{σ:St}{H:Hp}{s:aa}{p:Addr}{xs ys:List V}{its its':AE}{n n':Nat}{f:Obj->Obj}(I:aH X AM σ H s)(h:H p=some (.lst xs))
  (ho:s.heap.get? p=some {cls:=.type "list",data:=.seq its.toArray n})(hf:f {cls:=.type "list",data:=.seq its.toArray n}={cls:=.type "list",data:=.seq its'.toArray n'})(r:bG ys its')(hz:ys.length<=sizeLine)(t:Nat):
  aH X AM σ (aX H p (.lst ys)) {s with heap:=s.heap.update p f,toks:=t}:=by
 have e:(s.heap.update p f).get? p=some {cls:=.type "list",data:=.seq its'.toArray n'}:=by
  rw[xv f ho (by rw[hf]<;>rfl),hf]
 refine I.write (x:=p) (e:=p) (by rw[h];trivial) (.inl rfl) (λb u hb q=>(xw _ _ (gi hb)).trans q) ⟨_,e⟩ ?_;exact⟨hz,its',n',r,e⟩
def P8:V->V->V->Hp->(Hp->Prop)->Prop:=λo i v H Q=>∃p xs k j,o=.ref p/\i=.int k/\H p=some (.lst xs)/\aZ xs.length k=some j/\Q (aX H p (.lst (xs.set j v)))
theorem Yg:Tm X P8:=by
 intro AM s σ H o i v ov iv u Q I ro ri rv h;obtain⟨p,xs,k,j,rfl,rfl,hp,hj,q⟩:=h;cases ro;obtain⟨t,rfl⟩:=ri;obtain⟨its,n,r,ho,hz⟩:=I.lst hp;obtain⟨h1,h2,h3,h4⟩:=Nh hj;have hl:=r.length;have hn:=qW;have I':aH X AM σ (aX H p (.lst (xs.set j v))) {s with heap:=s.heap.update p (fz (·.setIfInBounds j u))}:=
  I.lstUpd hp ho (Nq its n j u) (r.set rv j) (by rw[dk];exact hz) s.toks
 by_cases h0:0<=k
 .have hk:k.toNat=j:=by
   rw[uf h0 h4]at h1;exact ck h1
  exact PySem.W.ki_setAt ho h0 (by omega) (by rw[aq,<-hl];exact h4) (by rw[hk];exact⟨_,I',q⟩)
 .have hk:(k+(its.toArray.size:Int)).toNat=j:=by
   rw[ug (by omega) h3]at h1;rw[aq,<-hl];exact ck h1
  exact PySem.W.ki_setBack ho (by omega) (by rw[aq,<-hl];exact h3) (by omega) (by rw[hk];exact⟨_,I',q⟩)
theorem Yo(lo hi:AH)(n:Nat):(sliceBounds lo hi none n).1=((HT.sIx n 0 lo:Nat):Int)/\(sliceBounds lo hi none n).2.1=((HT.sIx n n hi:Nat):Int)/\(sliceBounds lo hi none n).2.2=1:=by
 refine⟨?_,?_,rfl⟩
 .cases lo with
  |none=>simp[sliceBounds,HT.sIx]
  |some i=>
   simp only[sliceBounds,HT.sIx,xx,show(1:Int)>0 by decide,if_true]
   by_cases h:i<0
   .simp only[h,if_true]<;>omega
   .simp only[h,if_false]<;>omega
 .cases hi with
  |none=>simp[sliceBounds,HT.sIx]
  |some i=>
   simp only[sliceBounds,HT.sIx,xx,show(1:Int)>0 by decide,if_true]
   by_cases h:i<0
   .simp only[h,if_true]<;>omega
   .simp only[h,if_false]<;>omega
theorem Qo(its:AE)(lo hi:AH):slicePick its.toArray lo hi none=((its.drop (HT.sIx its.length 0 lo)).take (HT.sIx its.length its.length hi-HT.sIx its.length 0 lo)).toArray:=by
 obtain⟨h1,h2,h3⟩:=Yo lo hi its.toArray.size;unfold slicePick;rw[h1,h2,h3];simp only[sliceRange_one,pick_run,aq]<;>rfl
def Z7(K:ae):V->AH->AH->Hp->VK->Prop:=λx lo hi H Q=>∃a xs,x=.ref a/\bN K H a xs/\∀p,H p=none->Q (.ref p) (aX H p (.lst (mK xs lo hi)))
theorem Zw:mS X (Z7 X.K):=by
 intro AM s σ H x v vl vu lo hi sl Q I rx hs pl pu h;obtain⟨a,xs,rfl,hx,q⟩:=h;cases rx;obtain⟨its,r,ht,hz⟩:=I.list hx;have hlen:=r.length;refine⟨"list",_,slot_list_getitem.lookup,ht.isList.typeIs,?_⟩;refine wpAny_getItem_list_slice ht.isList hs pl pu .none (by simp) ?_ (by rw[aq]<;>omega);rw[Qo,<-hlen];refine⟨.ref s.heap.objs.size,_,I.laid (t':=s.toks) (o:=.lst (mK xs lo hi)) (λb ob q=>ao _ q) (am _) ?_,rfl,q _ (I.hok.fresh (am _))⟩;exact⟨gh (sC xs lo hi) hz,_,0,(r.drop (HT.sIx xs.length 0 lo)).take (HT.sIx xs.length xs.length hi-HT.sIx xs.length 0 lo),cq _ rfl⟩
def kI:V->Bool
 |.non=>true
 |.bl _=>true
 |.int _=>true
 |.str _=>true
 |_=>false
def mQ:V->V->Bool
 |.non,.non=>true
 |.bl a,.bl b=>a==b
 |.bl a,.int b=>(if a then 1 else 0)==b
 |.int a,.bl b=>a==(if b then 1 else 0)
 |.int a,.int b=>a==b
 |.str a,.str b=>a==b
 |_,_=>false
theorem L5{A:ak}{s:aa}{y x:V}{u v:Value}(ry:bM y u)(rx:bM x v)(fy:kI y=true)(fx:kI x=true):jm A s u v (mQ y x):=by
 cases y with
 |non=>
  cases ry;cases x with
  |non=>cases rx;exact qe _
  |bl b=>cases rx;exact SeqAt.EqAt.none_bool b
  |int b=>obtain⟨t,rfl⟩:=rx;exact SeqAt.EqAt.none_int b t
  |str b=>obtain⟨t,rfl⟩:=rx;exact SeqAt.EqAt.none_str b t
  |_=>exact absurd (show false=true from fx) fu
 |bl a=>
  cases ry;cases x with
  |non=>cases rx;exact SeqAt.EqAt.bool_none a
  |bl b=>cases rx;exact xy a b
  |int b=>obtain⟨t,rfl⟩:=rx;exact SeqAt.EqAt.bool_int a b t
  |str b=>obtain⟨t,rfl⟩:=rx;exact SeqAt.EqAt.bool_str a b t
  |_=>exact absurd (show false=true from fx) fu
 |int a=>
  obtain⟨t',rfl⟩:=ry;cases x with
  |non=>cases rx;exact SeqAt.EqAt.int_none a t'
  |bl b=>cases rx;exact SeqAt.EqAt.int_bool a t' b
  |int b=>obtain⟨t,rfl⟩:=rx;exact ya a t' b t
  |str b=>obtain⟨t,rfl⟩:=rx;exact wt a t' b t
  |_=>exact absurd (show false=true from fx) fu
 |str a=>
  obtain⟨t',rfl⟩:=ry;cases x with
  |non=>cases rx;exact SeqAt.EqAt.str_none a t'
  |bl b=>cases rx;exact SeqAt.EqAt.str_bool a t' b
  |int b=>obtain⟨t,rfl⟩:=rx;exact wu a t' b t
  |str b=>obtain⟨t,rfl⟩:=rx;exact yb a t' b t
  |_=>exact absurd (show false=true from fx) fu
 |_=>exact absurd (show false=true from fy) fu
def gO(x:V)(u:Value):Bool:=match u with
 |.none=>mQ .non x
 |.bool b=>mQ (.bl b) x
 |.int i _=>mQ (.int i) x
 |.str z _=>mQ (.str z) x
 |_=>false
theorem Ak{x y:V}{u:Value}(r:bM y u)(f:kI y=true):gO x u=mQ y x:=by
 cases y with
 |non=>cases r;rfl
 |bl b=>cases r;rfl
 |int i=>obtain⟨t,rfl⟩:=r;rfl
 |str z=>obtain⟨t,rfl⟩:=r;rfl
 |_=>exact absurd (show false=true from f) fu
theorem qI{x:V}:∀{xs:List V}{us:AE},bG xs us->xs.all kI=true->us.any (gO x)=xs.any λy=>mQ y x
 |_,_,.nil,_=>rfl
 |y::xs,u::us,.cons r t,f=>by
  rw[uh,gj]at f;rw[qg,qg,Ak r f.1,qI t f.2]
theorem qC{A:ak}{s:aa}{x:V}{v:Value}(rx:bM x v)(fx:kI x=true):∀{xs:List V}{us:AE},bG xs us->xs.all kI=true->∀u∈us,jm A s u v (gO x u)
 |_,_,.nil,_=>λu hu=>by cases hu
 |y::xs,u::us,.cons r t,f=>λu' hu=>by
  rw[uh,gj]at f;rcases ay.mp hu with rfl |hu
  .rw[Ak r f.1];exact L5 r rx f.1 fx
  .exact qC rx fx t f.2 u' hu
def vZ(x:V)(xs:List V):Bool:=xs.any λy=>mQ y x
def Kb(K:ae)(neg:Bool):R2:=λx y H Q=>∃p xs,y=.ref p/\(bN K H p xs\/cE K H p xs)/\kI x=true/\xs.all kI=true/\Q (.bl (if neg then !vZ x xs else vZ x xs)) H
theorem De:dB X (compareOp .In) (Kb X.K false):=by
 intro AM s σ H x y v u Q I rx ry h;obtain⟨p,xs,rfl,hq,fx,fs,q⟩:=h;cases ry;rcases hq with hq |hq
 .obtain⟨its,r,pl,hz⟩:=I.list hq
  refine SeqAt.in_listAt (gO x) pl.isList (λw hw=>qC rx fx r fs w (by simpa using hw)) ⟨.bl _,H,I,rfl,?_⟩;rw[show its.toArray.any (gO x)=its.any (gO x) by simp,qI r fs];exact q
 .obtain⟨its,r,pl,hz⟩:=I.tuple hq
  refine SeqAt.in_tupleAt (gO x) pl (λw hw=>qC rx fx r fs w (by simpa using hw)) ⟨.bl _,H,I,rfl,?_⟩;rw[show its.toArray.any (gO x)=its.any (gO x) by simp,qI r fs];exact q
theorem Ec:dB X (compareOp .NotIn) (Kb X.K true):=by
 intro AM s σ H x y v u Q I rx ry h;obtain⟨p,xs,rfl,hq,fx,fs,q⟩:=h;cases ry;rcases hq with hq |hq
 .obtain⟨its,r,pl,hz⟩:=I.list hq
  refine SeqAt.notIn_listAt (gO x) pl.isList (λw hw=>qC rx fx r fs w (by simpa using hw)) ⟨.bl _,H,I,rfl,?_⟩;rw[show its.toArray.any (gO x)=its.any (gO x) by simp,qI r fs];exact q
 .obtain⟨its,r,pl,hz⟩:=I.tuple hq
  refine SeqAt.notIn_tupleAt (gO x) pl (λw hw=>qC rx fx r fs w (by simpa using hw)) ⟨.bl _,H,I,rfl,?_⟩;rw[show its.toArray.any (gO x)=its.any (gO x) by simp,qI r fs];exact q
theorem Wo:gB X (.builtin "len") (λxs H Q=>∃p ys,xs=[.ref p]/\(bN X.K H p ys\/cE X.K H p ys)/\Q (.int ys.length) H):=by
 intro AM s σ H xs us Q I r h;obtain⟨p,ys,rfl,hq,q⟩:=h;obtain⟨u,rfl,rx⟩:=iM r;cases rx;have hn:=qW;rcases hq with hq |hq
 .obtain⟨its,r',pl,hz⟩:=I.list hq
  have hlen:=r'.length;exact Calls.call_len_list pl.isList (by simp only[aq]<;>omega) ⟨.int ys.length,H,I.tok _,⟨s.toks+1,by rw[aq,hlen]⟩,q⟩
 .obtain⟨its,r',pl,hz⟩:=I.tuple hq
  have hlen:=r'.length;exact len_tuple pl (by simp only[aq]<;>omega) ⟨.int ys.length,H,I.tok _,⟨s.toks+1,by rw[aq,hlen]⟩,q⟩
theorem sA:gB X (.type "list") (λxs H Q=>∃p ys,xs=[.ref p]/\(bN X.K H p ys\/cE X.K H p ys)/\∀l,H l=none->Q (.ref l) (aX H l (.lst ys))):=by
 intro AM s σ H xs us Q I r h;obtain⟨p,ys,rfl,hq,q⟩:=h;obtain⟨u,rfl,rx⟩:=iM r;cases rx;have fin:∀(its:AE),bG ys its->ys.length<=sizeLine->∀(h':Heap)(c':Nat),(∀b o',s.heap.get? b=some o'->h'.get? b=some o')->
   h'.get? s.heap.objs.size=some {cls:=.type "list",dict:=none,data:=.seq its.toArray c',slots:=#[]}->EP X AM σ Q (.ref s.heap.objs.size) {s with heap:=h'}:=λits r' hz h' c' kp e=>
  ⟨.ref s.heap.objs.size,_,I.laid (t':=s.toks) kp (am _) (show eP X.prog X.w _ h' _ (.lst ys) from⟨hz,its,c',r',e⟩),rfl,q _ (I.hok.fresh (am _))⟩
 rcases hq with hq |hq
 .obtain⟨its,r',pl,hz⟩:=I.list hq
  have hlen:=r'.length;obtain⟨o,ho,hc,n,hd⟩:=pl.isList;exact call_list_seq p (.inl rfl) ho hc hd (λh' c' kp e=>fin its r' hz h' c' kp e) (by simp only[aq]<;>omega)
 .obtain⟨its,r',pl,hz⟩:=I.tuple hq
  have hlen:=r'.length;obtain⟨o,ho,hc,n,hd⟩:=pl;exact call_list_seq p (.inr rfl) ho hc hd (λh' c' kp e=>fin its r' hz h' c' kp e) (by simp only[aq]<;>omega)
theorem Ro:gB X (.type "tuple") (λxs H Q=>∃p ys,xs=[.ref p]/\((bN X.K H p ys/\∀l,H l=none->Q (.ref l) (aX H l (.tup ys)))\/(cE X.K H p ys/\Q (.ref p) H))):=by
 intro AM s σ H xs us Q I r h;obtain⟨p,ys,rfl,h⟩:=h;obtain⟨u,rfl,rx⟩:=iM r;cases rx;rcases h with⟨hq,q⟩|⟨hq,q⟩
 .obtain⟨its,r',pl,hz⟩:=I.list hq
  have hlen:=r'.length;refine call_tuple_list pl.isList (λh' kp=>?_) (by simp only[aq]<;>omega);have I1:aH X AM σ H {s with heap:=h'}:=I.kept (t':=s.toks) kp;have I2:aH X AM σ (aX H h'.objs.size (.tup ys)) {s with heap:=h'.push {cls:=.type "tuple",data:=.seq its.toArray}}:=
   I1.laid (t':=s.toks) (λb o e=>ao _ e) (am _) (show eP X.prog X.w _ _ _ (.tup ys) from⟨⟨hz,_,cq _ rfl,rfl⟩,its,r',pr _ _⟩)
  exact⟨.ref h'.objs.size,_,I2,rfl,q _ (I1.hok.fresh (am _))⟩
 .obtain⟨its,r',pl,hz⟩:=I.tuple hq
  exact call_tuple_same pl ⟨.ref p,H,I,rfl,q⟩
def Bb(K:ae)(T:String)(x:V)(H:Hp):Prop:=match x with
 |.str _=>T="str"
 |.int _=>T="int"
 |.ref p=>(T="list"/\∃xs,bN K H p xs)\/(T="tuple"/\∃o,K.lookup p=some o/\o.cls=.type "tuple"/\o.dict=none)\/
   (T="dict"/\((∃kvs,H p=some (.dK kvs))\/∃kvs,H p=some (.dT kvs)))\/(T="set"/\∃S n,H p=some (.set S n))
 |_=>False
theorem E3{AM:List (Addr×Obj)}{σ:St}{H:Hp}{s:aa}{T:String}{x:V}{v:Value}(I:aH X AM σ H s)(r:bM x v)(ty:Bb X.K T x H):
  s.TypeIs v T/\∀a,v=.ref a->∃ob,s.heap.get? a=some ob/\ob.dict=none:=by
 cases x with
 |str z=>
  obtain⟨t,rfl⟩:=r;cases(show T="str" from ty);exact⟨typeIs_str s z t,λ_ e=>nomatch e⟩
 |int i=>
  obtain⟨t,rfl⟩:=r;cases(show T="int" from ty);exact⟨ui s i t,λ_ e=>nomatch e⟩
 |ref p=>
  cases r;rcases ty with⟨rfl,xs,hq⟩|⟨rfl,o,hk,hc,hd⟩|⟨rfl,hk⟩|⟨rfl,S,n,hk⟩
  .obtain⟨its,_,pl,_⟩:=I.list hq
   refine⟨pl.isList.typeIs,λa e=>?_⟩;cases e;obtain⟨o,n,e,c,hd,_⟩:=pl;exact⟨o,e,hd⟩
  .refine⟨⟨o,I.kIn p o hk,hc⟩,λa e=>?_⟩
   cases e;exact⟨o,I.kIn _ o hk,hd⟩
  .have z:∃o,s.heap.get? p=some o/\o.ExactDict:=by
    rcases hk with⟨kvs,hk⟩|⟨kvs,hk⟩
    .obtain⟨_,_,_,_,o,_,_,e,ex,_⟩:=I.hok p _ hk
     exact⟨o,e,ex⟩
    .obtain⟨_,_,_,_,o,_,_,e,ex,_⟩:=I.hok p _ hk
     exact⟨o,e,ex⟩
   obtain⟨o,e,ex⟩:=z;refine⟨⟨o,e,ex.1⟩,λa e2=>?_⟩;cases e2;exact⟨o,e,ex.2.1⟩
  .obtain⟨o,_,_,_,e,ex,_⟩:=I.hok p _ hk
   refine⟨⟨o,e,ex.1⟩,λa e2=>?_⟩;cases e2;exact⟨o,e,ex.2.1⟩
 |_=>exact ja ty
def tBM(K:ae)(T:String)(r:V->List V->Hp->VK->Prop)(to:TE)(t:TA):TE:=λσ H Q=>to σ H λx H1=>Bb K T x H1/\t σ H1 λxs H2=>r x xs H2 Q
variable{o e:af}{es:List af}{to:TE}{t:TA}{name:Str}{apos cpos:ah}{T id:String}{r:V->List V->Hp->VK->Prop}
theorem uI(pa:PlainAttrs T)(slot:Slot T name id)(hty:typeOf (.builtin id)=pure (.type "method_descriptor"))(hm:vW X id r)(ho:PE X o to)(ha:PA X (e::es) t)
  (hbase:attributeBase o name X.env (eval o X.env)=eval o X.env:=by rfl)
  (hfew:((backTo cpos (starEach (e::es) X.env)).all (λx=>!x.1)&&(backToKw cpos (keywordEach [] X.env)).all (λx=>x.1.isSome)
   &&decide ((e::es).length+([]:List fv).length+(if([]:List fv).isEmpty then 0 else 1)<30))=true:=by rfl)
  (hline:(apos.endLine==cpos.line)=true:=by rfl)(hs:starEach (e::es) X.env=(false,eval e X.env)::starEach es X.env:=by rfl)(hplain:(backTo cpos (starEach es X.env)).any (·.1)=false:=by rfl):
  PE X (.Call (.Attribute o name apos) (e::es) [] cpos) (tBM X.K T r to t):=by
 intro AM s σ H Q I h;refine yc hbase hfew hline rfl (bH (ho AM s σ H _ I h) λv s1 hq=>?_);rcases hq with⟨x,H1,I1,r1,ty,q1⟩;obtain⟨h1,h2⟩:=E3 I1 r1 ty;refine⟨T,id,pa,slot,hty,h1,h2,?_⟩;have hA:=ha cpos AM s1 σ H1 _ I1 q1;rw[hs]at hA⊢;refine yd (by show(false||(backTo cpos (starEach es X.env)).any (·.1))=false;rw[hplain]<;>rfl) (uj ?_);exact bH hA λus s2 ⟨vs,H2,I2,r2,q2⟩=>hm AM s2 σ H2 x vs v us Q I2 r1 r2 q2
end
def Tn(X:Cx)(id:String)(r:V->List V->Hp->VK->Prop):Prop:=
 ∀(AM:List (Addr×Obj))(s:aa)(σ:St)(H:Hp)(x:V)(xs:List V)(v:Value)(us:AE)(Q:VK),aH X AM σ H s->bM x v->bG xs us->r x xs H Q->
  wpAny (model X.prog X.w) X.A (call (.builtin id) (v::us)) (EP X AM σ Q) X.xe s
theorem bG.one:∀{x:V}{us:AE},bG [x] us->∃u,us=[u]/\bM x u:=by
 rintro _ _ (_ |⟨r,_ |_⟩)
 exact⟨_,rfl,r⟩
theorem bG.eraseIdx:∀{xs:List V}{us:AE}(i:Nat),bG xs us->bG (xs.eraseIdx i) (us.eraseIdx i)
 |_,_,_,.nil=>.nil
 |_,_,0,.cons _ t=>t
 |_,_,i+1,.cons r t=>.cons r (bG.eraseIdx i t)
theorem bG.rep{xs:List V}{us:AE}(h:bG xs us):∀k:Nat,bG (da k xs).flatten (da k us).flatten
 |0=>.nil
 |k+1=>by
  rw[kn,kn,lh,lh];exact bG.append h (bG.rep h k)
theorem wZ{α:Type}:∀(l:List α)(i:Nat),(l.eraseIdx i).length<=l.length
 |[],_=>am _
 |_::_,0=>og _
 |_::r,i+1=>Nat.succ_le_succ (wZ r i)
theorem Yd(its:AE):∀(k:Nat)(acc:AE),
  qh (λx1 x2=>x1++x2) acc.toArray (da k its.toArray)=(acc++(da k its).flatten).toArray
 |0,acc=>by simp
 |k+1,acc=>by
  have e:acc.toArray++its.toArray=(acc++its).toArray:=by simp
  have e2:(acc++its)++(da k its).flatten=acc++(da (k+1) its).flatten:=by
   rw[kn,lh,ie]
  rw[<-e2,<-Yd its k (acc++its),<-e,kn,List.foldl_cons]
section
variable{X:Cx}{AM:List (Addr×Obj)}{σ:St}{H:Hp}{s:aa}{l b:Addr}{xs ys zs:List V}
theorem aH.lset{its its':AE}{n:Nat}{f:Array Value->Array Value}{t':Nat}(I:aH X AM σ H s)(hH:H l=some (.lst xs))
  (e:s.heap.get? l=some {cls:=.type "list",data:=.seq its.toArray n})(hf:f its.toArray=its'.toArray)(hv:bG ys its')(hz:ys.length<=sizeLine):
  aH X AM σ (aX H l (.lst ys)) {s with heap:=s.heap.update l (fz f),toks:=t'}:=by
 have q:=PySem.IsL.update e f;rw[hf]at q;refine I.write (x:=l) (e:=l) (by rw[hH];exact trivial) (.inl rfl) (λb' u hb hu=>(xw s.heap (fz f) (gi hb)).trans hu) ⟨_,q⟩ ?_;exact⟨hz,its',_,hv,q⟩
theorem aH.lnew{its:AE}{t':Nat}(I:aH X AM σ H s)(hv:bG ys its)(hz:ys.length<=sizeLine):
  aH X AM σ (aX H s.heap.objs.size (.lst ys)) {s with heap:=s.heap.push {cls:=.type "list",data:=.seq its.toArray},toks:=t'}:=
 I.laid (λ_ _ q=>ao _ q) (am _) ⟨hz,its,0,hv,cq _ rfl⟩
theorem aH.fresh(I:aH X AM σ H s):H s.heap.objs.size=none:=I.hok.fresh (am _)
theorem aH.lstM(I:aH X AM σ H s)(hH:H l=some (.lst xs)):xs.length<=sizeLine/\∃(its:AE)(n:Nat),bG xs its/\xs.length=its.length/\s.heap.get? l=some {cls:=.type "list",data:=.seq its.toArray n}:=by
 obtain⟨z,its,n,r,e⟩:=I.hok l _ hH;exact⟨z,its,n,r,r.length,e⟩
theorem Hh{n:Nat}(h:n<=sizeLine):lm n=false:=by
 unfold lm;exact decide_eq_false (by omega)
end
section
variable{X:Cx}
def Dy:V->List V->Hp->VK->Prop:=λx vs H Q=>∃l xs y,x=.ref l/\vs=[y]/\H l=some (.lst xs)/\xs.length<sizeLine/\Q .non (aX H l (.lst (xs++[y])))
theorem sR:Tn X "list.append" Dy:=by
 intro AM s σ H x vs v us Q I rx rv h;obtain⟨l,xs,y,rfl,rfl,hH,hz,q⟩:=h;cases rx;obtain⟨u,rfl,ru⟩:=rv.one;obtain⟨z,its,n,r,hl,e⟩:=I.lstM hH;refine lq uk ⟨_,e,rfl⟩ F.entry_list_append (F.args_list_append_2 _ _) (PySem.list_append l its.toArray n u (by rw[aq];omega)) ⟨e,?_⟩;refine⟨.non,_,I.lset (its':=its++[u]) hH e (by simp) (r.append (.cons ru .nil)) ?_,rfl,q⟩;rw[bi,ju];omega
def N8:V->List V->Hp->VK->Prop:=λx vs H Q=>∃l xs i k y,x=.ref l/\vs=[.int i]/\H l=some (.lst xs)/\-(2^63)<=i/\i<2^63/\seqIndex? i xs.length=some k/\xs[k]?=some y/\Q y (aX H l (.lst (xs.eraseIdx k)))
theorem Ku:Tn X "list.pop" N8:=by
 intro AM s σ H x vs v us Q I rx rv h;obtain⟨l,xs,i,k,y,rfl,rfl,hH,h1,h2,hk,hy,q⟩:=h;cases rx;obtain⟨u,rfl,ru⟩:=rv.one;obtain⟨t,rfl⟩:=ru;obtain⟨z,its,n,r,hl,e⟩:=I.lstM hH;obtain⟨w,hw,rw'⟩:=r.get hy;refine lq F.slot_list_pop ⟨_,e,rfl⟩ F.entry_list_pop (F.args_list_pop_2 _ _)
  (MeetsSeq.list_pop_at l its.toArray n i t k w (fitsIndex_both h1 h2) (by rw[aq,<-hl];exact hk) (by rw[<-Array.getElem?_toList];exact hw) (by rw[aq];omega)) ⟨e,?_⟩
 refine⟨y,_,I.lset (its':=its.eraseIdx k) hH e ?_ (r.eraseIdx k) ?_,rw',q⟩
 .show its.toArray.eraseIdxIfInBounds k=(its.eraseIdx k).toArray
  rw[List.eraseIdxIfInBounds_toArray]
 .have:=wZ xs k
  omega
theorem Bj{α:Type}(xs:List α)(k:Nat):(da k xs).flatten.length=k*xs.length:=by
 induction k with
 |zero=>simp
 |succ k ih=>rw[kn,lh,bi,ih,Nat.succ_mul,Nat.add_comm]
end
section
variable{prog:Program}{w:aj}{A:ak}{E:Value->aa->Prop}{s:aa}
end
section
variable{X:Cx}
end
end L2
namespace Att
open PySem PySem.W PySem.Calls PyProof.Rows
theorem Ho{P:kx}{h:Heap}:∀(ns:AA)(vs:AE),WellAll P h vs (ns.map WData.int)->ko vs ns:=by
 intro ns
 induction ns with
 |nil=>
  intro vs w;rw[cg]at w;cases w;exact .nil
 |cons n ns ih=>
  intro vs w;rw[ar]at w;cases w with
  |cons a b=>
   cases a;exact .cons _ _ (ih _ b)
theorem Dr{l:lu}{n:Nat}(hn:l.most=some n){P:kx}{h:Heap}{args:List WData}{vals:AE}
  (hpre:l.row.toRowW.claim.pre args=true)(hwl:WellAll P h vals args):
  ∃a vs ns,vals=[ft a]/\args=[WData.list (ns.map WData.int)]/\h.get? a=some {cls:=.type "list",data:=.seq vs.toArray}/\ko vs ns/\ns.length<=n:=by
 have hsh:WShape.hasAll [] args [.list .int]=true:=(pre_splitW hpre).1;have hc:l.pre.holds [] {args:=args}=true:=(pre_splitW hpre).2;obtain⟨d,r,rfl,h1,h2⟩:=hasAllW_cons hsh;obtain rfl:=hasAllW_nil h2;obtain⟨xs,rfl,h3⟩:=hasW_list h1;obtain⟨ns,rfl⟩:=items_int h3;have hlen:ns.length<=n:=by
  unfold OpenLaw.pre at hc;have h4:(WTm.not (.lt (.lit (.int (n:Int))) (.len (.arg 0)))).holds [] {args:=[.list (ns.map .int)]}=true:=by
   have h4:=(holds_andW hc).1;rw[hn]at h4;exact h4
  have h5:=condW_of h4 (w_not (w_lt w_lit (w_len_list (w_arg rfl))));rw[ai]at h5;refine Nat.le_of_not_lt λq=>?_;have q':(n:Int)<((ns.length:Nat):Int):=by omega
  first
   |(rw[decide_eq_true q']at h5;exact absurd h5 (by decide))
   |(simp at h5;omega)
 cases hwl with
 |cons w1 w2=>
  cases w2;cases w1 with
  |list ho hall=>exact⟨_,_,ns,rfl,rfl,ho,Ho ns _ hall,hlen⟩
theorem Ps(l:lu)(args:List WData):l.row.toRowW.claim.post args (.bool true) args=true:=
 postW_of (r:=l.row.toRowW) (X:=(true==true))
  (show WShape.has [] (.bool true) .bool=true by first |rfl |decide |simp[WShape.has,WShape.arms,WShape.armsAll])
  (show(WTm.eq .res (.lit (.bool true))).value [] {args:=args,res:=some (.bool true),after:=args}=some (.bool (true==true)) from w_eq_bool (w_res rfl) w_lit) rfl
theorem attach_call{l:lu}{n:Nat}{q:Program}{loose:List Str}{XP:(Str->AF)->Heap->Prop}{YP:aj->Heap->Prop}{d:DefRec}
  (hn:l.most=some n)(hdf:d.params.defaults=[])
  (call:∀(w:aj)(AN AQ:aa)(mg mb:Str->AF)(fa:Addr)(o:Obj)(pm cd doc:Value)(a:Addr)(vs:AE)(ns:AA),
   Ground q loose [] XP w AN mg mb AQ.heap->YP w AQ.heap->
   AQ.heap.get? fa=some o->o.data=.func (docDef d.name d.params d.body d.scope pm cd doc)->AQ.heap.CodeRec cd d.name->mg d.name=some (.ref fa)->
   AQ.heap.get? a=some {cls:=.type "list",data:=.seq vs.toArray}->ko vs ns->ns.length<=n->AQ.gens=#[]->
   codeAny (model l.prog w) callerA (.call (.ref fa) ⟨[.ref a],[]⟩) (λr s'=>r=.ok (.ret (.bool true))/\OldK AQ.heap s'.heap/\s'.os=AQ.os/\iy s'.gens) AQ):
  WalkO q loose XP YP l.row.toRowW d [] (λf vs=>ul f vs):=by
 intro w AN AQ mg mb G Y fa o pm cd doc dV kV ho hd hcd hD hmg hg args vals as hpre hlay hrd hwl hlo;obtain rfl:dV=.none:=Dflts.none hD hdf;obtain rfl:kV=.none:=Dflts.noKw hD;obtain⟨a,vs,ns,rfl,rfl,hobj,hints,hlen⟩:=Dr hn hpre hwl;refine enter_call (pz (call w AN AQ mg mb fa o pm cd doc a vs ns G Y ho (fd_plain hd) hcd hmg hobj hints hlen hg) λr s' hq=>?_);obtain⟨rfl,h2,h3,h4⟩:=hq;exact⟨.inl ⟨.bool true,.bool true,[],rfl,λ_=>rfl,.bool true,Ps l _,λ_=>⟨List.Pairwise.nil,λ_ hm=>(nomatch hm)⟩⟩,h2,h3,h4⟩
section
variable{prog:Program}{w:aj}{A:ak}{E:Value->aa->Prop}{s:aa}{K:Frag}
end
end Att
namespace L2
open PySem PySem.Spec PyProof.Rows
theorem Oe:∀{vs:AE}{ns:AA},ko vs ns->bG (ns.map V.int) vs
 |_,_,.nil=>.nil
 |_,_,.cons n t h=>.cons ⟨t,rfl⟩ (Oe h)
def Ma(H:Hp):Prop:=∀b,H b=none\/∃o xs,H b=some (.frz o (.lst xs))
theorem Wv{P:Program}{w:aj}{K:ae}{mg mb:Str->AF}{CX:iH}{k:Nat}{fa a:Addr}{fd:bn}{x:Str}{sp:Sp}{AQ:aa}{vs:AE}{ns:AA}
  (KX:K.In AQ.heap)(hns:AQ.heap.Ns mainGlobals mg)(hb:AQ.heap.Ns builtinsNs mb)(hbb:∀x:Str,x≠"__name__"->mb x=bootBuiltins x)(hlim:AQ.heap.NoLimit)(hg:AQ.gens=#[])
  (ha:AQ.heap.get? a=some {cls:=.type "list",data:=.seq vs.toArray})(hi:ko vs ns)(hl:ns.length<=sizeLine)(hr:dF k callerA)
  (F:∀base:Heap,K.In base->base.Ns mainGlobals mg->dX P w K mg base CX k fa fd [x] sp)(hbind:∀(s:aa)(u:Value),lc s fd ⟨[u],[]⟩ [(x,u)])
  (hsp:∀H:Hp,Ma H->bN K H a (ns.map V.int)->sp [.ref a] H (λv _=>v=.bl true) λ_ _ _=>False)
  (hCX:∀H e s',CX [] H AQ (λ_ _ _=>False) e s'->False):
  codeAny (model P w) callerA (.call (.ref fa) ⟨[.ref a],[]⟩) (λr s'=>r=.ok (.ret (.bool true))/\OldK AQ.heap s'.heap/\s'.os=AQ.os/\iy s'.gens) AQ:=by
 have rv:=Oe hi;have lenV:=hi.length
 --from an abstract heap in which nothing but the script may be tracked
 have core:∀H:Hp,Ma H->bN K H a (ns.map V.int)->eJ P w H AQ.heap->(∀b,H b≠none->b=a)->(H a≠none->K.lookup a=none)->
   codeAny (model P w) callerA (.call (.ref fa) ⟨[.ref a],[]⟩) (λr s'=>r=.ok (.ret (.bool true))/\OldK AQ.heap s'.heap/\s'.os=AQ.os/\iy s'.gens) AQ:=by
  intro H hO hS hok hA hK;have base_of:∀{b:Addr}{o:Obj},AQ.heap.get? b=some o->H b=none->(kO AQ.heap H).get? b=some o:=λe n=>Zt e n;have noA:∀{b:Addr}{o:Obj}{es:Array DictEntry}{ep:Nat},AQ.heap.get? b=some o->o.data=.dict es ep->H b=none:=λ{b o es ep} e d=>by
   cases q:H b with
   |none=>rfl
   |some u=>
    have e':b=a:=hA b (by rw[q];simp);subst e';rw[ha]at e;cases e;have d':Data.seq vs.toArray _=Data.dict es ep:=d;cases d'
  have nsK:∀{b:Addr}{m:Str->AF},AQ.heap.Ns b m->(kO AQ.heap H).Ns b m:=λ{b m} ⟨o,es,ep,e,d,r⟩=>⟨o,es,ep,base_of e (noA e d),d,r⟩;have hKb:K.In (kO AQ.heap H):=λb o e=>base_of (KX b o e) (by
   cases q:H b with
   |none=>rfl
   |some u=>
    have e':b=a:=hA b (by rw[q];simp);subst e';rw[hK (by rw[q];simp)]at e;cases e)
  have hM:Mod K mg (kO AQ.heap H):=⟨hKb,nsK hns,⟨mb,nsK hb,hbb⟩,let⟨mc,h1,h2⟩:=hlim;⟨mc,nsK h1,h2⟩⟩;have e0:uV P w K mg (kO AQ.heap H) callerA [] AQ H:=⟨rfl,hM,λb o e=>Xx e,um (Js _ _),trivial,λb hb=>absurd (show b∈([]:List Addr) from hb) (by simp),hok,.of_eq hg⟩;refine pz ((F _ hKb (nsK hns)).run callerA [] AQ H ⟨[.ref a],[]⟩ [.ref a] [.ref a] _ _ hr e0 (hbind AQ (.ref a)) (.cons rfl .nil) (hsp H hO hS)) λr s' h=>?_;cases r with
  |error e=>exact(hCX H e s' h).elim
  |ok fl=>
   cases fl with
   |next=>exact ja h
   |brk=>exact ja h
   |cont=>exact ja h
   |ret u=>
    obtain⟨v,H',os,bare,un,hok',r',q⟩:=h;have q':v=.bl true:=q;subst q';obtain rfl:u=oz true:=r';refine⟨rfl,OldK.of_keep λb o e=>?_,os,bare⟩;cases q:H b with
    |none=>exact un.keep b o e q (by intro z;exact absurd (show b∈([]:List Addr) from z) (by simp)) (by simp)
    |some u=>
     rcases hO b with z |⟨ob,xs,z⟩
     .rw[q]at z;cases z
     .have z2:=un.frzs b ob _ z
      obtain⟨e1,_⟩:=hok b _ z;obtain⟨e2,_⟩:=hok' b _ z2;rw[e]at e1;cases e1;exact e2
 cases hk:K.lookup a with
 |some o=>
  --the script is one of the module's own objects
  have e:=KX a o hk;rw[ha]at e;cases e;refine core (λ_=>none) (λ_=>.inl rfl) (.inr ⟨_,vs.toArray,_,hk,rfl,rfl,rfl,by rw[aq,lenV];exact hl,by simpa using rv⟩) (λb u z=>by have z':(none:Option HO)=some u:=z;cases z') (λb z=>absurd rfl z) λz=>absurd rfl z
 |none=>
  refine core (λb=>if b=a then some (.frz {cls:=.type "list",data:=.seq vs.toArray} (.lst (ns.map V.int)))else none) (λb=>?_) (.inl (.inr ⟨{cls:=.type "list",data:=.seq vs.toArray},if_pos rfl⟩)) (λb u z=>?_) (λb z=>?_) λ_=>hk
  .by_cases hb:b=a
   .exact .inr ⟨_,_,if_pos hb⟩
   .exact .inl (if_neg hb)
  .by_cases hb:b=a
   .have z':=(if_pos hb).symm.trans z
    cases z';subst hb;exact⟨ha,by rw[ai];exact hl,vs,_,rv,ha⟩
   .have z':=(if_neg hb).symm.trans z
    cases z'
  .by_cases hb:b=a
   .exact hb
   .exact absurd (if_neg hb) z
theorem walk_of{l:lu}{n k:Nat}{q:Program}{loose:List Str}{XP:(Str->AF)->Heap->Prop}{YP:aj->Heap->Prop}{d:DefRec}{K:kx->ae}{CX:aj->iH}{sp:aj->Sp}{x:Str}
  (hn:l.most=some n)(hn2:n<=sizeLine)(hdf:d.params.defaults=[])(hr:dF k callerA)
  (hY:∀(w:aj)(h:Heap),YP w h->(K w.params).In h)
  (F:∀(w:aj)(mg:Str->AF)(fa:Addr)(h:Heap),(K w.params).In h->h.Ns mainGlobals mg->mg d.name=some (.ref fa)->
   ∃fd:bn,(∀(s:aa)(u:Value),lc s fd ⟨[u],[]⟩ [(x,u)])/\
    ∀base:Heap,(K w.params).In base->base.Ns mainGlobals mg->dX l.prog w (K w.params) mg base (CX w) k fa fd [x] (sp w))
  (hsp:∀(w:aj)(H:Hp)(a:Addr)(ns:AA),ns.length<=n->Ma H->bN (K w.params) H a (ns.map V.int)->sp w [.ref a] H (λv _=>v=.bl true) λ_ _ _=>False)
  (hCX:∀(w:aj)(H:Hp)(s:aa)(e:Value)(s':aa),CX w [] H s (λ_ _ _=>False) e s'->False):
  PySem.W.WalkO q loose XP YP l.row.toRowW d [] (λf vs=>ul f vs):=by
 refine Att.attach_call hn hdf λw AN AQ mg mb fa o pm cd doc a vs ns G Y ho hd hcd hmg hobj hints hlen hg=>?_;have KX:=hY w _ Y;obtain⟨fd,hb,hF⟩:=F w mg fa _ KX G.T.g hmg;exact Wv KX G.T.g G.T.b G.T.builtins G.T.nolimit hg hobj hints (gh hlen hn2) hr hF hb (λH hO hS=>hsp w H a ns hlen hO hS) λH e s'=>hCX w H AQ e s'
abbrev eG:iH:=λ_ _ _ _ _ _=>False
abbrev E0:XK:=λ_ _ _=>False
theorem Da{X:Cx}:yW eG X E0:=λ_ _ _ _ _ _ _ h=>h.elim
structure gR(K:ae)(x qual:Str)(st:Stmt)(f:Addr)(fd:bn):Prop where
 ex:∃(oc:Value)(od:AG)(kV doc pm:Value)(an:AG)(cdv ct:Value)(osl:Array AF),
  fd=dm x qual (fP st) (dS st) (bU st) .none kV doc pm an cdv ct/\K.lookup f=some ⟨oc,od,.func fd,osl⟩/\jk K cdv qual=true
 kp:fg K (.ref f)=true
section
variable{P:Program}{w:aj}{K:ae}{mg:Str->AF}{base:Heap}
theorem gR.ok{x qual:Str}{st:Stmt}{f:Addr}{fd:bn}{N ps:List Str}{k:Nat}{sp:Sp}(F:gR K x qual st f fd)(S:gI N ps (bU st))(len:∀vs H Q E,sp vs H Q E->vs.length=ps.length)
  (hbody:∀(cdv:Value)(A:ak)(outer:List av)(s:aa)(H:Hp)(vs:List V)(Q:VK)(E:XK),dF k (A.deeper (envOfC qual (bU st) s.heap.objs.size f cdv))->sp vs H Q E->
   ∃t,fG (eB eG P w K mg base N qual (bU st) f cdv A outer s H E).nox (dS st) t/\t {nx:=λ_ H'=>Q .non H',rt:=Q} (start N vs) H):dX P w K mg base eG (k+1) f fd ps sp:=by
 obtain⟨oc,od,kV,doc,pm,an,cdv,ct,osl,rfl,lk,hcd⟩:=F.ex;refine zT lk hcd S len λA outer s H vs Q E hr hsp=>?_;obtain⟨t,h,q⟩:=hbody cdv A outer s H vs Q E hr hsp;exact⟨t,h.nox,q⟩
theorem gR.binds{x qual:Str}{st:Stmt}{f:Addr}{fd:bn}{ps:List Str}(F:gR K x qual st f fd)
  (h:∀(kV doc pm:Value)(an:AG)(cdv ct:Value)(us:AE),us.length=ps.length->bindArgs (dm x qual (fP st) (dS st) (bU st) .none kV doc pm an cdv ct) ⟨us,[]⟩=pure (ps.zip us)):iL K fd ps []:=by
 obtain⟨oc,od,kV,doc,pm,an,cdv,ct,osl,rfl,lk,hcd⟩:=F.ex;exact .all (h kV doc pm an cdv ct)
theorem Ll{x qual:Str}{st:Stmt}{f:Addr}{oc:Value}{od an:AG}{osl:Array AF}{kV doc pm cdv ct:Value}(l:K.lookup f=some ⟨oc,od,.func (dm x qual (fP st) (dS st) (bU st) .none kV doc pm an cdv ct),osl⟩)
  (c:jk K cdv qual=true)(k:fg K (.ref f)=true):gR K x qual st f (dm x qual (fP st) (dS st) (bU st) .none kV doc pm an cdv ct):=⟨⟨oc,od,kV,doc,pm,an,cdv,ct,osl,rfl,l,c⟩,k⟩
end
section
variable{X:Cx}
theorem pv(i:Nat){x:Str}{pos:ah}(hN:X.N[i]?=some x:=by rfl)(hv:mP X.env.scope x:=by first |exact gn rfl |exact gr (gn rfl) |exact gr (gr rfl))(hd:(x==("__debug__":Str))=false:=by decide)
  (hcd:(x==("__classdict__":Str))=false:=by decide):PE X (.Name x pos) (On i):=nI hN hv hd hcd
end
def cR(H H':Hp):Prop:=∀b o,H b=some o->H' b=some o
theorem cR.refl(H:Hp):cR H H:=λ_ _ h=>h
end L2
namespace Bn
def Bd(k:Nat)(i:Int):Prop:=i.natAbs<2^k
theorem Bd.mono{j k:Nat}{i:Int}(h:Bd j i)(l:j<=k):Bd k i:=cy h (uo (by decide) l)
theorem Bd.mul{j k:Nat}{a b:Int}(h:Bd j a)(g:Bd k b):Bd (j+k) (a*b):=by
 unfold Bd at *;rw[qi,Nat.pow_add];exact Nat.mul_lt_mul'' h g
theorem Bd.add{k:Nat}{a b:Int}(h:Bd k a)(g:Bd k b):Bd (k+1) (a+b):=by
 unfold Bd at *;rw[Nat.pow_succ];have:=Int.natAbs_add_le a b;omega
theorem Bd.neg{k:Nat}{a:Int}(h:Bd k a):Bd k (-a):=by
 unfold Bd at *;rw[ye];exact h
theorem Bd.sub{k:Nat}{a b:Int}(h:Bd k a)(g:Bd k b):Bd (k+1) (a-b):=by
 rw[yf];exact h.add g.neg
theorem Bd.le{k:Nat}{a b:Int}(h:Bd k b)(l:a.natAbs<=b.natAbs):Bd k a:=qj l h
theorem Bd.of{k n:Nat}{a:Int}(l:a.natAbs<=n)(h:n<2^k):Bd k a:=qj l h
theorem Bd.log{k:Nat}{a:Int}(h:Bd k a)(hk:0<k):a.natAbs.log2<k:=by
 rcases yg a.natAbs with z |z
 .rw[z]
  exact qj (um (by decide)) hk
 .exact(Nat.log2_lt (la z)).mpr h
theorem Df(a:Int){b:Int}(h:b≠0):(a.fmod b).natAbs<b.natAbs:=by
 rw[Int.fmod_eq_emod];have h1:=Int.emod_nonneg a h;have h2:a%b<(b.natAbs:Int):=Int.emod_lt a h
 by_cases c:0<=b\/b∣a
 .rw[if_pos c]
  omega
 .rw[if_neg c]
  have hb:b<0:=by omega
  have h3:a%b≠0:=λz=>c (.inr (Int.dvd_of_emod_eq_zero z));have h4:b.natAbs=(-b).toNat:=by omega
  omega
theorem Wg(a b:Int):cr b (a.fmod b)=cr a b:=by
 rw[Int.fmod_def,ee,Int.gcd_sub_mul_right_right,Int.gcd_comm]
theorem yY(x:Int):(if x<0 then-x else x)=(x.natAbs:Int):=by
 split<;>omega
def gl:AA->Int->Int
 |[],g=>g
 |n::r,g=>gl r (cr g n:Nat)
def low(ns:AA):AA:=if gl ns 0=0 then ns else ns.map (· /gl ns 0)
theorem Pm:∀(ns:AA)(g:Int),0<=g->0<=gl ns g
 |[],_,h=>h
 |_::r,_,_=>Pm r _ (yh _)
theorem Hk(k:Int):∀(ns:AA)(g:Int),0<=g->gl (ns.map (k*·)) ((k.natAbs:Int)*g)=(k.natAbs:Int)*gl ns g
 |[],_,_=>rfl
 |n::r,g,h=>by
  show gl (r.map (k*·)) ((cr ((k.natAbs:Int)*g) (k*n):Nat):Int)=(k.natAbs:Int)*gl r _;have e:((cr ((k.natAbs:Int)*g) (k*n):Nat):Int)=(k.natAbs:Int)*((cr g n:Nat):Int):=by
   rcases Int.natAbs_eq k with q |q
   .rw[<-q,yi]
    have:(k.natAbs:Int)=k:=q.symm
    push_cast
    rw[this]
   .have e2:k*n=(k.natAbs:Int)*(-n):=by rw[mf,<-kq,<-q]
    rw[e2,yi,Int.gcd_neg]
    push_cast
    simp
  rw[e];exact Hk k r _ (yh _)
theorem xP(k:Int)(ns:AA):gl (ns.map (k*·)) 0=(k.natAbs:Int)*gl ns 0:=by
 have:=Hk k ns 0 (oh 0)
 rwa[kr]at this
theorem Ff{k:Int}(h:0<k)(ns:AA):gl ns 0≠0->low (ns.map (k*·))=low ns:=λz=>by
 have hk:(k.natAbs:Int)=k:=by omega
 have e:=xP k ns;rw[hk]at e;have nz:k*gl ns 0≠0:=oi (by omega) z;unfold low;rw[e,if_neg nz,if_neg z,ix];refine jc λn _=>?_;show k*n/(k*gl ns 0)=n/gl ns 0;exact Int.mul_ediv_mul_of_pos _ _ h
theorem jC:∀(ns:AA)(g:Int),gl ns g∣g/\∀n∈ns,gl ns g∣n
 |[],g=>⟨Int.dvd_refl g,λ_ h=>nomatch h⟩
 |m::r,g=>by
  obtain⟨h1,h2⟩:=jC r ((cr g m:Nat):Int);refine⟨Int.dvd_trans h1 (Int.gcd_dvd_left ..),λn hn=>?_⟩;rcases ay.mp hn with q |q
  .subst q
   exact Int.dvd_trans h1 (Int.gcd_dvd_right ..)
  .exact h2 n q
theorem Wy{ns:AA}(h:gl ns 0=0):∀n∈ns,n=0:=λn hn=>by
 have:=(jC ns 0).2 n hn;rw[h]at this;exact Int.zero_dvd.mp this
theorem uF{ns:AA}{n:Int}(hn:n∈ns)(h:n≠0):gl ns 0≠0:=λz=>h (Wy z n hn)
theorem zG{ns:AA}{n:Int}(hn:n∈ns)(h:n≠0):0<gl ns 0:=by
 have h1:=Pm ns 0 (oh 0);have h2:=uF hn h;omega
theorem Qj{ns:AA}{n:Int}(hn:n∈ns)(h:n≠0):low ns=ns.map (· /gl ns 0):=by
 unfold low;rw[if_neg (uF hn h)]
theorem Bd.gcd{k:Nat}{a b:Int}(h:Bd k a)(g:Bd k b):Bd k (cr a b:Nat):=by
 unfold Bd at *;rw[Int.natAbs_natCast];rcases yg a.natAbs with z |z
 .have:a=0:=by omega
  subst this;rw[yj];exact g
 .exact qj (Nat.gcd_le_left _ z) h
theorem uG{k:Nat}:∀{ns:AA}{g:Int},Bd k g->(∀n∈ns,Bd k n)->Bd k (gl ns g)
 |[],_,h,_=>h
 |n::r,g,h,hn=>by
  show Bd k (gl r _);exact uG (ns:=r) (h.gcd (hn n ce)) λm hm=>hn m (bo _ hm)
theorem qZ{k:Nat}{ns:AA}(h:∀n∈ns,Bd k n):∀n∈low ns,Bd k n:=λn hn=>by
 unfold low at hn
 by_cases c:gl ns 0=0
 .rw[if_pos c]at hn
  exact h n hn
 .rw[if_neg c]at hn
  obtain⟨m,hm,rfl⟩:=gg.mp hn;refine(h m hm).le ?_;have d:=(jC ns 0).2 m hm;obtain⟨q,e⟩:=d;rw[e,oj _ c,qi];exact Nat.le_mul_of_pos_left _ (by omega)
theorem Mh(ns:AA):(low ns).length=ns.length:=by
 unfold low;split
 .rfl
 .rw[ai]
def fr(t b:Int):AA:=if b<0 then low [0-t,0-b] else low [t,b]
theorem uX(a b:Int):b∈[a,b]:=bo _ ce
theorem aat{t b:Int}(h:b≠0):∃p q:Int,fr t b=[p,q]/\0<q/\p*b=t*q:=by
 have go:∀{t b:Int},0<b->∃p q:Int,low [t,b]=[p,q]/\0<q/\p*b=t*q:=λ{t b} hb=>by
  have nz:b≠0:=by omega
  have gp:=zG (uX t b) nz;refine⟨t/gl [t,b] 0,b/gl [t,b] 0,Qj (uX t b) nz,?_,?_⟩
  .obtain⟨m,e⟩:=(jC [t,b] 0).2 b (uX t b)
   have:b/gl [t,b] 0=m:=by
    conv=>lhs;lhs;rw[e]
    exact oj _ (by omega)
   rw[this];have hm:0<m*gl [t,b] 0:=by rw[ee,<-e];exact hb
   exact yk hm gp
  .obtain⟨m,e⟩:=(jC [t,b] 0).2 b (uX t b)
   obtain⟨n,f⟩:=(jC [t,b] 0).2 t ce;have e1:b/gl [t,b] 0=m:=by
    conv=>lhs;lhs;rw[e]
    exact oj _ (by omega)
   have e2:t/gl [t,b] 0=n:=by
    conv=>lhs;lhs;rw[f]
    exact oj _ (by omega)
   rw[e1,e2]
   conv=>lhs;rhs;rw[e]
   conv=>rhs;lhs;rw[f]
   rw[Int.mul_left_comm,Int.mul_assoc]
 unfold fr
 by_cases c:b<0
 .rw[if_pos c]
  obtain⟨p,q,e1,e2,e3⟩:=go (t:=0-t) (b:=0-b) (by omega);refine⟨p,q,e1,e2,?_⟩;rw[Int.zero_sub,Int.zero_sub,mf,kq]at e3;omega
 .rw[if_neg c]
  exact go (by omega)
def sg(n:Int):Int:=if 0<n then 1 else if n<0 then-1 else 0
theorem Fw(b:Int):-(2^64)<sg b/\sg b<2^64:=by
 unfold sg;split
 .decide
 .split<;>decide
theorem Tq{g n:Int}(h:g≠0):(g*n).fdiv g=n:=by
 rw[qk ⟨n,rfl⟩,oj _ h]
theorem Pi(n:Int):∀(l:AA)(g:Int),gl (l++[n]) g=(cr (gl l g) n:Nat)
 |[],g=>rfl
 |m::r,g=>Pi n r _
theorem Bw{k m:Int}(hk:0<k)(hm:0<m){A B:AA}(hA:gl A 0≠0)(e:A.map (k*·)=B.map (m*·)):low A=low B:=by
 have hB:gl B 0≠0:=λz=>by
  have h:=xP k A;rw[e,xP m B,z,kr]at h;have:(k.natAbs:Int)*gl A 0≠0:=oi (by omega) hA;exact this h.symm
 rw[<-Ff hk A hA,e,Ff hm B hB]
theorem Wj(b:Int):∀(ns:AA)(g:Int),gl ns (cr g b:Nat)=(cr (gl ns g) b:Nat)
 |[],_=>rfl
 |n::r,g=>by
  show gl r ((cr ((cr g b:Nat):Int) n:Nat):Int)=((cr (gl r _) b:Nat):Int);rw[<-Wj b r,Int.gcd_assoc,Int.gcd_comm b n,<-Int.gcd_assoc]
theorem yK{ns:AA}{b:Int}(hb:0<b):gl (ns++[b]) 0=gl ns b:=by
 rw[Pi,<-Wj,yj];congr 1;omega
theorem kG(ns:AA)(b:Int):b∈ns++[b]:=dj _ ce
theorem K6{ns:AA}{b:Int}(hb:0<b):low (ns++[b])=(ns.map λn=>n.fdiv (gl ns b))++[b.fdiv (gl ns b)]/\0<gl ns b:=by
 have gp:=zG (kG ns b) (by omega);rw[yK hb]at gp;refine⟨?_,gp⟩;rw[Qj (kG ns b) (by omega),yK hb,fh];have e:∀n:Int,n/gl ns b=n.fdiv (gl ns b):=λn=>(Int.fdiv_eq_ediv_of_nonneg n (ql gp)).symm;simp only[e,ar,cg]
theorem tQ(ns:AA){b:Int}(hb:0<b):∃(zs:AA)(z g:Int),low (ns++[b])=zs++[z]/\0<g/\0<z/\ns=zs.map (g*·)/\b=g*z/\zs.length=ns.length:=by
 obtain⟨e,gp⟩:=K6 (ns:=ns) hb;have dv:=jC (ns++[b]) 0;rw[yK hb]at dv;have ex:∀n∈ns++[b],gl ns b*n.fdiv (gl ns b)=n:=λn hn=>by
  obtain⟨q,e⟩:=dv.2 n hn
  conv=>lhs;rhs;rw[e]
  rw[Tq (by omega)];exact e.symm
 refine⟨_,_,gl ns b,e,gp,?_,?_,(ex b (kG ns b)).symm,ai _⟩
 .have h:=ex b (kG ns b)
  have:0<b.fdiv (gl ns b)*gl ns b:=by rw[ee,h];exact hb
  exact yk this gp
 .rw[ix]
  conv=>lhs;rw[<-qm ns]
  refine jc λn hn=>?_;exact(ex n (iw _ hn)).symm
theorem yO(ns:AA){b:Int}(hb:0<b):low (low (ns++[b]))=low (ns++[b]):=by
 obtain⟨zs,z,g,e,hg,hz,e1,e2,_⟩:=tQ ns hb;rw[e];refine Bw (k:=g) (m:=1) hg (by decide) (uF (kG zs z) (by omega)) ?_ |>.trans e;rw[fh,<-e1];show ns++[g*z]=(ns++[b]).map (1*·);rw[<-e2]
 conv=>lhs;rw[<-qm (ns++[b])]
 refine jc λn _=>?_;exact(mj n).symm
def sm(xs:AA)(w:Int)(ys:AA)(v:Int):AA:=br (λx y=>x*v+y*w) xs ys
theorem Ml{xs ys:AA}{f g:Int->Int->Int}(h:∀x y,f x y=g x y):br f xs ys=br g xs ys:=by
 have:f=g:=funext λx=>funext λy=>h x y;rw[this]
theorem Lq(xs:AA)(w:Int)(ys:AA)(v:Int):br (λx y=>1*x*v+y*w) xs ys=sm xs w ys v:=Ml λx y=>by rw[mj]
theorem Ep(xs:AA)(w:Int)(ys:AA)(v:Int):br (λy x=>-1*y*w+x*v) ys xs=sm xs w (ys.map (- ·)) v:=by
 unfold sm;rw[List.zipWith_map_right,List.zipWith_comm];refine Ml λx y=>?_;rw[kq,mj];exact Int.add_comm _ _
end Bn
namespace L2
open PySem PySem.Spec PyProof.Rows Bn
section
variable{X:Cx}
theorem Ij{k:Nat}{i:Int}(h:Bd k i):yl i<=k:=by
 unfold yl;split
 .exact ig _
 .rename_i c
  have z:i.natAbs≠0:=by
   intro q;have:i=0:=by omega
   subst this;exact c rfl
  have:=(Nat.log2_lt z).mpr h;omega
def oY(_ j:Int):Prop:=j≠0/\Bd 8000 j
theorem Cv:dB X (binaryOp .FloorDiv) (rI oY λi j=>.int (i.fdiv j)):=
 vH λ_ _ _ _ _ _ _ hc q=>floordiv_int hc.1 q (.inl (PyProof.noPylong_of_log2 (Nat.lt_trans (hc.2.log (by decide)) (by decide))))
theorem PS.imp{st:Stmt}{t t':TS}(h:PS X st t)(i:∀D σ H,t' D σ H->t D σ H):PS X st t':=λAM s σ H D I q=>h AM s σ H D I (i D σ H q)
theorem fG.imp{st:List Stmt}{t t':TS}(h:fG X st t)(i:∀D σ H,t' D σ H->t D σ H):fG X st t':=λAM s σ H D I q=>h AM s σ H D I (i D σ H q)
theorem PE.imp{e:af}{t t':TE}(h:PE X e t)(i:∀σ H Q,t' σ H Q->t σ H Q):PE X e t':=λAM s σ H Q I q=>h AM s σ H Q I (i σ H Q q)
theorem PT.imp{e:af}{t t':TT}(h:PT X e t)(i:∀σ H Q,t' σ H Q->t σ H Q):PT X e t':=λAM s σ H Q I q=>h AM s σ H Q I (i σ H Q q)
theorem aH.turnedNew{AM:List (Addr×Obj)}{σ:St}{H:Hp}{s:aa}{h':Heap}{t':Nat}{ch:List Addr}{a:Addr}{o:HO}(I:aH X AM σ H s)(hf:∀b∈ch,eT X AM H b)
  (k:∀b u,b∉ch->s.heap.get? b=some u->h'.get? b=some u)(hp:s.heap.objs.size<=a)(new:eP X.prog X.w (aX H a o) h' a o):
  aH X AM σ (aX H a o) {s with heap:=h',toks:=t'}:=by
 have hn:H a=none:=I.hok.fresh hp;have nch:∀b u,H b=some u->b∉ch:=λb u e z=>by
  rw[(hf b z).1]at e;cases e
 have nea:∀b u,H b=some u->b≠a:=λb u e=>fH e hn;refine I.step (g':=s.gens) (d':=s.drawn) (ch:=ch) (λb hb=>?_) (λb u _ _ hc e _=>k b u hc e) (λb u _ _ hc e _=>⟨u.slots,k b u hc e⟩) (λb u _ e n=>?_)
  (λb u hc e=>⟨u,k b u hc e⟩) (λb xs e=>?_) (λb u v e=>?_) (λb ps e=>⟨#[],?_⟩) (λm hm=>?_) (λb u e=>?_) I.bare
 .obtain⟨_,f1,_,f3,f4,f5⟩:=hf b hb
  exact⟨f3,f1,f4,f5⟩
 .rw[bS (cj (cy (au e) hp))]
  exact n
 .rw[bS (nea b _ e)]
  exact e
 .rw[bS (nea b _ e)]
  exact e
 .rw[bS (nea b _ e),e]
  simp
 .obtain⟨ob,es,ep,ho,r⟩:=hm
  exact⟨ob,es,ep,k _ ob (λz=>(hf _ z).2.1 rfl) ho,r⟩
 .by_cases hb:b=a
  .subst hb
   rw[fI]at e;cases e;exact new
  .rw[bS hb]at e
   refine(I.hok b u e).stay (λc v hc q=>k c v ?_ q) (λc q=>?_) λc xs q=>?_
   .rcases hc with z |z
    .rw[z]
     exact nch b u e
    .exact nch c _ z
   .rw[bS (nea c _ q)]
    exact q
   .rw[bS (nea c _ q)]
    exact q
theorem aH.turnedL{AM:List (Addr×Obj)}{σ:St}{H:Hp}{s:aa}{h':Heap}{t':Nat}{ch:List Addr}(I:aH X AM σ H s)(hf:∀b∈ch,eT X AM H b)
  (k:∀b u,b∉ch->s.heap.get? b=some u->h'.get? b=some u):aH X AM σ H {s with heap:=h',toks:=t'}:=by
 have nch:∀b u,H b=some u->b∉ch:=λb u e z=>by
  rw[(hf b z).1]at e;cases e
 refine I.step (g':=s.gens) (d':=s.drawn) (ch:=ch) (λb hb=>?_) (λb u _ _ hc e _=>k b u hc e) (λb u _ _ hc e _=>⟨u.slots,k b u hc e⟩) (λb u _ e n=>n)
  (λb u hc e=>⟨u,k b u hc e⟩) (λb xs e=>e) (λb u v e=>e) (λb ps e=>⟨#[],?_⟩) (λm hm=>?_) (λb u e=>?_) I.bare
 .obtain⟨_,f1,_,f3,f4,f5⟩:=hf b hb
  exact⟨f3,f1,f4,f5⟩
 .rw[e]
  simp
 .obtain⟨ob,es,ep,ho,r⟩:=hm
  exact⟨ob,es,ep,k _ ob (λz=>(hf _ z).2.1 rfl) ho,r⟩
 .refine(I.hok b u e).stay (λc v hc q=>k c v ?_ q) (λc q=>q) λc xs q=>q
  rcases hc with z |z
  .rw[z]
   exact nch b u e
  .exact nch c _ z
end
def Cb (K : ae) (a : Addr) : It :=
  ⟨λi H => ∃ xs x, bN K H a xs ∧ xs[i]? = some x,
   λi H x H' => ∃ p y, H p = none ∧ x = .ref p ∧ H' = aX H p (.tup [.int i, y]) ∧ ∀ xs, bN K H a xs → xs[i]? = some y,
   λi H => ∃ xs, bN K H a xs ∧ xs.length ≤ i⟩
theorem Vr{P:Program}{w:aj}{K:ae}{elts:List af}{x1:Nat}{tp:ah}(a e it:Addr)(hne:e≠it):
  pB P w K (.Tuple elts x1 tp) (Cb K a) [e,it] e (λi h=>(∃old,IsEnum h e it (i:Int) old)/\h.IsListIter it a i) where
 mem:=by simp
 obj:=λi h st b hb=>by
  obtain⟨⟨old,q⟩,o,e1,c,d⟩:=st;rcases ay.mp hb with z |z
  .subst z
   exact⟨_,q,λv z=>nomatch z⟩
  .have z':b=it:=by simpa using z
   subst z';exact⟨o,e1,λv z=>by rw[d]at z;cases z⟩
 keep:=λi h h' st k=>⟨let⟨old,q⟩:=st.1;⟨old,k e (by simp) _ q⟩,st.2.at λo q=>k it (by simp) o q⟩
 item:=by
  intro X hP hw hK hc i AM s σ H E I hf st hg;subst hP hw hK;obtain⟨xs,x,hq,hx⟩:=hg;obtain⟨its,rv,pl,hz⟩:=I.list hq;obtain⟨u,hu,ru⟩:=rv.get hx;obtain⟨⟨old,he⟩,hit⟩:=st;refine wpAny_pyNext_enum_item he hit pl.isList (x:=u) (by simpa using hu) hne λh1 ho1 hit1 ht1 hs1 hk1=>⟨_,rfl,?_⟩;have lt1:e<s.heap.objs.size:=au he;refine wpAny_letOwnedTupleGo_enum (s:={s with heap:=h1,toks:=s.toks+1}) ho1 λh2 he2 sb2=>?_;have ht2:h2.get? s.heap.objs.size=some {cls:=.type "tuple",data:=.seq #[.int i s.toks,u]}:=(sb2.2 _ (la lt1)).trans ht1;have I2:aH X AM σ (aX H s.heap.objs.size (.tup [.int i,x])) {s with heap:=h2,toks:=s.toks+1}:=
   I.turnedNew hf (λb o hb q=>(sb2.2 b (λz=>hb (by simp[z]))).trans (hk1 b o (λz=>hb (by simp[z])) (λz=>hb (by simp[z])) q)) (am _)
    ⟨⟨by show 2<=sizeLine;decide,_,ht2,rfl⟩,[.int i s.toks,u],.cons ⟨_,rfl⟩ (.cons ru .nil),⟨_,ht2,rfl,_,rfl⟩⟩
  refine⟨.ref s.heap.objs.size,_,I2,rfl,⟨_,x,I.hok.fresh (am _),rfl,rfl,λys hy=>by rw[I.list_inj hy hq];exact hx⟩,⟨⟨_,by simpa using he2⟩,hit1.at λo q=>(sb2.2 it hne.symm).trans q⟩,λb hb=>?_⟩;have hb':=(hf b hb).1;have lt:b≠s.heap.objs.size:=by
   rcases ay.mp hb with z |z
   .subst z
    exact cj lt1
   .have z':b=it:=by simpa using z
    subst z';obtain⟨o,q,_⟩:=hit;exact cj (au q)
  rw[bS lt];exact hb'
 done:=by
  intro X hP hw hK hc i AM s σ H E I hf st hg;subst hP hw hK;obtain⟨xs,hq,hx⟩:=hg;obtain⟨its,rv,pl,hz⟩:=I.list hq;obtain⟨⟨old,he⟩,hit⟩:=st;have hl:=rv.length;exact wpAny_pyNext_enum_end (I.ok.hd hc) he hit pl.isList (by simp;omega) λh' eb=>⟨rfl,I.turnedL (t':=s.toks) hf λb o hb q=>eb b o (λz=>hb (by simp[z])) q⟩
 self:=λ_ _ _ _ _ st h=>let⟨_,q⟩:=st.1;wpAny_pyIter_enum q h
section
variable{X:Cx}{elts:List af}{x1:Nat}{tp:ah}
def Q7(K:ae)(tl:TA):TI:=λσ H R=>tl σ H λvs H1=>∃a,vs=[.ref a]/\(∃xs,bN K H1 a xs)/\R (Cb K a) H1
theorem Ux{l:af}{tl:TA}{p pos:ah}(hg:Gl X "enumerate")(hm:X.mg "enumerate"=none)(hl:PA X [l] tl)(hs:starEach [l] X.env=[(false,eval l X.env)]:=by rfl):
  PI X (.Tuple elts x1 tp) (.Call (.Name "enumerate" p) [l] [] pos) (Q7 X.K tl):=by
 intro AM s σ H R I h;refine Call_ (nH I hg hm boot_enumerate (nr (bH (hl pos AM s σ H _ I h) λus s1 hq=>?_) hs rfl));rcases hq with⟨vs,H1,I1,r1,q1⟩;obtain⟨a,rfl,⟨xs,hq⟩,q⟩:=q1;obtain⟨u,rfl,ru⟩:=iM r1;cases ru;obtain⟨its,rv,pl,hz⟩:=I1.list hq;refine call_enumerate_list pl.isList λh' he hit hsz k=>?_;have I2:aH X AM σ H1 {s1 with heap:=h'}:=I1.kept (t':=s1.toks) k;refine wpAny_pyIter_enum (s:={s1 with heap:=h'}) he ?_;refine⟨s1.heap.objs.size+1,[s1.heap.objs.size+1,s1.heap.objs.size],_,_,H1,rfl,I2,Vr a _ _ (Nat.succ_ne_self _),⟨⟨_,he⟩,hit⟩,λb hb=>?_,q⟩;have hb':s1.heap.objs.size<=b:=by
  rcases ay.mp hb with z |z
  .rw[z]
   exact og _
  .have z':b=s1.heap.objs.size:=by simpa using z
   rw[z'];exact am _
 exact I1.fpOk hb' (I1.hok.fresh hb')
end
def fN(env:av):List (Str×dy)->List (Str×Addr)->List (Str×Addr)
 |[],acc=>acc
 |p::r,acc=>if(p.2== .free)=true then fN env r ((p.1,(env.cells.lookup p.1).getD 0)::acc)else fN env r acc
theorem Ei{sc:Scope}{env:av}(h:∀p∈sc.names,p.2=.free->∃c,env.cells.lookup p.1=some c):closureFor sc env=pure (fN env sc.names []):=by
 unfold closureFor;have go:∀(l:List (Str×dy))(acc:List (Str×Addr)),(∀p∈l,p.2=.free->∃c,env.cells.lookup p.1=some c)->
   (forIn l acc (λx r=>if(x.2==fe)=true then do let a <-cellOf env x.1;pure (ym ((x.1,a)::r))else pure (ym r)):Sem _)=pure (fN env l acc):=by
  intro l
  induction l with
  |nil=>intro acc _;rfl
  |cons p r ih=>
   intro acc hp;rw[uq];have hr:=λacc'=>ih acc' λq hq=>hp q (bo _ hq)
   by_cases c:(p.2==fe)=true
   .obtain⟨a,ea⟩:=hp p ce (by simpa using c)
    have e1:cellOf env p.1=pure a:=by unfold cellOf;rw[ea]
    rw[if_pos c,e1];simp only[pure_bind];rw[hr];show _=pure (if(p.2== .free)=true then _ else _);rw[if_pos c,ea];rfl
   .rw[if_neg c]
    simp only[pure_bind];rw[hr];show _=pure (if(p.2== .free)=true then _ else _);rw[if_neg c]
 have e:=go sc.names [] h;show(forIn sc.names [] _ >>= λr=>pure r)=_;rw[bind_pure];exact e
theorem sE{env:av}:∀(l:List (Str×dy))(acc:List (Str×Addr)),(∀p∈l,p.2=.free->∃c,env.cells.lookup p.1=some c)->
  ∀y c,(fN env l acc).lookup y=some c->acc.lookup y=some c\/env.cells.lookup y=some c
 |[],acc,_,y,c,e=>.inl e
 |p::r,acc,h,y,c,e=>by
  have hr:∀q∈r,q.2=.free->∃c,env.cells.lookup q.1=some c:=λq hq=>h q (bo _ hq);unfold fN at e
  by_cases k:(p.2==fe)=true
  .rw[if_pos k]at e
   obtain⟨a,ea⟩:=h p ce (by simpa using k);rcases sE r _ hr y c e with z |z
   .rw[dh]at z
    cases w:y==p.1 with
    |true=>
     rw[w,ea]at z;have hy:y=p.1:=by simpa using w
     rw[hy,ea];exact .inr z
    |false=>
     rw[w]at z;exact .inl z
   .exact .inr z
  .rw[if_neg k]at e
   exact sE r acc hr y c e
theorem oH{env:av}:∀(l:List (Str×dy))(acc:List (Str×Addr))(y:Str),((∃c,acc.lookup y=some c)\/(y,fe)∈l)->∃c,(fN env l acc).lookup y=some c
 |[],acc,y,h=>by
  rcases h with h |h
  .exact h
  .cases h
 |p::r,acc,y,h=>by
  unfold fN
  by_cases k:(p.2==fe)=true
  .rw[if_pos k]
   refine oH r _ y ?_;cases w:y==p.1 with
   |true=>exact .inl ⟨_,by rw[dh,w]⟩
   |false=>
    rcases h with⟨c,h⟩|h
    .exact .inl ⟨c,by rw[dh,w];exact h⟩
    .rcases ay.mp h with z |z
     .rw[<-z]at w
      simp at w
     .exact .inr z
  .rw[if_neg k]
   refine oH r _ y ?_;rcases h with h |h
   .exact .inl h
   .rcases ay.mp h with z |z
    .rw[<-z]at k
     simp at k
    .exact .inr z
theorem Hc{env:av}:∀{names:List (Str×dy)}{x:Str},(∀y∈names,y.2≠.cell)->
  (let l:=(names.map λ(n,k)=>if(k==fe&&env.scope.kind== .function&&env.kindOf n==some .cell)then(n,dr)else(n,k)).lookup x;l=some .cell\/l=some .free)->(x,fe)∈names
 |[],x,_,h=>by
  rcases h with h |h<;>cases h
 |(n,k)::r,x,hc,h=>by
  dsimp only at h;rw[ar]at h;have ih:=@Hc env r x λy hy=>hc y (bo _ hy);have nk:k≠.cell:=hc (n,k) ce
  by_cases c:(k==fe&&env.scope.kind== .function&&env.kindOf n==some .cell)=true
  .have kf:k=.free:=by
    simp only[gj,beq_iff_eq]at c;exact c.1.1
   dsimp only at h;rw[if_pos c,dh]at h;cases w:x==n with
   |true=>
    have hx:x=n:=by simpa using w
    rw[hx,<-kf];exact ce
   |false=>
    rw[w]at h;exact bo _ (ih h)
  .dsimp only at h
   rw[if_neg c,dh]at h;cases w:x==n with
   |true=>
    rw[w]at h;have hx:x=n:=by simpa using w
    have kf:k=.free:=by
     rcases h with h |h
     .exact absurd (ck h) nk
     .exact ck h
    rw[hx,<-kf];exact ce
   |false=>
    rw[w]at h;exact bo _ (ih h)
def fT(X:Cx)(sc:Scope)(N:List Str)(C:Addr)(AN:aa)(AO:Hp)(ex:List Addr):Cx where
 prog:=X.prog
 w:=X.w
 K:=X.K
 mg:=X.mg
 base:=X.base
 A:=X.A
 N:=N
 AN:=AN
 AO:=AO
 env:=compEnvC sc (fN X.env sc.names []) C X.env
 outer:=X.stack
 stack:=X.stack
 ex:=ex
 fn:=λ_=>false
 calm:=X.calm
 pn:=[]
 xe:=λ_ _=>False
def iT(own:List Str)(cap:List (Nat×Str))(σ:St):St:=own.map (λ_=>none)++cap.map λp=>(σ[p.1]?).join
def cQ(own:List Str)(cap:List (Nat×Str)):List Str:=own++cap.map (·.2)
def vF(J:It)(g:TG)(te:TE)(AR:St)(H1:Hp)(D:Addr)(Q:VK):Prop:=
 ∃W:Nat->Nat->St->Hp->List V->Prop,(∃m,W 0 m AR (aX H1 D (.lst [])) [])/\∀i m σ H ys,W i m σ H ys->H D=some (.lst ys)/\
  ((J.stop i H/\Q (.ref D) H)\/(J.go i H/\ys.length<sizeLine/\∀x H2,J.yld i H x H2->g x σ H2 λσ3 H3=>te σ3 H3 λy H4=>H4 D=some (.lst ys)/\∃m',m'<m/\W (i+1) m' σ3 (aX H4 D (.lst (ys++[y]))) (ys++[y])))
def rF(own:List Str)(cap:List (Nat×Str))(wi:TI)(g:TG)(te:TE):TE:=λσ H Q=>wi σ H λJ H1=>∀D,H1 D=none->vF J g te (iT own cap σ) H1 D Q
def Nx(n:Nat)(Pv:Nat->St->Hp->List V->Prop)(D:Addr)(i:Nat)(ys:List V)(σ:St)(y:V)(H:Hp):Prop:=
 H D=some (.lst ys)/\∃m,m<n-i/\(m=n-(i+1)/\i+1<=n/\Pv (i+1) σ (aX H D (.lst (ys++[y]))) (ys++[y]))
theorem T5{n:Nat}{Pv:Nat->St->Hp->List V->Prop}{D:Addr}{i:Nat}{ys:List V}{σ:St}{y:V}{H:Hp}(h:i<n)(hD:H D=some (.lst ys))(p:Pv (i+1) σ (aX H D (.lst (ys++[y]))) (ys++[y])):Nx n Pv D i ys σ y H:=
 ⟨hD,n-(i+1),by omega,rfl,h,p⟩
theorem By{J:It}{g:TG}{te:TE}{AR:St}{H1:Hp}{D:Addr}{Q:VK}(n:Nat)(hn:n<=sizeLine)(Pv:Nat->St->Hp->List V->Prop)(h0:Pv 0 AR (aX H1 D (.lst [])) [])
  (hl:∀i σ H ys,Pv i σ H ys->ys.length=i/\H D=some (.lst ys))(hgo:∀i σ H ys,i<n->Pv i σ H ys->J.go i H)
  (hs:∀i σ H ys x H2,i<n->Pv i σ H ys->J.yld i H x H2->g x σ H2 λσ3 H3=>te σ3 H3 λy H4=>Nx n Pv D i ys σ3 y H4)
  (hd:∀σ H ys,Pv n σ H ys->J.stop n H/\Q (.ref D) H):vF J g te AR H1 D Q:=by
 refine⟨λi m σ H ys=>m=n-i/\i<=n/\Pv i σ H ys,⟨n,rfl,ig _,h0⟩,?_⟩
 rintro i m σ H ys ⟨rfl,hi,p⟩
 obtain⟨l1,l2⟩:=hl i σ H ys p;refine⟨l2,?_⟩
 by_cases hlt:i<n
 .exact .inr ⟨hgo i σ H ys hlt p,by omega,λx H2 y=>hs i σ H ys x H2 hlt p y⟩
 .have e:i=n:=by omega
  subst e;exact .inl (hd σ H ys p)
section
variable{prog:Program}{w:aj}{A:ak}{R:nv->aa->Prop}{s:aa}
theorem We{elt target iter:af}{sc:Scope}{pos:ah}{it acc:Value}{env:av}(I:Nat->aa->Prop)
  (turn:∀n s,I n s->wpAny (model prog w) A (pyNext it) (λr s1=>match r with
   |none=>R (.ok .next) s1
   |some v=>wpAny (model prog w) A (letOwnedTupleGo target it v) (λ_ s2=>wpAny (model prog w) A (assign target env v) (λ_ s3=>wpAny (model prog w) A (eval elt env)
     (λx s4=>wpAny (model prog w) A (call (.builtin "list.append") [acc,x]) (λ_ s5=>∃m,m<n/\I m s5) (λ_ _=>False) s4) (λ_ _=>False) s3) (λ_ _=>False) s2) (λ_ _=>False) s1) (λ_ _=>False) s)
  (n:Nat)(h:I n s):codeAny (model prog w) A (.compLoop (.ListComp elt [⟨target,iter,[],0⟩] sc pos) 0 it acc env) R s:=by
 refine codeAny_loop rfl I (λn s hI=>?_) n h;show wpAny _ _ ((compTurn (.ListComp elt [⟨target,iter,[],0⟩] sc pos) 0 it acc env).onRaise (λx=>do noteFrame x env;theTreesLotGoes x)) _ _ s;refine wpAny_noted ?_;rw[compTurn_list1];refine ag (ph (ag ?_));refine jg (turn n s hI) (λr s1 h1=>?_) λ_ _ z=>z.elim;cases r with
 |none=>exact ax h1
 |some v=>
  refine ag (jg h1 (λ_ s2 h2=>?_) λ_ _ z=>z.elim);refine ag (jg h2 (λ_ s3 h3=>?_) λ_ _ z=>z.elim);refine ag (ag (jg h3 (λx s4 h4=>?_) λ_ _ z=>z.elim));refine ag (jg h4 (λ_ s5 h5=>?_) λ_ _ z=>z.elim);exact ax (ax ⟨rfl,h5⟩)
end
structure gL(X:Cx)(sc:Scope)(own:List Str)(cap:List (Nat×Str)):Prop where
 kind:sc.kind=.function
 names:∀y∈sc.names,y.2=.local->sc.names.lookup y.1=some .local
 nocell:∀y∈sc.names,y.2≠.cell
 free:∀y∈sc.names,y.2=.free->X.env.kindOf y.1=some .cell
 at':∀p∈cap,X.N[p.1]?=some p.2
 cap:∀p∈cap,sc.names.lookup p.2=some .free
section
variable{X:Cx}{sc:Scope}{own:List Str}{cap:List (Nat×Str)}{AM:List (Addr×Obj)}{σ:St}{H:Hp}{s:aa}
theorem gL.has(k:gL X sc own cap)(ok:X.Ok):∀p∈sc.names,p.2=.free->∃c,X.env.cells.lookup p.1=some c:=λp hp e=>ok.has p.1 (.inl (k.free p hp e))
theorem pS{env:av}:∀{names:List (Str×dy)}{x:Str},env.scope.kind=.function->names.lookup x=some .free->env.kindOf x=some .cell->
  (names.map λ(n,k)=>if(k==fe&&env.scope.kind== .function&&env.kindOf n==some .cell)then(n,dr)else(n,k)).lookup x=some .cell
 |[],x,_,h,_=>by cases h
 |(n,k)::r,x,hk,h,hx=>by
  rw[ar];dsimp only;rw[dh]at h;cases w:x==n with
  |true=>
   rw[w]at h;have e:x=n:=by simpa using w
   have kf:k=.free:=ck h;have c:(k==fe&&env.scope.kind== .function&&env.kindOf n==some .cell)=true:=by
    rw[kf,hk,<-e,hx];decide
   rw[if_pos c,dh,w]
  |false=>
   rw[w]at h;have ih:=@pS env r x hk h hx
   by_cases c:(k==fe&&env.scope.kind== .function&&env.kindOf n==some .cell)=true
   .rw[if_pos c,dh,w]
    exact ih
   .rw[if_neg c,dh,w]
    exact ih
theorem aH.cmp(k:gL X sc own cap){h4:Heap}{fp:List Addr}{m:Str->AF}{t':Nat}(I:aH X AM σ H s)(hf:∀b∈fp,eT X AM H b)(hlt:∀b∈fp,b<s.heap.objs.size)(hns:h4.Ns s.heap.objs.size m)
  (kp:∀b o,s.heap.get? b=some o->h4.get? b=some o):aH (fT X sc (cQ own cap) s.heap.objs.size s H fp) [] (iT own cap σ) H {s with heap:=h4,toks:=t'}:=by
 have hcl:∀y c,(fN X.env sc.names []).lookup y=some c->X.env.cells.lookup y=some c:=λy c e=>by
  rcases sE sc.names [] (k.has I.ok) y c e with z |z
  .cases z
  .exact z
 have nst:∀b∈fp,b∉eC X.stack:=λb hb z=>by
  rcases ay.mp (I.stkSub b z)with e |e
  .exact(hf b hb).2.1 e
  .exact(hf b hb).2.2.1 e
 refine⟨⟨I.ok.mod,k.kind,I.ok.glob,I.ok.blt,am _,λx y c h1 h2=>I.ok.inj x y c (hcl x c h1) (hcl y c h2),λx hx=>?_,λx c e=>(nomatch e),I.ok.hd,I.ok.frames,.inl rfl,λb hb=>⟨cj (hlt b hb),λx c e=>(hf b hb).2.2.2.2.1 x c (hcl x c e)⟩,
  I.bs,gh I.ok.bsz I.sz,λb o e hb=>?_,nst,I.stack,I.stkFree⟩,rfl,I.bare,Un.kept kp,⟨m,hns,λi x v h1 h2 h3=>?_⟩,λx c e=>?_,I.hok.fresh (am _),λx c e=>I.freeC x c (hcl x c e),λp hp=>absurd (show p∈([]:List (Addr×Obj)) from hp) (by simp),I.hok.kept kp,?_⟩
 .exact oH sc.names [] x (.inr (Hc k.nocell hx))
 .rcases(hf b hb).2.2.2.1 with z |z
  .exact I.ok.noex b o e z
  .exact absurd (cy (au (I.ok.bs b o e).1) z) (gw _)
 .have hN:(cQ own cap)[i]?=some x:=h1
  unfold cQ at hN;unfold iT at h2
  by_cases hi:i<own.length
  .rw[dz (by simpa using hi),ci]at h2
   cases e:own[i]? with
   |none=>rw[e]at h2;cases h2
   |some z=>rw[e]at h2;cases h2
  .rw[dn (by simpa using hi),ci,ai]at h2
   rw[dn (by omega),ci]at hN;cases e:cap[i-own.length]? with
   |none=>rw[e]at h2;cases h2
   |some p=>
    rw[e]at h2 hN;have hp:p∈cap:=db e;have hx:p.2=x:=ck hN;have hv:(σ[p.1]?).join=some v:=ck h2;have hv':σ[p.1]?=some (some v):=by
     cases e2:σ[p.1]? with
     |none=>rw[e2]at hv;cases hv
     |some z=>rw[e2]at hv;exact congrArg some hv
    have fr:=k.cap p hp;have kc:X.env.kindOf p.2=some .cell:=k.free (p.2,.free) (jb fr) rfl;obtain⟨m0,_,hl⟩:=I.loc;obtain⟨u,ru,lk⟩:=hl p.1 p.2 v (k.at' p hp) hv' (.inr (.inl kc));refine⟨u,ru,?_⟩;rcases lk with⟨k1,_⟩|⟨_,c,ec,cell⟩
    .rw[kc]at k1
     cases k1
    .rw[<-hx]
     obtain⟨c',ec'⟩:=oH (env:=X.env) sc.names [] p.2 (.inr (jb fr));have:=(hcl _ _ ec').symm.trans ec;cases this;obtain⟨o,ho,hd⟩:=cell;exact .inr ⟨.inl (pS I.ok.kind fr kc),c,ec',o,kp c o ho,hd⟩
 .obtain⟨v,o,ho,hd⟩:=I.cell x c (hcl x c e)
  exact⟨v,o,kp c o ho,hd⟩
 .unfold iT
  show _=(cQ own cap).length;unfold cQ;rw[bi,bi,ai,ai,ai]
theorem aH.uncmp{s3 s':aa}{H3 H':Hp}{N:List Str}{σ':St}{C:Addr}{fp:List Addr}{pl:List (Addr×Obj)}(I:aH X AM σ H s)(hf:∀b∈fp,eT X AM H b)(u:Un (eC X.stack) fp H H3 s.heap s3.heap)(os:s3.os=s.os)
  (J:aH (fT X sc N C s3 H3 fp) pl σ' H' s'):aH X AM σ H' s':=by
 have os':s'.os=s.os:=(show s'.os=s3.os from J.os).trans os;refine I.call' (ch:=fp) os' (u.trans J.base) J.hok J.bare λb hb=>?_;obtain⟨_,f1,_,f3,f4,f5⟩:=hf b hb;exact⟨f3,f1,f4,f5⟩
end
section
variable{X:Cx}{sc:Scope}{own:List Str}{cap:List (Nat×Str)}{AM:List (Addr×Obj)}{σ:St}{H:Hp}{s:aa}{elt target iter:af}{pos pos':ah}{wi:TI}{g:TG}{te:TE}{Q:VK}
theorem Xe{use:Option (Value->Sem Unit)}{Qf:Value->aa->Prop}(k:gL X sc own cap)(hi:PI X target iter wi)(hc:X.calm=true)
  (hg:∀C AN AO ex,PG (fT X sc (cQ own cap) C AN AO ex) target g)(he:∀C AN AO ex,PE (fT X sc (cQ own cap) C AN AO ex) elt te)(I:aH X AM σ H s)(h:rF own cap wi g te σ H Q)
  (fin:∀D C s' H' m,aH X AM σ H' s'->eT X AM H' C->s'.heap.Ns C m->Q (.ref D) H'->compPost (model X.prog X.w) X.A X.xe use Qf (.ref D) C (.ok .next) s')
  (hs:∀x,foldedSetIterable iter X.env x=pure x):
  wpAny (model X.prog X.w) X.A (comprehension (.ListComp elt [⟨target,iter,[],0⟩] sc pos) sc X.env pos' (newList []) false (eval iter X.env) use) Qf X.xe s:=by
 refine yn (use:=use) rfl hs (Ei (k.has I.ok)) k.kind k.names ?_;refine bH (hi AM s σ H _ I h) λv s1 h1=>bH h1 λitv s2 h2=>?_;obtain⟨it,fp,tn,J,H2,e,I2,T,st2,f2,hW⟩:=h2;subst e;refine jh (wpAny_newFunctionEnv k.nocell (λy hy=>nomatch hy) (λh4 hns hsb=>?_) k.kind);have I3:aH X AM σ (aX H2 s2.heap.objs.size (.lst [])) {s2 with heap:=s2.heap.push {cls:=.type "list",data:=.seq ([]:AE).toArray},toks:=s2.toks}:=I2.lnew (ys:=[]) (its:=[]) .nil (ig _);have hD:H2 s2.heap.objs.size=none:=I2.fresh;have ltf:∀b∈fp,b<s2.heap.objs.size:=λb hb=>by
  obtain⟨o,ho,_⟩:=T.obj _ _ st2 b hb;exact au ho
 have f3:∀b∈fp,eT X AM (aX H2 s2.heap.objs.size (.lst [])) b:=λb hb=>⟨by rw[bS (cj (ltf b hb))];exact(f2 b hb).1,(f2 b hb).2⟩;have un:Un (eC X.stack) fp H2 (aX H2 s2.heap.objs.size (.lst [])) s2.heap (s2.heap.push {cls:=.type "list",data:=.seq ([]:AE).toArray}):=Un.laid (λb u q=>ao _ q) (am _) hD;have kp:∀b o,(s2.heap.push {cls:=.type "list",data:=.seq ([]:AE).toArray}).get? b=some o->h4.get? b=some o:=λb o q=>hsb.extBut b o (cj (au q)) (ao _ q);have J0:=I3.cmp (t':=s2.toks+([]:List (Str×Value)).length) k f3 (λb hb=>cy (ltf b hb) (by rw[io];exact og _)) hns kp;have stat:∀{H':Hp},(∀b∈fp,H' b=none)->∀b∈fp,eT (fT X sc (cQ own cap) (s2.heap.push {cls:=.type "list",data:=.seq ([]:AE).toArray}).objs.size {s2 with heap:=s2.heap.push {cls:=.type "list",data:=.seq ([]:AE).toArray},toks:=s2.toks} (aX H2 s2.heap.objs.size (.lst [])) fp) [] H' b:=λhn b hb=>
  ⟨hn b hb,(J0.ok.exf b hb).1,J0.ok.exfs b hb,.inl hb,(J0.ok.exf b hb).2,λp hp=>absurd (show p∈([]:List (Addr×Obj)) from hp) (by simp)⟩
 have st4:tn 0 h4:=T.keep _ _ _ st2 λb hb o q=>kp b o (ao _ q);have fr0:∀b∈fp,(aX H2 s2.heap.objs.size (.lst [])) b=none:=λb hb=>(f3 b hb).1;have loop:codeAny (model X.prog X.w) X.A (.compLoop (.ListComp elt [⟨target,iter,[],0⟩] sc pos) 0 (.ref it) (.ref s2.heap.objs.size) (compEnvC sc (fN X.env sc.names []) (s2.heap.push {cls:=.type "list",data:=.seq ([]:AE).toArray}).objs.size X.env))
   (compPost (model X.prog X.w) X.A X.xe use Qf (.ref s2.heap.objs.size) (s2.heap.push {cls:=.type "list",data:=.seq ([]:AE).toArray}).objs.size) {s2 with heap:=h4,toks:=s2.toks+([]:List (Str×Value)).length}:=by
  obtain⟨W,⟨m0,w0⟩,turn⟩:=hW s2.heap.objs.size hD;refine We (λn s'=>∃i σ' H' ys,aH (fT X sc (cQ own cap) (s2.heap.push {cls:=.type "list",data:=.seq ([]:AE).toArray}).objs.size {s2 with heap:=s2.heap.push {cls:=.type "list",data:=.seq ([]:AE).toArray},toks:=s2.toks} (aX H2 s2.heap.objs.size (.lst [])) fp) [] σ' H' s'/\tn i s'.heap/\(∀b∈fp,H' b=none)/\W i n σ' H' ys) ?_ m0
   ⟨0,_,_,[],J0,st4,fr0,w0⟩
  rintro n s5 ⟨i,σ5,H5,ys,I5,st5,fr5,w5⟩
  obtain⟨hD5,w5⟩:=turn i n σ5 H5 ys w5;rcases w5 with⟨stop,qn⟩|⟨go,hlt,step⟩
  .refine bH (T.done (fT X sc (cQ own cap) (s2.heap.push {cls:=.type "list",data:=.seq ([]:AE).toArray}).objs.size {s2 with heap:=s2.heap.push {cls:=.type "list",data:=.seq ([]:AE).toArray},toks:=s2.toks} (aX H2 s2.heap.objs.size (.lst [])) fp) rfl rfl rfl hc i [] s5 σ5 H5 _ I5 (stat fr5) st5 stop) ?_
   rintro r s6 ⟨hr,I6⟩
   subst hr;obtain⟨m,hn,_⟩:=id I6.loc;exact fin _ _ s6 H5 m (I2.uncmp (s3:={s2 with heap:=s2.heap.push {cls:=.type "list",data:=.seq ([]:AE).toArray},toks:=s2.toks}) f2 un rfl I6) (I3.fpOk (am _) I6.free) hn qn
  .refine bH (T.item (fT X sc (cQ own cap) (s2.heap.push {cls:=.type "list",data:=.seq ([]:AE).toArray}).objs.size {s2 with heap:=s2.heap.push {cls:=.type "list",data:=.seq ([]:AE).toArray},toks:=s2.toks} (aX H2 s2.heap.objs.size (.lst [])) fp) rfl rfl rfl hc i [] s5 σ5 H5 _ I5 (stat fr5) st5 go) ?_
   rintro r s6 ⟨u,hr,h6⟩
   subst hr;refine bH h6 ?_
   rintro _ s7 ⟨x,H7,I7,r7,y7,st7,fr7⟩
   have I7':=I7.pinned (stat fr7) (T.obj _ _ st7);refine bH (hg _ _ _ _ _ s7 σ5 H7 x u _ I7' r7 (step x H7 y7)) ?_
   rintro _ s8 ⟨σ8,H8,I8,q8⟩
   refine bH (he _ _ _ _ _ s8 σ8 H8 _ I8 q8) ?_
   rintro v9 s9 ⟨y,H9,I9,r9,hD9,m',hm,w9⟩
   refine bH (sR _ s9 σ8 H9 (.ref s2.heap.objs.size) [y] (.ref s2.heap.objs.size) [v9] (λ_ H'=>H'=aX H9 s2.heap.objs.size (.lst (ys++[y]))) I9 rfl (.cons r9 .nil) ⟨_,ys,y,rfl,rfl,hD9,hlt,rfl⟩) ?_
   rintro _ s10 ⟨_,H10,I10,_,q10⟩
   subst q10;refine⟨m',hm,i+1,σ8,_,_,I10.unpinned,T.keep _ _ _ st7 λb hb o q=>(I10.pin (b,o) (dj _ (dj _ (oG hb q)))).1,λb hb=>?_,w9⟩;obtain⟨o,q,d⟩:=T.obj _ _ st7 b hb;exact(I10.pin (b,o) (dj _ (dj _ (oG hb q)))).2.1
 exact yo loop (T.self _ 0 _ _ _ st4 loop)
theorem Rx(k:gL X sc own cap)(hi:PI X target iter wi)(hc:X.calm=true)
  (hg:∀C AN AO ex,PG (fT X sc (cQ own cap) C AN AO ex) target g)(he:∀C AN AO ex,PE (fT X sc (cQ own cap) C AN AO ex) elt te)
  (hs:∀x,foldedSetIterable iter X.env x=pure x:=by intro _;rfl):PE X (.ListComp elt [⟨target,iter,[],0⟩] sc pos) (rF own cap wi g te):=by
 intro AM s σ H Q I h;rw[eval_ListComp];refine Xe (use:=none) k hi hc hg he I h (λD C s' H' m I' fC hn q=>?_) hs;refine⟨m,hn,λh' sb=>⟨.ref D,H',?_,rfl,q⟩⟩;obtain⟨f0,f1,f2,f3,f4,f5⟩:=fC;exact I'.turned (t':=s'.toks) (λb o hb e=>(sb.2 b hb).trans e) f0 f1 f3 f4 f5
theorem Hx{i:Nat}{x:Str}{py spos:ah}(hN:X.N.Nodup)(hx:X.N[i]?=some x)(hl:jM X.env.scope x)(k:gL X sc own cap)(hi:PI X target iter wi)(hc:X.calm=true)
  (hg:∀C AN AO ex,PG (fT X sc (cQ own cap) C AN AO ex) target g)(he:∀C AN AO ex,PE (fT X sc (cQ own cap) C AN AO ex) elt te)
  (hs:∀x,foldedSetIterable iter X.env x=pure x:=by intro _;rfl)(hsw:swapsWith (.ListComp elt [⟨target,iter,[],0⟩] sc pos) (some (.Name x py)) spos.line X.env=pure true:=by rfl)
  (hf:X.fn x=true\/X.env.scope.names.lookup x=some .local:=by first |exact .inl rfl |exact .inr rfl |assumption):
  PS X (.Assign [.Name x py] (.ListComp elt [⟨target,iter,[],0⟩] sc pos) spos) (Wa (rF own cap wi g te) (La i)):=by
 intro AM s σ H D I h;rw[exec_Assign_Name_used _ _ _ _ hsw];refine ag (ph (ag ?_));show wpAny _ X.A (comprehension (.ListComp elt [⟨target,iter,[],0⟩] sc pos) sc X.env _ (newList []) false (eval iter X.env) (some (assign (.Name x py) X.env)) >>= λ_=>pure ()) _ _ s;refine ag (bH (Xe (use:=some (assign (.Name x py) X.env)) (Qf:=λ_ s'=>SP X AM D .next s') k hi hc hg he I h (λB C s' H' m I' fC hn q=>?_) hs) λ_ s' hq=>ax (ax hq))
 show wpAny _ _ (assign (.Name x py) X.env (.ref B)) _ _ s';obtain⟨o,es,ep,ho,hd,r⟩:=hn;obtain⟨f0,f1,f2,f3,f4,f5⟩:=fC;have I'':aH X (AM++[(C,o)]) σ H' s':=I'.pins_of λp hp=>(bj.mp hp).elim (λz=>I'.pin p (dj _ z)) λz=>by
  have e:p=(C,o):=by simpa using z
  subst e;exact⟨ho,f0,f1,f2,λv z=>by rw[hd]at z;cases z⟩
 refine wpAny_assign_Name (oI I'' hN hx hl (v:=.ref B) rfl (λs2 I2=>?_) hf);have pC:=I2.pin (C,o) (by simp);refine⟨m,⟨o,es,ep,pC.1,hd,r⟩,λh' sb=>⟨_,H',?_,q⟩⟩;exact(I2.unpinned).turned (t':=s2.toks) (λb o hb e=>(sb.2 b hb).trans e) f0 f1 f3 f4 f5
end
section
variable{X:Cx}
theorem Ju(hc:X.calm=true):gB X (.builtin "all") (λxs H Q=>∃(a:Addr)(bs:List Bool),xs=[.ref a]/\bN X.K H a (bs.map V.bl)/\Q (.bl (bs.all id)) H):=by
 intro AM s σ H xs us Q I r h;obtain⟨a,bs,rfl,hq,q⟩:=h;obtain⟨u,rfl,ru⟩:=iM r;cases ru;obtain⟨its,rv,pl,hz⟩:=I.list hq;have hl:bs.length=its.length:=by
  have:=rv.length
  rwa[ai]at this
 refine call_all_walk (om pl.isList ?_);have ha:a<s.heap.objs.size:=by
  obtain⟨o,ho,_⟩:=pl.isList;exact au ho
 refine⟨_,_,_,_,_,_,λi=>bs.getD i true,rfl,ur (prog:=X.prog) (w:=X.w) (A:=X.A.in1) (show X.A.in1.handled=none from I.ok.hd hc) s.heap.objs.size a (cj ha) its.toArray,⟨⟨_,cq _ rfl,rfl,rfl⟩,Heap.IsList.at pl.isList λo e=>ao _ e⟩,λi v s' Q' E' hv hQ=>?_,λh' tk kp=>?_⟩
 .have hv':its[i]?=some v:=by simpa using hv
  have hi:i<bs.length:=by
   have:=(bf.mp hv').1;omega
  obtain⟨u,hu,ru⟩:=rv.get (i:=i) (x:=.bl bs[i]) (by rw[ci,aw hi];rfl);rw[hv']at hu;cases hu;cases(show v=oz bs[i] from ru);have e:bs.getD i true=bs[i]:=by simp[cf,hi]
  have hQ':Q' (bs.getD i true) s':=hQ;rw[e]at hQ';exact ky hQ'
 .have e:(az its.toArray.size).all (λi=>bs.getD i true)=bs.all id:=by
   rw[aq,<-hl,uu,jv,jv];constructor
   .intro z b hb
    obtain⟨i,hi,rfl⟩:=yp.mp hb;have:=z i (by simpa using hi);simpa[cf,hi]using this
   .intro z i hi
    have hi':i<bs.length:=by simpa using hi
    have:=z bs[i] (du hi');simpa[cf,hi']using this
  show EP X AM σ Q (.bool ((az its.toArray.size).all λi=>bs.getD i true)) _;rw[e];have I1:aH X AM σ H {s with heap:=s.heap.push {cls:=.type "list_iterator",data:=.fields #[.ref a,.int 0 0]},toks:=s.toks}:=I.kept λb o z=>ao _ z;have fp:eT X AM H s.heap.objs.size:=I.fpOk (am _) (I.hok.fresh (am _));obtain⟨f0,f1,f2,f3,f4,f5⟩:=fp;exact⟨.bl (bs.all id),H,I1.turned (λb o hb z=>kp b o (by simpa using hb) z) f0 f1 f3 f4 f5,rfl,q⟩
end
section
variable{prog:Program}{w:aj}{A:ak}{E:Value->aa->Prop}{s:aa}
theorem Cq{it t:Addr}{i:Nat}{items:Array Value}{x:Value}{Q:Value->aa->Prop}(git:s.heap.IsTupleIter it t i)(gt:s.heap.IsTuple t items)(gx:items[i]?=some x)
  (gQ:∀h',h'.IsTupleIter it t (i+1)->kh it s.heap h'->Q x {s with heap:=h'}):wpAny (model prog w) A (jw (.ref it)) Q E s:=by
 obtain⟨o,go,gc,gd⟩:=id git;obtain⟨ol,gol,_,nl,gdl⟩:=gt;unfold jw;refine ag (oa (name:=ik "__next__") git.typeIs qo (lg qo git.typeIs yq ?_ (yr _)));show wpAny _ _ (field (.ref it) 0 >>= _) _ _ s;refine ag (fw go gd (x:=.ref t) rfl ?_);show wpAny _ _ (if(ft t==cw)=true then _ else _) _ _ s;rw[if_neg (show ¬((ft t==cw)=true) from fu)];show wpAny _ _ (field (.ref it) 1 >>= _) _ _ s;refine ag (fw go gd (x:=.int i 0) rfl ?_);show wpAny _ _ (seqItems? (.ref t) >>= _) _ _ s;refine ag (jx gol gdl ?_);simp only[ny,gx];refine ag (uv go gd (by simp) (ax ⟨_,rfl,ax (gQ _ ?_ (yt ..))⟩));refine⟨_,xv _ go (Obj.isFreed_of_fields (yu gd _)),(Obj.cls_mapFields ..).trans gc,?_⟩;rw[yu gd];simp[rawInt]
theorem Ko{it t:Addr}{i:Nat}{items:Array Value}{Q:Value->aa->Prop}(hh:A.handled=none)(git:s.heap.IsTupleIter it t i)(gt:s.heap.IsTuple t items)(gx:items[i]?=none)
  (gE:∀h' e,Heap.ExtBut it s.heap h'->(∃o,h'.get? e=some o/\o.cls=.type "StopIteration")->E (.ref e) {s with heap:=h'}):wpAny (model prog w) A (jw (.ref it)) Q E s:=by
 obtain⟨o,go,gc,gd⟩:=id git;obtain⟨ol,gol,_,nl,gdl⟩:=gt;unfold jw;refine ag (oa (name:=ik "__next__") git.typeIs qo (lg qo git.typeIs yq ?_ (yr _)));show wpAny _ _ (field (.ref it) 0 >>= _) _ _ s;refine ag (fw go gd (x:=.ref t) rfl ?_);show wpAny _ _ (if(ft t==cw)=true then _ else _) _ _ s;rw[if_neg (show ¬((ft t==cw)=true) from fu)];show wpAny _ _ (field (.ref it) 1 >>= _) _ _ s;refine ag (fw go gd (x:=.int i 0) rfl ?_);show wpAny _ _ (seqItems? (.ref t) >>= _) _ _ s;refine ag (jx gol gdl ?_);simp only[ny,gx]
 first
  |refine ag (kz (ag (uv go gd (by simp) (ag (qp ?_)))))
  |refine ag (kz (ag (uv go gd (by simp) ?_)))
 show wpAny _ _ (newExc (.type "StopIteration") [] >>= _) _ _ _;refine ag ?_;simp only[newExc,newTuple];refine ag (jh ?_ (by size_fits));refine ag (m:=firstArgMember _ _) (uw (a:=cw) (by first |rfl |(simp only[firstArgMember];rfl)) ?_)
 refine jh ?_ (by size_fits);simp only[raiseNew];refine ag (wpAny_handled ?_)
 first
  |rw[show A.in1.handled=none from hh]
  |rw[hh]
 refine ag (ax (wpAny_throw ?_));exact gE _ _ (((yt ..).extBut.push _).push _) ⟨_,cq _ rfl,rfl⟩
end
theorem Fv{prog:Program}{w:aj}{A:ak}(hh:A.handled=none)(it t:Addr)(hne:t≠it)(items:Array Value):
  jd prog w A it [it,t] items.size (λi v=>items[i]?=some v) (λi h=>h.IsTupleIter it t i/\h.IsTuple t items) where
 live:=λ_ _ st=>let⟨o,ho,_⟩:=st.1;⟨o,ho⟩
 frame:=λ_ _ _ st hk=>⟨let⟨o,ho,r⟩:=st.1;⟨o,hk it (by simp) o ho,r⟩,let⟨o,ho,r⟩:=st.2;⟨o,hk t (by simp) o ho,r⟩⟩
 item:=λi s Q E hi st hQ=>by
  refine Cq st.1 st.2 (x:=items[i]) (by simp[hi]) λh' hit' hs'=>?_;exact hQ _ h' s.toks (by simp[hi]) ⟨hit',st.2.extBut hs'.extBut hne⟩ hs'
 done:=λs Q E st hE=>Ko hh st.1 st.2 (by simp) hE
structure rW(z TI TO i1 i2:Addr)(fp1 fp2:List Addr):Prop where
 tiz:TI≠z
 toz:TO≠z
 tito:TI≠TO
 ti1:TI≠i1
 ti2:TI≠i2
 z1:z∉fp1
 z2:z∉fp2
 to1:TO∉fp1
 to2:TO∉fp2
 i12:i1∉fp2
 i21:i2∉fp1
 m1:i1∈fp1
 m2:i2∈fp2
section
variable{prog:Program}{w:aj}{A:ak}{E:Value->aa->Prop}{s:aa}{z TI TO i1 i2:Addr}{fp1 fp2:List Addr}{n1 n2 i:Nat}{P1 P2:Nat->Value->Prop}{S1 S2:Nat->Heap->Prop}{a b:Value}
theorem Hr{Q:Value->aa->Prop}(D1:jd prog w A i1 fp1 n1 P1 S1)(D2:jd prog w A i2 fp2 n2 P2 S2)(ap:rW z TI TO i1 i2 fp1 fp2)(gz:fk s.heap z TI TO .none)(gTI:di s.heap TI (.ref i1) (.ref i2))(gTO:di s.heap TO a b)
  (g1:S1 i s.heap)(g2:S2 i s.heap)(l1:i<n1)(l2:i<n2)
  (gQ:∀h' tk x y,P1 i x->P2 i y->fk h' z TI TO (rawInt s.heap.objs.size)->di h' TO x y->S1 (i+1) h'->S2 (i+1) h'->di h' s.heap.objs.size x y->
   (∀c o,c≠z->c≠TO->c≠i1->c≠i2->s.heap.get? c=some o->h'.get? c=some o)->Q (.ref s.heap.objs.size) {s with heap:=h',toks:=tk}):
  wpAny (model prog w) A (Builtin.«zip.__next__» ⟨[.ref z],[]⟩) (λfin s'=>∃v,fin=.done (.ret v)/\Q v s') E s:=by
 have nz1:i1≠z:=λq=>ap.z1 (q▸ap.m1);have nz2:i2≠z:=λq=>ap.z2 (q▸ap.m2);have nt1:TO≠i1:=λq=>ap.to1 (q▸ap.m1);have nt2:TO≠i2:=λq=>ap.to2 (q▸ap.m2);show wpAny _ _ (field (.ref z) 2 >>= _) _ _ _;refine ag (fw gz rfl (x:=.bool false) rfl ?_);show wpAny _ _ (field (.ref z) 3 >>= _) _ _ _;refine ag (fw gz rfl (x:=.ref TI) rfl ?_);refine ag (jx gTI rfl ?_);show wpAny _ _ (qq (.ref z) >>= _) _ _ _;refine ag ?_;unfold qq;refine ag (fw gz rfl (x:=.none) rfl (ax ?_));simp only[if_true];refine ag (kz ?_);refine ag (fw gz rfl (x:=.ref TO) rfl ?_);refine ag (mn gz (by simp) λh1 gz1 s1=>?_)
 replace gz1:fk h1 z TI TO .ellipsis:=gz1
 refine ag ?_;simp only[yw,yx,uq,uz];refine ag (ag (qr ?_));show wpAny _ _ (jw (.ref i1) >>= _) _ _ _;refine ag (D1.item i _ _ _ l1 (D1.frame _ _ _ g1 λc hc o q=>s1.extBut c o (λe=>ap.z1 (e▸hc)) q) λx h2 tk2 px g1' s2=>ax ?_);have gTO2:di h2 TO a b:=s2.extBut _ _ nt1 (s1.extBut _ _ ap.toz gTO);refine ag (jx gTO2 rfl ?_);refine ag (va (s:={s with heap:=h2,toks:=tk2}) gTO2 λh3 gTO3 s3=>?_)
 replace gTO3:di h3 TO x b:=gTO3
 replace s3:kh TO h2 h3:=s3
 refine ag (qp (ax ?_));refine ag (ag (qr ?_));show wpAny _ _ (jw (.ref i2) >>= _) _ _ _;have g2':S2 i h3:=D2.frame _ _ _ g2 λc hc o q=>s3.extBut c o (λe=>ap.to2 (e▸hc)) (s2.extBut c o (λe=>ap.i12 (e▸hc)) (s1.extBut c o (λe=>ap.z2 (e▸hc)) q));refine ag (D2.item i _ _ _ l2 g2' λy h4 tk4 py g2'' s4=>ax ?_)
 replace s4:kh i2 h3 h4:=s4
 have gTO4:di h4 TO x b:=s4.extBut _ _ nt2 gTO3;refine ag (jx gTO4 rfl ?_);refine ag (va (s:={s with heap:=h4,toks:=tk4}) gTO4 λh5 gTO5 s5=>?_)
 replace gTO5:di h5 TO x y:=gTO5
 replace s5:kh TO h4 h5:=s5
 refine ag (qp (ax (ax ?_)));refine ag (jx gTO5 rfl ?_);refine ag (wpAny_newTuple ?_);have hsz:h5.objs.size=s.heap.objs.size:=by rw[s5.1,s4.1,s3.1,s2.1,s1.1]
 have gz5:fk h5 z TI TO .ellipsis:=s5.extBut _ _ ap.toz.symm (s4.extBut _ _ nz2.symm (s3.extBut _ _ ap.toz.symm (s2.extBut _ _ nz1.symm gz1)));have k5:∀c o,c≠z->c≠TO->c≠i1->c≠i2->s.heap.get? c=some o->h5.get? c=some o:=λc o c1 c2 c3 c4 q=>s5.extBut _ _ c2 (s4.extBut _ _ c4 (s3.extBut _ _ c2 (s2.extBut _ _ c3 (s1.extBut _ _ c1 q))));have g15:S1 (i+1) h5:=D1.frame _ _ _ g1' λc hc o q=>s5.extBut c o (λe=>ap.to1 (e▸hc)) (s4.extBut c o (λe=>ap.i21 (e▸hc)) (s3.extBut c o (λe=>ap.to1 (e▸hc)) q));have g25:S2 (i+1) h5:=D2.frame _ _ _ g2'' λc hc o q=>s5.extBut c o (λe=>ap.to2 (e▸hc)) q;have zlt:z<h5.objs.size:=au gz5;show wpAny _ _ (yy (.ref z) (.ref h5.objs.size) >>= _) _ _ _;refine ag ?_;unfold yy;have gz6:fk (h5.push {cls:=.type "tuple",data:=.seq #[x,y]}) z TI TO .ellipsis:=ao _ gz5;refine ag (mn gz6 (by simp) λh7 gz7 s7=>?_)
 replace gz7:fk h7 z TI TO (rawInt h5.objs.size):=gz7
 refine mn gz7 (by simp) λh8 gz8 s8=>?_
 replace gz8:fk h8 z TI TO (rawInt h5.objs.size):=gz8
 have up:∀c o,c≠z->h5.get? c=some o->h8.get? c=some o:=λc o c1 q=>s8.extBut _ _ c1 (s7.extBut _ _ c1 (ao _ q));have gT8:di h8 h5.objs.size x y:=s8.extBut _ _ (la zlt) (s7.extBut _ _ (la zlt) (cq _ rfl));rw[hsz]at gz8 gT8;refine ax ⟨_,rfl,?_⟩;show Q (.ref h5.objs.size) _;rw[hsz];exact gQ h8 _ x y px py gz8 (up _ _ ap.toz gTO5) (D1.frame _ _ _ g15 λc hc o q=>up c o (λe=>ap.z1 (e▸hc)) q) (D2.frame _ _ _ g25 λc hc o q=>up c o (λe=>ap.z2 (e▸hc)) q) gT8 λc o c1 c2 c3 c4 q=>up c o c1 (k5 c o c1 c2 c3 c4 q)
theorem Bt{Q:Fin->aa->Prop}(D1:jd prog w A i1 fp1 n1 P1 S1)(D2:jd prog w A i2 fp2 n2 P2 S2)(ap:rW z TI TO i1 i2 fp1 fp2)(gz:fk s.heap z TI TO .none)(gTI:di s.heap TI (.ref i1) (.ref i2))(gTO:di s.heap TO a b)
  (g1:S1 i s.heap)(g2:S2 i s.heap)(fin:i=n1\/(i<n1/\i=n2))
  (gE:∀h' tk e,(∀c o,c≠z->c≠TO->c≠i1->c≠i2->s.heap.get? c=some o->h'.get? c=some o)->(∃o,h'.get? e=some o/\o.cls=.type "StopIteration")->E (.ref e) {s with heap:=h',toks:=tk}):
  wpAny (model prog w) A (Builtin.«zip.__next__» ⟨[.ref z],[]⟩) Q E s:=by
 have nz1:i1≠z:=λq=>ap.z1 (q▸ap.m1);have nz2:i2≠z:=λq=>ap.z2 (q▸ap.m2);have nt1:TO≠i1:=λq=>ap.to1 (q▸ap.m1);have nt2:TO≠i2:=λq=>ap.to2 (q▸ap.m2);show wpAny _ _ (field (.ref z) 2 >>= _) _ _ _;refine ag (fw gz rfl (x:=.bool false) rfl ?_);show wpAny _ _ (field (.ref z) 3 >>= _) _ _ _;refine ag (fw gz rfl (x:=.ref TI) rfl ?_);refine ag (jx gTI rfl ?_);show wpAny _ _ (qq (.ref z) >>= _) _ _ _;refine ag ?_;unfold qq;refine ag (fw gz rfl (x:=.none) rfl (ax ?_));simp only[if_true];refine ag (kz ?_);refine ag (fw gz rfl (x:=.ref TO) rfl ?_);refine ag (mn gz (by simp) λh1 gz1 s1=>?_)
 replace gz1:fk h1 z TI TO .ellipsis:=gz1
 refine ag ?_;simp only[yw,yx,uq,uz];refine ag (ag (qr ?_));show wpAny _ _ (jw (.ref i1) >>= _) _ _ _;have g1':S1 i h1:=D1.frame _ _ _ g1 λc hc o q=>s1.extBut c o (λe=>ap.z1 (e▸hc)) q;rcases fin with e1 |⟨l1,e2⟩
 .subst e1
  refine ag (D1.done _ _ _ g1' λh2 e s2 he=>?_);obtain⟨oe,hoe,hce⟩:=he;have gz2:fk h2 z TI TO .ellipsis:=s2 _ _ nz1.symm gz1;have hez:e≠z:=λq=>by
   subst q;rw[gz2]at hoe;cases hoe;simp at hce
  refine mn (s:={s with heap:=h2}) gz2 (by simp) λh3 _ s3=>?_;exact gE h3 _ e (λc o c1 _ c3 _ q=>s3.extBut _ _ c1 (s2 _ _ c3 (s1.extBut _ _ c1 q))) ⟨oe,s3.extBut _ _ hez hoe,hce⟩
 .subst e2
  refine ag (D1.item i _ _ _ l1 g1' λx h2 tk2 px g1'' s2=>ax ?_);have gTO2:di h2 TO a b:=s2.extBut _ _ nt1 (s1.extBut _ _ ap.toz gTO);refine ag (jx gTO2 rfl ?_);refine ag (va (s:={s with heap:=h2,toks:=tk2}) gTO2 λh3 gTO3 s3=>?_)
  replace s3:kh TO h2 h3:=s3
  refine ag (qp (ax ?_));refine ag (ag (qr ?_));show wpAny _ _ (jw (.ref i2) >>= _) _ _ _;have g2':S2 i h3:=D2.frame _ _ _ g2 λc hc o q=>s3.extBut c o (λe=>ap.to2 (e▸hc)) (s2.extBut c o (λe=>ap.i12 (e▸hc)) (s1.extBut c o (λe=>ap.z2 (e▸hc)) q));refine ag (D2.done _ _ _ g2' λh4 e s4 he=>?_)
  replace s4:Heap.ExtBut i2 h3 h4:=s4
  obtain⟨oe,hoe,hce⟩:=he;have gz4:fk h4 z TI TO .ellipsis:=s4 _ _ nz2.symm (s3.extBut _ _ ap.toz.symm (s2.extBut _ _ nz1.symm gz1));have hez:e≠z:=λq=>by
   subst q;rw[gz4]at hoe;cases hoe;simp at hce
  refine mn (s:={s with heap:=h4,toks:=tk2}) gz4 (by simp) λh5 _ s5=>?_;exact gE h5 _ e (λc o c1 c2 c3 c4 q=>s5.extBut _ _ c1 (s4 _ _ c4 (s3.extBut _ _ c2 (s2.extBut _ _ c3 (s1.extBut _ _ c1 q))))) ⟨oe,s5.extBut _ _ hez hoe,hce⟩
theorem Bp{Q:AF->aa->Prop}(D1:jd prog w A.in1 i1 fp1 n1 P1 S1)(D2:jd prog w A.in1 i2 fp2 n2 P2 S2)(ap:rW z TI TO i1 i2 fp1 fp2)(gz:fk s.heap z TI TO .none)(gTI:di s.heap TI (.ref i1) (.ref i2))(gTO:di s.heap TO a b)
  (g1:S1 i s.heap)(g2:S2 i s.heap)(l1:i<n1)(l2:i<n2)
  (gQ:∀h' tk x y,P1 i x->P2 i y->fk h' z TI TO (rawInt s.heap.objs.size)->di h' TO x y->S1 (i+1) h'->S2 (i+1) h'->di h' s.heap.objs.size x y->
   (∀c o,c≠z->c≠TO->c≠i1->c≠i2->s.heap.get? c=some o->h'.get? c=some o)->Q (some (.ref s.heap.objs.size)) {s with heap:=h',toks:=tk}):
  wpAny (model prog w) A (pyNext (.ref z)) Q E s:=by
 have gT:s.TypeIs (.ref z) "zip":=⟨_,gz,rfl⟩;unfold pyNext;refine ag (wpAny_attempt (oa (name:=ik "__next__") gT qu (lg qu gT yz ?_ (za _))));exact Hr D1 D2 ap gz gTI gTO g1 g2 l1 l2 λh' tk x y p1 p2 e1 e2 e3 e4 e5 e6=>ax (gQ h' tk x y p1 p2 e1 e2 e3 e4 e5 e6)
theorem Go{Q:AF->aa->Prop}(D1:jd prog w A.in1 i1 fp1 n1 P1 S1)(D2:jd prog w A.in1 i2 fp2 n2 P2 S2)(ap:rW z TI TO i1 i2 fp1 fp2)(gz:fk s.heap z TI TO .none)(gTI:di s.heap TI (.ref i1) (.ref i2))(gTO:di s.heap TO a b)
  (g1:S1 i s.heap)(g2:S2 i s.heap)(fin:i=n1\/(i<n1/\i=n2))
  (gQ:∀h' tk,(∀c o,c≠z->c≠TO->c≠i1->c≠i2->s.heap.get? c=some o->h'.get? c=some o)->Q none {s with heap:=h',toks:=tk}):wpAny (model prog w) A (pyNext (.ref z)) Q E s:=by
 have gT:s.TypeIs (.ref z) "zip":=⟨_,gz,rfl⟩;unfold pyNext;refine ag (wpAny_attempt (oa (name:=ik "__next__") gT qu (lg qu gT yz ?_ (za _))));refine Bt D1 D2 ap gz gTI gTO g1 g2 fin λh' tk e hk he=>?_;obtain⟨o,ho,hc⟩:=he;refine ag (wpAny_isInstance (T:="StopIteration") (b:=true) ⟨o,ho,hc⟩ isSubtype_stop ?_);exact ax (gQ _ _ hk)
end
abbrev uW(h:Heap)(o1:Obj):Heap:=h.push o1
abbrev uY(h:Heap)(o1 o2:Obj):Heap:=(uW h o1).push o2
abbrev uS(h:Heap)(o1 o2:Obj):Heap:=(uY h o1 o2).push {cls:=.type "tuple",data:=.seq #[.ref h.objs.size,.ref (uW h o1).objs.size]}
abbrev vA(h:Heap)(o1 o2:Obj):Heap:=(uS h o1 o2).push {cls:=.type "tuple",data:=.seq #[.none,.none]}
abbrev pE(h:Heap)(o1 o2:Obj):Heap:=(vA h o1 o2).push {cls:=.type "zip",data:=.fields #[.none,.bool false,.bool false,.ref (uY h o1 o2).objs.size,.ref (uS h o1 o2).objs.size]}
def rP(l:Addr)(o:Obj)(G:Heap->Prop):Prop:=
 ∀(prog:Program)(w:aj)(A:ak)(E:Value->aa->Prop)(s:aa)(Q:Value->aa->Prop),G s.heap->Q (.ref s.heap.objs.size) {s with heap:=s.heap.push o}->wpAny (model prog w) A (pyIter (.ref l)) Q E s
theorem Ds(l1 l2:Addr)(o1 o2:Obj)(G1 G2:Heap->Prop)(p1:rP l1 o1 G1)(p2:rP l2 o2 G2)(k2:∀h,G2 h->G2 (h.push o1)):
  Meets (Builtin.«zip.__new__» ⟨[.type "zip",.ref l1,.ref l2],[]⟩) (λ_ R s=>G1 s.heap/\G2 s.heap/\R (.ok (.ret (.ref (vA s.heap o1 o2).objs.size))) {s with heap:=pE s.heap o1 o2}):=
 .of_wp λprog w A R s h=>by
  obtain⟨hp,g,d,tk,os⟩:=s;obtain⟨g1,g2,h⟩:=h;have hsub:=sub_zip;have q1:=λ(A':ak) (E':Value->aa->Prop) (Q':Value->aa->Prop)=>p1 prog w A' E' ⟨hp,g,d,tk,os⟩ Q' g1;have q2:=λ(A':ak) (E':Value->aa->Prop) (Q':Value->aa->Prop)=>p2 prog w A' E' ⟨hp.push o1,g,d,tk,os⟩ Q' (k2 _ g2)
  wp_walk using q1 _ _ _,q2 _ _ _
  exact⟨_,rfl,h⟩
theorem Xo{prog:Program}{w:aj}{A:ak}{E:Value->aa->Prop}{s:aa}{l1 l2:Addr}{o1 o2:Obj}{G1 G2:Heap->Prop}{Q:Value->aa->Prop}(p1:rP l1 o1 G1)(p2:rP l2 o2 G2)(k2:∀h,G2 h->G2 (h.push o1))(g1:G1 s.heap)(g2:G2 s.heap)
  (f1:o1.isFreed=false)(f2:o2.isFreed=false)
  (h:∀h',fk h' (s.heap.objs.size+4) (s.heap.objs.size+2) (s.heap.objs.size+3) .none->di h' (s.heap.objs.size+2) (.ref s.heap.objs.size) (.ref (s.heap.objs.size+1))->di h' (s.heap.objs.size+3) .none .none->
   h'.get? s.heap.objs.size=some o1->h'.get? (s.heap.objs.size+1)=some o2->(∀c o,s.heap.get? c=some o->h'.get? c=some o)->Q (.ref (s.heap.objs.size+4)) {s with heap:=h'}):
  wpAny (model prog w) A (call (.type "zip") [.ref l1,.ref l2]) Q E s:=by
 refine callType_new F.called_zip (by decide) (F.typeCall_zip_2 _ _) (F.newCall_zip_2 _ _) (λobj=>F.args_object_init_3 obj _ _) F.entry_zip_new (Ds l1 l2 o1 o2 G1 G2 p1 p2 k2) ⟨g1,g2,?_⟩;have e1:(uW s.heap o1).objs.size=s.heap.objs.size+1:=io ..;have e2:(uY s.heap o1 o2).objs.size=s.heap.objs.size+2:=by rw[io,e1]
 have e3:(uS s.heap o1 o2).objs.size=s.heap.objs.size+3:=by rw[io,e2]
 have e4:(vA s.heap o1 o2).objs.size=s.heap.objs.size+4:=by rw[io,e3]
 have r5:(pE s.heap o1 o2).get? (vA s.heap o1 o2).objs.size=some _:=cq _ rfl;have r4:(pE s.heap o1 o2).get? (uS s.heap o1 o2).objs.size=some _:=ao _ (cq _ rfl);have r3:(pE s.heap o1 o2).get? (uY s.heap o1 o2).objs.size=some _:=ao _ (ao _ (cq _ rfl));have r2:(pE s.heap o1 o2).get? (uW s.heap o1).objs.size=some o2:=ao _ (ao _ (ao _ (cq _ f2)));have r1:(pE s.heap o1 o2).get? s.heap.objs.size=some o1:=ao _ (ao _ (ao _ (ao _ (cq _ f1))));show _/\_;rw[e2,e3,e4]at r5;rw[e1,e2]at r3;rw[e3]at r4;rw[e1]at r2;rw[e4];exact⟨⟨_,r5,rfl⟩,h _ r5 r3 r4 r1 r2 λc o q=>ao _ (ao _ (ao _ (ao _ (ao _ q))))⟩
def iF(f:Bool)(K:ae)(H:Hp)(a:Addr)(xs:List V):Prop:=match f with
 |true=>cE K H a xs
 |false=>bN K H a xs
def kT(f:Bool)(it a:Addr)(i:Nat)(h:Heap):Prop:=match f with
 |true=>h.IsTupleIter it a i
 |false=>h.IsListIter it a i
def pI(f:Bool)(a:Addr)(items:Array Value)(h:Heap):Prop:=match f with
 |true=>h.IsTuple a items
 |false=>h.IsList a items
def Ib(f:Bool)(a:Addr):Obj:=match f with
 |true=>{cls:=.type "tuple_iterator",data:=.fields #[.ref a,.int 0 0]}
 |false=>{cls:=.type "list_iterator",data:=.fields #[.ref a,.int 0 0]}
section
variable{X:Cx}{AM:List (Addr×Obj)}{σ:St}{H:Hp}{s:aa}{a:Addr}{xs ys:List V}{f:Bool}
theorem aH.seqF(I:aH X AM σ H s)(h:iF f X.K H a xs):∃its:AE,bG xs its/\pI f a its.toArray s.heap/\xs.length<=sizeLine:=by
 cases f with
 |true=>
  obtain⟨its,r,p,z⟩:=I.tuple h;exact⟨its,r,p,z⟩
 |false=>
  obtain⟨its,r,p,z⟩:=I.list h;exact⟨its,r,p.isList,z⟩
theorem aH.seqF_inj(I:aH X AM σ H s)(h:iF f X.K H a xs)(h':iF f X.K H a ys):xs=ys:=by
 cases f with
 |true=>exact I.tuple_inj h h'
 |false=>exact I.list_inj h h'
theorem aH.apart{b:Addr}(I:aH X AM σ H s)(fb:eT X AM H b)(h:iF f X.K H a xs):a≠b:=by
 have viaK:∀{o:Obj},X.K.lookup a=some o->a≠b:=λ{o} q e=>by
  have hb:X.base.get? b=some o:=e▸I.ok.mod.kin a o q;rcases fb.2.2.2.1 with z |z
  .exact I.ok.noex b o hb z
  .exact absurd (cy (au (I.ok.bs b o hb).1) z) (gw _)
 cases f with
 |true=>
  rcases h with(h |⟨o,h⟩) |⟨o,_,_,q,_⟩
  .exact fH h fb.1
  .exact fH h fb.1
  .exact viaK q
 |false=>
  rcases h with(h |⟨o,h⟩) |⟨o,_,_,q,_⟩
  .exact fH h fb.1
  .exact fH h fb.1
  .exact viaK q
end
theorem tR{prog:Program}{w:aj}{A:ak}(f:Bool)(hh:A.handled=none)(it a:Addr)(hne:a≠it)(items:Array Value):
  jd prog w A it [it,a] items.size (λi v=>items[i]?=some v) (λi h=>kT f it a i h/\pI f a items h):=by
 cases f with
 |true=>exact Fv hh it a hne items
 |false=>exact Draws.list hh it a hne items
theorem Jm(f:Bool)(a:Addr)(items:Array Value):rP a (Ib f a) (pI f a items):=by
 cases f with
 |true=>exact λprog w A E s Q g q=>oo g q
 |false=>exact λprog w A E s Q g q=>om g q
theorem kT.keep{f:Bool}{it a:Addr}{i:Nat}{h h':Heap}(x:kT f it a i h)(k:∀o,h.get? it=some o->h'.get? it=some o):kT f it a i h':=by
 cases f with
 |true=>obtain⟨o,e,r⟩:=x;exact⟨o,k o e,r⟩
 |false=>obtain⟨o,e,r⟩:=x;exact⟨o,k o e,r⟩
theorem pI.keep{f:Bool}{a:Addr}{items:Array Value}{h h':Heap}(x:pI f a items h)(k:∀o,h.get? a=some o->h'.get? a=some o):pI f a items h':=by
 cases f with
 |true=>obtain⟨o,e,r⟩:=x;exact⟨o,k o e,r⟩
 |false=>obtain⟨o,e,r⟩:=x;exact⟨o,k o e,r⟩
theorem kT.obj{f:Bool}{it a:Addr}{i:Nat}{h:Heap}(x:kT f it a i h):∃o,h.get? it=some o/\∀v,o.data≠.cell v:=by
 cases f with
 |true=>obtain⟨o,e,_,d⟩:=x;exact⟨o,e,λv z=>by rw[d]at z;cases z⟩
 |false=>obtain⟨o,e,_,d⟩:=x;exact⟨o,e,λv z=>by rw[d]at z;cases z⟩
theorem Ze(f:Bool)(a it:Addr){h:Heap}(e:h.get? it=some (Ib f a)):kT f it a 0 h:=by
 cases f with
 |true=>exact⟨_,e,rfl,rfl⟩
 |false=>exact⟨_,e,rfl,rfl⟩
theorem Jg(f:Bool)(a:Addr):(Ib f a).isFreed=false:=by cases f<;>rfl
def Wn (K : ae) (f1 : Bool) (a : Addr) (f2 : Bool) (b : Addr) : It :=
  ⟨λi H => ∃ xs ys x y, iF f1 K H a xs ∧ iF f2 K H b ys ∧ xs[i]? = some x ∧ ys[i]? = some y,
   λi H v H' => ∃ p x y, H p = none ∧ v = .ref p ∧ H' = aX H p (.tup [x, y]) ∧ (∀ xs, iF f1 K H a xs → xs[i]? = some x) ∧ ∀ ys, iF f2 K H b ys → ys[i]? = some y,
   λi H => ∃ xs ys, iF f1 K H a xs ∧ iF f2 K H b ys ∧ (i = xs.length ∨ (i < xs.length ∧ i = ys.length))⟩
structure vE(z TI TO i1 i2:Addr):Prop where
 tiz:TI≠z
 toz:TO≠z
 i1z:i1≠z
 i2z:i2≠z
 tito:TI≠TO
 ti1:TI≠i1
 ti2:TI≠i2
 to1:TO≠i1
 to2:TO≠i2
 i12:i1≠i2
theorem vE.ap{z TI TO i1 i2 a b:Addr}(r:vE z TI TO i1 i2)(h:∀c∈[z,TI,TO,i1,i2],a≠c)(g:∀c∈[z,TI,TO,i1,i2],b≠c):rW z TI TO i1 i2 [i1,a] [i2,b] where
 tiz:=r.tiz
 toz:=r.toz
 tito:=r.tito
 ti1:=r.ti1
 ti2:=r.ti2
 z1:=λq=>by simp at q;rcases q with q |q;exact r.i1z q.symm;exact h z (by simp) q.symm
 z2:=λq=>by simp at q;rcases q with q |q;exact r.i2z q.symm;exact g z (by simp) q.symm
 to1:=λq=>by simp at q;rcases q with q |q;exact r.to1 q;exact h TO (by simp) q.symm
 to2:=λq=>by simp at q;rcases q with q |q;exact r.to2 q;exact g TO (by simp) q.symm
 i12:=λq=>by simp at q;rcases q with q |q;exact r.i12 q;exact g i1 (by simp) q.symm
 i21:=λq=>by simp at q;rcases q with q |q;exact r.i12 q.symm;exact h i2 (by simp) q.symm
 m1:=by simp
 m2:=by simp
theorem Au{P:Program}{w:aj}{K:ae}{elts:List af}{x1:Nat}{tp:ah}(f1 f2:Bool)(a b z TI TO i1 i2:Addr)(zr:vE z TI TO i1 i2):
  pB P w K (.Tuple elts x1 tp) (Wn K f1 a f2 b) [z,TI,TO,i1,i2] z (λi h=>fk h z TI TO .none/\di h TI (.ref i1) (.ref i2)/\(∃u v,di h TO u v)/\kT f1 i1 a i h/\kT f2 i2 b i h) where
 mem:=by simp
 obj:=λi h st c hc=>by
  obtain⟨e1,e2,⟨u,v,e3⟩,e4,e5⟩:=st;simp at hc;rcases hc with q |q |q |q |q
  .subst q
   exact⟨_,e1,λv z=>nomatch z⟩
  .subst q
   exact⟨_,e2,λv z=>nomatch z⟩
  .subst q
   exact⟨_,e3,λv z=>nomatch z⟩
  .subst q
   exact e4.obj
  .subst q
   exact e5.obj
 keep:=λi h h' st k=>by
  obtain⟨e1,e2,⟨u,v,e3⟩,e4,e5⟩:=st;exact⟨k z (by simp) _ e1,k TI (by simp) _ e2,⟨u,v,k TO (by simp) _ e3⟩,e4.keep λo q=>k i1 (by simp) o q,e5.keep λo q=>k i2 (by simp) o q⟩
 item:=by
  intro X hP hw hK hc i AM s σ H E I hf st hg;subst hP hw hK;obtain⟨xs,ys,x,y,hx,hy,ex,ey⟩:=hg;obtain⟨its,r1,p1,_⟩:=I.seqF hx;obtain⟨jts,r2,p2,_⟩:=I.seqF hy;obtain⟨ux,gx,rx⟩:=r1.get ex;obtain⟨uy,gy,ry⟩:=r2.get ey;obtain⟨e1,e2,⟨u,v,e3⟩,e4,e5⟩:=st;have na:∀c∈[z,TI,TO,i1,i2],a≠c:=λc hc=>I.apart (hf c hc) hx;have nb:∀c∈[z,TI,TO,i1,i2],b≠c:=λc hc=>I.apart (hf c hc) hy;have hd:X.A.in1.handled=none:=I.ok.hd hc;have D1:=tR (prog:=X.prog) (w:=X.w) f1 hd i1 a (na i1 (by simp)) its.toArray;have D2:=tR (prog:=X.prog) (w:=X.w) f2 hd i2 b (nb i2 (by simp)) jts.toArray;refine Bp D1 D2 (zr.ap na nb) e1 e2 e3 ⟨e4,p1⟩ ⟨e5,p2⟩ (bf.mp gx).1 (bf.mp gy).1 λh1 tk vx vy px py q1 q2 q3 q4 q5 k1=>⟨_,rfl,?_⟩;have ex':vx=ux:=by
   have:its[i]?=some vx:=by simpa using px
   rw[gx]at this;exact(ck this).symm
  have ey':vy=uy:=by
   have:jts[i]?=some vy:=by simpa using py
   rw[gy]at this;exact(ck this).symm
  subst ex' ey';have lt:∀c∈[z,TI,TO,i1,i2],c≠s.heap.objs.size:=λc hc=>by
   have:∃o,s.heap.get? c=some o:=by
    simp at hc;rcases hc with q |q |q |q |q
    .exact⟨_,q▸e1⟩
    .exact⟨_,q▸e2⟩
    .exact⟨_,q▸e3⟩
    .obtain⟨o,ho,_⟩:=e4.obj
     exact⟨o,q▸ho⟩
    .obtain⟨o,ho,_⟩:=e5.obj
     exact⟨o,q▸ho⟩
   obtain⟨o,ho⟩:=this;exact cj (au ho)
  refine wpAny_letOwnedTupleGo_zip (s:={s with heap:=h1,toks:=tk}) q1 λh2 z2 sb2=>?_;have t2:h2.get? s.heap.objs.size=some {cls:=.type "tuple",data:=.seq #[vx,vy]}:=(sb2.2 _ (lt z (by simp)).symm).trans q5;have I2:aH X AM σ (aX H s.heap.objs.size (.tup [x,y])) {s with heap:=h2,toks:=tk}:=
   I.turnedNew hf (λc o hc q=>(sb2.2 c (λe=>hc (by simp[e]))).trans (k1 c o (λe=>hc (by simp[e])) (λe=>hc (by simp[e])) (λe=>hc (by simp[e])) (λe=>hc (by simp[e])) q)) (am _)
    ⟨⟨by show 2<=sizeLine;decide,_,t2,rfl⟩,[vx,vy],.cons rx (.cons ry .nil),⟨_,t2,rfl,_,rfl⟩⟩
  refine⟨.ref s.heap.objs.size,_,I2,rfl,⟨_,x,y,I.hok.fresh (am _),rfl,rfl,λzs hz=>by rw[I.seqF_inj hz hx];exact ex,λzs hz=>by rw[I.seqF_inj hz hy];exact ey⟩,
   ⟨z2,(sb2.2 _ zr.tiz).trans (k1 _ _ zr.tiz zr.tito zr.ti1 zr.ti2 e2),⟨_,_,(sb2.2 _ zr.toz).trans q2⟩,q3.1.keep λo q=>(sb2.2 _ zr.i1z).trans q,q4.1.keep λo q=>(sb2.2 _ zr.i2z).trans q⟩,λc hc=>?_⟩
  rw[bS (lt c hc)];exact(hf c hc).1
 done:=by
  intro X hP hw hK hc i AM s σ H E I hf st hg;subst hP hw hK;obtain⟨xs,ys,hx,hy,fin⟩:=hg;obtain⟨its,r1,p1,_⟩:=I.seqF hx;obtain⟨jts,r2,p2,_⟩:=I.seqF hy;have l1:=r1.length;have l2:=r2.length;obtain⟨e1,e2,⟨u,v,e3⟩,e4,e5⟩:=st;have na:∀c∈[z,TI,TO,i1,i2],a≠c:=λc hc=>I.apart (hf c hc) hx;have nb:∀c∈[z,TI,TO,i1,i2],b≠c:=λc hc=>I.apart (hf c hc) hy;have hd:X.A.in1.handled=none:=I.ok.hd hc;have D1:=tR (prog:=X.prog) (w:=X.w) f1 hd i1 a (na i1 (by simp)) its.toArray;have D2:=tR (prog:=X.prog) (w:=X.w) f2 hd i2 b (nb i2 (by simp)) jts.toArray;refine Go D1 D2 (zr.ap na nb) e1 e2 e3 ⟨e4,p1⟩ ⟨e5,p2⟩ (by rw[aq,aq,<-l1,<-l2];exact fin) λh' tk k=>⟨rfl,?_⟩;exact I.turnedL hf λc o hc q=>k c o (λe=>hc (by simp[e])) (λe=>hc (by simp[e])) (λe=>hc (by simp[e])) (λe=>hc (by simp[e])) q
 self:=λ_ _ _ _ _ st h=>wpAny_pyIter_zip st.1 h
section
variable{X:Cx}{elts:List af}{x1:Nat}{tp:ah}
def Y4(K:ae)(tl:TA):TI:=λσ H R=>tl σ H λvs H1=>∃f1 a f2 b xs ys,vs=[.ref a,.ref b]/\iF f1 K H1 a xs/\iF f2 K H1 b ys/\R (Wn K f1 a f2 b) H1
theorem N5{l r:af}{tl:TA}{p pos:ah}(hg:Gl X "zip")(hm:X.mg "zip"=none)(hl:PA X [l,r] tl)(hs:starEach [l,r] X.env=[(false,eval l X.env),(false,eval r X.env)]:=by rfl)(hs2:starEach [r] X.env=[(false,eval r X.env)]:=by rfl):
  PI X (.Tuple elts x1 tp) (.Call (.Name "zip" p) [l,r] [] pos) (Y4 X.K tl):=by
 intro AM s σ H R I h;refine Call_ (nH I hg hm boot_zip (nr (bH (hl pos AM s σ H _ I h) λus s1 hq=>?_) (by rw[hs,hs2]) (by rw[hs2];rfl)));rcases hq with⟨vs,H1,I1,r1,q1⟩;obtain⟨f1,a,f2,b,xs,ys,rfl,hx,hy,q⟩:=q1;obtain⟨u,v,rfl,ru,rv⟩:=Am r1;cases ru;cases rv;obtain⟨its,_,p1,_⟩:=I1.seqF hx;obtain⟨jts,_,p2,_⟩:=I1.seqF hy;refine Xo (Jm f1 a its.toArray) (Jm f2 b jts.toArray) (λh g=>g.keep λo z=>ao _ z) p1 p2 (Jg _ _) (Jg _ _) λh' e1 e2 e3 e4 e5 k=>?_;refine wpAny_pyIter_zip (s:={s1 with heap:=h'}) e1 ?_;have zr:vE (s1.heap.objs.size+4) (s1.heap.objs.size+2) (s1.heap.objs.size+3) s1.heap.objs.size (s1.heap.objs.size+1):=by
  generalize s1.heap.objs.size=n;have g:∀i j:Nat,i≠j->((n:Nat)+i:Nat)≠n+j:=λi j h=>by omega
  exact⟨g 2 4 (by decide),g 3 4 (by decide),g 0 4 (by decide),g 1 4 (by decide),g 2 3 (by decide),g 2 0 (by decide),g 2 1 (by decide),g 3 0 (by decide),g 3 1 (by decide),g 0 1 (by decide)⟩
 refine⟨_,[s1.heap.objs.size+4,s1.heap.objs.size+2,s1.heap.objs.size+3,s1.heap.objs.size,s1.heap.objs.size+1],_,_,H1,rfl,I1.kept (t':=s1.toks) k,Au f1 f2 a b _ _ _ _ _ zr,⟨e1,e2,⟨_,_,e3⟩,Ze f1 a _ e4,Ze f2 b _ e5⟩,λc hc=>?_,q⟩;have hb:s1.heap.objs.size<=c:=by
  simp only[ay,de,or_false]at hc;rcases hc with q |q |q |q |q
  all_goals rw[q]
  all_goals first |exact am _ |exact Nat.le_add_right _ _
 exact I1.fpOk hb (I1.hok.fresh hb)
end
theorem D6(K:ae):lb K (.type "int") (.type "bool")=some false:=by
 unfold lb PySem.W.kitCls;rw[if_neg (by decide)];show(if PySem.W.kitMeta "bool"=true then PySem.W.subIn K (.type "int") (.type "bool")else none)=some false;rw[if_pos (by decide+kernel)];show(fastBuiltinMro "int").map (·.contains (.type "bool"))=some false;decide+kernel
structure mL(K:ae)(x qual:Str)(st:Stmt)(f:Addr)(fd:bn)(ds:Array Value):Prop where
 ex:∃(oc:Value)(od:AG)(T:Addr)(oT:Obj)(n:Nat)(kV doc pm:Value)(an:AG)(cdv ct:Value)(osl:Array AF),
  fd=dm x qual (fP st) (dS st) (bU st) (.ref T) kV doc pm an cdv ct/\K.lookup f=some ⟨oc,od,.func fd,osl⟩/\jk K cdv qual=true/\K.lookup T=some oT/\oT.data=.seq ds n
 kp:fg K (.ref f)=true
section
variable{P:Program}{w:aj}{K:ae}{mg:Str->AF}{base:Heap}
theorem mL.binds{x qual:Str}{st:Stmt}{f:Addr}{fd:bn}{ds:Array Value}{ps:List Str}{dd:AE}(F:mL K x qual st f fd ds)
  (h:∀(T:Addr)(kV doc pm:Value)(an:AG)(cdv ct:Value)(us:AE),(us++dd).length=ps.length->
   ∃k,bindArgs (dm x qual (fP st) (dS st) (bU st) (.ref T) kV doc pm an cdv ct) ⟨us,[]⟩=seqItems? (.ref T) >>= k/\k (some ds)=pure (ps.zip (us++dd))):iL K fd ps dd:=by
 obtain⟨oc,od,T,oT,n,kV,doc,pm,an,cdv,ct,osl,rfl,lk,hcd,lT,hT⟩:=F.ex;intro s us hK hl;obtain⟨k,h1,h2⟩:=h T kV doc pm an cdv ct us hl;exact PySem.W.binds_K hK rfl lT hT h1 h2
theorem Lw{x qual:Str}{st:Stmt}{f T:Addr}{oT:Obj}{n:Nat}{ds:Array Value}{oc:Value}{od an:AG}{osl:Array AF}{kV doc pm cdv ct:Value}(l:K.lookup f=some ⟨oc,od,.func (dm x qual (fP st) (dS st) (bU st) (.ref T) kV doc pm an cdv ct),osl⟩)
  (c:jk K cdv qual=true)(k:fg K (.ref f)=true)(lT:K.lookup T=some oT)(hT:oT.data=.seq ds n):mL K x qual st f (dm x qual (fP st) (dS st) (bU st) (.ref T) kV doc pm an cdv ct) ds:=
 ⟨⟨oc,od,T,oT,n,kV,doc,pm,an,cdv,ct,osl,rfl,l,c,lT,hT⟩,k⟩
end
theorem Rk{X:Cx}{sc:Scope}{own:List Str}{cap:List (Nat×Str)}(so:Scope)(N:List Str)(hso:X.env.scope=so)(hN:X.N=N)(kind:sc.kind=.function)(names:∀y∈sc.names,y.2=.local->sc.names.lookup y.1=some .local)
  (nocell:∀y∈sc.names,y.2≠.cell)(free:∀y∈sc.names,y.2=.free->so.names.lookup y.1=some .cell)(at':∀p∈cap,N[p.1]?=some p.2)(hcap:∀p∈cap,sc.names.lookup p.2=some .free):gL X sc own cap:=
 ⟨kind,names,nocell,λy hy e=>by show X.env.scope.names.lookup y.1=_;rw[hso];exact free y hy e,λp hp=>by rw[hN];exact at' p hp,hcap⟩
theorem xW(n d:Nat):HT.sIx (n+1) d (some (-1))=n:=by
 unfold HT.sIx;simp;omega
section
variable{X:Cx}
end
theorem eP.has{P:Program}{w:aj}{H:Hp}{h:Heap}{a:Addr}{o:HO}(x:eP P w H h a o):∃u,h.get? a=some u:=by
 cases o with
 |lst xs=>obtain⟨_,_,_,_,e⟩:=x;exact⟨_,e⟩
 |tup xs=>obtain⟨_,_,_,u,e,_⟩:=x;exact⟨u,e⟩
 |dK kvs=>obtain⟨_,_,_,_,o,_,_,e,_⟩:=x;exact⟨_,e⟩
 |dT kvs=>obtain⟨_,_,_,_,o,_,_,e,_⟩:=x;exact⟨_,e⟩
 |set S n=>obtain⟨o,_,_,_,e,_⟩:=x;exact⟨_,e⟩
 |ins C dx fs=>obtain⟨_,_,_,e,_⟩:=x;exact⟨_,e⟩
 |own y=>exact x
 |xd fs=>obtain⟨_,⟨_,_,_,e,_⟩,_⟩:=x;exact⟨_,e⟩
 |rng lo hi=>obtain⟨_,_,_,e⟩:=x;exact⟨_,e⟩
 |frz ob u=>obtain⟨e,_⟩:=x;exact⟨_,e⟩
 |tbl ps=>exact⟨_,show h.get? a=some _ from x⟩
 |met f y=>exact⟨_,show h.get? a=some _ from x⟩
 |ext φ=>exact x.2.1
abbrev lO:AE:=[.type "ValueError",.type "Exception",.type "BaseException",.type "object"]
theorem Hz{K:ae}{h:Heap}{C:Addr}{bmB:AE}{newId:String}(X:K.In h)(q:je K C bmB newId=true):
  ∃bm N nm qn bs hdct sn sub ab col dd k0 k1 k2 k3 k5 mN,h.get? C=some (excClassObj nm qn C N bs bm hdct sn sub ab col dd k0 k1 k2 k3 k5 newId)/\h.Ns N mN/\mN "__init__"=none/\OwnTail h bmB bm:=by
 unfold je at q;split at q
 .rename_i dd cd sl ho
  split at q
  .rename_i C' bm k0 k1 k2 k3 n k5 hm hs
   simp only[gj,beq_iff_eq,zb]at q;obtain⟨⟨⟨⟨⟨z1,z2⟩,hdel⟩,ht⟩,hok⟩,hni⟩:=q;subst z1 z2;obtain⟨nm,bs,mro,ns,qn,hd,sn,sub,ab,col,del⟩:=cd;dsimp only at hm hdel hok hni;subst hm hdel;have hsl:sl=#[k0,k1,k2,k3,some (.builtin n),k5]:=by
    obtain⟨l⟩:=sl;simp only at hs;rw[hs]
   subst hsl;refine⟨bm,ns,nm,qn,bs,hd,sn,sub,ab,col,dd,k0,k1,k2,k3,k5,_,X _ _ ho,.of_isNs (PySem.W.isNs_of_in X hok),PySem.W.nsMap_none_of_in X hok hni,PySem.W.tail_of_in X ht⟩
  .cases q
 .cases q
def fZ(P:Program)(w:aj):iH:=λouter H s E e s'=>∃(x C t:Addr)(B:Heap)(H':Hp),e=.ref x/\s'.os=s.os/\iy s'.gens/\Un (eC outer) [] H H' s.heap s'.heap/\eJ P w H' s'.heap/\
 Heap.FlyingW B outer x (.ref C) (.ref t) s'.heap/\(∀b o,s'.heap.get? b=some o->(∃u,H' b=some u)\/(∃o',s.heap.get? b=some o'/\b∉eC outer)->B.get? b=some o)/\E (.ref C) none H'
theorem Tt{P:Program}{w:aj}{K:ae}{mg:Str->AF}{base:Heap}{N:List Str}{qual:Str}{scope:Scope}{f:Addr}{cd:Value}{A:ak}{outer:List av}{AN:aa}{AO:Hp}{E:XK}
  {x:Str}{C:Addr}{txt:Str}{j:Nat}{np p1 cpos pos:ah}(hg:Gl (eB (fZ P w) P w K mg base N qual scope f cd A outer AN AO E) x)(hm:mg x=some (.ref C))(hx:je K C lO "ValueError.__new__"=true)
  (hd:(x==("__debug__":Str))=false:=by decide):
  PS (eB (fZ P w) P w K mg base N qual scope f cd A outer AN AO E) (.Raise (some (.Call (.Name x np) [.Constant (.str txt) j p1] [] cpos)) none pos) (λ_ _ H=>E (.ref C) none H):=by
 intro AM s σ H D I h;obtain⟨bm,Nn,nm,qn,bs,hdct,sn,sub,ab,col,dd,k0,k1,k2,k3,k5,mN,hC,hN,hni,T⟩:=Hz I.ok.mod.kin hx;refine wpAny_Raise_call_subT (C:=C) (nm:=nm) (q:=qn) (N:=Nn) (bs:=bs) (bm:=bm) (hdct:=hdct) (sn:=sn) (sub:=sub) (ab:=ab) (col:=col) (dd:=dd) (k0:=k0) (k1:=k1) (k2:=k2) (k3:=k3) (k5:=k5)
  PySem.F.excBase_ValueError (mN:=mN) (T.hasType (by decide)) (I.ok.hd rfl) rfl hni (Ni I hg hm ⟨rfl,?_⟩ hd)
 refine uj (bH ((oK J2 qR) cpos AM s σ H (λvs H1=>vs=[.str txt]/\H1=H) I ⟨rfl,rfl⟩) λus s2 q2=>?_);obtain⟨vs,H2,I2,r2,rfl,rfl⟩:=q2;have l2:=r2.length;refine⟨rfl,by rw[<-l2];show 1<=sizeLine;decide,I2.bk _ _ hC,hN.keeps I2.bk,T.keeps I2.bk,λh' e made=>?_⟩
 --the frame is left
 have stk:(eB (fZ P w) P w K mg base N qual scope f cd A outer AN AO E).stack=envOfC qual scope AN.heap.objs.size f cd::outer:=rfl;have nfr:∀{b u},H2 b=some u->b∉eC (envOfC qual scope AN.heap.objs.size f cd::outer):=λ{b u} q z=>by
  rw[I2.stkFree b z]at q;cases q
 have nL:∀{b o},AN.heap.get? b=some o->b∉eC outer->b∉eC (envOfC qual scope AN.heap.objs.size f cd::outer):=λ{b o} q z y=>by
  rcases ay.mp (I2.stkSub b y)with g |g
  .exact absurd (cy (au q) I2.ok.above) (by rw[g];exact gw _)
  .exact z g
 refine wpAny_leaves_madeW (base:=si s2.heap (eC (envOfC qual scope AN.heap.objs.size f cd::outer))) (h:=s2.heap) (s:={s2 with heap:=h'}) I2.ok.frames rfl (λb o q=>xa _ q)
  (PySem.W.funFrames_hide I2.stack λenv he b hb=>sy.mpr ⟨env,he,hb⟩) made λh'' t fl tup nb ups=>?_
 have keepB:∀b o,s2.heap.get? b=some o->b∉eC (envOfC qual scope AN.heap.objs.size f cd::outer)->h''.get? b=some o:=λb o q z=>fl.1 b o (sj _ q z);have upS:∀b o,s2.heap.get? b=some o->(∀vs,o.data≠.fields vs)->∃sl,h''.get? b=some {o with slots:=sl}:=λb o q z=>ups b o (made.keeps b o q) z;refine⟨e,C,t,_,H2,rfl,I2.os,I2.bare,⟨λb o q n hb _=>?_,λb o q n hb _=>?_,λb o q n _=>I2.base.free b o q n (by intro z;cases z),λb o q _=>?_,I2.base.tups,I2.base.frzs,I2.base.tbls⟩,λb u q=>?_,fl,λb o q z=>?_,h⟩
 .exact keepB b o (I2.base.keep b o q n hb (by intro z;cases z)) (nL q hb)
 .obtain⟨sl,g⟩:=I2.base.slot b o q n hb (by intro z;cases z)
  obtain⟨_,o',ho',hd'⟩:=I2.ok.funs.mem hb;have eo:o'=o:=by
   have ho2:AN.heap.get? b=some o':=ho';rw[q]at ho2;exact(ck ho2).symm
  subst eo;obtain⟨sl',g'⟩:=upS b _ g hd';exact⟨sl',g'⟩
 .obtain⟨o',g⟩:=I2.base.there b o q (by intro z;cases z)
  by_cases c:b∈eC (envOfC qual scope AN.heap.objs.size f cd::outer)
  .obtain⟨_,o2,ho2,hd2⟩:=I2.stack.mem c
   obtain⟨sl,g'⟩:=upS b o2 ho2 hd2;exact⟨_,g'⟩
  .exact⟨o',keepB b o' g c⟩
 .refine(I2.hok b u q).stay (λc v hc g=>keepB c v g ?_) (λ_ g=>g) λ_ _ g=>g
  rcases hc with z |z
  .rw[z]
   exact nfr q
  .exact nfr z
 .have go:∀{o2},s2.heap.get? b=some o2->b∉eC (envOfC qual scope AN.heap.objs.size f cd::outer)->(si s2.heap (eC (envOfC qual scope AN.heap.objs.size f cd::outer))).get? b=some o:=λ{o2} g n=>by
   have:=keepB b o2 g n;have q':h''.get? b=some o:=q;rw[q']at this;cases this;exact sj _ g n
  rcases z with⟨u,z⟩|⟨o',z,nz⟩
  .obtain⟨o2,g⟩:=(I2.hok b u z).has
   exact go g (nfr z)
  .obtain⟨o2,g⟩:=I2.base.there b o' z (by intro z;cases z)
   exact go g (nL z nz)
section
variable{X:Cx}{AM:List (Addr×Obj)}{σ:St}{H H':Hp}{s s':aa}
end
section
variable{X:Cx}{k:Nat}{f:Addr}{fd:bn}{ps:List Str}{sp:Sp}{dvs:List V}{ds:AE}{E:XK}{x:Str}{p pos:ah}{e:af}{es:List af}{t:TA}
end
section
variable{P:Program}{w:aj}{K:ae}{mg:Str->AF}{base:Heap}{CX:iH}
theorem gR.okX{x qual:Str}{st:Stmt}{f:Addr}{fd:bn}{N ps:List Str}{k:Nat}{sp:Sp}(F:gR K x qual st f fd)(S:gI N ps (bU st))(len:∀vs H Q E,sp vs H Q E->vs.length=ps.length)
  (hbody:∀(cdv:Value)(A:ak)(outer:List av)(s:aa)(H:Hp)(vs:List V)(Q:VK)(E:XK),dF k (A.deeper (envOfC qual (bU st) s.heap.objs.size f cdv))->sp vs H Q E->
   ∃t,fG (eB CX P w K mg base N qual (bU st) f cdv A outer s H E) (dS st) t/\t {nx:=λ_ H'=>Q .non H',rt:=Q} (start N vs) H):dX P w K mg base CX (k+1) f fd ps sp:=by
 obtain⟨oc,od,kV,doc,pm,an,cdv,ct,osl,rfl,lk,hcd⟩:=F.ex;exact zT lk hcd S len λA outer s H vs Q E hr hsp=>hbody cdv A outer s H vs Q E hr hsp
theorem mL.okX{x qual:Str}{st:Stmt}{f:Addr}{fd:bn}{ds:Array Value}{N ps:List Str}{k:Nat}{sp:Sp}(F:mL K x qual st f fd ds)(S:gI N ps (bU st))(len:∀vs H Q E,sp vs H Q E->vs.length=ps.length)
  (hbody:∀(cdv:Value)(A:ak)(outer:List av)(s:aa)(H:Hp)(vs:List V)(Q:VK)(E:XK),dF k (A.deeper (envOfC qual (bU st) s.heap.objs.size f cdv))->sp vs H Q E->
   ∃t,fG (eB CX P w K mg base N qual (bU st) f cdv A outer s H E) (dS st) t/\t {nx:=λ_ H'=>Q .non H',rt:=Q} (start N vs) H):dX P w K mg base CX (k+1) f fd ps sp:=by
 obtain⟨oc,od,T,oT,n,kV,doc,pm,an,cdv,ct,osl,rfl,lk,hcd,_,_⟩:=F.ex;exact zT lk hcd S len λA outer s H vs Q E hr hsp=>hbody cdv A outer s H vs Q E hr hsp
end
section
variable{X:Cx}{AM:List (Addr×Obj)}{σ:St}{H:Hp}{s:aa}
end
section
variable{X:Cx}{AM:List (Addr×Obj)}{σ:St}{H:Hp}{s:aa}
end
section
variable{X:Cx}{k:Nat}{f:Addr}{fd:bn}{ps:List Str}{sp:Sp}{dvs:List V}{ds:AE}{x:Str}{p pos pos1 pos2 pos3 pc:ah}{e:af}{es:List af}{t:TA}{c n:Str}{C:Addr}{i:Nat}{AS:Stmt}{body:List Stmt}{newId:String}
end
open PySem.W PySem.Calls PySem.Builtin PySem.Builtin.Getset_descriptor
section
variable{prog:Program}{w:aj}{A:ak}{E:Value->aa->Prop}{s:aa}{K:ae}{x D:Addr}{B:String}{R:nv->aa->Prop}
end
section
variable{X:Cx}{y D:Addr}{oe:Obj}
end
def hF(l:AA):Int:=reduceHash (zc (l.map hashInt))
def hN(l:AC):Int:=reduceHash (zc (l.map hF))
section
variable{prog:Program}{w:aj}{A:ak}{E:Value->aa->Prop}{s:aa}{h h':Heap}{a b d:Addr}
end
def pG:Bool->Type
 |false=>AA
 |true=>AC
instance decK:(n:Bool)->DecidableEq (pG n)
 |false=>inferInstanceAs (DecidableEq AA)
 |true=>inferInstanceAs (DecidableEq AC)
def Q1:(n:Bool)->pG n->Int
 |false=>hF
 |true=>hN
end L2
namespace L2.Pp
open PySem PySem.Spec PyProof.Rows Bn
section
inductive PV where
 |non |bl (b:Bool) |int (i:Int) |str (x:Str) |tup (xs:List PV) |lst (xs:List PV)
abbrev AI:=List PV
abbrev AJ:=Option PV
inductive SO where
 |lst (xs:AI)
 |lol (xss:List AI)
 |dic (n:Bool) (kvs:List (PV×PV))
 |dol (n:Bool) (kvs:List (PV×AI))
abbrev aG:=List SO
inductive AV where
 |pv (v:PV) |ref (k:Nat)
abbrev AK:=Option AV
abbrev AL:=List AV
abbrev bR:=List AK
inductive bI(α:Type) where
 |ok (a:α) (S:aG) |exc (n:Str) (S:aG) |fail
def bI.bind{α β:Type}(r:bI α)(k:α->aG->bI β):bI β:=match r with
 |.ok a S=>k a S
 |.exc n S=>.exc n S
 |.fail=>.fail
inductive cH where
 |nx (ρ:bR) (S:aG) |rt (v:AV) (S:aG) |bk (ρ:bR) (S:aG) |ct (ρ:bR) (S:aG) |exc (n:Str) (S:aG) |fail
def iW(K:ae)(c:Addr->Prop)(H:Hp)(a:Addr)(vs:List V):Prop:=
 (H a=some (.lst vs)/\¬c a)\/(∃o,H a=some (.frz o (.lst vs)))\/
  ∃(o:Obj)(its:Array Value)(n:Nat),K.lookup a=some o/\o.cls=.type "list"/\o.dict=none/\o.data=.seq its n/\its.size<=sizeLine/\bG vs its.toList
theorem iW.sq{K:ae}{c:Addr->Prop}{H:Hp}{a:Addr}{vs:List V}(h:iW K c H a vs):bN K H a vs:=by
 rcases h with h |h |h
 .exact .inl (.inl h.1)
 .exact .inl (.inr h)
 .exact .inr h
mutual
def aT(K:ae)(c:Addr->Prop)(H:Hp):PV->V->Prop
 |.non,x=>x=.non
 |.bl b,x=>x=.bl b
 |.int i,x=>x=.int i
 |.str s,x=>x=.str s
 |.tup xs,x=>∃a vs,x=.ref a/\cE K H a vs/\vs.length<=sizeLine/\aQ K c H xs vs
 |.lst xs,x=>∃a vs,x=.ref a/\iW K c H a vs/\vs.length<=sizeLine/\aQ K c H xs vs
def aQ(K:ae)(c:Addr->Prop)(H:Hp):AI->List V->Prop
 |[],vs=>vs=[]
 |p::ps,vs=>∃v r,vs=v::r/\aT K c H p v/\aQ K c H ps r
end
section
variable{K:ae}{c c':Addr->Prop}{H H':Hp}
mutual
theorem aT.mono(hT:∀a vs,cE K H a vs->cE K H' a vs)(hL:∀a vs,iW K c H a vs->iW K c' H' a vs):∀(v:PV)(x:V),aT K c H v x->aT K c' H' v x
 |.non,x,h=>h
 |.bl b,x,h=>h
 |.int i,x,h=>h
 |.str s,x,h=>h
 |.tup xs,x,h=>by
  unfold aT at h⊢;obtain⟨a,vs,e,t,z,r⟩:=h;exact⟨a,vs,e,hT a vs t,z,aQ.mono hT hL xs vs r⟩
 |.lst xs,x,h=>by
  unfold aT at h⊢;obtain⟨a,vs,e,t,z,r⟩:=h;exact⟨a,vs,e,hL a vs t,z,aQ.mono hT hL xs vs r⟩
theorem aQ.mono(hT:∀a vs,cE K H a vs->cE K H' a vs)(hL:∀a vs,iW K c H a vs->iW K c' H' a vs):∀(v:AI)(x:List V),aQ K c H v x->aQ K c' H' v x
 |[],vs,h=>by
  unfold aQ at h⊢;exact h
 |p::ps,vs,h=>by
  unfold aQ at h⊢;obtain⟨v,r,e,h1,h2⟩:=h;exact⟨v,r,e,aT.mono hT hL p v h1,aQ.mono hT hL ps r h2⟩
end
theorem aQ.length:∀{xs:AI}{vs:List V},aQ K c H xs vs->xs.length=vs.length
 |[],vs,h=>by
  unfold aQ at h;rw[h];rfl
 |p::ps,vs,h=>by
  unfold aQ at h;obtain⟨v,r,rfl,_,h2⟩:=h;rw[ca,ca,aQ.length h2]
theorem aQ.get:∀{xs:AI}{vs:List V}{i:Nat}{p:PV},aQ K c H xs vs->xs[i]?=some p->∃v,vs[i]?=some v/\aT K c H p v
 |[],vs,i,p,h,e=>by simp at e
 |q::ps,vs,0,p,h,e=>by
  unfold aQ at h;obtain⟨v,r,rfl,h1,_⟩:=h;simp at e;subst e;exact⟨v,rfl,h1⟩
 |q::ps,vs,i+1,p,h,e=>by
  unfold aQ at h;obtain⟨v,r,rfl,_,h2⟩:=h;obtain⟨u,e1,e2⟩:=aQ.get (i:=i) h2 (by simpa using e);exact⟨u,by simpa using e1,e2⟩
theorem aQ.nil:aQ K c H [] []:=by
 unfold aQ;rfl
theorem aQ.cons{p:PV}{v:V}{ps:AI}{vs:List V}(h:aT K c H p v)(t:aQ K c H ps vs):aQ K c H (p::ps) (v::vs):=by
 unfold aQ;exact⟨v,vs,rfl,h,t⟩
theorem aQ.append:∀{xs ys:AI}{vs ws:List V},aQ K c H xs vs->aQ K c H ys ws->aQ K c H (xs++ys) (vs++ws)
 |[],ys,vs,ws,h,g=>by
  unfold aQ at h;subst h;exact g
 |p::ps,ys,vs,ws,h,g=>by
  unfold aQ at h;obtain⟨v,r,rfl,h1,h2⟩:=h;exact .cons h1 (h2.append g)
theorem aQ.drop:∀{xs:AI}{vs:List V}(n:Nat),aQ K c H xs vs->aQ K c H (xs.drop n) (vs.drop n)
 |xs,vs,0,h=>by simpa using h
 |[],vs,n+1,h=>by
  unfold aQ at h;subst h;simpa using aQ.nil
 |p::ps,vs,n+1,h=>by
  unfold aQ at h;obtain⟨v,r,rfl,_,h2⟩:=h;simpa using h2.drop n
theorem aQ.take:∀{xs:AI}{vs:List V}(n:Nat),aQ K c H xs vs->aQ K c H (xs.take n) (vs.take n)
 |xs,vs,0,h=>by simpa using aQ.nil
 |[],vs,n+1,h=>by
  unfold aQ at h;subst h;simpa using aQ.nil
 |p::ps,vs,n+1,h=>by
  unfold aQ at h;obtain⟨v,r,rfl,h1,h2⟩:=h;simpa using aQ.cons h1 (h2.take n)
theorem aQ.eraseIdx:∀{xs:AI}{vs:List V}(n:Nat),aQ K c H xs vs->aQ K c H (xs.eraseIdx n) (vs.eraseIdx n)
 |[],vs,n,h=>by
  unfold aQ at h;subst h;simpa using aQ.nil
 |p::ps,vs,0,h=>by
  unfold aQ at h;obtain⟨v,r,rfl,h1,h2⟩:=h;simpa using h2
 |p::ps,vs,n+1,h=>by
  unfold aQ at h;obtain⟨v,r,rfl,h1,h2⟩:=h;simpa using aQ.cons h1 (h2.eraseIdx n)
theorem aQ.set{p:PV}{v:V}(g:aT K c H p v):∀{xs:AI}{vs:List V}(n:Nat),aQ K c H xs vs->aQ K c H (xs.set n p) (vs.set n v)
 |[],vs,n,h=>by
  unfold aQ at h;subst h;simpa using aQ.nil
 |q::ps,vs,0,h=>by
  unfold aQ at h;obtain⟨v,r,rfl,h1,h2⟩:=h;simpa using aQ.cons g h2
 |q::ps,vs,n+1,h=>by
  unfold aQ at h;obtain⟨v,r,rfl,h1,h2⟩:=h;simpa using aQ.cons h1 (aQ.set g n h2)
end
structure Ph where
 f:List Addr
 w:Addr->Prop
 c:Addr->Prop
def uH(K:ae)(c:Addr->Prop)(H:Hp)(xss:List AI)(bs:List Addr):Prop:=
 xss.length=bs.length/\∀(i:Nat)(xs:AI)(b:Addr),xss[i]?=some xs->bs[i]?=some b->∃vs,H b=some (.lst vs)/\vs.length<=sizeLine/\aQ K c H xs vs
def aar:(n:Bool)->pG n->PV
 |false,l=>.tup (List.map PV.int l)
 |true,l=>.tup (List.map (λr:AA=>PV.tup (r.map PV.int)) l)
def oD(es:Array DictEntry)(ep:Nat):Obj:={cls:=.type "dict",data:=.dict es ep}
def dO(a:Addr)(es:Array DictEntry)(ep:Nat):HO:=.ext λh=>h.get? a=some (oD es ep)
def enK(n:Bool)(x:pG n×Addr×Value):DictEntry:=⟨Q1 n x.1,.ref x.2.1,x.2.2⟩
def rV(K:ae)(c:Addr->Prop)(H:Hp)(a:Addr)(n:Bool)(ks:AI)(us:AE):Prop:=
 ∃(xs:List (pG n×Addr×Value))(ep:Nat),H a=some (dO a (xs.map (enK n)).toArray ep)/\(a==sysModules)=false/\xs.length<=sizeLine/\(xs.map (·.1)).Nodup/\ks=xs.map (λx=>aar n x.1)/\aQ K c H ks (xs.map λx=>V.ref x.2.1)/\us=xs.map (·.2.2)
def pF(K:ae)(p:Ph)(H:Hp)(a:Addr):SO->Prop
 |.lst xs=>∃vs,H a=some (.lst vs)/\vs.length<=sizeLine/\aQ K p.c H xs vs
 |.lol xss=>∃bs:List Addr,H a=some (.lst (bs.map V.ref))/\bs.length<=sizeLine/\bs.Nodup/\(∀b∈bs,p.w b/\b∉p.f)/\uH K p.c H xss bs
 |.dic n kvs=>∃us vs,rV K p.c H a n (kvs.map (·.1)) us/\bG vs us/\aQ K p.c H (kvs.map (·.2)) vs
 |.dol n kvs=>∃bs:List Addr,rV K p.c H a n (kvs.map (·.1)) (bs.map ft)/\bs.Nodup/\(∀b∈bs,p.w b/\b∉p.f)/\uH K p.c H (kvs.map (·.2)) bs
theorem rV.mono{K:ae}{c c':Addr->Prop}{H H':Hp}{a:Addr}{n:Bool}{ks:AI}{us:AE}(h:rV K c H a n ks us)(ha:∀o,H a=some o->H' a=some o)(hR:∀xs vs,aQ K c H xs vs->aQ K c' H' xs vs):rV K c' H' a n ks us:=by
 obtain⟨xs,ep,e,z,l,nd,ek,r,eu⟩:=h;exact⟨xs,ep,ha _ e,z,l,nd,ek,hR _ _ r,eu⟩
theorem pF.mono{K:ae}{p p':Ph}{H H':Hp}{a:Addr}{o:SO}(h:pF K p H a o)(ha:∀o,H a=some o->H' a=some o)
  (hb:∀b,p.w b->b∉p.f->(p'.w b/\b∉p'.f)/\∀vs,H b=some (.lst vs)->H' b=some (.lst vs))(hR:∀xs vs,aQ K p.c H xs vs->aQ K p'.c H' xs vs):pF K p' H' a o:=by
 have lol:∀{xss:List AI}{bs:List Addr},(∀b∈bs,p.w b/\b∉p.f)->uH K p.c H xss bs->uH K p'.c H' xss bs:=λwf ⟨z,at_⟩=>⟨z,λi xs b e1 e2=>by
  obtain⟨vs,g1,g2,g3⟩:=at_ i xs b e1 e2;have m:=wf b (db e2);exact⟨vs,(hb b m.1 m.2).2 vs g1,g2,hR xs vs g3⟩⟩
 cases o with
 |lst xs=>
  obtain⟨vs,e,l,r⟩:=h;exact⟨vs,ha _ e,l,hR xs vs r⟩
 |lol xss=>
  obtain⟨bs,e,l,nd,wf,z⟩:=h;exact⟨bs,ha _ e,l,nd,λb m=>(hb b (wf b m).1 (wf b m).2).1,lol wf z⟩
 |dic n kvs=>
  obtain⟨us,vs,d,v,r⟩:=h;exact⟨us,vs,d.mono ha hR,v,hR _ _ r⟩
 |dol n kvs=>
  obtain⟨bs,d,nd,wf,z⟩:=h;exact⟨bs,d.mono ha hR,nd,λb m=>(hb b (wf b m).1 (wf b m).2).1,lol wf z⟩
def Mb:HO->Prop
 |.lst _=>True
 |.dK _=>True
 |.dT _=>True
 |.ins _ _ _=>True
 |.ext _=>True
 |_=>False
structure aW(K:ae)(p:Ph)(S:aG)(H:Hp):Prop where
 nd:p.f.Nodup
 len:p.f.length=S.length
 sub:∀a∈p.f,p.w a
 wc:∀a,p.w a->p.c a
 mu:∀a,p.c a->∃o,H a=some o/\Mb o
 obj:∀(k:Nat)(a:Addr)(o:SO),p.f[k]?=some a->S[k]?=some o->pF K p H a o
structure bK(p:Ph)(H:Hp)(q:Ph)(H':Hp):Prop where
 wc:∀a,p.w a->p.c a
 mu:∀a,p.c a->∃o,H a=some o/\Mb o
 pre:p.f <+:q.f
 mw:∀a,p.w a->q.w a
 mono:∀a,p.c a->q.c a
 nf:∀a∈q.f,a∉p.f->H a=none
 nw:∀a,q.w a->¬p.w a->H a=none
 nc:∀a,q.c a->¬p.c a->H a=none
 keep:∀a o,H a=some o->¬p.w a->H' a=some o
def cK(K:ae)(p:Ph)(H:Hp):AV->V->Prop
 |.pv v,x=>aT K p.c H v x
 |.ref k,x=>∃a,p.f[k]?=some a/\x=.ref a
abbrev fO(K:ae)(p:Ph)(H:Hp):AL->List V->Prop:=kg (cK K p H)
structure dI(K:ae)(p:Ph)(H:Hp)(ρ:bR)(σ:St):Prop where
 len:ρ.length=σ.length
 at_:∀(i:Nat)(v:AV),ρ[i]?=some (some v)->∃x,σ[i]?=some (some x)/\cK K p H v x
section
variable{K:ae}{p q r:Ph}{H H' H'':Hp}{S:aG}
theorem aW.step(s:aW K p S H):bK p H p H:=⟨s.wc,s.mu,jn,λ_ h=>h,λ_ h=>h,λ_ h g=>absurd h g,λ_ h g=>absurd h g,λ_ h g=>absurd h g,λ_ _ h _=>h⟩
theorem bK.trans(a:bK p H q H')(b:bK q H' r H''):bK p H r H'':=by
 have back:∀x,H' x=none->¬p.w x->H x=none:=λx h n=>by
  cases e:H x with
  |none=>rfl
  |some o=>rw[a.keep x o e n]at h;cases h
 refine⟨a.wc,a.mu,a.pre.trans b.pre,λx h=>b.mw x (a.mw x h),λx h=>b.mono x (a.mono x h),λx h n=>?_,λx h n=>?_,λx h n=>?_,λx o e n=>?_⟩
 .by_cases m:x∈q.f
  .exact a.nf x m n
  .have hn:=b.nf x h m
   refine back x hn λz=>?_;obtain⟨o,ho,_⟩:=b.mu x (a.mono x (a.wc x z));rw[hn]at ho;cases ho
 .by_cases m:q.w x
  .exact a.nw x m n
  .exact back x (b.nw x h m) n
 .by_cases m:q.c x
  .exact a.nc x m n
  .exact back x (b.nc x h m) λz=>n (a.wc x z)
 .refine b.keep x o (a.keep x o e n) λz=>?_
  rw[a.nw x z n]at e;cases e
theorem bK.tup(s:bK p H q H'){a:Addr}{vs:List V}(h:cE K H a vs):cE K H' a vs:=by
 have go:∀o,H a=some o->¬Mb o->H' a=some o:=λo e n=>s.keep a o e λz=>by
  obtain⟨u,e',m⟩:=s.mu a (s.wc a z);rw[e]at e';cases e';exact n m
 rcases h with(h |⟨o,h⟩) |h
 .exact .inl (.inl (go _ h (λz=>z)))
 .exact .inl (.inr ⟨o,go _ h (λz=>z)⟩)
 .exact .inr h
theorem bK.lat(s:bK p H q H'){a:Addr}{vs:List V}(h:iW K p.c H a vs):iW K q.c H' a vs:=by
 rcases h with⟨h,n⟩|⟨o,h⟩|h
 .refine .inl ⟨s.keep a _ h λz=>n (s.wc a z),λz=>?_⟩
  rw[s.nc a z n]at h;cases h
 .refine .inr (.inl ⟨o,s.keep a _ h λz=>?_⟩)
  obtain⟨u,e',m⟩:=s.mu a (s.wc a z);rw[h]at e';cases e';exact m
 .exact .inr (.inr h)
theorem bK.rep(s:bK p H q H'){v:PV}{x:V}(h:aT K p.c H v x):aT K q.c H' v x:=aT.mono (λ_ _=>s.tup) (λ_ _=>s.lat) v x h
theorem bK.reps(s:bK p H q H'){v:AI}{x:List V}(h:aQ K p.c H v x):aQ K q.c H' v x:=aQ.mono (λ_ _=>s.tup) (λ_ _=>s.lat) v x h
theorem bK.at_(s:bK p H q H'){k:Nat}{a:Addr}(h:p.f[k]?=some a):q.f[k]?=some a:=by
 obtain⟨t,e⟩:=s.pre;rw[<-e,dz (by
  have:=bf.mp h;exact this.1)]
 exact h
theorem bK.repA(s:bK p H q H'){v:AV}{x:V}(h:cK K p H v x):cK K q H' v x:=by
 cases v with
 |pv v=>exact s.rep h
 |ref k=>
  obtain⟨a,e,f⟩:=h;exact⟨a,s.at_ e,f⟩
theorem bK.repE(s:bK p H q H'){ρ:bR}{σ:St}(h:dI K p H ρ σ):dI K q H' ρ σ:=
 ⟨h.len,λi v e=>let⟨x,e1,e2⟩:=h.at_ i v e;⟨x,e1,s.repA e2⟩⟩
theorem aW.same(s:aW K p S H)(h:cR H H'):bK p H p H':=⟨s.wc,s.mu,jn,λ_ h=>h,λ_ h=>h,λ_ h g=>absurd h g,λ_ h g=>absurd h g,λ_ h g=>absurd h g,λa o e _=>h a o e⟩
theorem aW.ofSame(s:aW K p S H)(h:cR H H'):aW K p S H':=
 ⟨s.nd,s.len,s.sub,s.wc,λa m=>let⟨o,e,m⟩:=s.mu a m;⟨o,h a o e,m⟩,λk a o e1 e2=>by
  exact(s.obj k a o e1 e2).mono (λvs e=>h _ _ e) (λb w f=>⟨⟨w,f⟩,λvs e=>h _ _ e⟩) λxs vs=>(s.same h).reps⟩
theorem gA{a:Addr}{o:HO}(h:H a=none):cR H (aX H a o):=λb u e=>by
 rw[bS (fH e h)];exact e
end
section
variable{α β γ δ:Type}
def bV(K:ae)(cl:Str->Addr)(R:Ph->Hp->α->β->Prop)(p:Ph)(H:Hp)(r:bI α)(Q:β->Hp->Prop)(E:XK):Prop:=match r with
 |.ok a S=>∀q H' x,bK p H q H'->aW K q S H'->R q H' a x->Q x H'
 |.exc n S=>∀q H',bK p H q H'->aW K q S H'->E (.ref (cl n)) none H'
 |.fail=>False
def dW(K:ae)(cl:Str->Addr)(p:Ph)(H:Hp)(r:cH)(D:kN)(E:XK):Prop:=match r with
 |.nx ρ S=>∀q H' σ,bK p H q H'->aW K q S H'->dI K q H' ρ σ->D.nx σ H'
 |.bk ρ S=>∀q H' σ,bK p H q H'->aW K q S H'->dI K q H' ρ σ->D.bk σ H'
 |.ct ρ S=>∀q H' σ,bK p H q H'->aW K q S H'->dI K q H' ρ σ->D.ct σ H'
 |.rt v S=>∀q H' x,bK p H q H'->aW K q S H'->cK K q H' v x->D.rt x H'
 |.exc n S=>∀q H',bK p H q H'->aW K q S H'->E (.ref (cl n)) none H'
 |.fail=>False
variable{K:ae}{cl:Str->Addr}{p q:Ph}{H H':Hp}{S:aG}{E:XK}{R:Ph->Hp->α->β->Prop}{R':Ph->Hp->γ->δ->Prop}
theorem bV.mono{r:bI α}{Q:β->Hp->Prop}(h:bV K cl R p H r Q E)(s:bK p H q H'):bV K cl R q H' r Q E:=by
 cases r with
 |ok a S=>exact λq' H'' x s'=>h q' H'' x (s.trans s')
 |exc n S=>exact λq' H'' s'=>h q' H'' (s.trans s')
 |fail=>exact h
theorem dW.mono{r:cH}{D:kN}(h:dW K cl p H r D E)(s:bK p H q H'):dW K cl q H' r D E:=by
 cases r with
 |nx ρ S=>exact λq' H'' x s'=>h q' H'' x (s.trans s')
 |bk ρ S=>exact λq' H'' x s'=>h q' H'' x (s.trans s')
 |ct ρ S=>exact λq' H'' x s'=>h q' H'' x (s.trans s')
 |rt v S=>exact λq' H'' x s'=>h q' H'' x (s.trans s')
 |exc n S=>exact λq' H'' s'=>h q' H'' (s.trans s')
 |fail=>exact h
theorem bV.ret{a:α}{x:β}{Q:β->Hp->Prop}(h:bV K cl R p H (.ok a S) Q E)(s:aW K p S H)(r:R p H a x):Q x H:=h p H x s.step s r
theorem bV.same{a:α}{x:β}{Q:β->Hp->Prop}(h:bV K cl R p H (.ok a S) Q E)(s:aW K p S H)(e:cR H H')(r:R p H' a x):Q x H':=h p H' x (s.same e) (s.ofSame e) r
def tP(K:ae)(cl:Str->Addr)(E:XK)(R:Ph->Hp->α->β->Prop)(m:bR->aG->bI α)(σ:St)(H:Hp)(Q:β->Hp->Prop):Prop:=
 ∃p S ρ,aW K p S H/\dI K p H ρ σ/\bV K cl R p H (m ρ S) Q E
def tS(K:ae)(cl:Str->Addr)(E:XK)(m:bR->aG->cH):TS:=λD σ H=>
 ∃p S ρ,aW K p S H/\dI K p H ρ σ/\dW K cl p H (m ρ S) D E
theorem bX{m:bR->aG->bI α}{k:α->aG->bI γ}{ρ:bR}{σ:St}{Q:δ->Hp->Prop}{T:β->Hp->Prop}(s:aW K p S H)(e:dI K p H ρ σ)(h:bV K cl R' p H ((m ρ S).bind k) Q E)
  (g:∀q H' a b S',bK p H q H'->aW K q S' H'->dI K q H' ρ σ->R q H' a b->bV K cl R' q H' (k a S') Q E->T b H'):tP K cl E R m σ H T:=by
 refine⟨p,S,ρ,s,e,?_⟩;cases z:m ρ S with
 |ok a S1=>
  rw[z]at h;exact λq H' b st sm r=>g q H' a b S1 st sm (st.repE e) r (bV.mono (r:=k a S1) h st)
 |exc n S1=>
  rw[z]at h;exact h
 |fail=>
  rw[z]at h;exact h
def cH.of{α:Type}(r:bI α)(k:α->aG->cH):cH:=match r with
 |.ok a S=>k a S
 |.exc n S=>.exc n S
 |.fail=>.fail
theorem jB{m:bR->aG->bI α}{k:α->aG->cH}{ρ:bR}{σ:St}{D:kN}{T:β->Hp->Prop}(s:aW K p S H)(e:dI K p H ρ σ)(h:dW K cl p H (cH.of (m ρ S) k) D E)
  (g:∀q H' a b S',bK p H q H'->aW K q S' H'->dI K q H' ρ σ->R q H' a b->dW K cl q H' (k a S') D E->T b H'):tP K cl E R m σ H T:=by
 refine⟨p,S,ρ,s,e,?_⟩;cases z:m ρ S with
 |ok a S1=>
  rw[z]at h;exact λq H' b st sm r=>g q H' a b S1 st sm (st.repE e) r (dW.mono (r:=k a S1) h st)
 |exc n S1=>
  rw[z]at h;exact h
 |fail=>
  rw[z]at h;exact h
end
end
abbrev RB:Ph->Hp->Bool->Bool->Prop:=λ_ _ a b=>a=b
abbrev ME:=bR->aG->bI AV
abbrev MT:=bR->aG->bI Bool
abbrev MA:=bR->aG->bI AL
abbrev MS:=bR->aG->cH
section
variable(K:ae)(cl:Str->Addr)(E:XK)(X:Cx)
def aU(e:af)(m:ME):Prop:=X.K=K->PE X e (tP K cl E (cK K) m)
def eI(e:af)(m:MT):Prop:=X.K=K->PT X e (tP K cl E RB m)
def iP(e:af)(m:MT):Prop:=X.K=K->PW X e (tP K cl E RB m)
def dZ(es:List af)(m:MA):Prop:=X.K=K->PA X es (tP K cl E (fO K) m)
def eE(st:Stmt)(m:MS):Prop:=X.K=K->PS X st (tS K cl E m)
def fF(st:List Stmt)(m:MS):Prop:=X.K=K->fG X st (tS K cl E m)
end
theorem PA.imp{X:Cx}{es:List af}{t t':TA}(h:PA X es t)(i:∀σ H Q,t' σ H Q->t σ H Q):PA X es t':=λpos AM s σ H Q I q=>h pos AM s σ H Q I (i σ H Q q)
theorem PW.imp{X:Cx}{e:af}{t t':TT}(h:PW X e t)(i:∀σ H Q,t' σ H Q->t σ H Q):PW X e t':=λwh AM s σ H Q I q=>h wh AM s σ H Q I (i σ H Q q)
def aA(i:Nat):ME:=λρ S=>match ρ[i]? with
 |some (some v)=>.ok v S
 |_=>.fail
def mC(v:PV):ME:=λ_ S=>.ok (.pv v) S
def rd(S:aG):AV->AJ
 |.pv v=>some v
 |.ref k=>match S[k]? with
  |some (.lst xs)=>some (.lst xs)
  |_=>none
def fS(S:aG):AL->Option AI
 |[]=>some []
 |a::r=>match rd S a with
  |some v=>match fS S r with
   |some vs=>some (v::vs)
   |none=>none
  |none=>none
def gX(o:AJ)(S:aG):bI AV:=match o with
 |some r=>.ok (.pv r) S
 |none=>.fail
def rJ(f:PV->AJ)(a:AV)(S:aG):bI AV:=gX ((rd S a).bind f) S
def jF(f:PV->PV->AJ)(a b:AV)(S:aG):bI AV:=gX ((rd S a).bind λx=>(rd S b).bind λy=>f x y) S
def bJ(f:PV->AJ)(ma:ME):ME:=λρ S=>(ma ρ S).bind λx S1=>rJ f x S1
def aC(f:PV->PV->AJ)(ma mb:ME):ME:=λρ S=>(ma ρ S).bind λx S1=>(mb ρ S1).bind λy S2=>jF f x y S2
def aD:MA:=λ_ S=>.ok [] S
def aB(ma:ME)(mr:MA):MA:=λρ S=>(ma ρ S).bind λx S1=>(mr ρ S1).bind λxs S2=>.ok (x::xs) S2
def mF:AL->Option AI
 |[]=>some []
 |.pv v::r=>match mF r with
  |some vs=>some (v::vs)
  |none=>none
 |.ref _::_=>none
def zS(f:AI->AJ)(xs:AL)(S:aG):bI AV:=gX ((mF xs).bind f) S
def mI(f:AI->AJ)(xs:AL)(S:aG):bI AV:=gX ((fS S xs).bind f) S
def mR(f:AI->AJ)(ma:MA):ME:=λρ S=>(ma ρ S).bind λxs S1=>mI f xs S1
def mN(f:AI->AJ)(ma:MA):ME:=λρ S=>(ma ρ S).bind λxs S1=>zS f xs S1
def iV(vs:AI):AJ:=if vs.length<=16777216 then some (.tup vs)else none
def eA(vs:AI):AJ:=if vs.length<=16777216 then some (.lst vs)else none
def jN:AV->aG->bI Bool
 |.pv (.bl b),S=>.ok b S
 |_,_=>.fail
def aV(m:ME):MT:=λρ S=>(m ρ S).bind jN
def iC(m:MT):MT:=λρ S=>(m ρ S).bind λb S1=>.ok (!b) S1
def eQ(m n:MT):MT:=λρ S=>(m ρ S).bind λb S1=>if b=true then n ρ S1 else .ok false S1
def fU(m n:MT):MT:=λρ S=>(m ρ S).bind λb S1=>if b=true then .ok true S1 else n ρ S1
def rH(m n:ME):ME:=λρ S=>(m ρ S).bind λx S1=>match x with
 |.pv (.bl true)=>n ρ S1
 |.pv (.bl false)=>.ok (.pv (.bl false)) S1
 |_=>.fail
def aam(m n:ME):ME:=λρ S=>(m ρ S).bind λx S1=>match x with
 |.pv (.bl false)=>n ρ S1
 |.pv (.bl true)=>.ok (.pv (.bl true)) S1
 |_=>.fail
def rK:PV->AJ
 |.bl b=>some (.bl (!b))
 |_=>none
def mIf(c:MT)(a b:ME):ME:=λρ S=>(c ρ S).bind λt S1=>if t=true then a ρ S1 else b ρ S1
section
variable{K:ae}{cl:Str->Addr}{E:XK}{X:Cx}{a b c e:af}{es:List af}{ma mb mc m:ME}{mt nt:MT}{ms:MA}{pos:ah}
theorem J9(i:Nat){x:Str}(hN:X.N[i]?=some x:=by rfl)(hv:mP X.env.scope x:=by first |exact gn rfl |exact gr (gn rfl) |exact gr (gr rfl))(hd:(x==("__debug__":Str))=false:=by decide)
  (hcd:(x==("__classdict__":Str))=false:=by decide):aU K cl E X (.Name x pos) (aA i):=λ_=>(nI hN hv hd hcd).imp λσ H Q ⟨p,S,ρ,s,e,h⟩=>by
 unfold aA at h;cases z:ρ[i]? with
 |none=>rw[z]at h;exact h.elim
 |some o=>
  cases o with
  |none=>rw[z]at h;exact h.elim
  |some v=>
   rw[z]at h;obtain⟨x,e1,e2⟩:=e.at_ i v z;exact⟨x,e1,bV.ret h s e2⟩
theorem F6{i:Int}{j}:aU K cl E X (.Constant (.int i) j pos) (mC (.int i)):=λ_=>Lk.imp λσ H Q ⟨p,S,ρ,s,e,h⟩=>bV.ret (R:=cK K) (x:=.int i) h s (by show aT K p.c H (.int i) (.int i);unfold aT;rfl)
theorem Q0{i:Bool}{j}:aU K cl E X (.Constant (.bool i) j pos) (mC (.bl i)):=λ_=>R9.imp λσ H Q ⟨p,S,ρ,s,e,h⟩=>bV.ret (R:=cK K) (x:=.bl i) h s (by show aT K p.c H (.bl i) (.bl i);unfold aT;rfl)
theorem J1{j}:aU K cl E X (.Constant .none j pos) (mC .non):=λ_=>C4.imp λσ H Q ⟨p,S,ρ,s,e,h⟩=>bV.ret (R:=cK K) (x:=.non) h s (by show aT K p.c H .non .non;unfold aT;rfl)
def dN(K:ae)(p:Ph)(H:Hp)(v:PV)(x:V):Prop:=aT K p.c H v x\/∃xs a vs,v=.lst xs/\x=.ref a/\H a=some (.lst vs)/\vs.length<=sizeLine/\aQ K p.c H xs vs
theorem dN.int{p:Ph}{H:Hp}{i:Int}{x:V}(h:dN K p H (.int i) x):x=.int i:=by
 rcases h with h |⟨_,_,_,e,_⟩
 .unfold aT at h;exact h
 .cases e
theorem dN.bl{p:Ph}{H:Hp}{i:Bool}{x:V}(h:dN K p H (.bl i) x):x=.bl i:=by
 rcases h with h |⟨_,_,_,e,_⟩
 .unfold aT at h;exact h
 .cases e
theorem dN.str{p:Ph}{H:Hp}{i:Str}{x:V}(h:dN K p H (.str i) x):x=.str i:=by
 rcases h with h |⟨_,_,_,e,_⟩
 .unfold aT at h;exact h
 .cases e
theorem dN.non{p:Ph}{H:Hp}{x:V}(h:dN K p H .non x):x=.non:=by
 rcases h with h |⟨_,_,_,e,_⟩
 .unfold aT at h;exact h
 .cases e
theorem dN.tup{p:Ph}{H:Hp}{xs:AI}{x:V}(h:dN K p H (.tup xs) x):∃a vs,x=.ref a/\cE K H a vs/\vs.length<=sizeLine/\aQ K p.c H xs vs:=by
 rcases h with h |⟨_,_,_,e,_⟩
 .unfold aT at h;exact h
 .cases e
theorem dN.lst{p:Ph}{H:Hp}{xs:AI}{x:V}(h:dN K p H (.lst xs) x):∃a vs,x=.ref a/\bN K H a vs/\vs.length<=sizeLine/\aQ K p.c H xs vs:=by
 rcases h with h |⟨ys,a,vs,e,e2,h,z,r⟩
 .unfold aT at h
  obtain⟨a,vs,e,l,z,r⟩:=h;exact⟨a,vs,e,l.sq,z,r⟩
 .cases e
  exact⟨a,vs,e2,bN.of h,z,r⟩
theorem rC{p:Ph}{S:aG}{H:Hp}{a:AV}{v:PV}{x:V}(s:aW K p S H)(r:cK K p H a x)(e:rd S a=some v):dN K p H v x:=by
 cases a with
 |pv u=>cases e;exact .inl r
 |ref k=>
  obtain⟨a,e1,rfl⟩:=r;unfold rd at e;cases z:S[k]? with
  |none=>simp only[z]at e;cases e
  |some o=>
   cases o with
   |lst xs=>
    simp only[z]at e;cases e;obtain⟨vs,h,l,r⟩:=s.obj k a _ e1 z;exact .inr ⟨xs,a,vs,rfl,rfl,h,l,r⟩
   |lol _=>simp only[z]at e;cases e
   |dic _ _=>simp only[z]at e;cases e
   |dol _ _=>simp only[z]at e;cases e
abbrev Ol(K:ae)(p:Ph)(H:Hp):AI->List V->Prop:=kg (dN K p H)
theorem sQ{p:Ph}{S:aG}{H:Hp}(s:aW K p S H):∀{as:AL}{vs:AI}{xs:List V},fO K p H as xs->fS S as=some vs->Ol K p H vs xs
 |[],vs,_,.nil,e=>by
  cases e;exact .nil
 |a::r,vs,_,.cons h t,e=>by
  unfold fS at e;cases z:rd S a with
  |none=>simp only[z]at e;cases e
  |some v=>
   simp only[z]at e;cases y:fS S r with
   |none=>simp only[y]at e;cases e
   |some us=>
    simp only[y]at e;cases e;exact .cons (rC s h z) (sQ s t y)
def fE(K:ae)(r:R2)(f:PV->PV->AJ):Prop:=∀{p:Ph}{S:aG}{H:Hp}{a b c:PV}{x y:V}{Q:VK},aW K p S H->dN K p H a x->dN K p H b y->f a b=some c->
 (∀H' z,cR H H'->aT K p.c H' c z->Q z H')->r x y H Q
def vO(K:ae)(r:V->Hp->VK->Prop)(f:PV->AJ):Prop:=∀{p:Ph}{S:aG}{H:Hp}{a c:PV}{x:V}{Q:VK},aW K p S H->dN K p H a x->f a=some c->
 (∀H' z,cR H H'->aT K p.c H' c z->Q z H')->r x H Q
def CaS(K:ae)(r:List V->Hp->VK->Prop)(f:AI->AJ):Prop:=∀{p:Ph}{S:aG}{H:Hp}{as:AI}{c:PV}{xs:List V}{Q:VK},aW K p S H->aQ K p.c H as xs->f as=some c->
 (∀H' z,cR H H'->aT K p.c H' c z->Q z H')->r xs H Q
def iG(K:ae)(r:List V->Hp->VK->Prop)(f:AI->AJ):Prop:=∀{p:Ph}{S:aG}{H:Hp}{as:AI}{c:PV}{xs:List V}{Q:VK},aW K p S H->Ol K p H as xs->f as=some c->
 (∀H' z,cR H H'->aT K p.c H' c z->Q z H')->r xs H Q
theorem qK{p:Ph}{S:aG}{H:Hp}{o:AJ}{Q:VK}(s:aW K p S H)(h:bV K cl (cK K) p H (gX o S) Q E):∃c,o=some c/\∀H' z,cR H H'->aT K p.c H' c z->Q z H':=by
 cases o with
 |none=>exact h.elim
 |some c=>exact⟨c,rfl,λH' z sm rz=>bV.same (R:=cK K) h s sm rz⟩
theorem sM{r:R2}{f:PV->PV->AJ}(hf:fE K r f){p:Ph}{S:aG}{H:Hp}{a b:AV}{x y:V}{Q:VK}(s:aW K p S H)(ra:cK K p H a x)(rb:cK K p H b y)(h:bV K cl (cK K) p H (jF f a b S) Q E):r x y H Q:=by
 obtain⟨c,e,k⟩:=qK s h;cases z:rd S a with
 |none=>rw[z]at e;cases e
 |some v=>
  cases y:rd S b with
  |none=>rw[z,y]at e;cases e
  |some w=>
   rw[z,y]at e;exact hf s (rC s ra z) (rC s rb y) e k
theorem sU{r:V->Hp->VK->Prop}{f:PV->AJ}(hf:vO K r f){p:Ph}{S:aG}{H:Hp}{a:AV}{x:V}{Q:VK}(s:aW K p S H)(ra:cK K p H a x)(h:bV K cl (cK K) p H (rJ f a S) Q E):r x H Q:=by
 obtain⟨c,e,k⟩:=qK s h;cases z:rd S a with
 |none=>rw[z]at e;cases e
 |some v=>
  rw[z]at e;exact hf s (rC s ra z) e k
theorem Qe{r:List V->Hp->VK->Prop}{f:AI->AJ}(hf:iG K r f){p:Ph}{S:aG}{H:Hp}{as:AL}{xs:List V}{Q:VK}(s:aW K p S H)(ra:fO K p H as xs)(h:bV K cl (cK K) p H (mI f as S) Q E):r xs H Q:=by
 obtain⟨c,e,k⟩:=qK s h;cases z:fS S as with
 |none=>rw[z]at e;cases e
 |some v=>
  rw[z]at e;exact hf s (sQ s ra z) e k
theorem wR{p:Ph}{H:Hp}:∀{as:AL}{vs:AI}{xs:List V},mF as=some vs->fO K p H as xs->aQ K p.c H vs xs
 |[],vs,_,e,.nil=>by
  cases e;exact .nil
 |.pv v::r,vs,_,e,.cons h t=>by
  unfold mF at e;cases z:mF r with
  |none=>simp only[z]at e;cases e
  |some us=>
   simp only[z]at e;cases e;exact .cons h (wR z t)
 |.ref k::r,vs,_,e,.cons h t=>by
  cases e
theorem Wd{r:List V->Hp->VK->Prop}{f:AI->AJ}(hf:CaS K r f){p:Ph}{S:aG}{H:Hp}{as:AL}{xs:List V}{Q:VK}(s:aW K p S H)(ra:fO K p H as xs)(h:bV K cl (cK K) p H (zS f as S) Q E):r xs H Q:=by
 obtain⟨c,e,k⟩:=qK s h;cases z:mF as with
 |none=>rw[z]at e;cases e
 |some v=>
  rw[z]at e;exact hf s (wR z ra) e k
theorem mH{op:pf}{r:R2}{f:PV->PV->AJ}(ho:dB X (binaryOp op) r)(hf:fE X.K r f)(ha:aU K cl E X a ma)(hb:aU K cl E X b mb):aU K cl E X (.BinOp a op b pos) (aC f ma mb):=by
 intro hK;subst hK;refine(Om ho (ha rfl) (hb rfl)).imp ?_
 rintro σ H Q ⟨p,S,ρ,s,e,h⟩
 exact bX s e h λq H1 a x S1 st s1 e1 r1 h1=>bX s1 e1 h1 λq2 H2 b y S2 st2 s2 e2 r2 h2=>sM hf s2 (st2.repA r1) r2 h2
theorem V4{op:UnaryOp}{r:V->Hp->VK->Prop}{f:PV->AJ}(ho:vK X (unaryOp op) r)(hf:vO X.K r f)(ha:aU K cl E X a ma):aU K cl E X (.UnaryOp op a pos) (bJ f ma):=by
 intro hK;subst hK;refine(P4 ho (ha rfl)).imp ?_
 rintro σ H Q ⟨p,S,ρ,s,e,h⟩
 exact bX s e h λq H1 a x S1 st s1 e1 r1 h1=>sU hf s1 r1 h1
theorem lP{op:jq}{r:R2}{f:PV->PV->AJ}(ho:dB X (compareOp op) r)(hf:fE X.K r f)(ha:aU K cl E X a ma)(hb:aU K cl E X b mb)(hm:behindInMarks op b=false):aU K cl E X (.Compare a [op] [b] pos) (aC f ma mb):=by
 intro hK;subst hK;refine(Iy ho (ha rfl) (hb rfl) hm).imp ?_
 rintro σ H Q ⟨p,S,ρ,s,e,h⟩
 exact bX s e h λq H1 a x S1 st s1 e1 r1 h1=>bX s1 e1 h1 λq2 H2 b y S2 st2 s2 e2 r2 h2=>sM hf s2 (st2.repA r1) r2 h2
theorem Xl{p:Ph}{H:Hp}{v:AV}{x:V}(r:cK K p H v x){b:Bool}(e:v=.pv (.bl b)):x=.bl b:=by
 subst e;unfold cK aT at r;exact r
theorem xU{p:Ph}{S:aG}{H:Hp}{v:AV}{x:V}{Q:Bool->Hp->Prop}(s:aW K p S H)(r:cK K p H v x)
  (h:bV K cl RB p H (jN v S) Q E):∃k,x=.bl k/\Q k H:=by
 cases v with
 |ref k=>exact h.elim
 |pv v=>
  cases v with
  |bl b=>exact⟨b,Xl r rfl,bV.ret (R:=RB) h s rfl⟩
  |_=>exact h.elim
theorem lI{op:jq}{r:R2}{f:PV->PV->AJ}(ho:dB X (compareOp op) r)(hf:fE X.K r f)(ha:aU K cl E X a ma)(hb:aU K cl E X b mb)(hm:behindInMarks op b=false):eI K cl E X (.Compare a [op] [b] pos) (aV (aC f ma mb)):=by
 intro hK;subst hK;refine(Wz ho (ha rfl) (hb rfl) hm).imp ?_
 rintro σ H Q ⟨p,S,ρ,s,e,h⟩
 have z:tP X.K cl E (cK X.K) (aC f ma mb) σ H λx H'=>∃k,x=.bl k/\Q k H':=bX s e h λq H1 a x S1 st s1 e1 r1 h1=>xU s1 r1 h1;obtain⟨p',S',ρ',s',e',h'⟩:=z;exact bX s' e' h' λq H1 a x S1 st s1 e1 r1 h1=>bX s1 e1 h1 λq2 H2 b y S2 st2 s2 e2 r2 h2=>sM hf s2 (st2.repA r1) r2 h2
theorem Sy(ha:aU K cl E X a ma)(he:∀whole,isTrue a X.env whole=(do let v <-whole;standAt a.pos;holding [v] (truthy v)):=by intro _;rfl):eI K cl E X a (aV ma):=by
 intro hK;subst hK;refine(B9 (ha rfl) he).imp ?_
 rintro σ H Q ⟨p,S,ρ,s,e,h⟩
 exact bX s e h λq H1 a x S1 st s1 e1 r1 h1=>xU s1 r1 h1
theorem Vw(ha:eI K cl E X a mt):eI K cl E X (.UnaryOp .Not a pos) (iC mt):=by
 intro hK;subst hK;refine(G7 (ha rfl)).imp ?_
 rintro σ H Q ⟨p,S,ρ,s,e,h⟩
 exact bX s e h λq H1 a x S1 st s1 e1 r1 h1=>by
  cases r1;exact bV.ret (R:=RB) h1 s1 rfl
theorem Uv(ha:eI K cl E X a mt):iP K cl E X (.BoolOp .And [a] pos) mt:=λhK=>Jx (ha hK)
theorem Lx(ha:eI K cl E X a mt):iP K cl E X (.BoolOp .Or [a] pos) mt:=λhK=>J3 (ha hK)
theorem iP.pt(h:iP K cl E X a mt):eI K cl E X a mt:=λhK=>PW.pt (h hK)
theorem Oz{eF:List af}(ha:eI K cl E X a mt)(hb:iP K cl E X (.BoolOp .And (b::eF) pos) nt):iP K cl E X (.BoolOp .And (a::b::eF) pos) (eQ mt nt):=by
 intro hK;subst hK;refine PW.imp (D7 (ha rfl) (hb rfl)) ?_
 rintro σ H Q ⟨p,S,ρ,s,e,h⟩
 refine bX s e h λq H1 a x S1 st s1 e1 r1 h1=>?_;cases r1;cases a with
 |true=>exact⟨q,S1,ρ,s1,e1,h1⟩
 |false=>exact bV.ret (R:=RB) h1 s1 rfl
theorem L8{eF:List af}(ha:eI K cl E X a mt)(hb:iP K cl E X (.BoolOp .Or (b::eF) pos) nt):iP K cl E X (.BoolOp .Or (a::b::eF) pos) (fU mt nt):=by
 intro hK;subst hK;refine PW.imp (U5 (ha rfl) (hb rfl)) ?_
 rintro σ H Q ⟨p,S,ρ,s,e,h⟩
 refine bX s e h λq H1 a x S1 st s1 e1 r1 h1=>?_;cases r1;cases a with
 |true=>exact bV.ret (R:=RB) h1 s1 rfl
 |false=>exact⟨q,S1,ρ,s1,e1,h1⟩
theorem F4{eF:List af}(ha:aU K cl E X a ma)(hb:aU K cl E X (.BoolOp .And (b::eF) pos) mb):aU K cl E X (.BoolOp .And (a::b::eF) pos) (rH ma mb):=by
 intro hK;subst hK;refine(J6 (ha rfl) (hb rfl)).imp ?_
 rintro σ H Q ⟨p,S,ρ,s,e,h⟩
 refine bX s e h λq H1 a x S1 st s1 e1 r1 h1=>?_;cases a with
 |ref k=>exact h1.elim
 |pv v=>
  cases v with
  |bl b=>
   refine⟨b,Xl r1 rfl,?_⟩;cases b with
   |true=>exact⟨q,S1,ρ,s1,e1,h1⟩
   |false=>exact bV.ret (R:=cK X.K) h1 s1 (by show aT X.K q.c H1 _ _;unfold aT;rfl)
  |_=>exact h1.elim
theorem K5(ha:aU K cl E X a ma):aU K cl E X (.UnaryOp .Not a pos) (bJ rK ma):=by
 intro hK;subst hK;refine(B8 (ha rfl)).imp ?_
 rintro σ H Q ⟨p,S,ρ,s,e,h⟩
 refine bX s e h λq H1 a x S1 st s1 e1 r1 h1=>?_;refine sU (r:=λx H Q=>∃c,x=.bl c/\Q (.bl (!c)) H) (f:=rK) (λ{p S H a c x Q} s r e k=>?_) s1 r1 h1;cases a with
 |bl b=>
  cases e;exact⟨b,r.bl,k H _ (cR.refl H) (by unfold aT;rfl)⟩
 |_=>cases e
theorem Tx:dZ K cl E X [] aD:=λ_=>(PA.imp qR λσ H Q ⟨p,S,ρ,s,e,h⟩=>bV.ret (R:=fO K) h s .nil)
theorem Rv(ha:aU K cl E X e m)(hr:dZ K cl E X es ms)(hs:starEach (e::es) X.env=(false,eval e X.env)::starEach es X.env:=by rfl):dZ K cl E X (e::es) (aB m ms):=by
 intro hK;subst hK;refine PA.imp (oK (ha rfl) (hr rfl) hs) ?_
 rintro σ H Q ⟨p,S,ρ,s,e,h⟩
 exact bX s e h λq H1 a x S1 st s1 e1 r1 h1=>bX s1 e1 h1 λq2 H2 b y S2 st2 s2 e2 r2 h2=>bV.ret (R:=fO X.K) h2 s2 (.cons (st2.repA r1) r2)
theorem nF{p:Ph}{S:aG}{H:Hp}{vs:AI}{xs:List V}{t:Addr}(s:aW K p S H)(r:aQ K p.c H vs xs)(z:xs.length<=sizeLine)(ht:H t=none):aT K p.c (aX H t (.tup xs)) (.tup vs) (.ref t):=by
 unfold aT;exact⟨t,xs,rfl,cE.of fI,z,(s.same (gA ht)).reps r⟩
theorem nE{p:Ph}{S:aG}{H:Hp}{vs:AI}{xs:List V}{t:Addr}(s:aW K p S H)(r:aQ K p.c H vs xs)(z:xs.length<=sizeLine)(ht:H t=none):aT K p.c (aX H t (.lst xs)) (.lst vs) (.ref t):=by
 unfold aT;refine⟨t,xs,rfl,.inl ⟨fI,λc=>?_⟩,z,(s.same (gA ht)).reps r⟩;obtain⟨o,e,_⟩:=s.mu t c;rw[ht]at e;cases e
theorem gZ:sizeLine=16777216:=jr
theorem B5{x1}(h:dZ K cl E X es ms):aU K cl E X (.Tuple es x1 pos) (mN iV ms):=by
 intro hK;subst hK;refine(M4 (h rfl)).imp ?_
 rintro σ H Q ⟨p,S,ρ,s,e,h⟩
 refine bX s e h λq H1 as xs S1 st s1 e1 r1 h1=>?_;refine Wd (r:=λxs H Q=>xs.length<=sizeLine/\∀t,H t=none->Q (.ref t) (aX H t (.tup xs))) (f:=iV) (λ{p S H as c xs Q} s r e k=>?_) s1 r1 h1;unfold iV at e;split at e
 .rename_i hl
  cases e;rw[r.length,<-gZ]at hl;exact⟨hl,λt ht=>k _ _ (gA ht) (nF s r hl ht)⟩
 .cases e
theorem F0(h:dZ K cl E X es ms):aU K cl E X (.List es pos) (mN eA ms):=by
 intro hK;subst hK;refine(zC (h rfl)).imp ?_
 rintro σ H Q ⟨p,S,ρ,s,e,h⟩
 refine bX s e h λq H1 as xs S1 st s1 e1 r1 h1=>?_;refine Wd (r:=λxs H Q=>xs.length<=sizeLine/\∀t,H t=none->Q (.ref t) (aX H t (.lst xs))) (f:=eA) (λ{p S H as c xs Q} s r e k=>?_) s1 r1 h1;unfold eA at e;split at e
 .rename_i hl
  cases e;rw[r.length,<-gZ]at hl;exact⟨hl,λt ht=>k _ _ (gA ht) (nE s r hl ht)⟩
 .cases e
end
noncomputable section
open PySem PySem.Spec PyProof.Rows Bn
def cO:MS:=λρ S=>.nx ρ S
def aI(a b:MS):MS:=λρ S=>match a ρ S with
 |.nx ρ1 S1=>b ρ1 S1
 |r=>r
def cZ(m:ME):MS:=λρ S=>cH.of (m ρ S) λ_ S1=>.nx ρ S1
def bE(m:ME):MS:=λρ S=>cH.of (m ρ S) λv S1=>.rt v S1
def O9:MS:=λ_ S=>.rt (.pv .non) S
def bP(c:MT)(a b:MS):MS:=λρ S=>cH.of (c ρ S) λt S1=>if t=true then a ρ S1 else b ρ S1
def aR(i:Nat)(m:ME):MS:=λρ S=>cH.of (m ρ S) λv S1=>.nx (ρ.set i (some v)) S1
def rO(i j:Nat)(m:MA):MS:=λρ S=>cH.of (m ρ S) λvs S1=>match vs with
 |[v,w]=>.nx ((ρ.set i (some v)).set j (some w)) S1
 |_=>.fail
abbrev GM:=PV->bR->Option bR
abbrev mT:=AI->bR->Option bR
def gN(i:Nat):GM:=λv ρ=>some (ρ.set i (some (.pv v)))
def eS:mT:=λvs ρ=>match vs with
 |[]=>some ρ
 |_=>none
def dL(g:GM)(gs:mT):mT:=λvs ρ=>match vs with
 |[]=>none
 |v::r=>match g v ρ with
  |some ρ1=>gs r ρ1
  |none=>none
def gT(n:Nat)(gs:mT):GM:=λv ρ=>match v with
 |.tup vs=>if vs.length=n then gs vs ρ else none
 |_=>none
abbrev Gd:=List (Nat×AI)
def iO(G:Gd)(S:aG):Prop:=∀g∈G,S[g.1]?=some (.lst g.2)
theorem lN(S:aG):iO [] S:=λ_ h=>nomatch h
abbrev MI:=bR->aG->bI (AI×Gd)
open Classical in
def dE(G:Gd)(g:GM)(mb:MS):AI->bR->aG->cH
 |[],ρ,S=>if iO G S then .nx ρ S else .fail
 |x::r,ρ,S=>if iO G S then(match g x ρ with
  |none=>.fail
  |some ρ1=>match mb ρ1 S with
   |.nx ρ2 S2=>dE G g mb r ρ2 S2
   |.ct ρ2 S2=>dE G g mb r ρ2 S2
   |.bk ρ2 S2=>.nx ρ2 S2
   |.rt v S2=>.rt v S2
   |.exc n S2=>.exc n S2
   |.fail=>.fail)else .fail
def bZ(mi:MI)(g:GM)(mb:MS):MS:=λρ S=>cH.of (mi ρ S) λxs S1=>dE xs.2 g mb xs.1 ρ S1
theorem fW{g:GM}{mb:MS}{ρ:bR}{S:aG}:dE [] g mb [] ρ S=.nx ρ S:=by
 unfold dE;rw[if_pos (lN S)]
theorem eK{g:GM}{mb:MS}{x:PV}{r:AI}{ρ:bR}{S:aG}:dE [] g mb (x::r) ρ S=(match g x ρ with
  |none=>.fail
  |some ρ1=>match mb ρ1 S with
   |.nx ρ2 S2=>dE [] g mb r ρ2 S2
   |.ct ρ2 S2=>dE [] g mb r ρ2 S2
   |.bk ρ2 S2=>.nx ρ2 S2
   |.rt v S2=>.rt v S2
   |.exc n S2=>.exc n S2
   |.fail=>.fail):=by
 rw[dE,if_pos (lN S)]
def dQ(c:MT)(mb:MS):Nat->bR->aG->cH
 |0,_,_=>.fail
 |n+1,ρ,S=>cH.of (c ρ S) λt S1=>if t=true then(match mb ρ S1 with
   |.nx ρ2 S2=>dQ c mb n ρ2 S2
   |.ct ρ2 S2=>dQ c mb n ρ2 S2
   |.bk ρ2 S2=>.nx ρ2 S2
   |.rt v S2=>.rt v S2
   |.exc n S2=>.exc n S2
   |.fail=>.fail)else .nx ρ S1
open Classical in
def lR(c:MT)(mb:MS):MS:=λρ S=>if h:∃n,dQ c mb n ρ S≠.fail then dQ c mb h.choose ρ S else .fail
theorem cH.of_ok{α:Type}{r:bI α}{k k':α->aG->cH}(h:∀a S,k a S≠.fail->k' a S=k a S)(n:cH.of r k≠.fail):cH.of r k'=cH.of r k:=by
 cases r with
 |ok a S=>exact h a S n
 |exc=>rfl
 |fail=>rfl
theorem wM{c:MT}{mb:MS}:∀{n:Nat}{ρ:bR}{S:aG},dQ c mb n ρ S≠.fail->dQ c mb (n+1) ρ S=dQ c mb n ρ S
 |0,_,_,h=>absurd rfl h
 |n+1,ρ,S,h=>by
  unfold dQ at h;rw[dQ]
  conv=>rhs;rw[dQ]
  refine cH.of_ok (λt S1 h1=>?_) h
  by_cases ht:t=true
  .simp only[if_pos ht]at h1⊢
   cases z:mb ρ S1 with
   |nx ρ2 S2=>rw[z]at h1;exact wM h1
   |ct ρ2 S2=>rw[z]at h1;exact wM h1
   |_=>rfl
  .simp only[if_neg ht]at h1⊢
theorem wN{c:MT}{mb:MS}{n:Nat}{ρ:bR}{S:aG}(h:dQ c mb n ρ S≠.fail):∀k,dQ c mb (n+k) ρ S=dQ c mb n ρ S
 |0=>rfl
 |k+1=>by
  have ih:=wN h k;rw[<-Nat.add_assoc,wM (by rw[ih];exact h),ih]
theorem xJ{c:MT}{mb:MS}{n:Nat}{ρ:bR}{S:aG}{r:cH}(e:dQ c mb n ρ S=r)(h:r≠.fail):lR c mb ρ S=r:=by
 have h':∃n,dQ c mb n ρ S≠.fail:=⟨n,by rw[e];exact h⟩;unfold lR;rw[dif_pos h'];have e2:=h'.choose_spec;rcases Nat.le_total n h'.choose with l |l
 .obtain⟨k,q⟩:=zd l
  rw[q,wN (by rw[e];exact h),e]
 .obtain⟨k,q⟩:=zd l
  have z:=wN e2 k;rw[<-q,e]at z;exact z.symm
section
variable{K:ae}{cl:Str->Addr}{E:XK}{X:Cx}{a b c e tg:af}{es:List af}{m:ME}{mt:MT}{ms:MA}{b1 b2:MS}{st:Stmt}{sts sts':List Stmt}{pos:ah}
theorem dI.set{p:Ph}{H:Hp}{ρ:bR}{σ:St}{v:AV}{x:V}(h:dI K p H ρ σ)(r:cK K p H v x)(i:Nat):dI K p H (ρ.set i (some v)) (σ.set i (some x)):=by
 refine⟨by rw[dk,dk,h.len],λj u e=>?_⟩
 by_cases q:i=j
 .subst q
  by_cases l:i<ρ.length
  .rw[dg l]at e
   cases e;exact⟨x,dg (by rw[<-h.len];exact l),r⟩
  .rw[ze (by rw[dk];omega)]at e
   cases e
 .rw[dq q]at e⊢
  exact h.at_ j u e
theorem Kt:fF K cl E X [] cO:=λ_=>fG.imp Kw λD σ H ⟨p,S,ρ,s,e,h⟩=>h p H σ s.step s e
theorem dW.nxD{p:Ph}{H:Hp}{ρ:bR}{S:aG}{D:kN}(h:dW K cl p H (.nx ρ S) D E){σ:St}(s:aW K p S H)(e:dI K p H ρ σ):D.nx σ H:=h p H σ s.step s e
theorem Us(h1:eE K cl E X st b1)(h2:fF K cl E X sts b2):fF K cl E X (st::sts) (aI b1 b2):=by
 intro hK;subst hK;refine fG.imp (Mu (h1 rfl) (h2 rfl)) λD σ H ⟨p,S,ρ,s,e,h⟩=>⟨p,S,ρ,s,e,?_⟩;unfold aI at h;cases z:b1 ρ S with
 |nx ρ1 S1=>
  rw[z]at h;exact λq H' σ' stp sm ev=>⟨q,S1,ρ1,sm,ev,dW.mono (r:=b2 ρ1 S1) h stp⟩
 |bk ρ1 S1=>rw[z]at h;exact h
 |ct ρ1 S1=>rw[z]at h;exact h
 |rt v S1=>rw[z]at h;exact h
 |exc n S1=>rw[z]at h;exact h
 |fail=>rw[z]at h;exact h
theorem Fu(h1:eE K cl E X st b1):fF K cl E X [st] b1:=λhK=>Li (h1 hK)
theorem Wt(he:aU K cl E X e m)(hs:swapsWith e none pos.line X.env=pure false:=by rfl):eE K cl E X (.Expr e pos) (cZ m):=by
 intro hK;subst hK;refine PS.imp (Xy (he rfl) hs) ?_
 rintro D σ H ⟨p,S,ρ,s,e,h⟩
 exact jB s e h λq H' a b S' stp sm ev r k=>dW.nxD k sm ev
theorem Pz(he:aU K cl E X e m):eE K cl E X (.Return (some e) pos) (bE m):=by
 intro hK;subst hK;refine PS.imp (L4 (he rfl)) ?_
 rintro D σ H ⟨p,S,ρ,s,e,h⟩
 exact jB s e h λq H' a b S' stp sm ev r k=>k q H' b sm.step sm r
theorem G4(hc:eI K cl E X c mt)(ha:fF K cl E X sts b1)(hb:fF K cl E X sts' b2):eE K cl E X (.If c sts sts' pos) (bP mt b1 b2):=by
 intro hK;subst hK;refine PS.imp (Q8 (hc rfl) (ha rfl) (hb rfl)) ?_
 rintro D σ H ⟨p,S,ρ,s,e,h⟩
 refine jB s e h λq H' a b S' stp sm ev r k=>?_;cases r;cases a with
 |true=>exact⟨q,S',ρ,sm,ev,k⟩
 |false=>exact⟨q,S',ρ,sm,ev,k⟩
theorem Yi{i:Nat}{x:Str}{pos':ah}(hN:X.N.Nodup)(hi:X.N[i]?=some x)(hx:jM X.env.scope x)(he:aU K cl E X e m)(hs:swapsWith e (some (.Name x pos')) pos.line X.env=pure false:=by rfl)
  (hf:X.fn x=true\/X.env.scope.names.lookup x=some .local:=by first |exact .inl rfl |exact .inr rfl |assumption):eE K cl E X (.Assign [.Name x pos'] e pos) (aR i m):=by
 intro hK;subst hK;refine PS.imp (E2 hN hi hx (he rfl) hs hf) ?_
 rintro D σ H ⟨p,S,ρ,s,e,h⟩
 exact jB s e h λq H' a b S' stp sm ev r k=>dW.nxD k sm (ev.set r i)
theorem Fz{i j:Nat}{x y:Str}{px py pt:ah}{kt k2 pt2}(hc:X.calm=true)(hN:X.N.Nodup)(hi:X.N[i]?=some x)(hj:X.N[j]?=some y)(hij:i≠j)
  (hx:X.env.scope.names.lookup x=some .local)(hy:X.env.scope.names.lookup y=some .local)(ha:dZ K cl E X [a,b] ms)
  (hw:swappedStores [.Tuple [.Name x px,.Name y py] kt pt] (.Tuple [a,b] k2 pt2) X.env=pure (some [x,y]))
  (hs:swapsWithSole [.Tuple [.Name x px,.Name y py] kt pt] (.Tuple [a,b] k2 pt2) pos.line X.env=pure false:=by rfl):
  eE K cl E X (.Assign [.Tuple [.Name x px,.Name y py] kt pt] (.Tuple [a,b] k2 pt2) pos) (rO i j ms):=by
 intro hK;subst hK;refine PS.imp (G3 hc hN hi hj hij hx hy (ha rfl) hw hs) ?_
 rintro D σ H ⟨p,S,ρ,s,e,h⟩
 refine jB s e h λq H' vs xs S' stp sm ev r k=>?_;cases r with
 |nil=>exact k.elim
 |cons r1 rr=>
  cases rr with
  |nil=>exact k.elim
  |cons r2 rs=>
   cases rs with
   |nil=>exact⟨_,_,rfl,dW.nxD k sm ((ev.set r1 i).set r2 j)⟩
   |cons _ _=>exact k.elim
def gP(K:ae)(g:GM):TG:=λx σ H Q=>∃p S ρ v ρ',aW K p S H/\dI K p H ρ σ/\aT K p.c H v x/\g v ρ=some ρ'/\∀σ',dI K p H ρ' σ'->Q σ' H
def gPs(K:ae)(g:mT):kU:=λxs σ H Q=>∃p S ρ vs ρ',aW K p S H/\dI K p H ρ σ/\aQ K p.c H vs xs/\g vs ρ=some ρ'/\∀σ',dI K p H ρ' σ'->Q σ' H
variable(K X)
def kS(tg:af)(g:GM):Prop:=X.K=K->PG X tg (gP K g)
def pJ(ts:List af)(g:mT):Prop:=X.K=K->jY X ts (gPs K g)
variable{K X}
theorem PG.imp{tg:af}{t t':TG}(h:PG X tg t)(i:∀x σ H Q,t' x σ H Q->t x σ H Q):PG X tg t':=λAM s σ H v u Q I r q=>h AM s σ H v u Q I r (i v σ H Q q)
theorem jY.imp{ts:List af}{t t':kU}(h:jY X ts t)(i:∀x σ H Q,t' x σ H Q->t x σ H Q):jY X ts t':=λAM s σ H v u Q I r q=>h AM s σ H v u Q I r (i v σ H Q q)
theorem Yv{i:Nat}{x:Str}(hN:X.N.Nodup)(hi:X.N[i]?=some x)(hx:jM X.env.scope x)(hf:X.fn x=true\/X.env.scope.names.lookup x=some .local:=by first |exact .inl rfl |exact .inr rfl |assumption):kS K X (.Name x pos) (gN i):=
 λ_=>PG.imp (Mi hN hi hx hf) λx σ H Q ⟨p,S,ρ,v,ρ',s,ev,r,g,k⟩=>by
  cases g;exact k _ (ev.set (v:=.pv v) r i)
theorem Ht:pJ K X [] eS:=λ_=>jY.imp Zy λxs σ H Q ⟨p,S,ρ,vs,ρ',s,ev,r,g,k⟩=>by
 cases vs with
 |nil=>
  cases g;unfold aQ at r;exact⟨r,k _ ev⟩
 |cons _ _=>cases g
theorem Ss{g:GM}{gs:mT}(h1:kS K X e g)(h2:pJ K X es gs)(hs:(assignEach (e::es) X.env).map (·.2)=assign e X.env::(assignEach es X.env).map (·.2):=by rfl):pJ K X (e::es) (dL g gs):=by
 intro hK;subst hK;refine jY.imp (Gw (h1 rfl) (h2 rfl) hs) ?_
 rintro xs σ H Q ⟨p,S,ρ,vs,ρ',s,ev,r,g1,k⟩
 cases vs with
 |nil=>cases g1
 |cons v vr=>
  unfold aQ at r;obtain⟨x,xr,rfl,r1,r2⟩:=r;unfold dL at g1;cases z:g v ρ with
  |none=>simp only[z]at g1;cases g1
  |some ρ1=>
   simp only[z]at g1;exact⟨x,xr,rfl,p,S,ρ,v,ρ1,s,ev,r1,z,λσ' ev'=>⟨p,S,ρ1,vr,ρ',s,ev',r2,g1,k⟩⟩
theorem Qy{k:Nat}{gs:mT}{n:Nat}(hc:X.calm=true)(h:pJ K X es gs)(hn:(assignEach es X.env).length=n:=by rfl)(hst:(assignEach es X.env).findIdx? (·.1)=none:=by rfl):kS K X (.Tuple es k pos) (gT n gs):=by
 intro hK;subst hK;refine PG.imp (D9 hc (h rfl) hn hst) ?_
 rintro x σ H Q ⟨p,S,ρ,v,ρ',s,ev,r,g1,k⟩
 cases v with
 |tup vs=>
  unfold aT at r;obtain⟨a,xs,rfl,t,z,r⟩:=r;unfold gT at g1;dsimp only at g1;split at g1
  .rename_i hl
   exact⟨a,xs,rfl,t,r.length.symm.trans hl,p,S,ρ,vs,ρ',s,ev,r,g1,k⟩
  .cases g1
 |_=>cases g1
def eU(K:ae)(p:Ph)(H:Hp)(xs:AI×Gd)(J:It):Prop:=xs.1.length<=sizeLine/\∀q H1 S1,bK p H q H1->aW K q S1 H1->iO xs.2 S1->
 (∀(i:Nat)(v:PV),xs.1[i]?=some v->J.go i H1/\∀x H2,J.yld i H1 x H2->cR H1 H2/\aT K q.c H2 v x)/\J.stop xs.1.length H1
theorem eU.step{p q:Ph}{H H':Hp}{xs:AI×Gd}{J:It}(h:eU K p H xs J)(s:bK p H q H'):eU K q H' xs J:=⟨h.1,λr H1 S1 t=>h.2 r H1 S1 (s.trans t)⟩
variable(K cl E X)
def PIp(tg iter:af)(m:MI):Prop:=X.K=K->PI X tg iter (tP K cl E (eU K) m)
variable{K cl E X}
theorem PI.imp{tg iter:af}{t t':TI}(h:PI X tg iter t)(i:∀σ H Q,t' σ H Q->t σ H Q):PI X tg iter t':=λAM s σ H R I q=>h AM s σ H R I (i σ H R q)
def X4(K:ae)(tl:TE):TI:=λσ H R=>tl σ H λx H1=>∃a,x=.ref a/\(((∃xs,bN K H1 a xs)/\R (vN K a) H1)\/((∃xs,cE K H1 a xs)/\R (Fb K a) H1))
theorem Ik{l:af}{tl:TE}(hl:PE X l tl):PI X tg l (X4 X.K tl):=by
 intro AM s σ H R I h;refine bH (hl AM s σ H _ I h) ?_
 rintro v s1 ⟨x,H1,I1,r1,q1⟩
 obtain⟨a,e,q⟩:=q1;subst e;cases r1;rcases q with⟨⟨xs,hq⟩,q⟩|⟨⟨xs,hq⟩,q⟩
 .obtain⟨its,rv,p,hz⟩:=I1.list hq
  refine om p.isList ?_;refine⟨s1.heap.objs.size,[s1.heap.objs.size],_,_,H1,rfl,I1.kept (t':=s1.toks) λb o e=>ao _ e,Nr a _,⟨_,cq _ rfl,rfl,rfl⟩,λb hb=>?_,q⟩;have e:b=s1.heap.objs.size:=by simpa using hb
  subst e;exact I1.fpOk (am _) (I1.hok.fresh (am _))
 .obtain⟨its,rv,p,hz⟩:=I1.tuple hq
  refine oo (show s1.heap.IsTuple a its.toArray from p) ?_;refine⟨s1.heap.objs.size,[s1.heap.objs.size],_,_,H1,rfl,I1.kept (t':=s1.toks) λb o e=>ao _ e,Gq a _,⟨_,cq _ rfl,rfl,rfl⟩,λb hb=>?_,q⟩;have e:b=s1.heap.objs.size:=by simpa using hb
  subst e;exact I1.fpOk (am _) (I1.hok.fresh (am _))
def cB:AV->aG->bI (AI×Gd)
 |.pv (.lst xs),S=>.ok (xs,[]) S
 |.pv (.tup xs),S=>.ok (xs,[]) S
 |.ref k,S=>match S[k]? with
  |some (.lst xs)=>.ok (xs,[(k,xs)]) S
  |_=>.fail
 |_,_=>.fail
def bO(m:ME):MI:=λρ S=>(m ρ S).bind cB
theorem G8{p:Ph}{H:Hp}{xs:AI}{a:Addr}{vs:List V}(l:iW K p.c H a vs)(z:vs.length<=sizeLine)(r:aQ K p.c H xs vs):eU K p H (xs,[]) (vN K a):=by
 refine⟨by rw[r.length];exact z,λq H1 S1 st _ _=>⟨λi v e=>?_,?_⟩⟩
 .have l1:=(st.lat l).sq
  obtain⟨x,e1,r1⟩:=(st.reps r).get e;refine⟨⟨vs,x,l1,e1⟩,λy H2 hy=>?_⟩;obtain⟨rfl,hy⟩:=hy;have:=(hy vs l1).symm.trans e1;cases this;exact⟨cR.refl _,r1⟩
 .exact⟨vs,(st.lat l).sq,by rw[r.length];exact am _⟩
theorem E5{p:Ph}{H:Hp}{xs:AI}{a:Addr}{vs:List V}(l:cE K H a vs)(z:vs.length<=sizeLine)(r:aQ K p.c H xs vs):eU K p H (xs,[]) (Fb K a):=by
 refine⟨by rw[r.length];exact z,λq H1 S1 st _ _=>⟨λi v e=>?_,?_⟩⟩
 .have l1:=st.tup l
  obtain⟨x,e1,r1⟩:=(st.reps r).get e;refine⟨⟨vs,x,l1,e1⟩,λy H2 hy=>?_⟩;obtain⟨rfl,hy⟩:=hy;have:=(hy vs l1).symm.trans e1;cases this;exact⟨cR.refl _,r1⟩
 .exact⟨vs,st.tup l,by rw[r.length];exact am _⟩
theorem O4{p:Ph}{H:Hp}{xs:AI}{a:Addr}{k:Nat}{n:xs.length<=sizeLine}(hf:p.f[k]?=some a):eU K p H (xs,[(k,xs)]) (vN K a):=by
 refine⟨n,λq H1 S1 st sm g=>?_⟩;have e0:S1[k]?=some (.lst xs):=g (k,xs) ce;obtain⟨vs,h1,l1,r1⟩:=sm.obj k a _ (st.at_ hf) e0;refine⟨λi v e=>?_,?_⟩
 .obtain⟨x,e1,r2⟩:=r1.get e
  refine⟨⟨vs,x,bN.of h1,e1⟩,λy H2 hy=>?_⟩;obtain⟨rfl,hy⟩:=hy;have:=(hy vs (bN.of h1)).symm.trans e1;cases this;exact⟨cR.refl _,r2⟩
 .exact⟨vs,bN.of h1,by rw[r1.length];exact am _⟩
theorem Ww(h:aU K cl E X e m):PIp K cl E X tg e (bO m):=by
 intro hK;subst hK;refine PI.imp (Ik (h rfl)) ?_
 rintro σ H R ⟨p,S,ρ,s,ev,h⟩
 refine bX s ev h λq H' v x S' stp sm ev r k=>?_;cases v with
 |ref j=>
  obtain⟨a,e,rfl⟩:=r;unfold cB at k;dsimp only at k;cases z:S'[j]? with
  |none=>rw[z]at k;exact k.elim
  |some o=>
   cases o with
   |lst xs=>
    rw[z]at k;obtain⟨vs,h1,l1,r1⟩:=sm.obj j a _ e z;exact⟨a,rfl,.inl ⟨⟨vs,bN.of h1⟩,bV.ret (R:=eU X.K) k sm (O4 (n:=by rw[r1.length];exact l1) e)⟩⟩
   |lol _=>rw[z]at k;exact k.elim
   |dic _ _=>rw[z]at k;exact k.elim
   |dol _ _=>rw[z]at k;exact k.elim
 |pv v=>
  cases v with
  |lst xs=>
   have r:aT X.K q.c H' (.lst xs) x:=r;unfold aT at r;obtain⟨a,vs,rfl,l,z,r⟩:=r;exact⟨a,rfl,.inl ⟨⟨vs,l.sq⟩,bV.ret (R:=eU X.K) k sm (G8 l z r)⟩⟩
  |tup xs=>
   have r:aT X.K q.c H' (.tup xs) x:=r;unfold aT at r;obtain⟨a,vs,rfl,l,z,r⟩:=r;exact⟨a,rfl,.inr ⟨⟨vs,l⟩,bV.ret (R:=eU X.K) k sm (E5 l z r)⟩⟩
  |_=>exact k.elim
def cG(lo:Int)(n:Nat):AI:=(az n).map λi=>.int (lo+(i:Nat))
def iD:AL->aG->bI (AI×Gd)
 |[.pv (.int j)],S1=>@ite _ (j<=16777216/\-16777216<=j) (qv _) (.ok (cG 0 j.toNat,[]) S1) .fail
 |_,_=>.fail
def bY(ms:MA):MI:=λρ S=>(ms ρ S).bind iD
def uQ:AL->aG->bI (AI×Gd)
 |[.pv (.int i),.pv (.int j)],S1=>@ite _ ((-4611686018427387904<=i/\i<4611686018427387904/\-4611686018427387904<=j/\j<4611686018427387904)/\j-i<=16777216) (qv _) (.ok (cG i (j-i).toNat,[]) S1) .fail
 |_,_=>.fail
def lJ(ms:MA):MI:=λρ S=>(ms ρ S).bind uQ
theorem Xk{p:Ph}{H:Hp}{lo:Int}{n:Nat}(h:n<=sizeLine):eU K p H (cG lo n,[]) (rS lo n):=by
 have hl:(cG lo n).length=n:=by unfold cG;rw[ai,vb]
 refine⟨by show(cG lo n).length<=_;rw[hl];exact h,λq H1 S1 st _ _=>⟨λi v e=>?_,?_⟩⟩
 .have hi:i<n:=by
   have:=(bf.mp (show(cG lo n)[i]?=some v from e)).1;omega
  refine⟨hi,λx H2 hy=>?_⟩;obtain⟨rfl,rfl⟩:=hy;have e:(cG lo n)[i]?=some v:=e;unfold cG at e;rw[ci,List.getElem?_range hi]at e;cases e;refine⟨cR.refl _,?_⟩;unfold aT;rfl
 .show n<=(cG lo n).length
  rw[hl];exact am n
theorem Zq{p:ah}(hg:Gl X "range")(hm:X.mg "range"=none)(ha:dZ K cl E X [a] ms)(hs:starEach [a] X.env=[(false,eval a X.env)]:=by rfl):PIp K cl E X tg (.Call (.Name "range" p) [a] [] pos) (bY ms):=by
 intro hK;subst hK;refine PI.imp (Lr hg hm (ha rfl) hs) ?_
 rintro σ H R ⟨p,S,ρ,s,ev,h⟩
 refine bX s ev h λq H' vs xs S' stp sm ev r k=>?_;unfold iD at k;split at k
 .rename_i j
  cases r with
  |cons r1 r2=>
   cases r2;rename_i x;have e:x=.int j:=by
    have r1:aT X.K q.c H' (.int j) x:=r1;unfold aT at r1;exact r1
   subst e;split at k
   .rename_i hj
    have hz:=gZ;exact⟨j,rfl,by omega,by omega,bV.ret (R:=eU X.K) k sm (Xk (by omega))⟩
   .exact k.elim
 .exact k.elim
theorem Up{p:ah}(hg:Gl X "range")(hm:X.mg "range"=none)(ha:dZ K cl E X [a,b] ms)(hs:starEach [a,b] X.env=[(false,eval a X.env),(false,eval b X.env)]:=by rfl)(hs2:starEach [b] X.env=[(false,eval b X.env)]:=by rfl):PIp K cl E X tg (.Call (.Name "range" p) [a,b] [] pos) (lJ ms):=by
 intro hK;subst hK;refine PI.imp (Zr hg hm (ha rfl) hs hs2) ?_
 rintro σ H R ⟨p,S,ρ,s,ev,h⟩
 refine bX s ev h λq H' vs xs S' stp sm ev r k=>?_;unfold uQ at k;split at k
 .rename_i i j
  cases r with
  |cons r1 r2=>
   cases r2 with
   |cons r2 r3=>
    cases r3;rename_i x y;have e:x=.int i:=by
     have r1:aT X.K q.c H' (.int i) x:=r1;unfold aT at r1;exact r1
    have e2:y=.int j:=by
     have r1:aT X.K q.c H' (.int j) y:=r2;unfold aT at r1;exact r1
    subst e e2;split at k
    .rename_i hj
     have hz:=gZ;exact⟨i,j,rfl,by omega,bV.ret (R:=eU X.K) k sm (Xk (by omega))⟩
    .exact k.elim
 .exact k.elim
theorem Nz{mi:MI}{g:GM}(hp:nj (model X.prog X.w) X.A X.env X.xe)(hc:X.calm=true)(hi:PIp K cl E X tg e mi)(hg:kS K X tg g)(hb:fF K cl E X sts b1)
  (hs:∀x,foldedSetIterable e X.env x=pure x:=by intro _;rfl):eE K cl E X (.For tg e sts [] pos) (bZ mi g b1):=by
 intro hK;subst hK;refine PS.imp (Zj hp hc (hi rfl) (hg rfl) (hb rfl) hs) ?_
 rintro D σ H ⟨p,S,ρ,s,ev,h⟩
 refine jB s ev h λq H' xg J S' stp sm ev it k=>?_;obtain⟨xs,G⟩:=xg;refine⟨λi n σ H=>n=xs.length-i/\i<=xs.length/\∃p S ρ,aW X.K p S H/\dI X.K p H ρ σ/\eU X.K p H (xs,G) J/\dW X.K cl p H (dE G g b1 (xs.drop i) ρ S) D E,⟨xs.length,by simp,ig _,q,S',ρ,sm,ev,it,by simpa using k⟩,?_⟩
 rintro i n σ1 H1 ⟨rfl,hi,p1,S1,ρ1,sm1,ev1,it1,k1⟩
 by_cases hlt:i<xs.length
 .have hx:xs[i]?=some xs[i]:=aw hlt
  rw[vd hlt]at k1;unfold dE at k1;split at k1
  .rename_i gk
   obtain⟨g1,y1⟩:=(it1.2 p1 H1 S1 sm1.step sm1 gk).1 i _ hx;cases z:g xs[i] ρ1 with
   |none=>simp only[z]at k1;exact k1.elim
   |some ρ2=>
    simp only[z]at k1;refine .inr ⟨g1,λσ' H'=>i+1<=xs.length/\∃p S ρ,aW X.K p S H'/\dI X.K p H' ρ σ'/\eU X.K p H' (xs,G) J/\dW X.K cl p H' (dE G g b1 (xs.drop (i+1)) ρ S) D E,λσ' H' hN=>⟨xs.length-(i+1),by omega,rfl,hN⟩,λx H2 hy=>?_⟩;obtain⟨same,rx⟩:=y1 x H2 hy;have st2:=sm1.same same;have sm2:=sm1.ofSame same;refine⟨p1,S1,ρ1,xs[i],ρ2,sm2,st2.repE ev1,rx,z,λσ3 ev3=>⟨p1,S1,ρ2,sm2,ev3,?_⟩⟩;have it2:=it1.step st2;cases y:b1 ρ2 S1 with
    |nx ρ4 S4=>
     rw[y]at k1;exact λq5 H5 σ5 st5 sm5 ev5=>⟨hlt,q5,S4,ρ4,sm5,ev5,it2.step st5,dW.mono (r:=dE G g b1 (xs.drop (i+1)) ρ4 S4) k1 (st2.trans st5)⟩
    |ct ρ4 S4=>
     rw[y]at k1;exact λq5 H5 σ5 st5 sm5 ev5=>⟨hlt,q5,S4,ρ4,sm5,ev5,it2.step st5,dW.mono (r:=dE G g b1 (xs.drop (i+1)) ρ4 S4) k1 (st2.trans st5)⟩
    |bk ρ4 S4=>rw[y]at k1;exact dW.mono (r:=.nx ρ4 S4) k1 st2
    |rt v S4=>rw[y]at k1;exact dW.mono (r:=.rt v S4) k1 st2
    |exc v S4=>rw[y]at k1;exact dW.mono (r:=.exc v S4) k1 st2
    |fail=>rw[y]at k1;exact k1.elim
  .exact k1.elim
 .have e:i=xs.length:=by omega
  subst e;rw[ve]at k1;unfold dE at k1;split at k1
  .rename_i gk
   exact .inl ⟨(it1.2 p1 H1 S1 sm1.step sm1 gk).2,dW.nxD k1 sm1 ev1⟩
  .exact k1.elim
theorem Es(hp:nj (model X.prog X.w) X.A X.env X.xe)(hc:eI K cl E X c mt)(hb:fF K cl E X sts b1):eE K cl E X (.While c sts [] pos) (lR mt b1):=by
 intro hK;subst hK;refine PS.imp (Ev hp (hc rfl) (hb rfl)) ?_
 rintro D σ H ⟨p,S,ρ,s,ev,h⟩
 unfold lR at h;split at h
 .rename_i hh
  refine⟨λn σ H=>∃p S ρ,aW X.K p S H/\dI X.K p H ρ σ/\dW X.K cl p H (dQ mt b1 n ρ S) D E,⟨_,p,S,ρ,s,ev,h⟩,?_⟩
  rintro n σ1 H1 ⟨p1,S1,ρ1,sm1,ev1,k1⟩
  cases n with
  |zero=>exact k1.elim
  |succ n=>
   unfold dQ at k1;refine jB sm1 ev1 k1 λq H2 t t' S2 stp sm2 ev2 r k2=>?_;cases r;cases t with
   |true=>
    rw[if_pos rfl]at k2⊢;refine⟨λσ' H'=>∃p S ρ,aW X.K p S H'/\dI X.K p H' ρ σ'/\dW X.K cl p H' (dQ mt b1 n ρ S) D E,λσ' H' hN=>⟨n,qw n,hN⟩,q,S2,ρ1,sm2,ev2,?_⟩;cases y:b1 ρ1 S2 with
    |nx ρ4 S4=>
     rw[y]at k2;exact λq5 H5 σ5 st5 sm5 ev5=>⟨q5,S4,ρ4,sm5,ev5,dW.mono (r:=dQ mt b1 n ρ4 S4) k2 st5⟩
    |ct ρ4 S4=>
     rw[y]at k2;exact λq5 H5 σ5 st5 sm5 ev5=>⟨q5,S4,ρ4,sm5,ev5,dW.mono (r:=dQ mt b1 n ρ4 S4) k2 st5⟩
    |bk ρ4 S4=>rw[y]at k2;exact k2
    |rt v S4=>rw[y]at k2;exact k2
    |exc v S4=>rw[y]at k2;exact k2
    |fail=>rw[y]at k2;exact k2.elim
   |false=>
    rw[if_neg fu]at k2⊢;exact dW.nxD k2 sm2 ev2
 .exact h.elim
end
end
def eR(n:Nat)(xs:AL):bR:=xs.map some++da (n-xs.length) none
def gC(n:Nat):AV->aG->bI AV
 |.pv v,S=>.ok (.pv v) (S.take n)
 |.ref k,S=>if k<n then .ok (.ref k) (S.take n)else match S[k]? with
  |some (.lst xs)=>.ok (.ref n) (S.take n++[.lst xs])
  |some (.dic b kvs)=>.ok (.ref n) (S.take n++[.dic b kvs])
  |_=>.fail
def frz(n:Nat):bI AV->bI AV
 |.ok (.ref k) S=>if k<n then .ok (.ref k) S else match S[k]? with
  |some (.lst xs)=>.ok (.pv (.lst xs)) (S.take n)
  |_=>.fail
 |r=>r
def lU(n:Nat):cH->bI AV
 |.rt v S=>gC n v S
 |.nx _ S=>.ok (.pv .non) (S.take n)
 |.exc e S=>.exc e (S.take n)
 |_=>.fail
def aS(np n:Nat)(b:MS)(xs:AL)(S:aG):bI AV:=if xs.length=np then lU S.length (b (eR n xs) S)else .fail
def fL{α:Type}:bI α->bI α
 |.ok a S=>.ok a S
 |_=>.fail
abbrev FM:=AL->aG->bI AV
def kL(f:FM)(ds:AI)(ms:MA):ME:=λρ S=>(ms ρ S).bind λxs S1=>frz S1.length (f (xs++ds.map .pv) S1)
def aO(f:FM)(ds:AI)(ms:MA):ME:=λρ S=>(ms ρ S).bind λxs S1=>frz S1.length (fL (f (xs++ds.map .pv) S1))
def oS(f:FM)(ds:AI)(ms:MA):ME:=λρ S=>(ms ρ S).bind λxs S1=>fL (f (xs++ds.map .pv) S1)
def jZ(K:ae)(cl:Str->Addr)(f:FM):Sp:=λvs H Q E=>∃p S xs,aW K p S H/\fO K p H xs vs/\bV K cl (cK K) p H (f xs S) Q E
def jH(K:ae)(cl:Str->Addr)(f:FM):Sp:=λvs H Q _=>jZ K cl f vs H Q E0
section
variable{K:ae}{cl:Str->Addr}{p q:Ph}{H H':Hp}{S S':aG}
theorem Md{c c':Addr->Prop}(h:∀a,c a->c' a){a:Addr}{vs:List V}(l:iW K c' H a vs):iW K c H a vs:=by
 rcases l with⟨l,n⟩|l |l
 .exact .inl ⟨l,λz=>n (h a z)⟩
 .exact .inr (.inl l)
 .exact .inr (.inr l)
theorem pT{c c':Addr->Prop}(h:∀a,c a->c' a){ps:AI}{vs:List V}(r:aQ K c' H ps vs):aQ K c H ps vs:=aQ.mono (λ_ _ t=>t) (λ_ _ l=>Md h l) ps vs r
theorem Jq{c c':Addr->Prop}(h:∀a,c a->c' a){v:PV}{x:V}(r:aT K c' H v x):aT K c H v x:=aT.mono (λ_ _ t=>t) (λ_ _ l=>Md h l) v x r
theorem Kp{f g:List Addr}(h:f <+:g):g.take f.length=f:=by
 obtain⟨t,e⟩:=h;rw[<-e,List.take_left]
theorem pY{α:Type}:∀{l:List α}{i j:Nat}{a:α},l.Nodup->l[i]?=some a->l[j]?=some a->i=j
 |[],i,j,a,_,e,_=>by simp at e
 |b::l,0,0,a,_,_,_=>rfl
 |b::l,0,j+1,a,n,e,f=>by
  simp at e f;subst e;exact absurd (db f) (kl.mp n).1
 |b::l,i+1,0,a,n,e,f=>by
  simp at e f;subst f;exact absurd (db e) (kl.mp n).1
 |b::l,i+1,j+1,a,n,e,f=>by
  exact congrArg (·+1) (pY (l:=l) (a:=a) (kl.mp n).2 (by simpa using e) (by simpa using f))
theorem aW.cutX(D:Addr->Prop)(s:aW K p S H)(st:bK p H q H')(s':aW K q S' H')(hD:∀b,D b->H b=none)(hq:(∀b,D b->b∈q.f)\/∀k o,S'[k]?=some o->k<S.length->∃xs,o=.lst xs):
  let r:Ph:=⟨p.f,λb=>q.w b/\¬D b,λb=>q.c b/\¬D b⟩
  bK p H r H'/\aW K r (S'.take S.length) H':=by
 intro r;have nD:∀a,p.c a->¬D a:=λa c d=>by
  obtain⟨o,ho,_⟩:=s.mu a c;rw[hD a d]at ho;cases ho
 have le:S.length<=S'.length:=by
  have:=st.pre.length_le;rw[<-s.len,<-s'.len];exact this
 refine⟨⟨s.wc,s.mu,jn,λa h=>⟨st.mw a h,nD a (s.wc a h)⟩,λa h=>⟨st.mono a h,nD a h⟩,λ_ h g=>absurd h g,λa h=>st.nw a h.1,λa h=>st.nc a h.1,st.keep⟩,s.nd,by rw[s.len,ji];omega,λa h=>⟨st.mw a (s.sub a h),nD a (s.wc a (s.sub a h))⟩,λa h=>⟨s'.wc a h.1,h.2⟩,λa h=>s'.mu a h.1,λk a o e1 e2=>?_⟩;have hk:k<S.length:=by
  have:=(bf.mp e1).1;rw[<-s.len];exact this
 have e2':S'[k]?=some o:=by
  rw[qx,if_pos hk]at e2;exact e2
 have z:=s'.obj k a o (st.at_ e1) e2';have shr:∀xs vs,aQ K q.c H' xs vs->aQ K r.c H' xs vs:=λxs vs=>pT (λb h=>h.1);have sub:∀b,b∉q.f->b∉p.f:=λb n h=>n (st.pre.subset h);rcases hq with hq |hq
 .exact z.mono (λ_ e=>e) (λb w f=>⟨⟨⟨w,λd=>f (hq b d)⟩,sub b f⟩,λ_ e=>e⟩) shr
 .obtain⟨xs,rfl⟩:=hq k o e2' hk
  obtain⟨vs,e,l,g⟩:=z;exact⟨vs,e,l,shr xs vs g⟩
theorem aW.cut(s:aW K p S H)(st:bK p H q H')(s':aW K q S' H'):bK p H ⟨p.f,λb=>q.w b/\¬False,λb=>q.c b/\¬False⟩ H'/\aW K ⟨p.f,λb=>q.w b/\¬False,λb=>q.c b/\¬False⟩ (S'.take S.length) H':=
 s.cutX (λ_=>False) st s' (λ_ h=>h.elim) (.inl λ_ h=>h.elim)
theorem xF(s:aW K p S H)(st:bK p H q H')(sm:aW K q S' H'){k:Nat}{a:Addr}(e:q.f[k]?=some a)(hk:¬k<S.length):a∉p.f/\H a=none/\¬p.c a:=by
 have na:a∉p.f:=λhm=>by
  obtain⟨j,hj,ej⟩:=oq hm;have e2:q.f[j]?=some a:=st.at_ (by rw[aw hj,ej]);have hjk:j=k:=pY sm.nd e2 e;rw[s.len]at hj;omega
 have hn:=st.nf a (db e) na;refine⟨na,hn,λc=>?_⟩;obtain⟨o,ho,_⟩:=s.mu a c;rw[hn]at ho;cases ho
theorem Ng{r:bI AV}{Q:VK}{E:XK}(s:aW K p S H)(h:bV K cl (cK K) p H (frz S.length r) Q E):bV K cl (cK K) p H r Q E:=by
 cases r with
 |exc n S1=>exact h
 |fail=>exact h
 |ok v S1=>
  cases v with
  |pv v=>exact h
  |ref k=>
   have h:bV K cl (cK K) p H (if k<S.length then .ok (.ref k) S1 else match S1[k]? with
    |some (.lst xs)=>.ok (.pv (.lst xs)) (S1.take S.length)
    |_=>.fail) Q E:=h
   split at h
   .exact h
   .rename_i hk
    cases z:S1[k]? with
    |none=>rw[z]at h;exact h.elim
    |some o=>
     cases o with
     |lol _=>rw[z]at h;exact h.elim
     |dic _ _=>rw[z]at h;exact h.elim
     |dol _ _=>rw[z]at h;exact h.elim
     |lst xs=>
      rw[z]at h;intro q H' x st sm r;obtain⟨a,e,rfl⟩:=r;obtain⟨na,hn,nc⟩:=xF s st sm e hk;obtain⟨st1,sm1⟩:=s.cutX (λb=>b=a) st sm (λb d=>d▸hn) (.inl λb d=>d▸db e);obtain⟨vs,h1,l,r⟩:=sm.obj k a _ e z;refine h _ H' (.ref a) st1 sm1 ?_;show aT K (λb=>q.c b/\¬b=a) H' (.lst xs) (.ref a);unfold aT;exact⟨a,vs,rfl,.inl ⟨h1,λd=>d.2 rfl⟩,l,pT (λb h=>h.1) r⟩
theorem wT{r:cH}{Q:VK}{E:XK}(s:aW K p S H)(h:bV K cl (cK K) p H (lU S.length r) Q E):dW K cl p H r {nx:=λ_ H'=>Q .non H',rt:=Q} E:=by
 cases r with
 |nx ρ S1=>
  intro q H' σ st sm ev;obtain⟨st1,sm1⟩:=s.cut st sm;exact h _ H' .non st1 sm1 (by show aT K (λb=>q.c b/\¬False) H' .non .non;unfold aT;rfl)
 |exc n S1=>
  intro q H' st sm;obtain⟨st1,sm1⟩:=s.cut st sm;exact h _ H' st1 sm1
 |rt v S1=>
  intro q H' x st sm r;obtain⟨st1,sm1⟩:=s.cut st sm;cases v with
  |pv v=>exact h _ H' x st1 sm1 (show aT K (λb=>q.c b/\¬False) H' v x from Jq (λb h=>h.1) r)
  |ref k=>
   obtain⟨a,e,rfl⟩:=r;have h:bV K cl (cK K) p H (if k<S.length then .ok (.ref k) (S1.take S.length)else match S1[k]? with
    |some (.lst xs)=>.ok (.ref S.length) (S1.take S.length++[.lst xs])
    |some (.dic b kvs)=>.ok (.ref S.length) (S1.take S.length++[.dic b kvs])
    |_=>.fail) Q E:=h
   split at h
   .rename_i hk
    refine h _ H' (.ref a) st1 sm1 ⟨a,?_,rfl⟩;show p.f[k]?=some a;have hf:=Kp st.pre;rw[<-hf,qx,if_pos (by rw[s.len];exact hk)];exact e
   .rename_i hk
    have fin:∀o,S1[k]?=some o->bV K cl (cK K) p H (.ok (.ref S.length) (S1.take S.length++[o])) Q E->Q (.ref a) H':=λo z h=>by
     obtain⟨na,hn,nc⟩:=xF s st sm e hk;have l1:(S1.take S.length).length=S.length:=by rw[<-sm1.len,<-s.len]
     have ma:a∈q.f:=db e;refine h ⟨p.f++[a],q.w,q.c⟩ H' (.ref a) ⟨s.wc,s.mu,⟨[a],rfl⟩,st.mw,st.mono,λb hb n=>?_,st.nw,st.nc,st.keep⟩ ⟨?_,?_,λb hb=>?_,sm.wc,sm.mu,λj b o e1 e2=>?_⟩ ⟨a,?_,rfl⟩
     .rcases bj.mp hb with z |z
      .exact absurd z n
      .have:b=a:=by simpa using z
       rw[this];exact hn
     .show(p.f++[a]).Nodup
      rw[qy];refine⟨s.nd,by simp,λb hb c hc z=>?_⟩;have:c=a:=by simpa using hc
      exact na (this▸z▸hb)
     .show(p.f++[a]).length=_
      rw[bi,bi,l1,s.len];rfl
     .rcases bj.mp hb with z |z
      .exact st.mw b (s.sub b z)
      .have:b=a:=by simpa using z
       rw[this];exact sm.sub a ma
     .by_cases hj:j<S.length
      .have e1':p.f[j]?=some b:=by
        have e1:(p.f++[a])[j]?=some b:=e1
        rwa[dz (by rw[s.len];exact hj)]at e1
       rw[dz (by rw[l1];exact hj),qx,if_pos hj]at e2;refine(sm.obj j b o (st.at_ e1') e2).mono (λ_ e=>e) (λc w f=>⟨⟨w,λm=>?_⟩,λ_ e=>e⟩) λ_ _ r=>r;rcases bj.mp m with z |z
       .exact f (st.pre.subset z)
       .have:c=a:=by simpa using z
        exact f (this▸ma)
      .have hj':j=S.length:=by
        have:=(bf.mp e2).1;rw[bi,l1]at this;simp at this;omega
       subst hj';rw[dn (by rw[l1];exact am _),l1,gv]at e2;have e1:(p.f++[a])[S.length]?=some b:=e1;rw[<-s.len,dn (am _),gv]at e1;cases e1;cases e2;refine(sm.obj k a _ e z).mono (λ_ e=>e) (λc w f=>⟨⟨w,λm=>?_⟩,λ_ e=>e⟩) λ_ _ r=>r;rcases bj.mp m with z |z
       .exact f (st.pre.subset z)
       .have:c=a:=by simpa using z
        exact f (this▸ma)
     .show(p.f++[a])[S.length]?=some a
      rw[<-s.len,dn (am _),gv];rfl
    split at h
    .rename_i z
     exact fin _ z h
    .rename_i z
     exact fin _ z h
    .exact h.elim
 |bk ρ S1=>exact h.elim
 |ct ρ S1=>exact h.elim
 |fail=>exact h.elim
theorem sH{N:List Str}{xs:AL}{vs:List V}(r:fO K p H xs vs):dI K p H (eR N.length xs) (L2.start N vs):=by
 have go:∀{xs:AL}{vs:List V},fO K p H xs vs->xs.length=vs.length:=λ{xs vs} r=>by
  induction r with
  |nil=>rfl
  |cons _ _ ih=>rw[ca,ca,ih]
 have get:∀{xs:AL}{vs:List V},fO K p H xs vs->∀(i:Nat)(v:AV),xs[i]?=some v->∃x,vs[i]?=some x/\cK K p H v x:=λ{xs vs} r=>by
  induction r with
  |nil=>intro i v e;simp at e
  |cons h _ ih=>
   intro i v e;cases i with
   |zero=>
    simp at e;subst e;exact⟨_,rfl,h⟩
   |succ i=>simpa using ih i v (by simpa using e)
 have hl:=go r;refine⟨by unfold eR L2.start;simp[hl],λi v e=>?_⟩;unfold eR at e;unfold L2.start
 by_cases hi:i<xs.length
 .rw[dz (by simpa using hi),ci]at e
  cases z:xs[i]? with
  |none=>rw[z]at e;cases e
  |some u=>
   rw[z]at e;cases e;obtain⟨x,e1,e2⟩:=get r i v z;refine⟨x,?_,e2⟩;rw[dz (by rw[ai,<-hl];exact hi),ci,e1];rfl
 .rw[dn (by rw[ai];omega),xp]at e
  split at e
  .cases e
  .cases e
end
section
variable{P:Program}{w:aj}{K:ae}{mg:Str->AF}{base:Heap}{cl:Str->Addr}
theorem Gf{K:ae}{p:Ph}{H:Hp}{xs:AL}{vs:List V}(h:fO K p H xs vs):xs.length=vs.length:=by
 induction h with
 |nil=>rfl
 |cons _ _ ih=>rw[ca,ca,ih]
theorem zM{np n:Nat}{b:MS}{vs:List V}{H:Hp}{Q:VK}{E:XK}(h:jZ K cl (aS np n b) vs H Q E):vs.length=np:=by
 obtain⟨p,S,xs,sm,ra,h⟩:=h;unfold aS at h;split at h
 .rename_i e
  rw[<-Gf ra,e]
 .exact h.elim
theorem Rn{x qual:Str}{st:Stmt}{f:Addr}{fd:bn}{N ps:List Str}{k np n:Nat}{b:MS}(F:gR K x qual st f fd)(S:gI N ps (bU st))(hnp:ps.length=np)(hn:N.length=n)
  (hb:∀(cdv:Value)(A:ak)(outer:List av)(s:aa)(H:Hp)(E:XK),dF k (A.deeper (envOfC qual (bU st) s.heap.objs.size f cdv))->fF K cl E0 (eB eG P w K mg base N qual (bU st) f cdv A outer s H E).nox (dS st) b):
  dX P w K mg base eG (k+1) f fd ps (jH K cl (aS np n b)):=by
 subst hnp hn;refine F.ok S (λvs H Q E h=>zM h) λcdv A outer s H vs Q E hr h=>⟨_,hb cdv A outer s H E hr rfl,?_⟩;obtain⟨p,S,xs,sm,ra,h⟩:=h;unfold aS at h;split at h
 .exact⟨p,S,_,sm,sH ra,wT sm h⟩
 .exact h.elim
theorem okX{x qual:Str}{st:Stmt}{f:Addr}{fd:bn}{N ps:List Str}{k np n:Nat}{b:MS}(F:gR K x qual st f fd)(S:gI N ps (bU st))(hnp:ps.length=np)(hn:N.length=n)
  (hb:∀(cdv:Value)(A:ak)(outer:List av)(s:aa)(H:Hp)(E:XK),dF k (A.deeper (envOfC qual (bU st) s.heap.objs.size f cdv))->fF K cl E (eB (fZ P w) P w K mg base N qual (bU st) f cdv A outer s H E) (dS st) b):
  dX P w K mg base (fZ P w) (k+1) f fd ps (jZ K cl (aS np n b)):=by
 subst hnp hn;refine F.okX S (λvs H Q E h=>zM h) λcdv A outer s H vs Q E hr h=>⟨_,hb cdv A outer s H E hr rfl,?_⟩;obtain⟨p,S,xs,sm,ra,h⟩:=h;unfold aS at h;split at h
 .exact⟨p,S,_,sm,sH ra,wT sm h⟩
 .exact h.elim
theorem W9{x qual:Str}{st:Stmt}{f:Addr}{fd:bn}{ds:Array Value}{N ps:List Str}{k np n:Nat}{b:MS}(F:mL K x qual st f fd ds)(S:gI N ps (bU st))(hnp:ps.length=np)(hn:N.length=n)
  (hb:∀(cdv:Value)(A:ak)(outer:List av)(s:aa)(H:Hp)(E:XK),dF k (A.deeper (envOfC qual (bU st) s.heap.objs.size f cdv))->fF K cl E (eB (fZ P w) P w K mg base N qual (bU st) f cdv A outer s H E) (dS st) b):
  dX P w K mg base (fZ P w) (k+1) f fd ps (jZ K cl (aS np n b)):=by
 subst hnp hn;refine F.okX S (λvs H Q E h=>zM h) λcdv A outer s H vs Q E hr h=>⟨_,hb cdv A outer s H E hr rfl,?_⟩;obtain⟨p,S,xs,sm,ra,h⟩:=h;unfold aS at h;split at h
 .exact⟨p,S,_,sm,sH ra,wT sm h⟩
 .exact h.elim
theorem x0{f:Addr}{fd:bn}{ps:List Str}{k:Nat}{g:FM}(F:dX P w K mg base (fZ P w) k f fd ps (jZ K cl g)):dX P w K mg base eG k f fd ps (jH K cl g):=
 ⟨λvs H Q E h=>F.len vs H Q E0 h,λA outer s H args us vs Q E hr e0 hb hv h=>pz (F.run A outer s H args us vs Q E0 hr e0 hb hv h) λr s' hq=>by
  cases r with
  |error e=>
   obtain⟨_,_,_,_,_,_,_,_,_,_,_,_,z⟩:=hq;exact z
  |ok fl=>
   cases fl with
   |ret u=>exact hq
   |next=>exact hq
   |brk=>exact hq
   |cont=>exact hq⟩
end
section
variable{K:ae}{cl:Str->Addr}{E:XK}{X:Cx}{e:af}{es:List af}{ms:MA}{pos p:ah}{k n:Nat}{f:Addr}{fd:bn}{ps:List Str}{g:FM}{x:Str}{dvs:List V}{ds:AE}{dv:AI}
theorem wG{p:Ph}{H:Hp}{xs ys:AL}{vs ws:List V}(h:fO K p H xs vs)(g:fO K p H ys ws):fO K p H (xs++ys) (vs++ws):=by
 induction h with
 |nil=>exact g
 |cons h _ ih=>exact .cons h ih
def Dv(dv:AI)(dvs:List V):Prop:=∀K p H,fO K p H (dv.map .pv) dvs
theorem Dv.nil:Dv [] []:=λ_ _ _=>.nil
theorem Ey(F:dX X.prog X.w X.K X.mg X.base eG k f fd ps (jH K cl g))(hr:dF k X.A)(hg:Gl X x)(hm:X.mg x=some (.ref f))(hk:fg X.K (.ref f)=true)(hb:iL X.K fd ps ds)(hd:bG dvs ds)(hv:Dv dv dvs)
  (ha:dZ K cl E0 X (e::es) ms)(hdb:(x==("__debug__":Str))=false:=by decide)(he:starEach (e::es) X.env=(false,eval e X.env)::starEach es X.env:=by rfl)(hpl:(backTo pos (starEach es X.env)).any (·.1)=false:=by rfl):
  aU K cl E0 X (.Call (.Name x p) (e::es) [] pos) (kL g dv ms):=by
 intro hK;refine PE.imp (yG F hr hg hm hk hb hd Da (ha hK) hdb he hpl) ?_
 rintro σ H Q ⟨p,S,ρ,s,ev,h⟩
 exact bX s ev h λq H' as xs S' stp sm ev r k=>⟨q,S',_,sm,wG r (hv K q H'),Ng sm k⟩
theorem Uc{α β:Type}{R:Ph->Hp->α->β->Prop}{p:Ph}{H:Hp}{r:bI α}{Q:β->Hp->Prop}(h:bV K cl R p H (fL r) Q E):bV K cl R p H r Q E0:=by
 cases r with
 |ok a S=>exact h
 |exc n S=>exact h.elim
 |fail=>exact h.elim
theorem Iw(F:dX X.prog X.w X.K X.mg X.base eG k f fd ps (jH K cl g))(hr:dF k X.A)(hg:Gl X x)(hm:X.mg x=some (.ref f))(hk:fg X.K (.ref f)=true)(hb:iL X.K fd ps ds)(hd:bG dvs ds)(hv:Dv dv dvs)
  (ha:dZ K cl E X (e::es) ms)(hdb:(x==("__debug__":Str))=false:=by decide)(he:starEach (e::es) X.env=(false,eval e X.env)::starEach es X.env:=by rfl)(hpl:(backTo pos (starEach es X.env)).any (·.1)=false:=by rfl):
  aU K cl E X (.Call (.Name x p) (e::es) [] pos) (aO g dv ms):=by
 intro hK;refine PE.imp (yG F hr hg hm hk hb hd Da (ha hK) hdb he hpl) ?_
 rintro σ H Q ⟨p,S,ρ,s,ev,h⟩
 exact bX s ev h λq H' as xs S' stp sm ev r k=>⟨q,S',_,sm,wG r (hv K q H'),Uc (Ng sm k)⟩
theorem Xu(F:dX X.prog X.w X.K X.mg X.base eG k f fd ps (jH K cl g))(hr:dF k X.A)(hg:Gl X x)(hm:X.mg x=some (.ref f))(hk:fg X.K (.ref f)=true)(hb:iL X.K fd ps ds)(hd:bG dvs ds)(hv:Dv dv dvs)
  (ha:dZ K cl E X (e::es) ms)(hdb:(x==("__debug__":Str))=false:=by decide)(he:starEach (e::es) X.env=(false,eval e X.env)::starEach es X.env:=by rfl)(hpl:(backTo pos (starEach es X.env)).any (·.1)=false:=by rfl):
  aU K cl E X (.Call (.Name x p) (e::es) [] pos) (oS g dv ms):=by
 intro hK;refine PE.imp (yG F hr hg hm hk hb hd Da (ha hK) hdb he hpl) ?_
 rintro σ H Q ⟨p,S,ρ,s,ev,h⟩
 exact bX s ev h λq H' as xs S' stp sm ev r k=>⟨q,S',_,sm,wG r (hv K q H'),Uc k⟩
def tZ(n:Str):MS:=λ_ S=>.exc n S
theorem Fr{P:Program}{w:aj}{mg:Str->AF}{base:Heap}{N:List Str}{qual:Str}{scope:Scope}{f:Addr}{cd:Value}{A:ak}{outer:List av}{AN:aa}{AO:Hp}
  {txt:Str}{j:Nat}{np p1 cpos:ah}(hg:Gl (eB (fZ P w) P w K mg base N qual scope f cd A outer AN AO E) x)(hm:mg x=some (.ref (cl x)))(hx:je K (cl x) lO "ValueError.__new__"=true)
  (hd:(x==("__debug__":Str))=false:=by decide):
  eE K cl E (eB (fZ P w) P w K mg base N qual scope f cd A outer AN AO E) (.Raise (some (.Call (.Name x np) [.Constant (.str txt) j p1] [] cpos)) none pos) (tZ x):=
 λ_=>PS.imp (Tt hg hm hx hd) λD σ H ⟨p,S,ρ,s,ev,h⟩=>h p H s.step s
end
def cF(own:List Str)(cap:List (Nat×Str))(ρ:bR):bR:=own.map (λ_=>none)++cap.map λp=>(ρ[p.1]?).join
open Classical in
noncomputable def bT(G:Gd)(g:GM)(me:ME):AI->bR->aG->bI AI
 |[],_,S=>if iO G S then .ok [] S else .fail
 |x::r,ρ,S=>if iO G S then(match g x ρ with
  |none=>.fail
  |some ρ1=>match me ρ1 S with
   |.ok (.pv y) S1=>match bT G g me r ρ1 S1 with
    |.ok ys S2=>.ok (y::ys) S2
    |_=>.fail
   |_=>.fail)else .fail
theorem dC{g:GM}{me:ME}{ρ:bR}{S:aG}:bT [] g me [] ρ S=.ok [] S:=by
 unfold bT;rw[if_pos (lN S)]
theorem dG{g:GM}{me:ME}{x:PV}{r:AI}{ρ:bR}{S:aG}:bT [] g me (x::r) ρ S=(match g x ρ with
  |none=>.fail
  |some ρ1=>match me ρ1 S with
   |.ok (.pv y) S1=>match bT [] g me r ρ1 S1 with
    |.ok ys S2=>.ok (y::ys) S2
    |_=>.fail
   |_=>.fail):=by
 rw[bT,if_pos (lN S)]
noncomputable def bF(own:List Str)(cap:List (Nat×Str))(mi:MI)(g:GM)(me:ME):ME:=λρ S=>(mi ρ S).bind λxs S1=>(bT xs.2 g me xs.1 (cF own cap ρ) S1).bind λys S2=>.ok (.pv (.lst ys)) S2
theorem Fp{G:Gd}{g:GM}{me:ME}:∀(xs:AI)(ρ:bR)(S:aG)(n:Str)(S':aG),bT G g me xs ρ S≠.exc n S'
 |[],_,_,_,_,e=>by
  unfold bT at e;split at e<;>cases e
 |x::r,ρ,S,n,S',e=>by
  unfold bT at e;split at e
  .split at e
   .cases e
   .split at e
    .split at e
     .cases e
     .cases e
    .cases e
  .cases e
theorem Nf{G:Gd}{g:GM}{me:ME}{xs zs:AI}{ρ:bR}{S S':aG}(e:bT G g me xs ρ S=.ok zs S'):iO G S:=by
 cases xs with
 |nil=>
  unfold bT at e;split at e
  .assumption
  .cases e
 |cons x r=>
  unfold bT at e;split at e
  .assumption
  .cases e
section
variable{K:ae}{cl:Str->Addr}{E:XK}{X:Cx}{p q:Ph}{H H':Hp}{S:aG}
theorem Dw{ρ:bR}{σ:St}{own:List Str}{cap:List (Nat×Str)}(h:dI K p H ρ σ):dI K p H (cF own cap ρ) (iT own cap σ):=by
 refine⟨by unfold cF iT;simp,λi v e=>?_⟩;unfold cF at e;unfold iT
 by_cases hi:i<own.length
 .rw[dz (by simpa using hi),ci,aw hi]at e
  cases e
 .rw[dn (by rw[ai];omega),ci,ai]at e⊢
  cases z:cap[i-own.length]? with
  |none=>rw[z]at e;cases e
  |some c=>
   rw[z]at e;have e:(ρ[c.1]?).join=some v:=ck e;have e':ρ[c.1]?=some (some v):=by
    cases y:ρ[c.1]? with
    |none=>rw[y]at e;cases e
    |some o=>rw[y]at e;exact congrArg some e
   obtain⟨x,e1,e2⟩:=h.at_ c.1 v e';refine⟨x,?_,e2⟩;show some ((σ[c.1]?).join)=some (some x);rw[e1];rfl
def Ph.res(p:Ph)(D:Addr):Ph:=⟨p.f,λa=>p.w a\/a=D,λa=>p.c a\/a=D⟩
def Ph.hold(p:Ph)(D:Addr):Ph:=⟨p.f,λa=>p.w a/\a≠D,p.c⟩
def Ph.less(p:Ph)(D:Addr):Ph:=⟨p.f,λa=>p.w a/\a≠D,λa=>p.c a/\a≠D⟩
theorem aW.notin(s:aW K p S H){D:Addr}(h:H D=none):¬p.c D:=λc=>by
 obtain⟨o,e,_⟩:=s.mu D c;rw[h]at e;cases e
theorem aW.res(s:aW K p S H){D:Addr}{o:HO}(h:H D=none)(mo:Mb o):bK p H (p.res D) (aX H D o)/\aW K (p.res D) S (aX H D o):=by
 have st:bK p H (p.res D) (aX H D o):=⟨s.wc,s.mu,jn,λa h=>.inl h,λa h=>.inl h,λa h g=>absurd h g,λa x n=>x.elim (λz=>absurd z n) (λz=>by rw[z];exact h),λa x n=>x.elim (λz=>absurd z n) (λz=>by rw[z];exact h),λa u e _=>by
  rw[bS (fH e h)];exact e⟩
 refine⟨st,s.nd,s.len,λa h=>.inl (s.sub a h),λa x=>x.elim (λz=>.inl (s.wc a z)) .inr,λa x=>?_,λk a u e1 e2=>?_⟩
 .by_cases z:a=D
  .rw[z,fI]
   exact⟨o,rfl,mo⟩
  .rw[bS z]
   exact s.mu a (x.elim id λy=>absurd y z)
 .exact(s.obj k a u e1 e2).mono (λvs e=>by rw[bS (fH e h)];exact e) (λb w f=>⟨⟨.inl w,f⟩,λvs e=>by rw[bS (fH e h)];exact e⟩) λ_ _ r=>st.reps r
theorem aW.resHold(s:aW K p S H){D:Addr}{o:HO}(h:H D=none)(mo:Mb o):aW K ((p.res D).hold D) S (aX H D o):=by
 obtain⟨st,sm⟩:=s.res (o:=o) h mo;have ne:∀a,p.w a->a≠D:=λa w z=>s.notin h (z▸s.wc a w);refine⟨sm.nd,sm.len,λa m=>⟨sm.sub a m,ne a (s.sub a m)⟩,λa x=>sm.wc a x.1,sm.mu,λk a u e1 e2=>?_⟩;exact(s.obj k a u e1 e2).mono (λvs e=>by rw[bS (fH e h)];exact e) (λb w f=>⟨⟨⟨.inl w,ne b w⟩,f⟩,λvs e=>by rw[bS (fH e h)];exact e⟩) λ_ _ r=>st.reps r
theorem bK.unhold{D:Addr}(h:p.w D)(st:bK (p.hold D) H q H')(s:aW K p S H):bK p H ⟨q.f,λa=>q.w a\/a=D,q.c⟩ H':=
 ⟨s.wc,s.mu,st.pre,λa x=>by
  by_cases z:a=D
  .exact .inr z
  .exact .inl (st.mw a ⟨x,z⟩),st.mono,st.nf,λa x n=>by
  rcases x with x |x
  .exact st.nw a x λz=>n z.1
  .exact absurd (x▸h) n,st.nc,λa o e n=>st.keep a o e λz=>n z.1⟩
theorem aW.grow{D:Addr}{ys:List V}{o:HO}(s:aW K p S H)(sh:aW K (p.hold D) S H)(w:p.w D)(n:D∉p.f)(mo:Mb o):bK p H p (aX H D o)/\aW K p S (aX H D o)/\aW K (p.hold D) S (aX H D o):=by
 have st:bK p H p (aX H D o):=⟨s.wc,s.mu,jn,λ_ h=>h,λ_ h=>h,λ_ h g=>absurd h g,λ_ h g=>absurd h g,λ_ h g=>absurd h g,λa u e nw=>by
  rw[bS (λz:a=D=>nw (by rw[z];exact w))];exact e⟩
 have hm:∀a,p.c a->∃u,aX H D o a=some u/\Mb u:=λa x=>by
  by_cases z:a=D
  .rw[z,fI]
   exact⟨o,rfl,mo⟩
  .rw[bS z]
   exact s.mu a x
 refine⟨st,⟨s.nd,s.len,s.sub,s.wc,hm,λk a u e1 e2=>?_⟩,⟨sh.nd,sh.len,sh.sub,sh.wc,hm,λk a u e1 e2=>?_⟩⟩
 .have ne:a≠D:=λz=>n (z▸db e1)
  exact(sh.obj k a u e1 e2).mono (λvs e=>by rw[bS ne];exact e) (λb w f=>⟨⟨w.1,f⟩,λvs e=>by rw[bS w.2];exact e⟩) λ_ _ r=>st.reps r
 .have ne:a≠D:=λz=>n (z▸db e1)
  exact(sh.obj k a u e1 e2).mono (λvs e=>by rw[bS ne];exact e) (λb w f=>⟨⟨w,f⟩,λvs e=>by rw[bS w.2];exact e⟩) λ_ _ r=>st.reps r
theorem aW.toLess{D:Addr}(s:aW K (p.hold D) S H):aW K (p.less D) S H:=
 ⟨s.nd,s.len,s.sub,λa h=>⟨s.wc a h,h.2⟩,λa h=>s.mu a h.1,λk a o e1 e2=>
  (s.obj k a o e1 e2).mono (λ_ e=>e) (λb w f=>⟨⟨w,f⟩,λ_ e=>e⟩) λ_ _ r=>pT (λa h=>h.1) r⟩
theorem bK.toLess{D:Addr}(st:bK p H q H')(h:H D=none):bK p H (q.less D) H':=by
 have nD:∀a,p.c a->a≠D:=λa c z=>by
  obtain⟨o,e,_⟩:=st.mu a c;rw[z,h]at e;cases e
 exact⟨st.wc,st.mu,st.pre,λa x=>⟨st.mw a x,nD a (st.wc a x)⟩,λa x=>⟨st.mono a x,nD a x⟩,st.nf,λa x=>st.nw a x.1,λa x=>st.nc a x.1,st.keep⟩
variable{sc:Scope}{own:List Str}{cap:List (Nat×Str)}{elt target iter:af}{pos:ah}{mi:MI}{g:GM}{me:ME}
theorem Rs{σ:St}{ρ:bR}{xs zs:AI}{G:Gd}{J:It}{Q:VK}{D:Addr}{S2:aG}(sm:aW K p S H)(ev:dI K p H ρ σ)(it:eU K p H (xs,G) J)(z:bT G g me xs (cF own cap ρ) S=.ok zs S2)(hD:H D=none)
  (k:∀q H' vs,bK p H q H'->aW K q S2 H'->aW K (q.hold D) S2 H'->q.w D->D∉q.f->H' D=some (.lst vs)->vs.length<=sizeLine->aQ K q.c H' zs vs->Q (.ref D) H'):
  vF J (gP K g) (tP K cl E0 (cK K) me) (iT own cap σ) H D Q:=by
 obtain⟨st0,sm0⟩:=sm.res (D:=D) (o:=.lst []) hD trivial;have sh0:=sm.resHold (D:=D) (o:=.lst []) hD trivial;have nf0:D∉p.f:=λh=>sm.notin hD (sm.wc D (sm.sub D h));refine By xs.length it.1 (λi σ1 H1 ys=>ys.length=i/\i<=xs.length/\H1 D=some (.lst ys)/\∃p1 S1 ρ1 us ws,(aW K p1 S1 H1/\aW K (p1.hold D) S1 H1)/\bK p H p1 H1/\p1.w D/\D∉p1.f/\dI K p1 H1 ρ1 σ1/\eU K p1 H1 (xs,G) J/\iO G S1/\aQ K p1.c H1 us ys/\zs=us++ws/\bT G g me (xs.drop i) ρ1 S1=.ok ws S2) ?_ ?_ ?_ ?_ ?_
 .refine⟨rfl,ig _,fI,p.res D,S,cF own cap ρ,[],zs,⟨sm0,sh0⟩,st0,.inr rfl,nf0,Dw (st0.repE ev),it.step st0,?_,.nil,rfl,by simpa using z⟩
  exact Nf z
 .rintro i σ1 H1 ys ⟨h1,_,h2,_⟩
  exact⟨h1,h2⟩
 .rintro i σ1 H1 ys hi ⟨_,_,_,p1,S1,ρ1,us,ws,⟨sm1,sh1⟩,st1,w1,f1,ev1,it1,g1,_⟩
  exact((it1.2 p1 H1 S1 sm1.step sm1 g1).1 i xs[i] (aw hi)).1
 .rintro i σ1 H1 ys x H2 hi ⟨hl,_,hH,p1,S1,ρ1,us,ws,⟨sm1,sh1⟩,st1,w1,f1,ev1,it1,g1,r1,e1,c1⟩ hy
  obtain⟨same,rx⟩:=((it1.2 p1 H1 S1 sm1.step sm1 g1).1 i xs[i] (aw hi)).2 x H2 hy;rw[vd hi]at c1;unfold bT at c1;rw[if_pos g1]at c1;split at c1
  .cases c1
  .rename_i ρ2 gz
   split at c1
   .rename_i y S3 mz
    split at c1
    .rename_i vs S4 cz
     cases c1;have st2:=sm1.same same;have sm2:=sm1.ofSame same;have smh:=sh1.ofSame same;have stS:bK p H p1 H2:=st1.trans st2;refine⟨p1,S1,ρ1,xs[i],ρ2,sm2,st2.repE ev1,rx,gz,λσ3 ev3=>⟨p1.hold D,S1,ρ2,smh,⟨ev3.len,ev3.at_⟩,?_⟩⟩;rw[mz];intro q H4 y' st4 sm4 ry;have hD2:H2 D=some (.lst ys):=same _ _ hH;have hD4:H4 D=some (.lst ys):=st4.keep D _ hD2 λz=>z.2 rfl;have fq:D∉q.f:=λh=>by
      have:=st4.nf D h f1;rw[hD2]at this;cases this
     have stU:=bK.unhold w1 st4 sm2;have nq:¬q.w D:=λz=>by
      have:=st4.nw D z λy=>y.2 rfl;rw[hD2]at this;cases this
     have smU:aW K ⟨q.f,λa=>q.w a\/a=D,q.c⟩ S3 H4:=⟨sm4.nd,sm4.len,λa h=>.inl (sm4.sub a h),λa h=>h.elim (sm4.wc a) λz=>z▸st4.mono D (sm2.wc D w1),sm4.mu,λk a o e1 e2=>
      (sm4.obj k a o e1 e2).mono (λ_ e=>e) (λb w f=>⟨⟨.inl w,f⟩,λ_ e=>e⟩) λ_ _ r=>r⟩
     have shU:aW K (Ph.hold ⟨q.f,λa=>q.w a\/a=D,q.c⟩ D) S3 H4:=⟨sm4.nd,sm4.len,λa h=>⟨.inl (sm4.sub a h),λz=>nq (z▸sm4.sub a h)⟩,λa h=>smU.wc a h.1,sm4.mu,λk a o e1 e2=>
      (sm4.obj k a o e1 e2).mono (λ_ e=>e) (λb w f=>⟨⟨⟨.inl w,λz=>nq (z▸w)⟩,f⟩,λ_ e=>e⟩) λ_ _ r=>r⟩
     obtain⟨stG,smG,shG⟩:=smU.grow (ys:=ys) (D:=D) (o:=.lst (ys++[y'])) shU (.inr rfl) fq trivial;have stA:=st2.trans (stU.trans stG);refine T5 hi hD4 ⟨by rw[bi,hl];rfl,hi,fI,_,S3,ρ2,us++[y],vs,⟨smG,shG⟩,st1.trans stA,.inr rfl,fq,stG.repE (stU.repE ev3),it1.step stA,Nf cz,?_,by rw[e1,ie];rfl,cz⟩;exact(stA.reps r1).append (.cons (stG.rep ry) .nil)
    .cases c1
   .cases c1
 .rintro σ1 H1 ys ⟨hl,_,hH,p1,S1,ρ1,us,ws,⟨sm1,sh1⟩,st1,w1,f1,ev1,it1,g1,r1,e1,c1⟩
  rw[ve]at c1;unfold bT at c1;rw[if_pos g1]at c1;cases c1;refine⟨(it1.2 p1 H1 _ sm1.step sm1 g1).2,?_⟩;rw[ib]at e1;subst e1;exact k p1 H1 ys st1 sm1 sh1 w1 f1 hH (by rw[hl];exact it.1) r1
theorem wY{σ:St}{ρ:bR}{xs:AI×Gd}{J:It}{Q:VK}{D:Addr}(sm:aW K p S H)(ev:dI K p H ρ σ)(it:eU K p H xs J)(k:bV K cl (cK K) p H ((bT xs.2 g me xs.1 (cF own cap ρ) S).bind λys S2=>.ok (.pv (.lst ys)) S2) Q E)(hD:H D=none):
  vF J (gP K g) (tP K cl E0 (cK K) me) (iT own cap σ) H D Q:=by
 cases z:bT xs.2 g me xs.1 (cF own cap ρ) S with
 |fail=>rw[z]at k;exact k.elim
 |exc n S'=>exact absurd z (Fp _ _ _ _ _)
 |ok zs S2=>
  rw[z]at k;have k:∀q H' x,bK p H q H'->aW K q S2 H'->aT K q.c H' (.lst zs) x->Q x H':=k;refine Rs sm ev it z hD λq H' vs st1 sm1 sh1 w1 f1 hH l1 r1=>?_;refine k (q.less D) H' (.ref D) (st1.toLess hD) sh1.toLess ?_;unfold aT;exact⟨D,vs,rfl,.inl ⟨hH,λz=>z.2 rfl⟩,l1,pT (λa h=>h.1) r1⟩
theorem Fy(k:gL X sc own cap)(hi:PIp K cl E X target iter mi)(hc:X.calm=true)(hg:∀C AN AO ex,kS K (fT X sc (cQ own cap) C AN AO ex) target g)(he:∀C AN AO ex,aU K cl E0 (fT X sc (cQ own cap) C AN AO ex) elt me)
  (hs:∀x,foldedSetIterable iter X.env x=pure x:=by intro _;rfl):aU K cl E X (.ListComp elt [⟨target,iter,[],0⟩] sc pos) (bF own cap mi g me):=by
 intro hK;refine PE.imp (Rx k (hi hK) hc (λC AN AO ex=>hg C AN AO ex hK) (λC AN AO ex=>he C AN AO ex hK) hs) ?_
 rintro σ H Q ⟨p,S,ρ,s,ev,h⟩
 exact bX s ev h λq H' xs J S' stp sm ev it kk D hD=>wY sm ev it kk hD
theorem Ov{i:Nat}{x:Str}{py spos:ah}(hN:X.N.Nodup)(hx:X.N[i]?=some x)(hl:jM X.env.scope x)(k:gL X sc own cap)(hi:PIp K cl E X target iter mi)(hc:X.calm=true)(hg:∀C AN AO ex,kS K (fT X sc (cQ own cap) C AN AO ex) target g)(he:∀C AN AO ex,aU K cl E0 (fT X sc (cQ own cap) C AN AO ex) elt me)
  (hs:∀x,foldedSetIterable iter X.env x=pure x:=by intro _;rfl)(hsw:swapsWith (.ListComp elt [⟨target,iter,[],0⟩] sc pos) (some (.Name x py)) spos.line X.env=pure true:=by rfl)
  (hf:X.fn x=true\/X.env.scope.names.lookup x=some .local:=by first |exact .inl rfl |exact .inr rfl |assumption):
  eE K cl E X (.Assign [.Name x py] (.ListComp elt [⟨target,iter,[],0⟩] sc pos) spos) (aR i (bF own cap mi g me)):=by
 intro hK;refine PS.imp (Hx hN hx hl k (hi hK) hc (λC AN AO ex=>hg C AN AO ex hK) (λC AN AO ex=>he C AN AO ex hK) hs hsw hf) ?_
 rintro D σ H ⟨p,S,ρ,s,ev,h⟩
 have h2:tP K cl E (cK K) (bF own cap mi g me) σ H λy H1=>D.nx (σ.set i (some y)) H1:=by
  refine⟨p,S,ρ,s,ev,?_⟩;unfold aR at h;cases z:bF own cap mi g me ρ S with
  |ok v S1=>
   rw[z]at h;exact λq H' y st sm r=>h q H' _ st sm ((st.repE ev).set r i)
  |exc n S1=>rw[z]at h;exact h
  |fail=>rw[z]at h;exact h
 obtain⟨p,S,ρ,s,ev,h⟩:=h2;exact bX s ev h λq H' xs J S' stp sm ev it kk B hB=>wY sm ev it kk hB
end
def hU:List (Option Bool)->Option (List Bool)
 |[]=>some []
 |some b::r=>match hU r with
  |some bs=>some (b::bs)
  |none=>none
 |none::_=>none
theorem Od:∀{l:List (Option Bool)}{bs:List Bool},hU l=some bs->bs.length=l.length
 |[],_,e=>by cases e;rfl
 |some b::r,bs,e=>by
  unfold hU at e;split at e
  .rename_i cs h
   cases e;rw[ca,ca,Od h]
  .cases e
 |none::r,_,e=>by cases e
theorem wP:∀{l:List (Option Bool)}{bs:List Bool}{i:Nat}{o:Option Bool},hU l=some bs->l[i]?=some o->∃b,o=some b/\bs[i]?=some b
 |[],_,i,o,_,h=>by simp at h
 |some b::r,bs,i,o,e,h=>by
  unfold hU at e;split at e
  .rename_i cs h'
   cases e;cases i with
   |zero=>
    simp at h;exact⟨b,h.symm,rfl⟩
   |succ i=>simpa using wP h' (by simpa using h)
  .cases e
 |none::r,_,_,_,e,_=>by cases e
def aP:Nat->PV->PV->Option Bool
 |_,.non,.non=>some true
 |_,.bl a,.bl b=>some (a==b)
 |_,.int a,.int b=>some (a==b)
 |_,.str a,.str b=>some (a==b)
 |n+1,.tup xs,.tup ys=>match hU (br (aP n) xs ys)with
  |some bs=>some (bs.all id&&xs.length==ys.length)
  |none=>none
 |n+1,.lst xs,.lst ys=>if xs.length=ys.length then(match hU (br (aP n) xs ys)with
  |some bs=>some (bs.all id)
  |none=>none)else some false
 |_,_,_=>none
theorem sN(bs:List Bool):((az bs.length).all λj=>bs.getD j true)=bs.all id:=by
 rw[uu,jv,jv];constructor
 .intro h b hb
  obtain⟨j,hj,e⟩:=oq hb;have:=h j (by simpa using hj);simpa[cf,hj,e]using this
 .intro h j hj
  have hj:j<bs.length:=by simpa using hj
  have:=h bs[j] (du hj);simpa[cf,hj]using this
section
variable{X:Cx}{AM:List (Addr×Obj)}{σ:St}{H:Hp}{s:aa}{c:Addr->Prop}
theorem tG{n:Nat}{xs ys:AI}{vs ws:List V}{its jts:AE}{bs:List Bool}{A:ak}
  (ih:∀(v w:PV)(x y:V)(u u':Value)(b:Bool),aT X.K c H v x->aT X.K c H w y->bM x u->bM y u'->aP n v w=some b->jm A s u u' b)
  (r1:aQ X.K c H xs vs)(r2:aQ X.K c H ys ws)(q1:bG vs its)(q2:bG ws jts)(e:hU (br (aP n) xs ys)=some bs):
  ∀j(h1:j<its.toArray.size)(h2:j<jts.toArray.size),jm A s its.toArray[j] jts.toArray[j] (bs.getD j true):=λj h1 h2=>by
 have l1:=r1.length.trans q1.length;have l2:=r2.length.trans q2.length;have g1:j<xs.length:=by rw[l1];simpa using h1
 have g2:j<ys.length:=by rw[l2];simpa using h2
 obtain⟨x,ex,rx⟩:=r1.get (aw g1);obtain⟨y,ey,ry⟩:=r2.get (aw g2);obtain⟨u,eu,ru⟩:=q1.get ex;obtain⟨u',eu',ru'⟩:=q2.get ey;have hz:(br (aP n) xs ys)[j]?=some (aP n xs[j] ys[j]):=by
  rw[zf,aw g1,aw g2]
 obtain⟨b,eb,eb'⟩:=wP e hz;have e1:its.toArray[j]=u:=by
  rw[zg];rw[aw (by simpa using h1)]at eu;exact ck eu
 have e2:jts.toArray[j]=u':=by
  rw[zg];rw[aw (by simpa using h2)]at eu';exact ck eu'
 rw[e1,e2];have e3:bs.getD j true=b:=by simp[cf,eb']
 rw[e3];exact ih _ _ _ _ _ _ _ rx ry ru ru' eb
theorem qO{n:Nat}{xs ys:AI}{bs:List Bool}(e:hU (br (aP n) xs ys)=some bs):bs.length=min xs.length ys.length:=by
 rw[Od e,jo]
theorem Ce(n:Nat)(v w:PV)(x:V)(b:Bool)(nt:∀xs,v≠.tup xs)(nl:∀xs,v≠.lst xs)(h:aT X.K c H v x)(g:aT X.K c H w x)(e:aP n v w=some b):b=true:=by
 cases v with
 |tup xs=>exact absurd rfl (nt xs)
 |lst xs=>exact absurd rfl (nl xs)
 |non=>
  cases w<;>first |(unfold aP at e;simp at e;done) |skip
  unfold aP at e;cases e;rfl
 |bl i=>
  cases w<;>first |(unfold aP at e;simp at e;done) |skip
  unfold aT at h g;subst h;injection g with g';subst g';unfold aP at e;cases e;exact beq_self_eq_true _
 |int i=>
  cases w<;>first |(unfold aP at e;simp at e;done) |skip
  unfold aT at h g;subst h;injection g with g';subst g';unfold aP at e;cases e;exact beq_self_eq_true _
 |str i=>
  cases w<;>first |(unfold aP at e;simp at e;done) |skip
  unfold aT at h g;subst h;injection g with g';subst g';unfold aP at e;cases e;exact beq_self_eq_true _
theorem Sg(I:aH X AM σ H s):∀(n:Nat)(v w:PV)(x:V)(b:Bool),aT X.K c H v x->aT X.K c H w x->aP n v w=some b->b=true:=by
 intro n
 induction n with
 |zero=>
  intro v w x b h g e;cases v with
  |tup xs=>unfold aP at e;simp at e
  |lst xs=>unfold aP at e;simp at e
  |_=>exact Ce 0 _ w x b (by intro _ z;cases z) (by intro _ z;cases z) h g e
 |succ n ih=>
  have items:∀(xs ys:AI)(vs:List V)(bs:List Bool),aQ X.K c H xs vs->aQ X.K c H ys vs->hU (br (aP n) xs ys)=some bs->bs.all id=true/\xs.length=ys.length:=λxs ys vs bs r1 r2 e=>by
   have ll:=r1.length.trans r2.length.symm;refine⟨?_,ll⟩;rw[jv];intro b hb;obtain⟨j,hj,ej⟩:=oq hb;have hj':=hj;rw[qO e]at hj';have g1:j<xs.length:=by omega
   have g2:j<ys.length:=by omega
   obtain⟨x,ex,rx⟩:=r1.get (aw g1);obtain⟨y,ey,ry⟩:=r2.get (aw g2);have:=ex.symm.trans ey;cases this;have hz:(br (aP n) xs ys)[j]?=some (aP n xs[j] ys[j]):=by
    rw[zf,aw g1,aw g2]
   obtain⟨b',eb,eb'⟩:=wP e hz;rw[aw hj,ej]at eb';cases eb';exact ih _ _ _ _ rx ry eb
  intro v w x b h g e;cases v with
  |tup xs=>
   cases w with
   |tup ys=>
    unfold aT at h g;obtain⟨a,vs,rfl,t1,_,r1⟩:=h;obtain⟨a',ws,e1,t2,_,r2⟩:=g;cases e1;have:=I.tuple_inj t1 t2;subst this;unfold aP at e;split at e
    .rename_i bs hb
     obtain⟨z1,z2⟩:=items xs ys vs bs r1 r2 hb;rw[z1,z2,beq_self_eq_true]at e;cases e;rfl
    .cases e
   |_=>unfold aP at e;simp at e
  |lst xs=>
   cases w with
   |lst ys=>
    unfold aT at h g;obtain⟨a,vs,rfl,t1,_,r1⟩:=h;obtain⟨a',ws,e1,t2,_,r2⟩:=g;cases e1;have:=I.list_inj t1.sq t2.sq;subst this;unfold aP at e;rw[if_pos (r1.length.trans r2.length.symm)]at e;split at e
    .rename_i bs hb
     obtain⟨z1,z2⟩:=items xs ys vs bs r1 r2 hb;rw[z1]at e;cases e;rfl
    .cases e
   |_=>unfold aP at e;simp at e
  |_=>exact Ce (n+1) _ w x b (by intro _ z;cases z) (by intro _ z;cases z) h g e
theorem Oj(I:aH X AM σ H s):∀(n:Nat)(v w:PV)(x y:V)(u u':Value)(b:Bool)(A:ak),A.units+n<cLine->aT X.K c H v x->aT X.K c H w y->bM x u->bM y u'->aP n v w=some b->mq A s u u' b/\jm A s u u' b:=by
 have flat:∀(n:Nat)(v w:PV)(x y:V)(u u':Value)(b:Bool)(A:ak),(∀xs,v≠.tup xs)->(∀xs,v≠.lst xs)->aT X.K c H v x->aT X.K c H w y->bM x u->bM y u'->aP n v w=some b->mq A s u u' b/\jm A s u u' b:=by
  intro n v w x y u u' b A nt nl h g r r' e;cases v with
  |tup xs=>exact absurd rfl (nt xs)
  |lst xs=>exact absurd rfl (nl xs)
  |non=>
   cases w<;>first |(unfold aP at e;simp at e;done) |skip
   unfold aT at h g;subst h g;cases r;cases r';unfold aP at e;cases e;exact⟨zh,qe _⟩
  |bl i=>
   cases w<;>first |(unfold aP at e;simp at e;done) |skip
   unfold aT at h g;subst h g;cases r;cases r';unfold aP at e;cases e;exact⟨zi _ _,xy _ _⟩
  |int i=>
   cases w<;>first |(unfold aP at e;simp at e;done) |skip
   unfold aT at h g;subst h g;obtain⟨t,rfl⟩:=r;obtain⟨t',rfl⟩:=r';unfold aP at e;cases e;exact⟨zj _ _ _ _,ya _ _ _ _⟩
  |str i=>
   cases w<;>first |(unfold aP at e;simp at e;done) |skip
   unfold aT at h g;subst h g;obtain⟨t,rfl⟩:=r;obtain⟨t',rfl⟩:=r';unfold aP at e;cases e;exact⟨zk _ _ _ _,yb _ _ _ _⟩
 have main:∀(n:Nat)(v w:PV)(x y:V)(u u':Value)(b:Bool)(A:ak),A.units+n<cLine->aT X.K c H v x->aT X.K c H w y->bM x u->bM y u'->aP n v w=some b->mq A s u u' b/\jm A s u u' b:=by
  intro n
  induction n with
  |zero=>
   intro v w x y u u' b A hu h g r r' e;cases v with
   |tup xs=>unfold aP at e;simp at e
   |lst xs=>unfold aP at e;simp at e
   |_=>exact flat 0 _ w x y u u' b A (by intro _ z;cases z) (by intro _ z;cases z) h g r r' e
  |succ n ih=>
   intro v w x y u u' b A hu h g r r' e;have hin:A.in1.units+n<cLine:=by show A.units+1+n<cLine;omega
   cases v with
   |tup xs=>
    cases w with
    |tup ys=>
     have hs:x=y->b=true:=λz=>Sg I (n+1) _ _ x b h (z▸g) e;unfold aT at h g;obtain⟨a,vs,rfl,t1,_,r1⟩:=h;obtain⟨a',ws,rfl,t2,_,r2⟩:=g;cases r;cases r';obtain⟨its,q1,p1,_⟩:=I.tuple t1;obtain⟨jts,q2,p2,_⟩:=I.tuple t2;unfold aP at e;split at e
     .rename_i bs hb
      cases e;have z:=zl (A:=A) (s:=s) (e:=λj=>bs.getD j true) (show s.heap.IsTuple a its.toArray from p1) (show s.heap.IsTuple a' jts.toArray from p2) (by omega)
       (tG (A:=A.in1) (λv w x y u u' b h1 h2 h3 h4 h5=>(ih v w x y u u' b A.in1 hin h1 h2 h3 h4 h5).2) r1 r2 q1 q2 hb)
      have l1:=r1.length.trans q1.length;have l2:=r2.length.trans q2.length;rw[aq,aq,<-l1,<-l2,<-qO hb,sN]at z;refine⟨z,?_⟩
      by_cases ha:a=a'
      .subst ha
       rw[hs rfl];exact qe _
      .exact zm ha z
     .cases e
    |_=>unfold aP at e;simp at e
   |lst xs=>
    cases w with
    |lst ys=>
     have hs:x=y->b=true:=λz=>Sg I (n+1) _ _ x b h (z▸g) e;unfold aT at h g;obtain⟨a,vs,rfl,t1,_,r1⟩:=h;obtain⟨a',ws,rfl,t2,_,r2⟩:=g;cases r;cases r';obtain⟨its,q1,p1,_⟩:=I.list t1.sq;obtain⟨jts,q2,p2,_⟩:=I.list t2.sq;have l1:=r1.length.trans q1.length;have l2:=r2.length.trans q2.length;have fin:mq A s (.ref a) (.ref a') b->mq A s (.ref a) (.ref a') b/\jm A s (.ref a) (.ref a') b:=λz=>by
      refine⟨z,?_⟩
      by_cases ha:a=a'
      .subst ha
       rw[hs rfl];exact qe _
      .exact zm ha z
     unfold aP at e;split at e
     .rename_i hl
      split at e
      .rename_i bs hb
       cases e;have z:=zn (A:=A) (s:=s) (e:=λj=>bs.getD j true) p1.isList p2.isList (by rw[aq,aq];omega) (by omega)
        (tG (A:=A.in1) (λv w x y u u' b h1 h2 h3 h4 h5=>(ih v w x y u u' b A.in1 hin h1 h2 h3 h4 h5).2) r1 r2 q1 q2 hb)
       have hm:its.length=bs.length:=by rw[qO hb];omega
       rw[aq,hm,sN]at z;exact fin z
      .cases e
     .rename_i hl
      cases e;exact fin (zo p1.isList p2.isList (by rw[aq,aq];simp;omega) (by omega))
    |_=>unfold aP at e;simp at e
   |_=>exact flat (n+1) _ w x y u u' b A (by intro _ z;cases z) (by intro _ z;cases z) h g r r' e
 exact main
end
noncomputable section
open PySem PySem.Spec PyProof.Rows Bn
section
variable{X:Cx}
theorem Lm{AM:List (Addr×Obj)}{σ:St}{H:Hp}{s:aa}(I:aH X AM σ H s){p:Ph}{v w:PV}{x y:V}{u u':Value}{b:Bool}{A:ak}(hu:A.units+8<cLine)(h:dN X.K p H v x)(g:dN X.K p H w y)(r:bM x u)(r':bM y u')(e:aP 8 v w=some b):
  mq A s u u' b/\SeqAt.RcNeAt A s u u' (!b):=by
 have hin:A.in1.units+7<cLine:=by show A.units+1+7<cLine;omega
 cases v with
 |non=>
  cases w<;>first |(unfold aP at e;simp at e;done) |skip
  have h:=h.non;have g:=g.non;subst h g;cases r;cases r';unfold aP at e;cases e;exact⟨zh,SeqAt.RcNeAt.none_none⟩
 |bl i=>
  cases w<;>first |(unfold aP at e;simp at e;done) |skip
  have h:=h.bl;have g:=g.bl;subst h g;cases r;cases r';unfold aP at e;cases e;exact⟨zi _ _,SeqAt.RcNeAt.bool_bool _ _⟩
 |int i=>
  cases w<;>first |(unfold aP at e;simp at e;done) |skip
  have h:=h.int;have g:=g.int;subst h g;obtain⟨t,rfl⟩:=r;obtain⟨t',rfl⟩:=r';unfold aP at e;cases e;exact⟨zj _ _ _ _,SeqAt.RcNeAt.int_int _ _ _ _⟩
 |str i=>
  cases w<;>first |(unfold aP at e;simp at e;done) |skip
  have h:=h.str;have g:=g.str;subst h g;obtain⟨t,rfl⟩:=r;obtain⟨t',rfl⟩:=r';unfold aP at e;cases e;exact⟨zk _ _ _ _,SeqAt.RcNeAt.str_str _ _ _ _⟩
 |tup xs=>
  cases w with
  |tup ys=>
   obtain⟨a,vs,rfl,t1,_,r1⟩:=h.tup;obtain⟨a',ws,rfl,t2,_,r2⟩:=g.tup;cases r;cases r';obtain⟨its,q1,p1,_⟩:=I.tuple t1;obtain⟨jts,q2,p2,_⟩:=I.tuple t2;unfold aP at e;split at e
   .rename_i bs hb
    cases e;have it:=tG (s:=s) (A:=A.in1) (λv w x y u u' b h1 h2 h3 h4 h5=>(Oj I 7 v w x y u u' b A.in1 hin h1 h2 h3 h4 h5).2) r1 r2 q1 q2 hb;have z:=zl (A:=A) (s:=s) (e:=λj=>bs.getD j true) (show s.heap.IsTuple a its.toArray from p1) (show s.heap.IsTuple a' jts.toArray from p2) (by omega) it;have z':=SeqAt.RcNeAt.tuples (A:=A) (s:=s) (e:=λj=>bs.getD j true) (show s.heap.IsTuple a its.toArray from p1) (show s.heap.IsTuple a' jts.toArray from p2) (by omega) it;have l1:=r1.length.trans q1.length;have l2:=r2.length.trans q2.length;rw[aq,aq,<-l1,<-l2,<-qO hb,sN]at z z';exact⟨z,z'⟩
   .cases e
  |_=>unfold aP at e;simp at e
 |lst xs=>
  cases w with
  |lst ys=>
   obtain⟨a,vs,rfl,t1,_,r1⟩:=h.lst;obtain⟨a',ws,rfl,t2,_,r2⟩:=g.lst;cases r;cases r';obtain⟨its,q1,p1,_⟩:=I.list t1;obtain⟨jts,q2,p2,_⟩:=I.list t2;have l1:=r1.length.trans q1.length;have l2:=r2.length.trans q2.length;unfold aP at e;split at e
   .rename_i hl
    split at e
    .rename_i bs hb
     cases e;have it:=tG (s:=s) (A:=A.in1) (λv w x y u u' b h1 h2 h3 h4 h5=>(Oj I 7 v w x y u u' b A.in1 hin h1 h2 h3 h4 h5).2) r1 r2 q1 q2 hb;have z:=zn (A:=A) (s:=s) (e:=λj=>bs.getD j true) p1.isList p2.isList (by rw[aq,aq];omega) (by omega) it;have z':=SeqAt.RcNeAt.lists (A:=A) (s:=s) (e:=λj=>bs.getD j true) p1.isList p2.isList (by rw[aq,aq];omega) (by omega) it;have hm:its.length=bs.length:=by rw[qO hb];omega
     rw[aq,hm,sN]at z z';exact⟨z,z'⟩
    .cases e
   .rename_i hl
    cases e;exact⟨zo p1.isList p2.isList (by rw[aq,aq];simp;omega) (by omega),SeqAt.RcNeAt.lists_lengths p1.isList p2.isList (by rw[aq,aq];simp;omega) (by omega)⟩
  |_=>unfold aP at e;simp at e
def vB(K:ae)(neg:Bool):R2:=λx y H Q=>∃p v w b,dN K p H v x/\dN K p H w y/\aP 8 v w=some b/\Q (.bl (if neg then !b else b)) H
theorem El(hu:X.A.units+8<cLine):dB X (compareOp .Eq) (vB X.K false):=by
 intro AM s σ H x y v u Q I rx ry h;obtain⟨p,a,b,k,h1,h2,e,q⟩:=h;exact(Lm I hu h1 h2 rx ry e).1 X.prog X.w X.xe _ ⟨.bl k,H,I,rfl,q⟩
theorem Vk(hu:X.A.units+8<cLine):dB X (compareOp .NotEq) (vB X.K true):=by
 intro AM s σ H x y v u Q I rx ry h;obtain⟨p,a,b,k,h1,h2,e,q⟩:=h;exact(Lm I hu h1 h2 rx ry e).2 X.prog X.w X.xe _ ⟨.bl (!k),H,I,rfl,q⟩
def cP(a b:PV):AJ:=(aP 8 a b).map .bl
def eM(a b:PV):AJ:=(aP 8 a b).map λk=>.bl (!k)
theorem Qn{K:ae}:fE K (vB K false) cP:=λ{p S H a b c x y Q} s ra rb e k=>by
 unfold cP at e;cases z:aP 8 a b with
 |none=>rw[z]at e;cases e
 |some t=>
  rw[z]at e;cases e;exact⟨p,a,b,t,ra,rb,z,k H _ (cR.refl H) (by unfold aT;rfl)⟩
theorem Gn{K:ae}:fE K (vB K true) eM:=λ{p S H a b c x y Q} s ra rb e k=>by
 unfold eM at e;cases z:aP 8 a b with
 |none=>rw[z]at e;cases e
 |some t=>
  rw[z]at e;cases e;exact⟨p,a,b,t,ra,rb,z,k H _ (cR.refl H) (by unfold aT;rfl)⟩
def i2(f:Int->Int->AJ):PV->PV->AJ
 |.int a,.int b=>f a b
 |_,_=>none
open Classical in
def cI(C:Int->Int->Prop)(g:Int->Int->PV)(a b:Int):AJ:=if C a b then some (g a b)else none
def vX:PV->V
 |.int i=>.int i
 |.bl b=>.bl b
 |.str s=>.str s
 |_=>.non
def Ea:PV->Bool
 |.int _=>true
 |.bl _=>true
 |.str _=>true
 |.non=>true
 |_=>false
theorem fJ{K:ae}{c:Addr->Prop}{H:Hp}{v:PV}(h:Ea v=true):aT K c H v (vX v):=by
 cases v with
 |tup _=>cases h
 |lst _=>cases h
 |_=>unfold aT vX;rfl
theorem uZ{K:ae}{C:Int->Int->Prop}{g:Int->Int->PV}{h:Int->Int->V}(fl:∀i j,Ea (g i j)=true/\vX (g i j)=h i j):fE K (rI C h) (i2 (cI C g)):=λ{p S H a b c x y Q} s ra rb e k=>by
 cases a with
 |int i=>
  cases b with
  |int j=>
   unfold i2 cI at e;dsimp only at e;split at e
   .rename_i hc
    cases e;refine⟨i,j,ra.int,rb.int,hc,?_⟩;rw[<-(fl i j).2];exact k H _ (cR.refl H) (fJ (fl i j).1)
   .cases e
  |_=>cases e
 |_=>cases e
theorem rL{K:ae}{g:Int->Int->PV}{h:Int->Int->V}(fl:∀i j,Ea (g i j)=true/\vX (g i j)=h i j):fE K (gY h) (i2 λi j=>some (g i j)):=λ{p S H a b c x y Q} s ra rb e k=>by
 cases a with
 |int i=>
  cases b with
  |int j=>
   cases e;refine⟨i,j,ra.int,rb.int,?_⟩;rw[<-(fl i j).2];exact k H _ (cR.refl H) (fJ (fl i j).1)
  |_=>cases e
 |_=>cases e
def pA(i j:Int):Prop:=Pa i j\/(Bd 1000000 i/\Bd 1000000 j)
theorem pA.ok{i j:Int}(h:pA i j):IntMulOk i j:=by
 rcases h with h |h
 .exact h.ok
 have h1:=Ij h.1;have h2:=Ij h.2;unfold IntMulOk Builtin.Int.intTooBig bitsLine;intro c;simp only[gj,decide_eq_true_eq]at c;have:=c.2;omega
theorem Vz:dB X (binaryOp .Mult) (rI pA λi j=>.int (i*j)):=vH λ_ _ _ _ _ _ _ hc q=>mul_int q hc.ok
def bD:=i2 (cI pA λi j=>.int (i*j))
def iK:=i2 (cI oY λi j=>.int (i.fdiv j))
def eZ:=i2 (cI (λ_ j=>j≠0) λi j=>.int (i.fmod j))
def jJ:=i2 (cI vD λi j=>.int (i^j.toNat))
def dH:=i2 λi j=>some (.int (i-j))
def iE:=i2 λi j=>some (.bl (decide (i<j)))
def rY:=i2 λi j=>some (.bl (decide (i<=j)))
def eD:=i2 λi j=>some (.bl (decide (j<i)))
def nU:=i2 λi j=>some (.bl (decide (j<=i)))
theorem U4{K:ae}:fE K (rI pA λi j=>.int (i*j)) bD:=uZ λ_ _=>⟨rfl,rfl⟩
theorem N4{K:ae}:fE K (rI oY λi j=>.int (i.fdiv j)) iK:=uZ λ_ _=>⟨rfl,rfl⟩
theorem R3{K:ae}:fE K (rI (λ_ j=>j≠0) λi j=>.int (i.fmod j)) eZ:=uZ λ_ _=>⟨rfl,rfl⟩
theorem U6{K:ae}:fE K (rI vD λi j=>.int (i^j.toNat)) jJ:=uZ λ_ _=>⟨rfl,rfl⟩
theorem T4{K:ae}:fE K (gY λi j=>.int (i-j)) dH:=rL λ_ _=>⟨rfl,rfl⟩
theorem Ln{K:ae}:fE K (gY λi j=>.bl (decide (i<j))) iE:=rL λ_ _=>⟨rfl,rfl⟩
theorem Xm{K:ae}:fE K (gY λi j=>.bl (decide (i<=j))) rY:=rL λ_ _=>⟨rfl,rfl⟩
theorem Vm{K:ae}:fE K (gY λi j=>.bl (decide (j<i))) eD:=rL λ_ _=>⟨rfl,rfl⟩
theorem Cn{K:ae}:fE K (gY λi j=>.bl (decide (j<=i))) nU:=rL λ_ _=>⟨rfl,rfl⟩
def cJ:PV->AJ
 |.int i=>some (.int (-i))
 |_=>none
theorem P7{K:ae}:vO K (rU λi=>.int (-i)) cJ:=λ{p S H a c x Q} s ra e k=>by
 cases a with
 |int i=>
  cases e;exact⟨i,ra.int,k H _ (cR.refl H) (fJ (v:=.int (-i)) rfl)⟩
 |_=>cases e
def Rl(K:ae):R2:=λx y H Q=>∃l b xs zs,x=.ref l/\y=.ref b/\bN K H l xs/\bN K H b zs/\xs.length+zs.length<=sizeLine/\∀p,H p=none->Q (.ref p) (aX H p (.lst (xs++zs)))
theorem Ny:dB X (binaryOp .Add) (Rl X.K):=by
 intro AM s σ H x y v u Q I rx ry h;obtain⟨l,b,xs,zs,rfl,rfl,hx,hy,hz,q⟩:=h;cases rx;cases ry;obtain⟨its,r1,p1,_⟩:=I.list hx;obtain⟨jts,r2,p2,_⟩:=I.list hy;obtain⟨⟨cls,dd,data,sl⟩,n,ho,hc,_,hd⟩:=p1;obtain⟨⟨cls2,dd2,data2,sl2⟩,n2,ho2,hc2,_,hd2⟩:=p2;simp only at hc hd hc2 hd2;subst hc hd hc2 hd2;have e:its.toArray++jts.toArray=(its++jts).toArray:=by simp
 have l1:=r1.length;have l2:=r2.length;refine qa ⟨_,ho,rfl⟩ ⟨_,ho2,rfl⟩ noFill_list_add seq_list_add PySem.F.slot_list_add PySem.F.entry_list_add (PySem.F.args_list_add_2 _ _) (list_addW l b its.toArray jts.toArray n n2 dd dd2 sl sl2 (by rw[aq,aq];omega)) ⟨ho,ho2,?_⟩;rw[e];exact⟨.ref _,_,I.lnew (t':=s.toks) (r1.append r2) (by rw[bi];omega),rfl,q _ I.fresh⟩
def aE:PV->PV->AJ
 |.int a,.int b=>some (.int (a+b))
 |.lst xs,.lst ys=>if xs.length+ys.length<=16777216 then some (.lst (xs++ys))else none
 |.tup xs,.tup ys=>if xs.length≠0/\ys.length≠0/\xs.length+ys.length<=16777216 then some (.tup (xs++ys))else none
 |_,_=>none
def Mm(K:ae):R2:=λx y H Q=>(gY λi j=>.int (i+j)) x y H Q\/Rl K x y H Q\/zY K x y H Q
theorem Dx:dB X (binaryOp .Add) (Mm X.K):=dB.or A3 (dB.or Ny Vi)
theorem U8{K:ae}:fE K (Mm K) aE:=λ{p S H a b c x y Q} s ra rb e k=>by
 cases a with
 |int i=>
  cases b with
  |int j=>
   cases e;exact .inl ⟨i,j,ra.int,rb.int,k H _ (cR.refl H) (fJ (v:=.int (i+j)) rfl)⟩
  |_=>cases e
 |lst xs=>
  cases b with
  |lst ys=>
   have e:(if xs.length+ys.length<=16777216 then some (PV.lst (xs++ys))else none)=some c:=e;split at e
   .rename_i hl
    cases e;obtain⟨a1,vs,rfl,l1,z1,r1⟩:=ra.lst;obtain⟨a2,ws,rfl,l2,z2,r2⟩:=rb.lst;have hz:vs.length+ws.length<=sizeLine:=by rw[<-r1.length,<-r2.length,gZ];exact hl
    exact .inr (.inl ⟨a1,a2,vs,ws,rfl,rfl,l1,l2,hz,λt ht=>k _ _ (gA ht) (nE s (r1.append r2) (by rw[bi];exact hz) ht)⟩)
   .cases e
  |_=>cases e
 |tup xs=>
  cases b with
  |tup ys=>
   have e:(if xs.length≠0/\ys.length≠0/\xs.length+ys.length<=16777216 then some (PV.tup (xs++ys))else none)=some c:=e;split at e
   .rename_i hl
    cases e;obtain⟨a1,vs,rfl,l1,z1,r1⟩:=ra.tup;obtain⟨a2,ws,rfl,l2,z2,r2⟩:=rb.tup;have hz:vs.length+ws.length<=sizeLine:=by rw[<-r1.length,<-r2.length,gZ];exact hl.2.2
    refine .inr (.inr ⟨a1,a2,vs,ws,rfl,rfl,l1,l2,λq=>hl.1 (by rw[r1.length,q];rfl),hz,λq=>absurd (show ys.length=0 by rw[r2.length,q];rfl) hl.2.1,λ_ t ht=>k _ _ (gA ht) (nF s (r1.append r2) (by rw[bi];exact hz) ht)⟩)
   .cases e
  |_=>cases e
 |_=>cases e
end
section
variable{K:ae}{cl:Str->Addr}{E:XK}{X:Cx}{a b e:af}{es:List af}{ma mb m:ME}{ms:MA}{pos p2:ah}
def aF:PV->PV->AJ
 |.lst xs,.int i=>aY xs i
 |.tup xs,.int i=>aY xs i
 |_,_=>none
theorem yN{c:Addr->Prop}{H:Hp}{xs:AI}{vs:List V}{i:Int}{v:PV}(r:aQ K c H xs vs)(e:aY xs i=some v):∃x,aY vs i=some x/\aT K c H v x:=by
 unfold aY at e⊢;rw[<-r.length];cases z:aZ xs.length i with
 |none=>rw[z]at e;cases e
 |some j=>
  rw[z]at e;exact r.get e
theorem aap:fE K (Ao K) aF:=λ{p S H a b c x y Q} s ra rb e k=>by
 cases b with
 |int i=>
  cases a with
  |lst xs=>
   obtain⟨a1,vs,rfl,l1,z1,r1⟩:=ra.lst;obtain⟨x,e1,r2⟩:=yN r1 e;exact .inl ⟨a1,vs,i,x,rfl,rb.int,l1,e1,k H x (cR.refl H) r2⟩
  |tup xs=>
   obtain⟨a1,vs,rfl,l1,z1,r1⟩:=ra.tup;obtain⟨x,e1,r2⟩:=yN r1 e;exact .inr (.inl ⟨a1,vs,i,x,rfl,rb.int,l1,e1,k H x (cR.refl H) r2⟩)
  |_=>cases e
 |_=>cases a<;>cases e
theorem Q6(ha:aU K cl E X a ma)(hb:aU K cl E X b mb)(hs:yP b:=by intro _ _;rfl):aU K cl E X (.Subscript a b pos) (aC aF ma mb):=by
 intro hK;subst hK;refine(Sl Nk (ha rfl) (hb rfl) hs).imp ?_
 rintro σ H Q ⟨p,S,ρ,s,e,h⟩
 exact bX s e h λq H1 a x S1 st s1 e1 r1 h1=>bX s1 e1 h1 λq2 H2 b y S2 st2 s2 e2 r2 h2=>sM aap s2 (st2.repA r1) r2 h2
abbrev MO:=bR->aG->bI AH
def cX:MO:=λ_ S=>.ok none S
def eL:AV->aG->bI AH
 |.pv (.int i),S=>.ok (some i) S
 |_,_=>.fail
def cV(m:ME):MO:=λρ S=>(m ρ S).bind eL
abbrev RO:Ph->Hp->AH->AH->Prop:=λ_ _ a b=>a=b
variable(K cl E X)
def pM(e:Option af)(m:MO):Prop:=X.K=K->PO X e (tP K cl E RO m)
variable{K cl E X}
theorem PO.imp{e:Option af}{t t':TO}(h:PO X e t)(i:∀σ H Q,t' σ H Q->t σ H Q):PO X e t':=λAM s σ H Q I q=>h AM s σ H Q I (i σ H Q q)
theorem Yt:pM K cl E X none cX:=λ_=>PO.imp Ay λσ H Q ⟨p,S,ρ,s,e,h⟩=>bV.ret (R:=RO) h s rfl
theorem Xv(h:aU K cl E X e m):pM K cl E X (some e) (cV m):=by
 intro hK;subst hK;refine PO.imp (Uz (h rfl)) ?_
 rintro σ H Q ⟨p,S,ρ,s,e,h⟩
 refine bX s e h λq H1 a x S1 st s1 e1 r1 h1=>?_;unfold eL at h1;split at h1
 .rename_i i
  exact⟨i,(show dN X.K q H1 (.int i) x from .inl r1).int,bV.ret (R:=RO) h1 s1 rfl⟩
 .exact h1.elim
def gM(xs:AI)(lo hi:AH):AI:=(xs.drop (HT.sIx xs.length 0 lo)).take (HT.sIx xs.length xs.length hi-HT.sIx xs.length 0 lo)
def gW(v:PV)(lo hi:AH):AJ:=match v with
 |.lst xs=>some (.lst (gM xs lo hi))
 |.tup xs=>if HT.sIx xs.length 0 lo=0/\HT.sIx xs.length xs.length hi=xs.length then none else some (.tup (gM xs lo hi))
 |_=>none
def cY(m:ME)(ml mh:MO):ME:=λρ S=>(m ρ S).bind λv S1=>(ml ρ S1).bind λlo S2=>(mh ρ S2).bind λhi S3=>gX ((rd S3 v).bind λx=>gW x lo hi) S3
theorem Fh{c:Addr->Prop}{H:Hp}{xs:AI}{vs:List V}{lo hi:AH}(r:aQ K c H xs vs):aQ K c H (gM xs lo hi) (mK vs lo hi):=by
 unfold gM mK;rw[<-r.length];exact(r.drop _).take _
theorem U3{lo hi:Option af}{ml mh:MO}(he:aU K cl E X e m)(hl:pM K cl E X lo ml)(hu:pM K cl E X hi mh):aU K cl E X (.Subscript e (.Slice lo hi none p2) pos) (cY m ml mh):=by
 intro hK;subst hK;refine(Vv (mS.or Zw G6) (he rfl) (hl rfl) (hu rfl)).imp ?_
 rintro σ H Q ⟨p,S,ρ,s,e,h⟩
 refine bX s e h λq H1 a x S1 st s1 e1 r1 h1=>bX s1 e1 h1 λq2 H2 lo lo' S2 st2 s2 e2 r2 h2=>bX s2 e2 h2 λq3 H3 hi hi' S3 st3 s3 e3 r3 h3=>?_;cases r2;cases r3;have ra:=st3.repA (st2.repA r1);obtain⟨c,ec,k⟩:=qK s3 h3;cases z:rd S3 a with
 |none=>rw[z]at ec;cases ec
 |some v=>
  rw[z]at ec;have rv:=rC s3 ra z;cases v with
  |lst xs=>
   have ec:some (PV.lst (gM xs lo hi))=some c:=ec;cases ec;obtain⟨a1,vs,rfl,l1,z1,r1⟩:=rv.lst;exact .inl ⟨a1,vs,rfl,l1,λt ht=>k _ _ (gA ht) (nE s3 (Fh r1) (gh (sC vs lo hi) z1) ht)⟩
  |tup xs=>
   obtain⟨a1,vs,rfl,l1,z1,r1⟩:=rv.tup;have ec:(if HT.sIx xs.length 0 lo=0/\HT.sIx xs.length xs.length hi=xs.length then none else some (PV.tup (gM xs lo hi)))=some c:=ec;split at ec
   .cases ec
   .rename_i hw
    cases ec;rw[r1.length]at hw;exact .inr ⟨a1,vs,rfl,l1,hw,λt ht=>k _ _ (gA ht) (nF s3 (Fh r1) (gh (sC vs lo hi) z1) ht)⟩
  |_=>cases ec
theorem lA{id:String}{r:List V->Hp->VK->Prop}{f:AI->AJ}{x:Str}{p:ah}(hc:gB X (.builtin id) r)(hf:iG X.K r f)(hg:Gl X x)(hm:X.mg x=none)(hv:bootBuiltins x=some (.builtin id))(ha:dZ K cl E X (e::es) ms)(hn:x≠"__name__":=by decide)(hdb:(x==("__debug__":Str))=false:=by decide)
  (he:starEach (e::es) X.env=(false,eval e X.env)::starEach es X.env:=by rfl)(hpl:(backTo pos (starEach es X.env)).any (·.1)=false:=by rfl):aU K cl E X (.Call (.Name x p) (e::es) [] pos) (mR f ms):=by
 intro hK;subst hK;refine PE.imp (Vg hc hg hm hv (ha rfl) hn hdb he hpl) ?_
 rintro σ H Q ⟨p,S,ρ,s,ev,h⟩
 exact bX s ev h λq H' as xs S' stp sm ev r k=>Qe hf sm r k
theorem xH{T:String}{r:List V->Hp->VK->Prop}{f:AI->AJ}{x:Str}{p:ah}(hc:gB X (.type T) r)(hf:iG X.K r f)(hg:Gl X x)(hm:X.mg x=none)(hv:bootBuiltins x=some (.type T))(ha:dZ K cl E X (e::es) ms)(hn:x≠"__name__":=by decide)(hdb:(x==("__debug__":Str))=false:=by decide)
  (he:starEach (e::es) X.env=(false,eval e X.env)::starEach es X.env:=by rfl)(hpl:(backTo pos (starEach es X.env)).any (·.1)=false:=by rfl):aU K cl E X (.Call (.Name x p) (e::es) [] pos) (mR f ms):=by
 intro hK;subst hK;refine PE.imp (sP hc hg hm hv (ha rfl) hn hdb he hpl) ?_
 rintro σ H Q ⟨p,S,ρ,s,ev,h⟩
 exact bX s ev h λq H' as xs S' stp sm ev r k=>Qe hf sm r k
def cT:AI->AJ
 |[.lst xs]=>some (.int xs.length)
 |[.tup xs]=>some (.int xs.length)
 |_=>none
theorem R6:iG K (λxs H Q=>∃p ys,xs=[.ref p]/\(bN K H p ys\/cE K H p ys)/\Q (.int ys.length) H) cT:=λ{p S H as c xs Q} s ra e k=>by
 unfold cT at e;split at e
 .rename_i zs
  cases e;cases ra with
  |cons h t=>
   cases t;obtain⟨a,vs,rfl,l,z,r⟩:=h.lst;refine⟨a,vs,rfl,.inl l,?_⟩;rw[<-r.length];exact k H _ (cR.refl H) (fJ (v:=.int zs.length) rfl)
 .rename_i zs
  cases e;cases ra with
  |cons h t=>
   cases t;obtain⟨a,vs,rfl,l,z,r⟩:=h.tup;refine⟨a,vs,rfl,.inr l,?_⟩;rw[<-r.length];exact k H _ (cR.refl H) (fJ (v:=.int zs.length) rfl)
 .cases e
def nO:AI->AJ
 |[.int i]=>some (.int (if i<0 then-i else i))
 |_=>none
theorem V7:iG K (λxs H Q=>∃i,xs=[.int i]/\Q (.int (if i<0 then-i else i)) H) nO:=λ{p S H as c xs Q} s ra e k=>by
 unfold nO at e;split at e
 .rename_i i
  cases e;cases ra with
  |cons h t=>
   cases t;cases h.int;exact⟨i,rfl,k H _ (cR.refl H) (fJ (v:=.int _) rfl)⟩
 .cases e
def fK:AI->AJ
 |[.lst xs]=>some (.tup xs)
 |[.tup xs]=>some (.tup xs)
 |_=>none
theorem Ly:iG K (λxs H Q=>∃p ys,xs=[.ref p]/\((bN K H p ys/\∀l,H l=none->Q (.ref l) (aX H l (.tup ys)))\/(cE K H p ys/\Q (.ref p) H))) fK:=λ{p S H as c xs Q} s ra e k=>by
 unfold fK at e;split at e
 .rename_i zs
  cases e;cases ra with
  |cons h t=>
   cases t;obtain⟨a,vs,rfl,l,z,r⟩:=h.lst;exact⟨a,vs,rfl,.inl ⟨l,λt ht=>k _ _ (gA ht) (nF s r z ht)⟩⟩
 .rename_i zs
  cases e;cases ra with
  |cons h t=>
   cases t;obtain⟨a,vs,rfl,l,z,r⟩:=h.tup;refine⟨a,vs,rfl,.inr ⟨l,k H _ (cR.refl H) ?_⟩⟩;unfold aT;exact⟨a,vs,rfl,l,z,r⟩
 .cases e
def jE:AI->AJ
 |[.lst xs]=>some (.lst xs)
 |[.tup xs]=>some (.lst xs)
 |_=>none
theorem Ow:iG K (λxs H Q=>∃p ys,xs=[.ref p]/\(bN K H p ys\/cE K H p ys)/\∀l,H l=none->Q (.ref l) (aX H l (.lst ys))) jE:=λ{p S H as c xs Q} s ra e k=>by
 unfold jE at e;split at e
 .rename_i zs
  cases e;cases ra with
  |cons h t=>
   cases t;obtain⟨a,vs,rfl,l,z,r⟩:=h.lst;exact⟨a,vs,rfl,.inl l,λt ht=>k _ _ (gA ht) (nE s r z ht)⟩
 .rename_i zs
  cases e;cases ra with
  |cons h t=>
   cases t;obtain⟨a,vs,rfl,l,z,r⟩:=h.tup;exact⟨a,vs,rfl,.inr l,λt ht=>k _ _ (gA ht) (nE s r z ht)⟩
 .cases e
def jU:AI->Option (List Bool)
 |[]=>some []
 |.bl b::r=>match jU r with
  |some bs=>some (b::bs)
  |none=>none
 |_::_=>none
def jV:AI->AJ
 |[.lst xs]=>(jU xs).map λbs=>.bl (bs.all id)
 |_=>none
theorem Dg{c:Addr->Prop}{H:Hp}:∀{xs:AI}{bs:List Bool}{vs:List V},jU xs=some bs->aQ K c H xs vs->vs=bs.map V.bl
 |[],bs,vs,e,r=>by
  cases e;unfold aQ at r;exact r
 |.bl b::xs,bs,vs,e,r=>by
  unfold jU at e;split at e
  .rename_i cs h
   cases e;unfold aQ at r;obtain⟨v,w,rfl,r1,r2⟩:=r;unfold aT at r1;rw[r1,Dg h r2];rfl
  .cases e
 |.non::_,_,_,e,_=>by cases e
 |.int _::_,_,_,e,_=>by cases e
 |.str _::_,_,_,e,_=>by cases e
 |.tup _::_,_,_,e,_=>by cases e
 |.lst _::_,_,_,e,_=>by cases e
theorem R7:iG K (λxs H Q=>∃(a:Addr)(bs:List Bool),xs=[.ref a]/\bN K H a (bs.map V.bl)/\Q (.bl (bs.all id)) H) jV:=λ{p S H as c xs Q} s ra e k=>by
 unfold jV at e;split at e
 .rename_i zs
  cases y:jU zs with
  |none=>rw[y]at e;cases e
  |some bs=>
   rw[y]at e;cases e;cases ra with
   |cons h t=>
    cases t;obtain⟨a,vs,rfl,l,z,r⟩:=h.lst;rw[Dg y r]at l;exact⟨a,bs,rfl,l,k H _ (cR.refl H) (fJ (v:=.bl _) rfl)⟩
 .cases e
def iB:AI->AJ
 |[.int i]=>some (.int i)
 |[.bl b]=>some (.int (if b then 1 else 0))
 |_=>none
theorem R0:iG K (λxs H Q=>(∃i,xs=[.int i]/\Q (.int i) H)\/∃k,xs=[.bl k]/\Q (.int (if k then 1 else 0)) H) iB:=λ{p S H as c xs Q} s ra e k=>by
 unfold iB at e;split at e
 .rename_i i
  cases e;cases ra with
  |cons h t=>
   cases t;cases h.int;exact .inl ⟨i,rfl,k H _ (cR.refl H) (fJ (v:=.int _) rfl)⟩
 .rename_i i
  cases e;cases ra with
  |cons h t=>
   cases t;cases h.bl;exact .inr ⟨i,rfl,k H _ (cR.refl H) (fJ (v:=.int _) rfl)⟩
 .cases e
end
end
section
variable{K:ae}{cl:Str->Addr}{E:XK}{X:Cx}{a b c e l tg:af}{es:List af}{m ma mb:ME}{ms:MA}{pos:ah}{p q:Ph}{H H':Hp}{S:aG}
theorem aW.push(s:aW K p S H){D:Addr}{ps:AI}{vs:List V}(h:H D=none)(l:vs.length<=sizeLine)(r:aQ K p.c H ps vs):
  let q:Ph:=⟨p.f++[D],λa=>p.w a\/a=D,λa=>p.c a\/a=D⟩
  bK p H q (aX H D (.lst vs))/\aW K q (S++[.lst ps]) (aX H D (.lst vs)):=by
 intro q;obtain⟨st0,sm0⟩:=s.res (D:=D) (o:=.lst vs) h trivial;have nf0:D∉p.f:=λz=>s.notin h (s.wc D (s.sub D z));refine⟨⟨st0.wc,st0.mu,⟨[D],rfl⟩,st0.mw,st0.mono,λa x n=>?_,st0.nw,st0.nc,st0.keep⟩,?_,by simp[q,s.len],λa x=>?_,sm0.wc,sm0.mu,λk a o e1 e2=>?_⟩
 .rcases bj.mp x with z |z
  .exact absurd z n
  .have:a=D:=by simpa using z
   rw[this];exact h
 .show(p.f++[D]).Nodup
  rw[qy];refine⟨s.nd,by simp,λa ha b hb z=>?_⟩;have:b=D:=by simpa using hb
  exact nf0 (this▸z▸ha)
 .rcases bj.mp x with z |z
  .exact .inl (s.sub a z)
  .exact .inr (by simpa using z)
 .by_cases hk:k<S.length
  .have e1':p.f[k]?=some a:=by
    have e1:(p.f++[D])[k]?=some a:=e1
    rwa[dz (by rw[s.len];exact hk)]at e1
   rw[dz hk]at e2;refine(s.obj k a o e1' e2).mono (λvs e=>by rw[bS (fH e h)];exact e) (λb w f=>⟨⟨.inl w,λm=>?_⟩,λvs e=>by rw[bS (fH e h)];exact e⟩) λ_ _ r=>st0.reps r;rcases bj.mp m with z |z
   .exact f z
   .have:b=D:=by simpa using z
    exact s.notin h (this▸s.wc b w)
  .have hk':k=S.length:=by
    have:=(bf.mp e2).1;simp at this;omega
   subst hk';rw[dn (am _),gv]at e2;have e1:(p.f++[D])[S.length]?=some a:=e1;rw[<-s.len,dn (am _),gv]at e1;cases e1;cases e2;exact⟨vs,fI,l,st0.reps r⟩
theorem aW.write(s:aW K p S H){D:Addr}{k:Nat}{ps:AI}{vs:List V}(h:p.f[k]?=some D)(hk:k<S.length)(l:vs.length<=sizeLine)(r:aQ K p.c H ps vs):
  bK p H p (aX H D (.lst vs))/\aW K p (S.set k (.lst ps)) (aX H D (.lst vs)):=by
 have w:p.w D:=s.sub D (db h);have st:bK p H p (aX H D (.lst vs)):=⟨s.wc,s.mu,jn,λ_ h=>h,λ_ h=>h,λ_ h g=>absurd h g,λ_ h g=>absurd h g,λ_ h g=>absurd h g,λa u e nw=>by
  rw[bS (λz:a=D=>nw (by rw[z];exact w))];exact e⟩
 refine⟨st,s.nd,by rw[dk];exact s.len,s.sub,s.wc,λa x=>?_,λj a o e1 e2=>?_⟩
 .by_cases z:a=D
  .rw[z,fI]
   exact⟨_,rfl,trivial⟩
  .rw[bS z]
   exact s.mu a x
 .by_cases hj:k=j
  .subst hj
   rw[h]at e1;cases e1;rw[dg hk]at e2;cases e2;exact⟨vs,fI,l,st.reps r⟩
  .rw[dq hj]at e2
   have ne:a≠D:=λq=>hj (pY s.nd h (q▸e1));exact(s.obj j a o e1 e2).mono (λvs e=>by rw[bS ne];exact e) (λb w f=>⟨⟨w,f⟩,λvs e=>by rw[bS (λz:b=D=>f (z▸db h))];exact e⟩) λ_ _ r=>st.reps r
def hV(xs:AL)(S:aG):bI AV:=match mF xs with
 |some vs=>if vs.length<=16777216 then .ok (.ref S.length) (S++[.lst vs])else .fail
 |none=>.fail
def dP(ms:MA):ME:=λρ S=>(ms ρ S).bind hV
theorem Mw(h:dZ K cl E X es ms):aU K cl E X (.List es pos) (dP ms):=by
 intro hK;subst hK;refine(zC (h rfl)).imp ?_
 rintro σ H Q ⟨p,S,ρ,s,e,h⟩
 refine bX s e h λq H1 as xs S1 st s1 e1 r1 h1=>?_;unfold hV at h1;split at h1
 .rename_i vs hv
  split at h1
  .rename_i hl
   have r:=wR hv r1;rw[r.length,<-gZ]at hl;refine⟨hl,λt ht=>?_⟩;obtain⟨st2,sm2⟩:=s1.push ht hl r;exact h1 _ _ (.ref t) st2 sm2 ⟨t,by show(q.f++[t])[S1.length]?=some t;rw[<-s1.len,dn (am _),gv];rfl,rfl⟩
  .exact h1.elim
 .exact h1.elim
def rR(xs:AL)(S:aG):bI AV:=match(fS S xs).bind jE with
 |some (.lst vs)=>.ok (.ref S.length) (S++[.lst vs])
 |_=>.fail
def nM(ms:MA):ME:=λρ S=>(ms ρ S).bind rR
theorem Jv{x:Str}{p:ah}(hx:x="list")(hg:Gl X "list")(hm:X.mg "list"=none)(ha:dZ K cl E X [e] ms)(he:starEach [e] X.env=[(false,eval e X.env)]:=by rfl):aU K cl E X (.Call (.Name x p) [e] [] pos) (nM ms):=by
 intro hK;subst hK hx;refine PE.imp (sP sA hg hm (by decide+kernel) (ha rfl) (by decide) (by decide) he rfl) ?_
 rintro σ H Q ⟨p,S,ρ,s,ev,h⟩
 refine bX s ev h λq H1 as xs S1 st s1 e1 r1 h1=>?_;unfold rR at h1;cases z:fS S1 as with
 |none=>rw[z]at h1;exact h1.elim
 |some us=>
  rw[z]at h1;have rr:=sQ s1 r1 z;have fin:∀(vs:AI)(ws:List V)(a:Addr),aQ X.K q.c H1 vs ws->ws.length<=sizeLine->bV X.K cl (cK X.K) q H1 (.ok (.ref S1.length) (S1++[.lst vs])) Q E->∀l,H1 l=none->Q (.ref l) (aX H1 l (.lst ws)):=λvs ws a r hl k t ht=>by
   obtain⟨st2,sm2⟩:=s1.push ht hl r;exact k _ _ (.ref t) st2 sm2 ⟨t,by show(q.f++[t])[S1.length]?=some t;rw[<-s1.len,dn (am _),gv];rfl,rfl⟩
  cases rr with
  |nil=>exact h1.elim
  |cons h t=>
   rename_i u x ut xt;cases t with
   |cons _ _=>cases u<;>exact h1.elim
   |nil=>
    cases u with
    |lst vs=>
     obtain⟨a,ws,rfl,l,z,r⟩:=h.lst;exact⟨a,ws,rfl,.inl l,fin vs ws a r z h1⟩
    |tup vs=>
     obtain⟨a,ws,rfl,l,z,r⟩:=h.tup;exact⟨a,ws,rfl,.inr l,fin vs ws a r z h1⟩
    |_=>exact h1.elim
def fM(k:Nat)(ys:AL)(S:aG):bI AV:=match ys with
 |[.pv y]=>match S[k]? with
  |some (.lst xs)=>if xs.length<16777216 then .ok (.pv .non) (S.set k (.lst (xs++[y])))else .fail
  |_=>.fail
 |_=>.fail
def dR{α:Type}(k:AV)(S:aG)(f:Nat->bI α):bI α:=match k with
 |.ref k=>(match S[k]? with
  |some (.dic _ _)=>.fail
  |some (.dol _ _)=>.fail
  |_=>f k)
 |_=>.fail
theorem sY{α:Type}(k:Nat)(S:aG)(f:Nat->bI α):dR (.ref k) S f=.fail\/(dR (.ref k) S f=f k/\(∀n l,S[k]?≠some (.dic n l))/\∀n l,S[k]?≠some (.dol n l)):=by
 have e:dR (.ref k) S f=(match S[k]? with
  |some (.dic _ _)=>.fail
  |some (.dol _ _)=>.fail
  |_=>f k):=rfl
 rw[e];cases S[k]? with
 |none=>exact .inr ⟨rfl,λ_ _ z=>(nomatch z),λ_ _ z=>(nomatch z)⟩
 |some o=>
  cases o with
  |dic n l=>exact .inl rfl
  |dol n l=>exact .inl rfl
  |lst xs=>exact .inr ⟨rfl,λ_ _ z=>(nomatch z),λ_ _ z=>(nomatch z)⟩
  |lol xs=>exact .inr ⟨rfl,λ_ _ z=>(nomatch z),λ_ _ z=>(nomatch z)⟩
def cN(m:ME)(ms:MA):ME:=λρ S=>(m ρ S).bind λk S1=>dR k S1 λk=>(ms ρ S1).bind λys S2=>fM k ys S2
theorem yA{k:Nat}{x:V}(s:aW K p S H)(r:cK K p H (.ref k) x)(n1:∀n l,S[k]?≠some (.dic n l))(n2:∀n l,S[k]?≠some (.dol n l)):Bb K "list" x H:=by
 obtain⟨a,e,rfl⟩:=r;have hk:k<S.length:=by
  have:=(bf.mp e).1;rw[<-s.len];exact this
 have z:=s.obj k a S[k] e (aw hk);cases y:S[k]with
 |lst xs=>
  rw[y]at z;obtain⟨vs,h,_⟩:=z;exact .inl ⟨rfl,vs,bN.of h⟩
 |lol xss=>
  rw[y]at z;obtain⟨bs,h,_⟩:=z;exact .inl ⟨rfl,_,bN.of h⟩
 |dic n l=>exact absurd (by rw[aw hk,y]) (n1 n l)
 |dol n l=>exact absurd (by rw[aw hk,y]) (n2 n l)
theorem At{apos cpos:ah}(ho:aU K cl E X a m)(ha:dZ K cl E X [e] ms)(hbase:attributeBase a "append" X.env (eval a X.env)=eval a X.env:=by rfl)
  (hfew:((backTo cpos (starEach [e] X.env)).all (λx=>!x.1)&&(backToKw cpos (keywordEach [] X.env)).all (λx=>x.1.isSome)&&decide (([e]:List af).length+([]:List fv).length+(if([]:List fv).isEmpty then 0 else 1)<30))=true:=by rfl)
  (hline:(apos.endLine==cpos.line)=true:=by rfl)(hs:starEach [e] X.env=[(false,eval e X.env)]:=by rfl):aU K cl E X (.Call (.Attribute a "append" apos) [e] [] cpos) (cN m ms):=by
 intro hK;subst hK;refine PE.imp (uI qz uk zp sR (ho rfl) (ha rfl) hbase hfew hline hs rfl) ?_
 rintro σ H Q ⟨p,S,ρ,s,ev,h⟩
 refine bX s ev h λq H1 k x S1 st s1 e1 r1 h1=>?_;cases k with
 |pv v=>exact h1.elim
 |ref k=>
  have h1:bV X.K cl (cK X.K) q H1 (dR (.ref k) S1 λk=>(ms ρ S1).bind λys S2=>fM k ys S2) Q E:=h1;rcases sY k S1 (λk=>(ms ρ S1).bind λys S2=>fM k ys S2)with z |⟨z,n1,n2⟩
  .rw[z]at h1
   exact h1.elim
  rw[z]at h1;refine⟨yA s1 r1 n1 n2,bX s1 e1 h1 λq2 H2 ys xs S2 st2 s2 e2 r2 h2=>?_⟩;obtain⟨a,ea,rfl⟩:=st2.repA r1;unfold fM at h2;split at h2
  .rename_i y
   cases r2 with
   |cons r3 r4=>
    cases r4;rename_i x;cases z:S2[k]? with
    |none=>rw[z]at h2;exact h2.elim
    |some o=>
     cases o with
     |lol _=>simp only[z]at h2;exact h2.elim
     |dic _ _=>simp only[z]at h2;exact h2.elim
     |dol _ _=>simp only[z]at h2;exact h2.elim
     |lst zs=>
      simp only[z]at h2;obtain⟨vs,h3,l3,r4⟩:=s2.obj k a _ ea z;split at h2
      .rename_i hl
       rw[r4.length]at hl;have hz:=gZ;refine⟨a,vs,x,rfl,rfl,h3,by omega,?_⟩;obtain⟨st3,sm3⟩:=s2.write ea (bf.mp z).1 (ps:=zs++[y]) (vs:=vs++[x]) (by rw[bi,ju];omega) (r4.append (.cons r3 .nil));exact h2 _ _ .non st3 sm3 (by show aT X.K q2.c (aX H2 a (.lst (vs++[x]))) .non .non;unfold aT;rfl)
      .exact h2.elim
  .exact h2.elim
def nK(k:Nat)(ys:AL)(S:aG):bI AV:=match ys with
 |[.pv (.int i)]=>if-9223372036854775808<=i/\i<9223372036854775808 then(match S[k]? with
  |some (.lst xs)=>match seqIndex? i xs.length with
   |some j=>match xs[j]? with
    |some v=>.ok (.pv v) (S.set k (.lst (xs.eraseIdx j)))
    |none=>.fail
   |none=>.fail
  |_=>.fail)else .fail
 |_=>.fail
def mO(m:ME)(ms:MA):ME:=λρ S=>(m ρ S).bind λk S1=>dR k S1 λk=>(ms ρ S1).bind λys S2=>nK k ys S2
theorem M9{apos cpos:ah}(ho:aU K cl E X a m)(ha:dZ K cl E X [e] ms)(hbase:attributeBase a "pop" X.env (eval a X.env)=eval a X.env:=by rfl)
  (hfew:((backTo cpos (starEach [e] X.env)).all (λx=>!x.1)&&(backToKw cpos (keywordEach [] X.env)).all (λx=>x.1.isSome)&&decide (([e]:List af).length+([]:List fv).length+(if([]:List fv).isEmpty then 0 else 1)<30))=true:=by rfl)
  (hline:(apos.endLine==cpos.line)=true:=by rfl)(hs:starEach [e] X.env=[(false,eval e X.env)]:=by rfl):aU K cl E X (.Call (.Attribute a "pop" apos) [e] [] cpos) (mO m ms):=by
 intro hK;subst hK;refine PE.imp (uI qz PySem.F.slot_list_pop PySem.F.type_list_pop Ku (ho rfl) (ha rfl) hbase hfew hline hs rfl) ?_
 rintro σ H Q ⟨p,S,ρ,s,ev,h⟩
 refine bX s ev h λq H1 k x S1 st s1 e1 r1 h1=>?_;cases k with
 |pv v=>exact h1.elim
 |ref k=>
  have h1:bV X.K cl (cK X.K) q H1 (dR (.ref k) S1 λk=>(ms ρ S1).bind λys S2=>nK k ys S2) Q E:=h1;rcases sY k S1 (λk=>(ms ρ S1).bind λys S2=>nK k ys S2)with z |⟨z,n1,n2⟩
  .rw[z]at h1
   exact h1.elim
  rw[z]at h1;refine⟨yA s1 r1 n1 n2,bX s1 e1 h1 λq2 H2 ys xs S2 st2 s2 e2 r2 h2=>?_⟩;obtain⟨a,ea,rfl⟩:=st2.repA r1;unfold nK at h2;split at h2
  .rename_i i
   cases r2 with
   |cons r3 r4=>
    cases r4;rename_i x;have ex:x=.int i:=(show dN X.K q2 H2 (.int i) x from .inl r3).int;subst ex;split at h2
    .rename_i hi
     cases z:S2[k]? with
     |none=>rw[z]at h2;exact h2.elim
     |some o=>
      cases o with
      |lol _=>simp only[z]at h2;exact h2.elim
      |dic _ _=>simp only[z]at h2;exact h2.elim
      |dol _ _=>simp only[z]at h2;exact h2.elim
      |lst zs=>
       simp only[z]at h2;obtain⟨vs,h3,l3,r4⟩:=s2.obj k a _ ea z;cases y:seqIndex? i zs.length with
       |none=>simp only[y]at h2;exact h2.elim
       |some j=>
        simp only[y]at h2;cases yv:zs[j]? with
        |none=>simp only[yv]at h2;exact h2.elim
        |some v=>
         simp only[yv]at h2;obtain⟨u,eu,ru⟩:=r4.get yv;refine⟨a,vs,i,j,u,rfl,rfl,h3,hi.1,hi.2,by rw[<-r4.length];exact y,eu,?_⟩;obtain⟨st3,sm3⟩:=s2.write ea (bf.mp z).1 (ps:=zs.eraseIdx j) (vs:=vs.eraseIdx j) (gh (wZ vs j) l3) (r4.eraseIdx j);exact h2 _ _ u st3 sm3 (st3.rep ru)
    .exact h2.elim
  .exact h2.elim
def kH(k:Nat)(i:AV)(v:AV)(S:aG):bI Unit:=match i,v with
 |.pv (.int i),.pv v=>match S[k]? with
  |some (.lst xs)=>match aZ xs.length i with
   |some j=>.ok () (S.set k (.lst (xs.set j v)))
   |none=>.fail
  |_=>.fail
 |_,_=>.fail
def iQ(mo mi mv:ME):MS:=λρ S=>cH.of (mv ρ S) λv S1=>cH.of (mo ρ S1) λk S2=>cH.of (mi ρ S2) λi S3=>cH.of (dR k S3 λk=>kH k i v S3) λ_ S4=>.nx ρ S4
theorem Kr{o i v:af}{mo mi mv:ME}{tpos:ah}(hv:aU K cl E X v mv)(ho:aU K cl E X o mo)(hi:aU K cl E X i mi)
  (ha:∀v,assign (.Subscript o i tpos) X.env v=(do
   let ov <-holding [v] (eval o X.env)
   let iv <-holding [v,ov] (eval i X.env)
   standAt tpos
   holding [v,ov,iv] (setItem ov iv v)
   release [v,ov,iv] []):=by intro _;rfl)
  (hs:swapsWithSole [.Subscript o i tpos] v pos.line X.env=pure false:=by rfl)(hw:swappedStores [.Subscript o i tpos] v X.env=pure none:=by rfl)
  (h1:(assignEach [.Subscript o i tpos] X.env).map (·.2)=[assign (.Subscript o i tpos) X.env]:=by rfl):eE K cl E X (.Assign [.Subscript o i tpos] v pos) (iQ mo mi mv):=by
 intro hK;subst hK;refine PS.imp (Pj (hv rfl) (Fk (ho rfl) (hi rfl) Yg ha) hs hw h1) ?_
 rintro D σ H ⟨p,S,ρ,s,ev,h⟩
 refine jB s ev h λq H1 v x S1 st s1 e1 r1 h1=>?_;refine jB s1 e1 h1 λq2 H2 k y S2 st2 s2 e2 r2 h2=>?_;refine jB s2 e2 h2 λq3 H3 i z S3 st3 s3 e3 r3 h3=>?_;cases k with
 |pv _=>exact h3.elim
 |ref k=>
  obtain⟨a,ea,rfl⟩:=st3.repA r2;have rv:=st3.repA (st2.repA r1);have h3:dW X.K cl q3 H3 (cH.of (dR (.ref k) S3 λk=>kH k i v S3) λ_ S4=>.nx ρ S4) D E:=h3;rcases sY k S3 (λk=>kH k i v S3)with z0 |⟨z0,_,_⟩
  .rw[z0]at h3
   exact h3.elim
  rw[z0]at h3;unfold kH at h3;split at h3
  .rename_i ii vv _
   have ez:z=.int ii:=(show dN X.K q3 H3 (.int ii) z from .inl r3).int;subst ez;cases w:S3[k]? with
   |none=>rw[w]at h3;exact h3.elim
   |some o=>
    cases o with
    |lol _=>simp only[w]at h3;exact h3.elim
    |dic _ _=>simp only[w]at h3;exact h3.elim
    |dol _ _=>simp only[w]at h3;exact h3.elim
    |lst zs=>
     simp only[w]at h3;obtain⟨vs,hh,ll,rr⟩:=s3.obj k a _ ea w;cases y:aZ zs.length ii with
     |none=>simp only[y]at h3;exact h3.elim
     |some j=>
      simp only[y]at h3;refine⟨a,vs,ii,j,rfl,rfl,hh,by rw[<-rr.length];exact y,?_⟩;obtain⟨st4,sm4⟩:=s3.write ea (bf.mp w).1 (ps:=zs.set j vv) (vs:=vs.set j x) (by rw[dk];exact ll) (aQ.set rv j rr);exact h3 _ _ _ st4 sm4 (st4.repE e3)
  .exact h3.elim
def eV:AI->AI->AI
 |x::xs,y::ys=>.tup [x,y]::eV xs ys
 |_,_=>[]
theorem xS:∀(xs ys:AI),(eV xs ys).length=min xs.length ys.length
 |[],ys=>by cases ys<;>simp[eV]
 |x::xs,[]=>by simp[eV]
 |x::xs,y::ys=>by
  unfold eV;rw[ca,xS xs ys,ca,ca];omega
theorem Ah:∀{xs ys:AI}{i:Nat}{v:PV},(eV xs ys)[i]?=some v->∃x y,xs[i]?=some x/\ys[i]?=some y/\v=.tup [x,y]
 |[],ys,i,v,e=>by cases ys<;>simp[eV]at e
 |x::xs,[],i,v,e=>by simp[eV]at e
 |x::xs,y::ys,0,v,e=>by
  unfold eV at e;simp at e;exact⟨x,y,rfl,rfl,e.symm⟩
 |x::xs,y::ys,i+1,v,e=>by
  unfold eV at e;obtain⟨a,b,h1,h2,h3⟩:=Ah (xs:=xs) (ys:=ys) (i:=i) (v:=v) (by simpa using e);exact⟨a,b,by simpa using h1,by simpa using h2,h3⟩
def jG:AL->aG->bI (AI×Gd)
 |[a,b],S=>match cB a S with
  |.ok xs _=>match cB b S with
   |.ok ys _=>.ok (eV xs.1 ys.1,xs.2++ys.2) S
   |_=>.fail
  |_=>.fail
 |_,_=>.fail
def fX(ms:MA):MI:=λρ S=>(ms ρ S).bind jG
theorem Vf{a:AV}{x:V}{xs:AI×Gd}{S':aG}(s:aW K p S H)(r:cK K p H a x)(e:cB a S=.ok xs S'):∃f ad vs,x=.ref ad/\iF f K H ad vs/\xs.1.length<=sizeLine/\∀q H1 S1,bK p H q H1->aW K q S1 H1->iO xs.2 S1->∃vs,iF f K H1 ad vs/\aQ K q.c H1 xs.1 vs:=by
 cases a with
 |ref j=>
  obtain⟨a,e1,rfl⟩:=r;unfold cB at e;dsimp only at e;cases z:S[j]? with
  |none=>rw[z]at e;cases e
  |some o=>
   cases o with
   |lol _=>rw[z]at e;cases e
   |dic _ _=>rw[z]at e;cases e
   |dol _ _=>rw[z]at e;cases e
   |lst ys=>
    rw[z]at e;cases e;obtain⟨vs,h1,l1,r1⟩:=s.obj j a _ e1 z;refine⟨false,a,vs,rfl,bN.of h1,by rw[r1.length];exact l1,λq H1 S1 st sm g=>?_⟩;obtain⟨ws,h2,l2,r2⟩:=sm.obj j a _ (st.at_ e1) (g (j,ys) ce);exact⟨ws,bN.of h2,r2⟩
 |pv v=>
  cases v with
  |lst ys=>
   cases e;have r:aT K p.c H (.lst ys) x:=r;unfold aT at r;obtain⟨a,vs,rfl,l,z,r⟩:=r;exact⟨false,a,vs,rfl,l.sq,by rw[r.length];exact z,λq H1 S1 st sm g=>⟨vs,(st.lat l).sq,st.reps r⟩⟩
  |tup ys=>
   cases e;have r:aT K p.c H (.tup ys) x:=r;unfold aT at r;obtain⟨a,vs,rfl,l,z,r⟩:=r;exact⟨true,a,vs,rfl,l,by rw[r.length];exact z,λq H1 S1 st sm g=>⟨vs,st.tup l,st.reps r⟩⟩
  |_=>cases e
theorem Uw{elts:List af}{x1:Nat}{tp p:ah}(hg:Gl X "zip")(hm:X.mg "zip"=none)(hl:dZ K cl E X [a,b] ms)(hs:starEach [a,b] X.env=[(false,eval a X.env),(false,eval b X.env)]:=by rfl)(hs2:starEach [b] X.env=[(false,eval b X.env)]:=by rfl):
  PIp K cl E X (.Tuple elts x1 tp) (.Call (.Name "zip" p) [a,b] [] pos) (fX ms):=by
 intro hK;subst hK;refine PI.imp (N5 hg hm (hl rfl) hs hs2) ?_
 rintro σ H R ⟨p,S,ρ,s,ev,h⟩
 refine bX s ev h λq H' as xs S' stp sm ev r k=>?_;unfold jG at k;split at k
 .rename_i u v
  cases r with
  |cons r1 r2=>
   cases r2 with
   |cons r2 r3=>
    cases r3;split at k
    .rename_i xs1 S1 hx
     split at k
     .rename_i ys1 S2 hy
      obtain⟨f1,a1,vs1,rfl,q1,z1,st1⟩:=Vf sm r1 hx;obtain⟨f2,a2,vs2,rfl,q2,z2,st2⟩:=Vf sm r2 hy;refine⟨f1,a1,f2,a2,vs1,vs2,rfl,q1,q2,bV.ret (R:=eU X.K) k sm ?_⟩;refine⟨by rw[xS];omega,λq3 H3 S3 st3 sm3 g3=>?_⟩;obtain⟨ws1,w1,rr1⟩:=st1 q3 H3 S3 st3 sm3 λg hg=>g3 g (iw _ hg);obtain⟨ws2,w2,rr2⟩:=st2 q3 H3 S3 st3 sm3 λg hg=>g3 g (dj _ hg);refine⟨λi v e=>?_,?_⟩
      .obtain⟨x,y,ex,ey,rfl⟩:=Ah e
       obtain⟨x',ex',rx⟩:=rr1.get ex;obtain⟨y',ey',ry⟩:=rr2.get ey;refine⟨⟨ws1,ws2,x',y',w1,w2,ex',ey'⟩,λz H4 hz=>?_⟩;obtain⟨t,x2,y2,ht,rfl,rfl,g1,g2⟩:=hz;have e1:=(g1 ws1 w1).symm.trans ex';have e2:=(g2 ws2 w2).symm.trans ey';cases e1;cases e2;refine⟨gA ht,nF sm3 (.cons rx (.cons ry .nil)) (by show 2<=sizeLine;decide) ht⟩
      .refine⟨ws1,ws2,w1,w2,?_⟩
       show(eV xs1.1 ys1.1).length=_\/_;rw[xS,rr1.length,rr2.length];omega
     .exact k.elim
    .exact k.elim
 .exact k.elim
def iA:Nat->AI->AI
 |_,[]=>[]
 |n,x::xs=>.tup [.int n,x]::iA (n+1) xs
theorem xG:∀(n:Nat)(xs:AI),(iA n xs).length=xs.length
 |_,[]=>rfl
 |n,x::xs=>by
  unfold iA;rw[ca,xG (n+1) xs,ca]
theorem Qd:∀{n:Nat}{xs:AI}{i:Nat}{v:PV},(iA n xs)[i]?=some v->∃x,xs[i]?=some x/\v=.tup [.int ((n+i:Nat):Int),x]
 |n,[],i,v,e=>by simp[iA]at e
 |n,x::xs,0,v,e=>by
  unfold iA at e;simp at e;exact⟨x,rfl,e.symm⟩
 |n,x::xs,i+1,v,e=>by
  unfold iA at e;obtain⟨y,h1,h2⟩:=Qd (n:=n+1) (xs:=xs) (i:=i) (v:=v) (by simpa using e);refine⟨y,by simpa using h1,?_⟩;rw[h2,show n+1+i=n+(i+1) by omega]
def yV:AL->aG->bI (AI×Gd)
 |[.pv (.lst xs)],S=>.ok (iA 0 xs,[]) S
 |[.ref k],S=>match cB (.ref k) S with
  |.ok xs _=>.ok (iA 0 xs.1,xs.2) S
  |_=>.fail
 |_,_=>.fail
def uM(ms:MA):MI:=λρ S=>(ms ρ S).bind yV
theorem Mk{xs:AI}{G:Gd}{a:Addr}(z:xs.length<=sizeLine)(st1:∀q H1 S1,bK p H q H1->aW K q S1 H1->iO G S1->∃vs,bN K H1 a vs/\aQ K q.c H1 xs vs):eU K p H (iA 0 xs,G) (Cb K a):=by
 refine⟨by rw[xG];exact z,λq3 H3 S3 st3 sm3 g3=>?_⟩;obtain⟨ws1,w1,rr1⟩:=st1 q3 H3 S3 st3 sm3 g3;refine⟨λi v e=>?_,?_⟩
 .obtain⟨x,ex,rfl⟩:=Qd e
  obtain⟨x',ex',rx⟩:=rr1.get ex;refine⟨⟨ws1,x',w1,ex'⟩,λz H4 hz=>?_⟩;obtain⟨t,y2,ht,rfl,rfl,g1⟩:=hz;have e1:=(g1 ws1 w1).symm.trans ex';cases e1;refine⟨gA ht,nF sm3 (.cons ?_ (.cons rx .nil)) (by show 2<=sizeLine;decide) ht⟩;rw[Nat.zero_add];exact fJ (v:=.int _) rfl
 .refine⟨ws1,w1,?_⟩
  show _<=(iA 0 xs).length;rw[xG,rr1.length];exact am _
theorem Rt{elts:List af}{x1:Nat}{tp p:ah}(hg:Gl X "enumerate")(hm:X.mg "enumerate"=none)(hl:dZ K cl E X [l] ms)(hs:starEach [l] X.env=[(false,eval l X.env)]:=by rfl):
  PIp K cl E X (.Tuple elts x1 tp) (.Call (.Name "enumerate" p) [l] [] pos) (uM ms):=by
 intro hK;subst hK;refine PI.imp (Ux hg hm (hl rfl) hs) ?_
 rintro σ H R ⟨p,S,ρ,s,ev,h⟩
 refine bX s ev h λq H' as xs S' stp sm ev r k=>?_;unfold yV at k;split at k
 .rename_i ys
  cases r with
  |cons r1 r2=>
   cases r2;rename_i x;have r1:aT X.K q.c H' (.lst ys) x:=r1;unfold aT at r1;obtain⟨a,vs,rfl,l,z,r⟩:=r1;exact⟨a,rfl,⟨vs,l.sq⟩,bV.ret (R:=eU X.K) k sm (Mk (by rw[r.length];exact z) λq H1 S1 st sm g=>⟨vs,(st.lat l).sq,st.reps r⟩)⟩
 .rename_i j
  cases r with
  |cons r1 r2=>
   cases r2;split at k
   .rename_i xs1 S1 hx
    obtain⟨a,e1,rfl⟩:=r1;cases z:S'[j]? with
    |none=>unfold cB at hx;simp only[z]at hx;cases hx
    |some o=>
     cases o with
     |lol _=>unfold cB at hx;simp only[z]at hx;cases hx
     |dic _ _=>unfold cB at hx;simp only[z]at hx;cases hx
     |dol _ _=>unfold cB at hx;simp only[z]at hx;cases hx
     |lst ys=>
      unfold cB at hx;simp only[z]at hx;cases hx;obtain⟨vs,h1,l1,r1⟩:=sm.obj j a _ e1 z;refine⟨a,rfl,⟨vs,bN.of h1⟩,bV.ret (R:=eU X.K) k sm (Mk (by rw[r1.length];exact l1) λq H1 S1 st sm g=>?_)⟩;obtain⟨ws,h2,l2,r2⟩:=sm.obj j a _ (st.at_ e1) (g (j,ys) ce);exact⟨ws,bN.of h2,r2⟩
   .exact k.elim
 .exact k.elim
end
theorem vI{A:ak}{k:Nat}(hr:dF k A):A.units+8<cLine:=by
 have:=hr.units;omega
section
variable{K:ae}{cl:Str->Addr}{E:XK}{X:Cx}{a b c e l tg:af}{es:List af}{m ma mb:ME}{ms:MA}{pos:ah}{p q:Ph}{H H':Hp}{S:aG}
def fB(n:String):PV->AJ
 |.int _=>if n="int" then some (.bl true)else if n="bool" then some (.bl false)else none
 |.tup _=>if n="tuple" then some (.bl true)else none
 |.lst _=>if n="list" then some (.bl true)else none
 |.str _=>if n="str" then some (.bl true)else none
 |.bl _=>if n="bool" then some (.bl true)else none
 |_=>none
theorem qD(K:ae)(n:String):lb K (.type n) (.type n)=some true:=by
 unfold lb;rw[if_pos (beq_self_eq_true _)]
def Hn(K:ae)(n:String):V->Hp->VK->Prop:=λx H Q=>(∃t b,iN K H x t/\lb K t (.type n)=some b/\Q (.bl b) H)\/(n="tuple"/\∃a xs,x=.ref a/\cE K H a xs/\Q (.bl true) H)\/(n="list"/\∃a xs,x=.ref a/\bN K H a xs/\Q (.bl true) H)
theorem Tr(n:String):gB X (.builtin "isinstance") (λxs H Q=>∃x,xs=[x,.ty n]/\Hn X.K n x H Q):=by
 intro AM s σ H xs us Q I r h;obtain⟨x,rfl,h⟩:=h;obtain⟨u,c,rfl,rx,rc⟩:=Am r;cases(show c=ke n from rc);rcases h with⟨t,b,ty,e,q⟩|⟨rfl,a,xs,rfl,t,q⟩|⟨rfl,a,xs,rfl,t,q⟩
 .exact Qs I rx ty e λtk=>⟨.bl b,H,I.tok tk,rfl,q⟩
 .cases rx
  obtain⟨its,_,⟨o,h1,h2,_⟩,_⟩:=I.tuple t;exact ia xl I.kIn ⟨o,h1,h2⟩ (qD X.K "tuple") (λz=>nomatch z) λtk=>⟨.bl true,H,I.tok tk,rfl,q⟩
 .cases rx
  obtain⟨its,_,pl,_⟩:=I.list t;obtain⟨o,h1,h2,_⟩:=pl.isList;exact ia tj I.kIn ⟨o,h1,h2⟩ (qD X.K "list") (λz=>nomatch z) λtk=>⟨.bl true,H,I.tok tk,rfl,q⟩
theorem R4(n:String):vO K (Hn K n) (fB n):=λ{p S H a c x Q} s ra e k=>by
 have fin:∀b,c=.bl b->Q (.bl b) H:=λb h=>by
  subst h;exact k H _ (cR.refl H) (by unfold aT;rfl)
 cases a with
 |int i=>
  cases ra.int;unfold fB at e;dsimp only at e;split at e
  .rename_i hn
   cases e;subst hn;exact .inl ⟨_,true,.int i,qD K _,fin _ rfl⟩
  .split at e
   .rename_i hn
    cases e;subst hn;exact .inl ⟨_,false,.int i,D6 K,fin _ rfl⟩
   .cases e
 |bl i=>
  cases ra.bl;unfold fB at e;dsimp only at e;split at e
  .rename_i hn
   cases e;subst hn;exact .inl ⟨_,true,.bl i,qD K _,fin _ rfl⟩
  .cases e
 |str i=>
  cases ra.str;unfold fB at e;dsimp only at e;split at e
  .rename_i hn
   cases e;subst hn;exact .inl ⟨_,true,.str i,qD K _,fin _ rfl⟩
  .cases e
 |tup xs=>
  obtain⟨a,vs,rfl,t,_,_⟩:=ra.tup;unfold fB at e;dsimp only at e;split at e
  .rename_i hn
   cases e;exact .inr (.inl ⟨hn,a,vs,rfl,t,fin _ rfl⟩)
  .cases e
 |lst xs=>
  obtain⟨a,vs,rfl,t,_,_⟩:=ra.lst;unfold fB at e;dsimp only at e;split at e
  .rename_i hn
   cases e;exact .inr (.inr ⟨hn,a,vs,rfl,t,fin _ rfl⟩)
  .cases e
 |non=>cases e
theorem yX{n:String}{t:Str}{p p2:ah}(hg:Gl X "isinstance")(hm:X.mg "isinstance"=none)(hgt:Gl X t)(hmt:X.mg t=none)(hv:bootBuiltins t=some (.type n))(ha:aU K cl E X a m)
  (htn:t≠"__name__":=by decide)(htd:(t==("__debug__":Str))=false:=by decide)
  (he:starEach [a,.Name t p2] X.env=(false,eval a X.env)::starEach [.Name t p2] X.env:=by rfl)(he2:starEach [.Name t p2] X.env=[(false,eval (.Name t p2) X.env)]:=by rfl)(hpl:(backTo pos (starEach [.Name t p2] X.env)).any (·.1)=false:=by rfl):
  aU K cl E X (.Call (.Name "isinstance" p) [a,.Name t p2] [] pos) (bJ (fB n) m):=by
 intro hK;subst hK;refine PE.imp (Vg (Tr n) hg hm PyProof.Rows.boot_isinstance (oK (ha rfl) (oK (Gx hgt hmt hv (v:=.ty n) rfl htn htd) qR he2) he) (by decide) (by decide) he hpl) ?_
 rintro σ H Q ⟨p,S,ρ,s,ev,h⟩
 exact bX s ev h λq H' as x S' stp sm ev r k=>⟨x,rfl,sU (R4 n) sm r k⟩
def uK(K:ae):Sp:=λvs H Q _=>∃(a:Addr)(ns:AA),vs=[.ref a]/\bN K H a (ns.map V.int)/\ns.length<=63/\∀H',Q (.bl true) H'
theorem Jy{f:FM}(ht:∀ns:AA,ns.length<=63->∃S,f [.pv (.lst (ns.map .int))] []=.ok (.pv (.bl true)) S){vs:List V}{H:Hp}{Q:VK}{E:XK}(h:uK K vs H Q E):jH K cl f vs H Q E:=by
 obtain⟨a,ns,rfl,hS,hl,hQ⟩:=h;obtain⟨S,e⟩:=ht ns hl;have rs:∀(ns:AA),aQ K (λ_=>False) H (ns.map .int) (ns.map V.int):=λns=>by
  induction ns with
  |nil=>exact .nil
  |cons n ns ih=>exact .cons (by unfold aT;rfl) ih
 refine⟨⟨[],λ_=>False,λ_=>False⟩,[],[.pv (.lst (ns.map .int))],⟨List.nodup_nil,rfl,(λ_ h=>absurd h (de)),(λ_ h=>h),(λ_ h=>h.elim),(λk a o e=>by simp at e)⟩,.cons ?_ .nil,?_⟩
 .show aT K (λ_=>False) H (.lst (ns.map .int)) (.ref a)
  unfold aT;refine⟨a,_,rfl,?_,?_,rs ns⟩
  .rcases hS with(h |h) |h
   .exact .inl ⟨h,λz=>z⟩
   .exact .inr (.inl h)
   .exact .inr (.inr h)
  .rw[ai,gZ]
   omega
 .rw[e]
  intro q H' x st sm r;have r:aT K q.c H' (.bl true) x:=r;unfold aT at r;rw[r];exact hQ H'
end
section
variable{K:ae}{cl:Str->Addr}{E:XK}{X:Cx}{e:af}{es:List af}{ms:MA}{p q:Ph}{H H':Hp}{S:aG}
theorem dI.forget{ρ:bR}{σ:St}(h:dI K p H ρ σ)(i:Nat)(x:Option V):dI K p H (ρ.set i none) (σ.set i x):=by
 refine⟨by rw[dk,dk,h.len],λj u e=>?_⟩
 by_cases q:i=j
 .subst q
  by_cases l:i<ρ.length
  .rw[dg l]at e
   cases e
  .rw[ze (by rw[dk];omega)]at e
   cases e
 .rw[dq q]at e⊢
  exact h.at_ j u e
variable{k:Nat}{f:Addr}{fd:bn}{ps:List Str}{g:FM}{dvs:List V}{ds:AE}{dv:AI}{x:Str}{pp pos pos1 pos2 pos3 pc:ah}{c n:Str}{i nn:Nat}{AS:Stmt}{body:List Stmt}{newId:String}{up:bR->bR}
end
end L2.Pp
namespace L2
open PySem PySem.Spec PyProof.Rows Bn
section
variable{X:Cx}{k:Nat}{f:Addr}{fd:bn}{ps:List Str}{sp:Sp}{dvs:List V}{ds:AE}{x:Str}{p pos pos1 pos2 pos3 pc:ah}{e:af}{es:List af}{t:TA}{c n:Str}{C:Addr}{i:Nat}{AS:Stmt}{body:List Stmt}{newId:String}
end
end L2
namespace L2.Pp
open PySem PySem.Spec PyProof.Rows Bn
section
variable{K:ae}{cl:Str->Addr}{E:XK}{X:Cx}{e:af}{es:List af}{ms:MA}{p q:Ph}{H H':Hp}{S:aG}
variable{k:Nat}{f:Addr}{fd:bn}{ps:List Str}{g:FM}{dvs:List V}{ds:AE}{dv:AI}{x:Str}{pp pos pos1 pos2 pos3 pc:ah}{c n:Str}{i nn:Nat}{AS:Stmt}{body:List Stmt}{newId:String}{up:bR->bR}
end
section
variable{prog:Program}{w:aj}{A:ak}{E:Value->aa->Prop}{s:aa}
end
end L2.Pp
namespace L2
open PySem PyProof.Rows
end L2
namespace L2.Pp
open PySem
end L2.Pp
namespace L2
open PySem PySem.Spec PyProof.Rows Bn
section
variable{X:Cx}
theorem Jc(is:AA):∀j,j<=is.length->preSum (λi=>is.getD i 0) j=(is.take j).sum
 |0,_=>by simp[preSum]
 |j+1,h=>by
  have hj:j<is.length:=h;rw[preSum,Jc is j (by omega),List.take_add_one,aw hj,Option.toList_some,List.sum_append,List.sum_singleton];simp only[cf,aw hj,zq]
theorem Wr(hc:X.calm=true):gB X (.builtin "sum") (λxs H Q=>∃(a:Addr)(is:AA),xs=[.ref a]/\bN X.K H a (is.map V.int)/\Q (.int is.sum) H):=by
 intro AM s σ H xs us Q I r h;obtain⟨a,is,rfl,hq,q⟩:=h;obtain⟨u,rfl,ru⟩:=iM r;cases ru;obtain⟨its,rv,pl,hz⟩:=I.list hq;have hl:is.length=its.length:=by
  have:=rv.length
  rwa[ai]at this
 refine call_sum_walkG (om pl.isList ?_);have ha:a<s.heap.objs.size:=by
  obtain⟨o,ho,_⟩:=pl.isList;exact au ho
 refine⟨_,_,_,_,_,_,λi=>is.getD i 0,rfl,ur (prog:=X.prog) (w:=X.w) (A:=X.A.in1) (show X.A.in1.handled=none from I.ok.hd hc) s.heap.objs.size a (cj ha) its.toArray,⟨⟨_,cq _ rfl,rfl,rfl⟩,Heap.IsList.at pl.isList λo e=>ao _ e⟩,λb hb=>?_,λi v hv=>?_,λh' tk t' kp=>?_⟩
 .have hb':b=s.heap.objs.size\/b=a:=by simpa using hb
  rw[io];rcases hb' with e |e<;>rw[e]
  .exact qw _
  .exact re ha
 .have hv':its[i]?=some v:=by simpa using hv
  have hi:i<is.length:=by
   have:=(bf.mp hv').1;omega
  obtain⟨u,hu,ru⟩:=rv.get (i:=i) (x:=.int is[i]) (by rw[ci,aw hi];rfl);rw[hv']at hu;cases hu;obtain⟨t,ht⟩:=(show ∃t,v=nh is[i] t from ru);exact⟨t,by rw[ht];simp[cf,hi]⟩
 .have e:preSum (λi=>is.getD i 0) its.toArray.size=is.sum:=by
   rw[aq,<-hl,Jc is _ (am _),vf]
  show EP X AM σ Q (.int (preSum (λi=>is.getD i 0) its.toArray.size) t') _;rw[e];have I1:aH X AM σ H {s with heap:=s.heap.push {cls:=.type "list_iterator",data:=.fields #[.ref a,.int 0 0]},toks:=s.toks}:=I.kept λb o z=>ao _ z;have fp:eT X AM H s.heap.objs.size:=I.fpOk (am _) (I.hok.fresh (am _));obtain⟨f0,f1,f2,f3,f4,f5⟩:=fp;exact⟨.int is.sum,H,I1.turned (λb o hb z=>kp b o (by simpa using hb) z) f0 f1 f3 f4 f5,⟨t',rfl⟩,q⟩
theorem Gs(is:AA):(az is.length).any (λi=>is.getD i 0 !=0)=is.any (· !=0):=by
 rw[uu,zt,zt];constructor
 .rintro⟨i,hi,z⟩
  have hi':i<is.length:=by simpa using hi
  exact⟨is[i],du hi',by simpa[cf,hi']using z⟩
 .rintro⟨b,hb,z⟩
  obtain⟨i,hi,rfl⟩:=yp.mp hb;exact⟨i,by simpa using hi,by simpa[cf,hi]using z⟩
theorem Ir(hc:X.calm=true):gB X (.builtin "any") (λxs H Q=>∃(a:Addr)(is:AA),xs=[.ref a]/\(bN X.K H a (is.map V.int)\/cE X.K H a (is.map V.int))/\Q (.bl (is.any (· !=0))) H):=by
 intro AM s σ H xs us Q I r h;obtain⟨a,is,rfl,hq,q⟩:=h;obtain⟨u,rfl,ru⟩:=iM r;cases ru;have tr:∀(its:AE),bG (is.map V.int) its->TruthOf X.prog X.w X.A.in1 (λi v=>its.toArray[i]?=some v) (λi=>is.getD i 0 !=0):=λits rv i v s' Q' E' hv hQ=>by
  have hl:is.length=its.length:=by
   have:=rv.length
   rwa[ai]at this
  have hv':its[i]?=some v:=by simpa using hv
  have hi:i<is.length:=by
   have:=(bf.mp hv').1;omega
  obtain⟨u,hu,ru⟩:=rv.get (i:=i) (x:=.int is[i]) (by rw[ci,aw hi];rfl);rw[hv']at hu;cases hu;obtain⟨t,ht⟩:=(show ∃t,v=nh is[i] t from ru);subst ht;have e:is.getD i 0=is[i]:=by simp[cf,hi]
  have hQ':Q' (is.getD i 0 !=0) s':=hQ;rw[e]at hQ';exact PySem.P.truthy_int hQ'
 have fin:∀(its:AE)(c:String),bG (is.map V.int) its->∀h' tk,(∀b o,b∉[s.heap.objs.size]->(s.heap.push {cls:=.type c,data:=.fields #[.ref a,.int 0 0]}).get? b=some o->h'.get? b=some o)->
   EP X AM σ Q (.bool ((az its.toArray.size).any λi=>is.getD i 0 !=0)) {s with heap:=h',toks:=tk}:=λits c rv h' tk kp=>by
  have hl:is.length=its.length:=by
   have:=rv.length
   rwa[ai]at this
  rw[aq,<-hl,Gs];have I1:aH X AM σ H {s with heap:=s.heap.push {cls:=.type c,data:=.fields #[.ref a,.int 0 0]},toks:=s.toks}:=I.kept λb o z=>ao _ z;have fp:eT X AM H s.heap.objs.size:=I.fpOk (am _) (I.hok.fresh (am _));obtain⟨f0,f1,f2,f3,f4,f5⟩:=fp;exact⟨.bl (is.any (· !=0)),H,I1.turned (λb o hb z=>kp b o (by simpa using hb) z) f0 f1 f3 f4 f5,rfl,q⟩
 rcases hq with hq |hq
 .obtain⟨its,rv,pl,hz⟩:=I.list hq
  refine call_any_walk (om pl.isList ?_);have ha:a<s.heap.objs.size:=by
   obtain⟨o,ho,_⟩:=pl.isList;exact au ho
  exact⟨_,_,_,_,_,_,λi=>is.getD i 0 !=0,rfl,ur (prog:=X.prog) (w:=X.w) (A:=X.A.in1) (show X.A.in1.handled=none from I.ok.hd hc) s.heap.objs.size a (cj ha) its.toArray,⟨⟨_,cq _ rfl,rfl,rfl⟩,Heap.IsList.at pl.isList λo e=>ao _ e⟩,tr its rv,λh' tk kp=>fin its _ rv h' tk λb o hb z=>kp b o (by simpa using hb) z⟩
 .obtain⟨its,rv,⟨o0,ho0,hc0,n0,hd0⟩,hz⟩:=I.tuple hq
  have it:s.heap.IsTuple a its.toArray:=⟨o0,ho0,hc0,n0,hd0⟩;refine call_any_walk (oo it ?_);have ha:a<s.heap.objs.size:=by
   obtain⟨o,ho,_⟩:=it;exact au ho
  exact⟨_,_,_,_,_,_,λi=>is.getD i 0 !=0,rfl,vg (prog:=X.prog) (w:=X.w) (A:=X.A.in1) (show X.A.in1.handled=none from I.ok.hd hc) s.heap.objs.size a (cj ha) its.toArray,⟨⟨_,cq _ rfl,rfl,rfl⟩,Heap.IsTuple.at it λo e=>ao _ e⟩,tr its rv,λh' tk kp=>fin its _ rv h' tk λb o hb z=>kp b o (by simpa using hb) z⟩
end
end L2
namespace L2.Pp
open PySem PySem.Spec PyProof.Rows Bn
section
variable{K:ae}{cl:Str->Addr}{E:XK}{X:Cx}
def dM:AI->Option AA
 |[]=>some []
 |.int b::r=>match dM r with
  |some bs=>some (b::bs)
  |none=>none
 |_::_=>none
theorem jA{c:Addr->Prop}{H:Hp}:∀{xs:AI}{bs:AA}{vs:List V},dM xs=some bs->aQ K c H xs vs->vs=bs.map V.int
 |[],bs,vs,e,r=>by
  cases e;unfold aQ at r;exact r
 |.int b::xs,bs,vs,e,r=>by
  unfold dM at e;split at e
  .rename_i cs h
   cases e;unfold aQ at r;obtain⟨v,w,rfl,r1,r2⟩:=r;unfold aT at r1;rw[r1,jA h r2];rfl
  .cases e
 |.non::_,_,_,e,_=>by cases e
 |.bl _::_,_,_,e,_=>by cases e
 |.str _::_,_,_,e,_=>by cases e
 |.tup _::_,_,_,e,_=>by cases e
 |.lst _::_,_,_,e,_=>by cases e
def nP:AI->AJ
 |[.lst xs]=>(dM xs).map λbs=>.int bs.sum
 |_=>none
theorem V3:iG K (λxs H Q=>∃(a:Addr)(is:AA),xs=[.ref a]/\bN K H a (is.map V.int)/\Q (.int is.sum) H) nP:=λ{p S H as c xs Q} s ra e k=>by
 unfold nP at e;split at e
 .rename_i zs
  cases y:dM zs with
  |none=>rw[y]at e;cases e
  |some bs=>
   rw[y]at e;cases e;cases ra with
   |cons h t=>
    cases t;obtain⟨a,vs,rfl,l,z,r⟩:=h.lst;rw[jA y r]at l;exact⟨a,bs,rfl,l,k H _ (cR.refl H) (fJ (v:=.int _) rfl)⟩
 .cases e
def nQ:AI->AJ
 |[.lst xs]=>(dM xs).map λbs=>.bl (bs.any (· !=0))
 |[.tup xs]=>(dM xs).map λbs=>.bl (bs.any (· !=0))
 |_=>none
theorem Q9:iG K (λxs H Q=>∃(a:Addr)(is:AA),xs=[.ref a]/\(bN K H a (is.map V.int)\/cE K H a (is.map V.int))/\Q (.bl (is.any (· !=0))) H) nQ:=λ{p S H as c xs Q} s ra e k=>by
 unfold nQ at e;split at e
 .rename_i zs
  cases y:dM zs with
  |none=>rw[y]at e;cases e
  |some bs=>
   rw[y]at e;cases e;cases ra with
   |cons h t=>
    cases t;obtain⟨a,vs,rfl,l,z,r⟩:=h.lst;rw[jA y r]at l;exact⟨a,bs,rfl,.inl l,k H _ (cR.refl H) (fJ (v:=.bl _) rfl)⟩
 .rename_i zs
  cases y:dM zs with
  |none=>rw[y]at e;cases e
  |some bs=>
   rw[y]at e;cases e;cases ra with
   |cons h t=>
    cases t;obtain⟨a,vs,rfl,l,z,r⟩:=h.tup;rw[jA y r]at l;exact⟨a,bs,rfl,.inr l,k H _ (cR.refl H) (fJ (v:=.bl _) rfl)⟩
 .cases e
theorem Rr(l:Addr)(items:Array Value)(n:Nat)(dd:AG)(sl:Array AF)(x:Int)(u:Tok)(hc0:¬(!Builtin.List.listFitsIndex x)=true)(hc1:¬items.size*x.toNat>(2^63-1)/8)(hc2:¬lm (items.size*x.toNat)=true):
  Meets (Builtin.«list.__mul__» ⟨[.ref l,.int x u],[]⟩) (λ_ R s=>s.heap.get? l=some {cls:=.type "list",dict:=dd,data:=.seq items n,slots:=sl}/\R (.ok (.ret (ft s.heap.objs.size))) {s with heap:=s.heap.push {cls:=ke "list",data:=Data.seq (qh (λx1 x2=>x1++x2) #[] (da (if items.isEmpty=true then 0 else x.toNat) items))},toks:=s.toks}):=
 .of_wp λprog w A R s h=>by
  obtain⟨hp,g,d,tk,os⟩:=s;obtain⟨hl,h⟩:=h;have hsz:=AutoListH.joined_fits hc2
  wp_walk;refine wpAny_ite_false (decide_eq_false (Nat.not_lt.mpr hsz)) ?_;wp_walk;exact⟨_,rfl,h⟩
theorem Bs(a:Int)(t:Tok)(l:Addr)(items:Array Value)(n:Nat)(dd:AG)(sl:Array AF):
  Meets (Builtin.«int.__rmul__» ⟨[.int a t,.ref l],[]⟩) (λ_ R s=>s.heap.get? l=some {cls:=.type "list",dict:=dd,data:=.seq items n,slots:=sl}/\R (.ok (.ret Value.notImplemented)) s):=
 .of_wp λprog w A R s h=>by obtain⟨hp,g,d,tk,os⟩:=s;obtain⟨hl,h⟩:=h;wp_walk;exact⟨_,rfl,h⟩
def Fm(K:ae):R2:=λx y H Q=>∃l k xs,x=.ref l/\y=.int k/\bN K H l xs/\-(2^63)<=k/\k<2^63/\xs.length*k.toNat<=sizeLine/\
 ∀p,H p=none->Q (.ref p) (aX H p (.lst (da k.toNat xs).flatten))
theorem Jz:dB X (binaryOp .Mult) (Fm X.K):=by
 intro AM s σ H x y v u Q I rx ry h;obtain⟨l,k,xs,rfl,rfl,hx,h1,h2,hz,q⟩:=h;cases rx;obtain⟨t,rfl⟩:=ry;obtain⟨its,r,p1,_⟩:=I.list hx;obtain⟨⟨cls,dd,data,sl⟩,n,e,hc,_,hd⟩:=p1;simp only at hc hd;subst hc hd;have hl:=r.length;have hlen:its.toArray.size*k.toNat<=sizeLine:=by rw[aq,<-hl];exact hz
 have hcap:¬its.toArray.size*k.toNat>(2^63-1)/8:=by
  have:(sizeLine:Nat)<=(2^63-1)/8:=by decide
  omega
 have hfit:¬(!Builtin.List.listFitsIndex k)=true:=by
  rw[fitsIndex_both h1 h2];exact fu
 have hlong:¬lm (its.toArray.size*k.toNat)=true:=by
  rw[Hh hlen];exact fu
 have hnew:qh (λx1 x2=>x1++x2) #[] (da (if its.toArray.isEmpty=true then 0 else k.toNat) its.toArray)=(da k.toNat its).flatten.toArray:=by
  have f0:∀m:Nat,qh (λx1 x2=>x1++x2) #[] (da m its.toArray)=(da m its).flatten.toArray:=λm=>by
   have:=Yd its m [];rw[dw]at this;exact this
  rw[f0];cases its with
  |nil=>simp
  |cons a r'=>rw[if_neg (by simp)]
 refine wpAny_binaryOp_repeat_ref (T:="list") (U:="int") (by decide) ⟨_,e,rfl⟩ (λs'=>ui s' k t) noFill_list_mul F.fills_int_mul F.slot_int_rmul repeat_list F.slot_int_index.lookup
  (lq F.slot_int_rmul (ui s k t) F.entry_int_rmul (F.args_int_rmul_2 _ _) (Bs k t l its.toArray n dd sl)
   ⟨e,rfl,⟨_,e,rfl⟩,lq F.slot_list_mul ⟨_,e,rfl⟩ F.entry_list_mul (F.args_list_mul_2 _ _) (Rr l its.toArray n dd sl k t hfit hcap hlong) ⟨e,?_⟩⟩)
 rw[hnew];exact⟨.ref _,_,I.lnew (t':=s.toks) (r.rep k.toNat) (by rw[Bj,Nat.mul_comm];exact hz),rfl,q _ I.fresh⟩
def Ym(xs:AI)(k:Int):AI:=(da k.toNat xs).flatten
def Pn(n:Nat)(k:Int):Prop:=-(2^63)<=k/\k<2^63/\n*k.toNat<=16777216
open Classical in
noncomputable def pH:PV->PV->AJ
 |.lst xs,.int k=>if Pn xs.length k then some (.lst (Ym xs k))else none
 |_,_=>none
open Classical in
theorem yI{xs:AI}{k:Int}:pH (.lst xs) (.int k)=if Pn xs.length k then some (.lst (Ym xs k))else none:=rfl
theorem aQ.rep{c:Addr->Prop}{H:Hp}{xs:AI}{vs:List V}(r:aQ K c H xs vs):∀n:Nat,aQ K c H (da n xs).flatten (da n vs).flatten
 |0=>aQ.nil
 |n+1=>by
  rw[kn,kn,lh,lh];exact r.append (aQ.rep r n)
theorem W6:fE K (Fm K) pH:=λ{p S H a b c x y Q} s ra rb e k=>by
 cases a with
 |lst xs=>
  cases b with
  |int j=>
   rw[yI]at e;split at e
   .rename_i hl
    cases e;obtain⟨a1,vs,rfl,l1,z1,r1⟩:=ra.lst;have hz:vs.length*j.toNat<=sizeLine:=by rw[<-r1.length,gZ];exact hl.2.2
    exact⟨a1,j,vs,rfl,rb.int,l1,hl.1,hl.2.1,hz,λt ht=>k _ _ (gA ht) (nE s (aQ.rep r1 _) (by rw[Bj,Nat.mul_comm];exact hz) ht)⟩
   .cases e
  |_=>cases e
 |_=>cases e
end
section
variable{K:ae}{cl:Str->Addr}{E:XK}{X:Cx}{p q:Ph}{H H':Hp}{S:aG}
variable{sc:Scope}{own:List Str}{cap:List (Nat×Str)}{elt target iter:af}{pos:ah}{mi:MI}{g:GM}{me:ME}
end
section
variable{K:ae}{cl:Str->Addr}{E:XK}{X:Cx}{e:af}{m:ME}{pos p2:ah}
end
section
variable{K:ae}{cl:Str->Addr}{E:XK}{X:Cx}
theorem xN(i:Int):∀is:AA,vZ (.int i) (is.map V.int)=is.any (· ==i)
 |[]=>rfl
 |j::is=>by
  have ih:=xN i is;unfold vZ at ih⊢;rw[ar,qg,qg,ih];rfl
theorem xE:∀is:AA,(is.map V.int).all kI=true
 |[]=>rfl
 |j::is=>by
  rw[ar,uh,xE is];rfl
def vG(neg:Bool)(i:Int)(is:AA):Bool:=if neg then !(is.any (· ==i))else is.any (· ==i)
def nW(neg:Bool):PV->PV->AJ
 |.int i,.lst xs=>(dM xs).map λis=>.bl (vG neg i is)
 |.int i,.tup xs=>(dM xs).map λis=>.bl (vG neg i is)
 |_,_=>none
theorem uT(neg:Bool):fE K (Kb K neg) (nW neg):=λ{p S H a b c x y Q} s ra rb e k=>by
 cases a with
 |int i=>
  cases b with
  |lst xs=>
   have e:((dM xs).map λis=>PV.bl (vG neg i is))=some c:=e;cases z:dM xs with
   |none=>rw[z]at e;cases e
   |some is=>
    rw[z]at e;cases e;obtain⟨a1,vs,rfl,l1,z1,r1⟩:=rb.lst;rw[jA z r1]at l1;have hx:=ra.int;subst hx;refine⟨a1,is.map V.int,rfl,.inl l1,rfl,xE is,?_⟩;rw[xN];exact k H _ (cR.refl H) (fJ (v:=.bl _) rfl)
  |tup xs=>
   have e:((dM xs).map λis=>PV.bl (vG neg i is))=some c:=e;cases z:dM xs with
   |none=>rw[z]at e;cases e
   |some is=>
    rw[z]at e;cases e;obtain⟨a1,vs,rfl,l1,z1,r1⟩:=rb.tup;rw[jA z r1]at l1;have hx:=ra.int;subst hx;refine⟨a1,is.map V.int,rfl,.inr l1,rfl,xE is,?_⟩;rw[xN];exact k H _ (cR.refl H) (fJ (v:=.bl _) rfl)
  |_=>cases e
 |_=>cases e
end
end L2.Pp
namespace L2
open PySem PySem.Spec PyProof.Rows Bn
open PySem.W (KasT kas_sort kas_ask KatLex KatGo KatTups kat_run kat_kind kat_lt kat_one kas_item kat_snds)
def kP{α:Type}(lt:Nat->Nat->Bool):KasT α->α
 |.ret a=>a
 |.ask i j k=>kP lt (k (lt i j))
def gK{α:Type}(n:Nat):KasT α->Bool
 |.ret _=>true
 |.ask i j k=>decide (i<n)&&decide (j<n)&&gK n (k true)&&gK n (k false)
theorem Bg{α:Type}{cmp:Nat->Nat->(Bool->aa->Prop)->aa->Prop}{lt:Nat->Nat->Bool}{n:Nat}{s:aa}(hc:∀i j(C:Bool->aa->Prop),i<n->j<n->C (lt i j) s->cmp i j C s):∀(t:KasT α)(Q:α->aa->Prop),gK n t=true->Q (kP lt t) s->t.kasWp cmp Q s
 |.ret a,Q,_,h=>h
 |.ask i j k,Q,ok,h=>by
  unfold gK at ok;simp only[gj,decide_eq_true_eq]at ok;obtain⟨⟨⟨hi,hj⟩,h1⟩,h2⟩:=ok;refine hc i j _ hi hj (Bg hc (k (lt i j)) Q ?_ h);cases lt i j
  .exact h2
  .exact h1
def oV(h:Heap)(v:Value)(us:AA):Prop:=∃a o its n,v=.ref a/\h.get? a=some o/\o.cls=.type "tuple"/\o.data=.seq (ku its) n/\bG (us.map V.int) its
section
variable{prog:Program}{w:aj}{A:ak}{E:Value->aa->Prop}{s:aa}
theorem Ii{Q:Bool->aa->Prop}:∀(us vs:AA)(its jts:AE)(i:Nat)(fin:Bool),bG (us.map V.int) its->bG (vs.map V.int) jts->fin=decide (us.length<vs.length)->Q (HT.lexLt us vs) s->KatLex prog w A true fin Q (its.zip jts) i s
 |[],vs,its,jts,i,fin,h1,h2,hf,hQ=>by
  cases h1;cases vs with
  |nil=>
   subst hf;exact vh hQ
  |cons v vs=>
   have e:fin=true:=by rw[hf];simp
   subst e;exact vh hQ
 |u::us,[],its,jts,i,fin,h1,h2,hf,hQ=>by
  cases h2;have e:fin=false:=by rw[hf];simp
  subst e;rw[List.zip_nil_right];exact vh hQ
 |u::us,v::vs,its,jts,i,fin,h1,h2,hf,hQ=>by
  cases h1 with
  |cons r1 t1=>
   cases h2 with
   |cons r2 t2=>
    obtain⟨k1,rfl⟩:=r1;obtain⟨k2,rfl⟩:=r2;rw[List.zip_cons_cons];refine PySem.W.kat_cons (wpAny_eqBool_int ?_);rw[HT.lexLt_cons]at hQ
    by_cases e:u=v
    .rw[if_pos e]at hQ
     have b:(u==v)=true:=by simpa using e
     rw[b];exact PySem.W.kat_yes (Ii us vs _ _ (i+1) fin t1 t2 (by rw[hf];simp) hQ)
    .rw[if_neg e]at hQ
     have b:(u==v)=false:=by simpa using e
     rw[b];refine PySem.W.kat_no ?_
     by_cases hi:i=0
     .subst hi
      exact oneLt_int hQ
     .have b2:(true&&i==0)=false:=by simpa using hi
      rw[b2];exact kat_one _ _ (PySem.P.lt_int hQ)
theorem K9{x y:Value}{us vs:AA}{Q:Bool->aa->Prop}(hx:oV s.heap x us)(hy:oV s.heap y vs)(h:Q (HT.lexLt us vs) s):wpAny (model prog w) A (keyLt' (tuples' true) x y) Q E s:=by
 obtain⟨a,o,its,n,rfl,ho,hc,hd,r⟩:=hx;obtain⟨b,o2,jts,k,rfl,ho2,hc2,hd2,r2⟩:=hy;refine kat_lt ho hd ho2 hd2 ?_;have l1:=r.length;have l2:=r2.length;rw[ai]at l1 l2;refine Ii us vs its jts 0 _ r r2 ?_ h;rw[aq,aq,l1,l2]
theorem Cd:∀(vs:AE)(uss:AC),vs.length=uss.length->(∀i,i<vs.length->oV s.heap (vs.getD i cw) (uss.getD i [])/\uss.getD i []≠[])->∃fs,KatTups s.heap vs fs/\fs.length=vs.length/\∀v∈fs,∃i t,v=.int i t
 |[],uss,_,_=>⟨[],trivial,rfl,λ_ h=>absurd h de⟩
 |v::vs,[],hl,_=>by cases hl
 |v::vs,us::uss,hl,h=>by
  obtain⟨fs,k,l,q⟩:=Cd vs uss (by simpa using hl) λi hi=>by
   have:=h (i+1) (by simp;omega);simpa using this
  obtain⟨⟨a,o,its,n,e,ho,hc,hd,r⟩,ne⟩:=h 0 (by simp);have e:v=.ref a:=e;subst e;cases us with
  |nil=>exact absurd rfl ne
  |cons u us=>
   have r:bG (V.int u::us.map V.int) its:=r;cases r with
   |cons r1 t1=>
    obtain⟨t,rfl⟩:=r1;refine⟨.int u t::fs,KatTups.cons ho hc hd (by simp) k,by simp[l],λx hx=>?_⟩;rcases ay.mp hx with rfl |hx
    .exact⟨u,t,rfl⟩
    .exact q x hx
def dA(uss:AC):List Nat:=(kP (λi j=>HT.lexLt (uss.getD i []) (uss.getD j [])) (ir uss.length)).toList
theorem No{a:Addr}{vs:AE}{uss:AC}{n:Nat}{P:PySem.Fin->aa->Prop}(ho:s.heap.get? a=some (seqObj "list" vs.toArray n))(hl:vs.length=uss.length)(h2:2<=vs.length)(h64:vs.length<64)(ok:gK uss.length (ir uss.length)=true)
  (tu:∀i,i<vs.length->oV s.heap (vs.getD i cw) (uss.getD i [])/\uss.getD i []≠[])
  (h:P (.done (.ret .none)) {s with heap:=sortedHeap s.heap a vs (ku ((dA uss).map λi=>vs.getD i cw))}):
  wpAny (model prog w) A (Builtin.«list.sort» ⟨[.ref a],[]⟩) P E s:=by
 have ha:a<s.heap.objs.size:=au ho;obtain⟨e1,ho1⟩:∃e1,(s.heap.update a (fz λ_=>(#[]:Array Value))).get? a=some (seqObj "list" #[] e1):=⟨_,vj ho λ_=>#[]⟩;have kp:∀b o,b≠a->s.heap.get? b=some o->(((s.heap.update a (fz λ_=>(#[]:Array Value))).push (seqObj "tuple" vs.toArray 0)).push (seqObj "list" #[] 0)).get? b=some o:=λb o hb e=>
  ao _ (ao _ ((vk _ _ _ _ hb).trans e))
 have tu2:∀i,i<vs.length->oV (((s.heap.update a (fz λ_=>(#[]:Array Value))).push (seqObj "tuple" vs.toArray 0)).push (seqObj "list" #[] 0)) (vs.getD i cw) (uss.getD i [])/\uss.getD i []≠[]:=λi hi=>by
  obtain⟨⟨b,o,its,m,e,hb,hc,hd,r⟩,ne⟩:=tu i hi;refine⟨⟨b,o,its,m,e,kp b o (λz=>?_) hb,hc,hd,r⟩,ne⟩;subst z;rw[ho]at hb;cases hb;have hc:ke "list"=ke "tuple":=hc;injection hc with hc;exact absurd hc (by decide)
 have na:(((s.heap.update a (fz λ_=>(#[]:Array Value))).push (seqObj "tuple" vs.toArray 0)).push (seqObj "list" #[] 0)).get? a=some (seqObj "list" #[] e1):=ao _ (ao _ ho1);rw[list_sort_plain];refine ag (listItems_at ho rfl ?_);refine ag (listUpdate_at ho rfl ?_ (by rw[aq,jr];omega) (ig _));refine ag (seqEpoch_at ho1 rfl ?_);refine ag (wpAny_newTuple ?_ (by show vs.length<=_;rw[jr];omega));refine ag (wpAny_newList ?_ (ig _));refine ki ?_;show wpAny (model prog w) A _ P E {s with heap:=((s.heap.update a (fz λ_=>(#[]:Array Value))).push (seqObj "tuple" vs.toArray 0)).push (seqObj "list" #[] 0)};dsimp only;have hn2:¬vs.toArray.size<2:=by rw[aq];omega
 rw[if_neg hn2,if_neg hn2];obtain⟨fs,kt,lf,qf⟩:=Cd (s:={s with heap:=((s.heap.update a (fz λ_=>(#[]:Array Value))).push (seqObj "tuple" vs.toArray 0)).push (seqObj "list" #[] 0)}) vs uss hl tu2;refine ag (kat_kind (T:=.type "int") kt (by omega) (λv hv=>?_) rfl ?_)
 .obtain⟨i,t,rfl⟩:=qf v hv
  exact .now
 have bt:(ke "int" !=ke "tuple")=true:=by decide
 rw[bt];refine ag (jg (kat_run (Q:=λst' s'=>∃p:Array Nat,p.size=vs.length/\arrOf st'=p.map (kas_item (vs.toArray.zip vs.toArray))/\failedOf st'=none/\p.toList=dA uss/\s'={s with heap:=((s.heap.update a (fz λ_=>(#[]:Array Value))).push (seqObj "tuple" vs.toArray 0)).push (seqObj "list" #[] 0)})
  (G:=λp s'=>p.toList=dA uss/\s'={s with heap:=((s.heap.update a (fz λ_=>(#[]:Array Value))).push (seqObj "tuple" vs.toArray 0)).push (seqObj "list" #[] 0)})
  rfl h2 h64 (λp' st' s' a1 a2 a3 a4=>⟨p',a1,a2,a3,a4⟩) ?_) ?_ λ_ _ e=>e)
 .rw[hl]
  refine Bg (lt:=λi j=>HT.lexLt (uss.getD i []) (uss.getD j [])) (n:=uss.length) (λi j C hi hj hC=>?_) _ _ ok ⟨rfl,rfl⟩;exact K9 (tu2 i (by omega)).1 (tu2 j (by omega)).1 hC
 rintro⟨⟨⟩,st'⟩ s' ⟨p,hp,har,hf,hpl,rfl⟩
 dsimp only;have hout:=kat_snds rfl har;have hsz:(ku (p.toList.map λi=>vs.getD i cw)).size=vs.length:=by rw[aq,ai,iz,hp]
 rw[hout];refine ag (seqEpoch_at na rfl ?_);refine ag (listUpdate_at na rfl ?_ (ig _) (gh (um hsz) (by rw[jr];omega)));rw[hf];simp only[bne_self_eq_false,Bool.false_eq_true,if_false];refine ax ?_;rw[hpl];exact h
theorem Wq{l:Addr}{o:Obj}{T:String}{vs:AE}{uss:AC}{n:Nat}{Q:Value->aa->Prop}(hT:T="list"\/T="tuple")(ho:s.heap.get? l=some o)(hc:o.cls=.type T)(hd:o.data=.seq vs.toArray n)(hl:vs.length=uss.length)(h2:2<=vs.length)(h64:vs.length<64)(ok:gK uss.length (ir uss.length)=true)
  (tu:∀i,i<vs.length->oV s.heap (vs.getD i cw) (uss.getD i [])/\uss.getD i []≠[])
  (h:∀(h1 h':Heap)(c:Nat),(∀b o',s.heap.get? b=some o'->h1.get? b=some o')->(∀b o',h1.get? b=some o'->h'.get? b=some o')->h'.get? h1.objs.size=some (seqObj "list" (ku ((dA uss).map λi=>vs.getD i cw)) c)->Q (.ref h1.objs.size) {s with heap:=h'}):
  wpAny (model prog w) A (call (.builtin "sorted") [.ref l]) Q E s:=by
 refine PySem.Calls.call_function_entry kind_sorted plain_sorted entry_sorted (args_sorted1 _) ?_;unfold Builtin.«sorted»;refine ag (m:=checkCount "sorted" 1 1 _) (ax ?_);refine ag (wpAny_collect_seq l hT ho hc hd (λh1 k1=>?_) (by rw[aq,jr];omega));refine ag (wpAny_newList ?_ (by rw[jr];simp;omega));have hoL:(h1.push (seqObj "list" vs.toArray 0)).get? h1.objs.size=some (seqObj "list" vs.toArray 0):=cq _ rfl;show wpAny _ _ _ _ _ {s with heap:=h1.push (seqObj "list" vs.toArray 0)};refine ag (ki (lg slot_list_sort ⟨_,hoL,rfl⟩ entry_list_sort ?body (args_list_sort _)))
 case body=>
  refine No (s:={s with heap:=h1.push (seqObj "list" vs.toArray 0)}) hoL hl h2 h64 ok (λi hi=>?_) ⟨_,rfl,ax ⟨_,rfl,?_⟩⟩
  .obtain⟨⟨b,o,its,m,e,hb,hc,hd,r⟩,ne⟩:=tu i hi
   exact⟨⟨b,o,its,m,e,ao _ (k1 b o hb),hc,hd,r⟩,ne⟩
  .obtain⟨e1,ho1⟩:∃e1,((h1.push (seqObj "list" vs.toArray 0)).update h1.objs.size (fz λ_=>(#[]:Array Value))).get? h1.objs.size=some (seqObj "list" #[] e1):=⟨_,vj hoL λ_=>#[]⟩
   have ho2:=ao (seqObj "list" #[] 0) (ao (seqObj "tuple" vs.toArray 0) ho1);obtain⟨e2,ho3⟩:∃e2,(sortedHeap (h1.push (seqObj "list" vs.toArray 0)) h1.objs.size vs (ku ((dA uss).map λi=>vs.getD i cw))).get? h1.objs.size=some (seqObj "list" (ku ((dA uss).map λi=>vs.getD i cw)) e2):=⟨_,vj ho2 λ_=>ku ((dA uss).map λi=>vs.getD i cw)⟩;refine h h1 _ e2 k1 (λb o' hb1=>?_) ho3;have hne:b≠h1.objs.size:=cj (au hb1);exact(vk _ _ _ _ hne).trans (ao _ (ao _ ((vk _ _ _ _ hne).trans (ao _ hb1))))
end
def zP(K:ae)(H:Hp)(ts:List V)(uss:AC):Prop:=ts.length=uss.length/\∀i t,ts[i]?=some t->∃a,t=.ref a/\cE K H a ((uss.getD i []).map V.int)/\uss.getD i []≠[]
theorem Mq{X:Cx}:gB X (.builtin "sorted") (λxs H Q=>∃(a:Addr)(ts:List V)(uss:AC),xs=[.ref a]/\(bN X.K H a ts\/cE X.K H a ts)/\zP X.K H ts uss/\2<=ts.length/\ts.length<64/\gK uss.length (ir uss.length)=true/\(dA uss).length<=64/\
  ∀l,H l=none->Q (.ref l) (aX H l (.lst ((dA uss).map λi=>ts.getD i .non)))):=by
 intro AM s σ H xs us Q I r h;obtain⟨a,ts,uss,rfl,hq,⟨hl,ht⟩,h2,h64,ok,hpl,q⟩:=h;obtain⟨u,rfl,ru⟩:=iM r;cases ru;have go:∀(its:AE)(T:String)(o:Obj)(n:Nat),bG ts its->(T="list"\/T="tuple")->s.heap.get? a=some o->o.cls=.type T->o.data=.seq its.toArray n->ts.length<=sizeLine->
   wpAny (model X.prog X.w) X.A (call (.builtin "sorted") [.ref a]) (EP X AM σ Q) X.xe s:=λits T o n rv hT ho hc hd hz=>by
  have hlen:=rv.length;refine Wq (uss:=uss) hT ho hc hd (by omega) (by omega) (by omega) ok (λi hi=>?_) λh1 h' c k1 k2 e=>?_
  .have hi':i<ts.length:=by omega
   obtain⟨b,e1,sq,ne⟩:=ht i ts[i] (aw hi');obtain⟨v,e2,rel⟩:=rv.get (aw hi');rw[e1]at rel;cases rel;obtain⟨jts,rj,⟨o2,ho2,hc2,m,hd2⟩,_⟩:=I.tuple sq;refine⟨⟨b,o2,jts,m,?_,ho2,hc2,hd2,rj⟩,ne⟩;rw[cf,e2];rfl
  .have I1:aH X AM σ H {s with heap:=h1,toks:=s.toks}:=I.kept k1
   have hz2:((dA uss).map λi=>ts.getD i .non).length<=sizeLine:=by
    rw[ai,jr];omega
   have rel:∀ps:List Nat,bG (ps.map λi=>ts.getD i .non) (ps.map λi=>its.getD i cw):=λps=>by
    induction ps with
    |nil=>exact .nil
    |cons i ps ih=>
     refine .cons ?_ ih
     by_cases hi:i<ts.length
     .obtain⟨v,e2,rr⟩:=rv.get (aw hi)
      have q1:ts.getD i .non=ts[i]:=by simp[cf,hi]
      have q2:its.getD i cw=v:=by simp[cf,e2]
      show bM (ts.getD i .non) (its.getD i cw);rw[q1,q2];exact rr
     .have q1:ts.getD i .non=.non:=by simp[cf,hi]
      have q2:its.getD i cw=cw:=by simp[cf,show its.length<=i by omega]
      show bM (ts.getD i .non) (its.getD i cw);rw[q1,q2];rfl
   refine⟨.ref h1.objs.size,_,I1.laid (t':=s.toks) (o:=.lst ((dA uss).map λi=>ts.getD i .non)) k2 (am _) ?_,rfl,q _ (I1.hok.fresh (am _))⟩;exact⟨hz2,_,c,rel _,e⟩
 rcases hq with hq |hq
 .obtain⟨its,rv,pl,hz⟩:=I.list hq
  obtain⟨o,ho,hc,n,hd⟩:=pl.isList;exact go its "list" o n rv (.inl rfl) ho hc hd hz
 .obtain⟨its,rv,⟨o,ho,hc,n,hd⟩,hz⟩:=I.tuple hq
  exact go its "tuple" o n rv (.inr rfl) ho hc hd hz
end L2
namespace L2.Pp
open PySem PySem.Spec PyProof.Rows Bn
open PySem.W (kas_sort)
section
variable{K:ae}
def lW:AI->Option AC
 |[]=>some []
 |.tup us::r=>match dM us,lW r with
  |some is,some uss=>some (is::uss)
  |_,_=>none
 |_::_=>none
theorem Tg:∀{xs:AI}{uss:AC},lW xs=some uss->xs.length=uss.length
 |[],uss,e=>by cases e;rfl
 |.tup us::r,uss,e=>by
  unfold lW at e;split at e
  .rename_i is uss' h1 h2
   cases e;rw[ca,ca,Tg h2]
  .cases e
 |.non::_,_,e=>by cases e
 |.bl _::_,_,e=>by cases e
 |.int _::_,_,e=>by cases e
 |.str _::_,_,e=>by cases e
 |.lst _::_,_,e=>by cases e
theorem Uh{c:Addr->Prop}{H:Hp}:∀{xs:AI}{uss:AC}{vs:List V},lW xs=some uss->aQ K c H xs vs->∀i t,vs[i]?=some t->∃a,t=.ref a/\cE K H a ((uss.getD i []).map V.int)
 |[],uss,vs,e,r,i,t,h=>by
  unfold aQ at r;subst r;simp at h
 |.tup us::r,uss,vs,e,rr,i,t,h=>by
  unfold lW at e;split at e
  .rename_i is uss' h1 h2
   cases e;unfold aQ at rr;obtain⟨v,w,rfl,r1,r2⟩:=rr;cases i with
   |zero=>
    cases h;unfold aT at r1;obtain⟨a,ws,rfl,sq,_,r3⟩:=r1;rw[jA h1 r3]at sq;exact⟨a,rfl,sq⟩
   |succ i=>
    have:=Uh h2 r2 i t (by simpa using h);simpa using this
  .cases e
 |.non::_,_,_,e,_,_,_,_=>by cases e
 |.bl _::_,_,_,e,_,_,_,_=>by cases e
 |.int _::_,_,_,e,_,_,_,_=>by cases e
 |.str _::_,_,_,e,_,_,_,_=>by cases e
 |.lst _::_,_,_,e,_,_,_,_=>by cases e
def zX(uss:AC):Prop:=2<=uss.length/\uss.length<64/\gK uss.length (ir uss.length)=true/\(dA uss).length<=64/\∀us∈uss,us≠[]
def Ga(xs:AI)(uss:AC):AI:=(dA uss).map λi=>xs.getD i .non
open Classical in
noncomputable def oU(xs:AI):AJ:=match lW xs with
 |some uss=>if zX uss then some (.lst (Ga xs uss))else none
 |none=>none
noncomputable def oM:AI->AJ
 |[.lst xs]=>oU xs
 |[.tup xs]=>oU xs
 |_=>none
theorem Ue{c:Addr->Prop}{H:Hp}{xs:AI}{vs:List V}(r:aQ K c H xs vs):∀ps:List Nat,aQ K c H (ps.map λi=>xs.getD i .non) (ps.map λi=>vs.getD i .non)
 |[]=>.nil
 |i::ps=>by
  refine .cons ?_ (Ue r ps)
  by_cases hi:i<xs.length
  .obtain⟨v,e1,e2⟩:=r.get (aw hi)
   have q1:xs.getD i .non=xs[i]:=by simp[cf,hi]
   have q2:vs.getD i .non=v:=by simp[cf,e1]
   show aT K c H (xs.getD i .non) (vs.getD i .non);rw[q1,q2];exact e2
  .have hl:=r.length
   have q1:xs.getD i .non=.non:=by simp[cf,hi]
   have q2:vs.getD i .non=.non:=by simp[cf,show vs.length<=i by omega]
   show aT K c H (xs.getD i .non) (vs.getD i .non);rw[q1,q2];unfold aT;rfl
theorem E6:iG K (λxs H Q=>∃(a:Addr)(ts:List V)(uss:AC),xs=[.ref a]/\(bN K H a ts\/cE K H a ts)/\zP K H ts uss/\2<=ts.length/\ts.length<64/\gK uss.length (ir uss.length)=true/\(dA uss).length<=64/\
  ∀l,H l=none->Q (.ref l) (aX H l (.lst ((dA uss).map λi=>ts.getD i .non)))) oM:=λ{p S H as c xs Q} s ra e k=>by
 have key:∀(zs:AI)(a:Addr)(vs:List V),oU zs=some c->(bN K H a vs\/cE K H a vs)->aQ K p.c H zs vs->∃(a':Addr)(ts:List V)(uss:AC),[V.ref a]=[.ref a']/\(bN K H a' ts\/cE K H a' ts)/\zP K H ts uss/\2<=ts.length/\ts.length<64/\gK uss.length (ir uss.length)=true/\(dA uss).length<=64/\
   ∀l,H l=none->Q (.ref l) (aX H l (.lst ((dA uss).map λi=>ts.getD i .non))):=λzs a vs e sq r=>by
  unfold oU at e;split at e
  .rename_i uss hu
   split at e
   .rename_i hc
    cases e;obtain⟨c1,c2,c3,c4,c5⟩:=hc;have l1:=Tg hu;have l2:=r.length;refine⟨a,vs,uss,rfl,sq,⟨by omega,λi t h=>?_⟩,by omega,by omega,c3,c4,λl hl=>?_⟩
    .obtain⟨b,e1,e2⟩:=Uh hu r i t h
     have hi:i<uss.length:=by
      have:=(bf.mp h).1;omega
     refine⟨b,e1,e2,?_⟩;rw[cf,aw hi];exact c5 _ (du hi)
    .refine k _ _ (gA hl) (nE s (Ue r _) ?_ hl)
     rw[ai,gZ];omega
   .cases e
  .cases e
 unfold oM at e;split at e
 .rename_i zs
  cases ra with
  |cons h t=>
   cases t;obtain⟨a,vs,rfl,l,z,r⟩:=h.lst;exact key zs a vs e (.inl l) r
 .rename_i zs
  cases ra with
  |cons h t=>
   cases t;obtain⟨a,vs,rfl,l,z,r⟩:=h.tup;exact key zs a vs e (.inr l) r
 .cases e
end
end L2.Pp
namespace L2
section
open PySem.W (KasT kas_sort)
theorem Nd{α:Type}{lt lt':Nat->Nat->Bool}{n:Nat}(h:∀i j,i<n->j<n->lt i j=lt' i j):∀t:KasT α,gK n t=true->kP lt t=kP lt' t
 |.ret a,_=>rfl
 |.ask i j k,ok=>by
  unfold gK at ok;simp only[gj,decide_eq_true_eq]at ok;obtain⟨⟨⟨hi,hj⟩,h1⟩,h2⟩:=ok;show kP lt (k (lt i j))=kP lt' (k (lt' i j));rw[<-h i j hi hj];refine Nd h (k (lt i j)) ?_;cases lt i j
  .exact h2
  .exact h1
theorem jQ:∀u:AA,HT.lexLt u u=false
 |[]=>rfl
 |x::u=>by rw[HT.lexLt_cons,if_pos rfl,jQ u]
theorem yH:∀u v:AA,u=v\/HT.lexLt u v=true\/HT.lexLt v u=true
 |[],[]=>.inl rfl
 |[],_::_=>.inr (.inl rfl)
 |_::_,[]=>.inr (.inr rfl)
 |x::u,y::v=>by
  rw[HT.lexLt_cons,HT.lexLt_cons]
  by_cases h:x=y
  .subst h
   rw[if_pos rfl,if_pos rfl];rcases yH u v with h |h |h
   .exact .inl (by rw[h])
   .exact .inr (.inl h)
   .exact .inr (.inr h)
  .rw[if_neg h,if_neg (λz=>h z.symm)]
   by_cases q:x<y
   .exact .inr (.inl (by simpa using q))
   .exact .inr (.inr (by simp;omega))
theorem sW:∀u v w:AA,HT.lexLt u v=true->HT.lexLt v w=true->HT.lexLt u w=true
 |[],[],_,h,_=>by cases h
 |[],_::_,[],_,h=>by cases h
 |[],_::_,_::_,_,_=>rfl
 |_::_,[],_,h,_=>by cases h
 |_::_,_::_,[],_,h=>by cases h
 |x::u,y::v,z::w,h1,h2=>by
  rw[HT.lexLt_cons]at h1 h2⊢
  by_cases e1:x=y
  .subst e1
   rw[if_pos rfl]at h1
   by_cases e2:x=z
   .rw[if_pos e2]at h2⊢
    exact sW u v w h1 h2
   .rw[if_neg e2]at h2⊢
    exact h2
  .rw[if_neg e1]at h1
   have h1:x<y:=by simpa using h1
   by_cases e2:y=z
   .subst e2
    rw[if_neg e1];simpa using h1
   .rw[if_neg e2]at h2
    have h2:y<z:=by simpa using h2
    rw[if_neg (by omega)];simp;omega
theorem Ou{u v:AA}(h:HT.lexLt u v=true):HT.lexLt v u=false:=by
 cases q:HT.lexLt v u with
 |false=>rfl
 |true=>
  have:=sW u v u h q;rw[jQ]at this;cases this
theorem Cw{u v:AA}(h:HT.lexLt u v=false)(g:HT.lexLt v u=false):u=v:=by
 rcases yH u v with e |e |e
 .exact e
 .rw[h]at e;cases e
 .rw[g]at e;cases e
def r3(a b c d e f:Bool):Bool:=(!(a&&b)||c)&&(!(d&&e)||f)
def vT(b:Nat->Nat->Bool)(n:Nat):Bool:=(az n).all λi=>!(b i i)&&(az n).all λj=>!(b i j&&b j i)&&(az n).all λk=>(!(b i j&&b j k)||b i k)&&(b i j||b j k|| !(b i k))
def uL(b:Nat->Nat->Bool)(n:Nat)(ps:List (List Nat)):Bool:=let p:=(kP b (ir n)).toList
 ps.contains p&&(az n).all λi=>(az n).all λj=>!(decide (i<j))|| !(b (p.getD j 0) (p.getD i 0))
def zH:List (List Nat):=[[0,1,2],[0,2,1],[1,0,2],[1,2,0],[2,0,1],[2,1,0]]
def zB:List (List Nat):=[[0,1,2,3],[0,1,3,2],[0,2,1,3],[0,2,3,1],[0,3,1,2],[0,3,2,1],[1,0,2,3],[1,0,3,2],[1,2,0,3],[1,2,3,0],[1,3,0,2],[1,3,2,0],
 [2,0,1,3],[2,0,3,1],[2,1,0,3],[2,1,3,0],[2,3,0,1],[2,3,1,0],[3,0,1,2],[3,0,2,1],[3,1,0,2],[3,1,2,0],[3,2,0,1],[3,2,1,0]]
def Db(b01 b02 b10 b12 b20 b21:Bool)(i j:Nat):Bool:=match i,j with
 |0,1=>b01 |0,2=>b02 |1,0=>b10 |1,2=>b12 |2,0=>b20 |2,1=>b21 |_,_=>false
def Ab(b01 b02 b03 b10 b12 b13 b20 b21 b23 b30 b31 b32:Bool)(i j:Nat):Bool:=match i,j with
 |0,1=>b01 |0,2=>b02 |0,3=>b03 |1,0=>b10 |1,2=>b12 |1,3=>b13 |2,0=>b20 |2,1=>b21 |2,3=>b23 |3,0=>b30 |3,1=>b31 |3,2=>b32 |_,_=>false
theorem Ul:gK 3 (ir 3)=true:=by decide+kernel
theorem Qm:gK 4 (ir 4)=true:=by decide+kernel
theorem aan:∀b01 b02 b10 b12 b20 b21:Bool,vT (Db b01 b02 b10 b12 b20 b21) 3=true->uL (Db b01 b02 b10 b12 b20 b21) 3 zH=true:=by decide+kernel
theorem Z9:∀b01 b02 b03 b10 b12 b13 b20 b21 b23 b30 b31 b32:Bool,vT (Ab b01 b02 b03 b10 b12 b13 b20 b21 b23 b30 b31 b32) 4=true->uL (Ab b01 b02 b03 b10 b12 b13 b20 b21 b23 b30 b31 b32) 4 zB=true:=by decide+kernel
theorem Yk{b:Nat->Nat->Bool}{n:Nat}{uss:AC}(h:∀i j,i<n->j<n->b i j=HT.lexLt (uss.getD i []) (uss.getD j [])):vT b n=true:=by
 unfold vT;simp only[jv,pb,gj,zb,Bool.or_eq_true,Bool.and_eq_false_imp];intro i hi;refine⟨by rw[h i i hi hi,jQ],λj hj=>⟨λq=>?_,λk hk=>⟨?_,?_⟩⟩⟩
 .rw[h i j hi hj]at q
  rw[h j i hj hi,Ou q]
 .rw[h i j hi hj,h j k hj hk,h i k hi hk]
  cases q1:HT.lexLt (uss.getD i []) (uss.getD j [])with
  |false=>exact .inl λz=>by cases z
  |true=>
   cases q2:HT.lexLt (uss.getD j []) (uss.getD k [])with
   |false=>exact .inl λ_=>rfl
   |true=>exact .inr (sW _ _ _ q1 q2)
 .rw[h i j hi hj,h j k hj hk,h i k hi hk]
  cases q1:HT.lexLt (uss.getD i []) (uss.getD j [])with
  |true=>exact .inl (.inl rfl)
  |false=>
   cases q2:HT.lexLt (uss.getD j []) (uss.getD k [])with
   |true=>exact .inl (.inr rfl)
   |false=>
    refine .inr ?_;cases q3:HT.lexLt (uss.getD i []) (uss.getD k [])with
    |false=>rfl
    |true=>
     rcases yH (uss.getD i []) (uss.getD j [])with e |e |e
     .rw[e]at q3;rw[q2]at q3;cases q3
     .rw[q1]at e;cases e
     .have:=sW _ _ _ e q3
      rw[q2]at this;cases this
end
section
open PySem.W (KasT kas_sort)
def dD(uss:AC):AC:=(dA uss).map λi=>uss.getD i []
def nZ(u v:AA):Prop:=HT.lexLt v u=false
theorem Me{uss:AC}{n:Nat}{ps:List (List Nat)}(hl:uss.length=n)(ok:gK n (ir n)=true){b:Nat->Nat->Bool}(hb:∀i j,i<n->j<n->b i j=HT.lexLt (uss.getD i []) (uss.getD j []))(good:uL b n ps=true)(hp:∀p∈ps,p.Perm (az n)):
  dA uss∈ps/\(dA uss).Perm (az n)/\(dD uss).Pairwise nZ:=by
 have e:dA uss=(kP b (ir n)).toList:=by
  unfold dA;rw[hl];exact congrArg ss (Nd (n:=n) (λi j hi hj=>(hb i j hi hj).symm) _ ok)
 unfold uL at good;simp only[gj,jv,pb]at good;rw[<-e]at good;obtain⟨g1,g2⟩:=good;have m:dA uss∈ps:=by simpa using g1
 have pm:=hp _ m;refine⟨m,pm,?_⟩;have ln:(dA uss).length=n:=by rw[pm.length_eq,vb]
 unfold dD;rw[List.pairwise_iff_getElem];intro i j hi hj hij;rw[ai]at hi hj;have q:=g2 i (by omega) j (by omega);have pi:(dA uss).getD i 0=(dA uss)[i]:=by simp[cf,hi]
 have pj:(dA uss).getD j 0=(dA uss)[j]:=by simp[cf,hj]
 rw[pi,pj]at q;have li:(dA uss)[i]<n:=by
  have:=pm.subset (du hi);simpa using this
 have lj:(dA uss)[j]<n:=by
  have:=pm.subset (du hj);simpa using this
 rw[hb _ _ lj li]at q;simp only[List.getElem_map];unfold nZ;have d:decide (i<j)=true:=by simpa using hij
 rw[d]at q;simpa using q
theorem Hu:∀p∈zH,p.Perm (az 3):=by decide
theorem Qu:∀p∈zB,p.Perm (az 4):=by decide
theorem Th{uss:AC}(h:uss.length=3):dA uss∈zH/\(dA uss).Perm (az 3)/\(dD uss).Pairwise nZ:=by
 match uss,h with
 |[u0,u1,u2],_=>
  have hb:∀i j,i<3->j<3->Db (HT.lexLt u0 u1) (HT.lexLt u0 u2) (HT.lexLt u1 u0) (HT.lexLt u1 u2) (HT.lexLt u2 u0) (HT.lexLt u2 u1) i j=HT.lexLt (([u0,u1,u2]:AC).getD i []) (([u0,u1,u2]:AC).getD j []):=λi j hi hj=>by
   match i,j,hi,hj with
   |0,0,_,_=>exact(jQ u0).symm
   |0,1,_,_=>rfl
   |0,2,_,_=>rfl
   |1,0,_,_=>rfl
   |1,1,_,_=>exact(jQ u1).symm
   |1,2,_,_=>rfl
   |2,0,_,_=>rfl
   |2,1,_,_=>rfl
   |2,2,_,_=>exact(jQ u2).symm
  exact Me rfl Ul hb (aan _ _ _ _ _ _ (Yk hb)) Hu
theorem Yh{uss:AC}(h:uss.length=4):dA uss∈zB/\(dA uss).Perm (az 4)/\(dD uss).Pairwise nZ:=by
 match uss,h with
 |[u0,u1,u2,u3],_=>
  have hb:∀i j,i<4->j<4->Ab (HT.lexLt u0 u1) (HT.lexLt u0 u2) (HT.lexLt u0 u3) (HT.lexLt u1 u0) (HT.lexLt u1 u2) (HT.lexLt u1 u3) (HT.lexLt u2 u0) (HT.lexLt u2 u1) (HT.lexLt u2 u3) (HT.lexLt u3 u0) (HT.lexLt u3 u1) (HT.lexLt u3 u2) i j=HT.lexLt (([u0,u1,u2,u3]:AC).getD i []) (([u0,u1,u2,u3]:AC).getD j []):=λi j hi hj=>by
   match i,j,hi,hj with
   |0,0,_,_=>exact(jQ u0).symm
   |0,1,_,_=>rfl
   |0,2,_,_=>rfl
   |0,3,_,_=>rfl
   |1,0,_,_=>rfl
   |1,1,_,_=>exact(jQ u1).symm
   |1,2,_,_=>rfl
   |1,3,_,_=>rfl
   |2,0,_,_=>rfl
   |2,1,_,_=>rfl
   |2,2,_,_=>exact(jQ u2).symm
   |2,3,_,_=>rfl
   |3,0,_,_=>rfl
   |3,1,_,_=>rfl
   |3,2,_,_=>rfl
   |3,3,_,_=>exact(jQ u3).symm
  exact Me rfl Qm hb (Z9 _ _ _ _ _ _ _ _ _ _ _ _ (Yk hb)) Qu
theorem kZ{uss:AC}(h:uss.length=3\/uss.length=4):(dD uss).Perm uss/\(dD uss).Pairwise nZ:=by
 have key:∀n,uss.length=n->(dA uss).Perm (az n)->(dD uss).Perm uss:=λn hn hp=>by
  have e:(az n).map (λi=>uss.getD i [])=uss:=by
   refine zu (by simp[hn]) λi h1 h2=>?_;have hi:i<uss.length:=h2;simp[cf,hi]
  have:=hp.map (λi=>uss.getD i []);rw[e]at this;exact this
 rcases h with h |h
 .obtain⟨_,hp,hs⟩:=Th h
  exact⟨key 3 h hp,hs⟩
 .obtain⟨_,hp,hs⟩:=Yh h
  exact⟨key 4 h hp,hs⟩
theorem Po{A B:AC}(hp:A.Perm B)(ha:A.Pairwise nZ)(hb:B.Pairwise nZ):A=B:=
 hp.eq_of_pairwise (λu v _ _ h g=>Cw g h) ha hb
theorem Ac{A B:AC}(hp:A.Perm B)(h:B.length=3\/B.length=4):dD A=dD B:=by
 obtain⟨p1,s1⟩:=kZ (uss:=A) (by rw[hp.length_eq];exact h);obtain⟨p2,s2⟩:=kZ h;exact Po (p1.trans (hp.trans p2.symm)) s1 s2
end
open PySem PySem.Spec PyProof.Rows Bn
theorem Sw{X:Cx}{sc1 sc:Scope}{own1 own:List Str}{cap1 cap:List (Nat×Str)}{C:Addr}{AN:aa}{AO:Hp}{ex:List Addr}(so:Scope)(hso:X.env.scope=so)(hk:so.kind=.function)(kind:sc.kind=.function)(names:∀y∈sc.names,y.2=.local->sc.names.lookup y.1=some .local)
  (nocell:∀y∈sc.names,y.2≠.cell)(free:∀y∈sc.names,y.2=.free->sc1.names.lookup y.1=some .free/\so.names.lookup y.1=some .cell)(at':∀p∈cap,(cQ own1 cap1)[p.1]?=some p.2)(hcap:∀p∈cap,sc.names.lookup p.2=some .free):
  gL (fT X sc1 (cQ own1 cap1) C AN AO ex) sc own cap:=
 ⟨kind,names,nocell,λy hy e=>by
  obtain⟨f1,f2⟩:=free y hy e;exact pS (env:=X.env) (by rw[hso];exact hk) f1 (by show X.env.scope.names.lookup y.1=_;rw[hso];exact f2),at',hcap⟩
section
variable{M:jp}{A:ak}{E:Value->aa->Prop}{s:aa}
theorem Vo{scope:Scope}{globals:Addr}{closure:List (Str×Addr)}{qual:Str}{outer:av}{Q:av->aa->Prop}
  (hQ:Q (newEnv scope s.heap.objs.size globals (cellsFrom (s.heap.objs.size+1) scope.names closure) qual none .none (some outer) builtinsNs) {s with heap:=pushCells (s.heap.push {cls:=.type "dict",data:=.dict #[]}) scope.names}):
  wpAny M A (newFunctionEnv scope globals closure [] qual none .none (some outer)) Q E s:=by
 simp only[newFunctionEnv,Option.isSome_some,if_true];refine ag (wpAny_alloc ?_);refine ag (wpAny_layCells _ (λname kind cells=>by cases hkc:kind==dr<;>simp[hkc]) _ _ _ _ ?_);rw[show({s with heap:=s.heap.push {cls:=.type "dict",data:=.dict #[]}}:aa).heap.objs.size=s.heap.objs.size+1 from io ..];refine ag ?_;rw[uz];exact ax (ax hQ)
end
theorem zO:∀(names:List (Str×dy))(n:Nat)(acc:List (Str×Addr)),(∀x y c,acc.lookup x=some c->acc.lookup y=some c->x=y)->(∀x c,acc.lookup x=some c->c<n)->
  ∀x y c,(cellsFrom n names acc).lookup x=some c->(cellsFrom n names acc).lookup y=some c->x=y
 |[],n,acc,hi,_,x,y,c,e1,e2=>hi x y c e1 e2
 |(name,kind)::r,n,acc,hi,hb,x,y,c,e1,e2=>by
  unfold cellsFrom at e1 e2
  by_cases k:(kind==dr)=true
  .rw[if_pos k]at e1 e2
   refine zO r (n+1) _ (λx y c e1 e2=>?_) (λx c e=>?_) x y c e1 e2
   .rw[dh]at e1 e2
    cases wx:x==name with
    |true=>
     cases wy:y==name with
     |true=>rw[beq_iff_eq.mp wx,beq_iff_eq.mp wy]
     |false=>
      rw[wx]at e1;rw[wy]at e2;cases e1;exact absurd (hb y _ e2) (gw _)
    |false=>
     cases wy:y==name with
     |true=>
      rw[wx]at e1;rw[wy]at e2;cases e2;exact absurd (hb x _ e1) (gw _)
     |false=>
      rw[wx]at e1;rw[wy]at e2;exact hi x y c e1 e2
   .rw[dh]at e
    cases wx:x==name with
    |true=>
     rw[wx]at e;cases e;exact qw _
    |false=>
     rw[wx]at e;exact re (hb x c e)
  .rw[if_neg k]at e1 e2
   exact zO r n acc hi hb x y c e1 e2
theorem qV{n0:Nat}:∀(names:List (Str×dy))(n:Nat)(acc:List (Str×Addr))(x:Str),((∃c,acc.lookup x=some c/\n0<=c)\/(x,dr)∈names)->n0<=n->∃c,(cellsFrom n names acc).lookup x=some c/\n0<=c
 |[],n,acc,x,h,hn=>by
  rcases h with h |h
  .exact h
  .cases h
 |(name,kind)::r,n,acc,x,h,hn=>by
  unfold cellsFrom
  by_cases k:(kind==dr)=true
  .rw[if_pos k]
   refine qV r (n+1) _ x ?_ (zw hn);cases w:x==name with
   |true=>exact .inl ⟨n,by rw[dh,w],hn⟩
   |false=>
    rcases h with⟨c,h,z⟩|h
    .exact .inl ⟨c,by rw[dh,w];exact h,z⟩
    .rcases ay.mp h with z |z
     .cases z
      simp at w
     .exact .inr z
  .rw[if_neg k]
   refine qV r n acc x ?_ hn;rcases h with h |h
   .exact .inl h
   .rcases ay.mp h with z |z
    .cases z
     simp at k
    .exact .inr z
theorem yD{n0:Nat}:∀(names:List (Str×dy))(n:Nat)(acc:List (Str×Addr))(x:Str)(c:Addr),n0<=n->(cellsFrom n names acc).lookup x=some c->n0<=c\/acc.lookup x=some c
 |[],n,acc,x,c,hn,e=>.inr e
 |(name,kind)::r,n,acc,x,c,hn,e=>by
  unfold cellsFrom at e
  by_cases k:(kind==dr)=true
  .rw[if_pos k]at e
   rcases yD r (n+1) _ x c (zw hn) e with z |z
   .exact .inl z
   .rw[dh]at z
    cases w:x==name with
    |true=>
     rw[w]at z;cases z;exact .inl hn
    |false=>
     rw[w]at z;exact .inr z
  .rw[if_neg k]at e
   exact yD r n acc x c hn e
theorem uD:∀(names:List (Str×dy))(n:Nat)(acc:List (Str×Addr))(x:Str),(x,dr)∉names->(cellsFrom n names acc).lookup x=acc.lookup x
 |[],n,acc,x,h=>rfl
 |(name,kind)::r,n,acc,x,h=>by
  unfold cellsFrom;have hr:(x,dr)∉r:=λz=>h (bo _ z)
  by_cases k:(kind==dr)=true
  .rw[if_pos k,uD r _ _ x hr,dh]
   cases w:x==name with
   |true=>
    refine absurd ?_ h;have e1:x=name:=by simpa using w
    have e2:kind=.cell:=by simpa using k
    rw[e1,e2];exact ce
   |false=>rfl
  .rw[if_neg k,uD r _ _ x hr]
theorem xZ:∀(names:List (Str×dy))(h:Heap)(acc:List (Str×Addr)),(∀x c,acc.lookup x=some c->∃v,h.IsCell c v)->∀x c,(cellsFrom h.objs.size names acc).lookup x=some c->∃v,(pushCells h names).IsCell c v
 |[],h,acc,hc,x,c,e=>hc x c e
 |(name,kind)::r,h,acc,hc,x,c,e=>by
  unfold cellsFrom at e;unfold pushCells
  by_cases k:(kind==dr)=true
  .rw[if_pos k]at e⊢
   rw[<-io h {cls:=.type "cell",data:=.cell none}]at e;refine xZ r _ _ (λy c e=>?_) x c e;rw[dh]at e;cases w:y==name with
   |true=>
    rw[w]at e;cases e;exact⟨none,_,cq _ rfl,rfl⟩
   |false=>
    rw[w]at e;obtain⟨v,z⟩:=hc y c e;exact⟨v,z.keeps λb o e=>ao _ e⟩
  .rw[if_neg k]at e⊢
   exact xZ r h acc hc x c e
theorem Hd{env:av}:∀{names:List (Str×dy)}{x:Str},
  (let l:=(names.map λ(n,k)=>if(k==fe&&env.scope.kind== .function&&env.kindOf n==some .cell)then(n,dr)else(n,k)).lookup x;l=some .cell\/l=some .free)->(x,fe)∈names\/(x,dr)∈names
 |[],x,h=>by
  rcases h with h |h<;>cases h
 |(n,k)::r,x,h=>by
  dsimp only at h;rw[ar]at h;have ih:=@Hd env r x
  by_cases c:(k==fe&&env.scope.kind== .function&&env.kindOf n==some .cell)=true
  .have kf:k=.free:=by
    simp only[gj,beq_iff_eq]at c;exact c.1.1
   dsimp only at h;rw[if_pos c,dh]at h;cases w:x==n with
   |true=>
    have hx:x=n:=by simpa using w
    rw[hx,<-kf];exact .inl ce
   |false=>
    rw[w]at h;exact(ih h).imp (bo _) (bo _)
  .dsimp only at h
   rw[if_neg c,dh]at h;cases w:x==n with
   |true=>
    rw[w]at h;have hx:x=n:=by simpa using w
    rcases h with h |h
    .have kf:k=.cell:=ck h
     rw[hx,<-kf];exact .inr ce
    .have kf:k=.free:=ck h
     rw[hx,<-kf];exact .inl ce
   |false=>
    rw[w]at h;exact(ih h).imp (bo _) (bo _)
theorem Zc{env:av}:∀{names:List (Str×dy)}{x:Str},names.lookup x=some .cell->
  (names.map λ(n,k)=>if(k==fe&&env.scope.kind== .function&&env.kindOf n==some .cell)then(n,dr)else(n,k)).lookup x=some .cell
 |[],x,h=>by cases h
 |(n,k)::r,x,h=>by
  rw[ar];dsimp only;rw[dh]at h;cases w:x==n with
  |true=>
   rw[w]at h;have kf:k=.cell:=ck h;subst kf;rw[if_neg (by rw[show(dr==fe)=false from rfl];simp),dh,w]
  |false=>
   rw[w]at h;have ih:=@Zc env r x h
   by_cases c:(k==fe&&env.scope.kind== .function&&env.kindOf n==some .cell)=true
   .rw[if_pos c,dh,w]
    exact ih
   .rw[if_neg c,dh,w]
    exact ih
def gJ(X:Cx)(sc:Scope)(N:List Str)(C:Addr)(AN:aa)(AO:Hp)(ex:List Addr):Cx where
 prog:=X.prog
 w:=X.w
 K:=X.K
 mg:=X.mg
 base:=X.base
 A:=X.A
 N:=N
 AN:=AN
 AO:=AO
 env:=compEnvC sc (cellsFrom (C+1) sc.names (fN X.env sc.names [])) C X.env
 outer:=X.stack
 stack:=X.stack
 ex:=ex
 fn:=λx=>sc.names.lookup x==some .cell
 calm:=X.calm
 pn:=[]
 xe:=λ_ _=>False
structure lQ(X:Cx)(sc:Scope)(own:List Str)(cap:List (Nat×Str)):Prop where
 kind:sc.kind=.function
 names:∀y∈sc.names,y.2=.local->sc.names.lookup y.1=some .local
 cells:∀y∈sc.names,y.2=.cell->sc.names.lookup y.1=some .cell
 free:∀y∈sc.names,y.2=.free->X.env.kindOf y.1=some .cell
 at':∀p∈cap,X.N[p.1]?=some p.2
 cap:∀p∈cap,sc.names.lookup p.2=some .free
section
variable{X:Cx}{sc:Scope}{own:List Str}{cap:List (Nat×Str)}{AM:List (Addr×Obj)}{σ:St}{H:Hp}{s:aa}{elt target iter:af}{pos pos':ah}{wi:TI}{g:TG}{te:TE}{Q:VK}
theorem lQ.has(k:lQ X sc own cap)(ok:X.Ok):∀p∈sc.names,p.2=.free->∃c,X.env.cells.lookup p.1=some c:=λp hp e=>ok.has p.1 (.inl (k.free p hp e))
theorem aH.cmpC(k:lQ X sc own cap){h4:Heap}{fp:List Addr}{t':Nat}(I:aH X AM σ H s)(hf:∀b∈fp,eT X AM H b)(hlt:∀b∈fp,b<s.heap.objs.size)
  (e4:h4=pushCells (s.heap.push {cls:=.type "dict",data:=.dict #[]}) sc.names):aH (gJ X sc (cQ own cap) s.heap.objs.size s H fp) [] (iT own cap σ) H {s with heap:=h4,toks:=t'}:=by
 have kp:∀b o,s.heap.get? b=some o->h4.get? b=some o:=λb o e=>by
  rw[e4];exact vm _ _ b o (ao _ e)
 have hns:h4.Ns s.heap.objs.size (λ_=>none):=by
  rw[e4];exact(Heap.Ns.new ..).keeps λb o e=>vm _ _ b o e
 have hcl:∀y c,(fN X.env sc.names []).lookup y=some c->X.env.cells.lookup y=some c:=λy c e=>by
  rcases sE sc.names [] (k.has I.ok) y c e with z |z
  .cases z
  .exact z
 have clt:∀y c,X.env.cells.lookup y=some c->c<s.heap.objs.size:=λy c e=>by
  obtain⟨v,o,ho,_⟩:=I.cell y c e;exact au ho
 have hfr:∀y c,(cellsFrom (s.heap.objs.size+1) sc.names (fN X.env sc.names [])).lookup y=some c->s.heap.objs.size<c\/X.env.cells.lookup y=some c:=λy c e=>
  (yD (n0:=s.heap.objs.size+1) sc.names _ _ y c (am _) e).imp (λz=>z) (hcl y c)
 have nst:∀b∈fp,b∉eC X.stack:=λb hb z=>by
  rcases ay.mp (I.stkSub b z)with e |e
  .exact(hf b hb).2.1 e
  .exact(hf b hb).2.2.1 e
 refine⟨⟨I.ok.mod,k.kind,I.ok.glob,I.ok.blt,am _,λx y c h1 h2=>?_,λx hx=>?_,λx c hfn e=>?_,I.ok.hd,I.ok.frames,.inl rfl,λb hb=>⟨cj (hlt b hb),λx c e=>?_⟩,
  I.bs,gh I.ok.bsz I.sz,λb o e hb=>?_,nst,I.stack,I.stkFree⟩,rfl,I.bare,Un.kept kp,⟨_,hns,λi x v h1 h2 h3=>?_⟩,λx c e=>?_,I.hok.fresh (am _),λx c e=>?_,λp hp=>absurd (show p∈([]:List (Addr×Obj)) from hp) (by simp),I.hok.kept kp,?_⟩
 .exact zO sc.names _ _ (λx y c h1 h2=>I.ok.inj x y c (hcl x c h1) (hcl y c h2)) (λx c e=>re (clt x c (hcl x c e))) x y c h1 h2
 .rcases Hd hx with z |z
  .by_cases m:(x,dr)∈sc.names
   .obtain⟨c,e,_⟩:=qV (n0:=0) sc.names (s.heap.objs.size+1) (fN X.env sc.names []) x (.inr m) (ig _)
    exact⟨c,e⟩
   .obtain⟨c,e⟩:=oH (env:=X.env) sc.names [] x (.inr z)
    exact⟨c,(uD sc.names _ _ x m).trans e⟩
  .obtain⟨c,e,_⟩:=qV (n0:=0) sc.names (s.heap.objs.size+1) (fN X.env sc.names []) x (.inr z) (ig _)
   exact⟨c,e⟩
 .have hm:(x,dr)∈sc.names:=jb (by simpa[gJ]using hfn)
  obtain⟨c',e',hc'⟩:=qV (n0:=s.heap.objs.size) sc.names (s.heap.objs.size+1) (fN X.env sc.names []) x (.inr hm) (og _);have:=e'.symm.trans e;cases this;exact hc'
 .rcases hfr x c e with z |z
  .exact la (Nat.lt_trans (hlt b hb) z)
  .exact(hf b hb).2.2.2.2.1 x c z
 .rcases(hf b hb).2.2.2.1 with z |z
  .exact I.ok.noex b o e z
  .exact absurd (cy (au (I.ok.bs b o e).1) z) (gw _)
 .have hN:(cQ own cap)[i]?=some x:=h1
  unfold cQ at hN;unfold iT at h2
  by_cases hi:i<own.length
  .rw[dz (by simpa using hi),ci]at h2
   cases e:own[i]? with
   |none=>rw[e]at h2;cases h2
   |some z=>rw[e]at h2;cases h2
  .rw[dn (by simpa using hi),ci,ai]at h2
   rw[dn (by omega),ci]at hN;cases e:cap[i-own.length]? with
   |none=>rw[e]at h2;cases h2
   |some p=>
    rw[e]at h2 hN;have hp:p∈cap:=db e;have hx:p.2=x:=ck hN;have hv:(σ[p.1]?).join=some v:=ck h2;have hv':σ[p.1]?=some (some v):=by
     cases e2:σ[p.1]? with
     |none=>rw[e2]at hv;cases hv
     |some z=>rw[e2]at hv;exact congrArg some hv
    have fr:=k.cap p hp;have nc:(p.2,dr)∉sc.names:=λz=>by
     have:=k.cells _ z rfl;rw[fr]at this;cases this
    have kc:X.env.kindOf p.2=some .cell:=k.free (p.2,.free) (jb fr) rfl;obtain⟨m0,_,hl⟩:=I.loc;obtain⟨u,ru,lk⟩:=hl p.1 p.2 v (k.at' p hp) hv' (.inr (.inl kc));refine⟨u,ru,?_⟩;rcases lk with⟨k1,_⟩|⟨_,c,ec,cell⟩
    .rw[kc]at k1
     cases k1
    .rw[<-hx]
     obtain⟨c',ec'⟩:=oH (env:=X.env) sc.names [] p.2 (.inr (jb fr));have:=(hcl _ _ ec').symm.trans ec;cases this;obtain⟨o,ho,hd⟩:=cell;exact .inr ⟨.inl (pS I.ok.kind fr kc),c,(uD sc.names _ _ p.2 nc).trans ec',o,kp c o ho,hd⟩
 .show ∃v,h4.IsCell c v
  rw[e4];refine xZ sc.names _ (fN X.env sc.names []) (λy c e=>?_) x c (by rw[io];exact e);obtain⟨v,z⟩:=I.cell y c (hcl y c e);exact⟨v,z.keeps λb o e=>ao _ e⟩
 .rcases hfr x c e with z |z
  .exact I.hok.fresh (ni z)
  .exact I.freeC x c z
 .unfold iT
  show _=(cQ own cap).length;unfold cQ;rw[bi,bi,ai,ai,ai]
theorem aH.uncmpC{s3 s':aa}{H3 H':Hp}{N:List Str}{σ':St}{C:Addr}{fp:List Addr}{pl:List (Addr×Obj)}(I:aH X AM σ H s)(hf:∀b∈fp,eT X AM H b)(u:Un (eC X.stack) fp H H3 s.heap s3.heap)(os:s3.os=s.os)
  (J:aH (gJ X sc N C s3 H3 fp) pl σ' H' s'):aH X AM σ H' s':=by
 have os':s'.os=s.os:=(show s'.os=s3.os from J.os).trans os;refine I.call' (ch:=fp) os' (u.trans J.base) J.hok J.bare λb hb=>?_;obtain⟨_,f1,_,f3,f4,f5⟩:=hf b hb;exact⟨f3,f1,f4,f5⟩
theorem Xp{use:Option (Value->Sem Unit)}{Qf:Value->aa->Prop}(k:lQ X sc own cap)(hi:PI X target iter wi)(hc:X.calm=true)
  (hg:∀C AN AO ex,PG (gJ X sc (cQ own cap) C AN AO ex) target g)(he:∀C AN AO ex,PE (gJ X sc (cQ own cap) C AN AO ex) elt te)(I:aH X AM σ H s)(h:rF own cap wi g te σ H Q)
  (fin:∀D C s' H' m,aH X AM σ H' s'->eT X AM H' C->s'.heap.Ns C m->Q (.ref D) H'->compPost (model X.prog X.w) X.A X.xe use Qf (.ref D) C (.ok .next) s')
  (hs:∀x,foldedSetIterable iter X.env x=pure x):
  wpAny (model X.prog X.w) X.A (comprehension (.ListComp elt [⟨target,iter,[],0⟩] sc pos) sc X.env pos' (newList []) false (eval iter X.env) use) Qf X.xe s:=by
 refine yn (use:=use) rfl hs (Ei (k.has I.ok)) k.kind k.names ?_;refine bH (hi AM s σ H _ I h) λv s1 h1=>bH h1 λitv s2 h2=>?_;obtain⟨it,fp,tn,J,H2,e,I2,T,st2,f2,hW⟩:=h2;subst e;refine jh (Vo ?_);have hsz:(s2.heap.push {cls:=.type "list",data:=.seq ([]:AE).toArray}).objs.size=s2.heap.objs.size+1:=io ..;have I3:aH X AM σ (aX H2 s2.heap.objs.size (.lst [])) {s2 with heap:=s2.heap.push {cls:=.type "list",data:=.seq ([]:AE).toArray},toks:=s2.toks}:=I2.lnew (ys:=[]) (its:=[]) .nil (ig _);have hD:H2 s2.heap.objs.size=none:=I2.fresh;have ltf:∀b∈fp,b<s2.heap.objs.size:=λb hb=>by
  obtain⟨o,ho,_⟩:=T.obj _ _ st2 b hb;exact au ho
 have f3:∀b∈fp,eT X AM (aX H2 s2.heap.objs.size (.lst [])) b:=λb hb=>⟨by rw[bS (cj (ltf b hb))];exact(f2 b hb).1,(f2 b hb).2⟩;have un:Un (eC X.stack) fp H2 (aX H2 s2.heap.objs.size (.lst [])) s2.heap (s2.heap.push {cls:=.type "list",data:=.seq ([]:AE).toArray}):=Un.laid (λb u q=>ao _ q) (am _) hD;have kp:∀b o,(s2.heap.push {cls:=.type "list",data:=.seq ([]:AE).toArray}).get? b=some o->(pushCells ((s2.heap.push {cls:=.type "list",data:=.seq ([]:AE).toArray}).push {cls:=.type "dict",data:=.dict #[]}) sc.names).get? b=some o:=λb o q=>vm _ _ b o (ao _ q);have J0:=I3.cmpC (t':=s2.toks) k f3 (λb hb=>cy (ltf b hb) (by rw[io];exact og _)) rfl;have stat:∀{H':Hp},(∀b∈fp,H' b=none)->∀b∈fp,eT (gJ X sc (cQ own cap) (s2.heap.push {cls:=.type "list",data:=.seq ([]:AE).toArray}).objs.size {s2 with heap:=s2.heap.push {cls:=.type "list",data:=.seq ([]:AE).toArray},toks:=s2.toks} (aX H2 s2.heap.objs.size (.lst [])) fp) [] H' b:=λhn b hb=>
  ⟨hn b hb,(J0.ok.exf b hb).1,J0.ok.exfs b hb,.inl hb,(J0.ok.exf b hb).2,λp hp=>absurd (show p∈([]:List (Addr×Obj)) from hp) (by simp)⟩
 have st4:tn 0 (pushCells ((s2.heap.push {cls:=.type "list",data:=.seq ([]:AE).toArray}).push {cls:=.type "dict",data:=.dict #[]}) sc.names):=T.keep _ _ _ st2 λb hb o q=>kp b o (ao _ q);have fr0:∀b∈fp,(aX H2 s2.heap.objs.size (.lst [])) b=none:=λb hb=>(f3 b hb).1;have loop:codeAny (model X.prog X.w) X.A (.compLoop (.ListComp elt [⟨target,iter,[],0⟩] sc pos) 0 (.ref it) (.ref s2.heap.objs.size) (compEnvC sc (cellsFrom ((s2.heap.push {cls:=.type "list",data:=.seq ([]:AE).toArray}).objs.size+1) sc.names (fN X.env sc.names [])) (s2.heap.push {cls:=.type "list",data:=.seq ([]:AE).toArray}).objs.size X.env))
   (compPost (model X.prog X.w) X.A X.xe use Qf (.ref s2.heap.objs.size) (s2.heap.push {cls:=.type "list",data:=.seq ([]:AE).toArray}).objs.size) {s2 with heap:=(pushCells ((s2.heap.push {cls:=.type "list",data:=.seq ([]:AE).toArray}).push {cls:=.type "dict",data:=.dict #[]}) sc.names),toks:=s2.toks}:=by
  obtain⟨W,⟨m0,w0⟩,turn⟩:=hW s2.heap.objs.size hD;refine We (λn s'=>∃i σ' H' ys,aH (gJ X sc (cQ own cap) (s2.heap.push {cls:=.type "list",data:=.seq ([]:AE).toArray}).objs.size {s2 with heap:=s2.heap.push {cls:=.type "list",data:=.seq ([]:AE).toArray},toks:=s2.toks} (aX H2 s2.heap.objs.size (.lst [])) fp) [] σ' H' s'/\tn i s'.heap/\(∀b∈fp,H' b=none)/\W i n σ' H' ys) ?_ m0
   ⟨0,_,_,[],J0,st4,fr0,w0⟩
  rintro n s5 ⟨i,σ5,H5,ys,I5,st5,fr5,w5⟩
  obtain⟨hD5,w5⟩:=turn i n σ5 H5 ys w5;rcases w5 with⟨stop,qn⟩|⟨go,hlt,step⟩
  .refine bH (T.done (gJ X sc (cQ own cap) (s2.heap.push {cls:=.type "list",data:=.seq ([]:AE).toArray}).objs.size {s2 with heap:=s2.heap.push {cls:=.type "list",data:=.seq ([]:AE).toArray},toks:=s2.toks} (aX H2 s2.heap.objs.size (.lst [])) fp) rfl rfl rfl hc i [] s5 σ5 H5 _ I5 (stat fr5) st5 stop) ?_
   rintro r s6 ⟨hr,I6⟩
   subst hr;obtain⟨m,hn,_⟩:=id I6.loc;exact fin _ _ s6 H5 m (I2.uncmpC (s3:={s2 with heap:=s2.heap.push {cls:=.type "list",data:=.seq ([]:AE).toArray},toks:=s2.toks}) f2 un rfl I6) (I3.fpOk (am _) I6.free) hn qn
  .refine bH (T.item (gJ X sc (cQ own cap) (s2.heap.push {cls:=.type "list",data:=.seq ([]:AE).toArray}).objs.size {s2 with heap:=s2.heap.push {cls:=.type "list",data:=.seq ([]:AE).toArray},toks:=s2.toks} (aX H2 s2.heap.objs.size (.lst [])) fp) rfl rfl rfl hc i [] s5 σ5 H5 _ I5 (stat fr5) st5 go) ?_
   rintro r s6 ⟨u,hr,h6⟩
   subst hr;refine bH h6 ?_
   rintro _ s7 ⟨x,H7,I7,r7,y7,st7,fr7⟩
   have I7':=I7.pinned (stat fr7) (T.obj _ _ st7);refine bH (hg _ _ _ _ _ s7 σ5 H7 x u _ I7' r7 (step x H7 y7)) ?_
   rintro _ s8 ⟨σ8,H8,I8,q8⟩
   refine bH (he _ _ _ _ _ s8 σ8 H8 _ I8 q8) ?_
   rintro v9 s9 ⟨y,H9,I9,r9,hD9,m',hm,w9⟩
   refine bH (sR _ s9 σ8 H9 (.ref s2.heap.objs.size) [y] (.ref s2.heap.objs.size) [v9] (λ_ H'=>H'=aX H9 s2.heap.objs.size (.lst (ys++[y]))) I9 rfl (.cons r9 .nil) ⟨_,ys,y,rfl,rfl,hD9,hlt,rfl⟩) ?_
   rintro _ s10 ⟨_,H10,I10,_,q10⟩
   subst q10;refine⟨m',hm,i+1,σ8,_,_,I10.unpinned,T.keep _ _ _ st7 λb hb o q=>(I10.pin (b,o) (dj _ (dj _ (oG hb q)))).1,λb hb=>?_,w9⟩;obtain⟨o,q,d⟩:=T.obj _ _ st7 b hb;exact(I10.pin (b,o) (dj _ (dj _ (oG hb q)))).2.1
 exact yo loop (T.self _ 0 _ _ _ st4 loop)
theorem Nt(k:lQ X sc own cap)(hi:PI X target iter wi)(hc:X.calm=true)
  (hg:∀C AN AO ex,PG (gJ X sc (cQ own cap) C AN AO ex) target g)(he:∀C AN AO ex,PE (gJ X sc (cQ own cap) C AN AO ex) elt te)
  (hs:∀x,foldedSetIterable iter X.env x=pure x:=by intro _;rfl):PE X (.ListComp elt [⟨target,iter,[],0⟩] sc pos) (rF own cap wi g te):=by
 intro AM s σ H Q I h;rw[eval_ListComp];refine Xp (use:=none) k hi hc hg he I h (λD C s' H' m I' fC hn q=>?_) hs;refine⟨m,hn,λh' sb=>⟨.ref D,H',?_,rfl,q⟩⟩;obtain⟨f0,f1,f2,f3,f4,f5⟩:=fC;exact I'.turned (t':=s'.toks) (λb o hb e=>(sb.2 b hb).trans e) f0 f1 f3 f4 f5
theorem A1{X:Cx}{sc:Scope}{own:List Str}{cap:List (Nat×Str)}(so:Scope)(N:List Str)(hso:X.env.scope=so)(hN:X.N=N)(kind:sc.kind=.function)(names:∀y∈sc.names,y.2=.local->sc.names.lookup y.1=some .local)
  (cells:∀y∈sc.names,y.2=.cell->sc.names.lookup y.1=some .cell)(free:∀y∈sc.names,y.2=.free->so.names.lookup y.1=some .cell)(at':∀p∈cap,N[p.1]?=some p.2)(hcap:∀p∈cap,sc.names.lookup p.2=some .free):lQ X sc own cap:=
 ⟨kind,names,cells,λy hy e=>by show X.env.scope.names.lookup y.1=_;rw[hso];exact free y hy e,λp hp=>by rw[hN];exact at' p hp,hcap⟩
theorem Xz{X:Cx}{sc1 sc:Scope}{own1 own:List Str}{cap1 cap:List (Nat×Str)}{C:Addr}{AN:aa}{AO:Hp}{ex:List Addr}(so:Scope)(hso:X.env.scope=so)(hk:so.kind=.function)(kind:sc.kind=.function)(names:∀y∈sc.names,y.2=.local->sc.names.lookup y.1=some .local)
  (nocell:∀y∈sc.names,y.2≠.cell)(free:∀y∈sc.names,y.2=.free->sc1.names.lookup y.1=some .cell\/(sc1.names.lookup y.1=some .free/\so.names.lookup y.1=some .cell))(at':∀p∈cap,(cQ own1 cap1)[p.1]?=some p.2)(hcap:∀p∈cap,sc.names.lookup p.2=some .free):
  gL (gJ X sc1 (cQ own1 cap1) C AN AO ex) sc own cap:=
 ⟨kind,names,nocell,λy hy e=>by
  rcases free y hy e with f |⟨f1,f2⟩
  .exact Zc (env:=X.env) f
  .exact pS (env:=X.env) (by rw[hso];exact hk) f1 (by show X.env.scope.names.lookup y.1=_;rw[hso];exact f2),at',hcap⟩
end
end L2
namespace L2.Pp
open PySem PySem.Spec PyProof.Rows Bn
section
variable{K:ae}{cl:Str->Addr}{E:XK}{X:Cx}{p q:Ph}{H H':Hp}{S:aG}
variable{sc:Scope}{own:List Str}{cap:List (Nat×Str)}{elt target iter:af}{pos:ah}{mi:MI}{g:GM}{me:ME}
theorem Bv(k:lQ X sc own cap)(hi:PIp K cl E X target iter mi)(hc:X.calm=true)(hg:∀C AN AO ex,kS K (gJ X sc (cQ own cap) C AN AO ex) target g)(he:∀C AN AO ex,aU K cl E0 (gJ X sc (cQ own cap) C AN AO ex) elt me)
  (hs:∀x,foldedSetIterable iter X.env x=pure x:=by intro _;rfl):aU K cl E X (.ListComp elt [⟨target,iter,[],0⟩] sc pos) (bF own cap mi g me):=by
 intro hK;refine PE.imp (Nt k (hi hK) hc (λC AN AO ex=>hg C AN AO ex hK) (λC AN AO ex=>he C AN AO ex hK) hs) ?_
 rintro σ H Q ⟨p,S,ρ,s,ev,h⟩
 exact bX s ev h λq H' xs J S' stp sm ev it kk D hD=>wY sm ev it kk hD
end
noncomputable section
open PySem PySem.Spec PyProof.Rows Bn
def vR(k:Nat)(S:aG):Prop:=∀(j:Nat)(o:SO),S[j]?=some o->j≠k->∃xs,o=.lst xs
def Pl(S:aG):Prop:=∀(j:Nat)(o:SO),S[j]?=some o->∃xs,o=.lst xs
section
variable{K:ae}{cl:Str->Addr}{E:XK}{X:Cx}{a e:af}{m:ME}{ms:MA}{pos:ah}{p q:Ph}{H H':Hp}{S:aG}
theorem aW.pushO(s:aW K p S H){D:Addr}{o:SO}{ho:HO}(h:H D=none)(mo:Mb ho)(ob:pF K ⟨p.f++[D],λa=>p.w a\/a=D,λa=>p.c a\/a=D⟩ (aX H D ho) D o):
  let q:Ph:=⟨p.f++[D],λa=>p.w a\/a=D,λa=>p.c a\/a=D⟩
  bK p H q (aX H D ho)/\aW K q (S++[o]) (aX H D ho):=by
 intro q;obtain⟨st0,sm0⟩:=s.res (D:=D) (o:=ho) h mo;have nf0:D∉p.f:=λz=>s.notin h (s.wc D (s.sub D z));refine⟨⟨st0.wc,st0.mu,⟨[D],rfl⟩,st0.mw,st0.mono,λa x n=>?_,st0.nw,st0.nc,st0.keep⟩,?_,by simp[q,s.len],λa x=>?_,sm0.wc,sm0.mu,λk a u e1 e2=>?_⟩
 .rcases bj.mp x with z |z
  .exact absurd z n
  .have:a=D:=by simpa using z
   rw[this];exact h
 .show(p.f++[D]).Nodup
  rw[qy];refine⟨s.nd,by simp,λa ha b hb z=>?_⟩;have:b=D:=by simpa using hb
  exact nf0 (this▸z▸ha)
 .rcases bj.mp x with z |z
  .exact .inl (s.sub a z)
  .exact .inr (by simpa using z)
 .by_cases hk:k<S.length
  .have e1':p.f[k]?=some a:=by
    have e1:(p.f++[D])[k]?=some a:=e1
    rwa[dz (by rw[s.len];exact hk)]at e1
   rw[dz hk]at e2;refine(s.obj k a u e1' e2).mono (λvs e=>by rw[bS (fH e h)];exact e) (λb w f=>⟨⟨.inl w,λm=>?_⟩,λvs e=>by rw[bS (fH e h)];exact e⟩) λ_ _ r=>st0.reps r;rcases bj.mp m with z |z
   .exact f z
   .have:b=D:=by simpa using z
    exact s.notin h (this▸s.wc b w)
  .have hk':k=S.length:=by
    have:=(bf.mp e2).1;simp at this;omega
   subst hk';rw[dn (am _),gv]at e2;have e1:(p.f++[D])[S.length]?=some a:=e1;rw[<-s.len,dn (am _),gv]at e1;cases e1;cases e2;exact ob
def Ia(xs:AL)(S:aG):bI AV:=match(fS S xs).bind jE with
 |some (.lst vs)=>.ok (.ref S.length) (S++[.lol [vs]])
 |_=>.fail
def rM(ms:MA):ME:=λρ S=>(ms ρ S).bind Ia
theorem Aj{as:AL}{xs:List V}{vs:AI}(s:aW K p S H)(r:fO K p H as xs)(h:(fS S as).bind jE=some (.lst vs)):
  ∃b ws,xs=[.ref b]/\(bN K H b ws\/cE K H b ws)/\ws.length<=sizeLine/\aQ K p.c H vs ws:=by
 cases z:fS S as with
 |none=>rw[z]at h;cases h
 |some us=>
  rw[z]at h;have rr:=sQ s r z;cases rr with
  |nil=>cases h
  |cons g t=>
   rename_i u x ut xt;cases t with
   |cons _ _=>cases u<;>cases h
   |nil=>
    cases u with
    |lst ws=>
     cases h;obtain⟨a,ws,rfl,l,z,r⟩:=g.lst;exact⟨a,ws,rfl,.inl l,z,r⟩
    |tup ws=>
     cases h;obtain⟨a,ws,rfl,l,z,r⟩:=g.tup;exact⟨a,ws,rfl,.inr l,z,r⟩
    |_=>cases h
theorem N9{x:Str}{p lp:ah}(hx:x="list")(hg:Gl X "list")(hm:X.mg "list"=none)(ha:dZ K cl E X [e] ms)(he:starEach [e] X.env=[(false,eval e X.env)]:=by rfl)
  (hs:starEach [.Call (.Name x p) [e] [] pos] X.env=[(false,eval (.Call (.Name x p) [e] [] pos) X.env)]:=by rfl):aU K cl E X (.List [.Call (.Name x p) [e] [] pos] lp) (rM ms):=by
 intro hK;subst hK hx;refine PE.imp (zC (oK (sP sA hg hm (by decide+kernel) (ha rfl) (by decide) (by decide) he rfl) qR hs)) ?_
 rintro σ H Q ⟨p,S,ρ,s,ev,h⟩
 refine bX s ev h λq H1 as xs S1 st s1 e1 r1 h1=>?_;unfold Ia at h1;split at h1
 .rename_i vs hv
  obtain⟨b,ws,rfl,sq,hl,r⟩:=Aj s1 r1 hv;refine⟨b,ws,rfl,sq,λl hn=>⟨by show 1<=sizeLine;decide,λt ht=>?_⟩⟩;obtain⟨st2,sm2⟩:=s1.res (D:=l) (o:=.lst ws) hn trivial;have ne:l≠t:=λz=>by rw[<-z,fI]at ht;cases ht
  have nf:l∉q.f:=λz=>s1.notin hn (s1.wc l (s1.sub l z));have st3:=(sm2.res (D:=t) (o:=.lst [.ref l]) ht trivial).1;have ob:pF X.K ⟨(q.res l).f++[t],λa=>(q.res l).w a\/a=t,λa=>(q.res l).c a\/a=t⟩ (aX (aX H1 l (.lst ws)) t (.lst [.ref l])) t (.lol [vs]):=by
   refine⟨[l],fI,by show 1<=sizeLine;decide,by simp,λc hc=>?_,rfl,λi ys c e1 e2=>?_⟩
   .have:c=l:=by simpa using hc
    subst this;refine⟨.inl (.inr rfl),λm=>?_⟩;rcases bj.mp m with z |z
    .exact nf z
    .exact ne (by simpa using z)
   .cases i with
    |zero=>
     cases e1;cases e2;exact⟨ws,by rw[bS ne,fI],hl,st3.reps (st2.reps r)⟩
    |succ i=>simp at e1
  obtain⟨st4,sm4⟩:=sm2.pushO (D:=t) (ho:=.lst [.ref l]) ht trivial ob;exact h1 _ _ (.ref t) (st2.trans st4) sm4 ⟨t,by show(q.f++[t])[S1.length]?=some t;rw[<-s1.len,dn (am _),gv];rfl,rfl⟩
 .exact h1.elim
def rQ(k:Nat)(ys:AL)(S:aG):bI AV:=match(fS S ys).bind jE,S[k]? with
 |some (.lst vs),some (.lol xss)=>if xss.length<16777216 then .ok (.pv .non) (S.set k (.lol (xss++[vs])))else .fail
 |_,_=>.fail
def rG(m:ME)(ms:MA):ME:=λρ S=>(m ρ S).bind λk S1=>dR k S1 λk=>(ms ρ S1).bind λys S2=>rQ k ys S2
theorem aW.growL(s:aW K p S H){k:Nat}{D l:Addr}{xss:List AI}{bs:List Addr}{ys:AI}{ws:List V}(h:p.f[k]?=some D)(hS:S[k]?=some (.lol xss))(hn:H l=none)(hl:ws.length<=sizeLine)(r:aQ K p.c H ys ws)(hH:H D=some (.lst (bs.map V.ref)))(hz:bs.length<sizeLine):
  bK p H (p.res l) (aX (aX H l (.lst ws)) D (.lst ((bs++[l]).map V.ref)))/\aW K (p.res l) (S.set k (.lol (xss++[ys]))) (aX (aX H l (.lst ws)) D (.lst ((bs++[l]).map V.ref))):=by
 obtain⟨st2,sm2⟩:=s.res (D:=l) (o:=.lst ws) hn trivial;have hk:k<S.length:=(bf.mp hS).1;have mD:D∈p.f:=db h;have w:(p.res l).w D:=.inl (s.sub D mD);have neD:D≠l:=λz=>by rw[z,hn]at hH;cases hH
 have nl:l∉p.f:=λz=>s.notin hn (s.wc l (s.sub l z));have st3:bK (p.res l) (aX H l (.lst ws)) (p.res l) (aX (aX H l (.lst ws)) D (.lst ((bs++[l]).map V.ref))):=⟨sm2.wc,sm2.mu,jn,λ_ h=>h,λ_ h=>h,λ_ h g=>absurd h g,λ_ h g=>absurd h g,λ_ h g=>absurd h g,λa u e nw=>by
  rw[bS (λz:a=D=>nw (by rw[z];exact w))];exact e⟩
 refine⟨st2.trans st3,sm2.nd,by rw[dk];exact sm2.len,sm2.sub,sm2.wc,λa x=>?_,λj a o e1 e2=>?_⟩
 .by_cases z:a=D
  .rw[z,fI]
   exact⟨_,rfl,trivial⟩
  .rw[bS z]
   exact sm2.mu a x
 .by_cases hj:k=j
  .subst hj
   have e1:p.f[k]?=some a:=e1;rw[h]at e1;cases e1;rw[dg hk]at e2;cases e2;obtain⟨cs,g1,g2,g3,g4,g5,g6⟩:=s.obj k D _ h hS;rw[hH]at g1;have ec:bs=cs:=by
    have:=congrArg (λo=>match o with |some (HO.lst v)=>v |_=>[]) g1
    have:bs.map V.ref=cs.map V.ref:=this;exact zx (λx y h=>by cases h;rfl) |>.mp this
   subst ec;have nb:∀b∈bs,b≠l:=λb hb z=>s.notin hn (z▸s.wc b (g4 b hb).1);refine⟨bs++[l],fI,by rw[bi];exact hz,?_,λb hb=>?_,by rw[bi,bi,g5];rfl,λi xs b e1 e2=>?_⟩
   .rw[qy]
    exact⟨g3,by simp,λx hx y hy z=>nb x hx (by rw[z];simpa using hy)⟩
   .rcases bj.mp hb with z |z
    .exact⟨.inl (g4 b z).1,(g4 b z).2⟩
    .have:b=l:=by simpa using z
     subst this;exact⟨.inr rfl,nl⟩
   .by_cases hi:i<bs.length
    .rw[dz hi]at e2
     rw[dz (by rw[g5];exact hi)]at e1;obtain⟨vs,h1,h2,h3⟩:=g6 i xs b e1 e2;have hb:=g4 b (db e2);exact⟨vs,by rw[bS (λz:b=D=>hb.2 (z▸mD)),bS (nb b (db e2))];exact h1,h2,st3.reps (st2.reps h3)⟩
    .have hi':i=bs.length:=by
      have:=(bf.mp e2).1;rw[bi]at this;have:i<bs.length+1:=this;omega
     subst hi';rw[dn (am _),gv]at e2;rw[<-g5,dn (am _),gv]at e1;cases e1;cases e2;exact⟨ws,by rw[bS (gi neD),fI],hl,st3.reps (st2.reps r)⟩
  .rw[dq hj]at e2
   have ne:a≠D:=λq=>hj (pY s.nd h (q▸e1));exact(sm2.obj j a o e1 e2).mono (λvs e=>by rw[bS ne];exact e) (λb w f=>⟨⟨w,f⟩,λvs e=>by rw[bS (λz:b=D=>f (z▸mD))];exact e⟩) λ_ _ r=>st3.reps r
theorem Kz{x:Str}{p apos cpos:ah}(hx:x="list")(hg:Gl X "list")(hm:X.mg "list"=none)(ho:aU K cl E X a m)(ha:dZ K cl E X [e] ms)(hbase:attributeBase a "append" X.env (eval a X.env)=eval a X.env:=by rfl)
  (hfew:((backTo cpos (starEach [.Call (.Name x p) [e] [] pos] X.env)).all (λx=>!x.1)&&(backToKw cpos (keywordEach [] X.env)).all (λx=>x.1.isSome)&&decide (([.Call (.Name x p) [e] [] pos]:List af).length+([]:List fv).length+(if([]:List fv).isEmpty then 0 else 1)<30))=true:=by rfl)
  (hline:(apos.endLine==cpos.line)=true:=by rfl)(he:starEach [e] X.env=[(false,eval e X.env)]:=by rfl)(hs:starEach [.Call (.Name x p) [e] [] pos] X.env=[(false,eval (.Call (.Name x p) [e] [] pos) X.env)]:=by rfl):
  aU K cl E X (.Call (.Attribute a "append" apos) [.Call (.Name x p) [e] [] pos] [] cpos) (rG m ms):=by
 intro hK;subst hK hx;refine PE.imp (uI qz uk zp sR (ho rfl) (oK (sP sA hg hm (by decide+kernel) (ha rfl) (by decide) (by decide) he rfl) qR hs) hbase hfew hline hs rfl) ?_
 rintro σ H Q ⟨p,S,ρ,s,ev,h⟩
 refine bX s ev h λq H1 k x S1 st s1 e1 r1 h1=>?_;cases k with
 |pv v=>exact h1.elim
 |ref k=>
  have h1:bV X.K cl (cK X.K) q H1 (dR (.ref k) S1 λk=>(ms ρ S1).bind λys S2=>rQ k ys S2) Q E:=h1;rcases sY k S1 (λk=>(ms ρ S1).bind λys S2=>rQ k ys S2)with z |⟨z,n1,n2⟩
  .rw[z]at h1
   exact h1.elim
  rw[z]at h1;refine⟨yA s1 r1 n1 n2,bX s1 e1 h1 λq2 H2 ys xs S2 st2 s2 e2 r2 h2=>?_⟩;obtain⟨a,ea,rfl⟩:=st2.repA r1;unfold rQ at h2;split at h2
  .rename_i vs xss hv hS
   obtain⟨b,ws,rfl,sq,hl,r⟩:=Aj s2 r2 hv;split at h2
   .rename_i hz
    refine⟨b,ws,rfl,sq,λl hn=>?_⟩;obtain⟨bs,g1,g2,g3,g4,g5,g6⟩:=s2.obj k a _ ea hS;have hzz:=gZ;have neA:a≠l:=λz=>by rw[z,hn]at g1;cases g1
    obtain⟨st3,sm3⟩:=s2.growL ea hS hn hl r g1 (by rw[<-g5];omega);refine⟨a,bs.map V.ref,.ref l,rfl,rfl,by rw[bS neA];exact g1,by rw[ai,<-g5];omega,?_⟩;have:=h2 _ _ .non st3 sm3 (by show aT X.K (q2.res l).c (aX (aX H2 l (.lst ws)) a (.lst ((bs++[l]).map V.ref))) .non .non;exact fJ (v:=.non) rfl);rw[fh]at this;exact this
   .exact h2.elim
  .exact h2.elim
def uN(m:Int)(xs:AI):Option AI:=match aZ xs.length m with
 |some j=>match xs[j]? with
  |some (.int v)=>some (xs.set j (.int (1-v)))
  |_=>none
 |none=>none
def oW(m:Int):List AI->Option (List AI)
 |[]=>some []
 |xs::r=>match uN m xs,oW m r with
  |some y,some ys=>some (y::ys)
  |_,_=>none
theorem Xd{m:Int}:∀{xss yss:List AI},oW m xss=some yss->xss.length=yss.length/\∀(i:Nat)(xs:AI),xss[i]?=some xs->∃ys:AI,yss[i]?=some ys/\uN m xs=some ys
 |[],yss,e=>by
  cases e;exact⟨rfl,λi xs h=>by simp at h⟩
 |xs::r,yss,e=>by
  unfold oW at e;split at e
  .rename_i y ys h1 h2
   cases e;obtain⟨l,g⟩:=Xd h2;refine⟨by rw[ca,ca,l],λi zs h=>?_⟩;cases i with
   |zero=>
    cases h;exact⟨y,rfl,h1⟩
   |succ i=>simpa using g i zs (by simpa using h)
  .cases e
open Classical in
def nJ(ics ic im:Nat):MS:=λρ S=>match ρ[ics]?,ρ[im]? with
 |some (some (.ref k)),some (some (.pv (.int m)))=>match S[k]? with
  |some (.lol xss)=>if vR k S/\ic<ρ.length then(match oW m xss with
   |some yss=>.nx (ρ.set ic none) (S.set k (.lol yss))
   |none=>.fail)else .fail
  |_=>.fail
 |_,_=>.fail
theorem aW.inner(s:aW K p S H){k i:Nat}{D b:Addr}{xss:List AI}{bs:List Addr}{ys:AI}{ws:List V}(h:p.f[k]?=some D)(hS:S[k]?=some (.lol xss))(pl:vR k S)(hH:H D=some (.lst (bs.map V.ref)))(hb:bs[i]?=some b)(hl:ws.length<=sizeLine)(r:aQ K p.c H ys ws):
  bK p H p (aX H b (.lst ws))/\aW K p (S.set k (.lol (xss.set i ys))) (aX H b (.lst ws)):=by
 have hk:k<S.length:=(bf.mp hS).1;have mD:D∈p.f:=db h;obtain⟨cs,g1,g2,g3,g4,g5,g6⟩:=s.obj k D _ h hS;rw[hH]at g1;have ec:bs=cs:=by
  have:=congrArg (λo=>match o with |some (HO.lst v)=>v |_=>[]) g1
  have:bs.map V.ref=cs.map V.ref:=this;exact zx (λx y h=>by cases h;rfl) |>.mp this
 subst ec;have wb:=g4 b (db hb);have st:bK p H p (aX H b (.lst ws)):=⟨s.wc,s.mu,jn,λ_ h=>h,λ_ h=>h,λ_ h g=>absurd h g,λ_ h g=>absurd h g,λ_ h g=>absurd h g,λa u e nw=>by
  rw[bS (λz:a=b=>nw (by rw[z];exact wb.1))];exact e⟩
 refine⟨st,s.nd,by rw[dk];exact s.len,s.sub,s.wc,λa x=>?_,λj a o e1 e2=>?_⟩
 .by_cases z:a=b
  .rw[z,fI]
   exact⟨_,rfl,trivial⟩
  .rw[bS z]
   exact s.mu a x
 .have ne:a≠b:=λz=>wb.2 (z▸db e1)
  by_cases hj:k=j
  .subst hj
   rw[h]at e1;cases e1;rw[dg hk]at e2;cases e2;refine⟨bs,by rw[bS ne];exact hH,g2,g3,g4,by rw[dk];exact g5,λi' xs c e1 e2=>?_⟩
   by_cases hi:i=i'
   .subst hi
    rw[hb]at e2;cases e2;have hx:i<xss.length:=by
     rw[g5];exact(bf.mp hb).1
    rw[dg hx]at e1;cases e1;exact⟨ws,fI,hl,st.reps r⟩
   .rw[dq hi]at e1
    obtain⟨vs,h1,h2,h3⟩:=g6 i' xs c e1 e2;exact⟨vs,by rw[bS (λz:c=b=>hi (pY g3 hb (z▸e2)))];exact h1,h2,st.reps h3⟩
  .rw[dq hj]at e2
   obtain⟨xs,rfl⟩:=pl j o e2 (gi hj);obtain⟨vs,e,l,g⟩:=s.obj j a _ e1 e2;exact⟨vs,by rw[bS ne];exact e,l,st.reps g⟩
theorem Vu{α:Type}{ys xs:List α}{i:Nat}{y:α}(l:xs.length=ys.length)(h:ys[i]?=some y):(ys.take i++xs.drop i).set i y=ys.take (i+1)++xs.drop (i+1):=by
 have hi:i<ys.length:=(bf.mp h).1;have hx:i<xs.length:=by omega
 have e:ys[i]=y:=(bf.mp h).2;rw[vd hx,List.set_append,if_neg (by rw[ji];omega),ji,zy (ni hi),gv,cx,List.take_succ_eq_append_getElem hi,e,ie];rfl
theorem Zg{α:Type}{l:List α}{i:Nat}{a b:α}:(l.set i a).set i b=l.set i b:=by simp
theorem Gz{ics ic im:Nat}{c cs mm:Str}{p1 p2 p3 p4 p5 p6 p7 p8 p9 apos:ah}{j:Nat}(hp:nj (model X.prog X.w) X.A X.env X.xe)(hc:X.calm=true)(hN:X.N.Nodup)(h1:X.N[ics]?=some cs)(h2:X.N[ic]?=some c)(h3:X.N[im]?=some mm)
  (v1:mP X.env.scope cs)(v2:jM X.env.scope c)(v3:mP X.env.scope mm)(ne1:ics≠ic)(ne2:im≠ic)
  (ha:∀v,assign (.Subscript (.Name c p3) (.Name mm p4) p5) X.env v=(do
   let ov <-holding [v] (eval (.Name c p3) X.env)
   let iv <-holding [v,ov] (eval (.Name mm p4) X.env)
   standAt p5
   holding [v,ov,iv] (setItem ov iv v)
   release [v,ov,iv] []):=by intro _;rfl)
  (hs:swapsWithSole [.Subscript (.Name c p3) (.Name mm p4) p5] (.BinOp (.Constant (.int 1) j p6) .Sub (.Subscript (.Name c p7) (.Name mm p8) p9) p2) apos.line X.env=pure false:=by rfl)(hw:swappedStores [.Subscript (.Name c p3) (.Name mm p4) p5] (.BinOp (.Constant (.int 1) j p6) .Sub (.Subscript (.Name c p7) (.Name mm p8) p9) p2) X.env=pure none:=by rfl)
  (ht:(assignEach [.Subscript (.Name c p3) (.Name mm p4) p5] X.env).map (·.2)=[assign (.Subscript (.Name c p3) (.Name mm p4) p5) X.env]:=by rfl)
  (hpl:yP (.Name mm p8):=by intro _ _;rfl)
  (d1:(cs==("__debug__":Str))=false:=by decide)(d2:(c==("__debug__":Str))=false:=by decide)(d3:(mm==("__debug__":Str))=false:=by decide)
  (k1:(cs==("__classdict__":Str))=false:=by decide)(k2:(c==("__classdict__":Str))=false:=by decide)(k3:(mm==("__classdict__":Str))=false:=by decide)
  (hf:X.fn c=true\/X.env.scope.names.lookup c=some .local:=by first |exact .inl rfl |exact .inr rfl |assumption)
  (hfs:∀x,foldedSetIterable (.Name cs p1) X.env x=pure x:=by intro _;rfl){cp:ah}:
  eE K cl E X (.For (.Name c cp) (.Name cs p1) [.Assign [.Subscript (.Name c p3) (.Name mm p4) p5] (.BinOp (.Constant (.int 1) j p6) .Sub (.Subscript (.Name c p7) (.Name mm p8) p9) p2) apos] [] pos) (nJ ics ic im):=by
 intro hK;subst hK;have vc:mP X.env.scope c:=v2.elim .inl λz=>.inr (.inl z);refine PS.imp (Zj hp hc (Ik (nI h1 v1 d1 k1)) (Mi hN h2 v2 hf) (Li (Pj (Om Jj Lk (Sl Nk (nI h2 vc d2 k2) (nI h3 v3 d3 k3) hpl)) (Fk (nI h2 vc d2 k2) (nI h3 v3 d3 k3) Yg ha) hs hw ht)) hfs) ?_
 rintro D σ H ⟨p,S,ρ,s,ev,h⟩
 unfold nJ at h;split at h
 .rename_i k m q1 q2
  split at h
  .rename_i xss hS
   split at h
   .rename_i dJ
    obtain⟨pl,hic⟩:=dJ;split at h
    .rename_i yss hy
     obtain⟨x,ex,rx⟩:=ev.at_ ics _ q1;obtain⟨a,ea,rfl⟩:=rx;obtain⟨ll,fl⟩:=Xd hy;have hk:k<S.length:=(bf.mp hS).1;obtain⟨bs0,b1,b2,b3,b4,b5,b6⟩:=s.obj k a _ ea hS;have plx:∀zss,vR k (S.set k (.lol zss)):=λzss j o e n=>by
      rw[dq (gi n)]at e;exact pl j o e n
     refine⟨.ref a,ex,a,rfl,.inl ⟨⟨_,bN.of b1⟩,λi n σ1 H1=>n=xss.length-i/\i<=xss.length/\∃p1,bK p H p1 H1/\aW X.K p1 (S.set k (.lol (yss.take i++xss.drop i))) H1/\dI X.K p1 H1 (ρ.set ic none) σ1,⟨_,rfl,ig _,p,s.step,?_,?_⟩,?_⟩⟩
     .have e0:S.set k (.lol xss)=S:=by
       obtain⟨g1,g2⟩:=bf.mp hS;rw[<-g2];exact zz g1
      simpa[e0]using s
     .have:=ev.forget ic ((σ[ic]?).join)
      have e0:σ.set ic (σ[ic]?).join=σ:=by
       by_cases hi:ic<σ.length
       .rw[aw hi]
        exact zz hi
       .exact List.set_eq_of_length_le (by omega)
      rwa[e0]at this
     .rintro i n σ1 H1 ⟨rfl,hi,p1,st1,sm1,ev1⟩
      have e1:=st1.at_ ea;have hS1:(S.set k (.lol (yss.take i++xss.drop i)))[k]?=some (.lol (yss.take i++xss.drop i)):=dg hk;obtain⟨bs,c1,c2,c3,c4,c5,c6⟩:=sm1.obj k a _ e1 hS1;have lz:(yss.take i++xss.drop i).length=xss.length:=by
       rw[bi,ji,ue];omega
      by_cases hlt:i<xss.length
      .have hib:i<bs.length:=by omega
       obtain⟨ys,ey,fy⟩:=fl i _ (aw hlt);have ez:(yss.take i++xss.drop i)[i]?=some xss[i]:=by
        rw[dn (by rw[ji];omega),ji,zy (by omega),gv,List.getElem?_drop,ot];exact aw hlt
       obtain⟨vs,g1,g2,g3⟩:=c6 i _ _ ez (aw hib);unfold uN at fy;split at fy
       .rename_i jj hj
        split at fy
        .rename_i v hv
         cases fy;obtain⟨u,eu,ru⟩:=g3.get hv;have:u=.int v:=by unfold aT at ru;exact ru
         subst this;obtain⟨xm,exm,rxm⟩:=ev1.at_ im (.pv (.int m)) (by rw[dq (gi ne2)];exact q2);have:xm=.int m:=by
          have rxm:aT X.K p1.c H1 (.int m) xm:=rxm;unfold aT at rxm;exact rxm
         subst this;refine .inr ⟨⟨_,.ref bs[i],bN.of c1,by rw[ci,aw hib];rfl⟩,λσ' H'=>∃p2,bK p H p2 H'/\aW X.K p2 (S.set k (.lol (yss.take (i+1)++xss.drop (i+1)))) H'/\dI X.K p2 H' (ρ.set ic none) σ',λσ' H' hn=>⟨xss.length-(i+1),by omega,rfl,hlt,hn⟩,λx H2 hy=>?_⟩;obtain⟨rfl,hy⟩:=hy;have ey2:=hy _ (bN.of c1);rw[ci,aw hib]at ey2;cases ey2;have hic1:ic<σ1.length:=by
          rw[<-ev1.len,dk];exact hic
         have sc:(σ1.set ic (some (V.ref bs[i])))[ic]?=some (some (.ref bs[i])):=dg hic1;have sm':(σ1.set ic (some (V.ref bs[i])))[im]?=some (some (.int m)):=by rw[dq (gi ne2)];exact exm
         have hj':aZ vs.length m=some jj:=by rw[<-g3.length];exact hj
         have ha1:aY vs m=some (.int v):=by unfold aY;rw[hj'];exact eu
         obtain⟨st2,sm2⟩:=sm1.inner (ys:=xss[i].set jj (.int (1-v))) (ws:=vs.set jj (.int (1-v))) e1 hS1 (plx _) c1 (aw hib) (by rw[dk];exact g2) (aQ.set (fJ (v:=.int (1-v)) rfl) jj g3);rw[Zg,Vu ll ey]at sm2;have ev2:=(st2.repE ev1).forget ic (some (V.ref bs[i]));rw[Zg]at ev2;exact⟨_,sc,_,sm',.inl ⟨_,_,_,_,rfl,rfl,bN.of g1,ha1,1,v,rfl,rfl,_,sc,_,sm',_,_,_,_,rfl,rfl,g1,hj',p1,st1.trans st2,sm2,ev2⟩⟩
        .cases fy
       .cases fy
      .have e:i=xss.length:=by omega
       subst e;refine .inl ⟨⟨_,bN.of c1,by rw[ai];omega⟩,?_⟩;rw[ve,ib,ll,vf]at sm1;exact h p1 H1 σ1 st1 sm1 ev1
    .exact h.elim
   .exact h.elim
  .exact h.elim
 .exact h.elim
open Classical in
def uC(n:Nat):cH->bI AV
 |.rt (.ref k) S=>match S[k]? with
  |some (.lol xss)=>if ¬k<n/\Pl (S.take n)then .ok (.pv (.lst (xss.map .lst))) (S.take n)else .fail
  |_=>.fail
 |_=>.fail
open Classical in
def nR(np n:Nat)(b:MS)(xs:AL)(S:aG):bI AV:=if xs.length=np/\Pl S then uC S.length (b (eR n xs) S)else .fail
def Ph.only(p:Ph):Ph:=⟨p.f,λa=>a∈p.f,p.c⟩
theorem aW.only(s:aW K p S H)(pl:Pl S):aW K p.only S H:=
 ⟨s.nd,s.len,λ_ h=>h,λa h=>s.wc a (s.sub a h),s.mu,λk a o e1 e2=>by
  obtain⟨xs,rfl⟩:=pl k o e2;exact s.obj k a _ e1 e2⟩
theorem Iq{as:AL}{vs:List V}(h:fO K p H as vs):fO K p.only H as vs:=by
 induction h with
 |nil=>exact .nil
 |cons h _ ih=>
  refine .cons ?_ ih;rename_i v x _ _ _;cases v with
  |pv v=>exact h
  |ref k=>exact h
theorem Ap{r:cH}{Q:VK}{E:XK}(s:aW K p S H)(pl:Pl S)(h:bV K cl (cK K) p H (uC S.length r) Q E):dW K cl p.only H r {nx:=λ_ H'=>Q .non H',rt:=Q} E:=by
 cases r with
 |rt v S1=>
  cases v with
  |pv v=>exact h.elim
  |ref k=>
   unfold uC at h;dsimp only at h;split at h
   .rename_i xss hS
    split at h
    .rename_i hc
     obtain⟨hk,plt⟩:=hc
     rintro q H' x st sm ⟨a,e,rfl⟩
     have s1:=s.only pl;obtain⟨na,hn,nc⟩:=xF s1 st sm e hk;obtain⟨bs,g1,g2,g3,g4,g5,g6⟩:=sm.obj k a _ e hS;have fresh:∀b∈bs,H b=none:=λb hb=>st.nw b (g4 b hb).1 λm=>(g4 b hb).2 (st.pre.subset m);obtain⟨st1,sm1⟩:=s1.cutX (λb=>b=a\/b∈bs) st sm (λb d=>d.elim (λz=>z▸hn) (fresh b)) (.inr λj o e hj=>plt j o (by rw[qx,if_pos hj];exact e));refine h ⟨p.f,λb=>(q.w b/\¬(b=a\/b∈bs))\/p.w b,λb=>q.c b/\¬(b=a\/b∈bs)⟩ H' (.ref a) ⟨s.wc,s.mu,jn,λb h=>.inr h,st1.mono,λ_ h g=>absurd h g,λb h n=>?_,st1.nc,λb o e n=>st1.keep b o e λz=>n (s.sub b z)⟩
      ⟨s.nd,sm1.len,λb h=>.inr (s.sub b h),λb h=>h.elim (sm1.wc b) λz=>st1.mono b (s.wc b z),sm1.mu,λj b o e1 e2=>(sm1.obj j b o e1 e2).mono (λ_ e=>e) (λc w f=>⟨⟨.inl w,f⟩,λ_ e=>e⟩) λ_ _ r=>r⟩ ?_
     .rcases h with h |h
      .exact st1.nw b h λz=>n (s.sub b z)
      .exact absurd h n
     .show aT K (λb=>q.c b/\¬(b=a\/b∈bs)) H' (.lst (xss.map .lst)) (.ref a)
      unfold aT;refine⟨a,bs.map V.ref,rfl,.inl ⟨g1,λd=>d.2 (.inl rfl)⟩,by rw[ai];exact g2,?_⟩;have go:∀(yss:List AI)(cs:List Addr),yss.length=cs.length->(∀c∈cs,c∈bs)->(∀(i:Nat)(xs:AI)(b:Addr),yss[i]?=some xs->cs[i]?=some b->∃vs,H' b=some (.lst vs)/\vs.length<=sizeLine/\aQ K q.c H' xs vs)->aQ K (λb=>q.c b/\¬(b=a\/b∈bs)) H' (yss.map .lst) (cs.map V.ref):=by
       intro yss
       induction yss with
       |nil=>
        intro cs l _ _;have:cs=[]:=vn.mp l.symm;subst this;exact .nil
       |cons ys r ih=>
        intro cs l hm hh;cases cs with
        |nil=>cases l
        |cons c t=>
         obtain⟨vs,k1,k2,k3⟩:=hh 0 ys c rfl rfl;refine .cons ?_ (ih t (by simpa using l) (λc h=>hm c (bo _ h)) λi xs b e1 e2=>hh (i+1) xs b (by simpa using e1) (by simpa using e2));unfold aT;exact⟨c,vs,rfl,.inl ⟨k1,λd=>d.2 (.inr (hm c ce))⟩,k2,pT (λb h=>h.1) k3⟩
      exact go xss bs g5 (λ_ h=>h) g6
    .exact h.elim
   .exact h.elim
 |nx ρ S1=>exact h.elim
 |exc n S1=>exact h.elim
 |bk ρ S1=>exact h.elim
 |ct ρ S1=>exact h.elim
 |fail=>exact h.elim
end
section
variable{P:Program}{w:aj}{K:ae}{mg:Str->AF}{base:Heap}{cl:Str->Addr}
theorem A0{np n:Nat}{b:MS}{vs:List V}{H:Hp}{Q:VK}{E:XK}(h:jZ K cl (nR np n b) vs H Q E):vs.length=np:=by
 obtain⟨p,S,xs,sm,ra,h⟩:=h;unfold nR at h;split at h
 .rename_i e
  rw[<-Gf ra,e.1]
 .exact h.elim
theorem okL{x qual:Str}{st:Stmt}{f:Addr}{fd:bn}{N ps:List Str}{k np n:Nat}{b:MS}(F:gR K x qual st f fd)(S:gI N ps (bU st))(hnp:ps.length=np)(hn:N.length=n)
  (hb:∀(cdv:Value)(A:ak)(outer:List av)(s:aa)(H:Hp)(E:XK),dF k (A.deeper (envOfC qual (bU st) s.heap.objs.size f cdv))->fF K cl E0 (eB eG P w K mg base N qual (bU st) f cdv A outer s H E).nox (dS st) b):
  dX P w K mg base eG (k+1) f fd ps (jH K cl (nR np n b)):=by
 subst hnp hn;refine F.ok S (λvs H Q E h=>A0 h) λcdv A outer s H vs Q E hr h=>⟨_,hb cdv A outer s H E hr rfl,?_⟩;obtain⟨p,S,xs,sm,ra,h⟩:=h;unfold nR at h;split at h
 .rename_i e
  exact⟨p.only,S,_,sm.only e.2,sH (Iq ra),Ap sm e.2 h⟩
 .exact h.elim
end
end
def Za(P:Program)(w:aj)(K:ae)(mg:Str->AF)(base:Heap)(cl:Str->Addr)(x:Str)(k:Nat)(ps:List Str)(g:FM):Prop:=∃(a:Addr)(d:bn),dX P w K mg base eG k a d ps (jH K cl g)/\iL K d ps []/\fg K (.ref a)=true/\mg x=some (.ref a)
section
variable{cl:Str->Addr}{E:XK}{X:Cx}{e:af}{es:List af}{ms:MA}{pos p:ah}{k k0:Nat}{ps:List Str}{g:FM}{x:Str}
theorem O8(C:Za X.prog X.w X.K X.mg X.base cl x k ps g)(hr:dF k0 X.A)(hk:k<=k0)(hg:Gl X x)(ha:dZ X.K cl E X (e::es) ms)(hdb:(x==("__debug__":Str))=false:=by decide)(he:starEach (e::es) X.env=(false,eval e X.env)::starEach es X.env:=by rfl)(hpl:(backTo pos (starEach es X.env)).any (·.1)=false:=by rfl):
  aU X.K cl E X (.Call (.Name x p) (e::es) [] pos) (aO g [] ms):=by
 obtain⟨a,d,G,b,kk,n⟩:=C;exact Iw G (hr.mono hk) hg n kk b .nil Dv.nil ha hdb he hpl
theorem P9(C:Za X.prog X.w X.K X.mg X.base cl x k ps g)(hr:dF k0 X.A)(hk:k<=k0)(hg:Gl X x)(ha:dZ X.K cl E X (e::es) ms)(hdb:(x==("__debug__":Str))=false:=by decide)(he:starEach (e::es) X.env=(false,eval e X.env)::starEach es X.env:=by rfl)(hpl:(backTo pos (starEach es X.env)).any (·.1)=false:=by rfl):
  aU X.K cl E X (.Call (.Name x p) (e::es) [] pos) (oS g [] ms):=by
 obtain⟨a,d,G,b,kk,n⟩:=C;exact Xu G (hr.mono hk) hg n kk b .nil Dv.nil ha hdb he hpl
end
theorem Ar(l:Addr)(its:Array Value)(n:Nat)(b:Addr)(jts:Array Value)(k:Nat)(dd:AG)(sl:Array AF)(h0:¬(!its.isEmpty&&lm (its.size+jts.size))=true)(h1:its.size<=sizeLine)(h2:its.size+jts.size<=sizeLine+1):
  Meets (Builtin.«list.__iadd__» ⟨[.ref l,.ref b],[]⟩) (λ_ R s=>s.heap.get? l=some ⟨.type "list",none,.seq its n,#[]⟩/\s.heap.get? b=some ⟨.type "list",dd,.seq jts k,sl⟩/\R (.ok (.ret (ft l))) {s with heap:=s.heap.update l (fz λx=>x++jts),toks:=s.toks}):=
 .of_wp λprog w A R s h=>by
  obtain⟨hp,g,d,tk,os⟩:=s;obtain⟨hl,hb,h⟩:=h;have f1:=PySem.AutoSeq1.idx_int;have f2:=PySem.AutoSeq1.sub_tuple_tuple;have f3:=PySem.AutoSeq1.sub_list_list;have f4:=PySem.AutoSeq1.sub_tuple_list;have f5:=PySem.AutoSeq1.sub_list_tuple;have hz':(its++jts).size<=sizeLine+1:=by
   rw[Array.size_append];exact h2
  wp_walk using(wpAny_updateSeq hl rfl (hz:=h1) (_hz':=hz')),vo hl,vo hb
  exact⟨_,rfl,h⟩
section
variable{X:Cx}
def T6(K:ae):vM:=λx y H Q=>∃l b xs zs,x=.ref l/\y=.ref b/\H l=some (.lst xs)/\bN K H b zs/\xs.length+zs.length<=sizeLine/\Q (.ref l) (aX H l (.lst (xs++zs)))
theorem E8:L2.PIp X .Add (T6 X.K):=by
 intro AM s σ H x y v u Q I rx ry h;obtain⟨l,b,xs,zs,rfl,rfl,hx,hy,hz,q⟩:=h;cases rx;cases ry;obtain⟨z,its,n,r1,hl,e⟩:=I.lstM hx;obtain⟨jts,r2,p2,_⟩:=I.list hy;obtain⟨⟨cls2,dd2,data2,sl2⟩,n2,ho2,hc2,_,hd2⟩:=p2;simp only at hc2 hd2;subst hc2 hd2;have l1:=r1.length;have l2:=r2.length;have hsz:its.toArray.size+jts.toArray.size<=sizeLine:=by rw[aq,aq];omega
 have hlong:¬(!its.toArray.isEmpty&&lm (its.toArray.size+jts.toArray.size))=true:=by
  rw[Hh hsz,Bool.and_false];exact fu
 have ta:s.TypeIs (.ref l) "list":=⟨_,e,rfl⟩;have tb:s.TypeIs (.ref b) "list":=⟨_,ho2,rfl⟩;have hf:=a5.lookup;have hq:isSeqSlot (some (.builtin "list.__iadd__"))=true:=by decide+kernel
 have hfi:fillsInplaceSlot (.type "list") "add" (Operator.Add== .Add)=pure false:=by
  unfold fillsInplaceSlot;show(typeLookup (.type "list") (dunderI "add") >>= λfi=>pure (fi.isSome&& !isSeqSlot fi))=pure false;rw[hf,pure_bind,hq];rfl
 have hsi:seqSlot? (.type "list") (dunderI "add")=pure (some (.builtin "list.__iadd__")):=PySem.seqSlot_of hf hq;unfold inplaceOp;refine ki ?_;refine ag (wpAny_typeOf ta (ag (uw hfi ?_)));show wpAny _ _ (if false=true then _ else _) _ _ s;rw[if_neg fu];refine ag (wpAny_binaryOp1_none (nm:="add") ta tb noFill_list_add ?_);refine ag (uw hsi ?_);refine ag (kz ?_);refine lq a5 ⟨_,e,rfl⟩ PySem.F.entry_list_iadd (PySem.F.args_list_iadd_2 _ _) (Ar l its.toArray n b jts.toArray n2 dd2 sl2 hlong (by rw[aq];omega) (by omega)) ⟨e,ho2,?_⟩;refine⟨.ref l,_,I.lset (its':=its++jts) hx e (by simp) (r1.append r2) ?_,rfl,q⟩;rw[bi];omega
end
section
variable{K:ae}{cl:Str->Addr}{E:XK}{X:Cx}{e:af}{m:ME}{pos:ah}
def vC(k:Nat)(ρ:bR)(v:AV)(S:aG):cH:=match v with
 |.pv (.lst ys)=>match S[k]? with
  |some (.lst xs)=>if xs.length+ys.length<=16777216 then .nx ρ (S.set k (.lst (xs++ys)))else .fail
  |_=>.fail
 |_=>.fail
def kK(i:Nat)(m:ME):MS:=λρ S=>match ρ[i]? with
 |some (some (.ref k))=>cH.of (m ρ S) (vC k ρ)
 |_=>.fail
theorem Gv{i:Nat}{x:Str}{pos':ah}(hN:X.N.Nodup)(hi:X.N[i]?=some x)(hx:jM X.env.scope x)(he:aU K cl E X e m)
  (hf:X.fn x=true\/X.env.scope.names.lookup x=some .local:=by first |exact .inl rfl |exact .inr rfl |assumption):eE K cl E X (.AugAssign (.Name x pos') .Add e pos) (kK i m):=by
 intro hK;subst hK;refine PS.imp (B7 hN hi hx (he rfl) E8 hf) ?_
 rintro D σ H ⟨p,S,ρ,s,ev,h⟩
 unfold kK at h;split at h
 .rename_i k hx0
  obtain⟨v,e1,r1⟩:=ev.at_ i _ hx0;refine⟨v,e1,jB s ev h λq H' a b S' stp sm ev' r z=>?_⟩;obtain⟨D0,ea,rfl⟩:=stp.repA r1;unfold vC at z;split at z
  .rename_i ys
   obtain⟨b0,ws,rfl,sq,lw,rw0⟩:=(show dN X.K q H' (.lst ys) b from .inl r).lst;split at z
   .rename_i xs hS
    split at z
    .rename_i hl
     obtain⟨vs,h3,l3,r4⟩:=sm.obj k D0 _ ea hS;have hz:=gZ;have n1:=r4.length;have n2:=rw0.length;obtain⟨st3,sm3⟩:=sm.write ea (bf.mp hS).1 (ps:=xs++ys) (vs:=vs++ws) (by rw[bi];omega) (r4.append rw0);refine⟨D0,b0,vs,ws,rfl,rfl,h3,sq,by omega,?_⟩;have es:σ.set i (some (.ref D0))=σ:=by
      refine mx λj=>?_
      by_cases hj:i=j
      .subst hj
       rw[dg (bf.mp e1).1,e1]
      .rw[dq hj]
     show D.nx (σ.set i (some (.ref D0))) _;rw[es];exact dW.nxD (z.mono st3) sm3 (st3.repE ev')
    .exact z.elim
   .exact z.elim
  .exact z.elim
 .exact h.elim
end
section
variable{K:ae}{cl:Str->Addr}{E:XK}{X:Cx}
theorem qN:∀{is:AA}{its:AE},bG (is.map V.int) its->ko its is
 |[],_,.nil=>.nil
 |_::_,_,.cons r t=>by
  obtain⟨tk,rfl⟩:=r;exact .cons _ tk (qN t)
def aaD:AI->AJ
 |[.lst xs]=>(dM xs).bind λbs=>bs.min?.map .int
 |_=>none
def E9(K:ae):V->List V->Hp->VK->Prop:=λx vs H Q=>∃(a:Addr)(is:AA)(i:Int),x=.ref a/\vs=[.int i]/\bN K H a (is.map V.int)/\Q (.int (is.count i:Nat)) H
theorem Jt:vW X "list.count" (E9 X.K):=by
 intro AM s σ H x vs v us Q I rx rv h;obtain⟨a,is,i,rfl,rfl,hq,q⟩:=h;cases rx;obtain⟨u,rfl,ru⟩:=rv.one;obtain⟨t,rfl⟩:=ru;obtain⟨its,r,pl,hz⟩:=I.list hq;exact count_list_ints pl.isList (qN r) ⟨.int _,H,I.tok _,⟨_,rfl⟩,q⟩
def Aa(v:AV)(ys:AL)(S:aG):bI AV:=match v,ys with
 |.pv (.lst xs),[.pv (.int i)]=>match dM xs with
  |some is=>.ok (.pv (.int (is.count i:Nat))) S
  |none=>.fail
 |_,_=>.fail
def Ra{α:Type}(k:AV)(f:bI α):bI α:=match k with
 |.pv (.lst _)=>f
 |_=>.fail
def uP(m:ME)(ms:MA):ME:=λρ S=>(m ρ S).bind λk S1=>Ra k ((ms ρ S1).bind λys S2=>Aa k ys S2)
variable{a e:af}{m:ME}{ms:MA}{pos:ah}
theorem Zv{apos cpos:ah}(ho:aU K cl E X a m)(ha:dZ K cl E X [e] ms)(hbase:attributeBase a "count" X.env (eval a X.env)=eval a X.env:=by rfl)
  (hfew:((backTo cpos (starEach [e] X.env)).all (λx=>!x.1)&&(backToKw cpos (keywordEach [] X.env)).all (λx=>x.1.isSome)&&decide (([e]:List af).length+([]:List fv).length+(if([]:List fv).isEmpty then 0 else 1)<30))=true:=by rfl)
  (hline:(apos.endLine==cpos.line)=true:=by rfl)(hs:starEach [e] X.env=[(false,eval e X.env)]:=by rfl):aU K cl E X (.Call (.Attribute a "count" apos) [e] [] cpos) (uP m ms):=by
 intro hK;subst hK;refine PE.imp (uI qz PySem.F.slot_list_count PySem.F.type_list_count Jt (ho rfl) (ha rfl) hbase hfew hline hs rfl) ?_
 rintro σ H Q ⟨p,S,ρ,s,ev,h⟩
 refine bX s ev h λq H1 k x S1 st s1 e1 r1 h1=>?_;unfold Ra at h1;split at h1
 .rename_i zs
  obtain⟨b0,ws,rfl,sq,lw,rw0⟩:=(show dN X.K q H1 (.lst zs) x from .inl r1).lst;refine⟨.inl ⟨rfl,ws,sq⟩,bX s1 e1 h1 λq2 H2 ys xs S2 st2 s2 e2 r2 h2=>?_⟩;obtain⟨b1,ws1,ex,sq1,lw1,rw1⟩:=(show dN X.K q2 H2 (.lst zs) (.ref b0) from .inl (st2.repA (v:=.pv (.lst zs)) r1)).lst;unfold Aa at h2;split at h2
  .rename_i zs' i hzz
   cases hzz;cases r2 with
   |cons r3 r4=>
    cases r4;have ei:=(show dN X.K q2 H2 (.int i) _ from .inl r3).int;cases y:dM zs with
    |none=>rw[y]at h2;exact h2.elim
    |some is=>
     rw[y]at h2;rw[jA y rw1]at sq1;cases ex;exact⟨b0,is,i,rfl,by rw[ei],sq1,h2 q2 H2 _ s2.step s2 (by show aT X.K q2.c H2 _ _;unfold aT;rfl)⟩
  .exact h2.elim
 .exact h1.elim
def gD:PV->AJ
 |.non=>some (.bl false)
 |_=>some (.bl true)
theorem Qx{σ:St}{H:Hp}{Q:VK}(z:tP X.K cl E (cK X.K) (bJ gD m) σ H Q):Nm (tP X.K cl E (cK X.K) m) σ H Q:=by
 obtain⟨p,S,ρ,s,ev,h⟩:=z;refine bX s ev h λq H' as x S' stp sm ev r k=>?_;refine sU (r:=λx H Q=>Q (.bl (!decide (x=.non))) H) (f:=gD) (λ{p S H a c x Q} s ra e k=>?_) sm r k;have z:c=.bl (!decide (x=.non)):=by
  cases a with
  |non=>cases ra.non;cases e;rfl
  |int i=>cases ra.int;cases e;rfl
  |bl i=>cases ra.bl;cases e;rfl
  |str i=>cases ra.str;cases e;rfl
  |tup xs=>obtain⟨a,vs,rfl,_⟩:=ra.tup;cases e;rfl
  |lst xs=>obtain⟨a,vs,rfl,_⟩:=ra.lst;cases e;rfl
 subst z;exact k H _ (cR.refl H) (by unfold aT;rfl)
theorem O1{j pos'}(ha:aU K cl E X a m):eI K cl E X (.Compare a [.IsNot] [.Constant .none j pos'] pos) (aV (bJ gD m)):=by
 intro hK;subst hK;refine(L0 (Uy (ha rfl))).imp ?_
 rintro σ H Q ⟨p,S,ρ,s,e,h⟩
 have z:tP X.K cl E (cK X.K) (bJ gD m) σ H λx H'=>∃k,x=.bl k/\Q k H':=bX s e h λq H1 a x S1 st s1 e1 r1 h1=>xU s1 r1 h1;exact Qx z
end
section
variable{K:ae}{cl:Str->Addr}{E:XK}{X:Cx}
def Nj(K:ae):R2:=λx y H Q=>∃a b ys,x=.ref a/\y=.ref b/\cE K H a []/\cE K H b ys/\Q (.ref b) H
theorem Tu:dB X (binaryOp .Add) (Nj X.K):=by
 intro AM s σ H x y v u Q I rx ry h;obtain⟨a,b,ys,rfl,rfl,ha,hb,q⟩:=h;cases rx;cases ry;obtain⟨its,r1,p1,_⟩:=I.tuple ha;obtain⟨jts,r2,p2,_⟩:=I.tuple hb;cases r1;obtain⟨⟨cls,dd,data,sl⟩,ho,hc,n,hd⟩:=p1;obtain⟨⟨cls2,dd2,data2,sl2⟩,ho2,hc2,n2,hd2⟩:=p2;simp only at hc hd hc2 hd2;subst hc hd hc2 hd2;exact qa ⟨_,ho,rfl⟩ ⟨_,ho2,rfl⟩ tx tz ua ub (uc _ _)
  (tuple_addW0 a b _ jts.toArray n n2 dd dd2 sl sl2 (by simp)) ⟨ho,ho2,⟨.ref b,H,I,rfl,q⟩⟩
def oZ:PV->PV->AJ
 |.tup xs,.tup ys=>if xs.length+ys.length<=16777216 then some (.tup (xs++ys))else none
 |_,_=>none
def Hm(K:ae):R2:=λx y H Q=>Nj K x y H Q\/zY K x y H Q
theorem Iz:dB X (binaryOp .Add) (Hm X.K):=dB.or Tu Vi
theorem dN.tupR{p:Ph}{H:Hp}{xs:AI}{x:V}(h:dN K p H (.tup xs) x):aT K p.c H (.tup xs) x:=by
 rcases h with h |⟨ys,a,vs,e,_⟩
 .exact h
 .cases e
theorem M2:fE K (Hm K) oZ:=λ{p S H a b c x y Q} s ra rb e k=>by
 cases a with
 |tup xs=>
  cases b with
  |tup ys=>
   have e:(if xs.length+ys.length<=16777216 then some (PV.tup (xs++ys))else none)=some c:=e;split at e
   .rename_i hl
    cases e;have ra':=ra.tupR;have rb':=rb.tupR;obtain⟨a1,vs,rfl,l1,z1,r1⟩:=ra.tup;obtain⟨a2,ws,rfl,l2,z2,r2⟩:=rb.tup;have hz:vs.length+ws.length<=sizeLine:=by rw[<-r1.length,<-r2.length,gZ];exact hl
    cases xs with
    |nil=>
     have hv:vs=[]:=a6 (by rw[<-r1.length];rfl);subst hv;exact .inl ⟨a1,a2,ws,rfl,rfl,l1,l2,k H _ (cR.refl H) rb'⟩
    |cons x0 xs=>
     refine .inr ⟨a1,a2,vs,ws,rfl,rfl,l1,l2,λq=>?_,hz,λq=>?_,λ_ t ht=>k _ _ (gA ht) (nF s (r1.append r2) (by rw[bi];exact hz) ht)⟩
     .have:=r1.length
      rw[q]at this;cases this
     .have hy:ys=[]:=by
       have:=r2.length;rw[q]at this;exact a6 this
      subst hy;have e0:x0::xs++[]=x0::xs:=ib _;refine k H _ (cR.refl H) ?_;rw[e0];exact ra'
   .cases e
  |_=>cases e
 |_=>cases e
end
section
variable{K:ae}{cl:Str->Addr}{E:XK}{X:Cx}
end
section
variable{K:ae}{cl:Str->Addr}{E:XK}{X:Cx}
end
section
variable{K:ae}{cl:Str->Addr}{E:XK}{X:Cx}
def jI(i:Int):AA->Option Nat
 |[]=>none
 |x::r=>if x=i then some 0 else(jI i r).map (·+1)
theorem Fe{i:Int}:∀{vs:AE}{ns:AA}{j:Nat},ko vs ns->jI i ns=some j->∃hj:j<vs.length,isInt i vs[j]=true/\∀m(hm:m<vs.length),m<j->isInt i vs[m]=false
 |_,_,j,.nil,h=>by cases h
 |_,_,j,.cons x t r,h=>by
  unfold jI at h;split at h
  .rename_i e
   cases h;refine⟨Nat.zero_lt_succ _,?_,λm _ hlt=>absurd hlt (Nat.not_lt_zero _)⟩;show decide (x=i)=true;rw[e];simp
  .rename_i e
   cases y:jI i _ with
   |none=>rw[y]at h;cases h
   |some z=>
    rw[y]at h;cases h;obtain⟨a,b,c⟩:=Fe r y;refine⟨Nat.succ_lt_succ a,b,λm hm hlt=>?_⟩;cases m with
    |zero=>
     show decide (x=i)=false;simpa using e
    |succ m=>exact c m (a7 hm) (a7 hlt)
variable{a e:af}{m:ME}{ms:MA}{pos:ah}
end
section
variable{M:jp}{A:ak}{E:Value->aa->Prop}{s:aa}{env:av}
end
section
variable{prog:Program}{w:aj}{A:ak}{R:nv->aa->Prop}{s:aa}
end
end L2.Pp
namespace L2
open PySem PySem.Spec PyProof.Rows Bn
section
variable{X:Cx}{AM:List (Addr×Obj)}{σ:St}{H H':Hp}{s s':aa}
end
open L2.Pp
section
variable{P:Program}{w:aj}{K:ae}{mg:Str->AF}{base:Heap}{N:List Str}{qual:Str}{scope:Scope}{f:Addr}{cd:Value}{A:ak}{outer:List av}{AN:aa}{AO:Hp}{E:XK}
end
section
variable{P:Program}{w:aj}{K:ae}{mg:Str->AF}{base:Heap}{N:List Str}{qual:Str}{scope:Scope}{f:Addr}{cd:Value}{A:ak}{outer:List av}{AN:aa}{AO:Hp}{E:XK}
variable{sc:Scope}{own:List Str}{cap:List (Nat×Str)}{AM:List (Addr×Obj)}{σ:St}{H:Hp}{s:aa}{elt target iter:af}{pos pos':ah}{wi:TI}{g:TG}{te:TE}{Q:VK}
end
end L2
namespace L2.Pp
open PySem PySem.Spec PyProof.Rows Bn
section
variable{K:ae}{cl:Str->Addr}{E:XK}{X:Cx}{p q:Ph}{H H':Hp}{S:aG}
variable{sc:Scope}{own:List Str}{cap:List (Nat×Str)}{elt target iter:af}{pos:ah}{mi:MI}{g:GM}{me:ME}
end
section
variable{P:Program}{w:aj}{K:ae}{mg:Str->AF}{base:Heap}{N:List Str}{qual:Str}{scope:Scope}{f:Addr}{cd:Value}{A:ak}{outer:List av}{AN:aa}{AO:Hp}{E:XK}{cl:Str->Addr}
variable{sc:Scope}{own:List Str}{cap:List (Nat×Str)}{elt target iter:af}{pos:ah}{mi:MI}{g:GM}{me:ME}{wi:TI}{tg:TG}{te:TE}
end
section
variable{K:ae}{cl:Str->Addr}{E:XK}{X:Cx}{e:af}{es:List af}{ms:MA}{pos p:ah}{k n:Nat}{f:Addr}{fd:bn}{ps:List Str}{g:FM}{x:Str}{dvs:List V}{ds:AE}{dv:AI}
end
section
variable{K:ae}{cl:Str->Addr}{E:XK}{X:Cx}
end
section
variable{K:ae}{cl:Str->Addr}{E:XK}{X:Cx}{a b e:af}{m:ME}{ms:MA}{pos:ah}
end
end L2.Pp
namespace L2
open PySem PySem.Spec PyProof.Rows Bn
section
variable{X:Cx}{k:Nat}{f:Addr}{fd:bn}{ps:List Str}{sp:Sp}{dvs:List V}{ds:AE}{x:Str}{p pos pos1 pos2 pos3 pc:ah}{e a:af}{es:List af}{t:TA}{ta:TE}{te:XK->TE}{c n:Str}{C:Addr}{i:Nat}{AS:Stmt}{body:List Stmt}{newId:String}
end
end L2
namespace L2.Pp
open PySem PySem.Spec PyProof.Rows Bn
section
variable{K:ae}{cl:Str->Addr}{E:XK}{X:Cx}{a b c e:af}{m mc:ME}{ms:MA}{pos:ah}{tg:af}{ma mb:ME}
end
section
variable{K:ae}{cl:Str->Addr}{E:XK}{X:Cx}{e a:af}{es:List af}{ms:MA}{ma me:ME}{p q:Ph}{H H':Hp}{S:aG}
variable{k:Nat}{f:Addr}{fd:bn}{ps:List Str}{g:FM}{dvs:List V}{ds:AE}{dv:AI}{x:Str}{pp pos pos1 pos2 pos3 pc:ah}{c n:Str}{i nn:Nat}{AS:Stmt}{body:List Stmt}{newId:String}{up:bR->bR}
variable(K cl X)
variable{K cl X}
end
section
variable{K:ae}{cl:Str->Addr}{E:XK}{X:Cx}{a b:af}{ma mb:ME}{pos:ah}
end
end L2.Pp
namespace L2
open PySem PySem.Spec PyProof.Rows Bn
section
variable{X:Cx}{k:Nat}{p pos pos1 pos2 pos3 pc:ah}{e:af}{te:XK->TE}{c:Str}{C:Addr}{AS:Stmt}{body:List Stmt}{newId:String}
end
end L2
namespace L2.Pp
open PySem PySem.Spec PyProof.Rows Bn
section
variable{K:ae}{cl:Str->Addr}{E:XK}{X:Cx}{a b e:af}{m me:ME}{ms:MA}{pos pos1 pos2 pos3 pc:ah}{c:Str}{nn:Nat}{AS:Stmt}{body:List Stmt}{newId:String}{up:bR->bR}
end
section
variable{M:jp}{A:ak}{E:Value->aa->Prop}{s:aa}{env:av}
end
end L2.Pp
namespace L2
open PySem PySem.Spec PyProof.Rows Bn L2.Pp
section
variable{P:Program}{w:aj}{K:ae}{mg:Str->AF}{base:Heap}{N:List Str}{qual:Str}{scope:Scope}{f:Addr}{cd:Value}{A:ak}{outer:List av}{AN:aa}{AO:Hp}{E:XK}
variable{sc:Scope}{own:List Str}{cap:List (Nat×Str)}{AM:List (Addr×Obj)}{σ:St}{H:Hp}{s:aa}{elt target iter:af}{pos pos':ah}{wi:TI}{g:TG}{te:TE}{Q:VK}
end
end L2
namespace L2.Pp
open PySem PySem.Spec PyProof.Rows Bn
section
variable{P:Program}{w:aj}{K:ae}{mg:Str->AF}{base:Heap}{N:List Str}{qual:Str}{scope:Scope}{f:Addr}{cd:Value}{A:ak}{outer:List av}{AN:aa}{AO:Hp}{E:XK}{cl:Str->Addr}
variable{sc:Scope}{own:List Str}{cap:List (Nat×Str)}{elt target iter:af}{pos:ah}{mi:MI}{g:GM}{me:ME}
end
section
variable{K:ae}
end
section
variable{K:ae}{X:Cx}
end
end L2.Pp
namespace L2
open PySem PySem.Spec PyProof.Rows Bn
section
variable{prog:Program}{w:aj}{A:ak}{R:nv->aa->Prop}{s:aa}
end
section
variable{X:Cx}{sc:Scope}{own:List Str}{cap:List (Nat×Str)}{AM:List (Addr×Obj)}{σ:St}{H:Hp}{s:aa}{elt target iter cnd:af}{pos pos':ah}{wi:TI}{g:TG}{tc:TT}{te:TE}{Q:VK}
end
end L2
namespace L2.Pp
open PySem PySem.Spec PyProof.Rows Bn
theorem n1{n i:Nat}{P:Prop}(h:i<n)(p:P):∃m',m'<n-i/\(m'=n-(i+1)/\i+1<=n/\P):=⟨n-(i+1),by omega,rfl,h,p⟩
section
variable{K:ae}{cl:Str->Addr}{E:XK}{X:Cx}{p q:Ph}{H H':Hp}{S:aG}{sc:Scope}{own:List Str}{cap:List (Nat×Str)}{elt target iter cnd:af}{pos:ah}{mi:MI}{g:GM}{mc:MT}{me:ME}
end
end L2.Pp
namespace L2
open PySem PySem.Spec PyProof.Rows Bn
open L2.Pp
section
variable{X:Cx}{AM:List (Addr×Obj)}{σ:St}{H:Hp}{s:aa}{c:Addr->Prop}{a b:Addr}{n:Bool}{k:pG n}{ks:AI}{us:AE}
theorem yN:∀{ps:AI}{vs:List V}{i:Nat}{v:V},aQ X.K c H ps vs->vs[i]?=some v->∃p,ps[i]?=some p/\aT X.K c H p v:=λ{ps vs i v} r e=>by
 have hi:i<ps.length:=by
  rw[r.length];exact(bf.mp e).1
 obtain⟨u,e1,e2⟩:=r.get (aw hi);rw[e]at e1;cases e1;exact⟨_,aw hi,e2⟩
end
end L2
namespace L2.Pp
open PySem PySem.Spec PyProof.Rows Bn
section
variable{K:ae}{cl:Str->Addr}{E:XK}{X:Cx}{p q:Ph}{H H':Hp}{S:aG}{a b e o i v:af}{es:List af}{m md mk mv:ME}{ms:MA}{pos:ah}
end
end L2.Pp
namespace L2
open PySem PySem.Spec PyProof.Rows Bn L2.Pp
section
variable{prog:Program}{w:aj}{A:ak}{E:Value->aa->Prop}{s:aa}{it d i ep:Nat}{es:Array DictEntry}
end
section
variable{X:Cx}
end
section
variable{prog:Program}{w:aj}{A:ak}{E:Value->aa->Prop}{s:aa}{v d ep:Nat}{es:Array DictEntry}
end
section
variable{X:Cx}
end
end L2
namespace L2.Pp
open PySem PySem.Spec PyProof.Rows Bn
section
variable{K:ae}{cl:Str->Addr}{E:XK}{X:Cx}{p q:Ph}{H H':Hp}{S:aG}{a b e o i v:af}{es:List af}{m md mk mv:ME}{ms:MA}{pos:ah}
end
end L2.Pp
namespace L2
open PySem PySem.Spec PyProof.Rows Bn
section
variable{X:Cx}
end
section
variable{X:Cx}{sc:Scope}{own:List Str}{cap:List (Nat×Str)}{AM:List (Addr×Obj)}{σ:St}{H:Hp}{s:aa}{elt target iter:af}{pos pos':ah}{wi:TI}{g:TG}{te:TE}{Q:VK}
end
end L2
namespace L2.Pp
open PySem PySem.Spec PyProof.Rows Bn
section
variable{K:ae}{cl:Str->Addr}{E:XK}{X:Cx}{p q:Ph}{H H':Hp}{S:aG}{a b e o i v:af}{es:List af}{m ma mb md mk mv:ME}{ms:MA}{pos:ah}
variable{sc:Scope}{own:List Str}{cap:List (Nat×Str)}{elt target iter:af}{mi:MI}{g:GM}{me:ME}
end
section
variable{K:ae}{cl:Str->Addr}{E:XK}{X:Cx}{a b:af}{ma mb:ME}{pos:ah}
end
section
variable{P:Program}{w:aj}{K:ae}{mg:Str->AF}{base:Heap}{cl:Str->Addr}{x qual:Str}{st:Stmt}{f:Addr}{fd:bn}{N ps:List Str}{k np n:Nat}{b:MS}
variable{so sc sc1:Scope}{own own1:List Str}{cap cap1:List (Nat×Str)}{cd:Value}{A:ak}{outer:List av}{s:aa}{H:Hp}{E:XK}{C:Addr}{AN:aa}{AO:Hp}{ex:List Addr}
theorem Gm(a:sc.kind=.function:=by rfl)(b:∀y∈sc.names,y.2=.local->sc.names.lookup y.1=some .local:=by decide+kernel)(c:∀y∈sc.names,y.2≠.cell:=by decide+kernel)(d:∀y∈sc.names,y.2=.free->so.names.lookup y.1=some .cell:=by decide+kernel)(e:∀p∈cap,N[p.1]?=some p.2:=by decide+kernel)(g:∀p∈cap,sc.names.lookup p.2=some .free:=by decide+kernel):gL (eB eG P w K mg base N qual so f cd A outer s H E).nox sc own cap:=Rk so N rfl rfl a b c d e g
theorem J4(a:sc.kind=.function:=by rfl)(b:∀y∈sc.names,y.2=.local->sc.names.lookup y.1=some .local:=by decide+kernel)(c:∀y∈sc.names,y.2=.cell->sc.names.lookup y.1=some .cell:=by decide+kernel)(d:∀y∈sc.names,y.2=.free->so.names.lookup y.1=some .cell:=by decide+kernel)(e:∀p∈cap,N[p.1]?=some p.2:=by decide+kernel)(g:∀p∈cap,sc.names.lookup p.2=some .free:=by decide+kernel):lQ (eB eG P w K mg base N qual so f cd A outer s H E).nox sc own cap:=A1 so N rfl rfl a b c d e g
theorem Xj(a:sc.kind=.function:=by rfl)(b:∀y∈sc.names,y.2=.local->sc.names.lookup y.1=some .local:=by decide+kernel)(c:∀y∈sc.names,y.2≠.cell:=by decide+kernel)(d:∀y∈sc.names,y.2=.free->sc1.names.lookup y.1=some .free/\so.names.lookup y.1=some .cell:=by decide+kernel)(e:∀p∈cap,(cQ own1 cap1)[p.1]?=some p.2:=by decide+kernel)(g:∀p∈cap,sc.names.lookup p.2=some .free:=by decide+kernel)(hk:so.kind=.function:=by rfl):gL (fT (eB eG P w K mg base N qual so f cd A outer s H E).nox sc1 (cQ own1 cap1) C AN AO ex) sc own cap:=Sw so rfl hk a b c d e g
theorem Cl(a:sc.kind=.function:=by rfl)(b:∀y∈sc.names,y.2=.local->sc.names.lookup y.1=some .local:=by decide+kernel)(c:∀y∈sc.names,y.2≠.cell:=by decide+kernel)(d:∀y∈sc.names,y.2=.free->sc1.names.lookup y.1=some .cell\/(sc1.names.lookup y.1=some .free/\so.names.lookup y.1=some .cell):=by decide+kernel)(e:∀p∈cap,(cQ own1 cap1)[p.1]?=some p.2:=by decide+kernel)(g:∀p∈cap,sc.names.lookup p.2=some .free:=by decide+kernel)(hk:so.kind=.function:=by rfl):gL (gJ (eB eG P w K mg base N qual so f cd A outer s H E).nox sc1 (cQ own1 cap1) C AN AO ex) sc own cap:=Xz so rfl hk a b c d e g
theorem cC{N ps:List Str}{sc:Scope}(a:sc.kind=.function:=by rfl)(b:sc.isCoroutine=false:=by rfl)(c:sc.isGenerator=false:=by rfl)(d:N.Nodup:=by decide+kernel)(e:N.take ps.length=ps:=by rfl)(f:∀x∈ps,sc.names.lookup x=some .local\/sc.names.lookup x=some .cell:=by decide+kernel)(g:∀y∈sc.names,y.2≠.free:=by decide+kernel):gI N ps sc:=⟨a,b,c,d,e,f,g⟩
def Ta(P:Program)(w:aj)(K:ae)(mg:Str->AF)(base:Heap)(cl:Str->Addr)(x:Str)(k:Nat)(ps:List Str)(g:FM):Prop:=∃(a:Addr)(d:bn),dX P w K mg base (fZ P w) k a d ps (jZ K cl g)/\dX P w K mg base eG k a d ps (jH K cl g)/\iL K d ps []/\fg K (.ref a)=true/\mg x=some (.ref a)
theorem An{g:FM}{a:Addr}{d:bn}(G:dX P w K mg base (fZ P w) k a d ps (jZ K cl g))(b:iL K d ps [])(kp:fg K (.ref a)=true)(n:mg x=some (.ref a)):Ta P w K mg base cl x k ps g:=⟨_,_,G,x0 G,b,kp,n⟩
theorem R5{X:Cx}{e:af}{es:List af}{ms:MA}{pos p:ah}{k0:Nat}{g:FM}(C:Ta X.prog X.w X.K X.mg X.base cl x k ps g)(hr:dF k0 X.A)(hk:k<=k0)(hg:Gl X x)(ha:dZ X.K cl E0 X (e::es) ms)(hdb:(x==("__debug__":Str))=false:=by decide)(he:starEach (e::es) X.env=(false,eval e X.env)::starEach es X.env:=by rfl)(hpl:(backTo pos (starEach es X.env)).any (·.1)=false:=by rfl):
  aU X.K cl E0 X (.Call (.Name x p) (e::es) [] pos) (kL g [] ms):=by
 obtain⟨a,d,_,G,b,kk,n⟩:=C;exact Ey G (hr.mono hk) hg n kk b .nil Dv.nil ha hdb he hpl
end
structure Bx where
 P:Program
 w:aj
 K:ae
 mg:Str->AF
 base:Heap
 cl:Str->Addr
abbrev cD(B:Bx)(x:Str)(k:Nat)(ps:List Str)(g:FM):Prop:=Za B.P B.w B.K B.mg B.base B.cl x k ps g
abbrev Gb(B:Bx)(x:Str)(k:Nat)(ps:List Str)(g:FM):Prop:=Ta B.P B.w B.K B.mg B.base B.cl x k ps g
def HF(K:ae)(x:Str)(st:Stmt):Prop:=∃(f:Addr)(fd:bn),df K mainGlobals x=some (some (.ref f))/\gR K x x st f fd
def XG(K:ae)(mg:Str->AF):Prop:=∃h:Heap,K.In h/\h.Ns mainGlobals mg
section
variable{B:Bx}{x:Str}{st:Stmt}{f:Addr}{fd:bn}{N ps:List Str}{k np n:Nat}{b:MS}
theorem zD(X:XG B.K B.mg)(q:HF B.K x st):∃f fd,gR B.K x x st f fd/\fg B.K (.ref f)=true/\B.mg x=some (.ref f):=by
 obtain⟨f,fd,a,F⟩:=q;obtain⟨h,X,G⟩:=X;exact⟨f,fd,F,F.kp,ou X G a⟩
theorem V6{K:ae}{oc:Value}{od an:AG}{osl:Array AF}{kV doc pm cdv ct:Value}(a:df K mainGlobals x=some (some (.ref f)))(l:K.lookup f=some ⟨oc,od,.func (dm x x (fP st) (dS st) (bU st) .none kV doc pm an cdv ct),osl⟩)
  (c:jk K cdv x=true)(k:fg K (.ref f)=true):HF K x st:=⟨_,_,a,Ll l c k⟩
theorem Jb(F:gR B.K x x st f fd)(h:∀(kV doc pm:Value)(an:AG)(cdv ct:Value)(us:AE),us.length=ps.length->bindArgs (dm x x (fP st) (dS st) (bU st) .none kV doc pm an cdv ct) ⟨us,[]⟩=pure (ps.zip us)):iL B.K fd ps []:=F.binds λkV doc pm an cdv ct us hl=>h kV doc pm an cdv ct us hl
theorem cL(X:XG B.K B.mg)(q:HF B.K x st)(S:gI N ps (bU st))(hb:N.Nodup->∀(f:Addr)(cdv:Value)(A:ak)(outer:List av)(s:aa)(H:Hp)(E:XK),dF k (A.deeper (envOfC x (bU st) s.heap.objs.size f cdv))->fF B.K B.cl E0 (eB eG B.P B.w B.K B.mg B.base N x (bU st) f cdv A outer s H E).nox (dS st) b)(hnp:ps.length=np:=by rfl)(hn:N.length=n:=by rfl)
  (h:∀(kV doc pm:Value)(an:AG)(cdv ct:Value)(us:AE),us.length=ps.length->bindArgs (dm x x (fP st) (dS st) (bU st) .none kV doc pm an cdv ct) ⟨us,[]⟩=pure (ps.zip us):=by intro _ _ _ _ _ _ us h;rcases us with _ |⟨_,_ |⟨_,_ |⟨_,_ |⟨_,_ |⟨_,_ |⟨_,_⟩⟩⟩⟩⟩⟩<;>first |(cases h;done) |rfl |(simp at h)):cD B x (k+1) ps (aS np n b):=by
 obtain⟨f,fd,F,kp,m⟩:=zD X q;exact⟨f,fd,Rn F S hnp hn λcdv A outer s H E hr=>hb S.nd f cdv A outer s H E hr,Jb F h,kp,m⟩
theorem mkL(X:XG B.K B.mg)(q:HF B.K x st)(S:gI N ps (bU st))(hb:N.Nodup->∀(f:Addr)(cdv:Value)(A:ak)(outer:List av)(s:aa)(H:Hp)(E:XK),dF k (A.deeper (envOfC x (bU st) s.heap.objs.size f cdv))->fF B.K B.cl E0 (eB eG B.P B.w B.K B.mg B.base N x (bU st) f cdv A outer s H E).nox (dS st) b)(hnp:ps.length=np:=by rfl)(hn:N.length=n:=by rfl)
  (h:∀(kV doc pm:Value)(an:AG)(cdv ct:Value)(us:AE),us.length=ps.length->bindArgs (dm x x (fP st) (dS st) (bU st) .none kV doc pm an cdv ct) ⟨us,[]⟩=pure (ps.zip us):=by intro _ _ _ _ _ _ us h;rcases us with _ |⟨_,_ |⟨_,_ |⟨_,_ |⟨_,_ |⟨_,_ |⟨_,_⟩⟩⟩⟩⟩⟩<;>first |(cases h;done) |rfl |(simp at h)):cD B x (k+1) ps (nR np n b):=by
 obtain⟨f,fd,F,kp,m⟩:=zD X q;exact⟨f,fd,okL F S hnp hn λcdv A outer s H E hr=>hb S.nd f cdv A outer s H E hr,Jb F h,kp,m⟩
theorem mkX(X:XG B.K B.mg)(q:HF B.K x st)(S:gI N ps (bU st))(hb:N.Nodup->∀(f:Addr)(cdv:Value)(A:ak)(outer:List av)(s:aa)(H:Hp)(E:XK),dF k (A.deeper (envOfC x (bU st) s.heap.objs.size f cdv))->fF B.K B.cl E (eB (fZ B.P B.w) B.P B.w B.K B.mg B.base N x (bU st) f cdv A outer s H E) (dS st) b)(hnp:ps.length=np:=by rfl)(hn:N.length=n:=by rfl)
  (h:∀(kV doc pm:Value)(an:AG)(cdv ct:Value)(us:AE),us.length=ps.length->bindArgs (dm x x (fP st) (dS st) (bU st) .none kV doc pm an cdv ct) ⟨us,[]⟩=pure (ps.zip us):=by intro _ _ _ _ _ _ us h;rcases us with _ |⟨_,_ |⟨_,_ |⟨_,_ |⟨_,_ |⟨_,_ |⟨_,_⟩⟩⟩⟩⟩⟩<;>first |(cases h;done) |rfl |(simp at h)):Gb B x (k+1) ps (aS np n b):=by
 obtain⟨f,fd,F,kp,m⟩:=zD X q;exact An (okX F S hnp hn λcdv A outer s H E hr=>hb S.nd f cdv A outer s H E hr) (Jb F h) kp m
theorem mkR(F:gR B.K x x st f fd)(S:gI N ps (bU st))(hb:N.Nodup->∀(f:Addr)(cdv:Value)(A:ak)(outer:List av)(s:aa)(H:Hp)(E:XK),dF k (A.deeper (envOfC x (bU st) s.heap.objs.size f cdv))->fF B.K B.cl E0 (eB eG B.P B.w B.K B.mg B.base N x (bU st) f cdv A outer s H E).nox (dS st) b)(hnp:ps.length=np:=by rfl)(hn:N.length=n:=by rfl):dX B.P B.w B.K B.mg B.base eG (k+1) f fd ps (jH B.K B.cl (aS np n b)):=Rn F S hnp hn λcdv A outer s H E hr=>hb S.nd f cdv A outer s H E hr
theorem X9{dsv:Array Value}(F:mL B.K x x st f fd dsv)(S:gI N ps (bU st))(hb:N.Nodup->∀(f:Addr)(cdv:Value)(A:ak)(outer:List av)(s:aa)(H:Hp)(E:XK),dF k (A.deeper (envOfC x (bU st) s.heap.objs.size f cdv))->fF B.K B.cl E (eB (fZ B.P B.w) B.P B.w B.K B.mg B.base N x (bU st) f cdv A outer s H E) (dS st) b)(hnp:ps.length=np:=by rfl)(hn:N.length=n:=by rfl):dX B.P B.w B.K B.mg B.base (fZ B.P B.w) (k+1) f fd ps (jZ B.K B.cl (aS np n b)):=W9 F S hnp hn λcdv A outer s H E hr=>hb S.nd f cdv A outer s H E hr
section
variable{X:Cx}{cl:Str->Addr}{E:XK}{e:af}{es:List af}{ms:MA}{pos p:ah}{k0:Nat}{g:FM}{dv:AI}
end
section
variable{P:Program}{w:aj}{K:ae}{mg:Str->AF}{base:Heap}{qual:Str}{so sc:Scope}{own:List Str}{cap:List (Nat×Str)}{cd:Value}{A:ak}{outer:List av}{s:aa}{H:Hp}{E:XK}
theorem Tk(a:sc.kind=.function:=by rfl)(b:∀y∈sc.names,y.2=.local->sc.names.lookup y.1=some .local:=by decide+kernel)(c:∀y∈sc.names,y.2≠.cell:=by decide+kernel)(d:∀y∈sc.names,y.2=.free->so.names.lookup y.1=some .cell:=by decide+kernel)(e:∀p∈cap,N[p.1]?=some p.2:=by decide+kernel)(g:∀p∈cap,sc.names.lookup p.2=some .free:=by decide+kernel):gL (eB (fZ P w) P w K mg base N qual so f cd A outer s H E) sc own cap:=Rk so N rfl rfl a b c d e g
end
end
section
variable{P:Program}{w:aj}{K:ae}{mg:Str->AF}{base:Heap}{cl:Str->Addr}{E:XK}{x:Str}{k k0:Nat}{ps:List Str}{g:FM}{e:af}{es:List af}{ms:MA}{pos p:ah}
end
end L2.Pp
namespace L2
open PySem PySem.Spec PySem.W PyProof.Rows Bn
section
variable{K:ae}{x D C:Addr}
end
section
variable{X:Cx}{p pos pos1 pos2 pos3 pos4 pc pd:ah}{e:af}{te:XK->TE}{c1 c2 n:Str}{C1 C2:Addr}{i:Nat}{b₁ b₂:Stmt}{body1 body2:List Stmt}{newId1 newId2:String}
end
end L2
namespace L2.Pp
open PySem PySem.Spec PyProof.Rows Bn
section
variable{K:ae}{cl:Str->Addr}{E:XK}{X:Cx}{p pos pos1 pos2 pos3 pos4 pc pd:ah}{e:af}{me:ME}{c1 c2 n:Str}{i nn:Nat}{b₁ b₂:Stmt}{body1 body2:List Stmt}{newId1 newId2:String}{up1 up2:bR->bR}
end
end L2.Pp
namespace L2
open PySem PySem.Spec PyProof.Rows Bn
section
open PySem.W (KasT kas_sort kas_asc kas_desc kas_rev kas_tail3 kas_descPart kas_count kas_place kas_bin)
section
variable{lt:Nat->Nat->Bool}{n:Nat}
end
section
variable{α:Type}{lt:α->α->Bool}
def ins(lt:α->α->Bool)(x:α):List α->List α
 |[]=>[x]
 |y::r=>if lt x y then x::y::r else y::ins lt x r
end
end
section
open PySem.W (KasT kas_sort kas_ask KatTups kat_run kat_kind kas_item kat_snds KdlSrc kdl_extend)
section
variable{prog:Program}{w:aj}{A:ak}{E:Value->aa->Prop}{s:aa}
end
end
open L2.Pp
section
variable{X:Cx}{AM:List (Addr×Obj)}{σ:St}{H:Hp}{s:aa}
end
end L2
namespace L2.Pp
open PySem PySem.Spec PyProof.Rows Bn
section
variable{K:ae}
end
section
variable{K:ae}{cl:Str->Addr}{E:XK}{X:Cx}{p q:Ph}{H H':Hp}{S:aG}{a b e o i v:af}{es:List af}{m md mk mv:ME}{ms:MA}{pos:ah}
end
end L2.Pp
namespace L2
open PySem PySem.Spec PyProof.Rows Bn
open L2.Pp
section
variable{prog:Program}{w:aj}{K:Type}[DecidableEq K]{knd:HeapKind prog w K}{A:ak}{E:Value->aa->Prop}{s:aa}{d a:Addr}{k:K}{xs:List (K×Addr×Value)}
end
section
variable{X:Cx}{AM:List (Addr×Obj)}{σ:St}{H:Hp}{s:aa}
end
end L2
namespace L2.Pp
open PySem PySem.Spec PyProof.Rows Bn
section
variable{K:ae}{cl:Str->Addr}{E:XK}{X:Cx}{p q:Ph}{H H':Hp}{S:aG}{e:af}{es:List af}{m md mk mv:ME}{ms:MA}{pos:ah}
end
section
variable{K:ae}{cl:Str->Addr}{E:XK}{X:Cx}{p q:Ph}{H H':Hp}{S:aG}{a b e o i v:af}{es:List af}{m md mk mv:ME}{ms:MA}{pos:ah}
end
theorem Hw{K:ae}{cl:Str->Addr}{E:XK}{X:Cx}{st:List Stmt}:fF K cl E X st (λ_ _=>.fail):=λ_ AM s σ H D I ⟨_,_,_,_,_,h⟩=>h.elim
end L2.Pp
namespace L2
end L2
namespace L2.Pp
open PySem PySem.Spec PyProof.Rows Bn
section
variable{K:ae}{cl:Str->Addr}{E:XK}{X:Cx}{a:af}{m:ME}{pos:ah}
end
end L2.Pp
namespace L2
open PySem PySem.Spec PyProof.Rows Bn
open L2.Pp
open PySem.W (KatLex KatTups)
section
variable{prog:Program}{w:aj}{A:ak}{E:Value->aa->Prop}{s:aa}
end
section
variable{X:Cx}{AM:List (Addr×Obj)}{σ:St}{H:Hp}{s:aa}
end
end L2
namespace L2.Pp
open PySem PySem.Spec PyProof.Rows Bn
section
variable{K:ae}
end
section
variable{K:ae}{cl:Str->Addr}{E:XK}{X:Cx}{e:af}{ms:MA}{pos:ah}
end
section
variable{prog:Program}{w:aj}{A:ak}{E:Value->aa->Prop}{s:aa}
theorem Sf{l:Addr}{h':Heap}(hk:∀b o,b∉[s.heap.objs.size]->(s.heap.push {cls:=.type "tuple_iterator",data:=.fields #[.ref l,.int 0 0]}).get? b=some o->h'.get? b=some o):∀b o,s.heap.get? b=some o->h'.get? b=some o:=λb o e=>by
 refine hk b o (λhm=>?_) (ao _ e);rcases ay.mp hm with e1 |hm
 .exact absurd (e1▸au e) (gw _)
 .cases hm
theorem Zk{l:Addr}{items:Array Value}(hl:s.heap.IsTuple l items){o:Obj}:∀b∈[s.heap.objs.size,l],b<(s.heap.push o).objs.size:=λb hb=>by
 have hlt:l<s.heap.objs.size:=by obtain⟨_,e,_⟩:=hl;exact au e
 rw[io];rcases ay.mp hb with rfl |hb
 .exact qw _
 .rcases ay.mp hb with rfl |hb
  .exact re hlt
  .cases hb
theorem Aq{l:Addr}{xs:Array (Int×Tok)}{Q:Value->aa->Prop}(hh:A.handled=none)(hl:s.heap.IsTuple l (intItems xs))(hne:0<xs.size)
  (h:∀v h' tk,(intItems xs)[argBest (λi j=>decide (numAt xs i>numAt xs j)) (xs.size-1)]?=some v->(∀b o,s.heap.get? b=some o->h'.get? b=some o)->Q v {s with heap:=h',toks:=tk}):
  wpAny (model prog w) A (call (.builtin "max") [.ref l]) Q E s:=by
 have hlt:l<s.heap.objs.size:=by obtain⟨_,e,_⟩:=hl;exact au e
 refine call_max_walk (oo hl ?_);refine⟨_,_,_,_,_,_,_,rfl,vg (A:=A.in1) hh _ l (cj hlt) (intItems xs),⟨⟨_,cq _ rfl,rfl,rfl⟩,hl.push _⟩,Zk hl,by simpa[intItems]using hne,CmpOf.ints_gt (numAt xs) (λ_ _=>rf),λv h' tk hP hk=>?_⟩;exact h v h' tk (by simpa[intItems]using hP) (Sf hk)
theorem Oq{l:Addr}{xs:Array (Int×Tok)}{Q:Value->aa->Prop}(hh:A.handled=none)(hl:s.heap.IsTuple l (intItems xs))(hne:0<xs.size)
  (h:∀v h' tk,(intItems xs)[argBest (λi j=>decide (numAt xs i<numAt xs j)) (xs.size-1)]?=some v->(∀b o,s.heap.get? b=some o->h'.get? b=some o)->Q v {s with heap:=h',toks:=tk}):
  wpAny (model prog w) A (call (.builtin "min") [.ref l]) Q E s:=by
 have hlt:l<s.heap.objs.size:=by obtain⟨_,e,_⟩:=hl;exact au e
 refine call_min_walk (oo hl ?_);refine⟨_,_,_,_,_,_,_,rfl,vg (A:=A.in1) hh _ l (cj hlt) (intItems xs),⟨⟨_,cq _ rfl,rfl,rfl⟩,hl.push _⟩,Zk hl,by simpa[intItems]using hne,CmpOf.ints_lt (numAt xs) (λ_ _=>rf),λv h' tk hP hk=>?_⟩;exact h v h' tk (by simpa[intItems]using hP) (Sf hk)
end
section
open PySem.AutoSeq1 (wpAny_loadPart')
open PySem.MeetsSeq PySem.MeetsSeq2 PySem.MeetsSeq3 PySem.SeqRoads2
theorem Do{M:jp}{A:ak}{E:Value->aa->Prop}{s:aa}{β:Type}(n:Nat)(f:Nat->β->Sem (ForInStep β))(I:List Nat->β->aa->Prop)(Q:β->aa->Prop)
  (turn:∀x eF b s,I (x::eF) b s->wpAny M A (f x b) (λr s'=>match r with |.yield b'=>I eF b' s' |.done b'=>Q b' s') E s)
  (fin:∀b s,I [] b s->Q b s)(b:β)(h:I (az n) b s):wpAny M A (forIn [0:n] b f) Q E s:=by
 rw[i9];refine wpAny_forIn_list f I Q turn fin _ b ?_;simpa[j0,a8]using h
theorem So(l:Addr)(items:Array Value)(n:Nat)(dd:AG)(sl:Array AF)(x:Value)(e:Value->Bool)(j:Nat)(hj:j<items.size)
  (hit:e items[j]=true)(hno:∀m(hm:m<items.size),m<j->e items[m]=false):
  Meets (Builtin.«tuple.index» ⟨[.ref l,x],[]⟩)
   (λA R s=>s.heap.get? l=some {cls:=.type "tuple",dict:=dd,data:=.seq items n,slots:=sl}/\(∀y,y∈items->jm A.in1 s y x (e y))/\R (.ok (.ret (.int j s.toks))) {s with toks:=s.toks+1}):=by
 refine .of_wp λprog w A R s h=>?_;obtain⟨hp,g,d,tk,os⟩:=s;obtain⟨hl,he,h⟩:=h
 wp_walk using vo hl,Do _ _ (λeF b s'=>b.1=none/\s'=⟨hp,g,d,tk,os⟩/\∃i,eF=List.range' i (items.size-i)/\i<=j) _
 case turn=>
  rintro y eF b s' ⟨hb,rfl,i,hr,hij⟩
  have hz:items.size-i=(items.size-(i+1))+1:=by omega
  rw[hz,List.range'_succ]at hr;injection hr with h1 h2;subst h1;have hlt:y<items.size:=by omega
  have hi:items[y]?=some items[y]:=by simp[hlt]
  rw[hi];refine ag (he _ (Array.getElem_mem hlt) prog w _ _ ?_)
  by_cases c:y=j
  .subst c
   rw[hit]
   wp_walk
   exact⟨_,rfl,h⟩
  .rw[hno y hlt (by omega)]
   wp_walk
   exact⟨rfl,rfl,y+1,h2,by omega⟩
 case fin=>
  rintro⟨b1,b2⟩ s' ⟨hb,rfl,i,hr,hij⟩
  have:=congrArg km hr;rw[List.length_range']at this;simp at this;omega
 case h=>
  exact⟨rfl,rfl,0,by simp[a8],by omega⟩
end
section
variable{K:ae}{cl:Str->Addr}{E:XK}{X:Cx}
theorem Et(hc:X.calm=true):gB X (.builtin "max") (λxs H Q=>∃(a:Addr)(is:AA),xs=[.ref a]/\cE X.K H a (is.map V.int)/\is≠[]/\∀M,M∈is->(∀b∈is,b<=M)->Q (.int M) H):=by
 intro AM s σ H xs us Q I r h;obtain⟨a,is,rfl,hq,hne,q⟩:=h;obtain⟨u,rfl,ru⟩:=iM r;cases ru;obtain⟨its,rv,pl,hz⟩:=I.tuple hq;have hi:=qN rv;have hl:s.heap.IsTuple a its.toArray:=pl;obtain⟨xs,e⟩:=hi.allInts.items;have hns:is=xs.toList.map (·.1):=by rw[<-hi.numsOf,<-nums_intItems,<-e]
 have hsz:0<xs.size:=by
  have h3:0<is.length:=vp.mpr hne;rw[hns,ai,iz]at h3;exact h3
 rw[e]at hl;refine Aq (I.ok.hd hc) hl hsz λv h' tk hv hk=>?_;obtain⟨t,rfl⟩:=rf hv;obtain⟨h1,h2⟩:=argBest_gt (numAt xs) (xs.size-1);refine⟨.int _,H,I.kept (h':=h') (t':=tk) hk,⟨t,rfl⟩,q _ ?_ λa ha=>?_⟩
 .rw[hns,rh]
  exact getD_mem (by rw[ai,iz];omega)
 .rw[hns]at ha
  obtain⟨j,hj,rfl⟩:=mem_getD ha;rw[ai,iz]at hj;rw[<-rh];exact h2 j (by omega)
def nN:AI->AJ
 |[.tup xs]=>(dM xs).bind λbs=>bs.max?.map .int
 |_=>none
theorem L9:iG K (λxs H Q=>∃(a:Addr)(is:AA),xs=[.ref a]/\cE K H a (is.map V.int)/\is≠[]/\∀M,M∈is->(∀b∈is,b<=M)->Q (.int M) H) nN:=λ{p S H as c xs Q} s ra e k=>by
 unfold nN at e;split at e
 .rename_i zs
  cases y:dM zs with
  |none=>rw[y]at e;cases e
  |some bs=>
   rw[y]at e;cases ra with
   |cons h t=>
    cases t;obtain⟨a,vs,rfl,l,z,r⟩:=h.tup;rw[jA y r]at l;have e:bs.max?.map PV.int=some c:=e;cases y2:bs.max? with
    |none=>rw[y2]at e;cases e
    |some m=>
     rw[y2]at e;cases e;refine⟨a,bs,rfl,l,λz=>?_,λM hM hle=>?_⟩
     .rw[z]at y2
      cases y2
     .have e2:bs.max?=some M:=c7.mpr ⟨hM,hle⟩
      rw[y2]at e2;cases e2;exact k H _ (cR.refl H) (fJ (v:=.int _) rfl)
 .cases e
theorem Ws(hc:X.calm=true):gB X (.builtin "min") (λxs H Q=>∃(a:Addr)(is:AA),xs=[.ref a]/\cE X.K H a (is.map V.int)/\is≠[]/\∀M,M∈is->(∀b∈is,M<=b)->Q (.int M) H):=by
 intro AM s σ H xs us Q I r h;obtain⟨a,is,rfl,hq,hne,q⟩:=h;obtain⟨u,rfl,ru⟩:=iM r;cases ru;obtain⟨its,rv,pl,hz⟩:=I.tuple hq;have hi:=qN rv;have hl:s.heap.IsTuple a its.toArray:=pl;obtain⟨xs,e⟩:=hi.allInts.items;have hns:is=xs.toList.map (·.1):=by rw[<-hi.numsOf,<-nums_intItems,<-e]
 have hsz:0<xs.size:=by
  have h3:0<is.length:=vp.mpr hne;rw[hns,ai,iz]at h3;exact h3
 rw[e]at hl;refine Oq (I.ok.hd hc) hl hsz λv h' tk hv hk=>?_;obtain⟨t,rfl⟩:=rf hv;obtain⟨h1,h2⟩:=argBest_lt (numAt xs) (xs.size-1);refine⟨.int _,H,I.kept (h':=h') (t':=tk) hk,⟨t,rfl⟩,q _ ?_ λa ha=>?_⟩
 .rw[hns,rh]
  exact getD_mem (by rw[ai,iz];omega)
 .rw[hns]at ha
  obtain⟨j,hj,rfl⟩:=mem_getD ha;rw[ai,iz]at hj;rw[<-rh];exact h2 j (by omega)
def rD:AI->AJ
 |[.tup xs]=>(dM xs).bind λbs=>bs.min?.map .int
 |_=>none
theorem F3:iG K (λxs H Q=>∃(a:Addr)(is:AA),xs=[.ref a]/\cE K H a (is.map V.int)/\is≠[]/\∀M,M∈is->(∀b∈is,M<=b)->Q (.int M) H) rD:=λ{p S H as c xs Q} s ra e k=>by
 unfold rD at e;split at e
 .rename_i zs
  cases y:dM zs with
  |none=>rw[y]at e;cases e
  |some bs=>
   rw[y]at e;cases ra with
   |cons h t=>
    cases t;obtain⟨a,vs,rfl,l,z,r⟩:=h.tup;rw[jA y r]at l;have e:bs.min?.map PV.int=some c:=e;cases y2:bs.min? with
    |none=>rw[y2]at e;cases e
    |some m=>
     rw[y2]at e;cases e;refine⟨a,bs,rfl,l,λz=>?_,λM hM hle=>?_⟩
     .rw[z]at y2
      cases y2
     .have e2:bs.min?=some M:=vq.mpr ⟨hM,hle⟩
      rw[y2]at e2;cases e2;exact k H _ (cR.refl H) (fJ (v:=.int _) rfl)
 .cases e
def Tz(K:ae):V->List V->Hp->VK->Prop:=λx vs H Q=>∃(a:Addr)(is:AA)(i:Int)(j:Nat),x=.ref a/\vs=[.int i]/\cE K H a (is.map V.int)/\jI i is=some j/\Q (.int (j:Nat)) H
theorem Br:vW X "tuple.index" (Tz X.K):=by
 intro AM s σ H x vs v us Q I rx rv h;obtain⟨a,is,i,j,rfl,rfl,hq,hx,q⟩:=h;cases rx;obtain⟨u,rfl,ru⟩:=rv.one;obtain⟨t,rfl⟩:=ru;obtain⟨its,r,pl,hz⟩:=I.tuple hq;have hi:=qN r;obtain⟨h1,h2,h3⟩:=Fe hi hx;obtain⟨⟨cls,dd,data,sl⟩,ho,hc,n,hd⟩:=id pl;simp only at hc hd;subst hc hd;refine lq c8 ⟨_,ho,rfl⟩ PySem.F.entry_tuple_index (PySem.F.args_tuple_index_2 _ _) (So a its.toArray n dd sl (.int i t) (isInt i) j (by simpa using h1) (by simpa using h2) (λm hm hlt=>by simpa using h3 m (by simpa using hm) hlt)) ⟨ho,λy hy=>(eq_isInt i t hi y (by simpa using hy)).at _ _,?_⟩;exact⟨.int _,H,I.tok _,⟨_,rfl⟩,q⟩
def aah(K:ae)(x:V)(H:Hp):Prop:=∃a xs,x=.ref a/\cE K H a xs
theorem H0{o e:af}{es:List af}{to:TE}{t:TA}{name:Str}{apos cpos:ah}{id:String}{r:V->List V->Hp->VK->Prop}(slot:Slot "tuple" name id)(hty:typeOf (.builtin id)=pure (.type "method_descriptor"))(hm:vW X id r)(ho:PE X o to)(ha:PA X (e::es) t)
  (hbase:attributeBase o name X.env (eval o X.env)=eval o X.env:=by rfl)
  (hfew:((backTo cpos (starEach (e::es) X.env)).all (λx=>!x.1)&&(backToKw cpos (keywordEach [] X.env)).all (λx=>x.1.isSome)
   &&decide ((e::es).length+([]:List fv).length+(if([]:List fv).isEmpty then 0 else 1)<30))=true:=by rfl)
  (hline:(apos.endLine==cpos.line)=true:=by rfl)(hs:starEach (e::es) X.env=(false,eval e X.env)::starEach es X.env:=by rfl)(hplain:(backTo cpos (starEach es X.env)).any (·.1)=false:=by rfl):
  PE X (.Call (.Attribute o name apos) (e::es) [] cpos) (λσ H Q=>to σ H λx H1=>aah X.K x H1/\t σ H1 λxs H2=>r x xs H2 Q):=by
 intro AM s σ H Q I h;refine yc hbase hfew hline rfl (bH (ho AM s σ H _ I h) λv s1 hq=>?_);rcases hq with⟨x,H1,I1,r1,⟨a,ds,ex,hH⟩,q1⟩;subst ex;cases r1;obtain⟨its,rv,⟨ob,hg,hc,_⟩,_⟩:=I1.tuple hH;refine⟨"tuple",id,PySem.F.plainAttrs_tuple,slot,hty,⟨_,hg,hc⟩,λb eb=>?_,?_⟩
 .cases eb
  exact I1.tupD hH
 have hA:=ha cpos AM s1 σ H1 _ I1 q1;rw[hs]at hA⊢;refine yd (by show(false||(backTo cpos (starEach es X.env)).any (·.1))=false;rw[hplain]<;>rfl) (uj ?_);exact bH hA λus s2 ⟨vs,H2,I2,r2,q2⟩=>hm AM s2 σ H2 (.ref a) vs (.ref a) us Q I2 rfl r2 q2
def tupR{α:Type}(k:AV)(f:bI α):bI α:=match k with
 |.pv (.tup _)=>f
 |_=>.fail
def rA(v:AV)(ys:AL)(S:aG):bI AV:=match v,ys with
 |.pv (.tup xs),[.pv (.int i)]=>match dM xs with
  |some is=>match jI i is with
   |some j=>.ok (.pv (.int (j:Nat))) S
   |none=>.fail
  |none=>.fail
 |_,_=>.fail
def mG(m:ME)(ms:MA):ME:=λρ S=>(m ρ S).bind λk S1=>tupR k ((ms ρ S1).bind λys S2=>rA k ys S2)
variable{a e:af}{m:ME}{ms:MA}{pos:ah}
theorem Pr{apos cpos:ah}(ho:aU K cl E X a m)(ha:dZ K cl E X [e] ms)(hbase:attributeBase a "index" X.env (eval a X.env)=eval a X.env:=by rfl)
  (hfew:((backTo cpos (starEach [e] X.env)).all (λx=>!x.1)&&(backToKw cpos (keywordEach [] X.env)).all (λx=>x.1.isSome)&&decide (([e]:List af).length+([]:List fv).length+(if([]:List fv).isEmpty then 0 else 1)<30))=true:=by rfl)
  (hline:(apos.endLine==cpos.line)=true:=by rfl)(hs:starEach [e] X.env=[(false,eval e X.env)]:=by rfl):aU K cl E X (.Call (.Attribute a "index" apos) [e] [] cpos) (mG m ms):=by
 intro hK;subst hK;refine PE.imp (H0 c8 PySem.F.type_tuple_index Br (ho rfl) (ha rfl) hbase hfew hline hs rfl) ?_
 rintro σ H Q ⟨p,S,ρ,s,ev,h⟩
 refine bX s ev h λq H1 k x S1 st s1 e1 r1 h1=>?_;unfold tupR at h1;split at h1
 .rename_i zs
  obtain⟨b0,ws,rfl,sq,lw,rw0⟩:=(show dN X.K q H1 (.tup zs) x from .inl r1).tup;refine⟨⟨_,_,rfl,sq⟩,bX s1 e1 h1 λq2 H2 ys xs S2 st2 s2 e2 r2 h2=>?_⟩;obtain⟨b1,ws1,ex,sq1,lw1,rw1⟩:=(show dN X.K q2 H2 (.tup zs) (.ref b0) from .inl (st2.repA (v:=.pv (.tup zs)) r1)).tup;unfold rA at h2;split at h2
  .rename_i zs' i hzz
   cases hzz;cases r2 with
   |cons r3 r4=>
    cases r4;have ei:=(show dN X.K q2 H2 (.int i) _ from .inl r3).int;cases y:dM zs with
    |none=>rw[y]at h2;exact h2.elim
    |some is=>
     rw[y]at h2;rw[jA y rw1]at sq1;cases ex;dsimp only at h2;cases y2:jI i is with
     |none=>rw[y2]at h2;exact h2.elim
     |some j=>
      rw[y2]at h2;exact⟨b0,is,i,j,rfl,by rw[ei],sq1,y2,h2 q2 H2 _ s2.step s2 (by show aT X.K q2.c H2 _ _;unfold aT;rfl)⟩
  .exact h2.elim
 .exact h1.elim
end
theorem J5:bootBuiltins "len"=some (.builtin "len"):=by decide+kernel
theorem O0:bootBuiltins "abs"=some (.builtin "abs"):=by decide+kernel
theorem F8:bootBuiltins "all"=some (.builtin "all"):=by decide+kernel
theorem J8:bootBuiltins "any"=some (.builtin "any"):=by decide+kernel
theorem K4:bootBuiltins "sum"=some (.builtin "sum"):=by decide+kernel
theorem K8:bootBuiltins "min"=some (.builtin "min"):=by decide+kernel
theorem N6:bootBuiltins "max"=some (.builtin "max"):=by decide+kernel
theorem Er:bootBuiltins "sorted"=some (.builtin "sorted"):=by decide+kernel
theorem Lj:bootBuiltins "int"=some (.type "int"):=by decide+kernel
theorem Az:bootBuiltins "bool"=some (.type "bool"):=by decide+kernel
theorem My:bootBuiltins "list"=some (.type "list"):=by decide+kernel
theorem Zf:bootBuiltins "tuple"=some (.type "tuple"):=by decide+kernel
end L2.Pp
set_option Elab.async false
set_option compiler.extract_closed false
set_option bootstrap.genMatcherCode false
set_option maxRecDepth 100000
set_option maxHeartbeats 4000000
namespace Sc
noncomputable section
open PySem L2 Bn L2.Pp
abbrev Uj:Stmt:=bC 5
abbrev Ke:Stmt:=bC 6
abbrev Ae:Stmt:=bC 7
abbrev qM:Stmt:=bC 9
abbrev Ub:Stmt:=bC 10
abbrev Bm:Stmt:=bC 11
abbrev Bh:Stmt:=bC 12
abbrev Bc:Stmt:=bC 13
abbrev Qk:Stmt:=bC 14
abbrev Be:Stmt:=bC 16
abbrev Qc:Stmt:=bC 17
abbrev Lf:Stmt:=bC 19
abbrev Ld:Stmt:=bC 20
abbrev oJ:Stmt:=bC 21
abbrev Gc:Stmt:=bC 22
abbrev Dm:Stmt:=bC 23
abbrev Uk:Stmt:=bC 25
abbrev Oh:Stmt:=bC 26
abbrev Vj:Stmt:=bC 27
abbrev Td:Stmt:=bC 28
abbrev Uf:Stmt:=bC 29
abbrev Sd:Stmt:=bC 30
abbrev Se:Stmt:=bC 31
abbrev Bl:Stmt:=bC 32
abbrev Eh:Stmt:=bC 33
abbrev Hl:Stmt:=bC 34
abbrev Ti:Stmt:=bC 35
abbrev Bk:Stmt:=bC 36
abbrev Ad:Stmt:=bC 37
abbrev Hi:Stmt:=bC 38
abbrev Vb:Stmt:=bC 39
abbrev Pb:Stmt:=bC 40
abbrev Cc:Stmt:=bC 41
abbrev Ic:Stmt:=bC 43
abbrev Tj:Stmt:=bC 42
abbrev Zi:Stmt:=bC 44
abbrev Kc:Stmt:=bC 45
abbrev Fl:Stmt:=bC 46
abbrev Kh:Stmt:=bC 47
abbrev Cf:Stmt:=bC 48
abbrev Fg:Stmt:=bC 49
abbrev Zb:Stmt:=bC 50
abbrev Gj:Stmt:=bC 51
abbrev Of:Stmt:=bC 52
abbrev Gh:Stmt:=bC 53
abbrev Nc:Stmt:=bC 54
abbrev mJ:Stmt:=bC 55
def zJ:MS:=(aI (bP (aV (aC eD (aA 0) (mC (.int 0)))) (bE (mC (.int 1))) cO)
 (aI (bP (aV (aC iE (aA 0) (mC (.int 0)))) (bE (bJ cJ (mC (.int 1)))) cO)
 (bE (mC (.int 0)))))
def oP:FM:=aS 1 1 zJ
def xA:MS:=(aI (lR (aV (aC eM (aA 1) (mC (.int 0)))) (aI (aR 2 (aC eZ (aA 0) (aA 1)))
 (aI (aR 0 (aA 1))
 (aR 1 (aA 2)))))
 (bE (mR nO (aB (aA 0) aD))))
def pX:FM:=aS 2 3 xA
def xB:MS:=(aI (aR 1 (mC (.int 0)))
 (aI (bZ (bO (aA 0)) (gN 2) (aR 1 (aO pX [] (aB (aA 1) (aB (aA 2) aD)))))
 (bE (bF ["number"] [(1,"common")] (bO (aA 0)) (gN 0) (aC iK (aA 0) (aA 1))))))
def sK:FM:=aS 1 3 xB
def yF:MS:=(aI (bP (aV (aC cP (aA 1) (mC (.int 0)))) (tZ "NoPoint") cO)
 (bE (mR fK (aB (bF ["number"] [(1,"bottom")] (bO (aO sK [] (aB (aC aE (mR jE (aB (aA 0) aD)) (mN eA (aB (aA 1) aD))) aD))) (gN 0) (aC bD (aO oP [] (aB (aA 1) aD)) (aA 0))) aD))))
def qP:FM:=aS 2 2 yF
def wF:MS:=(bE (bF ["near","far"] [(0,"start"),(1,"end")] (fX (aB (cY (aA 0) cX (cV (bJ cJ (mC (.int 1))))) (aB (cY (aA 1) cX (cV (bJ cJ (mC (.int 1))))) aD))) (gT 2 (dL (gN 0) (dL (gN 1) eS))) (aC dH (aC bD (aA 1) (aC aF (aA 2) (bJ cJ (mC (.int 1))))) (aC bD (aA 0) (aC aF (aA 3) (bJ cJ (mC (.int 1))))))))
def kX:FM:=aS 2 2 wF
def zZ:MS:=(bE (mR nP (aB (bF ["one","other"] [] (fX (aB (aA 0) (aB (aA 1) aD))) (gT 2 (dL (gN 0) (dL (gN 1) eS))) (aC bD (aA 0) (aA 1))) aD)))
def oX:FM:=aS 2 2 zZ
def sZ:MS:=(aI (aR 1 (aC aF (aA 0) (mC (.int 0))))
 (aI (bP (aV (aC cP (mR cT (aB (aA 0) aD)) (mC (.int 1)))) (bE (mN eA (aB (bJ cJ (aC aF (aA 1) (mC (.int 1)))) (aB (aC aF (aA 1) (mC (.int 0))) aD)))) cO)
 (aI (aR 2 (aC aF (aA 0) (mC (.int 1))))
 (bE (mN eA (aB (aC dH (aC bD (aC aF (aA 1) (mC (.int 1))) (aC aF (aA 2) (mC (.int 2)))) (aC bD (aC aF (aA 1) (mC (.int 2))) (aC aF (aA 2) (mC (.int 1))))) (aB (aC dH (aC bD (aC aF (aA 1) (mC (.int 2))) (aC aF (aA 2) (mC (.int 0)))) (aC bD (aC aF (aA 1) (mC (.int 0))) (aC aF (aA 2) (mC (.int 2))))) (aB (aC dH (aC bD (aC aF (aA 1) (mC (.int 0))) (aC aF (aA 2) (mC (.int 1)))) (aC bD (aC aF (aA 1) (mC (.int 1))) (aC aF (aA 2) (mC (.int 0))))) aD))))))))
def mZ:FM:=aS 1 3 sZ
def rZ:MS:=(aI (aR 1 (bF ["p"] [(0,"points")] (bO (cY (aA 0) (cV (mC (.int 1))) cX)) (gN 0) (aO kX [] (aB (aC aF (aA 1) (mC (.int 0))) (aB (aA 0) aD)))))
 (bE (aO oX [] (aB (aO mZ [] (aB (cY (aA 1) cX (cV (bJ cJ (mC (.int 1))))) aD)) (aB (aC aF (aA 1) (bJ cJ (mC (.int 1)))) aD)))))
def oE:FM:=aS 1 2 rZ
def uB:MS:=(bE (aO oP [] (aB (aO oE [] (aB (aA 0) aD)) aD)))
def nG:FM:=aS 1 1 uB
def sL:MS:=(aI (aR 1 (mR oM (aB (aA 0) aD)))
 (aI (aR 2 (aO nG [] (aB (aA 1) aD)))
 (aI (bP (aV (aC cP (aA 2) (mC (.int 0)))) (tZ "Flat") cO)
 (aI (bP (aV (aC iE (aA 2) (mC (.int 0)))) (aR 1 (aC aE (cY (aA 1) cX (cV (bJ cJ (mC (.int 2))))) (mN eA (aB (aC aF (aA 1) (bJ cJ (mC (.int 1)))) (aB (aC aF (aA 1) (bJ cJ (mC (.int 2)))) aD))))) cO)
 (bE (mR fK (aB (aA 1) aD)))))))
def kF:FM:=aS 1 3 sL
def wO:MS:=(bE (aC oZ (aC oZ (cY (aA 0) cX (cV (aA 1))) (mN iV (aB (aA 2) aD))) (cY (aA 0) (cV (aC aE (aA 1) (mC (.int 1)))) cX)))
def jO:FM:=aS 3 3 wO
def xK:MS:=(bE (aO oX [] (aB (aA 0) (aB (aA 1) aD))))
def qF:FM:=aS 2 2 xK
def sJ:MS:=(aI (aR 4 (bF ["first","second"] [(2,"p_height"),(3,"q_height")] (fX (aB (aA 0) (aB (aA 1) aD))) (gT 2 (dL (gN 0) (dL (gN 1) eS))) (aC dH (aC bD (aA 2) (aA 1)) (aC bD (aA 3) (aA 0)))))
 (bE (kL qP [] (aB (cY (aA 4) cX (cV (bJ cJ (mC (.int 1))))) (aB (aC aF (aA 4) (bJ cJ (mC (.int 1)))) aD)))))
def mW:FM:=aS 4 5 sJ
def iI(r:FM):MS:=(aI (aR 2 (mG (aA 1) (aB (mR nN (aB (aA 1) aD)) aD)))
 (aI (aR 3 (mG (aA 1) (aB (mR rD (aB (aA 1) aD)) aD)))
 (aI (bP (fU (aV (aC rY (aC aF (aA 1) (aA 2)) (mC (.int 0)))) (aV (aC nU (aC aF (aA 1) (aA 3)) (mC (.int 0))))) (bE (mN eA (aB (aA 0) aD))) cO)
 (aI (aR 4 (aO mW [] (aB (aC aF (aA 0) (aA 2)) (aB (aC aF (aA 0) (aA 3)) (aB (aC aF (aA 1) (aA 2)) (aB (aC aF (aA 1) (aA 3)) aD))))))
 (aI (aR 5 (dP aD))
 (aI (bZ (bO (mN iV (aB (aA 2) (aB (aA 3) aD)))) (gN 6) (kK 5 (aO r [] (aB (aO jO [] (aB (aA 0) (aB (aA 6) (aB (aA 4) aD)))) (aB (aO jO [] (aB (aA 1) (aB (aA 6) (aB (mC (.int 0)) aD)))) aD)))))
 (bE (aA 5))))))))
def wX:FM:=aS 2 7 λ_ _=>.fail
def wS:FM:=aS 2 7 (iI wX)
def wQ:FM:=aS 2 7 (iI wS)
def wV:FM:=aS 2 7 (iI wQ)
def nC:FM:=aS 2 7 (iI wV)
def wH:MS:=(bE (mR fK (aB (bF ["p"] [(1,"blade")] (bO (aA 0)) (gN 0) (aO qF [] (aB (aA 1) (aB (aA 0) aD)))) aD)))
def kB:FM:=aS 2 2 wH
def zV:MS:=(aI (aR 2 (dP aD))
 (aI (aR 3 (dP aD))
 (aI (bZ (bO (aA 0)) (gN 4) (bZ (bO (aO nC [] (aB (aA 4) (aB (aO kB [] (aB (aA 4) (aB (aA 1) aD))) aD)))) (gN 5) (bP (aV (aC eD (mR nN (aB (aO kB [] (aB (aA 5) (aB (aA 1) aD))) aD)) (mC (.int 0)))) (cZ (cN (aA 2) (aB (kL kF [] (aB (aA 5) aD)) aD))) (cZ (cN (aA 3) (aB (kL kF [] (aB (aA 5) aD)) aD))))))
 (bE (mN iV (aB (mR fK (aB (aA 2) aD)) (aB (mR fK (aB (aA 3) aD)) aD)))))))
def rE:FM:=aS 2 6 zV
def zL:MS:=(aI (aR 1 (dP aD))
 (aI (bZ (uM (aB (cY (aA 0) cX (cV (mC (.int 63)))) aD)) (gT 2 (dL (gN 2) (dL (gN 3) eS))) (bP (aV (aC nU (aA 3) (aC jJ (mC (.int 10)) (mC (.int 18))))) (cZ (cN (aA 1) (aB (aC dH (aA 3) (aC jJ (mC (.int 10)) (mC (.int 18)))) aD))) (aI (aR 4 (aC eZ (aC bD (aC aE (aC aE (aC aE (aA 3) (aC bD (aC bD (mC (.int 7)) (aA 2)) (aA 2))) (aC bD (mC (.int 13)) (aA 2))) (mC (.int 5))) (mC (.int 48271))) (mC (.int 2147483647))))
 (aI (aR 5 (aC eZ (aC bD (aC aE (aC aE (aC aE (aA 3) (aC bD (aC bD (mC (.int 11)) (aA 2)) (aA 2))) (aC bD (mC (.int 17)) (aA 2))) (mC (.int 3))) (mC (.int 40692))) (mC (.int 2147483399))))
 (aI (aR 6 (aC eZ (aC bD (aC aE (aC aE (aC aE (aA 3) (aC bD (aC bD (mC (.int 5)) (aA 2)) (aA 2))) (aC bD (mC (.int 29)) (aA 2))) (mC (.int 8))) (mC (.int 39373))) (mC (.int 2147483587))))
 (aI (aR 4 (aC eZ (aC bD (aA 4) (mC (.int 52021))) (mC (.int 1000000007))))
 (aI (aR 5 (aC eZ (aC bD (aA 5) (mC (.int 30011))) (mC (.int 998244353))))
 (aI (aR 6 (aC eZ (aC bD (aA 6) (mC (.int 45989))) (mC (.int 1000000009))))
 (cZ (cN (aA 1) (aB (aC aE (aC bD (aC aE (aC bD (aA 4) (mC (.int 998244353))) (aA 5)) (mC (.int 1000000009))) (aA 6)) aD)))))))))))
 (bE (aA 1))))
def oQ:FM:=aS 1 7 zL
def tL:MS:=(aI (lR (eQ (aV (aC eD (mR cT (aB (aA 0) aD)) (mC (.int 0)))) (aV (aC cP (aC aF (aA 0) (mC (.int 0))) (mC (.int 0))))) (cZ (mO (aA 0) (aB (mC (.int 0)) aD))))
 (aI (bP (aV (aC cP (mR cT (aB (aA 0) aD)) (mC (.int 0)))) (bE (mC (.int 0))) cO)
 (aI (aR 2 (aC eZ (aC aF (aA 0) (mC (.int 0))) (aA 1)))
 (aI (iQ (aA 0) (mC (.int 0)) (aC iK (aC aF (aA 0) (mC (.int 0))) (aA 1)))
 (bE (aA 2))))))
def cM:FM:=aS 2 3 tL
def yU:MS:=(aI (aR 0 (mR nO (aB (aA 0) aD)))
 (aI (aR 1 (mR nO (aB (aA 1) aD)))
 (aI (lR (aV (aC eD (aA 1) (mC (.int 0)))) (rO 0 1 (aB (aA 1) (aB (aC eZ (aA 0) (aA 1)) aD))))
 (bE (aA 0)))))
def qU:FM:=aS 2 2 yU
def sO:MS:=(aI (aR 1 (mC (.int 0)))
 (aI (bZ (bO (aA 0)) (gN 2) (aR 1 (aO qU [] (aB (aA 1) (aB (aA 2) aD)))))
 (aI (bP (aV (aC cP (aA 1) (mC (.int 0)))) (bE (mR fK (aB (aA 0) aD))) cO)
 (bE (mR fK (aB (bF ["_law_number"] [(1,"_law_by")] (bO (aA 0)) (gN 0) (aC iK (aA 0) (aA 1))) aD))))))
def gG:FM:=aS 1 3 sO
def xR:MS:=(bE (rH (bJ (fB "int") (aA 0)) (bJ rK (bJ (fB "bool") (aA 0)))))
def qB:FM:=aS 1 1 xR
def xI:MS:=(aI (bP (fU (iC (aV (bJ (fB "tuple") (aA 0)))) (aV (aC eM (mR cT (aB (aA 0) aD)) (aA 1)))) (bE (mC (.bl false))) cO)
 (bE (mR jV (aB (bF ["_law_number"] [] (bO (aA 0)) (gN 0) (aO qB [] (aB (aA 0) aD))) aD))))
def sV:FM:=aS 2 2 xI
def xC:MS:=(aI (aR 3 (bF ["_law_k"] [(2,"_law_way"),(1,"_law_q"),(0,"_law_p")] (bY (aB (aC dH (mR cT (aB (aA 0) aD)) (mC (.int 1))) aD)) (gN 0) (aC aE (aC bD (aC bD (aA 1) (aC aF (aA 3) (aA 0))) (aC aF (aA 2) (bJ cJ (mC (.int 1))))) (aC bD (aC aF (aA 2) (aA 0)) (aC aF (aA 3) (bJ cJ (mC (.int 1))))))))
 (bE (aO gG [] (aB (aC aE (aA 3) (mN eA (aB (aC bD (aC aF (aA 0) (bJ cJ (mC (.int 1)))) (aC aF (aA 1) (bJ cJ (mC (.int 1))))) aD))) aD))))
def kE:FM:=aS 3 4 xC
def zF:MS:=(bE (bF ["_law_k"] [(1,"_law_q"),(0,"_law_p")] (bY (aB (aC dH (mR cT (aB (aA 0) aD)) (mC (.int 1))) aD)) (gN 0) (aC dH (aC bD (aC aF (aA 1) (aA 0)) (aC aF (aA 2) (bJ cJ (mC (.int 1))))) (aC bD (aC aF (aA 2) (aA 0)) (aC aF (aA 1) (bJ cJ (mC (.int 1))))))))
def iR:FM:=aS 2 2 zF
def xX:MS:=(aI (aR 2 (aC dH (aC bD (aC aF (aA 0) (mC (.int 1))) (aC aF (aA 1) (mC (.int 2)))) (aC bD (aC aF (aA 0) (mC (.int 2))) (aC aF (aA 1) (mC (.int 1))))))
 (aI (aR 3 (aC dH (aC bD (aC aF (aA 0) (mC (.int 2))) (aC aF (aA 1) (mC (.int 0)))) (aC bD (aC aF (aA 0) (mC (.int 0))) (aC aF (aA 1) (mC (.int 2))))))
 (aI (aR 4 (aC dH (aC bD (aC aF (aA 0) (mC (.int 0))) (aC aF (aA 1) (mC (.int 1)))) (aC bD (aC aF (aA 0) (mC (.int 1))) (aC aF (aA 1) (mC (.int 0))))))
 (bE (mN eA (aB (aA 2) (aB (aA 3) (aB (aA 4) aD))))))))
def lD:FM:=aS 2 5 xX
def zA:MS:=(bE (mR nP (aB (bF ["_law_one","_law_other"] [] (fX (aB (aA 0) (aB (aA 1) aD))) (gT 2 (dL (gN 0) (dL (gN 1) eS))) (aC bD (aA 0) (aA 1))) aD)))
def lV:FM:=aS 2 2 zA
def lK:MS:=(aI (bP (aV (aC cP (mR cT (aB (aA 0) aD)) (mC (.int 2)))) (bE (aC dH (aC bD (aC aF (aC aF (aA 0) (mC (.int 0))) (mC (.int 0))) (aC aF (aC aF (aA 0) (mC (.int 1))) (mC (.int 1)))) (aC bD (aC aF (aC aF (aA 0) (mC (.int 0))) (mC (.int 1))) (aC aF (aC aF (aA 0) (mC (.int 1))) (mC (.int 0)))))) cO)
 (bE (aO lV [] (aB (aO lD [] (aB (aC aF (aA 0) (mC (.int 0))) (aB (aC aF (aA 0) (mC (.int 1))) aD))) (aB (aC aF (aA 0) (mC (.int 2))) aD)))))
def gH:FM:=aS 1 1 lK
def oR:MS:=(bE (aO gH [] (aB (bF ["_law_p"] [(0,"_law_points")] (bO (cY (aA 0) (cV (mC (.int 1))) cX)) (gN 0) (aO iR [] (aB (aC aF (aA 1) (mC (.int 0))) (aB (aA 0) aD)))) aD)))
def fR:FM:=aS 1 1 oR
def sF:MS:=(aI (aR 1 (mR oM (aB (aA 0) aD)))
 (aI (bP (aV (aC iE (aO fR [] (aB (aA 1) aD)) (mC (.int 0)))) (aR 1 (aC aE (cY (aA 1) cX (cV (bJ cJ (mC (.int 2))))) (mN eA (aB (aC aF (aA 1) (bJ cJ (mC (.int 1)))) (aB (aC aF (aA 1) (bJ cJ (mC (.int 2)))) aD))))) cO)
 (bE (mR fK (aB (aA 1) aD)))))
def iZ:FM:=aS 1 2 sF
def yM:MS:=(bE (aO iZ [] (aB (bF ["_law_p"] [(2,"_law_far_here"),(1,"_law_way")] (bO (aA 0)) (gN 0) (aO kE [] (aB (aA 0) (aB (aA 1) (aB (aA 2) aD))))) aD)))
def qL:FM:=aS 3 3 yM
def wD:MS:=(aI (bP (fU (iC (aV (aO sV [] (aB (aA 0) (aB (aC aE (aA 1) (mC (.int 1))) aD))))) (aV (aC iE (aC aF (aA 0) (bJ cJ (mC (.int 1)))) (mC (.int 1))))) (bE (mC (.bl false))) cO)
 (bE (aC cP (aO gG [] (aB (aA 0) aD)) (aA 0))))
def pR:FM:=aS 2 2 wD
def wC:MS:=(aI (bP (fU (iC (aV (bJ (fB "tuple") (aA 0)))) (aV (aC eM (mR cT (aB (aA 0) aD)) (aC aE (aA 1) (mC (.int 1)))))) (bE (mC (.bl false))) cO)
 (aI (bP (iC (aV (mR jV (aB (bF ["_law_p"] [(1,"_law_many")] (bO (aA 0)) (gN 0) (aO pR [] (aB (aA 0) (aB (aA 1) aD)))) aD)))) (bE (mC (.bl false))) cO)
 (bE (rH (aC eM (aO fR [] (aB (aA 0) aD)) (mC (.int 0))) (aC cP (aO iZ [] (aB (aA 0) aD)) (aA 0))))))
def pQ:FM:=aS 2 2 wC
def wI:MS:=(aI (bP (iC (aV (bJ (fB "tuple") (aA 0)))) (bE (mC (.bl false))) cO)
 (bE (mR jV (aB (bF ["_law_points"] [(1,"_law_many")] (bO (aA 0)) (gN 0) (aO pQ [] (aB (aA 0) (aB (aA 1) aD)))) aD))))
def mU:FM:=aS 2 2 wI
def sD:MS:=(bE (aO gH [] (aB (bF ["_law_corner"] [(0,"_law_corners")] (bO (cY (aA 0) (cV (mC (.int 1))) cX)) (gN 0) (bF ["_law_b","_law_c"] [] (fX (aB (aC aF (aA 1) (mC (.int 0))) (aB (aA 0) aD))) (gT 2 (dL (gN 0) (dL (gN 1) eS))) (aC dH (aA 1) (aA 0)))) aD)))
def kY:FM:=aS 1 1 sD
def zI:MS:=(aI (aR 3 (dP aD))
 (aI (bZ (bY (aB (aC aE (aA 1) (mC (.int 1))) aD)) (gN 4) (cZ (cN (aA 3) (aB (bF ["_law_m"] [(0,"_law_row_here"),(2,"_law_wide")] (bY (aB (aA 1) aD)) (gN 0) (aO cM [] (aB (aA 1) (aB (aC aE (aA 2) (mC (.int 1))) aD)))) aD))))
 (aI (bP (aV (aC eM (aO kY [] (aB (aA 3) aD)) (mC (.int 0)))) (bE (aA 3)) cO)
 (bE (bF ["_law_k"] [(1,"_law_dims")] (lJ (aB (bJ cJ (mC (.int 1))) (aB (aA 1) aD))) (gN 0) (bF ["_law_m"] [(0,"_law_k")] (bY (aB (aA 1) aD)) (gN 0) (mR iB (aB (aC cP (aA 0) (aA 1)) aD))))))))
def jS:FM:=aS 3 5 zI
def tK:MS:=(aI (aR 1 (dP (aB (mC (.int 0)) (aB (mC (.int 1)) (aB (mC (.int 2)) aD)))))
 (aI (aR 2 (dP (aB (mC (.int 0)) (aB (mC (.int 0)) (aB (mC (.int 0)) aD)))))
 (aI (aR 3 (rM (aB (aA 2) aD)))
 (aI (bZ (bY (aB (mC (.int 3)) aD)) (gN 4) (aI (iQ (aA 2) (mO (aA 1) (aB (aO cM [] (aB (aA 0) (aB (mR cT (aB (aA 1) aD)) aD))) aD)) (mC (.int 1)))
 (cZ (rG (aA 3) (aB (aA 2) aD)))))
 (aI (bZ (bY (aB (mC (.int 3)) aD)) (gN 5) (bP (aV (aC cP (aO cM [] (aB (aA 0) (aB (mC (.int 4)) aD))) (mC (.int 3)))) (nJ 3 2 5) cO))
 (bE (aA 3)))))))
def oN:FM:=nR 1 6 tK
def wL:MS:=(aI (aR 3 (dP aD))
 (aI (bZ (bY (aB (aO cM [] (aB (aA 0) (aB (aC aE (aA 2) (mC (.int 1))) aD))) aD)) (gN 4) (aI (aR 5 (aO cM [] (aB (aA 0) (aB (mC (.int 6)) aD))))
 (bP (eQ (aV (aC cP (aA 5) (mC (.int 5)))) (aV (aC eD (mR cT (aB (aA 3) aD)) (mC (.int 0))))) (cZ (cN (aA 3) (aB (aC aF (aA 3) (bJ cJ (mC (.int 1)))) aD))) (bP (aV (aC cP (aA 1) (mC (.int 2)))) (cZ (cN (aA 3) (aB (aO jS [] (aB (aA 0) (aB (mC (.int 2)) (aB (aC aE (mC (.int 1)) (mR iB (aB (aC cP (aA 5) (mC (.int 4))) aD))) aD)))) aD))) (bP (aV (aC eD (aA 5) (mC (.int 3)))) (cZ (cN (aA 3) (aB (aO jS [] (aB (aA 0) (aB (mC (.int 3)) (aB (mC (.int 1)) aD)))) aD))) (cZ (cN (aA 3) (aB (aO oN [] (aB (aA 0) aD)) aD))))))))
 (bE (aA 3))))
def oF:FM:=aS 3 6 wL
def yZ:MS:=(aI (aR 2 (aO cM [] (aB (aA 0) (aB (mC (.int 4)) aD))))
 (aI (aR 3 (aC aF (mN eA (aB (mC (.int 0)) (aB (mC (.int 3)) (aB (mC (.int 9)) (aB (aC jJ (mC (.int 10)) (mC (.int 12))) aD))))) (aA 2)))
 (aI (aR 4 (aC aE (mC (.int 1)) (aC bD (aO cM [] (aB (aA 0) (aB (mC (.int 9)) aD))) (aC iK (aA 2) (mC (.int 2))))))
 (aI (aR 5 (bF ["_law_k"] [(3,"_law_wide"),(0,"_law_row_here")] (bY (aB (aA 1) aD)) (gN 0) (aC dH (aO cM [] (aB (aA 2) (aB (aC aE (aC bD (mC (.int 2)) (aA 1)) (mC (.int 1))) aD))) (aA 1))))
 (bE (aO gG [] (aB (aC aE (aA 5) (mN eA (aB (aA 4) aD))) aD)))))))
def lS:FM:=aS 2 6 yZ
def tO:MS:=(aI (aR 2 (mC (.int 1)))
 (aI (bZ (bO (aA 1)) (gN 3) (aR 2 (aC bD (aA 2) (aC aF (aA 3) (mC (.int 1))))))
 (aI (aR 4 (bF ["_law_number","_law_part"] [(2,"_law_under")] (fX (aB (aA 0) (aB (aA 1) aD))) (gT 2 (dL (gN 0) (dL (gN 1) eS))) (aC bD (aC bD (aA 0) (aC aF (aA 1) (mC (.int 0)))) (aC iK (aA 2) (aC aF (aA 1) (mC (.int 1)))))))
 (bE (aO gG [] (aB (aC aE (aA 4) (mN eA (aB (aA 2) aD))) aD))))))
def lL:FM:=aS 2 5 tO
def sS:MS:=(aI (bP (aV (aC cP (aO cM [] (aB (aA 0) (aB (mC (.int 2)) aD))) (mC (.int 1)))) (bE (mR fK (aB (aA 1) aD))) cO)
 (bE (mR jE (aB (aA 1) aD))))
def mX:FM:=aS 2 2 sS
def tH:MS:=(aI (aR 1 (aC aF (aA 0) (mC (.int 0))))
 (aI (bP (aV (aC cP (mR cT (aB (aA 0) aD)) (mC (.int 2)))) (bE (aO gG [] (aB (aO lD [] (aB (aA 1) (aB (aC aF (aA 0) (mC (.int 1))) aD))) aD))) cO)
 (aI (aR 2 (aO lD [] (aB (aO iR [] (aB (aA 1) (aB (aC aF (aA 0) (mC (.int 1))) aD))) (aB (aO iR [] (aB (aA 1) (aB (aC aF (aA 0) (mC (.int 2))) aD))) aD))))
 (bE (aO gG [] (aB (aC aE (bF ["_law_number"] [(1,"_law_p")] (bO (aA 2)) (gN 0) (aC bD (aA 0) (aC aF (aA 1) (mC (.int 3))))) (mN eA (aB (aC dH (mC (.int 0)) (aO lV [] (aB (aA 2) (aB (aA 1) aD)))) aD))) aD))))))
def lE:FM:=aS 1 3 tH
def wE:MS:=(aI (aR 3 (dP aD))
 (aI (bZ (bY (aB (aA 2) aD)) (gN 4) (bP (fU (aV (aC cP (mR cT (aB (aA 1) aD)) (mC (.int 0)))) (aV (aC cP (aO cM [] (aB (aA 0) (aB (mC (.int 4)) aD))) (mC (.int 3))))) (cZ (cN (aA 3) (aB (aO lS [] (aB (aA 0) (aB (aA 2) aD))) aD))) (aI (aR 5 (aC aF (aA 1) (aO cM [] (aB (aA 0) (aB (mR cT (aB (aA 1) aD)) aD)))))
 (cZ (cN (aA 3) (aB (aC aF (aA 5) (aO cM [] (aB (aA 0) (aB (mR cT (aB (aA 5) aD)) aD)))) aD))))))
 (aI (aR 6 (aO lE [] (aB (aA 3) aD)))
 (aI (bP (aV (mR nQ (aB (cY (aA 6) cX (cV (bJ cJ (mC (.int 1))))) aD))) (bE (aA 6)) cO)
 (aI (aR 7 (aC aE (mN eA (aB (mC (.int 1)) aD)) (aC pH (mN eA (aB (mC (.int 0)) aD)) (aC dH (aA 2) (mC (.int 1))))))
 (bE (mR fK (aB (aC aE (aA 7) (mN eA (aB (aC dH (mC (.int 0)) (aO cM [] (aB (aA 0) (aB (mC (.int 2)) aD)))) aD))) aD))))))))
def oC:FM:=aS 3 8 wE
def yJ:MS:=(aI (aR 2 (dP aD))
 (aI (bZ (bO (aA 1)) (gN 3) (aI (aR 4 (bF ["_law_k"] [(0,"_law_row_here")] (bY (aB (aC dH (mR cT (aB (aA 3) aD)) (mC (.int 1))) aD)) (gN 0) (aC dH (aO cM [] (aB (aA 1) (aB (mC (.int 3)) aD))) (mC (.int 1)))))
 (cZ (cN (aA 2) (aB (aO qL [] (aB (aA 3) (aB (mC (.int 1)) (aB (mR fK (aB (aC aE (aA 4) (mN eA (aB (mC (.int 1)) aD))) aD)) aD)))) aD)))))
 (bE (aA 2))))
def qH:FM:=aS 2 5 yJ
def xQ:MS:=(aI (aR 2 (mC (.int 1)))
 (aI (aR 3 (aO fR [] (aB (aA 0) aD)))
 (aI (bZ (bY (aB (mR cT (aB (aA 0) aD)) aD)) (gN 4) (aI (aR 5 (nM (aB (aA 0) aD)))
 (aI (iQ (aA 5) (aA 4) (aA 1))
 (aI (aR 6 (aC bD (aO fR [] (aB (aA 5) aD)) (aA 3)))
 (aI (bP (aV (aC iE (aA 6) (mC (.int 0)))) (bE (bJ cJ (mC (.int 1)))) cO)
 (bP (aV (aC cP (aA 6) (mC (.int 0)))) (aR 2 (mC (.int 0))) cO))))))
 (bE (aA 2)))))
def qG:FM:=aS 2 7 xQ
def tI:MS:=(aI (bP (aV (aC cP (mR cT (aB (aA 1) aD)) (mC (.int 0)))) (bE (aO lS [] (aB (aA 0) (aB (aA 2) aD)))) cO)
 (aI (aR 3 (dP aD))
 (aI (bZ (bY (aB (mC (.int 2)) aD)) (gN 4) (aI (aR 5 (aC aF (aA 1) (aO cM [] (aB (aA 0) (aB (mR cT (aB (aA 1) aD)) aD)))))
 (cZ (cN (aA 3) (aB (aC aF (aA 5) (aO cM [] (aB (aA 0) (aB (mR cT (aB (aA 5) aD)) aD)))) aD)))))
 (aI (aR 6 (aO kE [] (aB (aC aF (aA 3) (mC (.int 0))) (aB (aC aF (aA 3) (mC (.int 1))) (aB (mC (.int 1)) aD)))))
 (aI (aR 7 (aO gG [] (aB (aC aE (mR jE (aB (cY (aA 6) cX (cV (bJ cJ (mC (.int 1))))) aD)) (mN eA (aB (aC bD (mC (.int 2)) (aC aF (aA 6) (bJ cJ (mC (.int 1))))) aD))) aD)))
 (aI (aR 8 (bF ["_law_k"] [(0,"_law_row_here")] (bY (aB (aA 2) aD)) (gN 0) (aC dH (aO cM [] (aB (aA 1) (aB (mC (.int 9)) aD))) (mC (.int 4)))))
 (bE (aO kE [] (aB (aA 7) (aB (aO gG [] (aB (aC aE (aA 8) (mN eA (aB (mC (.int 101)) aD))) aD)) (aB (mC (.int 1)) aD)))))))))))
def lB:FM:=aS 3 9 tI
def sG:MS:=(aI (aR 2 (bF ["_law_points"] [(1,"_law_p")] (bO (aA 0)) (gN 0) (aO qG [] (aB (aA 0) (aB (aA 1) aD)))))
 (aI (bP (aV (aC (nW false) (mC (.int 0)) (aA 2))) (bE (mC .non)) cO)
 (bE (uP (aA 2) (aB (mC (.int 1)) aD)))))
def gF:FM:=aS 2 3 sG
def Ca:MS:=(aI (aR 1 (oS oQ [] (aB (aA 0) aD)))
 (aI (aR 2 (aC aE (mC (.int 2)) (aO cM [] (aB (aA 1) (aB (mC (.int 2)) aD)))))
 (aI (aR 3 (aO oF [] (aB (aA 1) (aB (aA 2) (aB (mC (.int 3)) aD)))))
 (aI (aR 4 (bF ["_law_k"] [] (bY (aB (aA 2) aD)) (gN 0) (mN iV (aB (mC (.int 1)) (aB (mC (.int 1)) aD)))))
 (aI (aR 5 (aO qH [] (aB (aA 1) (aB (bF ["_law_corners"] [(4,"_law_one")] (bO (aA 3)) (gN 0) (aO iZ [] (aB (bF ["_law_c"] [(1,"_law_one")] (bO (aA 0)) (gN 0) (aO lL [] (aB (aA 0) (aB (aA 1) aD)))) aD))) aD))))
 (aI (aR 6 (aO oC [] (aB (aA 1) (aB (aA 5) (aB (aA 2) aD)))))
 (aI (aR 7 (aO rE [] (aB (aO mX [] (aB (aA 1) (aB (aA 5) aD))) (aB (aA 6) aD))))
 (aI (bP (fU (iC (aV (bJ (fB "tuple") (aA 7)))) (aV (aC eM (mR cT (aB (aA 7) aD)) (mC (.int 2))))) (bE (mC (.bl false))) cO)
 (aI (bP (fU (iC (aV (aO mU [] (aB (aC aF (aA 7) (mC (.int 0))) (aB (aA 2) aD))))) (iC (aV (aO mU [] (aB (aC aF (aA 7) (mC (.int 1))) (aB (aA 2) aD)))))) (bE (mC (.bl false))) cO)
 (aI (bZ (bY (aB (mC (.int 5)) aD)) (gN 8) (aI (aR 9 (aO lB [] (aB (aA 1) (aB (aA 5) (aB (aA 2) aD)))))
 (aI (aR 10 (aO lV [] (aB (aA 6) (aB (aA 9) aD))))
 (aI (aR 11 (aO gF [] (aB (aA 5) (aB (aA 9) aD))))
 (aI (aR 12 (aO gF [] (aB (aC aF (aA 7) (mC (.int 0))) (aB (aA 9) aD))))
 (aI (aR 13 (aO gF [] (aB (aC aF (aA 7) (mC (.int 1))) (aB (aA 9) aD))))
 (bP (eQ (aV (aC eM (aA 10) (mC (.int 0)))) (eQ (aV (bJ gD (aA 11))) (eQ (aV (bJ gD (aA 12))) (aV (bJ gD (aA 13)))))) (aI (bP (eQ (aV (aC eD (aA 10) (mC (.int 0)))) (fU (aV (aC eM (aA 12) (aA 11))) (aV (aC eM (aA 13) (mC (.int 0)))))) (bE (mC (.bl false))) cO)
 (bP (eQ (aV (aC iE (aA 10) (mC (.int 0)))) (fU (aV (aC eM (aA 12) (mC (.int 0)))) (aV (aC eM (aA 13) (aA 11))))) (bE (mC (.bl false))) cO)) cO)))))))
 (bE (mC (.bl true)))))))))))))
def zQ:FM:=aS 1 14 Ca
abbrev yQ(B:Bx):=cD B "sign" 1 ["number"] oP
abbrev Wc(B:Bx):=cD B "divisor" 1 ["one","other"] pX
abbrev Vc(B:Bx):=cD B "reduced" 2 ["numbers"] sK
abbrev Xf(B:Bx):=Gb B "point" 3 ["numbers","bottom"] qP
abbrev Rb(B:Bx):=cD B "whole_arrow" 1 ["start","end"] kX
abbrev zE(B:Bx):=cD B "dot" 1 ["u","v"] oX
abbrev Ye(B:Bx):=cD B "normal" 1 ["arrows"] mZ
abbrev Sb(B:Bx):=cD B "determinant" 2 ["points"] oE
abbrev Cj(B:Bx):=cD B "side" 3 ["points"] nG
abbrev Jd(B:Bx):=Gb B "simplex" 4 ["points"] kF
abbrev pU(B:Bx):=cD B "replaced" 1 ["row","place","value"] jO
abbrev Le(B:Bx):=cD B "height" 2 ["blade","p"] qF
abbrev pV(B:Bx):=cD B "crossing" 4 ["p","q","p_height","q_height"] mW
abbrev Ls(B:Bx):=cD B "parted" 8 ["corners","heights"] nC
abbrev Wb(B:Bx):=cD B "heights_of" 3 ["corners","blade"] kB
abbrev Jl(B:Bx):=cD B "cut" 9 ["heap","blade"] rE
abbrev Gi(B:Bx):=cD B "_law_row" 1 ["_law_script"] oQ
abbrev jP(B:Bx):=cD B "_law_take" 1 ["_law_row_here","_law_many"] cM
abbrev Zh(B:Bx):=cD B "_law_gcd" 1 ["_law_one","_law_other"] qU
abbrev mV(B:Bx):=cD B "_law_lowest" 2 ["_law_numbers"] gG
abbrev Pd(B:Bx):=cD B "_law_whole" 1 ["_law_number"] qB
abbrev Dd(B:Bx):=cD B "_law_wholes" 2 ["_law_told","_law_many"] sV
abbrev wW(B:Bx):=cD B "_law_joined" 3 ["_law_p","_law_q","_law_way"] kE
abbrev yL(B:Bx):=cD B "_law_gap" 1 ["_law_p","_law_q"] iR
abbrev xD(B:Bx):=cD B "_law_cross" 1 ["_law_u","_law_v"] lD
abbrev tN(B:Bx):=cD B "_law_dot" 1 ["_law_u","_law_v"] lV
abbrev xO(B:Bx):=cD B "_law_turn" 2 ["_law_ways"] gH
abbrev tJ(B:Bx):=cD B "_law_det" 3 ["_law_points"] fR
abbrev sB(B:Bx):=cD B "_law_simplex" 4 ["_law_points"] iZ
abbrev Ig(B:Bx):=cD B "_law_gone" 5 ["_law_points","_law_way","_law_far_here"] qL
abbrev Qb(B:Bx):=cD B "_law_point_form" 3 ["_law_p","_law_many"] pR
abbrev Ob(B:Bx):=cD B "_law_simplex_form" 5 ["_law_points","_law_many"] pQ
abbrev Xb(B:Bx):=cD B "_law_heap_form" 6 ["_law_heap","_law_many"] mU
abbrev Fc(B:Bx):=cD B "_law_raw_turn" 3 ["_law_corners"] kY
abbrev Wi(B:Bx):=cD B "_law_raw" 4 ["_law_row_here","_law_dims","_law_wide"] jS
abbrev Ug(B:Bx):=cD B "_law_kuhn" 2 ["_law_row_here"] oN
abbrev Dc(B:Bx):=cD B "_law_raw_heap" 5 ["_law_row_here","_law_dims","_law_many"] oF
abbrev yE(B:Bx):=cD B "_law_far" 3 ["_law_row_here","_law_dims"] lS
abbrev Hg(B:Bx):=cD B "_law_spot" 3 ["_law_corner","_law_stretch"] lL
abbrev Yc(B:Bx):=cD B "_law_handed" 2 ["_law_row_here","_law_rows"] mX
abbrev Te(B:Bx):=cD B "_law_blade" 3 ["_law_points"] lE
abbrev Tb(B:Bx):=cD B "_law_some_blade" 4 ["_law_row_here","_law_heap","_law_dims"] oC
abbrev Ch(B:Bx):=cD B "_law_near" 6 ["_law_row_here","_law_heap"] qH
abbrev Zd(B:Bx):=cD B "_law_place" 4 ["_law_points","_law_p"] qG
abbrev He(B:Bx):=cD B "_law_aside" 4 ["_law_row_here","_law_heap","_law_dims"] lB
abbrev Mc(B:Bx):=cD B "_law_counted" 5 ["_law_heap","_law_p"] gF
structure Mg(mg:Str->AF):Prop where
 m_abs:mg "abs"=none
 m_all:mg "all"=none
 m_any:mg "any"=none
 m_bool:mg "bool"=none
 m_enumerate:mg "enumerate"=none
 m_int:mg "int"=none
 m_isinstance:mg "isinstance"=none
 m_len:mg "len"=none
 m_list:mg "list"=none
 m_max:mg "max"=none
 m_min:mg "min"=none
 m_range:mg "range"=none
 m_sorted:mg "sorted"=none
 m_sum:mg "sum"=none
 m_tuple:mg "tuple"=none
 m_zip:mg "zip"=none
set_option hygiene false
local macro_rules | `(tactic|trivial)=> `(tactic|(first
 |(with_reducible show aU _ _ _ _ _ (aC (nW false) _ _));refine lP De (uT false) ?_ ?_ rfl
 |(with_reducible show aU _ _ _ _ _ (aC (nW true) _ _));refine lP Ec (uT true) ?_ ?_ rfl
 |(with_reducible show eI _ _ _ _ _ (aV (aC (nW false) _ _)));refine lI De (uT false) ?_ ?_ rfl
 |(with_reducible show eI _ _ _ _ _ (aV (aC (nW true) _ _)));refine lI Ec (uT true) ?_ ?_ rfl
 |(with_reducible show dZ _ _ _ _ _ aD);exact Tx
 |(with_reducible show dZ _ _ _ _ _ (aB _ _));refine Rv ?_ ?_
 |(with_reducible show aU _ _ _ _ _ (aA _));exact J9 _
 |(with_reducible show aU _ _ _ _ _ (mC (.int _)));exact F6
 |(with_reducible show aU _ _ _ _ _ (mC (.bl _)));exact Q0
 |(with_reducible show aU _ _ _ _ _ (mC .non));exact J1
 |(with_reducible show aU _ _ _ _ _ (bJ cJ _));refine V4 E7 P7 ?_
 |(with_reducible show aU _ _ _ _ _ (bJ rK _));refine K5 ?_
 |(with_reducible show aU _ _ _ _ _ (aC pH _ _));refine mH Jz W6 ?_ ?_
 |(with_reducible show aU _ _ _ _ _ (aC oZ _ _));refine mH Iz M2 ?_ ?_
 |(with_reducible show aU _ _ _ _ _ (aC aE _ _));refine mH Dx U8 ?_ ?_
 |(with_reducible show aU _ _ _ _ _ (aC dH _ _));refine mH Jj T4 ?_ ?_
 |(with_reducible show aU _ _ _ _ _ (aC bD _ _));refine mH Vz U4 ?_ ?_
 |(with_reducible show aU _ _ _ _ _ (aC iK _ _));refine mH Cv N4 ?_ ?_
 |(with_reducible show aU _ _ _ _ _ (aC eZ _ _));refine mH Ky R3 ?_ ?_
 |(with_reducible show aU _ _ _ _ _ (aC jJ _ _));refine mH E1 U6 ?_ ?_
 |(with_reducible show aU _ _ _ _ _ (aC aF _ _));refine Q6 ?_ ?_
 |(with_reducible show aU _ _ _ _ _ (aC cP _ _));refine lP (El (vI hr)) Qn ?_ ?_ (iS _)
 |(with_reducible show aU _ _ _ _ _ (aC eM _ _));refine lP (Vk (vI hr)) Gn ?_ ?_ (iS _)
 |(with_reducible show aU _ _ _ _ _ (aC iE _ _));refine lP Km Ln ?_ ?_ (iS _)
 |(with_reducible show aU _ _ _ _ _ (aC rY _ _));refine lP Nl Xm ?_ ?_ (iS _)
 |(with_reducible show aU _ _ _ _ _ (aC eD _ _));refine lP Im Vm ?_ ?_ (iS _)
 |(with_reducible show aU _ _ _ _ _ (aC nU _ _));refine lP Rm Cn ?_ ?_ (iS _)
 |(with_reducible show eI _ _ _ _ _ (aV (aC cP _ _)));refine lI (El (vI hr)) Qn ?_ ?_ (iS _)
 |(with_reducible show eI _ _ _ _ _ (aV (aC eM _ _)));refine lI (Vk (vI hr)) Gn ?_ ?_ (iS _)
 |(with_reducible show eI _ _ _ _ _ (aV (aC iE _ _)));refine lI Km Ln ?_ ?_ (iS _)
 |(with_reducible show eI _ _ _ _ _ (aV (aC rY _ _)));refine lI Nl Xm ?_ ?_ (iS _)
 |(with_reducible show eI _ _ _ _ _ (aV (aC eD _ _)));refine lI Im Vm ?_ ?_ (iS _)
 |(with_reducible show eI _ _ _ _ _ (aV (aC nU _ _)));refine lI Rm Cn ?_ ?_ (iS _)
 |(with_reducible show eI _ _ _ _ _ (aV (bJ gD _)));refine O1 ?_
 |(with_reducible show eI _ _ _ _ _ (aV _));refine Sy ?_
 |(with_reducible show eI _ _ _ _ _ (iC _));refine Vw ?_
 |(with_reducible show eI _ _ _ _ _ (eQ _ _));refine iP.pt ?_
 |(with_reducible show eI _ _ _ _ _ (fU _ _));refine iP.pt ?_
 |(with_reducible show iP _ _ _ _ _ (eQ _ _));refine Oz ?_ ?_
 |(with_reducible show iP _ _ _ _ _ (fU _ _));refine L8 ?_ ?_
 |(with_reducible show iP _ _ _ _ _ _);(first |refine Uv ?_ |refine Lx ?_)
 |(with_reducible show aU _ _ _ _ _ (rH _ _));refine F4 ?_ ?_
 |(with_reducible show aU _ _ _ _ _ (mN iV _));refine B5 ?_
 |(with_reducible show aU _ _ _ _ _ (mN eA _));refine F0 ?_
 |(with_reducible show aU _ _ _ _ _ (dP _));refine Mw ?_
 |(with_reducible show aU _ _ _ _ _ (cY _ _ _));refine U3 ?_ ?_ ?_
 |(with_reducible show pM _ _ _ _ _ cX);exact Yt
 |(with_reducible show pM _ _ _ _ _ (cV _));refine Xv ?_
 |(with_reducible show aU _ _ _ _ _ (rG _ _));refine Kz rfl rfl m.m_list ?_ ?_
 |(with_reducible show aU _ _ _ _ _ (rM _));refine N9 rfl rfl m.m_list ?_
 |(with_reducible show aU _ _ _ _ _ (cN _ _));refine At ?_ ?_
 |(with_reducible show aU _ _ _ _ _ (mO _ _));refine M9 ?_ ?_
 |(with_reducible show aU _ _ _ _ _ (uP _ _));refine Zv ?_ ?_
 |(with_reducible show aU _ _ _ _ _ (mG _ _));refine Pr ?_ ?_
 |(with_reducible show aU _ _ _ _ _ (kL _ [] _));refine R5 (by assumption) hr (by decide) rfl ?_
 |(with_reducible show aU _ _ _ _ _ (aO _ [] _));refine O8 (by assumption) hr (by decide) rfl ?_
 |(with_reducible show aU _ _ _ _ _ (oS _ [] _));refine P9 (by assumption) hr (by decide) rfl ?_
 |(with_reducible show aU _ _ _ _ _ (bJ (fB "int") _));refine yX (n:="int") rfl m.m_isinstance rfl m.m_int Lj ?_
 |(with_reducible show aU _ _ _ _ _ (bJ (fB "bool") _));refine yX (n:="bool") rfl m.m_isinstance rfl m.m_bool Az ?_
 |(with_reducible show aU _ _ _ _ _ (bJ (fB "tuple") _));refine yX (n:="tuple") rfl m.m_isinstance rfl m.m_tuple Zf ?_
 |(with_reducible show aU _ _ _ _ _ (nM _));refine Jv rfl rfl m.m_list ?_
 |(with_reducible show aU _ _ _ _ _ (mR cT _));refine lA Wo R6 rfl m.m_len J5 ?_
 |(with_reducible show aU _ _ _ _ _ (mR nO _));refine lA Su V7 rfl m.m_abs O0 ?_
 |(with_reducible show aU _ _ _ _ _ (mR jV _));refine lA (Ju rfl) R7 rfl m.m_all F8 ?_
 |(with_reducible show aU _ _ _ _ _ (mR fK _));refine xH Ro Ly rfl m.m_tuple Zf ?_
 |(with_reducible show aU _ _ _ _ _ (mR jE _));refine xH sA Ow rfl m.m_list My ?_
 |(with_reducible show aU _ _ _ _ _ (mR iB _));refine xH Hs R0 rfl m.m_int Lj ?_
 |(with_reducible show aU _ _ _ _ _ (mR nP _));refine lA (Wr rfl) V3 rfl m.m_sum K4 ?_
 |(with_reducible show aU _ _ _ _ _ (mR nQ _));refine lA (Ir rfl) Q9 rfl m.m_any J8 ?_
 |(with_reducible show aU _ _ _ _ _ (mR oM _));refine lA Mq E6 rfl m.m_sorted Er ?_
 |(with_reducible show aU _ _ _ _ _ (mR rD _));refine lA (Ws rfl) F3 rfl m.m_min K8 ?_
 |(with_reducible show aU _ _ _ _ _ (mR nN _));refine lA (Et rfl) L9 rfl m.m_max N6 ?_
 |(with_reducible show aU _ _ _ _ _ (bF _ _ _ _ _));(first |refine Fy (by first |exact Gm |exact Tk |exact Xj |exact Cl) ?_ rfl (λ_ _ _ _=> ?_) (λ_ _ _ _=> ?_) |refine Bv J4 ?_ rfl (λ_ _ _ _=> ?_) (λ_ _ _ _=> ?_))
 |(with_reducible show PIp _ _ _ _ _ _ (fX _));refine Uw rfl m.m_zip ?_
 |(with_reducible show PIp _ _ _ _ _ _ (uM _));refine Rt rfl m.m_enumerate ?_
 |(with_reducible show PIp _ _ _ _ _ _ (bY _));refine Zq rfl m.m_range ?_
 |(with_reducible show PIp _ _ _ _ _ _ (lJ _));refine Up rfl m.m_range ?_
 |(with_reducible show PIp _ _ _ _ _ _ (bO _));refine Ww ?_
 |(with_reducible show kS _ _ _ (gN _));exact Yv (by first |exact nd |(show(cQ _ _).Nodup;decide+kernel)) rfl (by first |exact gn rfl |exact gr rfl)
 |(with_reducible show kS _ _ _ (gT _ _));refine Qy rfl ?_
 |(with_reducible show pJ _ _ _ eS);exact Ht
 |(with_reducible show pJ _ _ _ (dL _ _));refine Ss ?_ ?_
 |(with_reducible show fF _ _ _ _ _ cO);exact Kt
 |(with_reducible show fF _ _ _ _ _ (aI _ _));refine Us ?_ ?_
 |(with_reducible show fF _ _ _ _ _ _);refine Fu ?_
 |(with_reducible show eE _ _ _ _ _ (bE _));refine Pz ?_
 |(with_reducible show eE _ _ _ _ _ (bP _ _ _));refine G4 ?_ ?_ ?_
 |(with_reducible show eE _ _ _ _ _ (cZ _));refine Wt ?_
 |(with_reducible show eE _ _ _ _ _ (tZ _));exact Fr rfl (by assumption) (by assumption)
 |(with_reducible show eE _ _ _ _ _ (aR _ (bF _ _ _ _ _)));(first |refine Ov nd rfl (by first |exact gn rfl |exact gr rfl) (by first |exact Gm |exact Tk |exact Xj |exact Cl) ?_ rfl (λ_ _ _ _=> ?_) (λ_ _ _ _=> ?_) |refine Yi nd rfl (by first |exact gn rfl |exact gr rfl) ?_)
 |(with_reducible show eE _ _ _ _ _ (aR _ _));refine Yi nd rfl (by first |exact gn rfl |exact gr rfl) ?_
 |(with_reducible show eE _ _ _ _ _ (rO _ _ _));refine Fz rfl nd rfl rfl (by decide) rfl rfl ?_ rfl
 |(with_reducible show eE _ _ _ _ _ (iQ _ _ _));refine Kr ?_ ?_ ?_
 |(with_reducible show eE _ _ _ _ _ (kK _ _));refine Gv nd rfl (by first |exact gn rfl |exact gr rfl) ?_
 |(with_reducible show eE _ _ _ _ _ (lR _ _));refine Es (by first |exact vt |exact vw) ?_ ?_
 |(with_reducible show eE _ _ _ _ _ (nJ _ _ _));exact Gz (by first |exact vt |exact vw) rfl nd rfl rfl rfl (by first |exact gn rfl |exact gr (gn rfl)) (by first |exact gn rfl |exact gr rfl) (by first |exact gn rfl |exact gr (gn rfl)) (by decide) (by decide)
 |(with_reducible show eE _ _ _ _ _ (bZ _ _ _));refine Nz (by first |exact vt |exact vw) rfl ?_ ?_ ?_)<;>trivial)
set_option hygiene true
section
variable{B:Bx}(X:XG B.K B.mg)(m:Mg B.mg)
include X m
theorem Yy(h:HF B.K "sign" Uj):yQ B:=cL (N:=["number"]) X h cC λnd _ _ _ _ _ _ _ hr=>by unfold zJ;trivial
theorem Kq(h:HF B.K "divisor" Ke):Wc B:=cL (N:=["one","other","rest"]) X h cC λnd _ _ _ _ _ _ _ hr=>by unfold xA;trivial
theorem Zp(h:HF B.K "reduced" Ae)(C_divisor:Wc B):Vc B:=cL (N:=["numbers","common","number"]) X h cC λnd _ _ _ _ _ _ _ hr=>by unfold xB;trivial
theorem Eu{f:Addr}{fd:bn}{dsv:Array Value}(F:mL B.K "point" "point" qM f fd dsv)(C_reduced:Vc B)(C_sign:yQ B)(q_NoPoint:B.mg "NoPoint"=some (.ref (B.cl "NoPoint")))(x_NoPoint:je B.K (B.cl "NoPoint") lO "ValueError.__new__"=true):dX B.P B.w B.K B.mg B.base (fZ B.P B.w) 3 f fd ["numbers","bottom"] (jZ B.K B.cl qP):=X9 (N:=["numbers","bottom"]) F cC λnd _ _ _ _ _ _ _ hr=>by unfold yF;trivial
theorem Jo(h:HF B.K "whole_arrow" Ub):Rb B:=cL (N:=["start","end"]) X h cC λnd _ _ _ _ _ _ _ hr=>by unfold wF;trivial
theorem L6(h:HF B.K "dot" Bm):zE B:=cL (N:=["u","v"]) X h cC λnd _ _ _ _ _ _ _ hr=>by unfold zZ;trivial
theorem Ts(h:HF B.K "normal" Bh):Ye B:=cL (N:=["arrows","u","v"]) X h cC λnd _ _ _ _ _ _ _ hr=>by unfold sZ;trivial
theorem Lo(h:HF B.K "determinant" Bc)(C_whole_arrow:Rb B)(C_dot:zE B)(C_normal:Ye B):Sb B:=cL (N:=["points","rows"]) X h cC λnd _ _ _ _ _ _ _ hr=>by unfold rZ;trivial
theorem Sz(h:HF B.K "side" Qk)(C_sign:yQ B)(C_determinant:Sb B):Cj B:=cL (N:=["points"]) X h cC λnd _ _ _ _ _ _ _ hr=>by unfold uB;trivial
theorem Uq(h:HF B.K "simplex" Be)(C_side:Cj B)(q_Flat:B.mg "Flat"=some (.ref (B.cl "Flat")))(x_Flat:je B.K (B.cl "Flat") lO "ValueError.__new__"=true):Jd B:=mkX (N:=["points","corners","turn"]) X h cC λnd _ _ _ _ _ _ _ hr=>by unfold sL;trivial
theorem Mp(h:HF B.K "replaced" Qc):pU B:=cL (N:=["row","place","value"]) X h cC λnd _ _ _ _ _ _ _ hr=>by unfold wO;trivial
theorem Yr(h:HF B.K "height" Lf)(C_dot:zE B):Le B:=cL (N:=["blade","p"]) X h cC λnd _ _ _ _ _ _ _ hr=>by unfold xK;trivial
theorem Ip(h:HF B.K "crossing" Ld)(H_point:Xf B):pV B:=cL (N:=["p","q","p_height","q_height","numbers"]) X h cC λnd _ _ _ _ _ _ _ hr=>by unfold sJ;trivial
theorem Jp(h:HF B.K "parted" oJ):cD B "parted" 1 ["corners","heights"] wX:=cL (N:=["corners","heights","top","low","middle","parts","k"]) X h cC (k:=0) λnd _ _ _ _ _ _ _ hr=>Hw
theorem Cp(h:HF B.K "parted" oJ)(C_crossing:pV B)(C_replaced:pU B):cD B "parted" 5 ["corners","heights"] wS:=by have C_rec:=Jp X m h;exact cL (N:=["corners","heights","top","low","middle","parts","k"]) (k:=4) X h cC λnd _ _ _ _ _ _ _ hr=>by unfold iI;trivial
theorem Qp(h:HF B.K "parted" oJ)(C_crossing:pV B)(C_replaced:pU B):cD B "parted" 6 ["corners","heights"] wQ:=by have C_rec:=Cp X m h C_crossing C_replaced;exact cL (N:=["corners","heights","top","low","middle","parts","k"]) (k:=5) X h cC λnd _ _ _ _ _ _ _ hr=>by unfold iI;trivial
theorem Rp(h:HF B.K "parted" oJ)(C_crossing:pV B)(C_replaced:pU B):cD B "parted" 7 ["corners","heights"] wV:=by have C_rec:=Qp X m h C_crossing C_replaced;exact cL (N:=["corners","heights","top","low","middle","parts","k"]) (k:=6) X h cC λnd _ _ _ _ _ _ _ hr=>by unfold iI;trivial
theorem Dt(h:HF B.K "parted" oJ)(C_crossing:pV B)(C_replaced:pU B):cD B "parted" 8 ["corners","heights"] nC:=by have C_rec:=Rp X m h C_crossing C_replaced;exact cL (N:=["corners","heights","top","low","middle","parts","k"]) (k:=7) X h cC λnd _ _ _ _ _ _ _ hr=>by unfold iI;trivial
theorem Oo(h:HF B.K "heights_of" Gc)(C_height:Le B):Wb B:=cL (N:=["corners","blade"]) X h cC λnd _ _ _ _ _ _ _ hr=>by unfold wH;trivial
theorem A6(h:HF B.K "cut" Dm)(C_parted:Ls B)(C_heights_of:Wb B)(H_simplex:Jd B):Jl B:=cL (N:=["heap","blade","front","behind","piece","part"]) X h cC λnd _ _ _ _ _ _ _ hr=>by unfold zV;trivial
theorem Kx(h:HF B.K "_law_row" Uk):Gi B:=cL (N:=["_law_script","_law_row_here","_law_k","_law_cell","_law_one","_law_two","_law_three"]) X h cC λnd _ _ _ _ _ _ _ hr=>by unfold zL;trivial
theorem Av(h:HF B.K "_law_take" Oh):jP B:=cL (N:=["_law_row_here","_law_many","_law_found"]) X h cC λnd _ _ _ _ _ _ _ hr=>by unfold tL;trivial
theorem Cy(h:HF B.K "_law_gcd" Vj):Zh B:=cL (N:=["_law_one","_law_other"]) X h cC λnd _ _ _ _ _ _ _ hr=>by unfold yU;trivial
theorem Yq(h:HF B.K "_law_lowest" Td)(C_wgcd:Zh B):mV B:=cL (N:=["_law_numbers","_law_by","_law_number"]) X h cC λnd _ _ _ _ _ _ _ hr=>by unfold sO;trivial
theorem Mr(h:HF B.K "_law_whole" Uf):Pd B:=cL (N:=["_law_number"]) X h cC λnd _ _ _ _ _ _ _ hr=>by unfold xR;trivial
theorem Dq(h:HF B.K "_law_wholes" Sd)(C_wwhole:Pd B):Dd B:=cL (N:=["_law_told","_law_many"]) X h cC λnd _ _ _ _ _ _ _ hr=>by unfold xI;trivial
theorem Rq(h:HF B.K "_law_joined" Se)(C_wlowest:mV B):wW B:=cL (N:=["_law_p","_law_q","_law_way","_law_far_here"]) X h cC λnd _ _ _ _ _ _ _ hr=>by unfold xC;trivial
theorem Yx(h:HF B.K "_law_gap" Bl):yL B:=cL (N:=["_law_p","_law_q"]) X h cC λnd _ _ _ _ _ _ _ hr=>by unfold zF;trivial
theorem Xs(h:HF B.K "_law_cross" Eh):xD B:=cL (N:=["_law_u","_law_v","_law_x","_law_y","_law_z"]) X h cC λnd _ _ _ _ _ _ _ hr=>by unfold xX;trivial
theorem Bz(h:HF B.K "_law_dot" Hl):tN B:=cL (N:=["_law_u","_law_v"]) X h cC λnd _ _ _ _ _ _ _ hr=>by unfold zA;trivial
theorem Qv(h:HF B.K "_law_turn" Ti)(C_wdot:tN B)(C_wcross:xD B):xO B:=cL (N:=["_law_ways"]) X h cC λnd _ _ _ _ _ _ _ hr=>by unfold lK;trivial
theorem Ez(h:HF B.K "_law_det" Bk)(C_wturn:xO B)(C_wgap:yL B):tJ B:=cL (N:=["_law_points"]) X h cC λnd _ _ _ _ _ _ _ hr=>by unfold oR;trivial
theorem Dp(h:HF B.K "_law_simplex" Ad)(C_wdet:tJ B):sB B:=cL (N:=["_law_points","_law_told"]) X h cC λnd _ _ _ _ _ _ _ hr=>by unfold sF;trivial
theorem Ew(h:HF B.K "_law_gone" Hi)(C_wsimplex:sB B)(C_wjoined:wW B):Ig B:=cL (N:=["_law_points","_law_way","_law_far_here"]) X h cC λnd _ _ _ _ _ _ _ hr=>by unfold yM;trivial
theorem Io(h:HF B.K "_law_point_form" Vb)(C_wwholes:Dd B)(C_wlowest:mV B):Qb B:=cL (N:=["_law_p","_law_many"]) X h cC λnd _ _ _ _ _ _ _ hr=>by unfold wD;trivial
theorem Fo(h:HF B.K "_law_simplex_form" Pb)(C_wpoint_form:Qb B)(C_wdet:tJ B)(C_wsimplex:sB B):Ob B:=cL (N:=["_law_points","_law_many"]) X h cC λnd _ _ _ _ _ _ _ hr=>by unfold wC;trivial
theorem To(h:HF B.K "_law_heap_form" Cc)(C_wsimplex_form:Ob B):Xb B:=cL (N:=["_law_heap","_law_many"]) X h cC λnd _ _ _ _ _ _ _ hr=>by unfold wI;trivial
theorem Uo(h:HF B.K "_law_raw_turn" Ic)(C_wturn:xO B):Fc B:=cL (N:=["_law_corners"]) X h cC λnd _ _ _ _ _ _ _ hr=>by unfold sD;trivial
theorem Xw(h:HF B.K "_law_raw" Tj)(C_wtake:jP B)(C_wraw_turn:Fc B):Wi B:=cL (N:=["_law_row_here","_law_dims","_law_wide","_law_corners","_law_k"]) X h cC λnd _ _ _ _ _ _ _ hr=>by unfold zI;trivial
theorem Mv(h:HF B.K "_law_kuhn" Zi)(C_wtake:jP B):Ug B:=mkL (N:=["_law_row_here","_law_rest","_law_corner","_law_corners","_law_k","_law_m"]) X h cC λnd _ _ _ _ _ _ _ hr=>by unfold tK;trivial
theorem Zo(h:HF B.K "_law_raw_heap" Kc)(C_wtake:jP B)(C_wraw:Wi B)(C_wkuhn:Ug B):Dc B:=cL (N:=["_law_row_here","_law_dims","_law_many","_law_heap","_law_k","_law_kind"]) X h cC λnd _ _ _ _ _ _ _ hr=>by unfold wL;trivial
theorem Mz(h:HF B.K "_law_far" Fl)(C_wtake:jP B)(C_wlowest:mV B):yE B:=cL (N:=["_law_row_here","_law_dims","_law_kind","_law_wide","_law_under","_law_far_here"]) X h cC λnd _ _ _ _ _ _ _ hr=>by unfold yZ;trivial
theorem Zu(h:HF B.K "_law_spot" Kh)(C_wlowest:mV B):Hg B:=cL (N:=["_law_corner","_law_stretch","_law_under","_law_part","_law_far_here"]) X h cC λnd _ _ _ _ _ _ _ hr=>by unfold tO;trivial
theorem Vp(h:HF B.K "_law_handed" Cf)(C_wtake:jP B):Yc B:=cL (N:=["_law_row_here","_law_rows"]) X h cC λnd _ _ _ _ _ _ _ hr=>by unfold sS;trivial
theorem Jr(h:HF B.K "_law_blade" Fg)(C_wlowest:mV B)(C_wcross:xD B)(C_wgap:yL B)(C_wdot:tN B):Te B:=cL (N:=["_law_points","_law_p","_law_out"]) X h cC λnd _ _ _ _ _ _ _ hr=>by unfold tH;trivial
theorem Mo(h:HF B.K "_law_some_blade" Zb)(C_wtake:jP B)(C_wfar:yE B)(C_wblade:Te B):Tb B:=cL (N:=["_law_row_here","_law_heap","_law_dims","_law_found","_law_k","_law_points","_law_told","_law_far_here"]) X h cC λnd _ _ _ _ _ _ _ hr=>by unfold wE;trivial
theorem Tv(h:HF B.K "_law_near" Gj)(C_wtake:jP B)(C_wgone:Ig B):Ch B:=cL (N:=["_law_row_here","_law_heap","_law_told","_law_points","_law_far_here"]) X h cC λnd _ _ _ _ _ _ _ hr=>by unfold yJ;trivial
theorem Ys(h:HF B.K "_law_place" Of)(C_wdet:tJ B):Zd B:=cL (N:=["_law_points","_law_p","_law_found","_law_whole_here","_law_k","_law_rest","_law_part"]) X h cC λnd _ _ _ _ _ _ _ hr=>by unfold xQ;trivial
theorem Ur(h:HF B.K "_law_aside" Gh)(C_wfar:yE B)(C_wtake:jP B)(C_wjoined:wW B)(C_wlowest:mV B):He B:=cL (N:=["_law_row_here","_law_heap","_law_dims","_law_few","_law_k","_law_points","_law_far_here","_law_half","_law_aside_here"]) X h cC λnd _ _ _ _ _ _ _ hr=>by unfold tI;trivial
theorem Lp(h:HF B.K "_law_counted" Nc)(C_wplace:Zd B):Mc B:=cL (N:=["_law_heap","_law_p","_law_places"]) X h cC λnd _ _ _ _ _ _ _ hr=>by unfold sG;trivial
theorem L7{f:Addr}{fd:bn}(F:gR B.K "law" "law" mJ f fd)(C_wrow:Gi B)(C_wtake:jP B)(C_wraw_heap:Dc B)(C_wnear:Ch B)(C_wsimplex:sB B)(C_wspot:Hg B)(C_wsome_blade:Tb B)(C_cut:Jl B)(C_whanded:Yc B)(C_wheap_form:Xb B)(C_waside:He B)(C_wdot:tN B)(C_wcounted:Mc B):dX B.P B.w B.K B.mg B.base eG 10 f fd ["_law_script"] (jH B.K B.cl zQ):=mkR (N:=["_law_script","_law_row_here","_law_dims","_law_raw_here","_law_one","_law_heap","_law_knife","_law_found","_law_k","_law_p","_law_far_here","_law_due","_law_front","_law_rest"]) F cC λnd _ _ _ _ _ _ _ hr=>by unfold Ca;trivial
end
local macro_rules
 | `(tactic|simp! [$l,*] $[$loc:location]?)=>`(tactic|simp[eR,aI,bP,aV,iC,eQ,fU,rH,aam,mIf,aC,bJ,mR,mN,aB,aA,mC,aD,bI.bind,rJ,jF,mI,zS,fS,rd,mF,gX,cT,iV,eA,cJ,rK,jN,cH.of,bE,O9,cO,cZ,aR,lU,gC,aO,kL,oS,nO,fK,jE,cP,eM,frz,fL,$l,*] $[$loc]?)
theorem Qg(S:aG)(k:Nat)(o:SO):(S.set k o).take S.length=S.set k o:=vz (by simp)
def dY(S:aG)(k:Nat)(ns:AA):Prop:=S[k]?=some (.lst (ns.map .int))
theorem dY.lt{S:aG}{k:Nat}{ns:AA}(h:dY S k ns):k<S.length:=(bf.mp h).1
theorem dY.set{S:aG}{k:Nat}{ns:AA}(h:dY S k ns)(ms:AA):dY (S.set k (.lst (ms.map .int))) k ms:=dg h.lt
theorem Rc{r:bR}{k:Nat}{m:AV}:∀(ns:AA)(S:aG),dY S k ns->∃n ns',dQ (eQ (aV (aC eD (mR cT (aB (aA 0) aD)) (mC (.int 0)))) (aV (aC cP (aC aF (aA 0) (mC (.int 0))) (mC (.int 0))))) (cZ (mO (aA 0) (aB (mC (.int 0)) aD))) n (some (.ref k)::some m::r) S=.nx (some (.ref k)::some m::r) (S.set k (.lst (ns'.map .int)))/\ns'.length<=ns.length/\(ns'=[]\/∃i t,ns'=i::t/\i≠0)
 |[],S,h=>by
  refine⟨1,[],?_,am _,.inl rfl⟩;have h':S[k]?=some (.lst []):=h;have e:S.set k (.lst (([]:AA).map .int))=S:=mx λi=>by
   by_cases q:k=i
   .subst q;rw[dg h.lt,h'];rfl
   .rw[dq q]
  rw[e];simp[dQ,eQ,aV,aC,mR,aB,aA,mC,aD,bI.bind,mI,fS,rd,h',gX,cT,jF,eD,i2,jN,cH.of]
 |i::t,S,h=>by
  have h':S[k]?=some (.lst (.int i::t.map .int)):=h
  by_cases hi:i=0
  .subst hi
   have hr:dY (S.set k (.lst (t.map .int))) k t:=h.set t;obtain⟨n,ns',e,l,q⟩:=Rc (r:=r) (m:=m) t _ hr;refine⟨n+1,ns',?_,by simp;omega,q⟩;rw[jy]at e;rw[<-e];have hl:(0:Int)<(t.length:Int)+1:=by omega
   simp[dQ,eQ,aV,aC,mR,aB,aA,mC,aD,bI.bind,mI,fS,rd,h',gX,cT,jF,eD,i2,jN,cH.of,aF,aY,aZ,cP,aP,cZ,mO,dR,nK,seqIndex?,hl]
  .refine⟨1,i::t,?_,am _,.inr ⟨i,t,rfl,hi⟩⟩
   have e:S.set k (.lst ((i::t).map .int))=S:=mx λj=>by
    by_cases q:k=j
    .subst q;rw[dg h.lt,h'];rfl
    .rw[dq q]
   rw[e];have hl:(0:Int)<(t.length:Int)+1:=by omega
   simp[dQ,eQ,aV,aC,mR,aB,aA,mC,aD,bI.bind,mI,fS,rd,h',gX,cT,jF,eD,i2,jN,cH.of,aF,aY,aZ,cP,aP,hl,hi]
theorem hJ{S:aG}{k:Nat}{ns:AA}{m:Int}(h:dY S k ns)(hm:0<m)(b:Bd 8000 m):∃(v:Int)(ns':AA),cM [.ref k,.pv (.int m)] S=.ok (.pv (.int v)) (S.set k (.lst (ns'.map .int)))/\0<=v/\v<m/\ns'.length<=ns.length:=by
 obtain⟨n,ns',e,l,q⟩:=Rc (r:=[none]) (m:=.pv (.int m)) ns S h;have hr:=h.set ns';have hl1:(S.set k (.lst (ns'.map .int))).length=S.length:=by simp
 have hss:∀x,(S.set k (.lst (ns'.map .int))).set k x=S.set k x:=λx=>jy ..;generalize hS1:S.set k (.lst (ns'.map .int))=S1 at e hr hl1 hss;have w:=xJ e (by simp);rcases q with rfl |⟨i,t,rfl,hi⟩
 .refine⟨0,[],?_,oh 0,hm,ig _⟩
  rw[hS1];have hr':S1[k]?=some (.lst []):=hr;have tk:List.take S.length S1=S1:=vz (by omega);unfold cM aS tL;simp[eR,aI,w,bP,aV,aC,mR,aB,aA,mC,aD,bI.bind,mI,fS,rd,hr',gX,cT,jF,cP,aP,jN,cH.of,bE,lU,gC,tk]
 .have hr':S1[k]?=some (.lst (.int i::t.map .int)):=hr
  refine⟨i.fmod m,i.fdiv m::t,?_,d4 i hm,Int.fmod_lt_of_pos i hm,l⟩;rw[<-hss];have tk:∀x,List.take S.length (S1.set k x)=S1.set k x:=λx=>vz (by simp;omega);have hl:¬((t.length:Int)+1=0):=by omega
  have hq:oY i m:=⟨by omega,b⟩;have hm0:m≠0:=by omega
  unfold cM aS tL;simp[eR,aI,w,bP,aV,aC,mR,aB,aA,mC,aD,bI.bind,mI,fS,rd,hr',gX,cT,jF,cP,aP,jN,cH.of,bE,lU,gC,tk,cO,hl,aR,eZ,iK,i2,cI,aF,aY,aZ,hm0,hq,iQ,dR,kH]
theorem aL(i j:Int):eD (.int i) (.int j)=some (.bl (decide (j<i))):=rfl
theorem aK(i j:Int):iE (.int i) (.int j)=some (.bl (decide (i<j))):=rfl
theorem aM(i j:Int):nU (.int i) (.int j)=some (.bl (decide (j<=i))):=rfl
theorem aN(i j:Int):rY (.int i) (.int j)=some (.bl (decide (i<=j))):=rfl
theorem aJ(i j:Int):dH (.int i) (.int j)=some (.int (i-j)):=rfl
theorem lH{i j:Int}(h:pA i j):bD (.int i) (.int j)=some (.int (i*j)):=by
 simp[bD,i2,cI,h]
theorem xV{i j:Int}(h:oY i j):iK (.int i) (.int j)=some (.int (i.fdiv j)):=by
 simp[iK,i2,cI,h]
theorem lM{i j:Int}(h:j≠0):eZ (.int i) (.int j)=some (.int (i.fmod j)):=by
 simp[eZ,i2,cI,h]
theorem Lh{i j:Int}(h:vD i j):jJ (.int i) (.int j)=some (.int (i^j.toNat)):=by
 simp[jJ,i2,cI,h]
theorem yT(n:Int)(S:aG):oP [.pv (.int n)] S=.ok (.pv (.int (sg n))) S:=by
 unfold oP aS zJ sg
 by_cases h1:0<n
 .simp[eR,aI,bP,aV,aC,aA,mC,bI.bind,jF,rd,gX,eD,i2,jN,cH.of,bE,lU,gC,h1]
 .by_cases h2:n<0
  .simp[eR,aI,bP,aV,aC,aA,mC,bI.bind,jF,rd,gX,eD,iE,i2,jN,cH.of,bE,lU,gC,h1,h2,cO,bJ,rJ,cJ]
  .simp[eR,aI,bP,aV,aC,aA,mC,bI.bind,jF,rd,gX,eD,iE,i2,jN,cH.of,bE,lU,gC,h1,h2,cO,bJ,rJ,cJ]
theorem Yb(S:aG):∀(m:Nat)(a b:Int)(x:AK),b.natAbs<=m->∃(n:Nat)(g:Int)(x':AK),dQ (aV (aC eM (aA 1) (mC (.int 0)))) (aI (aR 2 (aC eZ (aA 0) (aA 1))) (aI (aR 0 (aA 1)) (aR 1 (aA 2)))) n [some (.pv (.int a)),some (.pv (.int b)),x] S=.nx [some (.pv (.int g)),some (.pv (.int 0)),x'] S/\g.natAbs=cr a b
 |0,a,b,x,h=>by
  have hb:b=0:=by omega
  subst hb;refine⟨1,a,x,?_,by simp⟩;simp! [dQ,aF,aY,aZ,aP,aL,aK,aM,aN,aE,aJ]
 |m+1,a,b,x,h=>by
  by_cases hb:b=0
  .subst hb
   refine⟨1,a,x,?_,by simp⟩;simp! [dQ,aF,aY,aZ,aP,aL,aK,aM,aN,aE,aJ]
  .have hl:=Df a hb
   obtain⟨n,g,x',e,q⟩:=Yb S m b (a.fmod b) (some (.pv (.int (a.fmod b)))) (by omega);refine⟨n+1,g,x',?_,by rw[q,Wg]⟩;rw[<-e];simp! [dQ,aF,aY,aZ,aP,aL,aK,aM,aN,aE,aJ,lM hb,hb]
theorem Qq(a b:Int)(S:aG):pX [.pv (.int a),.pv (.int b)] S=.ok (.pv (.int (cr a b:Nat))) S:=by
 obtain⟨n,g,x',e,q⟩:=Yb S b.natAbs a b none (am _);have w:=xJ e (by simp);unfold pX aS xA;have hg:(if g<0 then-g else g)=((cr a b:Nat):Int):=by rw[<-q];exact yY g
 simp! [aF,aY,aZ,aP,aL,aK,aM,aN,aE,aJ,w,hg]
theorem Ud(S:aG):∀(m:Nat)(a b:Int),0<=a->0<=b->b.natAbs<=m->∃(n:Nat),dQ (aV (aC eD (aA 1) (mC (.int 0)))) (rO 0 1 (aB (aA 1) (aB (aC eZ (aA 0) (aA 1)) aD))) n [some (.pv (.int a)),some (.pv (.int b))] S=.nx [some (.pv (.int (cr a b:Nat))),some (.pv (.int 0))] S
 |0,a,b,ha,hb,h=>by
  have hb:b=0:=by omega
  subst hb;have ea:((cr a 0:Nat):Int)=a:=by simp;omega
  refine⟨1,?_⟩;rw[ea];simp! [dQ,aF,aY,aZ,aP,aL,aK,aM,aN,aE,aJ]
 |m+1,a,b,ha,hb,h=>by
  by_cases h0:b=0
  .subst h0
   have ea:((cr a 0:Nat):Int)=a:=by simp;omega
   refine⟨1,?_⟩;rw[ea];simp! [dQ,aF,aY,aZ,aP,aL,aK,aM,aN,aE,aJ]
  .have hl:=Df a h0
   have hp:0<b:=by omega
   obtain⟨n,e⟩:=Ud S m b (a.fmod b) hb (d4 a hp) (by omega);refine⟨n+1,?_⟩;rw[<-Wg,<-e];simp! [dQ,aF,aY,aZ,aP,aL,aK,aM,aN,aE,aJ,lM h0,hp,rO]
theorem A4(a b:Int)(S:aG):qU [.pv (.int a),.pv (.int b)] S=.ok (.pv (.int (cr a b:Nat))) S:=by
 have ha:0<=(if a<0 then-a else a):=by split<;>omega
 have hb:0<=(if b<0 then-b else b):=by split<;>omega
 obtain⟨n,e⟩:=Ud S _ _ _ ha hb (am _);have w:=xJ e (by simp);have eg:cr (if a<0 then-a else a) (if b<0 then-b else b)=cr a b:=by
  rw[yY,yY];simp[cr]
 rw[eg]at w;unfold qU aS yU;simp! [aF,aY,aZ,aP,aL,aK,aM,aN,aE,aJ,w]
theorem xT(S:aG)(v2:AK):∀(ns:AA)(g:Int)(a:AV),∃v',dE [] (gN 2) (aR 1 (aO qU [] (aB (aA 1) (aB (aA 2) aD)))) (ns.map .int) [some a,some (.pv (.int g)),v2] S=.nx [some a,some (.pv (.int (gl ns g))),v'] S
 |[],g,a=>⟨v2,fW⟩
 |n::ns,g,a=>by
  obtain⟨v',e⟩:=xT S (some (.pv (.int n))) ns (cr g n:Nat) a;refine⟨v',?_⟩;show dE [] _ _ (.int n::ns.map .int) _ S=_;rw[eK];simp! [gN,aF,aY,aZ,aP,aL,aK,aM,aN,aE,aJ,A4];exact e
theorem sX(S:aG)(g:Int)(hg:g≠0)(b:Bd 8000 g):∀(ns:AA)(x:AK),bT [] (gN 0) (aC iK (aA 0) (aA 1)) (ns.map .int) [x,some (.pv (.int g))] S=.ok ((ns.map λn=>n.fdiv g).map .int) S
 |[],x=>dC
 |n::ns,x=>by
  have ih:=sX S g hg b ns (some (.pv (.int n)));show bT [] _ _ (.int n::ns.map .int) _ S=_;rw[dG];simp! [gN,aF,aY,aZ,aP,aL,aK,aM,aN,aE,aJ,xV (show oY n g from⟨hg,b⟩),ih]
theorem mY(ns:AA)(S:aG)(hb:∀n∈ns,Bd 8000 n):gG [.pv (.lst (ns.map .int))] S=.ok (.pv (.tup ((low ns).map .int))) S:=by
 obtain⟨v',e⟩:=xT S none ns 0 (.pv (.lst (ns.map .int)));unfold gG aS sO
 by_cases h:gl ns 0=0
 .have el:low ns=ns:=by unfold low;rw[if_pos h]
  simp! [aF,aY,aZ,aP,aL,aK,aM,aN,aE,aJ,bZ,bO,cB,e,h,el]
 .have el:low ns=ns.map λn=>n.fdiv (gl ns 0):=by
   unfold low;rw[if_neg h];exact jc λn hn=>(qk ((jC ns 0).2 n hn)).symm
  have bg:Bd 8000 (gl ns 0):=uG (Bd.of (n:=0) (by simp) (rk 8000)) hb;have ec:=sX S (gl ns 0) h bg ns none;simp! [aF,aY,aZ,aP,aL,aK,aM,aN,aE,aJ,bZ,bO,cB,e,h,el,bF,cF,ec]
theorem Lu(n:Int)(S:aG):qB [.pv (.int n)] S=.ok (.pv (.bl true)) S:=by
 unfold qB aS xR;simp! [aF,aY,aZ,aP,aL,aK,aM,aN,aE,aJ,fB]
theorem Lc(S:aG):∀(ns:AA)(x:AK),bT [] (gN 0) (aO qB [] (aB (aA 0) aD)) (ns.map .int) [x] S=.ok (ns.map λ_=>.bl true) S
 |[],x=>dC
 |n::ns,x=>by
  have ih:=Lc S ns (some (.pv (.int n)));show bT [] _ _ (.int n::ns.map .int) _ S=_;rw[dG];simp! [gN,aF,aY,aZ,aP,aL,aK,aM,aN,aE,aJ,Lu,ih]
theorem Wf:∀(ns:AA),jU (ns.map λ_=>PV.bl true)=some (ns.map λ_=>true)
 |[]=>rfl
 |n::ns=>by
  show jU (.bl true::ns.map λ_=>PV.bl true)=_;unfold jU;rw[Wf ns];rfl
theorem Vs(ns:AA)(S:aG):sV [.pv (.tup (ns.map .int)),.pv (.int ns.length)] S=.ok (.pv (.bl true)) S:=by
 unfold sV aS xI;have e:=Lc S ns none;have ea:((ns.map λ_=>true).all id)=true:=by simp
 simp! [aF,aY,aZ,aP,aL,aK,aM,aN,aE,aJ,fB,bF,bO,cB,cF,e,jV,Wf]
theorem Jh:∀(n:Nat)(ns:AA),hU (br (aP n) (ns.map .int) (ns.map .int))=some (ns.map λ_=>true)
 |n,[]=>rfl
 |n,m::ns=>by
  have ih:=Jh n ns;simp only[ar,jz];have e:aP n (.int m) (.int m)=some true:=by cases n<;>simp[aP]
  rw[e];unfold hU;rw[ih]
theorem Di(n:Nat)(ns:AA):aP (n+1) (.tup (ns.map .int)) (.tup (ns.map .int))=some true:=by
 rw[aP,Jh];simp
theorem Bq(ns:AA)(S:aG)(hb:∀n∈ns,Bd 8000 n):gG [.pv (.tup (ns.map .int))] S=.ok (.pv (.tup ((low ns).map .int))) S:=by
 obtain⟨v',e⟩:=xT S none ns 0 (.pv (.tup (ns.map .int)));unfold gG aS sO
 by_cases h:gl ns 0=0
 .have el:low ns=ns:=by unfold low;rw[if_pos h]
  simp! [aF,aY,aZ,aP,aL,aK,aM,aN,aE,aJ,bZ,bO,cB,e,h,el]
 .have el:low ns=ns.map λn=>n.fdiv (gl ns 0):=by
   unfold low;rw[if_neg h];exact jc λn hn=>(qk ((jC ns 0).2 n hn)).symm
  have bg:Bd 8000 (gl ns 0):=uG (Bd.of (n:=0) (by simp) (rk 8000)) hb;have ec:=sX S (gl ns 0) h bg ns none;simp! [aF,aY,aZ,aP,aL,aK,aM,aN,aE,aJ,bZ,bO,cB,e,h,el,bF,cF,ec]
theorem kJ(i:Int){j:Int}(h1:-(2^64)<j)(h2:j<2^64):bD (.int i) (.int j)=some (.int (i*j)):=lH (.inl (.inr ⟨h1,h2⟩))
theorem Sn:jJ (.int 10) (.int 18)=some (.int 1000000000000000000):=Lh (i:=10) (j:=18) ⟨by decide,by decide,by decide⟩
theorem xL{k:Nat}{a:AV}:∀(cs:AA)(n:Nat)(acc:AA)(S:aG)(v2 v3 v4 v5 v6:AK),dY S k acc->acc.length+cs.length<=63->n+cs.length<=63->∃(acc':AA)(w2 w3 w4 w5 w6:AK),dE [] (gT 2 (dL (gN 2) (dL (gN 3) eS))) ((bP (aV (aC nU (aA 3) (aC jJ (mC (.int 10)) (mC (.int 18))))) (cZ (cN (aA 1) (aB (aC dH (aA 3) (aC jJ (mC (.int 10)) (mC (.int 18)))) aD))) (aI (aR 4 (aC eZ (aC bD (aC aE (aC aE (aC aE (aA 3) (aC bD (aC bD (mC (.int 7)) (aA 2)) (aA 2))) (aC bD (mC (.int 13)) (aA 2))) (mC (.int 5))) (mC (.int 48271))) (mC (.int 2147483647))))
 (aI (aR 5 (aC eZ (aC bD (aC aE (aC aE (aC aE (aA 3) (aC bD (aC bD (mC (.int 11)) (aA 2)) (aA 2))) (aC bD (mC (.int 17)) (aA 2))) (mC (.int 3))) (mC (.int 40692))) (mC (.int 2147483399))))
 (aI (aR 6 (aC eZ (aC bD (aC aE (aC aE (aC aE (aA 3) (aC bD (aC bD (mC (.int 5)) (aA 2)) (aA 2))) (aC bD (mC (.int 29)) (aA 2))) (mC (.int 8))) (mC (.int 39373))) (mC (.int 2147483587))))
 (aI (aR 4 (aC eZ (aC bD (aA 4) (mC (.int 52021))) (mC (.int 1000000007))))
 (aI (aR 5 (aC eZ (aC bD (aA 5) (mC (.int 30011))) (mC (.int 998244353))))
 (aI (aR 6 (aC eZ (aC bD (aA 6) (mC (.int 45989))) (mC (.int 1000000009))))
 (cZ (cN (aA 1) (aB (aC aE (aC bD (aC aE (aC bD (aA 4) (mC (.int 998244353))) (aA 5)) (mC (.int 1000000009))) (aA 6)) aD))))))))))) (iA n (cs.map .int)) [some a,some (.ref k),v2,v3,v4,v5,v6] S=.nx [some a,some (.ref k),w2,w3,w4,w5,w6] (S.set k (.lst (acc'.map .int)))/\acc'.length<=63
 |[],n,acc,S,v2,v3,v4,v5,v6,h,hl,_=>by
  refine⟨acc,v2,v3,v4,v5,v6,?_,by simpa using hl⟩;have e:S.set k (.lst (acc.map .int))=S:=mx λj=>by
   by_cases q:k=j
   .subst q;rw[dg h.lt];exact h.symm
   .rw[dq q]
  rw[e];exact fW
 |x::cs,n,acc,S,v2,v3,v4,v5,v6,h,hl,hn=>by
  simp only[ca]at hl hn;have h':S[k]?=some (.lst (acc.map .int)):=h;have hlen:acc.length<16777216:=by omega
  have hk1:-(2^64)<(n:Int):=by omega
  have hk2:(n:Int)<2^64:=by omega
  by_cases c:(1000000000000000000:Int)<=x
  .obtain⟨acc',w2,w3,w4,w5,w6,e,q⟩:=xL (k:=k) (a:=a) cs (n+1) (acc++[x-1000000000000000000]) (S.set k (.lst ((acc++[x-1000000000000000000]).map .int))) (some (.pv (.int n))) (some (.pv (.int x))) v4 v5 v6 (h.set _) (by simp;omega) (by omega)
   refine⟨acc',w2,w3,w4,w5,w6,?_,q⟩;rw[jy]at e;rw[<-e];show dE [] _ _ (.tup [.int n,.int x]::iA (n+1) (cs.map .int)) _ S=_;rw[eK];simp! [gT,dL,eS,gN,aF,aY,aZ,aP,aL,aK,aM,aN,aE,aJ,Sn,c,cN,dR,fM,h',hlen]
  .obtain⟨acc',w2,w3,w4,w5,w6,e,q⟩:=xL (k:=k) (a:=a) cs (n+1) (acc++[((((x+7*n*n+13*n+5)*48271).fmod 2147483647*52021).fmod 1000000007*998244353+(((x+11*n*n+17*n+3)*40692).fmod 2147483399*30011).fmod 998244353)*1000000009+(((x+5*n*n+29*n+8)*39373).fmod 2147483587*45989).fmod 1000000009]) (S.set k (.lst ((acc++[((((x+7*n*n+13*n+5)*48271).fmod 2147483647*52021).fmod 1000000007*998244353+(((x+11*n*n+17*n+3)*40692).fmod 2147483399*30011).fmod 998244353)*1000000009+(((x+5*n*n+29*n+8)*39373).fmod 2147483587*45989).fmod 1000000009]).map .int))) (some (.pv (.int n))) (some (.pv (.int x))) (some (.pv (.int ((((x+7*n*n+13*n+5)*48271).fmod 2147483647*52021).fmod 1000000007)))) (some (.pv (.int ((((x+11*n*n+17*n+3)*40692).fmod 2147483399*30011).fmod 998244353)))) (some (.pv (.int ((((x+5*n*n+29*n+8)*39373).fmod 2147483587*45989).fmod 1000000009)))) (h.set _) (by simp;omega) (by omega)
   refine⟨acc',w2,w3,w4,w5,w6,?_,q⟩;rw[jy]at e;rw[<-e];show dE [] _ _ (.tup [.int n,.int x]::iA (n+1) (cs.map .int)) _ S=_;rw[eK];simp! [gT,dL,eS,gN,aF,aY,aZ,aP,aL,aK,aM,aN,aE,aJ,Sn,c,cN,dR,fM,h',hlen,kJ _ hk1 hk2,kJ _ (show-(2^64)<(48271:Int) by decide) (by decide),kJ _ (show-(2^64)<(40692:Int) by decide) (by decide),kJ _ (show-(2^64)<(39373:Int) by decide) (by decide),kJ _ (show-(2^64)<(52021:Int) by decide) (by decide),kJ _ (show-(2^64)<(30011:Int) by decide) (by decide),kJ _ (show-(2^64)<(45989:Int) by decide) (by decide),kJ _ (show-(2^64)<(998244353:Int) by decide) (by decide),kJ _ (show-(2^64)<(1000000009:Int) by decide) (by decide),lM (show(2147483647:Int)≠0 by decide),lM (show(2147483399:Int)≠0 by decide),lM (show(2147483587:Int)≠0 by decide),lM (show(1000000007:Int)≠0 by decide),lM (show(998244353:Int)≠0 by decide),lM (show(1000000009:Int)≠0 by decide)]
theorem O6(ns:AA)(S:aG)(h:ns.length<=63):∃ms:AA,oQ [.pv (.lst (ns.map .int))] S=.ok (.ref S.length) (S++[.lst (ms.map .int)])/\ms.length<=63:=by
 have hr:dY (S++[.lst []]) S.length []:=by unfold dY;simp
 obtain⟨ms,w2,w3,w4,w5,w6,e,q⟩:=xL (a:=.pv (.lst (ns.map .int))) ns 0 [] (S++[.lst []]) none none none none none hr (by simpa using h) (by simpa using h);have ec:gM (ns.map .int) none (some 63)=ns.map .int:=by
  unfold gM;have e1:HT.sIx (ns.map PV.int).length 0 none=0:=rfl;have e2:HT.sIx (ns.map PV.int).length (ns.map PV.int).length (some 63)=(ns.map PV.int).length:=by
   have:=HT.sIx_nat (ns.map PV.int).length (ns.map PV.int).length 63;rw[show((63:Nat):Int)=63 from rfl]at this;rw[this,ai];omega
  rw[e1,e2,List.drop_zero,Nat.sub_zero,vf]
 refine⟨ms,?_,q⟩;have es:(S++[SO.lst []]).set S.length (.lst (ms.map .int))=S++[.lst (ms.map .int)]:=by simp
 rw[es]at e;unfold oQ aS zL;simp! [aF,aY,aZ,aP,aL,aK,aM,aN,aE,aJ,bZ,dP,hV,uM,cY,cX,cV,eL,gW,yV,ec,e]
theorem Tw{L:AA}(h:gl L 0=1):low L=L:=by
 unfold low;rw[h,if_neg (by decide)]
 conv=>rhs;rw[<-qm L]
 exact jc λn _=>Int.ediv_one n
def PT(L:AA)(b:Int):AA:=(low (L++[b])).map (sg b*·)
theorem Y9{L:AA}{b:Int}(hb:b≠0):gl (L++[b]) 0≠0:=uF (kG L b) hb
theorem Sj{L:AA}{b:Int}(hb:0<b):PT L b=low (L++[b]):=by
 unfold PT sg;rw[if_pos hb]
 conv=>rhs;rw[<-qm (low (L++[b]))]
 exact jc λn _=>mj n
theorem Eg(S:aG)(v2:AK):∀(ns:AA)(g:Int)(a:AV),∃v',dE [] (gN 2) (aR 1 (aO pX [] (aB (aA 1) (aB (aA 2) aD)))) (ns.map .int) [some a,some (.pv (.int g)),v2] S=.nx [some a,some (.pv (.int (gl ns g))),v'] S
 |[],g,a=>⟨v2,fW⟩
 |n::ns,g,a=>by
  obtain⟨v',e⟩:=Eg S (some (.pv (.int n))) ns (cr g n:Nat) a;refine⟨v',?_⟩;show dE [] _ _ (.int n::ns.map .int) _ S=_;rw[eK];simp! [gN,aF,aY,aZ,aP,aL,aK,aM,aN,aE,aJ,Qq];exact e
theorem Hq(ns:AA)(S:aG)(hb:∀n∈ns,Bd 8000 n)(h:gl ns 0≠0):sK [.pv (.lst (ns.map .int))] S=.ok (.pv (.lst ((low ns).map .int))) S:=by
 obtain⟨v',e⟩:=Eg S none ns 0 (.pv (.lst (ns.map .int)));have el:low ns=ns.map λn=>n.fdiv (gl ns 0):=by
  unfold low;rw[if_neg h];exact jc λn hn=>(qk ((jC ns 0).2 n hn)).symm
 have bg:Bd 8000 (gl ns 0):=uG (Bd.of (n:=0) (by simp) (rk 8000)) hb;have ec:=sX S (gl ns 0) h bg ns none;unfold sK aS xB;simp! [aF,aY,aZ,aP,aL,aK,aM,aN,aE,aJ,bZ,bO,cB,e,h,el,bF,cF,ec]
theorem Ag(S:aG)(b:Int):∀(ns:AA)(x:AK),bT [] (gN 0) (aC bD (aO oP [] (aB (aA 1) aD)) (aA 0)) (ns.map .int) [x,some (.pv (.int b))] S=.ok ((ns.map (sg b*·)).map .int) S
 |[],x=>dC
 |n::ns,x=>by
  have ih:=Ag S b ns (some (.pv (.int n)));have hm:bD (.int (sg b)) (.int n)=some (.int (sg b*n)):=lH (.inl (.inl (Fw b)));show bT [] _ _ (.int n::ns.map .int) _ S=_;rw[dG];simp! [gN,aF,aY,aZ,aP,aL,aK,aM,aN,aE,aJ,yT,hm,ih]
theorem Pg{w:PV}(L:AA)(b:Int)(S:aG)(hw:w=.lst (L.map .int)\/w=.tup (L.map .int))(hL:∀n∈L,Bd 8000 n)(bb:Bd 8000 b)(hb:b≠0)(hl:L.length<=100):qP [.pv w,.pv (.int b)] S=.ok (.pv (.tup ((PT L b).map .int))) S:=by
 have e1:=Hq (L++[b]) S (λn hn=>by
  rcases bj.mp hn with z |z
  .exact hL n z
  .have:n=b:=by simpa using z
   rw[this];exact bb) (Y9 hb)
 have e2:=Ag S b (low (L++[b])) none;have hz:L.length+1<=16777216:=by omega
 simp only[fh,ar,cg]at e1;unfold PT qP aS yF;rcases hw with rfl |rfl<;>simp! [aF,aY,aZ,aP,aL,aK,aM,aN,aE,aJ,hb,hz,e1,bO,cB,bF,cF,e2]
theorem Wu(zs:AA)(z:Int):gM ((zs++[z]).map .int) none (some (-1))=zs.map .int:=by
 unfold gM;have e1:HT.sIx ((zs++[z]).map PV.int).length 0 none=0:=rfl;have e2:HT.sIx ((zs++[z]).map PV.int).length ((zs++[z]).map PV.int).length (some (-1))=zs.length:=by
  rw[ai,bi];exact xW zs.length _
 rw[e1,e2];simp
theorem Is(zs:AA)(z:Int):¬(HT.sIx ((zs++[z]).map PV.int).length 0 none=0/\HT.sIx ((zs++[z]).map PV.int).length ((zs++[z]).map PV.int).length (some (-1))=((zs++[z]).map PV.int).length):=by
 rintro⟨_,e⟩
 have e2:HT.sIx ((zs++[z]).map PV.int).length ((zs++[z]).map PV.int).length (some (-1))=zs.length:=by
  rw[ai,bi];exact xW zs.length _
 rw[e2,ai,bi]at e;simp at e
theorem tE(zs:AA)(z:Int):gW (.tup ((zs++[z]).map .int)) none (some (-1))=some (.tup (zs.map .int)):=by
 unfold gW;dsimp only;rw[if_neg (Is zs z),Wu]
theorem lC(zs:AA)(z:Int):aF (.tup ((zs++[z]).map .int)) (.int (-1))=some (.int z):=by
 show aY ((zs++[z]).map PV.int) (-1)=_;rw[fh];exact Nv _ _
theorem gS{m:Int}(h0:0<=m)(h:m<1024):Bd 8000 m:=Bd.of (n:=1023) (by omega) (cy (show 1023<2^10 by decide) (uo (by decide) (by decide)))
theorem bA(n:Nat)(a b:Int):aP n (.int a) (.int b)=some (a==b):=by cases n<;>rfl
theorem mB{a b:Int}(h:Bd 2000 a)(g:Bd 2000 b):bD (.int a) (.int b)=some (.int (a*b)):=lH (.inr ⟨h.mono (by decide),g.mono (by decide)⟩)
structure Pt(n:Nat)(xs:AA)(w:Int):Prop where
 len:xs.length=n
 pos:0<w
 low:low (xs++[w])=xs++[w]
 bx:∀x∈xs,Bd 300 x
 bw:Bd 300 w
def mv(way:Int)(xs:AA)(w:Int)(ys:AA)(v:Int):AA:=if way=1 then low (sm xs w ys v++[w*v])else low (sm ys v (xs.map (- ·)) w++[v*w])
theorem tT(zs:AA)(z:Int)(j:Nat)(h:j<zs.length):aF (.tup ((zs++[z]).map .int)) (.int (j:Nat))=some (.int (zs.getD j 0)):=by
 show aY ((zs++[z]).map PV.int) (j:Int)=_;refine iJ ?_;rw[ci,dz h,aw h];simp[cf,h]
theorem Sh(S:aG)(PL QL:AI)(xs ys:AA)(w v way:Int)(hp:aF (.tup PL) (.int (-1))=some (.int w))(hq:aF (.tup QL) (.int (-1))=some (.int v))(hpj:∀j:Nat,j<xs.length->aF (.tup PL) (.int (j:Nat))=some (.int (xs.getD j 0)))(hqj:∀j:Nat,j<xs.length->aF (.tup QL) (.int (j:Nat))=some (.int (ys.getD j 0)))
  (hway:way=1\/way=-1)(bw:Bd 1000 w)(bv:Bd 1000 v)(hx:∀j,Bd 1000 (xs.getD j 0))(hy:∀j,Bd 1000 (ys.getD j 0)):∀(js:List Nat)(x:AK),(∀j∈js,j<xs.length)->
  bT [] (gN 0) (aC aE (aC bD (aC bD (aA 1) (aC aF (aA 3) (aA 0))) (aC aF (aA 2) (bJ cJ (mC (.int 1))))) (aC bD (aC aF (aA 2) (aA 0)) (aC aF (aA 3) (bJ cJ (mC (.int 1)))))) (js.map λj=>.int (0+(j:Nat))) [x,some (.pv (.int way)),some (.pv (.tup QL)),some (.pv (.tup PL))] S=.ok ((js.map λj=>way*xs.getD j 0*v+ys.getD j 0*w).map .int) S
 |[],x,_=>dC
 |j::js,x,h=>by
  have ih:=Sh S PL QL xs ys w v way hp hq hpj hqj hway bw bv hx hy js (some (.pv (.int (0+(j:Nat))))) λi hi=>h i (bo _ hi);have e1:=hpj j (h j ce);have e2:=hqj j (h j ce);have b1:Bd 2 way:=by rcases hway with rfl |rfl<;>exact Bd.of (n:=1) (by decide) (by decide)
  have m0:=mB (b1.mono (show 2<=2000 by decide)) ((hx j).mono (show 1000<=2000 by decide));have m1:=mB ((b1.mul (hx j)).mono (show 2+1000<=2000 by decide)) (bv.mono (show 1000<=2000 by decide));have m2:=mB ((hy j).mono (show 1000<=2000 by decide)) (bw.mono (show 1000<=2000 by decide));show bT [] _ _ (.int (0+(j:Nat))::js.map λj=>.int (0+(j:Nat))) _ S=_;rw[dG];simp only[wd]at ih⊢;generalize hX:xs.getD j 0=X at e1 m0 m1;generalize hY:ys.getD j 0=Y at e2 m2;simp! [gN,bA,aL,aK,aM,aN,aE,aJ,e1,e2,hp,hq,m0,m1,m2,ih];simp only[d5]at hX hY;rw[hX,hY]
theorem tM{xs:AA}{k:Nat}(h:∀x∈xs,Bd k x)(j:Nat):Bd k (xs.getD j 0):=by
 by_cases hj:j<xs.length
 .have e:xs.getD j 0=xs[j]:=by simp[cf,hj]
  rw[e];exact h _ (du hj)
 .have e:xs.getD j 0=0:=by simp[cf,hj]
  rw[e];exact Bd.of (n:=0) (by decide) (rk k)
theorem Pe{xs ys:AA}(hl:xs.length=ys.length)(f:Int->Int->Int):(az xs.length).map (λj=>f (xs.getD j 0) (ys.getD j 0))=br f xs ys:=by
 refine zu (by simp[hl]) λi h1 h2=>?_;have hi:i<xs.length:=by simpa using h1
 have hj:i<ys.length:=by omega
 simp[cf,hi,hj]
theorem Xr{xs ys:AA}{w v way:Int}(S:aG)(hl:xs.length=ys.length)(h9:xs.length<=9)(hway:way=1\/way=-1)(hx:∀x∈xs,Bd 1000 x)(hy:∀y∈ys,Bd 1000 y)(bw:Bd 1000 w)(bv:Bd 1000 v):
  kE [.pv (.tup ((xs++[w]).map .int)),.pv (.tup ((ys++[v]).map .int)),.pv (.int way)] S=.ok (.pv (.tup ((low (br (λx y=>way*x*v+y*w) xs ys++[w*v])).map .int))) S:=by
 have ip:=lC xs w;have iq:=lC ys v;have ec:=Sh S _ _ xs ys w v way ip iq (λj h=>tT xs w j h) (λj h=>tT ys v j (by omega)) hway bw bv (tM hx) (tM hy) (az xs.length) none λj hj=>by simpa using hj
 have er:(az xs.length).map (λj=>way*xs.getD j 0*v+ys.getD j 0*w)=br (λx y=>way*x*v+y*w) xs ys:=Pe hl λx y=>way*x*v+y*w;rw[er]at ec;have mm:=mB (bw.mono (show 1000<=2000 by decide)) (bv.mono (show 1000<=2000 by decide));have b1:Bd 2 way:=by rcases hway with rfl |rfl<;>exact Bd.of (n:=1) (by decide) (by decide)
 have el:=mY (br (λx y=>way*x*v+y*w) xs ys++[w*v]) S (λn hn=>by
  rcases bj.mp hn with z |z
  .obtain⟨i,hi,e⟩:=oq z
   rw[we]at e;rw[<-e];exact((((b1.mul (hx _ (du _))).mul bv).mono (show 2+1000+1000<=3000 by decide)).add (((hy _ (du _)).mul bw).mono (show 1000+1000<=3000 by decide))).mono (by decide)
  .have:n=w*v:=by simpa using z
   rw[this];exact(bw.mul bv).mono (by decide))
 have hlen:((xs++[w]).map PV.int).length=xs.length+1:=by simp
 have hz:xs.length+1<=16777216:=by omega
 have hr:iD [.pv (.int (((xs.length+1:Nat):Int)-1))] S=.ok ((az xs.length).map λj=>.int (0+(j:Nat)),[]) S:=by
  unfold iD;dsimp only;rw[if_pos ⟨by omega,by omega⟩];have:(((xs.length+1:Nat):Int)-1).toNat=xs.length:=by omega
  rw[this];rfl
 have hzl:(br (λx y=>way*x*v+y*w) xs ys).length+1<=16777216:=by rw[jo];omega
 simp only[fh,ar,cg]at el;generalize hZ:(br (λx y=>way*x*v+y*w) xs ys).map PV.int=ZL at ec el;have hzl2:ZL.length+1<=16777216:=by rw[<-hZ,ai];exact hzl
 generalize (az xs.length).map (λj=>PV.int (0+(j:Nat)))=RL at ec hr;generalize hP:(xs++[w]).map PV.int=PL at ip ec hlen;generalize (ys++[v]).map PV.int=QL at iq ec;unfold kE aS xC;have hr2:=hr;rw[<-hlen]at hr2;simp! [bA,aL,aK,aM,aN,aE,aJ,bF,bY,hr2,cF,ec,ip,iq,mm,hzl2,el]
theorem Og{k:Nat}{W:Int}(W0:0<=W)(W1:W<=1000000000000):∀(is:AI)(S:aG)(ns:AA)(x:AK),dY S k ns->∃(xs ns':AA),bT [] (gN 0) (aC dH (aO cM [] (aB (aA 2) (aB (aC aE (aC bD (mC (.int 2)) (aA 1)) (mC (.int 1))) aD))) (aA 1)) is [x,some (.pv (.int W)),some (.ref k)] S=.ok (xs.map .int) (S.set k (.lst (ns'.map .int)))/\xs.length=is.length/\∀n∈xs,Bd 50 n
 |[],S,ns,x,h=>by
  refine⟨[],ns,?_,rfl,λ_ h=>absurd h de⟩;have e:S.set k (.lst (ns.map .int))=S:=mx λj=>by
   by_cases q:k=j
   .subst q;rw[dg h.lt];exact h.symm
   .rw[dq q]
  rw[e];exact dC
 |i::is,S,ns,x,h=>by
  obtain⟨t,n1,e1,t0,t1,_⟩:=hJ (m:=2*W+1) h (by omega) ((Bd.of (k:=50) (n:=2000000000001) (by omega) (by decide)).mono (by decide));obtain⟨xs,n2,e2,l2,b2⟩:=Og W0 W1 is _ n1 (some (.pv i)) (h.set n1);rw[jy]at e2;have m2:bD (.int 2) (.int W)=some (.int (2*W)):=lH (.inl (.inl ⟨by decide,by decide⟩));refine⟨(t-W)::xs,n2,?_,by simp[l2],λn hn=>?_⟩
  .rw[dG]
   generalize S.set k (.lst (n1.map .int))=S1 at e1 e2;simp! [gN,aF,aY,aZ,aP,aL,aK,aM,aN,aE,aJ,m2,e1,e2]
  .rcases ay.mp hn with rfl |hn
   .exact Bd.of (n:=1000000000000) (by omega) (by decide)
   .exact b2 n hn
theorem Q4{v:Int}(h0:0<=v)(h1:v<4):∃M:Int,aF (.lst [.int 0,.int 3,.int 9,.int 1000000000000]) (.int v)=some (.int M)/\0<=M/\M<=1000000000000:=by
 have c:v=0\/v=1\/v=2\/v=3:=by omega
 rcases c with rfl |rfl |rfl |rfl
 .exact⟨0,rfl,by decide,by decide⟩
 .exact⟨3,rfl,by decide,by decide⟩
 .exact⟨9,rfl,by decide,by decide⟩
 .exact⟨1000000000000,rfl,by decide,by decide⟩
theorem p12:jJ (.int 10) (.int 12)=some (.int 1000000000000):=Lh (i:=10) (j:=12) ⟨by decide,by decide,by decide⟩
theorem Q3{v:Int}(h0:0<=v)(h1:v<4):0<=v.fdiv 2/\v.fdiv 2<=1:=by
 have c:v=0\/v=1\/v=2\/v=3:=by omega
 rcases c with rfl |rfl |rfl |rfl<;>decide
theorem D8{n k:Nat}{L:AA}{b:Int}(hb:0<b)(hl:L.length=n)(hk:k<=300)(hL:∀x∈L,Bd k x)(bb:Bd k b):∃(zs:AA)(z:Int),low (L++[b])=zs++[z]/\Pt n zs z/\(∀x∈zs,Bd k x)/\Bd k z:=by
 obtain⟨zs,z,g,e,hg,hz,_,_,hzl⟩:=tQ L hb;have hbd:=qZ (k:=k) (ns:=L++[b]) λm hm=>by
  rcases bj.mp hm with y |y
  .exact hL m y
  .have:m=b:=by simpa using y
   rw[this];exact bb
 have hlow:=yO L hb;rw[e]at hbd hlow;have b1:∀x∈zs,Bd k x:=λx hx=>hbd x (iw _ hx);have b2:Bd k z:=hbd z (kG zs z);exact⟨zs,z,e,⟨hzl.trans hl,hz,hlow,λx hx=>(b1 x hx).mono hk,b2.mono hk⟩,b1,b2⟩
theorem M6{S:aG}{k:Nat}{ns:AA}(n:Nat)(hn:n=2\/n=3)(h:dY S k ns):∃(xs:AA)(w:Int)(ns':AA),lS [.ref k,.pv (.int n)] S=.ok (.pv (.tup ((xs++[w]).map .int))) (S.set k (.lst (ns'.map .int)))/\Pt n xs w/\(∀x∈xs,Bd 100 x)/\Bd 100 w:=by
 obtain⟨c,n1,e1,c0,c1,_⟩:=hJ (m:=4) h (by decide) (gS (by decide) (by decide));obtain⟨M,em,M0,M1⟩:=Q4 c0 c1;obtain⟨t,n2,e2,t0,t1,_⟩:=hJ (m:=9) (h.set n1) (by decide) (gS (by decide) (by decide));rw[jy]at e2;obtain⟨xs,n3,e3,l3,b3⟩:=Og M0 M1 (cG 0 n) _ n2 none (h.set n2);rw[jy]at e3;have hc:=Q3 c0 c1;have mt:bD (.int t) (.int (c.fdiv 2))=some (.int (t*c.fdiv 2)):=lH (.inl (.inl ⟨by omega,by omega⟩));have qt:iK (.int c) (.int 2)=some (.int (c.fdiv 2)):=xV ⟨by decide,gS (by decide) (by decide)⟩;have hm:0<=t*c.fdiv 2/\t*c.fdiv 2<=8:=by
  have c2:c.fdiv 2=0\/c.fdiv 2=1:=by omega
  rcases c2 with z |z<;>rw[z]<;>omega
 have lx:xs.length=n:=by rw[l3];unfold cG;simp
 generalize t*c.fdiv 2=tc at mt hm;obtain⟨zs,z,ez,P,b1,b2⟩:=D8 (n:=n) (k:=100) (L:=xs) (b:=1+tc) (by omega) lx (by decide) (λx hx=>(b3 x hx).mono (by decide)) (Bd.of (n:=9) (by omega) (by decide));have el:=mY (xs++[1+tc]) (S.set k (.lst (n3.map .int))) (λm hm=>by
  rcases bj.mp hm with y |y
  .exact(b3 m y).mono (by decide)
  .have:m=1+tc:=by simpa using y
   rw[this];exact(Bd.of (k:=4) (n:=9) (by omega) (by decide)).mono (by decide))
 rw[ez]at el;refine⟨zs,z,n3,?_,P,b1,b2⟩;have tk3:=Qg S k (.lst (n3.map .int));have hz:xs.length+1<=16777216:=by omega
 generalize S.set k (.lst (n1.map .int))=S1 at e1 e2;generalize S.set k (.lst (n2.map .int))=S2 at e2 e3;generalize S.set k (.lst (n3.map .int))=S3 at e3 el tk3;have hr:iD [.pv (.int (n:Int))] S2=.ok (cG 0 n,[]) S2:=by
  unfold iD;dsimp only;rw[if_pos ⟨by omega,by omega⟩];rfl
 conv at el=>lhs;rw[fh]
 simp only[ar,cg]at el;generalize (zs++[z]).map PV.int=ZL at el;unfold lS aS yZ;simp! [bA,aL,aK,aM,aN,aE,aJ,p12,e1,em,e2,mt,qt,bF,bY,hr,cF,e3,hz,el,tk3]
theorem Je{way:Int}(h:way=1\/way=-1)(xs:AA)(w:Int)(ys:AA)(v:Int):low (br (λx y=>way*x*v+y*w) xs ys++[w*v])=mv way xs w ys v:=by
 unfold mv;rcases h with rfl |rfl
 .rw[if_pos rfl,Lq]
 .rw[if_neg (by decide),Ep,ee w v]
structure Pq(n k:Nat)(xs:AA)(w:Int):Prop where
 len:xs.length=n
 pos:0<w
 low:low (xs++[w])=xs++[w]
 bx:∀x∈xs,Bd k x
 bw:Bd k w
def Vl(n:Nat)(xs:AA)(w:Int)(N:Nat->Int)(D:Int):Prop:=∀j,j<n->xs.getD j 0*D=N j*w
theorem Vl.self(n:Nat)(xs:AA)(w:Int):Vl n xs w (λj=>xs.getD j 0) w:=λ_ _=>rfl
theorem tW{a b c:Int}(h:0<c)(e:a*c=b*c):a=b:=Int.eq_of_mul_eq_mul_right (by omega) e
theorem Qw{xs ys:AA}{f:Int->Int->Int}{j:Nat}(h1:j<xs.length)(h2:j<ys.length):(br f xs ys).getD j 0=f (xs.getD j 0) (ys.getD j 0):=by
 have:j<(br f xs ys).length:=by rw[jo];omega
 simp only[cf,aw this,aw h1,aw h2,zq,we]
theorem Q5{n k l:Nat}{way:Int}{xs ys:AA}{w v:Int}(hway:way=1\/way=-1)(P:Pq n k xs w)(Q:Pq n l ys v):∃(zs:AA)(z:Int),mv way xs w ys v=zs++[z]/\Pq n (k+l+1) zs z/\
  ∀(N M:Nat->Int)(D E:Int),Vl n xs w N D->Vl n ys v M E->0<D->0<E->Vl n zs z (λj=>way*N j*E+M j*D) (D*E):=by
 rw[<-Je hway];have hb:=cu P.pos Q.pos;have hl:(br (λx y=>way*x*v+y*w) xs ys).length=n:=by rw[jo,P.len,Q.len];omega
 obtain⟨zs,z,g,e,hg,hz,g1,g2,hzl⟩:=tQ (br (λx y=>way*x*v+y*w) xs ys) hb;have hlow:=yO (br (λx y=>way*x*v+y*w) xs ys) hb;have hbd:=qZ (k:=k+l+1) (ns:=br (λx y=>way*x*v+y*w) xs ys++[w*v]) λm hm=>by
  rcases bj.mp hm with y |y
  .obtain⟨i,hi,e⟩:=oq y
   rw[we]at e;rw[<-e];have b1:=(P.bx _ (du (l:=xs) (n:=i) (by rw[jo]at hi;omega))).mul Q.bw;have b2:=(Q.bx _ (du (l:=ys) (n:=i) (by rw[jo]at hi;omega))).mul P.bw;have b3:Bd (k+l) (way*xs[i]'(by rw[jo]at hi;omega)*v):=by
    rcases hway with rfl |rfl
    .rw[mj];exact b1
    .have:(-1:Int)*xs[i]'(by rw[jo]at hi;omega)*v=-(xs[i]'(by rw[jo]at hi;omega)*v):=by rw[kq,mj,kq]
     rw[this];exact b1.neg
   exact b3.add (b2.mono (by omega))
  .have:m=w*v:=by simpa using y
   rw[this];exact(P.bw.mul Q.bw).mono (by omega)
 rw[e]at hbd hlow;refine⟨zs,z,e,⟨hzl.trans hl,hz,hlow,λx hx=>hbd x (iw _ hx),hbd z (kG zs z)⟩,λN M D E a b hD hE j hj=>?_⟩;have h1:(br (λx y=>way*x*v+y*w) xs ys).getD j 0=g*zs.getD j 0:=by
  rw[g1];have:j<zs.length:=by rw[hzl,hl];exact hj
  simp[cf,this]
 rw[Qw (by rw[P.len];exact hj) (by rw[Q.len];exact hj)]at h1;have a1:=a j hj;have b1:=b j hj;generalize xs.getD j 0=X at a1 h1;generalize ys.getD j 0=Y at b1 h1;generalize zs.getD j 0=Z at h1⊢;show Z*(D*E)=(way*N j*E+M j*D)*z;generalize M j=B,N j=A at *;refine tW (c:=g*(w*v)) (cu hg hb) ?_;have p1:=P.pos;have p2:=Q.pos;have k1:(way*X*v+Y*w)*(D*E)=(way*A*E+B*D)*(w*v):=by grind
 have k2:Z*(D*E)*(g*(w*v))=(way*X*v+Y*w)*(D*E)*(w*v):=by rw[h1];grind
 rw[k2,k1,g2];grind
theorem Pt.pq{n k:Nat}{xs:AA}{w:Int}(P:Pt n xs w)(b:∀x∈xs,Bd k x)(bw:Bd k w):Pq n k xs w:=⟨P.len,P.pos,P.low,b,bw⟩
theorem Pq.mono{n k l:Nat}{xs:AA}{w:Int}(P:Pq n k xs w)(h:k<=l):Pq n l xs w:=⟨P.len,P.pos,P.low,λx hx=>(P.bx x hx).mono h,P.bw.mono h⟩
theorem Jw{xs:AA}{w:Int}{n k:Nat}(S:aG)(hk:k<=2000)(h:Pq n k xs w):pR [.pv (.tup ((xs++[w]).map .int)),.pv (.int n)] S=.ok (.pv (.bl true)) S:=by
 have e1:=Vs (xs++[w]) S;have hl:((xs++[w]).length:Int)=(n:Int)+1:=by simp[h.len]
 rw[hl]at e1;have ip:=lC xs w;have el:=Bq (xs++[w]) S (λm hm=>by
  rcases bj.mp hm with z |z
  .exact(h.bx m z).mono (by omega)
  .have:m=w:=by simpa using z
   rw[this];exact h.bw.mono (by omega))
 rw[h.low]at el;have q:aP 8 (.tup ((xs++[w]).map .int)) (.tup ((xs++[w]).map .int))=some true:=Di 7 _;have hw:¬w<1:=by have:=h.pos;omega
 generalize (xs++[w]).map PV.int=PL at e1 ip el q;unfold pR aS wD;simp! [bA,aL,aK,aM,aN,aE,aJ,e1,ip,hw,el,q]
theorem Ox{n k l:Nat}{way:Int}{xs ys:AA}{w v:Int}(S:aG)(hn:n=2\/n=3)(hway:way=1\/way=-1)(P:Pq n k xs w)(Q:Pq n l ys v)(hk:k<=1000)(hl:l<=1000):kE [.pv (.tup ((xs++[w]).map .int)),.pv (.tup ((ys++[v]).map .int)),.pv (.int way)] S=.ok (.pv (.tup ((mv way xs w ys v).map .int))) S:=by
 have e:=Xr (way:=way) S (P.len.trans Q.len.symm) (by rw[P.len];omega) hway (λx hx=>(P.bx x hx).mono hk) (λx hx=>(Q.bx x hx).mono hl) (P.bw.mono hk) (Q.bw.mono hl);rw[Je hway]at e;exact e
theorem hrg(S:aG):iD [.pv (.int 3)] S=.ok ([.int 0,.int 1,.int 2],[]) S:=by
 have h:cG 0 (3:Int).toNat=[.int 0,.int 1,.int 2]:=rfl;rw[<-h];unfold iD;dsimp only;rw[if_pos ⟨by omega,by omega⟩]
theorem kD:∀is:AA,dM (is.map .int)=some is
 |[]=>rfl
 |i::is=>by
  have ih:=kD is;show(match dM (is.map .int)with |some bs=>some (i::bs) |none=>none)=_
  rw[ih]
theorem Ge(is:AA):nP [.lst (is.map .int)]=some (.int is.sum):=by
 simp only[nP,kD,wg]
theorem Iv(is:AA):nQ [.tup (is.map .int)]=some (.bl (is.any (· !=0))):=by
 simp only[nQ,kD,wg]
def wa(xs:AA)(w:Int)(ys:AA)(v:Int):AA:=br (λx y=>y*w-x*v) xs ys
theorem Ri(S:aG)(PL QL:AI)(w v:Int)(hp:aF (.tup PL) (.int (-1))=some (.int w))(hq:aF (.tup QL) (.int (-1))=some (.int v))(bw:Bd 2000 w)(bv:Bd 2000 v):∀(xs ys:AA)(x y:AK),xs.length=ys.length->(∀x∈xs,Bd 2000 x)->(∀y∈ys,Bd 2000 y)->
  bT [] (gT 2 (dL (gN 0) (dL (gN 1) eS))) (aC dH (aC bD (aA 1) (aC aF (aA 2) (bJ cJ (mC (.int 1))))) (aC bD (aA 0) (aC aF (aA 3) (bJ cJ (mC (.int 1)))))) (eV (xs.map .int) (ys.map .int)) [x,y,some (.pv (.tup PL)),some (.pv (.tup QL))] S=.ok ((wa xs w ys v).map .int) S
 |[],ys,x,y,hl,_,_=>by
  have:ys=[]:=vn.mp hl.symm;subst this;exact dC
 |a::xs,[],x,y,hl,_,_=>by cases hl
 |a::xs,b::ys,x,y,hl,hx,hy=>by
  have ih:=Ri S PL QL w v hp hq bw bv xs ys (some (.pv (.int a))) (some (.pv (.int b))) (by simpa using hl) (λm hm=>hx m (bo _ hm)) (λm hm=>hy m (bo _ hm));have m1:=mB (hx a ce) bv;have m2:=mB (hy b ce) bw;show bT [] _ _ (.tup [.int a,.int b]::eV (xs.map .int) (ys.map .int)) _ S=_;rw[dG];simp! [gT,dL,eS,gN,bA,aL,aK,aM,aN,aE,aJ,hp,hq,m1,m2,ih,wa]
theorem Hf{xs ys:AA}{w v:Int}(S:aG)(hl:xs.length=ys.length)(hx:∀x∈xs,Bd 2000 x)(hy:∀y∈ys,Bd 2000 y)(bw:Bd 2000 w)(bv:Bd 2000 v):
  kX [.pv (.tup ((xs++[w]).map .int)),.pv (.tup ((ys++[v]).map .int))] S=.ok (.pv (.lst ((wa xs w ys v).map .int))) S:=by
 have ip:=lC xs w;have iq:=lC ys v;have sp:=tE xs w;have sq:=tE ys v;have ec:=Ri S _ _ w v ip iq bw bv xs ys none none hl hx hy;generalize (xs++[w]).map PV.int=PL at ip sp ec;generalize (ys++[v]).map PV.int=QL at iq sq ec;unfold kX aS wF;simp! [bA,aL,aK,aM,aN,aE,aJ,bF,fX,jG,cB,cY,cX,cV,eL,sp,sq,cF,ec]
theorem xY(S:aG):∀(us vs:AA)(x y:AK),(∀x∈us,Bd 100000 x)->(∀y∈vs,Bd 100000 y)->
  bT [] (gT 2 (dL (gN 0) (dL (gN 1) eS))) (aC bD (aA 0) (aA 1)) (eV (us.map .int) (vs.map .int)) [x,y] S=.ok ((br (·*·) us vs).map .int) S
 |[],vs,x,y,_,_=>by
  show bT [] _ _ [] _ S=_;exact dC
 |a::us,[],x,y,_,_=>by
  show bT [] _ _ [] _ S=_;exact dC
 |a::us,b::vs,x,y,hx,hy=>by
  have ih:=xY S us vs (some (.pv (.int a))) (some (.pv (.int b))) (λm hm=>hx m (bo _ hm)) (λm hm=>hy m (bo _ hm));have m1:bD (.int a) (.int b)=some (.int (a*b)):=lH (.inr ⟨(hx a ce).mono (by decide),(hy b ce).mono (by decide)⟩);show bT [] _ _ (.tup [.int a,.int b]::eV (us.map .int) (vs.map .int)) _ S=_;rw[dG];simp! [gT,dL,eS,gN,bA,aL,aK,aM,aN,aE,aJ,m1,ih]
def dt(us vs:AA):Int:=(br (·*·) us vs).sum
def Sq(A:PV)(us:AA):Prop:=A=.lst (us.map .int)\/A=.tup (us.map .int)
theorem zN{A B:PV}{us vs:AA}(S:aG)(hA:Sq A us)(hB:Sq B vs)(hx:∀x∈us,Bd 100000 x)(hy:∀y∈vs,Bd 100000 y):oX [.pv A,.pv B] S=.ok (.pv (.int (dt us vs))) S:=by
 have ec:=xY S us vs none none hx hy;have es:=Ge (br (·*·) us vs);unfold dt;generalize (br (·*·) us vs).map PV.int=ZL at ec es;generalize (br (·*·) us vs).sum=Z at es;unfold oX aS zZ;rcases hA with rfl |rfl<;>rcases hB with rfl |rfl<;>
  (generalize us.map PV.int=UL at ec⊢;generalize vs.map PV.int=VL at ec⊢;simp! [bA,aL,aK,aM,aN,aE,aJ,bF,fX,jG,cB,cF,ec,es])
theorem qJ{A B:PV}{us vs:AA}(S:aG)(hA:Sq A us)(hB:Sq B vs)(hx:∀x∈us,Bd 100000 x)(hy:∀y∈vs,Bd 100000 y):lV [.pv A,.pv B] S=.ok (.pv (.int (dt us vs))) S:=by
 have ec:=xY S us vs none none hx hy;have es:=Ge (br (·*·) us vs);unfold dt;generalize (br (·*·) us vs).map PV.int=ZL at ec es;generalize (br (·*·) us vs).sum=Z at es;unfold lV aS zA;rcases hA with rfl |rfl<;>rcases hB with rfl |rfl<;>
  (generalize us.map PV.int=UL at ec⊢;generalize vs.map PV.int=VL at ec⊢;simp! [bA,aL,aK,aM,aN,aE,aJ,bF,fX,jG,cB,cF,ec,es])
theorem eO{k l:Nat}{a b:Int}(h:Bd k a)(g:Bd l b)(hk:k<=1000000:=by decide)(hl:l<=1000000:=by decide):bD (.int a) (.int b)=some (.int (a*b)):=lH (.inr ⟨h.mono hk,g.mono hl⟩)
theorem Zx(a b:Int)(S:aG):mZ [.pv (.lst [.lst [.int a,.int b]])] S=.ok (.pv (.lst [.int (-b),.int a])) S:=by
 unfold mZ aS sZ;simp! [aF,aY,aZ,aP,aL,aK,aM,aN,aE,aJ]
theorem Ui{a b c d e f:Int}(S:aG)(ha:Bd 10000 a)(hb:Bd 10000 b)(hc:Bd 10000 c)(hd:Bd 10000 d)(he:Bd 10000 e)(hf:Bd 10000 f):mZ [.pv (.lst [.lst [.int a,.int b,.int c],.lst [.int d,.int e,.int f]])] S=.ok (.pv (.lst [.int (b*f-c*e),.int (c*d-a*f),.int (a*e-b*d)])) S:=by
 have m1:=eO hb hf;have m2:=eO hc he;have m3:=eO hc hd;have m4:=eO ha hf;have m5:=eO ha he;have m6:=eO hb hd;unfold mZ aS sZ;simp! [aF,aY,aZ,aP,aL,aK,aM,aN,aE,aJ,m1,m2,m3,m4,m5,m6]
theorem qE{A B:PV}{a b c d e f:Int}(S:aG)(hA:Sq A [a,b,c])(hB:Sq B [d,e,f])(ha:Bd 10000 a)(hb:Bd 10000 b)(hc:Bd 10000 c)(hd:Bd 10000 d)(he:Bd 10000 e)(hf:Bd 10000 f):lD [.pv A,.pv B] S=.ok (.pv (.lst [.int (b*f-c*e),.int (c*d-a*f),.int (a*e-b*d)])) S:=by
 have m1:=eO hb hf;have m2:=eO hc he;have m3:=eO hc hd;have m4:=eO ha hf;have m5:=eO ha he;have m6:=eO hb hd;unfold lD aS xX;rcases hA with rfl |rfl<;>rcases hB with rfl |rfl<;>simp! [aF,aY,aZ,aP,aL,aK,aM,aN,aE,aJ,m1,m2,m3,m4,m5,m6]
structure P2(x y w:Int):Prop where
 bx:Bd 1000 x
 by_:Bd 1000 y
 bw:Bd 1000 w
 pos:0<w
structure P3(x y z w:Int):Prop where
 bx:Bd 1000 x
 by_:Bd 1000 y
 bz:Bd 1000 z
 bw:Bd 1000 w
 pos:0<w
abbrev v2(x y w:Int):PV:=.tup [.int x,.int y,.int w]
abbrev v3(x y z w:Int):PV:=.tup [.int x,.int y,.int z,.int w]
def Sv(A:PV)(L:AI):Prop:=A=.lst L\/A=.tup L
theorem Um(p:PV)(L:AI):gM (p::L) (some 1) none=L:=by
 unfold gM;have e1:HT.sIx (p::L).length 0 (some 1)=1:=by
  rw[show(some (1:Int))=some ((1:Nat):Int) from rfl,HT.sIx_nat,ca];omega
 rw[e1];show((p::L).drop 1).take ((p::L).length-1)=L;simp
theorem mE(p:PV)(L:AI):gW (.lst (p::L)) (some 1) none=some (.lst L):=by
 unfold gW;dsimp only;rw[Um]
theorem uE(p:PV)(L:AI):gW (.tup (p::L)) (some 1) none=some (.tup L):=by
 unfold gW;dsimp only;have e1:HT.sIx (p::L).length 0 (some 1)=1:=by
  rw[show(some (1:Int))=some ((1:Nat):Int) from rfl,HT.sIx_nat,ca];omega
 rw[if_neg (by rw[e1];simp),Um]
theorem Sk(L:AI)(p:PV):gW (.lst (L++[p])) none (some (-1))=some (.lst L):=by
 unfold gW;dsimp only;unfold gM;have e1:HT.sIx (L++[p]).length (L++[p]).length (some (-1))=L.length:=by
  rw[bi];exact xW L.length _
 rw[e1];show some (PV.lst (((L++[p]).drop 0).take (L.length-0)))=_;simp
theorem Ck{x0 y0 w0 x1 y1 w1:Int}(S:aG)(p:P2 x0 y0 w0)(q:P2 x1 y1 w1):kX [.pv (v2 x0 y0 w0),.pv (v2 x1 y1 w1)] S=.ok (.pv (.lst [.int (x1*w0-x0*w1),.int (y1*w0-y0*w1)])) S:=by
 have e:=Hf (xs:=[x0,y0]) (ys:=[x1,y1]) (w:=w0) (v:=w1) S rfl (by simp;exact⟨p.bx.mono (by decide),p.by_.mono (by decide)⟩) (by simp;exact⟨q.bx.mono (by decide),q.by_.mono (by decide)⟩) (p.bw.mono (by decide)) (q.bw.mono (by decide));exact e
theorem qT{x0 y0 z0 w0 x1 y1 z1 w1:Int}(S:aG)(p:P3 x0 y0 z0 w0)(q:P3 x1 y1 z1 w1):kX [.pv (v3 x0 y0 z0 w0),.pv (v3 x1 y1 z1 w1)] S=.ok (.pv (.lst [.int (x1*w0-x0*w1),.int (y1*w0-y0*w1),.int (z1*w0-z0*w1)])) S:=by
 have e:=Hf (xs:=[x0,y0,z0]) (ys:=[x1,y1,z1]) (w:=w0) (v:=w1) S rfl (by simp;exact⟨p.bx.mono (by decide),p.by_.mono (by decide),p.bz.mono (by decide)⟩) (by simp;exact⟨q.bx.mono (by decide),q.by_.mono (by decide),q.bz.mono (by decide)⟩) (p.bw.mono (by decide)) (q.bw.mono (by decide));exact e
theorem sb{x0 w0 x1 w1:Int}(a:Bd 1000 x0)(b:Bd 1000 w0)(c:Bd 1000 x1)(d:Bd 1000 w1):Bd 2001 (x1*w0-x0*w1):=((c.mul b).mono (show 1000+1000<=2000 by decide)).sub ((a.mul d).mono (show 1000+1000<=2000 by decide))
theorem cb{a b c d:Int}(h1:Bd 2001 a)(h2:Bd 2001 b)(h3:Bd 2001 c)(h4:Bd 2001 d):Bd 4003 (a*b-c*d):=((h1.mul h2).mono (show 2001+2001<=4002 by decide)).sub ((h3.mul h4).mono (show 2001+2001<=4002 by decide))
def D2(x0 y0 w0 x1 y1 w1 x2 y2 w2:Int):Int:=w0*(x1*y2-y1*x2)-w1*(x0*y2-y0*x2)+w2*(x0*y1-y0*x1)
def D3(x0 y0 z0 w0 x1 y1 z1 w1 x2 y2 z2 w2 x3 y3 z3 w3:Int):Int:=
 w0*((y1*z2-z1*y2)*x3+(z1*x2-x1*z2)*y3+(x1*y2-y1*x2)*z3)-w1*((y0*z2-z0*y2)*x3+(z0*x2-x0*z2)*y3+(x0*y2-y0*x2)*z3)
 +w2*((y0*z1-z0*y1)*x3+(z0*x1-x0*z1)*y3+(x0*y1-y0*x1)*z3)-w3*((y0*z1-z0*y1)*x2+(z0*x1-x0*z1)*y2+(x0*y1-y0*x1)*z2)
theorem W4(x0 y0 w0 x1 y1 w1 x2 y2 w2:Int):dt [-(y1*w0-y0*w1),x1*w0-x0*w1] [x2*w0-x0*w2,y2*w0-y0*w2]=w0*D2 x0 y0 w0 x1 y1 w1 x2 y2 w2:=by
 simp only[dt,D2,jz,my,jf,ka];grind
theorem Ja(x0 y0 z0 w0 x1 y1 z1 w1 x2 y2 z2 w2 x3 y3 z3 w3:Int):dt [(y1*w0-y0*w1)*(z2*w0-z0*w2)-(z1*w0-z0*w1)*(y2*w0-y0*w2),(z1*w0-z0*w1)*(x2*w0-x0*w2)-(x1*w0-x0*w1)*(z2*w0-z0*w2),(x1*w0-x0*w1)*(y2*w0-y0*w2)-(y1*w0-y0*w1)*(x2*w0-x0*w2)] [x3*w0-x0*w3,y3*w0-y0*w3,z3*w0-z0*w3]=w0*w0*D3 x0 y0 z0 w0 x1 y1 z1 w1 x2 y2 z2 w2 x3 y3 z3 w3:=by
 simp only[dt,D3,jz,my,jf,ka];grind
theorem jD{w d:Int}(h:0<w):sg (w*d)=sg d:=by
 unfold sg
 by_cases h1:0<d
 .rw[if_pos (cu h h1),if_pos h1]
 .by_cases h2:d<0
  .have:w*d<0:=wj h h2
   rw[if_neg (by omega),if_pos this,if_neg h1,if_pos h2]
  .have:d=0:=by omega
   subst this;rw[kr]
theorem Py{A:PV}{x0 y0 w0 x1 y1 w1 x2 y2 w2:Int}(S:aG)(hA:Sv A [v2 x0 y0 w0,v2 x1 y1 w1,v2 x2 y2 w2])(p:P2 x0 y0 w0)(q:P2 x1 y1 w1)(r:P2 x2 y2 w2):oE [.pv A] S=.ok (.pv (.int (w0*D2 x0 y0 w0 x1 y1 w1 x2 y2 w2))) S:=by
 have a1:=Ck S p q;have a2:=Ck S p r;have bu:=sb p.bx p.bw q.bx q.bw;have bv:=sb p.by_ p.bw q.by_ q.bw;have bu2:=sb p.bx p.bw r.bx r.bw;have bv2:=sb p.by_ p.bw r.by_ r.bw;have id:=W4 x0 y0 w0 x1 y1 w1 x2 y2 w2;generalize y2*w0-y0*w2=V1,x2*w0-x0*w2=V0,y1*w0-y0*w1=U1,x1*w0-x0*w1=U0,w0*D2 x0 y0 w0 x1 y1 w1 x2 y2 w2=D at *;have en:=Zx U0 U1 S;have ed:=zN (A:=.lst [.int (-U1),.int U0]) (B:=.lst [.int V0,.int V1]) (us:=[-U1,U0]) (vs:=[V0,V1]) S (.inl rfl) (.inl rfl) (by simp;exact⟨bv.neg.mono (by decide),bu.mono (by decide)⟩) (by simp;exact⟨bu2.mono (by decide),bv2.mono (by decide)⟩);rw[id]at ed;have pre:=Sk [.lst [.int U0,.int U1]] (.lst [.int V0,.int V1]);simp only[iu,dw]at pre;generalize v2 x2 y2 w2=R,v2 x1 y1 w1=Q,v2 x0 y0 w0=P at *;unfold oE aS rZ;rcases hA with rfl |rfl
 .have s1:=mE P [Q,R]
  simp! [aF,aY,aZ,aP,aL,aK,aM,aN,aE,aJ,bF,bO,cB,cY,cX,cV,eL,s1,cF,dG,dC,gN,a1,a2,pre,en,ed]
 .have s1:=uE P [Q,R]
  simp! [aF,aY,aZ,aP,aL,aK,aM,aN,aE,aJ,bF,bO,cB,cY,cX,cV,eL,s1,cF,dG,dC,gN,a1,a2,pre,en,ed]
theorem Cz{A:PV}{x0 y0 z0 w0 x1 y1 z1 w1 x2 y2 z2 w2 x3 y3 z3 w3:Int}(S:aG)(hA:Sv A [v3 x0 y0 z0 w0,v3 x1 y1 z1 w1,v3 x2 y2 z2 w2,v3 x3 y3 z3 w3])(p:P3 x0 y0 z0 w0)(q:P3 x1 y1 z1 w1)(r:P3 x2 y2 z2 w2)(s:P3 x3 y3 z3 w3):oE [.pv A] S=.ok (.pv (.int (w0*w0*D3 x0 y0 z0 w0 x1 y1 z1 w1 x2 y2 z2 w2 x3 y3 z3 w3))) S:=by
 have a1:=qT S p q;have a2:=qT S p r;have a3:=qT S p s;have b1:=sb p.bx p.bw q.bx q.bw;have b2:=sb p.by_ p.bw q.by_ q.bw;have b3:=sb p.bz p.bw q.bz q.bw;have b4:=sb p.bx p.bw r.bx r.bw;have b5:=sb p.by_ p.bw r.by_ r.bw;have b6:=sb p.bz p.bw r.bz r.bw;have b7:=sb p.bx p.bw s.bx s.bw;have b8:=sb p.by_ p.bw s.by_ s.bw;have b9:=sb p.bz p.bw s.bz s.bw;have id:=Ja x0 y0 z0 w0 x1 y1 z1 w1 x2 y2 z2 w2 x3 y3 z3 w3;generalize z3*w0-z0*w3=T2,y3*w0-y0*w3=T1,x3*w0-x0*w3=T0,z2*w0-z0*w2=V2,y2*w0-y0*w2=V1,x2*w0-x0*w2=V0,z1*w0-z0*w1=U2,y1*w0-y0*w1=U1,x1*w0-x0*w1=U0,w0*w0*D3 x0 y0 z0 w0 x1 y1 z1 w1 x2 y2 z2 w2 x3 y3 z3 w3=D at *;have h:∀{a:Int},Bd 2001 a->Bd 10000 a:=λh=>h.mono (by decide);have h4:∀{a:Int},Bd 4003 a->Bd 100000 a:=λh=>h.mono (by decide);have h2:∀{a:Int},Bd 2001 a->Bd 100000 a:=λh=>h.mono (by decide);have en:=Ui S (h b1) (h b2) (h b3) (h b4) (h b5) (h b6);have c1:=cb b2 b6 b3 b5;have c2:=cb b3 b4 b1 b6;have c3:=cb b1 b5 b2 b4;have ed:=zN (A:=.lst [.int (U1*V2-U2*V1),.int (U2*V0-U0*V2),.int (U0*V1-U1*V0)]) (B:=.lst [.int T0,.int T1,.int T2]) (us:=[U1*V2-U2*V1,U2*V0-U0*V2,U0*V1-U1*V0]) (vs:=[T0,T1,T2]) S (.inl rfl) (.inl rfl) (by simp;exact⟨h4 c1,h4 c2,h4 c3⟩) (by simp;exact⟨h2 b7,h2 b8,h2 b9⟩);rw[id]at ed;generalize U0*V1-U1*V0=N2,U2*V0-U0*V2=N1,U1*V2-U2*V1=N0 at *;have pre:=Sk [.lst [.int U0,.int U1,.int U2],.lst [.int V0,.int V1,.int V2]] (.lst [.int T0,.int T1,.int T2]);simp only[iu,dw]at pre;generalize v3 x3 y3 z3 w3=T,v3 x2 y2 z2 w2=R,v3 x1 y1 z1 w1=Q,v3 x0 y0 z0 w0=P at *;unfold oE aS rZ;rcases hA with rfl |rfl
 .have s1:=mE P [Q,R,T]
  simp! [aF,aY,aZ,aP,aL,aK,aM,aN,aE,aJ,bF,bO,cB,cY,cX,cV,eL,s1,cF,dG,dC,gN,a1,a2,a3,pre,en,ed]
 .have s1:=uE P [Q,R,T]
  simp! [aF,aY,aZ,aP,aL,aK,aM,aN,aE,aJ,bF,bO,cB,cY,cX,cV,eL,s1,cF,dG,dC,gN,a1,a2,a3,pre,en,ed]
theorem Hv{A:PV}{x0 y0 w0 x1 y1 w1 x2 y2 w2:Int}(S:aG)(hA:Sv A [v2 x0 y0 w0,v2 x1 y1 w1,v2 x2 y2 w2])(p:P2 x0 y0 w0)(q:P2 x1 y1 w1)(r:P2 x2 y2 w2):nG [.pv A] S=.ok (.pv (.int (sg (D2 x0 y0 w0 x1 y1 w1 x2 y2 w2)))) S:=by
 have e1:=Py S hA p q r;have e2:=yT (w0*D2 x0 y0 w0 x1 y1 w1 x2 y2 w2) S;rw[jD p.pos]at e2;unfold nG aS uB;simp! [aF,aY,aZ,aP,aL,aK,aM,aN,aE,aJ,e1,e2]
theorem Qt{A:PV}{x0 y0 z0 w0 x1 y1 z1 w1 x2 y2 z2 w2 x3 y3 z3 w3:Int}(S:aG)(hA:Sv A [v3 x0 y0 z0 w0,v3 x1 y1 z1 w1,v3 x2 y2 z2 w2,v3 x3 y3 z3 w3])(p:P3 x0 y0 z0 w0)(q:P3 x1 y1 z1 w1)(r:P3 x2 y2 z2 w2)(s:P3 x3 y3 z3 w3):nG [.pv A] S=.ok (.pv (.int (sg (D3 x0 y0 z0 w0 x1 y1 z1 w1 x2 y2 z2 w2 x3 y3 z3 w3)))) S:=by
 have e1:=Cz S hA p q r s;have e2:=yT (w0*w0*D3 x0 y0 z0 w0 x1 y1 z1 w1 x2 y2 z2 w2 x3 y3 z3 w3) S;rw[jD (cu p.pos p.pos)]at e2;unfold nG aS uB;simp! [aF,aY,aZ,aP,aL,aK,aM,aN,aE,aJ,e1,e2]
def Gp(n k:Nat)(v:PV):Prop:=∃xs w,v=.tup ((xs++[w]).map .int)/\Pq n k xs w
theorem Gp.two{v:PV}(h:Gp 2 1000 v):∃x y w,v=v2 x y w/\P2 x y w:=by
 obtain⟨xs,w,rfl,P⟩:=h
 match xs,P.len with
 |[x,y],_=>exact⟨x,y,w,rfl,P.bx x (by simp),P.bx y (by simp),P.bw,P.pos⟩
theorem Gp.three{v:PV}(h:Gp 3 1000 v):∃x y z w,v=v3 x y z w/\P3 x y z w:=by
 obtain⟨xs,w,rfl,P⟩:=h
 match xs,P.len with
 |[x,y,z],_=>exact⟨x,y,z,w,rfl,P.bx x (by simp),P.bx y (by simp),P.bx z (by simp),P.bw,P.pos⟩
theorem M8{n k m:Nat}{v:PV}(h:Gp n k v):aP (m+1) v v=some true:=by
 obtain⟨xs,w,rfl,_⟩:=h;exact Di m _
theorem Tc:∀L:AI,∀m,(∀v∈L,aP m v v=some true)->hU (br (aP m) L L)=some (L.map λ_=>true)
 |[],m,_=>rfl
 |v::L,m,h=>by
  rw[jz,h v ce,hU,Tc L m λu hu=>h u (bo _ hu)];rfl
theorem Bu{m:Nat}{L:AI}(h:∀v∈L,aP m v v=some true):aP (m+1) (.tup L) (.tup L)=some true:=by
 rw[aP,Tc L m h];simp
theorem Dh(S:aG)(PL QL:AI)(xs ys:AA)(w v:Int)(hp:aF (.tup PL) (.int (-1))=some (.int w))(hq:aF (.tup QL) (.int (-1))=some (.int v))(hpj:∀j:Nat,j<xs.length->aF (.tup PL) (.int (j:Nat))=some (.int (xs.getD j 0)))(hqj:∀j:Nat,j<xs.length->aF (.tup QL) (.int (j:Nat))=some (.int (ys.getD j 0)))
  (bw:Bd 1000 w)(bv:Bd 1000 v)(hx:∀j,Bd 1000 (xs.getD j 0))(hy:∀j,Bd 1000 (ys.getD j 0)):∀(js:List Nat)(x:AK),(∀j∈js,j<xs.length)->
  bT [] (gN 0) (aC dH (aC bD (aC aF (aA 1) (aA 0)) (aC aF (aA 2) (bJ cJ (mC (.int 1))))) (aC bD (aC aF (aA 2) (aA 0)) (aC aF (aA 1) (bJ cJ (mC (.int 1)))))) (js.map λj=>.int (0+(j:Nat))) [x,some (.pv (.tup QL)),some (.pv (.tup PL))] S=.ok ((js.map λj=>ys.getD j 0*w-xs.getD j 0*v).map .int) S
 |[],x,_=>dC
 |j::js,x,h=>by
  have ih:=Dh S PL QL xs ys w v hp hq hpj hqj bw bv hx hy js (some (.pv (.int (0+(j:Nat))))) λi hi=>h i (bo _ hi);have e1:=hpj j (h j ce);have e2:=hqj j (h j ce);have m1:=mB ((hx j).mono (show 1000<=2000 by decide)) (bv.mono (show 1000<=2000 by decide));have m2:=mB ((hy j).mono (show 1000<=2000 by decide)) (bw.mono (show 1000<=2000 by decide));show bT [] _ _ (.int (0+(j:Nat))::js.map λj=>.int (0+(j:Nat))) _ S=_;rw[dG];simp only[wd]at ih⊢;generalize hX:xs.getD j 0=X at e1 m1;generalize hY:ys.getD j 0=Y at e2 m2;simp! [gN,bA,aL,aK,aM,aN,aE,aJ,e1,e2,hp,hq,m1,m2,ih];simp only[d5]at hX hY;rw[hX,hY]
theorem Jk{xs ys:AA}{w v:Int}(S:aG)(hl:xs.length=ys.length)(h9:xs.length<=9)(hx:∀x∈xs,Bd 1000 x)(hy:∀y∈ys,Bd 1000 y)(bw:Bd 1000 w)(bv:Bd 1000 v):
  iR [.pv (.tup ((xs++[w]).map .int)),.pv (.tup ((ys++[v]).map .int))] S=.ok (.pv (.lst ((wa xs w ys v).map .int))) S:=by
 have ip:=lC xs w;have iq:=lC ys v;have ec:=Dh S _ _ xs ys w v ip iq (λj h=>tT xs w j h) (λj h=>tT ys v j (by omega)) bw bv (tM hx) (tM hy) (az xs.length) none λj hj=>by simpa using hj
 have er:(az xs.length).map (λj=>ys.getD j 0*w-xs.getD j 0*v)=wa xs w ys v:=Pe hl λx y=>y*w-x*v;rw[er]at ec;have hlen:((xs++[w]).map PV.int).length=xs.length+1:=by simp
 have hr:iD [.pv (.int (((xs.length+1:Nat):Int)-1))] S=.ok ((az xs.length).map λj=>.int (0+(j:Nat)),[]) S:=by
  unfold iD;dsimp only;rw[if_pos ⟨by omega,by omega⟩];have:(((xs.length+1:Nat):Int)-1).toNat=xs.length:=by omega
  rw[this];rfl
 generalize (wa xs w ys v).map PV.int=ZL at ec;generalize (az xs.length).map (λj=>PV.int (0+(j:Nat)))=RL at ec hr;generalize hP:(xs++[w]).map PV.int=PL at ip ec hlen;generalize (ys++[v]).map PV.int=QL at iq ec;unfold iR aS zF;have hr2:=hr;rw[<-hlen]at hr2;simp! [bA,aL,aK,aM,aN,aE,aJ,bF,bY,hr2,cF,ec]
theorem uR{x0 y0 w0 x1 y1 w1:Int}(S:aG)(p:P2 x0 y0 w0)(q:P2 x1 y1 w1):iR [.pv (v2 x0 y0 w0),.pv (v2 x1 y1 w1)] S=.ok (.pv (.lst [.int (x1*w0-x0*w1),.int (y1*w0-y0*w1)])) S:=by
 have e:=Jk (xs:=[x0,y0]) (ys:=[x1,y1]) (w:=w0) (v:=w1) S rfl (by simp) (by simp;exact⟨p.bx,p.by_⟩) (by simp;exact⟨q.bx,q.by_⟩) p.bw q.bw;exact e
theorem mM{x0 y0 z0 w0 x1 y1 z1 w1:Int}(S:aG)(p:P3 x0 y0 z0 w0)(q:P3 x1 y1 z1 w1):iR [.pv (v3 x0 y0 z0 w0),.pv (v3 x1 y1 z1 w1)] S=.ok (.pv (.lst [.int (x1*w0-x0*w1),.int (y1*w0-y0*w1),.int (z1*w0-z0*w1)])) S:=by
 have e:=Jk (xs:=[x0,y0,z0]) (ys:=[x1,y1,z1]) (w:=w0) (v:=w1) S rfl (by simp) (by simp;exact⟨p.bx,p.by_,p.bz⟩) (by simp;exact⟨q.bx,q.by_,q.bz⟩) p.bw q.bw;exact e
theorem Rf{A:PV}{x0 y0 w0 x1 y1 w1 x2 y2 w2:Int}(S:aG)(hA:Sv A [v2 x0 y0 w0,v2 x1 y1 w1,v2 x2 y2 w2])(p:P2 x0 y0 w0)(q:P2 x1 y1 w1)(r:P2 x2 y2 w2):fR [.pv A] S=.ok (.pv (.int (w0*D2 x0 y0 w0 x1 y1 w1 x2 y2 w2))) S:=by
 have a1:=uR S p q;have a2:=uR S p r;have bu:=sb p.bx p.bw q.bx q.bw;have bv:=sb p.by_ p.bw q.by_ q.bw;have bu2:=sb p.bx p.bw r.bx r.bw;have bv2:=sb p.by_ p.bw r.by_ r.bw;have id:(x1*w0-x0*w1)*(y2*w0-y0*w2)-(y1*w0-y0*w1)*(x2*w0-x0*w2)=w0*D2 x0 y0 w0 x1 y1 w1 x2 y2 w2:=by
  unfold D2;grind
 generalize y2*w0-y0*w2=V1,x2*w0-x0*w2=V0,y1*w0-y0*w1=U1,x1*w0-x0*w1=U0,w0*D2 x0 y0 w0 x1 y1 w1 x2 y2 w2=D at *;have m1:=eO bu bv2;have m2:=eO bv bu2;generalize v2 x2 y2 w2=R,v2 x1 y1 w1=Q,v2 x0 y0 w0=P at *;have et:gH [.pv (.lst [.lst [.int U0,.int U1],.lst [.int V0,.int V1]])] S=.ok (.pv (.int D)) S:=by
  unfold gH aS lK;simp! [aF,aY,aZ,aP,aL,aK,aM,aN,aE,aJ,m1,m2,id]
 unfold fR aS oR;rcases hA with rfl |rfl
 .have s1:=mE P [Q,R]
  simp! [aF,aY,aZ,aP,aL,aK,aM,aN,aE,aJ,bF,bO,cB,cY,cX,cV,eL,s1,cF,dG,dC,gN,a1,a2,et]
 .have s1:=uE P [Q,R]
  simp! [aF,aY,aZ,aP,aL,aK,aM,aN,aE,aJ,bF,bO,cB,cY,cX,cV,eL,s1,cF,dG,dC,gN,a1,a2,et]
theorem Kf{A:PV}{x0 y0 z0 w0 x1 y1 z1 w1 x2 y2 z2 w2 x3 y3 z3 w3:Int}(S:aG)(hA:Sv A [v3 x0 y0 z0 w0,v3 x1 y1 z1 w1,v3 x2 y2 z2 w2,v3 x3 y3 z3 w3])(p:P3 x0 y0 z0 w0)(q:P3 x1 y1 z1 w1)(r:P3 x2 y2 z2 w2)(s:P3 x3 y3 z3 w3):fR [.pv A] S=.ok (.pv (.int (w0*w0*D3 x0 y0 z0 w0 x1 y1 z1 w1 x2 y2 z2 w2 x3 y3 z3 w3))) S:=by
 have a1:=mM S p q;have a2:=mM S p r;have a3:=mM S p s;have b1:=sb p.bx p.bw q.bx q.bw;have b2:=sb p.by_ p.bw q.by_ q.bw;have b3:=sb p.bz p.bw q.bz q.bw;have b4:=sb p.bx p.bw r.bx r.bw;have b5:=sb p.by_ p.bw r.by_ r.bw;have b6:=sb p.bz p.bw r.bz r.bw;have b7:=sb p.bx p.bw s.bx s.bw;have b8:=sb p.by_ p.bw s.by_ s.bw;have b9:=sb p.bz p.bw s.bz s.bw;have id:=Ja x0 y0 z0 w0 x1 y1 z1 w1 x2 y2 z2 w2 x3 y3 z3 w3;generalize z3*w0-z0*w3=T2,y3*w0-y0*w3=T1,x3*w0-x0*w3=T0,z2*w0-z0*w2=V2,y2*w0-y0*w2=V1,x2*w0-x0*w2=V0,z1*w0-z0*w1=U2,y1*w0-y0*w1=U1,x1*w0-x0*w1=U0,w0*w0*D3 x0 y0 z0 w0 x1 y1 z1 w1 x2 y2 z2 w2 x3 y3 z3 w3=D at *;have h:∀{a:Int},Bd 2001 a->Bd 10000 a:=λh=>h.mono (by decide);have h4:∀{a:Int},Bd 4003 a->Bd 100000 a:=λh=>h.mono (by decide);have h2:∀{a:Int},Bd 2001 a->Bd 100000 a:=λh=>h.mono (by decide);have en:=qE (A:=.lst [.int U0,.int U1,.int U2]) (B:=.lst [.int V0,.int V1,.int V2]) S (.inl rfl) (.inl rfl) (h b1) (h b2) (h b3) (h b4) (h b5) (h b6);have c1:=cb b2 b6 b3 b5;have c2:=cb b3 b4 b1 b6;have c3:=cb b1 b5 b2 b4;have ed:=qJ (A:=.lst [.int (U1*V2-U2*V1),.int (U2*V0-U0*V2),.int (U0*V1-U1*V0)]) (B:=.lst [.int T0,.int T1,.int T2]) (us:=[U1*V2-U2*V1,U2*V0-U0*V2,U0*V1-U1*V0]) (vs:=[T0,T1,T2]) S (.inl rfl) (.inl rfl) (by simp;exact⟨h4 c1,h4 c2,h4 c3⟩) (by simp;exact⟨h2 b7,h2 b8,h2 b9⟩);rw[id]at ed;generalize v3 x3 y3 z3 w3=T,v3 x2 y2 z2 w2=R,v3 x1 y1 z1 w1=Q,v3 x0 y0 z0 w0=P,U0*V1-U1*V0=N2,U2*V0-U0*V2=N1,U1*V2-U2*V1=N0 at *;have et:gH [.pv (.lst [.lst [.int U0,.int U1,.int U2],.lst [.int V0,.int V1,.int V2],.lst [.int T0,.int T1,.int T2]])] S=.ok (.pv (.int D)) S:=by
  unfold gH aS lK;simp! [aF,aY,aZ,aP,aL,aK,aM,aN,aE,aJ,en,ed]
 unfold fR aS oR;rcases hA with rfl |rfl
 .have s1:=mE P [Q,R,T]
  simp! [aF,aY,aZ,aP,aL,aK,aM,aN,aE,aJ,bF,bO,cB,cY,cX,cV,eL,s1,cF,dG,dC,gN,a1,a2,a3,et]
 .have s1:=uE P [Q,R,T]
  simp! [aF,aY,aZ,aP,aL,aK,aM,aN,aE,aJ,bF,bO,cB,cY,cX,cV,eL,s1,cF,dG,dC,gN,a1,a2,a3,et]
theorem Z4{S:aG}{k:Nat}{ns:AA}(n:Nat)(hn:n=2\/n=3)(h:dY S k ns):∃(v:PV)(ns':AA),lS [.ref k,.pv (.int n)] S=.ok (.pv v) (S.set k (.lst (ns'.map .int)))/\Gp n 100 v:=by
 obtain⟨xs,w,n1,e1,P,b1,b2⟩:=M6 n hn h;exact⟨_,n1,e1,xs,w,rfl,P.pq b1 b2⟩
theorem Lv{S:aG}{k:Nat}{ns:AA}{L:AI}(h:dY S k ns):∃(A:PV)(ns':AA),mX [.ref k,.pv (.lst L)] S=.ok (.pv A) (S.set k (.lst (ns'.map .int)))/\Sv A L:=by
 obtain⟨t,n1,e1,t0,t1,_⟩:=hJ (m:=2) h (by decide) (gS (by decide) (by decide));have tk:=Qg S k (.lst (n1.map .int));generalize hS:S.set k (.lst (n1.map .int))=S1 at e1 tk
 by_cases ht:t=1
 .subst ht
  refine⟨.tup L,n1,?_,.inr rfl⟩;rw[hS];unfold mX aS sS;simp! [aF,aY,aZ,aP,aL,aK,aM,aN,aE,aJ,e1,tk]
 .refine⟨.lst L,n1,?_,.inl rfl⟩
  rw[hS];unfold mX aS sS;simp! [aF,aY,aZ,aP,aL,aK,aM,aN,aE,aJ,e1,tk,ht]
def B2(x0 y0 w0 x1 y1 w1:Int):AA:=[-(y1*w0-y0*w1),x1*w0-x0*w1,x0*y1-y0*x1]
def N3(x0 y0 z0 w0 x1 y1 z1 w1 x2 y2 z2 w2:Int):AA:=[(y1*w0-y0*w1)*(z2*w0-z0*w2)-(z1*w0-z0*w1)*(y2*w0-y0*w2),(z1*w0-z0*w1)*(x2*w0-x0*w2)-(x1*w0-x0*w1)*(z2*w0-z0*w2),(x1*w0-x0*w1)*(y2*w0-y0*w2)-(y1*w0-y0*w1)*(x2*w0-x0*w2)]
theorem D5{x0 y0 z0 w0 x1 y1 z1 w1 x2 y2 z2 w2:Int}(S:aG)(p:P3 x0 y0 z0 w0)(q:P3 x1 y1 z1 w1)(r:P3 x2 y2 z2 w2):∃a b c U V,N3 x0 y0 z0 w0 x1 y1 z1 w1 x2 y2 z2 w2=[a,b,c]/\Bd 4003 a/\Bd 4003 b/\Bd 4003 c/\
  kX [.pv (v3 x0 y0 z0 w0),.pv (v3 x1 y1 z1 w1)] S=.ok (.pv U) S/\kX [.pv (v3 x0 y0 z0 w0),.pv (v3 x2 y2 z2 w2)] S=.ok (.pv V) S/\iR [.pv (v3 x0 y0 z0 w0),.pv (v3 x1 y1 z1 w1)] S=.ok (.pv U) S/\iR [.pv (v3 x0 y0 z0 w0),.pv (v3 x2 y2 z2 w2)] S=.ok (.pv V) S/\
  mZ [.pv (.lst [U,V])] S=.ok (.pv (.lst [.int a,.int b,.int c])) S/\lD [.pv U,.pv V] S=.ok (.pv (.lst [.int a,.int b,.int c])) S:=by
 have a1:=qT S p q;have a2:=qT S p r;have g1:=mM S p q;have g2:=mM S p r;have b1:=sb p.bx p.bw q.bx q.bw;have b2:=sb p.by_ p.bw q.by_ q.bw;have b3:=sb p.bz p.bw q.bz q.bw;have b4:=sb p.bx p.bw r.bx r.bw;have b5:=sb p.by_ p.bw r.by_ r.bw;have b6:=sb p.bz p.bw r.bz r.bw;have h:∀{a:Int},Bd 2001 a->Bd 10000 a:=λh=>h.mono (by decide);have en:=Ui S (h b1) (h b2) (h b3) (h b4) (h b5) (h b6);have ec:=qE S (.inl rfl) (.inl rfl) (h b1) (h b2) (h b3) (h b4) (h b5) (h b6);exact⟨_,_,_,_,_,rfl,cb b2 b6 b3 b5,cb b3 b4 b1 b6,cb b1 b5 b2 b4,a1,a2,g1,g2,en,ec⟩
def B3(w0 x0 y0 z0 a b c:Int):AA:=[w0*a,w0*b,w0*c,-(a*x0+b*y0+c*z0)]
theorem wA(a b c x y z:Int):dt [a,b,c] [x,y,z]=a*x+b*y+c*z:=by
 simp only[dt,jz,my,jf,ka];grind
theorem aac(a b c x y z w:Int):dt [a,b,c] [x,y,z,w]=a*x+b*y+c*z:=by
 simp only[dt,jz,my,jf,ka];grind
theorem P5{w0 x0 y0 z0 a b c:Int}(bw:Bd 1000 w0)(bx:Bd 1000 x0)(by':Bd 1000 y0)(bz:Bd 1000 z0)(ba:Bd 4003 a)(bb:Bd 4003 b)(bc:Bd 4003 c):∀n∈B3 w0 x0 y0 z0 a b c,Bd 8000 n:=λn hn=>by
 have hn:n=w0*a\/n=w0*b\/n=w0*c\/n=-(a*x0+b*y0+c*z0):=by simpa[B3]using hn
 rcases hn with rfl |rfl |rfl |rfl
 .exact(bw.mul ba).mono (by decide)
 .exact(bw.mul bb).mono (by decide)
 .exact(bw.mul bc).mono (by decide)
 .exact(((ba.mul bx).add (bb.mul by')).add ((bc.mul bz).mono (by decide))).neg.mono (by decide)
theorem Cs{A B:PV}(S:aG){z:Int}(h:oX [.pv A,.pv B] S=.ok (.pv (.int z)) S):qF [.pv A,.pv B] S=.ok (.pv (.int z)) S:=by
 unfold qF aS xK;simp! [aF,aY,aZ,aP,aL,aK,aM,aN,aE,aJ,h]
theorem vS(d e f h x y z w:Int):dt [d,e,f,h] [x,y,z,w]=d*x+e*y+f*z+h*w:=by
 simp only[dt,jz,my,jf,ka];grind
theorem Nw{G:Gd}{g:GM}{me:ME}{x:PV}{r:AI}{ρ:bR}{S:aG}(h:iO G S):bT G g me (x::r) ρ S=(match g x ρ with
  |none=>.fail
  |some ρ1=>match me ρ1 S with
   |.ok (.pv y) S1=>match bT G g me r ρ1 S1 with
    |.ok ys S2=>.ok (y::ys) S2
    |_=>.fail
   |_=>.fail):=by
 rw[bT,if_pos h]
 all_goals rfl
theorem Kv{G:Gd}{g:GM}{me:ME}{ρ:bR}{S:aG}(h:iO G S):bT G g me [] ρ S=.ok [] S:=by
 rw[bT,if_pos h]
theorem Gg(a b c x0 y0 w0 x1 y1 w1 x2 y2 w2:Int):D2 (a*x0) (a*y0) (a*w0) (b*x1) (b*y1) (b*w1) (c*x2) (c*y2) (c*w2)=a*b*c*D2 x0 y0 w0 x1 y1 w1 x2 y2 w2:=by
 unfold D2;grind
theorem Lg(a b c d x0 y0 z0 w0 x1 y1 z1 w1 x2 y2 z2 w2 x3 y3 z3 w3:Int):D3 (a*x0) (a*y0) (a*z0) (a*w0) (b*x1) (b*y1) (b*z1) (b*w1) (c*x2) (c*y2) (c*z2) (c*w2) (d*x3) (d*y3) (d*z3) (d*w3)=a*b*c*d*D3 x0 y0 z0 w0 x1 y1 z1 w1 x2 y2 z2 w2 x3 y3 z3 w3:=by
 unfold D3;grind
structure R2(x y w X Y D:Int):Prop where
 pos:0<w
 dos:0<D
 ex:x*D=X*w
 ey:y*D=Y*w
theorem Pq.p2{k:Nat}{x y w:Int}(P:Pq 2 k [x,y] w)(h:k<=1000):P2 x y w:=⟨(P.bx x (by simp)).mono h,(P.bx y (by simp)).mono h,P.bw.mono h,P.pos⟩
theorem Pq.p3{k:Nat}{x y z w:Int}(P:Pq 3 k [x,y,z] w)(h:k<=1000):P3 x y z w:=⟨(P.bx x (by simp)).mono h,(P.bx y (by simp)).mono h,(P.bx z (by simp)).mono h,P.bw.mono h,P.pos⟩
def gU:AI->Int
 |[.tup [.int x0,.int y0,.int w0],.tup [.int x1,.int y1,.int w1],.tup [.int x2,.int y2,.int w2]]=>sg (D2 x0 y0 w0 x1 y1 w1 x2 y2 w2)
 |[.tup [.int x0,.int y0,.int z0,.int w0],.tup [.int x1,.int y1,.int z1,.int w1],.tup [.int x2,.int y2,.int z2,.int w2],.tup [.int x3,.int y3,.int z3,.int w3]]=>sg (D3 x0 y0 z0 w0 x1 y1 z1 w1 x2 y2 z2 w2 x3 y3 z3 w3)
 |_=>0
theorem Ry{n:Nat}(hn:n=2\/n=3){A:PV}{L:AI}(S:aG)(hl:L.length=n+1)(hg:∀v∈L,Gp n 1000 v)(hA:Sv A L):nG [.pv A] S=.ok (.pv (.int (gU L))) S:=by
 rcases hn with rfl |rfl
 .match L,hl with
  |[P,Q,R],_=>
   obtain⟨x0,y0,w0,rfl,p⟩:=(hg P (by simp)).two;obtain⟨x1,y1,w1,rfl,q⟩:=(hg Q (by simp)).two;obtain⟨x2,y2,w2,rfl,r⟩:=(hg R (by simp)).two;exact Hv S hA p q r
 .match L,hl with
  |[P,Q,R,T],_=>
   obtain⟨x0,y0,z0,w0,rfl,p⟩:=(hg P (by simp)).three;obtain⟨x1,y1,z1,w1,rfl,q⟩:=(hg Q (by simp)).three;obtain⟨x2,y2,z2,w2,rfl,r⟩:=(hg R (by simp)).three;obtain⟨x3,y3,z3,w3,rfl,s⟩:=(hg T (by simp)).three;exact Qt S hA p q r s
theorem tU(D:Int):sg (-D)=-sg D:=by
 unfold sg;split<;>split<;>(try split)<;>(try split)<;>omega
abbrev tv(us:AA):PV:=.tup (us.map .int)
def Gu(n k:Nat)(us:AA):Prop:=∃xs w,us=xs++[w]/\Pq n k xs w
theorem Gu.gp{n k:Nat}{us:AA}(h:Gu n k us):Gp n k (tv us):=by
 obtain⟨xs,w,rfl,P⟩:=h;exact⟨xs,w,rfl,P⟩
theorem Gu.ne{n k:Nat}{us:AA}(h:Gu n k us):us≠[]:=by
 obtain⟨xs,w,rfl,P⟩:=h;simp
theorem Nb{n k:Nat}{uss:AC}(h:∀us∈uss,Gu n k us):∀v∈uss.map tv,Gp n k v:=λv hv=>by
 obtain⟨us,hu,rfl⟩:=gg.mp hv;exact(h us hu).gp
theorem Pc:∀uss:AC,lW (uss.map tv)=some uss
 |[]=>rfl
 |us::uss=>by
  have ih:=Pc uss;show(match dM (us.map .int),lW (uss.map tv)with |some is,some uss=>some (is::uss) |_,_=>none)=_
  rw[ih,kD]
theorem Ie{uss:AC}{n:Nat}(hl:uss.length=n)(hp:(dA uss).Perm (az n)):Ga (uss.map tv) uss=(dD uss).map tv:=by
 unfold Ga dD;rw[ix];refine jc λi hi=>?_;have h:i<uss.length:=by
  have:=hp.subset hi;rw[hl];simpa using this
 simp[cf,h]
theorem Fd{A:PV}{uss:AC}(hl:uss.length=3\/uss.length=4)(hA:Sv A (uss.map tv))(hne:∀us∈uss,us≠[]):oM [A]=some (.lst ((dD uss).map tv)):=by
 have e:oU (uss.map tv)=some (.lst ((dD uss).map tv)):=by
  unfold oU;rw[Pc];dsimp only;rcases hl with h |h
  .obtain⟨_,hp,_⟩:=Th h
   rw[if_pos (show zX uss from⟨by omega,by omega,by rw[h];exact Ul,by rw[hp.length_eq];simp,hne⟩),Ie h hp]
  .obtain⟨_,hp,_⟩:=Yh h
   rw[if_pos (show zX uss from⟨by omega,by omega,by rw[h];exact Qm,by rw[hp.length_eq];simp,hne⟩),Ie h hp]
 rcases hA with rfl |rfl
 .exact e
 .exact e
def nT{α:Type}:List α->List α
 |[a,b,c]=>[a,c,b]
 |[a,b,c,d]=>[a,b,d,c]
 |l=>l
theorem Ai{α β:Type}(f:α->β)(l:List α):(nT l).map f=nT (l.map f):=by
 rcases l with _ |⟨a,_ |⟨b,_ |⟨c,_ |⟨d,_ |⟨e,l⟩⟩⟩⟩⟩<;>rfl
theorem Vt{α:Type}(l:List α):(nT l).Perm l:=by
 unfold nT;split
 .exact .cons _ (.swap _ _ _)
 .exact .cons _ (.cons _ (.swap _ _ _))
 .exact .refl _
def dU:AC->Int
 |[[x0,y0,w0],[x1,y1,w1],[x2,y2,w2]]=>D2 x0 y0 w0 x1 y1 w1 x2 y2 w2
 |[[x0,y0,z0,w0],[x1,y1,z1,w1],[x2,y2,z2,w2],[x3,y3,z3,w3]]=>D3 x0 y0 z0 w0 x1 y1 z1 w1 x2 y2 z2 w2 x3 y3 z3 w3
 |_=>0
theorem Gu.two{k:Nat}{us:AA}(h:Gu 2 k us)(hk:k<=1000):∃x y w,us=[x,y,w]/\P2 x y w:=by
 obtain⟨xs,w,rfl,P⟩:=h
 match xs,P.len,P with
 |[x,y],_,P=>exact⟨x,y,w,rfl,P.p2 hk⟩
theorem Gu.three{k:Nat}{us:AA}(h:Gu 3 k us)(hk:k<=1000):∃x y z w,us=[x,y,z,w]/\P3 x y z w:=by
 obtain⟨xs,w,rfl,P⟩:=h
 match xs,P.len,P with
 |[x,y,z],_,P=>exact⟨x,y,z,w,rfl,P.p3 hk⟩
theorem qS{n k:Nat}(hn:n=2\/n=3)(hk:k<=1000){uss:AC}(hl:uss.length=n+1)(hg:∀us∈uss,Gu n k us):gU (uss.map tv)=sg (dU uss):=by
 rcases hn with rfl |rfl
 .match uss,hl with
  |[a,b,c],_=>
   obtain⟨x0,y0,w0,rfl,_⟩:=(hg a (by simp)).two hk;obtain⟨x1,y1,w1,rfl,_⟩:=(hg b (by simp)).two hk;obtain⟨x2,y2,w2,rfl,_⟩:=(hg c (by simp)).two hk;rfl
 .match uss,hl with
  |[a,b,c,d],_=>
   obtain⟨x0,y0,z0,w0,rfl,_⟩:=(hg a (by simp)).three hk;obtain⟨x1,y1,z1,w1,rfl,_⟩:=(hg b (by simp)).three hk;obtain⟨x2,y2,z2,w2,rfl,_⟩:=(hg c (by simp)).three hk;obtain⟨x3,y3,z3,w3,rfl,_⟩:=(hg d (by simp)).three hk;rfl
def Pw(n:Nat)(us:AA):Prop:=∃xs w,us=xs++[w]/\xs.length=n/\0<w
theorem Pw.two{us:AA}(h:Pw 2 us):∃x y w,us=[x,y,w]/\0<w:=by
 obtain⟨xs,w,rfl,l,p⟩:=h
 match xs,l with
 |[x,y],_=>exact⟨x,y,w,rfl,p⟩
theorem Pw.three{us:AA}(h:Pw 3 us):∃x y z w,us=[x,y,z,w]/\0<w:=by
 obtain⟨xs,w,rfl,l,p⟩:=h
 match xs,l with
 |[x,y,z],_=>exact⟨x,y,z,w,rfl,p⟩
theorem Gu.pt{n k:Nat}{us:AA}(h:Gu n k us):Pw n us:=by
 obtain⟨xs,w,e,P⟩:=h;exact⟨xs,w,e,P.len,P.pos⟩
theorem dU2{x0 y0 w0 x1 y1 w1 x2 y2 w2:Int}:dU [[x0,y0,w0],[x1,y1,w1],[x2,y2,w2]]=D2 x0 y0 w0 x1 y1 w1 x2 y2 w2:=rfl
theorem dU3{x0 y0 z0 w0 x1 y1 z1 w1 x2 y2 z2 w2 x3 y3 z3 w3:Int}:dU [[x0,y0,z0,w0],[x1,y1,z1,w1],[x2,y2,z2,w2],[x3,y3,z3,w3]]=D3 x0 y0 z0 w0 x1 y1 z1 w1 x2 y2 z2 w2 x3 y3 z3 w3:=rfl
theorem yB{n:Nat}(hn:n=2\/n=3){pre l:AC}{x y:AA}(hl:(pre++y::x::l).length=n+1)(hp:∀u∈pre++y::x::l,Pw n u):dU (pre++x::y::l)=-dU (pre++y::x::l):=by
 have hx:=hp x (by simp);have hy:=hp y (by simp);rcases hn with rfl |rfl
 .obtain⟨x0,y0,w0,rfl,_⟩:=hx.two
  obtain⟨x1,y1,w1,rfl,_⟩:=hy.two;have fin:∀c∈pre++l,∃x y w,c=[x,y,w]:=λc hc=>by
   obtain⟨x,y,w,e,_⟩:=(hp c (by simp at hc⊢;rcases hc with h |h<;>simp[h])).two;exact⟨x,y,w,e⟩
  match pre,l,hl,fin with
  |[],[c],_,fin |[c],[],_,fin=>
   obtain⟨x2,y2,w2,rfl⟩:=fin c (by simp);simp only[dw,iu,dU2,D2];grind
  |[],[],h,_=>simp at h
  |[],_::_::_,h,_=>simp at h
  |_::_::_,_,h,_=>simp at h;omega
  |[_],_::_,h,_=>simp at h
 .obtain⟨x0,y0,z0,w0,rfl,_⟩:=hx.three
  obtain⟨x1,y1,z1,w1,rfl,_⟩:=hy.three;have fin:∀c∈pre++l,∃x y z w,c=[x,y,z,w]:=λc hc=>by
   obtain⟨x,y,z,w,e,_⟩:=(hp c (by simp at hc⊢;rcases hc with h |h<;>simp[h])).three;exact⟨x,y,z,w,e⟩
  match pre,l,hl,fin with
  |[],[c,d],_,fin |[c],[d],_,fin |[c,d],[],_,fin=>
   obtain⟨x2,y2,z2,w2,rfl⟩:=fin c (by simp);obtain⟨x3,y3,z3,w3,rfl⟩:=fin d (by simp);simp only[dw,iu,dU3,D3];grind
  |[],[],h,_=>simp at h
  |[],[_],h,_=>simp at h
  |[],_::_::_::_,h,_=>simp at h
  |[_],[],h,_=>simp at h
  |[_],_::_::_,h,_=>simp at h
  |[_,_],_::_,h,_=>simp at h
  |_::_::_::_,_,h,_=>simp at h;omega
theorem Hy{n:Nat}(hn:n=2\/n=3){A B:AC}(h:A.Perm B):∀pre:AC,(pre++A).length=n+1->(∀u∈pre++A,Pw n u)->dU (pre++B)=dU (pre++A)\/dU (pre++B)=-dU (pre++A):=by
 induction h with
 |nil=>exact λpre _ _=>.inl rfl
 |cons x _ ih=>
  intro pre hl hp;have:=ih (pre++[x]) (by simpa using hl) (by simpa using hp);simpa using this
 |swap x y l=>exact λpre hl hp=>.inr (yB hn hl hp)
 |trans h1 h2 ih1 ih2=>
  intro pre hl hp;have q1:=ih1 pre hl hp;have q2:=ih2 pre (by rw[<-(h1.append_left pre).length_eq];exact hl) λu hu=>hp u ((h1.append_left pre).mem_iff.mpr hu);omega
theorem Bi{n k:Nat}(hn:n=2\/n=3)(hk:k<=1000){uss:AC}(hl:uss.length=n+1)(hg:∀us∈uss,Gu n k us):dU (dD uss)=dU uss\/dU (dD uss)=-dU uss:=
 Hy hn (kZ (by omega)).1.symm [] hl λu hu=>(hg u hu).pt
theorem jT{n:Nat}(hn:n=2\/n=3){uss:AC}(hl:uss.length=n+1):uss.length=3\/uss.length=4:=by
 rcases hn with rfl |rfl
 .exact .inl hl
 .exact .inr hl
theorem Ru{n:Nat}(hn:n=2\/n=3){uss:AC}(hl:uss.length=n+1)(hg:∀us∈uss,Gu n 1000 us):gU ((dD uss).map tv)=gU (uss.map tv)\/gU ((dD uss).map tv)=-gU (uss.map tv):=by
 have hp:=(kZ (jT hn hl)).1;rw[qS hn (am 1000) (by rw[hp.length_eq,hl]) (λus hu=>hg us (hp.subset hu)),qS hn (am 1000) hl hg];rcases Bi hn (am 1000) hl hg with e |e
 .exact .inl (by rw[e])
 .exact .inr (by rw[e,tU])
theorem Ki{n:Nat}(hn:n=2\/n=3){A:PV}{L:AI}(S:aG)(hl:L.length=n+1)(hg:∀v∈L,Gp n 1000 v)(hA:Sv A L):∃d:Int,fR [.pv A] S=.ok (.pv (.int d)) S/\sg d=gU L:=by
 rcases hn with rfl |rfl
 .match L,hl with
  |[P,Q,R],_=>
   obtain⟨x0,y0,w0,rfl,p⟩:=(hg P (by simp)).two;obtain⟨x1,y1,w1,rfl,q⟩:=(hg Q (by simp)).two;obtain⟨x2,y2,w2,rfl,r⟩:=(hg R (by simp)).two;exact⟨_,Rf S hA p q r,jD p.pos⟩
 .match L,hl with
  |[P,Q,R,T],_=>
   obtain⟨x0,y0,z0,w0,rfl,p⟩:=(hg P (by simp)).three;obtain⟨x1,y1,z1,w1,rfl,q⟩:=(hg Q (by simp)).three;obtain⟨x2,y2,z2,w2,rfl,r⟩:=(hg R (by simp)).three;obtain⟨x3,y3,z3,w3,rfl,s⟩:=(hg T (by simp)).three;exact⟨_,Kf S hA p q r s,jD (cu p.pos p.pos)⟩
def bQ(uss:AC):AC:=if gU ((dD uss).map tv)<0 then nT (dD uss)else dD uss
theorem Em{n:Nat}(hn:n=2\/n=3){L:AI}(hl:L.length=n+1):∃a b M,gW (.lst L) none (some (-2))=some (.lst M)/\aF (.lst L) (.int (-1))=some a/\aF (.lst L) (.int (-2))=some b/\aE (.lst M) (.lst [a,b])=some (.lst (nT L)):=by
 rcases hn with rfl |rfl
 .match L,hl with
  |[P,Q,R],_=>exact⟨R,Q,[P],rfl,rfl,rfl,rfl⟩
 .match L,hl with
  |[P,Q,R,T],_=>exact⟨T,R,[P,Q],rfl,rfl,rfl,rfl⟩
theorem Np{n:Nat}(hn:n=2\/n=3){A:PV}{a:AV}{uss:AC}(S:aG)(ha:rd S a=some A)(hl:uss.length=n+1)(hg:∀us∈uss,Gu n 1000 us)(hA:Sv A (uss.map tv)):iZ [a] S=.ok (.pv (.tup ((bQ uss).map tv))) S:=by
 have h34:uss.length=3\/uss.length=4:=by omega
 have e1:=Fd h34 hA λus hu=>(hg us hu).ne;obtain⟨pm,_⟩:=kZ h34;have hl2:((dD uss).map tv).length=n+1:=by rw[ai,pm.length_eq];exact hl
 have hg2:∀v∈(dD uss).map tv,Gp n 1000 v:=Nb λus hu=>hg us (pm.subset hu);obtain⟨d,e2,hd⟩:=Ki (A:=.lst ((dD uss).map tv)) hn S hl2 hg2 (.inl rfl);obtain⟨a1,b1,M,t1,t2,t3,t4⟩:=Em hn hl2;unfold bQ;have hlt:d<0↔gU ((dD uss).map tv)<0:=by
  rw[<-hd];unfold sg;split
  .omega
  .split<;>omega
 by_cases h:d<0
 .rw[if_pos (hlt.mp h),Ai]
  generalize (dD uss).map tv=L at *;unfold iZ aS sF;simp! [-rd,rd.eq_1,bA,aL,aK,aM,aN,aJ,ha,e1,e2,h,cY,cX,cV,eL,t1,t2,t3,t4]
 .rw[if_neg (λz=>h (hlt.mpr z))]
  generalize (dD uss).map tv=L at *;unfold iZ aS sF;simp! [-rd,rd.eq_1,bA,aL,aK,aM,aN,aJ,ha,e1,e2,h]
theorem wK{n:Nat}(hn:n=2\/n=3){A:PV}{uss:AC}(S:aG)(hl:uss.length=n+1)(hg:∀us∈uss,Gu n 1000 us)(hA:Sv A (uss.map tv)):iZ [.pv A] S=.ok (.pv (.tup ((bQ uss).map tv))) S:=Np hn S rfl hl hg hA
theorem Vq{n:Nat}(hn:n=2\/n=3){A:PV}{uss:AC}(S:aG)(hl:uss.length=n+1)(hg:∀us∈uss,Gu n 1000 us)(hA:Sv A (uss.map tv))(h0:gU (uss.map tv)≠0):kF [.pv A] S=.ok (.pv (.tup ((bQ uss).map tv))) S:=by
 have h34:uss.length=3\/uss.length=4:=by omega
 have e1:=Fd h34 hA λus hu=>(hg us hu).ne;obtain⟨pm,_⟩:=kZ h34;have hl2:((dD uss).map tv).length=n+1:=by rw[ai,pm.length_eq];exact hl
 have hg2:∀v∈(dD uss).map tv,Gp n 1000 v:=Nb λus hu=>hg us (pm.subset hu);have e2:=Ry (A:=.lst ((dD uss).map tv)) hn S hl2 hg2 (.inl rfl);have h1:gU ((dD uss).map tv)≠0:=by rcases Ru hn hl hg with e |e<;>omega
 obtain⟨a,b,M,t1,t2,t3,t4⟩:=Em hn hl2;unfold bQ
 by_cases h:gU ((dD uss).map tv)<0
 .rw[if_pos h,Ai]
  generalize (dD uss).map tv=L at *;generalize gU L=D at *;unfold kF aS sL;simp! [bA,aL,aK,aM,aN,aJ,e1,e2,h,h1,cY,cX,cV,eL,t1,t2,t3,t4]
 .rw[if_neg h]
  generalize (dD uss).map tv=L at *;generalize gU L=D at *;unfold kF aS sL;simp! [bA,aL,aK,aM,aN,aJ,e1,e2,h,h1]
theorem qA{uss:AC}(h:uss.length=3\/uss.length=4):(bQ uss).Perm uss:=by
 obtain⟨pm,_⟩:=kZ h;unfold bQ;split
 .exact(Vt _).trans pm
 .exact pm
theorem Ax{uss:AC}(h:uss.length=3\/uss.length=4):bQ (bQ uss)=bQ uss:=by
 have e:=Ac (qA h) h;unfold bQ at e⊢;rw[e]
theorem K0{S:aG}{k j:Nat}{xs:AI}{v:PV}(hS:S[k]?=some (.lst xs))(hv:xs[j]?=some v)(hj:j<1000):nK k [.pv (.int (j:Int))] S=.ok (.pv v) (S.set k (.lst (xs.eraseIdx j))):=by
 have hl:=(bf.mp hv).1;have e:seqIndex? (j:Int) xs.length=some j:=by
  unfold seqIndex?;have h1:¬((j:Int)<0):=by omega
  have h2:(decide (0<=(j:Int))&&decide ((j:Int)<(xs.length:Int)))=true:=by
   simp only[gj,decide_eq_true_eq];omega
  simp only[h1,if_false];rw[if_pos h2,ny]
 unfold nK;dsimp only;rw[if_pos ⟨by omega,by omega⟩,hS];dsimp only;rw[e];dsimp only;rw[hv]
def wU:AC->Int
 |[]=>1
 |us::r=>us.getLastD 0*wU r
theorem Gu.mono{n k l:Nat}{us:AA}(h:Gu n k us)(hl:k<=l):Gu n l us:=by
 obtain⟨xs,w,e,P⟩:=h;exact⟨xs,w,e,P.mono hl⟩
theorem Fi{d:Int}:sg d=0↔d=0:=by
 unfold sg;split
 .omega
 .split<;>omega
theorem Cm{d:Int}:sg d<0↔d<0:=by
 unfold sg;split
 .omega
 .split<;>omega
theorem C9{n k:Nat}(hn:n=2\/n=3)(hk:k<=1000){uss:AC}(hl:uss.length=n+1)(hg:∀us∈uss,Gu n k us):dU (nT uss)=-dU uss:=by
 rcases hn with rfl |rfl
 .match uss,hl with
  |[a,b,c],_=>
   obtain⟨x0,y0,w0,rfl,_⟩:=(hg a (by simp)).two hk;obtain⟨x1,y1,w1,rfl,_⟩:=(hg b (by simp)).two hk;obtain⟨x2,y2,w2,rfl,_⟩:=(hg c (by simp)).two hk;show D2 x0 y0 w0 x2 y2 w2 x1 y1 w1=-(D2 x0 y0 w0 x1 y1 w1 x2 y2 w2);unfold D2;grind
 .match uss,hl with
  |[a,b,c,d],_=>
   obtain⟨x0,y0,z0,w0,rfl,_⟩:=(hg a (by simp)).three hk;obtain⟨x1,y1,z1,w1,rfl,_⟩:=(hg b (by simp)).three hk;obtain⟨x2,y2,z2,w2,rfl,_⟩:=(hg c (by simp)).three hk;obtain⟨x3,y3,z3,w3,rfl,_⟩:=(hg d (by simp)).three hk;show D3 x0 y0 z0 w0 x1 y1 z1 w1 x3 y3 z3 w3 x2 y2 z2 w2=-(D3 x0 y0 z0 w0 x1 y1 z1 w1 x2 y2 z2 w2 x3 y3 z3 w3);unfold D3;grind
theorem oO{n k:Nat}(hn:n=2\/n=3)(hk:k<=1000){uss:AC}(hl:uss.length=n+1)(hg:∀us∈uss,Gu n k us):dU (bQ uss)=((dU uss).natAbs:Int):=by
 have hp:=(kZ (jT hn hl)).1;have gs:∀us∈dD uss,Gu n k us:=λus hu=>hg us (hp.subset hu);have ls:(dD uss).length=n+1:=by rw[hp.length_eq,hl]
 have e:=Bi hn hk hl hg;have s:=C9 hn hk ls gs;have q:=qS hn hk ls gs;unfold bQ;split
 .rename_i h
  rw[q,Cm]at h;rw[s];omega
 .rename_i h
  rw[q,Cm]at h;omega
theorem tV{n k:Nat}:∀{uss:AC},(∀us∈uss,Gu n k us)->0<wU uss
 |[],_=>by decide
 |us::r,h=>by
  unfold wU;obtain⟨xs,w,rfl,P⟩:=h us ce;refine cu ?_ (tV λu hu=>h u (bo _ hu));rw[show(xs++[w]).getLastD 0=w by simp];exact P.pos
theorem wJ{A B:AC}(hp:A.Perm B)(h:B.length=3\/B.length=4):bQ A=bQ B:=by
 unfold bQ;rw[Ac hp h]
structure Sx(n k:Nat)(uss:AC):Prop where
 len:uss.length=n+1
 gu:∀us∈uss,Gu n k us
 nz:dU uss≠0
 cn:bQ uss=uss
abbrev px(uss:AC):PV:=.tup (uss.map tv)
theorem uJ{n k:Nat}(hn:n=2\/n=3)(hk:k<=1000){uss:AC}(hl:uss.length=n+1)(hg:∀us∈uss,Gu n k us)(nz:dU uss≠0):Sx n k (bQ uss):=by
 have hp:=qA (jT hn hl);refine⟨by rw[hp.length_eq,hl],λus hu=>hg us (hp.subset hu),?_,Ax (jT hn hl)⟩;rw[oO hn hk hl hg];omega
def iU(n:Nat)(A C:Nat->Int)(E:Int)(us us':AA):Prop:=∃xs w xs' w',us=xs++[w]/\us'=xs'++[w']/\xs.length=n/\xs'.length=n/\0<w/\0<w'/\∀j,j<n->xs'.getD j 0*(E*w)=(A j*xs.getD j 0+C j*w)*w'
theorem iU.two{A C:Nat->Int}{E:Int}{us us':AA}(h:iU 2 A C E us us'):∃x y w x' y' w',us=[x,y,w]/\us'=[x',y',w']/\x'*(E*w)=(A 0*x+C 0*w)*w'/\y'*(E*w)=(A 1*y+C 1*w)*w':=by
 obtain⟨xs,w,xs',w',rfl,rfl,l,l',_,_,h⟩:=h
 match xs,l,xs',l',h with
 |[x,y],_,[x',y'],_,h=>exact⟨x,y,w,x',y',w',rfl,rfl,h 0 (by decide),h 1 (by decide)⟩
theorem iU.three{A C:Nat->Int}{E:Int}{us us':AA}(h:iU 3 A C E us us'):∃x y z w x' y' z' w',us=[x,y,z,w]/\us'=[x',y',z',w']/\x'*(E*w)=(A 0*x+C 0*w)*w'/\y'*(E*w)=(A 1*y+C 1*w)*w'/\z'*(E*w)=(A 2*z+C 2*w)*w':=by
 obtain⟨xs,w,xs',w',rfl,rfl,l,l',_,_,h⟩:=h
 match xs,l,xs',l',h with
 |[x,y,z],_,[x',y',z'],_,h=>exact⟨x,y,z,w,x',y',z',w',rfl,rfl,h 0 (by decide),h 1 (by decide),h 2 (by decide)⟩
theorem P0(a b c d E x0 y0 w0 x1 y1 w1 x2 y2 w2:Int):D2 (a*x0+c*w0) (b*y0+d*w0) (E*w0) (a*x1+c*w1) (b*y1+d*w1) (E*w1) (a*x2+c*w2) (b*y2+d*w2) (E*w2)=a*b*E*D2 x0 y0 w0 x1 y1 w1 x2 y2 w2:=by
 unfold D2;grind
theorem V5(a b p c d e E x0 y0 z0 w0 x1 y1 z1 w1 x2 y2 z2 w2 x3 y3 z3 w3:Int):D3 (a*x0+c*w0) (b*y0+d*w0) (p*z0+e*w0) (E*w0) (a*x1+c*w1) (b*y1+d*w1) (p*z1+e*w1) (E*w1) (a*x2+c*w2) (b*y2+d*w2) (p*z2+e*w2) (E*w2) (a*x3+c*w3) (b*y3+d*w3) (p*z3+e*w3) (E*w3)=a*b*p*E*D3 x0 y0 z0 w0 x1 y1 z1 w1 x2 y2 z2 w2 x3 y3 z3 w3:=by
 unfold D3;grind
theorem cm(a b:Int){c:Int}(h:a*b=c):b*a=c:=by rw[ee];exact h
theorem aao{A C:Nat->Int}{E:Int}{P Q R P' Q' R':AA}(h0:iU 2 A C E P P')(h1:iU 2 A C E Q Q')(h2:iU 2 A C E R R'):dU [P',Q',R']*(E*E*E*wU [P,Q,R])=A 0*A 1*E*dU [P,Q,R]*wU [P',Q',R']:=by
 obtain⟨x0,y0,w0,X0,Y0,W0,rfl,rfl,p,q⟩:=h0.two;obtain⟨x1,y1,w1,X1,Y1,W1,rfl,rfl,p1,q1⟩:=h1.two;obtain⟨x2,y2,w2,X2,Y2,W2,rfl,rfl,p2,q2⟩:=h2.two;have e:=Gg (E*w0) (E*w1) (E*w2) X0 Y0 W0 X1 Y1 W1 X2 Y2 W2;have f:=Gg W0 W1 W2 (A 0*x0+C 0*w0) (A 1*y0+C 1*w0) (E*w0) (A 0*x1+C 0*w1) (A 1*y1+C 1*w1) (E*w1) (A 0*x2+C 0*w2) (A 1*y2+C 1*w2) (E*w2);rw[P0]at f;rw[cm _ _ p,cm _ _ q,cm _ _ p1,cm _ _ q1,cm _ _ p2,cm _ _ q2,ee _ W0,ee _ W0,ee _ W0,ee _ W1,ee _ W1,ee _ W1,ee _ W2,ee _ W2,ee _ W2]at e;have g:=e.symm.trans f;show D2 X0 Y0 W0 X1 Y1 W1 X2 Y2 W2*(E*E*E*(w0*(w1*(w2*1))))=A 0*A 1*E*D2 x0 y0 w0 x1 y1 w1 x2 y2 w2*(W0*(W1*(W2*1)));generalize D2 X0 Y0 W0 X1 Y1 W1 X2 Y2 W2=d at g⊢;generalize D2 x0 y0 w0 x1 y1 w1 x2 y2 w2=d' at g⊢;clear e f p q p1 q1 p2 q2 h0 h1 h2;grind
theorem aaq{A C:Nat->Int}{E:Int}{P Q R T P' Q' R' T':AA}(h0:iU 3 A C E P P')(h1:iU 3 A C E Q Q')(h2:iU 3 A C E R R')(h3:iU 3 A C E T T'):dU [P',Q',R',T']*(E*E*E*E*wU [P,Q,R,T])=A 0*A 1*A 2*E*dU [P,Q,R,T]*wU [P',Q',R',T']:=by
 obtain⟨x0,y0,z0,w0,X0,Y0,Z0,W0,rfl,rfl,p,q,r⟩:=h0.three;obtain⟨x1,y1,z1,w1,X1,Y1,Z1,W1,rfl,rfl,p1,q1,r1⟩:=h1.three;obtain⟨x2,y2,z2,w2,X2,Y2,Z2,W2,rfl,rfl,p2,q2,r2⟩:=h2.three;obtain⟨x3,y3,z3,w3,X3,Y3,Z3,W3,rfl,rfl,p3,q3,r3⟩:=h3.three;have e:=Lg (E*w0) (E*w1) (E*w2) (E*w3) X0 Y0 Z0 W0 X1 Y1 Z1 W1 X2 Y2 Z2 W2 X3 Y3 Z3 W3;have f:=Lg W0 W1 W2 W3 (A 0*x0+C 0*w0) (A 1*y0+C 1*w0) (A 2*z0+C 2*w0) (E*w0) (A 0*x1+C 0*w1) (A 1*y1+C 1*w1) (A 2*z1+C 2*w1) (E*w1) (A 0*x2+C 0*w2) (A 1*y2+C 1*w2) (A 2*z2+C 2*w2) (E*w2) (A 0*x3+C 0*w3) (A 1*y3+C 1*w3) (A 2*z3+C 2*w3) (E*w3);rw[V5]at f;rw[cm _ _ p,cm _ _ q,cm _ _ r,cm _ _ p1,cm _ _ q1,cm _ _ r1,cm _ _ p2,cm _ _ q2,cm _ _ r2,cm _ _ p3,cm _ _ q3,cm _ _ r3]at e;have cW:∀a W:Int,a*W=W*a:=ee;rw[cW _ W0,cW _ W0,cW _ W0,cW _ W0,cW _ W1,cW _ W1,cW _ W1,cW _ W1,cW _ W2,cW _ W2,cW _ W2,cW _ W2,cW _ W3,cW _ W3,cW _ W3,cW _ W3]at e;have g:=e.symm.trans f;show D3 X0 Y0 Z0 W0 X1 Y1 Z1 W1 X2 Y2 Z2 W2 X3 Y3 Z3 W3*(E*E*E*E*(w0*(w1*(w2*(w3*1)))))=A 0*A 1*A 2*E*D3 x0 y0 z0 w0 x1 y1 z1 w1 x2 y2 z2 w2 x3 y3 z3 w3*(W0*(W1*(W2*(W3*1))));generalize D3 X0 Y0 Z0 W0 X1 Y1 Z1 W1 X2 Y2 Z2 W2 X3 Y3 Z3 W3=d at g⊢;generalize D3 x0 y0 z0 w0 x1 y1 z1 w1 x2 y2 z2 w2 x3 y3 z3 w3=d' at g⊢;clear e f p q r p1 q1 r1 p2 q2 r2 p3 q3 r3 h0 h1 h2 h3 cW;grind
def fY(way:Int)(f us:AA):AA:=mv way us.dropLast (us.getLastD 0) f.dropLast (f.getLastD 0)
theorem Dl(way:Int)(xs:AA)(w:Int)(ys:AA)(v:Int):fY way (ys++[v]) (xs++[w])=mv way xs w ys v:=by
 unfold fY;simp
theorem jR{n k l:Nat}{way:Int}{us f:AA}(hway:way=1\/way=-1)(h:Gu n k us)(g:Gu n l f):Gu n (k+l+1) (fY way f us)/\iU n (λ_=>way*f.getLastD 0) (λj=>f.getD j 0) (f.getLastD 0) us (fY way f us):=by
 obtain⟨xs,w,rfl,P⟩:=h;obtain⟨ys,v,rfl,Q⟩:=g;rw[Dl];obtain⟨zs,z,e,Z,hv⟩:=Q5 hway P Q;rw[e];refine⟨⟨zs,z,rfl,Z⟩,xs,w,zs,z,rfl,rfl,P.len,Z.len,P.pos,Z.pos,λj hj=>?_⟩;have a:=hv _ _ _ _ (Vl.self n xs w) (Vl.self n ys v) P.pos Q.pos j hj;rw[show(ys++[v]).getLastD 0=v by simp];have eg:(ys++[v]).getD j 0=ys.getD j 0:=by
  have:j<ys.length:=by rw[Q.len];exact hj
  simp[cf,dz this]
 dsimp only at a⊢;rw[eg];generalize ys.getD j 0=y at a⊢;generalize xs.getD j 0=x at a⊢;generalize zs.getD j 0=t at a⊢;rw[ee v w,a];grind
theorem yR{n k l:Nat}{way:Int}{us f:AA}(S:aG)(hn:n=2\/n=3)(hway:way=1\/way=-1)(h:Gu n k us)(g:Gu n l f)(hk:k<=1000)(hl:l<=1000):kE [.pv (tv us),.pv (tv f),.pv (.int way)] S=.ok (.pv (tv (fY way f us))) S:=by
 obtain⟨xs,w,rfl,P⟩:=h;obtain⟨ys,v,rfl,Q⟩:=g;rw[Dl];exact Ox S hn hway P Q hk hl
theorem Zs{a b w v:Int}(hw:0<w)(hv:0<v)(h:a*w=b*v\/a*w=-(b*v)):(a.natAbs:Int)*w=(b.natAbs:Int)*v:=by
 have e:(a*w).natAbs=(b*v).natAbs:=by
  rcases h with h |h
  .rw[h]
  .rw[h,ye]
 rw[qi,qi]at e;have e1:((w.natAbs:Nat):Int)=w:=by omega
 have e2:((v.natAbs:Nat):Int)=v:=by omega
 have e3:((a.natAbs*w.natAbs:Nat):Int)=((b.natAbs*v.natAbs:Nat):Int):=by rw[e]
 rw[d6,d6,e1,e2]at e3;exact e3
theorem aax{v d d' w w':Int}{way:Int}(hv:0<v)(hway:way=1\/way=-1)(h:d'*(v*v*v*w)=way*v*(way*v)*v*d*w'):d'*w=d*w':=by
 have e:(d'*w)*(v*v*v)=(d*w')*(v*v*v):=by rcases hway with rfl |rfl<;>grind
 exact tW (cu (cu hv hv) hv) e
theorem Z8{v d d' w w':Int}{way:Int}(hv:0<v)(hway:way=1\/way=-1)(h:d'*(v*v*v*v*w)=way*v*(way*v)*(way*v)*v*d*w'):d'*w=d*w'\/d'*w=-(d*w'):=by
 have p:=cu (cu (cu hv hv) hv) hv;rcases hway with rfl |rfl
 .left
  have e:(d'*w)*(v*v*v*v)=(d*w')*(v*v*v*v):=by grind
  exact tW p e
 .right
  have e:(d'*w)*(v*v*v*v)=(-(d*w'))*(v*v*v*v):=by grind
  exact tW p e
theorem uA{n k l:Nat}{way:Int}{f:AA}{uss:AC}(hway:way=1\/way=-1)(hg:∀us∈uss,Gu n k us)(g:Gu n l f):∀us∈uss.map (fY way f),Gu n (k+l+1) us:=λus hu=>by
 obtain⟨u,hm,rfl⟩:=gg.mp hu;exact(jR hway (hg u hm) g).1
theorem Gu.lastpos{n k:Nat}{f:AA}(h:Gu n k f):0<f.getLastD 0:=by
 obtain⟨xs,w,rfl,P⟩:=h;rw[show(xs++[w]).getLastD 0=w by simp];exact P.pos
theorem C8{n k l:Nat}(hn:n=2\/n=3){way:Int}{f:AA}{uss:AC}(hway:way=1\/way=-1)(hl:uss.length=n+1)(hg:∀us∈uss,Gu n k us)(g:Gu n l f):((dU (uss.map (fY way f))).natAbs:Int)*wU uss=((dU uss).natAbs:Int)*wU (uss.map (fY way f)):=by
 have hv:=g.lastpos;have p1:=tV hg;have p2:=tV (uA hway hg g);refine Zs p1 p2 ?_;rcases hn with rfl |rfl
 .match uss,hl,hg with
  |[a,b,c],_,hg=>
   have e:=aao (jR hway (hg a (by simp)) g).2 (jR hway (hg b (by simp)) g).2 (jR hway (hg c (by simp)) g).2;exact .inl (aax hv hway e)
 .match uss,hl,hg with
  |[a,b,c,d],_,hg=>
   have e:=aaq (jR hway (hg a (by simp)) g).2 (jR hway (hg b (by simp)) g).2 (jR hway (hg c (by simp)) g).2 (jR hway (hg d (by simp)) g).2;exact Z8 hv hway e
theorem W5{n k l:Nat}(hn:n=2\/n=3){way:Int}{f:AA}{uss:AC}(hway:way=1\/way=-1)(hl:uss.length=n+1)(hg:∀us∈uss,Gu n k us)(g:Gu n l f)(h:dU uss≠0):dU (uss.map (fY way f))≠0:=λz=>by
 have e:=C8 hn hway hl hg g;rw[z]at e;have p2:=tV (uA hway hg g);have:((dU uss).natAbs:Int)*wU (uss.map (fY way f))≠0:=oi (by omega) (wk p2);exact this (by rw[<-e];simp)
theorem pZ{G:Gd}{S:aG}(hG:iO G S){me:ME}{tail:bR}{α:Type}(A B:α->PV):∀(L:List α)(x:AK),(∀v∈L,me (some (.pv (A v))::tail) S=.ok (.pv (B v)) S)->bT G (gN 0) me (L.map A) (x::tail) S=.ok (L.map B) S
 |[],x,_=>Kv hG
 |v::L,x,h=>by
  have e:=h v ce;have e':=pZ hG A B L (some (.pv (A v))) λu hu=>h u (bo _ hu);rw[ar,Nw hG];simp[gN,e,e']
def oA(way:Int)(f:AA)(uss:AC):AC:=bQ (uss.map (fY way f))
theorem A8{n k l:Nat}(hn:n=2\/n=3){way:Int}{f:AA}{uss:AC}(hway:way=1\/way=-1)(h:Sx n k uss)(g:Gu n l f)(hk:k+l+1<=1000):Sx n (k+l+1) (oA way f uss):=
 uJ hn hk (by rw[ai];exact h.len) (uA hway h.gu g) (W5 hn hway h.len h.gu g h.nz)
theorem S6{k:Nat}{x0 y0 w0 x1 y1 w1 x2 y2 w2:Int}(a0:Bd k x0)(b0:Bd k y0)(c0:Bd k w0)(a1:Bd k x1)(b1:Bd k y1)(c1:Bd k w1)(a2:Bd k x2)(b2:Bd k y2)(c2:Bd k w2):Bd (3*k+3) (D2 x0 y0 w0 x1 y1 w1 x2 y2 w2):=by
 have m:∀{a b:Int},Bd k a->Bd k b->Bd (2*k) (a*b):=λh g=>(h.mul g).mono (by omega);have s:∀{a b c d:Int},Bd k a->Bd k b->Bd k c->Bd k d->Bd (2*k+1) (a*b-c*d):=λh g i j=>(m h g).sub (m i j);have t:∀{w e:Int},Bd k w->Bd (2*k+1) e->Bd (3*k+1) (w*e):=λh g=>(h.mul g).mono (by omega);unfold D2;exact((t c0 (s a1 b2 b1 a2)).sub (t c1 (s a0 b2 b0 a2))).add ((t c2 (s a0 b1 b0 a1)).mono (by omega))
theorem S5{k:Nat}{x0 y0 z0 w0 x1 y1 z1 w1 x2 y2 z2 w2 x3 y3 z3 w3:Int}(a0:Bd k x0)(b0:Bd k y0)(d0:Bd k z0)(c0:Bd k w0)(a1:Bd k x1)(b1:Bd k y1)(d1:Bd k z1)(c1:Bd k w1)(a2:Bd k x2)(b2:Bd k y2)(d2:Bd k z2)(c2:Bd k w2)(a3:Bd k x3)(b3:Bd k y3)(d3:Bd k z3)(c3:Bd k w3):Bd (4*k+6) (D3 x0 y0 z0 w0 x1 y1 z1 w1 x2 y2 z2 w2 x3 y3 z3 w3):=by
 have m:∀{a b:Int},Bd k a->Bd k b->Bd (2*k) (a*b):=λh g=>(h.mul g).mono (by omega);have s:∀{a b c d:Int},Bd k a->Bd k b->Bd k c->Bd k d->Bd (2*k+1) (a*b-c*d):=λh g i j=>(m h g).sub (m i j);have t:∀{e w:Int},Bd (2*k+1) e->Bd k w->Bd (3*k+1) (e*w):=λh g=>(h.mul g).mono (by omega);have u:∀{e f g w:Int},Bd (3*k+1) e->Bd (3*k+1) f->Bd (3*k+1) g->Bd k w->Bd (4*k+3) (w*(e+f+g)):=λh i j l=>(l.mul ((h.add i).add (j.mono (by omega)))).mono (by omega);unfold D3;refine(((u (t (s b1 d2 d1 b2) a3) (t (s d1 a2 a1 d2) b3) (t (s a1 b2 b1 a2) d3) c0).sub (u (t (s b0 d2 d0 b2) a3) (t (s d0 a2 a0 d2) b3) (t (s a0 b2 b0 a2) d3) c1)).add ((u (t (s b0 d1 d0 b1) a3) (t (s d0 a1 a0 d1) b3) (t (s a0 b1 b0 a1) d3) c2).mono (by omega))).sub ((u (t (s b0 d1 d0 b1) a2) (t (s d0 a1 a0 d1) b2) (t (s a0 b1 b0 a1) d2) c3).mono (by omega))
theorem Gu.two'{k:Nat}{us:AA}(h:Gu 2 k us):∃x y w,us=[x,y,w]/\0<w/\Bd k x/\Bd k y/\Bd k w:=by
 obtain⟨xs,w,rfl,P⟩:=h
 match xs,P.len,P with
 |[x,y],_,P=>exact⟨x,y,w,rfl,P.pos,P.bx x (by simp),P.bx y (by simp),P.bw⟩
theorem Gu.three'{k:Nat}{us:AA}(h:Gu 3 k us):∃x y z w,us=[x,y,z,w]/\0<w/\Bd k x/\Bd k y/\Bd k z/\Bd k w:=by
 obtain⟨xs,w,rfl,P⟩:=h
 match xs,P.len,P with
 |[x,y,z],_,P=>exact⟨x,y,z,w,rfl,P.pos,P.bx x (by simp),P.bx y (by simp),P.bx z (by simp),P.bw⟩
theorem mk{k l:Nat}{a b:Int}(h:Bd k a)(g:Bd l b)(hk:k<=100000)(hl:l<=100000):bD (.int a) (.int b)=some (.int (a*b)):=lH (.inr ⟨h.mono (by omega),g.mono (by omega)⟩)
theorem Kd{n:Nat}(S:aG):∀(L:AI)(x:AK),(∀v∈L,Gp n 1000 v)->bT [] (gN 0) (aO pR [] (aB (aA 0) (aB (aA 1) aD))) L [x,some (.pv (.int n))] S=.ok (L.map λ_=>.bl true) S
 |[],x,_=>dC
 |v::L,x,h=>by
  have ih:=Kd (n:=n) S L (some (.pv v)) λu hu=>h u (bo _ hu);obtain⟨xs,w,rfl,P⟩:=h v ce;have e:=Jw S (by decide) P;rw[dG];generalize (n:Int)=N,(xs++[w]).map PV.int=XL at *;simp! [gN,aF,aY,aZ,aP,aL,aK,aM,aN,aE,aJ,e,ih]
theorem Vd:∀L:AI,jV [.lst (L.map λ_=>.bl true)]=some (.bl true):=λL=>by
 have e:jU (L.map λ_=>PV.bl true)=some (L.map λ_=>true):=by
  induction L with
  |nil=>rfl
  |cons v L ih=>
   show(match jU (L.map λ_=>PV.bl true)with |some bs=>some (true::bs) |none=>none)=_
   rw[ih];rfl
 simp only[jV,e,wg];simp
theorem Ut{n:Nat}(hn:n=2\/n=3){uss:AC}(S:aG)(hl:uss.length=n+1)(hg:∀us∈uss,Gu n 1000 us)(h0:gU (uss.map tv)≠0)(hc:bQ uss=uss):pQ [.pv (.tup (uss.map tv)),.pv (.int n)] S=.ok (.pv (.bl true)) S:=by
 have gp:=Nb hg;have hl2:(uss.map tv).length=n+1:=by rw[ai];exact hl
 have ec:=Kd S (uss.map tv) none gp;have ea:=Vd (uss.map tv);obtain⟨d,e2,hd⟩:=Ki (A:=.tup (uss.map tv)) hn S hl2 gp (.inr rfl);have hd0:d≠0:=λz=>h0 (by rw[<-hd,z];rfl);have hdb:(d==0)=false:=by simpa using hd0
 have e3:=wK (A:=.tup (uss.map tv)) hn S hl hg (.inr rfl);rw[hc]at e3;have q:aP 8 (.tup (uss.map tv)) (.tup (uss.map tv))=some true:=Bu λv hv=>M8 (m:=6) (gp v hv);have a3:aE (.int (n:Int)) (.int 1)=some (.int ((uss.map tv).length:Nat)):=by rw[aE,hl2];rfl
 generalize uss.map tv=L at *;generalize L.map (λ_=>PV.bl true)=BL at *;unfold pQ aS wC;generalize (n:Int)=N at *;simp! [bA,aL,aK,aM,aN,aJ,fB,a3,bF,bO,cB,cF,ec,ea,e2,hdb,e3,q]
theorem Vx{n k l:Nat}(hn:n=2\/n=3){way:Int}{f:AA}(S:aG)(hway:way=1\/way=-1){uss:AC}(h:Sx n k uss)(g:Gu n l f)(hk:k+l+1<=1000):qL [.pv (px uss),.pv (.int way),.pv (tv f)] S=.ok (.pv (px (oA way f uss))) S:=by
 have e1:bT [] (gN 0) (aO kE [] (aB (aA 0) (aB (aA 1) (aB (aA 2) aD)))) (uss.map tv) [none,some (.pv (tv f)),some (.pv (.int way))] S=.ok (uss.map (tv∘fY way f)) S:=by
  refine pZ (lN S) tv (tv∘fY way f) uss none λus hu=>?_;have e:=yR (way:=way) S hn hway (h.gu us hu) g (by omega) (by omega);simp! [aF,aY,aZ,aP,aL,aK,aM,aN,aE,aJ,e]
 have e2:=wK (uss:=uss.map (fY way f)) (A:=.lst ((uss.map (fY way f)).map tv)) hn S (by rw[ai];exact h.len) (λus hu=>(uA hway h.gu g us hu).mono hk) (.inl rfl);rw[ix]at e2;unfold qL aS yM;simp! [aF,aY,aZ,aP,aL,aK,aM,aN,aE,aJ,bF,cF,bO,cB,e1,e2,oA]
theorem Re{n k:Nat}(hn:n=2\/n=3)(S:aG){hs:AD}(h:∀uss∈hs,Sx n k uss)(hk:k<=1000):mU [.pv (.tup (hs.map px)),.pv (.int n)] S=.ok (.pv (.bl true)) S:=by
 have e:bT [] (gN 0) (aO pQ [] (aB (aA 0) (aB (aA 1) aD))) (hs.map px) [none,some (.pv (.int n))] S=.ok (hs.map λ_=>.bl true) S:=by
  refine pZ (lN S) px (λ_=>.bl true) hs none λuss hu=>?_;have s:=h uss hu;have e1:=Ut hn S s.len (λus hu=>(s.gu us hu).mono hk) (by rw[qS hn hk s.len s.gu];exact λz=>s.nz (Fi.mp z)) s.cn;simp! [aF,aY,aZ,aP,aL,aK,aM,aN,aE,aJ,e1]
 have ea:jV [.lst (hs.map λ_=>PV.bl true)]=some (.bl true):=by
  have:=Vd (hs.map px);rw[ix]at this;exact this
 unfold mU aS wI;simp! [aF,aY,aZ,aP,aL,aK,aM,aN,aE,aJ,fB,bF,cF,bO,cB,e,ea]
abbrev li(xs:AA):AI:=xs.map .int
abbrev lv(xs:AA):PV:=.lst (li xs)
abbrev cS(xss:AC):PV:=.lst (xss.map lv)
structure Rw(n:Nat)(xss:AC):Prop where
 len:xss.length=n+1
 l:∀xs∈xss,xs.length=n
 b:∀xs∈xss,∀x∈xs,-8<x/\x<8
 nz:dU (xss.map (·++[1]))≠0
theorem Af{α β:Type}(f:α->β):∀(R:List α)(j:Nat),(R.map f).eraseIdx j=(R.eraseIdx j).map f
 |[],j=>by simp
 |a::R,0=>by simp
 |a::R,j+1=>by simp[Af f R j]
theorem ix3:∀v<3,aZ 3 ((v:Nat):Int)=some v:=by decide
abbrev nV:MS:=(aI (iQ (aA 2) (mO (aA 1) (aB (aO cM [] (aB (aA 0) (aB (mR cT (aB (aA 1) aD)) aD))) aD)) (mC (.int 1)))
 (cZ (rG (aA 3) (aB (aA 2) aD))))
abbrev pO:MS:=(bP (aV (aC cP (aO cM [] (aB (aA 0) (aB (mC (.int 4)) aD))) (mC (.int 3)))) (nJ 3 2 5) cO)
theorem Ha(ns:AA)(hl:AI)(R C:AA)(L:AC)(x4 x5:AK)(hR0:0<R.length)(hR3:R.length<=3)(hv:∀v∈R,0<=v/\v<3)(hC:C.length=3)(hL:L.length<=9):
  ∃(j v:Nat)(ns':AA),j<R.length/\R[j]?=some (v:Int)/\nV [some (.ref 0),some (.ref 2),some (.ref 3),some (.ref 4),x4,x5] [.lst (li ns),.lst hl,.lst (li R),.lst (li C),.lol (L.map li)]
   = .nx [some (.ref 0),some (.ref 2),some (.ref 3),some (.ref 4),x4,x5] [.lst (li ns'),.lst hl,.lst (li (R.eraseIdx j)),.lst (li (C.set v 1)),.lol ((L++[C.set v 1]).map li)]:=by
 have hr:dY [.lst (li ns),.lst hl,.lst (li R),.lst (li C),.lol (L.map li)] 0 ns:=rfl;obtain⟨t,n1,e1,t0,t1,_⟩:=hJ (m:=(R.length:Int)) hr (by omega) (gS (by omega) (by omega));simp only[cx]at e1;obtain⟨j,rfl⟩:∃j:Nat,t=(j:Int):=⟨t.toNat,by omega⟩;have hj:j<R.length:=by omega
 obtain⟨v,ev⟩:∃v:Nat,R[j]=(v:Int):=⟨R[j].toNat,by have:=hv _ (du hj);omega⟩;have hv3:v<3:=by have:=hv _ (du hj);omega
 have hq:R[j]?=some (v:Int):=by rw[aw hj,ev]
 have ep:=K0 (S:=[.lst (li n1),.lst hl,.lst (li R),.lst (li C),.lol (L.map li)]) (k:=2) (j:=j) (xs:=li R) (v:=.int v) rfl (by rw[ci,hq];rfl) (by omega);simp only[ff,cx]at ep;have er:(li R).eraseIdx j=li (R.eraseIdx j):=Af _ _ _;rw[er]at ep;have ei:aZ (li C).length (v:Int)=some v:=by
  rw[ai,hC];exact ix3 v hv3
 have ec:(li C).set v (.int 1)=li (C.set v 1):=by simp[li,ng]
 refine⟨j,v,n1,hj,hq,?_⟩;have e1':cM [.ref 0,.pv (.int ((li R).length:Int))] [.lst (li ns),.lst hl,.lst (li R),.lst (li C),.lol (L.map li)]=.ok (.pv (.int (j:Int))) [.lst (li n1),.lst hl,.lst (li R),.lst (li C),.lol (L.map li)]:=by
  rw[ai];exact e1
 have el:(L++[C.set v 1]).map li=L.map li++[li (C.set v 1)]:=by simp
 rw[el];have lz:(L.map li).length<16777216:=by rw[ai];omega
 generalize li n1=NL1,li ns=NL,(j:Int)=J,li R=RL,li (R.eraseIdx j)=RE,li C=CL,li (C.set v 1)=CS,L.map li=LL at *;unfold nV;simp! [bA,aL,aK,aM,aN,aE,aJ,iQ,kH,mO,rG,rQ,dR,e1',ep,ei,ec,lz]
def k6:AD:=[[[0,0,0],[1,0,0],[1,1,0],[1,1,1]],[[0,0,0],[1,0,0],[1,0,1],[1,1,1]],[[0,0,0],[0,1,0],[1,1,0],[1,1,1]],[[0,0,0],[0,1,0],[0,1,1],[1,1,1]],[[0,0,0],[0,0,1],[1,0,1],[1,1,1]],[[0,0,0],[0,0,1],[0,1,1],[1,1,1]]]
theorem X5{R:AA}{j v:Nat}{a b c:Int}(h:R=[a,b,c])(hj:j<R.length)(e:R[j]?=some (v:Int)):(j=0/\(v:Int)=a)\/(j=1/\(v:Int)=b)\/(j=2/\(v:Int)=c):=by
 subst h
 match j,hj,e with
 |0,_,e=>simp at e;exact .inl ⟨rfl,e.symm⟩
 |1,_,e=>simp at e;exact .inr (.inl ⟨rfl,e.symm⟩)
 |2,_,e=>simp at e;exact .inr (.inr ⟨rfl,e.symm⟩)
theorem Z5{R:AA}{j v:Nat}{a b:Int}(h:R=[a,b])(hj:j<R.length)(e:R[j]?=some (v:Int)):(j=0/\(v:Int)=a)\/(j=1/\(v:Int)=b):=by
 subst h
 match j,hj,e with
 |0,_,e=>simp at e;exact .inl ⟨rfl,e.symm⟩
 |1,_,e=>simp at e;exact .inr ⟨rfl,e.symm⟩
theorem aav{R:AA}{j v:Nat}{a:Int}(h:R=[a])(hj:j<R.length)(e:R[j]?=some (v:Int)):j=0/\(v:Int)=a:=by
 subst h
 match j,hj,e with
 |0,_,e=>simp at e;exact⟨rfl,e.symm⟩
theorem k3(ns:AA)(hl:AI)(R C:AA)(A:AC)(a b c:Nat)(x4 x5:AK)(hR:R=[(c:Int)])(hc:c<3)(hC:C.length=3)(hA:A.length<=9)(ks:AD)(hk:A++[C.set c 1]∈ks):
  ∃(xss:AC)(ns':AA)(C':AA),xss∈ks/\dE [] (gN 4) nV [.int 2] [some (.ref 0),some (.ref 2),some (.ref 3),some (.ref 4),x4,x5] [.lst (li ns),.lst hl,.lst (li R),.lst (li C),.lol (A.map li)]
   = .nx [some (.ref 0),some (.ref 2),some (.ref 3),some (.ref 4),some (.pv (.int 2)),x5] [.lst (li ns'),.lst hl,.lst [],.lst (li C'),.lol (xss.map li)]:=by
 obtain⟨j,v,n1,hj,e,h⟩:=Ha ns hl R C A (some (.pv (.int 2))) x5 (by rw[hR];simp) (by rw[hR];simp) (by rw[hR];simp;omega) hC hA;obtain⟨rfl,ev⟩:=aav hR hj e;have:v=c:=by omega
 subst this;subst hR;refine⟨_,n1,C.set v 1,hk,?_⟩;rw[eK];simp only[gN,ff,cx];rw[h];exact fW
theorem k2(ns:AA)(hl:AI)(R C:AA)(A:AC)(b c:Nat)(x4 x5:AK)(hR:R=[(b:Int),(c:Int)])(hb:b<3)(hc:c<3)(hC:C.length=3)(hA:A.length<=8)(ks:AD)(h1:A++[C.set b 1]++[(C.set b 1).set c 1]∈ks)(h2:A++[C.set c 1]++[(C.set c 1).set b 1]∈ks):
  ∃(xss:AC)(ns':AA)(C':AA),xss∈ks/\dE [] (gN 4) nV [.int 1,.int 2] [some (.ref 0),some (.ref 2),some (.ref 3),some (.ref 4),x4,x5] [.lst (li ns),.lst hl,.lst (li R),.lst (li C),.lol (A.map li)]
   = .nx [some (.ref 0),some (.ref 2),some (.ref 3),some (.ref 4),some (.pv (.int 2)),x5] [.lst (li ns'),.lst hl,.lst [],.lst (li C'),.lol (xss.map li)]:=by
 obtain⟨j,v,n1,hj,e,h⟩:=Ha ns hl R C A (some (.pv (.int 1))) x5 (by rw[hR];simp) (by rw[hR];simp) (by rw[hR];simp;omega) hC (by omega);rw[eK];simp only[gN,ff,cx];rw[h];rcases Z5 hR hj e with⟨rfl,ev⟩|⟨rfl,ev⟩
 .have:v=b:=by omega
  subst this;subst hR;exact k3 n1 hl _ (C.set v 1) _ 0 0 c _ x5 rfl hc (by rw[dk];exact hC) (by simp;omega) ks h1
 .have:v=c:=by omega
  subst this;subst hR;exact k3 n1 hl _ (C.set v 1) _ 0 0 b _ x5 rfl hb (by rw[dk];exact hC) (by simp;omega) ks h2
theorem k1(ns:AA)(hl:AI)(x4 x5:AK):
  ∃(xss:AC)(ns':AA)(C':AA),xss∈k6/\dE [] (gN 4) nV [.int 0,.int 1,.int 2] [some (.ref 0),some (.ref 2),some (.ref 3),some (.ref 4),x4,x5] [.lst (li ns),.lst hl,.lst (li [0,1,2]),.lst (li [0,0,0]),.lol ([[0,0,0]].map li)]
   = .nx [some (.ref 0),some (.ref 2),some (.ref 3),some (.ref 4),some (.pv (.int 2)),x5] [.lst (li ns'),.lst hl,.lst [],.lst (li C'),.lol (xss.map li)]:=by
 obtain⟨j,v,n1,hj,e,h⟩:=Ha ns hl [0,1,2] [0,0,0] [[0,0,0]] (some (.pv (.int 0))) x5 (by decide) (by decide) (by decide) rfl (by decide);rw[eK];simp only[gN,ff,cx];rw[h];rcases X5 rfl hj e with⟨rfl,ev⟩|⟨rfl,ev⟩|⟨rfl,ev⟩
 .have:v=0:=by omega
  subst this;exact k2 n1 hl _ [1,0,0] _ 1 2 _ x5 rfl (by decide) (by decide) rfl (by decide) k6 (by decide) (by decide)
 .have:v=1:=by omega
  subst this;exact k2 n1 hl _ [0,1,0] _ 0 2 _ x5 rfl (by decide) (by decide) rfl (by decide) k6 (by decide) (by decide)
 .have:v=2:=by omega
  subst this;exact k2 n1 hl _ [0,0,1] _ 0 1 _ x5 rfl (by decide) (by decide) rfl (by decide) k6 (by decide) (by decide)
def pL(m:Nat)(xs:AA):AA:=xs.set m (1-xs.getD m 0)
theorem Cu{m:Nat}{xs:AA}(h:xs.length=3)(hm:m<3):uN (m:Int) (li xs)=some (li (pL m xs)):=by
 match xs,h,m,hm with
 |[a,b,c],_,0,_=>rfl
 |[a,b,c],_,1,_=>rfl
 |[a,b,c],_,2,_=>rfl
theorem Kg{m:Nat}(hm:m<3):∀{L:AC},(∀xs∈L,xs.length=3)->oW (m:Int) (L.map li)=some ((L.map (pL m)).map li)
 |[],_=>rfl
 |xs::L,h=>by
  have e1:=Cu (h xs ce) hm;have e2:=Kg hm λys hy=>h ys (bo _ hy);simp only[ar];unfold oW;rw[e1,e2]
theorem S0{a b c d:AI}{L:List AI}:vR 4 [.lst a,.lst b,.lst c,.lst d,.lol L]:=λj o e n=>by
 match j,e with
 |0,e=>cases e;exact⟨_,rfl⟩
 |1,e=>cases e;exact⟨_,rfl⟩
 |2,e=>cases e;exact⟨_,rfl⟩
 |3,e=>cases e;exact⟨_,rfl⟩
 |4,e=>exact absurd rfl n
 |j+5,e=>simp at e
def jK(b:Bool)(m:Nat)(L:AC):AC:=if b then L.map (pL m)else L
theorem Fa(m:Nat)(hm:m<3)(ns:AA)(a b c:AI)(L:AC)(hL:∀xs∈L,xs.length=3)(x2 x4:AK):
  ∃(f:Bool)(ns':AA)(y2:AK),pO [some (.ref 0),some (.ref 2),x2,some (.ref 4),x4,some (.pv (.int (m:Int)))] [.lst (li ns),.lst a,.lst b,.lst c,.lol (L.map li)]
   = .nx [some (.ref 0),some (.ref 2),y2,some (.ref 4),x4,some (.pv (.int (m:Int)))] [.lst (li ns'),.lst a,.lst b,.lst c,.lol ((jK f m L).map li)]:=by
 have hr:dY [.lst (li ns),.lst a,.lst b,.lst c,.lol (L.map li)] 0 ns:=rfl;obtain⟨t,n1,e1,t0,t1,_⟩:=hJ (m:=4) hr (by decide) (gS (by decide) (by decide));simp only[cx]at e1;have e1:cM [.ref 0,.pv (.int 4)] [.lst (li ns),.lst a,.lst b,.lst c,.lol (L.map li)]=.ok (.pv (.int t)) [.lst (li n1),.lst a,.lst b,.lst c,.lol (L.map li)]:=e1;have ef:=Kg hm hL
 by_cases h:t=3
 .refine⟨true,n1,none,?_⟩
  have hf:nJ 3 2 5 [some (.ref 0),some (.ref 2),x2,some (.ref 4),x4,some (.pv (.int (m:Int)))] [.lst (li n1),.lst a,.lst b,.lst c,.lol (L.map li)]=.nx [some (.ref 0),some (.ref 2),none,some (.ref 4),x4,some (.pv (.int (m:Int)))] [.lst (li n1),.lst a,.lst b,.lst c,.lol ((L.map (pL m)).map li)]:=by
   unfold nJ;dsimp only[List.getElem?_cons_succ,List.getElem?_cons_zero];rw[if_pos ⟨S0,by simp⟩,ef];rfl
  unfold pO;have:jK true m L=L.map (pL m):=rfl;rw[this];simp! [aF,aY,aZ,aP,aL,aK,aM,aN,aE,aJ,e1,h,hf]
 .refine⟨false,n1,x2,?_⟩
  unfold pO;have:jK false m L=L:=rfl;rw[this];simp! [aF,aY,aZ,aP,aL,aK,aM,aN,aE,aJ,e1,h]
theorem yC{b:Bool}{m:Nat}{L:AC}(h:∀xs∈L,xs.length=3):∀xs∈jK b m L,xs.length=3:=by
 unfold jK;split
 .intro xs hx
  obtain⟨ys,hy,rfl⟩:=gg.mp hx;unfold pL;rw[dk];exact h ys hy
 .exact h
def Lb(xss:AC):Bool:=decide (xss.length=4)&&xss.all (λxs=>decide (xs.length=3)&&xs.all λx=>decide (-8<x)&&decide (x<8))&&decide (dU (xss.map (·++[1]))≠0)
theorem A7{xss:AC}(h:Lb xss=true):Rw 3 xss:=by
 unfold Lb at h;simp only[gj,decide_eq_true_eq,jv]at h;exact⟨h.1.1,λxs hx=>(h.1.2 xs hx).1,λxs hx x hh=>(h.1.2 xs hx).2 x hh,h.2⟩
theorem k48:∀xss∈k6,∀a b c:Bool,Lb (jK c 2 (jK b 1 (jK a 0 xss)))=true:=by decide+kernel
theorem C0:∀xss∈k6,∀xs∈xss,xs.length=3:=by decide
theorem Zn{a b:AI}:Pl [.lst a,.lst b]:=λj o e=>by
 match j,e with
 |0,e=>cases e;exact⟨_,rfl⟩
 |1,e=>cases e;exact⟨_,rfl⟩
 |j+2,e=>simp at e
theorem Oy(ns:AA)(hl:AI):∃(xss:AC)(ns':AA),oN [.ref 0] [.lst (li ns),.lst hl]=.ok (.pv (cS xss)) [.lst (li ns'),.lst hl]/\Rw 3 xss:=by
 obtain⟨L,n1,C,hm,e1⟩:=k1 ns hl none none;have l0:=C0 L hm;obtain⟨fa,n2,y2,e2⟩:=Fa 0 (by decide) n1 hl [] (li C) L l0 (some (.ref 3)) (some (.pv (.int 2)));obtain⟨fb,n3,y3,e3⟩:=Fa 1 (by decide) n2 hl [] (li C) _ (yC l0) y2 (some (.pv (.int 2)));obtain⟨fc,n4,y4,e4⟩:=Fa 2 (by decide) n3 hl [] (li C) _ (yC (yC l0)) y3 (some (.pv (.int 2)));have c0:((0:Nat):Int)=0:=rfl;have c1:((1:Nat):Int)=1:=rfl;have c2:((2:Nat):Int)=2:=rfl;rw[c0]at e2;rw[c1]at e3;rw[c2]at e4;have hw:=k48 L hm fa fb fc;generalize jK fc 2 (jK fb 1 (jK fa 0 L))=X at hw e4;refine⟨X,n4,?_,A7 hw⟩;have ex:(X.map li).map PV.lst=X.map lv:=by rw[ix];rfl
 have e5:dE [] (gN 5) pO [.int 0,.int 1,.int 2] [some (.ref 0),some (.ref 2),some (.ref 3),some (.ref 4),some (.pv (.int 2)),none] [.lst (li n1),.lst hl,.lst [],.lst (li C),.lol (L.map li)]
   = .nx [some (.ref 0),some (.ref 2),y4,some (.ref 4),some (.pv (.int 2)),some (.pv (.int 2))] [.lst (li n4),.lst hl,.lst [],.lst (li C),.lol (X.map li)]:=by
  rw[eK];simp only[gN,ff,cx];rw[e2];dsimp only;rw[eK];simp only[gN,ff,cx];rw[e3];dsimp only;rw[eK];simp only[gN,ff,cx];rw[e4];exact fW
 unfold oN nR;rw[if_pos ⟨rfl,Zn⟩];have eb:tK (eR 6 [.ref 0]) [.lst (li ns),.lst hl]=.rt (.ref 4) [.lst (li n4),.lst hl,.lst [],.lst (li C),.lol (X.map li)]:=by
  simp only[li,ar,cg]at e1;have hb:tK=(aI (aR 1 (dP (aB (mC (.int 0)) (aB (mC (.int 1)) (aB (mC (.int 2)) aD)))))
   (aI (aR 2 (dP (aB (mC (.int 0)) (aB (mC (.int 0)) (aB (mC (.int 0)) aD)))))
   (aI (aR 3 (rM (aB (aA 2) aD)))
   (aI (bZ (bY (aB (mC (.int 3)) aD)) (gN 4) nV)
   (aI (bZ (bY (aB (mC (.int 3)) aD)) (gN 5) pO)
   (bE (aA 3))))))):=rfl
  rw[hb];generalize nV=B1,pO=B2 at *;simp! [aF,aY,aZ,aP,aL,aK,aM,aN,aE,aJ,dP,hV,rM,Ia,bZ,bY,hrg,e1,e5]
 rw[eb];unfold uC;simp[Zn,ex]
theorem Gr(L:AI)(p:PV)(h:L≠[]):∃v∈L,aF (.lst L) (.int (-1))=some v:=by
 have hl:0<L.length:=vp.mpr h;refine⟨L[L.length-1]'(by omega),du _,?_⟩;show aY L (-1)=_;unfold aY;have e:aZ L.length (-1)=some (L.length-1):=by
  unfold aZ;rw[if_neg (by decide),if_pos (by omega)];congr 1;omega
 rw[e];exact aw _
theorem rN{x:Int}(h:-1000<x)(g:x<1000):Bd 10 x:=by
 unfold Bd;have:x.natAbs<1000:=by omega
 omega
theorem jL(S:aG){n:Nat}(h:n<=9):iD [.pv (.int (n:Int))] S=.ok (cG 0 n,[]) S:=by
 have e:iD [.pv (.int (n:Int))] S=@ite _ ((n:Int)<=16777216/\-16777216<=(n:Int)) (qv _) (.ok (cG 0 (n:Int).toNat,[]) S) .fail:=rfl;rw[e,if_pos ⟨by omega,by omega⟩,ny]
theorem Aw{S:aG}{k:Nat}{ns:AA}(h:dY S k ns):S.set k (.lst (ns.map .int))=S:=mx λj=>by
 by_cases q:k=j
 .subst q
  rw[dg h.lt];exact h.symm
 .rw[dq q]
theorem Jf{k:Nat}{W:Int}(W0:0<=W)(W1:W<=2):∀(is:AI)(S:aG)(ns:AA)(x:AK),dY S k ns->∃(xs ns':AA),bT [] (gN 0) (aO cM [] (aB (aA 1) (aB (aC aE (aA 2) (mC (.int 1))) aD))) is [x,some (.ref k),some (.pv (.int W))] S=.ok (li xs) (S.set k (.lst (li ns')))/\xs.length=is.length/\∀n∈xs,0<=n/\n<=2
 |[],S,ns,x,h=>by
  refine⟨[],ns,?_,rfl,λ_ h=>absurd h de⟩;rw[show S.set k (.lst (li ns))=S from Aw h];exact dC
 |i::is,S,ns,x,h=>by
  obtain⟨t,n1,e1,t0,t1,_⟩:=hJ (m:=W+1) h (by omega) (gS (by omega) (by omega));obtain⟨xs,n2,e2,l2,b2⟩:=Jf W0 W1 is _ n1 (some (.pv i)) (h.set n1);rw[jy]at e2;refine⟨t::xs,n2,?_,by simp[l2],λn hn=>?_⟩
  .rw[dG]
   generalize S.set k (.lst (n1.map .int))=S1 at e1 e2;simp! [gN,aF,aY,aZ,aP,aL,aK,aM,aN,aE,aJ,e1,e2]
  .rcases ay.mp hn with rfl |hn
   .omega
   .exact b2 n hn
abbrev rB:MS:=(cZ (cN (aA 3) (aB (bF ["_law_m"] [(0,"_law_row_here"),(2,"_law_wide")] (bY (aB (aA 1) aD)) (gN 0) (aO cM [] (aB (aA 1) (aB (aC aE (aA 2) (mC (.int 1))) aD)))) aD)))
theorem Tf{n:Nat}(hn:n<=9){W:Int}(W0:0<=W)(W1:W<=2)(hl:AI):∀(is:AI)(L:AC)(ns:AA)(x4:AK),L.length+is.length<=99->∃(L':AC)(ns':AA)(y4:AK),
  dE [] (gN 4) rB is [some (.ref 0),some (.pv (.int (n:Int))),some (.pv (.int W)),some (.ref 2),x4] [.lst (li ns),.lst hl,.lst (L.map lv)]=.nx [some (.ref 0),some (.pv (.int (n:Int))),some (.pv (.int W)),some (.ref 2),y4] [.lst (li ns'),.lst hl,.lst ((L++L').map lv)]
   /\L'.length=is.length/\∀xs∈L',xs.length=n/\∀x∈xs,0<=x/\x<=2
 |[],L,ns,x4,h9=>⟨[],ns,x4,by rw[ib];exact fW,rfl,λ_ h=>absurd h de⟩
 |i::is,L,ns,x4,h9=>by
  have hr:dY [.lst (li ns),.lst hl,.lst (L.map lv)] 0 ns:=rfl;obtain⟨xs,n1,e1,l1,b1⟩:=Jf W0 W1 (cG 0 n) _ ns none hr;simp only[cx]at e1;have h9:L.length+(is.length+1)<=99:=h9;obtain⟨L',n2,y4,e2,l2,b2⟩:=Tf hn W0 W1 hl is (L++[xs]) n1 (some (.pv i)) (by rw[bi,ju];omega);refine⟨xs::L',n2,y4,?_,by simp[l2],λys hy=>?_⟩
  .rw[eK]
   have es:rB [some (.ref 0),some (.pv (.int (n:Int))),some (.pv (.int W)),some (.ref 2),some (.pv i)] [.lst (li ns),.lst hl,.lst (L.map lv)]=.nx [some (.ref 0),some (.pv (.int (n:Int))),some (.pv (.int W)),some (.ref 2),some (.pv i)] [.lst (li n1),.lst hl,.lst ((L++[xs]).map lv)]:=by
    have el:(L++[xs]).map lv=L.map lv++[lv xs]:=by simp
    rw[el];have lz:(L.map lv).length<16777216:=by rw[ai];omega
    have rg:=jL [.lst (li ns),.lst hl,.lst (L.map lv)] hn;unfold rB;generalize (n:Int)=N,cG 0 n=IP,li ns=NL,L.map lv=LL at *;simp! [aF,aY,aZ,aP,aL,aK,aM,aN,aE,aJ,cN,dR,fM,bF,cF,bY,rg,e1,lz]
   simp only[gN,ff,cx];rw[es];dsimp only;rw[e2,ie];rfl
  .rcases ay.mp hy with rfl |hy
   .exact⟨by rw[l1];unfold cG;simp,b1⟩
   .exact b2 ys hy
theorem L3{S:aG}{ti:Nat}{a b c d e f:Int}(h:S[ti]?=some (.lst [lv [a,b],lv [c,d],lv [e,f]]))(ha:0<=a/\a<=2)(hb:0<=b/\b<=2)(hc:0<=c/\c<=2)(hd:0<=d/\d<=2)(he:0<=e/\e<=2)(hf:0<=f/\f<=2):kY [.ref ti] S=.ok (.pv (.int (D2 a b 1 c d 1 e f 1))) S:=by
 have id:(c-a)*(f-b)-(d-b)*(e-a)=D2 a b 1 c d 1 e f 1:=by
  unfold D2;grind
 have b1:Bd 10 (c-a):=rN (by omega) (by omega);have b2:Bd 10 (d-b):=rN (by omega) (by omega);have b3:Bd 10 (e-a):=rN (by omega) (by omega);have b4:Bd 10 (f-b):=rN (by omega) (by omega);have m1:=eO b1 b4;have m2:=eO b2 b3;generalize D2 a b 1 c d 1 e f 1=D at *;have s1:=mE (lv [a,b]) [lv [c,d],lv [e,f]];have et:gH [.pv (.lst [.lst [.int (c-a),.int (d-b)],.lst [.int (e-a),.int (f-b)]])] S=.ok (.pv (.int D)) S:=by
  unfold gH aS lK;simp! [aF,aY,aZ,aP,aL,aK,aM,aN,aE,aJ,m1,m2,id]
 unfold kY aS sD;simp only[lv,li,ar,cg]at h s1;simp! [aF,aY,aZ,aP,aL,aK,aM,aN,aE,aJ,bF,bO,cB,cY,cX,cV,eL,h,s1,cF,dG,dC,gN,gT,dL,eS,fX,jG,eV,et]
theorem A9{S:aG}{ti:Nat}{x0 y0 z0 x1 y1 z1 x2 y2 z2 x3 y3 z3:Int}(h:S[ti]?=some (.lst [lv [x0,y0,z0],lv [x1,y1,z1],lv [x2,y2,z2],lv [x3,y3,z3]]))(hb:∀x∈[x0,y0,z0,x1,y1,z1,x2,y2,z2,x3,y3,z3],0<=x/\x<=2):kY [.ref ti] S=.ok (.pv (.int (D3 x0 y0 z0 1 x1 y1 z1 1 x2 y2 z2 1 x3 y3 z3 1))) S:=by
 have id:dt [(y1-y0)*(z2-z0)-(z1-z0)*(y2-y0),(z1-z0)*(x2-x0)-(x1-x0)*(z2-z0),(x1-x0)*(y2-y0)-(y1-y0)*(x2-x0)] [x3-x0,y3-y0,z3-z0]=D3 x0 y0 z0 1 x1 y1 z1 1 x2 y2 z2 1 x3 y3 z3 1:=by
  simp only[dt,D3,jz,my,jf,ka];grind
 simp only[ay,de,or_false,forall_eq_or_imp,forall_eq]at hb;have q:∀{a b:Int},(0<=a/\a<=2)->(0<=b/\b<=2)->Bd 10 (a-b):=λh g=>rN (by omega) (by omega);obtain⟨hx0,hy0,hz0,hx1,hy1,hz1,hx2,hy2,hz2,hx3,hy3,hz3⟩:=hb;have b1:=q hx1 hx0;have b2:=q hy1 hy0;have b3:=q hz1 hz0;have b4:=q hx2 hx0;have b5:=q hy2 hy0;have b6:=q hz2 hz0;have b7:=q hx3 hx0;have b8:=q hy3 hy0;have b9:=q hz3 hz0;clear hx0 hy0 hz0 hx1 hy1 hz1 hx2 hy2 hz2 hx3 hy3 hz3 q;generalize D3 x0 y0 z0 1 x1 y1 z1 1 x2 y2 z2 1 x3 y3 z3 1=D at *;have s1:=mE (lv [x0,y0,z0]) [lv [x1,y1,z1],lv [x2,y2,z2],lv [x3,y3,z3]];have et:gH [.pv (.lst [.lst [.int (x1-x0),.int (y1-y0),.int (z1-z0)],.lst [.int (x2-x0),.int (y2-y0),.int (z2-z0)],.lst [.int (x3-x0),.int (y3-y0),.int (z3-z0)]])] S=.ok (.pv (.int D)) S:=by
  generalize z3-z0=T2,y3-y0=T1,x3-x0=T0,z2-z0=V2,y2-y0=V1,x2-x0=V0,z1-z0=U2,y1-y0=U1,x1-x0=U0 at *;have u:∀{a:Int},Bd 10 a->Bd 10000 a:=λh=>h.mono (by decide);have u2:∀{a:Int},Bd 10 a->Bd 100000 a:=λh=>h.mono (by decide);have cc:∀{a b c d:Int},Bd 10 a->Bd 10 b->Bd 10 c->Bd 10 d->Bd 100000 (a*b-c*d):=λh1 h2 h3 h4=>(((h1.mul h2).mono (show 10+10<=20 by decide)).sub ((h3.mul h4).mono (show 10+10<=20 by decide))).mono (by decide);have en:=qE (A:=.lst [.int U0,.int U1,.int U2]) (B:=.lst [.int V0,.int V1,.int V2]) S (.inl rfl) (.inl rfl) (u b1) (u b2) (u b3) (u b4) (u b5) (u b6);have ed:=qJ (A:=.lst [.int (U1*V2-U2*V1),.int (U2*V0-U0*V2),.int (U0*V1-U1*V0)]) (B:=.lst [.int T0,.int T1,.int T2]) (us:=[U1*V2-U2*V1,U2*V0-U0*V2,U0*V1-U1*V0]) (vs:=[T0,T1,T2]) S (.inl rfl) (.inl rfl) (by simp;exact⟨cc b2 b6 b3 b5,cc b3 b4 b1 b6,cc b1 b5 b2 b4⟩) (by simp;exact⟨u2 b7,u2 b8,u2 b9⟩);rw[id]at ed;generalize U0*V1-U1*V0=N2,U2*V0-U0*V2=N1,U1*V2-U2*V1=N0 at *;unfold gH aS lK;simp! [aF,aY,aZ,aP,aL,aK,aM,aN,aE,aJ,en,ed]
 unfold kY aS sD;simp only[lv,li,ar,cg]at h s1;simp! [aF,aY,aZ,aP,aL,aK,aM,aN,aE,aJ,bF,bO,cB,cY,cX,cV,eL,h,s1,cF,dG,dC,gN,gT,dL,eS,fX,jG,eV,et]
theorem U9{n:Nat}(hn:n=2\/n=3){S:aG}{ti:Nat}{L:AC}(h:S[ti]?=some (.lst (L.map lv)))(hl:L.length=n+1)(hb:∀xs∈L,xs.length=n/\∀x∈xs,0<=x/\x<=2):kY [.ref ti] S=.ok (.pv (.int (dU (L.map (·++[1]))))) S:=by
 rcases hn with rfl |rfl
 .match L,hl,hb,h with
  |[A,B,C],_,hb,h=>
   have ga:=hb A (by simp);have gb:=hb B (by simp);have gc:=hb C (by simp);clear hb
   match A,ga.1,B,gb.1,C,gc.1 with
   |[a,b],_,[c,d],_,[e,f],_=>exact L3 h (ga.2 a (by simp)) (ga.2 b (by simp)) (gb.2 c (by simp)) (gb.2 d (by simp)) (gc.2 e (by simp)) (gc.2 f (by simp))
 .match L,hl,hb,h with
  |[A,B,C,D],_,hb,h=>
   have ga:=hb A (by simp);have gb:=hb B (by simp);have gc:=hb C (by simp);have gd:=hb D (by simp);clear hb
   match A,ga.1,B,gb.1,C,gc.1,D,gd.1 with
   |[x0,y0,z0],_,[x1,y1,z1],_,[x2,y2,z2],_,[x3,y3,z3],_=>
    refine A9 h λx hx=>?_;rw[show[x0,y0,z0,x1,y1,z1,x2,y2,z2,x3,y3,z3]=[x0,y0,z0]++([x1,y1,z1]++([x2,y2,z2]++[x3,y3,z3])) from rfl]at hx;rcases bj.mp hx with z |z
    .exact ga.2 x z
    .rcases bj.mp z with z |z
     .exact gb.2 x z
     .rcases bj.mp z with z |z
      .exact gc.2 x z
      .exact gd.2 x z
def pP(n:Nat):AC:=if n=2 then[[0,0],[1,0],[0,1]] else[[0,0,0],[1,0,0],[0,1,0],[0,0,1]]
theorem N7{n:Nat}(hn:n=2\/n=3):Rw n (pP n):=by
 rcases hn with rfl |rfl
 .exact⟨rfl,by decide,by decide,by decide⟩
 .exact⟨rfl,by decide,by decide,by decide⟩
theorem rgm(S:aG){n:Nat}(h:n<=9):uQ [.pv (.int (-1)),.pv (.int (n:Int))] S=.ok (cG (-1) (n+1),[]) S:=by
 have e:uQ [.pv (.int (-1)),.pv (.int (n:Int))] S=@ite _ ((-4611686018427387904<=(-1:Int)/\(-1:Int)<4611686018427387904/\-4611686018427387904<=(n:Int)/\(n:Int)<4611686018427387904)/\(n:Int)- -1<=16777216) (qv _) (.ok (cG (-1) ((n:Int)- -1).toNat,[]) S) .fail:=rfl;rw[e,if_pos ⟨⟨by decide,by decide,by omega,by omega⟩,by omega⟩];rw[show((n:Int)- -1).toNat=n+1 by omega]
theorem vL{α:Type}{a:α}{S:aG}:fL (.ok a S)=.ok a S:=rfl
theorem wB{n:Nat}{v:PV}{S:aG}:frz n (.ok (.pv v) S)=.ok (.pv v) S:=rfl
theorem Gy{n:Nat}(hn:n=2\/n=3)(S:aG)(x0 x2 x3 x4:AK):bF ["_law_k"] [(1,"_law_dims")] (lJ (aB (bJ cJ (mC (.int 1))) (aB (aA 1) aD))) (gN 0) (bF ["_law_m"] [(0,"_law_k")] (bY (aB (aA 1) aD)) (gN 0) (mR iB (aB (aC cP (aA 0) (aA 1)) aD))) [x0,some (.pv (.int (n:Int))),x2,x3,x4] S=.ok (.pv (cS (pP n))) S:=by
 have r1:=λS=>jL S (n:=n) (by omega);have r2:=λS=>rgm S (n:=n) (by omega);rcases hn with rfl |rfl
 .have c2:((2:Nat):Int)=2:=rfl
  rw[c2]at r1 r2⊢;have i1:cG 0 2=[.int 0,.int 1]:=rfl;have i2:cG (-1) (2+1)=[.int (-1),.int 0,.int 1]:=rfl;rw[i1]at r1;rw[i2]at r2;simp! [bF,cF,bY,lJ,aF,aY,aZ,aP,aL,aK,aM,aN,aE,aJ,r1,r2,dG,dC,gN,iB,pP]
 .have c2:((3:Nat):Int)=3:=rfl
  rw[c2]at r1 r2⊢;have i1:cG 0 3=[.int 0,.int 1,.int 2]:=rfl;have i2:cG (-1) (3+1)=[.int (-1),.int 0,.int 1,.int 2]:=rfl;rw[i1]at r1;rw[i2]at r2;simp! [bF,cF,bY,lJ,aF,aY,aZ,aP,aL,aK,aM,aN,aE,aJ,r1,r2,dG,dC,gN,iB,pP]
theorem Kj{n:Nat}(hn:n=2\/n=3){W:Int}(W0:0<=W)(W1:W<=2)(ns:AA)(hl:AI):∃(xss:AC)(ns':AA),frz 2 (fL (jS [.ref 0,.pv (.int (n:Int)),.pv (.int W)] [.lst (li ns),.lst hl]))=.ok (.pv (cS xss)) [.lst (li ns'),.lst hl]/\Rw n xss:=by
 obtain⟨L,n1,y4,e1,l1,b1⟩:=Tf (n:=n) (by omega) W0 W1 hl (cG 0 (n+1)) [] ns none (by unfold cG;simp;omega);have hi:(cG 0 (n+1)).length=n+1:=by unfold cG;simp
 rw[hi]at l1;simp only[dw,cg]at e1;have et:=U9 (ti:=2) (S:=[.lst (li n1),.lst hl,.lst (L.map lv)]) hn rfl l1 b1;have rg:=jL [.lst (li ns),.lst hl,.lst []] (n:=n+1) (by omega);have cn:((n+1:Nat):Int)=(n:Int)+1:=by omega
 rw[cn]at rg;have ed:=Gy hn [.lst (li n1),.lst hl,.lst (L.map lv)] (some (.ref 0)) (some (.pv (.int W))) (some (.ref 2)) y4;have hb:zI=(aI (aR 3 (dP aD))
  (aI (bZ (bY (aB (aC aE (aA 1) (mC (.int 1))) aD)) (gN 4) rB)
  (aI (bP (aV (aC eM (aO kY [] (aB (aA 3) aD)) (mC (.int 0)))) (bE (aA 3)) cO)
  (bE (bF ["_law_k"] [(1,"_law_dims")] (lJ (aB (bJ cJ (mC (.int 1))) (aB (aA 1) aD))) (gN 0) (bF ["_law_m"] [(0,"_law_k")] (bY (aB (aA 1) aD)) (gN 0) (mR iB (aB (aC cP (aA 0) (aA 1)) aD)))))))):=rfl
 generalize (bF ["_law_k"] [(1,"_law_dims")] (lJ (aB (bJ cJ (mC (.int 1))) (aB (aA 1) aD))) (gN 0) (bF ["_law_m"] [(0,"_law_k")] (bY (aB (aA 1) aD)) (gN 0) (mR iB (aB (aC cP (aA 0) (aA 1)) aD))))=CD at ed hb;generalize rB=RB at e1 hb
 by_cases hd:dU (L.map (·++[1]))=0
 .refine⟨pP n,n1,?_,N7 hn⟩
  rw[hd]at et;unfold jS aS;rw[hb];generalize (n:Int)=N,cG 0 (n+1)=IP,li n1=NL1,li ns=NL,L.map lv=LL,cS (pP n)=RV at *;simp! [aF,aY,aZ,aP,aL,aK,aM,aN,aE,aJ,dP,hV,bZ,bY,rg,e1,et,ed]
 .refine⟨L,n1,?_,⟨l1,λxs hx=>(b1 xs hx).1,λxs hx x hh=>by have:=(b1 xs hx).2 x hh;omega,hd⟩⟩
  unfold jS aS;rw[hb];have hv:cS L=.lst (L.map lv):=rfl;rw[hv];generalize (n:Int)=N,cG 0 (n+1)=IP,li n1=NL1,li ns=NL,L.map lv=LL,dU (L.map (·++[1]))=d at *;simp! [aF,aY,aZ,aP,aL,aK,aM,aN,aE,aJ,dP,hV,bZ,bY,rg,e1,et,hd]
abbrev hB:MS:=(aI (aR 5 (aO cM [] (aB (aA 0) (aB (mC (.int 6)) aD))))
 (bP (eQ (aV (aC cP (aA 5) (mC (.int 5)))) (aV (aC eD (mR cT (aB (aA 3) aD)) (mC (.int 0))))) (cZ (cN (aA 3) (aB (aC aF (aA 3) (bJ cJ (mC (.int 1)))) aD))) (bP (aV (aC cP (aA 1) (mC (.int 2)))) (cZ (cN (aA 3) (aB (aO jS [] (aB (aA 0) (aB (mC (.int 2)) (aB (aC aE (mC (.int 1)) (mR iB (aB (aC cP (aA 5) (mC (.int 4))) aD))) aD)))) aD))) (bP (aV (aC eD (aA 5) (mC (.int 3)))) (cZ (cN (aA 3) (aB (aO jS [] (aB (aA 0) (aB (mC (.int 3)) (aB (mC (.int 1)) aD)))) aD))) (cZ (cN (aA 3) (aB (aO oN [] (aB (aA 0) aD)) aD)))))))
theorem S9{n:Nat}(hn:n=2\/n=3)(ns:AA)(hs:AD)(hw:∀xss∈hs,Rw n xss)(hl:hs.length<=99)(x2 x4 x5:AK):∃(xss:AC)(ns':AA)(y5:AK),hB [some (.ref 0),some (.pv (.int (n:Int))),x2,some (.ref 1),x4,x5] [.lst (li ns),.lst (hs.map cS)]=.nx [some (.ref 0),some (.pv (.int (n:Int))),x2,some (.ref 1),x4,y5] [.lst (li ns'),.lst ((hs++[xss]).map cS)]/\Rw n xss:=by
 have hr:dY [.lst (li ns),.lst (hs.map cS)] 0 ns:=rfl;obtain⟨t,n1,e1,t0,t1,_⟩:=hJ (m:=6) hr (by decide) (gS (by decide) (by decide));simp only[cx]at e1;have e1:cM [.ref 0,.pv (.int 6)] [.lst (li ns),.lst (hs.map cS)]=.ok (.pv (.int t)) [.lst (li n1),.lst (hs.map cS)]:=e1;have lz:(hs.map cS).length<16777216:=by rw[ai];omega
 have lz':hs.length<16777216:=by omega
 have el:∀xss,(hs++[xss]).map cS=hs.map cS++[cS xss]:=λxss=>by simp
 by_cases c1:t=5/\0<hs.length
 .obtain⟨v,hv,e2⟩:=Gr (hs.map cS) .non (by
   intro z;have:=congrArg km z;simp at this;rw[this]at c1;simp at c1)
  obtain⟨xss,hx,rfl⟩:=gg.mp hv;refine⟨xss,n1,some (.pv (.int t)),?_,hw xss hx⟩;rw[el];obtain⟨c1,c2⟩:=c1;subst c1;have c3:hs.map cS≠[]:=λz=>by
   have:=congrArg km z;simp at this;rw[this]at c2;simp at c2
  generalize hs.map cS=HL,cS xss=RV at *;unfold hB;simp! [-frz,-fL,bA,aL,aK,aM,aN,aE,aJ,e1,cN,dR,fM,e2,lz,c3]
 .have c1':t=5->hs.map cS=[]:=λz=>by
   have:hs.length=0:=by
    by_cases y:0<hs.length
    .exact absurd ⟨z,y⟩ c1
    .omega
   rw[vn.mp this];rfl
  have cA:∀(S:aG)(ρ:bR),ρ[5]?=some (some (.pv (.int t)))->ρ[3]?=some (some (.ref 1))->S[1]?=some (.lst (hs.map cS))->eQ (aV (aC cP (aA 5) (mC (.int 5)))) (aV (aC eD (mR cT (aB (aA 3) aD)) (mC (.int 0)))) ρ S=.ok false S:=λS ρ h5 h3 hS=>by
   cases z:t==5 with
   |false=>simp! [-frz,-fL,bA,aL,aK,aM,aN,aE,aJ,h5,z]
   |true=>
    rw[c1' (by simpa using z)]at hS;simp! [-frz,-fL,bA,aL,aK,aM,aN,aE,aJ,h5,h3,hS,z]
  generalize hA:eQ (aV (aC cP (aA 5) (mC (.int 5)))) (aV (aC eD (mR cT (aB (aA 3) aD)) (mC (.int 0))))=MA at cA;have hBe:hB=(aI (aR 5 (aO cM [] (aB (aA 0) (aB (mC (.int 6)) aD))))
   (bP MA (cZ (cN (aA 3) (aB (aC aF (aA 3) (bJ cJ (mC (.int 1)))) aD))) (bP (aV (aC cP (aA 1) (mC (.int 2)))) (cZ (cN (aA 3) (aB (aO jS [] (aB (aA 0) (aB (mC (.int 2)) (aB (aC aE (mC (.int 1)) (mR iB (aB (aC cP (aA 5) (mC (.int 4))) aD))) aD)))) aD))) (bP (aV (aC eD (aA 5) (mC (.int 3)))) (cZ (cN (aA 3) (aB (aO jS [] (aB (aA 0) (aB (mC (.int 3)) (aB (mC (.int 1)) aD)))) aD))) (cZ (cN (aA 3) (aB (aO oN [] (aB (aA 0) aD)) aD))))))):=by rw[<-hA]
  rw[hBe];rcases hn with rfl |rfl
  .obtain⟨xss,n2,e2,hw2⟩:=Kj (n:=2) (.inl rfl) (W:=1+(if t=4 then 1 else 0)) (by split<;>decide) (by split<;>decide) n1 (hs.map cS)
   refine⟨xss,n2,some (.pv (.int t)),?_,hw2⟩;rw[el];have c2:((2:Nat):Int)=2:=rfl;rw[c2]at e2⊢;have cA':=cA [.lst (li n1),.lst (hs.map cS)] [some (.ref 0),some (.pv (.int 2)),x2,some (.ref 1),x4,some (.pv (.int t))] rfl rfl rfl;generalize hs.map cS=HL,cS xss=RV at*
   by_cases z:t=4
   .subst z
    simp! [-frz,-fL,bA,aL,aK,aM,aN,aE,aJ,e1,cA',cN,dR,fM,iB,vL,wB,lz]at e2⊢;simp[e2,lz,bI.bind,cH.of]
   .rw[if_neg z]at e2
    have z':(t==4)=false:=by simpa using z
    simp! [-frz,-fL,bA,aL,aK,aM,aN,aE,aJ,e1,cA',cN,dR,fM,iB,vL,wB,lz,z']at e2⊢;simp[e2,lz,bI.bind,cH.of]
  .have c3:((3:Nat):Int)=3:=rfl
   rw[c3];have cA':=cA [.lst (li n1),.lst (hs.map cS)] [some (.ref 0),some (.pv (.int 3)),x2,some (.ref 1),x4,some (.pv (.int t))] rfl rfl rfl
   by_cases z:3<t
   .obtain⟨xss,n2,e2,hw2⟩:=Kj (n:=3) (.inr rfl) (W:=1) (by decide) (by decide) n1 (hs.map cS)
    refine⟨xss,n2,some (.pv (.int t)),?_,hw2⟩;rw[el];rw[c3]at e2;generalize hs.map cS=HL,cS xss=RV at *;simp! [-frz,-fL,bA,aL,aK,aM,aN,aE,aJ,e1,cA',cN,dR,fM,vL,wB,z];simp[e2,lz,bI.bind,cH.of]
   .obtain⟨xss,n2,e2,hw2⟩:=Oy n1 (hs.map cS)
    refine⟨xss,n2,some (.pv (.int t)),?_,hw2⟩;rw[el];generalize hs.map cS=HL,cS xss=RV at *;simp! [-frz,-fL,bA,aL,aK,aM,aN,aE,aJ,e1,cA',cN,dR,fM,vL,wB,z,e2,lz]
theorem Ql{n:Nat}(hn:n=2\/n=3)(x2:AK):∀(is:AI)(hs:AD)(ns:AA)(x4 x5:AK),(∀xss∈hs,Rw n xss)->hs.length+is.length<=99->∃(hs':AD)(ns':AA)(y4 y5:AK),
  dE [] (gN 4) hB is [some (.ref 0),some (.pv (.int (n:Int))),x2,some (.ref 1),x4,x5] [.lst (li ns),.lst (hs.map cS)]=.nx [some (.ref 0),some (.pv (.int (n:Int))),x2,some (.ref 1),y4,y5] [.lst (li ns'),.lst (hs'.map cS)]/\hs'.length=hs.length+is.length/\∀xss∈hs',Rw n xss
 |[],hs,ns,x4,x5,hw,_=>⟨hs,ns,x4,x5,fW,rfl,hw⟩
 |i::is,hs,ns,x4,x5,hw,h9=>by
  have h9:hs.length+(is.length+1)<=99:=h9;obtain⟨xss,n1,y5,e1,r1⟩:=S9 hn ns hs hw (by omega) x2 (some (.pv i)) x5;obtain⟨hs',n2,z4,z5,e2,l2,r2⟩:=Ql hn x2 is (hs++[xss]) n1 (some (.pv i)) y5 (λy hy=>by
   rcases bj.mp hy with z |z
   .exact hw y z
   .have:y=xss:=by simpa using z
    rw[this];exact r1) (by rw[bi,ju];omega)
  refine⟨hs',n2,z4,z5,?_,by rw[l2,bi,ju];show _=hs.length+(is.length+1);omega,r2⟩;rw[eK];simp only[gN,ff,cx];rw[e1];exact e2
theorem Op{n M:Nat}(hn:n=2\/n=3)(hM:M<=8)(ns:AA):∃(hs:AD)(ns':AA),oF [.ref 0,.pv (.int (n:Int)),.pv (.int (M:Int))] [.lst (li ns)]=.ok (.ref 1) [.lst (li ns'),.lst (hs.map cS)]/\hs.length<=M/\∀xss∈hs,Rw n xss:=by
 have hr:dY [.lst (li ns),.lst []] 0 ns:=rfl;obtain⟨t,n1,e1,t0,t1,_⟩:=hJ (m:=(M:Int)+1) hr (by omega) (gS (by omega) (by omega));simp only[cx]at e1;have e1:cM [.ref 0,.pv (.int ((M:Int)+1))] [.lst (li ns),.lst []]=.ok (.pv (.int t)) [.lst (li n1),.lst []]:=e1;obtain⟨m,rfl⟩:∃m:Nat,t=(m:Int):=⟨t.toNat,by omega⟩;have rg:=jL [.lst (li n1),.lst []] (n:=m) (by omega);have hi:(cG 0 m).length=m:=by unfold cG;simp
 obtain⟨hs,n2,y4,y5,e2,l2,r2⟩:=Ql hn (some (.pv (.int (M:Int)))) (cG 0 m) [] n1 none none (λ_ h=>absurd h de) (by rw[hi];show 0+m<=99;omega);rw[hi]at l2;refine⟨hs,n2,?_,by rw[l2];show 0+m<=M;omega,r2⟩;simp only[cg]at e2;have hb:wL=(aI (aR 3 (dP aD))
  (aI (bZ (bY (aB (aO cM [] (aB (aA 0) (aB (aC aE (aA 2) (mC (.int 1))) aD))) aD)) (gN 4) hB)
  (bE (aA 3)))):=rfl
 unfold oF aS;rw[hb];generalize (M:Int)=MM,(n:Int)=N,(m:Int)=mm,cG 0 m=IP,hs.map cS=HL,hB=HB at *;simp! [aF,aY,aZ,aP,aL,aK,aM,aN,aE,aJ,dP,hV,bZ,bY,e1,rg,e2]
theorem tX{n k:Nat}{L:AA}{b:Int}(hb:0<b)(hl:L.length=n)(hL:∀x∈L,Bd k x)(bb:Bd k b):∃(zs:AA)(z:Int),low (L++[b])=zs++[z]/\Pq n k zs z/\∀j,j<n->zs.getD j 0*b=L.getD j 0*z:=by
 obtain⟨zs,z,g,e,hg,hz,g1,g2,hzl⟩:=tQ L hb;have hlow:=yO L hb;have hbd:=qZ (k:=k) (ns:=L++[b]) λm hm=>by
  rcases bj.mp hm with y |y
  .exact hL m y
  .have:m=b:=by simpa using y
   rw[this];exact bb
 rw[e]at hlow hbd;refine⟨zs,z,e,⟨hzl.trans hl,hz,hlow,λx hx=>hbd x (iw _ hx),hbd z (kG zs z)⟩,λj hj=>?_⟩;have hj':j<zs.length:=by omega
 have e1:L.getD j 0=g*zs.getD j 0:=by
  rw[g1];simp[cf,hj']
 rw[e1,g2];grind
structure Sp(u:Int×Int):Prop where
 p:0<u.1
 q:0<u.2
 bp:Bd 30 u.1
 bq:Bd 30 u.2
theorem G5{k:Nat}{x0 y0 w0 x1 y1 w1 x2 y2 w2:Int}(S:aG)(h:S[k]?=some (.lst [v2 x0 y0 w0,v2 x1 y1 w1,v2 x2 y2 w2]))(p:P2 x0 y0 w0)(q:P2 x1 y1 w1)(r:P2 x2 y2 w2):fR [.ref k] S=.ok (.pv (.int (w0*D2 x0 y0 w0 x1 y1 w1 x2 y2 w2))) S:=by
 have a1:=uR S p q;have a2:=uR S p r;have bu:=sb p.bx p.bw q.bx q.bw;have bv:=sb p.by_ p.bw q.by_ q.bw;have bu2:=sb p.bx p.bw r.bx r.bw;have bv2:=sb p.by_ p.bw r.by_ r.bw;have id:(x1*w0-x0*w1)*(y2*w0-y0*w2)-(y1*w0-y0*w1)*(x2*w0-x0*w2)=w0*D2 x0 y0 w0 x1 y1 w1 x2 y2 w2:=by
  unfold D2;grind
 generalize y2*w0-y0*w2=V1,x2*w0-x0*w2=V0,y1*w0-y0*w1=U1,x1*w0-x0*w1=U0,w0*D2 x0 y0 w0 x1 y1 w1 x2 y2 w2=D at *;have m1:=eO bu bv2;have m2:=eO bv bu2;generalize v2 x2 y2 w2=R,v2 x1 y1 w1=Q,v2 x0 y0 w0=P at *;have et:gH [.pv (.lst [.lst [.int U0,.int U1],.lst [.int V0,.int V1]])] S=.ok (.pv (.int D)) S:=by
  unfold gH aS lK;simp! [aF,aY,aZ,aP,aL,aK,aM,aN,aE,aJ,m1,m2,id]
 unfold fR aS oR;have s1:=mE P [Q,R];simp! [aF,aY,aZ,aP,aL,aK,aM,aN,aE,aJ,bF,bO,cB,cY,cX,cV,eL,s1,cF,dG,dC,gN,a1,a2,et,h]
theorem K7{k:Nat}{x0 y0 z0 w0 x1 y1 z1 w1 x2 y2 z2 w2 x3 y3 z3 w3:Int}(S:aG)(h:S[k]?=some (.lst [v3 x0 y0 z0 w0,v3 x1 y1 z1 w1,v3 x2 y2 z2 w2,v3 x3 y3 z3 w3]))(p:P3 x0 y0 z0 w0)(q:P3 x1 y1 z1 w1)(r:P3 x2 y2 z2 w2)(s:P3 x3 y3 z3 w3):fR [.ref k] S=.ok (.pv (.int (w0*w0*D3 x0 y0 z0 w0 x1 y1 z1 w1 x2 y2 z2 w2 x3 y3 z3 w3))) S:=by
 have a1:=mM S p q;have a2:=mM S p r;have a3:=mM S p s;have b1:=sb p.bx p.bw q.bx q.bw;have b2:=sb p.by_ p.bw q.by_ q.bw;have b3:=sb p.bz p.bw q.bz q.bw;have b4:=sb p.bx p.bw r.bx r.bw;have b5:=sb p.by_ p.bw r.by_ r.bw;have b6:=sb p.bz p.bw r.bz r.bw;have b7:=sb p.bx p.bw s.bx s.bw;have b8:=sb p.by_ p.bw s.by_ s.bw;have b9:=sb p.bz p.bw s.bz s.bw;have id:=Ja x0 y0 z0 w0 x1 y1 z1 w1 x2 y2 z2 w2 x3 y3 z3 w3;generalize z3*w0-z0*w3=T2,y3*w0-y0*w3=T1,x3*w0-x0*w3=T0,z2*w0-z0*w2=V2,y2*w0-y0*w2=V1,x2*w0-x0*w2=V0,z1*w0-z0*w1=U2,y1*w0-y0*w1=U1,x1*w0-x0*w1=U0,w0*w0*D3 x0 y0 z0 w0 x1 y1 z1 w1 x2 y2 z2 w2 x3 y3 z3 w3=D at *;have hh:∀{a:Int},Bd 2001 a->Bd 10000 a:=λh=>h.mono (by decide);have h4:∀{a:Int},Bd 4003 a->Bd 100000 a:=λh=>h.mono (by decide);have h2:∀{a:Int},Bd 2001 a->Bd 100000 a:=λh=>h.mono (by decide);have en:=qE (A:=.lst [.int U0,.int U1,.int U2]) (B:=.lst [.int V0,.int V1,.int V2]) S (.inl rfl) (.inl rfl) (hh b1) (hh b2) (hh b3) (hh b4) (hh b5) (hh b6);have c1:=cb b2 b6 b3 b5;have c2:=cb b3 b4 b1 b6;have c3:=cb b1 b5 b2 b4;have ed:=qJ (A:=.lst [.int (U1*V2-U2*V1),.int (U2*V0-U0*V2),.int (U0*V1-U1*V0)]) (B:=.lst [.int T0,.int T1,.int T2]) (us:=[U1*V2-U2*V1,U2*V0-U0*V2,U0*V1-U1*V0]) (vs:=[T0,T1,T2]) S (.inl rfl) (.inl rfl) (by simp;exact⟨h4 c1,h4 c2,h4 c3⟩) (by simp;exact⟨h2 b7,h2 b8,h2 b9⟩);rw[id]at ed;generalize v3 x3 y3 z3 w3=T,v3 x2 y2 z2 w2=R,v3 x1 y1 z1 w1=Q,v3 x0 y0 z0 w0=P,U0*V1-U1*V0=N2,U2*V0-U0*V2=N1,U1*V2-U2*V1=N0 at *;have et:gH [.pv (.lst [.lst [.int U0,.int U1,.int U2],.lst [.int V0,.int V1,.int V2],.lst [.int T0,.int T1,.int T2]])] S=.ok (.pv (.int D)) S:=by
  unfold gH aS lK;simp! [aF,aY,aZ,aP,aL,aK,aM,aN,aE,aJ,en,ed]
 unfold fR aS oR;have s1:=mE P [Q,R,T];simp! [aF,aY,aZ,aP,aL,aK,aM,aN,aE,aJ,bF,bO,cB,cY,cX,cV,eL,s1,cF,dG,dC,gN,a1,a2,a3,et,h]
theorem Tl{n:Nat}(hn:n=2\/n=3){uss:AC}(hl:uss.length=n+1)(hg:∀us∈uss,Gu n 1000 us):∃d:Int,sg d=sg (dU uss)/\Bd 8000 d/\(∀S,fR [.pv (px uss)] S=.ok (.pv (.int d)) S)/\∀(S:aG)(k:Nat),S[k]?=some (.lst (uss.map tv))->fR [.ref k] S=.ok (.pv (.int d)) S:=by
 rcases hn with rfl |rfl
 .match uss,hl,hg with
  |[a,b,c],_,hg=>
   obtain⟨x0,y0,w0,rfl,q0,a0,b0,c0⟩:=(hg a (by simp)).two';obtain⟨x1,y1,w1,rfl,q1,a1,b1,c1⟩:=(hg b (by simp)).two';obtain⟨x2,y2,w2,rfl,q2,a2,b2,c2⟩:=(hg c (by simp)).two';refine⟨w0*D2 x0 y0 w0 x1 y1 w1 x2 y2 w2,jD q0,(c0.mul (S6 a0 b0 c0 a1 b1 c1 a2 b2 c2)).mono (by decide),λS=>?_,λS k h=>?_⟩
   .exact Rf S (.inr rfl) ⟨a0,b0,c0,q0⟩ ⟨a1,b1,c1,q1⟩ ⟨a2,b2,c2,q2⟩
   .exact G5 S h ⟨a0,b0,c0,q0⟩ ⟨a1,b1,c1,q1⟩ ⟨a2,b2,c2,q2⟩
 .match uss,hl,hg with
  |[a,b,c,d],_,hg=>
   obtain⟨x0,y0,z0,w0,rfl,q0,a0,b0,d0,c0⟩:=(hg a (by simp)).three';obtain⟨x1,y1,z1,w1,rfl,q1,a1,b1,d1,c1⟩:=(hg b (by simp)).three';obtain⟨x2,y2,z2,w2,rfl,q2,a2,b2,d2,c2⟩:=(hg c (by simp)).three';obtain⟨x3,y3,z3,w3,rfl,q3,a3,b3,d3,c3⟩:=(hg d (by simp)).three';refine⟨w0*w0*D3 x0 y0 z0 w0 x1 y1 z1 w1 x2 y2 z2 w2 x3 y3 z3 w3,jD (cu q0 q0),((c0.mul c0).mul (S5 a0 b0 d0 c0 a1 b1 d1 c1 a2 b2 d2 c2 a3 b3 d3 c3)).mono (by decide),λS=>?_,λS k h=>?_⟩
   .exact Kf S (.inr rfl) ⟨a0,b0,d0,c0,q0⟩ ⟨a1,b1,d1,c1,q1⟩ ⟨a2,b2,d2,c2,q2⟩ ⟨a3,b3,d3,c3,q3⟩
   .exact K7 S h ⟨a0,b0,d0,c0,q0⟩ ⟨a1,b1,d1,c1,q1⟩ ⟨a2,b2,d2,c2,q2⟩ ⟨a3,b3,d3,c3,q3⟩
def dJ:AA->Int->Int
 |[],f=>f
 |s::L,f=>if s<0 then-1 else dJ L (if s=0 then 0 else f)
def kW(uss:AC)(p:AA):AA:=(az uss.length).map λj=>sg (dU (uss.set j p))
def cU(uss:AC)(p:AA):Int:=dJ (kW uss p) 1
theorem pK(d:Int):sg d=-1\/sg d=0\/sg d=1:=by
 unfold sg;split
 .exact .inr (.inr rfl)
 .split
  .exact .inl rfl
  .exact .inr (.inl rfl)
theorem Rh:∀(L:AA)(f:Int),(f=-1\/f=0\/f=1)->(∀s∈L,s=-1\/s=0\/s=1)->(f=-1->L.foldl min f=-1)/\(f≠-1->L.foldl min f=dJ L f)
 |[],f,_,_=>⟨λh=>h,λ_=>rfl⟩
 |s::L,f,hf,h=>by
  have hs:=h s (by simp);have ih:=λf hf=>Rh L f hf λx hx=>h x (bo _ hx);refine⟨λz=>?_,λz=>?_⟩
  .show L.foldl min (min f s)=-1
   have e:min f s=-1:=by rcases hs with rfl |rfl |rfl<;>subst z<;>decide
   rw[e];exact(ih (-1) (.inl rfl)).1 rfl
  .show L.foldl min (min f s)=if s<0 then-1 else dJ L (if s=0 then 0 else f)
   rcases hs with rfl |rfl |rfl
   .have e:min f (-1)=-1:=by rcases hf with rfl |rfl |rfl<;>decide
    rw[e,if_pos (by decide)];exact(ih (-1) (.inl rfl)).1 rfl
   .have e:min f 0=0:=by rcases hf with rfl |rfl |rfl<;>first |decide |exact absurd rfl z
    rw[e,if_neg (by decide),if_pos rfl];exact(ih 0 (.inr (.inl rfl))).2 (by decide)
   .have e:min f 1=f:=by rcases hf with rfl |rfl |rfl<;>decide
    rw[e,if_neg (by decide),if_neg (by decide)];exact(ih f hf).2 z
theorem Xh{L:AA}(hne:L≠[])(h:∀s∈L,s=-1\/s=0\/s=1):L.min?=some (dJ L 1):=by
 match L,hne,h with
 |s::L,_,h=>
  have e:=(Rh (s::L) 1 (.inr (.inr rfl)) h).2 (by decide);have hs:=h s (by simp);have e1:min 1 s=s:=by rcases hs with rfl |rfl |rfl<;>decide
  have e2:(s::L).foldl min 1=L.foldl min s:=by
   show L.foldl min (min 1 s)=_;rw[e1]
  rw[<-e,e2];rfl
theorem Ua:∀(L:AA)(f:Int),(f=-1\/f=0\/f=1)->(dJ L f=-1\/dJ L f=0\/dJ L f=1)
 |[],f,hf=>hf
 |s::L,f,hf=>by
  unfold dJ;split
  .exact .inl rfl
  .split
   .exact Ua L 0 (.inr (.inl rfl))
   .exact Ua L f hf
theorem E4{n k:Nat}{uss:AC}{p:AA}(h:∀us∈uss,Gu n k us)(g:Gu n k p)(j:Nat):∀us∈uss.set j p,Gu n k us:=λus hu=>by
 rcases wl hu with z |z
 .exact h us z
 .rw[z];exact g
theorem Pu(m:Nat):cG 0 m=(az m).map λj:Nat=>PV.int (j:Int):=by
 unfold cG;refine jc λj _=>?_;simp
theorem Rz{d:Int}:(sg d<0↔d<0)/\(sg d=0↔d=0):=by
 unfold sg;split
 .omega
 .split<;>omega
theorem zR{m c:Int}(hm:0<m)(bm:Bd 8000 m)(R:aG):∀(is:AI)(ns:AA)(x:AK),∃xs ns':AA,bT [] (gN 0) (aC dH (aO cM [] (aB (aA 1) (aB (mC (.int m)) aD))) (mC (.int c))) is [x,some (.ref 0)] (.lst (li ns)::R)=.ok (li xs) (.lst (li ns')::R)/\xs.length=is.length/\∀y∈xs,-c<=y/\y<m-c
 |[],ns,x=>⟨[],ns,dC,rfl,λ_ h=>absurd h de⟩
 |i::is,ns,x=>by
  obtain⟨t,n1,e1,t0,t1,_⟩:=hJ (m:=m) (show dY (.lst (li ns)::R) 0 ns from rfl) hm bm;simp only[cx]at e1;have e1:cM [.ref 0,.pv (.int m)] (.lst (li ns)::R)=.ok (.pv (.int t)) (.lst (li n1)::R):=e1;obtain⟨xs,n2,e2,l2,b2⟩:=zR (c:=c) hm bm R is n1 (some (.pv i));refine⟨(t-c)::xs,n2,?_,by rw[ca,ca,l2],λy hy=>?_⟩
  .rw[dG]
   simp! [gN,aF,aY,aZ,aP,aL,aK,aM,aN,aE,aJ,e1,e2]
  .rcases ay.mp hy with rfl |hy
   .omega
   .exact b2 y hy
def bd(p:List Nat):List Nat:=if p.head?=some 45 then p.tail else p
abbrev Eb:Type:=AC×Int
def Co:AA->Int
 |[]=>0
 |n::r=>if n=0 then Co r else sg n
def kM(ns:AA):AA:=(low ns).map (Co ns*·)
def iX:AA->AA->AA
 |[x0,y0,w0],[x1,y1,w1]=>[x1*w0-x0*w1,y1*w0-y0*w1]
 |[x0,y0,z0,w0],[x1,y1,z1,w1]=>[x1*w0-x0*w1,y1*w0-y0*w1,z1*w0-z0*w1]
 |_,_=>[]
theorem aaC{x0 y0 w0 x1 y1 w1:Int}:iX [x0,y0,w0] [x1,y1,w1]=[x1*w0-x0*w1,y1*w0-y0*w1]:=rfl
theorem aay{x0 y0 z0 w0 x1 y1 z1 w1:Int}:iX [x0,y0,z0,w0] [x1,y1,z1,w1]=[x1*w0-x0*w1,y1*w0-y0*w1,z1*w0-z0*w1]:=rfl
def Hb:AA->AA->AA
 |[a,b,c],[d,e,f]=>[b*f-c*e,c*d-a*f,a*e-b*d]
 |_,_=>[]
theorem aaB{a b c d e f:Int}:Hb [a,b,c] [d,e,f]=[b*f-c*e,c*d-a*f,a*e-b*d]:=rfl
def nY:AC->AA
 |[p,q]=>(match iX p q with
  |[a,b]=>[-b,a]
  |_=>[])
 |[p,q,r]=>Hb (iX p q) (iX p r)
 |_=>[]
theorem aaA{p q:AA}:nY [p,q]=(match iX p q with |[a,b]=>[-b,a] |_=>[]):=rfl
theorem aaz{p q r:AA}:nY [p,q,r]=Hb (iX p q) (iX p r):=rfl
def sd(pi s e:AA)(n:Int):List Eb:=[([pi,kM (iX s e),s],n),([pi,kM (iX s e),e],-n)]
def sdU:AC->List (AA×AA)
 |[p,q]=>[(p,q)]
 |[a,b,c]=>[(c,a),(a,b),(b,c)]
 |_=>[]
def cW(w:AC)(n:Int):List Eb:=(sdU w).flatMap λx=>sd (kM (nY w)) x.1 x.2 n
def tk(pi d p:AA)(k:AC):Int:=if[pi,d,p]=k then 1 else 0
def Ed(pi s e:AA)(k:AC):Int:=tk pi (kM (iX s e)) s k-tk pi (kM (iX s e)) e k
def W2(p q:AA)(k:AC):Int:=Ed (kM (nY [p,q])) p q k
def W3(p q r:AA)(k:AC):Int:=Ed (kM (nY [p,q,r])) r p k+Ed (kM (nY [p,q,r])) p q k+Ed (kM (nY [p,q,r])) q r k
def PS(uss:AC)(k:AC):Int:=match uss with
 |[a,b,c]=>W2 a b k+W2 b c k+W2 c a k
 |[a,b,c,d]=>W3 b c d k+W3 a d c k+W3 a b d k+W3 a c b k
 |_=>0
theorem l3{a b c d e f:Int}(h:a=d)(g:b=e)(i:c=f):[a,b,c]=[d,e,f]:=by rw[h,g,i]
def jX(n:Nat)(u v:Int)(p q m:AA):Prop:=Pw n m/\∀j,j<=n->m.getD j 0*((u+v)*p.getD n 0*q.getD n 0)=(u*p.getD j 0*q.getD n 0+v*q.getD j 0*p.getD n 0)*m.getD n 0
theorem jX.three{u v:Int}{x0 y0 z0 w0 x1 y1 z1 w1:Int}{m:AA}(h:jX 3 u v [x0,y0,z0,w0] [x1,y1,z1,w1] m):∃x y z w,m=[x,y,z,w]/\0<w/\x*((u+v)*w0*w1)=(u*x0*w1+v*x1*w0)*w/\y*((u+v)*w0*w1)=(u*y0*w1+v*y1*w0)*w/\z*((u+v)*w0*w1)=(u*z0*w1+v*z1*w0)*w:=by
 obtain⟨x,y,z,w,rfl,p⟩:=h.1.three;exact⟨x,y,z,w,rfl,p,h.2 0 (by decide),h.2 1 (by decide),h.2 2 (by decide)⟩
theorem jX.two{u v:Int}{x0 y0 w0 x1 y1 w1:Int}{m:AA}(h:jX 2 u v [x0,y0,w0] [x1,y1,w1] m):∃x y w,m=[x,y,w]/\0<w/\x*((u+v)*w0*w1)=(u*x0*w1+v*x1*w0)*w/\y*((u+v)*w0*w1)=(u*y0*w1+v*y1*w0)*w:=by
 obtain⟨x,y,w,rfl,p⟩:=h.1.two;exact⟨x,y,w,rfl,p,h.2 0 (by decide),h.2 1 (by decide)⟩
theorem sq{a b:MS}{ρ ρ':bR}{S S':aG}{r:cH}(h:a ρ S=.nx ρ' S')(g:b ρ' S'=r):aI a b ρ S=r:=by
 rw[aI,h];exact g
theorem lZ{np n:Nat}{b:MS}{xs:AL}{S S':aG}{v:AV}{r:bI AV}(hl:xs.length=np)(h:b (eR n xs) S=.rt v S')(hc:gC S.length v S'=r):aS np n b xs S=r:=by
 unfold aS;rw[if_pos hl,h];exact hc
theorem vU{ns:AA}{L:AI}{T:aG}{k:Nat}(hl:L.length+k<=1000)(h0:0<L.length+k):∃(a:Nat)(n1:AA),cM [.ref 0,.pv (.int ((L.length+k:Nat):Int))] (.lst (li ns)::T)=.ok (.pv (.int (a:Int))) (.lst (li n1)::T)/\a<L.length+k:=by
 obtain⟨a,n1,e,a0,a1,_⟩:=hJ (m:=((L.length+k:Nat):Int)) (show dY (.lst (li ns)::T) 0 ns from rfl) (by omega) (gS (by omega) (by omega));exact⟨a.toNat,n1,by rw[show((a.toNat:Nat):Int)=a by omega];exact e,by omega⟩
theorem Na(xs:AA):low (xs++[1])=xs++[1]:=by
 refine Tw ?_;have d:=(jC (xs++[1]) 0).2 1 (by simp);have p:=zG (ns:=xs++[1]) (n:=1) (by simp) (by decide);have:=Int.le_of_dvd (by decide) d;omega
abbrev iY(n:Nat):AI:=da n (.tup [.int 1,.int 1])
theorem Yl{n:Nat}(hn:n=2\/n=3)(S:aG){xs:AA}(hx:xs.length=n)(hb:∀x∈xs,-8<x/\x<8):lL [.pv (lv xs),.pv (.lst (iY n))] S=.ok (.pv (tv (xs++[1]))) S/\Gu n 3 (xs++[1]):=by
 have b3:∀{x:Int},-8<x/\x<8->Bd 3 x:=λh=>by
  unfold Bd;have:(2:Nat)^3=8:=rfl;omega
 have o1:Bd 3 (1:Int):=b3 (by decide);have m1:∀x:Int,Bd 3 x->bD (.int x) (.int 1)=some (.int x):=λx h=>by
  have:=mk h o1 (by decide) (by decide);rw[pw]at this;exact this
 have q1:iK (.int 1) (.int 1)=some (.int 1):=xV (i:=1) (j:=1) ⟨by decide,o1.mono (by decide)⟩;have bL:∀x∈xs++[1],Bd 3 x:=by
  intro x h;rcases bj.mp h with y |y
  .exact b3 (hb x y)
  .have:x=1:=by simpa using y
   rw[this];exact o1
 have ew:=mY (xs++[1]) S λx h=>(bL x h).mono (by decide);rw[Na]at ew;refine⟨?_,xs,1,rfl,hx,by decide,Na xs,λx h=>b3 (hb x h),o1⟩;have m0:=m1 1 o1;rcases hn with rfl |rfl
 .match xs,hx,hb,ew with
  |[a,b],_,hb,ew=>
   have ma:=m1 a (b3 (hb a (by simp)));have mb:=m1 b (b3 (hb b (by simp)));simp only[ar,cg,iu,dw]at ew;unfold lL aS tO;simp only[lv,li,tv,iY,da,ar,cg,iu,dw];simp! [aF,aY,aZ,aP,aL,aK,aM,aN,aE,aJ,bZ,bO,cB,eK,fW,gN,m0,bF,cF,fX,jG,eV,dG,dC,gT,dL,eS,ma,mb,q1,ew]
 .match xs,hx,hb,ew with
  |[a,b,c],_,hb,ew=>
   have ma:=m1 a (b3 (hb a (by simp)));have mb:=m1 b (b3 (hb b (by simp)));have mc:=m1 c (b3 (hb c (by simp)));simp only[ar,cg,iu,dw]at ew;unfold lL aS tO;simp only[lv,li,tv,iY,da,ar,cg,iu,dw];simp! [aF,aY,aZ,aP,aL,aK,aM,aN,aE,aJ,bZ,bO,cB,eK,fW,gN,m0,bF,cF,fX,jG,eV,dG,dC,gT,dL,eS,ma,mb,mc,q1,ew]
def Fin(n k:Nat)(P:AC)(X:AD):Prop:=X=[P]\/∃(p q m:AA)(R:AC)(u v:Int),0<u/\0<v/\jX n u v p q m/\Gu n k m/\P.Perm (p::q::R)/\X=[bQ (m::q::R),bQ (p::m::R)]
theorem tD{α:Type}:∀{L:List α}{i:Nat}{x:α},L[i]?=some x->L.Perm (x::L.eraseIdx i)
 |a::L,0,x,h=>by
  simp at h;subst h;exact List.Perm.refl _
 |a::L,i+1,x,h=>((tD (L:=L) (i:=i) (by simpa using h)).cons a).trans (List.Perm.swap x a _)
theorem Uu{α:Type}{P:List α}{i j:Nat}{p q m:α}(hij:i≠j)(hp:P[i]?=some p)(hq:P[j]?=some q):∃R,P.Perm (p::q::R)/\(P.set i m).Perm (m::q::R)/\(P.set j m).Perm (p::m::R):=by
 have one:∀{L:List α}{i:Nat}{x:α},L[i]?=some x->L.Perm (x::L.eraseIdx i):=tD;have il:i<P.length:=(bf.mp hp).1;have jl:j<P.length:=(bf.mp hq).1;have s1:(P.set i m).Perm (m::P.eraseIdx i):=by
  have:=one (L:=P.set i m) (i:=i) (x:=m) (dg il);rw[rm]at this;exact this
 have s2:(P.set j m).Perm (p::(P.set j m).eraseIdx i):=one (by rw[dq (gi hij)];exact hp);rcases Nat.lt_or_ge j i with c |c
 .have hq':(P.eraseIdx i)[j]?=some q:=by rw[List.getElem?_eraseIdx_of_lt c];exact hq
  have jl':j<(P.eraseIdx i).length:=(bf.mp hq').1;refine⟨(P.eraseIdx i).eraseIdx j,(one hp).trans ((one hq').cons _),s1.trans ((one hq').cons _),?_⟩;rw[List.eraseIdx_set_gt c]at s2;have:=one (L:=(P.eraseIdx i).set j m) (i:=j) (x:=m) (dg jl');rw[rm]at this;exact s2.trans (this.cons _)
 .have c':i<j:=by omega
  have hq':(P.eraseIdx i)[j-1]?=some q:=by rw[List.getElem?_eraseIdx_of_ge (by omega),Nat.sub_add_cancel (by omega)];exact hq
  have jl':j-1<(P.eraseIdx i).length:=(bf.mp hq').1;refine⟨(P.eraseIdx i).eraseIdx (j-1),(one hp).trans ((one hq').cons _),s1.trans ((one hq').cons _),?_⟩;rw[List.eraseIdx_set_lt c']at s2;have:=one (L:=(P.eraseIdx i).set (j-1) m) (i:=j-1) (x:=m) (dg jl');rw[rm]at this;exact s2.trans (this.cons _)
theorem Mn{n k:Nat}{us:AA}(h:Gu n k us):∀x∈us,Bd k x:=λx hx=>by
 obtain⟨xs,w,rfl,P⟩:=h;rcases bj.mp hx with h |h
 .exact P.bx x h
 .have:x=w:=by simpa using h
  rw[this];exact P.bw
theorem Sx.mono{n k l:Nat}{u:AC}(h:Sx n k u)(hl:k<=l):Sx n l u:=⟨h.len,λus hu=>(h.gu us hu).mono hl,h.nz,h.cn⟩
theorem Ba{n:Nat}(hn:n=2\/n=3){u v:Int}{p q m:AA}(hp:Pw n p)(hq:Pw n q)(h:jX n u v p q m){Y:AC}(hY:∀y∈Y,Pw n y)(hl:Y.length=n):(u+v)*p.getD n 0*q.getD n 0*dU (m::Y)=u*q.getD n 0*m.getD n 0*dU (p::Y)+v*p.getD n 0*m.getD n 0*dU (q::Y):=by
 rcases hn with rfl |rfl
 .obtain⟨x0,y0,w0,rfl,_⟩:=hp.two
  obtain⟨x1,y1,w1,rfl,_⟩:=hq.two;obtain⟨x,y,w,rfl,_,g1,g2⟩:=h.two
  match Y,hl with
  |[a,b],_=>
   obtain⟨x2,y2,w2,rfl,_⟩:=(hY a (by simp)).two;obtain⟨x3,y3,w3,rfl,_⟩:=(hY b (by simp)).two;show(u+v)*w0*w1*D2 x y w x2 y2 w2 x3 y3 w3=u*w1*w*D2 x0 y0 w0 x2 y2 w2 x3 y3 w3+v*w0*w*D2 x1 y1 w1 x2 y2 w2 x3 y3 w3;unfold D2;grind
 .obtain⟨x0,y0,z0,w0,rfl,_⟩:=hp.three
  obtain⟨x1,y1,z1,w1,rfl,_⟩:=hq.three;obtain⟨x,y,z,w,rfl,_,g1,g2,g3⟩:=h.three
  match Y,hl with
  |[a,b,c],_=>
   obtain⟨x2,y2,z2,w2,rfl,_⟩:=(hY a (by simp)).three;obtain⟨x3,y3,z3,w3,rfl,_⟩:=(hY b (by simp)).three;obtain⟨x4,y4,z4,w4,rfl,_⟩:=(hY c (by simp)).three;show(u+v)*w0*w1*D3 x y z w x2 y2 z2 w2 x3 y3 z3 w3 x4 y4 z4 w4=u*w1*w*D3 x0 y0 z0 w0 x2 y2 z2 w2 x3 y3 z3 w3 x4 y4 z4 w4+v*w0*w*D3 x1 y1 z1 w1 x2 y2 z2 w2 x3 y3 z3 w3 x4 y4 z4 w4;unfold D3;grind
theorem uO{n:Nat}(hn:n=2\/n=3){x y:AA}{l:AC}(hl:l.length+1=n)(hp:∀u∈y::x::l,Pw n u):dU (x::y::l)=-dU (y::x::l):=yB hn (pre:=[]) (by simp;omega) (by simpa using hp)
theorem Pw.w{n:Nat}{p:AA}(h:Pw n p):0<p.getD n 0/\p.getLastD 0=p.getD n 0:=by
 obtain⟨xs,w,rfl,l,hw⟩:=h;have e:(xs++[w]).getD n 0=w:=by rw[<-l];simp
 rw[e];exact⟨hw,by simp⟩
theorem Zl{n:Nat}(hn:n=2\/n=3){u v:Int}{p q m:AA}(hp:Pw n p)(hq:Pw n q)(h:jX n u v p q m){R:AC}(hR:∀y∈R,Pw n y)(hl:R.length+1=n):(u+v)*p.getD n 0*q.getD n 0*dU (m::q::R)=u*q.getD n 0*m.getD n 0*dU (p::q::R)/\(u+v)*p.getD n 0*q.getD n 0*dU (p::m::R)=v*p.getD n 0*m.getD n 0*dU (p::q::R):=by
 have qs:∀y∈q::R,Pw n y:=λy hy=>by
  rcases ay.mp hy with rfl |hy
  .exact hq
  .exact hR y hy
 have ps:∀y∈p::R,Pw n y:=λy hy=>by
  rcases ay.mp hy with rfl |hy
  .exact hp
  .exact hR y hy
 have e1:=Ba hn hp hq h qs (by rw[ca];exact hl);have e2:=Ba hn hp hq h ps (by rw[ca];exact hl);have z:∀{y:AA},Pw n y->dU (y::y::R)=0:=λ{y} hy=>by
  have:=uO hn (x:=y) (y:=y) hl (λu hu=>by
   rcases ay.mp hu with rfl |hu
   .exact hy
   .rcases ay.mp hu with rfl |hu
    .exact hy
    .exact hR u hu)
  omega
 have s1:=uO hn (x:=p) (y:=m) hl (λu hu=>by
  rcases ay.mp hu with rfl |hu
  .exact h.1
  .exact ps u hu)
 have s2:=uO hn (x:=p) (y:=q) hl (λu hu=>by
  rcases ay.mp hu with rfl |hu
  .exact hq
  .exact ps u hu)
 rw[z hq,kr,wm]at e1;rw[z hp,kr,wd]at e2;refine⟨e1,?_⟩;rw[s1,s2,mf,mf,e2]
theorem Dj{n k l:Nat}(hn:n=2\/n=3)(hkl:k<=l)(hl:l<=1000){P:AC}(h:Sx n k P){p q m:AA}{R:AC}{u v:Int}(hu:0<u)(hv:0<v)(hm:jX n u v p q m)(gm:Gu n l m)(pm:P.Perm (p::q::R)):R.length+1=n/\(∀x∈p::q::R,Gu n l x)/\(∀x∈m::q::R,Gu n l x)/\(∀x∈p::m::R,Gu n l x)/\bQ (p::q::R)=P/\dU (p::q::R)≠0/\dU (m::q::R)≠0/\dU (p::m::R)≠0:=by
 have g0:∀x∈p::q::R,Gu n l x:=λx hx=>(h.gu x (pm.mem_iff.mpr hx)).mono hkl;have l0:(p::q::R).length=n+1:=by rw[<-pm.length_eq];exact h.len
 have lr:R.length+1=n:=by simp only[ca]at l0;omega
 have c0:bQ (p::q::R)=P:=by rw[<-wJ pm (jT hn l0)];exact h.cn
 have n0:dU (p::q::R)≠0:=λz=>by
  have:=oO hn hl l0 g0;rw[c0,z]at this;exact h.nz this
 have hp:=(g0 p (by simp)).pt;have hq:=(g0 q (by simp)).pt;obtain⟨e1,e2⟩:=Zl hn hp hq hm (R:=R) (λy hy=>(g0 y (by simp[hy])).pt) lr;have w0:=hp.w.1;have w1:=hq.w.1;have w:=hm.1.w.1;refine⟨lr,g0,λx hx=>?_,λx hx=>?_,c0,n0,λz=>?_,λz=>?_⟩
 .rcases ay.mp hx with rfl |hx
  .exact gm
  .exact g0 x (bo _ hx)
 .rcases ay.mp hx with rfl |hx
  .exact g0 _ (by simp)
  .rcases ay.mp hx with rfl |hx
   .exact gm
   .exact g0 x (by simp[hx])
 .rw[z,kr]at e1
  exact oi (wk (cu (cu hu w1) w)) n0 e1.symm
 .rw[z,kr]at e2
  exact oi (wk (cu (cu hv w0) w)) n0 e2.symm
def Fs(q:AA)(M:AC):AA:=(az M.length).map λj=>sg (dU (M.set j q))*sg (dU M)
theorem fQ(x y:Int):sg (-x)*sg (-y)=sg x*sg y:=by rw[tU,tU,Int.neg_mul_neg]
theorem Mx{n:Nat}(hn:n=2\/n=3){q:AA}(hq:Pw n q){l1 l2:AC}(h:l1.Perm l2):∀pre:AC,(∀us∈pre++l1,Pw n us)->(pre++l1).length=n+1->(Fs q (pre++l1)).Perm (Fs q (pre++l2)):=by
 induction h with
 |nil=>intro pre _ _;exact .refl _
 |cons x _ ih=>
  intro pre h4 hl;have:=ih (pre++[x]) (by simpa using h4) (by simpa using hl);simpa using this
 |swap x y l=>
  intro pre h4 hl;have sw:∀(pre l:AC)(x y:AA),(pre++y::x::l).length=n+1->(∀u∈pre++y::x::l,Pw n u)->dU (pre++x::y::l)=-dU (pre++y::x::l):=λpre l x y=>yB hn;have hx:=h4 x (by simp);have hy:=h4 y (by simp);have al:∀c∈pre++l,Pw n c:=λc hc=>h4 c (by simp at hc⊢;rcases hc with h |h<;>simp[h]);rcases hn with rfl |rfl
  .match pre,l,hl,al with
   |[],[c],_,al=>
    have hc:=al c (by simp);have e1:=sw [] [c] x y rfl (by simp[hx,hy,hc]);have e2:=sw [] [c] x q rfl (by simp[hx,hq,hc]);have e3:=sw [] [c] q y rfl (by simp[hy,hq,hc]);have e4:=sw [] [q] x y rfl (by simp[hx,hy,hq]);simp only[dw]at e1 e2 e3 e4;show([sg (dU [q,x,c])*sg (dU [y,x,c]),sg (dU [y,q,c])*sg (dU [y,x,c]),sg (dU [y,x,q])*sg (dU [y,x,c])]:AA).Perm [sg (dU [q,y,c])*sg (dU [x,y,c]),sg (dU [x,q,c])*sg (dU [x,y,c]),sg (dU [x,y,q])*sg (dU [x,y,c])];rw[e1,e2,e3,e4,fQ,fQ,fQ];exact .swap _ _ _
   |[a],[],_,al=>
    have ha:=al a (by simp);have e1:=sw [a] [] x y rfl (by simp[hx,hy,ha]);have e2:=sw [a] [] x q rfl (by simp[hx,hq,ha]);have e3:=sw [a] [] q y rfl (by simp[hy,hq,ha]);have e4:=sw [q] [] x y rfl (by simp[hx,hy,hq]);simp only[iu,dw]at e1 e2 e3 e4;show([sg (dU [q,y,x])*sg (dU [a,y,x]),sg (dU [a,q,x])*sg (dU [a,y,x]),sg (dU [a,y,q])*sg (dU [a,y,x])]:AA).Perm [sg (dU [q,x,y])*sg (dU [a,x,y]),sg (dU [a,q,y])*sg (dU [a,x,y]),sg (dU [a,x,q])*sg (dU [a,x,y])];rw[e1,e2,e3,e4,fQ,fQ,fQ];exact .cons _ (.swap _ _ _)
   |[],[],h,_=>simp at h
   |[],_::_::_,h,_=>simp at h
   |_::_::_,_,h,_=>simp at h;omega
   |[_],_::_,h,_=>simp at h
  .match pre,l,hl,al with
   |[],[c,d],_,al=>
    have hc:=al c (by simp);have hd:=al d (by simp);have e1:=sw [] [c,d] x y rfl (by simp[hx,hy,hc,hd]);have e2:=sw [] [c,d] x q rfl (by simp[hx,hq,hc,hd]);have e3:=sw [] [c,d] q y rfl (by simp[hy,hq,hc,hd]);have e4:=sw [] [q,d] x y rfl (by simp[hx,hy,hq,hd]);have e5:=sw [] [c,q] x y rfl (by simp[hx,hy,hq,hc]);simp only[dw]at e1 e2 e3 e4 e5;show([sg (dU [q,x,c,d])*sg (dU [y,x,c,d]),sg (dU [y,q,c,d])*sg (dU [y,x,c,d]),sg (dU [y,x,q,d])*sg (dU [y,x,c,d]),sg (dU [y,x,c,q])*sg (dU [y,x,c,d])]:AA).Perm [sg (dU [q,y,c,d])*sg (dU [x,y,c,d]),sg (dU [x,q,c,d])*sg (dU [x,y,c,d]),sg (dU [x,y,q,d])*sg (dU [x,y,c,d]),sg (dU [x,y,c,q])*sg (dU [x,y,c,d])];rw[e1,e2,e3,e4,e5,fQ,fQ,fQ,fQ];exact .swap _ _ _
   |[a],[d],_,al=>
    have ha:=al a (by simp);have hd:=al d (by simp);have e1:=sw [a] [d] x y rfl (by simp[hx,hy,ha,hd]);have e2:=sw [a] [d] x q rfl (by simp[hx,hq,ha,hd]);have e3:=sw [a] [d] q y rfl (by simp[hy,hq,ha,hd]);have e4:=sw [q] [d] x y rfl (by simp[hx,hy,hq,hd]);have e5:=sw [a] [q] x y rfl (by simp[hx,hy,hq,ha]);simp only[iu,dw]at e1 e2 e3 e4 e5;show([sg (dU [q,y,x,d])*sg (dU [a,y,x,d]),sg (dU [a,q,x,d])*sg (dU [a,y,x,d]),sg (dU [a,y,q,d])*sg (dU [a,y,x,d]),sg (dU [a,y,x,q])*sg (dU [a,y,x,d])]:AA).Perm [sg (dU [q,x,y,d])*sg (dU [a,x,y,d]),sg (dU [a,q,y,d])*sg (dU [a,x,y,d]),sg (dU [a,x,q,d])*sg (dU [a,x,y,d]),sg (dU [a,x,y,q])*sg (dU [a,x,y,d])];rw[e1,e2,e3,e4,e5,fQ,fQ,fQ,fQ];exact .cons _ (.swap _ _ _)
   |[a,b],[],_,al=>
    have ha:=al a (by simp);have hb:=al b (by simp);have e1:=sw [a,b] [] x y rfl (by simp[hx,hy,ha,hb]);have e2:=sw [a,b] [] x q rfl (by simp[hx,hq,ha,hb]);have e3:=sw [a,b] [] q y rfl (by simp[hy,hq,ha,hb]);have e4:=sw [q,b] [] x y rfl (by simp[hx,hy,hq,hb]);have e5:=sw [a,q] [] x y rfl (by simp[hx,hy,hq,ha]);simp only[iu,dw]at e1 e2 e3 e4 e5;show([sg (dU [q,b,y,x])*sg (dU [a,b,y,x]),sg (dU [a,q,y,x])*sg (dU [a,b,y,x]),sg (dU [a,b,q,x])*sg (dU [a,b,y,x]),sg (dU [a,b,y,q])*sg (dU [a,b,y,x])]:AA).Perm [sg (dU [q,b,x,y])*sg (dU [a,b,x,y]),sg (dU [a,q,x,y])*sg (dU [a,b,x,y]),sg (dU [a,b,q,y])*sg (dU [a,b,x,y]),sg (dU [a,b,x,q])*sg (dU [a,b,x,y])];rw[e1,e2,e3,e4,e5,fQ,fQ,fQ,fQ];exact .cons _ (.cons _ (.swap _ _ _))
   |[],[],h,_=>simp at h
   |[],[_],h,_=>simp at h
   |[],_::_::_::_,h,_=>simp at h
   |[_],[],h,_=>simp at h
   |[_],_::_::_,h,_=>simp at h
   |[_,_],_::_,h,_=>simp at h
   |_::_::_::_,_,h,_=>simp at h;omega
 |trans p1 p2 ih1 ih2=>
  intro pre h4 hl;refine(ih1 pre h4 hl).trans (ih2 pre (λus hu=>h4 us ((p1.append_left pre).mem_iff.mpr hu)) ?_);rw[<-(p1.append_left pre).length_eq];exact hl
theorem Fs3(q:AA)(M:AC):∀s∈Fs q M,s=-1\/s=0\/s=1:=λs hs=>by
 unfold Fs at hs;obtain⟨j,_,rfl⟩:=gg.mp hs;rcases pK (dU (M.set j q))with a |a |a<;>rcases pK (dU M)with b |b |b<;>rw[a,b]<;>decide
theorem zK{n k:Nat}(hn:n=2\/n=3)(hk:k<=1000){L:AC}{q:AA}(hl:L.length=n+1)(hg:∀us∈L,Gu n k us)(hq:Gu n 1000 q)(nz:dU L≠0):cU (bQ L) q=dJ (Fs q L) 1:=by
 have hp:=qA (jT hn hl);have e:=oO hn hk hl hg;have s1:sg (dU (bQ L))=1:=by
  unfold sg;rw[if_pos (by omega)]
 have ef:Fs q (bQ L)=kW (bQ L) q:=by
  unfold Fs kW;rw[s1];simp
 have pm:(Fs q L).Perm (Fs q (bQ L)):=Mx hn hq.pt hp.symm [] (λus hu=>(hg us (by simpa using hu)).pt) (by simpa using hl);rw[ef]at pm;have ne1:Fs q L≠[]:=λz=>by
  have:=congrArg km z;unfold Fs at this;rw[ai,vb,hl]at this;cases this
 have m1:=Xh ne1 (Fs3 q L);have ne2:kW (bQ L) q≠[]:=λz=>by
  rw[z]at pm;exact ne1 pm.eq_nil
 have m2:=Xh ne2 (λs hs=>by
  unfold kW at hs;obtain⟨j,_,rfl⟩:=gg.mp hs;exact pK _)
 have m3:(kW (bQ L) q).min?=some (dJ (Fs q L) 1):=by
  rw[vq]at m1⊢;exact⟨pm.mem_iff.mp m1.1,λb hb=>m1.2 b (pm.mem_iff.mpr hb)⟩
 rw[m2]at m3;exact ck m3
theorem Jn:∀(C:AA),dJ C 0=if dJ C 1=-1 then-1 else 0
 |[]=>rfl
 |s::C=>by
  unfold dJ;have ih:=Jn C
  by_cases h:s<0
  .simp[h]
  .rw[if_neg h,if_neg h]
   by_cases z:s=0
   .simp only[z,↓reduceIte]
    rw[ih];split<;>simp
   .simp only[z,↓reduceIte]
    exact ih
theorem Si{a b t:Int}{C:AA}(ha:a=-1\/a=0\/a=1)(hb:b=-1\/b=0\/b=1)(ht:t=-1\/t=0\/t=1)(h1:0<=b->a<=0->a≠b->t=1)(h2:b<=0->0<=a->a≠b->t=-1)(h3:a=0->b=0->t=0)(nA:dJ (a::t::C) 1≠0)(nB:dJ (-t::b::C) 1≠0):dJ (a::b::C) 1≠0/\((if dJ (a::b::C) 1=1 then 1 else 0):Nat)=(if dJ (a::t::C) 1=1 then 1 else 0)+(if dJ (-t::b::C) 1=1 then 1 else 0):=by
 have e0:=Jn C;rcases ha with rfl |rfl |rfl<;>rcases hb with rfl |rfl |rfl<;>rcases ht with rfl |rfl |rfl<;>rcases Ua C 1 (.inr (.inr rfl))with g |g |g<;>rw[g]at e0<;>simp[dJ,e0,g]at h1 h2 h3 nA nB⊢
theorem vY(x:Int):(0<x/\sg x=1)\/(x=0/\sg x=0)\/(x<0/\sg x=-1):=by
 unfold sg;split
 .omega
 .split<;>omega
theorem X6{M A B a b t:Int}(hM:0<M)(hA:0<A)(hB:0<B)(e:M*t=A*b-B*a):(0<=sg b->sg a<=0->sg a≠sg b->sg t=1)/\(sg b<=0->0<=sg a->sg a≠sg b->sg t=-1)/\(sg a=0->sg b=0->sg t=0):=by
 have st:sg t=sg (A*b-B*a):=by rw[<-e,jD hM]
 rw[st];have p:∀{x y:Int},0<x->0<y->0<x*y:=cu;have q:∀{x y:Int},0<x->y<0->x*y<0:=wj;rcases vY a with⟨a1,a2⟩|⟨a1,a2⟩|⟨a1,a2⟩<;>rcases vY b with⟨b1,b2⟩|⟨b1,b2⟩|⟨b1,b2⟩<;>rw[a2,b2]<;>simp only[sg]<;>refine⟨λ_ _ _=>?_,λ_ _ _=>?_,λ_ _=>?_⟩<;>first
  |omega
  |(have:=p hA b1;have:=p hB a1;split<;>omega)
  |(have:=p hA b1;have:=q hB a1;split<;>omega)
  |(have:=q hA b1;have:=p hB a1;split<;>first |omega |(split<;>omega))
  |(have:=p hA b1;subst a1;split<;>first |omega |(split<;>omega))
  |(have:=q hA b1;subst a1;split<;>first |omega |(split<;>omega))
  |(have:=p hB a1;subst b1;split<;>first |omega |(split<;>omega))
  |(have:=q hB a1;subst b1;split<;>first |omega |(split<;>omega))
  |(subst a1 b1;simp)
theorem O3(x a b:AA)(R:AC):Fs x (a::b::R)=(sg (dU (x::b::R))*sg (dU (a::b::R)))::(sg (dU (a::x::R))*sg (dU (a::b::R)))::(az R.length).map λj=>sg (dU (a::b::R.set j x))*sg (dU (a::b::R)):=by
 unfold Fs;rw[ca,ca,d7,ar,ix,d7,ar,ix];rfl
theorem Lz{n k l:Nat}(hn:n=2\/n=3)(hkl:k<=l)(hl:l<=1000){P:AC}{X:AD}(h:Sx n k P)(f:Fin n l P X){x:AA}(gx:Gu n 1000 x)(nX:∀u∈X,cU u x≠0):cU P x≠0/\(X.map λu=>cU u x).count 1=if cU P x=1 then 1 else 0:=by
 rcases f with rfl |⟨p,q,m,R,u,v,hu,hv,hm,gm,pm,rfl⟩
 .refine⟨nX P (by simp),?_⟩
  simp[kw]
 .obtain⟨lr,g0,g1,g2,c0,n0,n1,n2⟩:=Dj hn hkl hl h hu hv hm gm pm
  have l0:∀a b:AA,(a::b::R).length=n+1:=λa b=>by simp only[ca];omega
  have hp:=(g0 p (by simp)).pt;have hq:=(g0 q (by simp)).pt;have hR:∀y∈R,Pw n y:=λy hy=>(g0 y (by simp[hy])).pt;have w0:=hp.w.1;have w1:=hq.w.1;have w:=hm.1.w.1;have hM:=cu (cu (show 0<u+v by omega) w0) w1;have hA:=cu (cu hu w1) w;have hB:=cu (cu hv w0) w;have hx:=gx.pt;have S:∀{R':AC},(∀y∈R',Pw n y)->R'.length+1=n->sg (dU (m::q::R'))=sg (dU (p::q::R'))/\sg (dU (p::m::R'))=sg (dU (p::q::R')):=λ{R'} a b=>by
   obtain⟨e1,e2⟩:=Zl hn hp hq hm a b;constructor
   .rw[<-jD hM,e1,jD hA]
   .rw[<-jD hM,e2,jD hB]
  have tw:∀{a b:AA},Pw n a->Pw n b->dU (a::b::R)=-dU (b::a::R):=λ{a b} ha hb=>uO hn lr λy hy=>by
   rcases ay.mp hy with rfl |hy
   .exact hb
   .rcases ay.mp hy with rfl |hy
    .exact ha
    .exact hR y hy
  have e3:=Ba hn hp hq hm (Y:=x::R) (λy hy=>by
   rcases ay.mp hy with rfl |hy
   .exact hx
   .exact hR y hy) (by rw[ca];exact lr)
  rw[tw hq hx,mf,<-yf]at e3;obtain⟨t1,t2,t3⟩:=X6 hM hA hB e3;have q0:=zK hn hl (l0 p q) g0 gx n0;have q1:=zK hn hl (l0 m q) g1 gx n1;have q2:=zK hn hl (l0 p m) g2 gx n2;rw[c0]at q0;have set_R:∀j,(∀y∈R.set j x,Pw n y)/\(R.set j x).length+1=n:=λj=>⟨λy hy=>by
   rcases wl hy with z |z
   .exact hR y z
   .rw[z];exact hx,by rw[dk];exact lr⟩
  rw[O3]at q0 q1 q2;rw[(S hR lr).1]at q1;rw[(S hR lr).2,tw hx hm.1,tU]at q2;simp only[λj=>(S (set_R j).1 (set_R j).2).1]at q1;simp only[λj=>(S (set_R j).1 (set_R j).2).2]at q2;generalize ((az R.length).map λj=>sg (dU (p::q::R.set j x))*sg (dU (p::q::R)))=C at *;have a3:=pK (dU (x::q::R));have b3:=pK (dU (p::x::R));have d3:=pK (dU (m::x::R));have s3:sg (dU (p::q::R))=1\/sg (dU (p::q::R))=-1:=by
   rcases vY (dU (p::q::R))with z |z |z
   .exact .inl z.2
   .exact absurd z.1 n0
   .exact .inr z.2
  have nA:=nX _ (ce);have nB:=nX (bQ (p::m::R)) (by simp);rw[q1]at nA;rw[q2]at nB;rw[q0];simp only[ar,cg,q1,q2,kw,wn];generalize sg (dU (p::q::R))=s,sg (dU (m::x::R))=t,sg (dU (p::x::R))=b,sg (dU (x::q::R))=a at *;rw[kq]at nB⊢;have core:(dJ (a*s::b*s::C) 1≠0/\((if dJ (a*s::b*s::C) 1=1 then 1 else 0):Nat)=(if dJ (a*s::t*s::C) 1=1 then 1 else 0)+(if dJ (-(t*s)::b*s::C) 1=1 then 1 else 0)):=by
   rcases s3 with rfl |rfl
   .simp only[pw]at nA nB⊢
    exact Si a3 b3 d3 t1 t2 t3 nA nB
   .simp only[mf,pw]at nA nB⊢
    exact Si (by omega) (by omega) (by omega) (by omega) (by omega) (by omega) nA nB
  refine⟨core.1,?_⟩;rw[core.2];simp only[beq_iff_eq];omega
abbrev kR:MS:=(aI (aR 5 (nM (aB (aA 0) aD)))
 (aI (iQ (aA 5) (aA 4) (aA 1))
 (aI (aR 6 (aC bD (aO fR [] (aB (aA 5) aD)) (aA 3)))
 (aI (bP (aV (aC iE (aA 6) (mC (.int 0)))) (bE (bJ cJ (mC (.int 1)))) cO)
 (bP (aV (aC cP (aA 6) (mC (.int 0)))) (aR 2 (mC (.int 0))) cO)))))
theorem Qz{n k:Nat}(hn:n=2\/n=3)(hk:k<=1000){uss:AC}{p:AA}(h:Sx n k uss)(g:Gu n 1000 p){W:Int}(hW:0<W)(bW:Bd 8000 W){j:Nat}(hj:j<n+1)(f:Int)(S:aG)(x5 x6:AK):
  (sg (dU (uss.set j p))<0/\kR [some (.pv (px uss)),some (.pv (tv p)),some (.pv (.int f)),some (.pv (.int W)),some (.pv (.int (j:Int))),x5,x6] S=.rt (.pv (.int (-1))) (S++[.lst ((uss.set j p).map tv)]))\/
  (¬sg (dU (uss.set j p))<0/\∃y5 y6,kR [some (.pv (px uss)),some (.pv (tv p)),some (.pv (.int f)),some (.pv (.int W)),some (.pv (.int (j:Int))),x5,x6] S=.nx [some (.pv (px uss)),some (.pv (tv p)),some (.pv (.int (if sg (dU (uss.set j p))=0 then 0 else f))),some (.pv (.int W)),some (.pv (.int (j:Int))),y5,y6] (S++[.lst ((uss.set j p).map tv)])):=by
 have hl:=h.len;have hg:∀us∈uss,Gu n 1000 us:=λus hu=>(h.gu us hu).mono hk;obtain⟨d,hd,bd,_,ed⟩:=Tl hn (uss:=uss.set j p) (by rw[dk];exact hl) (E4 hg g j);have ed:=ed (S++[.lst ((uss.set j p).map tv)]) S.length (by simp);have es:(uss.set j p).map tv=(uss.map tv).set j (tv p):=by rw[ng]
 have ij:aZ (uss.map tv).length (j:Int)=some j:=by
  unfold aZ;rw[ai,hl];rcases hn with rfl |rfl
  .match j,hj with
   |0,_=>rfl
   |1,_=>rfl
   |2,_=>rfl
  .match j,hj with
   |0,_=>rfl
   |1,_=>rfl
   |2,_=>rfl
   |3,_=>rfl
 have m1:=mk bd bW (by decide) (by decide);have lz:(uss.map tv).length<=16777216:=by rw[ai,hl];omega
 have hp:px uss=.tup (uss.map tv):=rfl;rw[<-hd];have s0:=@Rz d;have q1:d*W<0↔d<0:=by
  constructor
  .intro z
   by_cases c:d<0
   .exact c
   .have:=d8 (show 0<=d by omega) (ql hW)
    omega
  .intro z
   exact Int.mul_neg_of_neg_of_pos z hW
 have q2:d*W=0↔d=0:=by
  constructor
  .intro z
   rcases f6.mp z with z |z
   .exact z
   .omega
  .intro z
   rw[z,Int.zero_mul]
 rw[hp];rw[es]at ed⊢;generalize (j:Int)=J,tv p=T,uss.map tv=UL at *;have g1:(S++[SO.lst UL])[S.length]?=some (.lst UL):=by simp
 have g2:(S++[SO.lst UL]).set S.length (.lst (UL.set j T))=S++[.lst (UL.set j T)]:=by simp
 by_cases c1:d<0
 .left
  have c2:d*W<0:=q1.mpr c1;refine⟨s0.1.mpr c1,?_⟩;generalize d*W=DW at *;unfold kR;simp! [bA,aL,aK,aM,aN,aE,aJ,nM,rR,lz,iQ,kH,dR,g1,g2,ij,ed,m1,c2]
 .right
  have c2:¬d*W<0:=λz=>c1 (q1.mp z);refine⟨λz=>c1 (s0.1.mp z),?_⟩
  by_cases c3:d=0
  .have c4:d*W=0:=q2.mpr c3
   have c5:sg d=0:=s0.2.mpr c3;rw[if_pos c5];rw[c4]at m1 c2;refine⟨some (.ref S.length),some (.pv (.int 0)),?_⟩;unfold kR;simp! [bA,aL,aK,aM,aN,aE,aJ,nM,rR,lz,iQ,kH,dR,g1,g2,ij,ed,m1]
  .have c4:¬d*W=0:=λz=>c3 (q2.mp z)
   have c5:¬sg d=0:=λz=>c3 (s0.2.mp z);rw[if_neg c5];refine⟨some (.ref S.length),some (.pv (.int (d*W))),?_⟩;generalize d*W=DW at *;unfold kR;simp! [bA,aL,aK,aM,aN,aE,aJ,nM,rR,lz,iQ,kH,dR,g1,g2,ij,ed,m1,c2,c4]
theorem Qh{n k:Nat}(hn:n=2\/n=3)(hk:k<=1000){uss:AC}{p:AA}(h:Sx n k uss)(g:Gu n 1000 p){W:Int}(hW:0<W)(bW:Bd 8000 W):∀(js:List Nat)(f:Int)(S:aG)(x4 x5 x6:AK),(∀j∈js,j<n+1)->∃T:aG,
  (dJ (js.map λj=>sg (dU (uss.set j p))) f=-1/\dE [] (gN 4) kR (js.map λj:Nat=>PV.int (j:Int)) [some (.pv (px uss)),some (.pv (tv p)),some (.pv (.int f)),some (.pv (.int W)),x4,x5,x6] S=.rt (.pv (.int (-1))) (S++T))\/
  ∃y4 y5 y6,dE [] (gN 4) kR (js.map λj:Nat=>PV.int (j:Int)) [some (.pv (px uss)),some (.pv (tv p)),some (.pv (.int f)),some (.pv (.int W)),x4,x5,x6] S=.nx [some (.pv (px uss)),some (.pv (tv p)),some (.pv (.int (dJ (js.map λj=>sg (dU (uss.set j p))) f))),some (.pv (.int W)),y4,y5,y6] (S++T)
 |[],f,S,x4,x5,x6,_=>⟨[],.inr ⟨x4,x5,x6,by rw[ib];exact fW⟩⟩
 |j::js,f,S,x4,x5,x6,hj=>by
  have st:=Qz hn hk h g hW bW (hj j (by simp)) f S x5 x6;have e0:dJ ((j::js).map λj=>sg (dU (uss.set j p))) f=if sg (dU (uss.set j p))<0 then-1 else dJ (js.map λj=>sg (dU (uss.set j p))) (if sg (dU (uss.set j p))=0 then 0 else f):=rfl;rw[e0];rcases st with⟨c,e⟩|⟨c,y5,y6,e⟩
  .refine⟨[.lst ((uss.set j p).map tv)],.inl ⟨if_pos c,?_⟩⟩
   rw[ar,eK];simp only[gN,ff,cx];rw[e]
  .rw[if_neg c]
   obtain⟨T,ih⟩:=Qh hn hk h g hW bW js (if sg (dU (uss.set j p))=0 then 0 else f) (S++[.lst ((uss.set j p).map tv)]) (some (.pv (.int (j:Int)))) y5 y6 λi hi=>hj i (bo _ hi);rw[ie]at ih;refine⟨[.lst ((uss.set j p).map tv)]++T,?_⟩;rcases ih with⟨a,b⟩|⟨z4,z5,z6,b⟩
   .refine .inl ⟨a,?_⟩
    rw[ar,eK];simp only[gN,ff,cx];rw[e];exact b
   .refine .inr ⟨z4,z5,z6,?_⟩
    rw[ar,eK];simp only[gN,ff,cx];rw[e];exact b
theorem Nu{n k:Nat}(hn:n=2\/n=3)(hk:k<=1000){uss:AC}{p:AA}(h:Sx n k uss)(g:Gu n 1000 p)(S:aG):qG [.pv (px uss),.pv (tv p)] S=.ok (.pv (.int (cU uss p))) S:=by
 have hl:=h.len;have hg:∀us∈uss,Gu n 1000 us:=λus hu=>(h.gu us hu).mono hk;obtain⟨W,hW,bW,eW,_⟩:=Tl hn hl hg;have pW:0<W:=by
  have e3:=oO hn hk hl h.gu;rw[h.cn]at e3;have nz:=h.nz;have:0<dU uss:=by omega
  have s1:sg (dU uss)=1:=by
   unfold sg;rw[if_pos this]
  rw[s1]at hW;unfold sg at hW;split at hW
  .assumption
  .split at hW<;>cases hW
 have eW:=eW S;obtain⟨T,hT⟩:=Qh hn hk h g pW bW (az (n+1)) 1 S none none none λj hj=>by simpa using hj
 have es:((az (n+1)).map λj=>sg (dU (uss.set j p)))=kW uss p:=by
  unfold kW;rw[hl]
 rw[es]at hT;have rg:=jL S (n:=n+1) (by omega);rw[Pu]at rg;have ln:((uss.map tv).length:Int)=((n+1:Nat):Int):=by rw[ai,hl]
 have hp:px uss=.tup (uss.map tv):=rfl;have hb:xQ=(aI (aR 2 (mC (.int 1)))
 (aI (aR 3 (aO fR [] (aB (aA 0) aD)))
 (aI (bZ (bY (aB (mR cT (aB (aA 0) aD)) aD)) (gN 4) kR)
 (bE (aA 2))))):=rfl
 have e1:dJ (kW uss p) 1=cU uss p:=rfl;rw[e1]at hT;have tk:(S++T).take S.length=S:=by simp
 rw[hp]at hT eW⊢;generalize kR=PB1,cU uss p=st,((n+1:Nat):Int)=N1,tv p=TP,uss.map tv=UL,((az (n+1)).map λj:Nat=>PV.int (j:Int))=RL at *;unfold qG aS;rw[hb];rcases hT with⟨a,b⟩|⟨y4,y5,y6,b⟩
 .rw[a]
  simp! [aF,aY,aZ,aP,aL,aK,aM,aN,aE,aJ,eW,ln,bZ,bY,rg,b]
 .simp! [aF,aY,aZ,aP,aL,aK,aM,aN,aE,aJ,eW,ln,bZ,bY,rg,b]
theorem Xq{n:Nat}(hn:n=2\/n=3)(S:aG){hs:AD}(hw:∀xss∈hs,Rw n xss):∃gs:AD,bT [] (gN 0) (aO iZ [] (aB (bF ["_law_c"] [(1,"_law_one")] (bO (aA 0)) (gN 0) (aO lL [] (aB (aA 0) (aB (aA 1) aD)))) aD)) (hs.map cS) [none,some (.pv (.lst (iY n)))] S=.ok (gs.map px) S/\gs.length=hs.length/\∀u∈gs,Sx n 3 u:=by
 refine⟨hs.map λxss=>bQ (xss.map (·++[1])),?_,by rw[ai],λu hu=>?_⟩
 .rw[ix]
  refine pZ (lN _) cS (λxss=>px (bQ (xss.map (·++[1])))) hs none λxss hx=>?_;have w:=hw xss hx;have sp:=λxs (hx:xs∈xss)=>Yl hn S (w.l xs hx) (w.b xs hx);have e1:bT [] (gN 0) (aO lL [] (aB (aA 0) (aB (aA 1) aD))) (xss.map lv) [none,some (.pv (.lst (iY n)))] S=.ok (xss.map λxs=>tv (xs++[1])) S:=by
   refine pZ (lN _) lv (λxs=>tv (xs++[1])) xss none λxs hx=>?_;have a1:=(sp xs hx).1;generalize iY n=FL,lv xs=T3,tv (xs++[1])=T2 at *;simp! [aF,aY,aZ,aP,aL,aK,aM,aN,aE,aJ,a1]
  have es:=wK (uss:=xss.map (·++[1])) (A:=.lst ((xss.map (·++[1])).map tv)) hn S (by rw[ai];exact w.len) (λus hu=>by
   obtain⟨xs,hx,rfl⟩:=gg.mp hu;exact(sp xs hx).2.mono (by decide)) (.inl rfl)
  rw[ix]at es;have es:iZ [.pv (.lst (xss.map λxs=>tv (xs++[1])))] S=.ok (.pv (px (bQ (xss.map (·++[1]))))) S:=es;have hv:cS xss=.lst (xss.map lv):=rfl;rw[hv];generalize iY n=FL,xss.map lv=XL,(xss.map λxs=>tv (xs++[1]))=TL,px (bQ (xss.map (·++[1])))=PX at *;simp! [aF,aY,aZ,aP,aL,aK,aM,aN,aE,aJ,bF,cF,bO,cB,e1,es]
 .obtain⟨xss,hx,rfl⟩:=gg.mp hu
  have w:=hw xss hx;refine uJ hn (k:=3) (by decide) (by rw[ai];exact w.len) (λus hu=>?_) w.nz;obtain⟨xs,hx,rfl⟩:=gg.mp hu;exact(Yl hn [] (w.l xs hx) (w.b xs hx)).2
abbrev rT:MS:=(aI (aR 4 (bF ["_law_k"] [(0,"_law_row_here")] (bY (aB (aC dH (mR cT (aB (aA 3) aD)) (mC (.int 1))) aD)) (gN 0) (aC dH (aO cM [] (aB (aA 1) (aB (mC (.int 3)) aD))) (mC (.int 1))))) (cZ (cN (aA 2) (aB (aO qL [] (aB (aA 3) (aB (mC (.int 1)) (aB (mR fK (aB (aC aE (aA 4) (mN eA (aB (mC (.int 1)) aD))) aD)) aD)))) aD))))
theorem M7{n k:Nat}(hn:n=2\/n=3)(hk:k<=100)(ns:AA){G:AD}(hG:G.length<=90){u:AC}(h:Sx n k u)(x1 x4:AK):∃(v:AC)(ns':AA)(y4:AK),rT [some (.ref 0),x1,some (.ref 1),some (.pv (px u)),x4] [.lst (li ns),.lst (G.map px)]=.nx [some (.ref 0),x1,some (.ref 1),some (.pv (px u)),y4] [.lst (li ns'),.lst ((G++[v]).map px)]/\Sx n (k+3) v:=by
 obtain⟨xs,n1,e1,l1,b1⟩:=zR (m:=3) (c:=1) (by decide) (gS (by decide) (by decide)) [.lst (G.map px)] (cG 0 n) ns none;have lx:xs.length=n:=by rw[l1];unfold cG;simp
 have bd:∀{x:Int},-1<=x->x<3->Bd 2 x:=λa b=>Bd.of (n:=3) (by omega) (by decide);have gf:Gu n 2 (xs++[1]):=⟨xs,1,rfl,lx,by decide,Na xs,λx hx=>bd (by have:=b1 x hx;omega) (by have:=b1 x hx;omega),bd (by decide) (by decide)⟩;have e2:=Vx hn [.lst (li n1),.lst (G.map px)] (way:=1) (.inl rfl) h gf (by omega);have rg:=jL [.lst (li ns),.lst (G.map px)] (n:=n) (by omega);have ln:((u.map tv).length:Int)-1=(n:Int):=by rw[ai,h.len];omega
 refine⟨oA 1 (xs++[1]) u,n1,some (.pv (.lst (li xs))),?_,A8 hn (.inl rfl) h gf (by omega)⟩;have lz:(G.map px).length<16777216:=by rw[ai];omega
 have ly:(li xs).length+1<=16777216:=by simp;omega
 have ep:(G++[oA 1 (xs++[1]) u]).map px=G.map px++[px (oA 1 (xs++[1]) u)]:=by simp
 have et:tv (xs++[1])=.tup (li xs++[.int 1]):=by simp[tv,li]
 have hp:px u=.tup (u.map tv):=rfl;rw[et]at e2;rw[ep];rw[hp]at e2⊢;clear h gf b1 l1;generalize (n:Int)=N,cG 0 n=IP,li xs=XL,G.map px=GL,u.map tv=UL,px (oA 1 (xs++[1]) u)=PM at *;unfold rT;simp! [bA,aL,aK,aM,aN,aE,aJ,ln,bF,cF,bY,rg,e1,ly,e2,cN,dR,fM,lz]
theorem Yj{n k:Nat}(hn:n=2\/n=3)(hk:k<=100)(x1:AK):∀(hs G:AD)(ns:AA)(x3 x4:AK),(∀u∈hs,Sx n k u)->(∀u∈G,Sx n (k+3) u)->G.length+hs.length<=90->∃(G':AD)(ns':AA)(y3 y4:AK),dE [] (gN 3) rT (hs.map px) [some (.ref 0),x1,some (.ref 1),x3,x4] [.lst (li ns),.lst (G.map px)]=.nx [some (.ref 0),x1,some (.ref 1),y3,y4] [.lst (li ns'),.lst (G'.map px)]/\(∀u∈G',Sx n (k+3) u)/\G'.length=G.length+hs.length
 |[],G,ns,x3,x4,_,hG,_=>⟨G,ns,x3,x4,fW,hG,rfl⟩
 |u::hs,G,ns,x3,x4,h,hG,hl=>by
  have hl:G.length+(hs.length+1)<=90:=hl;obtain⟨v,n1,y4,e1,s1⟩:=M7 hn hk ns (G:=G) (by omega) (h u ce) x1 x4;obtain⟨G',n2,z3,z4,e2,s2,l2⟩:=Yj hn hk x1 hs (G++[v]) n1 (some (.pv (px u))) y4 (λw hw=>h w (bo _ hw)) (λw hw=>by
   rcases bj.mp hw with z |z
   .exact hG w z
   .have:w=v:=by simpa using z
    rw[this];exact s1) (by rw[bi,ju];omega)
  refine⟨G',n2,z3,z4,?_,s2,by rw[l2,bi,ju,ca];omega⟩;rw[ar,eK];simp only[gN,ff,cx];rw[e1];exact e2
theorem Fx{n k:Nat}(hn:n=2\/n=3)(hk:k<=100)(ns:AA){hs:AD}(h:∀u∈hs,Sx n k u)(hl:hs.length<=90):∃(gs:AD)(ns':AA),qH [.ref 0,.pv (.lst (hs.map px))] [.lst (li ns)]=.ok (.ref 1) [.lst (li ns'),.lst (gs.map px)]/\(∀u∈gs,Sx n (k+3) u)/\gs.length=hs.length:=by
 obtain⟨G,n1,y3,y4,e,s,l⟩:=Yj hn hk (some (.pv (.lst (hs.map px)))) hs [] ns none none h (by simp) (by simpa using hl);refine⟨G,n1,?_,s,by simpa using l⟩;rw[cg]at e;have hb:yJ=(aI (aR 2 (dP aD)) (aI (bZ (bO (aA 1)) (gN 3) rT) (bE (aA 2)))):=rfl;unfold qH aS;rw[hb];generalize hs.map px=HL,G.map px=GL,rT=NB at *;simp! [bA,aL,aK,aM,aN,aE,aJ,dP,hV,bZ,bO,cB,e]
abbrev jW:MS:=(aI (aR 5 (aC aF (aA 1) (aO cM [] (aB (aA 0) (aB (mR cT (aB (aA 1) aD)) aD))))) (cZ (cN (aA 3) (aB (aC aF (aA 5) (aO cM [] (aB (aA 0) (aB (mR cT (aB (aA 5) aD)) aD)))) aD))))
theorem Mj{n k:Nat}{hs:AD}(h:∀u∈hs,Sx n k u)(h0:0<hs.length)(h9:hs.length<=90)(n9:n<=9)(ns:AA)(T:AC)(hT:T.length<=90)(x2 x4 x5 x6 x7 x8:AK):∃(p:AA)(ns':AA)(y5:AK),jW [some (.ref 0),some (.pv (.lst (hs.map px))),x2,some (.ref 1),x4,x5,x6,x7,x8] [.lst (li ns),.lst (T.map tv)]=.nx [some (.ref 0),some (.pv (.lst (hs.map px))),x2,some (.ref 1),x4,y5,x6,x7,x8] [.lst (li ns'),.lst ((T++[p]).map tv)]/\Gu n k p:=by
 obtain⟨i,n1,e1,il⟩:=vU (ns:=ns) (L:=hs.map px) (T:=[.lst (T.map tv)]) (k:=0) (by simp;omega) (by simp;omega);rw[ot]at e1 il;rw[ai]at il;have i1:aF (.lst (hs.map px)) (.int (i:Int))=some (px hs[i]):=iJ (by rw[ci,aw il];rfl);have su:=h _ (du il);obtain⟨j,n2,e2,jl⟩:=vU (ns:=n1) (L:=(hs[i]).map tv) (T:=[.lst (T.map tv)]) (k:=0) (by rw[ai,su.len];omega) (by rw[ai,su.len];omega);rw[ot]at e2 jl;rw[ai]at jl;have i2:aF (.tup ((hs[i]).map tv)) (.int (j:Int))=some (tv (hs[i])[j]):=iJ (by rw[ci,aw jl];rfl);refine⟨(hs[i])[j],n2,some (.pv (px hs[i])),?_,su.gu _ (du jl)⟩;have lz:(T.map tv).length<16777216:=by rw[ai];omega
 have ep:(T++[(hs[i])[j]]).map tv=T.map tv++[tv (hs[i])[j]]:=by simp
 have hp:px hs[i]=.tup ((hs[i]).map tv):=rfl;rw[ep];rw[hp]at i1⊢;clear h su ep hp;generalize T.map tv=TL,hs.map px=HL,(hs[i]).map tv=UL,tv (hs[i])[j]=TP at *;unfold jW;simp! [bA,aL,aK,aM,aN,aE,aJ,e1,i1,e2,i2,cN,dR,fM,lz]
theorem Yu{n k:Nat}(hn:n=2\/n=3)(hk:k<=100){hs:AD}(h:∀u∈hs,Sx n k u)(h0:0<hs.length)(h9:hs.length<=90)(ns:AA):∃(p:AA)(ns':AA),lB [.ref 0,.pv (.lst (hs.map px)),.pv (.int (n:Int))] [.lst (li ns)]=.ok (.pv (tv p)) [.lst (li ns')]/\Gu n 1000 p:=by
 obtain⟨p,n1,y5,e1,gp⟩:=Mj h h0 h9 (by omega) ns [] (by simp) (some (.pv (.int (n:Int)))) (some (.pv (.int 0))) none none none none;obtain⟨q,n2,z5,e2,gq⟩:=Mj h h0 h9 (by omega) n1 [p] (by simp) (some (.pv (.int (n:Int)))) (some (.pv (.int 1))) y5 none none none;simp only[dw,ar,cg,iu]at e1 e2;have e3:=yR (way:=1) [.lst (li n2),.lst [tv p,tv q]] hn (.inl rfl) gp gq (by omega) (by omega);have g3:=(jR (way:=1) (.inl rfl) gp gq).1;obtain⟨xs,w,ef,P⟩:=g3;rw[ef]at e3;have a1:=tE xs w;have a2:=lC xs w;have a3:=eO (show Bd 2 (2:Int) from Bd.of (n:=2) (by decide) (by decide)) P.bw (by decide) (by omega);have b2:Bd (k+k+3) (2*w):=((show Bd 2 (2:Int) from Bd.of (n:=2) (by decide) (by decide)).mul P.bw).mono (by omega);obtain⟨zs,z,e4,Q,_⟩:=tX (n:=n) (k:=k+k+3) (L:=xs) (b:=2*w) (by have:=P.pos;omega) P.len (λx hx=>(P.bx x hx).mono (by omega)) b2;have e5:=mY (xs++[2*w]) [.lst (li n2),.lst [tv p,tv q]] (λx hx=>by
  rcases bj.mp hx with y |y
  .exact(P.bx x y).mono (by omega)
  .have:x=2*w:=by simpa using y
   rw[this];exact b2.mono (by omega))
 rw[e4]at e5;have g5:Gu n (k+k+3) (zs++[z]):=⟨zs,z,rfl,Q⟩;obtain⟨ys,n3,e6,l6,b6⟩:=zR (m:=9) (c:=4) (by decide) (gS (by decide) (by decide)) [.lst [tv p,tv q]] (cG 0 n) n2 none;have ly:ys.length=n:=by rw[l6];unfold cG;simp
 have by7:∀x∈ys,Bd 7 x:=λx hx=>Bd.of (n:=9) (by have:=b6 x hx;omega) (by decide);have b101:Bd 7 (101:Int):=Bd.of (n:=101) (by decide) (by decide);obtain⟨vs',v,e7,R,_⟩:=tX (n:=n) (k:=7) (L:=ys) (b:=101) (by decide) ly by7 b101;have e8:=mY (ys++[101]) [.lst (li n3),.lst [tv p,tv q]] (λx hx=>by
  rcases bj.mp hx with y |y
  .exact(by7 x y).mono (by decide)
  .have:x=101:=by simpa using y
   rw[this];exact b101.mono (by decide))
 rw[e7]at e8;have g8:Gu n 7 (vs'++[v]):=⟨vs',v,rfl,R⟩;have e9:=yR (way:=1) [.lst (li n3),.lst [tv p,tv q]] hn (.inl rfl) g5 g8 (by omega) (by decide);have g9:=(jR (way:=1) (.inl rfl) g5 g8).1.mono (show k+k+3+7+1<=1000 by omega);refine⟨fY 1 (vs'++[v]) (zs++[z]),n3,?_,g9⟩;have rg:=jL [.lst (li n2),.lst [tv p,tv q]] (n:=n) (by omega);have r2:=jL [.lst (li ns),.lst []] (n:=2) (by decide);have r2:iD [.pv (.int 2)] [.lst (li ns),.lst []]=.ok ([.int 0,.int 1],[]) [.lst (li ns),.lst []]:=r2;have lx:(xs.map PV.int).length+1<=16777216:=by rw[ai,P.len];omega
 have lv:(ys.map PV.int).length+1<=16777216:=by rw[ai,ly];omega
 rw[fh,ar,cg]at e5 e8;have et:∀(xs:AA)(w:Int),tv (xs++[w])=.tup ((xs++[w]).map .int):=λ_ _=>rfl;rw[et]at e3;clear h gp gq P Q R g5 g8 g9 b6 by7;generalize hW:(xs++[w]).map PV.int=XW at *;generalize tv (fY 1 (vs'++[v]) (zs++[z]))=TR at *;have e5:gG [.pv (.lst (xs.map PV.int++[.int (2*w)]))] [.lst (li n2),.lst [tv p,tv q]]=.ok (.pv (tv (zs++[z]))) [.lst (li n2),.lst [tv p,tv q]]:=e5;have e8:gG [.pv (.lst (ys.map PV.int++[.int 101]))] [.lst (li n3),.lst [tv p,tv q]]=.ok (.pv (tv (vs'++[v]))) [.lst (li n3),.lst [tv p,tv q]]:=e8;generalize tv (vs'++[v])=TV,tv (zs++[z])=TZ at *;have e6:bT _ _ _ _ _ _=bI.ok (ys.map PV.int) _:=e6;generalize xs.map PV.int=XL,ys.map PV.int=YL at *;have hz0:(((hs.map px).length:Int)==0)=false:=by rw[ai];exact beq_false_of_ne (by omega)
 generalize (n:Int)=N,cG 0 n=IP,tv q=TQ,tv p=TP,hs.map px=HL at *;have tF:(bZ (bY (aB (mC (.int 2)) aD)) (gN 4) jW) [some (.ref 0),some (.pv (.lst HL)),some (.pv (.int N)),some (.ref 1),none,none,none,none,none] [.lst (li ns),.lst []]=.nx [some (.ref 0),some (.pv (.lst HL)),some (.pv (.int N)),some (.ref 1),some (.pv (.int 1)),z5,none,none,none] [.lst (li n2),.lst [TP,TQ]]:=by
  generalize jW=AB at *;simp! [bA,aL,aK,aM,aN,aE,aJ,bZ,bY,r2,eK,fW,gN,e1,e2]
 unfold lB tI;apply lZ rfl;apply sq;simp! [bA,aL,aK,aM,aN,aE,aJ,eR,hz0];exact⟨rfl,rfl⟩;apply sq;simp! [bA,aL,aK,aM,aN,aE,aJ,eR,dP,hV];exact⟨rfl,rfl⟩;refine sq tF ?_;have i0:aF (.lst [TP,TQ]) (.int 0)=some TP:=iJ (j:=0) rfl;have i1:aF (.lst [TP,TQ]) (.int 1)=some TQ:=iJ (j:=1) rfl;apply sq;simp! [bA,aL,aK,aM,aN,aE,aJ,i0,i1,e3];exact⟨rfl,rfl⟩;apply sq;simp! [bA,aL,aK,aM,aN,aE,aJ,cY,cX,cV,eL,a1,a2,a3,lx,e5];exact⟨rfl,rfl⟩;apply sq;simp! [bA,aL,aK,aM,aN,aE,aJ,bF,cF,bY,rg,e6];exact⟨rfl,rfl⟩;simp! [bA,aL,aK,aM,aN,aE,aJ,lv,e8,e9];exact⟨rfl,rfl⟩;simp[gC]
theorem X8{x0 y0 w0 x1 y1 w1:Int}{k:Nat}{S:aG}(hk:S[k]?=some (.lst [v2 x0 y0 w0,v2 x1 y1 w1]))(p:P2 x0 y0 w0)(q:P2 x1 y1 w1):lE [.ref k] S=.ok (.pv (.tup ((low (B2 x0 y0 w0 x1 y1 w1)).map .int))) S:=by
 have t:∀{a:Int},Bd 1000 a->Bd 10000 a:=λh=>h.mono (by decide);have ec:=qE (A:=v2 x0 y0 w0) (B:=v2 x1 y1 w1) S (.inr rfl) (.inr rfl) (t p.bx) (t p.by_) (t p.bw) (t q.bx) (t q.by_) (t q.bw);have e1:y0*w1-w0*y1=-(y1*w0-y0*w1):=by grind
 have e2:w0*x1-x0*w1=x1*w0-x0*w1:=by grind
 rw[e1,e2]at ec;have el:=mY (B2 x0 y0 w0 x1 y1 w1) S (by
  intro n hn;have hn:n=-(y1*w0-y0*w1)\/n=x1*w0-x0*w1\/n=x0*y1-y0*x1:=by simpa[B2]using hn
  rcases hn with rfl |rfl |rfl
  .exact(sb p.by_ p.bw q.by_ q.bw).neg.mono (by decide)
  .exact(sb p.bx p.bw q.bx q.bw).mono (by decide)
  .exact((p.bx.mul q.by_).sub (p.by_.mul q.bx)).mono (by decide))
 have hB:(B2 x0 y0 w0 x1 y1 w1).map PV.int=[.int (-(y1*w0-y0*w1)),.int (x1*w0-x0*w1),.int (x0*y1-y0*x1)]:=rfl;rw[hB]at el;generalize v2 x1 y1 w1=Q,v2 x0 y0 w0=P,[PV.int (-(y1*w0-y0*w1)),.int (x1*w0-x0*w1),.int (x0*y1-y0*x1)]=CL,(low (B2 x0 y0 w0 x1 y1 w1)).map PV.int=RL at *;unfold lE aS tH;simp! [aF,aY,aZ,aP,aL,aK,aM,aN,aE,aJ,ec,el,hk]
theorem aaj{Q R U V:PV}{x0 y0 z0 w0 a b c:Int}{k:Nat}{S:aG}(hk:S[k]?=some (.lst [v3 x0 y0 z0 w0,Q,R]))(p:P3 x0 y0 z0 w0)(a1:iR [.pv (v3 x0 y0 z0 w0),.pv Q] S=.ok (.pv U) S)(a2:iR [.pv (v3 x0 y0 z0 w0),.pv R] S=.ok (.pv V) S)(en:lD [.pv U,.pv V] S=.ok (.pv (.lst [.int a,.int b,.int c])) S)
  (ba:Bd 4003 a)(bb:Bd 4003 b)(bc:Bd 4003 c):lE [.ref k] S=.ok (.pv (.tup ((low (B3 w0 x0 y0 z0 a b c)).map .int))) S:=by
 have m1:=eO ba p.bw;have m2:=eO bb p.bw;have m3:=eO bc p.bw;rw[ee]at m1 m2 m3;have ed:=qJ (A:=.lst [.int a,.int b,.int c]) (B:=v3 x0 y0 z0 w0) (us:=[a,b,c]) (vs:=[x0,y0,z0,w0]) S (.inl rfl) (.inr rfl) (by simp;exact⟨ba.mono (by decide),bb.mono (by decide),bc.mono (by decide)⟩) (by simp;exact⟨p.bx.mono (by decide),p.by_.mono (by decide),p.bz.mono (by decide),p.bw.mono (by decide)⟩);rw[aac]at ed;have el:=mY (B3 w0 x0 y0 z0 a b c) S (P5 p.bw p.bx p.by_ p.bz ba bb bc);have i3:aF (v3 x0 y0 z0 w0) (.int 3)=some (.int w0):=rfl;generalize (low (B3 w0 x0 y0 z0 a b c)).map PV.int=RL at *;simp only[B3,ar,cg]at el;have s0:∀T:Int,0-T=-T:=λT=>by omega
 generalize a*x0+b*y0+c*z0=T at *;have m1':bD (.int a) (.int w0)=some (.int (w0*a)):=m1;generalize v3 x0 y0 z0 w0=P,w0*c=K3,w0*b=K2,w0*a=K1 at *;have f0:aF (.lst [P,Q,R]) (.int 0)=some P:=rfl;have f1:aF (.lst [P,Q,R]) (.int 1)=some Q:=rfl;have f2:aF (.lst [P,Q,R]) (.int 2)=some R:=rfl;unfold lE aS tH;simp! [bA,aL,aK,aM,aN,aE,aJ,f0,f1,f2,i3,bF,bO,cB,cF,dG,dC,gN,a1,a2,en,ed,m1,m2,m3,s0,el,hk]
theorem M5{n:Nat}(hn:n=2\/n=3){T:AC}(hl:T.length=n)(hg:∀p∈T,Gu n 100 p):∃B:AA,(∀(S:aG)(k:Nat),S[k]?=some (.lst (T.map tv))->lE [.ref k] S=.ok (.pv (tv B)) S)/\B.length=n+1/\∀x∈B,Bd 510 x:=by
 have m:∀{a:Int},Bd 100 a->Bd 1000 a:=λh=>h.mono (by decide);have s:∀{k:Nat}{a b c d:Int},Bd k a->Bd k b->Bd k c->Bd k d->Bd (2*k+1) (a*b-c*d):=λ{k} {_ _ _ _} h1 h2 h3 h4=>((h1.mul h2).mono (show k+k<=2*k by omega)).sub ((h3.mul h4).mono (show k+k<=2*k by omega));rcases hn with rfl |rfl
 .match T,hl,hg with
  |[p,q],_,hg=>
   obtain⟨x0,y0,w0,rfl,q0,a0,b0,c0⟩:=(hg p (by simp)).two';obtain⟨x1,y1,w1,rfl,q1,a1,b1,c1⟩:=(hg q (by simp)).two';refine⟨low (B2 x0 y0 w0 x1 y1 w1),λS k hk=>X8 hk ⟨m a0,m b0,m c0,q0⟩ ⟨m a1,m b1,m c1,q1⟩,by rw[Mh];rfl,λx hx=>?_⟩;refine qZ (k:=510) (ns:=B2 x0 y0 w0 x1 y1 w1) (λn hn=>?_) x hx;have hn:n=-(y1*w0-y0*w1)\/n=x1*w0-x0*w1\/n=x0*y1-y0*x1:=by simpa[B2]using hn
   rcases hn with rfl |rfl |rfl
   .exact(s b1 c0 b0 c1).neg.mono (by decide)
   .exact(s a1 c0 a0 c1).mono (by decide)
   .exact(s a0 b1 b0 a1).mono (by decide)
 .match T,hl,hg with
  |[p,q,r],_,hg=>
   obtain⟨x0,y0,z0,w0,rfl,q0,a0,b0,d0,c0⟩:=(hg p (by simp)).three';obtain⟨x1,y1,z1,w1,rfl,q1,a1,b1,d1,c1⟩:=(hg q (by simp)).three';obtain⟨x2,y2,z2,w2,rfl,q2,a2,b2,d2,c2⟩:=(hg r (by simp)).three';have hF:=λS=>D5 S (x0:=x0) (y0:=y0) (z0:=z0) (w0:=w0) (x1:=x1) (y1:=y1) (z1:=z1) (w1:=w1) (x2:=x2) (y2:=y2) (z2:=z2) (w2:=w2) ⟨m a0,m b0,m d0,m c0,q0⟩ ⟨m a1,m b1,m d1,m c1,q1⟩ ⟨m a2,m b2,m d2,m c2,q2⟩;obtain⟨a,b,c,_,_,eN,ba,bb,bc,_⟩:=hF [];have eN0:=eN;simp only[N3,f7,and_true]at eN0;obtain⟨n1,n2,n3⟩:=eN0;have g1:=s a1 c0 a0 c1;have g2:=s b1 c0 b0 c1;have g3:=s d1 c0 d0 c1;have k1:=s a2 c0 a0 c2;have k2:=s b2 c0 b0 c2;have k3:=s d2 c0 d0 c2;have t1:Bd 403 a:=by rw[<-n1];exact s g2 k3 g3 k2
   have t2:Bd 403 b:=by rw[<-n2];exact s g3 k1 g1 k3
   have t3:Bd 403 c:=by rw[<-n3];exact s g1 k2 g2 k1
   refine⟨low (B3 w0 x0 y0 z0 a b c),λS k hk=>?_,by rw[Mh];rfl,λx hx=>?_⟩
   .obtain⟨a0,b0,c0,U,V,e,_,_,_,q1,q2,q3,q4,q5,q6⟩:=hF S
    rw[eN]at e;simp only[f7,and_true]at e;obtain⟨rfl,rfl,rfl⟩:=e;exact aaj hk ⟨m (by assumption),m (by assumption),m (by assumption),m (by assumption),by assumption⟩ q3 q4 q6 ba bb bc
   .refine qZ (k:=510) (ns:=B3 w0 x0 y0 z0 a b c) (λn hn=>?_) x hx
    have hn:n=w0*a\/n=w0*b\/n=w0*c\/n=-(a*x0+b*y0+c*z0):=by simpa[B3]using hn
    rcases hn with rfl |rfl |rfl |rfl
    .exact(c0.mul t1).mono (by decide)
    .exact(c0.mul t2).mono (by decide)
    .exact(c0.mul t3).mono (by decide)
    .exact((((t1.mul a0).add (t2.mul b0)).add ((t3.mul d0).mono (show 403+100<=504 by decide))).neg).mono (by decide)
theorem Sm{h k w0 w1:Int}(h0:0<h)(k0:k<0)(p0:0<w0)(p1:0<w1):0<h*w1-k*w0/\0< -k*w0/\0<h*w1:=by
 have a:=cu h0 p1;have b:=cu (show 0< -k by omega) p0;refine⟨?_,b,a⟩;rw[kq]at b;omega
theorem qQ{x0 x1 w0 w1 h k x z:Int}(e:x*(h*w1-k*w0)=(h*x1-k*x0)*z):x*((-k*w0+h*w1)*w0*w1)=(-k*w0*x0*w1+h*w1*x1*w0)*z:=by grind
theorem Kl{a b:Int}(hb:0<b)(e:a*b=0):a=0:=by
 rcases f6.mp e with h |h
 .exact h
 .omega
theorem F5{n:Nat}(hn:n=2\/n=3){B p q:AA}(hB:B.length=n+1)(gp:Gu n 6 p)(gq:Gu n 6 q){h k:Int}(h0:0<h)(k0:k<0)(bh:Bd 520 h)(bk:Bd 520 k)(eh:dt B p=h)(ek:dt B q=k):∃(m:AA)(u v:Int),(∀S,mW [.pv (tv p),.pv (tv q),.pv (.int h),.pv (.int k)] S=.ok (.pv (tv m)) S)/\0<u/\0<v/\jX n u v p q m/\Gu n 530 m/\dt B m=0:=by
 have bb:∀{x y:Int},Bd 6 x->Bd 6 y->Bd 530 (h*y-k*x):=λhx hy=>((bh.mul hy).sub (bk.mul hx)).mono (by decide);have t8:∀{x:Int},Bd 530 x->Bd 8000 x:=λh=>h.mono (by decide);have m1:∀{y:Int},Bd 6 y->bD (.int h) (.int y)=some (.int (h*y)):=λhy=>eO bh hy;have m2:∀{y:Int},Bd 6 y->bD (.int k) (.int y)=some (.int (k*y)):=λhy=>eO bk hy;rcases hn with rfl |rfl
 .obtain⟨x0,y0,w0,rfl,p0,a0,b0,c0⟩:=gp.two'
  obtain⟨x1,y1,w1,rfl,p1,a1,b1,c1⟩:=gq.two';obtain⟨b0',u0,v0⟩:=Sm h0 k0 p0 p1;obtain⟨zs,z,e1,P,e2⟩:=tX (n:=2) (k:=530) (L:=[h*x1-k*x0,h*y1-k*y0]) (b:=h*w1-k*w0) b0' rfl (λx hx=>by
   simp only[ay,de,or_false]at hx;rcases hx with rfl |rfl
   .exact bb a0 a1
   .exact bb b0 b1) (bb c0 c1)
  have ep:=λS=>Pg (w:=.lst [.int (h*x1-k*x0),.int (h*y1-k*y0)]) [h*x1-k*x0,h*y1-k*y0] (h*w1-k*w0) S (.inl rfl) (λx hx=>by
   simp only[ay,de,or_false]at hx;rcases hx with rfl |rfl
   .exact t8 (bb a0 a1)
   .exact t8 (bb b0 b1)) (t8 (bb c0 c1)) (by omega) (by simp)
  rw[Sj b0',e1]at ep;refine⟨zs++[z],-k*w0,h*w1,λS=>?_,u0,v0,?_,⟨zs,z,rfl,P⟩,?_⟩
  .have ep:=ep S
   have r1:=m1 a1;have r2:=m1 b1;have r3:=m1 c1;have r4:=m2 a0;have r5:=m2 b0;have r6:=m2 c0;show mW [.pv (.tup [.int x0,.int y0,.int w0]),.pv (.tup [.int x1,.int y1,.int w1]),.pv (.int h),.pv (.int k)] S=.ok (.pv (.tup ((zs++[z]).map .int))) S;generalize (zs++[z]).map PV.int=ZL at *;clear e2 P e1 eh ek;unfold mW aS sJ;simp! [aF,aY,aZ,aP,aL,aK,aM,aN,aE,aJ,bF,cF,fX,jG,eV,cB,dG,dC,gT,dL,eS,gN,r1,r2,r3,r4,r5,r6,cY,cX,cV,eL,gW,gM,HT.sIx,ep]
  .have h0':=e2 0 (by decide)
   have h1':=e2 1 (by decide)
   match zs,P.len,P.pos with
   |[x,y],_,z0=>
    refine⟨⟨[x,y],z,rfl,rfl,z0⟩,λj hj=>?_⟩
    match j,hj with
    |0,_=>exact qQ h0'
    |1,_=>exact qQ h1'
    |2,_=>
     show z*((-k*w0+h*w1)*w0*w1)=(-k*w0*w0*w1+h*w1*w1*w0)*z;grind
  .have h0':=e2 0 (by decide)
   have h1':=e2 1 (by decide)
   match B,hB,zs,P.len with
   |[a,b,c],_,[x,y],_=>
    have h0':x*(h*w1-k*w0)=(h*x1-k*x0)*z:=h0';have h1':y*(h*w1-k*w0)=(h*y1-k*y0)*z:=h1';rw[wA]at eh ek;refine Kl b0' ?_;show dt [a,b,c] [x,y,z]*_=0;rw[wA];grind
 .obtain⟨x0,y0,t0,w0,rfl,p0,a0,b0,d0,c0⟩:=gp.three'
  obtain⟨x1,y1,t1,w1,rfl,p1,a1,b1,d1,c1⟩:=gq.three';obtain⟨b0',u0,v0⟩:=Sm h0 k0 p0 p1;obtain⟨zs,z,e1,P,e2⟩:=tX (n:=3) (k:=530) (L:=[h*x1-k*x0,h*y1-k*y0,h*t1-k*t0]) (b:=h*w1-k*w0) b0' rfl (λx hx=>by
   simp only[ay,de,or_false]at hx;rcases hx with rfl |rfl |rfl
   .exact bb a0 a1
   .exact bb b0 b1
   .exact bb d0 d1) (bb c0 c1)
  have ep:=λS=>Pg (w:=.lst [.int (h*x1-k*x0),.int (h*y1-k*y0),.int (h*t1-k*t0)]) [h*x1-k*x0,h*y1-k*y0,h*t1-k*t0] (h*w1-k*w0) S (.inl rfl) (λx hx=>by
   simp only[ay,de,or_false]at hx;rcases hx with rfl |rfl |rfl
   .exact t8 (bb a0 a1)
   .exact t8 (bb b0 b1)
   .exact t8 (bb d0 d1)) (t8 (bb c0 c1)) (by omega) (by simp)
  rw[Sj b0',e1]at ep;refine⟨zs++[z],-k*w0,h*w1,λS=>?_,u0,v0,?_,⟨zs,z,rfl,P⟩,?_⟩
  .have ep:=ep S
   have r1:=m1 a1;have r2:=m1 b1;have r3:=m1 c1;have r4:=m2 a0;have r5:=m2 b0;have r6:=m2 c0;have r7:=m1 d1;have r8:=m2 d0;show mW [.pv (.tup [.int x0,.int y0,.int t0,.int w0]),.pv (.tup [.int x1,.int y1,.int t1,.int w1]),.pv (.int h),.pv (.int k)] S=.ok (.pv (.tup ((zs++[z]).map .int))) S;generalize (zs++[z]).map PV.int=ZL at *;clear e2 P e1 eh ek;unfold mW aS sJ;simp! [aF,aY,aZ,aP,aL,aK,aM,aN,aE,aJ,bF,cF,fX,jG,eV,cB,dG,dC,gT,dL,eS,gN,r1,r2,r3,r4,r5,r6,r7,r8,cY,cX,cV,eL,gW,gM,HT.sIx,ep]
  .have h0':=e2 0 (by decide)
   have h1':=e2 1 (by decide);have h2':=e2 2 (by decide)
   match zs,P.len,P.pos with
   |[x,y,t],_,z0=>
    refine⟨⟨[x,y,t],z,rfl,rfl,z0⟩,λj hj=>?_⟩
    match j,hj with
    |0,_=>exact qQ h0'
    |1,_=>exact qQ h1'
    |2,_=>exact qQ h2'
    |3,_=>
     show z*((-k*w0+h*w1)*w0*w1)=(-k*w0*w0*w1+h*w1*w1*w0)*z;grind
  .have h0':=e2 0 (by decide)
   have h1':=e2 1 (by decide);have h2':=e2 2 (by decide)
   match B,hB,zs,P.len with
   |[a,b,c,d],_,[x,y,t],_=>
    have h0':x*(h*w1-k*w0)=(h*x1-k*x0)*z:=h0';have h1':y*(h*w1-k*w0)=(h*y1-k*y0)*z:=h1';have h2':t*(h*w1-k*w0)=(h*t1-k*t0)*z:=h2';rw[vS]at eh ek;refine Kl b0' ?_;show dt [a,b,c,d] [x,y,t,z]*_=0;rw[vS];grind
theorem Ih{n:Nat}(hn:n=2\/n=3){W:AI}{v:PV}(hl:W.length=n+1)(S:aG){j:Nat}(hj:j<n+1):jO [.pv (PV.tup W),.pv (.int (j:Int)),.pv (v)] S=.ok (.pv (PV.tup (W.set j v))) S:=by
 have go:∀(L M R:AI)(a b:AJ),gW (PV.tup W) none (some (j:Int))=some (.tup L)->gW (PV.tup W) (some ((j:Int)+1)) none=some (.tup R)->L.length+1+R.length<=100->PV.tup (W.set j v)=.tup (L++[v]++R)->jO [.pv (PV.tup W),.pv (.int (j:Int)),.pv (v)] S=.ok (.pv (PV.tup (W.set j v))) S:=λL M R a b h1 h2 hz h3=>by
  have t1:oZ (.tup L) (.tup [v])=some (.tup (L++[v])):=by
   show(if L.length+1<=16777216 then some (PV.tup (L++[v]))else none)=_;rw[if_pos (by omega)]
  have t2:oZ (.tup (L++[v])) (.tup R)=some (.tup (L++[v]++R)):=by
   show(if(L++[v]).length+R.length<=16777216 then some (PV.tup (L++[v]++R))else none)=_;rw[if_pos (by rw[bi,ju];omega)]
  rw[h3];generalize (j:Int)=J,v=T,PV.tup W=P,L++[v]=U,L++[v]++R=V at *;unfold jO aS wO;simp! [aF,aY,aZ,aP,aL,aK,aM,aN,aE,aJ,cY,cX,cV,eL,h1,h2,t1,t2]
 rcases hn with rfl |rfl
 .match W,hl,j,hj with
  |[a,b,c],_,0,_=>exact go [] [] [b,c] none none rfl rfl (by simp) rfl
  |[a,b,c],_,1,_=>exact go [a] [] [c] none none rfl rfl (by simp) rfl
  |[a,b,c],_,2,_=>exact go [a,b] [] [] none none rfl rfl (by simp) rfl
 .match W,hl,j,hj with
  |[a,b,c,d],_,0,_=>exact go [] [] [b,c,d] none none rfl rfl (by simp) rfl
  |[a,b,c,d],_,1,_=>exact go [a] [] [c,d] none none rfl rfl (by simp) rfl
  |[a,b,c,d],_,2,_=>exact go [a,b] [] [d] none none rfl rfl (by simp) rfl
  |[a,b,c,d],_,3,_=>exact go [a,b,c] [] [] none none rfl rfl (by simp) rfl
theorem xM{i:Int}:∀{l:AA},i∈l->∃j,jI i l=some j/\l[j]?=some i
 |x::l,h=>by
  unfold jI
  by_cases c:x=i
  .exact⟨0,by rw[if_pos c],by simp[c]⟩
  .obtain⟨j,e1,e2⟩:=xM (l:=l) (by
    rcases ay.mp h with z |z
    .exact absurd z.symm c
    .exact z)
   exact⟨j+1,by rw[if_neg c,e1];rfl,by simpa using e2⟩
theorem En{l:AA}{M:Int}{i:Nat}(h:jI M l=some i)(S:aG):rA (.pv (tv l)) [.pv (.int M)] S=.ok (.pv (.int (i:Nat))) S:=by
 show(match dM (l.map .int)with |some is=>(match jI M is with |some j=>bI.ok (AV.pv (.int (j:Nat))) S |none=>.fail) |none=>.fail)=_
 rw[kD];dsimp only;rw[h]
theorem Oi{l:AA}(h:l≠[]):∃(M:Int)(i:Nat),nN [tv l]=some (.int M)/\(∀S,rA (.pv (tv l)) [.pv (.int M)] S=.ok (.pv (.int (i:Nat))) S)/\l[i]?=some M/\∀x∈l,x<=M:=by
 cases e:l.max? with
 |none=>exact absurd (List.max?_eq_none_iff.mp e) h
 |some M=>
  obtain⟨a,b⟩:=c7.mp e;obtain⟨i,e1,e2⟩:=xM a;refine⟨M,i,?_,En e1,e2,b⟩;show(dM (l.map .int)).bind (λbs=>bs.max?.map PV.int)=_;rw[kD];show l.max?.map PV.int=_;rw[e];rfl
theorem Vy{l:AA}(h:l≠[]):∃(M:Int)(i:Nat),rD [tv l]=some (.int M)/\(∀S,rA (.pv (tv l)) [.pv (.int M)] S=.ok (.pv (.int (i:Nat))) S)/\l[i]?=some M/\∀x∈l,M<=x:=by
 cases e:l.min? with
 |none=>exact absurd (List.min?_eq_none_iff.mp e) h
 |some M=>
  obtain⟨a,b⟩:=vq.mp e;obtain⟨i,e1,e2⟩:=xM a;refine⟨M,i,?_,En e1,e2,b⟩;show(dM (l.map .int)).bind (λbs=>bs.min?.map PV.int)=_;rw[kD];show l.min?.map PV.int=_;rw[e];rfl
theorem Ej(S:aG){n:Nat}{B:AA}(bB:∀x∈B,Bd 510 x):∀(C:AC)(x:AK),(∀c∈C,Gu n 530 c)->bT [] (gN 0) (aO qF [] (aB (aA 1) (aB (aA 0) aD))) (C.map tv) [x,some (.pv (tv B))] S=.ok ((C.map (dt B)).map .int) S
 |[],x,_=>dC
 |c::C,x,h=>by
  have e:=Cs S (zN S (A:=tv B) (B:=tv c) (us:=B) (vs:=c) (.inr rfl) (.inr rfl) (λx hx=>(bB x hx).mono (by decide)) (λx hx=>(Mn (h c (by simp)) x hx).mono (by decide)));have ih:=Ej S bB C (some (.pv (tv c))) (λd hd=>h d (bo _ hd));rw[ar,ar,ar,dG];generalize dt B c=DC,tv c=TC,tv B=TB at *;simp! [bA,aL,aK,aM,aN,aE,aJ,gN,e,ih]
theorem Xc{n:Nat}(S:aG){B:AA}(bB:∀x∈B,Bd 510 x){C:AC}(h:∀c∈C,Gu n 530 c):kB [.pv (px C),.pv (tv B)] S=.ok (.pv (tv (C.map (dt B)))) S:=by
 have e:=Ej S bB C none h;have hp:px C=.tup (C.map tv):=rfl;have hq:tv (C.map (dt B))=.tup ((C.map (dt B)).map .int):=rfl;rw[hp,hq];generalize tv B=TB,C.map tv=CL,(C.map (dt B)).map PV.int=HL at *;unfold kB aS wH;simp! [bA,aL,aK,aM,aN,aE,aJ,bF,cF,bO,cB,e]
theorem Xn{n:Nat}(hn:n=2\/n=3){B c:AA}(hB:B.length=n+1)(bB:∀x∈B,Bd 510 x)(g:Gu n 6 c):Bd 520 (dt B c):=by
 rcases hn with rfl |rfl
 .obtain⟨x,y,w,rfl,_,a,b,c⟩:=g.two'
  match B,hB,bB with
  |[d,e,f],_,bB=>
   rw[wA];exact((((bB d (by simp)).mul a).add ((bB e (by simp)).mul b)).add (((bB f (by simp)).mul c).mono (show 510+6<=510+6+1 by decide))).mono (by decide)
 .obtain⟨x,y,z,w,rfl,_,a,b,c,d⟩:=g.three'
  match B,hB,bB with
  |[e,f,g,h],_,bB=>
   rw[vS];exact(((((bB e (by simp)).mul a).add ((bB f (by simp)).mul b)).add (((bB g (by simp)).mul c).mono (show 510+6<=510+6+1 by decide))).add (((bB h (by simp)).mul d).mono (show 510+6<=510+6+1+1 by decide))).mono (by decide)
def Pk(n:Nat)(B:AA)(C:AC):Prop:=C.length=n+1/\(∀c∈C,Gu n 530 c/\(dt B c≠0->Gu n 6 c))/\Sx n 530 (bQ C)
def Px(n:Nat)(B:AA)(C:AC)(X:AD):Prop:=(∀D∈X,D.length=n+1/\(∀c∈D,Gu n 530 c)/\Sx n 530 (bQ D)/\((∀c∈D,0<=dt B c)\/∀c∈D,dt B c<=0))/\∀x,Gu n 1000 x->(∀D∈X,cU (bQ D) x≠0)->cU (bQ C) x≠0/\(X.map λD=>cU (bQ D) x).count 1=if cU (bQ C) x=1 then 1 else 0
def nS(B:AA)(C:AC):Nat:=C.countP λc=>dt B c !=0
theorem I0{n:Nat}(hn:n=2\/n=3){B:AA}{C:AC}(h:Pk n B C){i j:Nat}(hij:i≠j){p q m:AA}(hp:C[i]?=some p)(hq:C[j]?=some q){u v:Int}(hu:0<u)(hv:0<v)(hm:jX n u v p q m)(gm:Gu n 530 m)(m0:dt B m=0):Pk n B (C.set i m)/\Pk n B (C.set j m)/\∀X Y,Px n B (C.set i m) X->Px n B (C.set j m) Y->Px n B C (X++Y):=by
 obtain⟨hl,hg,sx⟩:=h;obtain⟨R,q0,q1,q2⟩:=Uu (m:=m) hij hp hq;have pm:(bQ C).Perm (p::q::R):=(qA (jT hn hl)).trans q0;obtain⟨lr,g0,g1,g2,c0,n0,n1,n2⟩:=Dj hn (am 530) (by decide) sx hu hv hm gm pm;have ll:∀a b:AA,(a::b::R).length=n+1:=λa b=>by simp only[ca];omega
 have c1:bQ (C.set i m)=bQ (m::q::R):=wJ q1 (jT hn (ll m q));have c2:bQ (C.set j m)=bQ (p::m::R):=wJ q2 (jT hn (ll p m));have st:∀k,∀c∈C.set k m,Gu n 530 c/\(dt B c≠0->Gu n 6 c):=λk c hc=>by
  rcases wl hc with z |z
  .exact hg c z
  .rw[z]
   exact⟨gm,λy=>absurd m0 y⟩
 refine⟨⟨by rw[dk,hl],st i,?_⟩,⟨by rw[dk,hl],st j,?_⟩,λX Y=>?_⟩
 .rw[c1]
  exact uJ hn (by decide) (ll m q) g1 n1
 .rw[c2]
  exact uJ hn (by decide) (ll p m) g2 n2
 .rintro⟨a1,a2⟩ ⟨b1,b2⟩
  refine⟨λD hD=>(bj.mp hD).elim (a1 D) (b1 D),λx gx hne=>?_⟩;obtain⟨k1,k2⟩:=a2 x gx λD hD=>hne D (iw _ hD);obtain⟨l1,l2⟩:=b2 x gx λD hD=>hne D (dj _ hD);obtain⟨f1,f2⟩:=Lz hn (am 530) (by decide) sx (X:=[bQ (C.set i m),bQ (C.set j m)]) (.inr ⟨p,q,m,R,u,v,hu,hv,hm,gm,pm,by rw[c1,c2]⟩) gx (λu hu=>by
   simp only[ay,de,or_false]at hu;rcases hu with rfl |rfl
   .exact k1
   .exact l1)
  refine⟨f1,?_⟩;rw[fh,rn,k2,l2,<-f2];simp only[ar,cg,kw,wn,beq_iff_eq];omega
theorem Gk{B:AA}{C:AC}{i j:Nat}(hij:i≠j){p q m:AA}(hp:C[i]?=some p)(hq:C[j]?=some q)(p0:dt B p≠0)(q0:dt B q≠0)(m0:dt B m=0):nS B (C.set i m)+1=nS B C/\0<nS B (C.set i m):=by
 have il:i<C.length:=(bf.mp hp).1;have hpi:C[i]=p:=(bf.mp hp).2;have e1:(C.set i m).Perm (m::C.eraseIdx i):=by
  have:=tD (L:=C.set i m) (i:=i) (x:=m) (dg il);rw[rm]at this;exact this
 have e2:C.Perm (p::C.eraseIdx i):=tD hp;unfold nS;refine⟨?_,?_⟩
 .rw[e1.countP_eq,e2.countP_eq,g7,g7]
  simp[m0,p0]
 .rw[List.countP_pos_iff]
  refine⟨q,db (i:=j) ?_,by simpa using q0⟩;rw[dq hij];exact hq
theorem Wh{S:aG}{L Y:AI}{ρ:bR}{m:ME}(hρ:ρ[5]?=some (some (.ref S.length)))(hm:m ρ (S++[.lst L])=.ok (.pv (.lst Y)) (S++[.lst L]))(hz:L.length+Y.length<=1000):kK 5 m ρ (S++[.lst L])=.nx ρ (S++[.lst (L++Y)]):=by
 unfold kK;rw[hρ];dsimp only;rw[hm];have h2:L.length+Y.length<=16777216:=by omega
 show vC S.length ρ (.pv (.lst Y)) (S++[.lst L])=_;unfold vC;simp[h2]
theorem Ka{f:FM}{ms:MA}{ρ:bR}{S S1 S2:aG}{xs:AL}{v:AV}(h:ms ρ S=.ok xs S1)(g:frz S1.length (fL (f xs S1))=.ok v S2):aO f [] ms ρ S=.ok v S2:=by
 unfold aO;rw[h];show frz S1.length (fL (f (xs++[]) S1))=_;rw[ib];exact g
theorem Kk{l:AA}{i:Nat}{x:Int}(h:l[i]?=some x):aF (tv l) (.int (i:Int))=some (.int x):=iJ (by rw[ci,h];rfl)
theorem Ek{C:AC}{i:Nat}{p:AA}(h:C[i]?=some p):aF (px C) (.int (i:Int))=some (tv p):=iJ (by rw[ci,h];rfl)
abbrev vJ:MA:=(aB (aO jO [] (aB (aA 0) (aB (aA 6) (aB (aA 4) aD)))) (aB (aO jO [] (aB (aA 1) (aB (aA 6) (aB (mC (.int 0)) aD)))) aD))
theorem Ji{n:Nat}(hn:n=2\/n=3){C:AC}{H:AA}(hl:C.length=n+1)(hH:H.length=n+1){m:AA}{i:Nat}(hi:i<n+1)(x2 x3 x5:AK)(S:aG):vJ [some (.pv (px C)),some (.pv (tv H)),x2,x3,some (.pv (tv m)),x5,some (.pv (.int (i:Int)))] S=.ok [.pv (px (C.set i m)),.pv (tv (H.set i 0))] S:=by
 have e1:=Ih hn (W:=C.map tv) (v:=tv m) (by rw[ai,hl]) S hi;have e2:=Ih hn (W:=H.map .int) (v:=.int 0) (by rw[ai,hH]) S hi;have k1:PV.tup ((C.map tv).set i (tv m))=px (C.set i m):=by
  show _=PV.tup ((C.set i m).map tv);rw[ng]
 have k2:PV.tup ((H.map PV.int).set i (.int 0))=tv (H.set i 0):=by
  show _=PV.tup ((H.set i 0).map PV.int);rw[ng]
 rw[k1]at e1;rw[k2]at e2;have hp:PV.tup (C.map tv)=px C:=rfl;have hq:PV.tup (H.map PV.int)=tv H:=rfl;rw[hp]at e1;rw[hq]at e2;generalize (i:Int)=I,tv m=M,tv H=T,px C=P,tv (H.set i 0)=T1,px (C.set i m)=P1 at *;unfold vJ;simp! [bA,aL,aK,aM,aN,aE,aJ,e1,e2]
theorem sT{n:Nat}(hn:n=2\/n=3){B:AA}(hB:B.length=n+1)(bB:∀x∈B,Bd 510 x){r:FM}{z:Nat}(z4:z<=3)(hr:0<z->∀(C:AC)(S:aG),Pk n B C->nS B C<=z->∃X:AD,frz S.length (fL (r [.pv (px C),.pv (tv (C.map (dt B)))] S))=.ok (.pv (.lst (X.map px))) S/\X.length<=2^z/\Px n B C X)(C:AC)(S:aG)(h:Pk n B C)(hz:nS B C<=z+1):∃X:AD,frz S.length (fL (aS 2 7 (iI r) [.pv (px C),.pv (tv (C.map (dt B)))] S))=.ok (.pv (.lst (X.map px))) S/\X.length<=2^(z+1)/\Px n B C X:=by
 have hl:=h.1;have hH:(C.map (dt B)).length=n+1:=by rw[ai,hl]
 have ne:C.map (dt B)≠[]:=λe=>by
  rw[e]at hH;simp at hH
 obtain⟨M,i,x1,x2,x3,x4⟩:=Oi ne;obtain⟨N,j,y1,y2,y3,y4⟩:=Vy ne;have fi:=Kk x3;have fj:=Kk y3;have x2:=x2 S;have y2:=y2 S;have ht:tv (C.map (dt B))=.tup ((C.map (dt B)).map .int):=rfl
 by_cases c:M<=0\/0<=N
 .refine⟨[C],?_,?_,?_,?_⟩
  .rw[ar,cg]
   rw[ht]at x1 x2 y1 y2 fi fj⊢;clear x3 x4 y3 y4;generalize (j:Int)=J,(i:Int)=I,px C=P,(C.map (dt B)).map PV.int=T at *;have hf:aS 2 7 (iI r) [.pv P,.pv (.tup T)] S=.ok (.pv (.lst [P])) S:=by
    unfold iI;apply lZ (v:=.pv (.lst [P])) (S':=S) rfl;apply sq;simp! [bA,aL,aK,aM,aN,aE,aJ,eR,mG,tupR,x1,x2];exact⟨rfl,rfl⟩;apply sq;simp! [bA,aL,aK,aM,aN,aE,aJ,mG,tupR,y1,y2];exact⟨rfl,rfl⟩;rw[aI]
    by_cases c1:M<=0
    .simp! [bA,aL,aK,aM,aN,aE,aJ,fi,c1]
    .have c2:0<=N:=c.resolve_left c1
     simp! [bA,aL,aK,aM,aN,aE,aJ,fi,fj,c1,c2]
    simp[gC]
   rw[hf];rfl
  .exact Nat.one_le_two_pow
  .intro D hD
   have:D=C:=by simpa using hD
   subst this;refine⟨hl,λc hc=>(h.2.1 c hc).1,h.2.2,?_⟩;rcases c with c |c
   .exact .inr λd hd=>Int.le_trans (x4 _ (ow hd)) c
   .exact .inl λd hd=>Int.le_trans c (y4 _ (ow hd))
  .intro x gx hne
   refine⟨hne C (by simp),?_⟩;simp[kw]
 .have M0:0<M:=by omega
  have N0:N<0:=by omega
  have il:i<n+1:=by
   have:=(bf.mp x3).1;omega
  have jl:j<n+1:=by
   have:=(bf.mp y3).1;omega
  have hij:i≠j:=λe=>by
   rw[e,y3]at x3;injection x3 with x3;omega
  obtain⟨p,hp,ep⟩:∃p,C[i]?=some p/\dt B p=M:=by
   rw[ci]at x3;cases e:C[i]? with
   |none=>rw[e]at x3;cases x3
   |some p=>rw[e]at x3;injection x3 with x3;exact⟨p,rfl,x3⟩
  obtain⟨q,hq,eq⟩:∃q,C[j]?=some q/\dt B q=N:=by
   rw[ci]at y3;cases e:C[j]? with
   |none=>rw[e]at y3;cases y3
   |some p=>rw[e]at y3;injection y3 with y3;exact⟨p,rfl,y3⟩
  have p0:dt B p≠0:=by omega
  have q0:dt B q≠0:=by omega
  have gp:=(h.2.1 p (db hp)).2 p0;have gq:=(h.2.1 q (db hq)).2 q0;obtain⟨m,u,v,em,hu,hv,hm,gm,m0⟩:=F5 hn hB gp gq M0 N0 (ep▸Xn hn hB bB gp) (eq▸Xn hn hB bB gq) ep eq;obtain⟨P1,P2,PX⟩:=I0 hn h hij hp hq hu hv hm gm m0;obtain⟨n1,n2⟩:=Gk hij hp hq p0 q0 m0;obtain⟨n3,n4⟩:=Gk (gi hij) hq hp q0 p0 m0;have s1:(C.set i m).map (dt B)=(C.map (dt B)).set i 0:=by rw[ng,m0]
  have s2:(C.set j m).map (dt B)=(C.map (dt B)).set j 0:=by rw[ng,m0]
  obtain⟨X,eX,lX,qX⟩:=hr (by omega) (C.set i m) (S++[.lst []]) P1 (by omega);obtain⟨Y,eY,lY,qY⟩:=hr (by omega) (C.set j m) (S++[.lst (X.map px)]) P2 (by omega);rw[s1]at eX;rw[s2]at eY;have b3:2^z<=8:=uo (by decide) z4;refine⟨X++Y,?_,by rw[bi,Nat.pow_succ];omega,PX X Y qX qY⟩;have a1:=λx2 x3 x5=>Ka (Ji hn hl hH il x2 x3 x5 (S++[.lst []])) eX;have a2:=λx2 x3 x5=>Ka (Ji hn hl hH jl x2 x3 x5 (S++[.lst (X.map px)])) eY;have g1:=λx2 x3=>Wh (S:=S) (L:=[]) (Y:=X.map px) rfl (a1 x2 x3 (some (.ref S.length))) (by simp;omega);have g2:=λx2 x3=>Wh (S:=S) (L:=X.map px) (Y:=Y.map px) rfl (a2 x2 x3 (some (.ref S.length))) (by simp;omega);have em:=em S;have fp:=Ek hp;have fq:=Ek hq;rw[fh];rw[ht]at x1 x2 y1 y2 fi fj⊢;simp only[ht]at g1 g2;clear x3 x4 y3 y4 eX eY a1 a2 s1 s2 hr PX P1 P2 qX qY;generalize (j:Int)=J,(i:Int)=I,tv q=TQ,tv p=TP,tv m=TM,px C=P,Y.map px=YL,X.map px=XL,(C.map (dt B)).map PV.int=T at *;have c1:¬M<=0:=by omega
  have c2:¬0<=N:=by omega
  have hf:aS 2 7 (iI r) [.pv P,.pv (.tup T)] S=.ok (.ref S.length) (S++[.lst (XL++YL)]):=by
   unfold iI;apply lZ rfl;apply sq;simp! [bA,aL,aK,aM,aN,aE,aJ,eR,mG,tupR,x1,x2];exact⟨rfl,rfl⟩;apply sq;simp! [bA,aL,aK,aM,aN,aE,aJ,mG,tupR,y1,y2];exact⟨rfl,rfl⟩;apply sq;simp! [bA,aL,aK,aM,aN,aE,aJ,fi,fj,c1,c2];exact⟨rfl,rfl⟩;apply sq;simp! [bA,aL,aK,aM,aN,aE,aJ,fi,fj,fp,fq,em];exact⟨rfl,rfl⟩;apply sq;simp! [bA,aL,aK,aM,aN,aE,aJ,dP,hV];exact⟨rfl,rfl⟩;refine sq (ρ':=[some (.pv P),some (.pv (.tup T)),some (.pv (.int I)),some (.pv (.int J)),some (.pv TM),some (.ref S.length),some (.pv (.int J))]) (S':=S++[.lst (XL++YL)]) ?_ ?_
   .have g1:=g1 (some (.pv (.int I))) (some (.pv (.int J)))
    have g2:=g2 (some (.pv (.int I))) (some (.pv (.int J)));have ab:(kK 5 (aO r [] (aB (aO jO [] (aB (aA 0) (aB (aA 6) (aB (aA 4) aD)))) (aB (aO jO [] (aB (aA 1) (aB (aA 6) (aB (mC (.int 0)) aD)))) aD))))=kK 5 (aO r [] vJ):=rfl;rw[ab];generalize kK 5 (aO r [] vJ)=AB at *;rw[dw]at g1;simp! [bA,aL,aK,aM,aN,aE,aJ,bZ,bO,cB,eK,fW,gN,g1,g2]
   .simp! [bA,aL,aK,aM,aN,aE,aJ];exact⟨rfl,rfl⟩
   simp[gC]
  rw[hf];simp[fL,frz]
theorem Ks{n:Nat}(hn:n=2\/n=3){B:AA}(hB:B.length=n+1)(bB:∀x∈B,Bd 510 x){C:AC}(S:aG)(h:Pk n B C):∃X:AD,frz S.length (fL (nC [.pv (px C),.pv (tv (C.map (dt B)))] S))=.ok (.pv (.lst (X.map px))) S/\X.length<=16/\Px n B C X:=by
 have e1:=sT hn hB bB (r:=wX) (z:=0) (by decide) (λz=>absurd z (gw 0));have e2:=sT hn hB bB (r:=wS) (z:=1) (by decide) (λ_=>e1);have e3:=sT hn hB bB (r:=wQ) (z:=2) (by decide) (λ_=>e2);have e4:=sT hn hB bB (r:=wV) (z:=3) (by decide) (λ_=>e3);refine e4 C S h ?_;have:=List.countP_le_length (l:=C) (p:=λc=>dt B c !=0);have hl:=h.1;unfold nS;omega
abbrev pN:MS:=(bP (aV (aC eD (mR nN (aB (aO kB [] (aB (aA 5) (aB (aA 1) aD))) aD)) (mC (.int 0)))) (cZ (cN (aA 2) (aB (kL kF [] (aB (aA 5) aD)) aD))) (cZ (cN (aA 3) (aB (kL kF [] (aB (aA 5) aD)) aD))))
abbrev rX:MS:=(bZ (bO (aO nC [] (aB (aA 4) (aB (aO kB [] (aB (aA 4) (aB (aA 1) aD))) aD)))) (gN 5) pN)
def Dk(n:Nat)(B:AA)(D:AC):Prop:=D.length=n+1/\(∀c∈D,Gu n 530 c)/\Sx n 530 (bQ D)/\((∀c∈D,0<=dt B c)\/∀c∈D,dt B c<=0)
theorem Wx{n:Nat}(hn:n=2\/n=3){B:AA}(bB:∀x∈B,Bd 510 x){D:AC}(hD:Dk n B D)(R:SO)(F G:AD)(hF:F.length<=1000)(hG:G.length<=1000)(x0 x4:AK):∃F' G':AD,pN [x0,some (.pv (tv B)),some (.ref 1),some (.ref 2),x4,some (.pv (px D))] [R,.lst (F.map px),.lst (G.map px)]=.nx [x0,some (.pv (tv B)),some (.ref 1),some (.ref 2),x4,some (.pv (px D))] [R,.lst ((F++F').map px),.lst ((G++G').map px)]/\F'++G'=[bQ D]/\(∀u∈F',∀c∈u,0<=dt B c)/\∀u∈G',∀c∈u,dt B c<=0:=by
 obtain⟨hl,hg,sx,sd⟩:=hD;have hpm:=qA (jT hn hl);have nz:dU D≠0:=λz=>by
  have:=oO hn (by decide) hl hg;rw[z]at this;exact sx.nz this
 have es:=λS=>Vq hn (A:=px D) (uss:=D) S hl (λu hu=>(hg u hu).mono (by decide)) (.inr rfl) (by
  rw[qS hn (by decide) hl hg];exact λz=>nz (Fi.mp z))
 have es:∀S,kF [.pv (px D)] S=.ok (.pv (px (bQ D))) S:=es;have eh:=λS=>Xc (n:=n) S bB hg;have ne:D.map (dt B)≠[]:=λe=>by
  have:=congrArg km e;rw[ai,hl]at this;simp at this
 obtain⟨M,i,x1,_,x3,xm⟩:=Oi ne;have lF:(F.map px).length<16777216:=by rw[ai];omega
 have lG:(G.map px).length<16777216:=by rw[ai];omega
 by_cases c:0<M
 .refine⟨[bQ D],[],?_,by simp,λu hu e he=>?_,λu hu=>absurd hu de⟩
  .rw[fh,ib,ar,cg]
   generalize tv B=TB,tv (D.map (dt B))=TH,G.map px=GL,F.map px=FL,px D=PD,px (bQ D)=PC at *;unfold pN;simp! [bA,aL,aK,aM,aN,aE,aJ,eh,x1,c,es,cN,dR,fM,lF]
  .have:u=bQ D:=by simpa using hu
   subst this;have he:=hpm.mem_iff.mp he;rcases sd with sd |sd
   .exact sd e he
   .have:M∈D.map (dt B):=db x3
    obtain⟨d,hd,ed⟩:=gg.mp this;have:=sd d hd;omega
 .refine⟨[],[bQ D],?_,by simp,λu hu=>absurd hu de,λu hu e he=>?_⟩
  .rw[ib,fh,ar,cg]
   generalize tv B=TB,tv (D.map (dt B))=TH,G.map px=GL,F.map px=FL,px D=PD,px (bQ D)=PC at *;unfold pN;simp! [bA,aL,aK,aM,aN,aE,aJ,eh,x1,c,es,cN,dR,fM,lG]
  .have:u=bQ D:=by simpa using hu
   subst this;have he:=hpm.mem_iff.mp he;have:=xm _ (ow (f:=dt B) he);omega
theorem Fj{n:Nat}(hn:n=2\/n=3){B:AA}(bB:∀x∈B,Bd 510 x)(R:SO)(x0 x4:AK):∀(X F G:AD)(x5:AK),(∀D∈X,Dk n B D)->F.length+G.length+X.length<=1000->∃(F' G':AD)(y5:AK),dE [] (gN 5) pN (X.map px) [x0,some (.pv (tv B)),some (.ref 1),some (.ref 2),x4,x5] [R,.lst (F.map px),.lst (G.map px)]=.nx [x0,some (.pv (tv B)),some (.ref 1),some (.ref 2),x4,y5] [R,.lst ((F++F').map px),.lst ((G++G').map px)]/\(F'++G').Perm (X.map bQ)/\(∀u∈F',∀c∈u,0<=dt B c)/\∀u∈G',∀c∈u,dt B c<=0
 |[],F,G,x5,_,_=>⟨[],[],x5,by rw[ib,ib];exact fW,.nil,λu hu=>absurd hu de,λu hu=>absurd hu de⟩
 |D::X,F,G,x5,h,hl=>by
  simp only[ca]at hl;obtain⟨F1,G1,e1,p1,a1,b1⟩:=Wx hn bB (h D (by simp)) R F G (by omega) (by omega) x0 x4;have l1:F1.length+G1.length=1:=by rw[<-bi,p1];rfl
  obtain⟨F2,G2,y5,e2,p2,a2,b2⟩:=Fj hn bB R x0 x4 X (F++F1) (G++G1) (some (.pv (px D))) (λE hE=>h E (bo _ hE)) (by simp only[bi];omega);refine⟨F1++F2,G1++G2,y5,?_,?_,λu hu=>(bj.mp hu).elim (a1 u) (a2 u),λu hu=>(bj.mp hu).elim (b1 u) (b2 u)⟩
  .rw[ar,eK]
   simp only[gN,ff,cx];rw[e1];rw[ie,ie]at e2;exact e2
  .have q:(F1++F2++(G1++G2)).Perm (F1++G1++(F2++G2)):=by
    rw[ie,ie];refine List.Perm.append_left F1 ?_;rw[<-ie,<-ie];exact List.Perm.append_right G2 List.perm_append_comm
   refine q.trans ?_;rw[p1,ar];exact p2.cons _
def Ct(n:Nat)(B:AA)(hs F G:AD):Prop:=(∀u∈F,Sx n 530 u/\∀c∈u,0<=dt B c)/\(∀u∈G,Sx n 530 u/\∀c∈u,dt B c<=0)/\∀x,Gu n 1000 x->(∀v∈F,cU v x≠0)->(∀v∈G,cU v x≠0)->(hs.map λu=>cU u x).count 1=(F.map λu=>cU u x).count 1+(G.map λu=>cU u x).count 1
theorem Du{n:Nat}(hn:n=2\/n=3){B:AA}(hB:B.length=n+1)(bB:∀x∈B,Bd 510 x)(R:SO)(x0 x5:AK){u:AC}(h:Sx n 6 u)(F G:AD)(hl:F.length+G.length<=900):∃(F' G':AD)(y5:AK),rX [x0,some (.pv (tv B)),some (.ref 1),some (.ref 2),some (.pv (px u)),x5] [R,.lst (F.map px),.lst (G.map px)]=.nx [x0,some (.pv (tv B)),some (.ref 1),some (.ref 2),some (.pv (px u)),y5] [R,.lst ((F++F').map px),.lst ((G++G').map px)]/\Ct n B [u] F' G'/\F'.length+G'.length<=16:=by
 have g6:=h.gu;have g5:∀c∈u,Gu n 530 c:=λc hc=>(g6 c hc).mono (by decide);have pk:Pk n B u:=⟨h.len,λc hc=>⟨g5 c hc,λ_=>g6 c hc⟩,by rw[h.cn];exact h.mono (by decide)⟩;obtain⟨X,eX,lX,q1,q2⟩:=Ks hn hB bB [R,.lst (F.map px),.lst (G.map px)] pk;obtain⟨F1,G1,y5,e1,p1,a1,b1⟩:=Fj hn bB R x0 (some (.pv (px u))) X F G x5 q1 (by omega);have hx:∀v∈F1++G1,Sx n 530 v:=λv hv=>by
  obtain⟨D,hD,rfl⟩:=gg.mp (p1.mem_iff.mp hv);exact(q1 D hD).2.2.1
 refine⟨F1,G1,y5,?_,⟨λv hv=>⟨hx v (iw _ hv),a1 v hv⟩,λv hv=>⟨hx v (dj _ hv),b1 v hv⟩,λx gx n1 n2=>?_⟩,?_⟩
 .have eh:=Xc (n:=n) [R,.lst (F.map px),.lst (G.map px)] bB g5
  have c1:(aO nC [] (aB (aA 4) (aB (aO kB [] (aB (aA 4) (aB (aA 1) aD))) aD))) [x0,some (.pv (tv B)),some (.ref 1),some (.ref 2),some (.pv (px u)),x5] [R,.lst (F.map px),.lst (G.map px)]=.ok (.pv (.lst (X.map px))) [R,.lst (F.map px),.lst (G.map px)]:=by
   refine Ka (xs:=[.pv (px u),.pv (tv (u.map (dt B)))]) (S1:=[R,.lst (F.map px),.lst (G.map px)]) ?_ eX;clear eX e1;generalize G.map px=GL,F.map px=FL,px u=PU,tv B=TB,tv (u.map (dt B))=TH at *;simp! [bA,aL,aK,aM,aN,aE,aJ,eh]
  clear eX eh;unfold rX;generalize px u=PU,tv B=TB,G.map px=GL,F.map px=FL,(G++G1).map px=GL1,(F++F1).map px=FL1,X.map px=XL,(aO nC [] (aB (aA 4) (aB (aO kB [] (aB (aA 4) (aB (aA 1) aD))) aD)))=MC,pN=CB at *;simp! [bA,aL,aK,aM,aN,aE,aJ,bZ,bO,cB,c1,e1]
 .have k:=(q2 x gx λD hD=>by
   have:bQ D∈F1++G1:=p1.mem_iff.mpr (ow hD);rcases bj.mp this with z |z
   .exact n1 _ z
   .exact n2 _ z).2
  rw[h.cn]at k;have k2:(X.map λD=>cU (bQ D) x)=(X.map bQ).map λu=>cU u x:=by rw[ix];rfl
  rw[k2,<-(p1.map _).count_eq,fh,rn]at k;rw[k];simp[kw]
 .rw[<-bi,p1.length_eq,ai]
  exact lX
theorem Mf{n:Nat}(hn:n=2\/n=3){B:AA}(hB:B.length=n+1)(bB:∀x∈B,Bd 510 x)(R:SO)(x0:AK):∀(hs F G:AD)(x4 x5:AK),(∀u∈hs,Sx n 6 u)->F.length+G.length+16*hs.length<=900->∃(F' G':AD)(y4 y5:AK),dE [] (gN 4) rX (hs.map px) [x0,some (.pv (tv B)),some (.ref 1),some (.ref 2),x4,x5] [R,.lst (F.map px),.lst (G.map px)]=.nx [x0,some (.pv (tv B)),some (.ref 1),some (.ref 2),y4,y5] [R,.lst ((F++F').map px),.lst ((G++G').map px)]/\Ct n B hs F' G'
 |[],F,G,x4,x5,_,_=>⟨[],[],x4,x5,by rw[ib,ib];exact fW,λu hu=>absurd hu de,λu hu=>absurd hu de,λ_ _ _ _=>rfl⟩
 |u::hs,F,G,x4,x5,h,hl=>by
  simp only[ca]at hl;obtain⟨F1,G1,y5,e1,⟨a1,b1,c1⟩,l1⟩:=Du hn hB bB R x0 x5 (h u (by simp)) F G (by omega);obtain⟨F2,G2,z4,z5,e2,a2,b2,c2⟩:=Mf hn hB bB R x0 hs (F++F1) (G++G1) (some (.pv (px u))) y5 (λE hE=>h E (bo _ hE)) (by simp only[bi];omega);refine⟨F1++F2,G1++G2,z4,z5,?_,λv hv=>(bj.mp hv).elim (a1 v) (a2 v),λv hv=>(bj.mp hv).elim (b1 v) (b2 v),λx gx n1 n2=>?_⟩
  .rw[ar,eK]
   simp only[gN,ff,cx];rw[e1];rw[ie,ie]at e2;exact e2
  .have k1:=c1 x gx (λv hv=>n1 v (iw _ hv)) (λv hv=>n2 v (iw _ hv))
   have k2:=c2 x gx (λv hv=>n1 v (dj _ hv)) (λv hv=>n2 v (dj _ hv));rw[ar,cg]at k1;rw[ar,fh,fh,rn,rn,kw];rw[kw,wn]at k1;omega
theorem B0{n:Nat}(hn:n=2\/n=3){B:AA}(hB:B.length=n+1)(bB:∀x∈B,Bd 510 x)(R:SO){A:PV}{hs:AD}(hA:Sv A (hs.map px))(h:∀u∈hs,Sx n 6 u)(hl:hs.length<=50):∃F G:AD,rE [.pv A,.pv (tv B)] [R]=.ok (.pv (.tup [.tup (F.map px),.tup (G.map px)])) [R]/\Ct n B hs F G:=by
 obtain⟨F,G,y4,y5,e,ct⟩:=Mf hn hB bB R (some (.pv A)) hs [] [] none none h (by simp;omega);refine⟨F,G,?_,ct⟩;simp only[dw,cg]at e;clear ct;have hb:zV=(aI (aR 2 (dP aD)) (aI (aR 3 (dP aD)) (aI (bZ (bO (aA 0)) (gN 4) rX) (bE (mN iV (aB (mR fK (aB (aA 2) aD)) (aB (mR fK (aB (aA 3) aD)) aD))))))):=rfl;unfold rE;rw[hb];generalize tv B=TB,hs.map px=HL,G.map px=GL,F.map px=FL,rX=CB at *;apply lZ (v:=.pv (.tup [.tup FL,.tup GL])) (S':=[R,.lst FL,.lst GL]) rfl
 .apply sq;simp! [bA,aL,aK,aM,aN,aE,aJ,eR,dP,hV];exact⟨rfl,rfl⟩
  apply sq;simp! [bA,aL,aK,aM,aN,aE,aJ,dP,hV];exact⟨rfl,rfl⟩;refine sq (ρ':=[some (.pv A),some (.pv TB),some (.ref 1),some (.ref 2),y4,y5]) (S':=[R,.lst FL,.lst GL]) ?_ ?_
  .rcases hA with rfl |rfl<;>simp! [bA,aL,aK,aM,aN,aE,aJ,bZ,bO,cB,e]
  .simp! [bA,aL,aK,aM,aN,aE,aJ]
 .simp[gC]
theorem F7{n k:Nat}{hs:AD}(h:∀u∈hs,Sx n k u)(h0:0<hs.length)(h9:hs.length<=90)(n9:n<=9)(ns:AA)(T:AC)(hT:T.length<=90)(x2 x4 x5 x6 x7:AK):∃(p:AA)(ns':AA)(y5:AK),jW [some (.ref 0),some (.pv (.lst (hs.map px))),x2,some (.ref 1),x4,x5,x6,x7] [.lst (li ns),.lst (T.map tv)]=.nx [some (.ref 0),some (.pv (.lst (hs.map px))),x2,some (.ref 1),x4,y5,x6,x7] [.lst (li ns'),.lst ((T++[p]).map tv)]/\Gu n k p:=by
 obtain⟨i,n1,e1,il⟩:=vU (ns:=ns) (L:=hs.map px) (T:=[.lst (T.map tv)]) (k:=0) (by simp;omega) (by simp;omega);rw[ot]at e1 il;rw[ai]at il;have i1:aF (.lst (hs.map px)) (.int (i:Int))=some (px hs[i]):=iJ (by rw[ci,aw il];rfl);have su:=h _ (du il);obtain⟨j,n2,e2,jl⟩:=vU (ns:=n1) (L:=(hs[i]).map tv) (T:=[.lst (T.map tv)]) (k:=0) (by rw[ai,su.len];omega) (by rw[ai,su.len];omega);rw[ot]at e2 jl;rw[ai]at jl;have i2:aF (.tup ((hs[i]).map tv)) (.int (j:Int))=some (tv (hs[i])[j]):=iJ (by rw[ci,aw jl];rfl);refine⟨(hs[i])[j],n2,some (.pv (px hs[i])),?_,su.gu _ (du jl)⟩;have lz:(T.map tv).length<16777216:=by rw[ai];omega
 have ep:(T++[(hs[i])[j]]).map tv=T.map tv++[tv (hs[i])[j]]:=by simp
 have hp:px hs[i]=.tup ((hs[i]).map tv):=rfl;rw[ep];rw[hp]at i1⊢;clear h su ep hp;generalize T.map tv=TL,hs.map px=HL,(hs[i]).map tv=UL,tv (hs[i])[j]=TP at *;unfold jW;simp! [bA,aL,aK,aM,aN,aE,aJ,e1,i1,e2,i2,cN,dR,fM,lz]
abbrev kA:MS:=(bP (fU (aV (aC cP (mR cT (aB (aA 1) aD)) (mC (.int 0)))) (aV (aC cP (aO cM [] (aB (aA 0) (aB (mC (.int 4)) aD))) (mC (.int 3))))) (cZ (cN (aA 3) (aB (aO lS [] (aB (aA 0) (aB (aA 2) aD))) aD))) jW)
theorem zU{n:Nat}(hn:n=2\/n=3)(ns:AA)(T:aG):∃(p ns':AA),lS [.ref 0,.pv (.int (n:Int))] (.lst (li ns)::T)=.ok (.pv (tv p)) (.lst (li ns')::T)/\Gu n 100 p:=by
 obtain⟨v,n1,e,xs,w,rfl,P⟩:=Z4 n hn (show dY (.lst (li ns)::T) 0 ns from rfl);exact⟨xs++[w],n1,e,xs,w,rfl,P⟩
theorem Yw{n k:Nat}(hn:n=2\/n=3)(hk:k<=100){hs:AD}(h:∀u∈hs,Sx n k u)(h9:hs.length<=90)(ns:AA)(T:AC)(hT:T.length<=90)(x4 x5 x6 x7:AK):∃(p:AA)(ns':AA)(y5:AK),kA [some (.ref 0),some (.pv (.lst (hs.map px))),some (.pv (.int (n:Int))),some (.ref 1),x4,x5,x6,x7] [.lst (li ns),.lst (T.map tv)]=.nx [some (.ref 0),some (.pv (.lst (hs.map px))),some (.pv (.int (n:Int))),some (.ref 1),x4,y5,x6,x7] [.lst (li ns'),.lst ((T++[p]).map tv)]/\Gu n 100 p:=by
 have lz:(T.map tv).length<16777216:=by rw[ai];omega
 have ep:∀p,(T++[p]).map tv=T.map tv++[tv p]:=λp=>by simp
 by_cases c:hs.length=0
 .obtain⟨p,n1,e1,g⟩:=zU hn ns [.lst (T.map tv)]
  refine⟨p,n1,x5,?_,g⟩;have z:(((hs.map px).length:Int)==0)=true:=by rw[ai,c];rfl
  rw[ep];generalize (n:Int)=N,tv p=TP,T.map tv=TL,hs.map px=HL at *;unfold kA;generalize jW=AB at *;simp! [bA,aL,aK,aM,aN,aE,aJ,z,e1,cN,dR,fM,lz]
 .have z:(((hs.map px).length:Int)==0)=false:=by rw[ai];exact beq_false_of_ne (by omega)
  obtain⟨t,n0,e0,t0,t1,_⟩:=hJ (m:=4) (show dY [.lst (li ns),.lst (T.map tv)] 0 ns from rfl) (by decide) (gS (by decide) (by decide));have e0:cM [.ref 0,.pv (.int 4)] [.lst (li ns),.lst (T.map tv)]=.ok (.pv (.int t)) [.lst (li n0),.lst (T.map tv)]:=e0
  by_cases c3:t=3
  .obtain⟨p,n1,e1,g⟩:=zU hn n0 [.lst (T.map tv)]
   refine⟨p,n1,x5,?_,g⟩;subst c3;rw[ep];generalize (n:Int)=N,tv p=TP,T.map tv=TL,hs.map px=HL at *;unfold kA;generalize jW=AB at *;simp! [bA,aL,aK,aM,aN,aE,aJ,z,e0,e1,cN,dR,fM,lz]
  .obtain⟨p,n1,y5,e1,g⟩:=F7 h (by omega) h9 (by omega) n0 T hT (some (.pv (.int (n:Int)))) x4 x5 x6 x7
   refine⟨p,n1,y5,?_,g.mono hk⟩;have z3:(t==3)=false:=beq_false_of_ne c3;generalize (n:Int)=N,T.map tv=TL,(T++[p]).map tv=TL1,hs.map px=HL at *;unfold kA;generalize jW=AB at *;simp! [bA,aL,aK,aM,aN,aE,aJ,z,e0,z3,c3,e1]
theorem Qi{n k:Nat}(hn:n=2\/n=3)(hk:k<=100){hs:AD}(h:∀u∈hs,Sx n k u)(h9:hs.length<=90)(x6 x7:AK):∀(is:AI)(T:AC)(ns:AA)(x4 x5:AK),(∀p∈T,Gu n 100 p)->T.length+is.length<=9->∃(T':AC)(ns':AA)(y4 y5:AK),dE [] (gN 4) kA is [some (.ref 0),some (.pv (.lst (hs.map px))),some (.pv (.int (n:Int))),some (.ref 1),x4,x5,x6,x7] [.lst (li ns),.lst (T.map tv)]=.nx [some (.ref 0),some (.pv (.lst (hs.map px))),some (.pv (.int (n:Int))),some (.ref 1),y4,y5,x6,x7] [.lst (li ns'),.lst (T'.map tv)]/\T'.length=T.length+is.length/\∀p∈T',Gu n 100 p
 |[],T,ns,x4,x5,hT,_=>⟨T,ns,x4,x5,fW,rfl,hT⟩
 |i::is,T,ns,x4,x5,hT,hl=>by
  simp only[ca]at hl;obtain⟨p,n1,y5,e1,g⟩:=Yw hn hk h h9 ns T (by omega) (some (.pv i)) x5 x6 x7;obtain⟨T',n2,z4,z5,e2,l2,g2⟩:=Qi hn hk h h9 x6 x7 is (T++[p]) n1 (some (.pv i)) y5 (λq hq=>by
   rcases bj.mp hq with z |z
   .exact hT q z
   .rw[i4.mp z];exact g) (by simp only[bi,ca,i5];omega)
  refine⟨T',n2,z4,z5,?_,by rw[l2];simp only[bi,ca,i5];omega,g2⟩;rw[eK];simp only[gN,ff,cx];rw[e1];exact e2
theorem Sr{n k:Nat}(hn:n=2\/n=3)(hk:k<=100){hs:AD}(h:∀u∈hs,Sx n k u)(h9:hs.length<=90)(ns:AA):∃(B ns':AA),oC [.ref 0,.pv (.lst (hs.map px)),.pv (.int (n:Int))] [.lst (li ns)]=.ok (.pv (tv B)) [.lst (li ns')]/\B.length=n+1/\∀x∈B,Bd 510 x:=by
 obtain⟨T,n1,y4,y5,e1,l1,g1⟩:=Qi hn hk h h9 none none (cG 0 n) [] ns none none (by simp) (by unfold cG;simp;omega);have l1:T.length=n:=by rw[l1];unfold cG;simp
 obtain⟨B,e2,hB,bB⟩:=M5 hn l1 g1;have e2:=e2 [.lst (li n1),.lst (T.map tv)] 1 rfl;obtain⟨t,n3,e3,t0,t1,_⟩:=hJ (m:=2) (show dY [.lst (li n1),.lst (T.map tv)] 0 n1 from rfl) (by decide) (gS (by decide) (by decide));have e3:cM [.ref 0,.pv (.int 2)] [.lst (li n1),.lst (T.map tv)]=.ok (.pv (.int t)) [.lst (li n3),.lst (T.map tv)]:=e3;obtain⟨DI,w,rfl⟩:∃DI w,B=DI++[w]:=⟨B.dropLast,B.getLast (λe=>by rw[e]at hB;simp at hB),(List.dropLast_concat_getLast _).symm⟩;have sI:=tE DI w;have fA:=Iv DI;have rg:=jL [.lst (li ns),.lst []] (n:=n) (by omega);have hb:wE=(aI (aR 3 (dP aD)) (aI (bZ (bY (aB (aA 2) aD)) (gN 4) kA) (aI (aR 6 (aO lE [] (aB (aA 3) aD))) (aI (bP (aV (mR nQ (aB (cY (aA 6) cX (cV (bJ cJ (mC (.int 1))))) aD))) (bE (aA 6)) cO) (aI (aR 7 (aC aE (mN eA (aB (mC (.int 1)) aD)) (aC pH (mN eA (aB (mC (.int 0)) aD)) (aC dH (aA 2) (mC (.int 1)))))) (bE (mR fK (aB (aC aE (aA 7) (mN eA (aB (aC dH (mC (.int 0)) (aO cM [] (aB (aA 0) (aB (mC (.int 2)) aD)))) aD))) aD)))))))):=rfl;obtain⟨rl,L,b1,b2,b5,b3,b4⟩:∃(rl:AI)(L:AA),pH (.lst [.int 0]) (.int (n-1:Int))=some (.lst rl)/\L.map PV.int=.int 1::rl/\1+rl.length<=16777216/\L.length=n/\∀x∈L,x=0\/x=1:=by
  rcases hn with rfl |rfl
  .refine⟨[.int 0],[1,0],?_,rfl,by decide,rfl,by simp⟩
   rw[yI,if_pos ⟨by decide,by decide,by decide⟩];rfl
  .refine⟨[.int 0,.int 0],[1,0,0],?_,rfl,by decide,rfl,by simp⟩
   rw[yI,if_pos ⟨by decide,by decide,by decide⟩];rfl
 have tF:(bZ (bY (aB (aA 2) aD)) (gN 4) kA) [some (.ref 0),some (.pv (.lst (hs.map px))),some (.pv (.int (n:Int))),some (.ref 1),none,none,none,none] [.lst (li ns),.lst []]=.nx [some (.ref 0),some (.pv (.lst (hs.map px))),some (.pv (.int (n:Int))),some (.ref 1),y4,y5,none,none] [.lst (li n1),.lst (T.map tv)]:=by
  rw[cg]at e1;generalize (n:Int)=N,cG 0 n=IP,T.map tv=TL,hs.map px=HL,kA=SB at *;simp! [bA,aL,aK,aM,aN,aE,aJ,bZ,bY,rg,e1]
 have et:tv (DI++[w])=.tup ((DI++[w]).map .int):=rfl
 by_cases c:DI.any (· !=0)=true
 .refine⟨DI++[w],n1,?_,hB,bB⟩
  rw[c]at fA;rw[et]at e2⊢;clear h g1 e1 rg;unfold oC;rw[hb];generalize (n:Int)=N,DI.map PV.int=DIL,(DI++[w]).map PV.int=DL,T.map tv=TL,hs.map px=HL,kA=SB at *;apply lZ (v:=.pv (.tup DL)) (S':=[.lst (li n1),.lst TL]) rfl
  .apply sq;simp! [bA,aL,aK,aM,aN,aE,aJ,eR,dP,hV];exact⟨rfl,rfl⟩
   refine sq tF ?_;apply sq;simp! [bA,aL,aK,aM,aN,aE,aJ,e2];exact⟨rfl,rfl⟩;rw[aI];simp! [bA,aL,aK,aM,aN,aE,aJ,cY,cX,cV,eL,sI,fA]
  .simp[gC]
 .have c:DI.any (· !=0)=false:=by simpa using c
  refine⟨L++[0-t],n3,?_,by simp[b3],λx hx=>?_⟩
  .rw[c]at fA
   rw[et]at e2;have lz:rl.length+1+1<=16777216:=by
    have:=congrArg km b2;rw[ai,b3,ca]at this;omega
   show _=bI.ok (AV.pv (.tup ((L++[0-t]).map .int))) _;rw[fh,ar,cg,b2];have s1:dH (.int (n:Int)) (.int 1)=some (.int (n-1:Int)):=rfl;clear h g1 e1 rg;unfold oC;rw[hb];generalize (n:Int)=N,(n-1:Int)=N1,DI.map PV.int=DIL,(DI++[w]).map PV.int=DL,T.map tv=TL,hs.map px=HL,kA=SB at *;apply lZ (v:=.pv (.tup (.int 1::rl++[.int (0-t)]))) (S':=[.lst (li n3),.lst TL]) rfl
   .apply sq;simp! [bA,aL,aK,aM,aN,aE,aJ,eR,dP,hV];exact⟨rfl,rfl⟩
    refine sq tF ?_;apply sq;simp! [bA,aL,aK,aM,aN,aE,aJ,e2];exact⟨rfl,rfl⟩;apply sq;simp! [bA,aL,aK,aM,aN,aE,aJ,cY,cX,cV,eL,sI,fA];exact⟨rfl,rfl⟩;apply sq;simp! [bA,aL,aK,aM,aN,aE,aJ,s1,b1,b5];exact⟨rfl,rfl⟩;simp! [bA,aL,aK,aM,aN,aE,aJ,e3,lz]
   .simp[gC]
  .rcases bj.mp hx with z |z
   .rcases b4 x z with rfl |rfl
    .exact(Bd.of (k:=7) (n:=1) (by decide) (by decide)).mono (by decide)
    .exact(Bd.of (k:=7) (n:=1) (by decide) (by decide)).mono (by decide)
   .rw[i4.mp z]
    exact(Bd.of (k:=7) (n:=3) (by omega) (by decide)).mono (by decide)
theorem Vh{n k:Nat}(hn:n=2\/n=3)(hk:k<=1000){p:AA}(g:Gu n 1000 p)(S:aG):∀(hs:AD)(x:AK),(∀u∈hs,Sx n k u)->bT [] (gN 0) (aO qG [] (aB (aA 0) (aB (aA 1) aD))) (hs.map px) [x,some (.pv (tv p))] S=.ok ((hs.map λu=>cU u p).map .int) S
 |[],x,_=>dC
 |u::hs,x,h=>by
  have e:=Nu hn hk (h u (by simp)) g S;have ih:=Vh hn hk g S hs (some (.pv (px u))) (λv hv=>h v (bo _ hv));rw[ar,ar,ar,dG];generalize cU u p=su,px u=PU,tv p=TP at *;simp! [bA,aL,aK,aM,aN,aE,aJ,gN,e,ih]
theorem Wp{n k:Nat}(hn:n=2\/n=3)(hk:k<=1000){p:AA}(g:Gu n 1000 p)(S:aG){A:PV}{hs:AD}(hA:Sv A (hs.map px))(h:∀u∈hs,Sx n k u):
  gF [.pv A,.pv (tv p)] S=.ok (.pv .non) S\/((∀u∈hs,cU u p≠0)/\gF [.pv A,.pv (tv p)] S=.ok (.pv (.int ((hs.map λu=>cU u p).count 1:Nat))) S):=by
 have e:=Vh hn hk g S hs none h;have i0:nW false (.int 0) (.lst ((hs.map λu=>cU u p).map .int))=some (.bl ((hs.map λu=>cU u p).any (· ==0))):=by
  show(dM ((hs.map λu=>cU u p).map .int)).map _=_;rw[kD];rfl
 have i1:∀S:aG,Aa (.pv (.lst ((hs.map λu=>cU u p).map .int))) [.pv (.int 1)] S=.ok (.pv (.int ((hs.map λu=>cU u p).count 1:Nat))) S:=λS=>by
  show(match dM ((hs.map λu=>cU u p).map PV.int)with |some is=>bI.ok (AV.pv (.int (is.count 1:Nat))) S |none=>.fail)=_
  rw[kD]
 by_cases c:(hs.map λu=>cU u p).any (· ==0)=true
 .left
  rw[c]at i0;generalize tv p=TP,hs.map px=HL,(hs.map λu=>cU u p).map PV.int=PL at *;unfold gF aS sG;rcases hA with rfl |rfl<;>simp! [bA,aL,aK,aM,aN,aE,aJ,bF,cF,bO,cB,e,i0]
 .right
  have c:(hs.map λu=>cU u p).any (· ==0)=false:=by simpa using c
  refine⟨λu hu z=>?_,?_⟩
  .rw[xi]at c
   exact c (cU u p) (ow hu) (by simp[z])
  .rw[c]at i0
   generalize tv p=TP,hs.map px=HL,(hs.map λu=>cU u p).map PV.int=PL,(((hs.map λu=>cU u p).count 1:Nat):Int)=K at *;unfold gF aS sG;rcases hA with rfl |rfl<;>simp! [bA,aL,aK,aM,aN,aE,aJ,bF,cF,bO,cB,e,i0,uP,Ra,i1]
theorem Xi:∀(L:AA)(f:Int),dJ L f=1->f=1/\∀s∈L,0<s
 |[],f,h=>⟨h,λ_ h=>absurd h de⟩
 |s::L,f,h=>by
  have h:(if s<0 then-1 else dJ L (if s=0 then 0 else f))=1:=h
  by_cases c:s<0
  .rw[if_pos c]at h
   cases h
  .rw[if_neg c]at h
   obtain⟨a,b⟩:=Xi L _ h
   by_cases z:s=0
   .rw[if_pos z]at a
    cases a
   .rw[if_neg z]at a
    refine⟨a,λt ht=>?_⟩;rcases ay.mp ht with rfl |ht
    .omega
    .exact b t ht
theorem D4{x:Int}(h:0<sg x):0<x:=by
 rcases vY x with⟨a,b⟩|⟨a,b⟩|⟨a,b⟩<;>omega
theorem aag(a b c x0 y0 w0 x1 y1 w1 x2 y2 w2 x y w:Int):D2 x y w x1 y1 w1 x2 y2 w2*(a*x0+b*y0+c*w0)+D2 x0 y0 w0 x y w x2 y2 w2*(a*x1+b*y1+c*w1)+D2 x0 y0 w0 x1 y1 w1 x y w*(a*x2+b*y2+c*w2)=D2 x0 y0 w0 x1 y1 w1 x2 y2 w2*(a*x+b*y+c*w):=by
 unfold D2;grind
theorem aab(a b c d x0 y0 z0 w0 x1 y1 z1 w1 x2 y2 z2 w2 x3 y3 z3 w3 x y z w:Int):D3 x y z w x1 y1 z1 w1 x2 y2 z2 w2 x3 y3 z3 w3*(a*x0+b*y0+c*z0+d*w0)+D3 x0 y0 z0 w0 x y z w x2 y2 z2 w2 x3 y3 z3 w3*(a*x1+b*y1+c*z1+d*w1)+D3 x0 y0 z0 w0 x1 y1 z1 w1 x y z w x3 y3 z3 w3*(a*x2+b*y2+c*z2+d*w2)+D3 x0 y0 z0 w0 x1 y1 z1 w1 x2 y2 z2 w2 x y z w*(a*x3+b*y3+c*z3+d*w3)=D3 x0 y0 z0 w0 x1 y1 z1 w1 x2 y2 z2 w2 x3 y3 z3 w3*(a*x+b*y+c*z+d*w):=by
 unfold D3;grind
theorem Il{n k:Nat}(hn:n=2\/n=3)(hk:k<=1000){B:AA}(hB:B.length=n+1){u:AC}(h:Sx n k u){x:AA}(g:Gu n 1000 x)(hs:cU u x=1):∃(D:Int)(L:List (Int×Int)),0<D/\(∀e∈L,0<e.1/\∃c∈u,e.2=dt B c)/\(L.map λe=>e.1*e.2).sum=D*dt B x:=by
 have pD:0<dU u:=by
  have e3:=oO hn hk h.len h.gu;rw[h.cn]at e3;have:=h.nz;omega
 have ps:∀j,j<u.length->0<dU (u.set j x):=λj hj=>D4 ((Xi _ _ hs).2 _ (gg.mpr ⟨j,pb.mpr hj,rfl⟩));have hl:=h.len;have hg:=h.gu;refine⟨dU u,?_⟩;rcases hn with rfl |rfl
 .match u,hl,hg,B,hB with
  |[p,q,r],_,hg,[a,b,c],_=>
   obtain⟨x0,y0,w0,rfl,_⟩:=(hg p (by simp)).two';obtain⟨x1,y1,w1,rfl,_⟩:=(hg q (by simp)).two';obtain⟨x2,y2,w2,rfl,_⟩:=(hg r (by simp)).two';obtain⟨x,y,w,rfl,_⟩:=g.two';refine⟨[(D2 x y w x1 y1 w1 x2 y2 w2,dt [a,b,c] [x0,y0,w0]),(D2 x0 y0 w0 x y w x2 y2 w2,dt [a,b,c] [x1,y1,w1]),(D2 x0 y0 w0 x1 y1 w1 x y w,dt [a,b,c] [x2,y2,w2])],pD,λe he=>?_,?_⟩;rotate_left
   .have:=aag a b c x0 y0 w0 x1 y1 w1 x2 y2 w2 x y w
    simp only[ar,cg,jf,ka,wA];rw[show dU [[x0,y0,w0],[x1,y1,w1],[x2,y2,w2]]=D2 x0 y0 w0 x1 y1 w1 x2 y2 w2 from rfl,<-this];simp only[wm,Int.add_assoc]
   .simp only[ay,de,or_false]at he
    rcases he with rfl |rfl |rfl
    .exact⟨ps 0 (by simp),_,by simp,rfl⟩
    .exact⟨ps 1 (by simp),_,by simp,rfl⟩
    .exact⟨ps 2 (by simp),_,by simp,rfl⟩
 .match u,hl,hg,B,hB with
  |[p,q,r,t],_,hg,[a,b,c,d],_=>
   obtain⟨x0,y0,z0,w0,rfl,_⟩:=(hg p (by simp)).three';obtain⟨x1,y1,z1,w1,rfl,_⟩:=(hg q (by simp)).three';obtain⟨x2,y2,z2,w2,rfl,_⟩:=(hg r (by simp)).three';obtain⟨x3,y3,z3,w3,rfl,_⟩:=(hg t (by simp)).three';obtain⟨x,y,z,w,rfl,_⟩:=g.three';refine⟨[(D3 x y z w x1 y1 z1 w1 x2 y2 z2 w2 x3 y3 z3 w3,dt [a,b,c,d] [x0,y0,z0,w0]),(D3 x0 y0 z0 w0 x y z w x2 y2 z2 w2 x3 y3 z3 w3,dt [a,b,c,d] [x1,y1,z1,w1]),(D3 x0 y0 z0 w0 x1 y1 z1 w1 x y z w x3 y3 z3 w3,dt [a,b,c,d] [x2,y2,z2,w2]),(D3 x0 y0 z0 w0 x1 y1 z1 w1 x2 y2 z2 w2 x y z w,dt [a,b,c,d] [x3,y3,z3,w3])],pD,λe he=>?_,?_⟩;rotate_left
   .have:=aab a b c d x0 y0 z0 w0 x1 y1 z1 w1 x2 y2 z2 w2 x3 y3 z3 w3 x y z w
    simp only[ar,cg,jf,ka,vS];rw[show dU [[x0,y0,z0,w0],[x1,y1,z1,w1],[x2,y2,z2,w2],[x3,y3,z3,w3]]=D3 x0 y0 z0 w0 x1 y1 z1 w1 x2 y2 z2 w2 x3 y3 z3 w3 from rfl,<-this];simp only[wm,Int.add_assoc]
   .simp only[ay,de,or_false]at he
    rcases he with rfl |rfl |rfl |rfl
    .exact⟨ps 0 (by simp),_,by simp,rfl⟩
    .exact⟨ps 1 (by simp),_,by simp,rfl⟩
    .exact⟨ps 2 (by simp),_,by simp,rfl⟩
    .exact⟨ps 3 (by simp),_,by simp,rfl⟩
theorem Wk:∀(L:List (Int×Int)),(∀e∈L,0<e.1/\e.2<=0)->(L.map λe=>e.1*e.2).sum<=0
 |[],_=>oh 0
 |e::L,h=>by
  have:=Wk L λf hf=>h f (bo _ hf);have a:=h e (by simp);have b:=Int.mul_nonpos_of_nonneg_of_nonpos (ql a.1) a.2;rw[ar,jf];omega
theorem Al:∀(L:List (Int×Int)),(∀e∈L,0<e.1/\0<=e.2)->0<=(L.map λe=>e.1*e.2).sum
 |[],_=>oh 0
 |e::L,h=>by
  have:=Al L λf hf=>h f (bo _ hf);have a:=h e (by simp);have b:=d8 (ql a.1) a.2;rw[ar,jf];omega
theorem Ex{n k:Nat}(hn:n=2\/n=3)(hk:k<=1000){B:AA}(hB:B.length=n+1){x:AA}(g:Gu n 1000 x)(hx:0<dt B x){G:AD}(h:∀u∈G,Sx n k u/\∀c∈u,dt B c<=0):(G.map λu=>cU u x).count 1=0:=by
 rw[i6];intro hm;obtain⟨u,hu,e⟩:=gg.mp hm;obtain⟨D,L,d0,hL,es⟩:=Il hn hk hB (h u hu).1 g e;have:=Wk L λe he=>by
  obtain⟨a,c,hc,b⟩:=hL e he;exact⟨a,b▸(h u hu).2 c hc⟩
 have:=cu d0 hx;omega
theorem Ft{n k:Nat}(hn:n=2\/n=3)(hk:k<=1000){B:AA}(hB:B.length=n+1){x:AA}(g:Gu n 1000 x)(hx:dt B x<0){F:AD}(h:∀u∈F,Sx n k u/\∀c∈u,0<=dt B c):(F.map λu=>cU u x).count 1=0:=by
 rw[i6];intro hm;obtain⟨u,hu,e⟩:=gg.mp hm;obtain⟨D,L,d0,hL,es⟩:=Il hn hk hB (h u hu).1 g e;have:=Al L λe he=>by
  obtain⟨a,c,hc,b⟩:=hL e he;exact⟨a,b▸(h u hu).2 c hc⟩
 have:=wj d0 hx;omega
abbrev oB:MS:=(aI (aR 9 (aO lB [] (aB (aA 1) (aB (aA 5) (aB (aA 2) aD))))) (aI (aR 10 (aO lV [] (aB (aA 6) (aB (aA 9) aD)))) (aI (aR 11 (aO gF [] (aB (aA 5) (aB (aA 9) aD)))) (aI (aR 12 (aO gF [] (aB (aC aF (aA 7) (mC (.int 0))) (aB (aA 9) aD)))) (aI (aR 13 (aO gF [] (aB (aC aF (aA 7) (mC (.int 1))) (aB (aA 9) aD)))) (bP (eQ (aV (aC eM (aA 10) (mC (.int 0)))) (eQ (aV (bJ gD (aA 11))) (eQ (aV (bJ gD (aA 12))) (aV (bJ gD (aA 13)))))) (aI (bP (eQ (aV (aC eD (aA 10) (mC (.int 0)))) (fU (aV (aC eM (aA 12) (aA 11))) (aV (aC eM (aA 13) (mC (.int 0)))))) (bE (mC (.bl false))) cO) (bP (eQ (aV (aC iE (aA 10) (mC (.int 0)))) (fU (aV (aC eM (aA 12) (mC (.int 0)))) (aV (aC eM (aA 13) (aA 11))))) (bE (mC (.bl false))) cO)) cO))))))
theorem Ms{n k:Nat}(hn:n=2\/n=3)(hk:k<=100){hs:AD}(h:∀u∈hs,Sx n k u)(h9:hs.length<=90)(ns:AA):∃(p:AA)(ns':AA),lB [.ref 0,.pv (.lst (hs.map px)),.pv (.int (n:Int))] [.lst (li ns)]=.ok (.pv (tv p)) [.lst (li ns')]/\Gu n 1000 p:=by
 by_cases c:hs.length=0
 .obtain⟨p,n1,e1,g⟩:=zU hn ns []
  refine⟨p,n1,?_,g.mono (by decide)⟩;have z:(((hs.map px).length:Int)==0)=true:=by rw[ai,c];rfl
  generalize (n:Int)=N,tv p=TP,hs.map px=HL at *;unfold lB tI;apply lZ (v:=.pv TP) (S':=[.lst (li n1)]) rfl
  .rw[aI]
   simp! [bA,aL,aK,aM,aN,aE,aJ,eR,z,e1]
  .simp[gC]
 .exact Yu hn hk h (by omega) h9 ns
abbrev rq(x0:AK)(N:Int)(x3 x4 a b c x8 x9 x10 x11 x12 x13:AK):bR:=[x0,some (.ref 0),some (.pv (.int N)),x3,x4,a,b,c,x8,x9,x10,x11,x12,x13]
theorem B6{HL FL GL:AI}{TB TP:PV}{N d:Int}{v1 v2 v3:PV}{x0 x3 x4 x8 x9 x10 x11 x12 x13:AK}{ns n1:AA}(e1:lB [.ref 0,.pv (.lst HL),.pv (.int N)] [.lst (li ns)]=.ok (.pv TP) [.lst (li n1)])(e2:lV [.pv TB,.pv TP] [.lst (li n1)]=.ok (.pv (.int d)) [.lst (li n1)])(t1:gF [.pv (.lst HL),.pv TP] [.lst (li n1)]=.ok (.pv v1) [.lst (li n1)])(t2:gF [.pv (.tup FL),.pv TP] [.lst (li n1)]=.ok (.pv v2) [.lst (li n1)])(t3:gF [.pv (.tup GL),.pv TP] [.lst (li n1)]=.ok (.pv v3) [.lst (li n1)])
  (h:d=0\/v1=.non\/v2=.non\/v3=.non\/∃a b c:Int,v1=.int a/\v2=.int b/\v3=.int c/\(0<d->b=a/\c=0)/\(d<0->b=0/\c=a))(h1:v1=.non\/∃a,v1=.int a)(h2:v2=.non\/∃a,v2=.int a)(h3:v3=.non\/∃a,v3=.int a):oB (rq x0 N x3 x4 (some (.pv (.lst HL))) (some (.pv TB)) (some (.pv (.tup [.tup FL,.tup GL]))) x8 x9 x10 x11 x12 x13) [.lst (li ns)]=.nx (rq x0 N x3 x4 (some (.pv (.lst HL))) (some (.pv TB)) (some (.pv (.tup [.tup FL,.tup GL]))) x8 (some (.pv TP)) (some (.pv (.int d))) (some (.pv v1)) (some (.pv v2)) (some (.pv v3))) [.lst (li n1)]:=by
 have i0:aF (.tup [.tup FL,.tup GL]) (.int 0)=some (.tup FL):=iJ (j:=0) rfl;have i1:aF (.tup [.tup FL,.tup GL]) (.int 1)=some (.tup GL):=iJ (j:=1) rfl;unfold oB rq;apply sq;simp! [bA,aL,aK,aM,aN,aE,aJ,e1];exact⟨rfl,rfl⟩;apply sq;simp! [bA,aL,aK,aM,aN,aE,aJ,e2];exact⟨rfl,rfl⟩;apply sq;simp! [bA,aL,aK,aM,aN,aE,aJ,t1];exact⟨rfl,rfl⟩;apply sq;simp! [bA,aL,aK,aM,aN,aE,aJ,i0,t2];exact⟨rfl,rfl⟩;apply sq;simp! [bA,aL,aK,aM,aN,aE,aJ,i1,t3];exact⟨rfl,rfl⟩;clear e1 e2 t1 t2 t3
 by_cases d0:d=0
 .subst d0
  simp! [bA,aL,aK,aM,aN,aE,aJ]
 .have z0:(d==0)=false:=beq_false_of_ne d0
  rcases h1 with rfl |⟨a,rfl⟩
  .simp! [bA,aL,aK,aM,aN,aE,aJ,z0,d0,gD]
  .rcases h2 with rfl |⟨b,rfl⟩
   .simp! [bA,aL,aK,aM,aN,aE,aJ,z0,d0,gD]
   .rcases h3 with rfl |⟨c,rfl⟩
    .simp! [bA,aL,aK,aM,aN,aE,aJ,z0,d0,gD]
    .have h:(0<d->b=a/\c=0)/\(d<0->b=0/\c=a):=by
      rcases h with h |h |h |h |⟨_,_,_,k1,k2,k3,h⟩
      .exact absurd h d0
      .cases h
      .cases h
      .cases h
      .cases k1
       cases k2;cases k3;exact h
     rcases Int.lt_or_gt_of_ne d0 with q |q
     .obtain⟨rfl,rfl⟩:=h.2 q
      have q2:¬0<d:=by omega
      simp! [bA,aL,aK,aM,aN,aE,aJ,z0,d0,gD,q,q2]
     .obtain⟨rfl,rfl⟩:=h.1 q
      have q2:¬d<0:=by omega
      simp! [bA,aL,aK,aM,aN,aE,aJ,z0,d0,gD,q,q2]
theorem M3{n:Nat}(hn:n=2\/n=3){B:AA}(hB:B.length=n+1)(bB:∀x∈B,Bd 510 x){hs F G:AD}(h:∀u∈hs,Sx n 6 u)(h9:hs.length<=90)(ct:Ct n B hs F G)(x0 x3 x4 x8 x9 x10 x11 x12 x13:AK)(ns:AA):∃(ns':AA)(y9 y10 y11 y12 y13:AK),oB (rq x0 n x3 x4 (some (.pv (.lst (hs.map px)))) (some (.pv (tv B))) (some (.pv (.tup [.tup (F.map px),.tup (G.map px)]))) x8 x9 x10 x11 x12 x13) [.lst (li ns)]=.nx (rq x0 n x3 x4 (some (.pv (.lst (hs.map px)))) (some (.pv (tv B))) (some (.pv (.tup [.tup (F.map px),.tup (G.map px)]))) x8 y9 y10 y11 y12 y13) [.lst (li ns')]:=by
 obtain⟨p,n1,e1,gp⟩:=Ms hn (k:=6) (by decide) h h9 ns;have e2:=qJ (A:=tv B) (B:=tv p) (us:=B) (vs:=p) [.lst (li n1)] (.inr rfl) (.inr rfl) (λx hx=>(bB x hx).mono (by decide)) (λx hx=>(Mn gp x hx).mono (by decide));have cv:∀{A:PV}{k:Nat}{gs:AD},k<=1000->Sv A (gs.map px)->(∀u∈gs,Sx n k u)->∃v,gF [.pv A,.pv (tv p)] [.lst (li n1)]=.ok (.pv v) [.lst (li n1)]/\(v=.non\/(v=.int ((gs.map λu=>cU u p).count 1:Nat)/\∀u∈gs,cU u p≠0)):=λ{A k gs} hk hA hg=>by
  rcases Wp hn hk gp [.lst (li n1)] hA hg with e |⟨z,e⟩
  .exact⟨_,e,.inl rfl⟩
  .exact⟨_,e,.inr ⟨rfl,z⟩⟩
 obtain⟨v1,t1,w1⟩:=cv (k:=6) (by decide) (.inl rfl) h;obtain⟨v2,t2,w2⟩:=cv (k:=530) (by decide) (.inr rfl) (λu hu=>(ct.1 u hu).1);obtain⟨v3,t3,w3⟩:=cv (k:=530) (by decide) (.inr rfl) (λu hu=>(ct.2.1 u hu).1);refine⟨n1,_,_,_,_,_,B6 e1 e2 t1 t2 t3 ?_ (w1.imp id λz=>⟨_,z.1⟩) (w2.imp id λz=>⟨_,z.1⟩) (w3.imp id λz=>⟨_,z.1⟩)⟩;rcases w1 with w1 |⟨w1,_⟩
 .exact .inr (.inl w1)
 .rcases w2 with w2 |⟨w2,z2⟩
  .exact .inr (.inr (.inl w2))
  .rcases w3 with w3 |⟨w3,z3⟩
   .exact .inr (.inr (.inr (.inl w3)))
   .refine .inr (.inr (.inr (.inr ⟨_,_,_,w1,w2,w3,λq=>?_,λq=>?_⟩)))
    .have k:=ct.2.2 p gp z2 z3
     have k0:=Ex hn (k:=530) (by decide) hB gp q ct.2.1;rw[k0]at k⊢;exact⟨by rw[k];rfl,rfl⟩
    .have k:=ct.2.2 p gp z2 z3
     have k0:=Ft hn (k:=530) (by decide) hB gp q ct.1;rw[k0]at k⊢;exact⟨rfl,by rw[k,Nat.zero_add]⟩
theorem Rj{n:Nat}(hn:n=2\/n=3){B:AA}(hB:B.length=n+1)(bB:∀x∈B,Bd 510 x){hs F G:AD}(h:∀u∈hs,Sx n 6 u)(h9:hs.length<=90)(ct:Ct n B hs F G)(x0 x3 x4:AK):∀(is:AI)(x8 x9 x10 x11 x12 x13:AK)(ns:AA),∃(ns':AA)(y8 y9 y10 y11 y12 y13:AK),dE [] (gN 8) oB is (rq x0 n x3 x4 (some (.pv (.lst (hs.map px)))) (some (.pv (tv B))) (some (.pv (.tup [.tup (F.map px),.tup (G.map px)]))) x8 x9 x10 x11 x12 x13) [.lst (li ns)]=.nx (rq x0 n x3 x4 (some (.pv (.lst (hs.map px)))) (some (.pv (tv B))) (some (.pv (.tup [.tup (F.map px),.tup (G.map px)]))) y8 y9 y10 y11 y12 y13) [.lst (li ns')]
 |[],x8,x9,x10,x11,x12,x13,ns=>⟨ns,x8,x9,x10,x11,x12,x13,fW⟩
 |i::is,x8,x9,x10,x11,x12,x13,ns=>by
  obtain⟨n1,y9,y10,y11,y12,y13,e1⟩:=M3 hn hB bB h h9 ct x0 x3 x4 (some (.pv i)) x9 x10 x11 x12 x13 ns;obtain⟨n2,z8,z9,z10,z11,z12,z13,e2⟩:=Rj hn hB bB h h9 ct x0 x3 x4 is (some (.pv i)) y9 y10 y11 y12 y13 n1;refine⟨n2,z8,z9,z10,z11,z12,z13,?_⟩;rw[eK];simp only[gN,rq,ff,cx];unfold rq at e1 e2;rw[e1];exact e2
theorem Mt(ns:AA)(h:ns.length<=63):∃S,zQ [.pv (.lst (ns.map .int))] []=.ok (.pv (.bl true)) S:=by
 obtain⟨ms,e0,_⟩:=O6 ns [] h;have e0:oQ [.pv (.lst (ns.map .int))] []=.ok (.ref 0) [.lst (li ms)]:=e0;obtain⟨d,n1,e1,d0,d1,_⟩:=hJ (m:=2) (show dY [.lst (li ms)] 0 ms from rfl) (by decide) (gS (by decide) (by decide));have e1:cM [.ref 0,.pv (.int 2)] [.lst (li ms)]=.ok (.pv (.int d)) [.lst (li n1)]:=e1;obtain⟨n,en,hn⟩:∃n:Nat,2+d=(n:Int)/\(n=2\/n=3):=⟨(2+d).toNat,by omega,by omega⟩;have a2:aE (.int 2) (.int d)=some (.int n):=by rw[aE,en]
 obtain⟨r1,n2,e2,l2,w2⟩:=Op hn (M:=3) (by decide) n1;have e2:oF [.ref 0,.pv (.int (n:Int)),.pv (.int 3)] [.lst (li n1)]=.ok (.ref 1) [.lst (li n2),.lst (r1.map cS)]:=e2;have rg:=jL [.lst (li n2)] (n:=n) (by omega);have ec:bT [] (gN 0) (mN iV (aB (mC (.int 1)) (aB (mC (.int 1)) aD))) (cG 0 n) [none] [.lst (li n2)]=.ok (iY n) [.lst (li n2)]:=by
  rcases hn with rfl |rfl
  .show bT _ _ _ [.int 0,.int 1] _ _=_
   simp! [aF,aY,aZ,aP,aL,aK,aM,aN,aE,aJ,dG,dC,gN,iY,da]
  .show bT _ _ _ [.int 0,.int 1,.int 2] _ _=_
   simp! [aF,aY,aZ,aP,aL,aK,aM,aN,aE,aJ,dG,dC,gN,iY,da]
 obtain⟨ps,e4,l4,s4⟩:=Xq hn [.lst (li n2)] w2;obtain⟨hs,n5,e5,s5,l5⟩:=Fx hn (k:=3) (by decide) n2 s4 (by omega);have s5:∀u∈hs,Sx n 6 u:=s5;obtain⟨B,n6,e6,hB,bB⟩:=Sr hn (k:=6) (by decide) s5 (by omega) n5;obtain⟨A,n7,e7,hA⟩:=Lv (L:=hs.map px) (show dY [.lst (li n6)] 0 n6 from rfl);have e7:mX [.ref 0,.pv (.lst (hs.map px))] [.lst (li n6)]=.ok (.pv A) [.lst (li n7)]:=e7;obtain⟨F,G,e8,ct⟩:=B0 hn hB bB (.lst (li n7)) hA s5 (by omega);have f1:=Re hn [.lst (li n7)] (hs:=F) (λu hu=>(ct.1 u hu).1) (by decide);have f2:=Re hn [.lst (li n7)] (hs:=G) (λu hu=>(ct.2.1 u hu).1) (by decide);obtain⟨n8,y8,y9,y10,y11,y12,y13,e9⟩:=Rj hn hB bB s5 (by omega) ct (some (.pv (.lst (ns.map .int)))) (some (.pv (.lst (r1.map cS)))) (some (.pv (.lst (iY n)))) [.int 0,.int 1,.int 2,.int 3,.int 4] none none none none none none n7;have r5:iD [.pv (.int 5)] [.lst (li n7)]=.ok ([.int 0,.int 1,.int 2,.int 3,.int 4],[]) [.lst (li n7)]:=jL [.lst (li n7)] (n:=5) (by decide);refine⟨[],?_⟩;clear w2 s4 s5 ct hA bB hB l2 l4 l5;generalize (n:Int)=N,tv B=TB,ns.map PV.int=NL,cG 0 n=IP,iY n=PZ,r1.map cS=R1,ps.map px=PL,hs.map px=HL,G.map px=GL,F.map px=FL at *;unfold rq at e9;have i0:aF (.tup [.tup FL,.tup GL]) (.int 0)=some (.tup FL):=iJ (j:=0) rfl;have i1:aF (.tup [.tup FL,.tup GL]) (.int 1)=some (.tup GL):=iJ (j:=1) rfl;have tF:(bZ (bY (aB (mC (.int 5)) aD)) (gN 8) oB) [some (.pv (.lst NL)),some (.ref 0),some (.pv (.int N)),some (.pv (.lst R1)),some (.pv (.lst PZ)),some (.pv (.lst HL)),some (.pv TB),some (.pv (.tup [.tup FL,.tup GL])),none,none,none,none,none,none] [.lst (li n7)]=.nx [some (.pv (.lst NL)),some (.ref 0),some (.pv (.int N)),some (.pv (.lst R1)),some (.pv (.lst PZ)),some (.pv (.lst HL)),some (.pv TB),some (.pv (.tup [.tup FL,.tup GL])),y8,y9,y10,y11,y12,y13] [.lst (li n8)]:=by
  generalize oB=LB at *;simp! [bA,aL,aK,aM,aN,aE,aJ,bZ,bY,r5,e9]
 have hb:Ca=(aI (aR 1 (oS oQ [] (aB (aA 0) aD))) (aI (aR 2 (aC aE (mC (.int 2)) (aO cM [] (aB (aA 1) (aB (mC (.int 2)) aD))))) (aI (aR 3 (aO oF [] (aB (aA 1) (aB (aA 2) (aB (mC (.int 3)) aD))))) (aI (aR 4 (bF ["_law_k"] [] (bY (aB (aA 2) aD)) (gN 0) (mN iV (aB (mC (.int 1)) (aB (mC (.int 1)) aD))))) (aI (aR 5 (aO qH [] (aB (aA 1) (aB (bF ["_law_corners"] [(4,"_law_one")] (bO (aA 3)) (gN 0) (aO iZ [] (aB (bF ["_law_c"] [(1,"_law_one")] (bO (aA 0)) (gN 0) (aO lL [] (aB (aA 0) (aB (aA 1) aD)))) aD))) aD)))) (aI (aR 6 (aO oC [] (aB (aA 1) (aB (aA 5) (aB (aA 2) aD))))) (aI (aR 7 (aO rE [] (aB (aO mX [] (aB (aA 1) (aB (aA 5) aD))) (aB (aA 6) aD)))) (aI (bP (fU (iC (aV (bJ (fB "tuple") (aA 7)))) (aV (aC eM (mR cT (aB (aA 7) aD)) (mC (.int 2))))) (bE (mC (.bl false))) cO) (aI (bP (fU (iC (aV (aO mU [] (aB (aC aF (aA 7) (mC (.int 0))) (aB (aA 2) aD))))) (iC (aV (aO mU [] (aB (aC aF (aA 7) (mC (.int 1))) (aB (aA 2) aD)))))) (bE (mC (.bl false))) cO) (aI (bZ (bY (aB (mC (.int 5)) aD)) (gN 8) oB) (bE (mC (.bl true))))))))))))):=rfl;unfold zQ;rw[hb];apply lZ rfl;apply sq;simp! [bA,aL,aK,aM,aN,aE,aJ,eR,e0];exact⟨rfl,rfl⟩;apply sq;simp! [bA,aL,aK,aM,aN,aJ,e1,a2];exact⟨rfl,rfl⟩;apply sq;simp! [bA,aL,aK,aM,aN,aE,aJ,e2];exact⟨rfl,rfl⟩;apply sq;simp! [bA,aL,aK,aM,aN,aE,aJ,bF,cF,bY,rg,ec];exact⟨rfl,rfl⟩;apply sq;simp! [bA,aL,aK,aM,aN,aE,aJ,bF,cF,bO,cB,e4,e5];exact⟨rfl,rfl⟩;apply sq;simp! [bA,aL,aK,aM,aN,aE,aJ,e6];exact⟨rfl,rfl⟩;apply sq;simp! [bA,aL,aK,aM,aN,aE,aJ,e7,e8];exact⟨rfl,rfl⟩;apply sq;simp! [bA,aL,aK,aM,aN,aE,aJ,fB];exact⟨rfl,rfl⟩;apply sq;simp! [bA,aL,aK,aM,aN,aE,aJ,i0,i1,f1,f2];exact⟨rfl,rfl⟩;refine sq tF ?_;simp! [bA,aL,aK,aM,aN,aE,aJ];exact⟨rfl,rfl⟩;simp[gC]
theorem hF_k{K:ae}{x:Str}{st:Stmt}{f:Addr}{oc:Value}{od an:AG}{osl:Array AF}{kV doc pm cdv ct:Value}(a:df K mainGlobals x=some (some (.ref f)):=by k_is)(l:K.lookup f=some ⟨oc,od,.func (dm x x (fP st) (dS st) (bU st) .none kV doc pm an cdv ct),osl⟩:=by k_is)(c:jk K cdv x=true:=by k_is)(k:fg K (.ref f)=true:=by k_is):HF K x st:=V6 a l c k
theorem all_mk{l:lu}{w:aj}{K:ae}{h:Heap}{mg:Str->AF}{fa:Addr}(X:K.In h)(G:h.Ns mainGlobals mg)(hfa:mg "law"=some (.ref fa))
  (h25:HF K "_law_row" Uk)
  (h26:HF K "_law_take" Oh)
  (h34:HF K "_law_dot" Hl)
  (h33:HF K "_law_cross" Eh)
  (h35:HF K "_law_turn" Ti)
  (h43:HF K "_law_raw_turn" Ic)
  (h42:HF K "_law_raw" Tj)
  (h44:HF K "_law_kuhn" Zi)
  (h45:HF K "_law_raw_heap" Kc)
  (h32:HF K "_law_gap" Bl)
  (h36:HF K "_law_det" Bk)
  (h37:HF K "_law_simplex" Ad)
  (h27:HF K "_law_gcd" Vj)
  (h28:HF K "_law_lowest" Td)
  (h31:HF K "_law_joined" Se)
  (h38:HF K "_law_gone" Hi)
  (h51:HF K "_law_near" Gj)
  (h47:HF K "_law_spot" Kh)
  (h46:HF K "_law_far" Fl)
  (h49:HF K "_law_blade" Fg)
  (h50:HF K "_law_some_blade" Zb)
  (h6:HF K "divisor" Ke)
  (h7:HF K "reduced" Ae)
  (h5:HF K "sign" Uj)
  (h20:HF K "crossing" Ld)
  (h17:HF K "replaced" Qc)
  (h21:HF K "parted" oJ)
  (h11:HF K "dot" Bm)
  (h19:HF K "height" Lf)
  (h22:HF K "heights_of" Gc)
  (h10:HF K "whole_arrow" Ub)
  (h12:HF K "normal" Bh)
  (h13:HF K "determinant" Bc)
  (h14:HF K "side" Qk)
  (h16:HF K "simplex" Be)
  (h23:HF K "cut" Dm)
  (h48:HF K "_law_handed" Cf)
  (h29:HF K "_law_whole" Uf)
  (h30:HF K "_law_wholes" Sd)
  (h39:HF K "_law_point_form" Vb)
  (h40:HF K "_law_simplex_form" Pb)
  (h41:HF K "_law_heap_form" Cc)
  (h53:HF K "_law_aside" Gh)
  (h52:HF K "_law_place" Of)
  (h54:HF K "_law_counted" Nc)
  {f9:Addr}{od9 an9:AG}{sl9:Array AF}{oc9 kV9 dc9 pm9 cd9 ct9:Value}
  {T9:Addr}{tc9:Value}{td9:AG}{tl9:Array AF}{tn9:Nat}{tt9:Tok}
  (a9:df K mainGlobals "point"=some (some (.ref f9)))(l9:K.lookup f9=some ⟨oc9,od9,.func (dm "point" "point" (fP qM) (dS qM) (bU qM) (.ref T9) kV9 dc9 pm9 an9 cd9 ct9),sl9⟩)(c9:jk K cd9 "point"=true)(k9:fg K (.ref f9)=true)
  (t9:K.lookup T9=some ⟨tc9,td9,.seq #[.int 1 tt9] tn9,tl9⟩)
  {f55:Addr}{od55 an55:AG}{sl55:Array AF}{oc55 kV55 dc55 pm55 cd55 ct55:Value}
  (a55:df K mainGlobals "law"=some (some (.ref f55)))(l55:K.lookup f55=some ⟨oc55,od55,.func (dm "law" "law" (fP mJ) (dS mJ) (bU mJ) .none kV55 dc55 pm55 an55 cd55 ct55),sl55⟩)(c55:jk K cd55 "law"=true)(k55:fg K (.ref f55)=true)
  (z1:df K mainGlobals "abs"=some none)
  (z2:df K mainGlobals "all"=some none)
  (z3:df K mainGlobals "any"=some none)
  (z4:df K mainGlobals "bool"=some none)
  (z5:df K mainGlobals "enumerate"=some none)
  (z6:df K mainGlobals "int"=some none)
  (z7:df K mainGlobals "isinstance"=some none)
  (z8:df K mainGlobals "len"=some none)
  (z9:df K mainGlobals "list"=some none)
  (z10:df K mainGlobals "max"=some none)
  (z11:df K mainGlobals "min"=some none)
  (z12:df K mainGlobals "range"=some none)
  (z13:df K mainGlobals "sorted"=some none)
  (z14:df K mainGlobals "sum"=some none)
  (z15:df K mainGlobals "tuple"=some none)
  (z16:df K mainGlobals "zip"=some none)
  {C1 C2:Addr}
  (y1:df K mainGlobals "Flat"=some (some (.ref C1)))(x1:je K C1 lO "ValueError.__new__"=true)
  (y2:df K mainGlobals "NoPoint"=some (some (.ref C2)))(x2:je K C2 lO "ValueError.__new__"=true)
  :∃fd:bn,(∀(s:aa)(v:Value),lc s fd ⟨[v],[]⟩ [("_law_script",v)])/\∀base:Heap,K.In base->base.Ns mainGlobals mg->dX l.prog w K mg base eG 10 fa fd ["_law_script"] (uK K):=by
 let cl:Str->Addr:=λn=>if n="Flat" then C1 else if n="NoPoint" then C2 else 0
 have e:=hfa.symm.trans (ou X G a55);cases e;have F9:=Lw (st:=qM) l9 c9 k9 t9 rfl;have b9:=F9.binds (ps:=["numbers","bottom"]) (dd:=[]) λ_ _ _ _ _ _ _ us hl=>match us,hl with |[_,_],_=>⟨_,rfl,rfl⟩
 have n9:=ou X G a9;have F55:=Ll (st:=mJ) l55 c55 k55;have m:Mg mg:=⟨fm X G z1,fm X G z2,fm X G z3,fm X G z4,fm X G z5,fm X G z6,fm X G z7,fm X G z8,fm X G z9,fm X G z10,fm X G z11,fm X G z12,fm X G z13,fm X G z14,fm X G z15,fm X G z16⟩;refine⟨dm "law" "law" (fP mJ) (dS mJ) (bU mJ) .none kV55 dc55 pm55 an55 cd55 ct55,λs v=>.of_eq rfl,λbase _ _=>?_⟩
 let B:Bx:=⟨l.prog,w,K,mg,base,cl⟩
 have Xg:XG B.K B.mg:=⟨h,X,G⟩;have m:Mg B.mg:=m;have q_Flat:B.mg "Flat"=some (.ref (B.cl "Flat")):=ou X G y1;have x_Flat:je B.K (B.cl "Flat") lO "ValueError.__new__"=true:=x1;have q_NoPoint:B.mg "NoPoint"=some (.ref (B.cl "NoPoint")):=ou X G y2;have x_NoPoint:je B.K (B.cl "NoPoint") lO "ValueError.__new__"=true:=x2;have C25:=Kx Xg m h25;have C26:=Av Xg m h26;have C34:=Bz Xg m h34;have C33:=Xs Xg m h33;have C35:=Qv Xg m h35 C34 C33;have C43:=Uo Xg m h43 C35;have C42:=Xw Xg m h42 C26 C43;have C44:=Mv Xg m h44 C26;have C45:=Zo Xg m h45 C26 C42 C44;have C32:=Yx Xg m h32;have C36:=Ez Xg m h36 C35 C32;have C37:=Dp Xg m h37 C36;have C27:=Cy Xg m h27;have C28:=Yq Xg m h28 C27;have C31:=Rq Xg m h31 C28;have C38:=Ew Xg m h38 C37 C31;have C51:=Tv Xg m h51 C26 C38;have C47:=Zu Xg m h47 C28;have C46:=Mz Xg m h46 C26 C28;have C49:=Jr Xg m h49 C28 C33 C32 C34;have C50:=Mo Xg m h50 C26 C46 C49;have C6:=Kq Xg m h6;have C7:=Zp Xg m h7 C6;have C5:=Yy Xg m h5;have G9:=Eu Xg m F9 C7 C5 q_NoPoint x_NoPoint;have H9:Xf B:=An G9 b9 k9 n9;have C20:=Ip Xg m h20 H9;have C17:=Mp Xg m h17;have C21:=Dt Xg m h21 C20 C17;have C11:=L6 Xg m h11;have C19:=Yr Xg m h19 C11;have C22:=Oo Xg m h22 C19;have C10:=Jo Xg m h10;have C12:=Ts Xg m h12;have C13:=Lo Xg m h13 C10 C11 C12;have C14:=Sz Xg m h14 C5 C13;have H16:=Uq Xg m h16 C14 q_Flat x_Flat;have C23:=A6 Xg m h23 C21 C22 H16;have C48:=Vp Xg m h48 C26;have C29:=Mr Xg m h29;have C30:=Dq Xg m h30 C29;have C39:=Io Xg m h39 C30 C28;have C40:=Fo Xg m h40 C39 C36 C37;have C41:=To Xg m h41 C40;have C53:=Ur Xg m h53 C46 C26 C31 C28;have C52:=Ys Xg m h52 C36;have C54:=Lp Xg m h54 C52;exact(L7 Xg m F55 C25 C26 C45 C51 C37 C47 C50 C23 C48 C41 C53 C34 C54).imp λvs H Q E h=>Jy Mt h
theorem walk{l:lu}{q:Program}{loose:List Str}{XP:(Str->AF)->Heap->Prop}{YP:aj->Heap->Prop}{d:DefRec}{K:kx->ae}(hn:l.most=some 63)(hdf:d.params.defaults=[])
  (hY:∀(w:aj)(h:Heap),YP w h->(K w.params).In h)
  (F:∀(w:aj)(mg:Str->AF)(fa:Addr)(h:Heap),(K w.params).In h->h.Ns mainGlobals mg->mg d.name=some (.ref fa)->
   ∃fd:bn,(∀(s:aa)(u:Value),lc s fd ⟨[u],[]⟩ [("_law_script",u)])/\∀base:Heap,(K w.params).In base->base.Ns mainGlobals mg->dX l.prog w (K w.params) mg base eG 10 fa fd ["_law_script"] (uK (K w.params))):
  PySem.W.WalkO q loose XP YP l.row.toRowW d [] (λf vs=>ul f vs):=
 L2.walk_of (n:=63) (k:=10) (x:="_law_script") (CX:=λ_=>eG) (sp:=λw=>uK (K w.params)) hn (by decide) hdf ⟨rfl,by decide,by decide⟩ hY F (λ_ _ a ns hl _ hS=>⟨a,ns,rfl,hS,hl,λ_=>rfl⟩) λ_ _ _ _ _ z=>z
end
end Sc
open PySem PySem.W PyProof.Rows
set_option maxRecDepth 100000 in
set_option maxHeartbeats 0 in
theorem PySem.Challenge.cw_scissorhall_k18_cuts_by_points_holds : PySem.Challenge.rw_scissorhall_k18_cuts_by_points.Holds := by
 w_on; refine holds_law Sc.wsaid λsaid=>?_
 refine holds_open (q:=Sc.VW) (loose:=[ik "point"]) (Xt:=λs=>xlAt Sc.VW [] s && recOk (RowW.records (wo (wq oy))) s) (XP:=XL Sc.VW []) (Yf:=Hook.obs (kHook Sc.KK Sc.KA Sc.KE)) (Ya:=Hook.val (kHook Sc.KK Sc.KA Sc.KE)) (YP:=Hook.says (kHook Sc.KK Sc.KA Sc.KE)) (N:=4156) Sc.left (Hook.of (kHook Sc.KK Sc.KA Sc.KE)) (Hook.keeps (kHook Sc.KK Sc.KA Sc.KE)) (λs e=>xl_of s (i7.mp e).1) XL.keeps (by rfl) (by rfl) (by rfl) (λs e=>recFacts_of (i7.mp e).2) (by rfl) (by first | assumption | decide +kernel) (by decide +kernel) ⟨rfl,rfl,rfl,rfl,rfl,by decide +kernel⟩ ?hw ?hc
 case hw=>w_witness2
 k_fill
 refine Sc.walk (l:=oy) rfl rfl (λw h Y=>PySem.W.kIn_of Y) ?F
 case F =>
  intro w mg fa h KX G hmg;refine' Sc.all_mk KX G hmg Sc.hF_k Sc.hF_k Sc.hF_k Sc.hF_k Sc.hF_k Sc.hF_k Sc.hF_k Sc.hF_k Sc.hF_k Sc.hF_k Sc.hF_k Sc.hF_k Sc.hF_k Sc.hF_k Sc.hF_k Sc.hF_k Sc.hF_k Sc.hF_k Sc.hF_k Sc.hF_k Sc.hF_k Sc.hF_k Sc.hF_k Sc.hF_k Sc.hF_k Sc.hF_k Sc.hF_k Sc.hF_k Sc.hF_k Sc.hF_k Sc.hF_k Sc.hF_k Sc.hF_k Sc.hF_k Sc.hF_k Sc.hF_k Sc.hF_k Sc.hF_k Sc.hF_k Sc.hF_k Sc.hF_k Sc.hF_k Sc.hF_k Sc.hF_k Sc.hF_k ?a9 ?l9 ?c9 ?k9 ?t9 ?a55 ?l55 ?c55 ?k55 ?z1 ?z2 ?z3 ?z4 ?z5 ?z6 ?z7 ?z8 ?z9 ?z10 ?z11 ?z12 ?z13 ?z14 ?z15 ?z16 ?y1 ?x1 ?y2 ?x2
  (case a9 | l9 | c9 | k9 | t9 | a55 | l55 | c55 | k55 | z1 | z2 | z3 | z4 | z5 | z6 | z7 | z8 | z9 | z10 | z11 | z12 | z13 | z14 | z15 | z16 | y1=>k_is)
  (case x1=>k_exc)
  (case y2=>k_is)
  (case x2=>k_exc)
#print axioms PySem.Challenge.cw_scissorhall_k18_cuts_by_points_holds
