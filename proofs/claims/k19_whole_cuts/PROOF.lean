import PyProof.Rows.All
import KE.KFromBytes
import KE.KIsAll
import PyProof.EqAt
import PyProof.EqKinds
import PyProof.TupleCall
import PyProof.ZipIter
import PyProof.Draws
import PyProof.CompFree
import PyProof.NeKinds
import PyProof.NsDelKeeps
import PyProof.ExcArgsOwn
import PyProof.ExcAttrAll.ValueError
import KE.KSortTup
import PyProof.DictRoadsH
import Wide.Seal
import KE.KIntText
import PyProof.FitsReplace
import PyProof.StrWalks
import PyProof.CompMap
import KE.KDictList
import PySem.Challenge.RW_scissorhall_k19_whole_cuts
set_option Elab.async false
set_option compiler.extract_closed false
set_option bootstrap.genMatcherCode false
set_option maxRecDepth 100000
set_option maxHeartbeats 0
open Array renaming length_toList->kg,toList->uw,replicate->ya,forIn_toList->j1
open Bool renaming and_eq_true->ja,false_ne_true->nu,eq_iff_iff->ph,and_eq_true_iff->yk,not_eq_true'->i8
open Classical renaming propDecidable->td
open False renaming elim->jr
open ForInStep renaming yield->wz
open Function renaming comp_apply->q9
open Int renaming mul_pos->aj,gcd->cf,ne_of_gt->ck,mul_ne_zero->da,mul_comm->dg,zero_sub->gg,one_mul->ij,mul_assoc->jh,neg_mul->jv,mul_zero->jw,natAbs_mul->kh,mul_neg->kx,mul_one->lm,mul_ediv_cancel_left->mx,fdiv_eq_ediv_of_dvd->my,zero_mul->qi,le_refl->qx,mul_sub->qy,le_of_lt->qz,toNat_natCast->rm,neg_sub->ue,gcd_dvd_left->wu,gcd_dvd_right->wv,gcd_zero_left->ww,pos_of_mul_pos_left->wx,zero_add->yo,natCast_mul->yp,mul_nonneg->yt,natCast_nonneg->a5,gcd_mul_left->a6,mul_neg_of_pos_of_neg->a7,neg_mul_neg->a8,fmod_nonneg_of_pos->AD,eq_of_mul_eq_mul_right->AG
open List renaming length_map->ak,map_cons->ao,length_append->av,map_nil->aw,getElem?_eq_getElem->ay,getElem?_map->az,mem_cons_of_mem->bd,size_toArray->bf,mem_cons->bj,getElem?_eq_some_iff->bn,mem_cons_self->bo,mem_append->br,range->ce,zipWith->cg,length_cons->ci,mem_of_getElem?->cq,getD->cr,not_mem_nil->db,getElem?_set_self->df,getElem?_set_ne->dk,mem_append_right->dm,replicate->dn,getElem?_append_right->dq,map_map->dr,map_append->du,set_cons_zero->dy,append_assoc->ee,length_set->ff,mem_map->fg,append_nil->fk,getElem?_append_left->fu,lookup_cons->fw,nil_append->fx,map_congr_left->gf,getElem_mem->gi,set_cons_succ->gr,all_eq_true->ji,prefix_rfl->jm,ext_getElem?->jn,cons_append->jo,filterMap_cons->jp,mem_append_left->jq,length_take->kd,length_zipWith->ki,map_set->kj,zipWith_cons_cons->km,nodup_cons->ko,length->kq,replicate_succ->ku,getElem?_cons_zero->kz,flatten_cons->mf,length_singleton->nj,set_set->nv,zipWith_nil_left->ny,sum_cons->oa,sum_nil->og,flatMap_cons->oh,mem_iff_getElem->pr,getElem_of_mem->qa,nodup_append->qb,nodup_nil->qc,toArray->qd,mem_iff_getElem?->qj,foldl->qw,forIn_cons->re,map->sy,getElem?_take->tf,any_eq_true->tj,getElem?_set->tw,take_of_length_le->uc,getElem?_cons_succ->ud,eraseIdx_set_eq->uf,filterMap_map->ug,mem_range->uu,mem_filterMap->va,of_mem_zip->vh,length_drop->vw,ext_getElem->xh,drop_eq_getElem_cons->xn,drop_length->xo,take_length->xw,length_eq_zero_iff->yh,length_pos_iff->yl,mem_singleton->yq,mem_map_of_mem->yu,mem_filter->za,getElem?_replicate->zm,length_replicate->zn,zipIdx_cons->g8,zipIdx_nil->g9,forIn_nil->i4,getElem?_zipWith->j7,getElem?_eq_none_iff->m9,map_inj_right->o3,set_getElem_self->o4,eq_nil_of_length_eq_zero->o6,getElem?_eq_none->u9,range_eq_range'->v7,max?_eq_some_iff->v8,min?_eq_some_iff->w8,getD_eq_getElem?_getD->AE,getElem_zipWith->AF,flatMap_nil->AH,range_succ_eq_map->AK,eq_replicate_of_mem->AL,countP_cons->AM,perm_append_comm->AR,length_nil->AS
open List.Perm renaming append_left->AO,append_right->AQ
open List.cons renaming injEq->dz
open Nat renaming le_refl->al,ne_of_lt->cw,lt_of_lt_of_le->de,le_trans->fh,sub_self->io,zero_le->iu,lt_irrefl->ix,ne_of_gt->lc,le_succ->mj,le_of_lt->ot,two_pow_pos->qg,pow_succ->qk,mul_comm->tm,pow_le_pow_right->wr,lt_of_le_of_lt->wt,lt_trans->wy,lt_of_succ_lt->xk,add_assoc->xl,lt_succ_self->xp,lt_succ_of_lt->xv,min_eq_left->yf,add_zero->yg,mul_le_mul_right->yr,succ_le_succ->zy,eq_zero_or_pos->zz,exists_eq_add_of_le->j2,le_succ_of_le->n8,lt_of_succ_lt_succ->o7,one_le_two_pow->AN
open Ne renaming symm->gw
open Option renaming map_some->qh,getD_some->xu,getD_none->zw
open Option.some renaming inj->cx
open Or renaming inl->ie,inr->ig
open PyProof.Rows renaming AllBare->jd,IntsAre->kw,callWith_type1->ox,slot_tuple_getitem->qu,assignInOrder_cons->uz,Subscript_->vz,get?_update_seq->yc,subscriptTail_builtinR->zt
open PyProof.Rows.IsTup renaming new->qp
open PySem renaming Shared->aa,wpAny_bind->ag,Expr->ah,Pos->ai,World->am,Around->aq,wpAny_pure->au,Env->bi,FuncData->ca,IsPair->dh,Keyword->ft,NameKind->fz,IsZip->gj,wpAny_field->ia,Paired->ib,wpAny_mono->je,mem_of_lookup->jf,Draws->jk,wpAny_call_entry->jt,wpAny_seqItems->jx,wpAny_truthy_bool->jy,wpAny_holding->jz,wpAny_newObj_type->ka,sizeLine_eq->kb,IsPart->ke,wpAny_passesOwn->kn,wpAny_callSpecial?_slot->kr,BindsTo->ly,call_meets->mn,wpAny_pyIter_list->ng,wpAny_setField_rec->nh,Params->oi,wpAny_rule->ou,PassesOwn->ow,Result->oz,wpAny_pyIter_tuple->pz,wpAny_execs_nil->qm,wpAny_standAt->qo,codeAny_mono->qq,concat_meets->qr,wpAny_setField->rn,wpAny_of_eq->sf,wpAny_onRaise->sj,wpAny_attempt->sk,Fin->tq,storedH_old->tx,storedH_new->tz,intItems_at->ua,numAt_eq->ub,wpAny_Name->uv,wpAny_Call_Name_kw->vg,noFill_tuple_add->vj,seq_tuple_add->vk,seqIndex_of->wd,seqIndex_neg->we,slot_list_getitem->wg,typeIs_int->wk,wpAny_Call_method_late->wm,call->wq,wpAny_updateSeq_pair->xa,wpAny_letGo->xb,wpAny_isInstance->xc,call_any_walk->xx,pushCells_keeps->ye,wpAny_loadPart'->yi,idxH_unique->yj,Within->yz,wpAny_loadName_local->zc,wpAny_loadName_cell->zd,wpAny_isTrue_Compare1->zf,wpAny_getItem_list_slice->zx,wpAny_comprehension_free->c8,codeAny_compStart_list->d7,wpAny_isOneOf_keyiter->u4
open PySem.Builtin.Dict renaming showsAll->u8
open PySem.Builtin.Dict_items renaming ownsTuple->t7
open PySem.Builtin.Int renaming intBits->c7
open PySem.Builtin.List renaming listTooLong->pf
open PySem.Builtin.Slice renaming slicePlaces->vt,sliceAdjust->zo
open PySem.Builtin.SmallTypes renaming nextOf->ky,ownedTupleIsFree->si,ownedTupleHandOut->i5
open PySem.Builtin.Tuple renaming tupleItemsOf->zp,tupleHashOf->i9
open PySem.Calls renaming evalArgs_plain->qv,callWith_builtin->wn,Name_function_global->ze
open PySem.Challenge renaming pw_scissorhall_k19_whole_cuts->la,rw_scissorhall_k19_whole_cuts->oj
open PySem.F renaming slot_dict_keyiterator_next->qe,slot_tuple_iterator_next->rh,slot_zip_next->sr,slot_tuple_add->vm,entry_tuple_add->vn,args_tuple_add_2->vo,slot_list_append->wo,plainAttrs_list->xq,entry_tuple_iterator_next->d8,args_tuple_iterator_next_1->f6,entry_zip_next->i6,args_zip_next_1->i7,type_list_append->l8,slot_list_iadd->o5,slot_dict_get->o8,entry_dict_keyiterator_next->u5,args_dict_keyiterator_next_1->u6,slot_dict_iter->u7,slot_tuple_index->AA
open PySem.Heap renaming get?_push_of_some->ar,lt_size->ax,get?_push_size->cj,SameBut->iy,size_push->jb,ExtBut->pw,get?_update_self->wj,get?_update_ne->yd,get?_update_other->zu
open PySem.Heap.IsSliceOf renaming new->zq
open PySem.Heap.SameBut renaming update->rp
open PySem.NameKind renaming cell->gh,free->ik
open PySem.Obj renaming mapSeq->ju,data_mapFields->se,isFreed_of_fields->f7,cls_mapFields->g7
open PySem.P renaming truthy_int->zg
open PySem.Paired renaming length->yy
open PySem.PassesOwn renaming never->ym,leaving->yn
open PySem.SeqAt renaming EqAt->jc,RcAt->ni
open PySem.SeqAt.EqAt renaming same->sv,of_refs->xj,int_int->j0
open PySem.SeqAt.RcAt renaming tuples->xi,none_none->j8,bool_bool->j9,int_int->k4,str_str->k7,lists->k8,lists_lengths->l7
open PySem.Str renaming ofString->di
open PySem.Value renaming none->cy,ref->fe,int->lb,bool->oq,str->um
open PySem.W renaming Frag->ae,nsIn->cv,fnOf->dj,keepIn->fm,mg_none_of->gv,kia_one->ir,excIn->iw,kas_sort->iz,codeIn->jg,mg_of->kl,kitOne->lq,OpenLaw->mq,kHook->ql,nsMap_none_of_in->ss,instObj->uo,hideAll->uq,hideAll_get->ur,lookIn->vb,findIn->vd,kitx_list->ve,isNs_of_in->xf,kat_nil->yb,xlAt->yw,recOk->yx,of_hideAll->zb,plainGet->zh,specialIn->zi,kitx_tuple->zj,kitx_dict->zk,cellsFrom_some->zl,nsOkIn->AC,kIn_of->AT
open PySem.W.Hook renaming obs->uh,val->ui
open PySem.W.OpenLaw renaming row->ul,wellSaid->AU
open PySem.W.OpenRow renaming toRowW->uk
open PySem.W.RowW renaming records->uj
open PySem.Walks renaming list->rf,tuple->xy
open Rat renaming intCast_mul->AI,intCast_add->AJ
open Std.Legacy.Range renaming forIn_eq_forIn_range'->AW,size->AX
open Sum renaming inl->om,inr->oo
open True renaming intro->oy
local macro_rules(kind:=Lean.Parser.Command.declaration)
|s=>do if s[0].getArgs.all (·.getNumArgs==0)&&(s[1].isOfKind `Lean.Parser.Command.definition||s[1].isOfKind `Lean.Parser.Command.abbrev) then return s.setArg 0 (<-`(noncomputable def x:=0)).raw[0] else Lean.Macro.throwUnsupported
abbrev AY:=List Int
abbrev AZ:=List AY
abbrev BA:=List AZ
abbrev BB:=List PySem.Value
abbrev BC:=Option PySem.Value
abbrev BD:=Option PySem.Addr
abbrev BE:=Option Int
theorem len1{α:Type}{l:List α}(h:l.length=1):∃a,l=[a]:=List.length_eq_one_iff.mp h
theorem len2{α:Type}:∀{l:List α},l.length=2->∃a b,l=[a,b]
 |[],h=>nomatch h
 |[_],h=>nomatch h
 |[a,b],_=>⟨a,b,rfl⟩
 |_::_::_::_,h=>nomatch h
theorem len3{α:Type}:∀{l:List α},l.length=3->∃a b c,l=[a,b,c]
 |[],h=>nomatch h
 |a::_,h=>have⟨b,c,e⟩:=len2 (Nat.succ.inj h);⟨a,b,c,e▸rfl⟩
theorem len4{α:Type}:∀{l:List α},l.length=4->∃a b c d,l=[a,b,c,d]
 |[],h=>nomatch h
 |a::_,h=>have⟨b,c,d,e⟩:=len3 (Nat.succ.inj h);⟨a,b,c,d,e▸rfl⟩
namespace L2
open PySem
def gR(s:Stmt):Arguments:=match s with
 |.FunctionDef _ a _ _ _ _ _ _ _ _=>a
 |_=>{posonlyargs:=[],args:=[],vararg:=none,kwonlyargs:=[],kw_defaults:=[],kwarg:=none,defaults:=[]}
def eF(s:Stmt):List Stmt:=match s with
 |.FunctionDef _ _ b _ _ _ _ _ _ _=>b
 |_=>[]
def bY(s:Stmt):Scope:=match s with
 |.FunctionDef _ _ _ _ _ _ sc _ _ _=>sc
 |_=>{kind:=.function,names:=[],isGenerator:=false,isCoroutine:=false}
end L2
namespace Sc
section
open PySem L2
def aO(i:Nat):Stmt:=la.main.body.getD i (.Pass ⟨0,0,0,0⟩)
abbrev vs(s:String)(t:Nat):Value:=.str (di s) t
abbrev vi(i:Int):Value:=.int i 0
abbrev vr(a:Nat):Value:=.ref a
abbrev fo(n:String)(i:Nat)(dV dc pm cd ct:Value):Obj:=⟨.type "function",none,.func (dj (di n) (di n) (gR (aO i)) (eF (aO i)) (bY (aO i)) dV .none dc pm none cd ct),#[]⟩
abbrev fc(l:BB):Obj:=⟨.type "code",none,.fields l.toArray,#[]⟩
abbrev Pz(n:String)(t l a r g:Nat)(x:BB):Obj:=fc (vs n t::vs n (t+1)::vs "/claim/cut.py" (t+2)::vi l::vi a::vi 0::vi 0::vi 3::vr r:: .bool true::vi g::vr (r+1):: .none::x)
abbrev dQ(n:String)(t l a r g u:Nat):Obj:=Pz n t l a r g [vr (r+2),vr (r+3),vr (r+4),vi u,vi l,vs "/claim/cut.py" (u+1)]
abbrev eV(n:String)(t l a r g:Nat):Obj:=Pz n t l a r g [.none,.none,vr (r+2),vi (t+3),vi l,vs "/claim/cut.py" (t+4)]
abbrev fd(P:oi)(n:Nat)(l:List (String×Nat×Value)):Obj:=⟨.type "dict",none,.dict (l.map λe=>⟨PyData.keyHash P (di e.1),.str (di e.1) e.2.1,e.2.2⟩).toArray n,#[]⟩
abbrev vLq:Value:=vs "law_scissorhall_k19_whole_cuts" 431
abbrev fzq (n:String)(i:Nat)(m:Value)(r:Nat):Obj:=fo n i .none .none m (vr r) .none
abbrev v0q:Value:=vs "scissorhall.lowest" 255
abbrev v1q:Value:=vs "scissorhall.points" 303
abbrev v2q:Value:=vs "scissorhall.cuts" 376
abbrev v3q:Value:=vs "scissorhall.simplexes" 346
def KK(P:oi):ae:=
 (nat_lit 1,fd P 2 [("builtins",162,vr 4),("__main__",163,vr 5)])::
 (nat_lit 2,⟨.none,none,.dict #[] 0,#[]⟩)::
 (nat_lit 3,fd P 74 [("__name__",165,vs "law_scissorhall_k19_whole_cuts" 431),("__doc__",166,.none),("__package__",167,.none),("__loader__",168,(.builtin "__main__.__loader__#opaque")),("__spec__",169,.none),("__annotations__",170,vr 6),("__builtins__",171,vr 4),("__file__",173,vs "/claim/cut.py" 172),("__cached__",174,.none),("HallError",206,vr 24),("NoNumber",222,vr 37),("NoPoint",238,vr 49),("Flat",254,vr 61),("sign",263,vr 70),("divisor",272,vr 77),("reduced",278,vr 82),("fraction",288,vr 90),("plus",296,vr 97),("total",302,vr 102),("point",311,vr 108),("whole_arrow",317,vr 113),("dot",323,vr 118),("normal",332,vr 125),("determinant",338,vr 130),("side",345,vr 137),("simplex",356,vr 144),("replaced",365,vr 151),("extent",375,vr 158),("height",385,vr 165),("crossing",391,vr 170),("parted",404,vr 177),("heights_of",410,vr 182),("cut",422,vr 189),("size",430,vr 194),("_law_row",445,vr 201),("_law_take",454,vr 208),("_law_gcd",462,vr 215),("_law_lowest",468,vr 220),("_law_upward",474,vr 225),("_law_whole",481,vr 232),("_law_wholes",487,vr 237),("_law_frac",495,vr 244),("_law_sum",503,vr 251),("_law_joined",509,vr 256),("_law_gap",515,vr 261),("_law_cross",526,vr 268),("_law_dot",532,vr 273),("_law_turn",539,vr 280),("_law_det",545,vr 285),("_law_simplex",553,vr 292),("_law_bulk",562,vr 299),("_law_heap_bulk",571,vr 306),("_law_flat_line",579,vr 313),("_law_space_line",587,vr 320),("_law_plane",593,vr 325),("_law_shuts",604,vr 332),("_law_put",613,vr 339),("_law_mark",630,vr 346),("_law_same",636,vr 351),("_law_point_form",644,vr 358),("_law_simplex_form",650,vr 363),("_law_heap_form",656,vr 368),("_law_raw",662,vr 373),("_law_raw_turn",668,vr 378),("_law_kuhn",680,vr 385),("_law_raw_heap",692,vr 392),("_law_far",698,vr 397),("_law_stretch",709,vr 404),("_law_spot",715,vr 409),("_law_laid",721,vr 414),("_law_handed",729,vr 421),("_law_blade",735,vr 426),("_law_some_blade",749,vr 433),("law",755,vr 438)])::
 (nat_lit 4,⟨.type "module",(some 0),.plain,#[]⟩)::
 (nat_lit 23,fd P 3 [("__module__",196,vs "scissorhall.errors" 187),("__firstlineno__",200,(.int 2 199)),("__static_attributes__",201,vr 22),("__weakref__",203,vr 25),("__doc__",204,.none)])::
 (nat_lit 24,⟨(.type "type"),none,.cls {name:="HallError",bases:=[(.type "ValueError")],mro:=[vr 24,(.type "ValueError"),(.type "Exception"),(.type "BaseException"),(.type "object")],ns:=23,qualname:="HallError",hasDict:=true,subclasses:=[vr 37,vr 49,vr 61]},#[some (vr 15),none,some (vs "HallError" 189),some (vs "HallError" 197),some (.builtin "ValueError.__new__"),some (.bool true)]⟩)::
 (nat_lit 36,fd P 2 [("__module__",214,vs "scissorhall.errors" 187),("__firstlineno__",218,(.int 4 217)),("__static_attributes__",219,vr 35),("__doc__",220,.none)])::
 (nat_lit 37,⟨(.type "type"),none,.cls {name:="NoNumber",bases:=[vr 24],mro:=[vr 37,vr 24,(.type "ValueError"),(.type "Exception"),(.type "BaseException"),(.type "object")],ns:=36,qualname:="NoNumber",hasDict:=true,subclasses:=[]},#[some (vr 28),none,some (vs "NoNumber" 207),some (vs "NoNumber" 215),some (.builtin "ValueError.__new__"),some (.bool true)]⟩)::
 (nat_lit 48,fd P 2 [("__module__",230,vs "scissorhall.errors" 187),("__firstlineno__",234,(.int 6 233)),("__static_attributes__",235,vr 47),("__doc__",236,.none)])::
 (nat_lit 49,⟨(.type "type"),none,.cls {name:="NoPoint",bases:=[vr 24],mro:=[vr 49,vr 24,(.type "ValueError"),(.type "Exception"),(.type "BaseException"),(.type "object")],ns:=48,qualname:="NoPoint",hasDict:=true,subclasses:=[]},#[some (vr 40),none,some (vs "NoPoint" 223),some (vs "NoPoint" 231),some (.builtin "ValueError.__new__"),some (.bool true)]⟩)::
 (nat_lit 60,fd P 2 [("__module__",246,vs "scissorhall.errors" 187),("__firstlineno__",250,(.int 8 249)),("__static_attributes__",251,vr 59),("__doc__",252,.none)])::
 (nat_lit 61,⟨(.type "type"),none,.cls {name:="Flat",bases:=[vr 24],mro:=[vr 61,vr 24,(.type "ValueError"),(.type "Exception"),(.type "BaseException"),(.type "object")],ns:=60,qualname:="Flat",hasDict:=true,subclasses:=[]},#[some (vr 52),none,some (vs "Flat" 239),some (vs "Flat" 247),some (.builtin "ValueError.__new__"),some (.bool true)]⟩)::
 (nat_lit 69,dQ "sign" 257 11 1 64 181 261)::
 (nat_lit 70,fzq "sign" 6 v0q 69)::
 (nat_lit 76,dQ "divisor" 264 17 2 71 181 270)::
 (nat_lit 77,fzq "divisor" 7 v0q 76)::
 (nat_lit 81,eV "reduced" 273 23 1 78 181)::
 (nat_lit 82,fzq "reduced" 8 v0q 81)::
 (nat_lit 83,⟨.type "tuple",none,.seq #[(.int 1 279)] 0,#[]⟩)::
 (nat_lit 89,dQ "fraction" 280 28 2 84 181 286)::
 (nat_lit 90,fo "fraction" 9 (vr 83) .none v0q (vr 89) .none)::
 (nat_lit 96,dQ "plus" 289 33 2 91 181 294)::
 (nat_lit 97,fzq "plus" 10 v0q 96)::
 (nat_lit 101,eV "total" 297 35 1 98 181)::
 (nat_lit 102,fzq "total" 11 v0q 101)::
 (nat_lit 103,⟨.type "tuple",none,.seq #[(.int 1 305)] 0,#[]⟩)::
 (nat_lit 107,eV "point" 306 41 2 104 181)::
 (nat_lit 108,fo "point" 13 (vr 103) .none v1q (vr 107) .none)::
 (nat_lit 112,eV "whole_arrow" 312 45 2 109 181)::
 (nat_lit 113,fzq "whole_arrow" 14 v1q 112)::
 (nat_lit 117,eV "dot" 318 47 2 114 181)::
 (nat_lit 118,fzq "dot" 15 v1q 117)::
 (nat_lit 124,dQ "normal" 324 49 1 119 181 330)::
 (nat_lit 125,fzq "normal" 16 v1q 124)::
 (nat_lit 129,eV "determinant" 333 55 1 126 181)::
 (nat_lit 130,fzq "determinant" 17 v1q 129)::
 (nat_lit 136,dQ "side" 339 58 1 131 181 343)::
 (nat_lit 137,fzq "side" 18 v1q 136)::
 (nat_lit 143,dQ "simplex" 348 61 1 138 181 354)::
 (nat_lit 144,fzq "simplex" 20 v3q 143)::
 (nat_lit 150,dQ "replaced" 357 69 3 145 181 363)::
 (nat_lit 151,fzq "replaced" 21 v3q 150)::
 (nat_lit 157,dQ "extent" 366 71 1 152 181 373)::
 (nat_lit 158,fzq "extent" 22 v3q 157)::
 (nat_lit 164,dQ "height" 378 78 2 159 181 383)::
 (nat_lit 165,fzq "height" 24 v2q 164)::
 (nat_lit 169,eV "crossing" 386 80 4 166 181)::
 (nat_lit 170,fzq "crossing" 25 v2q 169)::
 (nat_lit 176,dQ "parted" 392 83 2 171 181 402)::
 (nat_lit 177,fzq "parted" 26 v2q 176)::
 (nat_lit 181,eV "heights_of" 405 93 2 178 181)::
 (nat_lit 182,fzq "heights_of" 27 v2q 181)::
 (nat_lit 188,dQ "cut" 411 95 2 183 181 420)::
 (nat_lit 189,fzq "cut" 28 v2q 188)::
 (nat_lit 193,eV "size" 425 106 1 190 181)::
 (nat_lit 194,fzq "size" 30 (vs "scissorhall.heaps" 423) 193)::
 (nat_lit 200,dQ "_law_row" 433 109 1 195 181 443)::
 (nat_lit 201,fzq "_law_row" 32 vLq 200)::
 (nat_lit 207,dQ "_law_take" 446 123 2 202 181 452)::
 (nat_lit 208,fzq "_law_take" 33 vLq 207)::
 (nat_lit 214,dQ "_law_gcd" 455 131 2 209 181 460)::
 (nat_lit 215,fzq "_law_gcd" 34 vLq 214)::
 (nat_lit 219,eV "_law_lowest" 463 137 1 216 181)::
 (nat_lit 220,fzq "_law_lowest" 35 vLq 219)::
 (nat_lit 224,eV "_law_upward" 469 144 1 221 181)::
 (nat_lit 225,fzq "_law_upward" 36 vLq 224)::
 (nat_lit 231,dQ "_law_whole" 475 152 1 226 181 479)::
 (nat_lit 232,fzq "_law_whole" 37 vLq 231)::
 (nat_lit 236,eV "_law_wholes" 482 154 2 233 181)::
 (nat_lit 237,fzq "_law_wholes" 38 vLq 236)::
 (nat_lit 243,dQ "_law_frac" 488 158 2 238 181 493)::
 (nat_lit 244,fzq "_law_frac" 39 vLq 243)::
 (nat_lit 250,dQ "_law_sum" 496 162 2 245 181 501)::
 (nat_lit 251,fzq "_law_sum" 40 vLq 250)::
 (nat_lit 255,eV "_law_joined" 504 164 3 252 181)::
 (nat_lit 256,fzq "_law_joined" 41 vLq 255)::
 (nat_lit 260,eV "_law_gap" 510 167 2 257 181)::
 (nat_lit 261,fzq "_law_gap" 42 vLq 260)::
 (nat_lit 267,dQ "_law_cross" 516 169 2 262 181 524)::
 (nat_lit 268,fzq "_law_cross" 43 vLq 267)::
 (nat_lit 272,eV "_law_dot" 527 174 2 269 181)::
 (nat_lit 273,fzq "_law_dot" 44 vLq 272)::
 (nat_lit 279,dQ "_law_turn" 533 176 1 274 181 537)::
 (nat_lit 280,fzq "_law_turn" 45 vLq 279)::
 (nat_lit 284,eV "_law_det" 540 180 1 281 181)::
 (nat_lit 285,fzq "_law_det" 46 vLq 284)::
 (nat_lit 291,dQ "_law_simplex" 546 182 1 286 181 551)::
 (nat_lit 292,fzq "_law_simplex" 47 vLq 291)::
 (nat_lit 298,dQ "_law_bulk" 554 187 1 293 181 560)::
 (nat_lit 299,fzq "_law_bulk" 48 vLq 298)::
 (nat_lit 305,dQ "_law_heap_bulk" 563 192 1 300 181 569)::
 (nat_lit 306,fzq "_law_heap_bulk" 49 vLq 305)::
 (nat_lit 312,dQ "_law_flat_line" 572 197 2 307 181 577)::
 (nat_lit 313,fzq "_law_flat_line" 50 vLq 312)::
 (nat_lit 319,dQ "_law_space_line" 580 199 2 314 181 585)::
 (nat_lit 320,fzq "_law_space_line" 51 vLq 319)::
 (nat_lit 324,eV "_law_plane" 588 201 3 321 181)::
 (nat_lit 325,fzq "_law_plane" 52 vLq 324)::
 (nat_lit 331,dQ "_law_shuts" 594 204 1 326 181 602)::
 (nat_lit 332,fzq "_law_shuts" 53 vLq 331)::
 (nat_lit 338,dQ "_law_put" 605 207 3 333 181 611)::
 (nat_lit 339,fzq "_law_put" 54 vLq 338)::
 (nat_lit 345,dQ "_law_mark" 614 209 3 340 181 628)::
 (nat_lit 346,fzq "_law_mark" 55 vLq 345)::
 (nat_lit 350,eV "_law_same" 631 232 2 347 181)::
 (nat_lit 351,fzq "_law_same" 56 vLq 350)::
 (nat_lit 357,dQ "_law_point_form" 637 239 2 352 181 642)::
 (nat_lit 358,fzq "_law_point_form" 57 vLq 357)::
 (nat_lit 362,eV "_law_simplex_form" 645 243 2 359 181)::
 (nat_lit 363,fzq "_law_simplex_form" 58 vLq 362)::
 (nat_lit 367,eV "_law_heap_form" 651 249 2 364 181)::
 (nat_lit 368,fzq "_law_heap_form" 59 vLq 367)::
 (nat_lit 372,eV "_law_raw" 657 253 3 369 181)::
 (nat_lit 373,fzq "_law_raw" 60 vLq 372)::
 (nat_lit 377,eV "_law_raw_turn" 663 260 1 374 181)::
 (nat_lit 378,fzq "_law_raw_turn" 61 vLq 377)::
 (nat_lit 384,dQ "_law_kuhn" 669 262 1 379 181 678)::
 (nat_lit 385,fzq "_law_kuhn" 62 vLq 384)::
 (nat_lit 391,dQ "_law_raw_heap" 681 274 3 386 181 690)::
 (nat_lit 392,fzq "_law_raw_heap" 63 vLq 391)::
 (nat_lit 396,eV "_law_far" 693 287 2 393 181)::
 (nat_lit 397,fzq "_law_far" 64 vLq 396)::
 (nat_lit 403,dQ "_law_stretch" 699 293 2 398 181 707)::
 (nat_lit 404,fzq "_law_stretch" 65 vLq 403)::
 (nat_lit 408,eV "_law_spot" 710 299 2 405 181)::
 (nat_lit 409,fzq "_law_spot" 66 vLq 408)::
 (nat_lit 413,eV "_law_laid" 716 305 3 410 181)::
 (nat_lit 414,fzq "_law_laid" 67 vLq 413)::
 (nat_lit 420,dQ "_law_handed" 722 311 2 415 181 727)::
 (nat_lit 421,fzq "_law_handed" 68 vLq 420)::
 (nat_lit 425,eV "_law_blade" 730 315 1 422 181)::
 (nat_lit 426,fzq "_law_blade" 69 vLq 425)::
 (nat_lit 432,dQ "_law_some_blade" 736 321 3 427 181 747)::
 (nat_lit 433,fzq "_law_some_blade" 70 vLq 432)::
 (nat_lit 437,eV "law" 750 334 1 434 181)::
 (nat_lit 438,fzq "law" 71 vLq 437)::[]
def KA:List Nat:=[1,2,3,4,23,24,36,37,48,49,60,61,69,70,76,77,81,82,83,89,90,96,97,101,102,103,107,108,112,113,117,118,124,125,129,130,136,137,143,144,150,151,157,158,164,165,169,170,176,177,181,182,188,189,193,194,200,201,207,208,214,215,219,220,224,225,231,232,236,237,243,244,250,251,255,256,260,261,267,268,272,273,279,280,284,285,291,292,298,299,305,306,312,313,319,320,324,325,331,332,338,339,345,346,350,351,357,358,362,363,367,368,372,373,377,378,384,385,391,392,396,397,403,404,408,409,413,414,420,421,425,426,432,433,437,438]
def VW:Program:={la with main:={la.main with body:=[aO 1,aO 2,aO 3,aO 4,aO 6,aO 7,aO 8,aO 10,aO 11,aO 14,aO 15,aO 16,aO 17,aO 18,aO 20,aO 21,aO 22,aO 24,aO 25,aO 26,aO 27,aO 28,aO 30,aO 32,aO 33,aO 34,aO 35,aO 36,aO 37,aO 38,aO 39,aO 40,aO 41,aO 42,aO 43,aO 44,aO 45,aO 46,aO 47,aO 48,aO 49,aO 50,aO 51,aO 52,aO 53,aO 54,aO 55,aO 56,aO 57,aO 58,aO 59,aO 60,aO 61,aO 62,aO 63,aO 64,aO 65,aO 66,aO 67,aO 68,aO 69,aO 70,aO 71]}}
theorem KE:∀P,KA=(KK P).map (·.1):=λ_=>by kernel_rfl
theorem wsaid:AU oj=true:=by kernel_rfl
open PySem.W PyProof.Rows PySem.Spec
abbrev RN(w:am):=openEnds treeTable la w 5460
abbrev LW:=looseW VW [di "fraction",di "point"]
theorem aeN:∀w,(RN w).map (λs=>uh (ql KK KA KE) s)=some (ui (ql KK KA KE) w):=by
 intro w
 kernel_rfl
theorem aez:∀w,(RN w).map (λs=>seen ((recsOf VW).map (·.name)) (ownsOf VW) [] {s with gens:=#[]})=some (expectedOf VW):=by
 intro w
 kernel_rfl
theorem aeS:∀w,(RN w).map (λs=>s.heap.bltView)=some (bltViewBooted):=by
 intro w
 kernel_rfl
theorem afo:∀w,(RN w).map (λs=>s.heap.keysOk LW ((recsOf VW).map (·.name)) ((litsOf VW).map (·.1)) ((clssOf VW LW).map (·.name)))=some (true):=by
 intro w
 kernel_rfl
theorem afx:∀w,(RN w).map (λs=>s.heap.accountedOkI (importedModules la.main.body)&&(s.heap.isNs mainGlobals&&s.heap.isNs builtinsNs&&tablesOk VW s.heap)&&((λs=>yw VW [] s&&yx (uj (uk (ul oj))) s) s&&(s.gens.size==0)))=some (true):=by
 intro w
 kernel_rfl
theorem afI:∀w,(RN w).map (λs=>tabsOk VW s)=some (true):=by
 intro w
 kernel_rfl
theorem ae4:∀w,(RN w).map (λs=>(pinSeenD VW (drecsOf VW) s,plainSeenD VW [di "fraction",di "point"] s,clsSeenW VW [di "fraction",di "point"] s))=some (pinGoodD (drecsOf VW),plainGoodD VW [di "fraction",di "point"],clsGoodW VW [di "fraction",di "point"]):=by
 intro w
 kernel_rfl
theorem afk:∀w,(RN w).map (λs=>plainSeenE VW LW s)=some (plainGoodE VW LW):=by
 intro w
 kernel_rfl
theorem afb:∀w,(RN w).map (λs=>wideSeen VW s)=some (wideGood VW):=by
 intro w
 kernel_rfl
theorem bz  (h:k=true)(h2:(a&&(n&&m&&t)&&(x&&g))=true):(k&&a&&n&&m&&t&&x&&g)=true:=by grind
theorem afT{A B C P Q R T V Y:Type}{o:Option aa}{y:Y}{G:aa->Y}{k a n m t x g f:aa->Bool}{b:aa->B}{c:aa->C}{p:aa->P}{q:aa->Q}{r:aa->R}{u:aa->T}{v:aa->V}{b':B}{c':C}{p':P}{q':Q}{r':R}{u':T}{v':V}(hA:o.map G=some y)(hB:o.map b=some b')(hC:o.map c=some c')(hD:o.map k=some true)(hE:o.map (λs=>a s&&(n s&&m s&&t s)&&(x s&&g s))=some true)(hF:o.map f=some true)
  (hG:o.map (λs=>(p s,q s,r s))=some (p',q',r'))(hH:o.map u=some u')(hI:o.map v=some v'):o.map (λs=>((b s,c s,(k s&&a s&&n s&&m s&&t s&&x s&&g s),f s,p s,u s,q s,v s,r s),G s))=some ((b',c',true,true,p',u',q',v',r'),y):=by
 cases o<;>simp_all
theorem left:LeftO la VW [di "fraction",di "point"] (λs=>yw VW [] s&&yx (uj (uk (ul oj))) s) (uh (ql KK KA KE)) (ui (ql KK KA KE)) 5460:=λw=>afT (A:=Nat) (aeN w) (aez w) (aeS w) (afo w) (afx w) (afI w) (ae4 w) (afk w) (afb w)
end
end Sc
set_option maxHeartbeats 200000
set_option Elab.async false
set_option compiler.extract_closed false
set_option bootstrap.genMatcherCode false
set_option linter.all false
set_option maxRecDepth 100000
namespace L2
open PySem PySem.Spec PyProof.Rows
abbrev iU:=Sum Int Str
def Rx:iU->Value->Bool
 |.inl k,v=>Value.isInt k v
 |.inr x,v=>Value.isStrOf x v
def af7(w:am):iU->Int
 |.inl k=>hashInt k
 |.inr x=>hashStr w x
theorem mQ:∀{k:iU}{v:Value},Rx k v=true->(∃i t,k=om i/\v=lb i t)\/(∃x t,k=oo x/\v=um x t)
 |.inl i,v,h=>by
  obtain⟨t,e⟩:=Value.isInt_shape   h;exact .inl ⟨i,t,rfl,e⟩
 |.inr x,v,h=>by
  obtain⟨t,e⟩:=Value.isStrOf_shape   h;exact .inr ⟨x,t,rfl,e⟩
theorem adN(a b:Int):decide ((om a:iU)=om b)=(a==b):=by
 by_cases e:a=b
 .simp_all
 simp_all
theorem aeq(a b:Str):decide ((oo a:iU)=oo b)=decide (a=b):=by
 simp_all
theorem ac6(a:Int)(b:Str):decide ((om a:iU)=oo b)=false:=rfl
theorem adP(a:Str)(b:Int):decide ((oo a:iU)=om b)=false:=rfl
def Zd(prog:Program)(w:am):PySem.KeyKind prog w iU where
 is:=Rx
 hash:=af7 w
 inj:=λv a b ha hb=>by
  rcases mQ ha with⟨i,t,rfl,rfl⟩|⟨x,t,rfl,rfl⟩
  .rcases mQ hb with⟨j,u,rfl,e⟩|⟨y,u,rfl,e⟩
   .injection e with e1 _;rw[e1]
   .exact nomatch e
  .rcases mQ hb with⟨j,u,rfl,e⟩|⟨y,u,rfl,e⟩
   .exact nomatch e
   .injection e with e1 _;rw[e1]
 byValue:=λk v h=>by
  rcases mQ h with⟨i,t,rfl,rfl⟩|⟨x,t,rfl,rfl⟩<;>rfl
 pyHash:=λhv h=>by
  rcases mQ hv with⟨i,t,rfl,rfl⟩|⟨x,t,rfl,rfl⟩
  .exact wpAny_pyHash_int h
  .exact wpAny_pyHash_str h
 eqBool:=λhu hv h=>by
  rcases mQ hu with⟨i,t,rfl,rfl⟩|⟨x,t,rfl,rfl⟩
  .rcases mQ hv with⟨j,u,rfl,rfl⟩|⟨y,u,rfl,rfl⟩
   .rw[adN]at h;exact wpAny_eqBool_int h
   .rw[ac6]at h;exact SeqAt.EqAt.int_str i t y u _ _ _ _ h
  .rcases mQ hv with⟨j,u,rfl,rfl⟩|⟨y,u,rfl,rfl⟩
   .rw[adP]at h;exact SeqAt.EqAt.str_int x t j u _ _ _ _ h
   .rw[aeq]at h;exact wpAny_eqBool_str h
 «strs»:=λk x t v h=>by
  rcases mQ h with⟨i,u,rfl,e⟩|⟨y,u,rfl,e⟩
  .exact nomatch e
  .injection e with e1 _
   subst e1;cases v<;>rfl
inductive V where
 |non |bl (b:Bool) |int (i:Int) |str (x:Str) |byt (b:Array UInt8) |flt (b:UInt64) |ref (a:Addr) |ty (n:String)
 deriving DecidableEq
def bJ:V->Value->Prop
 |.non,u=>u=cy
 |.bl b,u=>u=oq b
 |.int i,u=>∃t,u=lb i t
 |.str x,u=>∃t,u=um x t
 |.byt b,u=>∃t,u=Value.bytes b t
 |.flt b,u=>∃t,u=Value.float b t
 |.ref a,u=>u=fe a
 |.ty n,u=>u=Value.type n
abbrev aW:List V->BB->Prop:=ib bJ
theorem aW.length   (r:aW xs us):xs.length=us.length:=yy r
theorem aW.get:∀{xs:List V}{us:BB}{i:Nat}{x:V},aW xs us->xs[i]?=some x->∃u,us[i]?=some u/\bJ x u
 |_,_,_,_,.nil,e=>by simp at e
 |_,_,0,_,.cons r _,e=>by simp at e;subst e;exact⟨_,rfl,r⟩
 |_,_,i+1,x,.cons _ t,e=>by
  obtain⟨u,h1,h2⟩:=aW.get   t (by simpa using e);exact⟨u,by simpa using h1,h2⟩
theorem aW.set   (r:bJ x u):∀{xs:List V}{us:BB}(i:Nat),aW xs us->aW (xs.set i x) (us.set i u)
 |_,_,_,.nil=>.nil
 |_,_,0,.cons _ t=>.cons r t
 |_,_,i+1,.cons q t=>.cons q (aW.set r i t)
theorem aW.append:∀{xs ys:List V}{us ws:BB},aW xs us->aW ys ws->aW (xs++ys) (us++ws)
 |_,_,_,_,.nil,s=>s
 |_,_,_,_,.cons r t,s=>.cons r (aW.append t s)
theorem aW.take:∀{xs:List V}{us:BB}(n:Nat),aW xs us->aW (xs.take n) (us.take n)
 |_,_,0,_=>.nil
 |_,_,_+1,.nil=>.nil
 |_,_,n+1,.cons r t=>.cons r (aW.take n t)
theorem aW.drop:∀{xs:List V}{us:BB}(n:Nat),aW xs us->aW (xs.drop n) (us.drop n)
 |_,_,0,r=>r
 |_,_,_+1,.nil=>.nil
 |_,_,n+1,.cons _ t=>aW.drop n t
def Bi:Option V->BC->Prop
 |some v,some u=>bJ v u
 |none,none=>True
 |_,_=>False
def KV:List (κ×V)->List (κ×Value)->Prop:=ib λ(p:κ×V) (q:κ×Value)=>p.1=q.1/\bJ p.2 q.2
def kV:iU->V
 |.inl i=>.int i
 |.inr x=>.str x
inductive HO where
 /--a list -/
 |lst (xs:List V)
 /--a tuple (never changes) -/
 |tup (xs:List V)
 /--a dict whose keys are ints and texts;one whose keys are tuples of ints and texts (the empty one is both) -/
 |dK (kvs:List (iU×V)) |dT (kvs:List (List iU×V))
 /--a set of ints:its members,its size -/
 |set (S:Int->Bool) (n:Nat)
 /--an instance of the class at C,its dict at dx,its attributes -/
 |ins (C dx:Addr) (fs:List (Str×V))
 /--the dict of the instance at x -/
 |own (x:Addr)
 /--the dict of an exception -/
 |xd (fs:List (Str×V))
 /--a bound method,f of x -/
 |met (f x:Addr)
 /--a range object lo,lo+1,.. below hi -/
 |rng (lo hi:Int)
 /--a thing that is known to the object (the script;a dict while a loop walks it):read,never written while it is so -/
 |frz (o:Obj) (u:HO)
 /--a code object's table -/
 |tbl (ps:Array Value)
 /--any other thing,by what is true of its one object (a def of one's own:SetO a S n:=HO.ext λh=>..) -/
 |ext (φ:Heap->Prop)
abbrev Hp:=Addr->Option HO
def aT(H:Hp)(a:Addr)(o:HO):Hp:=λb=>if b=a then some o else H b
theorem fP   :aT H a o a=some o:=by unfold aT;simp_all
theorem bQ  {a b:Addr}{o:HO}(h:b≠a):aT H a o b=H b:=by unfold aT;simp_all
theorem gH{H:Hp}{a b:Addr}{o:HO}(h:H a=some o)(h':H b=none):a≠b:=by
 intro e;simp_all
section
variable(P:Program)(w:am)
def fQ(H:Hp)(h:Heap)(a:Addr):HO->Prop
 |.lst xs=>xs.length<=sizeLine/\∃(its:BB)(n:Nat),aW xs its/\h.get? a=some {cls:=.type "list",data:=.seq its.toArray n}
 |.tup xs=>(xs.length<=sizeLine/\∃o,h.get? a=some o/\o.dict=none)/\∃its:BB,aW xs its/\IsTup h a its.toArray
 |.dK kvs=>kvs.length<=sizeLine/\(a==sysModules)=false/\∃vs,KV kvs vs/\h.DictOf (Zd P w) a vs
 |.dT kvs=>kvs.length<=sizeLine/\(a==sysModules)=false/\∃xs:List (List iU×Addr×Value),
   ib (λ(p:List iU×V) (q:List iU×Addr×Value)=>p.1=q.1/\H q.2.1=some (.tup (p.1.map kV))/\bJ p.2 q.2.2) kvs xs/\
   ∃o es ep,h.get? a=some o/\o.ExactDict/\o.data=.dict es ep/\es.toList=xs.map (entryOfKey (tupleKind (Zd P w)))/\(xs.map (·.1)).Nodup
 |.set S n=>h.SetOf (intKind P w) a S n
 |.ins C dx fs=>H dx=some (.own a)/\fs.length<=1000/\dx≠a/\h.get? a=some (uo C dx)/\
   ∃mA,h.Ns1 dx mA/\(∀f,Bi (fs.lookup f) (mA f))/\yz mA (fs.map (·.1))
 |.own _=>∃o,h.get? a=some o
 |.xd fs=>∃mA,h.Ns1 a mA/\∀f,Bi (fs.lookup f) (mA f)
 |.rng lo hi=>∃t u v,h.get? a=some {cls:=.type "range",data:=.fields #[.int lo t,.int hi u,.int 1 v]}
 |.frz o u=>h.get? a=some o/\fQ H h a u
 |.tbl ps=>h.get? a=some {cls:=.none,data:=.fields ps}
 |.met f x=>h.get? a=some (PySem.W.methodObj (.ref f) (.ref x))
 |.ext φ=>φ h/\(∃o,h.get? a=some o)/\∀h1 h2:Heap,φ h1->(∀o,h1.get? a=some o->h2.get? a=some o)->φ h2
def fK(H:Hp)(h:Heap):Prop:=∀a o,H a=some o->fQ P w H h a o
end
section
variable{P:Program}{w:am}{H H':Hp}{h h':Heap}{a:Addr}{o:HO}
theorem fQ.lt(x:fQ P w H h a o):a<h.objs.size:=by
 cases o with
 |lst xs=>obtain⟨_,_,_,_,e⟩:=x;exact ax e
 |tup xs=>obtain⟨_,_,_,p⟩:=x;exact p.lt
 |dK kvs=>obtain⟨_,_,_,_,o,_,_,e,_⟩:=x;exact ax e
 |dT kvs=>obtain⟨_,_,_,_,o,_,_,e,_⟩:=x;exact ax e
 |set S n=>obtain⟨o,_,_,_,e,_⟩:=x;exact ax e
 |ins C dx fs=>obtain⟨_,_,_,e,_⟩:=x;exact ax e
 |own y=>obtain⟨_,e⟩:=x;exact ax e
 |xd fs=>obtain⟨_,⟨_,_,_,e,_⟩,_⟩:=x;exact ax e
 |rng lo hi=>obtain⟨_,_,_,e⟩:=x;exact ax e
 |frz ob u=>obtain⟨e,_⟩:=x;exact ax e
 |tbl ps=>exact ax (show h.get? a=some _ from x)
 |met f y=>exact ax (show h.get? a=some _ from x)
 |ext φ=>obtain⟨_,⟨_,e⟩,_⟩:=x;exact ax e
theorem Paired.mapP  :∀{l₁:List α}{l₂:List β},ib F l₁ l₂->(∀a b,F a b->G a b)->ib G l₁ l₂
 |_,_,.nil,_=>.nil
 |_,_,.cons r t,f=>.cons (f _ _ r) (Paired.mapP t f)
theorem fQ.stay(x:fQ P w H h a o)(k:∀b u,(b=a\/H b=some (.own a))->h.get? b=some u->h'.get? b=some u)
  (ho:∀b,H b=some (.own a)->H' b=some (.own a))(ht:∀b xs,H b=some (.tup xs)->H' b=some (.tup xs)):fQ P w H' h' a o:=by
 induction o with
 |lst xs=>obtain⟨z,its,n,r,e⟩:=x;exact⟨z,its,n,r,k _ _ (.inl rfl) e⟩
 |tup xs=>obtain⟨⟨z,o9,e9,d9⟩,its,r,ob,e,c⟩:=x;exact⟨⟨z,o9,k _ _ (.inl rfl) e9,d9⟩,its,r,ob,k _ _ (.inl rfl) e,c⟩
 |dK kvs=>obtain⟨z,y,vs,r,ob,es,ep,e,c⟩:=x;exact⟨z,y,vs,r,ob,es,ep,k _ _ (.inl rfl) e,c⟩
 |dT kvs=>
  obtain⟨z,y,xs,r,ob,es,ep,e,c⟩:=x;exact⟨z,y,xs,Paired.mapP r λp q z=>⟨z.1,ht _ _ z.2.1,z.2.2⟩,ob,es,ep,k _ _ (.inl rfl) e,c⟩
 |set S n=>obtain⟨ob,es,ep,t,e,c⟩:=x;exact⟨ob,es,ep,t,k _ _ (.inl rfl) e,c⟩
 |ins C dx fs=>
  obtain⟨d,z,ne,e,mA,⟨od,es,ep,e2,c⟩,r⟩:=x;exact⟨ho _ d,z,ne,k _ _ (.inl rfl) e,mA,⟨od,es,ep,k _ _ (.inr d) e2,c⟩,r⟩
 |own y=>obtain⟨ob,e⟩:=x;exact⟨ob,k _ _ (.inl rfl) e⟩
 |xd fs=>obtain⟨mA,⟨od,es,ep,e,c⟩,r⟩:=x;exact⟨mA,⟨od,es,ep,k _ _ (.inl rfl) e,c⟩,r⟩
 |rng lo hi=>obtain⟨t,u,v,e⟩:=x;exact⟨t,u,v,k _ _ (.inl rfl) e⟩
 |frz ob u ih=>obtain⟨e,q⟩:=x;exact⟨k _ _ (.inl rfl) e,ih q⟩
 |tbl ps=>
  have e:=x;exact k a _ (.inl rfl) e
 |met f y=>
  have e:=x;exact k a _ (.inl rfl) e
 |ext φ=>obtain⟨p,⟨o,e⟩,st⟩:=x;exact⟨st _ _ p λo q=>k _ _ (.inl rfl) q,⟨o,k _ _ (.inl rfl) e⟩,st⟩
theorem fK.lt(x:fK P w H h)(e:H a=some o):a<h.objs.size:=(x a o e).lt
theorem fK.fresh(x:fK P w H h)(e:h.objs.size<=a):H a=none:=by
 cases q:H a with
 |none=>rfl
 |some u=>exact absurd (de (x.lt q) e) (ix _)
theorem fK.kept(x:fK P w H h)(k:∀b u,h.get? b=some u->h'.get? b=some u):fK P w H h':=λa o e=>
 (x a o e).stay (λb u _ q=>k b u q) (λ_ q=>q) λ_ _ q=>q
theorem fK.laid(x:fK P w H h)(k:∀b u,h.get? b=some u->h'.get? b=some u)(hp:h.objs.size<=a)(new:fQ P w (aT H a o) h' a o):fK P w (aT H a o) h':=λb u e=>by
 have hn:=x.fresh hp
 by_cases hb:b=a
 .subst hb;rw[fP]at e;simp_all
 .rw[bQ hb]at e
  exact(x b u e).stay (λc v _ q=>k c v q) (λc q=>by rw[bQ (gH q hn)];exact q) λc xs q=>by rw[bQ (gH q hn)];exact q
end
def Rd(H:Hp)(a:Addr)(u:HO):Prop:=H a=some u\/∃o,H a=some (.frz o u)
theorem Rd.ok   {H:Hp}{h:Heap}{a:Addr}{u:HO}(r:Rd H a u)(x:fK P w H h):fQ P w H h a u:=by
 rcases r with r |⟨o,r⟩
 .exact x a u r
 .obtain⟨_,q⟩:=x a _ r
  exact q
def Ma:Option HO->Prop
 |some (.lst _)=>True
 |some (.dK _)=>True
 |some (.dT _)=>True
 |some (.set _ _)=>True
 |some (.ins _ _ _)=>True
 |some (.ext _)=>True
 |_=>False
section
variable{P:Program}{w:am}{H:Hp}{h h':Heap}{x e:Addr}{o':HO}
theorem fK.write(ok:fK P w H h)(mu:Ma (H x))(he:e=x\/H e=some (.own x))(k:∀b u,b≠e->h.get? b=some u->h'.get? b=some u)(heo:∃u,h'.get? e=some u)
  (new:fQ P w (aT H x o') h' x o'):fK P w (aT H x o') h':=λb u q=>by
 have nown:∀c y,H c=some (.own y)->c≠x:=λc y r z=>by subst z;rw[r]at mu;exact mu
 have ntup:∀c xs,H c=some (.tup xs)->c≠x:=λc xs r z=>by subst z;rw[r]at mu;exact mu
 by_cases hb:b=x
 .subst hb;rw[fP]at q;cases q;exact new
 .rw[bQ hb]at q
  by_cases hbe:b=e
  .have q':H b=some (.own x):=by
    rcases he with z |z
    .exact absurd (hbe.trans z) hb
    .rw[hbe];exact z
   rw[q]at q';cases q';obtain⟨v,hv⟩:=heo;exact⟨v,by rw[hbe];exact hv⟩
  .refine(ok b u q).stay (λc v hc r=>k c v ?_ r) (λc r=>by rw[bQ (nown c b r)];exact r) λc xs r=>by rw[bQ (ntup c xs r)];exact r
   grind
end
structure Un(fs ex:List Addr)(H H':Hp)(h h':Heap):Prop where
 keep:∀b o,h.get? b=some o->H b=none->b∉fs->b∉ex->h'.get? b=some o
 slot:∀b o,h.get? b=some o->H b=none->b∈fs->b∉ex->∃sl,h'.get? b=some {o with slots:=sl}
 free:∀b o,h.get? b=some o->H b=none->b∉ex->H' b=none
 there:∀b o,h.get? b=some o->b∉ex->∃o',h'.get? b=some o'
 tups:∀b xs,H b=some (.tup xs)->H' b=some (.tup xs)
 frzs:∀b o u,H b=some (.frz o u)->H' b=some (.frz o u)
 tbls:∀b ps,H b=some (.tbl ps)->∃more,H' b=some (.tbl (ps++more))
section
variable{fs ex:List Addr}{H H1 H2:Hp}{h h1 h2 h':Heap}{a x e:Addr}{o:HO}
theorem Un.any(u:Un fs ex H H1 h h1){b:Addr}{ob:Obj}(q:h.get? b=some ob)(n:H b=none)(hx:b∉ex):∃sl,h1.get? b=some {ob with slots:=sl}:=by
 by_cases hb:b∈fs
 .exact u.slot b _ q n hb hx
 .exact⟨ob.slots,u.keep b _ q n hb hx⟩
theorem Un.trans(a:Un fs ex H H1 h h1)(b:Un fs ex H1 H2 h1 h2):Un fs ex H H2 h h2 where
 keep:=λc ob q n hc hx=>b.keep c _ (a.keep c _ q n hc hx) (a.free c _ q n hx) hc hx
 slot:=λc ob q n hc hx=>by
  obtain⟨sl,e1⟩:=a.slot c _ q n hc hx;obtain⟨sl',e2⟩:=b.slot c _ e1 (a.free c _ q n hx) hc hx;exact⟨sl',e2⟩
 free:=λc ob q n hx=>by
  obtain⟨o',e1⟩:=a.there c _ q hx;exact b.free c _ e1 (a.free c _ q n hx) hx
 there:=λc ob q hx=>by
  obtain⟨o',e1⟩:=a.there c _ q hx;exact b.there c _ e1 hx
 tups:=λc xs q=>b.tups c _ (a.tups c _ q)
 frzs:=λc ob xs q=>b.frzs c _ _ (a.frzs c _ _ q)
 tbls:=λc ps q=>by
  obtain⟨m1,e1⟩:=a.tbls c _ q;obtain⟨m2,e2⟩:=b.tbls c _ e1;exact⟨m1++m2,by simp_all ⟩
theorem Un.kept(k:∀b u,h.get? b=some u->h'.get? b=some u):Un fs ex H H h h':=
 ⟨λb ob q _ _ _=>k b _ q,λb ob q _ _ _=>⟨ob.slots,k b ob q⟩,λ_ _ _ n _=>n,λb ob q _=>⟨ob,k b _ q⟩,λ_ _ q=>q,λ_ _ _ q=>q,λ_ ps q=>⟨#[],by simp_all ⟩⟩
theorem Un.refl:Un fs ex H H h h:=Un.kept λ_ _ q=>q
theorem Un.laid(k:∀b u,h.get? b=some u->h'.get? b=some u)(hp:h.objs.size<=a)(hn:H a=none):Un fs ex H (aT H a o) h h' where
 keep:=λb u q _ _ _=>k b u q
 slot:=λb u q _ _ _=>⟨u.slots,k b u q⟩
 free:=λb u q n _=>by rw[bQ (cw (de (ax q) hp))];exact n
 there:=λb u q _=>⟨u,k b u q⟩
 tups:=λb xs q=>by rw[bQ (gH q hn)];exact q
 frzs:=λb u xs q=>by rw[bQ (gH q hn)];exact q
 tbls:=λb ps q=>⟨#[],by rw[bQ (gH q hn),q];simp⟩
theorem Un.write(mu:Ma (H x))(he:e=x\/H e=some (.own x))(k:∀b u,b≠e->h.get? b=some u->h'.get? b=some u)(heo:∃u,h'.get? e=some u):Un fs ex H (aT H x o) h h':=by
 have hx:∀b,H b=none->b≠x:=λb n z=>by subst z;rw[n]at mu;exact mu
 have hb:∀b,H b=none->b≠e:=λb n z=>by
  subst z;rcases he with r |r
  .exact hx b n r
  .grind
 have hm:∀b u,H b=some u->¬Ma (some u)->b≠x:=λb u q nm z=>by simp_all
 refine⟨λb u q n _ _=>k b u (hb b n) q,λb u q n _ _=>⟨u.slots,k b u (hb b n) q⟩,λb u q n _=>by rw[bQ (hx b n)];exact n,λb u q _=>?_,
  λb xs q=>by rw[bQ (hm b _ q λz=>z)];exact q,λb u xs q=>by rw[bQ (hm b _ q λz=>z)];exact q,λb ps q=>⟨#[],by rw[bQ (hm b _ q λz=>z),q];simp⟩⟩
 by_cases hbe:b=e
 .subst hbe;exact heo
 .exact⟨u,k b u hbe q⟩
end
def Xz(h:Heap)(H:Hp):List Addr:=(ce h.objs.size).filter λa=>(H a).isSome
def nV(h:Heap)(H:Hp):Heap:=uq h (Xz h H)
theorem R6(h:Heap)(H:Hp):(nV h H).objs.size=h.objs.size:=PySem.W.hideAll_size _ _
theorem aaA  {H:Hp}{b:Addr}{o:Obj}(e:h.get? b=some o)(n:H b=none):(nV h H).get? b=some o:=
 ur _ e λhm=>by
  have q:=(za.mp hm).2
  simp_all
theorem abo     (e:(nV h H).get? b=some o):h.get? b=some o/\H b=none:=by
 have e':=zb _ e;refine⟨e',?_⟩;cases q:H b with
 |none=>rfl
 |some x=>
  have hm:b∈Xz h H:=za.mpr ⟨uu.mpr (ax e'),by simp[q]⟩;have z:(nV h H).get? b=none:=PySem.W.hideAll_none _ hm
  simp_all
def abr(g h:Heap)(L:Addr):List (Addr×Obj):=(ce h.objs.size).filterMap λa=>if a=L\/(g.get? a).isSome=true then none else(h.get? a).map λo=>(a,o)
def eU(g h:Heap)(L d:Addr):List (Addr×Obj):=(abr g h L).filter λp=>decide (p.1≠d)
structure Mod(K:ae)(mg:Str->BC)(base:Heap):Prop where
 kin:K.In base
 glob:base.Ns mainGlobals mg
 blt:∃mb,base.Ns builtinsNs mb/\∀x:Str,x≠"__name__"->mb x=bootBuiltins x
 nolimit:base.NoLimit
 seer:base.NoSeer
def FrO(P:Program)(A:aq)(st:List bi):Prop:=A.frames=some st/\P.given.tree=none/\A.depth+Builtin.pylongFrames<recursionLimit/\∃e l,st=e::l/\e.scope.isGenerator=false/\e.scope.isCoroutine=false/\e.builtins=builtinsNs/\e.globals=mainGlobals
structure Cx where
 prog:Program
 w:am
 K:ae
 mg:Str->BC
 base:Heap
 A:aq
 N:List Str
 BK:aa
 BM:Hp
 env:bi
 outer:List bi
 stack:List bi
 ex:List Addr
 fn:Str->Bool
 calm:Bool
 pn:List (Addr×Obj)
 xe:Value->aa->Prop
def fF(l:List bi):List Addr:=l.filterMap (·.frame)
abbrev Cx.fs(X:Cx):List Addr:=fF X.outer
def pM(sc:Scope)(x:Str):Prop:=sc.names.lookup x=some .local\/sc.names.lookup x=some .cell\/sc.names.lookup x=some .free
def lI(sc:Scope)(x:Str):Prop:=sc.names.lookup x=some .local\/sc.names.lookup x=some .cell
def afN(env:bi)(h:Heap)(m:Str->BC)(x:Str)(u:Value):Prop:=
 (env.kindOf x=some .local/\m x=some u)\/((env.kindOf x=some .cell\/env.kindOf x=some .free)/\∃c,env.cells.lookup x=some c/\h.IsCell c (some u))
structure Cx.Ok(X:Cx):Prop where
 mod:Mod X.K X.mg X.base
 kind:X.env.scope.kind=.function
 glob:X.env.globals=mainGlobals
 blt:X.env.builtins=builtinsNs
 above:X.BK.heap.objs.size<=X.env.locals
 inj:∀x y c,X.env.cells.lookup x=some c->X.env.cells.lookup y=some c->x=y
 has:∀x,(X.env.kindOf x=some .cell\/X.env.kindOf x=some .free)->∃c,X.env.cells.lookup x=some c
 cab:∀x c,X.fn x=true->X.env.cells.lookup x=some c->X.BK.heap.objs.size<=c
 hd:X.calm=true->X.A.handled=none
 frames:FrO X.prog X.A X.stack
 stk:X.stack=X.outer\/(X.stack=X.env::X.outer/\X.env.frame=some X.env.locals)
 exf:∀b∈X.ex,b≠X.env.locals/\∀x c,X.env.cells.lookup x=some c->c≠b
 bs:∀b o,X.base.get? b=some o->X.BK.heap.get? b=some o/\X.BM b=none
 bsz:X.base.objs.size<=X.BK.heap.objs.size
 noex:∀b o,X.base.get? b=some o->b∉X.ex
 exfs:∀b∈X.ex,b∉X.fs
 funs:X.BK.heap.FunFrames X.base X.outer
 frf:∀b∈X.fs,X.BM b=none
structure aI(X:Cx)(BJ:List (Addr×Obj))(σ:List (Option V))(H:Hp)(s:aa):Prop where
 ok:X.Ok
 os:s.os=X.BK.os
 bare:jd s.gens
 base:Un X.fs X.ex X.BM H X.BK.heap s.heap
 loc:∃m,s.heap.Ns X.env.locals m/\∀(i:Nat)(x:Str)(v:V),X.N[i]?=some x->σ[i]?=some (some v)->pM X.env.scope x->∃u,bJ v u/\afN X.env s.heap m x u
 cell:∀x c,X.env.cells.lookup x=some c->∃v,s.heap.IsCell c v
 free:H X.env.locals=none
 freeC:∀x c,X.env.cells.lookup x=some c->H c=none
 pin:∀p∈X.pn++BJ,s.heap.get? p.1=some p.2/\H p.1=none/\p.1≠X.env.locals/\p.1∉X.fs/\∀v,p.2.data≠.cell v
 hok:fK X.prog X.w H s.heap
 len:σ.length=X.N.length
section
variable{X:Cx}{BJ:List (Addr×Obj)}{σ:List (Option V)}{H H':Hp}{s:aa}{h':Heap}
theorem Cx.Ok.nofr(ok:X.Ok){b:Addr}{o:Obj}(e:X.base.get? b=some o):b∉X.fs:=λhb=>by
 have:=(ok.funs.mem hb).1;grind
theorem aI.bs(I:aI X BJ σ H s):∀b o,X.base.get? b=some o->s.heap.get? b=some o/\H b=none:=λb o e=>
 ⟨I.base.keep b o (I.ok.bs b o e).1 (I.ok.bs b o e).2 (I.ok.nofr e) (I.ok.noex b o e),I.base.free b o (I.ok.bs b o e).1 (I.ok.bs b o e).2 (I.ok.noex b o e)⟩
theorem aI.bk(I:aI X BJ σ H s):∀b o,X.base.get? b=some o->s.heap.get? b=some o:=λb o e=>(I.bs b o e).1
theorem aI.mod(I:aI X BJ σ H s):Mod X.K X.mg X.base:=I.ok.mod
theorem aI.kIn(I:aI X BJ σ H s):X.K.In s.heap:=I.ok.mod.kin.keeps I.bk
theorem aI.nolimit(I:aI X BJ σ H s):s.heap.NoLimit:=I.ok.mod.nolimit.keeps I.bk
theorem aI.pyl(I:aI X BJ σ H s):PylongRoom (model X.prog X.w) X.A s:=by
 obtain⟨f,t,d,e,l,hs,g,c,b,gl⟩:=I.ok.frames;exact PylongRoom.of I.nolimit d (SeerAt.of (I.ok.mod.seer.keeps I.bk) t (f.trans (congrArg some hs)) g c b gl)
theorem aI.lt(I:aI X BJ σ H s):X.env.locals<s.heap.objs.size:=let⟨_,hn,_⟩:=I.loc;hn.lt
theorem aI.sz(I:aI X BJ σ H s):X.BK.heap.objs.size<=s.heap.objs.size:=fh I.ok.above (ot I.lt)
theorem aI.nofs(I:aI X BJ σ H s){a:Addr}(h:s.heap.objs.size<=a):a∉X.fs:=λhb=>by
 obtain⟨_,o,ho,_⟩:=I.ok.funs.mem hb;exact absurd (de (ax ho) (fh I.sz h)) (ix _)
theorem aI.cne(I:aI X BJ σ H s):∀x c,X.env.cells.lookup x=some c->c≠X.env.locals:=λx c e z=>by
 obtain⟨v,o,ho,hd⟩:=I.cell x c e;obtain⟨m,⟨o',es,ep,ho',hd',_⟩,_⟩:=I.loc;grind
theorem aI.funs(I:aI X BJ σ H s):s.heap.FunFrames X.base X.outer:=by
 have all:∀l,(∀b∈fF l,b∈X.fs)->X.BK.heap.FunFrames X.base l->s.heap.FunFrames X.base l:=by
  intro l
  induction l with
  |nil=>intro _ _;trivial
  |cons env r ih=>
   intro hs hl;obtain⟨hk,⟨L,o,hf,hn,ho,hd⟩,hr⟩:=hl;have hL:=hs L (by unfold fF;rw[jp,hf];exact bo);obtain⟨sl,e⟩:=I.base.slot L o ho (I.ok.frf L hL) hL λz=>I.ok.exfs L z hL;exact⟨hk,⟨L,_,hf,hn,e,hd⟩,ih (λb hb=>hs b (by unfold fF;rw[jp,hf];exact bd _ hb)) hr⟩
 exact all _ (λ_ hb=>hb) I.ok.funs
theorem aI.stack(I:aI X BJ σ H s):s.heap.FunFrames X.base X.stack:=by
 rcases I.ok.stk with e |⟨e,hf⟩
 .rw[e];exact I.funs
 .rw[e]
  obtain⟨m,hn,_⟩:=I.loc;refine .cons (by rw[I.ok.kind];decide) hf hn ?_ I.funs;exact Heap.get?_none_of_le (fh I.ok.bsz I.ok.above)
theorem aI.stkSub(I:aI X BJ σ H s):∀b∈fF X.stack,b∈X.env.locals::X.fs:=λb hb=>by
 rcases I.ok.stk with e |⟨e,hf⟩
 .simp_all
 .rw[e]at hb
  unfold fF at hb;rw[jp,hf]at hb;exact hb
theorem aI.stkFree(I:aI X BJ σ H s):∀b∈fF X.stack,H b=none:=λb hb=>by
 rcases bj.mp (I.stkSub b hb)with e |hb
 .rw[e];exact I.free
 .obtain⟨_,o,ho,_⟩:=I.ok.funs.mem hb
  exact I.base.free b o ho (I.ok.frf b hb) λz=>I.ok.exfs b z hb
theorem aI.step  {t':Nat}{d':Drawn}{ch:List Addr}(I:aI X BJ σ H s)
  (hch:∀b∈ch,(b∈X.ex\/X.BK.heap.objs.size<=b)/\b≠X.env.locals/\(∀x c,X.env.cells.lookup x=some c->c≠b)/\∀p∈X.pn++BJ,p.1≠b)
  (keep:∀b o,b≠X.env.locals->b∉X.fs->b∉ch->s.heap.get? b=some o->H b=none->h'.get? b=some o)
  (slot:∀b o,b≠X.env.locals->b∈X.fs->b∉ch->s.heap.get? b=some o->H b=none->∃sl,h'.get? b=some {o with slots:=sl})(free:∀b o,b∉ch->s.heap.get? b=some o->H b=none->H' b=none)
  (there:∀b o,b∉ch->s.heap.get? b=some o->∃o',h'.get? b=some o')
  (tups:∀b xs,H b=some (.tup xs)->H' b=some (.tup xs))(frzs:∀b o u,H b=some (.frz o u)->H' b=some (.frz o u))(tbls:∀b ps,H b=some (.tbl ps)->∃more,H' b=some (.tbl (ps++more)))
  (ns:∀m,s.heap.Ns X.env.locals m->h'.Ns X.env.locals m)(hok:fK X.prog X.w H' h')(hg:jd g'):
  aI X BJ σ H' {s with heap:=h',gens:=g',drawn:=d',toks:=t'}:=by
 have neL:∀b o,X.BK.heap.get? b=some o->b≠X.env.locals:=λb o e=>cw (de (ax e) I.ok.above);have neC:∀b o,X.BK.heap.get? b=some o->b∉X.ex->b∉ch:=λb o e hx hb=>by
  rcases(hch b hb).1 with z |z
  .exact hx z
  .exact absurd (de (ax e) z) (ix _)
 have cellK:∀x c,X.env.cells.lookup x=some c->∀v,s.heap.IsCell c v->h'.IsCell c v:=λx c e v ⟨o,ho,hd⟩=>by
  have nch:c∉ch:=λz=>(hch c z).2.2.1 x c e rfl
  by_cases hc:c∈X.fs
  .obtain⟨sl,q⟩:=slot c o (I.cne x c e) hc nch ho (I.freeC x c e)
   exact⟨_,q,hd⟩
  .exact⟨o,keep c o (I.cne x c e) hc nch ho (I.freeC x c e),hd⟩
 refine⟨I.ok,I.os,hg,⟨λb o e n hb hx=>?_,λb o e n hb hx=>?_,λb o e n hx=>?_,λb o e hx=>?_,λb xs e=>tups b xs (I.base.tups b xs e),λb o xs e=>frzs b o xs (I.base.frzs b o xs e),λb ps e=>?_⟩,?_,λx c e=>?_,?_,λx c e=>?_,λp hp=>?_,hok,I.len⟩
 .exact keep b o (neL b o e) hb (neC b o e hx) (I.base.keep b o e n hb hx) (I.base.free b o e n hx)
 .obtain⟨sl,e1⟩:=I.base.slot b o e n hb hx
  obtain⟨sl',e2⟩:=slot b _ (neL b o e) hb (neC b o e hx) e1 (I.base.free b o e n hx);exact⟨sl',e2⟩
 .obtain⟨o',e1⟩:=I.base.there b o e hx
  exact free b o' (neC b o e hx) e1 (I.base.free b o e n hx)
 .obtain⟨o',e1⟩:=I.base.there b o e hx
  exact there b o' (neC b o e hx) e1
 .obtain⟨m1,e1⟩:=I.base.tbls b ps e
  obtain⟨m2,e2⟩:=tbls b _ e1;exact⟨m1++m2,by rw[e2,Array.append_assoc]⟩
 .obtain⟨m,hn,hl⟩:=I.loc
  refine⟨m,ns m hn,λi x v e1 e2 e3=>?_⟩;obtain⟨u,r,l⟩:=hl i x v e1 e2 e3;refine⟨u,r,?_⟩;rcases l with l |⟨k,c,e,z⟩
  .exact .inl l
  .exact .inr ⟨k,c,e,cellK x c e _ z⟩
 .obtain⟨v,z⟩:=I.cell x c e
  exact⟨v,cellK x c e v z⟩
 .obtain⟨m,⟨o,_,_,ho,_⟩,_⟩:=I.loc
  exact free _ o (λz=>(hch _ z).2.1 rfl) ho I.free
 .obtain⟨v,o,ho,hd⟩:=I.cell x c e
  exact free c o (λz=>(hch c z).2.2.1 x c e rfl) ho (I.freeC x c e)
 .obtain⟨e,n,ne,nf,d⟩:=I.pin p hp
  have nch:p.1∉ch:=λz=>(hch p.1 z).2.2.2 p hp rfl;exact⟨keep p.1 p.2 ne nf nch e n,free p.1 p.2 nch e n,ne,nf,d⟩
theorem aI.un  (I:aI X BJ σ H s)(u:Un X.fs [] H H' s.heap h')(hok:fK X.prog X.w H' h'):aI X BJ σ H' {s with heap:=h',toks:=t'}:=by
 obtain⟨m,⟨o,es,ep,ho,r⟩,_⟩:=id I.loc;obtain⟨sl,hL⟩:=u.any ho I.free (by simp);exact I.step   (ch:=[]) (λ_ z=>nomatch z) (λb o _ hb _ e n=>u.keep b o e n hb (by simp)) (λb o _ hb _ e n=>u.slot b o e n hb (by simp)) (λb o _ e n=>u.free b o e n (by simp)) (λb o _ e=>u.there b o e (by simp)) u.tups u.frzs u.tbls (λm' hm=>by
  obtain⟨o',es',ep',ho',r'⟩:=hm;rw[ho]at ho';cases ho';exact⟨_,es',ep',hL,r'⟩) hok I.bare
theorem aI.call   {d':Drawn}{ch:List Addr}(I:aI X BJ σ H s)(u:Un (fF X.stack) ch H H' s.heap h')(hok:fK X.prog X.w H' h')(hg:jd g')
  (hch:∀b∈ch,(b∈X.ex\/X.BK.heap.objs.size<=b)/\b≠X.env.locals/\(∀x c,X.env.cells.lookup x=some c->c≠b)/\∀p∈X.pn++BJ,p.1≠b):
  aI X BJ σ H' {s with heap:=h',gens:=g',drawn:=d',toks:=t'}:=by
 obtain⟨m,⟨o,es,ep,ho,r⟩,_⟩:=id I.loc;obtain⟨sl,hL⟩:=u.any ho I.free λz=>(hch _ z).2.1 rfl;exact I.step  hch (λb o hL hb hc e n=>u.keep b o e n (λz=>(bj.mp (I.stkSub b z)).elim hL hb) hc) (λb o _ _ hc e n=>u.any e n hc) (λb o hc e n=>u.free b o e n hc) (λb o hc e=>u.there b o e hc) u.tups u.frzs u.tbls (λm' hm=>by
  obtain⟨o',es',ep',ho',r'⟩:=hm;rw[ho]at ho';cases ho';exact⟨_,es',ep',hL,r'⟩) hok hg
theorem aI.turned  {it:Addr}(I:aI X BJ σ H s)(k:∀b o,b≠it->s.heap.get? b=some o->h'.get? b=some o)(hn:H it=none)(hL:it≠X.env.locals)
  (h1:it∈X.ex\/X.BK.heap.objs.size<=it)(h2:∀x c,X.env.cells.lookup x=some c->c≠it)(h3:∀p∈X.pn++BJ,p.1≠it):aI X BJ σ H {s with heap:=h',toks:=t'}:=by
 have nit:∀b u,H b=some u->b≠it:=λb u e z=>by rw[z,hn]at e;cases e
 refine I.step   (ch:=[it]) (λb hb=>?_) (λb o _ _ hc e _=>k b o (λz=>hc (by simp[z])) e) (λb o _ _ hc e _=>⟨o.slots,k b o (λz=>hc (by simp[z])) e⟩) (λ_ _ _ _ n=>n)
  (λb o hc e=>⟨o,k b o (λz=>hc (by simp[z])) e⟩) (λ_ _ e=>e) (λ_ _ _ e=>e) (λb ps e=>⟨#[],by rw[e];simp⟩) (λm hm=>?_) (λb u e=>?_) I.bare
 .have e:=by simpa using hb
  subst e;exact⟨h1,hL,h2,h3⟩
 .obtain⟨o,es,ep,ho,r⟩:=hm
  exact⟨o,es,ep,k _ o (gw hL) ho,r⟩
 .refine(I.hok b u e).stay (λc v hc q=>k c v ?_ q) (λ_ q=>q) λ_ _ q=>q
  rcases hc with z |z
  .rw[z];exact nit b u e
  .exact nit c _ z
theorem aI.tok(I:aI X BJ σ H s)(t:Nat):aI X BJ σ H {s with toks:=t}:=I.un   Un.refl I.hok
theorem aI.kept  (I:aI X BJ σ H s)(k:∀b u,s.heap.get? b=some u->h'.get? b=some u):aI X BJ σ H {s with heap:=h',toks:=t'}:=I.un (Un.kept k) (I.hok.kept k)
theorem aI.laid{a:Addr}{o:HO}{t':Nat}(I:aI X BJ σ H s)(k:∀b u,s.heap.get? b=some u->h'.get? b=some u)(hp:s.heap.objs.size<=a)(new:fQ X.prog X.w (aT H a o) h' a o):
  aI X BJ σ (aT H a o) {s with heap:=h',toks:=t'}:=I.un (Un.laid k hp (I.hok.fresh hp)) (I.hok.laid k hp new)
theorem aI.write    (I:aI X BJ σ H s)(mu:Ma (H x))(he:e=x\/H e=some (.own x))(k:∀b u,b≠e->s.heap.get? b=some u->h'.get? b=some u)(heo:∃u,h'.get? e=some u)
  (new:fQ X.prog X.w (aT H x o) h' x o):aI X BJ σ (aT H x o) {s with heap:=h',toks:=t'}:=I.un (Un.write mu he k heo) (I.hok.write mu he k heo new)
theorem aI.pins_of  (I:aI X BJ σ H s)(h:∀p∈pins',s.heap.get? p.1=some p.2/\H p.1=none/\p.1≠X.env.locals/\p.1∉X.fs/\∀v,p.2.data≠.cell v):aI X pins' σ H s:=
 ⟨I.ok,I.os,I.bare,I.base,I.loc,I.cell,I.free,I.freeC,λp hp=>(br.mp hp).elim (λz=>I.pin p (jq _ z)) (h p),I.hok,I.len⟩
theorem Xo{N:List Str}(hN:N.Nodup){i j:Nat}{x:Str}(a:N[i]?=some x)(b:N[j]?=some x):i=j:=by
 obtain⟨h1,e1⟩:=bn.mp a;obtain⟨h2,e2⟩:=bn.mp b;exact(List.getElem_inj hN).mp (e1.trans e2.symm)
theorem Q9  {A:aq}{E:Value->aa->Prop}{i:Nat}{x:Str}{v:V}{u:Value}{Q:Unit->aa->Prop}(I:aI X BJ σ H s)(hN:X.N.Nodup)(hi:X.N[i]?=some x)(hx:lI X.env.scope x)(r:bJ v u)
  (h:∀s',aI X BJ (σ.set i (some v)) H s'->(∃a,iy a s.heap s'.heap/\(a=X.env.locals\/X.env.cells.lookup x=some a))->Q () s')(hf:X.fn x=true\/X.env.scope.names.lookup x=some .local:=by first |exact .inl rfl |exact .inr rfl |assumption):wpAny M A (storeName X.env x u) Q E s:=by
 obtain⟨m,hn,hl⟩:=id I.loc;have hcls:(X.env.scope.kind== .class||(X.env.scope.kind== .module&&X.env.locals !=X.env.globals))=false:=by rw[I.ok.kind];rfl
 have hiσ:i<σ.length:=by rw[I.len];exact(bn.mp hi).1
 have cne:=I.cne;have tracked:∀{a:Addr}{h':Heap},(∃o,s.heap.get? a=some o/\H a=none)->iy a s.heap h'->fK X.prog X.w H h':=λ{a h'} ha hs b ob e=>by
  refine(I.hok b ob e).stay (λc w' hc q=>(hs.2 c ?_).trans q) (λ_ q=>q) λ_ _ q=>q;grind
 rcases hx with hk |hk
 .refine wpAny_storeName_local hk hn (λh' hn' hs=>?_) hcls
  obtain⟨oL,_,_,hoL,_⟩:=id hn;refine h _ ⟨I.ok,I.os,I.bare,⟨λb o e n hb hx=>?_,λb o e n hb hx=>?_,I.base.free,λb o e hx=>?_,I.base.tups,I.base.frzs,I.base.tbls⟩,⟨_,hn',λj y v' e1 e2 e3=>?_⟩,λy c e=>?_,I.free,I.freeC,λp hp=>?_,tracked ⟨oL,hoL,I.free⟩ hs,by simpa using I.len⟩ ⟨_,hs,.inl rfl⟩
  .exact(hs.2 b (cw (de (ax e) I.ok.above))).trans (I.base.keep b o e n hb hx)
  .obtain⟨sl,e1⟩:=I.base.slot b o e n hb hx
   exact⟨sl,(hs.2 b (cw (de (ax e) I.ok.above))).trans e1⟩
  .obtain⟨o',e1⟩:=I.base.there b o e hx
   exact⟨o',(hs.2 b (cw (de (ax e) I.ok.above))).trans e1⟩
  .by_cases hj:j=i
   .subst hj
    rw[hi]at e1;cases e1;rw[df hiσ]at e2;cases e2;exact⟨u,r,.inl ⟨hk,by simp⟩⟩
   .rw[dk (gw hj)]at e2
    obtain⟨u',r',q⟩:=hl j y v' e1 e2 e3;refine⟨u',r',?_⟩;rcases q with⟨k,e⟩|⟨k,c,e,z⟩
    .refine .inl ⟨k,?_⟩
     have:y≠x:=λe=>hj (Xo hN e1 (e▸hi));simp[this,e]
    .exact .inr ⟨k,c,e,z.sameBut hs (cne y c e)⟩
  .obtain⟨w',z⟩:=I.cell y c e
   exact⟨w',z.sameBut hs (cne y c e)⟩
  .obtain⟨e,n,ne,nf,d⟩:=I.pin p hp
   exact⟨(hs.2 p.1 ne).trans e,n,ne,nf,d⟩
 .have hfn:X.fn x=true:=by
   grind
  obtain⟨c,hc⟩:=I.ok.has x (.inl hk);obtain⟨w',z⟩:=I.cell x c hc;refine wpAny_storeName_cell I.ok.kind hk hc z (λh' hc' hs=>?_);obtain⟨oc,hoc,hocd⟩:=id z;refine h {s with heap:=h'} ⟨I.ok,I.os,I.bare,⟨λb o e n hb hx=>?_,λb o e n hb hx=>?_,I.base.free,λb o e hx=>?_,I.base.tups,I.base.frzs,I.base.tbls⟩,⟨m,hn.sameBut hs (gw (cne x c hc)),λj y v' e1 e2 e3=>?_⟩,λy c' e=>?_,I.free,I.freeC,λp hp=>?_,tracked ⟨oc,hoc,I.freeC x c hc⟩ hs,by simpa using I.len⟩ ⟨c,hs,.inr hc⟩
  .exact(hs.2 b (cw (de (ax e) (I.ok.cab x c hfn hc)))).trans (I.base.keep b o e n hb hx)
  .obtain⟨sl,e1⟩:=I.base.slot b o e n hb hx
   exact⟨sl,(hs.2 b (cw (de (ax e) (I.ok.cab x c hfn hc)))).trans e1⟩
  .obtain⟨o',e1⟩:=I.base.there b o e hx
   exact⟨o',(hs.2 b (cw (de (ax e) (I.ok.cab x c hfn hc)))).trans e1⟩
  .by_cases hj:j=i
   .subst hj
    rw[hi]at e1;cases e1;rw[df hiσ]at e2;cases e2;exact⟨u,r,.inr ⟨.inl hk,c,hc,hc'⟩⟩
   .rw[dk (gw hj)]at e2
    obtain⟨u',r',q⟩:=hl j y v' e1 e2 e3;refine⟨u',r',?_⟩;rcases q with q |⟨k,c',e,z'⟩
    .exact .inl q
    .refine .inr ⟨k,c',e,z'.sameBut hs ?_⟩
     rintro rfl
     exact hj (Xo hN e1 (I.ok.inj _ _ _ e hc▸hi))
  .by_cases hcc:c'=c
   .subst hcc;exact⟨_,hc'⟩
   .obtain⟨w2,z2⟩:=I.cell y c' e
    exact⟨w2,z2.sameBut hs hcc⟩
  .obtain⟨e,n,ne,nf,d⟩:=I.pin p hp
   refine⟨(hs.2 p.1 ?_).trans e,n,ne,nf,d⟩;intro q;rw[q,hoc]at e;have q':=cx e;exact d w' (by rw[<-q'];exact hocd)
theorem rY    {i:Nat}{x:Str}{v:V}{u:Value}{Q:Unit->aa->Prop}(I:aI X BJ σ H s)(hN:X.N.Nodup)(hi:X.N[i]?=some x)(hx:lI X.env.scope x)(r:bJ v u)
  (h:∀s',aI X BJ (σ.set i (some v)) H s'->Q () s')(hf:X.fn x=true\/X.env.scope.names.lookup x=some .local:=by first |exact .inl rfl |exact .inr rfl |assumption):wpAny M A (storeName X.env x u) Q E s:=
 Q9 I hN hi hx r (λs' I' _=>h _ I') hf
theorem aI.call'  {ch:List Addr}(I:aI X BJ σ H s)(ho:s'.os=s.os)(u:Un (fF X.stack) ch H H' s.heap s'.heap)(hok:fK X.prog X.w H' s'.heap)(hg:jd s'.gens)
  (hch:∀b∈ch,(b∈X.ex\/X.BK.heap.objs.size<=b)/\b≠X.env.locals/\(∀x c,X.env.cells.lookup x=some c->c≠b)/\∀p∈X.pn++BJ,p.1≠b):aI X BJ σ H' s':=by
 obtain⟨h',g',d',t',o'⟩:=s';have e:=ho;subst e;exact I.call    u hok hg hch
end
abbrev XK:=Value->BD->Hp->Prop
abbrev St:=List (Option V)
abbrev VK:=V->Hp->Prop
abbrev TE:=St->Hp->VK->Prop
abbrev TT:=St->Hp->(Bool->Hp->Prop)->Prop
abbrev TA:=St->Hp->(List V->Hp->Prop)->Prop
structure tM where
 nx:St->Hp->Prop
 rt:VK
 bk:St->Hp->Prop:=λ_ _=>False
 ct:St->Hp->Prop:=λ_ _=>False
abbrev TS:=tM->St->Hp->Prop
def EP(X:Cx)(BJ:List (Addr×Obj))(σ:St)(Q:VK)(u:Value)(s':aa):Prop:=∃v H',aI X BJ σ H' s'/\bJ v u/\Q v H'
def TP(X:Cx)(BJ:List (Addr×Obj))(σ:St)(Q:Bool->Hp->Prop)(b:Bool)(s':aa):Prop:=∃H',aI X BJ σ H' s'/\Q b H'
def AP(X:Cx)(BJ:List (Addr×Obj))(σ:St)(Q:List V->Hp->Prop)(us:BB)(s':aa):Prop:=∃vs H',aI X BJ σ H' s'/\aW vs us/\Q vs H'
def SP(X:Cx)(BJ:List (Addr×Obj))(D:tM)(f:Flow)(s':aa):Prop:=
 match f with
 |.next=>∃σ' H',aI X BJ σ' H' s'/\D.nx σ' H'
 |.brk=>∃σ' H',aI X BJ σ' H' s'/\D.bk σ' H'
 |.cont=>∃σ' H',aI X BJ σ' H' s'/\D.ct σ' H'
 |.ret u=>∃v σ' H',aI X BJ σ' H' s'/\bJ v u/\D.rt v H'
def PE(X:Cx)(e:ah)(t:TE):Prop:=
 ∀(BJ:List (Addr×Obj))(s:aa)(σ:St)(H:Hp)(Q:VK),aI X BJ σ H s->t σ H Q->wpAny (model X.prog X.w) X.A (eval e X.env) (EP X BJ σ Q) X.xe s
def PT(X:Cx)(e:ah)(t:TT):Prop:=
 ∀(BJ:List (Addr×Obj))(s:aa)(σ:St)(H:Hp)(Q:Bool->Hp->Prop),aI X BJ σ H s->t σ H Q->wpAny (model X.prog X.w) X.A (isTrue e X.env (eval e X.env)) (TP X BJ σ Q) X.xe s
def PW(X:Cx)(e:ah)(t:TT):Prop:=
 ∀(whole:Sem Value)(BJ:List (Addr×Obj))(s:aa)(σ:St)(H:Hp)(Q:Bool->Hp->Prop),aI X BJ σ H s->t σ H Q->wpAny (model X.prog X.w) X.A (isTrue e X.env whole) (TP X BJ σ Q) X.xe s
theorem PW.pt    (h:PW X e t):PT X e t:=h _
def PA(X:Cx)(es:List ah)(t:TA):Prop:=
 ∀(pos:ai)(BJ:List (Addr×Obj))(s:aa)(σ:St)(H:Hp)(Q:List V->Hp->Prop),aI X BJ σ H s->t σ H Q->wpAny (model X.prog X.w) X.A (spliced (backTo pos (starEach es X.env))) (AP X BJ σ Q) X.xe s
def PS(X:Cx)(st:Stmt)(t:TS):Prop:=
 ∀(BJ:List (Addr×Obj))(s:aa)(σ:St)(H:Hp)(D:tM),aI X BJ σ H s->t D σ H->wpAny (model X.prog X.w) X.A (exec st X.env) (SP X BJ D) X.xe s
def gG(X:Cx)(st:List Stmt)(t:TS):Prop:=
 ∀(BJ:List (Addr×Obj))(s:aa)(σ:St)(H:Hp)(D:tM),aI X BJ σ H s->t D σ H->wpAny (model X.prog X.w) X.A (execs st X.env) (SP X BJ D) X.xe s
theorem bA    {M:Model}{A:aq}{E:Value->aa->Prop}{s:aa}(h:wpAny M A t Q E s)(hQ:∀a s,Q a s->Q' a s):wpAny M A t Q' E s:=je h hQ λ_ _ x=>x
section
variable{X:Cx}
theorem bin  {ta tb:TE}(ha:PE X a ta)(hb:PE X b tb){BJ:List (Addr×Obj)}{s:aa}{σ:St}{H:Hp}{R:V->V->Hp->Prop}(I:aI X BJ σ H s)(h:ta σ H λx H1=>tb σ H1 λy H2=>R x y H2)
  {α:Type}{Q:α->aa->Prop}{f:Value->Value->Sem α}
  (hf:∀v u s2 x y H2,aI X BJ σ H2 s2->bJ x v->bJ y u->R x y H2->wpAny (model X.prog X.w) X.A (f v u) Q X.xe s2):
  wpAny (model X.prog X.w) X.A (eval a X.env) (λv BN=>wpAny (model X.prog X.w) X.A (eval b X.env) (λu BQ=>wpAny (model X.prog X.w) X.A (f v u) Q X.xe BQ) X.xe BN) X.xe s:=by
 refine bA (ha _ s _ H _ I h) ?_
 rintro v s1 ⟨x,H1,I1,r1,q1⟩
 refine bA (hb _ _ _ _ _ I1 q1) ?_
 rintro u s2 ⟨y,H2,I2,r2,q2⟩
 exact hf v u _ x y _ I2 r1 r2 q2
def Hz(i:Nat):TE:=λσ H Q=>∃v,σ[i]?=some (some v)/\Q v H
def tC(v:V):TE:=λ_ H Q=>Q v H
theorem qL   {pos:ai}(hN:X.N[i]?=some x)(hv:pM X.env.scope x)(hd:(x==("__debug__":Str))=false:=by decide)(hcd:(x==("__classdict__":Str))=false:=by decide):PE X (.Name x pos) (Hz i):=by
 intro BJ s σ H Q I h;obtain⟨v,e,h⟩:=h;obtain⟨m,hn,hl⟩:=I.loc;obtain⟨u,r,l⟩:=hl i x v hN e hv;have fin:EP X BJ σ Q u s:=⟨v,H,I,r,h⟩;rcases l with⟨hk,hm⟩|⟨hk,c,hc,hcell⟩
 .exact uv (zc I.ok.kind hk hn hm fin) hd
 .rcases hk with hk |hk
  .exact uv (zd I.ok.kind hk hc hcell fin) hd
  .exact uv (wpAny_loadName_free I.ok.kind hk hc hcell fin hcd) hd
theorem yL:PE X (.Constant (.int i) j pos) (tC (.int i)):=λ_ _ _ H _ I h=>wpAny_Constant_int ⟨.int i,H,I.tok _,⟨_,rfl⟩,h⟩
theorem aft:PE X (.Constant (.bool b) j pos) (tC (.bl b)):=λ_ _ _ H _ I h=>Constant_bool ⟨.bl b,H,I,rfl,h⟩
theorem adT:PE X (.Constant (.str x) j pos) (tC (.str x)):=λ_ _ _ H _ I h=>Calls.Constant_str ⟨.str x,H,I.tok _,⟨_,rfl⟩,h⟩
def Gl(X:Cx)(x:Str):Prop:=X.env.kindOf x=some .globalImplicit
theorem Oq  {BJ:List (Addr×Obj)}{s:aa}{σ:St}{H:Hp}{x:Str}{u:Value}{pos:ai}{Q:Value->aa->Prop}(I:aI X BJ σ H s)(hg:Gl X x)(hm:X.mg x=some u)(h:Q u s)
  (hd:(x==("__debug__":Str))=false:=by decide):wpAny (model X.prog X.w) X.A (eval (.Name x pos) X.env) Q E s:=
 ze I.ok.kind hg (Calls.loadGlobal_global (by rw[I.ok.glob];exact I.mod.glob.keeps I.bk) hm h) hd
theorem qH{E:Value->aa->Prop}{BJ:List (Addr×Obj)}{s:aa}{σ:St}{H:Hp}{x:Str}{u:Value}{pos:ai}{Q:Value->aa->Prop}(I:aI X BJ σ H s)(hg:Gl X x)(hm:X.mg x=none)(hv:bootBuiltins x=some u)(h:Q u s)
  (hn:x≠"__name__":=by decide)(hd:(x==("__debug__":Str))=false:=by decide):wpAny (model X.prog X.w) X.A (eval (.Name x pos) X.env) Q E s:=by
 obtain⟨mb,h1,h2⟩:=I.mod.blt;exact ze I.ok.kind hg (Calls.loadGlobal_builtin (by rw[I.ok.glob];exact I.mod.glob.keeps I.bk) hm (by rw[I.ok.blt];exact h1.keeps I.bk) ((h2 x hn).trans hv) h) hd
theorem abf   {u:Value}{pos:ai}(hg:Gl X x)(hm:X.mg x=none)(hv:bootBuiltins x=some u)(r:bJ v u)(hn:x≠"__name__":=by decide)(hd:(x==("__debug__":Str))=false:=by decide):PE X (.Name x pos) (tC v):=
 λ_ _ _ H _ I h=>qH I hg hm hv ⟨v,H,I,r,h⟩ hn hd
variable{a b:ah}{ta tb:TE}{pos:ai}
def PC(X:Cx)(op:CmpOp)(a b:ah)(t:TE):Prop:=
 ∀(BJ:List (Addr×Obj))(s:aa)(σ:St)(H:Hp)(Q:VK),aI X BJ σ H s->t σ H Q->
  wpAny (model X.prog X.w) X.A (eval a X.env) (λv BN=>wpAny (model X.prog X.w) X.A (eval b X.env) (λu BQ=>wpAny (model X.prog X.w) X.A (compareOp op v u) (EP X BJ σ Q) X.xe BQ) X.xe BN) X.xe s
theorem aaD(b:ah){op:CmpOp}(h:op≠.In)(h2:op≠.NotIn):behindInMarks op b=false:=by
 have e1:(op==CmpOp.In)=false:=by grind
 have e2:(op==CmpOp.NotIn)=false:=by grind
 cases b<;>simp[behindInMarks,e1,e2]
def tB(t:TE):TT:=λσ H Q=>t σ H λx H1=>∃c,x=.bl c/\Q c H1
theorem afK   (h:PC X op a b t)(h1:behindInMarks op b=false:=by first |exact aaD _ (by decide) (by decide) |rfl):PT X (.Compare a [op] [b] pos) (tB t):=by
 intro BJ s σ H Q I hw;refine zf (bA (h _ s _ H _ I hw) λv s1 h1=>bA h1 λu s2 h2=>bA h2 λc s3 hq=>?_) h1;rcases hq with⟨x,H1,I1,r1,q1⟩;obtain⟨d,rfl,q⟩:=q1;cases r1;exact jy ⟨H1,I1,q⟩
theorem aep   (h:PE X e t)(he:∀whole,isTrue e X.env whole=(do let v <-whole;standAt e.pos;holding [v] (truthy v)):=by intro _;rfl):PT X e (tB t):=by
 intro BJ s σ H Q I hw;refine isTrue_plain (bA (h _ s _ H _ I hw) λv s1 hq=>?_) (he _);rcases hq with⟨x,H1,I1,r1,q1⟩;obtain⟨d,rfl,q⟩:=q1;cases r1;exact jy ⟨H1,I1,q⟩
variable{tA tB':TT}{eU:List ah}
def agm(t u:TT):TT:=λσ H Q=>t σ H λc H1=>if c=true then u σ H1 Q else Q false H1
def tOr(t u:TT):TT:=λσ H Q=>t σ H λc H1=>if c=true then Q true H1 else u σ H1 Q
def afP(t:TT):TT:=λσ H Q=>t σ H λc H1=>Q (!c) H1
theorem abI(ha:PT X a tA):PW X (.BoolOp .And [a] pos) tA:=by
 intro wh BJ s σ H Q I h;refine isTrue_and (bA (ha _ s _ H Q I h) λc s1 e=>?_);cases c with
 |true=>exact isTrue_and_nil e
 |false=>exact e
theorem acU(ha:PT X a tA):PW X (.BoolOp .Or [a] pos) tA:=by
 intro wh BJ s σ H Q I h;refine isTrue_or (bA (ha _ s _ H Q I h) λc s1 e=>?_);cases c with
 |false=>exact isTrue_or_nil e
 |true=>exact e
theorem adI(ha:PT X a tA)(hb:PW X (.BoolOp .And (b::eU) pos) tB'):PW X (.BoolOp .And (a::b::eU) pos) (agm tA tB'):=by
 intro wh BJ s σ H Q I h;refine isTrue_and (bA (ha _ s _ H _ I h) λc s1 hq=>?_);rcases hq with⟨H1,I1,q1⟩;cases c with
 |true=>exact hb _ _ _ _ _ Q I1 q1
 |false=>exact⟨H1,I1,q1⟩
theorem aeB(ha:PT X a tA)(hb:PW X (.BoolOp .Or (b::eU) pos) tB'):PW X (.BoolOp .Or (a::b::eU) pos) (tOr tA tB'):=by
 intro wh BJ s σ H Q I h;refine isTrue_or (bA (ha _ s _ H _ I h) λc s1 hq=>?_);rcases hq with⟨H1,I1,q1⟩;cases c with
 |true=>exact⟨H1,I1,q1⟩
 |false=>exact hb _ _ _ _ _ Q I1 q1
theorem adm(ha:PT X a tA):PT X (.UnaryOp .Not a pos) (afP tA):=by
 intro BJ s σ H Q I h;exact isTrue_not (ha _ s _ H _ I h)
def aew(ta tb:TE):TE:=λσ H Q=>ta σ H λx H1=>∃c,x=.bl c/\if c=true then tb σ H1 Q else Q (.bl false) H1
def aeI(ta:TE):TE:=λσ H Q=>ta σ H λx H1=>∃c,x=.bl c/\Q (.bl (!c)) H1
theorem ac9(ha:PE X a ta)(hb:PE X (.BoolOp .And (b::eU) pos) tb):PE X (.BoolOp .And (a::b::eU) pos) (aew ta tb):=by
 intro BJ s σ H Q I h;refine BoolOp_and (bA (ha _ s _ H _ I h) λv s1 hq=>?_);rcases hq with⟨x,H1,I1,r1,q1⟩;obtain⟨c,rfl,q1⟩:=q1;cases r1;refine jy ?_;cases c with
 |true=>exact hb _ _ _ _ Q I1 q1
 |false=>exact⟨.bl _,H1,I1,rfl,q1⟩
theorem adR(ha:PE X a ta):PE X (.UnaryOp .Not a pos) (aeI ta):=by
 intro BJ s σ H Q I h;refine UnaryOp_ (bA (ha _ s _ H _ I h) λv s1 hq=>?_);rcases hq with⟨x,H1,I1,r1,q1⟩;obtain⟨c,rfl,q1⟩:=q1;cases r1;exact not_of (jy ⟨.bl _,H1,I1,rfl,q1⟩)
def tIf(t:TT)(ta tb:TE):TE:=λσ H Q=>t σ H λc H1=>if c=true then ta σ H1 Q else tb σ H1 Q
theorem X7  (hc:PT X c tA)(ha:PE X a ta)(hb:PE X b tb):PE X (.IfExp c a b pos) (tIf tA ta tb):=by
 intro BJ s σ H Q I h;refine wpAny_IfExp (bA (hc _ s _ H _ I h) λd s1 hq=>?_);rcases hq with⟨H1,I1,q1⟩;cases d with
 |true=>exact ha _ _ _ _ Q I1 q1
 |false=>exact hb _ _ _ _ Q I1 q1
end
def bO(K:ae)(H:Hp)(a:Addr)(xs:List V):Prop:=
 Rd H a (.lst xs)\/
  ∃(o:Obj)(its:Array Value)(n:Nat),K.lookup a=some o/\o.cls=.type "list"/\o.dict=none/\o.data=.seq its n/\its.size<=sizeLine/\aW xs its.toList
def cG(K:ae)(H:Hp)(a:Addr)(xs:List V):Prop:=
 Rd H a (.tup xs)\/
  ∃(o:Obj)(its:Array Value)(n:Nat),K.lookup a=some o/\(o.cls=.type "tuple"/\o.dict=none)/\o.data=.seq its n/\its.size<=sizeLine/\aW xs its.toList
def agi:Value->Option V
 |.none=>some .non
 |.bool b=>some (.bl b)
 |.int i _=>some (.int i)
 |.str x _=>some (.str x)
 |.bytes b _=>some (.byt b)
 |.float b _=>some (.flt b)
 |.ref a=>some (.ref a)
 |.type n=>some (.ty n)
 |_=>none
theorem bJ.abs   (r:bJ x u):agi u=some x:=by
 cases x with
 |non=>cases r;rfl
 |bl _=>cases r;rfl
 |int _=>obtain⟨t,rfl⟩:=r;rfl
 |str _=>obtain⟨t,rfl⟩:=r;rfl
 |byt _=>obtain⟨t,rfl⟩:=r;rfl
 |flt _=>obtain⟨t,rfl⟩:=r;rfl
 |ref _=>cases r;rfl
 |ty _=>cases r;rfl
theorem bJ.inj  {u:Value}(r:bJ x u)(q:bJ y u):x=y:=cx (r.abs.symm.trans q.abs)
theorem aW.inj:∀{xs ys:List V}{us:BB},aW xs us->aW ys us->xs=ys
 |_,_,_,.nil,.nil=>rfl
 |_,_,_,.cons r t,.cons r' t'=>by rw[r.inj r',aW.inj t t']
section
variable{X:Cx}{BJ:List (Addr×Obj)}{σ:St}{H:Hp}{s:aa}{a:Addr}{xs ys:List V}
theorem bO.of{K:ae}(h:H a=some (.lst xs)):bO K H a xs:=.inl (.inl h)
theorem cG.of{K:ae}(h:H a=some (.tup xs)):cG K H a xs:=.inl (.inl h)
theorem aI.list(I:aI X BJ σ H s)(h:bO X.K H a xs):∃its:BB,aW xs its/\PlainL s.heap a its.toArray/\xs.length<=sizeLine:=by
 rcases h with h |⟨o,its,n,hk,hc,hd,hs,hz,r⟩
 .obtain⟨z,its,n,r,e⟩:=h.ok I.hok
  exact⟨its,r,⟨_,n,e,rfl,rfl,rfl⟩,z⟩
 .refine⟨its.toList,r,⟨o,n,I.kIn a o hk,hc,hd,by simpa using hs⟩,?_⟩
  have e:=r.length<;>grind
theorem aI.tuple(I:aI X BJ σ H s)(h:cG X.K H a xs):∃its:BB,aW xs its/\IsTup s.heap a its.toArray/\xs.length<=sizeLine:=by
 rcases h with h |⟨o,its,n,hk,hc,hs,hz,r⟩
 .obtain⟨z,its,r,p⟩:=h.ok I.hok
  exact⟨its,r,p,z.1⟩
 .refine⟨its.toList,r,⟨o,I.kIn a o hk,hc.1,n,by simpa using hs⟩,?_⟩
  have e:=r.length<;>grind
theorem aI.tupD(I:aI X BJ σ H s)(h:cG X.K H a xs):∃o,s.heap.get? a=some o/\o.dict=none:=by
 rcases h with h |⟨o,its,n,hk,hc,hs,hz,r⟩
 .exact(h.ok I.hok).1.2
 .exact⟨o,I.kIn a o hk,hc.2⟩
theorem aI.list_inj(I:aI X BJ σ H s)(h:bO X.K H a xs)(h':bO X.K H a ys):xs=ys:=by
 obtain⟨its,r,⟨o,n,e,_,_,d⟩,_⟩:=I.list h;obtain⟨its',r',⟨o',n',e',_,_,d'⟩,_⟩:=I.list h';rw[e]at e';cases e';rw[d]at d';injection d' with d1 _;have:=by simpa using congrArg uw d1
 subst this;exact r.inj r'
theorem aI.tuple_inj(I:aI X BJ σ H s)(h:cG X.K H a xs)(h':cG X.K H a ys):xs=ys:=by
 obtain⟨its,r,⟨o,e,_,n,d⟩,_⟩:=I.tuple h;obtain⟨its',r',⟨o',e',_,n',d'⟩,_⟩:=I.tuple h';rw[e]at e';cases e';rw[d]at d';injection d' with d1 _;have:=by simpa using congrArg uw d1
 subst this;exact r.inj r'
end
abbrev Cx.wish(X:Cx)(E:Value->aa->Prop):Cx:={X with xe:=E}
abbrev Cx.nox(X:Cx):Cx:=X.wish λ_ _=>False
theorem Cx.Ok.wish{X:Cx}(ok:X.Ok)(E:Value->aa->Prop):(X.wish E).Ok:=
 ⟨ok.mod,ok.kind,ok.glob,ok.blt,ok.above,ok.inj,ok.has,ok.cab,ok.hd,ok.frames,ok.stk,ok.exf,ok.bs,ok.bsz,ok.noex,ok.exfs,ok.funs,ok.frf⟩
theorem Cx.Ok.unwish{X:Cx}{E:Value->aa->Prop}(ok:(X.wish E).Ok):X.Ok:=
 ⟨ok.mod,ok.kind,ok.glob,ok.blt,ok.above,ok.inj,ok.has,ok.cab,ok.hd,ok.frames,ok.stk,ok.exf,ok.bs,ok.bsz,ok.noex,ok.exfs,ok.funs,ok.frf⟩
section
variable{X:Cx}{BJ:List (Addr×Obj)}{σ:St}{H:Hp}{s:aa}{E:Value->aa->Prop}
theorem aI.wish(I:aI X BJ σ H s)(E:Value->aa->Prop):aI (X.wish E) BJ σ H s:=⟨I.ok.wish E,I.os,I.bare,I.base,I.loc,I.cell,I.free,I.freeC,I.pin,I.hok,I.len⟩
theorem aI.unwish(I:aI (X.wish E) BJ σ H s):aI X BJ σ H s:=⟨I.ok.unwish,I.os,I.bare,I.base,I.loc,I.cell,I.free,I.freeC,I.pin,I.hok,I.len⟩
theorem SP.unwish    (h:SP (X.wish E) BJ D f s'):SP X BJ D f s':=by
 cases f with
 |next=>obtain⟨σ',H',I,q⟩:=h;exact⟨σ',H',I.unwish,q⟩
 |brk=>obtain⟨σ',H',I,q⟩:=h;exact⟨σ',H',I.unwish,q⟩
 |cont=>obtain⟨σ',H',I,q⟩:=h;exact⟨σ',H',I.unwish,q⟩
 |ret u=>obtain⟨v,σ',H',I,r,q⟩:=h;exact⟨v,σ',H',I.unwish,r,q⟩
theorem gG.nox{st:List Stmt}{t:TS}(h:gG X.nox st t):gG X st t:=λBJ s σ H D I hw=>
 je (h _ s _ H D (I.wish _) hw) (λ_ _ q=>q.unwish) (by grind)
end
section
variable{X:Cx}{st:Stmt}{eU:List Stmt}{t u:TS}{e:ah}{te:TE}{pos:ai}
def ae6:TS:=λD σ H=>D.nx σ H
def aga(t u:TS):TS:=λD σ H=>t {D with nx:=u D} σ H
theorem abq:gG X [] ae6:=λ_ _ σ H _ I h=>qm ⟨σ,H,I,h⟩
theorem aaN(h1:PS X st t)(h2:gG X eU u):gG X (st::eU) (aga t u):=by
 intro BJ s σ H D I h;refine wpAny_execs_cons (bA (h1 _ s _ H _ I h) λf s1 q=>?_);cases f with
 |next=>
  obtain⟨σ',H',I',q⟩:=q;exact h2 _ _ _ _ D I' q
 |ret v=>exact q
 |brk=>exact q
 |cont=>exact q
theorem Xs(h1:PS X st t):gG X [st] t:=by
 intro BJ s σ H D I h;refine wpAny_execs_cons (bA (h1 _ s _ H D I h) λf s1 q=>?_);cases f with
 |next=>exact qm q
 |ret v=>exact q
 |brk=>exact q
 |cont=>exact q
theorem aI.quiet  {σ:St}{H:Hp}{s:aa}(I:aI X BJ σ H s):interactive X.env=false:=by simp[interactive,I.ok.kind]
def aeE(te:TE):TS:=λD σ H=>te σ H λ_ H1=>D.nx σ H1
theorem aco(he:PE X e te)(hs:swapsWith e none pos.line X.env=pure false:=by rfl):PS X (.Expr e pos) (aeE te):=by
 intro BJ s σ H D I h;exact wpAny_Expr_any (bA (he _ s _ H _ I h) λv s1 ⟨x,H1,I1,r1,q1⟩=>⟨σ,H1,I1,q1⟩) I.quiet hs
def af0(te:TE):TS:=λD σ H=>te σ H D.rt
theorem adZ(he:PE X e te):PS X (.Return (some e) pos) (af0 te):=by
 intro BJ s σ H D I h;exact wpAny_Return_some (bA (he _ s _ H _ I h) λv s1 ⟨x,H1,I1,r1,q1⟩=>⟨x,σ,H1,I1,r1,q1⟩)
def afJ:TS:=λD _ H=>D.rt .non H
theorem abB:PS X (.Return none pos) afJ:=λ_ _ σ H _ I h=>wpAny_Return_none ⟨.non,σ,H,I,rfl,h⟩
def af9(c:TT)(t u:TS):TS:=λD σ H=>c σ H λb H1=>if b=true then t D σ H1 else u D σ H1
theorem aeV   {tc:TT}(hc:PT X c tc)(ha:gG X a t)(hb:gG X b u):PS X (.If c a b pos) (af9 tc t u):=by
 intro BJ s σ H D I h;refine wpAny_If (bA (hc _ s _ H _ I h) λd s1 hq=>?_);rcases hq with⟨H1,I1,q1⟩;cases d with
 |true=>exact ha _ _ _ _ D I1 q1
 |false=>exact hb _ _ _ _ D I1 q1
end
abbrev TG:=V->St->Hp->(St->Hp->Prop)->Prop
abbrev pL:=List V->St->Hp->(St->Hp->Prop)->Prop
def PG(X:Cx)(target:ah)(t:TG):Prop:=
 ∀(BJ:List (Addr×Obj))(s:aa)(σ:St)(H:Hp)(v:V)(u:Value)(Q:St->Hp->Prop),aI X BJ σ H s->bJ v u->t v σ H Q->
  wpAny (model X.prog X.w) X.A (assign target X.env u) (λ_ s'=>∃σ' H',aI X BJ σ' H' s'/\Q σ' H') X.xe s
def mL(X:Cx)(ts:List ah)(t:pL):Prop:=
 ∀(BJ:List (Addr×Obj))(s:aa)(σ:St)(H:Hp)(vs:List V)(us:BB)(Q:St->Hp->Prop),aI X BJ σ H s->aW vs us->t vs σ H Q->
  wpAny (model X.prog X.w) X.A (assignInOrder ((assignEach ts X.env).map (·.2)) us) (λ_ s'=>∃σ' H',aI X BJ σ' H' s'/\Q σ' H') X.xe s
abbrev zV:=V->V->V->Hp->(Hp->Prop)->Prop
def Uh(X:Cx)(t:zV):Prop:=
 ∀(BJ:List (Addr×Obj))(s:aa)(σ:St)(H:Hp)(o i v:V)(ov iv u:Value)(Q:Hp->Prop),aI X BJ σ H s->bJ o ov->bJ i iv->bJ v u->t o i v H Q->
  wpAny (model X.prog X.w) X.A (setItem ov iv u) (λ_ s'=>∃H',aI X BJ σ H' s'/\Q H') X.xe s
abbrev Ja:=V->V->Hp->VK->Prop
def PIp(X:Cx)(op:Operator)(t:Ja):Prop:=
 ∀(BJ:List (Addr×Obj))(s:aa)(σ:St)(H:Hp)(x y:V)(v u:Value)(Q:VK),aI X BJ σ H s->bJ x v->bJ y u->t x y H Q->
  wpAny (model X.prog X.w) X.A (inplaceOp op v u) (EP X BJ σ Q) X.xe s
section
variable{X:Cx}{pos:ai}
def Gh(i:Nat):TG:=λv σ H Q=>Q (σ.set i (some v)) H
theorem Ws   (hN:X.N.Nodup)(hi:X.N[i]?=some x)(hx:lI X.env.scope x)(hf:X.fn x=true\/X.env.scope.names.lookup x=some .local:=by first |exact .inl rfl |exact .inr rfl |assumption):PG X (.Name x pos) (Gh i):=by
 intro BJ s σ H v u Q I r h;exact wpAny_assign_Name (rY I hN hi hx r (λs' I'=>⟨_,H,I',h⟩) hf)
def agd:pL:=λvs σ H Q=>vs=[]/\Q σ H
def ae9(t:TG)(u:pL):pL:=λvs σ H Q=>∃v r,vs=v::r/\t v σ H λσ' H'=>u r σ' H' Q
theorem abn:mL X [] agd:=by
 intro BJ s σ H vs us Q I r h;obtain⟨e,h⟩:=h;exact assignInOrder_nil ⟨σ,H,I,h⟩
theorem aav   {t:TG}{u:pL}(h1:PG X e t)(h2:mL X es u)
  (hs:(assignEach (e::es) X.env).map (·.2)=assign e X.env::(assignEach es X.env).map (·.2):=by rfl):mL X (e::es) (ae9 t u):=by
 intro BJ s σ H vs us Q I r h;obtain⟨v,vr,e1,h⟩:=h;subst e1;cases r with
 |cons r rr=>
  rw[hs];refine uz (bA (h1 _ s _ H _ _ _ I r h) λ_ s1 hq=>?_);rcases hq with⟨σ1,H1,I1,q1⟩;exact h2 _ _ _ _ _ _ Q I1 rr q1
def agf(K:ae)(n:Nat)(t:pL):TG:=λv σ H Q=>∃a xs,v=.ref a/\cG K H a xs/\xs.length=n/\t xs σ H Q
theorem ac7  {k:Nat}{t:pL}{n:Nat}(hc:X.calm=true)(h:mL X es t)
  (hn:(assignEach es X.env).length=n:=by rfl)(hst:(assignEach es X.env).findIdx? (·.1)=none:=by rfl):PG X (.Tuple es k pos) (agf X.K n t):=by
 intro BJ s σ H v u Q I r hw;obtain⟨a,xs,e1,hq,hl,hw⟩:=hw;subst e1;cases r;obtain⟨its,rv,ht,hz⟩:=I.tuple hq;refine assign_Tuple_tuple (I.ok.hd hc) ht (by simp[hn,<-hl,rv.length]) hst λh' hx=>?_;have I1:=I.kept (t':=s.toks) λb o e=>hx b o (cw (ax e)) e;exact h BJ _ σ H xs _ Q I1 (by simpa using rv) hw
def agb(to ti:TE)(t:zV):TG:=λv σ H Q=>to σ H λo H1=>ti σ H1 λi H2=>t o i v H2 λH3=>Q σ H3
theorem Pf  {to ti:TE}{t:zV}(ho:PE X o to)(hi:PE X i ti)(hs:Uh X t)
  (ha:∀v,assign (.Subscript o i pos) X.env v=(do
   let ov <-holding [v] (eval o X.env)
   let iv <-holding [v,ov] (eval i X.env)
   standAt pos
   holding [v,ov,iv] (setItem ov iv v)
   release [v,ov,iv] []):=by intro _;rfl):PG X (.Subscript o i pos) (agb to ti t):=by
 intro BJ s σ H v u Q I r h;rw[ha];refine ag (jz (bA (ho _ s _ H _ I h) λov s1 hq=>?_));rcases hq with⟨x,H1,I1,r1,q1⟩;refine ag (jz (bA (hi _ _ _ _ _ I1 q1) λiv s2 hq=>?_));rcases hq with⟨y,H2,I2,r2,q2⟩;refine ag (qo (ag (jz (bA (hs _ _ _ _ x y v _ _ u _ I2 r1 r2 r q2) λ_ s3 hq=>?_))));rcases hq with⟨H3,I3,q3⟩;exact wpAny_release ⟨σ,H3,I3,q3⟩
def Xh(te:TE)(g:TG):TS:=λD σ H=>te σ H λx H1=>g x σ H1 D.nx
theorem yM{tg e:ah}{te:TE}{g:TG}(he:PE X e te)(hg:PG X tg g)(hs:swapsWithSole [tg] e pos.line X.env=pure false:=by rfl)(hw:swappedStores [tg] e X.env=pure none:=by rfl)
  (h1:(assignEach [tg] X.env).map (·.2)=[assign tg X.env]:=by rfl):PS X (.Assign [tg] e pos) (Xh te g):=by
 intro BJ s σ H D I h;refine wpAny_Assign_stores (bA (he _ s _ H _ I h) λv s1 hq=>?_) hs hw;rcases hq with⟨x,H1,I1,r1,q1⟩;rw[h1];exact bA (hg _ _ _ _ x v _ I1 r1 q1) λ_ s2 q=>q
theorem ad6     {pos':ai}(hN:X.N.Nodup)(hi:X.N[i]?=some x)(hx:lI X.env.scope x)(he:PE X e te)(hs:swapsWith e (some (.Name x pos')) pos.line X.env=pure false:=by rfl)(hf:X.fn x=true\/X.env.scope.names.lookup x=some .local:=by first |exact .inl rfl |exact .inr rfl |assumption):
  PS X (.Assign [.Name x pos'] e pos) (Xh te (Gh i)):=by
 intro BJ s σ H D I h;refine wpAny_Assign_Name (bA (he _ s _ H _ I h) λv s1 hq=>?_) hs;rcases hq with⟨y,H1,I1,r1,q1⟩;exact rY I1 hN hi hx r1 (λs2 I2=>⟨_,H1,I2,q1⟩) hf
def agg(i j:Nat)(ta:TA):TS:=λD σ H=>ta σ H λvs H1=>∃v w,vs=[v,w]/\D.nx ((σ.set i (some v)).set j (some w)) H1
theorem adY{i j:Nat}{x y:Str}{a b:ah}{ta:TA}{px py pt:ai}{kt k2 fE}(hc:X.calm=true)(hN:X.N.Nodup)(hi:X.N[i]?=some x)(hj:X.N[j]?=some y)(hij:i≠j)
  (hx:X.env.scope.names.lookup x=some .local)(hy:X.env.scope.names.lookup y=some .local)(ha:PA X [a,b] ta)
  (hw:swappedStores [.Tuple [.Name x px,.Name y py] kt pt] (.Tuple [a,b] k2 fE) X.env=pure (some [x,y]))
  (hs:swapsWithSole [.Tuple [.Name x px,.Name y py] kt pt] (.Tuple [a,b] k2 fE) pos.line X.env=pure false:=by rfl):
  PS X (.Assign [.Tuple [.Name x px,.Name y py] kt pt] (.Tuple [a,b] k2 fE) pos) (agg i j ta):=by
 intro BJ s σ H D I h;rw[exec_Assign_arm];refine ag (qo ?_);rw[hs];refine ag (au ?_);refine ag (Tuple_ (bA (ha _ BJ s σ H _ I h) λus s1 hq=>?_));rcases hq with⟨vs,H1,I1,r1,q1⟩;obtain⟨v,w,e1,q1⟩:=q1;subst e1;obtain⟨u1,u2,rfl,rv,rw'⟩:∃u1 u2,us=[u1,u2]/\bJ v u1/\bJ w u2:=by
  cases r1 with
  |cons p q=>
   cases q with
   |cons p' q'=>
    cases q';exact⟨_,_,rfl,p,p'⟩
 refine ka ?_ (by show 2<=sizeLine;decide);have I2:aI X BJ σ H1 {s1 with heap:=s1.heap.push {cls:=.type "tuple",data:=.seq [u1,u2].toArray}}:=I1.kept  λb o e=>ar _ e;rw[hw];refine ag (au ?_);refine ag (ou (ag (unpackItems_tuple (items:=#[u1,u2]) (I.ok.hd hc) (qp s1.heap _) λh' hx'=>?_)));have I3:=I2.kept (h':=h') (t':=s1.toks) λb o e=>hx' b o (cw (ax e)) e;refine ag (uz (wpAny_bindName (rY I3 hN hj (.inl hy) rw' (λs2 I4=>?_) (.inr hy))));refine uz (wpAny_bindName (rY I4 hN hi (.inl hx) rv (λs3 I5=>assignInOrder_nil (au ?_)) (.inr hx)));rw[List.set_comm _ _ (gw hij)]at I5;exact⟨_,H1,I5,q1⟩
def afV(i:Nat)(te:TE)(ti:Ja):TS:=λD σ H=>∃x,σ[i]?=some (some x)/\te σ H λy H1=>ti x y H1 λz H2=>D.nx (σ.set i (some z)) H2
theorem adn   {e:ah}{te:TE}{op:Operator}{ti:Ja}{pos':ai}(hN:X.N.Nodup)(hi:X.N[i]?=some x)(hx:lI X.env.scope x)(he:PE X e te)(ho:PIp X op ti)(hf:X.fn x=true\/X.env.scope.names.lookup x=some .local:=by first |exact .inl rfl |exact .inr rfl |assumption):
  PS X (.AugAssign (.Name x pos') op e pos) (afV i te ti):=by
 intro BJ s σ H D I h;obtain⟨v,e1,h⟩:=h;obtain⟨m,hn,hl⟩:=I.loc;have vis:pM X.env.scope x:=by rcases hx with k |k;exact .inl k;exact .inr (.inl k)
 obtain⟨u,r,l⟩:=hl i x v hi e1 vis;refine wpAny_AugAssign_Name ?_;have go:wpAny (model X.prog X.w) X.A (eval e X.env) (λw BQ=>wpAny (model X.prog X.w) X.A (inplaceOp op u w) (λr s₃=>wpAny (model X.prog X.w) X.A (storeName X.env x r) (λ_=>SP X BJ D .next) X.xe s₃) X.xe BQ) X.xe s:=by
  refine bA (he BJ s σ H _ I h) ?_
  rintro w s1 ⟨y,H1,I1,r1,q1⟩
  refine bA (ho BJ s1 σ H1 v y u w _ I1 r r1 q1) ?_
  rintro z s2 ⟨zv,H2,I2,r2,q2⟩
  exact rY I2 hN hi hx r2 (λs3 I3=>⟨_,H2,I3,q2⟩) hf
 rcases l with⟨hk,hm⟩|⟨hk,c,hc,hcell⟩
 .exact zc I.ok.kind hk hn hm go
 .rcases hk with hk |hk
  .exact zd I.ok.kind hk hc hcell go
  .rcases hx with k |k
   .have:X.env.scope.names.lookup x=some .free:=hk
    rw[k]at this;cases this
   .have:X.env.scope.names.lookup x=some .free:=hk
    rw[k]at this;cases this
def adw(c:TT)(tb:TS):TS:=λD σ H=>∃W:Nat->St->Hp->Prop,(∃m,W m σ H)/\∀m σ H,W m σ H->
 c σ H λb H1=>if b=true then ∃N:St->Hp->Prop,(∀σ' H',N σ' H'->∃m',m'<m/\W m' σ' H')/\tb {D with nx:=N,ct:=N,bk:=D.nx} σ H1 else D.nx σ H1
theorem aa5  {body:List Stmt}{tc:TT}{tb:TS}(hp:ow (model X.prog X.w) X.A X.env X.xe)(hc:PT X c tc)(hb:gG X body tb):PS X (.While c body [] pos) (adw tc tb):=by
 intro BJ s σ H D I h;obtain⟨W,⟨m0,w0⟩,turn⟩:=h;refine wpAny_While (codeAny_whileLoop (λn s'=>∃σ' H',aI X BJ σ' H' s'/\W n σ' H') ?_ m0 ⟨σ,H,I,w0⟩)
 rintro n s1 ⟨σ1,H1,I1,w1⟩
 refine kn hp (bA (hc BJ s1 σ1 H1 _ I1 (turn n σ1 H1 w1)) λb s2 hq=>?_);rcases hq with⟨H2,I2,q2⟩;cases b with
 |true=>
  obtain⟨N,hN,q2⟩:=q2;refine kn hp (bA (hb BJ s2 σ1 H2 _ I2 q2) λf s3 q3=>?_);cases f with
  |next=>
   obtain⟨σ3,H3,I3,n3⟩:=q3;obtain⟨m',hm,w3⟩:=hN σ3 H3 n3;exact⟨m',hm,σ3,H3,I3,w3⟩
  |cont=>
   obtain⟨σ3,H3,I3,n3⟩:=q3;obtain⟨m',hm,w3⟩:=hN σ3 H3 n3;exact⟨m',hm,σ3,H3,I3,w3⟩
  |brk=>exact q3
  |ret v=>exact q3
 |false=>
  exact qm ⟨σ1,H2,I2,q2⟩
end
structure It where
 go:Nat->Hp->Prop
 yld:Nat->Hp->V->Hp->Prop
 stop:Nat->Hp->Prop
def fZ(X:Cx)(BJ:List (Addr×Obj))(H:Hp)(b:Addr):Prop:=
 H b=none/\b≠X.env.locals/\b∉X.fs/\(b∈X.ex\/X.BK.heap.objs.size<=b)/\(∀x c,X.env.cells.lookup x=some c->c≠b)/\∀p∈X.pn++BJ,p.1≠b
theorem aI.fpOk   {σ:St}{H H':Hp}{s:aa}{b:Addr}(I:aI X BJ σ H s)(hb:s.heap.objs.size<=b)(hn:H' b=none):fZ X BJ H' b:=by
 refine⟨hn,lc (de I.lt hb),I.nofs hb,.inr (fh I.sz hb),λx c e z=>?_,λp hp z=>?_⟩
 .obtain⟨v,q⟩:=I.cell x c e
  exact absurd (de q.lt (by simp_all)) (ix _)
 .exact absurd (de (ax (I.pin p hp).1) (by simp_all)) (ix _)
structure tK(P:Program)(w:am)(K:ae)(tg:ah)(J:It)(fp:List Addr)(it:Addr)(tn:Nat->Heap->Prop):Prop where
 mem:it∈fp
 obj:∀i h,tn i h->∀b∈fp,∃o,h.get? b=some o/\∀v,o.data≠.cell v
 keep:∀i h h',tn i h->(∀b∈fp,∀o,h.get? b=some o->h'.get? b=some o)->tn i h'
 item:∀(X:Cx),X.prog=P->X.w=w->X.K=K->X.calm=true->∀(i:Nat)(BJ:List (Addr×Obj))(s:aa)(σ:St)(H:Hp)(E:Value->aa->Prop),aI X BJ σ H s->(∀b∈fp,fZ X BJ H b)->tn i s.heap->J.go i H->
  wpAny (model P w) X.A (pyNext (.ref it)) (λr s1=>∃u,r=some u/\
   wpAny (model P w) X.A (letOwnedTupleGo tg (.ref it) u) (λ_ s2=>∃x H',aI X BJ σ H' s2/\bJ x u/\J.yld i H x H'/\tn (i+1) s2.heap/\∀b∈fp,H' b=none) E s1) E s
 done:∀(X:Cx),X.prog=P->X.w=w->X.K=K->X.calm=true->∀(i:Nat)(BJ:List (Addr×Obj))(s:aa)(σ:St)(H:Hp)(E:Value->aa->Prop),aI X BJ σ H s->(∀b∈fp,fZ X BJ H b)->tn i s.heap->J.stop i H->
  wpAny (model P w) X.A (pyNext (.ref it)) (λr s1=>r=none/\aI X BJ σ H s1) E s
 self:∀(A:aq)(i:Nat)(s:aa)(Q:Value->aa->Prop)(E:Value->aa->Prop),tn i s.heap->Q (.ref it) s->wpAny (model P w) A (pyIter (.ref it)) Q E s
abbrev TI:=St->Hp->(It->Hp->Prop)->Prop
def Mz(X:Cx)(BJ:List (Addr×Obj))(σ:St)(tg:ah)(R:It->Hp->Prop)(itv:Value)(s2:aa):Prop:=
 ∃(it:Addr)(fp:List Addr)(tn:Nat->Heap->Prop)(J:It)(H':Hp),itv=.ref it/\aI X BJ σ H' s2/\tK X.prog X.w X.K tg J fp it tn/\tn 0 s2.heap/\(∀b∈fp,fZ X BJ H' b)/\R J H'
def PI(X:Cx)(tg iter:ah)(wi:TI):Prop:=
 ∀(BJ:List (Addr×Obj))(s:aa)(σ:St)(H:Hp)(R:It->Hp->Prop),aI X BJ σ H s->wi σ H R->
  wpAny (model X.prog X.w) X.A (eval iter X.env) (λv s1=>wpAny (model X.prog X.w) X.A (pyIter v) (Mz X BJ σ tg R) X.xe s1) X.xe s
theorem Bh  {A : aq} {E : Value → aa → Prop} {s : aa} {tg : ah} {it : Addr} {u : Value} {o : Obj} {n : String} {vs : Array Value} {Q : Unit → aa → Prop} (ho : s.heap.get? it = some o) (hc : o.cls = .type n) (hd : o.data = .fields vs)
    (hn : ["enumerate", "zip", "dict_itemiterator", "dict_reverseitemiterator", "odict_iterator", "itertools.zip_longest", "itertools.pairwise"].contains n = false) (hQ : Q () s) : wpAny M A (letOwnedTupleGo tg (.ref it) u) Q E s := by
  cases tg <;> first
    | exact au hQ
    | (cases u <;> first
        | exact au hQ
        | (refine ag (wpAny_load ho ?_)
           rw [hc, hd];show wpAny M A (if (["enumerate", "zip", "dict_itemiterator", "dict_reverseitemiterator", "odict_iterator", "itertools.zip_longest", "itertools.pairwise"].contains n && vs[0]? == some _) = true then _ else _) Q E s;rw [if_neg (by intro h; rw [hn] at h; cases h)];exact au hQ))
def Ta(K:ae)(a:Addr):It:=
 ⟨λi H=>∃xs x,bO K H a xs/\xs[i]?=some x,λi H x H'=>H'=H/\∀xs,bO K H a xs->xs[i]?=some x,λi H=>∃xs,bO K H a xs/\xs.length<=i⟩
def Ui(K:ae)(a:Addr):It:=
 ⟨λi H=>∃xs x,cG K H a xs/\xs[i]?=some x,λi H x H'=>H'=H/\∀xs,cG K H a xs->xs[i]?=some x,λi H=>∃xs,cG K H a xs/\xs.length<=i⟩
def wB(lo:Int)(n:Nat):It:=⟨λi _=>i<n,λi H x H'=>H'=H/\x=.int (lo+i),λi _=>n<=i⟩
theorem O2{P:Program}{w:am}{K:ae}{tg:ah}(a it:Addr):tK P w K tg (Ta K a) [it] it (λi h=>h.IsListIter it a i) where
 mem:=by simp
 obj:=λi h st b hb=>by
  have e:b=it:=by simpa using hb
  subst e;obtain⟨o,e,c,d⟩:=st;exact⟨o,e,λv z=>by rw[d]at z;cases z⟩
 keep:=λi h h' st k=>st.at λo e=>k it (by simp) o e
 item:=by
  intro X hP hw hK hc i BJ s σ H E I hf st hg;subst hP hw hK;obtain⟨xs,x,hq,hx⟩:=hg;obtain⟨its,rv,p,hz⟩:=I.list hq;obtain⟨u,hu,ru⟩:=rv.get hx;obtain⟨f0,f1,f2,f3,f4,f5⟩:=hf it (by simp);refine wpAny_pyNext_list_item st p.isList (x:=u) (by simpa using hu) λh' st' sb=>?_;have I1:=I.turned (t':=s.toks) (λb o hb e=>(sb.2 b hb).trans e) f0 f1 f3 f4 f5;obtain⟨o,e,c,d⟩:=id st';exact⟨u,rfl,Bh  e c d (by decide) ⟨x,H,I1,ru,⟨rfl,λys hy=>by rw[I.list_inj hy hq];exact hx⟩,st',λb hb=>(hf b hb).1⟩⟩
 done:=by
  intro X hP hw hK hc i BJ s σ H E I hf st hg;subst hP hw hK;obtain⟨xs,hq,hx⟩:=hg;obtain⟨its,rv,p,hz⟩:=I.list hq;obtain⟨f0,f1,f2,f3,f4,f5⟩:=hf it (by simp);have hl:=rv.length;exact wpAny_pyNext_list_end (I.ok.hd hc) st p.isList (by simp;omega) λh' eb=>⟨rfl,I.turned (t':=s.toks) (λb o hb e=>eb b o hb e) f0 f1 f3 f4 f5⟩
 self:=λ_ _ _ _ _ st h=>wpAny_pyIter_listiter st h
theorem M2{P:Program}{w:am}{K:ae}{tg:ah}(a it:Addr):tK P w K tg (Ui K a) [it] it (λi h=>h.IsTupleIter it a i) where
 mem:=by simp
 obj:=λi h st b hb=>by
  have e:b=it:=by simpa using hb
  subst e;obtain⟨o,e,c,d⟩:=st;exact⟨o,e,λv z=>by rw[d]at z;cases z⟩
 keep:=λi h h' st k=>st.at λo e=>k it (by simp) o e
 item:=by
  intro X hP hw hK hc i BJ s σ H E I hf st hg;subst hP hw hK;obtain⟨xs,x,hq,hx⟩:=hg;obtain⟨its,rv,p,hz⟩:=I.tuple hq;obtain⟨u,hu,ru⟩:=rv.get hx;obtain⟨f0,f1,f2,f3,f4,f5⟩:=hf it (by simp);refine wpAny_pyNext_tuple_item st (show s.heap.IsTuple a its.toArray from p) (x:=u) (by simpa using hu) λh' st' sb=>?_;have I1:=I.turned (t':=s.toks) (λb o hb e=>(sb.2 b hb).trans e) f0 f1 f3 f4 f5;obtain⟨o,e,c,d⟩:=id st';exact⟨u,rfl,Bh  e c d (by decide) ⟨x,H,I1,ru,⟨rfl,λys hy=>by rw[I.tuple_inj hy hq];exact hx⟩,st',λb hb=>(hf b hb).1⟩⟩
 done:=by
  intro X hP hw hK hc i BJ s σ H E I hf st hg;subst hP hw hK;obtain⟨xs,hq,hx⟩:=hg;obtain⟨its,rv,p,hz⟩:=I.tuple hq;obtain⟨f0,f1,f2,f3,f4,f5⟩:=hf it (by simp);have hl:=rv.length;exact wpAny_pyNext_tuple_end (I.ok.hd hc) st (show s.heap.IsTuple a its.toArray from p) (by simp;omega) λh' eb=>⟨rfl,I.turned (t':=s.toks) (λb o hb e=>eb b o hb e) f0 f1 f3 f4 f5⟩
 self:=λ_ _ _ _ _ st h=>wpAny_pyIter_tupleiter st h
theorem J4  {w:am}{K:ae}{tg:ah}(it:Addr)(lo:Int)(n:Nat):tK P w K tg (wB lo n) [it] it (λi h=>IsRangeIter h it (lo+(i:Nat)*1) ((n:Int)-(i:Nat)) 1) where
 mem:=by simp
 obj:=λi h st b hb=>by
  have e:b=it:=by simpa using hb
  subst e;exact⟨_,st,λv z=>by
   have z':=z;cases z'⟩
 keep:=λi h h' st k=>k it (by simp) _ st
 item:=by
  intro X hP hw hK hc i BJ s σ H E I hf st hg;subst hP hw hK;obtain⟨f0,f1,f2,f3,f4,f5⟩:=hf it (by simp);have W:=Walks.range (prog:=X.prog) (w:=X.w) (I.ok.hd hc) it lo 1 n;refine W.item i s _ _ hg st λv h' tk hv st' kk=>?_;obtain⟨t,rfl⟩:=hv;have I1:aI X BJ σ H {s with heap:=h',toks:=tk}:=I.turned (λb o hb e=>kk b o (by simpa using hb) e) f0 f1 f3 f4 f5;refine⟨_,rfl,Bh   st' rfl rfl (by decide) ⟨.int (lo+i),H,I1,⟨t,?_⟩,⟨rfl,rfl⟩,st',λb hb=>(hf b hb).1⟩⟩;rw[lm]
 done:=by
  intro X hP hw hK hc i BJ s σ H E I hf st hg;subst hP hw hK;obtain⟨f0,f1,f2,f3,f4,f5⟩:=hf it (by simp);exact wpAny_pyNext_range_end (I.ok.hd hc) st (by have:n<=i:=hg;omega) λh' eb=>⟨rfl,I.turned (t':=s.toks) (λb o hb e=>eb b o hb e) f0 f1 f3 f4 f5⟩
 self:=λ_ _ _ _ _ st h=>wpAny_pyIter_rangeiter st h
section
variable{X:Cx}{tg:ah}
theorem Gq  {σ:St}{H:Hp}{s:aa}{R:It->Hp->Prop}{E:Value->aa->Prop}{lo hi:Int}{t u v:Tok}{tk:Nat}(I:aI X BJ σ H s)(h1:-(2^62)<=lo)(h2:lo<2^62)(h3:-(2^62)<=hi)(h4:hi<2^62)
  (q:R (wB lo (hi-lo).toNat) H):wpAny (model X.prog X.w) X.A (pyIter (.ref s.heap.objs.size)) (Mz X BJ σ tg R) E {s with heap:=s.heap.push {cls:=.type "range",data:=.fields #[.int lo t,.int hi u,.int 1 v]},toks:=tk}:=by
 refine wpAny_pyIter_range (IsRange.new ..) (small_one h1 h2 h3 h4) ?_;have I1:aI X _ σ H {s with heap:=s.heap.push {cls:=.type "range",data:=.fields #[.int lo t,.int hi u,.int 1 v]},toks:=tk}:=I.kept λb o e=>ar _ e;refine⟨(s.heap.push _).objs.size,[(s.heap.push _).objs.size],_,_,H,rfl,
  I1.kept  λb o e=>ar _ e,J4 _ lo _,?_,λb hb=>?_,q⟩
 .have e1:lo+(0:Nat)*1=lo:=by simp
  have e2:((hi-lo).toNat:Int)-(0:Nat)=Builtin.Range.rangeSize lo hi 1:=by rw[rangeSize_one];grind
  rw[e1,e2];exact cj _ rfl
 .have e:b=(s.heap.push {cls:=.type "range",data:=.fields #[.int lo t,.int hi u,.int 1 v]}).objs.size:=by simpa using hb
  subst e;exact I1.fpOk (al _) (I1.hok.fresh (al _))
def afD(ta:TA):TI:=λσ H R=>ta σ H λvs H1=>∃j:Int,vs=[.int j]/\-(2^62)<=j/\j<2^62/\R (wB 0 j.toNat) H1
def afC(ta:TA):TI:=λσ H R=>ta σ H λvs H1=>∃i j:Int,vs=[.int i,.int j]/\(-(2^62)<=i/\i<2^62/\-(2^62)<=j/\j<2^62)/\R (wB i (j-i).toNat) H1
theorem R0   {p pos:ai}(hg:Gl X "range")(hm:X.mg "range"=none)(ha:PA X [a] ta)(hs:starEach [a] X.env=[(false,eval a X.env)]:=by rfl):PI X tg (.Call (.Name "range" p) [a] [] pos) (afD ta):=by
 intro BJ s σ H R I h;refine Call_ (qH I hg hm boot_range (ox (bA (ha pos BJ s σ H _ I h) λus s1 hq=>?_) hs rfl));rcases hq with⟨vs,H1,I1,r1,q1⟩;obtain⟨j,e,q1,q2,q⟩:=q1;subst e;cases r1 with
 |cons r rr=>
  cases rr;obtain⟨t,rfl⟩:=r;exact call_range_1 (Gq I1 (by omega) (by omega) q1 q2 (by simpa using q))
theorem M7   {p pos:ai}(hg:Gl X "range")(hm:X.mg "range"=none)(ha:PA X [a,b] ta)(hs:starEach [a,b] X.env=[(false,eval a X.env),(false,eval b X.env)]:=by rfl)(hs2:starEach [b] X.env=[(false,eval b X.env)]:=by rfl):
  PI X tg (.Call (.Name "range" p) [a,b] [] pos) (afC ta):=by
 intro BJ s σ H R I h;refine Call_ (qH I hg hm boot_range (ox (bA (ha pos BJ s σ H _ I h) λus s1 hq=>?_) (by rw[hs,hs2]) (by rw[hs2];rfl)));rcases hq with⟨vs,H1,I1,r1,q1⟩;obtain⟨i,j,e,⟨q1,q2,q3,q4⟩,q⟩:=q1;subst e;cases r1 with
 |cons r rr=>
  cases rr with
  |cons r' rr=>
   cases rr;obtain⟨t,rfl⟩:=r;obtain⟨t',rfl⟩:=r';exact call_range_2 (Gq I1 q1 q2 q3 q4 q)
def afU(wi:TI)(g:TG)(tb:TS):TS:=λD σ H=>wi σ H λJ H1=>∃W:Nat->Nat->St->Hp->Prop,(∃m,W 0 m σ H1)/\∀i m σ H,W i m σ H->
 (J.stop i H/\D.nx σ H)\/(J.go i H/\∃N:St->Hp->Prop,(∀σ' H',N σ' H'->∃m',m'<m/\W (i+1) m' σ' H')/\∀x H',J.yld i H x H'->g x σ H' λσ2 H2=>tb {D with nx:=N,ct:=N,bk:=D.nx} σ2 H2)
def Ef(fp:List Addr)(h:Heap):List (Addr×Obj):=fp.filterMap λb=>(h.get? b).map λo=>(b,o)
theorem rM   {b:Addr}{o:Obj}(hb:b∈fp)(e:h.get? b=some o):(b,o)∈Ef fp h:=va.mpr ⟨b,hb,by simp_all ⟩
theorem Q4    (hp:p∈Ef fp h):p.1∈fp/\h.get? p.1=some p.2:=by
 obtain⟨b,hb,e⟩:=va.mp hp;cases q:h.get? b with
 |none=>simp_all
 |some o=>
  rw[q]at e;have e':=cx e;subst e';exact⟨hb,q⟩
theorem aI.pinned  {σ:St}{H:Hp}{s:aa}{fp:List Addr}(I:aI X BJ σ H s)(hf:∀b∈fp,fZ X BJ H b)(ho:∀b∈fp,∃o,s.heap.get? b=some o/\∀v,o.data≠.cell v):aI X (BJ++Ef fp s.heap) σ H s:=
 I.pins_of λp hp=>(br.mp hp).elim (λz=>I.pin p (dm _ z)) λz=>by
  obtain⟨hb,e⟩:=Q4 z;obtain⟨f0,f1,f2,_⟩:=hf _ hb;obtain⟨o,e',d⟩:=ho _ hb
  simp_all
theorem aI.unpinned  {σ:St}{H:Hp}{s:aa}(I:aI X (BJ++pl) σ H s):aI X BJ σ H s:=I.pins_of λp hp=>I.pin p (dm _ (jq _ hp))
theorem Lw  {body:List Stmt}{wi:TI}{g:TG}{tb:TS}{pos:ai}(hp:ow (model X.prog X.w) X.A X.env X.xe)(hc:X.calm=true)(hi:PI X tg iter wi)(hg:PG X tg g)(hb:gG X body tb)
  (hs:∀x,foldedSetIterable iter X.env x=pure x:=by intro _;rfl):PS X (.For tg iter body [] pos) (afU wi g tb):=by
 intro BJ s σ H D I h;refine wpAny_For (bA (hi BJ s σ H _ I h) λv s1 h1=>bA h1 λitv s2 h2=>?_) hs;obtain⟨it,fp,tn,J,H2,e,I2,T,st2,f2,W,⟨m0,w0⟩,turn⟩:=h2;subst e
 --what stays true of the iterator's objects through the loop
 have stat:∀{H':Hp},(∀b∈fp,H' b=none)->∀b∈fp,fZ X BJ H' b:=λhn b hb=>⟨hn b hb,(f2 b hb).2⟩;refine codeAny_forLoop_any (λn s'=>∃i σ' H',aI X BJ σ' H' s'/\tn i s'.heap/\(∀b∈fp,H' b=none)/\W i n σ' H') ?_ m0 ⟨0,σ,H2,I2,st2,λb hb=>(f2 b hb).1,w0⟩
 rintro n s3 ⟨i,σ3,H3,I3,dI,fr3,w3⟩
 rcases turn i n σ3 H3 w3 with⟨stop,qn⟩|⟨go,N,hN,step⟩
 .refine kn hp (bA (T.done X rfl rfl rfl hc i BJ s3 σ3 H3 X.xe I3 (stat fr3) dI stop) λr s4 hq=>?_)
  rcases hq with⟨hr,I4⟩;subst hr;exact qm ⟨σ3,H3,I4,qn⟩
 .refine kn hp (bA (T.item X rfl rfl rfl hc i BJ s3 σ3 H3 X.xe I3 (stat fr3) dI go) λr s4 hq=>?_)
  rcases hq with⟨u,hr,h4⟩;subst hr;refine kn hp (bA h4 λ_ s5 hq=>?_);rcases hq with⟨x,H5,I5,r5,y5,st5,fr5⟩;have I5':=I5.pinned (stat fr5) (T.obj _ _ st5);refine kn hp (bA (hg _ s5 σ3 H5 x u _ I5' r5 (step x H5 y5)) λ_ s6 hq=>?_);rcases hq with⟨σ6,H6,I6,q6⟩;refine kn hp (bA (hb _ s6 σ6 H6 _ I6 q6) λf s7 q7=>?_);have again:∀{σ7:St}{H7:Hp},aI X _ σ7 H7 s7->N σ7 H7->∃m,m<n/\∃i σ' H',aI X BJ σ' H' s7/\tn i s7.heap/\(∀b∈fp,H' b=none)/\W i m σ' H':=λ{σ7 H7} I7 n7=>by
   obtain⟨m',hm,w7⟩:=hN σ7 H7 n7;refine⟨m',hm,i+1,σ7,H7,I7.unpinned,T.keep _ _ _ st5 λb hb o e=>(I7.pin (b,o) (dm _ (dm _ (rM hb e)))).1,λb hb=>?_,w7⟩;obtain⟨o,e,d⟩:=T.obj _ _ st5 b hb;exact(I7.pin (b,o) (dm _ (dm _ (rM hb e)))).2.1
  cases f with
  |next=>obtain⟨σ7,H7,I7,n7⟩:=q7;exact again I7 n7
  |cont=>obtain⟨σ7,H7,I7,n7⟩:=q7;exact again I7 n7
  |brk=>obtain⟨σ7,H7,I7,q7⟩:=q7;exact⟨σ7,H7,I7.unpinned,q7⟩
  |ret v=>obtain⟨x7,σ7,H7,I7,r7,q7⟩:=q7;exact⟨x7,σ7,H7,I7.unpinned,r7,q7⟩
end
abbrev R2:=V->V->Hp->VK->Prop
def dM(X:Cx)(f:Value->Value->Sem Value)(r:R2):Prop:=
 ∀(BJ:List (Addr×Obj))(s:aa)(σ:St)(H:Hp)(x y:V)(v u:Value)(Q:VK),aI X BJ σ H s->bJ x v->bJ y u->r x y H Q->
  wpAny (model X.prog X.w) X.A (f v u) (EP X BJ σ Q) X.xe s
def Da(X:Cx)(f:Value->Sem Value)(r:V->Hp->VK->Prop):Prop:=
 ∀(BJ:List (Addr×Obj))(s:aa)(σ:St)(H:Hp)(x:V)(v:Value)(Q:VK),aI X BJ σ H s->bJ x v->r x H Q->
  wpAny (model X.prog X.w) X.A (f v) (EP X BJ σ Q) X.xe s
def iH(X:Cx)(f:Value)(r:List V->Hp->VK->Prop):Prop:=
 ∀(BJ:List (Addr×Obj))(s:aa)(σ:St)(H:Hp)(xs:List V)(us:BB)(Q:VK),aI X BJ σ H s->aW xs us->r xs H Q->
  wpAny (model X.prog X.w) X.A (call f us) (EP X BJ σ Q) X.xe s
def afX(X:Cx)(r:V->Hp->(Bool->Hp->Prop)->Prop):Prop:=
 ∀(BJ:List (Addr×Obj))(s:aa)(σ:St)(H:Hp)(x:V)(v:Value)(Q:Bool->Hp->Prop),aI X BJ σ H s->bJ x v->r x H Q->
  wpAny (model X.prog X.w) X.A (truthy v) (TP X BJ σ Q) X.xe s
def Ga(r:R2)(ta tb:TE):TE:=λσ H Q=>ta σ H λx H1=>tb σ H1 λy H2=>r x y H2 Q
def tUn(r:V->Hp->VK->Prop)(ta:TE):TE:=λσ H Q=>ta σ H λx H1=>r x H1 Q
def rI(C:Int->Int->Prop)(g:Int->Int->V):R2:=λx y H Q=>∃i j,x=.int i/\y=.int j/\C i j/\Q (g i j) H
def jG(g:Int->Int->V):R2:=λx y H Q=>∃i j,x=.int i/\y=.int j/\Q (g i j) H
def rU(g:Int->V):V->Hp->VK->Prop:=λx H Q=>∃i,x=.int i/\Q (g i) H
section
variable{X:Cx}{a b:ah}{ta tb:TE}{pos:ai}
theorem Wh(ha:PE X a ta)(hb:PE X b tb){BJ:List (Addr×Obj)}{s:aa}{σ:St}{H:Hp}{R:V->V->Hp->Prop}(I:aI X BJ σ H s)
  (h:ta σ H λx H1=>tb σ H1 λy H2=>R x y H2){Q:Value->aa->Prop}{f:Value->Value->Sem Value}
  (hf:∀v u s2 x y H2,aI X BJ σ H2 s2->bJ x v->bJ y u->R x y H2->wpAny (model X.prog X.w) X.A (f v u) Q X.xe s2):
  wpAny (model X.prog X.w) X.A (eval a X.env) (λv BN=>wpAny (model X.prog X.w) X.A (eval b X.env) (λu BQ=>wpAny (model X.prog X.w) X.A (f v u) Q X.xe BQ) X.xe BN) X.xe s:=by
 refine bA (ha _ s _ H _ I h) ?_
 rintro v s1 ⟨x,H1,I1,r1,q1⟩
 refine bA (hb _ _ _ _ _ I1 q1) ?_
 rintro u s2 ⟨y,H2,I2,r2,q2⟩
 exact hf v u _ x y _ I2 r1 r2 q2
theorem Fx   (ho:dM X (binaryOp op) r)(ha:PE X a ta)(hb:PE X b tb):PE X (.BinOp a op b pos) (Ga r ta tb):=by
 intro BJ s σ H Q I h;exact wpAny_BinOp (Wh ha hb I h λv u s2 x y H2 I2 rx ry q=>ho _ _ _ _ x y v u Q I2 rx ry q)
theorem Cy   (ho:Da X (unaryOp op) r)(ha:PE X a ta):PE X (.UnaryOp op a pos) (tUn r ta):=by
 intro BJ s σ H Q I h;exact UnaryOp_ (bA (ha _ s _ H _ I h) λv s1 ⟨x,H1,I1,r1,q1⟩=>ho _ _ _ _ x v Q I1 r1 q1)
theorem Va  {C:Int->Int->Prop}{g:Int->Int->Int}
  (rule:∀(i j:Int)(t u:Tok)(s:aa)(Q:Value->aa->Prop)(E:Value->aa->Prop),C i j->Q (.int (g i j) s.toks) {s with toks:=s.toks+1}->wpAny (model X.prog X.w) X.A (f (.int i t) (.int j u)) Q E s):
  dM X f (rI C λi j=>.int (g i j)):=by
 intro BJ s σ H x y v u Q I rx ry h;obtain⟨i,j,rfl,rfl,hc,q⟩:=h;obtain⟨t,rfl⟩:=rx;obtain⟨t',rfl⟩:=ry;exact rule i j t _ s _ _ hc ⟨.int _,H,I.tok _,⟨_,rfl⟩,q⟩
theorem Py  {g:Int->Int->Int}
  (rule:∀(i j:Int)(t u:Tok)(s:aa)(Q:Value->aa->Prop)(E:Value->aa->Prop),Q (.int (g i j) s.toks) {s with toks:=s.toks+1}->wpAny (model X.prog X.w) X.A (f (.int i t) (.int j u)) Q E s):
  dM X f (jG λi j=>.int (g i j)):=by
 intro BJ s σ H x y v u Q I rx ry h;obtain⟨i,j,rfl,rfl,q⟩:=h;obtain⟨t,rfl⟩:=rx;obtain⟨t',rfl⟩:=ry;exact rule i j t _ s _ _ ⟨.int _,H,I.tok _,⟨_,rfl⟩,q⟩
theorem Ba  {g:Int->Int->Bool}
  (rule:∀(i j:Int)(t u:Tok)(s:aa)(Q:Value->aa->Prop)(E:Value->aa->Prop),Q (.bool (g i j)) s->wpAny (model X.prog X.w) X.A (f (.int i t) (.int j u)) Q E s):
  dM X f (jG λi j=>.bl (g i j)):=by
 intro BJ s σ H x y v u Q I rx ry h;obtain⟨i,j,rfl,rfl,q⟩:=h;obtain⟨t,rfl⟩:=rx;obtain⟨t',rfl⟩:=ry;exact rule i j t _ s _ _ ⟨.bl _,H,I,rfl,q⟩
def zM(i j:Int):Prop:=0<=j/\j<=1000000/\i.natAbs<2^64
def Yh(i j:Int):Prop:=(-(2^64)<i/\i<2^64)\/(-(2^64)<j/\j<2^64)
theorem Yh.ok  (h:Yh i j):IntMulOk i j:=by
 rcases h with⟨h1,h2⟩|⟨h1,h2⟩
 .exact .of_left (intBits_le_64 h1 h2)
 .exact .of_right (intBits_le_64 h1 h2)
theorem adv:dM X (binaryOp .Add) (jG λi j=>.int (i+j)):=Py λ_ _ _ _ _ _ _ q=>add_int q
theorem Ju:dM X (binaryOp .Sub) (jG λi j=>.int (i-j)):=Py λ_ _ _ _ _ _ _ q=>sub_int q
theorem acr:dM X (binaryOp .Mod) (rI (λ_ j=>j≠0) λi j=>.int (i.fmod j)):=Va λ_ _ _ _ _ _ _ hc q=>mod_int' hc q
theorem ac4:dM X (binaryOp .Pow) (rI zM λi j=>.int (i^j.toNat)):=Va λ_ _ _ _ _ _ _ hc q=>pow_int_small hc.1 hc.2.1 hc.2.2 q
theorem unI  {g:Int->Int}
  (rule:∀(i:Int)(t:Tok)(s:aa)(Q:Value->aa->Prop)(E:Value->aa->Prop),Q (.int (g i) s.toks) {s with toks:=s.toks+1}->wpAny (model X.prog X.w) X.A (f (.int i t)) Q E s):
  Da X f (rU λi=>.int (g i)):=by
 intro BJ s σ H x v Q I rx h;obtain⟨i,rfl,q⟩:=h;obtain⟨t,rfl⟩:=rx;exact rule i t s _ _ ⟨.int _,H,I.tok _,⟨_,rfl⟩,q⟩
theorem Ou:Da X (unaryOp .USub) (rU λi=>.int (-i)):=unI λ_ _ _ _ _ q=>neg_int q
theorem Hy:dM X (compareOp .Lt) (jG λi j=>.bl (decide (i<j))):=Ba λ_ _ _ _ _ _ _ q=>lt_int q
theorem Ww:dM X (compareOp .LtE) (jG λi j=>.bl (decide (i<=j))):=Ba λ_ _ _ _ _ _ _ q=>le_int q
theorem Yx:dM X (compareOp .Gt) (jG λi j=>.bl (decide (j<i))):=Ba λ_ _ _ _ _ _ _ q=>gt_int q
theorem Tx:dM X (compareOp .GtE) (jG λi j=>.bl (decide (j<=i))):=Ba λ_ _ _ _ _ _ _ q=>ge_int q
theorem dM.or   (h:dM X f r)(h':dM X f r'):dM X f (λx y H Q=>r x y H Q\/r' x y H Q):=by
 intro BJ s σ H x y v u Q I rx ry q;rcases q with q |q
 .exact h _ s _ H x y v u Q I rx ry q
 .exact h' _ s _ H x y v u Q I rx ry q
theorem kJ(b:ah){op:CmpOp}(h:op≠.In:=by decide)(h2:op≠.NotIn:=by decide):behindInMarks op b=false:=by
 have e1:(op==CmpOp.In)=false:=by grind
 have e2:(op==CmpOp.NotIn)=false:=by grind
 cases b<;>simp[behindInMarks,e1,e2]
theorem acb   (ho:dM X (compareOp op) r)(ha:PE X a ta)(hb:PE X b tb)(hm:behindInMarks op b=false):PE X (.Compare a [op] [b] pos) (Ga r ta tb):=by
 intro BJ s σ H Q I h;exact wpAny_Compare1 (Wh ha hb I h λv u s2 x y H2 I2 rx ry q=>ho _ _ _ _ x y v u Q I2 rx ry q) hm
def ae0(t:TE):TT:=λσ H Q=>t σ H λx H'=>∃k,x=.bl k/\Q k H'
theorem abF   (ho:dM X (compareOp op) r)(ha:PE X a ta)(hb:PE X b tb)(hm:behindInMarks op b=false):PT X (.Compare a [op] [b] pos) (ae0 (Ga r ta tb)):=by
 intro BJ s σ H Q I h;refine zf (bA (ha _ s _ H _ I h) λv s1 ⟨x,H1,I1,r1,q1⟩=>bA (hb _ _ _ _ _ I1 q1) λu s2 ⟨y,H2,I2,r2,q2⟩=>
  bA (ho _ _ _ _ x y v u _ I2 r1 r2 q2) λc s3 ⟨z,H3,I3,r3,k,e,q3⟩=>?_) hm
 subst e;cases r3;exact jy ⟨H3,I3,q3⟩
def My(K:ae)(x:V)(H:Hp)(k:Bool):Prop:=
 match x with
 |.non=>k=false
 |.bl b=>k=b
 |.int i=>k=(i !=0)
 |.str y=>y.length<=sizeLine/\k=((y.length:Int) !=0)
 |.byt y=>y.size<=sizeLine/\k=((y.size:Int) !=0)
 |.ref p=>(∃xs,bO K H p xs/\k=!xs.isEmpty)\/(∃xs,cG K H p xs/\k=!xs.isEmpty)\/∃kvs,H p=some (.dK kvs)/\k=!kvs.isEmpty
 |_=>False
theorem K0    (r:KV kvs vs):(!vs.isEmpty)=!kvs.isEmpty:=by
 cases r<;>rfl
theorem Hl   (r:aW xs its):(!its.toArray.isEmpty)=!xs.isEmpty:=by
 cases r<;>simp
theorem sT:(sizeLine:Nat)<2^63:=by decide
theorem adk:afX X (λx H Q=>∃k,My X.K x H k/\Q k H):=by
 intro BJ s σ H x v Q I rx h;obtain⟨k,e,q⟩:=h;have hl:=sT;have hs:sizeLine=16777216:=kb;cases x with
 |non=>
  cases rx;have e':k=false:=e;subst e';exact truthy_none ⟨H,I,q⟩
 |bl b=>
  cases rx;have e':k=b:=e;subst e';exact jy ⟨H,I,q⟩
 |int i=>
  obtain⟨t,rfl⟩:=rx;have e':k=(i !=0):=e;subst e';exact zg ⟨H,I,q⟩
 |str y=>
  obtain⟨t,rfl⟩:=rx;obtain⟨hy,e'⟩:y.length<=sizeLine/\k=((y.length:Int) !=0):=e;subst e';exact PySem.P.truthy_str (by omega) ⟨H,I.tok _,q⟩
 |byt y=>
  obtain⟨t,rfl⟩:=rx;obtain⟨hy,e'⟩:y.size<=sizeLine/\k=((y.size:Int) !=0):=e;subst e';exact PySem.W.truthy_bytes (by omega) ⟨H,I.tok _,q⟩
 |ref p=>
  cases rx;have e':=e;rcases e' with⟨xs,hx,e'⟩|⟨xs,hx,e'⟩|⟨kvs,hx,e'⟩
  .subst e'
   obtain⟨its,r,pl,hz⟩:=I.list hx;have hlen:=r.length;exact wpAny_truthy_list pl.isList (by simp only[bf];omega) ⟨H,I.tok _,by rw[Hl r];exact q⟩
  .subst e'
   obtain⟨its,r,pl,hz⟩:=I.tuple hx;have hlen:=r.length;exact truthy_tuple pl (by simp only[bf];omega) ⟨H,I.tok _,by rw[Hl r];exact q⟩
  .subst e'
   obtain⟨hz,hS,vs,r,m⟩:kvs.length<=sizeLine/\(p==sysModules)=false/\∃vs,KV kvs vs/\s.heap.DictOf (Zd X.prog X.w) p vs:=I.hok p _ hx;have hlen:kvs.length=vs.length:=yy r;exact wpAny_truthy_dict hS m (by omega) ⟨H,I.tok _,by rw[K0 r];exact q⟩
 |_=>exact(show False from e).elim
theorem X5(ha:PE X a ta)(he:∀whole,isTrue a X.env whole=(do let v <-whole;standAt a.pos;holding [v] (truthy v))):
  PT X a (λσ H Q=>ta σ H λx H'=>∃k,My X.K x H' k/\Q k H'):=by
 intro BJ s σ H Q I h;exact isTrue_plain (bA (ha _ s _ H _ I h) λv s1 ⟨x,H1,I1,r1,q1⟩=>adk _ _ _ _ x v Q I1 r1 q1) (he _)
theorem jC   (r:aW [x] us):∃u,us=[u]/\bJ x u:=by
 cases r with
 |cons r1 r2=>cases r2;exact⟨_,rfl,r1⟩
theorem Ux   (r:aW [x,y] us):∃u w',us=[u,w']/\bJ x u/\bJ y w':=by
 cases r with
 |cons r1 r2=>
  cases r2 with
  |cons r3 r4=>cases r4;exact⟨_,_,rfl,r1,r3⟩
theorem aaC:iH X (.builtin "abs") (λxs H Q=>∃i,xs=[.int i]/\Q (.int (if i<0 then-i else i)) H):=by
 intro BJ s σ H xs us Q I r h;obtain⟨i,rfl,q⟩:=h;obtain⟨u,rfl,t,rfl⟩:=jC r;exact call_abs_int λu tk=>⟨.int _,H,I.tok _,⟨_,rfl⟩,q⟩
theorem S6:iH X (.type "int") (λxs H Q=>(∃i,xs=[.int i]/\Q (.int i) H)\/∃k,xs=[.bl k]/\Q (.int (if k then 1 else 0)) H):=by
 intro BJ s σ H xs us Q I r h;rcases h with⟨i,rfl,q⟩|⟨k,rfl,q⟩
 .obtain⟨u,rfl,t,rfl⟩:=jC r
  exact call_int_int ⟨.int i,H,I,⟨_,rfl⟩,q⟩
 .obtain⟨u,rfl,r1⟩:=jC r
  cases r1;exact call_int_bool ⟨.int _,H,I.tok _,⟨_,rfl⟩,q⟩
end
structure Di(h:Heap)(x dx C:Addr)(mA:Str->BC):Prop where
 obj:h.get? x=some (uo C dx)
 ns:h.Ns1 dx mA
 ne:dx≠x
theorem T6{h:Heap}{dx:Addr}{mA:Str->BC}(n:h.Ns1 dx mA):∃od,h.get? dx=some od/\∀name,vb name od=some (mA name):=by
 obtain⟨o,es,ep,ho,hd,hk,_,hm⟩:=n;refine⟨o,ho,λname=>?_⟩;have e:=hm name;unfold nsFind findBy at e;rw[<-Array.find?_toList]at e;unfold vb;rw[hd];dsimp only;split
 .simp_all
 .rename_i q
  rw[q]at e;have a:es.toList.any (·.refKey)=false:=by
   rw[List.any_eq_false];intro y hy;obtain⟨z,t,hkey⟩:=hk y (Array.mem_toList_iff.mp hy);simp[DictEntry.refKey,hkey]
  have a':¬es.toList.any (·.refKey)=true:=by rw[a];simp_all
  rw[if_neg a'];exact congrArg _ e
theorem Di.look    (I:Di h x dx C mA):∃od,PySem.W.InstAt h x (uo C dx) C (some od)/\∀name,vb name od=some (mA name):=
 let⟨od,ho,hl⟩:=T6 I.ns
 ⟨od,⟨I.obj,rfl,rfl,ho⟩,hl⟩
section
variable{P:Program}{w:am}{H:Hp}{h:Heap}{a C dx:Addr}{fs:List (Str×V)}
theorem aba(hok:fK P w H h)(e:H a=some (.ins C dx fs)):∃mA,Di h a dx C mA/\(∀f,Bi (fs.lookup f) (mA f))/\yz mA (fs.map (·.1))/\fs.length<=1000/\H dx=some (.own a):=by
 obtain⟨d,z,ne,ob,mA,n,r,q⟩:=show fQ P w H h a _ from hok a _ e;exact⟨mA,⟨ob,n,ne⟩,r,q,z,d⟩
end
structure Li(K:ae)(C:Addr):Prop where
 pg:zh K C Str.empty=true
 hd:PySem.W.hasDictIn K C=true
 po:PySem.W.plainOver K C=true
 sa:vd K (.ref C) "__setattr__"=some (some (.builtin "object.__setattr__"))
theorem Li.get{K:ae}{C:Addr}(c:Li K C)(f:Str):zh K C f=true:=c.pg
structure dF(K:ae)(C:Addr)(f:Str)(v:V)(u:Value):Prop where
 at_:vd K (.ref C) f=some (some u)
 rel:bJ v u
 get:zi K u "__get__"=some none
 cp:PySem.W.copiedNames.contains f=false
section
variable{X:Cx}{BJ:List (Addr×Obj)}{σ:St}{H:Hp}{s:aa}{A:aq}{E:Value->aa->Prop}{Q:Value->aa->Prop}{c:Value}{b:Bool}
inductive kF(K:ae)(H:Hp):V->Value->Prop where
 |non:kF K H .non (.type "NoneType")
 |bl (x:Bool):kF K H (.bl x) (.type "bool")
 |int (i:Int):kF K H (.int i) (.type "int")
 |str (x:Str):kF K H (.str x) (.type "str")
 |flt (x:UInt64):kF K H (.flt x) (.type "float")
 |lst {a:Addr} {xs:List V} (e:H a=some (.lst xs)):kF K H (.ref a) (.type "list")
 |frz {a:Addr} {o:Obj} {xs:List V} (e:H a=some (.frz o (.lst xs))):kF K H (.ref a) (.type "list")
 |tup {a:Addr} {xs:List V} (e:H a=some (.tup xs)):kF K H (.ref a) (.type "tuple")
 |dK {a:Addr} {kvs:List (iU×V)} (e:H a=some (.dK kvs)):kF K H (.ref a) (.type "dict")
 |dT {a:Addr} {kvs:List (List iU×V)} (e:H a=some (.dT kvs)):kF K H (.ref a) (.type "dict")
 |ins {a C dx:Addr} {fs:List (Str×V)} (e:H a=some (.ins C dx fs)) (cl:Li K C) (ha:vd K (.ref C) "__class__"=some (some (.builtin "object.__class__")))
   (hn:zi K (.builtin "object.__class__") "__get__"=some (some (.builtin "getset_descriptor.__get__"))) (htk:PySem.W.takesIn K (.builtin "object.__class__")=some true)
   (hm:PySem.W.mroIn K C (.type "object")=some true):kF K H (.ref a) (.ref C)
theorem M8  {u t:Value}(I:aI X BJ σ H s)(rx:bJ x u)(ty:kF X.K H x t)(e:lq X.K t c=some b)(h:∀tk,Q (.bool b) {s with toks:=tk}):
  wpAny (model X.prog X.w) A (call (.builtin "isinstance") [u,c]) Q E s:=by
 cases ty with
 |non=>cases show u=cy from rx;exact ir PySem.W.kitx_none I.kIn oy e (by grind) h
 |bl y=>cases show u=oq y from rx;exact ir PySem.W.kitx_bool I.kIn oy e (by grind) h
 |int i=>obtain⟨t,q⟩:=show ∃t,u=lb i t from rx;cases q;exact ir PySem.W.kitx_int I.kIn oy e (by grind) h
 |str y=>obtain⟨t,q⟩:=show ∃t,u=um y t from rx;cases q;exact ir PySem.W.kitx_str I.kIn oy e (by grind) h
 |flt y=>obtain⟨t,q⟩:=show ∃t,u=Value.float y t from rx;cases q;exact ir PySem.W.kitx_float I.kIn oy e (by grind) h
 |@lst a xs ea=>
  cases show u=fe a from rx;obtain⟨_,_,n,_,h1⟩:=(show fQ _ _ H _ a _ from I.hok a _ ea);exact ir ve I.kIn ⟨_,h1,rfl⟩ e (by grind) h
 |@frz a ob xs ea=>
  cases show u=fe a from rx;obtain⟨_,_,_,n,_,h1⟩:=(show fQ _ _ H _ a _ from I.hok a _ ea);exact ir ve I.kIn ⟨_,h1,rfl⟩ e (by grind) h
 |@tup a xs ea=>
  cases show u=fe a from rx;obtain⟨_,_,_,p⟩:=(show fQ _ _ H _ a _ from I.hok a _ ea);obtain⟨o,h1,h2,_⟩:=p;exact ir zj I.kIn ⟨o,h1,h2⟩ e (by grind) h
 |@dK a kvs ea=>
  cases show u=fe a from rx;obtain⟨_,_,vs,_,p⟩:=(show fQ _ _ H _ a _ from I.hok a _ ea);obtain⟨o,es,ep,h1,h2,_⟩:=p;exact ir zk I.kIn ⟨o,h1,h2.1⟩ e (by grind) h
 |@dT a kvs ea=>
  cases show u=fe a from rx;obtain⟨_,_,xs,_,o,es,ep,h1,h2,_⟩:=(show fQ _ _ H _ a _ from I.hok a _ ea);exact ir zk I.kIn ⟨o,h1,h2.1⟩ e (by grind) h
 |@ins a C dx fs ea cl ha hn htk hm=>
  cases show u=fe a from rx;obtain⟨mA,O,_⟩:=aba I.hok ea;obtain⟨od,J,_⟩:=O.look;exact ir (PySem.W.kitx_own (cl.get _) cl.hd ha hn htk hm) I.kIn J e (by grind) h
end
structure dH(k:Nat)(A:aq):Prop where
 hd:A.handled=none
 dp:A.depth+3*k+105<recursionLimit
 un:A.units+16*k+200<cLine
theorem dH.mono{j k:Nat}{A:aq}(r:dH k A)(h:j<=k):dH j A:=⟨r.hd,by have:=r.dp;omega,by have:=r.un;omega⟩
theorem dH.deeper{k:Nat}{A:aq}(r:dH (k+1) A)(env:bi):dH k (A.deeper env):=
 ⟨r.hd,by have:=r.dp;show A.depth+1+3*k+105<_;omega,by have:=r.un;show A.units+3+16*k+200<_;omega⟩
theorem dH.depth   (r:dH k A):A.depth<recursionLimit:=by have:=r.dp;omega
theorem dH.units   (r:dH k A):A.units+64<cLine:=by have:=r.un;omega
def agl:TA:=λ_ H Q=>Q [] H
def aex(ta:TE)(tr:TA):TA:=λσ H Q=>ta σ H λx H1=>tr σ H1 λxs H2=>Q (x::xs) H2
section
variable{X:Cx}{e:ah}{es:List ah}{te:TE}{t:TA}{pos:ai}
theorem uZ:PA X [] agl:=λ_ _ _ _ H Q I h=>Calls.spliced_nil ⟨[],H,I,.nil,h⟩
theorem sH(ha:PE X e te)(hr:PA X es t)(hs:starEach (e::es) X.env=(false,eval e X.env)::starEach es X.env:=by rfl):PA X (e::es) (aex te t):=by
 intro pos BJ s σ H Q I h;rw[hs];show wpAny _ _ (spliced ((false,eval e _)::backTo _ _)) _ _ s;refine Calls.spliced_cons (bA (ha _ s _ H _ I h) λu s1 hq=>?_);rcases hq with⟨x,H1,I1,r1,q1⟩;exact bA (hr _ _ _ _ _ _ I1 q1) λus s2 ⟨xs,H2,I2,r2,q2⟩=>⟨x::xs,H2,I2,.cons r1 r2,q2⟩
def af5(t:TA):TE:=λσ H Q=>t σ H λxs H1=>xs.length<=sizeLine/\∀p,H1 p=none->Q (.ref p) (aT H1 p (.tup xs))
def ago(t:TA):TE:=λσ H Q=>t σ H λxs H1=>xs.length<=sizeLine/\∀p,H1 p=none->Q (.ref p) (aT H1 p (.lst xs))
theorem aeg  (h:PA X es t):PE X (.Tuple es x1 pos) (af5 t):=by
 intro BJ s σ H Q I hq;refine wpAny_Tuple_spliced (bA (h _ _ s _ H _ I hq) λus s1 ⟨xs,H1,I1,r,z,q⟩=>⟨by rw[<-r.length];exact z,?_⟩);have hf:=I1.hok.fresh (al _);refine⟨.ref _,aT _ _ _,I1.laid  (λb u e=>ar _ e) (al _) ?_,rfl,q _ hf⟩;exact⟨⟨z,_,cj _ rfl,rfl⟩,us,r,⟨_,cj _ rfl,rfl,_,rfl⟩⟩
theorem Ag(h:PA X es t):PE X (.List es pos) (ago t):=by
 intro BJ s σ H Q I hq;refine wpAny_List_spliced (bA (h _ _ s _ H _ I hq) λus s1 ⟨xs,H1,I1,r,z,q⟩=>⟨by rw[<-r.length];exact z,?_⟩);have hf:=I1.hok.fresh (al _);refine⟨.ref _,aT _ _ _,I1.laid  (λb u e=>ar _ e) (al _) ?_,rfl,q _ hf⟩;exact⟨z,us,0,r,cj _ rfl⟩
end
abbrev Sp:=List V->Hp->VK->XK->Prop
abbrev jS:=List bi->Hp->aa->XK->Value->aa->Prop
structure zQ(P:Program)(w:am)(K:ae)(mg:Str->BC)(base:Heap)(A:aq)(outer:List bi)(s:aa)(H:Hp):Prop where
 frames:A.frames=some outer/\P.given.tree=none
 mod:Mod K mg base
 bs:∀b o,base.get? b=some o->s.heap.get? b=some o/\H b=none
 bsz:base.objs.size<=s.heap.objs.size
 funs:s.heap.FunFrames base outer
 frf:∀b∈fF outer,H b=none
 hok:fK P w H s.heap
 bare:jd s.gens
def CE(outer:List bi)(P:Program)(w:am)(H:Hp)(s:aa)(Q:VK)(u:Value)(s':aa):Prop:=
 ∃v H',s'.os=s.os/\jd s'.gens/\Un (fF outer) [] H H' s.heap s'.heap/\fK P w H' s'.heap/\bJ v u/\Q v H'
def CR(CX:jS)(outer:List bi)(P:Program)(w:am)(H:Hp)(s:aa)(Q:VK)(E:XK)(r:oz)(s':aa):Prop:=
 match r with
 |.ok (.ret u)=>CE outer P w H s Q u s'
 |.ok _=>False
 |.error e=>CX outer H s E e s'
structure eI(P:Program)(w:am)(K:ae)(mg:Str->BC)(base:Heap)(CX:jS)(k:Nat)(f:Addr)(fd:ca)(ps:List Str)(sp:Sp):Prop where
 len:∀vs H Q E,sp vs H Q E->vs.length=ps.length
 run:∀(A:aq)(outer:List bi)(s:aa)(H:Hp)(args:Args)(us:BB)(vs:List V)(Q:VK)(E:XK),dH k A->zQ P w K mg base A outer s H->ly s fd args (ps.zip us)->aW vs us->sp vs H Q E->
  codeAny (model P w) A (.call (.ref f) args) (CR CX outer P w H s Q E) s
theorem eI.imp   {K:ae}{mg:Str->BC}{base:Heap}{CX:jS}{k:Nat}{f:Addr}{fd:ca}{ps:List Str}{sp sp':Sp}(F:eI P w K mg base CX k f fd ps sp)
  (h:∀vs H Q E,sp' vs H Q E->sp vs H Q E):eI P w K mg base CX k f fd ps sp':=
 ⟨λvs H Q E q=>F.len _ H Q E (h _ _ _ _ q),λA outer s H args us vs Q E hr he hb hv hs=>F.run A _ s H _ _ _ Q E hr he hb hv (h _ _ _ _ hs)⟩
section
variable{X:Cx}{BJ:List (Addr×Obj)}{σ:St}{H:Hp}{s s':aa}
theorem aI.env0(I:aI X BJ σ H s):zQ X.prog X.w X.K X.mg X.base X.A X.stack s H:=
 ⟨⟨I.ok.frames.1,I.ok.frames.2.1⟩,I.ok.mod,I.bs,fh I.ok.bsz I.sz,I.stack,I.stkFree,I.hok,I.bare⟩
theorem aI.after   (I:aI X BJ σ H s)(h:CE X.stack X.prog X.w H s Q u s'):EP X BJ σ Q u s':=by
 obtain⟨v,H',os,bare,un,hok,r,q⟩:=h;obtain⟨hh,g,d,t,os'⟩:=s';obtain rfl:os'=s.os:=os;exact⟨v,H',I.call      un hok bare λb z=>absurd z (by simp),r,q⟩
end
def aeH(sp:Sp)(dvs:List V)(E:XK)(t:TA):TE:=λσ H Q=>t σ H λvs H1=>sp (vs++dvs) H1 Q E
def kC(K:ae)(fd:ca)(ps:List Str)(ds:BB):Prop:=
 ∀(s:aa)(us:BB),K.In s.heap->(us++ds).length=ps.length->ly s fd ⟨us,[]⟩ (ps.zip (us++ds))
theorem kC.all{K:ae}{fd:ca}{ps:List Str}(h:∀us:BB,us.length=ps.length->bindArgs fd ⟨us,[]⟩=pure (ps.zip us)):kC K fd ps []:=λs us _ hl=>by
 rw[fk]at hl⊢;exact .of_eq (h _ hl)
def Hg(CX:jS)(X:Cx)(E:XK):Prop:=∀(BJ:List (Addr×Obj))(σ:St)(H:Hp)(s:aa)(e:Value)(s':aa),aI X BJ σ H s->CX X.stack H s E e s'->X.xe e s'
section
variable{X:Cx}{CX:jS}{k:Nat}{f:Addr}{fd:ca}{ps:List Str}{sp:Sp}{dvs:List V}{ds:BB}{E:XK}{x:Str}{p pos:ai}{e:ah}{es:List ah}{t:TA}
theorem ac0  {σ:St}{H:Hp}{s:aa}{Q:VK}{us:BB}{vs:List V}(F:eI X.prog X.w X.K X.mg X.base CX k f fd ps sp)(hr:dH k X.A)(hb:kC X.K fd ps ds)(hd:aW dvs ds)(hx:Hg CX X E)
  (I:aI X BJ σ H s)(r:aW vs us)(h:sp (vs++dvs) H Q E):wpAny (model X.prog X.w) X.A (call (.ref f) us) (EP X BJ σ Q) X.xe s:=by
 have r2:=r.append hd;have hl:(us++ds).length=ps.length:=by rw[<-r2.length];exact F.len _ _ _ _ h
 refine wpAny_call (qq (F.run _ _ s H _ _ _ Q E hr I.env0 (hb s _ I.kIn hl) r2 h) λr s' hq=>?_);cases r with
 |error e=>exact hx _ _ H s e _ I hq
 |ok fl=>
  cases fl with
  |ret u=>exact I.after hq
  |next=>exact jr hq
  |brk=>exact jr hq
  |cont=>exact jr hq
theorem xY(F:eI X.prog X.w X.K X.mg X.base CX k f fd ps sp)(hr:dH k X.A)(hg:Gl X x)(hm:X.mg x=some (.ref f))(hk:fm X.K (.ref f)=true)(hb:kC X.K fd ps ds)(hd:aW dvs ds)(hx:Hg CX X E)
  (ha:PA X (e::es) t)(hdb:(x==("__debug__":Str))=false:=by decide)(he:starEach (e::es) X.env=(false,eval e X.env)::starEach es X.env:=by rfl)(hpl:(backTo pos (starEach es X.env)).any (·.1)=false:=by rfl):
  PE X (.Call (.Name x p) (e::es) [] pos) (aeH sp dvs E t):=by
 intro BJ s σ H Q I h;refine vg (Oq I hg hm ?_ hdb);refine PySem.W.callWith_K  I.ok.mod.kin hk (bA (ha _ _ s _ H _ I h) λus s1 ⟨vs,H1,I1,r,q⟩=>⟨I1.kIn,?_⟩) he hpl;exact ac0 F hr hb hd hx I1 r q
end
structure iV(N P:List Str)(sc:Scope):Prop where
 kind:sc.kind=.function
 co:sc.isCoroutine=false
 gen:sc.isGenerator=false
 nd:N.Nodup
 pre:N.take P.length=P
 par:∀x∈P,sc.names.lookup x=some .local\/sc.names.lookup x=some .cell
 nofree:∀y∈sc.names,y.2≠.free
theorem An{kindOf:Str->Option fz}{x:Str}:∀{binds:List (Str×Value)}{m:Str->BC},(∀v,(x,v)∉binds)->bindL kindOf binds m x=m x
 |[],_,_=>rfl
 |(n,v)::r,m,h=>by
  unfold bindL;rw[An λw hw=>h w (bd _ hw)];split
  .have:x≠n:=by rintro rfl;exact h v bo
   simp_all
  rfl
theorem Ol{kindOf:Str->Option fz}{x:Str}:∀{binds:List (Str×Value)}{m:Str->BC},(∀v,(x,v)∉binds)->bindC kindOf binds m x=m x
 |[],_,_=>rfl
 |(n,v)::r,m,h=>by
  unfold bindC;rw[Ol λw hw=>h w (bd _ hw)];split
  .rfl
  .have:x≠n:=by rintro rfl;exact h v bo
   simp_all
theorem Wl{kindOf:Str->Option fz}{x:Str}{v:Value}:∀{P:List Str}{vs:BB}{i:Nat}{m:Str->BC},P.Nodup->P[i]?=some x->vs[i]?=some v->kindOf x=some .local->
  bindL kindOf (P.zip vs) m x=some v
 |[],_,_,_,_,h,_,_=>by simp at h
 |_::_,[],_,_,_,_,h,_=>by simp at h
 |p::P,w::vs,0,m,nd,h1,h2,hk=>by
  simp at h1 h2;subst h1;subst h2;show bindL kindOf ((p,w)::P.zip vs) m p=_;unfold bindL;rw[An λv hv=>(ko.mp nd).1 (vh hv).1,if_pos hk];simp
 |p::P,w::vs,i+1,m,nd,h1,h2,hk=>by
  unfold bindL;exact Wl  (ko.mp nd).2 (by simpa using h1) (by simpa using h2) hk
theorem Om{kindOf:Str->Option fz}{x:Str}{v:Value}:∀{P:List Str}{vs:BB}{i:Nat}{m:Str->BC},P.Nodup->P[i]?=some x->vs[i]?=some v->kindOf x≠some .local->
  bindC kindOf (P.zip vs) m x=some v
 |[],_,_,_,_,h,_,_=>by simp at h
 |_::_,[],_,_,_,_,h,_=>by simp at h
 |p::P,w::vs,0,m,nd,h1,h2,hk=>by
  simp at h1 h2;subst h1;subst h2;show bindC kindOf ((p,w)::P.zip vs) m p=_;unfold bindC;rw[Ol λv hv=>(ko.mp nd).1 (vh hv).1,if_neg hk];simp
 |p::P,w::vs,i+1,m,nd,h1,h2,hk=>by
  unfold bindC;exact Om  (ko.mp nd).2 (by simpa using h1) (by simpa using h2) hk
def start(N:List Str)(vs:List V):St:=vs.map some++dn (N.length-vs.length) none
def fD(CX:jS)(P:Program)(w:am)(K:ae)(mg:Str->BC)(base:Heap)(N:List Str)(qual:Str)(scope:Scope)(f:Addr)(cd:Value)(A:aq)(outer:List bi)(s:aa)(H:Hp)(E:XK):Cx where
 prog:=P
 w:=w
 K:=K
 mg:=mg
 base:=base
 A:=A.deeper (envOfC qual scope s.heap.objs.size f cd)
 N:=N
 BK:=s
 BM:=H
 env:=envOfC qual scope s.heap.objs.size f cd
 outer:=outer
 stack:=envOfC qual scope s.heap.objs.size f cd::outer
 ex:=[]
 calm:=true
 fn:=λ_=>true
 pn:=[]
 xe:=λe s'=>wpAny (model P w) (A.deeper (envOfC qual scope s.heap.objs.size f cd)) (leaving (envOfC qual scope s.heap.objs.size f cd) e) (λ_ s''=>CX outer H s E e s'') (λe' s''=>CX outer H s E e' s'') s'
theorem Up{sc:Scope}{n:Nat}{x:Str}(h:sc.names.lookup x=some .cell):∃c,(cellsFrom n sc.names []).lookup x=some c:=by
 have q:=zl _ n [] (.inl h);exact Option.isSome_iff_exists.mp q
theorem O5{CX:jS}{P:Program}{w:am}{K:ae}{mg:Str->BC}{base:Heap}{N ps:List Str}{qual:Str}{scope:Scope}{f:Addr}{cd:Value}{A:aq}{outer:List bi}{s s1:aa}{H:Hp}{E:XK}{us:BB}{vs:List V}
  (S:iV N ps scope)(hd:A.handled=none)(eV:A.depth+105<recursionLimit)(e0:zQ P w K mg base A outer s H)(hl:vs.length=ps.length)(r:aW vs us)
  (x:InCallC s s.heap.objs.size (bindL (envOfC qual scope s.heap.objs.size f cd).kindOf (ps.zip us) λ_=>none) (cellsFrom (s.heap.objs.size+1) scope.names []) (bindC (envOfC qual scope s.heap.objs.size f cd).kindOf (ps.zip us) λ_=>none) s1):
  aI (fD CX P w K mg base N qual scope f cd A outer s H E) [] (start N vs) H s1:=by
 have hpl:ps.length<=N.length:=by have:=congrArg kq S.pre;rw[kd]at this;omega
 obtain⟨h1,tk,rfl,hk⟩:=x.done;have noA:∀b:Addr,b∉(fD CX P w K mg base N qual scope f cd A outer s H E).ex:=λb z=>absurd (show b∈([]:List Addr) from z) (by simp);refine⟨⟨e0.mod,S.kind,rfl,rfl,al _,λy z c h1 h2=>?_,λy hy=>?_,λy c _ h=>?_,λ_=>hd,⟨Around.frames_deeper e0.frames.1,e0.frames.2,by show A.depth+1+100<_;omega,_,_,rfl,S.gen,S.co,rfl,rfl⟩,.inr ⟨rfl,rfl⟩,λb z=>absurd z (noA b),e0.bs,e0.bsz,λb _ _=>noA b,λb z=>absurd z (noA b),e0.funs,e0.frf⟩,
  rfl,e0.bare,Un.kept hk,⟨_,x.toInCall.ns,λi y v h1 h2 h3=>?_⟩,λy c h=>⟨_,x.cell y c h⟩,e0.hok.fresh (al _),λy c h=>?_,λp hp=>absurd (show p∈([]:List (Addr×Obj)) from hp) (by simp),e0.hok.kept hk,?_⟩
 .exact name_of_addr x.apart (jf h1) (jf h2)
 .have hy:scope.names.lookup y=some .cell\/scope.names.lookup y=some .free:=hy
  rcases hy with hy |hy
  .exact Up hy
  .exact absurd rfl (S.nofree _ (jf hy))
 .exact ot (x.above y c (jf h))
 .have hi:i<vs.length:=by
   unfold start at h2
   by_cases hi:i<vs.length
   .exact hi
   .rw[dq (by simpa using hi)]at h2
    rw[zm]at h2;split at h2<;>cases h2
  have ha:vs[i]?=some v:=by
   unfold start at h2;rw[fu (by simpa using hi),az]at h2;cases e:vs[i]? with
   |none=>rw[e]at h2;cases h2
   |some a=>rw[e]at h2;cases h2;rfl
  obtain⟨u,hu,rv⟩:=r.get ha;have hp:ps[i]?=some y:=by
   rw[<-S.pre,List.getElem?_take_of_lt (by omega)];exact h1
  have ndP:ps.Nodup:=by rw[<-S.pre];exact S.nd.sublist (List.take_sublist _ _)
  refine⟨u,rv,?_⟩;rcases S.par y (cq hp)with k |k
  .exact .inl ⟨k,Wl ndP hp hu k⟩
  .obtain⟨c,e⟩:=Up (n:=s.heap.objs.size+1) k
   refine .inr ⟨.inl k,c,e,?_⟩;have q:=x.cell y c e;rw[Om ndP hp hu (by show scope.names.lookup y≠_;rw[k];decide)]at q;exact q
 .exact e0.hok.fresh (ot (x.above y c (jf h)))
 .unfold start
  show _=N.length;rw[av,ak,zn];omega
theorem Zg{CX:jS}{P:Program}{w:am}{K:ae}{mg:Str->BC}{base:Heap}{k:Nat}{f:Addr}{name qual:Str}{params:Arguments}{body:List Stmt}{scope:Scope}{dV kV doc pm cdv ct oc:Value}{an od:BD}
  {osl:Array BC}{N ps:List Str}{sp:Sp}(lk:K.lookup f=some ⟨oc,od,.func (dj name qual params body scope dV kV doc pm an cdv ct),osl⟩)(hcd:jg K cdv qual=true)(S:iV N ps scope)
  (len:∀vs H Q E,sp vs H Q E->vs.length=ps.length)
  (hbody:∀(A:aq)(outer:List bi)(s:aa)(H:Hp)(vs:List V)(Q:VK)(E:XK),dH k (A.deeper (envOfC qual scope s.heap.objs.size f cdv))->sp vs H Q E->
   ∃t,gG (fD CX P w K mg base N qual scope f cdv A outer s H E) body t/\t {nx:=λ_ H'=>Q .non H',rt:=Q} (start N vs) H):
  eI P w K mg base CX (k+1) f (dj name qual params body scope dV kV doc pm an cdv ct) ps sp:=by
 refine⟨len,λA outer s H args us vs Q E hr e0 hb r hsp=>?_⟩;have hl:=len _ _ _ _ hsp;have KX:K.In s.heap:=e0.mod.kin.keeps λb o e=>(e0.bs b o e).1;have lim:s.heap.NoLimit:=e0.mod.nolimit.keeps λb o e=>(e0.bs b o e).1;have hkind:∀y∈ps.zip us,scope.names.lookup y.1=some .local\/(scope.names.lookup y.1=some .cell/\((cellsFrom (s.heap.objs.size+1) scope.names []).lookup y.1).isSome=true):=λ⟨n,v⟩ hy=>by
  rcases S.par n (vh hy).1 with q |q
  .exact .inl q
  .exact .inr ⟨q,zl _ _ _ (.inl q)⟩
 refine codeAny_call_function hr.depth (KX _ _ lk) rfl S.co S.gen rfl (PySem.W.codeRec_of KX hcd) (hb _ _ _ _ ?_);refine wpAny_newFunctionEnv_cells S.kind hkind λenv he s1 x=>?_;subst he;refine⟨lim.keeps x.toInCall.keep,codeAny_func ?_⟩;obtain⟨t,ht,hq⟩:=hbody A outer s H vs Q E (hr.deeper _) hsp;have I:aI (fD CX P w K mg base N qual scope f cdv A outer s H E) [] (start N vs) H s1:=O5 S hr.hd (by have:=hr.dp;omega) e0 hl r x;refine je (ht [] s1 (start N vs) H _ I hq) (λfl s' hs=>?_) λe s' hs=>hs;have fin:∀{σ':St}{H':Hp}{v:V}{u:Value},aI (fD CX P w K mg base N qual scope f cdv A outer s H E) [] σ' H' s'->bJ v u->Q v H'->CE outer P w H s Q u s':=
  λ{σ' H' v u} J rv q=>⟨v,H',J.os,J.bare,J.base,J.hok,rv,q⟩
 cases fl with
 |ret u=>
  obtain⟨v,σ',H',J,rv,q⟩:=hs;exact fin J rv q
 |next=>
  obtain⟨σ',H',J,q⟩:=hs;exact fin (v:=V.non) (u:=cy) J rfl q
 |brk=>
  obtain⟨_,_,_,q⟩:=hs;exact jr q
 |cont=>
  obtain⟨_,_,_,q⟩:=hs;exact jr q
section
variable{X:Cx}{x:Str}{p pos:ai}{e:ah}{es:List ah}{t:TA}{id T:String}{r:List V->Hp->VK->Prop}
def Yz(r:List V->Hp->VK->Prop)(t:TA):TE:=λσ H Q=>t σ H λvs H1=>r vs H1 Q
theorem Po(hc:iH X (.builtin id) r)(hg:Gl X x)(hm:X.mg x=none)(hv:bootBuiltins x=some (.builtin id))(ha:PA X (e::es) t)(hn:x≠"__name__":=by decide)(hdb:(x==("__debug__":Str))=false:=by decide)
  (he:starEach (e::es) X.env=(false,eval e X.env)::starEach es X.env:=by rfl)(hpl:(backTo pos (starEach es X.env)).any (·.1)=false:=by rfl):PE X (.Call (.Name x p) (e::es) [] pos) (Yz r t):=by
 intro BJ s σ H Q I h;refine vg (qH I hg hm hv ?_ hn hdb);exact PyProof.Rows.callWith_builtin1 (bA (ha _ _ s _ H _ I h) λus s1 ⟨vs,H1,I1,r1,q1⟩=>hc _ _ _ _ _ _ Q I1 r1 q1) he hpl
theorem wQ(hc:iH X (.type T) r)(hg:Gl X x)(hm:X.mg x=none)(hv:bootBuiltins x=some (.type T))(ha:PA X (e::es) t)(hn:x≠"__name__":=by decide)(hdb:(x==("__debug__":Str))=false:=by decide)
  (he:starEach (e::es) X.env=(false,eval e X.env)::starEach es X.env:=by rfl)(hpl:(backTo pos (starEach es X.env)).any (·.1)=false:=by rfl):PE X (.Call (.Name x p) (e::es) [] pos) (Yz r t):=by
 intro BJ s σ H Q I h;refine vg (qH I hg hm hv ?_ hn hdb);exact ox (bA (ha _ _ s _ H _ I h) λus s1 ⟨vs,H1,I1,r1,q1⟩=>hc _ _ _ _ _ _ Q I1 r1 q1) he hpl
end
end L2
namespace HT
open PySem PyProof.Rows
def lexLt:AY->AY->Bool
 |[],[]=>false
 |[],_::_=>true
 |_::_,[]=>false
 |x::xs,y::ys=>if x=y then lexLt xs ys else decide (x<y)
theorem lexLt_cons(x y:Int)(xs ys:AY):lexLt (x::xs) (y::ys)=if x=y then lexLt xs ys else decide (x<y):=rfl
section
variable{prog:Program}{w:am}{A:aq}{E:Value->aa->Prop}{s:aa}
theorem cat_tup  {vs ws:BB}{Q:Value->aa->Prop}(ht:IsTup s.heap t vs.toArray)(hb:IsTup s.heap b ws.toArray)(hv:vs≠[])
  (h1:ws=[]->Q (.ref t) s)(h2:ws≠[]->Q (.ref s.heap.objs.size) {s with heap:=s.heap.push {cls:=.type "tuple",data:=.seq (vs++ws).toArray}})
  (hsz:vs.length+ws.length<=sizeLine):wpAny (model prog w) A (binaryOp .Add (.ref t) (.ref b)) Q E s:=by
 obtain⟨⟨cls,dd,data,sl⟩,ho,hc,n,hd⟩:=id ht;obtain⟨⟨cls2,dd2,data2,sl2⟩,ho2,hc2,n2,hd2⟩:=id hb;simp only at hc hd hc2 hd2;subst hc hd hc2 hd2;have e:vs.toArray++ws.toArray=(vs++ws).toArray:=by simp
 by_cases hw:ws=[]
 .exact qr ⟨_,ho,rfl⟩ ⟨_,ho2,rfl⟩ vj vk vm vn (vo _ _)
   (tuple_addW1 t b _ _ n n2 dd _ sl _ (by simpa using hv) (by simp[hw])) ⟨ho,ho2,h1 hw⟩
 .refine qr ⟨_,ho,rfl⟩ ⟨_,ho2,rfl⟩ vj vk vm vn (vo _ _)
   (tuple_addW2 t b _ _ n n2 dd _ sl _ (by simpa using hv) (by simpa using hw) (by exact hsz)) ⟨ho,ho2,?_⟩
  rw[e];exact h2 hw
def sIx(n d:Nat):BE->Nat
 |none=>d
 |some v=>if v<0 then(v+(n:Int)).toNat else min v.toNat n
theorem sIx_nat(n d k:Nat):sIx n d (some (k:Int))=min k n:=rfl
theorem afL(n d:Nat)(hd:d<=n)(o:BE):sIx n d o<=n:=by
 cases o with
 |none=>exact hd
 |some v=>
  show(if v<0 then(v+n).toNat else min _ n)<=n<;>grind
theorem Mq(v:Int)(n d:Nat):(if v<0 then max (v+(n:Int)) 0 else min v (n:Int))=((sIx n d (some v):Nat):Int):=by
 show(if v<0 then max _ 0 else min v n)=if v<0 then(v+n).toNat else min _ n;grind
theorem G0(lo hi:BE)(n:Nat):zo lo hi 1 (n:Int)=(((sIx n 0 lo:Nat):Int),((sIx n n hi:Nat):Int)):=by
 refine Prod.ext ?_ ?_
 .cases lo with
  |none=>rfl
  |some v=>exact Mq v n 0
 .cases hi with
  |none=>rfl
  |some v=>exact Mq v n n
theorem J9(i j:Nat):vt (i:Int) (j:Int) 1=j-i:=by
 unfold vt;grind
theorem Mk{v:Value}{o:BE}{Q:BE->aa->Prop}(p:ke v o)(h:Q o s):wpAny (model prog w) A (Builtin.Slice.slicePartIndex v) Q E s:=by
 cases p with
 |none=>exact slicePart_none h
 |int i t=>exact slicePart_int h
theorem A1  {vl vu:Value}{lo hi:BE}{n:Nat}{Q:Int×Int×Nat->aa->Prop}(hs:s.heap.IsSliceOf sl vl vu .none)(pl:ke vl lo)(pu:ke vu hi)
  (h:Q (((sIx n 0 lo:Nat):Int),1,sIx n n hi-sIx n 0 lo) s):wpAny (model prog w) A (Builtin.Slice.sliceApplied (.ref sl) (pure (n:Int))) Q E s:=by
 obtain⟨os,hos,hcs,hds⟩:=id hs;refine ag (ag (ia hos hds (x:=vl) rfl (ag (ia hos hds (x:=vu) rfl (ag (ia hos hds (x:=.none) rfl (au ?_)))))));refine ag (slicePart_none ?_);refine ag (Mk pl (ag (Mk pu (ag (au ?_)))));show wpAny _ _ (match zo lo hi 1 n with |(lo,hi)=>pure (lo,(1:Int),vt lo hi 1)) _ _ s
 rw[G0 lo hi n];show wpAny _ _ (pure _) _ _ s;rw[J9];exact au h
theorem Z7(xs:Array Value)(i k:Nat):((ce k).filterMap λ(m:Nat)=>xs[((i:Int)+(m:Int)*1).toNat]?).toArray=((xs.toList.drop i).take k).toArray:=by
 have e:(λ(m:Nat)=>xs[(i+(m:Int)*1).toNat]?)=λm=>xs[i+m]?:=by
  grind
 have:=pick_run xs i k;have e2:((λx=>xs[x]?)∘λx=>i+x)=λm=>xs[i+m]?:=rfl
 simp_all
theorem getItem_tuple_cut{t sl:Addr}{items:Array Value}{vl vu:Value}{lo hi:BE}{Q:Value->aa->Prop}(ht:IsTup s.heap t items)(hs:s.heap.IsSliceOf sl vl vu .none)(pl:ke vl lo)(pu:ke vu hi)
  (hw:¬(sIx items.size 0 lo=0/\sIx items.size items.size hi=items.size))
  (h:Q (.ref s.heap.objs.size) {s with heap:=s.heap.push {cls:=.type "tuple",data:=.seq ((items.toList.drop (sIx items.size 0 lo)).take (sIx items.size items.size hi-sIx items.size 0 lo)).toArray}})
  (hsz:items.size<=sizeLine):wpAny (model prog w) A (getItem (.ref t) (.ref sl)) Q E s:=by
 have htake:sizeOk (.seq ((items.toList.drop (sIx items.size 0 lo)).take (sIx items.size items.size hi-sIx items.size 0 lo)).toArray):=by
  show((items.toList.drop (sIx items.size 0 lo)).take (sIx items.size items.size hi-sIx items.size 0 lo)).toArray.size<=sizeLine;rw[bf,kd,vw,kg];omega
 obtain⟨os,hos,hcs,hds⟩:=id hs;have hTs:s.TypeIs (.ref sl) "slice":=⟨os,hos,hcs⟩;unfold getItem
 try with_reducible refine jz ?_
 refine ag (wpAny_sequenceKey ht.typeIs (by decide) ?_);refine ag (kr  ht.typeIs qu
  (jt qu ht.typeIs entry_tuple_getitem ?_ (args_tuple_getitem _ _)))
 show wpAny _ _ (zp (.ref t) >>= _) _ _ s;refine ag (tupleItemsOf_ ht ?_);refine ag (wpAny_typeOf hTs ?_);rw[if_pos (by decide)];refine ag (A1 hs pl pu ?_);have hno:¬((((sIx items.size 0 lo:Nat):Int)==0&&(1:Int)==1&&(sIx items.size items.size hi-sIx items.size 0 lo)==items.size)=true):=by
  grind
 show wpAny _ _ (if(((sIx items.size 0 lo:Nat):Int)==0&&(1:Int)==1&&(sIx items.size items.size hi-sIx items.size 0 lo)==items.size)=true then _ else _) _ _ s;rw[if_neg hno,Z7]
 first
  |exact ag  (ka (au ⟨_,rfl,au h⟩) htake)
  |grind
  |grind
  |grind
end
end HT
namespace L2
open PySem PySem.Spec PyProof.Rows
abbrev TO:=St->Hp->(BE->Hp->Prop)->Prop
def PO(X:Cx)(e:Option ah)(t:TO):Prop:=
 ∀(BJ:List (Addr×Obj))(s:aa)(σ:St)(H:Hp)(Q:BE->Hp->Prop),aI X BJ σ H s->t σ H Q->
  wpAny (model X.prog X.w) X.A (evalPart e X.env) (λu s'=>∃o H',aI X BJ σ H' s'/\ke u o/\Q o H') X.xe s
def acl:TO:=λ_ H Q=>Q none H
def afj(t:TE):TO:=λσ H Q=>t σ H λx H1=>∃i,x=.int i/\Q (some i) H1
section
variable{X:Cx}{e:ah}{te:TE}{lo hi:Option ah}{tl th:TO}{pos p2:ai}
theorem ab2:PO X none acl:=by
 intro BJ s σ H Q I h;exact au ⟨none,H,I,.none,h⟩
theorem Ie(h:PE X e te):PO X (some e) (afj te):=by
 intro BJ s σ H Q I hw;refine bA (h _ s _ H _ I hw) ?_
 rintro u s1 ⟨x,H1,I1,r1,q1⟩
 obtain⟨i,rfl,q⟩:=q1;obtain⟨t,rfl⟩:=r1;exact⟨some i,H1,I1,.int i t,q⟩
def pG(X:Cx)(r:V->BE->BE->Hp->VK->Prop):Prop:=
 ∀(BJ:List (Addr×Obj))(s:aa)(σ:St)(H:Hp)(x:V)(v vl vu:Value)(lo hi:BE)(sl:Addr)(Q:VK),aI X BJ σ H s->bJ x v->s.heap.IsSliceOf sl vl vu .none->ke vl lo->ke vu hi->r x lo hi H Q->
  ∃T id,typeLookup (.type T) "__getitem__"=pure (some (.builtin id))/\s.TypeIs v T/\wpAny (model X.prog X.w) X.A (getItem v (.ref sl)) (EP X BJ σ Q) X.xe s
theorem pG.or  (h:pG X r)(h':pG X r'):pG X (λx lo hi H Q=>r x lo hi H Q\/r' x lo hi H Q):=by
 intro BJ s σ H x v vl vu lo hi sl Q I rx hs pl pu q;rcases q with q |q
 .exact h _ s _ H x v _ _ _ _ _ Q I rx hs pl pu q
 .exact h' _ s _ H x v _ _ _ _ _ Q I rx hs pl pu q
def tSl(r:V->BE->BE->Hp->VK->Prop)(te:TE)(tl th:TO):TE:=λσ H Q=>te σ H λx H1=>tl σ H1 λl H2=>th σ H2 λu H3=>r x l u H3 Q
theorem V6  (hr:pG X r)(he:PE X e te)(hl:PO X lo tl)(hu:PO X hi th):PE X (.Subscript e (.Slice lo hi none p2) pos) (tSl r te tl th):=by
 intro BJ s σ H Q I h;refine vz (bA (he _ s _ H _ I h) λv s1 hq=>?_);rcases hq with⟨x,H1,I1,r1,q1⟩;refine wpAny_Slice (bA (hl _ _ _ _ _ I1 q1) λvl s2 ⟨l,H2,I2,pl,q2⟩=>bA (hu _ _ _ _ _ I2 q2) λvu s3 hq=>?_);rcases hq with⟨u,H3,I3,pu,q3⟩;refine au ?_;have I4:aI X _ _ _ {s3 with heap:=s3.heap.push {cls:=.type "slice",data:=.fields #[vl,vu,.none]}}:=I3.kept  λb ob q=>ar _ q;obtain⟨T,id,hT,ht,hg⟩:=hr _ _ _ _ x v _ _ l u _ Q I4 r1 (zq ..) pl pu q3;exact tail_any  ht hT hg (rfl)
def tN(xs:List V)(lo hi:BE):List V:=(xs.drop (HT.sIx xs.length 0 lo)).take (HT.sIx xs.length xs.length hi-HT.sIx xs.length 0 lo)
theorem wJ(xs:List V)(lo hi:BE):(tN xs lo hi).length<=xs.length:=by
 unfold tN;rw[kd,vw];omega
def age(K:ae):V->BE->BE->Hp->VK->Prop:=λx lo hi H Q=>∃a xs,x=.ref a/\cG K H a xs/\
 ¬(HT.sIx xs.length 0 lo=0/\HT.sIx xs.length xs.length hi=xs.length)/\∀p,H p=none->Q (.ref p) (aT H p (.tup (tN xs lo hi)))
theorem adM:pG X (age X.K):=by
 intro BJ s σ H x v vl vu lo hi sl Q I rx hs pl pu h;obtain⟨a,xs,rfl,hx,hw,q⟩:=h;cases rx;obtain⟨its,r,ht,hz⟩:=I.tuple hx;have hlen:its.toArray.size=xs.length:=by exact r.length.symm
 refine⟨"tuple",_,qu.lookup,ht.typeIs,?_⟩;refine HT.getItem_tuple_cut ht hs pl pu (by rw[hlen];exact hw) ?_ (by rw[hlen];exact hz);rw[hlen];refine⟨.ref _,_,I.laid   (λb ob q=>ar _ q) (al _) ?_,rfl,q _ (I.hok.fresh (al _))⟩;exact⟨⟨fh (wJ xs lo hi) hz,_,cj _ rfl,rfl⟩,_,(r.drop _).take _,qp _ _⟩
def Pg(K:ae):R2:=λx y H Q=>∃a b xs ys,x=.ref a/\y=.ref b/\cG K H a xs/\cG K H b ys/\xs≠[]/\xs.length+ys.length<=sizeLine/\
 (ys=[]->Q (.ref a) H)/\(ys≠[]->∀p,H p=none->Q (.ref p) (aT H p (.tup (xs++ys))))
theorem aW.nil_iff   (r:aW xs us):us=[]↔xs=[]:=by
 cases r<;>simp_all
theorem Qr:dM X (binaryOp .Add) (Pg X.K):=by
 intro BJ s σ H x y v u Q I rx ry h;obtain⟨a,b,xs,ys,rfl,rfl,ha,hb,hx,hz,q1,q2⟩:=h;cases rx;cases ry;obtain⟨its,r1,p1,_⟩:=I.tuple ha;obtain⟨its2,r2,p2,_⟩:=I.tuple hb;refine HT.cat_tup p1 p2 (λz=>hx (r1.nil_iff.mp z)) (λz=>⟨.ref a,H,I,rfl,q1 (r2.nil_iff.mp z)⟩) (λz=>?_) (by rw[<-r1.length,<-r2.length];exact hz);refine⟨.ref _,_,I.laid   (λb ob q=>ar _ q) (al _) ?_,rfl,q2 (λw=>z (r2.nil_iff.mpr w)) _ (I.hok.fresh (al _))⟩;exact⟨⟨by rw[av];exact hz,_,cj _ rfl,rfl⟩,_,r1.append r2,qp _ _⟩
end
def fX(n:Nat)(i:Int):Option Nat:=if 0<=i then(if i<n then some i.toNat else none)else if-(n:Int)<=i then some (i+n).toNat else none
def fY{α:Type}(xs:List α)(i:Int):Option α:=(fX xs.length i).bind λj=>xs[j]?
theorem Hr    (h:fX n i=some j):seqIndex? i n=some j/\j<n/\-(n:Int)<=i/\i<n:=by
 unfold fX at h
 by_cases h0:0<=i
 .rw[if_pos h0]at h
  by_cases h1:i<n
  .rw[if_pos h1]at h
   have e:=cx h;exact⟨by rw[wd h0 h1,e],by omega,by omega,h1⟩
  .simp_all
 .rw[if_neg h0]at h
  by_cases h1:-n<=i
  .rw[if_pos h1]at h
   have e:=cx h;exact⟨by rw[we (by omega) h1,e],by omega,h1,by omega⟩
  .simp_all
theorem Yd     (h:fY xs i=some v):∃j,seqIndex? i xs.length=some j/\xs[j]?=some v/\j<xs.length/\-(xs.length:Int)<=i/\i<xs.length:=by
 unfold fY at h;cases e:fX _ i with
 |none=>rw[e]at h;cases h
 |some j=>
  rw[e]at h;obtain⟨h1,h2,h3,h4⟩:=Hr e;exact⟨j,h1,h,h2,h3,h4⟩
theorem eD   {j:Nat}{v:α}(h:xs[j]?=some v):fY xs (j:Int)=some v:=by
 have hj:=(bn.mp h).1;have e:fX xs.length j=some j:=by
  unfold fX
  simp_all
 unfold fY;rw[e];exact h
theorem Z5  (xs:List α)(v:α):fY (xs++[v]) (-1)=some v:=by
 have hl:(xs++[v]).length=xs.length+1:=by simp
 have e:fX (xs++[v]).length (-1)=some xs.length:=by
  unfold fX;grind
 unfold fY;rw[e];simp
def xR(b:ah):Prop:=∀o i,subscripted b false o i=operate [o,i] (getItem o i)
def mM(X:Cx)(r:R2):Prop:=
 ∀(value slice:ah)(BJ:List (Addr×Obj))(s:aa)(σ:St)(H:Hp)(x y:V)(v u:Value)(Q:VK),aI X BJ σ H s->bJ x v->bJ y u->r x y H Q->
  subscripted slice false v u=operate [v,u] (getItem v u)->wpAny (model X.prog X.w) X.A (subscriptTail value slice v u) (EP X BJ σ Q) X.xe s
def wD(X:Cx)(id:String)(r:V->List V->Hp->VK->Prop):Prop:=
 ∀(BJ:List (Addr×Obj))(s:aa)(σ:St)(H:Hp)(x:V)(xs:List V)(v:Value)(us:BB)(Q:VK),aI X BJ σ H s->bJ x v->aW xs us->r x xs H Q->
  wpAny (model X.prog X.w) X.A (call (.builtin id) (v::us)) (EP X BJ σ Q) X.xe s
section
variable{X:Cx}{a b:ah}{ta tb:TE}{pos:ai}
theorem mM.or  (h:mM X r)(h':mM X r'):mM X (λx y H Q=>r x y H Q\/r' x y H Q):=by
 intro value slice BJ s σ H x y v u Q I rx ry q hs;rcases q with q |q
 .exact h _ _ _ s _ H x y v u Q I rx ry q hs
 .exact h' _ _ _ s _ H x y v u Q I rx ry q hs
theorem Wg  (hr:mM X r)(ha:PE X a ta)(hb:PE X b tb)(hs:xR b):PE X (.Subscript a b pos) (Ga r ta tb):=by
 intro BJ s σ H Q I h;exact vz (Wh ha hb I h λv u s2 x y H2 I2 rx ry q=>hr a b _ _ _ _ x y v u Q I2 rx ry q (hs _ _))
def Ny(K:ae):R2:=λx y H Q=>∃p xs i v,x=.ref p/\y=.int i/\bO K H p xs/\fY xs i=some v/\Q v H
def Ry(K:ae):R2:=λx y H Q=>∃p xs i v,x=.ref p/\y=.int i/\cG K H p xs/\fY xs i=some v/\Q v H
def Uy:R2:=λx y H Q=>∃z i c,x=.str z/\y=.int i/\z.length<=sizeLine/\fY z.cps.toList i=some c/\Q (.str ⟨#[c]⟩) H
theorem abc:mM X (Ny X.K):=by
 intro value slice BJ s σ H x y v u Q I rx ry h hs;obtain⟨p,xs,i,z,rfl,rfl,hq,he,q⟩:=h;cases rx;obtain⟨t,rfl⟩:=ry;obtain⟨its,r,pl,hz⟩:=I.list hq;obtain⟨j,h1,h2,h3,h4,h5⟩:=Yd he;obtain⟨w,ew,rw'⟩:=r.get h2;have hl:=r.length;have hn:=sT;have fin:EP X BJ σ Q w s:=⟨z,H,I,rw',q⟩
 by_cases h0:0<=i
 .have hj:=by
   rw[wd h0 h5]at h1;exact cx h1
  exact item_listR pl.isList h0 (by omega) (by rw[hj];simpa using ew) fin hs
 .have hj:(i+(its.toArray.size:Int)).toNat=j:=by
   rw[we (by omega) h4]at h1;rw[bf,<-hl];exact cx h1
  exact zt (x:=w) pl.isList.typeIs wg.lookup
   (wpAny_getItem_list_neg  pl.isList (by omega) (by rw[bf]<;>omega) (by omega) (by rw[hj];simpa using ew) ⟨rfl,fin⟩) hs
theorem acR:mM X (Ry X.K):=by
 intro value slice BJ s σ H x y v u Q I rx ry h hs;obtain⟨p,xs,i,z,rfl,rfl,hq,he,q⟩:=h;cases rx;obtain⟨t,rfl⟩:=ry;obtain⟨its,r,pl,hz⟩:=I.tuple hq;obtain⟨j,h1,h2,h3,h4,h5⟩:=Yd he;obtain⟨w,ew,rw'⟩:=r.get h2;have hl:=r.length;have hn:=sT;have fin:EP X BJ σ Q w s:=⟨z,H,I,rw',q⟩;exact zt  pl.typeIs qu.lookup
  (getItem_tuple   pl (by omega) (by omega) (by rw[bf,<-hl];exact h1) (by simpa using ew) ⟨rfl,fin⟩) hs
theorem adO:mM X Uy:=by
 intro value slice BJ s σ H x y v u Q I rx ry h hs;obtain⟨z,i,c,rfl,rfl,hz,he,q⟩:=h;obtain⟨t,rfl⟩:=rx;obtain⟨t',rfl⟩:=ry;obtain⟨j,h1,h2,h3,h4,h5⟩:=Yd he;have hl:z.cps.toList.length=z.length:=by simp[Str.length]
 rw[hl]at h1 h4 h5;have hn:=sT;exact tail_any (typeIs_str s z t) slot_str_getitem.lookup (getItem_str (c:=c) (by
  have e1:decide (i< -(2^63:Int))=false:=decide_eq_false (by omega);have e2:decide (i>=2^63)=false:=decide_eq_false (by omega);rw[e1,e2,Bool.or_false]) (by rw[h1];simpa using h2) ⟨.str ⟨#[c]⟩,H,I.tok _,⟨_,rfl⟩,q⟩) hs
def Kz(K:ae):R2:=λx y H Q=>Ny K x y H Q\/Ry K x y H Q\/Uy x y H Q
theorem Hw:mM X (Kz X.K):=abc.or (acR.or adO)
theorem G7(its:BB)(n j:Nat)(u:Value):ju (·.setIfInBounds j u) {cls:=.type "list",data:=.seq its.toArray n}={cls:=.type "list",data:=.seq (its.set j u).toArray n}:=by
 simp[ju]
theorem aI.lst  {σ:St}{H:Hp}{s:aa}{p:Addr}{xs:List V}(I:aI X BJ σ H s)(h:H p=some (.lst xs)):
  ∃(its:BB)(n:Nat),aW xs its/\s.heap.get? p=some {cls:=.type "list",data:=.seq its.toArray n}/\xs.length<=sizeLine:=by
 obtain⟨z,its,n,r,e⟩:=I.hok p _ h;exact⟨its,n,r,e,z⟩
theorem aI.lstUpd  {σ:St}{H:Hp}{s:aa}{p:Addr}{xs ys:List V}{its its':BB}{n n':Nat}{f:Obj->Obj}(I:aI X BJ σ H s)(h:H p=some (.lst xs))
  (ho:s.heap.get? p=some {cls:=.type "list",data:=.seq its.toArray n})(hf:f {cls:=.type "list",data:=.seq its.toArray n}={cls:=.type "list",data:=.seq its'.toArray n'})(r:aW ys its')(hz:ys.length<=sizeLine)(t:Nat):
  aI X BJ σ (aT H p (.lst ys)) {s with heap:=s.heap.update p f,toks:=t}:=by
 have e:(s.heap.update p f).get? p=some {cls:=.type "list",data:=.seq its'.toArray n'}:=by
  rw[wj f ho (by rw[hf]<;>rfl),hf]
 refine I.write   (by rw[h];trivial) (.inl rfl) (λb u hb q=>(zu _ _ (gw hb)).trans q) ⟨_,e⟩ ?_;exact⟨hz,its',n',r,e⟩
def afh:V->V->V->Hp->(Hp->Prop)->Prop:=λo i v H Q=>∃p xs k j,o=.ref p/\i=.int k/\H p=some (.lst xs)/\fX xs.length k=some j/\Q (aT H p (.lst (xs.set j v)))
theorem Ip:Uh X afh:=by
 intro BJ s σ H o i v ov iv u Q I ro ri rv h;obtain⟨p,xs,k,j,rfl,rfl,hp,hj,q⟩:=h;cases ro;obtain⟨t,rfl⟩:=ri;obtain⟨its,n,r,ho,hz⟩:=I.lst hp;obtain⟨h1,h2,h3,h4⟩:=Hr hj;have hl:=r.length;have hn:=sT;have I'  :=
  I.lstUpd hp ho (G7 its n j u) (r.set rv j) (by rw[ff];exact hz) s.toks
 by_cases h0:0<=k
 .have hk:=by
   rw[wd h0 h4]at h1;exact cx h1
  exact PySem.W.ki_setAt ho h0 (by omega) (by rw[bf,<-hl];exact h4) (by rw[hk];exact⟨_,I',q⟩)
 .have hk:(k+(its.toArray.size:Int)).toNat=j:=by
   rw[we (by omega) h3]at h1;rw[bf,<-hl];exact cx h1
  exact PySem.W.ki_setBack ho (by omega) (by rw[bf,<-hl];exact h3) (by omega) (by rw[hk];exact⟨_,I',q⟩)
theorem C9(lo hi:BE)(n:Nat):(sliceBounds lo hi none n).1=((HT.sIx n 0 lo:Nat):Int)/\(sliceBounds lo hi none n).2.1=((HT.sIx n n hi:Nat):Int)/\(sliceBounds lo hi none n).2.2=1:=by
 refine⟨?_,?_,rfl⟩
 .cases lo with
  |none=>rfl
  |some i=>
   simp only[sliceBounds,HT.sIx,zw,show(1:Int)>0 by decide,if_true]
   by_cases h:i<0
   .simp only[h,if_true]<;>omega
   .simp only[h,if_false]<;>omega
 .cases hi with
  |none=>rfl
  |some i=>
   simp only[sliceBounds,HT.sIx,zw,show(1:Int)>0 by decide,if_true]
   by_cases h:i<0
   .simp only[h,if_true]<;>omega
   .simp only[h,if_false]<;>omega
theorem B7(its:BB)(lo hi:BE):slicePick its.toArray lo hi none=((its.drop (HT.sIx its.length 0 lo)).take (HT.sIx its.length its.length hi-HT.sIx its.length 0 lo)).toArray:=by
 obtain⟨h1,h2,h3⟩:=C9 _ _ _;unfold slicePick;rw[h1,h2,h3];simp only[sliceRange_one,pick_run]<;>rfl
def af1(K:ae):V->BE->BE->Hp->VK->Prop:=λx lo hi H Q=>∃a xs,x=.ref a/\bO K H a xs/\∀p,H p=none->Q (.ref p) (aT H p (.lst (tN xs lo hi)))
theorem acE:pG X (af1 X.K):=by
 intro BJ s σ H x v vl vu lo hi sl Q I rx hs pl pu h;obtain⟨a,xs,rfl,hx,q⟩:=h;cases rx;obtain⟨its,r,ht,hz⟩:=I.list hx;have hlen:=r.length;refine⟨"list",_,wg.lookup,ht.isList.typeIs,?_⟩;refine zx ht.isList hs pl pu .none (by simp) ?_ (by grind);rw[B7,<-hlen];refine⟨.ref _,_,I.laid   (λb ob q=>ar _ q) (al _) ?_,rfl,q _ (I.hok.fresh (al _))⟩;exact⟨fh (wJ _ _ _) hz,_,0,(r.drop _).take _,cj _ rfl⟩
theorem C5:iH X (.builtin "len") (λxs H Q=>∃p ys,xs=[.ref p]/\(bO X.K H p ys\/cG X.K H p ys)/\Q (.int ys.length) H):=by
 intro BJ s σ H xs us Q I r h;obtain⟨p,ys,rfl,hq,q⟩:=h;obtain⟨u,rfl,rx⟩:=jC r;cases rx;have hn:=sT;rcases hq with hq |hq
 .obtain⟨its,r',pl,hz⟩:=I.list hq
  have hlen:=r'.length;exact Calls.call_len_list pl.isList (by simp only[bf]<;>omega) ⟨.int _,H,I.tok _,⟨s.toks+1,by rw[bf,hlen]⟩,q⟩
 .obtain⟨its,r',pl,hz⟩:=I.tuple hq
  have hlen:=r'.length;exact len_tuple pl (by simp only[bf]<;>omega) ⟨.int _,H,I.tok _,⟨s.toks+1,by rw[bf,hlen]⟩,q⟩
theorem Fb:iH X (.type "list") (λxs H Q=>∃p ys,xs=[.ref p]/\(bO X.K H p ys\/cG X.K H p ys)/\∀l,H l=none->Q (.ref l) (aT H l (.lst ys))):=by
 intro BJ s σ H xs us Q I r h;obtain⟨p,ys,rfl,hq,q⟩:=h;obtain⟨u,rfl,rx⟩:=jC r;cases rx;have fin:∀its,aW ys _->ys.length<=sizeLine->∀(h':Heap) c',(∀b o',s.heap.get? b=some o'->h'.get? b=some o')->
   h'.get? _=some _->EP X _ σ Q (.ref _) {s with heap:=h'}:=λits r' hz h' c' kp e=>
  ⟨.ref _,_,I.laid  kp (al _) (show fQ _ _ _ h' _ (.lst ys) from⟨hz,its,c',r',e⟩),rfl,q _ (I.hok.fresh (al _))⟩
 rcases hq with hq |hq
 .obtain⟨its,r',pl,hz⟩:=I.list hq
  have hlen:=r'.length;obtain⟨o,ho,hc,n,hd⟩:=pl.isList;exact call_list_seq p (.inl rfl) ho hc hd (λh' c' kp e=>fin _ r' hz _ c' kp e) (by simp_all)
 .obtain⟨its,r',pl,hz⟩:=I.tuple hq
  have hlen:=r'.length;obtain⟨o,ho,hc,n,hd⟩:=pl;exact call_list_seq p (.inr rfl) ho hc hd (λh' c' kp e=>fin _ r' hz h' c' kp e) (by simp_all)
theorem B8:iH X (.type "tuple") (λxs H Q=>∃p ys,xs=[.ref p]/\((bO X.K H p ys/\∀l,H l=none->Q (.ref l) (aT H l (.tup ys)))\/(cG X.K H p ys/\Q (.ref p) H))):=by
 intro BJ s σ H xs us Q I r h;obtain⟨p,ys,rfl,h⟩:=h;obtain⟨u,rfl,rx⟩:=jC r;cases rx;rcases h with⟨hq,q⟩|⟨hq,q⟩
 .obtain⟨its,r',pl,hz⟩:=I.list hq
  have hlen:=r'.length;refine call_tuple_list pl.isList (λh' kp=>?_) (by grind);have I1:=I.kept (t':=s.toks) kp;have I2  :=
   I1.laid (t':=s.toks) (λb o e=>ar _ e) (al _) (show fQ _ _ _ _ _ (.tup _) from⟨⟨hz,_,cj _ rfl,rfl⟩,its,r',qp _ _⟩)
  exact⟨.ref _,_,I2,rfl,q _ (I1.hok.fresh (al _))⟩
 .obtain⟨its,r',pl,hz⟩:=I.tuple hq
  exact call_tuple_same pl ⟨.ref p,H,I,rfl,q⟩
def Ki(K:ae)(T:String)(x:V)(H:Hp):Prop:=match x with
 |.str _=>T="str"
 |.int _=>T="int"
 |.ref p=>(T="list"/\∃xs,bO K H p xs)\/(T="tuple"/\∃o,K.lookup p=some o/\o.cls=.type "tuple"/\o.dict=none)\/
   (T="dict"/\((∃kvs,H p=some (.dK kvs))\/∃kvs,H p=some (.dT kvs)))\/(T="set"/\∃S n,H p=some (.set S n))
 |_=>False
theorem ad7  {σ:St}{H:Hp}{s:aa}{T:String}{x:V}{v:Value}(I:aI X BJ σ H s)(r:bJ x v)(ty:Ki X.K T x H):
  s.TypeIs v T/\∀a,v=.ref a->∃ob,s.heap.get? a=some ob/\ob.dict=none:=by
 cases x with
 |str z=>
  obtain⟨t,rfl⟩:=r;cases(show T="str" from ty);exact⟨typeIs_str s z t,λ_ e=>nomatch e⟩
 |int i=>
  obtain⟨t,rfl⟩:=r;cases(show T="int" from ty);exact⟨wk s i t,λ_ e=>nomatch e⟩
 |ref p=>
  cases r;rcases ty with⟨rfl,xs,hq⟩|⟨rfl,o,hk,hc,hd⟩|⟨rfl,hk⟩|⟨rfl,S,n,hk⟩
  .obtain⟨its,_,pl,_⟩:=I.list hq
   refine⟨pl.isList.typeIs,λa e=>?_⟩;cases e;obtain⟨o,n,e,c,hd,_⟩:=pl;exact⟨o,e,hd⟩
  .refine⟨⟨o,I.kIn p o hk,hc⟩,λa e=>?_⟩
   cases e;exact⟨o,I.kIn _ o hk,hd⟩
  .have z:∃o,s.heap.get? p=some o/\o.ExactDict:=by
    rcases hk with⟨kvs,hk⟩|⟨kvs,hk⟩
    .obtain⟨_,_,_,_,o,_,_,e,ex,_⟩:=I.hok p _ hk
     exact⟨o,e,ex⟩
    .obtain⟨_,_,_,_,o,_,_,e,ex,_⟩:=I.hok p _ hk
     exact⟨o,e,ex⟩
   obtain⟨o,e,ex⟩:=z;refine⟨⟨o,e,ex.1⟩,λa e2=>?_⟩;cases e2;exact⟨o,e,ex.2.1⟩
  .obtain⟨o,_,_,_,e,ex,_⟩:=I.hok p _ hk
   refine⟨⟨o,e,ex.1⟩,λa e2=>?_⟩;cases e2;exact⟨o,e,ex.2.1⟩
 |_=>exact jr ty
def tBM(K:ae)(T:String)(r:V->List V->Hp->VK->Prop)(to:TE)(t:TA):TE:=λσ H Q=>to σ H λx H1=>Ki K T x H1/\t σ H1 λxs H2=>r x xs H2 Q
variable{o e:ah}{es:List ah}{to:TE}{t:TA}{name:Str}{apos cpos:ai}{T id:String}{r:V->List V->Hp->VK->Prop}
theorem Ng(pa:PlainAttrs T)(slot:Slot T name id)(hty:typeOf (.builtin id)=pure (.type "method_descriptor"))(hm:wD X id r)(ho:PE X o to)(ha:PA X (e::es) t)
  (hbase:attributeBase o name X.env (eval o X.env)=eval o X.env:=by rfl)
  (hfew:((backTo cpos (starEach (e::es) X.env)).all (λx=>!x.1)&&(backToKw cpos (keywordEach [] X.env)).all (λx=>x.1.isSome)
   &&decide ((e::es).length+([]:List ft).length+(if([]:List ft).isEmpty then 0 else 1)<30))=true:=by rfl)
  (hline:(apos.endLine==cpos.line)=true:=by rfl)(hs:starEach (e::es) X.env=(false,eval e X.env)::starEach es X.env:=by rfl)(hplain:(backTo cpos (starEach es X.env)).any (·.1)=false:=by rfl):
  PE X (.Call (.Attribute o name apos) (e::es) [] cpos) (tBM X.K T r to t):=by
 intro BJ s σ H Q I h;refine wm hbase hfew hline rfl (bA (ho _ s _ H _ I h) λv s1 hq=>?_);rcases hq with⟨x,H1,I1,r1,ty,q1⟩;obtain⟨h1,h2⟩:=ad7 I1 r1 ty;refine⟨T,id,pa,slot,hty,h1,h2,?_⟩;have hA:=ha cpos _ _ _ _ _ I1 q1;rw[hs]at hA⊢;refine wn (by show(false||(backTo _ _).any _)=false;rw[hplain]<;>rfl) (qv ?_);exact bA hA λus s2 ⟨vs,H2,I2,r2,q2⟩=>hm _ _ _ _ x _ v us Q I2 r1 r2 q2
end
def Oz(X:Cx)(id:String)(r:V->List V->Hp->VK->Prop):Prop:=
 ∀(BJ:List (Addr×Obj))(s:aa)(σ:St)(H:Hp)(x:V)(xs:List V)(v:Value)(us:BB)(Q:VK),aI X BJ σ H s->bJ x v->aW xs us->r x xs H Q->
  wpAny (model X.prog X.w) X.A (call (.builtin id) (v::us)) (EP X BJ σ Q) X.xe s
theorem aW.one:∀{x:V}{us:BB},aW [x] us->∃u,us=[u]/\bJ x u:=by
 rintro _ _ (_ |⟨r,_ |_⟩)
 exact⟨_,rfl,r⟩
theorem aW.two:∀{x y:V}{us:BB},aW [x,y] us->∃u v,us=[u,v]/\bJ x u/\bJ y v:=by
 rintro _ _ _ (_ |⟨r,_ |⟨q,_ |_⟩⟩)
 exact⟨_,_,rfl,r,q⟩
theorem aW.eraseIdx:∀{xs:List V}{us:BB}(i:Nat),aW xs us->aW (xs.eraseIdx i) (us.eraseIdx i)
 |_,_,_,.nil=>.nil
 |_,_,0,.cons _ t=>t
 |_,_,i+1,.cons r t=>.cons r (aW.eraseIdx i t)
theorem aW.rep{xs:List V}{us:BB}(h:aW xs us):∀k:Nat,aW (dn k xs).flatten (dn k us).flatten
 |0=>.nil
 |k+1=>by
  rw[ku,ku,mf,mf];exact aW.append h (aW.rep h k)
theorem Hc{α:Type}:∀(l:List α)(i:Nat),(l.eraseIdx i).length<=l.length
 |[],_=>al _
 |_::_,0=>mj _
 |_::r,i+1=>zy (Hc r i)
theorem Ul(its:BB):∀(k:Nat)(acc:BB),
  qw (λx1 x2=>x1++x2) acc.toArray (dn k its.toArray)=(acc++(dn k its).flatten).toArray
 |0,acc=>by simp
 |k+1,acc=>by
  have e:acc.toArray++its.toArray=(acc++its).toArray:=by simp
  have e2:(acc++its)++(dn k its).flatten=acc++(dn (k+1) its).flatten:=by
   rw[ku,mf,ee]
  rw[<-e2,<-Ul its k (acc++its),<-e,ku,List.foldl_cons]
section
variable{X:Cx}{BJ:List (Addr×Obj)}{σ:St}{H:Hp}{s:aa}{l:Addr}{xs ys:List V}
theorem aI.lset{its its':BB}{n:Nat}{f:Array Value->Array Value}{t':Nat}(I:aI X BJ σ H s)(hH:H l=some (.lst xs))
  (e:s.heap.get? l=some {cls:=.type "list",data:=.seq its.toArray n})(hf:f its.toArray=its'.toArray)(hv:aW ys its')(hz:ys.length<=sizeLine):
  aI X BJ σ (aT H l (.lst ys)) {s with heap:=s.heap.update l (ju f),toks:=t'}:=by
 have q:=PySem.IsL.update e f;rw[hf]at q;refine I.write   (by rw[hH];exact trivial) (.inl rfl) (λb' u hb hu=>(zu _ _ (gw hb)).trans hu) ⟨_,q⟩ ?_;exact⟨hz,its',_,hv,q⟩
theorem aI.lnew   (I:aI X BJ σ H s)(hv:aW ys its)(hz:ys.length<=sizeLine):
  aI X BJ σ (aT H s.heap.objs.size (.lst ys)) {s with heap:=s.heap.push {cls:=.type "list",data:=.seq its.toArray},toks:=t'}:=
 I.laid (λ_ _ q=>ar _ q) (al _) ⟨hz,its,0,hv,cj _ rfl⟩
theorem aI.fresh(I:aI X BJ σ H s):H s.heap.objs.size=none:=I.hok.fresh (al _)
theorem aI.lstM(I:aI X BJ σ H s)(hH:H l=some (.lst xs)):xs.length<=sizeLine/\∃(its:BB)(n:Nat),aW xs its/\xs.length=its.length/\s.heap.get? l=some {cls:=.type "list",data:=.seq its.toArray n}:=by
 obtain⟨z,its,n,r,e⟩:=I.hok l _ hH;exact⟨z,its,n,r,r.length,e⟩
theorem Fp  (h:n<=sizeLine):pf n=false:=decide_eq_false (by omega)
end
section
variable{X:Cx}
def ab8:V->List V->Hp->VK->Prop:=λx vs H Q=>∃l xs y,x=.ref l/\vs=[y]/\H l=some (.lst xs)/\xs.length<sizeLine/\Q .non (aT H l (.lst (xs++[y])))
theorem wW:Oz X "list.append" ab8:=by
 intro BJ s σ H x vs v us Q I rx rv h;obtain⟨l,xs,y,rfl,rfl,hH,hz,q⟩:=h;cases rx;obtain⟨u,rfl,ru⟩:=rv.one;obtain⟨z,its,n,r,hl,e⟩:=I.lstM hH;refine mn wo ⟨_,e,rfl⟩ F.entry_list_append (F.args_list_append_2 _ _) (PySem.list_append l _ n u (by grind)) ⟨e,?_⟩;refine⟨.non,_,I.lset  hH e (by simp) (r.append (.cons ru .nil)) ?_,rfl,q⟩;grind
def acY:V->List V->Hp->VK->Prop:=λx vs H Q=>∃l xs i k y,x=.ref l/\vs=[.int i]/\H l=some (.lst xs)/\-(2^63)<=i/\i<2^63/\seqIndex? i xs.length=some k/\xs[k]?=some y/\Q y (aT H l (.lst (xs.eraseIdx k)))
theorem aai:Oz X "list.pop" acY:=by
 intro BJ s σ H x vs v us Q I rx rv h;obtain⟨l,xs,i,k,y,rfl,rfl,hH,h1,h2,hk,hy,q⟩:=h;cases rx;obtain⟨u,rfl,ru⟩:=rv.one;obtain⟨t,rfl⟩:=ru;obtain⟨z,its,n,r,hl,e⟩:=I.lstM hH;obtain⟨w,hw,rw'⟩:=r.get hy;refine mn F.slot_list_pop ⟨_,e,rfl⟩ F.entry_list_pop (F.args_list_pop_2 _ _)
  (MeetsSeq.list_pop_at l _ n i t k w (fitsIndex_both h1 h2) (by simp_all) (by simp_all) (by simp_all)) ⟨e,?_⟩
 refine⟨y,_,I.lset  hH e ?_ (r.eraseIdx k) ?_,rw',q⟩
 .rw[List.eraseIdxIfInBounds_toArray]
 .have:=Hc xs k
  omega
theorem As{α:Type}(xs:List α)(k:Nat):(dn k xs).flatten.length=k*xs.length:=by
 induction k with
 |zero=>simp
 |succ k ih=>rw[ku,mf,av,ih,Nat.succ_mul,Nat.add_comm]
end
end L2
namespace Att
open PySem PySem.W PySem.Calls PyProof.Rows
theorem A2  :∀(ns:AY)(vs:BB),WellAll P h vs (ns.map WData.int)->kw vs ns:=by
 intro ns
 induction ns with
 |nil=>
  intro vs w;cases w;exact .nil
 |cons n ns ih=>
  intro vs w;cases w with
  |cons a b=>
   cases a;exact .cons _ _ (ih _ b)
theorem Q2{l:mq}{n:Nat}(hn:l.most=some n){P:oi}{h:Heap}{args:List WData}{vals:BB}
  (hpre:l.row.toRowW.claim.pre args=true)(hwl:WellAll P h vals args):
  ∃a vs ns,vals=[fe a]/\args=[WData.list (ns.map WData.int)]/\h.get? a=some {cls:=.type "list",data:=.seq vs.toArray}/\kw vs ns/\ns.length<=n:=by
 have hsh:WShape.hasAll [] _ [.list _]=true:=(pre_splitW hpre).1;have hc:l.pre.holds [] _=true:=(pre_splitW hpre).2;obtain⟨d,r,rfl,h1,h2⟩:=hasAllW_cons hsh;obtain rfl:=hasAllW_nil h2;obtain⟨xs,rfl,h3⟩:=hasW_list h1;obtain⟨ns,rfl⟩:=items_int h3;have hlen:=by
  have h4:=by
   have h4:=(holds_andW hc).1;rw[hn]at h4;exact h4
  have h5:=condW_of h4 rfl
  first
   |( grind)
   |(simp at h5;omega)
 cases hwl with
 |cons w1 w2=>
  cases w2;cases w1 with
  |list ho hall=>exact⟨_,_,ns,rfl,rfl,ho,A2 _ _ hall,hlen⟩
theorem P5(l:mq)(args:List WData):l.row.toRowW.claim.post args (.bool true) args=true:=
 postW_of  
  rfl
  (show(WTm.eq _ _).value _ _=some _ from w_eq_bool rfl w_lit) rfl
theorem attach_call{l:mq}{n:Nat}{q:Program}{loose:List Str}{XP:(Str->BC)->Heap->Prop}{YP:am->Heap->Prop}{d:DefRec}
  (hn:l.most=some n)(hdf:d.params.defaults=[])
  (call:∀(w:am)(BK BN:aa)(mg mb:Str->BC)(fa:Addr)(o:Obj)(pm cd doc:Value)(a:Addr)(vs:BB)(ns:AY),
   Ground q loose [] XP w BK mg mb BN.heap->YP w BN.heap->
   BN.heap.get? fa=some o->o.data=.func (docDef d.name d.params d.body d.scope pm cd doc)->BN.heap.CodeRec cd d.name->mg d.name=some (.ref fa)->
   BN.heap.get? a=some {cls:=.type "list",data:=.seq vs.toArray}->kw vs ns->ns.length<=n->BN.gens=#[]->
   codeAny (model l.prog w) callerA (.call (.ref fa) ⟨[.ref a],[]⟩) (λr s'=>r=.ok (.ret (.bool true))/\OldK BN.heap s'.heap/\s'.os=BN.os/\jd s'.gens) BN):
  WalkO q loose XP YP l.row.toRowW d [] (λf vs=>wq f vs):=by
 intro w BK BN mg mb G Y fa o pm cd doc dV kV ho hd hcd hD hmg hg args vals as hpre hlay hrd hwl hlo;obtain rfl:dV=.none:=Dflts.none hD hdf;obtain rfl:kV=.none:=Dflts.noKw hD;obtain⟨a,vs,ns,rfl,rfl,hobj,hints,hlen⟩:=Q2 hn hpre hwl;refine enter_call (qq (call w _ _ _ _ _ o _ _ _ a _ _ G Y ho (fd_plain hd) hcd hmg hobj hints hlen hg) λr s' hq=>?_);obtain⟨rfl,h2,h3,h4⟩:=hq;exact⟨.inl ⟨.bool _,.bool _,[],rfl,λ_=>rfl,.bool _,P5 l _,λ_=>(by grind)⟩,h2,h3,h4⟩
end Att
namespace L2
open PySem PySem.Spec PyProof.Rows
theorem Mn:∀{vs:BB}{ns:AY},kw vs ns->aW (ns.map V.int) vs
 |_,_,.nil=>.nil
 |_,_,.cons n t h=>.cons ⟨t,rfl⟩ (Mn h)
def Sh(H:Hp):Prop:=∀b,H b=none\/∃o xs,H b=some (.frz o (.lst xs))
theorem aas{P:Program}{w:am}{K:ae}{mg mb:Str->BC}{CX:jS}{k:Nat}{fa a:Addr}{fd:ca}{x:Str}{sp:Sp}{BN:aa}{vs:BB}{ns:AY}
  (KX:K.In BN.heap)(hns:BN.heap.Ns mainGlobals mg)(hb:BN.heap.Ns builtinsNs mb)(hbb:∀x:Str,x≠"__name__"->mb x=bootBuiltins x)(hlim:BN.heap.NoLimit)(hse:BN.heap.NoSeer)(hT:P.given.tree=none)(hg:BN.gens=#[])
  (ha:BN.heap.get? a=some {cls:=.type "list",data:=.seq vs.toArray})(hi:kw vs ns)(hl:ns.length<=sizeLine)(hr:dH k callerA)
  (F:∀base:Heap,K.In base->base.Ns mainGlobals mg->eI P w K mg base CX k fa fd [x] sp)(hbind:∀(s:aa)(u:Value),ly s fd ⟨[u],[]⟩ [(x,u)])
  (hsp:∀H:Hp,Sh H->bO K H a (ns.map V.int)->sp [.ref a] H (λv _=>v=.bl true) λ_ _ _=>False)
  (hCX:∀H e s',CX [] H BN (λ_ _ _=>False) e s'->False):
  codeAny (model P w) callerA (.call (.ref fa) ⟨[.ref a],[]⟩) (λr s'=>r=.ok (.ret (.bool true))/\OldK BN.heap s'.heap/\s'.os=BN.os/\jd s'.gens) BN:=by
 have rv:=Mn hi;have lenV:=hi.length
 --from an abstract heap in which nothing but the script may be tracked
 have core:∀H:Hp,Sh H->bO K H a (ns.map V.int)->fK P w H BN.heap->(∀b,H b≠none->b=a)->(H a≠none->K.lookup a=none)->
   codeAny (model P w) callerA (.call (.ref fa) ⟨[.ref a],[]⟩) (λr s'=>r=.ok (.ret (.bool true))/\OldK BN.heap s'.heap/\s'.os=BN.os/\jd s'.gens) BN:=by
  intro H hO hS hok hA hK;have base_of:∀{b:Addr}{o:Obj},BN.heap.get? b=some o->H b=none->(nV BN.heap H).get? b=some o:=λe n=>aaA e n;have noA:∀{b:Addr}{o:Obj}{es:Array DictEntry}{ep:Nat},BN.heap.get? b=some o->o.data=.dict es ep->H b=none:=λ{b o es ep} e d=>by
   cases q:H b with
   |none=>rfl
   |some u=>
    have e':b=a:=hA b (by rw[q];simp);subst e';rw[ha]at e;cases e;have d':Data.seq vs.toArray _=Data.dict es ep:=d;cases d'
  have nsK:∀{b:Addr}{m:Str->BC},BN.heap.Ns b m->(nV BN.heap H).Ns b m:=λ{b m} ⟨o,es,ep,e,d,r⟩=>⟨o,es,ep,base_of e (noA e d),d,r⟩;have hKb:K.In (nV BN.heap H):=λb o e=>base_of (KX b o e) (by
   cases q:H b with
   |none=>rfl
   |some u=>
    have e':b=a:=hA b (by rw[q];simp);subst e';rw[hK (by rw[q];simp)]at e;cases e)
  have hM:Mod K mg (nV BN.heap H):=⟨hKb,nsK hns,⟨mb,nsK hb,hbb⟩,let⟨mc,h1,h2⟩:=hlim;⟨mc,nsK h1,h2⟩,⟨let⟨mc,h1,h2⟩:=hse.statics;⟨mc,nsK h1,h2⟩,let⟨mc,h1,h2⟩:=hse.mods;⟨mc,nsK h1,h2⟩,let⟨mc,h1,h2⟩:=hse.imp;⟨mc,nsK h1,h2⟩,let⟨mg',bm,ob,h1,h2,h3,h4,h5⟩:=hse.main;⟨mg',bm,ob,nsK h1,h2,base_of h3 (by
   cases q:H bm with
   |none=>rfl
   |some u=>
    have e':bm=a:=hA bm (by rw[q];simp);subst e';rw[ha]at h3;cases h3;simp at h4),h4,h5⟩⟩⟩
  have e0:zQ P w K mg (nV BN.heap H) callerA [] BN H:=⟨⟨rfl,hT⟩,hM,λb o e=>abo e,Nat.le_of_eq (R6 _ _),trivial,λb hb=>absurd (show b∈([]:List Addr) from hb) (by simp),hok,.of_eq hg⟩;refine qq ((F _ hKb (nsK hns)).run callerA [] BN H ⟨[.ref a],[]⟩ [.ref a] [.ref a] _ _ hr e0 (hbind BN (.ref a)) (.cons rfl .nil) (hsp H hO hS)) λr s' h=>?_;cases r with
  |error e=>exact(hCX H e s' h).elim
  |ok fl=>
   cases fl with
   |next=>exact jr h
   |brk=>exact jr h
   |cont=>exact jr h
   |ret u=>
    obtain⟨v,H',os,bare,un,hok',r',q⟩:=h;have q':v=.bl true:=q;subst q';obtain rfl:u=oq true:=r';refine⟨rfl,OldK.of_keep λb o e=>?_,os,bare⟩;cases q:H b with
    |none=>exact un.keep b o e q (by intro z;exact absurd (show b∈([]:List Addr) from z) (by simp)) (by simp)
    |some u=>
     rcases hO b with z |⟨ob,xs,z⟩
     .rw[q]at z;cases z
     .have z2:=un.frzs b ob _ z
      obtain⟨e1,_⟩:=hok b _ z;obtain⟨e2,_⟩:=hok' b _ z2;rw[e]at e1;cases e1;exact e2
 cases hk:K.lookup a with
 |some o=>
  --the script is one of the module's own objects
  have e:=KX a o hk;rw[ha]at e;cases e;refine core (λ_=>none) (λ_=>.inl rfl) (.inr ⟨_,vs.toArray,_,hk,rfl,rfl,rfl,by rw[bf,lenV];exact hl,by simpa using rv⟩) (λb u z=>by have z':(none:Option HO)=some u:=z;cases z') (λb z=>absurd rfl z) λz=>absurd rfl z
 |none=>
  refine core (λb=>if b=a then some (.frz {cls:=.type "list",data:=.seq vs.toArray} (.lst (ns.map V.int)))else none) (λb=>?_) (.inl (.inr ⟨{cls:=.type "list",data:=.seq vs.toArray},if_pos rfl⟩)) (λb u z=>?_) (λb z=>?_) λ_=>hk
  .by_cases hb:b=a
   .exact .inr ⟨_,_,if_pos hb⟩
   .exact .inl (if_neg hb)
  .by_cases hb:b=a
   .have z':=(if_pos hb).symm.trans z
    cases z';subst hb;exact⟨ha,by rw[ak];exact hl,vs,_,rv,ha⟩
   .have z':=(if_neg hb).symm.trans z
    cases z'
  .by_cases hb:b=a
   .exact hb
   .exact absurd (if_neg hb) z
theorem walk_of{l:mq}{n k:Nat}{q:Program}{loose:List Str}{XP:(Str->BC)->Heap->Prop}{YP:am->Heap->Prop}{d:DefRec}{K:oi->ae}{CX:am->jS}{sp:am->Sp}{x:Str}
  (hn:l.most=some n)(hn2:n<=sizeLine)(hdf:d.params.defaults=[])(hr:dH k callerA)
  (hY:∀(w:am)(h:Heap),YP w h->(K w.params).In h)
  (hSe:∀(w:am)(h:Heap)(mg mb:Str->BC),YP w h->h.Ns mainGlobals mg->h.Ns builtinsNs mb->(∀x:Str,x≠"__name__"->mb x=bootBuiltins x)->h.NoSeer)(hTr:l.prog.given.tree=none)
  (F:∀(w:am)(mg:Str->BC)(fa:Addr)(h:Heap),(K w.params).In h->h.Ns mainGlobals mg->mg d.name=some (.ref fa)->
   ∃fd:ca,(∀(s:aa)(u:Value),ly s fd ⟨[u],[]⟩ [(x,u)])/\
    ∀base:Heap,(K w.params).In base->base.Ns mainGlobals mg->eI l.prog w (K w.params) mg base (CX w) k fa fd [x] (sp w))
  (hsp:∀(w:am)(H:Hp)(a:Addr)(ns:AY),ns.length<=n->Sh H->bO (K w.params) H a (ns.map V.int)->sp w [.ref a] H (λv _=>v=.bl true) λ_ _ _=>False)
  (hCX:∀(w:am)(H:Hp)(s:aa)(e:Value)(s':aa),CX w [] H s (λ_ _ _=>False) e s'->False):
  PySem.W.WalkO q loose XP YP l.row.toRowW d [] (λf vs=>wq f vs):=by
 refine Att.attach_call hn hdf λw BK BN mg mb fa o pm cd doc a vs ns G Y ho hd hcd hmg hobj hints hlen hg=>?_;have KX:=hY w _ Y;obtain⟨fd,hb,hF⟩:=F w mg fa _ KX G.T.g hmg;exact aas KX G.T.g G.T.b G.T.builtins G.T.nolimit (hSe w _ _ _ Y G.T.g G.T.b G.T.builtins) hTr hg hobj hints (fh hlen hn2) hr hF hb (λH hO hS=>hsp w H a ns hlen hO hS) λH e s'=>hCX w H BN e s'
abbrev fL:jS:=λ_ _ _ _ _ _=>False
abbrev E0:XK:=λ_ _ _=>False
theorem zE:Hg fL X E0:=λ_ _ _ _ _ _ _ h=>h.elim
structure jI(K:ae)(x qual:Str)(st:Stmt)(f:Addr)(fd:ca):Prop where
 ex:∃(oc:Value)(od:BD)(kV doc pm:Value)(an:BD)(cdv ct:Value)(osl:Array BC),
  fd=dj x qual (gR st) (eF st) (bY st) .none kV doc pm an cdv ct/\K.lookup f=some ⟨oc,od,.func fd,osl⟩/\jg K cdv qual=true
 kp:fm K (.ref f)=true
section
variable{P:Program}{w:am}{K:ae}{mg:Str->BC}{base:Heap}
theorem jI.ok  {st:Stmt}{f:Addr}{fd:ca}{N ps:List Str}{k:Nat}{sp:Sp}(F:jI K x qual st f fd)(S:iV N ps (bY st))(len:∀vs H Q E,sp vs H Q E->vs.length=ps.length)
  (hbody:∀(cdv:Value)(A:aq)(outer:List bi)(s:aa)(H:Hp)(vs:List V)(Q:VK)(E:XK),dH k (A.deeper (envOfC qual (bY st) s.heap.objs.size f cdv))->sp vs H Q E->
   ∃t,gG (fD fL P w K mg base N qual (bY st) f cdv A outer s H E).nox (eF st) t/\t {nx:=λ_ H'=>Q .non H',rt:=Q} (start N vs) H):eI P w K mg base fL (k+1) f fd ps sp:=by
 obtain⟨oc,od,kV,doc,pm,an,cdv,ct,osl,rfl,lk,hcd⟩:=F.ex;refine Zg lk hcd S len λA outer s H vs Q E hr hsp=>?_;obtain⟨t,h,q⟩:=hbody _ A _ s H _ Q E hr hsp;exact⟨t,h.nox,q⟩
theorem jI.binds  {st:Stmt}{f:Addr}{fd:ca}{ps:List Str}(F:jI K x qual st f fd)
  (h:∀(kV doc pm:Value)(an:BD)(cdv ct:Value)(us:BB),us.length=ps.length->bindArgs (dj x qual (gR st) (eF st) (bY st) .none kV doc pm an cdv ct) ⟨us,[]⟩=pure (ps.zip us)):kC K fd ps []:=by
 obtain⟨oc,od,kV,doc,pm,an,cdv,ct,osl,rfl,lk,hcd⟩:=F.ex;exact .all (h _ _ _ _ _ _)
theorem Ov  {st:Stmt}{f:Addr}{oc:Value}{od an:BD}{osl:Array BC}{kV doc pm cdv ct:Value}(l:K.lookup f=some ⟨oc,od,.func (dj x qual (gR st) (eF st) (bY st) .none kV doc pm an cdv ct),osl⟩)
  (c:jg K cdv qual=true)(k:fm K (.ref f)=true):jI K x qual st f (dj x qual (gR st) (eF st) (bY st) .none kV doc pm an cdv ct):=⟨⟨oc,od,kV,doc,pm,an,cdv,ct,osl,rfl,l,c⟩,k⟩
end
section
variable{X:Cx}
theorem pv(i:Nat){x:Str}{pos:ai}(hN:X.N[i]?=some x:=by rfl)(hv:pM X.env.scope x:=by first |exact ie rfl |exact ig (ie rfl) |exact ig (ig rfl))(hd:(x==("__debug__":Str))=false:=by decide)
  (hcd:(x==("__classdict__":Str))=false:=by decide):PE X (.Name x pos) (Hz i):=qL hN hv hd hcd
end
def cZ(H H':Hp):Prop:=∀b o,H b=some o->H' b=some o
theorem cZ.refl(H:Hp):cZ H H:=λ_ _ h=>h
end L2
namespace Bn
def Bd(k:Nat)(i:Int):Prop:=i.natAbs<2^k
theorem Bd.mono  {i:Int}(h:Bd j i)(l:j<=k):Bd k i:=de h (wr (by decide) l)
theorem Bd.mul  {a b:Int}(h:Bd j a)(g:Bd k b):Bd (j+k) (a*b):=by
 unfold Bd;rw[kh,Nat.pow_add];exact Nat.mul_lt_mul'' h g
theorem Bd.add   (h:Bd k a)(g:Bd k b):Bd (k+1) (a+b):=by
 unfold Bd at *;have:=Int.natAbs_add_le a b;omega
theorem Bd.neg   (h:Bd k a):Bd k (-a):=by
 unfold Bd at*
 simp_all
theorem Bd.sub   (h:Bd k a)(g:Bd k b):Bd (k+1) (a-b):=h.add g.neg
theorem Bd.le  {a b:Int}(h:Bd k b)(l:a.natAbs<=b.natAbs):Bd k a:=wt l h
theorem Bd.of{k n:Nat}{a:Int}(l:a.natAbs<=n)(h:n<2^k):Bd k a:=wt l h
theorem Bd.log   (h:Bd k a)(hk:0<k):a.natAbs.log2<k:=by
 rcases zz a.natAbs with z |z
 .simp_all
 .exact(Nat.log2_lt (lc z)).mpr h
theorem Jn(a:Int){b:Int}(h:b≠0):(a.fmod b).natAbs<b.natAbs:=by
 rw[Int.fmod_eq_emod];have h1:=Int.emod_nonneg a h;have h2:=Int.emod_lt a h
 by_cases c:0<=b\/b∣a
 .rw[if_pos c]<;>grind
 .rw[if_neg c]
  omega
theorem Np(a b:Int):cf b (a.fmod b)=cf a b:=by
 rw[Int.fmod_def,dg,Int.gcd_sub_mul_right_right,Int.gcd_comm]
theorem Bg(x:Int):(if x<0 then-x else x)=(x.natAbs:Int):=by grind
def gl:AY->Int->Int
 |[],g=>g
 |n::r,g=>gl r (cf g n:Nat)
def low(ns:AY):AY:=if gl ns 0=0 then ns else ns.map (· /gl ns 0)
theorem Lh:∀(ns:AY)(g:Int),0<=g->0<=gl ns g
 |[],_,h=>h
 |_::r,_,_=>Lh r _ (a5 _)
theorem Wu(k:Int):∀(ns:AY)(g:Int),0<=g->gl (ns.map (k*·)) ((k.natAbs:Int)*g)=(k.natAbs:Int)*gl ns g
 |[],_,_=>rfl
 |n::r,g,h=>by
  show gl (r.map _) _=k.natAbs*gl r _;have e:(cf (k.natAbs*g) (k*n):Nat)=k.natAbs*(cf g n:Int):=by
   rcases Int.natAbs_eq k with q |q
   .rw[<-q,a6]
    have:=q.symm
    simp_all
   .have e2:k*n=k.natAbs*-n:=by rw[kx,<-jv,<-q]
    rw[e2,a6];simp
  rw[e];exact Wu k r _ (a5 _)
theorem xQ(k:Int)(ns:AY):gl (ns.map (k*·)) 0=(k.natAbs:Int)*gl ns 0:=by
 have:=Wu k ns 0 (qx 0)
 rwa[jw]at this
theorem uJ  (h:0<k)(ns:AY):gl ns 0≠0->low (ns.map (k*·))=low ns:=λz=>by
 have hk:k.natAbs=k:=by omega
 have e:=xQ k ns;rw[hk]at e;have nz:k*gl _ 0≠0:=da (by omega) z;unfold low;rw[e,if_neg nz,if_neg z,dr];refine gf λn _=>?_;exact Int.mul_ediv_mul_of_pos _ _ h
theorem jY:∀(ns:AY)(g:Int),gl ns g∣g/\∀n∈ns,gl ns g∣n
 |[],g=>⟨Int.dvd_refl g,by grind ⟩
 |m::r,g=>by
  obtain⟨h1,h2⟩:=jY r _;refine⟨Int.dvd_trans h1 (wu ..),λn hn=>?_⟩;rcases bj.mp hn with q |q
  .subst q
   exact Int.dvd_trans h1 (wv ..)
  .exact h2 n q
theorem Ke  (h:gl ns 0=0):∀n∈ns,n=0:=λn hn=>by
 have:=(jY _ 0).2 n hn
 simp_all
theorem sZ   (hn:n∈ns)(h:n≠0):gl ns 0≠0:=λz=>h (Ke z n hn)
theorem vF   (hn:n∈ns)(h:n≠0):0<gl ns 0:=by
 have h1:=Lh ns 0 (qx 0);have h2:=sZ hn h;omega
theorem uV   (hn:n∈ns)(h:n≠0):low ns=ns.map (· /gl ns 0):=by
 unfold low;rw[if_neg (sZ hn h)]
theorem Bd.gcd   (h:Bd k a)(g:Bd k b):Bd k (cf a b:Nat):=by
 rcases zz a.natAbs with z |z
 .have:a=0:=by omega
  subst this;rw[ww];exact g
 .exact wt (Nat.gcd_le_left _ z) h
theorem yX:∀{ns:AY}{g:Int},Bd k g->(∀n∈ns,Bd k n)->Bd k (gl ns g)
 |[],_,h,_=>h
 |n::r,g,h,hn=>yX (ns:=r) (h.gcd (hn n bo)) λm hm=>hn m (bd _ hm)
theorem sQ  {ns:AY}(h:∀n∈ns,Bd k n):∀n∈low ns,Bd k n:=λn hn=>by
 unfold low at hn
 by_cases c:gl ns 0=0
 .rw[if_pos c]at hn
  exact h n hn
 .rw[if_neg c]at hn
  obtain⟨m,hm,rfl⟩:=fg.mp hn;refine(h m hm).le ?_;have d:=(jY _ 0).2 m hm;obtain⟨q,e⟩:=d;rw[e,mx _ c,kh];exact Nat.le_mul_of_pos_left _ (by omega)
theorem xZ(ns:AY):(low ns).length=ns.length:=by
 unfold low;split
 .rfl
 simp_all
def fr(t b:Int):AY:=if b<0 then low [0-t,0-b] else low [t,b]
theorem kD(a b:Int):b∈[a,b]:=bd _ bo
theorem acg(ns:AY):gl (ns.map (-1*·)) 0=gl ns 0:=by
 have:=xQ (-1) ns
 simp_all
theorem adx{t b:Int}(h:b≠0):fr (-t) (-b)=fr t b:=by
 unfold fr;grind
theorem Pj{k t b:Int}(hk:0<k)(h:b≠0):fr (k*t) (k*b)=fr t b:=by
 unfold fr;have e1:[k*t,k*b]=[t,b].map (k*·):=rfl;have e2:[0-k*t,0-k*b]=[0-t,0-b].map (k*·):=by
  show _=[k*(0-t),k*(0-b)];rw[qy,qy,jw]
 by_cases c:b<0
 .rw[if_pos c,if_pos (a7 hk c),e2]
  exact uJ hk _ (sZ (kD _ _) (by omega))
 .have c':¬(k*b<0):=by
   have:0<k*b:=aj hk (by omega);omega
  rw[if_neg c,if_neg c',e1];exact uJ hk _ (sZ (kD _ _) h)
theorem Fo{k t b:Int}(hk:k≠0)(h:b≠0):fr (k*t) (k*b)=fr t b:=by
 by_cases c:0<k
 .exact Pj c h
 .have c':0< -k:=by omega
  have hb:=da hk h;rw[<-adx hb,<-jv,<-jv];exact Pj c' h
theorem xN{t b t' b':Int}(h:b≠0)(h':b'≠0)(e:t*b'=t'*b):fr t b=fr t' b':=by
 rw[<-Fo h' h,<-Fo  h h',dg _ t,e,dg _ b,dg _ b]
theorem vM{t b:Int}(h:b≠0):∃p q:Int,fr t b=[p,q]/\0<q/\p*b=t*q:=by
 have go:∀{t b:Int},0<b->∃p q:Int,low [t,b]=[p,q]/\0<q/\p*b=t*q:=λ{t b} hb=>by
  have nz:b≠0:=by omega
  have gp:=vF (kD t b) nz;refine⟨t/gl [t,b] 0,b/gl [t,b] 0,uV (kD t b) nz,?_,?_⟩
  .obtain⟨m,e⟩:=(jY [t,b] 0).2 b (kD t b)
   have:b/gl [t,b] 0=m:=by
    conv=>lhs;lhs;rw[e]
    exact mx _ (by omega)
   rw[this];have hm:0<m*gl [t,b] 0:=by rw[dg,<-e];exact hb
   exact wx hm gp
  .obtain⟨m,e⟩:=(jY [t,b] 0).2 b (kD t b)
   obtain⟨n,f⟩:=(jY [t,b] 0).2 t bo;have e1:b/gl [t,b] 0=m:=by
    conv=>lhs;lhs;rw[e]
    exact mx _ (by omega)
   have e2:t/gl [t,b] 0=n:=by
    conv=>lhs;lhs;rw[f]
    exact mx _ (by omega)
   rw[e1,e2]
   conv=>lhs;rhs;rw[e]
   conv=>rhs;lhs;rw[f]
   rw[Int.mul_left_comm,jh]
 unfold fr
 by_cases c:b<0
 .rw[if_pos c]
  obtain⟨p,q,e1,e2,e3⟩:=go  (b:=0-b) (by omega);refine⟨p,q,e1,e2,?_⟩;grind
 .rw[if_neg c]
  exact go (by omega)
def sg(n:Int):Int:=if 0<n then 1 else if n<0 then-1 else 0
theorem Ko  (h:b≠0):(0<b/\sg b=1)\/(b<0/\sg b=-1):=by
 unfold sg
 by_cases c:0<b
 .exact .inl ⟨c,if_pos c⟩
 .have d:b<0:=by omega
  exact .inr ⟨d,by rw[if_neg c,if_pos d]⟩
theorem aah(b:Int):-(2^64)<sg b/\sg b<2^64:=by
 unfold sg;split
 .decide
 .split<;>decide
theorem sU(t b:Int):gl [t,b] 0=(cf t b:Nat):=by
 show(cf _ b:Int)=_;rw[ww];rfl
theorem pS{g n:Int}(h:g≠0):(g*n).fdiv g=n:=by
 simp_all
theorem Xi  (h:g≠0):(g*n).fdiv (-1*g)=-n:=by
 have e:g*n=(-1*g)*(-n):=by
  rw[jv,ij,a8]
 rw[e];exact pS (by omega)
theorem R9{t b:Int}(h:b≠0):[t.fdiv (sg b*(cf t b:Nat)),b.fdiv (sg b*(cf t b:Nat))]=fr t b:=by
 have gp:=vF (kD t b) h;rw[sU]at gp;have gn:(cf t b:Int)≠0:=by omega
 obtain⟨n,en⟩:=wu (a:=t) (b:=b);obtain⟨m,em⟩:=wv (a:=t) (b:=b);have ht:=en;have hb:=em;generalize hg:(cf t b:Nat)=g at *;rcases Ko h with⟨c,s⟩|⟨c,s⟩
 .rw[s,ij]
  have e1:fr t b=[t/g,b/g]:=by
   unfold fr;rw[if_neg (by omega),uV (kD t b) h,sU,hg];rfl
  have e2:=my ⟨n,ht⟩;have e3:=my ⟨m,hb⟩;rw[e1,e2,e3]
 .rw[s]
  have e1:fr t b=[(0-t)/g,(0-b)/g]:=by
   unfold fr;rw[if_pos c,uV (kD (0-t) (0-b)) (by omega),sU,gg,gg,Int.neg_gcd,Int.gcd_neg,hg];rfl
  have e2:t.fdiv (-1*g)=-n:=by
   conv=>lhs;lhs;rw[ht]
   exact Xi gn
  have e3:b.fdiv (-1*g)=-m:=by
   conv=>lhs;lhs;rw[hb]
   exact Xi gn
  have e4:(0-t)/g=-n:=by
   rw[ht,gg,<-kx,mx _ gn]
  have e5:(0-b)/g=-m:=by
   rw[hb,gg,<-kx,mx _ gn]
  rw[e1,e2,e3,e4,e5]
theorem Jt(n:Int):∀(l:AY)(g:Int),gl (l++[n]) g=(cf (gl l g) n:Nat)
 |[],g=>rfl
 |m::r,g=>Jt n r _
theorem zB  {t b p q:Int}(ht:Bd k t)(hb:Bd k b)(e:fr t b=[p,q]):Bd k p/\Bd k q:=by
 have go:∀{x y:Int},Bd k x->Bd k y->low _=[p,q]->Bd k p/\Bd k q:=λ{x y} hx hy e=>by
  have h:=sQ  (ns:=[x,y]) λn hn=>by
   rcases bj.mp hn with z |z
   .rw[z];exact hx
   .have z':=by simpa using z
    simp_all
  rw[e]at h;exact⟨h p bo,h q (kD _ _)⟩
 unfold fr at e;split at e
 .exact go (by rw[gg];exact ht.neg) (by rw[gg];exact hb.neg) e
 .exact go ht hb e
theorem Gc{t b p q:Int}(h:b≠0)(e:fr t b=[p,q]):cf p q=1:=by
 have go:∀{x y:Int},y≠0->low _=[p,q]->cf p q=1:=λ{x y} hy e=>by
  rw[uV (kD x y) hy,sU]at e;have gp:=vF (kD x y) hy;rw[sU]at gp;have e1:x/(cf x y:Nat)=p:=by injection e
  have e2:y/(cf x y:Int)=q:=by
   simp_all
  rw[<-e1,<-e2,Int.gcd_ediv (wu ..) (wv ..)]
  simp_all
 unfold fr at e;split at e
 .exact go (by omega) e
 .exact go h e
theorem aaS  (hk:0<k)(hm:0<m){A B:AY}(hA:gl A 0≠0)(e:A.map (k*·)=B.map (m*·)):low A=low B:=by
 have hB:gl B 0≠0:=λz=>by
  have h:=xQ k A;rw[e,xQ m B,z,jw]at h;have:k.natAbs*gl A 0≠0:=da (by omega) hA;exact this h.symm
 rw[<-uJ hk A hA,e,uJ hm B hB]
theorem Uv(b:Int):∀(ns:AY)(g:Int),gl ns (cf g b:Nat)=(cf (gl ns g) b:Nat)
 |[],_=>rfl
 |n::r,g=>by
  show gl r _=cf (gl r _) b;rw[<-Uv b r,Int.gcd_assoc,Int.gcd_comm b n,<-Int.gcd_assoc]
theorem Vd  {b:Int}(hb:0<b):gl (ns++[b]) 0=gl ns b:=by
 rw[Jt,<-Uv,ww];grind
theorem mV(ns:AY)(b:Int):b∈ns++[b]:=dm _ bo
theorem adW  {b:Int}(hb:0<b):low (ns++[b])=(ns.map λn=>n.fdiv (gl ns b))++[b.fdiv (gl ns b)]/\0<gl ns b:=by
 have gp:=vF (mV ns b) (by omega);rw[Vd hb]at gp;refine⟨?_,gp⟩;rw[uV (mV _ b) (by omega),Vd hb,du];have e:=λn=>(Int.fdiv_eq_ediv_of_nonneg n (qz gp)).symm
 simp_all
theorem yV(ns:AY){b:Int}(hb:0<b):∃(zs:AY)(z g:Int),low (ns++[b])=zs++[z]/\0<g/\0<z/\ns=zs.map (g*·)/\b=g*z/\zs.length=ns.length:=by
 obtain⟨e,gp⟩:=adW (ns:=ns) hb;have dv:=jY (ns++[b]) 0;rw[Vd hb]at dv;have ex:∀n∈ns++[b],gl _ b*n.fdiv _=n:=λn hn=>by
  obtain⟨q,e⟩:=dv.2 n hn
  conv=>lhs;rhs;rw[e]
  rw[pS (by omega)];exact e.symm
 refine⟨_,_,gl _ b,e,gp,?_,?_,(ex b (mV _ b)).symm,ak _⟩
 .have h:=ex b (mV _ b)
  have:0<b.fdiv (gl ns b)*gl ns b:=by rw[dg,h];exact hb
  exact wx this gp
 .rw[dr]
  conv=>lhs;rw[<-List.map_id ns]
  refine gf λn hn=>?_
  simp_all
theorem Fe(ns:AY){b:Int}(hb:0<b):low (low (ns++[b]))=low (ns++[b]):=by
 obtain⟨zs,z,g,e,hg,hz,e1,e2,_⟩:=yV _ hb;rw[e];refine aaS  (m:=1) hg (by decide) (sZ (mV _ z) (by omega)) ?_ |>.trans e
 simp_all
def sm(xs:AY)(w:Int)(ys:AY)(v:Int):AY:=cg (λx y=>x*v+y*w) xs ys
theorem Zx  {f g:Int->Int->Int}(h:∀x y,f x y=g x y):cg f xs ys=cg g xs ys:=by
 have:=funext λx=>funext λy=>h x y;rw[this]
theorem J1(xs:AY)(w:Int)(ys:AY)(v:Int):cg (λx y=>1*x*v+y*w) xs ys=sm xs w ys v:=Zx λx y=>by simp_all
theorem E5(xs:AY)(w:Int)(ys:AY)(v:Int):cg (λy x=>-1*y*w+x*v) ys xs=sm xs w (ys.map (- ·)) v:=by
 unfold sm;rw[List.zipWith_map_right,List.zipWith_comm];refine Zx λx y=>?_;rw[jv,ij];exact Int.add_comm _ _
end Bn
namespace L2
open PySem PySem.Spec PyProof.Rows Bn
section
variable{X:Cx}
theorem Xq   (h:Bd k i):c7 i<=k:=by
 unfold c7;split
 .simp_all
 .have z:i.natAbs≠0:=by
   grind
  have:=(Nat.log2_lt z).mpr h<;>grind
def vI(_ j:Int):Prop:=j≠0/\Bd 8000 j
theorem aal:dM X (binaryOp .FloorDiv) (rI vI λi j=>.int (i.fdiv j)):=
 Va λ_ _ _ _ _ _ _ hc q=>floordiv_int hc.1 q (.inl (PyProof.noPylong_of_log2 (wy (hc.2.log (by decide)) (by decide))))
theorem PS.imp{st:Stmt}{t t':TS}(h:PS X st t)(i:∀D σ H,t' D σ H->t D σ H):PS X st t':=λBJ s σ H D I q=>h _ s _ H D I (i D _ H q)
theorem gG.imp{st:List Stmt}{t t':TS}(h:gG X st t)(i:∀D σ H,t' D σ H->t D σ H):gG X st t':=λBJ s σ H D I q=>h _ s _ H D I (i D _ H q)
theorem PE.imp   (h:PE X e t)(i:∀σ H Q,t' σ H Q->t σ H Q):PE X e t':=λBJ s σ H Q I q=>h _ s _ H Q I (i _ H Q q)
theorem PT.imp   (h:PT X e t)(i:∀σ H Q,t' σ H Q->t σ H Q):PT X e t':=λBJ s σ H Q I q=>h _ s _ H Q I (i _ H Q q)
theorem aI.turnedNew  {σ:St}{H:Hp}{s:aa}{h':Heap}{t':Nat}{ch:List Addr}{a:Addr}{o:HO}(I:aI X BJ σ H s)(hf:∀b∈ch,fZ X BJ H b)
  (k:∀b u,b∉ch->s.heap.get? b=some u->h'.get? b=some u)(hp:s.heap.objs.size<=a)(new:fQ X.prog X.w (aT H a o) h' a o):
  aI X BJ σ (aT H a o) {s with heap:=h',toks:=t'}:=by
 have hn:=I.hok.fresh hp;have nch:∀b u,H b=some u->b∉ch:=λb u e z=>by
  rw[(hf b z).1]at e;cases e
 have nea:∀b u,H b=some u->b≠a:=λb u e=>gH e hn;refine I.step    (λb hb=>?_) (λb u _ _ hc e _=>k b u hc e) (λb u _ _ hc e _=>⟨u.slots,k b u hc e⟩) (λb u _ e n=>?_)
  (λb u hc e=>⟨u,k b u hc e⟩) (λb xs e=>?_) (λb u v e=>?_) (λb ps e=>⟨#[],?_⟩) (λm hm=>?_) (λb u e=>?_) I.bare
 .obtain⟨_,f1,_,f3,f4,f5⟩:=hf b hb
  exact⟨f3,f1,f4,f5⟩
 .rw[bQ (cw (de (ax e) hp))]
  exact n
 .rw[bQ (nea b _ e)]
  exact e
 .rw[bQ (nea b _ e)]
  exact e
 .rw[bQ (nea b _ e),e]
  simp
 .obtain⟨ob,es,ep,ho,r⟩:=hm
  exact⟨ob,es,ep,k _ ob (λz=>(hf _ z).2.1 rfl) ho,r⟩
 .by_cases hb:b=a
  .subst hb
   rw[fP]at e;cases e;exact new
  .rw[bQ hb]at e
   refine(I.hok b u e).stay (λc v hc q=>k c v ?_ q) (λc q=>?_) λc xs q=>?_
   .rcases hc with z |z
    .rw[z]
     exact nch b u e
    .exact nch c _ z
   .rw[bQ (nea c _ q)]
    exact q
   .rw[bQ (nea c _ q)]
    exact q
theorem aI.turnedL  {σ:St}{H:Hp}{s:aa}{h':Heap}{t':Nat}{ch:List Addr}(I:aI X BJ σ H s)(hf:∀b∈ch,fZ X BJ H b)
  (k:∀b u,b∉ch->s.heap.get? b=some u->h'.get? b=some u):aI X BJ σ H {s with heap:=h',toks:=t'}:=by
 have nch:∀b u,H b=some u->b∉ch:=λb u e z=>by
  rw[(hf b z).1]at e<;>grind
 refine I.step    (λb hb=>?_) (λb u _ _ hc e _=>k b u hc e) (λb u _ _ hc e _=>⟨u.slots,k b u hc e⟩) (λb u _ e n=>n)
  (λb u hc e=>⟨u,k b u hc e⟩) (λb xs e=>e) (λb u v e=>e) (λb ps e=>⟨#[],?_⟩) (λm hm=>?_) (λb u e=>?_) I.bare
 .obtain⟨_,f1,_,f3,f4,f5⟩:=hf b hb
  exact⟨f3,f1,f4,f5⟩
 .simp_all
 .obtain⟨ob,es,ep,ho,r⟩:=hm
  exact⟨ob,es,ep,k _ _ (λz=>(hf _ z).2.1 rfl) ho,r⟩
 .refine(I.hok b u e).stay (λc v hc q=>k c v ?_ q) (λc q=>q) λc xs q=>q
  rcases hc with z |z
  .rw[z]
   exact nch b u e
  .exact nch c _ z
end
def Ji (K : ae) (a : Addr) : It :=
  ⟨λi H => ∃ xs x, bO K H a xs ∧ xs[i]? = some x,
   λi H x H' => ∃ p y, H p = none ∧ x = .ref p ∧ H' = aT H p (.tup [.int i, y]) ∧ ∀ xs, bO K H a xs → xs[i]? = some y,
   λi H => ∃ xs, bO K H a xs ∧ xs.length ≤ i⟩
theorem P7{P:Program}{w:am}{K:ae}{elts:List ah}{x1:Nat}{tp:ai}(a e it:Addr)(hne:e≠it):
  tK P w K (.Tuple elts x1 tp) (Ji K a) [e,it] e (λi h=>(∃old,IsEnum h e it (i:Int) old)/\h.IsListIter it a i) where
 mem:=by simp
 obj:=λi h st b hb=>by
  obtain⟨⟨old,q⟩,o,e1,c,d⟩:=st;rcases bj.mp hb with z |z
  .subst z
   exact⟨_,q,λv z=>nomatch z⟩
  .have z':b=it:=by simpa using z
   subst z';exact⟨o,e1,λv z=>by rw[d]at z;cases z⟩
 keep:=λi h h' st k=>⟨let⟨old,q⟩:=st.1;⟨old,k e (by simp) _ q⟩,st.2.at λo q=>k it (by simp) o q⟩
 item:=by
  intro X hP hw hK hc i BJ s σ H E I hf st hg;subst hP hw hK;obtain⟨xs,x,hq,hx⟩:=hg;obtain⟨its,rv,pl,hz⟩:=I.list hq;obtain⟨u,hu,ru⟩:=rv.get hx;obtain⟨⟨old,he⟩,hit⟩:=st;refine wpAny_pyNext_enum_item he hit pl.isList (x:=u) (by simpa using hu) hne λh1 ho1 hit1 ht1 hs1 hk1=>⟨_,rfl,?_⟩;have lt1:e<s.heap.objs.size:=ax he;refine wpAny_letOwnedTupleGo_enum  ho1 λh2 he2 sb2=>?_;have ht2:=(sb2.2 _ (lc lt1)).trans ht1;have I2:aI X BJ σ (aT H s.heap.objs.size (.tup [.int i,x])) {s with heap:=h2,toks:=s.toks+1}:=
   I.turnedNew hf (λb o hb q=>(sb2.2 b (λz=>hb (by simp[z]))).trans (hk1 b o (λz=>hb (by simp[z])) (λz=>hb (by simp[z])) q)) (al _)
    ⟨⟨by show 2<=sizeLine;decide,_,ht2,rfl⟩,[.int i s.toks,u],.cons ⟨_,rfl⟩ (.cons ru .nil),⟨_,ht2,rfl,_,rfl⟩⟩
  refine⟨.ref s.heap.objs.size,_,I2,rfl,⟨_,x,I.hok.fresh (al _),rfl,rfl,λys hy=>by rw[I.list_inj hy hq];exact hx⟩,⟨⟨_,by simpa using he2⟩,hit1.at λo q=>(sb2.2 it hne.symm).trans q⟩,λb hb=>?_⟩;have hb':=(hf b hb).1;have lt:b≠s.heap.objs.size:=by
   rcases bj.mp hb with z |z
   .subst z
    exact cw lt1
   .have z':b=it:=by simpa using z
    subst z';obtain⟨o,q,_⟩:=hit;exact cw (ax q)
  rw[bQ lt];exact hb'
 done:=by
  intro X hP hw hK hc i BJ s σ H E I hf st hg;subst hP hw hK;obtain⟨xs,hq,hx⟩:=hg;obtain⟨its,rv,pl,hz⟩:=I.list hq;obtain⟨⟨old,he⟩,hit⟩:=st;have hl:=rv.length;exact wpAny_pyNext_enum_end (I.ok.hd hc) he hit pl.isList (by simp;omega) λh' eb=>⟨rfl,I.turnedL (t':=s.toks) hf λb o hb q=>eb b o (λz=>hb (by simp[z])) q⟩
 self:=λ_ _ _ _ _ st h=>let⟨_,q⟩:=st.1;wpAny_pyIter_enum q h
section
variable{X:Cx}{elts:List ah}{x1:Nat}{tp:ai}
def ae2(K:ae)(tl:TA):TI:=λσ H R=>tl σ H λvs H1=>∃a,vs=[.ref a]/\(∃xs,bO K H1 a xs)/\R (Ji K a) H1
theorem acd   {p pos:ai}(hg:Gl X "enumerate")(hm:X.mg "enumerate"=none)(hl:PA X [l] tl)(hs:starEach [l] X.env=[(false,eval l X.env)]:=by rfl):
  PI X (.Tuple elts x1 tp) (.Call (.Name "enumerate" p) [l] [] pos) (ae2 X.K tl):=by
 intro BJ s σ H R I h;refine Call_ (qH I hg hm boot_enumerate (ox (bA (hl pos BJ s σ H _ I h) λus s1 hq=>?_) hs rfl));rcases hq with⟨vs,H1,I1,r1,q1⟩;obtain⟨a,rfl,⟨xs,hq⟩,q⟩:=q1;obtain⟨u,rfl,ru⟩:=jC r1;cases ru;obtain⟨its,rv,pl,hz⟩:=I1.list hq;refine call_enumerate_list pl.isList λh' he hit hsz k=>?_;have I2:=I1.kept (t':=s1.toks) k;refine wpAny_pyIter_enum  he ?_;refine⟨s1.heap.objs.size+1,[s1.heap.objs.size+1,s1.heap.objs.size],_,_,H1,rfl,I2,P7 a _ _ (Nat.succ_ne_self _),⟨⟨_,he⟩,hit⟩,λb hb=>?_,q⟩;have hb':s1.heap.objs.size<=b:=by
  rcases bj.mp hb with z |z
  .rw[z]
   exact mj _
  .have z':=by simpa using z
   rw[z'];exact al _
 exact I1.fpOk hb' (I1.hok.fresh hb')
end
def iG(env:bi):List (Str×fz)->List (Str×Addr)->List (Str×Addr)
 |[],acc=>acc
 |p::r,acc=>if(p.2== .free)=true then iG env r ((p.1,(env.cells.lookup p.1).getD 0)::acc)else iG env r acc
theorem Ot   (h:∀p∈sc.names,p.2=.free->∃c,env.cells.lookup p.1=some c):closureFor sc env=pure (iG env sc.names []):=by
 unfold closureFor;have go:∀l acc,(∀p∈l,p.2=.free->∃c,env.cells.lookup p.1=some c)->
   (forIn l acc (λx r=>if(x.2==ik)=true then do let a <-cellOf env x.1;pure (wz ((x.1,a)::r))else pure (wz r)):Sem _)=pure (iG env l acc):=by
  intro l
  induction l with
  |nil=>intro acc _;rfl
  |cons p r ih=>
   intro acc hp;rw[re];have hr:=λacc'=>ih acc' λq hq=>hp q (bd _ hq)
   by_cases c:(p.2==ik)=true
   .obtain⟨a,ea⟩:=hp p bo (by simpa using c)
    have e1:cellOf env p.1=pure a:=by unfold cellOf;rw[ea]
    rw[if_pos c,e1];simp only[pure_bind];rw[hr];show _=pure (if(p.2== .free)=true then _ else _);rw[if_pos c,ea];rfl
   .rw[if_neg c]
    simp only[pure_bind];rw[hr];show _=pure (if(p.2== .free)=true then _ else _);rw[if_neg c]
 have e:=go sc.names [] h;rw[bind_pure];exact e
theorem wL:∀(l:List (Str×fz))(acc:List (Str×Addr)),(∀p∈l,p.2=.free->∃c,env.cells.lookup p.1=some c)->
  ∀y c,(iG env l acc).lookup y=some c->acc.lookup y=some c\/env.cells.lookup y=some c
 |[],acc,_,y,c,e=>.inl e
 |p::r,acc,h,y,c,e=>by
  have hr:=λq hq=>h q (bd _ hq);unfold iG at e
  by_cases k:(p.2==ik)=true
  .rw[if_pos k]at e
   obtain⟨a,ea⟩:=h p bo (by simpa using k);rcases wL r _ hr y c e with z |z
   .rw[fw]at z
    cases w:y==p.1<;>simp_all
   .exact .inr z
  .rw[if_neg k]at e
   exact wL r _ hr y c e
theorem rO:∀(l:List (Str×fz))(acc:List (Str×Addr))(y:Str),((∃c,acc.lookup y=some c)\/(y,ik)∈l)->∃c,(iG env l acc).lookup y=some c
 |[],acc,y,h=>by
  rcases h with h |h
  .exact h
  .cases h
 |p::r,acc,y,h=>by
  unfold iG
  by_cases k:(p.2==ik)=true
  .rw[if_pos k]
   refine rO r _ y ?_;cases w:y==p.1 with
   |true=>exact .inl ⟨_,by rw[fw,w]⟩
   |false=>
    rcases h with⟨c,h⟩|h
    .exact .inl ⟨c,by rw[fw,w];exact h⟩
    .rcases bj.mp h with z |z
     .rw[<-z]at w
      simp at w
     .exact .inr z
  .rw[if_neg k]
   refine rO r _ y ?_;rcases h with h |h
   .exact .inl h
   .rcases bj.mp h with z |z
    .rw[<-z]at k
     simp at k
    .exact .inr z
theorem Tj{env:bi}:∀{names:List (Str×fz)}{x:Str},(∀y∈names,y.2≠.cell)->
  (let l:=(names.map λ(n,k)=>if(k==ik&&env.scope.kind== .function&&env.kindOf n==some .cell)then(n,gh)else(n,k)).lookup x;l=some .cell\/l=some .free)->(x,ik)∈names
 |[],x,_,h=>by
  rcases h with h |h<;>cases h
 |(n,k)::r,x,hc,h=>by
  dsimp only at h;rw[ao]at h;have ih:=@Tj env r x λy hy=>hc y (bd _ hy);have nk:=hc (n,k) bo
  by_cases c:(k==ik&&env.scope.kind== .function&&env.kindOf n==some .cell)=true
  .have kf:k=.free:=by
    simp only[ja,beq_iff_eq]at c;exact c.1.1
   rw[if_pos c,fw]at h;cases w:x==n with
   |true=>
    have hx:x=n:=by simpa using w
    rw[hx,<-kf];exact bo
   |false=>
    rw[w]at h;exact bd _ (ih h)
  .rw[if_neg c,fw]at h
   cases w:x==n with
   |true=>
    simp_all
   |false=>
    rw[w]at h;exact bd _ (ih h)
def iR(X:Cx)(sc:Scope)(N:List Str)(C:Addr)(BK:aa)(BM:Hp)(ex:List Addr):Cx where
 prog:=X.prog
 w:=X.w
 K:=X.K
 mg:=X.mg
 base:=X.base
 A:=X.A
 N:=N
 BK:=BK
 BM:=BM
 env:=compEnvC sc (iG X.env sc.names []) C X.env
 outer:=X.stack
 stack:=X.stack
 ex:=ex
 fn:=λ_=>false
 calm:=X.calm
 pn:=[]
 xe:=λ_ _=>False
def kN(own:List Str)(cap:List (Nat×Str))(σ:St):St:=own.map (λ_=>none)++cap.map λp=>(σ[p.1]?).join
def dE(own:List Str)(cap:List (Nat×Str)):List Str:=own++cap.map (·.2)
def Ca(J:It)(g:TG)(te:TE)(BO:St)(H1:Hp)(D:Addr)(Q:VK):Prop:=
 ∃W:Nat->Nat->St->Hp->List V->Prop,(∃m,W 0 m BO (aT H1 D (.lst [])) [])/\∀i m σ H ys,W i m σ H ys->H D=some (.lst ys)/\
  ((J.stop i H/\Q (.ref D) H)\/(J.go i H/\ys.length<sizeLine/\∀x H2,J.yld i H x H2->g x σ H2 λσ3 H3=>te σ3 H3 λy H4=>H4 D=some (.lst ys)/\∃m',m'<m/\W (i+1) m' σ3 (aT H4 D (.lst (ys++[y]))) (ys++[y])))
def vL(own:List Str)(cap:List (Nat×Str))(wi:TI)(g:TG)(te:TE):TE:=λσ H Q=>wi σ H λJ H1=>∀D,H1 D=none->Ca J g te (kN own cap σ) H1 D Q
def Nx(n:Nat)(Pv:Nat->St->Hp->List V->Prop)(D:Addr)(i:Nat)(ys:List V)(σ:St)(y:V)(H:Hp):Prop:=
 H D=some (.lst ys)/\∃m,m<n-i/\(m=n-(i+1)/\i+1<=n/\Pv (i+1) σ (aT H D (.lst (ys++[y]))) (ys++[y]))
theorem aeT   {D:Addr}{i:Nat}{ys:List V}{σ:St}{y:V}{H:Hp}(h:i<n)(hD:H D=some (.lst ys))(p:Pv (i+1) σ (aT H D (.lst (ys++[y]))) (ys++[y])):Nx n Pv D i ys σ y H:=
 ⟨hD,n-(i+1),by omega,rfl,h,p⟩
theorem abW  {g:TG}{te:TE}{BO:St}{H1:Hp}{D:Addr}{Q:VK}(n:Nat)(hn:n<=sizeLine)(Pv:Nat->St->Hp->List V->Prop)(h0:Pv 0 BO (aT H1 D (.lst [])) [])
  (hl:∀i σ H ys,Pv i σ H ys->ys.length=i/\H D=some (.lst ys))(hgo:∀i σ H ys,i<n->Pv i σ H ys->J.go i H)
  (hs:∀i σ H ys x H2,i<n->Pv i σ H ys->J.yld i H x H2->g x σ H2 λσ3 H3=>te σ3 H3 λy H4=>Nx n Pv D i ys σ3 y H4)
  (hd:∀σ H ys,Pv n σ H ys->J.stop n H/\Q (.ref D) H):Ca J g te BO H1 D Q:=by
 refine⟨λi m σ H ys=>m=n-i/\i<=n/\Pv i σ H ys,⟨n,rfl,iu _,h0⟩,?_⟩
 rintro i m σ H ys ⟨rfl,hi,p⟩
 obtain⟨l1,l2⟩:=hl i _ H _ p;refine⟨l2,?_⟩
 by_cases hlt:i<n
 .exact .inr ⟨hgo i _ H _ hlt p,by omega,λx H2 y=>hs i _ H _ x _ hlt p y⟩
 .grind
section
variable{prog:Program}{w:am}{A:aq}{R:oz->aa->Prop}{s:aa}
theorem Cm{elt target iter:ah}{sc:Scope}{pos:ai}{it acc:Value}{env:bi}(I:Nat->aa->Prop)
  (turn:∀n s,I n s->wpAny (model prog w) A (pyNext it) (λr s1=>match r with
   |none=>R (.ok .next) s1
   |some v=>wpAny (model prog w) A (letOwnedTupleGo target it v) (λ_ s2=>wpAny (model prog w) A (assign target env v) (λ_ s3=>wpAny (model prog w) A (eval elt env)
     (λx s4=>wpAny (model prog w) A (call (.builtin "list.append") [acc,x]) (λ_ s5=>∃m,m<n/\I m s5) (λ_ _=>False) s4) (λ_ _=>False) s3) (λ_ _=>False) s2) (λ_ _=>False) s1) (λ_ _=>False) s)
  (n:Nat)(h:I n s):codeAny (model prog w) A (.compLoop (.ListComp elt [⟨target,iter,[],0⟩] sc pos) 0 it acc env) R s:=by
 refine codeAny_loop rfl I (λn s hI=>?_) n h;refine wpAny_noted ?_;rw[compTurn_list1];refine ag (qo (ag ?_));refine je (turn n s hI) (λr s1 h1=>?_) λ_ _ z=>z.elim;cases r with
 |none=>exact au h1
 |some v=>
  refine ag (je h1 (λ_ s2 h2=>?_) λ_ _ z=>z.elim);refine ag (je h2 (λ_ s3 h3=>?_) λ_ _ z=>z.elim);refine ag (ag (je h3 (λx s4 h4=>?_) λ_ _ z=>z.elim));refine ag (je h4 (λ_ s5 h5=>?_) λ_ _ z=>z.elim);exact au (au ⟨rfl,h5⟩)
end
structure jB(X:Cx)(sc:Scope)(own:List Str)(cap:List (Nat×Str)):Prop where
 kind:sc.kind=.function
 names:∀y∈sc.names,y.2=.local->sc.names.lookup y.1=some .local
 nocell:∀y∈sc.names,y.2≠.cell
 free:∀y∈sc.names,y.2=.free->X.env.kindOf y.1=some .cell
 at':∀p∈cap,X.N[p.1]?=some p.2
 cap:∀p∈cap,sc.names.lookup p.2=some .free
section
variable{X:Cx}{sc:Scope}{own:List Str}{cap:List (Nat×Str)}{BJ:List (Addr×Obj)}{σ:St}{H:Hp}{s:aa}
theorem jB.has(k:jB X sc own cap)(ok:X.Ok):∀p∈sc.names,p.2=.free->∃c,X.env.cells.lookup p.1=some c:=λp hp e=>ok.has _ (.inl (k.free p hp e))
theorem uG{env:bi}:∀{names:List (Str×fz)}{x:Str},env.scope.kind=.function->names.lookup x=some .free->env.kindOf x=some .cell->
  (names.map λ(n,k)=>if(k==ik&&env.scope.kind== .function&&env.kindOf n==some .cell)then(n,gh)else(n,k)).lookup x=some .cell
 |[],x,_,h,_=>by cases h
 |(n,k)::r,x,hk,h,hx=>by
  rw[ao];dsimp only;rw[fw]at h;cases w:x==n with
  |true=>
   rw[w]at h;have e:=by simpa using w
   simp_all
  |false=>
   rw[w]at h;have ih:=@uG env r x hk h hx
   by_cases c:(k==ik&&env.scope.kind== .function&&env.kindOf n==some .cell)=true
   .rw[if_pos c,fw,w]
    exact ih
   .rw[if_neg c,fw,w]
    exact ih
theorem aI.cmp(k:jB X sc own cap){h4:Heap}{fp:List Addr}{m:Str->BC}{t':Nat}(I:aI X BJ σ H s)(hf:∀b∈fp,fZ X BJ H b)(hlt:∀b∈fp,b<s.heap.objs.size)(hns:h4.Ns s.heap.objs.size m)
  (kp:∀b o,s.heap.get? b=some o->h4.get? b=some o):aI (iR X sc (dE own cap) s.heap.objs.size s H fp) [] (kN own cap σ) H {s with heap:=h4,toks:=t'}:=by
 have hcl:∀y c,(iG _ _ []).lookup y=some c->X.env.cells.lookup y=some c:=λy c e=>by
  rcases wL _ [] (k.has I.ok) y c e with z |z
  .cases z
  .exact z
 have nst:∀b∈fp,b∉fF _:=λb hb z=>by
  rcases bj.mp (I.stkSub b z)with e |e
  .exact(hf b hb).2.1 e
  .exact(hf b hb).2.2.1 e
 refine⟨⟨I.ok.mod,k.kind,I.ok.glob,I.ok.blt,al _,λx y c h1 h2=>I.ok.inj x y c (hcl x c h1) (hcl y c h2),λx hx=>?_,λx c e=>(nomatch e),I.ok.hd,I.ok.frames,.inl rfl,λb hb=>⟨cw (hlt b hb),λx c e=>(hf b hb).2.2.2.2.1 x c (hcl x c e)⟩,
  I.bs,fh I.ok.bsz I.sz,λb o e hb=>?_,nst,I.stack,I.stkFree⟩,rfl,I.bare,Un.kept kp,⟨m,hns,λi x v h1 h2 h3=>?_⟩,λx c e=>?_,I.hok.fresh (al _),λx c e=>I.freeC x c (hcl x c e),λp hp=>absurd (show p∈[] from hp) (by simp),I.hok.kept kp,?_⟩
 .exact rO _ [] x (.inr (Tj k.nocell hx))
 .rcases(hf b hb).2.2.2.1 with z |z
  .exact I.ok.noex b o e z
  .exact absurd (de (ax (I.ok.bs b o e).1) z) (ix _)
 .have hN:(dE _ _)[i]?=some x:=h1
  unfold dE at hN;unfold kN at h2
  by_cases hi:i<own.length
  .rw[fu (by simpa using hi),az]at h2
   cases e:own[i]?<;>simp_all
  .rw[dq (by simpa using hi),az,ak]at h2
   rw[dq (by omega),az]at hN;cases e:cap[i-own.length]? with
   |none=>simp_all
   |some p=>
    rw[e]at h2 hN;have hp:=cq e;have hx:=cx hN;have hv:(σ[p.1]?).join=some v:=cx h2;have hv':σ[p.1]?=some (some v):=by
     cases e2:σ[p.1]?<;>simp_all
    have fr:=k.cap p hp;have kc:=k.free _ (jf fr) rfl;obtain⟨m0,_,hl⟩:=I.loc;obtain⟨u,ru,lk⟩:=hl p.1 p.2 v (k.at' p hp) hv' (.inr (.inl kc));refine⟨u,ru,?_⟩;rcases lk with⟨k1,_⟩|⟨_,c,ec,cell⟩
    .simp_all
    .rw[<-hx]
     obtain⟨c',ec'⟩:=rO  _ [] p.2 (.inr (jf fr));have:=(hcl _ _ ec').symm.trans ec;cases this;obtain⟨o,ho,hd⟩:=cell;exact .inr ⟨.inl (uG I.ok.kind fr kc),c,ec',o,kp c o ho,hd⟩
 .obtain⟨v,o,ho,hd⟩:=I.cell x c (hcl x c e)
  exact⟨v,o,kp c o ho,hd⟩
 .unfold kN
  show _=(dE _ _).length;unfold dE
  simp_all
theorem aI.uncmp  {H3 H':Hp}{N:List Str}{σ':St}{C:Addr}{fp:List Addr}{pl:List (Addr×Obj)}(I:aI X BJ σ H s)(hf:∀b∈fp,fZ X BJ H b)(u:Un (fF X.stack) fp H H3 s.heap s3.heap)(os:s3.os=s.os)
  (J:aI (iR X sc N C s3 H3 fp) pl σ' H' s'):aI X BJ σ H' s':=by
 have os':=(show s'.os=s3.os from J.os).trans os;refine I.call'  os' (u.trans J.base) J.hok J.bare λb hb=>?_;obtain⟨_,f1,_,f3,f4,f5⟩:=hf b hb;exact⟨f3,f1,f4,f5⟩
end
section
variable{X:Cx}{sc:Scope}{own:List Str}{cap:List (Nat×Str)}{BJ:List (Addr×Obj)}{σ:St}{H:Hp}{s:aa}{elt target iter:ah}{pos pos':ai}{wi:TI}{g:TG}{te:TE}{Q:VK}
theorem Jm{use:Option (Value->Sem Unit)}{Qf:Value->aa->Prop}(k:jB X sc own cap)(hi:PI X target iter wi)(hc:X.calm=true)
  (hg:∀C BK BM ex,PG (iR X sc (dE own cap) C BK BM ex) target g)(he:∀C BK BM ex,PE (iR X sc (dE own cap) C BK BM ex) elt te)(I:aI X BJ σ H s)(h:vL own cap wi g te σ H Q)
  (fin:∀D C s' H' m,aI X BJ σ H' s'->fZ X BJ H' C->s'.heap.Ns C m->Q (.ref D) H'->compPost (model X.prog X.w) X.A X.xe use Qf (.ref D) C (.ok .next) s')
  (hs:∀x,foldedSetIterable iter X.env x=pure x):
  wpAny (model X.prog X.w) X.A (comprehension (.ListComp elt [⟨target,iter,[],0⟩] sc pos) sc X.env pos' (newList []) false (eval iter X.env) use) Qf X.xe s:=by
 refine c8 (use:=use) rfl hs (Ot (k.has I.ok)) k.kind k.names ?_;refine bA (hi BJ s σ H _ I h) λv s1 h1=>bA h1 λitv s2 h2=>?_;obtain⟨it,fp,tn,J,H2,e,I2,T,st2,f2,hW⟩:=h2;subst e;refine ka (wpAny_newFunctionEnv k.nocell (λy hy=>nomatch hy) (λh4 hns hsb=>?_) k.kind);have I3:aI X BJ σ (aT H2 s2.heap.objs.size (.lst [])) {s2 with heap:=s2.heap.push {cls:=.type "list",data:=.seq ([]:BB).toArray},toks:=s2.toks}:=I2.lnew (ys:=[]) (its:=[]) .nil (iu _);have hD:H2 s2.heap.objs.size=none:=I2.fresh;have ltf:∀b∈fp,b<s2.heap.objs.size:=λb hb=>by
  obtain⟨o,ho,_⟩:=T.obj _ _ st2 b hb;exact ax ho
 have f3:∀b∈fp,fZ X BJ (aT H2 s2.heap.objs.size (.lst [])) b:=λb hb=>⟨by rw[bQ (cw (ltf b hb))];exact(f2 b hb).1,(f2 b hb).2⟩;have un:Un (fF X.stack) fp H2 (aT H2 s2.heap.objs.size (.lst [])) s2.heap (s2.heap.push {cls:=.type "list",data:=.seq ([]:BB).toArray}):=Un.laid (λb u q=>ar _ q) (al _) hD;have kp:=λb o q=>hsb.extBut b o (cw (ax q)) (ar _ q);have J0:=I3.cmp (t':=s2.toks+([]:List (Str×Value)).length) k f3 (λb hb=>de (ltf b hb) (by rw[jb];exact mj _)) hns kp;have stat:∀{H':Hp},(∀b∈fp,H' b=none)->∀b∈fp,fZ _ [] H' b:=λhn b hb=>
  ⟨hn b hb,(J0.ok.exf b hb).1,J0.ok.exfs b hb,.inl hb,(J0.ok.exf b hb).2,λp hp=>absurd (show p∈([]:List (Addr×Obj)) from hp) (by simp)⟩
 have st4:tn 0 h4:=T.keep _ _ _ st2 λb hb o q=>kp b o (ar _ q);have fr0:∀b∈fp,(aT H2 s2.heap.objs.size (.lst [])) b=none:=λb hb=>(f3 b hb).1;have loop:codeAny (model X.prog X.w) X.A (.compLoop (.ListComp elt [⟨target,iter,[],0⟩] sc pos) 0 (.ref it) (.ref s2.heap.objs.size) (compEnvC sc (iG X.env sc.names []) (s2.heap.push {cls:=.type "list",data:=.seq ([]:BB).toArray}).objs.size X.env))
   (compPost (model X.prog X.w) X.A X.xe use Qf (.ref s2.heap.objs.size) (s2.heap.push {cls:=.type "list",data:=.seq ([]:BB).toArray}).objs.size) {s2 with heap:=h4,toks:=s2.toks+([]:List (Str×Value)).length}:=by
  obtain⟨W,⟨m0,w0⟩,turn⟩:=hW s2.heap.objs.size hD;refine Cm (λn s'=>∃i σ' H' ys,aI _ [] σ' H' s'/\tn i s'.heap/\(∀b∈fp,H' b=none)/\W i n σ' H' ys) ?_ m0
   ⟨0,_,_,[],J0,st4,fr0,w0⟩
  rintro n s5 ⟨i,σ5,H5,ys,I5,st5,fr5,w5⟩
  obtain⟨hD5,w5⟩:=turn i n σ5 H5 ys w5;rcases w5 with⟨stop,qn⟩|⟨go,hlt,step⟩
  .refine bA (T.done (iR X sc (dE own cap) (s2.heap.push {cls:=.type "list",data:=.seq ([]:BB).toArray}).objs.size {s2 with heap:=s2.heap.push {cls:=.type "list",data:=.seq ([]:BB).toArray},toks:=s2.toks} (aT H2 s2.heap.objs.size (.lst [])) fp) rfl rfl rfl hc i [] s5 σ5 H5 _ I5 (stat fr5) st5 stop) ?_
   rintro r s6 ⟨hr,I6⟩
   subst hr;obtain⟨m,hn,_⟩:=id I6.loc;exact fin _ _ s6 H5 m (I2.uncmp (s3:={s2 with heap:=s2.heap.push {cls:=.type "list",data:=.seq ([]:BB).toArray},toks:=s2.toks}) f2 un rfl I6) (I3.fpOk (al _) I6.free) hn qn
  .refine bA (T.item (iR X sc (dE own cap) (s2.heap.push {cls:=.type "list",data:=.seq ([]:BB).toArray}).objs.size {s2 with heap:=s2.heap.push {cls:=.type "list",data:=.seq ([]:BB).toArray},toks:=s2.toks} (aT H2 s2.heap.objs.size (.lst [])) fp) rfl rfl rfl hc i [] s5 σ5 H5 _ I5 (stat fr5) st5 go) ?_
   rintro r s6 ⟨u,hr,h6⟩
   subst hr;refine bA h6 ?_
   rintro _ s7 ⟨x,H7,I7,r7,y7,st7,fr7⟩
   have I7':=I7.pinned (stat fr7) (T.obj _ _ st7);refine bA (hg _ _ _ _ _ s7 σ5 H7 x u _ I7' r7 (step x H7 y7)) ?_
   rintro _ s8 ⟨σ8,H8,I8,q8⟩
   refine bA (he _ _ _ _ _ s8 σ8 H8 _ I8 q8) ?_
   rintro v9 s9 ⟨y,H9,I9,r9,hD9,m',hm,w9⟩
   refine bA (wW _ s9 σ8 H9 (.ref s2.heap.objs.size) [y] (.ref s2.heap.objs.size) [v9] (λ_ H'=>H'=aT H9 s2.heap.objs.size (.lst (ys++[y]))) I9 rfl (.cons r9 .nil) ⟨_,ys,y,rfl,rfl,hD9,hlt,rfl⟩) ?_
   rintro _ s10 ⟨_,H10,I10,_,q10⟩
   subst q10;refine⟨m',hm,i+1,σ8,_,_,I10.unpinned,T.keep _ _ _ st7 λb hb o q=>(I10.pin (b,o) (dm _ (dm _ (rM hb q)))).1,λb hb=>?_,w9⟩;obtain⟨o,q,d⟩:=T.obj _ _ st7 b hb;exact(I10.pin (b,o) (dm _ (dm _ (rM hb q)))).2.1
 exact d7 loop (T.self _ 0 _ _ _ st4 loop)
theorem abd(k:jB X sc own cap)(hi:PI X target iter wi)(hc:X.calm=true)
  (hg:∀C BK BM ex,PG (iR X sc (dE own cap) C BK BM ex) target g)(he:∀C BK BM ex,PE (iR X sc (dE own cap) C BK BM ex) elt te)
  (hs:∀x,foldedSetIterable iter X.env x=pure x:=by intro _;rfl):PE X (.ListComp elt [⟨target,iter,[],0⟩] sc pos) (vL own cap wi g te):=by
 intro BJ s σ H Q I h;refine Jm  k hi hc hg he I h (λD C s' H' m I' fC hn q=>?_) hs;refine⟨m,hn,λh' sb=>⟨.ref D,H',?_,rfl,q⟩⟩;obtain⟨f0,f1,f2,f3,f4,f5⟩:=fC;exact I'.turned  (λb o hb e=>(sb.2 b hb).trans e) f0 f1 f3 f4 f5
theorem abP   {py spos:ai}(hN:X.N.Nodup)(hx:X.N[i]?=some x)(hl:lI X.env.scope x)(k:jB X sc own cap)(hi:PI X target iter wi)(hc:X.calm=true)
  (hg:∀C BK BM ex,PG (iR X sc (dE own cap) C BK BM ex) target g)(he:∀C BK BM ex,PE (iR X sc (dE own cap) C BK BM ex) elt te)
  (hs:∀x,foldedSetIterable iter X.env x=pure x:=by intro _;rfl)(hsw:swapsWith (.ListComp elt [⟨target,iter,[],0⟩] sc pos) (some (.Name x py)) spos.line X.env=pure true:=by rfl)
  (hf:X.fn x=true\/X.env.scope.names.lookup x=some .local:=by first |exact .inl rfl |exact .inr rfl |assumption):
  PS X (.Assign [.Name x py] (.ListComp elt [⟨target,iter,[],0⟩] sc pos) spos) (Xh (vL own cap wi g te) (Gh i)):=by
 intro BJ s σ H D I h;rw[exec_Assign_Name_used _ _ _ _ hsw];refine ag (qo (ag ?_));refine ag (bA (Jm   k hi hc hg he I h (λB C s' H' m I' fC hn q=>?_) hs) λ_ s' hq=>au (au hq));obtain⟨o,es,ep,ho,hd,r⟩:=hn;obtain⟨f0,f1,f2,f3,f4,f5⟩:=fC;have I'':aI X (BJ++[(C,o)]) σ H' s':=I'.pins_of λp hp=>(br.mp hp).elim (λz=>I'.pin p (dm _ z)) λz=>by
  have e:=by simpa using z
  subst e;exact⟨ho,f0,f1,f2,λv z=>by rw[hd]at z;cases z⟩
 refine wpAny_assign_Name (rY I'' hN hx hl (v:=.ref B) rfl (λs2 I2=>?_) hf);have pC:=I2.pin (C,o) (by simp);refine⟨m,⟨o,es,ep,pC.1,hd,r⟩,λh' sb=>⟨_,H',?_,q⟩⟩;exact(I2.unpinned).turned  (λb o hb e=>(sb.2 b hb).trans e) f0 f1 f3 f4 f5
end
section
variable{X:Cx}
theorem aa8(hc:X.calm=true):iH X (.builtin "all") (λxs H Q=>∃(a:Addr)(bs:List Bool),xs=[.ref a]/\bO X.K H a (bs.map V.bl)/\Q (.bl (bs.all id)) H):=by
 intro BJ s σ H xs us Q I r h;obtain⟨a,bs,rfl,hq,q⟩:=h;obtain⟨u,rfl,ru⟩:=jC r;cases ru;obtain⟨its,rv,pl,hz⟩:=I.list hq;have hl:=by
  have:=rv.length
  rwa[ak]at this
 refine call_all_walk (ng pl.isList ?_);have ha:a<s.heap.objs.size:=by
  obtain⟨o,ho,_⟩:=pl.isList;exact ax ho
 refine⟨_,_,_,_,_,_,λi=>bs.getD i true,rfl,rf  (w:=X.w) (A:=X.A.in1) (show X.A.in1.handled=none from I.ok.hd hc) s.heap.objs.size a (cw ha) its.toArray,⟨⟨_,cj _ rfl,rfl,rfl⟩,Heap.IsList.at pl.isList λo e=>ar _ e⟩,λi v s' Q' E' hv hQ=>?_,λh' tk kp=>?_⟩
 .have hv':=by simpa using hv
  have hi:i<bs.length:=by
   grind
  obtain⟨u,hu,ru⟩:=rv.get (i:=i)  (by rw[az,ay hi];rfl);rw[hv']at hu;cases hu;cases(show v=oq bs[i] from ru);have e:bs.getD i true=bs[i]:=by simp[cr,hi]
  have hQ':Q' (bs.getD i true) s':=hQ;rw[e]at hQ';exact jy hQ'
 .have e:(ce its.toArray.size).all (λi=>bs.getD i true)=bs.all id:=by
   rw[bf,<-hl,ph,ji,ji];constructor
   .intro z b hb
    obtain⟨i,hi,rfl⟩:=pr.mp hb;have:=z i (by simpa using hi);simpa[cr,hi]using this
   .intro z i hi
    have hi':i<bs.length:=by simpa using hi
    have:=z bs[i] (gi hi');simpa[cr,hi']using this
  rw[e];have I1:aI X BJ σ H {s with heap:=s.heap.push {cls:=.type "list_iterator",data:=.fields #[.ref a,.int 0 0]},toks:=s.toks}:=I.kept λb o z=>ar _ z;have fp:=I.fpOk (al _) (I.hok.fresh (al _));obtain⟨f0,f1,f2,f3,f4,f5⟩:=fp;exact⟨.bl (bs.all id),H,I1.turned (λb o hb z=>kp b o (by simpa using hb) z) f0 f1 f3 f4 f5,rfl,q⟩
end
section
variable{prog:Program}{w:am}{A:aq}{E:Value->aa->Prop}{s:aa}
theorem K4   {items:Array Value}{x:Value}{Q:Value->aa->Prop}(git:s.heap.IsTupleIter it t i)(gt:s.heap.IsTuple t items)(gx:items[i]?=some x)
  (gQ:∀h',h'.IsTupleIter it t (i+1)->iy it s.heap h'->Q x {s with heap:=h'}):wpAny (model prog w) A (ky (.ref it)) Q E s:=by
 obtain⟨o,go,gc,gd⟩:=id git;obtain⟨ol,gol,_,nl,gdl⟩:=gt;refine ag (kr  git.typeIs rh (jt rh git.typeIs d8 ?_ (f6 _)));show wpAny _ _ (field (.ref it) 0 >>= _) _ _ s;refine ag (ia go gd (x:=.ref t) rfl ?_);refine ag (ia go gd (x:=.int i 0) rfl ?_);refine ag (jx gol gdl ?_);simp only[rm,gx];refine ag (rn go gd (by simp) (au ⟨_,rfl,au (gQ _ ?_ (rp ..))⟩));refine⟨_,wj _ go (f7 (se gd _)),(g7 ..).trans gc,?_⟩;rw[se gd];simp[rawInt]
theorem A7{it t:Addr}{i:Nat}{items:Array Value}{Q:Value->aa->Prop}(hh:A.handled=none)(git:s.heap.IsTupleIter it t i)(gt:s.heap.IsTuple t items)(gx:items[i]?=none)
  (gE:∀h' e,pw it s.heap h'->(∃o,h'.get? e=some o/\o.cls=.type "StopIteration")->E (.ref e) {s with heap:=h'}):wpAny (model prog w) A (ky (.ref it)) Q E s:=by
 obtain⟨o,go,gc,gd⟩:=id git;obtain⟨ol,gol,_,nl,gdl⟩:=gt;unfold ky;refine ag (kr (name:=di "__next__") git.typeIs rh (jt rh git.typeIs d8 ?_ (f6 _)));show wpAny _ _ (field (.ref it) 0 >>= _) _ _ s;refine ag (ia go gd (x:=.ref t) rfl ?_);show wpAny _ _ (if(fe t==cy)=true then _ else _) _ _ s;show wpAny _ _ (field (.ref it) 1 >>= _) _ _ s;refine ag (ia go gd (x:=.int i 0) rfl ?_);show wpAny _ _ (seqItems? (.ref t) >>= _) _ _ s;refine ag (jx gol gdl ?_);simp only[rm,gx]
 first
  |grind
  |refine ag (ou (ag (rn go gd (by simp) ?_)))
 show wpAny _ _ (newExc (.type "StopIteration") [] >>= _) _ _ _;refine ag ?_;simp only[newExc,newTuple];refine ag (ka ?_ (by size_fits));refine ag (m:=firstArgMember _ _) (sf (a:=cy) (by first |rfl |(simp only[firstArgMember];rfl)) ?_)
 refine ka ?_ (by size_fits);simp only[raiseNew];refine ag (wpAny_handled ?_)
 first
  |rw[show A.in1.handled=none from hh]
  |rw[hh]
 refine ag (au (wpAny_throw ?_));exact gE _ _ (((rp ..).extBut.push _).push _) ⟨_,cj _ rfl,rfl⟩
end
theorem W5   {A:aq}(hh:A.handled=none)(it t:Addr)(hne:t≠it)(items:Array Value):
  jk prog w A it [it,t] items.size (λi v=>items[i]?=some v) (λi h=>h.IsTupleIter it t i/\h.IsTuple t items) where
 live:=λ_ _ st=>let⟨o,ho,_⟩:=st.1;⟨o,ho⟩
 frame:=λ_ _ _ st hk=>⟨let⟨o,ho,r⟩:=st.1;⟨o,hk _ (by simp) o ho,r⟩,let⟨o,ho,r⟩:=st.2;⟨o,hk t (by simp) o ho,r⟩⟩
 item:=λi s Q E hi st hQ=>by
  refine K4 st.1 st.2 (x:=items[i]) (by simp[hi]) λh' hit' hs'=>?_;exact hQ _ _ _ (by simp[hi]) ⟨hit',st.2.extBut hs'.extBut hne⟩ hs'
 done:=λs Q E st hE=>A7 hh st.1 st.2 (by simp) hE
structure wC(z TI TO i1 i2:Addr)(fp1 fp2:List Addr):Prop where
 tiz:TI≠z
 toz:TO≠z
 tito:TI≠TO
 ti1:TI≠i1
 ti2:TI≠i2
 z1:z∉fp1
 z2:z∉fp2
 to1:TO∉fp1
 to2:TO∉fp2
 i12:i1∉fp2
 i21:i2∉fp1
 m1:i1∈fp1
 m2:i2∈fp2
section
variable{prog:Program}{w:am}{A:aq}{E:Value->aa->Prop}{s:aa}{z TI TO i1 i2:Addr}{fp1 fp2:List Addr}{n1 n2 i:Nat}{P1 P2:Nat->Value->Prop}{S1 S2:Nat->Heap->Prop}{a b:Value}
theorem O4{Q:Value->aa->Prop}(D1:jk prog w A i1 fp1 n1 P1 S1)(D2:jk prog w A i2 fp2 n2 P2 S2)(ap:wC z TI TO i1 i2 fp1 fp2)(gz:gj s.heap z TI TO .none)(gTI:dh s.heap TI (.ref i1) (.ref i2))(gTO:dh s.heap TO a b)
  (g1:S1 i s.heap)(g2:S2 i s.heap)(l1:i<n1)(l2:i<n2)
  (gQ:∀h' tk x y,P1 i x->P2 i y->gj h' z TI TO (rawInt s.heap.objs.size)->dh h' TO x y->S1 (i+1) h'->S2 (i+1) h'->dh h' s.heap.objs.size x y->
   (∀c o,c≠z->c≠TO->c≠i1->c≠i2->s.heap.get? c=some o->h'.get? c=some o)->Q (.ref s.heap.objs.size) {s with heap:=h',toks:=tk}):
  wpAny (model prog w) A (Builtin.«zip.__next__» ⟨[.ref z],[]⟩) (λfin s'=>∃v,fin=.done (.ret v)/\Q v s') E s:=by
 have nz1:i1≠z:=λq=>ap.z1 (q▸ap.m1);have nz2:i2≠z:=λq=>ap.z2 (q▸ap.m2);have nt1:TO≠i1:=λq=>ap.to1 (q▸ap.m1);have nt2:TO≠i2:=λq=>ap.to2 (q▸ap.m2);show wpAny _ _ (field (.ref z) 2 >>= _) _ _ _;refine ag (ia gz rfl (x:=.bool false) rfl ?_);show wpAny _ _ (field (.ref z) 3 >>= _) _ _ _;refine ag (ia gz rfl (x:=.ref TI) rfl ?_);refine ag (jx gTI rfl ?_);show wpAny _ _ (si (.ref z) >>= _) _ _ _;refine ag ?_;unfold si;refine ag (ia gz rfl (x:=.none) rfl (au ?_));simp only[if_true];refine ag (ou ?_);refine ag (ia gz rfl (x:=.ref TO) rfl ?_);refine ag (nh gz (by simp) λh1 gz1 s1=>?_)
 replace gz1:gj h1 z TI TO .ellipsis:=gz1
 refine ag ?_;simp only[g8,g9,re,i4];refine ag (ag (sj ?_));show wpAny _ _ (ky (.ref i1) >>= _) _ _ _;refine ag (D1.item i _ _ _ l1 (D1.frame _ _ _ g1 λc hc o q=>s1.extBut c o (λe=>ap.z1 (e▸hc)) q) λx h2 tk2 px g1' s2=>au ?_);have gTO2:dh h2 TO a b:=s2.extBut _ _ nt1 (s1.extBut _ _ ap.toz gTO);refine ag (jx gTO2 rfl ?_);refine ag (xa (s:={s with heap:=h2,toks:=tk2}) gTO2 λh3 gTO3 s3=>?_)
 replace gTO3:dh h3 TO x b:=gTO3
 replace s3:iy TO h2 h3:=s3
 refine ag (xb (au ?_));refine ag (ag (sj ?_));show wpAny _ _ (ky (.ref i2) >>= _) _ _ _;have g2':S2 i h3:=D2.frame _ _ _ g2 λc hc o q=>s3.extBut c o (λe=>ap.to2 (e▸hc)) (s2.extBut c o (λe=>ap.i12 (e▸hc)) (s1.extBut c o (λe=>ap.z2 (e▸hc)) q));refine ag (D2.item i _ _ _ l2 g2' λy h4 tk4 py g2'' s4=>au ?_)
 replace s4:iy i2 h3 h4:=s4
 have gTO4:dh h4 TO x b:=s4.extBut _ _ nt2 gTO3;refine ag (jx gTO4 rfl ?_);refine ag (xa (s:={s with heap:=h4,toks:=tk4}) gTO4 λh5 gTO5 s5=>?_)
 replace gTO5:dh h5 TO x y:=gTO5
 replace s5:iy TO h4 h5:=s5
 refine ag (xb (au (au ?_)));refine ag (jx gTO5 rfl ?_);refine ag (wpAny_newTuple ?_);have hsz:h5.objs.size=s.heap.objs.size:=by rw[s5.1,s4.1,s3.1,s2.1,s1.1]
 have gz5:gj h5 z TI TO .ellipsis:=s5.extBut _ _ ap.toz.symm (s4.extBut _ _ nz2.symm (s3.extBut _ _ ap.toz.symm (s2.extBut _ _ nz1.symm gz1)));have k5:∀c o,c≠z->c≠TO->c≠i1->c≠i2->s.heap.get? c=some o->h5.get? c=some o:=λc o c1 c2 c3 c4 q=>s5.extBut _ _ c2 (s4.extBut _ _ c4 (s3.extBut _ _ c2 (s2.extBut _ _ c3 (s1.extBut _ _ c1 q))));have g15:S1 (i+1) h5:=D1.frame _ _ _ g1' λc hc o q=>s5.extBut c o (λe=>ap.to1 (e▸hc)) (s4.extBut c o (λe=>ap.i21 (e▸hc)) (s3.extBut c o (λe=>ap.to1 (e▸hc)) q));have g25:S2 (i+1) h5:=D2.frame _ _ _ g2'' λc hc o q=>s5.extBut c o (λe=>ap.to2 (e▸hc)) q;have zlt:z<h5.objs.size:=ax gz5;show wpAny _ _ (i5 (.ref z) (.ref h5.objs.size) >>= _) _ _ _;refine ag ?_;unfold i5;have gz6:gj (h5.push {cls:=.type "tuple",data:=.seq #[x,y]}) z TI TO .ellipsis:=ar _ gz5;refine ag (nh gz6 (by simp) λh7 gz7 s7=>?_)
 replace gz7:gj h7 z TI TO (rawInt h5.objs.size):=gz7
 refine nh gz7 (by simp) λh8 gz8 s8=>?_
 replace gz8:gj h8 z TI TO (rawInt h5.objs.size):=gz8
 have up:∀c o,c≠z->h5.get? c=some o->h8.get? c=some o:=λc o c1 q=>s8.extBut _ _ c1 (s7.extBut _ _ c1 (ar _ q));have gT8:dh h8 h5.objs.size x y:=s8.extBut _ _ (lc zlt) (s7.extBut _ _ (lc zlt) (cj _ rfl));rw[hsz]at gz8 gT8;refine au ⟨_,rfl,?_⟩;show Q (.ref h5.objs.size) _;rw[hsz];exact gQ h8 _ x y px py gz8 (up _ _ ap.toz gTO5) (D1.frame _ _ _ g15 λc hc o q=>up c o (λe=>ap.z1 (e▸hc)) q) (D2.frame _ _ _ g25 λc hc o q=>up c o (λe=>ap.z2 (e▸hc)) q) gT8 λc o c1 c2 c3 c4 q=>up c o c1 (k5 c o c1 c2 c3 c4 q)
theorem P8{Q:Fin->aa->Prop}(D1:jk prog w A i1 fp1 n1 P1 S1)(D2:jk prog w A i2 fp2 n2 P2 S2)(ap:wC z TI TO i1 i2 fp1 fp2)(gz:gj s.heap z TI TO .none)(gTI:dh s.heap TI (.ref i1) (.ref i2))(gTO:dh s.heap TO a b)
  (g1:S1 i s.heap)(g2:S2 i s.heap)(fin:i=n1\/(i<n1/\i=n2))
  (gE:∀h' tk e,(∀c o,c≠z->c≠TO->c≠i1->c≠i2->s.heap.get? c=some o->h'.get? c=some o)->(∃o,h'.get? e=some o/\o.cls=.type "StopIteration")->E (.ref e) {s with heap:=h',toks:=tk}):
  wpAny (model prog w) A (Builtin.«zip.__next__» ⟨[.ref z],[]⟩) Q E s:=by
 have nz1:i1≠z:=λq=>ap.z1 (q▸ap.m1);have nz2:i2≠z:=λq=>ap.z2 (q▸ap.m2);have nt1:TO≠i1:=λq=>ap.to1 (q▸ap.m1);have nt2:TO≠i2:=λq=>ap.to2 (q▸ap.m2);show wpAny _ _ (field (.ref z) 2 >>= _) _ _ _;refine ag (ia gz rfl (x:=.bool false) rfl ?_);show wpAny _ _ (field (.ref z) 3 >>= _) _ _ _;refine ag (ia gz rfl (x:=.ref TI) rfl ?_);refine ag (jx gTI rfl ?_);show wpAny _ _ (si (.ref z) >>= _) _ _ _;refine ag ?_;unfold si;refine ag (ia gz rfl (x:=.none) rfl (au ?_));simp only[if_true];refine ag (ou ?_);refine ag (ia gz rfl (x:=.ref TO) rfl ?_);refine ag (nh gz (by simp) λh1 gz1 s1=>?_)
 replace gz1:gj h1 z TI TO .ellipsis:=gz1
 refine ag ?_;simp only[g8,g9,re,i4];refine ag (ag (sj ?_));show wpAny _ _ (ky (.ref i1) >>= _) _ _ _;have g1':S1 i h1:=D1.frame _ _ _ g1 λc hc o q=>s1.extBut c o (λe=>ap.z1 (e▸hc)) q;rcases fin with e1 |⟨l1,e2⟩
 .subst e1
  refine ag (D1.done _ _ _ g1' λh2 e s2 he=>?_);obtain⟨oe,hoe,hce⟩:=he;have gz2:gj h2 z TI TO .ellipsis:=s2 _ _ nz1.symm gz1;have hez:e≠z:=λq=>by
   subst q;rw[gz2]at hoe;cases hoe;simp at hce
  refine nh (s:={s with heap:=h2}) gz2 (by simp) λh3 _ s3=>?_;exact gE h3 _ e (λc o c1 _ c3 _ q=>s3.extBut _ _ c1 (s2 _ _ c3 (s1.extBut _ _ c1 q))) ⟨oe,s3.extBut _ _ hez hoe,hce⟩
 .subst e2
  refine ag (D1.item i _ _ _ l1 g1' λx h2 tk2 px g1'' s2=>au ?_);have gTO2:dh h2 TO a b:=s2.extBut _ _ nt1 (s1.extBut _ _ ap.toz gTO);refine ag (jx gTO2 rfl ?_);refine ag (xa (s:={s with heap:=h2,toks:=tk2}) gTO2 λh3 gTO3 s3=>?_)
  replace s3:iy TO h2 h3:=s3
  refine ag (xb (au ?_));refine ag (ag (sj ?_));show wpAny _ _ (ky (.ref i2) >>= _) _ _ _;have g2':S2 i h3:=D2.frame _ _ _ g2 λc hc o q=>s3.extBut c o (λe=>ap.to2 (e▸hc)) (s2.extBut c o (λe=>ap.i12 (e▸hc)) (s1.extBut c o (λe=>ap.z2 (e▸hc)) q));refine ag (D2.done _ _ _ g2' λh4 e s4 he=>?_)
  replace s4:pw i2 h3 h4:=s4
  obtain⟨oe,hoe,hce⟩:=he;have gz4:gj h4 z TI TO .ellipsis:=s4 _ _ nz2.symm (s3.extBut _ _ ap.toz.symm (s2.extBut _ _ nz1.symm gz1));have hez:e≠z:=λq=>by
   subst q;rw[gz4]at hoe;cases hoe;simp at hce
  refine nh (s:={s with heap:=h4,toks:=tk2}) gz4 (by simp) λh5 _ s5=>?_;exact gE h5 _ e (λc o c1 c2 c3 c4 q=>s5.extBut _ _ c1 (s4 _ _ c4 (s3.extBut _ _ c2 (s2.extBut _ _ c3 (s1.extBut _ _ c1 q))))) ⟨oe,s5.extBut _ _ hez hoe,hce⟩
theorem F3  (D1:jk prog w A.in1 i1 fp1 n1 P1 S1)(D2:jk prog w A.in1 i2 fp2 n2 P2 S2)(ap:wC z TI TO i1 i2 fp1 fp2)(gz:gj s.heap z TI TO .none)(gTI:dh s.heap TI (.ref i1) (.ref i2))(gTO:dh s.heap TO a b)
  (g1:S1 i s.heap)(g2:S2 i s.heap)(l1:i<n1)(l2:i<n2)
  (gQ:∀h' tk x y,P1 i x->P2 i y->gj h' z TI TO (rawInt s.heap.objs.size)->dh h' TO x y->S1 (i+1) h'->S2 (i+1) h'->dh h' s.heap.objs.size x y->
   (∀c o,c≠z->c≠TO->c≠i1->c≠i2->s.heap.get? c=some o->h'.get? c=some o)->Q (some (.ref s.heap.objs.size)) {s with heap:=h',toks:=tk}):
  wpAny (model prog w) A (pyNext (.ref z)) Q E s:=by
 have gT:s.TypeIs (.ref z) _:=⟨_,gz,rfl⟩;refine ag (sk (kr  gT sr (jt sr gT i6 ?_ (i7 _))));exact O4 D1 D2 ap gz gTI gTO g1 g2 l1 l2 λh' tk x y p1 p2 e1 e2 e3 e4 e5 e6=>au (gQ h' tk x y p1 p2 e1 e2 e3 e4 e5 e6)
theorem A3  (D1:jk prog w A.in1 i1 fp1 n1 P1 S1)(D2:jk prog w A.in1 i2 fp2 n2 P2 S2)(ap:wC z TI TO i1 i2 fp1 fp2)(gz:gj s.heap z TI TO .none)(gTI:dh s.heap TI (.ref i1) (.ref i2))(gTO:dh s.heap TO a b)
  (g1:S1 i s.heap)(g2:S2 i s.heap)(fin:i=n1\/(i<n1/\i=n2))
  (gQ:∀h' tk,(∀c o,c≠z->c≠TO->c≠i1->c≠i2->s.heap.get? c=some o->h'.get? c=some o)->Q none {s with heap:=h',toks:=tk}):wpAny (model prog w) A (pyNext (.ref z)) Q E s:=by
 have gT:s.TypeIs (.ref z) _:=⟨_,gz,rfl⟩;refine ag (sk (kr  gT sr (jt sr gT i6 ?_ (i7 _))));refine P8 D1 D2 ap gz gTI gTO g1 g2 fin λh' tk e hk he=>?_;obtain⟨o,ho,hc⟩:=he;refine ag (xc   ⟨o,ho,hc⟩ isSubtype_stop ?_);exact au (gQ _ _ hk)
end
abbrev zN(h:Heap)(o1:Obj):Heap:=h.push o1
abbrev zW(h:Heap)(o1 o2:Obj):Heap:=(zN h o1).push o2
abbrev zO(h:Heap)(o1 o2:Obj):Heap:=(zW h o1 o2).push {cls:=.type "tuple",data:=.seq #[.ref h.objs.size,.ref (zN h o1).objs.size]}
abbrev Aa(h:Heap)(o1 o2:Obj):Heap:=(zO h o1 o2).push {cls:=.type "tuple",data:=.seq #[.none,.none]}
abbrev tL(h:Heap)(o1 o2:Obj):Heap:=(Aa h o1 o2).push {cls:=.type "zip",data:=.fields #[.none,.bool false,.bool false,.ref (zW h o1 o2).objs.size,.ref (zO h o1 o2).objs.size]}
def vP(l:Addr)(o:Obj)(G:Heap->Prop):Prop:=
 ∀(prog:Program)(w:am)(A:aq)(E:Value->aa->Prop)(s:aa)(Q:Value->aa->Prop),G s.heap->Q (.ref s.heap.objs.size) {s with heap:=s.heap.push o}->wpAny (model prog w) A (pyIter (.ref l)) Q E s
theorem N7(l1 l2:Addr)(o1 o2:Obj)(G1 G2:Heap->Prop)(p1:vP l1 o1 G1)(p2:vP l2 o2 G2)(k2:∀h,G2 h->G2 (h.push o1)):
  Meets (Builtin.«zip.__new__» ⟨[.type "zip",.ref l1,.ref l2],[]⟩) (λ_ R s=>G1 s.heap/\G2 s.heap/\R (.ok (.ret (.ref (Aa s.heap o1 o2).objs.size))) {s with heap:=tL s.heap o1 o2}):=
 .of_wp λprog w A R s h=>by
  obtain⟨hp,g,d,tk,os⟩:=s;obtain⟨g1,g2,h⟩:=h;have hsub:=sub_zip;have q1:=λ(A':aq) (E':Value->aa->Prop) (Q':Value->aa->Prop)=>p1 prog w A' E' ⟨hp,g,d,tk,os⟩ Q' g1;have q2:=λ(A':aq) (E':Value->aa->Prop) (Q':Value->aa->Prop)=>p2 prog w A' E' ⟨hp.push o1,g,d,tk,os⟩ Q' (k2 _ g2)
  wp_walk using q1 _ _ _,q2 _ _ _
  exact⟨_,rfl,h⟩
theorem D6  {w:am}{A:aq}{E:Value->aa->Prop}{s:aa}{l1 l2:Addr}{o1 o2:Obj}{G1 G2:Heap->Prop}{Q:Value->aa->Prop}(p1:vP l1 o1 G1)(p2:vP l2 o2 G2)(k2:∀h,G2 h->G2 (h.push o1))(g1:G1 s.heap)(g2:G2 s.heap)
  (f1:o1.isFreed=false)(f2:o2.isFreed=false)
  (h:∀h',gj h' (s.heap.objs.size+4) (s.heap.objs.size+2) (s.heap.objs.size+3) .none->dh h' (s.heap.objs.size+2) (.ref s.heap.objs.size) (.ref (s.heap.objs.size+1))->dh h' (s.heap.objs.size+3) .none .none->
   h'.get? s.heap.objs.size=some o1->h'.get? (s.heap.objs.size+1)=some o2->(∀c o,s.heap.get? c=some o->h'.get? c=some o)->Q (.ref (s.heap.objs.size+4)) {s with heap:=h'}):
  wpAny (model prog w) A (call (.type "zip") [.ref l1,.ref l2]) Q E s:=by
 refine callType_new F.called_zip (by decide) (F.typeCall_zip_2 _ _) (F.newCall_zip_2 _ _) (λobj=>F.args_object_init_3 obj _ _) F.entry_zip_new (N7 l1 l2 o1 o2 G1 G2 p1 p2 k2) ⟨g1,g2,?_⟩;have e1:(zN s.heap o1).objs.size=s.heap.objs.size+1:=jb ..;have e2:(zW s.heap o1 o2).objs.size=s.heap.objs.size+2:=by rw[jb,e1]
 have e3:(zO s.heap o1 o2).objs.size=s.heap.objs.size+3:=by rw[jb,e2]
 have e4:(Aa s.heap o1 o2).objs.size=s.heap.objs.size+4:=by rw[jb,e3]
 have r5:(tL s.heap o1 o2).get? (Aa s.heap o1 o2).objs.size=some _:=cj _ rfl;have r4:(tL s.heap o1 o2).get? (zO s.heap o1 o2).objs.size=some _:=ar _ (cj _ rfl);have r3:(tL s.heap o1 o2).get? (zW s.heap o1 o2).objs.size=some _:=ar _ (ar _ (cj _ rfl));have r2:(tL s.heap o1 o2).get? (zN s.heap o1).objs.size=some o2:=ar _ (ar _ (ar _ (cj _ f2)));have r1:(tL s.heap o1 o2).get? s.heap.objs.size=some o1:=ar _ (ar _ (ar _ (ar _ (cj _ f1))));show _/\_;rw[e2,e3,e4]at r5;rw[e1,e2]at r3;rw[e3]at r4;rw[e1]at r2;rw[e4];exact⟨⟨_,r5,rfl⟩,h _ r5 r3 r4 r1 r2 λc o q=>ar _ (ar _ (ar _ (ar _ (ar _ q))))⟩
def jV(f:Bool)(K:ae)(H:Hp)(a:Addr)(xs:List V):Prop:=match f with
 |true=>cG K H a xs
 |false=>bO K H a xs
def oA(f:Bool)(it a:Addr)(i:Nat)(h:Heap):Prop:=match f with
 |true=>h.IsTupleIter it a i
 |false=>h.IsListIter it a i
def tR(f:Bool)(a:Addr)(items:Array Value)(h:Heap):Prop:=match f with
 |true=>h.IsTuple a items
 |false=>h.IsList a items
def Ri(f:Bool)(a:Addr):Obj:=match f with
 |true=>{cls:=.type "tuple_iterator",data:=.fields #[.ref a,.int 0 0]}
 |false=>{cls:=.type "list_iterator",data:=.fields #[.ref a,.int 0 0]}
section
variable{X:Cx}{BJ:List (Addr×Obj)}{σ:St}{H:Hp}{s:aa}{a:Addr}{xs ys:List V}{f:Bool}
theorem aI.seqF(I:aI X BJ σ H s)(h:jV f X.K H a xs):∃its:BB,aW xs its/\tR f a its.toArray s.heap/\xs.length<=sizeLine:=by
 cases f with
 |true=>
  obtain⟨its,r,p,z⟩:=I.tuple h;exact⟨its,r,p,z⟩
 |false=>
  obtain⟨its,r,p,z⟩:=I.list h;exact⟨its,r,p.isList,z⟩
theorem aI.seqF_inj(I:aI X BJ σ H s)(h:jV f X.K H a xs)(h':jV f X.K H a ys):xs=ys:=by
 cases f with
 |true=>exact I.tuple_inj h h'
 |false=>exact I.list_inj h h'
theorem aI.apart  (I:aI X BJ σ H s)(fb:fZ X BJ H b)(h:jV f X.K H a xs):a≠b:=by
 have viaK:∀{o:Obj},X.K.lookup a=some o->a≠b:=λ{o} q e=>by
  have hb:=e▸I.ok.mod.kin a o q;rcases fb.2.2.2.1 with z |z
  .exact I.ok.noex b o hb z
  .exact absurd (de (ax (I.ok.bs b o hb).1) z) (ix _)
 cases f with
 |true=>
  rcases h with(h |⟨o,h⟩) |⟨o,_,_,q,_⟩
  .exact gH h fb.1
  .exact gH h fb.1
  .exact viaK q
 |false=>
  rcases h with(h |⟨o,h⟩) |⟨o,_,_,q,_⟩
  .exact gH h fb.1
  .exact gH h fb.1
  .exact viaK q
end
theorem yW    (f:Bool)(hh:A.handled=none)(it a:Addr)(hne:a≠it)(items:Array Value):
  jk prog w A it [it,a] items.size (λi v=>items[i]?=some v) (λi h=>oA f it a i h/\tR f a items h):=by
 cases f with
 |true=>exact W5 hh _ a hne _
 |false=>exact Draws.list hh _ a hne _
theorem By(f:Bool)(a:Addr)(items:Array Value):vP a (Ri f a) (tR f a items):=by
 cases f with
 |true=>exact λprog w A E s Q g q=>pz g q
 |false=>exact λprog w A E s Q g q=>ng g q
theorem oA.keep     (x:oA f it a i h)(k:∀o,h.get? it=some o->h'.get? it=some o):oA f it a i h':=by
 cases f with
 |true=>obtain⟨o,e,r⟩:=x;exact⟨o,k o e,r⟩
 |false=>obtain⟨o,e,r⟩:=x;exact⟨o,k o e,r⟩
theorem tR.keep     (x:tR f a items h)(k:∀o,h.get? a=some o->h'.get? a=some o):tR f a items h':=by
 cases f with
 |true=>obtain⟨o,e,r⟩:=x;exact⟨o,k o e,r⟩
 |false=>obtain⟨o,e,r⟩:=x;exact⟨o,k o e,r⟩
theorem oA.obj     (x:oA f it a i h):∃o,h.get? it=some o/\∀v,o.data≠.cell v:=by
 cases f with
 |true=>obtain⟨o,e,_,d⟩:=x;exact⟨o,e,λv z=>by rw[d]at z;cases z⟩
 |false=>obtain⟨o,e,_,d⟩:=x;exact⟨o,e,λv z=>by rw[d]at z;cases z⟩
theorem Tm(f:Bool)(a it:Addr){h:Heap}(e:h.get? it=some (Ri f a)):oA f it a 0 h:=by
 cases f with
 |true=>exact⟨_,e,rfl,rfl⟩
 |false=>exact⟨_,e,rfl,rfl⟩
theorem Kp(f:Bool)(a:Addr):(Ri f a).isFreed=false:=by cases f<;>rfl
def Sz (K : ae) (f1 : Bool) (a : Addr) (f2 : Bool) (b : Addr) : It :=
  ⟨λi H => ∃ xs ys x y, jV f1 K H a xs ∧ jV f2 K H b ys ∧ xs[i]? = some x ∧ ys[i]? = some y,
   λi H v H' => ∃ p x y, H p = none ∧ v = .ref p ∧ H' = aT H p (.tup [x, y]) ∧ (∀ xs, jV f1 K H a xs → xs[i]? = some x) ∧ ∀ ys, jV f2 K H b ys → ys[i]? = some y,
   λi H => ∃ xs ys, jV f1 K H a xs ∧ jV f2 K H b ys ∧ (i = xs.length ∨ (i < xs.length ∧ i = ys.length))⟩
structure zK(z TI TO i1 i2:Addr):Prop where
 tiz:TI≠z
 toz:TO≠z
 i1z:i1≠z
 i2z:i2≠z
 tito:TI≠TO
 ti1:TI≠i1
 ti2:TI≠i2
 to1:TO≠i1
 to2:TO≠i2
 i12:i1≠i2
theorem zK.ap{z TI TO i1 i2 a b:Addr}(r:zK z TI TO i1 i2)(h:∀c∈[z,TI,TO,i1,i2],a≠c)(g:∀c∈[z,TI,TO,i1,i2],b≠c):wC z TI TO i1 i2 [i1,a] [i2,b] where
 tiz:=r.tiz
 toz:=r.toz
 tito:=r.tito
 ti1:=r.ti1
 ti2:=r.ti2
 z1:=λq=>by simp at q;rcases q with q |q;exact r.i1z q.symm;exact h z (by simp) q.symm
 z2:=λq=>by simp at q;rcases q with q |q;exact r.i2z q.symm;exact g z (by simp) q.symm
 to1:=λq=>by simp at q;rcases q with q |q;exact r.to1 q;exact h _ (by simp) q.symm
 to2:=λq=>by simp at q;rcases q with q |q;exact r.to2 q;exact g _ (by simp) q.symm
 i12:=λq=>by simp at q;rcases q with q |q;exact r.i12 q;exact g _ (by simp) q.symm
 i21:=λq=>by simp at q;rcases q with q |q;exact r.i12 q.symm;exact h _ (by simp) q.symm
 m1:=by simp
 m2:=by simp
theorem aaT{P:Program}{w:am}{K:ae}{elts:List ah}{x1:Nat}{tp:ai}(f1 f2:Bool)(a b z TI TO i1 i2:Addr)(zr:zK z TI TO i1 i2):
  tK P w K (.Tuple elts x1 tp) (Sz K f1 a f2 b) [z,TI,TO,i1,i2] z (λi h=>gj h z TI TO .none/\dh h TI (.ref i1) (.ref i2)/\(∃u v,dh h TO u v)/\oA f1 i1 a i h/\oA f2 i2 b i h) where
 mem:=by simp
 obj:=λi h st c hc=>by
  obtain⟨e1,e2,⟨u,v,e3⟩,e4,e5⟩:=st;simp at hc;rcases hc with q |q |q |q |q
  .subst q
   exact⟨_,e1,λv z=>nomatch z⟩
  .subst q
   exact⟨_,e2,λv z=>nomatch z⟩
  .subst q
   exact⟨_,e3,λv z=>nomatch z⟩
  .subst q
   exact e4.obj
  .subst q
   exact e5.obj
 keep:=λi h h' st k=>by
  obtain⟨e1,e2,⟨u,v,e3⟩,e4,e5⟩:=st;exact⟨k z (by simp) _ e1,k TI (by simp) _ e2,⟨u,v,k TO (by simp) _ e3⟩,e4.keep λo q=>k i1 (by simp) o q,e5.keep λo q=>k i2 (by simp) o q⟩
 item:=by
  intro X hP hw hK hc i BJ s σ H E I hf st hg;subst hP hw hK;obtain⟨xs,ys,x,y,hx,hy,ex,ey⟩:=hg;obtain⟨its,r1,p1,_⟩:=I.seqF hx;obtain⟨jts,r2,p2,_⟩:=I.seqF hy;obtain⟨ux,gx,rx⟩:=r1.get ex;obtain⟨uy,gy,ry⟩:=r2.get ey;obtain⟨e1,e2,⟨u,v,e3⟩,e4,e5⟩:=st;have na:=λc hc=>I.apart (hf c hc) hx;have nb:=λc hc=>I.apart (hf c hc) hy;have hd:X.A.in1.handled=none:=I.ok.hd hc;have D1:=yW (prog:=X.prog) (w:=X.w) f1 hd i1 a (na i1 (by simp)) its.toArray;have D2:=yW (prog:=X.prog) (w:=X.w) f2 hd i2 b (nb i2 (by simp)) jts.toArray;refine F3 D1 D2 (zr.ap na nb) e1 e2 e3 ⟨e4,p1⟩ ⟨e5,p2⟩ (bn.mp gx).1 (bn.mp gy).1 λh1 tk vx vy px py q1 q2 q3 q4 q5 k1=>⟨_,rfl,?_⟩;have ex':vx=ux:=by
   have:its[i]?=some vx:=by simpa using px
   rw[gx]at this;exact(cx this).symm
  have ey':vy=uy:=by
   have:jts[i]?=some vy:=by simpa using py
   rw[gy]at this;exact(cx this).symm
  subst ex' ey';have lt:∀c∈[z,TI,TO,i1,i2],c≠s.heap.objs.size:=λc hc=>by
   have:∃o,s.heap.get? c=some o:=by
    simp at hc;rcases hc with q |q |q |q |q
    .exact⟨_,q▸e1⟩
    .exact⟨_,q▸e2⟩
    .exact⟨_,q▸e3⟩
    .obtain⟨o,ho,_⟩:=e4.obj
     exact⟨o,q▸ho⟩
    .obtain⟨o,ho,_⟩:=e5.obj
     exact⟨o,q▸ho⟩
   obtain⟨o,ho⟩:=this;exact cw (ax ho)
  refine wpAny_letOwnedTupleGo_zip  q1 λh2 z2 sb2=>?_;have t2:=(sb2.2 _ (lt z (by simp)).symm).trans q5;have I2:aI X BJ σ (aT H s.heap.objs.size (.tup [x,y])) {s with heap:=h2,toks:=tk}:=
   I.turnedNew hf (λc o hc q=>(sb2.2 c (λe=>hc (by simp[e]))).trans (k1 c o (λe=>hc (by simp[e])) (λe=>hc (by simp[e])) (λe=>hc (by simp[e])) (λe=>hc (by simp[e])) q)) (al _)
    ⟨⟨by show 2<=sizeLine;decide,_,t2,rfl⟩,[vx,vy],.cons rx (.cons ry .nil),⟨_,t2,rfl,_,rfl⟩⟩
  refine⟨.ref s.heap.objs.size,_,I2,rfl,⟨_,x,y,I.hok.fresh (al _),rfl,rfl,λzs hz=>by rw[I.seqF_inj hz hx];exact ex,λzs hz=>by rw[I.seqF_inj hz hy];exact ey⟩,
   ⟨z2,(sb2.2 _ zr.tiz).trans (k1 _ _ zr.tiz zr.tito zr.ti1 zr.ti2 e2),⟨_,_,(sb2.2 _ zr.toz).trans q2⟩,q3.1.keep λo q=>(sb2.2 _ zr.i1z).trans q,q4.1.keep λo q=>(sb2.2 _ zr.i2z).trans q⟩,λc hc=>?_⟩
  rw[bQ (lt c hc)];exact(hf c hc).1
 done:=by
  intro X hP hw hK hc i BJ s σ H E I hf st hg;subst hP hw hK;obtain⟨xs,ys,hx,hy,fin⟩:=hg;obtain⟨its,r1,p1,_⟩:=I.seqF hx;obtain⟨jts,r2,p2,_⟩:=I.seqF hy;have l1:=r1.length;have l2:=r2.length;obtain⟨e1,e2,⟨u,v,e3⟩,e4,e5⟩:=st;have na:=λc hc=>I.apart (hf c hc) hx;have nb:=λc hc=>I.apart (hf c hc) hy;have hd:X.A.in1.handled=none:=I.ok.hd hc;have D1:=yW (prog:=X.prog) (w:=X.w) f1 hd i1 a (na i1 (by simp)) its.toArray;have D2:=yW (prog:=X.prog) (w:=X.w) f2 hd i2 b (nb i2 (by simp)) jts.toArray;refine A3 D1 D2 (zr.ap na nb) e1 e2 e3 ⟨e4,p1⟩ ⟨e5,p2⟩ (by rw[bf,bf,<-l1,<-l2];exact fin) λh' tk k=>⟨rfl,?_⟩;exact I.turnedL hf λc o hc q=>k c o (λe=>hc (by simp[e])) (λe=>hc (by simp[e])) (λe=>hc (by simp[e])) (λe=>hc (by simp[e])) q
 self:=λ_ _ _ _ _ st h=>wpAny_pyIter_zip st.1 h
section
variable{X:Cx}{elts:List ah}{x1:Nat}{tp:ai}
def af2(K:ae)(tl:TA):TI:=λσ H R=>tl σ H λvs H1=>∃f1 a f2 b xs ys,vs=[.ref a,.ref b]/\jV f1 K H1 a xs/\jV f2 K H1 b ys/\R (Sz K f1 a f2 b) H1
theorem adl  {tl:TA}{p pos:ai}(hg:Gl X "zip")(hm:X.mg "zip"=none)(hl:PA X [l,r] tl)(hs:starEach [l,r] X.env=[(false,eval l X.env),(false,eval r X.env)]:=by rfl)(hs2:starEach [r] X.env=[(false,eval r X.env)]:=by rfl):
  PI X (.Tuple elts x1 tp) (.Call (.Name "zip" p) [l,r] [] pos) (af2 X.K tl):=by
 intro BJ s σ H R I h;refine Call_ (qH I hg hm boot_zip (ox (bA (hl pos BJ s σ H _ I h) λus s1 hq=>?_) (by rw[hs,hs2]) (by rw[hs2];rfl)));rcases hq with⟨vs,H1,I1,r1,q1⟩;obtain⟨f1,a,f2,b,xs,ys,rfl,hx,hy,q⟩:=q1;obtain⟨u,v,rfl,ru,rv⟩:=Ux r1;cases ru;cases rv;obtain⟨its,_,p1,_⟩:=I1.seqF hx;obtain⟨jts,_,p2,_⟩:=I1.seqF hy;refine D6 (By f1 a its.toArray) (By f2 b jts.toArray) (λh g=>g.keep λo z=>ar _ z) p1 p2 (Kp _ _) (Kp _ _) λh' e1 e2 e3 e4 e5 k=>?_;refine wpAny_pyIter_zip  e1 ?_;have zr:zK (s1.heap.objs.size+4) (s1.heap.objs.size+2) (s1.heap.objs.size+3) s1.heap.objs.size (s1.heap.objs.size+1):=by
  generalize s1.heap.objs.size=n;have g:∀i j:Nat,i≠j->((n:Nat)+i:Nat)≠n+j:=λi j h=>by omega
  exact⟨g 2 4 (by decide),g 3 4 (by decide),g 0 4 (by decide),g 1 4 (by decide),g 2 3 (by decide),g 2 0 (by decide),g 2 1 (by decide),g 3 0 (by decide),g 3 1 (by decide),g 0 1 (by decide)⟩
 refine⟨_,[s1.heap.objs.size+4,s1.heap.objs.size+2,s1.heap.objs.size+3,s1.heap.objs.size,s1.heap.objs.size+1],_,_,H1,rfl,I1.kept  k,aaT f1 f2 a b _ _ _ _ _ zr,⟨e1,e2,⟨_,_,e3⟩,Tm f1 a _ e4,Tm f2 b _ e5⟩,λc hc=>?_,q⟩;have hb:s1.heap.objs.size<=c:=by
  simp only[bj,db,or_false]at hc;rcases hc with q |q |q |q |q
  all_goals rw[q]
  all_goals first |exact al _ |exact Nat.le_add_right _ _
 exact I1.fpOk hb (I1.hok.fresh hb)
end
theorem ad4(K:ae):lq K (.type "int") (.type "bool")=some false:=by
 unfold lq PySem.W.kitCls;rw[if_neg (by decide)];show(if PySem.W.kitMeta "bool"=true then PySem.W.subIn K (.type "int") (.type "bool")else none)=some false;rw[if_pos (by decide+kernel)];show(fastBuiltinMro "int").map (·.contains (.type "bool"))=some false;decide+kernel
structure nY(K:ae)(x qual:Str)(st:Stmt)(f:Addr)(fd:ca)(ds:Array Value):Prop where
 ex:∃(oc:Value)(od:BD)(T:Addr)(oT:Obj)(n:Nat)(kV doc pm:Value)(an:BD)(cdv ct:Value)(osl:Array BC),
  fd=dj x qual (gR st) (eF st) (bY st) (.ref T) kV doc pm an cdv ct/\K.lookup f=some ⟨oc,od,.func fd,osl⟩/\jg K cdv qual=true/\K.lookup T=some oT/\oT.data=.seq ds n
 kp:fm K (.ref f)=true
section
variable{K:ae}
theorem nY.binds  {st:Stmt}{f:Addr}{fd:ca}{ds:Array Value}{ps:List Str}{dd:BB}(F:nY K x qual st f fd ds)
  (h:∀(T:Addr)(kV doc pm:Value)(an:BD)(cdv ct:Value)(us:BB),(us++dd).length=ps.length->
   ∃k,bindArgs (dj x qual (gR st) (eF st) (bY st) (.ref T) kV doc pm an cdv ct) ⟨us,[]⟩=seqItems? (.ref T) >>= k/\k (some ds)=pure (ps.zip (us++dd))):kC K fd ps dd:=by
 obtain⟨oc,od,T,oT,n,kV,doc,pm,an,cdv,ct,osl,rfl,lk,hcd,lT,hT⟩:=F.ex;intro s us hK hl;obtain⟨k,h1,h2⟩:=h T _ _ _ _ _ _ _ hl;exact PySem.W.binds_K hK rfl lT hT h1 h2
theorem Qt  {st:Stmt}{f T:Addr}{oT:Obj}{n:Nat}{ds:Array Value}{oc:Value}{od an:BD}{osl:Array BC}{kV doc pm cdv ct:Value}(l:K.lookup f=some ⟨oc,od,.func (dj x qual (gR st) (eF st) (bY st) (.ref T) kV doc pm an cdv ct),osl⟩)
  (c:jg K cdv qual=true)(k:fm K (.ref f)=true)(lT:K.lookup T=some oT)(hT:oT.data=.seq ds n):nY K x qual st f (dj x qual (gR st) (eF st) (bY st) (.ref T) kV doc pm an cdv ct) ds:=
 ⟨⟨oc,od,T,oT,n,kV,doc,pm,an,cdv,ct,osl,rfl,l,c,lT,hT⟩,k⟩
end
theorem Rv    {cap:List (Nat×Str)}(so:Scope)(N:List Str)(hso:X.env.scope=so)(hN:X.N=N)(kind:sc.kind=.function)(names:∀y∈sc.names,y.2=.local->sc.names.lookup y.1=some .local)
  (nocell:∀y∈sc.names,y.2≠.cell)(free:∀y∈sc.names,y.2=.free->so.names.lookup y.1=some .cell)(at':∀p∈cap,N[p.1]?=some p.2)(hcap:∀p∈cap,sc.names.lookup p.2=some .free):jB X sc own cap:=
 ⟨kind,names,nocell,λy hy e=>by show X.env.scope.names.lookup _=_;rw[hso];exact free y hy e,λp hp=>by rw[hN];exact at' p hp,hcap⟩
theorem Ud(n d:Nat):HT.sIx (n+1) d (some (-1))=n:=by
 unfold HT.sIx;grind
theorem fQ.has       (x:fQ P w H h a o):∃u,h.get? a=some u:=by
 cases o with
 |lst xs=>obtain⟨_,_,_,_,e⟩:=x;exact⟨_,e⟩
 |tup xs=>obtain⟨_,_,_,u,e,_⟩:=x;exact⟨u,e⟩
 |dK kvs=>obtain⟨_,_,_,_,o,_,_,e,_⟩:=x;exact⟨_,e⟩
 |dT kvs=>obtain⟨_,_,_,_,o,_,_,e,_⟩:=x;exact⟨_,e⟩
 |set S n=>obtain⟨o,_,_,_,e,_⟩:=x;exact⟨_,e⟩
 |ins C dx fs=>obtain⟨_,_,_,e,_⟩:=x;exact⟨_,e⟩
 |own y=>exact x
 |xd fs=>obtain⟨_,⟨_,_,_,e,_⟩,_⟩:=x;exact⟨_,e⟩
 |rng lo hi=>obtain⟨_,_,_,e⟩:=x;exact⟨_,e⟩
 |frz ob u=>obtain⟨e,_⟩:=x;exact⟨_,e⟩
 |tbl ps=>exact⟨_,show h.get? a=some _ from x⟩
 |met f y=>exact⟨_,show h.get? a=some _ from x⟩
 |ext φ=>exact x.2.1
@[reducible] def kU:BB:=[.type "ValueError",.type "Exception",.type "BaseException",.type "object"]
theorem abC{K:ae}{h:Heap}{C:Addr}{bmB:BB}{newId:String}(X:K.In h)(q:iw K C bmB newId=true):
  ∃bm N nm qn bs hdct sn sub ab col dd k0 k1 k2 k3 k5 mN,h.get? C=some (excClassObj nm qn C N bs bm hdct sn sub ab col dd k0 k1 k2 k3 k5 newId)/\h.Ns N mN/\mN "__init__"=none/\OwnTail h bmB bm:=by
 unfold iw at q;split at q
 .rename_i dd cd sl ho
  split at q
  .rename_i C' bm k0 k1 k2 k3 n k5 hm hs
   simp only[ja,beq_iff_eq,i8]at q;obtain⟨⟨⟨⟨⟨z1,z2⟩,hdel⟩,ht⟩,hok⟩,hni⟩:=q;subst z1 z2;obtain⟨nm,bs,mro,ns,qn,hd,sn,sub,ab,col,del⟩:=cd;dsimp only at hm hdel hok hni;subst hm hdel;have hsl:sl=#[k0,k1,k2,k3,some (.builtin n),k5]:=by
    obtain⟨l⟩:=sl;simp only at hs;rw[hs]
   subst hsl;refine⟨bm,ns,nm,qn,bs,hd,sn,sub,ab,col,dd,k0,k1,k2,k3,k5,_,X _ _ ho,.of_isNs (xf X hok),ss X hok hni,PySem.W.tail_of_in X ht⟩
  .cases q
 .cases q
def iJ(P:Program)(w:am):jS:=λouter H s E e s'=>∃(x C t:Addr)(B:Heap)(H':Hp),e=.ref x/\s'.os=s.os/\jd s'.gens/\Un (fF outer) [] H H' s.heap s'.heap/\fK P w H' s'.heap/\
 Heap.FlyingW B outer x (.ref C) (.ref t) s'.heap/\(∀b o,s'.heap.get? b=some o->(∃u,H' b=some u)\/(∃o',s.heap.get? b=some o'/\b∉fF outer)->B.get? b=some o)/\E (.ref C) none H'
theorem Y6{P:Program}{w:am}{K:ae}{mg:Str->BC}{base:Heap}{N:List Str}{qual:Str}{scope:Scope}{f:Addr}{cd:Value}{A:aq}{outer:List bi}{BK:aa}{BM:Hp}{E:XK}
  {x:Str}{C:Addr}{txt:Str}{j:Nat}{np p1 cpos pos:ai}(hg:Gl (fD (iJ P w) P w K mg base N qual scope f cd A outer BK BM E) x)(hm:mg x=some (.ref C))(hx:iw K C kU "ValueError.__new__"=true)
  (hd:(x==("__debug__":Str))=false:=by decide):
  PS (fD (iJ P w) P w K mg base N qual scope f cd A outer BK BM E) (.Raise (some (.Call (.Name x np) [.Constant (.str txt) j p1] [] cpos)) none pos) (λ_ _ H=>E (.ref C) none H):=by
 intro BJ s σ H D I h;obtain⟨bm,Nn,nm,qn,bs,hdct,sn,sub,ab,col,dd,k0,k1,k2,k3,k5,mN,hC,hN,hni,T⟩:=abC I.ok.mod.kin hx;refine wpAny_Raise_call_subT (C:=C) (nm:=nm) (q:=qn) (N:=Nn) (bs:=bs) (bm:=bm) (hdct:=hdct) (sn:=sn) (sub:=sub) (ab:=ab) (col:=col) (dd:=dd) (k0:=k0) (k1:=k1) (k2:=k2) (k3:=k3) (k5:=k5)
  PySem.F.excBase_ValueError (mN:=mN) (T.hasType (by decide)) (I.ok.hd rfl) rfl hni (Oq I hg hm ⟨rfl,?_⟩ hd)
 refine qv (bA ((sH adT uZ) cpos BJ s σ H (λvs H1=>vs=[.str txt]/\H1=H) I ⟨rfl,rfl⟩) λus s2 q2=>?_);obtain⟨vs,H2,I2,r2,rfl,rfl⟩:=q2;have l2:=r2.length;refine⟨rfl,by rw[<-l2];show 1<=sizeLine;decide,I2.bk _ _ hC,hN.keeps I2.bk,T.keeps I2.bk,λh' e made=>?_⟩
 --the frame is left
 have stk:(fD (iJ P w) P w K mg base N qual scope f cd A outer BK BM E).stack=envOfC qual scope BK.heap.objs.size f cd::outer:=rfl;have nfr:∀{b u},H2 b=some u->b∉fF (envOfC qual scope BK.heap.objs.size f cd::outer):=λ{b u} q z=>by
  rw[I2.stkFree b z]at q;cases q
 have nL:∀{b o},BK.heap.get? b=some o->b∉fF outer->b∉fF (envOfC qual scope BK.heap.objs.size f cd::outer):=λ{b o} q z y=>by
  rcases bj.mp (I2.stkSub b y)with g |g
  .exact absurd (de (ax q) I2.ok.above) (by rw[g];exact ix _)
  .exact z g
 refine wpAny_leaves_madeW (base:=uq s2.heap (fF (envOfC qual scope BK.heap.objs.size f cd::outer))) (h:=s2.heap) (s:={s2 with heap:=h'}) I2.ok.frames.1 rfl (λb o q=>zb _ q)
  (PySem.W.funFrames_hide I2.stack λenv he b hb=>va.mpr ⟨env,he,hb⟩) made λh'' t fl tup nb ups=>?_
 have keepB:∀b o,s2.heap.get? b=some o->b∉fF (envOfC qual scope BK.heap.objs.size f cd::outer)->h''.get? b=some o:=λb o q z=>fl.1 b o (ur _ q z);have upS:∀b o,s2.heap.get? b=some o->(∀vs,o.data≠.fields vs)->∃sl,h''.get? b=some {o with slots:=sl}:=λb o q z=>ups b o (made.keeps b o q) z;refine⟨e,C,t,_,H2,rfl,I2.os,I2.bare,⟨λb o q n hb _=>?_,λb o q n hb _=>?_,λb o q n _=>I2.base.free b o q n (by intro z;cases z),λb o q _=>?_,I2.base.tups,I2.base.frzs,I2.base.tbls⟩,λb u q=>?_,fl,λb o q z=>?_,h⟩
 .exact keepB b o (I2.base.keep b o q n hb (by intro z;cases z)) (nL q hb)
 .obtain⟨sl,g⟩:=I2.base.slot b o q n hb (by intro z;cases z)
  obtain⟨_,o',ho',hd'⟩:=I2.ok.funs.mem hb;have eo:o'=o:=by
   have ho2:BK.heap.get? b=some o':=ho';rw[q]at ho2;exact(cx ho2).symm
  subst eo;obtain⟨sl',g'⟩:=upS b _ g hd';exact⟨sl',g'⟩
 .obtain⟨o',g⟩:=I2.base.there b o q (by intro z;cases z)
  by_cases c:b∈fF (envOfC qual scope BK.heap.objs.size f cd::outer)
  .obtain⟨_,o2,ho2,hd2⟩:=I2.stack.mem c
   obtain⟨sl,g'⟩:=upS b o2 ho2 hd2;exact⟨_,g'⟩
  .exact⟨o',keepB b o' g c⟩
 .refine(I2.hok b u q).stay (λc v hc g=>keepB c v g ?_) (λ_ g=>g) λ_ _ g=>g
  rcases hc with z |z
  .rw[z]
   exact nfr q
  .exact nfr z
 .have go:∀{o2},s2.heap.get? b=some o2->b∉fF (envOfC qual scope BK.heap.objs.size f cd::outer)->(uq s2.heap (fF (envOfC qual scope BK.heap.objs.size f cd::outer))).get? b=some o:=λ{o2} g n=>by
   have:=keepB b o2 g n;have q':h''.get? b=some o:=q;rw[q']at this;cases this;exact ur _ g n
  rcases z with⟨u,z⟩|⟨o',z,nz⟩
  .obtain⟨o2,g⟩:=(I2.hok b u z).has
   exact go g (nfr z)
  .obtain⟨o2,g⟩:=I2.base.there b o' z (by intro z;cases z)
   exact go g (nL z nz)
section
variable{P:Program}{w:am}{K:ae}{mg:Str->BC}{base:Heap}{CX:jS}
theorem jI.okX  {st:Stmt}{f:Addr}{fd:ca}{N ps:List Str}{k:Nat}{sp:Sp}(F:jI K x qual st f fd)(S:iV N ps (bY st))(len:∀vs H Q E,sp vs H Q E->vs.length=ps.length)
  (hbody:∀(cdv:Value)(A:aq)(outer:List bi)(s:aa)(H:Hp)(vs:List V)(Q:VK)(E:XK),dH k (A.deeper (envOfC qual (bY st) s.heap.objs.size f cdv))->sp vs H Q E->
   ∃t,gG (fD CX P w K mg base N qual (bY st) f cdv A outer s H E) (eF st) t/\t {nx:=λ_ H'=>Q .non H',rt:=Q} (start N vs) H):eI P w K mg base CX (k+1) f fd ps sp:=by
 obtain⟨oc,od,kV,doc,pm,an,cdv,ct,osl,rfl,lk,hcd⟩:=F.ex;exact Zg lk hcd S len λA outer s H vs Q E hr hsp=>hbody _ A _ s H _ Q E hr hsp
theorem nY.okX  {st:Stmt}{f:Addr}{fd:ca}{ds:Array Value}{N ps:List Str}{k:Nat}{sp:Sp}(F:nY K x qual st f fd ds)(S:iV N ps (bY st))(len:∀vs H Q E,sp vs H Q E->vs.length=ps.length)
  (hbody:∀(cdv:Value)(A:aq)(outer:List bi)(s:aa)(H:Hp)(vs:List V)(Q:VK)(E:XK),dH k (A.deeper (envOfC qual (bY st) s.heap.objs.size f cdv))->sp vs H Q E->
   ∃t,gG (fD CX P w K mg base N qual (bY st) f cdv A outer s H E) (eF st) t/\t {nx:=λ_ H'=>Q .non H',rt:=Q} (start N vs) H):eI P w K mg base CX (k+1) f fd ps sp:=by
 obtain⟨oc,od,T,oT,n,kV,doc,pm,an,cdv,ct,osl,rfl,lk,hcd,_,_⟩:=F.ex;exact Zg lk hcd S len λA outer s H vs Q E hr hsp=>hbody _ A _ s H _ Q E hr hsp
end
open PySem.W PySem.Calls PySem.Builtin PySem.Builtin.Getset_descriptor
def gZ(h:Heap)(l:AY)(a:Addr):Prop:=∃o its n,h.get? a=some o/\o.cls=.type "tuple"/\o.data=.seq its n/\aW (l.map V.int) its.toList
def jT(h:Heap)(ks:AZ)(a:Addr):Prop:=∃o its n,h.get? a=some o/\o.cls=.type "tuple"/\o.data=.seq its n/\ib (λk v=>∃b,v=fe b/\gZ h k b) ks its.toList
def hF(l:AY):Int:=reduceHash (i9 (l.map hashInt))
def hN(l:AZ):Int:=reduceHash (i9 (l.map hF))
abbrev iK(prog:Program)(w:am):KeyKind prog w Int:=intKind prog w
theorem Lp:∀{l m:AY}{us:BB},aW (l.map V.int) us->aW (m.map V.int) us->l=m
 |[],[],_,_,_=>rfl
 |[],_::_,_,.nil,h=>nomatch h
 |_::_,[],_,.cons _ _,h=>nomatch h
 |i::l,j::m,_,.cons r t,.cons r' t'=>by
  obtain⟨x,e⟩:=r;obtain⟨y,e'⟩:=r';rw[e]at e';injection e' with e1;rw[e1,Lp t t']
section
variable{prog:Program}{w:am}{A:aq}{E:Value->aa->Prop}{s:aa}{h h':Heap}{a b d:Addr}
theorem gZ.inj  (hx:gZ h x a)(hy:gZ h y a):x=y:=by
 obtain⟨o,its,n,e,_,f,r⟩:=hx;obtain⟨o',its',n',e',_,f',r'⟩:=hy;cases cx (e.symm.trans e');cases f.symm.trans f';exact Lp r r'
theorem jT.inj  (hx:jT h x a)(hy:jT h y a):x=y:=by
 obtain⟨o,its,n,e,_,f,r⟩:=hx;obtain⟨o',its',n',e',_,f',r'⟩:=hy;cases cx (e.symm.trans e');cases f.symm.trans f'
 revert r r'
 generalize its.toList=us;intro r
 induction r generalizing y with
 |nil=>intro r';cases r';rfl
 |cons p _ ih=>
  intro r';cases r' with
  |cons p' t'=>
   obtain⟨b,rfl,g⟩:=p;obtain⟨b',eb,g'⟩:=p';cases eb;rw[g.inj g',ih t']
theorem Cv  {its:Array Value}{n:Nat}{es ep}(e:h.get? a=some o)(f:o.data=.seq its n)(e':h.get? d=some o')(f':o'.data=.dict es ep):a≠d:=by grind
theorem gZ.keep    (x:gZ h l a)(e':h.get? d=some o')(f':o'.data=.dict es ep)(sb:iy d h h'):gZ h' l a:=by
 obtain⟨o,its,n,e,c,f,r⟩:=x;exact⟨o,its,n,(sb.2 a (Cv e f e' f')).trans e,c,f,r⟩
theorem jT.keep    (x:jT h l a)(e':h.get? d=some o')(f':o'.data=.dict es ep)(sb:iy d h h'):jT h' l a:=by
 obtain⟨o,its,n,e,c,f,r⟩:=x;exact⟨o,its,n,(sb.2 a (Cv e f e' f')).trans e,c,f,Paired.mapP r λ_ _ ⟨b,eb,g⟩=>⟨b,eb,g.keep e' f' sb⟩⟩
theorem Rb:∀{l:AY}{us:BB},aW (l.map V.int) us->ItemsAre (iK prog w) l us
 |[],_,.nil=>.nil
 |i::l,_,.cons r t=>by
  obtain⟨t',rfl⟩:=r;exact .cons (by simp[iK,intKind,Value.isInt]) (Rb t)
theorem gZ.key  (x:gZ h l a):IsTupleKey (iK prog w) h l a:=by
 obtain⟨o,its,n,e,c,f,r⟩:=x;exact⟨o,its,n,e,c,f,Rb r⟩
theorem Y5{α:Type}[DecidableEq α](z:α)(l m:List α):((ce (min l.length m.length)).all (λj=>decide (l.getD j z=m.getD j z))&&l.length==m.length)=decide (l=m):=by
 rw[ph,ja,ji,decide_eq_true_iff];constructor
 .rintro⟨h1,h2⟩
  have hl:=by simpa using h2
  refine xh hl λi g1 g2=>?_;have:=h1 i (by grind);simpa[cr,g1,g2]using this
 .rintro rfl
  exact⟨λi _=>by simp,by simp⟩
theorem xK  {R:α->β->Prop}:∀{l:List α}{m:List β},ib R l m->l.length=m.length/\∀(j:Nat)(x:α)(y:β),l[j]?=some x->m[j]?=some y->R x y
 |_,_,.nil=>⟨rfl,λj x y h=>by simp at h⟩
 |_,_,.cons r t=>by
  obtain⟨e,g⟩:=xK t;refine⟨by simp_all,λj x y h1 h2=>?_⟩;cases j with
  |zero=>
   simp_all
  |succ j=>exact g j x y (by simpa using h1) (by simpa using h2)
theorem Xn  [DecidableEq α](z:α){R:α->Value->Prop}{x y:List α}{o o':Obj}{us vs:Array Value}{n n':Nat}(hu:A.units<cLine)(ha:s.heap.get? a=some o)(hc:o.cls=.type "tuple")(hd:o.data=.seq us n)(hb:s.heap.get? b=some o')(hc':o'.cls=.type "tuple")(hd':o'.data=.seq vs n')
  (rx:ib R x us.toList)(ry:ib R y vs.toList)(same:a=b->x=y)(eq:∀k l u v,R k u->R l v->jc A.in1 s u v (decide (k=l))):jc A s (.ref a) (.ref b) (decide (x=y)):=by
 by_cases ab:a=b
 .rw[decide_eq_true (same ab),ab]
  exact sv _
 .obtain⟨m1,g1⟩:=xK rx
  obtain⟨m2,g2⟩:=xK ry;have l1:=by simpa using m1
  have l2:=by simpa using m2
  have:=xi (A:=A) (s:=s) (l:=a) (b:=b)   (e:=λj=>decide (x.getD j z=y.getD j z)) ⟨o,ha,hc,n,hd⟩ ⟨o',hb,hc',n',hd'⟩ hu λj h1 h2=>by
   have i1:j<x.length:=by omega
   have i2:j<y.length:=by omega
   have e1:x.getD j z=x[j]:=by simp[cr,i1]
   have e2:y.getD j z=y[j]:=by simp[cr,i2]
   rw[e1,e2];exact eq _ _ _ _ (g1 j _ _ (ay i1) (by simp[h1])) (g2 j _ _ (ay i2) (by simp[h2]))
  rw[<-l1,<-l2,Y5]at this;exact xj ab this
theorem Rc:∀{l:AY}{us:BB},aW (l.map V.int) us->ib (λ(i:Int) v=>∃t,v=lb i t) l us
 |[],_,.nil=>.nil
 |_::_,_,.cons r t=>.cons r (Rc t)
theorem gZ.eq  (hu:A.units<cLine)(hx:gZ s.heap x a)(hy:gZ s.heap y b):jc A s (.ref a) (.ref b) (decide (x=y)):=by
 have inj:a=b->x=y:=λz=>by subst z;exact hx.inj hy
 obtain⟨o,us,n,e,c,f,r⟩:=hx;obtain⟨o',vs,n',e',c',f',r'⟩:=hy;refine Xn 0 hu e c f e' c' f' (Rc r) (Rc r') inj ?_
 rintro k l u v ⟨t,eu⟩ ⟨t',ev⟩
 have:=j0 (A:=A.in1) (s:=s) k t l t';have e:(k==l)=decide (k=l):=by grind
 simp_all
theorem jT.eq  (hu:A.units+1<cLine)(hx:jT s.heap x a)(hy:jT s.heap y b):jc A s (.ref a) (.ref b) (decide (x=y)):=by
 have inj:a=b->x=y:=λz=>by subst z;exact hx.inj hy
 obtain⟨o,us,n,e,c,f,r⟩:=hx;obtain⟨o',vs,n',e',c',f',r'⟩:=hy;refine Xn [] (xk hu) e c f e' c' f' r r' inj ?_
 rintro k l u v ⟨p,eu,g⟩ ⟨q,ev,g'⟩
 subst eu ev;exact g.eq hu g'
theorem Vk  (hu:A.units<cLine):∀(ks:AZ)(vs:BB)(t:Nat)(acc:Array Int),ib (λk v=>∃b,v=fe b/\gZ s.heap k b) ks vs->
  (∀acc':Array Int,acc'.toList=acc.toList++ks.map hF->Q acc' {s with toks:=t+(ks.map λk=>k.length+1).sum})->
  wpAny (model prog w) A (forIn vs acc λx r=>do let h <-pyHash x;pure PUnit.unit;pure (wz (r.push h))) Q E {s with toks:=t}
 |[],_,t,acc,.nil,q=>au (by simpa using q acc (by simp))
 |k::ks,_,t,acc,.cons ⟨b,eb,g⟩ r,q=>by
  subst eb;rw[re];refine ag (ag (wpAny_pyHash_tuple   hu g.key ?_));refine ag (au (au ?_));refine Vk hu ks _ _ _ r λacc' e=>?_;have:=q acc' (by rw[e];simp[hF,tupleKeyHash,iK,intKind]);simpa[xl]using this
theorem jT.hash  {Q:Int->aa->Prop}(hu:A.units+1<cLine)(hk:jT s.heap ks a)(q:Q (hN ks) {s with toks:=s.toks+((ks.map λk=>k.length+1).sum+1)}):wpAny (model prog w) A (pyHash (.ref a)) Q E s:=by
 obtain⟨o,its,n,e,c,f,r⟩:=hk;refine PySem.W.pyHash_slot  ⟨o,e,c⟩ F.slot_tuple_hash F.entry_tuple_hash (F.args_tuple_hash_1 _) (beq_builtin_none _) (.inr (xk hu)) ?_;show wpAny _ _ (zp _ >>= _) _ _ s;refine ag (wpAny_tupleItemsOf e f (ag ?_));rw[<-j1];refine Vk hu ks _ _ #[] r λacc ea=>?_;show wpAny _ _ (retInt _) _ _ _;rw[ea];exact ag (wpAny_mkInt (au ⟨_,_,rfl,by simpa[hN,xl]using q⟩))
theorem Xj  {P:Value->Prop}(hP:∀v(Q:Bool->aa->Prop),P v->Q true s->wpAny (model prog w) A (eqIsQuiet n v) Q E s){o:Obj}{its:Array Value}{m:Nat}{Q:Bool->aa->Prop}(e:s.heap.get? a=some o)(c:o.cls=.type "tuple")(f:o.data=.seq its m)(r:∀v∈its.toList,P v)(q:Q true s):
  wpAny (model prog w) A (eqIsQuiet (n+1) (.ref a)) Q E s:=by
 have hT:s.TypeIs (.ref a) "tuple":=⟨o,e,c⟩;unfold eqIsQuiet;refine ag (wpAny_specialOf hT F.slot_tuple_eq.lookup (ag (xc hT isSubtype_tuple_tuple ?_)));refine ag (jx e f (ag ?_));rw[<-j1];refine wpAny_forIn_list _ (λeU z s'=>s'=s/\z.1=none/\∀v∈eU,P v) _ ?_ ?_ _ _ ⟨rfl,rfl,r⟩
 .rintro v eU z s' ⟨rfl,hz,hr⟩
  refine ag (hP v _ (hr v bo) ?_);exact au ⟨rfl,rfl,λu hu=>hr u (bd _ hu)⟩
 .rintro⟨z1,z2⟩ s' ⟨rfl,hz,_⟩
  cases hz;exact au q
theorem gZ.quiet  {l:AY}{Q:Bool->aa->Prop}(hk:gZ s.heap l a)(q:Q true s):wpAny (model prog w) A (eqIsQuiet (n+1) (.ref a)) Q E s:=by
 obtain⟨o,its,m,e,c,f,r⟩:=hk;refine Xj  (λv Q' hv q'=>?_) e c f (Rb (prog:=prog) (w:=w) r).byValue q;rw[eqIsQuiet_byValue _ hv];exact au q'
theorem jT.quiet   (hk:jT s.heap ks a)(q:Q true s):wpAny (model prog w) A (eqIsQuiet 8 (.ref a)) Q E s:=by
 obtain⟨o,its,m,e,c,f,r⟩:=hk;refine Xj (P:=λv=>∃k b,v=.ref b/\gZ s.heap k b) (λv Q' ⟨k,b,ev,g⟩ q'=>by subst ev;exact g.quiet  q') e c f (λv hv=>?_) q;obtain⟨l1,g⟩:=xK r;obtain⟨i,hi,ev⟩:=pr.mp hv;have i1:i<ks.length:=by rw[l1];exact hi
 obtain⟨b,eb,gb⟩:=g i _ v (ay i1) (by rw[ay hi,ev]);exact⟨_,b,eb,gb⟩
end
def aaZ(prog:Program)(w:am):HeapKind prog w AZ where
 is:=jT
 hash:=hN
 draws:=λks=>(ks.map λk=>k.length+1).sum+1
 room:=λA=>A.units+1<cLine
 inj:=λhx hy=>hx.inj hy
 keeps:=λx ho hd hs=>x.keep ho hd hs
 pyHash:=λhu hk h=>hk.hash hu h
 eqBool:=λhu hx hy h=>hx.eq hu hy _ _ _ _ h
 quiet:=λhk h=>hk.quiet h
def gL:Bool->Type
 |false=>AY
 |true=>AZ
instance decK:(n:Bool)->DecidableEq (gL n)
 |false=>inferInstanceAs (DecidableEq AY)
 |true=>inferInstanceAs (DecidableEq AZ)
def Tw:(n:Bool)->gL n->Int
 |false=>hF
 |true=>hN
def nO(prog:Program)(w:am):(n:Bool)->HeapKind prog w (gL n)
 |false=>tupleKind (iK prog w)
 |true=>aaZ prog w
theorem Ek  :∀(n:Bool)(k:gL n),(nO prog w n).hash k=Tw n k
 |false,_=>rfl
 |true,_=>rfl
theorem Ec   {A:aq}(hu:A.units+2<cLine):∀n:Bool,(nO prog w n).room A.in1
 |false=>xk hu
 |true=>hu
end L2
namespace L2.Pp
open PySem PySem.Spec PyProof.Rows Bn
section
inductive PV where
 |non |bl (b:Bool) |int (i:Int) |str (x:Str) |tup (xs:List PV) |lst (xs:List PV)
abbrev BF:=List PV
abbrev BG:=Option PV
inductive SO where
 |lst (xs:BF)
 |lol (xss:List BF)
 |dic (n:Bool) (kvs:List (PV×PV))
 |dol (n:Bool) (kvs:List (PV×BF))
abbrev aJ:=List SO
inductive AV where
 |pv (v:PV) |ref (k:Nat)
abbrev BH:=Option AV
abbrev BI:=List AV
abbrev cN:=List BH
inductive bH(α:Type) where
 |ok (a:α) (S:aJ) |exc (n:Str) (S:aJ) |fail
def bH.bind  (r:bH α)(k:α->aJ->bH β):bH β:=match r with
 |.ok a S=>k a S
 |.exc n S=>.exc n S
 |.fail=>.fail
inductive cE where
 |nx (ρ:cN) (S:aJ) |rt (v:AV) (S:aJ) |bk (ρ:cN) (S:aJ) |ct (ρ:cN) (S:aJ) |exc (n:Str) (S:aJ) |fail
def kQ(K:ae)(c:Addr->Prop)(H:Hp)(a:Addr)(vs:List V):Prop:=
 (H a=some (.lst vs)/\¬c a)\/(∃o,H a=some (.frz o (.lst vs)))\/
  ∃(o:Obj)(its:Array Value)(n:Nat),K.lookup a=some o/\o.cls=.type "list"/\o.dict=none/\o.data=.seq its n/\its.size<=sizeLine/\aW vs its.toList
theorem kQ.sq{K:ae}{c:Addr->Prop}{H:Hp}{a:Addr}{vs:List V}(h:kQ K c H a vs):bO K H a vs:=by
 rcases h with h |h |h
 .exact .inl (.inl h.1)
 .exact .inl (.inr h)
 .exact .inr h
mutual
def bG(K:ae)(c:Addr->Prop)(H:Hp):PV->V->Prop
 |.non,x=>x=.non
 |.bl b,x=>x=.bl b
 |.int i,x=>x=.int i
 |.str s,x=>x=.str s
 |.tup xs,x=>∃a vs,x=.ref a/\cG K H a vs/\vs.length<=sizeLine/\aP K c H xs vs
 |.lst xs,x=>∃a vs,x=.ref a/\kQ K c H a vs/\vs.length<=sizeLine/\aP K c H xs vs
def aP(K:ae)(c:Addr->Prop)(H:Hp):BF->List V->Prop
 |[],vs=>vs=[]
 |p::ps,vs=>∃v r,vs=v::r/\bG K c H p v/\aP K c H ps r
end
section
variable{K:ae}{c c':Addr->Prop}{H H':Hp}
mutual
theorem bG.mono(hT:∀a vs,cG K H a vs->cG K H' a vs)(hL:∀a vs,kQ K c H a vs->kQ K c' H' a vs):∀(v:PV)(x:V),bG K c H v x->bG K c' H' v x
 |.non,x,h=>h
 |.bl b,x,h=>h
 |.int i,x,h=>h
 |.str s,x,h=>h
 |.tup xs,x,h=>by
  unfold bG at h⊢;obtain⟨a,vs,e,t,z,r⟩:=h;exact⟨a,vs,e,hT a vs t,z,aP.mono hT hL xs vs r⟩
 |.lst xs,x,h=>by
  unfold bG at h⊢;obtain⟨a,vs,e,t,z,r⟩:=h;exact⟨a,vs,e,hL a vs t,z,aP.mono hT hL xs vs r⟩
theorem aP.mono(hT:∀a vs,cG K H a vs->cG K H' a vs)(hL:∀a vs,kQ K c H a vs->kQ K c' H' a vs):∀(v:BF)(x:List V),aP K c H v x->aP K c' H' v x
 |[],vs,h=>by
  unfold aP at h⊢;exact h
 |p::ps,vs,h=>by
  unfold aP at h⊢;obtain⟨v,r,e,h1,h2⟩:=h;exact⟨v,r,e,bG.mono hT hL p v h1,aP.mono hT hL ps r h2⟩
end
theorem aP.length:∀{xs:BF}{vs:List V},aP K c H xs vs->xs.length=vs.length
 |[],vs,h=>by
  rw[h];rfl
 |p::ps,vs,h=>by
  obtain⟨v,r,rfl,_,h2⟩:=h;rw[ci,ci,aP.length h2]
theorem aP.get:∀{xs:BF}{vs:List V}{i:Nat}{p:PV},aP K c H xs vs->xs[i]?=some p->∃v,vs[i]?=some v/\bG K c H p v
 |[],vs,i,p,h,e=>by simp at e
 |q::ps,vs,0,p,h,e=>by
  obtain⟨v,r,rfl,h1,_⟩:=h;simp at e;subst e;exact⟨v,rfl,h1⟩
 |q::ps,vs,i+1,p,h,e=>by
  obtain⟨v,r,rfl,_,h2⟩:=h;obtain⟨u,e1,e2⟩:=aP.get  h2 (by simpa using e);exact⟨u,by simpa using e1,e2⟩
theorem aP.nil:aP K c H [] []:=rfl
theorem aP.cons     (h:bG K c H p v)(t:aP K c H ps vs):aP K c H (p::ps) (v::vs):=⟨v,vs,rfl,h,t⟩
theorem aP.append:∀{xs ys:BF}{vs ws:List V},aP K c H xs vs->aP K c H ys ws->aP K c H (xs++ys) (vs++ws)
 |[],ys,vs,ws,h,g=>by
  subst h;exact g
 |p::ps,ys,vs,ws,h,g=>by
  obtain⟨v,r,rfl,h1,h2⟩:=h;exact .cons h1 (h2.append g)
theorem aP.drop:∀{xs:BF}{vs:List V}(n:Nat),aP K c H xs vs->aP K c H (xs.drop n) (vs.drop n)
 |xs,vs,0,h=>by simp_all
 |[],vs,n+1,h=>by
  subst h;rfl
 |p::ps,vs,n+1,h=>by
  obtain⟨v,r,rfl,_,h2⟩:=h;simpa using h2.drop n
theorem aP.take:∀{xs:BF}{vs:List V}(n:Nat),aP K c H xs vs->aP K c H (xs.take n) (vs.take n)
 |xs,vs,0,h=>rfl
 |[],vs,n+1,h=>by
  subst h;rfl
 |p::ps,vs,n+1,h=>by
  obtain⟨v,r,rfl,h1,h2⟩:=h;simpa using aP.cons h1 (h2.take n)
theorem aP.eraseIdx:∀{xs:BF}{vs:List V}(n:Nat),aP K c H xs vs->aP K c H (xs.eraseIdx n) (vs.eraseIdx n)
 |[],vs,n,h=>by
  subst h;rfl
 |p::ps,vs,0,h=>by
  obtain⟨v,r,rfl,h1,h2⟩:=h
  simp_all
 |p::ps,vs,n+1,h=>by
  obtain⟨v,r,rfl,h1,h2⟩:=h;simpa using aP.cons h1 (h2.eraseIdx n)
theorem aP.set   (g:bG K c H p v):∀{xs:BF}{vs:List V}(n:Nat),aP K c H xs vs->aP K c H (xs.set n p) (vs.set n v)
 |[],vs,n,h=>by
  subst h;rfl
 |q::ps,vs,0,h=>by
  obtain⟨v,r,rfl,h1,h2⟩:=h;simpa using aP.cons g h2
 |q::ps,vs,n+1,h=>by
  obtain⟨v,r,rfl,h1,h2⟩:=h;simpa using aP.cons h1 (aP.set g n h2)
end
structure Ph where
 f:List Addr
 w:Addr->Prop
 c:Addr->Prop
def yY(K:ae)(c:Addr->Prop)(H:Hp)(xss:List BF)(bs:List Addr):Prop:=
 xss.length=bs.length/\∀(i:Nat)(xs:BF)(b:Addr),xss[i]?=some xs->bs[i]?=some b->∃vs,H b=some (.lst vs)/\vs.length<=sizeLine/\aP K c H xs vs
def eG:(n:Bool)->gL n->PV
 |false,l=>.tup (sy PV.int l)
 |true,l=>.tup (sy (λr:AY=>PV.tup (r.map PV.int)) l)
def oD(es:Array DictEntry)(ep:Nat):Obj:={cls:=.type "dict",data:=.dict es ep}
def dO(a:Addr)(es:Array DictEntry)(ep:Nat):HO:=.ext λh=>h.get? a=some (oD es ep)
def mI(n:Bool)(x:gL n×Addr×Value):DictEntry:=⟨Tw n x.1,.ref x.2.1,x.2.2⟩
def pH(K:ae)(c:Addr->Prop)(H:Hp)(a:Addr)(n:Bool)(ks:BF)(us:BB):Prop:=
 ∃(xs:List (gL n×Addr×Value))(ep:Nat),H a=some (dO a (xs.map (mI n)).toArray ep)/\(a==sysModules)=false/\xs.length<=sizeLine/\(xs.map (·.1)).Nodup/\ks=xs.map (λx=>eG n x.1)/\aP K c H ks (xs.map λx=>V.ref x.2.1)/\us=xs.map (·.2.2)
def pD(K:ae)(p:Ph)(H:Hp)(a:Addr):SO->Prop
 |.lst xs=>∃vs,H a=some (.lst vs)/\vs.length<=sizeLine/\aP K p.c H xs vs
 |.lol xss=>∃bs:List Addr,H a=some (.lst (bs.map V.ref))/\bs.length<=sizeLine/\bs.Nodup/\(∀b∈bs,p.w b/\b∉p.f)/\yY K p.c H xss bs
 |.dic n kvs=>∃us vs,pH K p.c H a n (kvs.map (·.1)) us/\aW vs us/\aP K p.c H (kvs.map (·.2)) vs
 |.dol n kvs=>∃bs:List Addr,pH K p.c H a n (kvs.map (·.1)) (bs.map fe)/\bs.Nodup/\(∀b∈bs,p.w b/\b∉p.f)/\yY K p.c H (kvs.map (·.2)) bs
theorem pH.mono{K:ae}{c c':Addr->Prop}{H H':Hp}{a:Addr}{n:Bool}{ks:BF}{us:BB}(h:pH K c H a n ks us)(ha:∀o,H a=some o->H' a=some o)(hR:∀xs vs,aP K c H xs vs->aP K c' H' xs vs):pH K c' H' a n ks us:=by
 obtain⟨xs,ep,e,z,l,nd,ek,r,eu⟩:=h;exact⟨xs,ep,ha _ e,z,l,nd,ek,hR _ _ r,eu⟩
theorem pD.mono{K:ae}{p p':Ph}{H H':Hp}{a:Addr}{o:SO}(h:pD K p H a o)(ha:∀o,H a=some o->H' a=some o)
  (hb:∀b,p.w b->b∉p.f->(p'.w b/\b∉p'.f)/\∀vs,H b=some (.lst vs)->H' b=some (.lst vs))(hR:∀xs vs,aP K p.c H xs vs->aP K p'.c H' xs vs):pD K p' H' a o:=by
 have lol:∀{xss:List _}{bs:List _},(∀b∈bs,p.w b/\b∉p.f)->yY K p.c H _ bs->yY K _ _ xss _:=λwf ⟨z,at_⟩=>⟨z,λi xs b e1 e2=>by
  obtain⟨vs,g1,g2,g3⟩:=at_ i _ b e1 e2;have m:=wf b (cq e2);exact⟨vs,(hb b m.1 m.2).2 _ g1,g2,hR _ _ g3⟩⟩
 cases o with
 |lst xs=>
  obtain⟨vs,e,l,r⟩:=h;exact⟨vs,ha _ e,l,hR _ _ r⟩
 |lol xss=>
  obtain⟨bs,e,l,nd,wf,z⟩:=h;exact⟨bs,ha _ e,l,nd,λb m=>(hb b (wf b m).1 (wf b m).2).1,lol wf z⟩
 |dic n kvs=>
  obtain⟨us,vs,d,v,r⟩:=h;exact⟨us,vs,d.mono ha hR,v,hR _ _ r⟩
 |dol n kvs=>
  obtain⟨bs,d,nd,wf,z⟩:=h;exact⟨bs,d.mono ha hR,nd,λb m=>(hb b (wf b m).1 (wf b m).2).1,lol wf z⟩
def Mb:HO->Prop
 |.lst _=>True
 |.dK _=>True
 |.dT _=>True
 |.ins _ _ _=>True
 |.ext _=>True
 |_=>False
structure aQ(K:ae)(p:Ph)(S:aJ)(H:Hp):Prop where
 nd:p.f.Nodup
 len:p.f.length=S.length
 sub:∀a∈p.f,p.w a
 wc:∀a,p.w a->p.c a
 mu:∀a,p.c a->∃o,H a=some o/\Mb o
 obj:∀(k:Nat)(a:Addr)(o:SO),p.f[k]?=some a->S[k]?=some o->pD K p H a o
structure bK(p:Ph)(H:Hp)(q:Ph)(H':Hp):Prop where
 wc:∀a,p.w a->p.c a
 mu:∀a,p.c a->∃o,H a=some o/\Mb o
 pre:p.f <+:q.f
 mw:∀a,p.w a->q.w a
 mono:∀a,p.c a->q.c a
 nf:∀a∈q.f,a∉p.f->H a=none
 nw:∀a,q.w a->¬p.w a->H a=none
 nc:∀a,q.c a->¬p.c a->H a=none
 keep:∀a o,H a=some o->¬p.w a->H' a=some o
def dC(K:ae)(p:Ph)(H:Hp):AV->V->Prop
 |.pv v,x=>bG K p.c H v x
 |.ref k,x=>∃a,p.f[k]?=some a/\x=.ref a
abbrev iF(K:ae)(p:Ph)(H:Hp):BI->List V->Prop:=ib (dC K p H)
structure dN(K:ae)(p:Ph)(H:Hp)(ρ:cN)(σ:St):Prop where
 len:ρ.length=σ.length
 at_:∀(i:Nat)(v:AV),ρ[i]?=some (some v)->∃x,σ[i]?=some (some x)/\dC K p H v x
section
variable{K:ae}{p q r:Ph}{H H' H'':Hp}{S:aJ}
theorem aQ.step(s:aQ K p S H):bK p H p H:=⟨s.wc,s.mu,jm,λ_ h=>h,λ_ h=>h,λ_ h g=>absurd h g,λ_ h g=>absurd h g,λ_ h g=>absurd h g,λ_ _ h _=>h⟩
theorem bK.trans(a:bK p H q H')(b:bK q H' r H''):bK p H r H'':=by
 have back:∀x,H' x=none->¬p.w x->H x=none:=λx h n=>by
  cases e:H x with
  |none=>rfl
  |some o=>rw[a.keep x o e n]at h;cases h
 refine⟨a.wc,a.mu,a.pre.trans b.pre,λx h=>b.mw x (a.mw x h),λx h=>b.mono x (a.mono x h),λx h n=>?_,λx h n=>?_,λx h n=>?_,λx o e n=>?_⟩
 .by_cases m:x∈q.f
  .exact a.nf x m n
  .have hn:=b.nf x h m
   refine back x hn λz=>?_;obtain⟨o,ho,_⟩:=b.mu x (a.mono x (a.wc x z))
   simp_all
 .by_cases m:q.w x
  .exact a.nw x m n
  .exact back x (b.nw x h m) n
 .by_cases m:q.c x
  .exact a.nc x m n
  .exact back x (b.nc x h m) λz=>n (a.wc x z)
 .refine b.keep x o (a.keep x o e n) λz=>?_
  rw[a.nw x z n]at e;cases e
theorem bK.tup(s:bK p H q H'){a:Addr}{vs:List V}(h:cG K H a vs):cG K H' a vs:=by
 have go:∀o,H a=some o->¬Mb o->H' a=some o:=λo e n=>s.keep a o e λz=>by
  obtain⟨u,e',m⟩:=s.mu a (s.wc a z);grind
 rcases h with(h |⟨o,h⟩) |h
 .exact .inl (.inl (go _ h λz=>z))
 .exact .inl (.inr ⟨o,go _ h λz=>z ⟩)
 .exact .inr h
theorem bK.lat(s:bK p H q H'){a:Addr}{vs:List V}(h:kQ K p.c H a vs):kQ K q.c H' a vs:=by
 rcases h with⟨h,n⟩|⟨o,h⟩|h
 .refine .inl ⟨s.keep a _ h λz=>n (s.wc a z),λz=>?_⟩
  rw[s.nc a z n]at h<;>grind
 .refine .inr (.inl ⟨o,s.keep a _ h λz=>?_⟩)
  obtain⟨u,e',m⟩:=s.mu a (s.wc a z);rw[h]at e';cases e';exact m
 .exact .inr (.inr h)
theorem bK.rep(s:bK p H q H'){v:PV}{x:V}(h:bG K p.c H v x):bG K q.c H' v x:=bG.mono (λ_ _=>s.tup) (λ_ _=>s.lat) v x h
theorem bK.reps(s:bK p H q H'){v:BF}{x:List V}(h:aP K p.c H v x):aP K q.c H' v x:=aP.mono (λ_ _=>s.tup) (λ_ _=>s.lat) v x h
theorem bK.at_(s:bK p H q H'){k:Nat}{a:Addr}(h:p.f[k]?=some a):q.f[k]?=some a:=by
 obtain⟨t,e⟩:=s.pre;rw[<-e,fu (by
  have:=bn.mp h;exact this.1)]
 exact h
theorem bK.repA(s:bK p H q H'){v:AV}{x:V}(h:dC K p H v x):dC K q H' v x:=by
 cases v with
 |pv v=>exact s.rep h
 |ref k=>
  obtain⟨a,e,f⟩:=h;exact⟨a,s.at_ e,f⟩
theorem bK.repE(s:bK p H q H'){ρ:cN}{σ:St}(h:dN K p H ρ σ):dN K q H' ρ σ:=
 ⟨h.len,λi v e=>let⟨x,e1,e2⟩:=h.at_ i v e;⟨x,e1,s.repA e2⟩⟩
theorem aQ.same(s:aQ K p S H)(h:cZ H H'):bK p H p H':=⟨s.wc,s.mu,jm,λ_ h=>h,λ_ h=>h,λ_ h g=>absurd h g,λ_ h g=>absurd h g,λ_ h g=>absurd h g,λa o e _=>h a o e⟩
theorem aQ.ofSame(s:aQ K p S H)(h:cZ H H'):aQ K p S H':=
 ⟨s.nd,s.len,s.sub,s.wc,λa m=>let⟨o,e,m⟩:=s.mu a m;⟨o,h a o e,m⟩,λk a o e1 e2=>(s.obj k a o e1 e2).mono (λvs e=>h _ _ e) (λb w f=>⟨⟨w,f⟩,λvs e=>h _ _ e⟩) λxs vs=>(s.same h).reps ⟩
theorem iB   (h:H a=none):cZ H (aT H a o):=λb u e=>by
 rw[bQ (gH e h)];exact e
end
section
variable{α β γ δ:Type}
def bU(K:ae)(cl:Str->Addr)(R:Ph->Hp->α->β->Prop)(p:Ph)(H:Hp)(r:bH α)(Q:β->Hp->Prop)(E:XK):Prop:=match r with
 |.ok a S=>∀q H' x,bK p H q H'->aQ K q S H'->R q H' a x->Q x H'
 |.exc n S=>∀q H',bK p H q H'->aQ K q S H'->E (.ref (cl n)) none H'
 |.fail=>False
def eK(K:ae)(cl:Str->Addr)(p:Ph)(H:Hp)(r:cE)(D:tM)(E:XK):Prop:=match r with
 |.nx ρ S=>∀q H' σ,bK p H q H'->aQ K q S H'->dN K q H' ρ σ->D.nx σ H'
 |.bk ρ S=>∀q H' σ,bK p H q H'->aQ K q S H'->dN K q H' ρ σ->D.bk σ H'
 |.ct ρ S=>∀q H' σ,bK p H q H'->aQ K q S H'->dN K q H' ρ σ->D.ct σ H'
 |.rt v S=>∀q H' x,bK p H q H'->aQ K q S H'->dC K q H' v x->D.rt x H'
 |.exc n S=>∀q H',bK p H q H'->aQ K q S H'->E (.ref (cl n)) none H'
 |.fail=>False
variable{K:ae}{cl:Str->Addr}{p q:Ph}{H H':Hp}{S:aJ}{E:XK}{R:Ph->Hp->α->β->Prop}{R':Ph->Hp->γ->δ->Prop}
theorem bU.mono   (h:bU K cl R p H r Q E)(s:bK p H q H'):bU K cl R q H' r Q E:=by
 cases r with
 |ok a S=>exact λq' H'' x s'=>h _ _ x (s.trans s')
 |exc n S=>exact λq' H'' s'=>h _ _ (s.trans s')
 |fail=>exact h
theorem eK.mono   (h:eK K cl p H r D E)(s:bK p H q H'):eK K cl q H' r D E:=by
 cases r with
 |nx ρ S=>exact λq' H'' x s'=>h _ _ x (s.trans s')
 |bk ρ S=>exact λq' H'' x s'=>h _ _ x (s.trans s')
 |ct ρ S=>exact λq' H'' x s'=>h _ _ x (s.trans s')
 |rt v S=>exact λq' H'' x s'=>h _ _ x (s.trans s')
 |exc n S=>exact λq' H'' s'=>h _ _ (s.trans s')
 |fail=>exact h
theorem bU.ret   {Q:β->Hp->Prop}(h:bU K cl R p H (.ok a S) Q E)(s:aQ K p S H)(r:R p H a x):Q x H:=h p H x s.step s r
theorem bU.same   {Q:β->Hp->Prop}(h:bU K cl R p H (.ok a S) Q E)(s:aQ K p S H)(e:cZ H H')(r:R p H' a x):Q x H':=h p _ x (s.same e) (s.ofSame e) r
def tP(K:ae)(cl:Str->Addr)(E:XK)(R:Ph->Hp->α->β->Prop)(m:cN->aJ->bH α)(σ:St)(H:Hp)(Q:β->Hp->Prop):Prop:=
 ∃p S ρ,aQ K p S H/\dN K p H ρ σ/\bU K cl R p H (m ρ S) Q E
def tS(K:ae)(cl:Str->Addr)(E:XK)(m:cN->aJ->cE):TS:=λD σ H=>
 ∃p S ρ,aQ K p S H/\dN K p H ρ σ/\eK K cl p H (m ρ S) D E
theorem bW   {ρ:cN}{σ:St}{Q:δ->Hp->Prop}{T:β->Hp->Prop}(s:aQ K p S H)(e:dN K p H ρ σ)(h:bU K cl R' p H ((m ρ S).bind k) Q E)
  (g:∀q H' a b S',bK p H q H'->aQ K q S' H'->dN K q H' ρ σ->R q H' a b->bU K cl R' q H' (k a S') Q E->T b H'):tP K cl E R m σ H T:=by
 refine⟨p,S,ρ,s,e,?_⟩;cases z:m _ S with
 |ok a S1=>
  rw[z]at h;exact λq H' b st sm r=>g q _ a b _ st sm (st.repE e) r (bU.mono  h st)
 |exc n S1=>
  rw[z]at h;exact h
 |fail=>
  rw[z]at h;exact h
def cE.of  (r:bH α)(k:α->aJ->cE):cE:=match r with
 |.ok a S=>k a S
 |.exc n S=>.exc n S
 |.fail=>.fail
theorem iW   {ρ:cN}{σ:St}{D:tM}{T:β->Hp->Prop}(s:aQ K p S H)(e:dN K p H ρ σ)(h:eK K cl p H (cE.of (m ρ S) k) D E)
  (g:∀q H' a b S',bK p H q H'->aQ K q S' H'->dN K q H' ρ σ->R q H' a b->eK K cl q H' (k a S') D E->T b H'):tP K cl E R m σ H T:=by
 refine⟨p,S,ρ,s,e,?_⟩;cases z:m _ S with
 |ok a S1=>
  rw[z]at h;exact λq H' b st sm r=>g q _ a b _ st sm (st.repE e) r (eK.mono  h st)
 |exc n S1=>
  rw[z]at h;exact h
 |fail=>
  rw[z]at h;exact h
end
end
abbrev RB:Ph->Hp->Bool->Bool->Prop:=λ_ _ a b=>a=b
abbrev ME:=cN->aJ->bH AV
abbrev MT:=cN->aJ->bH Bool
abbrev MA:=cN->aJ->bH BI
abbrev MS:=cN->aJ->cE
section
variable(K:ae)(cl:Str->Addr)(E:XK)(X:Cx)
def aN(e:ah)(m:ME):Prop:=X.K=K->PE X e (tP K cl E (dC K) m)
def fO(e:ah)(m:MT):Prop:=X.K=K->PT X e (tP K cl E RB m)
def kH(e:ah)(m:MT):Prop:=X.K=K->PW X e (tP K cl E RB m)
def eQ(es:List ah)(m:MA):Prop:=X.K=K->PA X es (tP K cl E (iF K) m)
def eC(st:Stmt)(m:MS):Prop:=X.K=K->PS X st (tS K cl E m)
def gB(st:List Stmt)(m:MS):Prop:=X.K=K->gG X st (tS K cl E m)
end
theorem PA.imp    (h:PA X es t)(i:∀σ H Q,t' σ H Q->t σ H Q):PA X es t':=λpos BJ s σ H Q I q=>h _ _ s _ H Q I (i _ H Q q)
theorem PW.imp    (h:PW X e t)(i:∀σ H Q,t' σ H Q->t σ H Q):PW X e t':=λwh BJ s σ H Q I q=>h _ _ s _ H Q I (i _ H Q q)
def aA(i:Nat):ME:=λρ S=>match ρ[i]? with
 |some (some v)=>.ok v S
 |_=>.fail
def mC(v:PV):ME:=λ_ S=>.ok (.pv v) S
def rd(S:aJ):AV->BG
 |.pv v=>some v
 |.ref k=>match S[k]? with
  |some (.lst xs)=>some (.lst xs)
  |_=>none
def gS(S:aJ):BI->Option BF
 |[]=>some []
 |a::r=>match rd S a with
  |some v=>match gS S r with
   |some vs=>some (v::vs)
   |none=>none
  |none=>none
def iN(o:BG)(S:aJ):bH AV:=match o with
 |some r=>.ok (.pv r) S
 |none=>.fail
def sV(f:PV->BG)(a:AV)(S:aJ):bH AV:=iN ((rd S a).bind f) S
def kL(f:PV->PV->BG)(a b:AV)(S:aJ):bH AV:=iN ((rd S a).bind λx=>(rd S b).bind λy=>f x y) S
def bS(f:PV->BG)(ma:ME):ME:=λρ S=>(ma ρ S).bind λx S1=>sV f x S1
def aC(f:PV->PV->BG)(ma mb:ME):ME:=λρ S=>(ma ρ S).bind λx S1=>(mb ρ S1).bind λy S2=>kL f x y S2
def aD:MA:=λ_ S=>.ok [] S
def aB(ma:ME)(mr:MA):MA:=λρ S=>(ma ρ S).bind λx S1=>(mr ρ S1).bind λxs S2=>.ok (x::xs) S2
def nQ:BI->Option BF
 |[]=>some []
 |.pv v::r=>match nQ r with
  |some vs=>some (v::vs)
  |none=>none
 |.ref _::_=>none
def zG(f:BF->BG)(xs:BI)(S:aJ):bH AV:=iN ((nQ xs).bind f) S
def nP(f:BF->BG)(xs:BI)(S:aJ):bH AV:=iN ((gS S xs).bind f) S
def mR(f:BF->BG)(ma:MA):ME:=λρ S=>(ma ρ S).bind λxs S1=>nP f xs S1
def mN(f:BF->BG)(ma:MA):ME:=λρ S=>(ma ρ S).bind λxs S1=>zG f xs S1
def dP(vs:BF):BG:=if vs.length<=16777216 then some (.tup vs)else none
def eB(vs:BF):BG:=if vs.length<=16777216 then some (.lst vs)else none
def kR:AV->aJ->bH Bool
 |.pv (.bl b),S=>.ok b S
 |_,_=>.fail
def aR(m:ME):MT:=λρ S=>(m ρ S).bind kR
def gX(m:MT):MT:=λρ S=>(m ρ S).bind λb S1=>.ok (!b) S1
def jP(m n:MT):MT:=λρ S=>(m ρ S).bind λb S1=>if b=true then n ρ S1 else .ok false S1
def gF(m n:MT):MT:=λρ S=>(m ρ S).bind λb S1=>if b=true then .ok true S1 else n ρ S1
def oZ(m n:ME):ME:=λρ S=>(m ρ S).bind λx S1=>match x with
 |.pv (.bl true)=>n ρ S1
 |.pv (.bl false)=>.ok (.pv (.bl false)) S1
 |_=>.fail
def Sy(m n:ME):ME:=λρ S=>(m ρ S).bind λx S1=>match x with
 |.pv (.bl false)=>n ρ S1
 |.pv (.bl true)=>.ok (.pv (.bl true)) S1
 |_=>.fail
def vO:PV->BG
 |.bl b=>some (.bl (!b))
 |_=>none
def uA(c:MT)(a b:ME):ME:=λρ S=>(c ρ S).bind λt S1=>if t=true then a ρ S1 else b ρ S1
section
variable{K:ae}{cl:Str->Addr}{E:XK}{X:Cx}{a b c e:ah}{es:List ah}{ma mb m:ME}{mt nt:MT}{ms:MA}{pos:ai}
theorem aed(i:Nat){x:Str}(hN:X.N[i]?=some x:=by rfl)(hv:pM X.env.scope x:=by first |exact ie rfl |exact ig (ie rfl) |exact ig (ig rfl))(hd:(x==("__debug__":Str))=false:=by decide)
  (hcd:(x==("__classdict__":Str))=false:=by decide):aN K cl E X (.Name x pos) (aA i):=λ_=>(qL hN hv hd hcd).imp λσ H Q ⟨p,S,ρ,s,e,h⟩=>by
 unfold aA at h;cases z:ρ[i]? with
 |none=>rw[z]at h;exact h.elim
 |some o=>
  cases o with
  |none=>rw[z]at h;exact h.elim
  |some v=>
   rw[z]at h;obtain⟨x,e1,e2⟩:=e.at_ i v z;exact⟨x,e1,bU.ret h s e2⟩
theorem adX  :aN K cl E X (.Constant (.int i) j pos) (mC (.int i)):=λ_=>yL.imp λσ H Q ⟨p,S,ρ,s,e,h⟩=>bU.ret   h s rfl
theorem afl  :aN K cl E X (.Constant (.bool i) j pos) (mC (.bl i)):=λ_=>aft.imp λσ H Q ⟨p,S,ρ,s,e,h⟩=>bU.ret   h s rfl
def eM(K:ae)(p:Ph)(H:Hp)(v:PV)(x:V):Prop:=bG K p.c H v x\/∃xs a vs,v=.lst xs/\x=.ref a/\H a=some (.lst vs)/\vs.length<=sizeLine/\aP K p.c H xs vs
theorem eM.int     (h:eM K p H (.int i) x):x=.int i:=by
 rcases h with h |⟨_,_,_,e,_⟩
 .exact h
 .cases e
theorem eM.bl     (h:eM K p H (.bl i) x):x=.bl i:=by
 rcases h with h |⟨_,_,_,e,_⟩
 .exact h
 .cases e
theorem eM.str     (h:eM K p H (.str i) x):x=.str i:=by
 rcases h with h |⟨_,_,_,e,_⟩
 .exact h
 .cases e
theorem eM.non    (h:eM K p H .non x):x=.non:=by
 rcases h with h |⟨_,_,_,e,_⟩
 .exact h
 .cases e
theorem eM.tup     (h:eM K p H (.tup xs) x):∃a vs,x=.ref a/\cG K H a vs/\vs.length<=sizeLine/\aP K p.c H xs vs:=by
 rcases h with h |⟨_,_,_,e,_⟩
 .exact h
 .cases e
theorem eM.lst     (h:eM K p H (.lst xs) x):∃a vs,x=.ref a/\bO K H a vs/\vs.length<=sizeLine/\aP K p.c H xs vs:=by
 rcases h with h |⟨ys,a,vs,e,e2,h,z,r⟩
 .obtain⟨a,vs,e,l,z,r⟩:=h
  exact⟨a,vs,e,l.sq,z,r⟩
 .cases e
  exact⟨a,vs,e2,bO.of h,z,r⟩
theorem qJ  {S:aJ}{H:Hp}{a:AV}{v:PV}{x:V}(s:aQ K p S H)(r:dC K p H a x)(e:rd S a=some v):eM K p H v x:=by
 cases a with
 |pv u=>cases e;exact .inl r
 |ref k=>
  obtain⟨a,e1,rfl⟩:=r;unfold rd at e;cases z:S[k]? with
  |none=>simp_all
  |some o=>
   cases o with
   |lst xs=>
    simp only[z]at e;cases e;obtain⟨vs,h,l,r⟩:=s.obj k a _ e1 z;exact .inr ⟨xs,a,vs,rfl,rfl,h,l,r⟩
   |lol _=>simp_all
   |dic _ _=>simp_all
   |dol _ _=>simp_all
abbrev Hh(K:ae)(p:Ph)(H:Hp):BF->List V->Prop:=ib (eM K p H)
theorem wY  {S:aJ}{H:Hp}(s:aQ K p S H):∀{as:BI}{vs:BF}{xs:List V},iF K p H as xs->gS S as=some vs->Hh K p H vs xs
 |[],vs,_,.nil,e=>by
  cases e;exact .nil
 |a::r,vs,_,.cons h t,e=>by
  unfold gS at e;cases z:rd S a with
  |none=>simp_all
  |some v=>
   simp only[z]at e;cases y:gS S r with
   |none=>simp_all
   |some us=>
    simp only[y]at e;cases e;exact .cons (qJ s h z) (wY s t y)
def fW(K:ae)(r:R2)(f:PV->PV->BG):Prop:=∀{p:Ph}{S:aJ}{H:Hp}{a b c:PV}{x y:V}{Q:VK},aQ K p S H->eM K p H a x->eM K p H b y->f a b=some c->
 (∀H' z,cZ H H'->bG K p.c H' c z->Q z H')->r x y H Q
def Pa(K:ae)(r:V->Hp->VK->Prop)(f:PV->BG):Prop:=∀{p:Ph}{S:aJ}{H:Hp}{a c:PV}{x:V}{Q:VK},aQ K p S H->eM K p H a x->f a=some c->
 (∀H' z,cZ H H'->bG K p.c H' c z->Q z H')->r x H Q
def CaS(K:ae)(r:List V->Hp->VK->Prop)(f:BF->BG):Prop:=∀{p:Ph}{S:aJ}{H:Hp}{as:BF}{c:PV}{xs:List V}{Q:VK},aQ K p S H->aP K p.c H as xs->f as=some c->
 (∀H' z,cZ H H'->bG K p.c H' c z->Q z H')->r xs H Q
def jH(K:ae)(r:List V->Hp->VK->Prop)(f:BF->BG):Prop:=∀{p:Ph}{S:aJ}{H:Hp}{as:BF}{c:PV}{xs:List V}{Q:VK},aQ K p S H->Hh K p H as xs->f as=some c->
 (∀H' z,cZ H H'->bG K p.c H' c z->Q z H')->r xs H Q
theorem sL     {Q:VK}(s:aQ K p S H)(h:bU K cl (dC K) p H (iN o S) Q E):∃c,o=some c/\∀H' z,cZ H H'->bG K p.c H' c z->Q z H':=by
 cases o with
 |none=>exact h.elim
 |some c=>exact⟨c,rfl,λH' z sm rz=>bU.same  h s sm rz⟩
theorem wS   (hf:fW K r f){p:Ph}{S:aJ}{H:Hp}{a b:AV}{x y:V}{Q:VK}(s:aQ K p S H)(ra:dC K p H a x)(rb:dC K p H b y)(h:bU K cl (dC K) p H (kL f a b S) Q E):r x y H Q:=by
 obtain⟨c,e,k⟩:=sL s h;cases z:rd S a with
 |none=>simp_all
 |some v=>
  cases y:rd S b with
  |none=>simp_all
  |some w=>
   rw[z,y]at e;exact hf s (qJ s ra z) (qJ s rb y) e k
theorem Oc   (hf:Pa K r f){p:Ph}{S:aJ}{H:Hp}{a:AV}{x:V}{Q:VK}(s:aQ K p S H)(ra:dC K p H a x)(h:bU K cl (dC K) p H (sV f a S) Q E):r x H Q:=by
 obtain⟨c,e,k⟩:=sL s h;cases z:rd S a with
 |none=>simp_all
 |some v=>
  rw[z]at e;exact hf s (qJ s ra z) e k
theorem Hm   (hf:jH K r f){p:Ph}{S:aJ}{H:Hp}{as:BI}{xs:List V}{Q:VK}(s:aQ K p S H)(ra:iF K p H as xs)(h:bU K cl (dC K) p H (nP f as S) Q E):r xs H Q:=by
 obtain⟨c,e,k⟩:=sL s h;cases z:gS S as with
 |none=>simp_all
 |some v=>
  rw[z]at e;exact hf s (wY s ra z) e k
theorem Dc  :∀{as:BI}{vs:BF}{xs:List V},nQ as=some vs->iF K p H as xs->aP K p.c H vs xs
 |[],vs,_,e,.nil=>by
  cases e;exact .nil
 |.pv v::r,vs,_,e,.cons h t=>by
  unfold nQ at e;cases z:nQ r with
  |none=>simp only[z]at e;cases e
  |some us=>
   simp only[z]at e;cases e;exact .cons h (Dc z t)
 |.ref k::r,vs,_,e,.cons h t=>by
  cases e
theorem Yl   (hf:CaS K r f){p:Ph}{S:aJ}{H:Hp}{as:BI}{xs:List V}{Q:VK}(s:aQ K p S H)(ra:iF K p H as xs)(h:bU K cl (dC K) p H (zG f as S) Q E):r xs H Q:=by
 obtain⟨c,e,k⟩:=sL s h;cases z:nQ as with
 |none=>simp_all
 |some v=>
  rw[z]at e;exact hf s (Dc z ra) e k
theorem nN    (ho:dM X (binaryOp op) r)(hf:fW X.K r f)(ha:aN K cl E X a ma)(hb:aN K cl E X b mb):aN K cl E X (.BinOp a op b pos) (aC f ma mb):=by
 intro hK;subst hK;refine(Fx ho (ha rfl) (hb rfl)).imp ?_
 rintro σ H Q ⟨p,S,ρ,s,e,h⟩
 exact bW s e h λq H1 a x S1 st s1 e1 r1 h1=>bW s1 e1 h1 λq2 H2 b y S2 st2 s2 e2 r2 h2=>wS hf s2 (st2.repA r1) r2 h2
theorem afe    (ho:Da X (unaryOp op) r)(hf:Pa X.K r f)(ha:aN K cl E X a ma):aN K cl E X (.UnaryOp op a pos) (bS f ma):=by
 intro hK;subst hK;refine(Cy ho (ha rfl)).imp ?_
 rintro σ H Q ⟨p,S,ρ,s,e,h⟩
 exact bW s e h λq H1 a x S1 st s1 e1 r1 h1=>Oc hf s1 r1 h1
theorem sS    (ho:dM X (compareOp op) r)(hf:fW X.K r f)(ha:aN K cl E X a ma)(hb:aN K cl E X b mb)(hm:behindInMarks op b=false):aN K cl E X (.Compare a [op] [b] pos) (aC f ma mb):=by
 intro hK;subst hK;refine(acb ho (ha rfl) (hb rfl) hm).imp ?_
 rintro σ H Q ⟨p,S,ρ,s,e,h⟩
 exact bW s e h λq H1 a x S1 st s1 e1 r1 h1=>bW s1 e1 h1 λq2 H2 b y S2 st2 s2 e2 r2 h2=>wS hf s2 (st2.repA r1) r2 h2
theorem Ay     (r:dC K p H v x){b:Bool}(e:v=.pv (.bl b)):x=.bl b:=by
 subst e;exact r
theorem Yo       (s:aQ K p S H)(r:dC K p H v x)
  (h:bU K cl RB p H (kR v S) Q E):∃k,x=.bl k/\Q k H:=by
 cases v with
 |ref k=>exact h.elim
 |pv v=>
  cases v with
  |bl b=>exact⟨b,Ay r rfl,bU.ret  h s rfl⟩
  |_=>exact h.elim
theorem sJ    (ho:dM X (compareOp op) r)(hf:fW X.K r f)(ha:aN K cl E X a ma)(hb:aN K cl E X b mb)(hm:behindInMarks op b=false):fO K cl E X (.Compare a [op] [b] pos) (aR (aC f ma mb)):=by
 intro hK;subst hK;refine(abF ho (ha rfl) (hb rfl) hm).imp ?_
 rintro σ H Q ⟨p,S,ρ,s,e,h⟩
 have z:tP _ _ E (dC _) _ _ H _:=bW s e h λq H1 a x S1 st s1 e1 r1 h1=>Yo s1 r1 h1;obtain⟨p',S',ρ',s',e',h'⟩:=z;exact bW s' e' h' λq H1 a x S1 st s1 e1 r1 h1=>bW s1 e1 h1 λq2 H2 b y S2 st2 s2 e2 r2 h2=>wS hf s2 (st2.repA r1) r2 h2
theorem abQ(ha:aN K cl E X a ma)(he:∀whole,isTrue a X.env whole=(do let v <-whole;standAt a.pos;holding [v] (truthy v)):=by intro _;rfl):fO K cl E X a (aR ma):=by
 intro hK;subst hK;refine(aep (ha rfl) he).imp ?_
 rintro σ H Q ⟨p,S,ρ,s,e,h⟩
 exact bW s e h λq H1 a x S1 st s1 e1 r1 h1=>Yo s1 r1 h1
theorem abb(ha:fO K cl E X a mt):fO K cl E X (.UnaryOp .Not a pos) (gX mt):=by
 intro hK;subst hK;refine(adm (ha rfl)).imp ?_
 rintro σ H Q ⟨p,S,ρ,s,e,h⟩
 exact bW s e h λq H1 a x S1 st s1 e1 r1 h1=>by
  cases r1;exact bU.ret  h1 s1 rfl
theorem Z8(ha:fO K cl E X a mt):kH K cl E X (.BoolOp .And [a] pos) mt:=λhK=>abI (ha hK)
theorem ack(ha:fO K cl E X a mt):kH K cl E X (.BoolOp .Or [a] pos) mt:=λhK=>acU (ha hK)
theorem kH.pt(h:kH K cl E X a mt):fO K cl E X a mt:=λhK=>PW.pt (h hK)
theorem abv{eU:List ah}(ha:fO K cl E X a mt)(hb:kH K cl E X (.BoolOp .And (b::eU) pos) nt):kH K cl E X (.BoolOp .And (a::b::eU) pos) (jP mt nt):=by
 intro hK;subst hK;refine PW.imp (adI (ha rfl) (hb rfl)) ?_
 rintro σ H Q ⟨p,S,ρ,s,e,h⟩
 refine bW s e h λq H1 a x S1 st s1 e1 r1 h1=>?_;cases r1;cases a with
 |true=>exact⟨q,S1,ρ,s1,e1,h1⟩
 |false=>exact bU.ret  h1 s1 rfl
theorem ad2{eU:List ah}(ha:fO K cl E X a mt)(hb:kH K cl E X (.BoolOp .Or (b::eU) pos) nt):kH K cl E X (.BoolOp .Or (a::b::eU) pos) (gF mt nt):=by
 intro hK;subst hK;refine PW.imp (aeB (ha rfl) (hb rfl)) ?_
 rintro σ H Q ⟨p,S,ρ,s,e,h⟩
 refine bW s e h λq H1 a x S1 st s1 e1 r1 h1=>?_;cases r1;cases a with
 |true=>exact bU.ret  h1 s1 rfl
 |false=>exact⟨q,S1,ρ,s1,e1,h1⟩
theorem ady{eU:List ah}(ha:aN K cl E X a ma)(hb:aN K cl E X (.BoolOp .And (b::eU) pos) mb):aN K cl E X (.BoolOp .And (a::b::eU) pos) (oZ ma mb):=by
 intro hK;subst hK;refine(ac9 (ha rfl) (hb rfl)).imp ?_
 rintro σ H Q ⟨p,S,ρ,s,e,h⟩
 refine bW s e h λq H1 a x S1 st s1 e1 r1 h1=>?_;cases a with
 |ref k=>exact h1.elim
 |pv v=>
  cases v with
  |bl b=>
   refine⟨b,Ay r1 rfl,?_⟩;cases b with
   |true=>exact⟨q,S1,ρ,s1,e1,h1⟩
   |false=>exact bU.ret  h1 s1 (by rfl)
  |_=>exact h1.elim
theorem adC(ha:aN K cl E X a ma):aN K cl E X (.UnaryOp .Not a pos) (bS vO ma):=by
 intro hK;subst hK;refine(adR (ha rfl)).imp ?_
 rintro σ H Q ⟨p,S,ρ,s,e,h⟩
 refine bW s e h λq H1 a x S1 st s1 e1 r1 h1=>?_;refine Oc (r:=λx H Q=>∃c,x=.bl c/\Q (.bl !c) H)  (λ{p S H a c x Q} s r e k=>?_) s1 r1 h1;cases a with
 |bl b=>
  cases e;exact⟨b,r.bl,k H _ (cZ.refl H) (by rfl)⟩
 |_=>cases e
theorem afm(hc:fO K cl E X c mt)(ha:aN K cl E X a ma)(hb:aN K cl E X b mb):aN K cl E X (.IfExp c a b pos) (uA mt ma mb):=by
 intro hK;subst hK;refine(X7 (hc rfl) (ha rfl) (hb rfl)).imp ?_
 rintro σ H Q ⟨p,S,ρ,s,e,h⟩
 refine bW s e h λq H1 a x S1 st s1 e1 r1 h1=>?_;cases r1;cases a with
 |true=>exact⟨q,S1,ρ,s1,e1,h1⟩
 |false=>exact⟨q,S1,ρ,s1,e1,h1⟩
theorem acA:eQ K cl E X [] aD:=λ_=>PA.imp uZ λσ H Q ⟨p,S,ρ,s,e,h⟩=>bU.ret  h s .nil
theorem Z4(ha:aN K cl E X e m)(hr:eQ K cl E X es ms)(hs:starEach (e::es) X.env=(false,eval e X.env)::starEach es X.env:=by rfl):eQ K cl E X (e::es) (aB m ms):=by
 intro hK;subst hK;refine PA.imp (sH (ha rfl) (hr rfl) hs) ?_
 rintro σ H Q ⟨p,S,ρ,s,e,h⟩
 exact bW s e h λq H1 a x S1 st s1 e1 r1 h1=>bW s1 e1 h1 λq2 H2 b y S2 st2 s2 e2 r2 h2=>bU.ret  h2 s2 (.cons (st2.repA r1) r2)
theorem qD       (s:aQ K p S H)(r:aP K p.c H vs xs)(z:xs.length<=sizeLine)(ht:H t=none):bG K p.c (aT H t (.tup xs)) (.tup vs) (.ref t):=⟨t,xs,rfl,cG.of fP,z,(s.same (iB ht)).reps r⟩
theorem nC       (s:aQ K p S H)(r:aP K p.c H vs xs)(z:xs.length<=sizeLine)(ht:H t=none):bG K p.c (aT H t (.lst xs)) (.lst vs) (.ref t):=by
 refine⟨t,xs,rfl,.inl ⟨fP,λc=>?_⟩,z,(s.same (iB ht)).reps r⟩;obtain⟨o,e,_⟩:=s.mu t c;grind
theorem kS:sizeLine=16777216:=kb
theorem adg  (h:eQ K cl E X es ms):aN K cl E X (.Tuple es x1 pos) (mN dP ms):=by
 intro hK;subst hK;refine(aeg (h rfl)).imp ?_
 rintro σ H Q ⟨p,S,ρ,s,e,h⟩
 refine bW s e h λq H1 as xs S1 st s1 e1 r1 h1=>?_;refine Yl (r:=λxs H Q=>xs.length<=sizeLine/\∀t,H t=none->Q (.ref t) (aT H t (.tup xs)))  (λ{p S H as c xs Q} s r e k=>?_) s1 r1 h1;unfold dP at e;split at e
 .rename_i hl
  cases e;rw[r.length]at hl;exact⟨hl,λt ht=>k _ _ (iB ht) (qD s r hl ht)⟩
 .cases e
theorem adJ(h:eQ K cl E X es ms):aN K cl E X (.List es pos) (mN eB ms):=by
 intro hK;subst hK;refine(Ag (h rfl)).imp ?_
 rintro σ H Q ⟨p,S,ρ,s,e,h⟩
 refine bW s e h λq H1 as xs S1 st s1 e1 r1 h1=>?_;refine Yl (r:=λxs H Q=>xs.length<=sizeLine/\∀t,H t=none->Q (.ref t) (aT H t (.lst xs)))  (λ{p S H as c xs Q} s r e k=>?_) s1 r1 h1;unfold eB at e;split at e
 .rename_i hl
  cases e;rw[r.length]at hl;exact⟨hl,λt ht=>k _ _ (iB ht) (nC s r hl ht)⟩
 .cases e
end
section
open PySem PySem.Spec PyProof.Rows Bn
def cF:MS:=λρ S=>.nx ρ S
def aE(a b:MS):MS:=λρ S=>match a ρ S with
 |.nx ρ1 S1=>b ρ1 S1
 |r=>r
def cK(m:ME):MS:=λρ S=>cE.of (m ρ S) λ_ S1=>.nx ρ S1
def aU(m:ME):MS:=λρ S=>cE.of (m ρ S) λv S1=>.rt v S1
def nS:MS:=λ_ S=>.rt (.pv .non) S
def bI(c:MT)(a b:MS):MS:=λρ S=>cE.of (c ρ S) λt S1=>if t=true then a ρ S1 else b ρ S1
def aM(i:Nat)(m:ME):MS:=λρ S=>cE.of (m ρ S) λv S1=>.nx (ρ.set i (some v)) S1
def vV(i j:Nat)(m:MA):MS:=λρ S=>cE.of (m ρ S) λvs S1=>match vs with
 |[v,w]=>.nx ((ρ.set i (some v)).set j (some w)) S1
 |_=>.fail
abbrev GM:=PV->cN->Option cN
abbrev rF:=BF->cN->Option cN
def gN(i:Nat):GM:=λv ρ=>some (ρ.set i (some (.pv v)))
def eA:rF:=λvs ρ=>match vs with
 |[]=>some ρ
 |_=>none
def cD(g:GM)(gs:rF):rF:=λvs ρ=>match vs with
 |[]=>none
 |v::r=>match g v ρ with
  |some ρ1=>gs r ρ1
  |none=>none
def gT(n:Nat)(gs:rF):GM:=λv ρ=>match v with
 |.tup vs=>if vs.length=n then gs vs ρ else none
 |_=>none
def qS(g:GM)(m:ME):MS:=λρ S=>cE.of (m ρ S) λv S1=>match v with
 |.pv v=>match g v ρ with
  |some ρ1=>.nx ρ1 S1
  |none=>.fail
 |_=>.fail
abbrev Gd:=List (Nat×BF)
def kI(G:Gd)(S:aJ):Prop:=∀g∈G,S[g.1]?=some (.lst g.2)
theorem nB(S:aJ):kI [] S:=λ_ h=>nomatch h
abbrev MI:=cN->aJ->bH (BF×Gd)
open Classical in
def dL(G:Gd)(g:GM)(mb:MS):BF->cN->aJ->cE
 |[],ρ,S=>if kI G S then .nx ρ S else .fail
 |x::r,ρ,S=>if kI G S then(match g x ρ with
  |none=>.fail
  |some ρ1=>match mb ρ1 S with
   |.nx ρ2 S2=>dL G g mb r ρ2 S2
   |.ct ρ2 S2=>dL G g mb r ρ2 S2
   |.bk ρ2 S2=>.nx ρ2 S2
   |.rt v S2=>.rt v S2
   |.exc n S2=>.exc n S2
   |.fail=>.fail)else .fail
def aY(mi:MI)(g:GM)(mb:MS):MS:=λρ S=>cE.of (mi ρ S) λxs S1=>dL xs.2 g mb xs.1 ρ S1
theorem eZ    :dL [] g mb [] ρ S=.nx ρ S:=by
 unfold dL;rw[if_pos (nB S)]
theorem dY      :dL [] g mb (x::r) ρ S=(match g x ρ with
  |none=>.fail
  |some ρ1=>match mb ρ1 S with
   |.nx ρ2 S2=>dL [] g mb r ρ2 S2
   |.ct ρ2 S2=>dL [] g mb r ρ2 S2
   |.bk ρ2 S2=>.nx ρ2 S2
   |.rt v S2=>.rt v S2
   |.exc n S2=>.exc n S2
   |.fail=>.fail):=by
 rw[dL,if_pos (nB S)]
def eT(c:MT)(mb:MS):Nat->cN->aJ->cE
 |0,_,_=>.fail
 |n+1,ρ,S=>cE.of (c ρ S) λt S1=>if t=true then(match mb ρ S1 with
   |.nx ρ2 S2=>eT c mb n ρ2 S2
   |.ct ρ2 S2=>eT c mb n ρ2 S2
   |.bk ρ2 S2=>.nx ρ2 S2
   |.rt v S2=>.rt v S2
   |.exc n S2=>.exc n S2
   |.fail=>.fail)else .nx ρ S1
open Classical in
def nJ(c:MT)(mb:MS):MS:=λρ S=>if h:∃n,eT c mb n ρ S≠.fail then eT c mb h.choose ρ S else .fail
theorem cE.of_ok   {k k':α->aJ->cE}(h:∀a S,k a S≠.fail->k' a S=k a S)(n:cE.of r k≠.fail):cE.of r k'=cE.of r k:=by
 cases r with
 |ok a S=>exact h a S n
 |exc=>rfl
 |fail=>rfl
theorem Nb  {mb:MS}:∀{n:Nat}{ρ:cN}{S:aJ},eT c mb n ρ S≠.fail->eT c mb (n+1) ρ S=eT c mb n ρ S
 |0,_,_,h=>absurd rfl h
 |n+1,ρ,S,h=>by
  refine cE.of_ok (λt S1 h1=>?_) h
  by_cases ht:t=true
  .simp only[if_pos ht]at h1⊢
   cases z:mb _ _ with
   |nx ρ2 S2=>rw[z]at h1;exact Nb h1
   |ct ρ2 S2=>rw[z]at h1;exact Nb h1
   |_=>rfl
  .simp_all
theorem Ub      (h:eT c mb n ρ S≠.fail):∀k,eT c mb (n+k) ρ S=eT c mb n ρ S
 |0=>rfl
 |k+1=>by
  have ih:=Ub h k;rw[<-xl,Nb (by rw[ih];exact h),ih]
theorem wT    {ρ:cN}{S:aJ}{r:cE}(e:eT c mb n ρ S=r)(h:r≠.fail):nJ c mb ρ S=r:=by
 have h':∃n,eT c _ n _ S≠.fail:=⟨n,by rw[e];exact h⟩;unfold nJ;rw[dif_pos h'];have e2:=h'.choose_spec;rcases Nat.le_total n h'.choose with l |l
 .obtain⟨k,q⟩:=j2 l
  rw[q,Ub (by rw[e];exact h),e]
 .obtain⟨k,q⟩:=j2 l
  have z:=Ub e2 k
  simp_all
section
variable{K:ae}{cl:Str->Addr}{E:XK}{X:Cx}{a b c e tg:ah}{es:List ah}{m:ME}{mt:MT}{ms:MA}{b1 b2:MS}{st:Stmt}{sts sts':List Stmt}{pos:ai}
theorem dN.set   {ρ:cN}{σ:St}{v:AV}{x:V}(h:dN K p H ρ σ)(r:dC K p H v x)(i:Nat):dN K p H (ρ.set i (some v)) (σ.set i (some x)):=by
 refine⟨by rw[ff,ff,h.len],λj u e=>?_⟩
 by_cases q:i=j
 .subst q
  by_cases l:i<ρ.length
  .rw[df l]at e
   cases e;exact⟨x,df (by rw[<-h.len];exact l),r⟩
  .simp_all
 .rw[dk q]at e⊢
  exact h.at_ j u e
theorem aaU:gB K cl E X [] cF:=λ_=>gG.imp abq λD σ H ⟨p,S,ρ,s,e,h⟩=>h p H _ s.step s e
theorem eK.nxD      (h:eK K cl p H (.nx ρ S) D E){σ:St}(s:aQ K p S H)(e:dN K p H ρ σ):D.nx σ H:=h p H _ s.step s e
theorem Q3(h1:eC K cl E X st b1)(h2:gB K cl E X sts b2):gB K cl E X (st::sts) (aE b1 b2):=by
 intro hK;subst hK;refine gG.imp (aaN (h1 rfl) (h2 rfl)) λD σ H ⟨p,S,ρ,s,e,h⟩=>⟨p,S,ρ,s,e,?_⟩;unfold aE at h;cases z:b1 ρ S with
 |nx ρ1 S1=>
  rw[z]at h;exact λq H' σ' cO sm ev=>⟨q,S1,ρ1,sm,ev,eK.mono  h cO⟩
 |bk ρ1 S1=>rw[z]at h;exact h
 |ct ρ1 S1=>rw[z]at h;exact h
 |rt v S1=>rw[z]at h;exact h
 |exc n S1=>rw[z]at h;exact h
 |fail=>rw[z]at h;exact h
theorem aaa(h1:eC K cl E X st b1):gB K cl E X [st] b1:=λhK=>Xs (h1 hK)
theorem aaB(he:aN K cl E X e m)(hs:swapsWith e none pos.line X.env=pure false:=by rfl):eC K cl E X (.Expr e pos) (cK m):=by
 intro hK;subst hK;refine PS.imp (aco (he rfl) hs) ?_
 rintro D σ H ⟨p,S,ρ,s,e,h⟩
 exact iW s e h λq H' a b S' cO sm ev r k=>eK.nxD k sm ev
theorem abL(he:aN K cl E X e m):eC K cl E X (.Return (some e) pos) (aU m):=by
 intro hK;subst hK;refine PS.imp (adZ (he rfl)) ?_
 rintro D σ H ⟨p,S,ρ,s,e,h⟩
 exact iW s e h λq H' a b S' cO sm ev r k=>k q _ b sm.step sm r
theorem aaM:eC K cl E X (.Return none pos) nS:=λ_=>PS.imp abB λD σ H ⟨p,S,ρ,s,e,h⟩=>h p H .non s.step s (by show bG K p.c H .non .non;unfold bG;rfl)
theorem ada(hc:fO K cl E X c mt)(ha:gB K cl E X sts b1)(hb:gB K cl E X sts' b2):eC K cl E X (.If c sts sts' pos) (bI mt b1 b2):=by
 intro hK;subst hK;refine PS.imp (aeV (hc rfl) (ha rfl) (hb rfl)) ?_
 rintro D σ H ⟨p,S,ρ,s,e,h⟩
 refine iW s e h λq H' a b S' cO sm ev r k=>?_;cases r;cases a with
 |true=>exact⟨q,S',ρ,sm,ev,k⟩
 |false=>exact⟨q,S',ρ,sm,ev,k⟩
theorem Bs    (hN:X.N.Nodup)(hi:X.N[i]?=some x)(hx:lI X.env.scope x)(he:aN K cl E X e m)(hs:swapsWith e (some (.Name x pos')) pos.line X.env=pure false:=by rfl)
  (hf:X.fn x=true\/X.env.scope.names.lookup x=some .local:=by first |exact .inl rfl |exact .inr rfl |assumption):eC K cl E X (.Assign [.Name x pos'] e pos) (aM i m):=by
 intro hK;subst hK;refine PS.imp (ad6 hN hi hx (he rfl) hs hf) ?_
 rintro D σ H ⟨p,S,ρ,s,e,h⟩
 exact iW s e h λq H' a b S' cO sm ev r k=>eK.nxD k sm (ev.set r i)
theorem aby  {x y:Str}{px py pt:ai}{kt k2 fE}(hc:X.calm=true)(hN:X.N.Nodup)(hi:X.N[i]?=some x)(hj:X.N[j]?=some y)(hij:i≠j)
  (hx:X.env.scope.names.lookup x=some .local)(hy:X.env.scope.names.lookup y=some .local)(ha:eQ K cl E X [a,b] ms)
  (hw:swappedStores [.Tuple [.Name x px,.Name y py] kt pt] (.Tuple [a,b] k2 fE) X.env=pure (some [x,y]))
  (hs:swapsWithSole [.Tuple [.Name x px,.Name y py] kt pt] (.Tuple [a,b] k2 fE) pos.line X.env=pure false:=by rfl):
  eC K cl E X (.Assign [.Tuple [.Name x px,.Name y py] kt pt] (.Tuple [a,b] k2 fE) pos) (vV i j ms):=by
 intro hK;subst hK;refine PS.imp (adY hc hN hi hj hij hx hy (ha rfl) hw hs) ?_
 rintro D σ H ⟨p,S,ρ,s,e,h⟩
 refine iW s e h λq H' vs xs S' cO sm ev r k=>?_;cases r with
 |nil=>exact k.elim
 |cons r1 rr=>
  cases rr with
  |nil=>exact k.elim
  |cons r2 rs=>
   cases rs with
   |nil=>exact⟨_,_,rfl,eK.nxD k sm ((ev.set r1 i).set r2 j)⟩
   |cons _ _=>exact k.elim
def gP(K:ae)(g:GM):TG:=λx σ H Q=>∃p S ρ v ρ',aQ K p S H/\dN K p H ρ σ/\bG K p.c H v x/\g v ρ=some ρ'/\∀σ',dN K p H ρ' σ'->Q σ' H
def gPs(K:ae)(g:rF):pL:=λxs σ H Q=>∃p S ρ vs ρ',aQ K p S H/\dN K p H ρ σ/\aP K p.c H vs xs/\g vs ρ=some ρ'/\∀σ',dN K p H ρ' σ'->Q σ' H
variable(K X)
def mO(tg:ah)(g:GM):Prop:=X.K=K->PG X tg (gP K g)
def tO(ts:List ah)(g:rF):Prop:=X.K=K->mL X ts (gPs K g)
variable{K X}
theorem PG.imp   (h:PG X tg t)(i:∀x σ H Q,t' x σ H Q->t x σ H Q):PG X tg t':=λBJ s σ H v u Q I r q=>h _ s _ H v u Q I r (i v _ H Q q)
theorem mL.imp   (h:mL X ts t)(i:∀x σ H Q,t' x σ H Q->t x σ H Q):mL X ts t':=λBJ s σ H v u Q I r q=>h _ s _ H v u Q I r (i v _ H Q q)
theorem aaf   (hN:X.N.Nodup)(hi:X.N[i]?=some x)(hx:lI X.env.scope x)(hf:X.fn x=true\/X.env.scope.names.lookup x=some .local:=by first |exact .inl rfl |exact .inr rfl |assumption):mO K X (.Name x pos) (gN i):=
 λ_=>PG.imp (Ws hN hi hx hf) λx σ H Q ⟨p,S,ρ,v,ρ',s,ev,r,g,k⟩=>by
  cases g;exact k _ (ev.set (v:=.pv v) r i)
theorem aac:tO K X [] eA:=λ_=>mL.imp abn λxs σ H Q ⟨p,S,ρ,vs,ρ',s,ev,r,g,k⟩=>by
 cases vs with
 |nil=>
  cases g;exact⟨r,k _ ev⟩
 |cons _ _=>cases g
theorem O3   (h1:mO K X e g)(h2:tO K X es gs)(hs:(assignEach (e::es) X.env).map (·.2)=assign e X.env::(assignEach es X.env).map (·.2):=by rfl):tO K X (e::es) (cD g gs):=by
 intro hK;subst hK;refine mL.imp (aav (h1 rfl) (h2 rfl) hs) ?_
 rintro xs σ H Q ⟨p,S,ρ,vs,ρ',s,ev,r,g1,k⟩
 cases vs with
 |nil=>cases g1
 |cons v vr=>
  obtain⟨x,xr,rfl,r1,r2⟩:=r;unfold cD at g1;cases z:g v ρ with
  |none=>simp_all
  |some ρ1=>
   simp only[z]at g1;exact⟨x,xr,rfl,p,S,ρ,v,ρ1,s,ev,r1,z,λσ' ev'=>⟨p,S,ρ1,vr,ρ',s,ev',r2,g1,k⟩⟩
theorem acB{k:Nat}{gs:rF}{n:Nat}(hc:X.calm=true)(h:tO K X es gs)(hn:(assignEach es X.env).length=n:=by rfl)(hst:(assignEach es X.env).findIdx? (·.1)=none:=by rfl):mO K X (.Tuple es k pos) (gT n gs):=by
 intro hK;subst hK;refine PG.imp (ac7 hc (h rfl) hn hst) ?_
 rintro x σ H Q ⟨p,S,ρ,v,ρ',s,ev,r,g1,k⟩
 cases v with
 |tup vs=>
  obtain⟨a,xs,rfl,t,z,r⟩:=r;unfold gT at g1;dsimp only at g1;split at g1
  .rename_i hl
   exact⟨a,xs,rfl,t,r.length.symm.trans hl,p,S,ρ,vs,ρ',s,ev,r,g1,k⟩
  .cases g1
 |_=>cases g1
theorem acq{g:GM}(he:aN K cl E X e m)(hg:mO K X tg g)(hs:swapsWithSole [tg] e pos.line X.env=pure false:=by rfl)(hw:swappedStores [tg] e X.env=pure none:=by rfl)
  (h1:(assignEach [tg] X.env).map (·.2)=[assign tg X.env]:=by rfl):eC K cl E X (.Assign [tg] e pos) (qS g m):=by
 intro hK;subst hK;refine PS.imp (yM (he rfl) (hg rfl) hs hw h1) ?_
 rintro D σ H ⟨p,S,ρ,s,e,h⟩
 refine iW s e h λq H' a b S' cO sm ev r k=>?_;cases a with
 |ref k'=>exact k.elim
 |pv v=>
  dsimp only at k;cases z:g v ρ with
  |none=>simp only[z]at k;exact k.elim
  |some ρ1=>
   simp only[z]at k;exact⟨q,S',ρ,v,ρ1,sm,ev,r,z,λσ' ev'=>eK.nxD k sm ev'⟩
def jO(K:ae)(p:Ph)(H:Hp)(xs:BF×Gd)(J:It):Prop:=xs.1.length<=sizeLine/\∀q H1 S1,bK p H q H1->aQ K q S1 H1->kI xs.2 S1->
 (∀(i:Nat)(v:PV),xs.1[i]?=some v->J.go i H1/\∀x H2,J.yld i H1 x H2->cZ H1 H2/\bG K q.c H2 v x)/\J.stop xs.1.length H1
theorem jO.step  {H H':Hp}{xs:BF×Gd}{J:It}(h:jO K p H xs J)(s:bK p H q H'):jO K q H' xs J:=⟨h.1,λr H1 S1 t=>h.2 r _ _ (s.trans t)⟩
variable(K cl E X)
def PIp(tg iter:ah)(m:MI):Prop:=X.K=K->PI X tg iter (tP K cl E (jO K) m)
variable{K cl E X}
theorem PI.imp   (h:PI X tg iter t)(i:∀σ H Q,t' σ H Q->t σ H Q):PI X tg iter t':=λBJ s σ H R I q=>h _ s _ H R I (i _ H R q)
def agk(K:ae)(tl:TE):TI:=λσ H R=>tl σ H λx H1=>∃a,x=.ref a/\(((∃xs,bO K H1 a xs)/\R (Ta K a) H1)\/((∃xs,cG K H1 a xs)/\R (Ui K a) H1))
theorem Qv   (hl:PE X l tl):PI X tg l (agk X.K tl):=by
 intro BJ s σ H R I h;refine bA (hl _ s σ H _ I h) ?_
 rintro v s1 ⟨x,H1,I1,r1,q1⟩
 obtain⟨a,e,q⟩:=q1;subst e;cases r1;rcases q with⟨⟨xs,hq⟩,q⟩|⟨⟨xs,hq⟩,q⟩
 .obtain⟨its,rv,p,hz⟩:=I1.list hq
  refine ng p.isList ?_;refine⟨s1.heap.objs.size,[s1.heap.objs.size],_,_,H1,rfl,I1.kept  λb o e=>ar _ e,O2 a _,⟨_,cj _ rfl,rfl,rfl⟩,λb hb=>?_,q⟩;have e:=by simpa using hb
  subst e;exact I1.fpOk (al _) (I1.hok.fresh (al _))
 .obtain⟨its,rv,p,hz⟩:=I1.tuple hq
  refine pz (show s1.heap.IsTuple a _ from p) ?_;refine⟨s1.heap.objs.size,[s1.heap.objs.size],_,_,H1,rfl,I1.kept  λb o e=>ar _ e,M2 a _,⟨_,cj _ rfl,rfl,rfl⟩,λb hb=>?_,q⟩;have e:=by simpa using hb
  subst e;exact I1.fpOk (al _) (I1.hok.fresh (al _))
def bT:AV->aJ->bH (BF×Gd)
 |.pv (.lst xs),S=>.ok (xs,[]) S
 |.pv (.tup xs),S=>.ok (xs,[]) S
 |.ref k,S=>match S[k]? with
  |some (.lst xs)=>.ok (xs,[(k,xs)]) S
  |_=>.fail
 |_,_=>.fail
def aX(m:ME):MI:=λρ S=>(m ρ S).bind bT
theorem adt  {H:Hp}{xs:BF}{a:Addr}{vs:List V}(l:kQ K p.c H a vs)(z:vs.length<=sizeLine)(r:aP K p.c H xs vs):jO K p H (xs,[]) (Ta K a):=by
 refine⟨by rw[r.length];exact z,λq H1 S1 st _ _=>⟨λi v e=>?_,?_⟩⟩
 .have l1:=(st.lat l).sq
  obtain⟨x,e1,r1⟩:=(st.reps r).get e;refine⟨⟨vs,x,l1,e1⟩,λy H2 hy=>?_⟩;obtain⟨rfl,hy⟩:=hy;have:=(hy _ l1).symm.trans e1;cases this;exact⟨cZ.refl _,r1⟩
 .exact⟨vs,(st.lat l).sq,by rw[r.length];simp_all ⟩
theorem ac8  {H:Hp}{xs:BF}{a:Addr}{vs:List V}(l:cG K H a vs)(z:vs.length<=sizeLine)(r:aP K p.c H xs vs):jO K p H (xs,[]) (Ui K a):=by
 refine⟨by rw[r.length];exact z,λq H1 S1 st _ _=>⟨λi v e=>?_,?_⟩⟩
 .have l1:=st.tup l
  obtain⟨x,e1,r1⟩:=(st.reps r).get e;refine⟨⟨vs,x,l1,e1⟩,λy H2 hy=>?_⟩;obtain⟨rfl,hy⟩:=hy;have:=(hy _ l1).symm.trans e1;cases this;exact⟨cZ.refl _,r1⟩
 .exact⟨vs,st.tup l,by rw[r.length];simp_all ⟩
theorem adH   {xs:BF}{a:Addr}{k:Nat}{n:xs.length<=sizeLine}(hf:p.f[k]?=some a):jO K p H (xs,[(k,xs)]) (Ta K a):=by
 refine⟨n,λq H1 S1 st sm g=>?_⟩;have e0:S1[k]?=some (.lst xs):=g _ bo;obtain⟨vs,h1,l1,r1⟩:=sm.obj k a _ (st.at_ hf) e0;refine⟨λi v e=>?_,?_⟩
 .obtain⟨x,e1,r2⟩:=r1.get e
  refine⟨⟨vs,x,bO.of h1,e1⟩,λy H2 hy=>?_⟩;obtain⟨rfl,hy⟩:=hy;have:=(hy vs (bO.of h1)).symm.trans e1;cases this;exact⟨cZ.refl _,r2⟩
 .exact⟨vs,bO.of h1,by rw[r1.length];exact al _⟩
theorem acL(h:aN K cl E X e m):PIp K cl E X tg e (aX m):=by
 intro hK;subst hK;refine PI.imp (Qv (h rfl)) ?_
 rintro σ H R ⟨p,S,ρ,s,ev,h⟩
 refine bW s ev h λq H' v x S' cO sm ev r k=>?_;cases v with
 |ref j=>
  obtain⟨a,e,rfl⟩:=r;unfold bT at k;dsimp only at k;cases z:S'[j]? with
  |none=>rw[z]at k;exact k.elim
  |some o=>
   cases o with
   |lst xs=>
    rw[z]at k;obtain⟨vs,h1,l1,r1⟩:=sm.obj j a _ e z;exact⟨a,rfl,.inl ⟨⟨vs,bO.of h1⟩,bU.ret  k sm (adH (n:=by rw[r1.length];exact l1) e)⟩⟩
   |lol _=>rw[z]at k;exact k.elim
   |dic _ _=>rw[z]at k;exact k.elim
   |dol _ _=>rw[z]at k;exact k.elim
 |pv v=>
  cases v with
  |lst xs=>
   have r:=r;obtain⟨a,vs,rfl,l,z,r⟩:=r;exact⟨a,rfl,.inl ⟨⟨vs,l.sq⟩,bU.ret  k sm (adt l z r)⟩⟩
  |tup xs=>
   have r:=r;obtain⟨a,vs,rfl,l,z,r⟩:=r;exact⟨a,rfl,.inr ⟨⟨vs,l⟩,bU.ret  k sm (ac8 l z r)⟩⟩
  |_=>exact k.elim
def dW(lo:Int)(n:Nat):BF:=(ce n).map λi=>.int (lo+(i:Nat))
def gW:BI->aJ->bH (BF×Gd)
 |[.pv (.int j)],S1=>@ite _ (j<=16777216/\-16777216<=j) (td _) (.ok (dW 0 j.toNat,[]) S1) .fail
 |_,_=>.fail
def cC(ms:MA):MI:=λρ S=>(ms ρ S).bind gW
def zL:BI->aJ->bH (BF×Gd)
 |[.pv (.int i),.pv (.int j)],S1=>@ite _ ((-4611686018427387904<=i/\i<4611686018427387904/\-4611686018427387904<=j/\j<4611686018427387904)/\j-i<=16777216) (td _) (.ok (dW i (j-i).toNat,[]) S1) .fail
 |_,_=>.fail
def sM(ms:MA):MI:=λρ S=>(ms ρ S).bind zL
theorem Fw   {lo:Int}{n:Nat}(h:n<=sizeLine):jO K p H (dW lo n,[]) (wB lo n):=by
 have hl:(dW lo n).length=n:=by unfold dW;simp_all
 refine⟨by  simp_all,λq H1 S1 st _ _=>⟨λi v e=>?_,?_⟩⟩
 .have hi:i<n:=by
   grind
  refine⟨hi,λx H2 hy=>?_⟩;obtain⟨rfl,rfl⟩:=hy;unfold dW at e;rw[az,List.getElem?_range hi]at e;cases e;refine⟨cZ.refl _,?_⟩;rfl
 .rw[hl]
  exact al n
theorem K7  (hg:Gl X "range")(hm:X.mg "range"=none)(ha:eQ K cl E X [a] ms)(hs:starEach [a] X.env=[(false,eval a X.env)]:=by rfl):PIp K cl E X tg (.Call (.Name "range" p) [a] [] pos) (cC ms):=by
 intro hK;subst hK;refine PI.imp (R0 hg hm (ha rfl) hs) ?_
 rintro σ H R ⟨p,S,ρ,s,ev,h⟩
 refine bW s ev h λq H' vs xs S' cO sm ev r k=>?_;unfold gW at k;split at k
 .rename_i j
  cases r with
  |cons r1 r2=>
   cases r2;have e:=by
    have r1:=r1;exact r1
   subst e;split at k
   .have hz:=kS
    exact⟨j,rfl,by omega,by omega,bU.ret  k sm (Fw (by omega))⟩
   .exact k.elim
 .exact k.elim
theorem H0{p:ai}(hg:Gl X "range")(hm:X.mg "range"=none)(ha:eQ K cl E X [a,b] ms)(hs:starEach [a,b] X.env=[(false,eval a X.env),(false,eval b X.env)]:=by rfl)(hs2:starEach [b] X.env=[(false,eval b X.env)]:=by rfl):PIp K cl E X tg (.Call (.Name "range" p) [a,b] [] pos) (sM ms):=by
 intro hK;subst hK;refine PI.imp (M7 hg hm (ha rfl) hs hs2) ?_
 rintro σ H R ⟨p,S,ρ,s,ev,h⟩
 refine bW s ev h λq H' vs xs S' cO sm ev r k=>?_;unfold zL at k;split at k
 .rename_i i j
  cases r with
  |cons r1 r2=>
   cases r2 with
   |cons r2 r3=>
    cases r3;rename_i x y;have e:=by
     have r1:=r1;exact r1
    have e2:=by
     have r1:=r2;exact r1
    subst e e2;split at k
    .have hz:=kS
     exact⟨i,j,rfl,by omega,bU.ret  k sm (Fw (by omega))⟩
    .exact k.elim
 .exact k.elim
theorem abi   (hp:ow (model X.prog X.w) X.A X.env X.xe)(hc:X.calm=true)(hi:PIp K cl E X tg e mi)(hg:mO K X tg g)(hb:gB K cl E X sts b1)
  (hs:∀x,foldedSetIterable e X.env x=pure x:=by intro _;rfl):eC K cl E X (.For tg e sts [] pos) (aY mi g b1):=by
 intro hK;subst hK;refine PS.imp (Lw hp hc (hi rfl) (hg rfl) (hb rfl) hs) ?_
 rintro D σ H ⟨p,S,ρ,s,ev,h⟩
 refine iW s ev h λq H' xg J S' cO sm ev it k=>?_;obtain⟨xs,G⟩:=xg;refine⟨λi n σ H=>n=xs.length-i/\i<=xs.length/\∃p S ρ,aQ _ p S H/\dN _ p H ρ σ/\jO _ p H _ J/\eK _ _ p H (dL G g _ (xs.drop i) ρ S) D E,⟨xs.length,rfl,iu _,q,S',ρ,sm,ev,it,by simpa using k⟩,?_⟩
 rintro i n σ1 H1 ⟨rfl,hi,p1,S1,ρ1,sm1,ev1,it1,k1⟩
 by_cases hlt:i<xs.length
 .have hx:=ay hlt
  rw[xn hlt]at k1;unfold dL at k1;split at k1
  .rename_i gk
   obtain⟨g1,y1⟩:=(it1.2 _ _ _ sm1.step sm1 gk).1 i _ hx;cases z:g xs[i] ρ1 with
   |none=>simp only[z]at k1;exact k1.elim
   |some ρ2=>
    simp only[z]at k1;refine .inr ⟨g1,λσ' H'=>i+1<=xs.length/\∃p S ρ,aQ _ p S _/\dN _ p _ _ _/\jO _ p _ _ J/\eK _ _ p _ _ D E,λσ' H' hN=>⟨xs.length-(i+1),by omega,rfl,hN⟩,λx H2 hy=>?_⟩;obtain⟨same,rx⟩:=y1 x _ hy;have st2:=sm1.same same;have sm2:=sm1.ofSame same;refine⟨p1,S1,ρ1,xs[i],ρ2,sm2,st2.repE ev1,rx,z,λσ3 ev3=>⟨p1,S1,ρ2,sm2,ev3,?_⟩⟩;have it2:=it1.step st2;cases y:b1 _ _ with
    |nx ρ4 S4=>
     rw[y]at k1;exact λq5 H5 σ5 st5 sm5 ev5=>⟨hlt,q5,S4,ρ4,sm5,ev5,it2.step st5,eK.mono  k1 (st2.trans st5)⟩
    |ct ρ4 S4=>
     rw[y]at k1;exact λq5 H5 σ5 st5 sm5 ev5=>⟨hlt,q5,S4,ρ4,sm5,ev5,it2.step st5,eK.mono  k1 (st2.trans st5)⟩
    |bk ρ4 S4=>rw[y]at k1;exact eK.mono  k1 st2
    |rt v S4=>rw[y]at k1;exact eK.mono  k1 st2
    |exc v S4=>rw[y]at k1;exact eK.mono  k1 st2
    |fail=>rw[y]at k1;exact k1.elim
  .exact k1.elim
 .have e:i=xs.length:=by omega
  subst e;rw[xo]at k1;unfold dL at k1;split at k1
  .rename_i gk
   exact .inl ⟨(it1.2 _ _ _ sm1.step sm1 gk).2,eK.nxD k1 sm1 ev1⟩
  .exact k1.elim
theorem R8(hp:ow (model X.prog X.w) X.A X.env X.xe)(hc:fO K cl E X c mt)(hb:gB K cl E X sts b1):eC K cl E X (.While c sts [] pos) (nJ mt b1):=by
 intro hK;subst hK;refine PS.imp (aa5 hp (hc rfl) (hb rfl)) ?_
 rintro D σ H ⟨p,S,ρ,s,ev,h⟩
 unfold nJ at h;split at h
 .refine⟨λn σ H=>∃p S ρ,aQ X.K p S H/\dN X.K p H ρ σ/\eK X.K cl p H (eT mt b1 n ρ S) D E,⟨_,p,S,ρ,s,ev,h⟩,?_⟩
  rintro n σ1 H1 ⟨p1,S1,ρ1,sm1,ev1,k1⟩
  cases n with
  |zero=>exact k1.elim
  |succ n=>
   refine iW sm1 ev1 k1 λq H2 t t' S2 cO sm2 ev2 r k2=>?_;cases r;cases t with
   |true=>
    refine⟨λσ' H'=>∃p S ρ,aQ X.K p S H'/\dN X.K p H' ρ σ'/\eK X.K cl p H' _ D E,λσ' H' hN=>⟨n,xp n,hN⟩,q,S2,ρ1,sm2,ev2,?_⟩;cases y:b1 ρ1 S2 with
    |nx ρ4 S4=>
     rw[y]at k2;exact λq5 H5 σ5 st5 sm5 ev5=>⟨q5,S4,ρ4,sm5,ev5,eK.mono  k2 st5⟩
    |ct ρ4 S4=>
     rw[y]at k2;exact λq5 H5 σ5 st5 sm5 ev5=>⟨q5,S4,ρ4,sm5,ev5,eK.mono  k2 st5⟩
    |bk ρ4 S4=>rw[y]at k2;exact k2
    |rt v S4=>rw[y]at k2;exact k2
    |exc v S4=>rw[y]at k2;exact k2
    |fail=>rw[y]at k2;exact k2.elim
   |false=>
    exact eK.nxD k2 sm2 ev2
 .exact h.elim
end
end
def gJ(n:Nat)(xs:BI):cN:=xs.map some++dn (n-xs.length) none
def jA(n:Nat):AV->aJ->bH AV
 |.pv v,S=>.ok (.pv v) (S.take n)
 |.ref k,S=>if k<n then .ok (.ref k) (S.take n)else match S[k]? with
  |some (.lst xs)=>.ok (.ref n) (S.take n++[.lst xs])
  |some (.dic b kvs)=>.ok (.ref n) (S.take n++[.dic b kvs])
  |_=>.fail
def frz(n:Nat):bH AV->bH AV
 |.ok (.ref k) S=>if k<n then .ok (.ref k) S else match S[k]? with
  |some (.lst xs)=>.ok (.pv (.lst xs)) (S.take n)
  |_=>.fail
 |r=>r
def nH(n:Nat):cE->bH AV
 |.rt v S=>jA n v S
 |.nx _ S=>.ok (.pv .non) (S.take n)
 |.exc e S=>.exc e (S.take n)
 |_=>.fail
def aL(np n:Nat)(b:MS)(xs:BI)(S:aJ):bH AV:=if xs.length=np then nH S.length (b (gJ n xs) S)else .fail
def fT:bH α->bH α
 |.ok a S=>.ok a S
 |_=>.fail
abbrev FM:=BI->aJ->bH AV
def kM(f:FM)(ds:BF)(ms:MA):ME:=λρ S=>(ms ρ S).bind λxs S1=>frz S1.length (f (xs++ds.map .pv) S1)
def aH(f:FM)(ds:BF)(ms:MA):ME:=λρ S=>(ms ρ S).bind λxs S1=>frz S1.length (fT (f (xs++ds.map .pv) S1))
def qE(f:FM)(ds:BF)(ms:MA):ME:=λρ S=>(ms ρ S).bind λxs S1=>fT (f (xs++ds.map .pv) S1)
def lE(K:ae)(cl:Str->Addr)(f:FM):Sp:=λvs H Q E=>∃p S xs,aQ K p S H/\iF K p H xs vs/\bU K cl (dC K) p H (f xs S) Q E
def lC(K:ae)(cl:Str->Addr)(f:FM):Sp:=λvs H Q _=>lE K cl f vs H Q E0
section
variable{K:ae}{cl:Str->Addr}{p q:Ph}{H H':Hp}{S S':aJ}
theorem Ml  (h:∀a,c a->c' a){a:Addr}{vs:List V}(l:kQ K c' H a vs):kQ K c H a vs:=by
 rcases l with⟨l,n⟩|l |l
 .exact .inl ⟨l,λz=>n (h a z)⟩
 .exact .inr (.inl l)
 .exact .inr (.inr l)
theorem rL  (h:∀a,c a->c' a){ps:BF}{vs:List V}(r:aP K c' H ps vs):aP K c H ps vs:=aP.mono (λ_ _ t=>t) (λ_ _ l=>Ml h l) _ _ r
theorem Zk  (h:∀a,c a->c' a){v:PV}{x:V}(r:bG K c' H v x):bG K c H v x:=bG.mono (λ_ _ t=>t) (λ_ _ l=>Ml h l) v x r
theorem F5{f g:List Addr}(h:f <+:g):g.take f.length=f:=by
 obtain⟨t,e⟩:=h;rw[<-e,List.take_left]
theorem rQ{α:Type}:∀{l:List α}{i j:Nat}{a:α},l.Nodup->l[i]?=some a->l[j]?=some a->i=j
 |[],i,j,a,_,e,_=>by simp at e
 |b::l,0,0,a,_,_,_=>rfl
 |b::l,0,j+1,a,n,e,f=>by
  simp at e f;subst e;exact absurd (cq f) (ko.mp n).1
 |b::l,i+1,0,a,n,e,f=>by
  simp at e f;subst f;exact absurd (cq e) (ko.mp n).1
 |b::l,i+1,j+1,a,n,e,f=>congrArg (·+1) (rQ (l:=l) (a:=a) (ko.mp n).2 (by simpa using e) (by simpa using f))
theorem aQ.cutX(D:Addr->Prop)(s:aQ K p S H)(st:bK p H q H')(s':aQ K q S' H')(hD:∀b,D b->H b=none)(hq:(∀b,D b->b∈q.f)\/∀k o,S'[k]?=some o->k<S.length->∃xs,o=.lst xs):
  let r:Ph:=⟨p.f,λb=>q.w b/\¬D b,λb=>q.c b/\¬D b⟩
  bK p H r H'/\aQ K r (S'.take S.length) H':=by
 intro r;have nD:∀a,p.c a->¬D a:=λa c d=>by
  obtain⟨o,ho,_⟩:=s.mu a c;rw[hD a d]at ho;cases ho
 have le:S.length<=S'.length:=by
  have:=st.pre.length_le;rw[<-s.len,<-s'.len];exact this
 refine⟨⟨s.wc,s.mu,jm,λa h=>⟨st.mw a h,nD a (s.wc a h)⟩,λa h=>⟨st.mono a h,nD a h⟩,λ_ h g=>absurd h g,λa h=>st.nw a h.1,λa h=>st.nc a h.1,st.keep⟩,s.nd,by rw[s.len,kd];omega,λa h=>⟨st.mw a (s.sub a h),nD a (s.wc a (s.sub a h))⟩,λa h=>⟨s'.wc a h.1,h.2⟩,λa h=>s'.mu a h.1,λk a o e1 e2=>?_⟩;have hk:k<S.length:=by
  have:=(bn.mp e1).1;rw[<-s.len];exact this
 have e2':=by
  rw[tf,if_pos hk]at e2;exact e2
 have z:=s'.obj k a o (st.at_ e1) e2';have shr:∀xs vs,aP K q.c H' xs vs->aP K r.c H' xs vs:=λxs vs=>rL (λb h=>h.1);have sub:∀b,b∉q.f->b∉p.f:=λb n h=>n (st.pre.subset h);rcases hq with hq |hq
 .exact z.mono (λ_ e=>e) (λb w f=>⟨⟨⟨w,λd=>f (hq b d)⟩,sub b f⟩,λ_ e=>e⟩) shr
 .obtain⟨xs,rfl⟩:=hq k o e2' hk
  obtain⟨vs,e,l,g⟩:=z;exact⟨vs,e,l,shr xs vs g⟩
theorem aQ.cut(s:aQ K p S H)(st:bK p H q H')(s':aQ K q S' H'):bK p H ⟨p.f,λb=>q.w b/\¬False,λb=>q.c b/\¬False⟩ H'/\aQ K ⟨p.f,λb=>q.w b/\¬False,λb=>q.c b/\¬False⟩ (S'.take S.length) H':=
 s.cutX _ st s' (λ_ h=>h.elim) (.inl λ_ h=>h.elim)
theorem Jc(s:aQ K p S H)(st:bK p H q H')(sm:aQ K q S' H'){k:Nat}{a:Addr}(e:q.f[k]?=some a)(hk:¬k<S.length):a∉p.f/\H a=none/\¬p.c a:=by
 have na:a∉p.f:=λhm=>by
  obtain⟨j,hj,ej⟩:=qa hm;have e2:=st.at_ (by rw[ay hj,ej]);have hjk:=rQ sm.nd e2 e;rw[s.len]at hj<;>grind
 have hn:=st.nf a (cq e) na;refine⟨na,hn,λc=>?_⟩;obtain⟨o,ho,_⟩:=s.mu a c;grind
theorem Vo  {Q:VK}{E:XK}(s:aQ K p S H)(h:bU K cl (dC K) p H (frz S.length r) Q E):bU K cl (dC K) p H r Q E:=by
 cases r with
 |exc n S1=>exact h
 |fail=>exact h
 |ok v S1=>
  cases v with
  |pv v=>exact h
  |ref k=>
   have h:bU K _ _ p H (if k<S.length then .ok _ _ else match S1[k]? with
    |some (.lst _)=>.ok _ _
    |_=>.fail) Q E:=h
   split at h
   .exact h
   .rename_i hk
    cases z:S1[k]? with
    |none=>rw[z]at h;exact h.elim
    |some o=>
     cases o with
     |lol _=>rw[z]at h;exact h.elim
     |dic _ _=>rw[z]at h;exact h.elim
     |dol _ _=>rw[z]at h;exact h.elim
     |lst xs=>
      rw[z]at h;intro q H' x st sm r;obtain⟨a,e,rfl⟩:=r;obtain⟨na,hn,nc⟩:=Jc s st sm e hk;obtain⟨st1,sm1⟩:=s.cutX (λb=>b=a) st sm (λb d=>d▸hn) (.inl λb d=>d▸cq e);obtain⟨vs,h1,l,r⟩:=sm.obj k a _ e z;refine h _ _ _ st1 sm1 ?_;exact⟨a,vs,rfl,.inl ⟨h1,λd=>d.2 rfl⟩,l,rL (λb h=>h.1) r⟩
theorem Fc  {Q:VK}{E:XK}(s:aQ K p S H)(h:bU K cl (dC K) p H (nH S.length r) Q E):eK K cl p H r {nx:=λ_ H'=>Q .non H',rt:=Q} E:=by
 cases r with
 |nx ρ S1=>
  intro q H' σ st sm ev;obtain⟨st1,sm1⟩:=s.cut st sm;exact h _ H' .non st1 sm1 (by rfl)
 |exc n S1=>
  intro q H' st sm;obtain⟨st1,sm1⟩:=s.cut st sm;exact h _ H' st1 sm1
 |rt v S1=>
  intro q H' x st sm r;obtain⟨st1,sm1⟩:=s.cut st sm;cases v with
  |pv v=>exact h _ H' x st1 sm1 (show bG K _ H' v x from Zk (λb h=>h.1) r)
  |ref k=>
   obtain⟨a,e,rfl⟩:=r;have h:bU K cl (dC K) p H (if k<S.length then .ok (.ref k) _ else match S1[k]? with
    |some (.lst xs)=>.ok _ _
    |some (.dic b kvs)=>.ok _ _
    |_=>.fail) Q E:=h
   split at h
   .rename_i hk
    refine h _ H' _ st1 sm1 ⟨a,?_,rfl⟩;have hf:=F5 st.pre;rw[<-hf,tf,if_pos (by rw[s.len];exact hk)];exact e
   .rename_i hk
    have fin:∀o,S1[k]?=some o->bU K cl (dC K) p H (.ok (.ref S.length) (S1.take _++[o])) Q E->Q _ H':=λo z h=>by
     obtain⟨na,hn,nc⟩:=Jc s st sm e hk;have l1:(S1.take S.length).length=S.length:=by rw[<-sm1.len,<-s.len]
     have ma:=cq e;refine h ⟨p.f++[a],q.w,q.c⟩ H' (.ref a) ⟨s.wc,s.mu,⟨[a],rfl⟩,st.mw,st.mono,λb hb n=>?_,st.nw,st.nc,st.keep⟩ ⟨?_,?_,λb hb=>?_,sm.wc,sm.mu,λj b o e1 e2=>?_⟩ ⟨a,?_,rfl⟩
     .simp_all
     .rw[qb]
      refine⟨s.nd,by simp,λb hb c hc z=>?_⟩;have:=by simpa using hc
      exact na (this▸z▸hb)
     .rw[av,av,l1,s.len]
      rfl
     .rcases br.mp hb with z |z
      .exact st.mw b (s.sub b z)
      .have:=by simpa using z
       rw[this];exact sm.sub a ma
     .by_cases hj:j<S.length
      .have e1':p.f[j]?=some b:=by
        rwa[fu (by rw[s.len];exact hj)]at e1
       rw[fu (by rw[l1];exact hj),tf,if_pos hj]at e2;refine(sm.obj j b o (st.at_ e1') e2).mono (λ_ e=>e) (λc w f=>⟨⟨w,λm=>?_⟩,λ_ e=>e⟩) λ_ _ r=>r;rcases br.mp m with z |z
       .exact f (st.pre.subset z)
       .have:=by simpa using z
        exact f (this▸ma)
      .have hj':j=S.length:=by
        have:=(bn.mp e2).1;rw[av,l1]at this;simp at this;omega
       subst hj';rw[dq (by rw[l1];exact al _),l1,io]at e2;rw[<-s.len,dq (al _),io]at e1;cases e1;cases e2;refine(sm.obj k a _ e z).mono (λ_ e=>e) (λc w f=>⟨⟨w,λm=>?_⟩,λ_ e=>e⟩) λ_ _ r=>r;rcases br.mp m with z |z
       .exact f (st.pre.subset z)
       .have:=by simpa using z
        exact f (this▸ma)
     .rw[<-s.len,dq (al _),io]
      rfl
    split at h
    .simp_all
    .rename_i z
     exact fin _ z h
    .exact h.elim
 |bk ρ S1=>exact h.elim
 |ct ρ S1=>exact h.elim
 |fail=>exact h.elim
theorem wO  {xs:BI}{vs:List V}(r:iF K p H xs vs):dN K p H (gJ N.length xs) (L2.start N vs):=by
 have go:∀{xs:BI}{vs:List V},iF K p H xs vs->xs.length=vs.length:=λ{xs vs} r=>by
  induction r with
  |nil=>rfl
  |cons _ _ ih=>rw[ci,ci,ih]
 have get:∀{xs:BI}{vs:List V},iF K p H xs vs->∀(i:Nat)(v:AV),xs[i]?=some v->∃x,vs[i]?=some x/\dC K p H v x:=λ{xs vs} r=>by
  induction r with
  |nil=>intro i v e;simp at e
  |cons h _ ih=>
   intro i v e;cases i<;>simp_all
 have hl:=go r;refine⟨by unfold gJ L2.start;simp[hl],λi v e=>?_⟩;unfold gJ at e;unfold L2.start
 by_cases hi:i<xs.length
 .rw[fu (by simpa using hi),az]at e
  cases z:xs[i]? with
  |none=>rw[z]at e;cases e
  |some u=>
   rw[z]at e;cases e;obtain⟨x,e1,e2⟩:=get r i v z;refine⟨x,?_,e2⟩;rw[fu (by rw[ak,<-hl];exact hi),az,e1];rfl
 .rw[dq (by rw[ak];omega),zm]at e
  split at e
  .cases e
  .cases e
end
section
variable{P:Program}{w:am}{K:ae}{mg:Str->BC}{base:Heap}{cl:Str->Addr}
theorem Nm      (h:iF K p H xs vs):xs.length=vs.length:=by
 induction h<;>simp_all
theorem Cg       (h:lE K cl (aL np n b) vs H Q E):vs.length=np:=by
 obtain⟨p,S,xs,sm,ra,h⟩:=h;unfold aL at h;split at h
 .rename_i e
  rw[<-Nm ra,e]
 .exact h.elim
theorem Qz  {st:Stmt}{f:Addr}{fd:ca}{N ps:List Str}{k np n:Nat}{b:MS}(F:jI K x qual st f fd)(S:iV N ps (bY st))(hnp:ps.length=np)(hn:N.length=n)
  (hb:∀(cdv:Value)(A:aq)(outer:List bi)(s:aa)(H:Hp)(E:XK),dH k (A.deeper (envOfC qual (bY st) s.heap.objs.size f cdv))->gB K cl E0 (fD fL P w K mg base N qual (bY st) f cdv A outer s H E).nox (eF st) b):
  eI P w K mg base fL (k+1) f fd ps (lC K cl (aL np n b)):=by
 subst hnp hn;refine F.ok S (λvs H Q E h=>Cg h) λcdv A outer s H vs Q E hr h=>⟨_,hb _ A _ s H E hr rfl,?_⟩;obtain⟨p,S,xs,sm,ra,h⟩:=h;unfold aL at h;split at h
 .exact⟨p,S,_,sm,wO ra,Fc sm h⟩
 .exact h.elim
theorem okX  {st:Stmt}{f:Addr}{fd:ca}{N ps:List Str}{k np n:Nat}{b:MS}(F:jI K x qual st f fd)(S:iV N ps (bY st))(hnp:ps.length=np)(hn:N.length=n)
  (hb:∀(cdv:Value)(A:aq)(outer:List bi)(s:aa)(H:Hp)(E:XK),dH k (A.deeper (envOfC qual (bY st) s.heap.objs.size f cdv))->gB K cl E (fD (iJ P w) P w K mg base N qual (bY st) f cdv A outer s H E) (eF st) b):
  eI P w K mg base (iJ P w) (k+1) f fd ps (lE K cl (aL np n b)):=by
 subst hnp hn;refine F.okX S (λvs H Q E h=>Cg h) λcdv A outer s H vs Q E hr h=>⟨_,hb _ A _ s H E hr rfl,?_⟩;obtain⟨p,S,xs,sm,ra,h⟩:=h;unfold aL at h;split at h
 .exact⟨p,S,_,sm,wO ra,Fc sm h⟩
 .exact h.elim
theorem afR  {st:Stmt}{f:Addr}{fd:ca}{ds:Array Value}{N ps:List Str}{k np n:Nat}{b:MS}(F:nY K x qual st f fd ds)(S:iV N ps (bY st))(hnp:ps.length=np)(hn:N.length=n)
  (hb:∀(cdv:Value)(A:aq)(outer:List bi)(s:aa)(H:Hp)(E:XK),dH k (A.deeper (envOfC qual (bY st) s.heap.objs.size f cdv))->gB K cl E (fD (iJ P w) P w K mg base N qual (bY st) f cdv A outer s H E) (eF st) b):
  eI P w K mg base (iJ P w) (k+1) f fd ps (lE K cl (aL np n b)):=by
 subst hnp hn;refine F.okX S (λvs H Q E h=>Cg h) λcdv A outer s H vs Q E hr h=>⟨_,hb _ A _ s H E hr rfl,?_⟩;obtain⟨p,S,xs,sm,ra,h⟩:=h;unfold aL at h;split at h
 .exact⟨p,S,_,sm,wO ra,Fc sm h⟩
 .exact h.elim
theorem x0    {k:Nat}{g:FM}(F:eI P w K mg base (iJ P w) k f fd ps (lE K cl g)):eI P w K mg base fL k f fd ps (lC K cl g):=
 ⟨λvs H Q E h=>F.len _ H Q _ h,λA outer s H args us vs Q E hr e0 hb hv h=>qq (F.run A _ s H _ _ _ Q _ hr e0 hb hv h) λr s' hq=>by
  cases r with
  |error e=>
   obtain⟨_,_,_,_,_,_,_,_,_,_,_,_,z⟩:=hq;exact z
  |ok fl=>
   cases fl with
   |ret u=>exact hq
   |next=>exact hq
   |brk=>exact hq
   |cont=>exact hq⟩
end
section
variable{K:ae}{cl:Str->Addr}{E:XK}{X:Cx}{e:ah}{es:List ah}{ms:MA}{pos p:ai}{k n:Nat}{f:Addr}{fd:ca}{ps:List Str}{g:FM}{x:Str}{dvs:List V}{ds:BB}{dv:BF}
theorem Gb{p:Ph}{H:Hp}{xs ys:BI}{vs ws:List V}(h:iF K p H xs vs)(g:iF K p H ys ws):iF K p H (xs++ys) (vs++ws):=by
 induction h with
 |nil=>exact g
 |cons h _ ih=>exact .cons h ih
def Dv(dv:BF)(dvs:List V):Prop:=∀K p H,iF K p H (dv.map .pv) dvs
theorem Dv.nil:Dv [] []:=λ_ _ _=>.nil
theorem acH(F:eI X.prog X.w X.K X.mg X.base fL k f fd ps (lC K cl g))(hr:dH k X.A)(hg:Gl X x)(hm:X.mg x=some (.ref f))(hk:fm X.K (.ref f)=true)(hb:kC X.K fd ps ds)(hd:aW dvs ds)(hv:Dv dv dvs)
  (ha:eQ K cl E0 X (e::es) ms)(hdb:(x==("__debug__":Str))=false:=by decide)(he:starEach (e::es) X.env=(false,eval e X.env)::starEach es X.env:=by rfl)(hpl:(backTo pos (starEach es X.env)).any (·.1)=false:=by rfl):
  aN K cl E0 X (.Call (.Name x p) (e::es) [] pos) (kM g dv ms):=by
 intro hK;refine PE.imp (xY F hr hg hm hk hb hd zE (ha hK) hdb he hpl) ?_
 rintro σ H Q ⟨p,S,ρ,s,ev,h⟩
 exact bW s ev h λq H' as xs S' cO sm ev r k=>⟨q,S',_,sm,Gb r (hv K q _),Vo sm k⟩
theorem Hk   {p:Ph}{H:Hp}{r:bH α}{Q:β->Hp->Prop}(h:bU K cl R p H (fT r) Q E):bU K cl R p H r Q E0:=by
 cases r with
 |ok a S=>exact h
 |exc n S=>exact h.elim
 |fail=>exact h.elim
theorem W7(F:eI X.prog X.w X.K X.mg X.base fL k f fd ps (lC K cl g))(hr:dH k X.A)(hg:Gl X x)(hm:X.mg x=some (.ref f))(hk:fm X.K (.ref f)=true)(hb:kC X.K fd ps ds)(hd:aW dvs ds)(hv:Dv dv dvs)
  (ha:eQ K cl E X (e::es) ms)(hdb:(x==("__debug__":Str))=false:=by decide)(he:starEach (e::es) X.env=(false,eval e X.env)::starEach es X.env:=by rfl)(hpl:(backTo pos (starEach es X.env)).any (·.1)=false:=by rfl):
  aN K cl E X (.Call (.Name x p) (e::es) [] pos) (aH g dv ms):=by
 intro hK;refine PE.imp (xY F hr hg hm hk hb hd zE (ha hK) hdb he hpl) ?_
 rintro σ H Q ⟨p,S,ρ,s,ev,h⟩
 exact bW s ev h λq H' as xs S' cO sm ev r k=>⟨q,S',_,sm,Gb r (hv K q _),Hk (Vo sm k)⟩
theorem aaj(F:eI X.prog X.w X.K X.mg X.base fL k f fd ps (lC K cl g))(hr:dH k X.A)(hg:Gl X x)(hm:X.mg x=some (.ref f))(hk:fm X.K (.ref f)=true)(hb:kC X.K fd ps ds)(hd:aW dvs ds)(hv:Dv dv dvs)
  (ha:eQ K cl E X (e::es) ms)(hdb:(x==("__debug__":Str))=false:=by decide)(he:starEach (e::es) X.env=(false,eval e X.env)::starEach es X.env:=by rfl)(hpl:(backTo pos (starEach es X.env)).any (·.1)=false:=by rfl):
  aN K cl E X (.Call (.Name x p) (e::es) [] pos) (qE g dv ms):=by
 intro hK;refine PE.imp (xY F hr hg hm hk hb hd zE (ha hK) hdb he hpl) ?_
 rintro σ H Q ⟨p,S,ρ,s,ev,h⟩
 exact bW s ev h λq H' as xs S' cO sm ev r k=>⟨q,S',_,sm,Gb r (hv K q _),Hk k⟩
def vE(n:Str):MS:=λ_ S=>.exc n S
theorem Q0    {base:Heap}{N:List Str}{qual:Str}{scope:Scope}{f:Addr}{cd:Value}{A:aq}{outer:List bi}{BK:aa}{BM:Hp}
  {txt:Str}{j:Nat}{np p1 cpos:ai}(hg:Gl (fD (iJ P w) P w K mg base N qual scope f cd A outer BK BM E) x)(hm:mg x=some (.ref (cl x)))(hx:iw K (cl x) kU "ValueError.__new__"=true)
  (hd:(x==("__debug__":Str))=false:=by decide):
  eC K cl E (fD (iJ P w) P w K mg base N qual scope f cd A outer BK BM E) (.Raise (some (.Call (.Name x np) [.Constant (.str txt) j p1] [] cpos)) none pos) (vE x):=
 λ_=>PS.imp (Y6 hg hm hx hd) λD σ H ⟨p,S,ρ,s,ev,h⟩=>h p H s.step s
end
def cQ(own:List Str)(cap:List (Nat×Str))(ρ:cN):cN:=own.map (λ_=>none)++cap.map λp=>(ρ[p.1]?).join
open Classical in
def bZ(G:Gd)(g:GM)(me:ME):BF->cN->aJ->bH BF
 |[],_,S=>if kI G S then .ok [] S else .fail
 |x::r,ρ,S=>if kI G S then(match g x ρ with
  |none=>.fail
  |some ρ1=>match me ρ1 S with
   |.ok (.pv y) S1=>match bZ G g me r ρ1 S1 with
    |.ok ys S2=>.ok (y::ys) S2
    |_=>.fail
   |_=>.fail)else .fail
theorem dS    :bZ [] g me [] ρ S=.ok [] S:=by
 unfold bZ;rw[if_pos (nB S)]
theorem dX      :bZ [] g me (x::r) ρ S=(match g x ρ with
  |none=>.fail
  |some ρ1=>match me ρ1 S with
   |.ok (.pv y) S1=>match bZ [] g me r ρ1 S1 with
    |.ok ys S2=>.ok (y::ys) S2
    |_=>.fail
   |_=>.fail):=by
 rw[bZ,if_pos (nB S)]
def bC(own:List Str)(cap:List (Nat×Str))(mi:MI)(g:GM)(me:ME):ME:=λρ S=>(mi ρ S).bind λxs S1=>(bZ xs.2 g me xs.1 (cQ own cap ρ) S1).bind λys S2=>.ok (.pv (.lst ys)) S2
theorem E9   {me:ME}:∀(xs:BF)(ρ:cN)(S:aJ)(n:Str)(S':aJ),bZ G g me xs ρ S≠.exc n S'
 |[],_,_,_,_,e=>by
  unfold bZ at e;grind
 |x::r,ρ,S,n,S',e=>by
  unfold bZ at e;split at e
  .split at e
   .cases e
   .split at e
    .split at e
     .cases e
     .cases e
    .cases e
  grind
theorem Oo     {ρ:cN}{S S':aJ}(e:bZ G g me xs ρ S=.ok zs S'):kI G S:=by
 cases xs with
 |nil=>
  unfold bZ at e<;>grind
 |cons x r=>
  unfold bZ at e;split at e
  .assumption
  grind
section
variable{K:ae}{cl:Str->Addr}{E:XK}{X:Cx}{p q:Ph}{H H':Hp}{S:aJ}
theorem aay   {own:List Str}{cap:List (Nat×Str)}(h:dN K p H ρ σ):dN K p H (cQ own cap ρ) (kN own cap σ):=by
 refine⟨by unfold cQ kN;simp,λi v e=>?_⟩;unfold cQ at e;unfold kN
 by_cases hi:i<own.length
 .rw[fu (by simpa using hi),az,ay hi]at e
  cases e
 .rw[dq (by rw[ak];omega),az,ak]at e⊢
  cases z:cap[i-own.length]? with
  |none=>rw[z]at e;cases e
  |some c=>
   rw[z]at e;have e:(ρ[c.1]?).join=some v:=cx e;have e':ρ[c.1]?=some (some v):=by
    cases y:ρ[c.1]? with
    |none=>rw[y]at e;cases e
    |some o=>rw[y]at e;exact congrArg some e
   obtain⟨x,e1,e2⟩:=h.at_ c.1 v e';refine⟨x,?_,e2⟩;show some ((σ[c.1]?).join)=some (some x);rw[e1];rfl
def Ph.res(p:Ph)(D:Addr):Ph:=⟨p.f,λa=>p.w a\/a=D,λa=>p.c a\/a=D⟩
def Ph.hold(p:Ph)(D:Addr):Ph:=⟨p.f,λa=>p.w a/\a≠D,p.c⟩
def Ph.less(p:Ph)(D:Addr):Ph:=⟨p.f,λa=>p.w a/\a≠D,λa=>p.c a/\a≠D⟩
theorem aQ.notin(s:aQ K p S H){D:Addr}(h:H D=none):¬p.c D:=λc=>by
 obtain⟨o,e,_⟩:=s.mu D c;grind
theorem aQ.res(s:aQ K p S H){D:Addr}{o:HO}(h:H D=none)(mo:Mb o):bK p H (p.res D) (aT H D o)/\aQ K (p.res D) S (aT H D o):=by
 have st:bK p H (p.res D) (aT H D o):=⟨s.wc,s.mu,jm,λa h=>.inl h,λa h=>.inl h,λa h g=>absurd h g,λa x n=>x.elim (λz=>absurd z n) λz=>by simp_all,λa x n=>x.elim (λz=>absurd z n) λz=>by simp_all,λa u e _=>by
  rw[bQ (gH e h)];exact e⟩
 refine⟨st,s.nd,s.len,λa h=>.inl (s.sub a h),λa x=>x.elim (λz=>.inl (s.wc a z)) .inr,λa x=>?_,λk a u e1 e2=>?_⟩
 .by_cases z:a=D
  .rw[z,fP]
   simp_all
  .rw[bQ z]
   exact s.mu a (x.elim id λy=>absurd y z)
 .exact(s.obj k a u e1 e2).mono (λvs e=>by rw[bQ (gH e h)];exact e) (λb w f=>⟨⟨.inl w,f⟩,λvs e=>by rw[bQ (gH e h)];exact e⟩) λ_ _ r=>st.reps r
theorem aQ.resHold(s:aQ K p S H){D:Addr}{o:HO}(h:H D=none)(mo:Mb o):aQ K ((p.res D).hold D) S (aT H D o):=by
 obtain⟨st,sm⟩:=s.res  h mo;have ne:∀a,p.w a->a≠D:=λa w z=>s.notin h (z▸s.wc a w);refine⟨sm.nd,sm.len,λa m=>⟨sm.sub a m,ne a (s.sub a m)⟩,λa x=>sm.wc a x.1,sm.mu,λk a u e1 e2=>?_⟩;exact(s.obj k a u e1 e2).mono (λvs e=>by rw[bQ (gH e h)];exact e) (λb w f=>⟨⟨⟨.inl w,ne b w⟩,f⟩,λvs e=>by rw[bQ (gH e h)];exact e⟩) λ_ _ r=>st.reps r
theorem bK.unhold  (h:p.w D)(st:bK (p.hold D) H q H')(s:aQ K p S H):bK p H ⟨q.f,λa=>q.w a\/a=D,q.c⟩ H':=
 ⟨s.wc,s.mu,st.pre,λa x=>by
  by_cases z:a=D
  .exact .inr z
  .exact .inl (st.mw a ⟨x,z⟩),st.mono,st.nf,λa x n=>by
  rcases x with x |x
  .exact st.nw a x λz=>n z.1
  simp_all,st.nc,λa o e n=>st.keep a o e λz=>n z.1⟩
theorem aQ.grow  {ys:List V}{o:HO}(s:aQ K p S H)(sh:aQ K (p.hold D) S H)(w:p.w D)(n:D∉p.f)(mo:Mb o):bK p H p (aT H D o)/\aQ K p S (aT H D o)/\aQ K (p.hold D) S (aT H D o):=by
 have st:bK p H p (aT H D o):=⟨s.wc,s.mu,jm,λ_ h=>h,λ_ h=>h,λ_ h g=>absurd h g,λ_ h g=>absurd h g,λ_ h g=>absurd h g,λa u e nw=>by
  rw[bQ (λz=>nw (by rw[z];exact w))];exact e⟩
 have hm:∀a,p.c a->∃u,aT H D o a=some u/\Mb u:=λa x=>by
  by_cases z:a=D
  .rw[z,fP]
   exact⟨o,rfl,mo⟩
  .rw[bQ z]
   exact s.mu a x
 refine⟨st,⟨s.nd,s.len,s.sub,s.wc,hm,λk a u e1 e2=>?_⟩,⟨sh.nd,sh.len,sh.sub,sh.wc,hm,λk a u e1 e2=>?_⟩⟩
 .have ne:a≠D:=λz=>n (z▸cq e1)
  exact(sh.obj k a u e1 e2).mono (λvs e=>by rw[bQ ne];exact e) (λb w f=>⟨⟨w.1,f⟩,λvs e=>by rw[bQ w.2];exact e⟩) λ_ _ r=>st.reps r
 .have ne:a≠D:=λz=>n (z▸cq e1)
  exact(sh.obj k a u e1 e2).mono (λvs e=>by rw[bQ ne];exact e) (λb w f=>⟨⟨w,f⟩,λvs e=>by rw[bQ w.2];exact e⟩) λ_ _ r=>st.reps r
theorem aQ.toLess  (s:aQ K (p.hold D) S H):aQ K (p.less D) S H:=
 ⟨s.nd,s.len,s.sub,λa h=>⟨s.wc a h,h.2⟩,λa h=>s.mu a h.1,λk a o e1 e2=>
  (s.obj k a o e1 e2).mono (λ_ e=>e) (λb w f=>⟨⟨w,f⟩,λ_ e=>e⟩) λ_ _ r=>rL (λa h=>h.1) r⟩
theorem bK.toLess  (st:bK p H q H')(h:H D=none):bK p H (q.less D) H':=by
 have nD:∀a,p.c a->a≠D:=λa c z=>by
  obtain⟨o,e,_⟩:=st.mu a c<;>grind
 exact⟨st.wc,st.mu,st.pre,λa x=>⟨st.mw a x,nD a (st.wc a x)⟩,λa x=>⟨st.mono a x,nD a x⟩,st.nf,λa x=>st.nw a x.1,λa x=>st.nc a x.1,st.keep⟩
variable{sc:Scope}{own:List Str}{cap:List (Nat×Str)}{elt target iter:ah}{pos:ai}{mi:MI}{g:GM}{me:ME}
theorem R7{σ:St}{ρ:cN}{xs zs:BF}{G:Gd}{J:It}{Q:VK}{D:Addr}{S2:aJ}(sm:aQ K p S H)(ev:dN K p H ρ σ)(it:jO K p H (xs,G) J)(z:bZ G g me xs (cQ own cap ρ) S=.ok zs S2)(hD:H D=none)
  (k:∀q H' vs,bK p H q H'->aQ K q S2 H'->aQ K (q.hold D) S2 H'->q.w D->D∉q.f->H' D=some (.lst vs)->vs.length<=sizeLine->aP K q.c H' zs vs->Q (.ref D) H'):
  Ca J (gP K g) (tP K cl E0 (dC K) me) (kN own cap σ) H D Q:=by
 obtain⟨st0,sm0⟩:=sm.res (D:=D) (o:=.lst []) hD trivial;have sh0:=sm.resHold (D:=D) (o:=.lst []) hD trivial;have nf0:D∉p.f:=λh=>sm.notin hD (sm.wc D (sm.sub D h));refine abW xs.length it.1 (λi σ1 H1 ys=>ys.length=i/\i<=xs.length/\H1 D=some (.lst ys)/\∃p1 S1 ρ1 us ws,(aQ K p1 S1 H1/\aQ K (p1.hold D) S1 H1)/\bK p H p1 H1/\p1.w D/\D∉p1.f/\dN K p1 H1 ρ1 σ1/\jO K p1 H1 (xs,G) J/\kI G S1/\aP K p1.c H1 us ys/\zs=us++ws/\bZ G g me (xs.drop i) ρ1 S1=.ok ws S2) ?_ ?_ ?_ ?_ ?_
 .refine⟨rfl,iu _,fP,p.res D,S,cQ own cap ρ,[],zs,⟨sm0,sh0⟩,st0,.inr rfl,nf0,aay (st0.repE ev),it.step st0,?_,.nil,rfl,by simpa using z⟩
  exact Oo z
 .rintro i σ1 H1 ys ⟨h1,_,h2,_⟩
  exact⟨h1,h2⟩
 .rintro i σ1 H1 ys hi ⟨_,_,_,p1,S1,ρ1,us,ws,⟨sm1,sh1⟩,st1,w1,f1,ev1,it1,g1,_⟩
  exact((it1.2 p1 H1 S1 sm1.step sm1 g1).1 i xs[i] (ay hi)).1
 .rintro i σ1 H1 ys x H2 hi ⟨hl,_,hH,p1,S1,ρ1,us,ws,⟨sm1,sh1⟩,st1,w1,f1,ev1,it1,g1,r1,e1,c1⟩ hy
  obtain⟨same,rx⟩:=((it1.2 p1 H1 S1 sm1.step sm1 g1).1 i xs[i] (ay hi)).2 x H2 hy;rw[xn hi]at c1;unfold bZ at c1;rw[if_pos g1]at c1;split at c1
  .cases c1
  .rename_i ρ2 gz
   split at c1
   .rename_i y S3 mz
    split at c1
    .rename_i vs S4 cz
     cases c1;have st2:=sm1.same same;have sm2:=sm1.ofSame same;have smh:=sh1.ofSame same;refine⟨p1,S1,ρ1,xs[i],ρ2,sm2,st2.repE ev1,rx,gz,λσ3 ev3=>⟨p1.hold D,S1,ρ2,smh,⟨ev3.len,ev3.at_⟩,?_⟩⟩;rw[mz];intro q H4 y' st4 sm4 ry;have hD2:=same _ _ hH;have hD4:=st4.keep D _ hD2 λz=>z.2 rfl;have fq:D∉q.f:=λh=>by
      have:=st4.nf D h f1;rw[hD2]at this;cases this
     have stU:=bK.unhold w1 st4 sm2;have nq:¬q.w D:=λz=>by
      have:=st4.nw D z λy=>y.2 rfl;rw[hD2]at this;cases this
     have smU:aQ K ⟨q.f,λa=>q.w a\/a=D,q.c⟩ S3 H4:=⟨sm4.nd,sm4.len,λa h=>.inl (sm4.sub a h),λa h=>h.elim (sm4.wc a) λz=>z▸st4.mono D (sm2.wc D w1),sm4.mu,λk a o e1 e2=>
      (sm4.obj k a o e1 e2).mono (λ_ e=>e) (λb w f=>⟨⟨.inl w,f⟩,λ_ e=>e⟩) λ_ _ r=>r⟩
     have shU:aQ K (Ph.hold ⟨q.f,λa=>q.w a\/a=D,q.c⟩ D) S3 H4:=⟨sm4.nd,sm4.len,λa h=>⟨.inl (sm4.sub a h),λz=>nq (z▸sm4.sub a h)⟩,λa h=>smU.wc a h.1,sm4.mu,λk a o e1 e2=>
      (sm4.obj k a o e1 e2).mono (λ_ e=>e) (λb w f=>⟨⟨⟨.inl w,λz=>nq (z▸w)⟩,f⟩,λ_ e=>e⟩) λ_ _ r=>r⟩
     obtain⟨stG,smG,shG⟩:=smU.grow (ys:=ys) (D:=D) (o:=.lst (ys++[y'])) shU (.inr rfl) fq trivial;have stA:=st2.trans (stU.trans stG);refine aeT hi hD4 ⟨by rw[av,hl];rfl,hi,fP,_,S3,ρ2,us++[y],vs,⟨smG,shG⟩,st1.trans stA,.inr rfl,fq,stG.repE (stU.repE ev3),it1.step stA,Oo cz,?_,by rw[e1,ee];rfl,cz⟩;exact(stA.reps r1).append (.cons (stG.rep ry) .nil)
    .cases c1
   .cases c1
 .rintro σ1 H1 ys ⟨hl,_,hH,p1,S1,ρ1,us,ws,⟨sm1,sh1⟩,st1,w1,f1,ev1,it1,g1,r1,e1,c1⟩
  rw[xo]at c1;unfold bZ at c1;rw[if_pos g1]at c1;cases c1;refine⟨(it1.2 p1 H1 _ sm1.step sm1 g1).2,?_⟩;rw[fk]at e1;subst e1;exact k p1 H1 ys st1 sm1 sh1 w1 f1 hH (by rw[hl];exact it.1) r1
theorem Pc  {ρ:cN}{xs:BF×Gd}{J:It}{Q:VK}{D:Addr}(sm:aQ K p S H)(ev:dN K p H ρ σ)(it:jO K p H xs J)(k:bU K cl (dC K) p H ((bZ xs.2 g me xs.1 (cQ own cap ρ) S).bind λys S2=>.ok (.pv (.lst ys)) S2) Q E)(hD:H D=none):
  Ca J (gP K g) (tP K cl E0 (dC K) me) (kN own cap σ) H D Q:=by
 cases z:bZ _ g _ _ _ S with
 |fail=>rw[z]at k;exact k.elim
 |exc n S'=>exact absurd z (E9 _ _ _ _ _)
 |ok zs S2=>
  rw[z]at k;refine R7 sm ev it z hD λq H' vs st1 sm1 sh1 w1 f1 hH l1 r1=>?_;refine k _ _ _ (st1.toLess hD) sh1.toLess ?_;exact⟨D,vs,rfl,.inl ⟨hH,λz=>z.2 rfl⟩,l1,rL (λa h=>h.1) r1⟩
theorem ab9(k:jB X sc own cap)(hi:PIp K cl E X target iter mi)(hc:X.calm=true)(hg:∀C BK BM ex,mO K (iR X sc (dE own cap) C BK BM ex) target g)(he:∀C BK BM ex,aN K cl E0 (iR X sc (dE own cap) C BK BM ex) elt me)
  (hs:∀x,foldedSetIterable iter X.env x=pure x:=by intro _;rfl):aN K cl E X (.ListComp elt [⟨target,iter,[],0⟩] sc pos) (bC own cap mi g me):=by
 intro hK;refine PE.imp (abd k (hi hK) hc (λC BK BM ex=>hg C _ _ _ hK) (λC BK BM ex=>he C _ _ _ hK) hs) ?_
 rintro σ H Q ⟨p,S,ρ,s,ev,h⟩
 exact bW s ev h λq H' xs J S' cO sm ev it kk D hD=>Pc sm ev it kk hD
theorem Y9   {py spos:ai}(hN:X.N.Nodup)(hx:X.N[i]?=some x)(hl:lI X.env.scope x)(k:jB X sc own cap)(hi:PIp K cl E X target iter mi)(hc:X.calm=true)(hg:∀C BK BM ex,mO K (iR X sc (dE own cap) C BK BM ex) target g)(he:∀C BK BM ex,aN K cl E0 (iR X sc (dE own cap) C BK BM ex) elt me)
  (hs:∀x,foldedSetIterable iter X.env x=pure x:=by intro _;rfl)(hsw:swapsWith (.ListComp elt [⟨target,iter,[],0⟩] sc pos) (some (.Name x py)) spos.line X.env=pure true:=by rfl)
  (hf:X.fn x=true\/X.env.scope.names.lookup x=some .local:=by first |exact .inl rfl |exact .inr rfl |assumption):
  eC K cl E X (.Assign [.Name x py] (.ListComp elt [⟨target,iter,[],0⟩] sc pos) spos) (aM i (bC own cap mi g me)):=by
 intro hK;refine PS.imp (abP hN hx hl k (hi hK) hc (λC BK BM ex=>hg C BK BM ex hK) (λC BK BM ex=>he C BK BM ex hK) hs hsw hf) ?_
 rintro D σ H ⟨p,S,ρ,s,ev,h⟩
 have h2:tP K cl E (dC K) (bC own cap mi g me) σ H λy H1=>D.nx (σ.set i (some y)) H1:=by
  refine⟨p,S,ρ,s,ev,?_⟩;unfold aM at h;cases z:bC own cap mi g me ρ S with
  |ok v S1=>
   rw[z]at h;exact λq H' y st sm r=>h q H' _ st sm ((st.repE ev).set r i)
  |exc n S1=>rw[z]at h;exact h
  |fail=>rw[z]at h;exact h
 obtain⟨p,S,ρ,s,ev,h⟩:=h2;exact bW s ev h λq H' xs J S' cO sm ev it kk B hB=>Pc sm ev it kk hB
end
def iX:List (Option Bool)->Option (List Bool)
 |[]=>some []
 |some b::r=>match iX r with
  |some bs=>some (b::bs)
  |none=>none
 |none::_=>none
theorem Jk:∀{l:List (Option Bool)}{bs:List Bool},iX l=some bs->bs.length=l.length
 |[],_,e=>by cases e;rfl
 |some b::r,bs,e=>by
  unfold iX at e;split at e
  .rename_i cs h
   cases e;rw[ci,ci,Jk h]
  .cases e
 |none::r,_,e=>by cases e
theorem Yb:∀{l:List (Option Bool)}{bs:List Bool}{i:Nat}{o:Option Bool},iX l=some bs->l[i]?=some o->∃b,o=some b/\bs[i]?=some b
 |[],_,i,o,_,h=>by simp at h
 |some b::r,bs,i,o,e,h=>by
  unfold iX at e;split at e
  .rename_i cs h'
   cases e;cases i with
   |zero=>
    simp at h;exact⟨b,h.symm,rfl⟩
   |succ i=>simpa using Yb h' (by simp_all)
  .cases e
 |none::r,_,_,_,e,_=>by cases e
def aZ:Nat->PV->PV->Option Bool
 |_,.non,.non=>some true
 |_,.bl a,.bl b=>some (a==b)
 |_,.int a,.int b=>some (a==b)
 |_,.str a,.str b=>some (a==b)
 |n+1,.tup xs,.tup ys=>match iX (cg (aZ n) xs ys)with
  |some bs=>some (bs.all id&&xs.length==ys.length)
  |none=>none
 |n+1,.lst xs,.lst ys=>if xs.length=ys.length then(match iX (cg (aZ n) xs ys)with
  |some bs=>some (bs.all id)
  |none=>none)else some false
 |_,_,_=>none
theorem wX(bs:List Bool):((ce bs.length).all λj=>bs.getD j true)=bs.all id:=by
 rw[ph,ji,ji];constructor
 .intro h b hb
  obtain⟨j,hj,e⟩:=qa hb;have:=h j (by simp_all);simpa[cr,hj,e]using this
 .intro h j hj
  have hj:=by simpa using hj
  have:=h _ (gi hj);simpa[cr,hj]using this
section
variable{X:Cx}{BJ:List (Addr×Obj)}{σ:St}{H:Hp}{s:aa}{c:Addr->Prop}
theorem xF  {xs ys:BF}{vs ws:List V}{its jts:BB}{bs:List Bool}{A:aq}
  (ih:∀(v w:PV)(x y:V)(u u':Value)(b:Bool),bG X.K c H v x->bG X.K c H w y->bJ x u->bJ y u'->aZ n v w=some b->jc A s u u' b)
  (r1:aP X.K c H xs vs)(r2:aP X.K c H ys ws)(q1:aW vs its)(q2:aW ws jts)(e:iX (cg (aZ n) xs ys)=some bs):
  ∀j(h1:j<its.toArray.size)(h2:j<jts.toArray.size),jc A s its.toArray[j] jts.toArray[j] (bs.getD j true):=λj h1 h2=>by
 have l1:=r1.length.trans q1.length;have l2:=r2.length.trans q2.length;have g1:j<xs.length:=by rw[l1];simpa using h1
 have g2:j<ys.length:=by rw[l2];simpa using h2
 obtain⟨x,ex,rx⟩:=r1.get (ay g1);obtain⟨y,ey,ry⟩:=r2.get (ay g2);obtain⟨u,eu,ru⟩:=q1.get ex;obtain⟨u',eu',ru'⟩:=q2.get ey;have hz:(cg (aZ n) xs ys)[j]?=some (aZ n xs[j] ys[j]):=by
  rw[j7,ay g1,ay g2]
 obtain⟨b,eb,eb'⟩:=Yb e hz;have e1:its.toArray[j]=u:=by
  rw[ay (by simpa using h1)]at eu;exact cx eu
 have e2:jts.toArray[j]=u':=by
  rw[ay (by simpa using h2)]at eu';exact cx eu'
 rw[e1,e2];have e3:bs.getD j true=b:=by simp[cr,eb']
 rw[e3];exact ih _ _ _ _ _ _ _ rx ry ru ru' eb
theorem uT    (e:iX (cg (aZ n) xs ys)=some bs):bs.length=min xs.length ys.length:=by
 rw[Jk e,ki]
theorem Xl(n:Nat)(v w:PV)(x:V)(b:Bool)(nt:∀xs,v≠.tup xs)(nl:∀xs,v≠.lst xs)(h:bG X.K c H v x)(g:bG X.K c H w x)(e:aZ n v w=some b):b=true:=by
 cases v with
 |tup xs=>exact absurd rfl (nt xs)
 |lst xs=>exact absurd rfl (nl xs)
 |non=>
  cases w<;>first |(unfold aZ at e;simp at e;done) |skip
  unfold aZ at e;cases e;rfl
 |bl i=>
  cases w<;>first |(unfold aZ at e;simp at e;done) |skip
  subst h;injection g with g';subst g';unfold aZ at e;cases e;exact beq_self_eq_true _
 |int i=>
  cases w<;>first |(unfold aZ at e;simp at e;done) |skip
  subst h;injection g with g';subst g';unfold aZ at e;cases e;exact beq_self_eq_true _
 |str i=>
  cases w<;>first |(unfold aZ at e;simp at e;done) |skip
  subst h;injection g with g';subst g';unfold aZ at e;cases e;exact beq_self_eq_true _
theorem Jq(I:aI X BJ σ H s):∀(n:Nat)(v w:PV)(x:V)(b:Bool),bG X.K c H v x->bG X.K c H w x->aZ n v w=some b->b=true:=by
 intro n
 induction n with
 |zero=>
  intro v w x b h g e;cases v with
  |tup xs=>unfold aZ at e;simp at e
  |lst xs=>unfold aZ at e;simp at e
  |_=>exact Xl 0 _ w x b (by intro _ z;cases z) (by intro _ z;cases z) h g e
 |succ n ih=>
  have items:∀(xs ys:BF)(vs:List V)(bs:List Bool),aP X.K c H xs vs->aP X.K c H ys vs->iX (cg (aZ n) xs ys)=some bs->bs.all id=true/\xs.length=ys.length:=λxs ys vs bs r1 r2 e=>by
   have ll:=r1.length.trans r2.length.symm;refine⟨?_,ll⟩;rw[ji];intro b hb;obtain⟨j,hj,ej⟩:=qa hb;have hj':=hj;rw[uT e]at hj';have g1:j<xs.length:=by omega
   have g2:j<ys.length:=by omega
   obtain⟨x,ex,rx⟩:=r1.get (ay g1);obtain⟨y,ey,ry⟩:=r2.get (ay g2);have:=ex.symm.trans ey;cases this;have hz:(cg (aZ n) xs ys)[j]?=some (aZ n xs[j] ys[j]):=by
    rw[j7,ay g1,ay g2]
   obtain⟨b',eb,eb'⟩:=Yb e hz;rw[ay hj,ej]at eb';cases eb';exact ih _ _ _ _ rx ry eb
  intro v w x b h g e;cases v with
  |tup xs=>
   cases w with
   |tup ys=>
    obtain⟨a,vs,rfl,t1,_,r1⟩:=h;obtain⟨a',ws,e1,t2,_,r2⟩:=g;cases e1;have:=I.tuple_inj t1 t2;subst this;unfold aZ at e;split at e
    .rename_i bs hb
     obtain⟨z1,z2⟩:=items xs ys vs bs r1 r2 hb;grind
    .cases e
   |_=>unfold aZ at e;simp at e
  |lst xs=>
   cases w with
   |lst ys=>
    obtain⟨a,vs,rfl,t1,_,r1⟩:=h;obtain⟨a',ws,e1,t2,_,r2⟩:=g;cases e1;have:=I.list_inj t1.sq t2.sq;subst this;unfold aZ at e;rw[if_pos (r1.length.trans r2.length.symm)]at e;split at e
    .rename_i bs hb
     obtain⟨z1,z2⟩:=items xs ys vs bs r1 r2 hb;grind
    .cases e
   |_=>unfold aZ at e;simp at e
  |_=>exact Xl (n+1) _ w x b (by intro _ z;cases z) (by intro _ z;cases z) h g e
theorem Uu(I:aI X BJ σ H s):∀(n:Nat)(v w:PV)(x y:V)(u u':Value)(b:Bool)(A:aq),A.units+n<cLine->bG X.K c H v x->bG X.K c H w y->bJ x u->bJ y u'->aZ n v w=some b->ni A s u u' b/\jc A s u u' b:=by
 have flat:∀(n:Nat)(v w:PV)(x y:V)(u u':Value)(b:Bool)(A:aq),(∀xs,v≠.tup xs)->(∀xs,v≠.lst xs)->bG X.K c H v x->bG X.K c H w y->bJ x u->bJ y u'->aZ n v w=some b->ni A s u u' b/\jc A s u u' b:=by
  intro n v w x y u u' b A nt nl h g r r' e;cases v with
  |tup xs=>exact absurd rfl (nt xs)
  |lst xs=>exact absurd rfl (nl xs)
  |non=>
   cases w<;>first |(unfold aZ at e;simp at e;done) |skip
   unfold bG at h g;subst h g;cases r;cases r';unfold aZ at e;cases e;exact⟨j8,sv _⟩
  |bl i=>
   cases w<;>first |(unfold aZ at e;simp at e;done) |skip
   unfold bG at h g;subst h g;cases r;cases r';unfold aZ at e;cases e;exact⟨j9 _ _,SeqAt.EqAt.bool_bool _ _⟩
  |int i=>
   cases w<;>first |(unfold aZ at e;simp at e;done) |skip
   unfold bG at h g;subst h g;obtain⟨t,rfl⟩:=r;obtain⟨t',rfl⟩:=r';unfold aZ at e;cases e;exact⟨k4 _ _ _ _,j0 _ _ _ _⟩
  |str i=>
   cases w<;>first |(unfold aZ at e;simp at e;done) |skip
   unfold bG at h g;subst h g;obtain⟨t,rfl⟩:=r;obtain⟨t',rfl⟩:=r';unfold aZ at e;cases e;exact⟨k7 _ _ _ _,SeqAt.EqAt.str_str _ _ _ _⟩
 have main:∀(n:Nat)(v w:PV)(x y:V)(u u':Value)(b:Bool)(A:aq),A.units+n<cLine->bG X.K c H v x->bG X.K c H w y->bJ x u->bJ y u'->aZ n v w=some b->ni A s u u' b/\jc A s u u' b:=by
  intro n
  induction n with
  |zero=>
   intro v w x y u u' b A hu h g r r' e;cases v with
   |tup xs=>unfold aZ at e;simp at e
   |lst xs=>unfold aZ at e;simp at e
   |_=>exact flat 0 _ w x y u u' b A (by intro _ z;cases z) (by intro _ z;cases z) h g r r' e
  |succ n ih=>
   intro v w x y u u' b A hu h g r r' e;have hin:A.in1.units+n<cLine:=by show A.units+1+n<cLine;omega
   cases v with
   |tup xs=>
    cases w with
    |tup ys=>
     have hs:x=y->b=true:=λz=>Jq I (n+1) _ _ x b h (z▸g) e;unfold bG at h g;obtain⟨a,vs,rfl,t1,_,r1⟩:=h;obtain⟨a',ws,rfl,t2,_,r2⟩:=g;cases r;cases r';obtain⟨its,q1,p1,_⟩:=I.tuple t1;obtain⟨jts,q2,p2,_⟩:=I.tuple t2;unfold aZ at e;split at e
     .rename_i bs hb
      cases e;have z:=xi (A:=A) (s:=s) (e:=λj=>bs.getD j true) (show s.heap.IsTuple a its.toArray from p1) (show s.heap.IsTuple a' jts.toArray from p2) (by omega)
       (xF (A:=A.in1) (λv w x y u u' b h1 h2 h3 h4 h5=>(ih v w x y u u' b A.in1 hin h1 h2 h3 h4 h5).2) r1 r2 q1 q2 hb)
      have l1:=r1.length.trans q1.length;have l2:=r2.length.trans q2.length;rw[bf,bf,<-l1,<-l2,<-uT hb,wX]at z;refine⟨z,?_⟩
      by_cases ha:a=a'
      .subst ha
       rw[hs rfl];exact sv _
      .exact xj ha z
     .cases e
    |_=>unfold aZ at e;simp at e
   |lst xs=>
    cases w with
    |lst ys=>
     have hs:x=y->b=true:=λz=>Jq I (n+1) _ _ x b h (z▸g) e;unfold bG at h g;obtain⟨a,vs,rfl,t1,_,r1⟩:=h;obtain⟨a',ws,rfl,t2,_,r2⟩:=g;cases r;cases r';obtain⟨its,q1,p1,_⟩:=I.list t1.sq;obtain⟨jts,q2,p2,_⟩:=I.list t2.sq;have l1:=r1.length.trans q1.length;have l2:=r2.length.trans q2.length;have fin:ni A s (.ref a) (.ref a') b->ni A s (.ref a) (.ref a') b/\jc A s (.ref a) (.ref a') b:=λz=>by
      refine⟨z,?_⟩
      by_cases ha:a=a'
      .subst ha
       rw[hs rfl];exact sv _
      .exact xj ha z
     unfold aZ at e;split at e
     .rename_i hl
      split at e
      .rename_i bs hb
       cases e;have z:=k8 (A:=A) (s:=s) (e:=λj=>bs.getD j true) p1.isList p2.isList (by rw[bf,bf];omega) (by omega)
        (xF (A:=A.in1) (λv w x y u u' b h1 h2 h3 h4 h5=>(ih v w x y u u' b A.in1 hin h1 h2 h3 h4 h5).2) r1 r2 q1 q2 hb)
       have hm:its.length=bs.length:=by rw[uT hb];omega
       rw[bf,hm,wX]at z;exact fin z
      .cases e
     .rename_i hl
      cases e;exact fin (l7 p1.isList p2.isList (by rw[bf,bf];simp;omega) (by omega))
    |_=>unfold aZ at e;simp at e
   |_=>exact flat (n+1) _ w x y u u' b A (by intro _ z;cases z) (by intro _ z;cases z) h g r r' e
 exact main
end
section
open PySem PySem.Spec PyProof.Rows Bn
section
variable{X:Cx}
theorem Lx{BJ:List (Addr×Obj)}{σ:St}{H:Hp}{s:aa}(I:aI X BJ σ H s){p:Ph}{v w:PV}{x y:V}{u u':Value}{b:Bool}{A:aq}(hu:A.units+8<cLine)(h:eM X.K p H v x)(g:eM X.K p H w y)(r:bJ x u)(r':bJ y u')(e:aZ 8 v w=some b):
  ni A s u u' b/\SeqAt.RcNeAt A s u u' (!b):=by
 have hin:A.in1.units+7<cLine:=by show A.units+1+7<cLine;omega
 cases v with
 |non=>
  cases w<;>first |(unfold aZ at e;simp at e;done) |skip
  have h:=h.non;have g:=g.non;subst h g;cases r;cases r';unfold aZ at e;cases e;exact⟨j8,SeqAt.RcNeAt.none_none⟩
 |bl i=>
  cases w<;>first |(unfold aZ at e;simp at e;done) |skip
  have h:=h.bl;have g:=g.bl;subst h g;cases r;cases r';unfold aZ at e;cases e;exact⟨j9 _ _,SeqAt.RcNeAt.bool_bool _ _⟩
 |int i=>
  cases w<;>first |(unfold aZ at e;simp at e;done) |skip
  have h:=h.int;have g:=g.int;subst h g;obtain⟨t,rfl⟩:=r;obtain⟨t',rfl⟩:=r';unfold aZ at e;cases e;exact⟨k4 _ _ _ _,SeqAt.RcNeAt.int_int _ _ _ _⟩
 |str i=>
  cases w<;>first |(unfold aZ at e;simp at e;done) |skip
  have h:=h.str;have g:=g.str;subst h g;obtain⟨t,rfl⟩:=r;obtain⟨t',rfl⟩:=r';unfold aZ at e;cases e;exact⟨k7 _ _ _ _,SeqAt.RcNeAt.str_str _ _ _ _⟩
 |tup xs=>
  cases w with
  |tup ys=>
   obtain⟨a,vs,rfl,t1,_,r1⟩:=h.tup;obtain⟨a',ws,rfl,t2,_,r2⟩:=g.tup;cases r;cases r';obtain⟨its,q1,p1,_⟩:=I.tuple t1;obtain⟨jts,q2,p2,_⟩:=I.tuple t2;unfold aZ at e;split at e
   .rename_i bs hb
    cases e;have it:=xF (s:=s) (A:=A.in1) (λv w x y u u' b h1 h2 h3 h4 h5=>(Uu I 7 v w x y u u' b A.in1 hin h1 h2 h3 h4 h5).2) r1 r2 q1 q2 hb;have z:=xi (A:=A) (s:=s) (e:=λj=>bs.getD j true) (show s.heap.IsTuple a its.toArray from p1) (show s.heap.IsTuple a' jts.toArray from p2) (by omega) it;have z':=SeqAt.RcNeAt.tuples (A:=A) (s:=s) (e:=λj=>bs.getD j true) (show s.heap.IsTuple a its.toArray from p1) (show s.heap.IsTuple a' jts.toArray from p2) (by omega) it;have l1:=r1.length.trans q1.length;have l2:=r2.length.trans q2.length;rw[bf,bf,<-l1,<-l2,<-uT hb,wX]at z z';exact⟨z,z'⟩
   .cases e
  |_=>unfold aZ at e;simp at e
 |lst xs=>
  cases w with
  |lst ys=>
   obtain⟨a,vs,rfl,t1,_,r1⟩:=h.lst;obtain⟨a',ws,rfl,t2,_,r2⟩:=g.lst;cases r;cases r';obtain⟨its,q1,p1,_⟩:=I.list t1;obtain⟨jts,q2,p2,_⟩:=I.list t2;have l1:=r1.length.trans q1.length;have l2:=r2.length.trans q2.length;unfold aZ at e;split at e
   .rename_i hl
    split at e
    .rename_i bs hb
     cases e;have it:=xF (s:=s) (A:=A.in1) (λv w x y u u' b h1 h2 h3 h4 h5=>(Uu I 7 v w x y u u' b A.in1 hin h1 h2 h3 h4 h5).2) r1 r2 q1 q2 hb;have z:=k8 (A:=A) (s:=s) (e:=λj=>bs.getD j true) p1.isList p2.isList (by rw[bf,bf];omega) (by omega) it;have z':=SeqAt.RcNeAt.lists (A:=A) (s:=s) (e:=λj=>bs.getD j true) p1.isList p2.isList (by rw[bf,bf];omega) (by omega) it;have hm:its.length=bs.length:=by rw[uT hb];omega
     rw[bf,hm,wX]at z z';exact⟨z,z'⟩
    .cases e
   .rename_i hl
    cases e;exact⟨l7 p1.isList p2.isList (by rw[bf,bf];simp;omega) (by omega),SeqAt.RcNeAt.lists_lengths p1.isList p2.isList (by rw[bf,bf];simp;omega) (by omega)⟩
  |_=>unfold aZ at e;simp at e
def zU(K:ae)(neg:Bool):R2:=λx y H Q=>∃p v w b,eM K p H v x/\eM K p H w y/\aZ 8 v w=some b/\Q (.bl (if neg then !b else b)) H
theorem Nv(hu:X.A.units+8<cLine):dM X (compareOp .Eq) (zU X.K false):=by
 intro BJ s σ H x y v u Q I rx ry h;obtain⟨p,a,b,k,h1,h2,e,q⟩:=h;exact(Lx I hu h1 h2 rx ry e).1 _ _ _ _ ⟨.bl k,H,I,rfl,q⟩
theorem Eu(hu:X.A.units+8<cLine):dM X (compareOp .NotEq) (zU X.K true):=by
 intro BJ s σ H x y v u Q I rx ry h;obtain⟨p,a,b,k,h1,h2,e,q⟩:=h;exact(Lx I hu h1 h2 rx ry e).2 _ _ _ _ ⟨.bl _,H,I,rfl,q⟩
def cB(a b:PV):BG:=(aZ 8 a b).map .bl
def gM(a b:PV):BG:=(aZ 8 a b).map λk=>.bl (!k)
theorem Qy{K:ae}:fW K (zU K false) cB:=λ{p S H a b c x y Q} s ra rb e k=>by
 unfold cB at e;cases z:aZ 8 a b with
 |none=>simp_all
 |some t=>
  rw[z]at e;cases e;exact⟨p,a,b,t,ra,rb,z,k H _ (cZ.refl H) rfl ⟩
theorem Iy{K:ae}:fW K (zU K true) gM:=λ{p S H a b c x y Q} s ra rb e k=>by
 unfold gM at e;cases z:aZ 8 a b with
 |none=>simp_all
 |some t=>
  rw[z]at e;cases e;exact⟨p,a,b,t,ra,rb,z,k H _ (cZ.refl H) rfl ⟩
def i2(f:Int->Int->BG):PV->PV->BG
 |.int a,.int b=>f a b
 |_,_=>none
open Classical in
def cI(C:Int->Int->Prop)(g:Int->Int->PV)(a b:Int):BG:=if C a b then some (g a b)else none
def Hi:PV->V
 |.int i=>.int i
 |.bl b=>.bl b
 |.str s=>.str s
 |_=>.non
def Dh:PV->Bool
 |.int _=>true
 |.bl _=>true
 |.str _=>true
 |.non=>true
 |_=>false
theorem iD{K:ae}{c:Addr->Prop}{H:Hp}{v:PV}(h:Dh v=true):bG K c H v (Hi v):=by
 cases v with
 |tup _=>cases h
 |lst _=>cases h
 |_=>rfl
theorem vR{K:ae}{C:Int->Int->Prop}{g:Int->Int->PV}{h:Int->Int->V}(fl:∀i j,Dh (g i j)=true/\Hi (g i j)=h i j):fW K (rI C h) (i2 (cI C g)):=λ{p S H a b c x y Q} s ra rb e k=>by
 cases a with
 |int i=>
  cases b with
  |int j=>
   unfold i2 cI at e;dsimp only at e;split at e
   .rename_i hc
    cases e;refine⟨i,j,ra.int,rb.int,hc,?_⟩;rw[<-(fl i j).2];exact k H _ (cZ.refl H) (iD (fl i j).1)
   .cases e
  |_=>cases e
 |_=>cases e
theorem vU{K:ae}{g:Int->Int->PV}{h:Int->Int->V}(fl:∀i j,Dh (g i j)=true/\Hi (g i j)=h i j):fW K (jG h) (i2 λi j=>some (g i j)):=λ{p S H a b c x y Q} s ra rb e k=>by
 cases a with
 |int i=>
  cases b with
  |int j=>
   cases e;refine⟨i,j,ra.int,rb.int,?_⟩;rw[<-(fl i j).2];exact k H _ (cZ.refl H) (iD (fl i j).1)
  |_=>cases e
 |_=>cases e
def qO(i j:Int):Prop:=Yh i j\/(Bd 1000000 i/\Bd 1000000 j)
theorem qO.ok  (h:qO i j):IntMulOk i j:=by
 rcases h with h |h
 .exact h.ok
 have h1:=Xq h.1;have h2:=Xq h.2;unfold IntMulOk Builtin.Int.intTooBig bitsLine;grind
theorem abl:dM X (binaryOp .Mult) (rI qO λi j=>.int (i*j)):=Va λ_ _ _ _ _ _ _ hc q=>mul_int q hc.ok
def aV:=i2 (cI qO λi j=>.int (i*j))
def jM:=i2 (cI vI λi j=>.int (i.fdiv j))
def fU:=i2 (cI (λ_ j=>j≠0) λi j=>.int (i.fmod j))
def iM:=i2 (cI zM λi j=>.int (i^j.toNat))
def cX:=i2 λi j=>some (.int (i-j))
def hJ:=i2 λi j=>some (.bl (decide (i<j)))
def wA:=i2 λi j=>some (.bl (decide (i<=j)))
def dR:=i2 λi j=>some (.bl (decide (j<i)))
def qV:=i2 λi j=>some (.bl (decide (j<=i)))
theorem afE{K:ae}:fW K (rI qO λi j=>.int (i*j)) aV:=vR λ_ _=>⟨rfl,rfl⟩
theorem ac1{K:ae}:fW K (rI vI λi j=>.int (i.fdiv j)) jM:=vR λ_ _=>⟨rfl,rfl⟩
theorem afv{K:ae}:fW K (rI (λ_ j=>j≠0) λi j=>.int (i.fmod j)) fU:=vR λ_ _=>⟨rfl,rfl⟩
theorem afG{K:ae}:fW K (rI zM λi j=>.int (i^j.toNat)) iM:=vR λ_ _=>⟨rfl,rfl⟩
theorem afg{K:ae}:fW K (jG λi j=>.int (i-j)) cX:=vU λ_ _=>⟨rfl,rfl⟩
theorem Wy{K:ae}:fW K (jG λi j=>.bl (decide (i<j))) hJ:=vU λ_ _=>⟨rfl,rfl⟩
theorem Fz{K:ae}:fW K (jG λi j=>.bl (decide (i<=j))) wA:=vU λ_ _=>⟨rfl,rfl⟩
theorem Cz{K:ae}:fW K (jG λi j=>.bl (decide (j<i))) dR:=vU λ_ _=>⟨rfl,rfl⟩
theorem Bz{K:ae}:fW K (jG λi j=>.bl (decide (j<=i))) qV:=vU λ_ _=>⟨rfl,rfl⟩
def cM:PV->BG
 |.int i=>some (.int (-i))
 |_=>none
theorem aeA{K:ae}:Pa K (rU λi=>.int (-i)) cM:=λ{p S H a c x Q} s ra e k=>by
 cases a with
 |int i=>
  cases e;exact⟨i,ra.int,k H _ (cZ.refl H) rfl ⟩
 |_=>cases e
def Gx(K:ae):R2:=λx y H Q=>∃l b xs zs,x=.ref l/\y=.ref b/\bO K H l xs/\bO K H b zs/\xs.length+zs.length<=sizeLine/\∀p,H p=none->Q (.ref p) (aT H p (.lst (xs++zs)))
theorem acG:dM X (binaryOp .Add) (Gx X.K):=by
 intro BJ s σ H x y v u Q I rx ry h;obtain⟨l,b,xs,zs,rfl,rfl,hx,hy,hz,q⟩:=h;cases rx;cases ry;obtain⟨its,r1,p1,_⟩:=I.list hx;obtain⟨jts,r2,p2,_⟩:=I.list hy;obtain⟨⟨cls,dd,data,sl⟩,n,ho,hc,_,hd⟩:=p1;obtain⟨⟨cls2,dd2,data2,sl2⟩,n2,ho2,hc2,_,hd2⟩:=p2;simp only at hc hd hc2 hd2;subst hc hd hc2 hd2;have e:its.toArray++jts.toArray=(its++jts).toArray:=by simp
 have l1:=r1.length;have l2:=r2.length;refine qr ⟨_,ho,rfl⟩ ⟨_,ho2,rfl⟩ noFill_list_add seq_list_add PySem.F.slot_list_add PySem.F.entry_list_add (PySem.F.args_list_add_2 _ _) (list_addW l b _ _ n n2 dd dd2 sl sl2 (by grind)) ⟨ho,ho2,?_⟩;rw[e];exact⟨.ref _,_,I.lnew  (r1.append r2) (by rw[av];omega),rfl,q _ I.fresh⟩
def bF:PV->PV->BG
 |.int a,.int b=>some (.int (a+b))
 |.lst xs,.lst ys=>if xs.length+ys.length<=16777216 then some (.lst (xs++ys))else none
 |.tup xs,.tup ys=>if xs.length≠0/\ys.length≠0/\xs.length+ys.length<=16777216 then some (.tup (xs++ys))else none
 |_,_=>none
def Jx(K:ae):R2:=λx y H Q=>(jG λi j=>.int (i+j)) x y H Q\/Gx K x y H Q\/Pg K x y H Q
theorem abT:dM X (binaryOp .Add) (Jx X.K):=dM.or adv (dM.or acG Qr)
theorem ae1{K:ae}:fW K (Jx K) bF:=λ{p S H a b c x y Q} s ra rb e k=>by
 cases a with
 |int i=>
  cases b with
  |int j=>
   cases e;exact .inl ⟨i,j,ra.int,rb.int,k H _ (cZ.refl H) (iD  rfl)⟩
  |_=>cases e
 |lst xs=>
  cases b with
  |lst ys=>
   have e:(if xs.length+ys.length<=16777216 then some (PV.lst (xs++ys))else none)=some c:=e;split at e
   .rename_i hl
    cases e;obtain⟨a1,vs,rfl,l1,z1,r1⟩:=ra.lst;obtain⟨a2,ws,rfl,l2,z2,r2⟩:=rb.lst;have hz:vs.length+ws.length<=sizeLine:=by rw[<-r1.length,<-r2.length,kS];exact hl
    exact .inr (.inl ⟨a1,a2,vs,ws,rfl,rfl,l1,l2,hz,λt ht=>k _ _ (iB ht) (nC s (r1.append r2) (by rw[av];exact hz) ht)⟩)
   .cases e
  |_=>cases e
 |tup xs=>
  cases b with
  |tup ys=>
   have e:(if xs.length≠0/\ys.length≠0/\xs.length+ys.length<=16777216 then some (PV.tup (xs++ys))else none)=some c:=e;split at e
   .rename_i hl
    cases e;obtain⟨a1,vs,rfl,l1,z1,r1⟩:=ra.tup;obtain⟨a2,ws,rfl,l2,z2,r2⟩:=rb.tup;have hz:vs.length+ws.length<=sizeLine:=by rw[<-r1.length,<-r2.length,kS];exact hl.2.2
    refine .inr (.inr ⟨a1,a2,vs,ws,rfl,rfl,l1,l2,λq=>hl.1 (by rw[r1.length,q];rfl),hz,λq=>absurd (show ys.length=0 by rw[r2.length,q];rfl) hl.2.1,λ_ t ht=>k _ _ (iB ht) (qD s (r1.append r2) (by rw[av];exact hz) ht)⟩)
   .cases e
  |_=>cases e
 |_=>cases e
end
section
variable{K:ae}{cl:Str->Addr}{E:XK}{X:Cx}{a b e:ah}{es:List ah}{ma mb m:ME}{ms:MA}{pos p2:ai}
def aK:PV->PV->BG
 |.lst xs,.int i=>fY xs i
 |.tup xs,.int i=>fY xs i
 |_,_=>none
theorem yD       (r:aP K c H xs vs)(e:fY xs i=some v):∃x,fY vs i=some x/\bG K c H v x:=by
 unfold fY at e⊢;rw[<-r.length];cases z:fX _ i with
 |none=>simp_all
 |some j=>
  rw[z]at e;exact r.get e
theorem afS:fW K (Kz K) aK:=λ{p S H a b c x y Q} s ra rb e k=>by
 cases b with
 |int i=>
  cases a with
  |lst xs=>
   obtain⟨a1,vs,rfl,l1,z1,r1⟩:=ra.lst;obtain⟨x,e1,r2⟩:=yD r1 e;exact .inl ⟨a1,vs,i,x,rfl,rb.int,l1,e1,k H x (cZ.refl H) r2⟩
  |tup xs=>
   obtain⟨a1,vs,rfl,l1,z1,r1⟩:=ra.tup;obtain⟨x,e1,r2⟩:=yD r1 e;exact .inr (.inl ⟨a1,vs,i,x,rfl,rb.int,l1,e1,k H x (cZ.refl H) r2⟩)
  |_=>cases e
 |_=>cases a<;>cases e
theorem aeW(ha:aN K cl E X a ma)(hb:aN K cl E X b mb)(hs:xR b:=by intro _ _;rfl):aN K cl E X (.Subscript a b pos) (aC aK ma mb):=by
 intro hK;subst hK;refine(Wg Hw (ha rfl) (hb rfl) hs).imp ?_
 rintro σ H Q ⟨p,S,ρ,s,e,h⟩
 exact bW s e h λq H1 a x S1 st s1 e1 r1 h1=>bW s1 e1 h1 λq2 H2 b y S2 st2 s2 e2 r2 h2=>wS afS s2 (st2.repA r1) r2 h2
abbrev MO:=cN->aJ->bH BE
def cJ:MO:=λ_ S=>.ok none S
def fB:AV->aJ->bH BE
 |.pv (.int i),S=>.ok (some i) S
 |_,_=>.fail
def cU(m:ME):MO:=λρ S=>(m ρ S).bind fB
abbrev RO:Ph->Hp->BE->BE->Prop:=λ_ _ a b=>a=b
variable(K cl E X)
def pI(e:Option ah)(m:MO):Prop:=X.K=K->PO X e (tP K cl E RO m)
variable{K cl E X}
theorem PO.imp{e:Option ah}{t t':TO}(h:PO X e t)(i:∀σ H Q,t' σ H Q->t σ H Q):PO X e t':=λBJ s σ H Q I q=>h _ s _ H Q I (i _ H Q q)
theorem aaF:pI K cl E X none cJ:=λ_=>PO.imp ab2 λσ H Q ⟨p,S,ρ,s,e,h⟩=>bU.ret  h s rfl
theorem aaw(h:aN K cl E X e m):pI K cl E X (some e) (cU m):=by
 intro hK;subst hK;refine PO.imp (Ie (h rfl)) ?_
 rintro σ H Q ⟨p,S,ρ,s,e,h⟩
 refine bW s e h λq H1 a x S1 st s1 e1 r1 h1=>?_;unfold fB at h1;split at h1
 .rename_i i
  exact⟨i,(show eM _ q _ _ x from .inl r1).int,bU.ret  h1 s1 rfl⟩
 .exact h1.elim
def kO(xs:BF)(lo hi:BE):BF:=(xs.drop (HT.sIx xs.length 0 lo)).take (HT.sIx xs.length xs.length hi-HT.sIx xs.length 0 lo)
def iT(v:PV)(lo hi:BE):BG:=match v with
 |.lst xs=>some (.lst (kO xs lo hi))
 |.tup xs=>if HT.sIx xs.length 0 lo=0/\HT.sIx xs.length xs.length hi=xs.length then none else some (.tup (kO xs lo hi))
 |_=>none
def cV(m:ME)(ml mh:MO):ME:=λρ S=>(m ρ S).bind λv S1=>(ml ρ S1).bind λlo S2=>(mh ρ S2).bind λhi S3=>iN ((rd S3 v).bind λx=>iT x lo hi) S3
theorem Bp     {lo hi:BE}(r:aP K c H xs vs):aP K c H (kO xs lo hi) (tN vs lo hi):=by
 unfold kO tN;rw[<-r.length];exact(r.drop _).take _
theorem aeP{lo hi:Option ah}{ml mh:MO}(he:aN K cl E X e m)(hl:pI K cl E X lo ml)(hu:pI K cl E X hi mh):aN K cl E X (.Subscript e (.Slice lo hi none p2) pos) (cV m ml mh):=by
 intro hK;subst hK;refine(V6 (pG.or acE adM) (he rfl) (hl rfl) (hu rfl)).imp ?_
 rintro σ H Q ⟨p,S,ρ,s,e,h⟩
 refine bW s e h λq H1 a x S1 st s1 e1 r1 h1=>bW s1 e1 h1 λq2 H2 lo lo' S2 st2 s2 e2 r2 h2=>bW s2 e2 h2 λq3 H3 hi hi' S3 dI s3 e3 r3 h3=>?_;cases r2;cases r3;have ra:=dI.repA (st2.repA r1);obtain⟨c,ec,k⟩:=sL s3 h3;cases z:rd S3 a with
 |none=>rw[z]at ec;cases ec
 |some v=>
  rw[z]at ec;have rv:=qJ s3 ra z;cases v with
  |lst xs=>
   have ec:=ec;cases ec;obtain⟨a1,vs,rfl,l1,z1,r1⟩:=rv.lst;exact .inl ⟨a1,vs,rfl,l1,λt ht=>k _ _ (iB ht) (nC s3 (Bp r1) (fh (wJ vs lo hi) z1) ht)⟩
  |tup xs=>
   obtain⟨a1,vs,rfl,l1,z1,r1⟩:=rv.tup;have ec:(if HT.sIx xs.length 0 lo=0/\HT.sIx xs.length xs.length hi=xs.length then none else some _)=some c:=ec;split at ec
   .cases ec
   .rename_i hw
    cases ec;rw[r1.length]at hw;exact .inr ⟨a1,vs,rfl,l1,hw,λt ht=>k _ _ (iB ht) (qD s3 (Bp r1) (fh (wJ vs lo hi) z1) ht)⟩
  |_=>cases ec
theorem mX{id:String}{r:List V->Hp->VK->Prop}{f:BF->BG}{x:Str}{p:ai}(hc:iH X (.builtin id) r)(hf:jH X.K r f)(hg:Gl X x)(hm:X.mg x=none)(hv:bootBuiltins x=some (.builtin id))(ha:eQ K cl E X (e::es) ms)(hn:x≠"__name__":=by decide)(hdb:(x==("__debug__":Str))=false:=by decide)
  (he:starEach (e::es) X.env=(false,eval e X.env)::starEach es X.env:=by rfl)(hpl:(backTo pos (starEach es X.env)).any (·.1)=false:=by rfl):aN K cl E X (.Call (.Name x p) (e::es) [] pos) (mR f ms):=by
 intro hK;subst hK;refine PE.imp (Po hc hg hm hv (ha rfl) hn hdb he hpl) ?_
 rintro σ H Q ⟨p,S,ρ,s,ev,h⟩
 exact bW s ev h λq H' as xs S' cO sm ev r k=>Hm hf sm r k
theorem Lc     {p:ai}(hc:iH X (.type T) r)(hf:jH X.K r f)(hg:Gl X x)(hm:X.mg x=none)(hv:bootBuiltins x=some (.type T))(ha:eQ K cl E X (e::es) ms)(hn:x≠"__name__":=by decide)(hdb:(x==("__debug__":Str))=false:=by decide)
  (he:starEach (e::es) X.env=(false,eval e X.env)::starEach es X.env:=by rfl)(hpl:(backTo pos (starEach es X.env)).any (·.1)=false:=by rfl):aN K cl E X (.Call (.Name x p) (e::es) [] pos) (mR f ms):=by
 intro hK;subst hK;refine PE.imp (wQ hc hg hm hv (ha rfl) hn hdb he hpl) ?_
 rintro σ H Q ⟨p,S,ρ,s,ev,h⟩
 exact bW s ev h λq H' as xs S' cO sm ev r k=>Hm hf sm r k
def cS:BF->BG
 |[.lst xs]=>some (.int xs.length)
 |[.tup xs]=>some (.int xs.length)
 |_=>none
theorem aeD:jH K (λxs H Q=>∃p ys,xs=[.ref p]/\(bO K H p ys\/cG K H p ys)/\Q (.int ys.length) H) cS:=λ{p S H as c xs Q} s ra e k=>by
 unfold cS at e;split at e
 .cases e
  cases ra with
  |cons h t=>
   cases t;obtain⟨a,vs,rfl,l,z,r⟩:=h.lst;refine⟨a,vs,rfl,.inl l,?_⟩;rw[<-r.length];exact k H _ (cZ.refl H) (iD  rfl)
 .cases e
  cases ra with
  |cons h t=>
   cases t;obtain⟨a,vs,rfl,l,z,r⟩:=h.tup;refine⟨a,vs,rfl,.inr l,?_⟩;rw[<-r.length];exact k H _ (cZ.refl H) (iD  rfl)
 .cases e
def jD:BF->BG
 |[.int i]=>some (.int (if i<0 then-i else i))
 |_=>none
theorem aeU:jH K (λxs H Q=>∃i,xs=[.int i]/\Q (.int (if i<0 then-i else i)) H) jD:=λ{p S H as c xs Q} s ra e k=>by
 unfold jD at e;split at e
 .rename_i i
  cases e;cases ra with
  |cons h t=>
   cases t;cases h.int;exact⟨i,rfl,k H _ (cZ.refl H) (iD  rfl)⟩
 .cases e
def gI:BF->BG
 |[.lst xs]=>some (.tup xs)
 |[.tup xs]=>some (.tup xs)
 |_=>none
theorem ab0:jH K (λxs H Q=>∃p ys,xs=[.ref p]/\((bO K H p ys/\∀l,H l=none->Q (.ref l) (aT H l (.tup ys)))\/(cG K H p ys/\Q (.ref p) H))) gI:=λ{p S H as c xs Q} s ra e k=>by
 unfold gI at e;split at e
 .cases e
  cases ra with
  |cons h t=>
   cases t;obtain⟨a,vs,rfl,l,z,r⟩:=h.lst;exact⟨a,vs,rfl,.inl ⟨l,λt ht=>k _ _ (iB ht) (qD s r z ht)⟩⟩
 .cases e
  cases ra with
  |cons h t=>
   cases t;obtain⟨a,vs,rfl,l,z,r⟩:=h.tup;refine⟨a,vs,rfl,.inr ⟨l,k H _ (cZ.refl H) ?_⟩⟩;exact⟨a,vs,rfl,l,z,r⟩
 .cases e
def jK:BF->BG
 |[.lst xs]=>some (.lst xs)
 |[.tup xs]=>some (.lst xs)
 |_=>none
theorem act:jH K (λxs H Q=>∃p ys,xs=[.ref p]/\(bO K H p ys\/cG K H p ys)/\∀l,H l=none->Q (.ref l) (aT H l (.lst ys))) jK:=λ{p S H as c xs Q} s ra e k=>by
 unfold jK at e;split at e
 .cases e
  cases ra with
  |cons h t=>
   cases t;obtain⟨a,vs,rfl,l,z,r⟩:=h.lst;exact⟨a,vs,rfl,.inl l,λt ht=>k _ _ (iB ht) (nC s r z ht)⟩
 .cases e
  cases ra with
  |cons h t=>
   cases t;obtain⟨a,vs,rfl,l,z,r⟩:=h.tup;exact⟨a,vs,rfl,.inr l,λt ht=>k _ _ (iB ht) (nC s r z ht)⟩
 .cases e
def iQ:BF->Option (List Bool)
 |[]=>some []
 |.bl b::r=>match iQ r with
  |some bs=>some (b::bs)
  |none=>none
 |_::_=>none
def jE:BF->BG
 |[.lst xs]=>(iQ xs).map λbs=>.bl (bs.all id)
 |_=>none
theorem Zc  :∀{xs:BF}{bs:List Bool}{vs:List V},iQ xs=some bs->aP K c H xs vs->vs=bs.map V.bl
 |[],bs,vs,e,r=>by
  cases e;exact r
 |.bl b::xs,bs,vs,e,r=>by
  unfold iQ at e;split at e
  .rename_i cs h
   cases e;obtain⟨v,w,rfl,r1,r2⟩:=r;rw[r1,Zc h r2];rfl
  .cases e
 |.non::_,_,_,e,_=>by cases e
 |.int _::_,_,_,e,_=>by cases e
 |.str _::_,_,_,e,_=>by cases e
 |.tup _::_,_,_,e,_=>by cases e
 |.lst _::_,_,_,e,_=>by cases e
theorem aey:jH K (λxs H Q=>∃(a:Addr)(bs:List Bool),xs=[.ref a]/\bO K H a (bs.map V.bl)/\Q (.bl (bs.all id)) H) jE:=λ{p S H as c xs Q} s ra e k=>by
 unfold jE at e;split at e
 .rename_i zs
  cases y:iQ zs with
  |none=>simp_all
  |some bs=>
   rw[y]at e;cases e;cases ra with
   |cons h t=>
    cases t;obtain⟨a,vs,rfl,l,z,r⟩:=h.lst;rw[Zc y r]at l;exact⟨a,bs,rfl,l,k H _ (cZ.refl H) (iD  rfl)⟩
 .cases e
def kP:BF->BG
 |[.int i]=>some (.int i)
 |[.bl b]=>some (.int (if b then 1 else 0))
 |_=>none
theorem afu:jH K (λxs H Q=>(∃i,xs=[.int i]/\Q (.int i) H)\/∃k,xs=[.bl k]/\Q (.int (if k then 1 else 0)) H) kP:=λ{p S H as c xs Q} s ra e k=>by
 unfold kP at e;split at e
 .rename_i i
  cases e;cases ra with
  |cons h t=>
   cases t;cases h.int;exact .inl ⟨i,rfl,k H _ (cZ.refl H) (iD  rfl)⟩
 .rename_i i
  cases e;cases ra with
  |cons h t=>
   cases t;cases h.bl;exact .inr ⟨i,rfl,k H _ (cZ.refl H) (iD  rfl)⟩
 .cases e
end
end
section
variable{K:ae}{cl:Str->Addr}{E:XK}{X:Cx}{a b c e l:ah}{es:List ah}{m:ME}{ms:MA}{pos:ai}{p q:Ph}{H H':Hp}{S:aJ}
theorem aQ.push(s:aQ K p S H){D:Addr}{ps:BF}{vs:List V}(h:H D=none)(l:vs.length<=sizeLine)(r:aP K p.c H ps vs):
  let q:Ph:=⟨p.f++[D],λa=>p.w a\/a=D,λa=>p.c a\/a=D⟩
  bK p H q (aT H D (.lst vs))/\aQ K q (S++[.lst ps]) (aT H D (.lst vs)):=by
 intro q;obtain⟨st0,sm0⟩:=s.res (D:=D) (o:=.lst vs) h trivial;have nf0:D∉p.f:=λz=>s.notin h (s.wc D (s.sub D z));refine⟨⟨st0.wc,st0.mu,⟨[D],rfl⟩,st0.mw,st0.mono,λa x n=>?_,st0.nw,st0.nc,st0.keep⟩,?_,by simp[q,s.len],λa x=>?_,sm0.wc,sm0.mu,λk a o e1 e2=>?_⟩
 .grind
 .show(p.f++[D]).Nodup
  rw[qb];refine⟨s.nd,by simp,λa ha b hb z=>?_⟩;have:b=D:=by simpa using hb
  exact nf0 (this▸z▸ha)
 .rcases br.mp x with z |z
  .exact .inl (s.sub a z)
  .exact .inr (by simpa using z)
 .by_cases hk:k<S.length
  .have e1':p.f[k]?=some a:=by
    rwa[fu (by rw[s.len];exact hk)]at e1
   rw[fu hk]at e2;refine(s.obj k a o e1' e2).mono (λvs e=>by rw[bQ (gH e h)];exact e) (λb w f=>⟨⟨.inl w,λm=>?_⟩,λvs e=>by rw[bQ (gH e h)];exact e⟩) λ_ _ r=>st0.reps r;rcases br.mp m with z |z
   .exact f z
   .have:b=D:=by simpa using z
    exact s.notin h (this▸s.wc b w)
  .have hk':k=S.length:=by
    have:=(bn.mp e2).1;simp at this;omega
   subst hk';rw[dq (al _),io]at e2;have e1:=e1;rw[<-s.len,dq (al _),io]at e1;cases e1;cases e2;exact⟨vs,fP,l,st0.reps r⟩
theorem aQ.write(s:aQ K p S H){D:Addr}{k:Nat}{ps:BF}{vs:List V}(h:p.f[k]?=some D)(hk:k<S.length)(l:vs.length<=sizeLine)(r:aP K p.c H ps vs):
  bK p H p (aT H D (.lst vs))/\aQ K p (S.set k (.lst ps)) (aT H D (.lst vs)):=by
 have w:=s.sub D (cq h);have st:bK p H p (aT H D (.lst vs)):=⟨s.wc,s.mu,jm,λ_ h=>h,λ_ h=>h,λ_ h g=>absurd h g,λ_ h g=>absurd h g,λ_ h g=>absurd h g,λa u e nw=>by
  rw[bQ (λz=>nw (by rw[z];exact w))];exact e⟩
 refine⟨st,s.nd,by rw[ff];exact s.len,s.sub,s.wc,λa x=>?_,λj a o e1 e2=>?_⟩
 .by_cases z:a=D
  .rw[z,fP]
   exact⟨_,rfl,trivial⟩
  .rw[bQ z]
   exact s.mu a x
 .by_cases hj:k=j
  .subst hj
   rw[h]at e1;cases e1;rw[df hk]at e2;cases e2;exact⟨vs,fP,l,st.reps r⟩
  .rw[dk hj]at e2
   have ne:a≠D:=λq=>hj (rQ s.nd h (q▸e1));exact(s.obj j a o e1 e2).mono (λvs e=>by rw[bQ ne];exact e) (λb w f=>⟨⟨w,f⟩,λvs e=>by rw[bQ (λz:b=D=>f (z▸cq h))];exact e⟩) λ_ _ r=>st.reps r
def jN(xs:BI)(S:aJ):bH AV:=match nQ xs with
 |some vs=>if vs.length<=16777216 then .ok (.ref S.length) (S++[.lst vs])else .fail
 |none=>.fail
def eL(ms:MA):ME:=λρ S=>(ms ρ S).bind jN
theorem acK(h:eQ K cl E X es ms):aN K cl E X (.List es pos) (eL ms):=by
 intro hK;subst hK;refine(Ag (h rfl)).imp ?_
 rintro σ H Q ⟨p,S,ρ,s,e,h⟩
 refine bW s e h λq H1 as xs S1 st s1 e1 r1 h1=>?_;unfold jN at h1;split at h1
 .rename_i vs hv
  split at h1
  .rename_i hl
   have r:=Dc hv r1;rw[r.length]at hl;refine⟨hl,λt ht=>?_⟩;obtain⟨st2,sm2⟩:=s1.push ht hl r;exact h1 _ _ _ st2 sm2 ⟨t,by rw[<-s1.len,dq (al _),io];rfl,rfl⟩
  .exact h1.elim
 .exact h1.elim
def iE(k:Nat)(ys:BI)(S:aJ):bH AV:=match ys with
 |[.pv y]=>match S[k]? with
  |some (.lst xs)=>if xs.length<16777216 then .ok (.pv .non) (S.set k (.lst (xs++[y])))else .fail
  |_=>.fail
 |_=>.fail
def fG  (k:AV)(S:aJ)(f:Nat->bH α):bH α:=match k with
 |.ref k=>(match S[k]? with
  |some (.dic _ _)=>.fail
  |some (.dol _ _)=>.fail
  |_=>f k)
 |_=>.fail
theorem xH  (k:Nat)(S:aJ)(f:Nat->bH α):fG (.ref k) S f=.fail\/(fG (.ref k) S f=f k/\(∀n l,S[k]?≠some (.dic n l))/\∀n l,S[k]?≠some (.dol n l)):=by
 have e:fG (.ref k) S f=match S[k]? with
  |some (.dic _ _)=>.fail
  |some (.dol _ _)=>.fail
  |_=>f k:=rfl
 rw[e];cases S[k]? with
 |none=>exact .inr ⟨rfl,λ_ _ z=>(nomatch z),λ_ _ z=>nomatch z ⟩
 |some o=>
  cases o with
  |dic n l=>exact .inl rfl
  |dol n l=>exact .inl rfl
  |lst xs=>exact .inr ⟨rfl,λ_ _ z=>(nomatch z),λ_ _ z=>nomatch z ⟩
  |lol xs=>exact .inr ⟨rfl,λ_ _ z=>(nomatch z),λ_ _ z=>nomatch z ⟩
def cR(m:ME)(ms:MA):ME:=λρ S=>(m ρ S).bind λk S1=>fG k S1 λk=>(ms ρ S1).bind λys S2=>iE k ys S2
theorem He   (s:aQ K p S H)(r:dC K p H (.ref k) x)(n1:∀n l,S[k]?≠some (.dic n l))(n2:∀n l,S[k]?≠some (.dol n l)):Ki K "list" x H:=by
 obtain⟨a,e,rfl⟩:=r;have hk:k<S.length:=by
  have:=(bn.mp e).1;rw[<-s.len];exact this
 have z:=s.obj k a _ e (ay hk);cases y:S[k]with
 |lst xs=>
  rw[y]at z;obtain⟨vs,h,_⟩:=z;exact .inl ⟨rfl,vs,bO.of h⟩
 |lol xss=>
  rw[y]at z;obtain⟨bs,h,_⟩:=z;exact .inl ⟨rfl,_,bO.of h⟩
 |dic n l=>exact absurd (by rw[ay hk,y]) (n1 n l)
 |dol n l=>exact absurd (by rw[ay hk,y]) (n2 n l)
theorem S8{apos cpos:ai}(ho:aN K cl E X a m)(ha:eQ K cl E X [e] ms)(hbase:attributeBase a "append" X.env (eval a X.env)=eval a X.env:=by rfl)
  (hfew:((backTo cpos (starEach [e] X.env)).all (λx=>!x.1)&&(backToKw cpos (keywordEach [] X.env)).all (λx=>x.1.isSome)&&decide (([e]:List ah).length+([]:List ft).length+(if([]:List ft).isEmpty then 0 else 1)<30))=true:=by rfl)
  (hline:(apos.endLine==cpos.line)=true:=by rfl)(hs:starEach [e] X.env=[(false,eval e X.env)]:=by rfl):aN K cl E X (.Call (.Attribute a "append" apos) [e] [] cpos) (cR m ms):=by
 intro hK;subst hK;refine PE.imp (Ng xq wo l8 wW (ho rfl) (ha rfl) hbase hfew hline hs rfl) ?_
 rintro σ H Q ⟨p,S,ρ,s,ev,h⟩
 refine bW s ev h λq H1 k x S1 st s1 e1 r1 h1=>?_;cases k with
 |pv v=>exact h1.elim
 |ref k=>
  have h1:=h1;rcases xH k S1 (λk=>(ms ρ S1).bind λys S2=>iE k ys S2)with z |⟨z,n1,n2⟩
  .rw[z]at h1
   exact h1.elim
  rw[z]at h1;refine⟨He s1 r1 n1 n2,bW s1 e1 h1 λq2 H2 ys xs S2 st2 s2 e2 r2 h2=>?_⟩;obtain⟨a,ea,rfl⟩:=st2.repA r1;unfold iE at h2;split at h2
  .rename_i y
   cases r2 with
   |cons r3 r4=>
    cases r4;rename_i x;cases z:S2[k]? with
    |none=>rw[z]at h2;exact h2.elim
    |some o=>
     cases o with
     |lol _=>simp only[z]at h2;exact h2.elim
     |dic _ _=>simp only[z]at h2;exact h2.elim
     |dol _ _=>simp only[z]at h2;exact h2.elim
     |lst zs=>
      simp only[z]at h2;obtain⟨vs,h3,l3,r4⟩:=s2.obj k a _ ea z;split at h2
      .rename_i hl
       rw[r4.length]at hl;have hz:=kS;refine⟨a,vs,x,rfl,rfl,h3,by omega,?_⟩;obtain⟨dI,sm3⟩:=s2.write ea (bn.mp z).1 (ps:=zs++[y]) (vs:=vs++[x]) (by rw[av,nj];omega) (r4.append (.cons r3 .nil));exact h2 _ _ .non dI sm3 (by show bG X.K q2.c (aT H2 a (.lst (vs++[x]))) .non .non;unfold bG;rfl)
      .exact h2.elim
  .exact h2.elim
def tI(k:Nat)(ys:BI)(S:aJ):bH AV:=match ys with
 |[.pv (.int i)]=>if-9223372036854775808<=i/\i<9223372036854775808 then(match S[k]? with
  |some (.lst xs)=>match seqIndex? i xs.length with
   |some j=>match xs[j]? with
    |some v=>.ok (.pv v) (S.set k (.lst (xs.eraseIdx j)))
    |none=>.fail
   |none=>.fail
  |_=>.fail)else .fail
 |_=>.fail
def pB(m:ME)(ms:MA):ME:=λρ S=>(m ρ S).bind λk S1=>fG k S1 λk=>(ms ρ S1).bind λys S2=>tI k ys S2
theorem aei{apos cpos:ai}(ho:aN K cl E X a m)(ha:eQ K cl E X [e] ms)(hbase:attributeBase a "pop" X.env (eval a X.env)=eval a X.env:=by rfl)
  (hfew:((backTo cpos (starEach [e] X.env)).all (λx=>!x.1)&&(backToKw cpos (keywordEach [] X.env)).all (λx=>x.1.isSome)&&decide (([e]:List ah).length+([]:List ft).length+(if([]:List ft).isEmpty then 0 else 1)<30))=true:=by rfl)
  (hline:(apos.endLine==cpos.line)=true:=by rfl)(hs:starEach [e] X.env=[(false,eval e X.env)]:=by rfl):aN K cl E X (.Call (.Attribute a "pop" apos) [e] [] cpos) (pB m ms):=by
 intro hK;subst hK;refine PE.imp (Ng xq PySem.F.slot_list_pop PySem.F.type_list_pop aai (ho rfl) (ha rfl) hbase hfew hline hs rfl) ?_
 rintro σ H Q ⟨p,S,ρ,s,ev,h⟩
 refine bW s ev h λq H1 k x S1 st s1 e1 r1 h1=>?_;cases k with
 |pv v=>exact h1.elim
 |ref k=>
  have h1:=h1;rcases xH k S1 (λk=>(ms ρ S1).bind λys S2=>tI k ys S2)with z |⟨z,n1,n2⟩
  .rw[z]at h1
   exact h1.elim
  rw[z]at h1;refine⟨He s1 r1 n1 n2,bW s1 e1 h1 λq2 H2 ys xs S2 st2 s2 e2 r2 h2=>?_⟩;obtain⟨a,ea,rfl⟩:=st2.repA r1;unfold tI at h2;split at h2
  .rename_i i
   cases r2 with
   |cons r3 r4=>
    cases r4;rename_i x;have ex:x=.int i:=(show eM X.K q2 H2 (.int i) x from .inl r3).int;subst ex;split at h2
    .rename_i hi
     cases z:S2[k]? with
     |none=>rw[z]at h2;exact h2.elim
     |some o=>
      cases o with
      |lol _=>simp only[z]at h2;exact h2.elim
      |dic _ _=>simp only[z]at h2;exact h2.elim
      |dol _ _=>simp only[z]at h2;exact h2.elim
      |lst zs=>
       simp only[z]at h2;obtain⟨vs,h3,l3,r4⟩:=s2.obj k a _ ea z;cases y:seqIndex? i zs.length with
       |none=>simp only[y]at h2;exact h2.elim
       |some j=>
        simp only[y]at h2;cases yv:zs[j]? with
        |none=>simp only[yv]at h2;exact h2.elim
        |some v=>
         simp only[yv]at h2;obtain⟨u,eu,ru⟩:=r4.get yv;refine⟨a,vs,i,j,u,rfl,rfl,h3,hi.1,hi.2,by rw[<-r4.length];exact y,eu,?_⟩;obtain⟨dI,sm3⟩:=s2.write ea (bn.mp z).1 (ps:=zs.eraseIdx j) (vs:=vs.eraseIdx j) (fh (Hc vs j) l3) (r4.eraseIdx j);exact h2 _ _ u dI sm3 (dI.rep ru)
    .exact h2.elim
  .exact h2.elim
def vH(k:Nat)(i:AV)(v:AV)(S:aJ):bH Unit:=match i,v with
 |.pv (.int i),.pv v=>match S[k]? with
  |some (.lst xs)=>match fX xs.length i with
   |some j=>.ok () (S.set k (.lst (xs.set j v)))
   |none=>.fail
  |_=>.fail
 |_,_=>.fail
def qG(mo mi mv:ME):MS:=λρ S=>cE.of (mv ρ S) λv S1=>cE.of (mo ρ S1) λk S2=>cE.of (mi ρ S2) λi S3=>cE.of (fG k S3 λk=>vH k i v S3) λ_ S4=>.nx ρ S4
theorem U4{o i v:ah}{mo mi mv:ME}{tpos:ai}(hv:aN K cl E X v mv)(ho:aN K cl E X o mo)(hi:aN K cl E X i mi)
  (ha:∀v,assign (.Subscript o i tpos) X.env v=(do
   let ov <-holding [v] (eval o X.env)
   let iv <-holding [v,ov] (eval i X.env)
   standAt tpos
   holding [v,ov,iv] (setItem ov iv v)
   release [v,ov,iv] []):=by intro _;rfl)
  (hs:swapsWithSole [.Subscript o i tpos] v pos.line X.env=pure false:=by rfl)(hw:swappedStores [.Subscript o i tpos] v X.env=pure none:=by rfl)
  (h1:(assignEach [.Subscript o i tpos] X.env).map (·.2)=[assign (.Subscript o i tpos) X.env]:=by rfl):eC K cl E X (.Assign [.Subscript o i tpos] v pos) (qG mo mi mv):=by
 intro hK;subst hK;refine PS.imp (yM (hv rfl) (Pf (ho rfl) (hi rfl) Ip ha) hs hw h1) ?_
 rintro D σ H ⟨p,S,ρ,s,ev,h⟩
 refine iW s ev h λq H1 v x S1 st s1 e1 r1 h1=>?_;refine iW s1 e1 h1 λq2 H2 k y S2 st2 s2 e2 r2 h2=>?_;refine iW s2 e2 h2 λq3 H3 i z S3 dI s3 e3 r3 h3=>?_;cases k with
 |pv _=>exact h3.elim
 |ref k=>
  obtain⟨a,ea,rfl⟩:=dI.repA r2;have rv:=dI.repA (st2.repA r1);have h3:=h3;rcases xH k S3 (λk=>vH k i v S3)with z0 |⟨z0,_,_⟩
  .rw[z0]at h3
   exact h3.elim
  rw[z0]at h3;unfold vH at h3;split at h3
  .rename_i ii vv _
   have ez:z=.int ii:=(show eM X.K q3 H3 (.int ii) z from .inl r3).int;subst ez;cases w:S3[k]? with
   |none=>rw[w]at h3;exact h3.elim
   |some o=>
    cases o with
    |lol _=>simp only[w]at h3;exact h3.elim
    |dic _ _=>simp only[w]at h3;exact h3.elim
    |dol _ _=>simp only[w]at h3;exact h3.elim
    |lst zs=>
     simp only[w]at h3;obtain⟨vs,hh,ll,rr⟩:=s3.obj k a _ ea w;cases y:fX zs.length ii with
     |none=>simp only[y]at h3;exact h3.elim
     |some j=>
      simp only[y]at h3;refine⟨a,vs,ii,j,rfl,rfl,hh,by rw[<-rr.length];exact y,?_⟩;obtain⟨st4,sm4⟩:=s3.write ea (bn.mp w).1 (ps:=zs.set j vv) (vs:=vs.set j x) (by rw[ff];exact ll) (aP.set rv j rr);exact h3 _ _ _ st4 sm4 (st4.repE e3)
  .exact h3.elim
def gA:BF->BF->BF
 |x::xs,y::ys=>.tup [x,y]::gA xs ys
 |_,_=>[]
theorem Md:∀(xs ys:BF),(gA xs ys).length=min xs.length ys.length
 |[],ys=>rfl
 |x::xs,[]=>rfl
 |x::xs,y::ys=>by
  unfold gA;rw[ci,Md _ _,ci,ci]<;>grind
theorem Wo:∀{xs ys:BF}{i:Nat}{v:PV},(gA xs ys)[i]?=some v->∃x y,xs[i]?=some x/\ys[i]?=some y/\v=.tup [x,y]
 |[],ys,i,v,e=>by cases ys<;>simp[gA]at e
 |x::xs,[],i,v,e=>by simp[gA]at e
 |x::xs,y::ys,0,v,e=>by
  unfold gA at e;simp at e;exact⟨x,y,rfl,rfl,e.symm⟩
 |x::xs,y::ys,i+1,v,e=>by
  unfold gA at e;obtain⟨a,b,h1,h2,h3⟩:=Wo     (by simpa using e);exact⟨a,b,by simpa using h1,by simpa using h2,h3⟩
def kK:BI->aJ->bH (BF×Gd)
 |[a,b],S=>match bT a S with
  |.ok xs _=>match bT b S with
   |.ok ys _=>.ok (gA xs.1 ys.1,xs.2++ys.2) S
   |_=>.fail
  |_=>.fail
 |_,_=>.fail
def gK(ms:MA):MI:=λρ S=>(ms ρ S).bind kK
theorem Do{a:AV}{x:V}{xs:BF×Gd}{S':aJ}(s:aQ K p S H)(r:dC K p H a x)(e:bT a S=.ok xs S'):∃f ad vs,x=.ref ad/\jV f K H ad vs/\xs.1.length<=sizeLine/\∀q H1 S1,bK p H q H1->aQ K q S1 H1->kI xs.2 S1->∃vs,jV f K H1 ad vs/\aP K q.c H1 xs.1 vs:=by
 cases a with
 |ref j=>
  obtain⟨a,e1,rfl⟩:=r;unfold bT at e;dsimp only at e;cases z:S[j]? with
  |none=>rw[z]at e;cases e
  |some o=>
   cases o with
   |lol _=>rw[z]at e;cases e
   |dic _ _=>rw[z]at e;cases e
   |dol _ _=>rw[z]at e;cases e
   |lst ys=>
    rw[z]at e;cases e;obtain⟨vs,h1,l1,r1⟩:=s.obj j a _ e1 z;refine⟨false,a,vs,rfl,bO.of h1,by rw[r1.length];exact l1,λq H1 S1 st sm g=>?_⟩;obtain⟨ws,h2,l2,r2⟩:=sm.obj j a _ (st.at_ e1) (g (j,ys) bo);exact⟨ws,bO.of h2,r2⟩
 |pv v=>
  cases v with
  |lst ys=>
   cases e;have r:=r;obtain⟨a,vs,rfl,l,z,r⟩:=r;exact⟨false,a,vs,rfl,l.sq,by rw[r.length];exact z,λq H1 S1 st sm g=>⟨vs,(st.lat l).sq,st.reps r⟩⟩
  |tup ys=>
   cases e;have r:=r;obtain⟨a,vs,rfl,l,z,r⟩:=r;exact⟨true,a,vs,rfl,l,by rw[r.length];exact z,λq H1 S1 st sm g=>⟨vs,st.tup l,st.reps r⟩⟩
  |_=>cases e
theorem abO{elts:List ah}{x1:Nat}{tp p:ai}(hg:Gl X "zip")(hm:X.mg "zip"=none)(hl:eQ K cl E X [a,b] ms)(hs:starEach [a,b] X.env=[(false,eval a X.env),(false,eval b X.env)]:=by rfl)(hs2:starEach [b] X.env=[(false,eval b X.env)]:=by rfl):
  PIp K cl E X (.Tuple elts x1 tp) (.Call (.Name "zip" p) [a,b] [] pos) (gK ms):=by
 intro hK;subst hK;refine PI.imp (adl hg hm (hl rfl) hs hs2) ?_
 rintro σ H R ⟨p,S,ρ,s,ev,h⟩
 refine bW s ev h λq H' as xs S' cO sm ev r k=>?_;unfold kK at k;split at k
 .cases r with
  |cons r1 r2=>
   cases r2 with
   |cons r2 r3=>
    cases r3;split at k
    .rename_i xs1 S1 hx
     split at k
     .rename_i ys1 S2 hy
      obtain⟨f1,a1,vs1,rfl,q1,z1,st1⟩:=Do sm r1 hx;obtain⟨f2,a2,vs2,rfl,q2,z2,st2⟩:=Do sm r2 hy;refine⟨f1,a1,f2,a2,vs1,vs2,rfl,q1,q2,bU.ret  k sm ?_⟩;refine⟨by rw[Md];omega,λq3 H3 S3 dI sm3 g3=>?_⟩;obtain⟨lJ,w1,rr1⟩:=st1 q3 H3 S3 dI sm3 λg hg=>g3 g (jq _ hg);obtain⟨ws2,w2,rr2⟩:=st2 q3 H3 S3 dI sm3 λg hg=>g3 g (dm _ hg);refine⟨λi v e=>?_,?_⟩
      .obtain⟨x,y,ex,ey,rfl⟩:=Wo e
       obtain⟨x',ex',rx⟩:=rr1.get ex;obtain⟨y',ey',ry⟩:=rr2.get ey;refine⟨⟨lJ,ws2,x',y',w1,w2,ex',ey'⟩,λz H4 hz=>?_⟩;obtain⟨t,x2,y2,ht,rfl,rfl,g1,g2⟩:=hz;have e1:=(g1 lJ w1).symm.trans ex';have e2:=(g2 ws2 w2).symm.trans ey';cases e1;cases e2;refine⟨iB ht,qD sm3 (.cons rx (.cons ry .nil)) (by show 2<=sizeLine;decide) ht⟩
      .refine⟨lJ,ws2,w1,w2,?_⟩
       rw[Md,rr1.length,rr2.length];omega
     .exact k.elim
    .exact k.elim
 .exact k.elim
def kA:Nat->BF->BF
 |_,[]=>[]
 |n,x::xs=>.tup [.int n,x]::kA (n+1) xs
theorem Uc:∀(n:Nat)(xs:BF),(kA n xs).length=xs.length
 |_,[]=>rfl
 |n,x::xs=>by
  unfold kA;rw[ci,Uc _ _,ci]
theorem Xm:∀{n:Nat}{xs:BF}{i:Nat}{v:PV},(kA n xs)[i]?=some v->∃x,xs[i]?=some x/\v=.tup [.int ((n+i:Nat):Int),x]
 |n,[],i,v,e=>by simp[kA]at e
 |n,x::xs,0,v,e=>by
  unfold kA at e;simp at e;exact⟨x,rfl,e.symm⟩
 |n,x::xs,i+1,v,e=>by
  unfold kA at e;obtain⟨y,h1,h2⟩:=Xm     (by simpa using e);refine⟨y,by simpa using h1,?_⟩;grind
def Ff:BI->aJ->bH (BF×Gd)
 |[.pv (.lst xs)],S=>.ok (kA 0 xs,[]) S
 |[.ref k],S=>match bT (.ref k) S with
  |.ok xs _=>.ok (kA 0 xs.1,xs.2) S
  |_=>.fail
 |_,_=>.fail
def zI(ms:MA):MI:=λρ S=>(ms ρ S).bind Ff
theorem Zt  {G:Gd}{a:Addr}(z:xs.length<=sizeLine)(st1:∀q H1 S1,bK p H q H1->aQ K q S1 H1->kI G S1->∃vs,bO K H1 a vs/\aP K q.c H1 xs vs):jO K p H (kA 0 xs,G) (Ji K a):=by
 refine⟨by rw[Uc];exact z,λq3 H3 S3 dI sm3 g3=>?_⟩;obtain⟨lJ,w1,rr1⟩:=st1 _ _ _ dI sm3 g3;refine⟨λi v e=>?_,?_⟩
 .obtain⟨x,ex,rfl⟩:=Xm e
  obtain⟨x',ex',rx⟩:=rr1.get ex;refine⟨⟨lJ,x',w1,ex'⟩,λz H4 hz=>?_⟩;obtain⟨t,y2,ht,rfl,rfl,g1⟩:=hz;have e1:=(g1 _ w1).symm.trans ex';cases e1;refine⟨iB ht,qD sm3 (.cons ?_ (.cons rx .nil)) (by show 2<=sizeLine;decide) ht⟩;rw[Nat.zero_add];exact iD  rfl
 .refine⟨lJ,w1,?_⟩
  rw[Uc,rr1.length]
  simp_all
theorem aaR   {tp p:ai}(hg:Gl X "enumerate")(hm:X.mg "enumerate"=none)(hl:eQ K cl E X [l] ms)(hs:starEach [l] X.env=[(false,eval l X.env)]:=by rfl):
  PIp K cl E X (.Tuple elts x1 tp) (.Call (.Name "enumerate" p) [l] [] pos) (zI ms):=by
 intro hK;subst hK;refine PI.imp (acd hg hm (hl rfl) hs) ?_
 rintro σ H R ⟨p,S,ρ,s,ev,h⟩
 refine bW s ev h λq H' as xs S' cO sm ev r k=>?_;unfold Ff at k;split at k
 .cases r with
  |cons r1 r2=>
   cases r2;have r1:=r1;obtain⟨a,vs,rfl,l,z,r⟩:=r1;exact⟨a,rfl,⟨vs,l.sq⟩,bU.ret  k sm (Zt (by rw[r.length];exact z) λq H1 S1 st sm g=>⟨vs,(st.lat l).sq,st.reps r⟩)⟩
 .rename_i j
  cases r with
  |cons r1 r2=>
   cases r2;split at k
   .rename_i xs1 S1 hx
    obtain⟨a,e1,rfl⟩:=r1;cases z:S'[j]? with
    |none=>unfold bT at hx;simp only[z]at hx;cases hx
    |some o=>
     cases o with
     |lol _=>unfold bT at hx;simp only[z]at hx;cases hx
     |dic _ _=>unfold bT at hx;simp only[z]at hx;cases hx
     |dol _ _=>unfold bT at hx;simp only[z]at hx;cases hx
     |lst ys=>
      unfold bT at hx;simp only[z]at hx;cases hx;obtain⟨vs,h1,l1,r1⟩:=sm.obj j a _ e1 z;refine⟨a,rfl,⟨vs,bO.of h1⟩,bU.ret  k sm (Zt (by rw[r1.length];exact l1) λq H1 S1 st sm g=>?_)⟩;obtain⟨ws,h2,l2,r2⟩:=sm.obj j a _ (st.at_ e1) (g _ bo);exact⟨ws,bO.of h2,r2⟩
   .exact k.elim
 .exact k.elim
end
theorem rE  {k:Nat}(hr:dH k A):A.units+8<cLine:=by
 have:=hr.units;omega
section
variable{K:ae}{cl:Str->Addr}{E:XK}{X:Cx}{a b c e:ah}{m:ME}{pos:ai}{p q:Ph}{H H':Hp}{S:aJ}
def fV(n:String):PV->BG
 |.int _=>if n="int" then some (.bl true)else if n="bool" then some (.bl false)else none
 |.tup _=>if n="tuple" then some (.bl true)else none
 |.lst _=>if n="list" then some (.bl true)else none
 |.str _=>if n="str" then some (.bl true)else none
 |.bl _=>if n="bool" then some (.bl true)else none
 |_=>none
theorem uO(K:ae)(n:String):lq K (.type n) (.type n)=some true:=by
 unfold lq
 simp_all
def Xy(K:ae)(n:String):V->Hp->VK->Prop:=λx H Q=>(∃t b,kF K H x t/\lq K t (.type n)=some b/\Q (.bl b) H)\/(n="tuple"/\∃a xs,x=.ref a/\cG K H a xs/\Q (.bl true) H)\/(n="list"/\∃a xs,x=.ref a/\bO K H a xs/\Q (.bl true) H)
theorem O8(n:String):iH X (.builtin "isinstance") (λxs H Q=>∃x,xs=[x,.ty n]/\Xy X.K n x H Q):=by
 intro BJ s σ H xs us Q I r h;obtain⟨x,rfl,h⟩:=h;obtain⟨u,c,rfl,rx,rc⟩:=Ux r;cases(show c=Value.type n from rc);rcases h with⟨t,b,ty,e,q⟩|⟨rfl,a,xs,rfl,t,q⟩|⟨rfl,a,xs,rfl,t,q⟩
 .exact M8 I rx ty e λtk=>⟨.bl b,H,I.tok tk,rfl,q⟩
 .cases rx
  obtain⟨its,_,⟨o,h1,h2,_⟩,_⟩:=I.tuple t;exact ir zj I.kIn ⟨o,h1,h2⟩ (uO X.K _) (λz=>nomatch z) λtk=>⟨.bl true,H,I.tok tk,rfl,q⟩
 .cases rx
  obtain⟨its,_,pl,_⟩:=I.list t;obtain⟨o,h1,h2,_⟩:=pl.isList;exact ir ve I.kIn ⟨o,h1,h2⟩ (uO X.K "list") (λz=>nomatch z) λtk=>⟨.bl true,H,I.tok tk,rfl,q⟩
theorem afH(n:String):Pa K (Xy K n) (fV n):=λ{p S H a c x Q} s ra e k=>by
 have fin:∀b,c=.bl b->Q (.bl b) H:=λb h=>by
  subst h;exact k H _ (cZ.refl H) (by rfl)
 cases a with
 |int i=>
  cases ra.int;unfold fV at e;dsimp only at e;split at e
  .rename_i hn
   cases e;subst hn;exact .inl ⟨_,true,.int i,uO K _,fin _ rfl⟩
  .split at e
   .rename_i hn
    cases e;subst hn;exact .inl ⟨_,false,.int i,ad4 K,fin _ rfl⟩
   .cases e
 |bl i=>
  cases ra.bl;unfold fV at e;dsimp only at e;split at e
  .rename_i hn
   cases e;subst hn;exact .inl ⟨_,true,.bl i,uO K _,fin _ rfl⟩
  .cases e
 |str i=>
  cases ra.str;unfold fV at e;dsimp only at e;split at e
  .rename_i hn
   cases e;subst hn;exact .inl ⟨_,true,.str i,uO K _,fin _ rfl⟩
  .cases e
 |tup xs=>
  obtain⟨a,vs,rfl,t,_,_⟩:=ra.tup;unfold fV at e;dsimp only at e;split at e
  .rename_i hn
   cases e;exact .inr (.inl ⟨hn,a,vs,rfl,t,fin _ rfl⟩)
  .cases e
 |lst xs=>
  obtain⟨a,vs,rfl,t,_,_⟩:=ra.lst;unfold fV at e;dsimp only at e;split at e
  .rename_i hn
   cases e;exact .inr (.inr ⟨hn,a,vs,rfl,t,fin _ rfl⟩)
  .cases e
 |non=>cases e
theorem Mf  {t:Str}{p p2:ai}(hg:Gl X "isinstance")(hm:X.mg "isinstance"=none)(hgt:Gl X t)(hmt:X.mg t=none)(hv:bootBuiltins t=some (.type n))(ha:aN K cl E X a m)
  (htn:t≠"__name__":=by decide)(htd:(t==("__debug__":Str))=false:=by decide)
  (he:starEach [a,.Name t p2] X.env=(false,eval a X.env)::starEach [.Name t p2] X.env:=by rfl)(he2:starEach [.Name t p2] X.env=[(false,eval (.Name t p2) X.env)]:=by rfl)(hpl:(backTo pos (starEach [.Name t p2] X.env)).any (·.1)=false:=by rfl):
  aN K cl E X (.Call (.Name "isinstance" p) [a,.Name t p2] [] pos) (bS (fV n) m):=by
 intro hK;subst hK;refine PE.imp (Po (O8 n) hg hm PyProof.Rows.boot_isinstance (sH (ha rfl) (sH (abf hgt hmt hv (v:=.ty n) rfl htn htd) uZ he2) he) (by decide) (by decide) he hpl) ?_
 rintro σ H Q ⟨p,S,ρ,s,ev,h⟩
 exact bW s ev h λq H' as x S' cO sm ev r k=>⟨x,rfl,Oc (afH n) sm r k⟩
def zD(K:ae):Sp:=λvs H Q _=>∃(a:Addr)(ns:AY),vs=[.ref a]/\bO K H a (ns.map V.int)/\ns.length<=63/\∀H',Q (.bl true) H'
theorem acj  (ht:∀ns:AY,ns.length<=63->∃S,f [.pv (.lst (ns.map .int))] []=.ok (.pv (.bl true)) S){vs:List V}{H:Hp}{Q:VK}{E:XK}(h:zD K vs H Q E):lC K cl f vs H Q E:=by
 obtain⟨a,ns,rfl,hS,hl,hQ⟩:=h;obtain⟨S,e⟩:=ht ns hl;have rs:∀(ns:List _),aP K (λ_=>False) H (ns.map .int) (ns.map _):=λns=>by
  induction ns with
  |nil=>exact .nil
  |cons n ns ih=>exact .cons (by rfl) ih
 refine⟨⟨[],λ_=>False,λ_=>False⟩,[],[.pv (.lst (ns.map .int))],⟨qc,rfl,(λ_ h=>absurd h (db)),(λ_ h=>h),(λ_ h=>h.elim),λk a o e=>by simp at e ⟩,.cons ?_ .nil,?_⟩
 .refine⟨a,_,rfl,?_,?_,rs _ ⟩
  .rcases hS with(h |h) |h
   .exact .inl ⟨h,λz=>z⟩
   .exact .inr (.inl h)
   .exact .inr (.inr h)
  .rw[ak,kS]
   omega
 .rw[e]
  intro q H' x st sm r;have r:=r;rw[r];exact hQ H'
end
section
variable{K:ae}{e:ah}{p q:Ph}{H:Hp}
theorem dN.forget   (h:dN K p H ρ σ)(i:Nat)(x:Option V):dN K p H (ρ.set i none) (σ.set i x):=by
 refine⟨by rw[ff,ff,h.len],λj u e=>?_⟩
 by_cases q:i=j
 .subst q
  by_cases l:i<ρ.length
  .simp_all
  .simp_all
 .rw[dk q]at e⊢
  exact h.at_ j u e
end
end L2.Pp
namespace L2
open PySem PySem.Spec PyProof.Rows Bn
section
variable{X:Cx}
theorem Bk(is:AY):∀j,j<=is.length->preSum (λi=>is.getD i 0) j=(is.take j).sum
 |0,_=>rfl
 |j+1,h=>by
  have hj:=h;rw[preSum,Bk _ j (by omega),List.take_add_one,ay hj,Option.toList_some,List.sum_append,List.sum_singleton];simp only[cr,ay hj,xu]
theorem T8(hc:X.calm=true):iH X (.builtin "sum") (λxs H Q=>∃(a:Addr)(is:AY),xs=[.ref a]/\bO X.K H a (is.map V.int)/\Q (.int is.sum) H):=by
 intro BJ s σ H xs us Q I r h;obtain⟨a,is,rfl,hq,q⟩:=h;obtain⟨u,rfl,ru⟩:=jC r;cases ru;obtain⟨its,rv,pl,hz⟩:=I.list hq;have hl:=by
  have:=rv.length
  rwa[ak]at this
 refine call_sum_walkG (ng pl.isList ?_);have ha:a<s.heap.objs.size:=by
  obtain⟨o,ho,_⟩:=pl.isList;exact ax ho
 refine⟨_,_,_,_,_,_,λi=>is.getD i 0,rfl,rf    (show X.A.in1.handled=none from I.ok.hd hc) _ a (cw ha) _,⟨⟨_,cj _ rfl,rfl,rfl⟩,Heap.IsList.at pl.isList λo e=>ar _ e⟩,λb hb=>?_,λi v hv=>?_,λh' tk t' kp=>?_⟩
 .have hb':=by simpa using hb
  rw[jb];rcases hb' with e |e<;>rw[e]
  .exact xp _
  .exact xv ha
 .have hv':=by simpa using hv
  have hi:i<is.length:=by
   grind
  obtain⟨u,hu,ru⟩:=rv.get   (by rw[az,ay hi];rfl);rw[hv']at hu;cases hu;obtain⟨t,ht⟩:=(show ∃t,v=lb is[i] t from ru);exact⟨t,by rw[ht];simp[cr,hi]⟩
 .have e:preSum (λi=>is.getD i 0) its.toArray.size=is.sum:=by
   rw[bf,<-hl,Bk is _ (al _),xw]
  rw[e];have I1:aI X BJ σ H {s with heap:=s.heap.push {cls:=.type "list_iterator",data:=.fields #[.ref a,.int 0 0]},toks:=s.toks}:=I.kept λb o z=>ar _ z;have fp:=I.fpOk (al _) (I.hok.fresh (al _));obtain⟨f0,f1,f2,f3,f4,f5⟩:=fp;exact⟨.int is.sum,H,I1.turned (λb o hb z=>kp b o (by simpa using hb) z) f0 f1 f3 f4 f5,⟨t',rfl⟩,q⟩
theorem U5(is:AY):(ce is.length).any (λi=>is.getD i 0 !=0)=is.any (· !=0):=by
 rw[ph,tj,tj];constructor
 .rintro⟨i,hi,z⟩
  have hi':i<is.length:=by simpa using hi
  exact⟨is[i],gi hi',by simpa[cr,hi']using z⟩
 .rintro⟨b,hb,z⟩
  obtain⟨i,hi,rfl⟩:=pr.mp hb;exact⟨i,by simpa using hi,by simpa[cr,hi]using z⟩
theorem S0(hc:X.calm=true):iH X (.builtin "any") (λxs H Q=>∃(a:Addr)(is:AY),xs=[.ref a]/\(bO X.K H a (is.map V.int)\/cG X.K H a (is.map V.int))/\Q (.bl (is.any (· !=0))) H):=by
 intro BJ s σ H xs us Q I r h;obtain⟨a,is,rfl,hq,q⟩:=h;obtain⟨u,rfl,ru⟩:=jC r;cases ru;have tr:∀(its:BB),aW (is.map V.int) its->TruthOf X.prog X.w X.A.in1 (λi v=>its.toArray[i]?=some v) (λi=>is.getD i 0 !=0):=λits rv i v s' Q' E' hv hQ=>by
  have hl:is.length=its.length:=by
   have:=rv.length
   rwa[ak]at this
  have hv':its[i]?=some v:=by simpa using hv
  have hi:i<is.length:=by
   have:=(bn.mp hv').1;omega
  obtain⟨u,hu,ru⟩:=rv.get (i:=i) (x:=.int is[i]) (by rw[az,ay hi];rfl);rw[hv']at hu;cases hu;obtain⟨t,ht⟩:=(show ∃t,v=lb is[i] t from ru);subst ht;have e:is.getD i 0=is[i]:=by simp[cr,hi]
  have hQ':Q' (is.getD i 0 !=0) s':=hQ;rw[e]at hQ';exact zg hQ'
 have fin:∀(its:BB)(c:String),aW (is.map V.int) its->∀h' tk,(∀b o,b∉[s.heap.objs.size]->(s.heap.push {cls:=.type c,data:=.fields #[.ref a,.int 0 0]}).get? b=some o->h'.get? b=some o)->
   EP X BJ σ Q (.bool ((ce its.toArray.size).any λi=>is.getD i 0 !=0)) {s with heap:=h',toks:=tk}:=λits c rv h' tk kp=>by
  have hl:is.length=its.length:=by
   have:=rv.length
   rwa[ak]at this
  rw[bf,<-hl,U5];have I1:aI X BJ σ H {s with heap:=s.heap.push {cls:=.type c,data:=.fields #[.ref a,.int 0 0]},toks:=s.toks}:=I.kept λb o z=>ar _ z;have fp:fZ X BJ H s.heap.objs.size:=I.fpOk (al _) (I.hok.fresh (al _));obtain⟨f0,f1,f2,f3,f4,f5⟩:=fp;exact⟨.bl (is.any (· !=0)),H,I1.turned (λb o hb z=>kp b o (by simpa using hb) z) f0 f1 f3 f4 f5,rfl,q⟩
 rcases hq with hq |hq
 .obtain⟨its,rv,pl,hz⟩:=I.list hq
  refine xx (ng pl.isList ?_);have ha:a<s.heap.objs.size:=by
   obtain⟨o,ho,_⟩:=pl.isList;exact ax ho
  exact⟨_,_,_,_,_,_,λi=>is.getD i 0 !=0,rfl,rf (prog:=X.prog) (w:=X.w) (A:=X.A.in1) (show X.A.in1.handled=none from I.ok.hd hc) s.heap.objs.size a (cw ha) its.toArray,⟨⟨_,cj _ rfl,rfl,rfl⟩,Heap.IsList.at pl.isList λo e=>ar _ e⟩,tr its rv,λh' tk kp=>fin its _ rv h' tk λb o hb z=>kp b o (by simpa using hb) z⟩
 .obtain⟨its,rv,⟨o0,ho0,hc0,n0,hd0⟩,hz⟩:=I.tuple hq
  have it:s.heap.IsTuple a its.toArray:=⟨o0,ho0,hc0,n0,hd0⟩;refine xx (pz it ?_);have ha:a<s.heap.objs.size:=by
   obtain⟨o,ho,_⟩:=it;exact ax ho
  exact⟨_,_,_,_,_,_,λi=>is.getD i 0 !=0,rfl,xy (prog:=X.prog) (w:=X.w) (A:=X.A.in1) (show X.A.in1.handled=none from I.ok.hd hc) s.heap.objs.size a (cw ha) its.toArray,⟨⟨_,cj _ rfl,rfl,rfl⟩,Heap.IsTuple.at it λo e=>ar _ e⟩,tr its rv,λh' tk kp=>fin its _ rv h' tk λb o hb z=>kp b o (by simpa using hb) z⟩
end
end L2
namespace L2.Pp
open PySem PySem.Spec PyProof.Rows Bn
section
variable{K:ae}{X:Cx}
def fS:BF->Option AY
 |[]=>some []
 |.int b::r=>match fS r with
  |some bs=>some (b::bs)
  |none=>none
 |_::_=>none
theorem oG  :∀{xs:BF}{bs:AY}{vs:List V},fS xs=some bs->aP K c H xs vs->vs=bs.map V.int
 |[],bs,vs,e,r=>by
  cases e;exact r
 |.int b::xs,bs,vs,e,r=>by
  unfold fS at e;split at e
  .rename_i cs h
   cases e;obtain⟨v,w,rfl,r1,r2⟩:=r;rw[r1,oG h r2];rfl
  .cases e
 |.non::_,_,_,e,_=>by cases e
 |.bl _::_,_,_,e,_=>by cases e
 |.str _::_,_,_,e,_=>by cases e
 |.tup _::_,_,_,e,_=>by cases e
 |.lst _::_,_,_,e,_=>by cases e
def qP:BF->BG
 |[.lst xs]=>(fS xs).map λbs=>.int bs.sum
 |_=>none
theorem aet:jH K (λxs H Q=>∃(a:Addr)(is:AY),xs=[.ref a]/\bO K H a (is.map V.int)/\Q (.int is.sum) H) qP:=λ{p S H as c xs Q} s ra e k=>by
 unfold qP at e;split at e
 .rename_i zs
  cases y:fS zs with
  |none=>simp_all
  |some bs=>
   rw[y]at e;cases e;cases ra with
   |cons h t=>
    cases t;obtain⟨a,vs,rfl,l,z,r⟩:=h.lst;rw[oG y r]at l;exact⟨a,bs,rfl,l,k H _ (cZ.refl H) (iD  rfl)⟩
 .cases e
def qR:BF->BG
 |[.lst xs]=>(fS xs).map λbs=>.bl (bs.any (· !=0))
 |[.tup xs]=>(fS xs).map λbs=>.bl (bs.any (· !=0))
 |_=>none
theorem aeL:jH K (λxs H Q=>∃(a:Addr)(is:AY),xs=[.ref a]/\(bO K H a (is.map V.int)\/cG K H a (is.map V.int))/\Q (.bl (is.any (· !=0))) H) qR:=λ{p S H as c xs Q} s ra e k=>by
 unfold qR at e;split at e
 .rename_i zs
  cases y:fS zs with
  |none=>rw[y]at e;cases e
  |some bs=>
   rw[y]at e;cases e;cases ra with
   |cons h t=>
    cases t;obtain⟨a,vs,rfl,l,z,r⟩:=h.lst;rw[oG y r]at l;exact⟨a,bs,rfl,.inl l,k H _ (cZ.refl H) (iD (v:=.bl _) rfl)⟩
 .rename_i zs
  cases y:fS zs with
  |none=>rw[y]at e;cases e
  |some bs=>
   rw[y]at e;cases e;cases ra with
   |cons h t=>
    cases t;obtain⟨a,vs,rfl,l,z,r⟩:=h.tup;rw[oG y r]at l;exact⟨a,bs,rfl,.inr l,k H _ (cZ.refl H) (iD (v:=.bl _) rfl)⟩
 .cases e
theorem P0(l:Addr)(items:Array Value)(n:Nat)(dd:BD)(sl:Array BC)(x:Int)(u:Tok)(hc0:¬(!Builtin.List.listFitsIndex x)=true)(hc1:¬items.size*x.toNat>(2^63-1)/8)(hc2:¬pf (items.size*x.toNat)=true):
  Meets (Builtin.«list.__mul__» ⟨[.ref l,.int x u],[]⟩) (λ_ R s=>s.heap.get? l=some {cls:=.type "list",dict:=dd,data:=.seq items n,slots:=sl}/\R (.ok (.ret (fe s.heap.objs.size))) {s with heap:=s.heap.push {cls:=Value.type "list",data:=Data.seq (qw (λx1 x2=>x1++x2) #[] (dn (if items.isEmpty=true then 0 else x.toNat) items))},toks:=s.toks}):=
 .of_wp λprog w A R s h=>by
  obtain⟨hp,g,d,tk,os⟩:=s;obtain⟨hl,h⟩:=h;have hsz:=AutoListH.joined_fits hc2
  wp_walk;refine wpAny_ite_false (decide_eq_false (Nat.not_lt.mpr hsz)) ?_;wp_walk;exact⟨_,rfl,h⟩
theorem P6(a:Int)(t:Tok)(l:Addr)(items:Array Value)(n:Nat)(dd:BD)(sl:Array BC):
  Meets (Builtin.«int.__rmul__» ⟨[.int a t,.ref l],[]⟩) (λ_ R s=>s.heap.get? l=some {cls:=.type "list",dict:=dd,data:=.seq items n,slots:=sl}/\R (.ok (.ret Value.notImplemented)) s):=
 .of_wp λprog w A R s h=>by obtain⟨hp,g,d,tk,os⟩:=s;obtain⟨hl,h⟩:=h;wp_walk;exact⟨_,rfl,h⟩
def Xx(K:ae):R2:=λx y H Q=>∃l k xs,x=.ref l/\y=.int k/\bO K H l xs/\-(2^63)<=k/\k<2^63/\xs.length*k.toNat<=sizeLine/\
 ∀p,H p=none->Q (.ref p) (aT H p (.lst (dn k.toNat xs).flatten))
theorem aca:dM X (binaryOp .Mult) (Xx X.K):=by
 intro BJ s σ H x y v u Q I rx ry h;obtain⟨l,k,xs,rfl,rfl,hx,h1,h2,hz,q⟩:=h;cases rx;obtain⟨t,rfl⟩:=ry;obtain⟨its,r,p1,_⟩:=I.list hx;obtain⟨⟨cls,dd,data,sl⟩,n,e,hc,_,hd⟩:=p1;simp only at hc hd;subst hc hd;have hl:=r.length;have hlen:its.toArray.size*k.toNat<=sizeLine:=by rw[bf,<-hl];exact hz
 have hcap:¬its.toArray.size*k.toNat>(2^63-1)/8:=by
  have:(sizeLine:Nat)<=(2^63-1)/8:=by decide
  omega
 have hfit:¬(!Builtin.List.listFitsIndex k)=true:=by
  rw[fitsIndex_both h1 h2];exact nu
 have hlong:¬pf (its.toArray.size*k.toNat)=true:=by
  rw[Fp hlen];exact nu
 have hnew:qw (λx1 x2=>x1++x2) #[] (dn (if its.toArray.isEmpty=true then 0 else k.toNat) its.toArray)=(dn k.toNat its).flatten.toArray:=by
  have f0:∀m:Nat,qw (λx1 x2=>x1++x2) #[] (dn m its.toArray)=(dn m its).flatten.toArray:=λm=>by
   have:=Ul its m [];rw[fx]at this;exact this
  rw[f0];cases its with
  |nil=>simp
  |cons a r'=>rw[if_neg (by simp)]
 refine wpAny_binaryOp_repeat_ref (T:="list") (U:="int") (by decide) ⟨_,e,rfl⟩ (λs'=>wk s' k t) noFill_list_mul F.fills_int_mul F.slot_int_rmul repeat_list F.slot_int_index.lookup
  (mn F.slot_int_rmul (wk s k t) F.entry_int_rmul (F.args_int_rmul_2 _ _) (P6 k t l its.toArray n dd sl)
   ⟨e,rfl,⟨_,e,rfl⟩,mn F.slot_list_mul ⟨_,e,rfl⟩ F.entry_list_mul (F.args_list_mul_2 _ _) (P0 l its.toArray n dd sl k t hfit hcap hlong) ⟨e,?_⟩⟩)
 rw[hnew];exact⟨.ref _,_,I.lnew (t':=s.toks) (r.rep k.toNat) (by rw[As,tm];exact hz),rfl,q _ I.fresh⟩
def Gz(xs:BF)(k:Int):BF:=(dn k.toNat xs).flatten
def Zy(n:Nat)(k:Int):Prop:=-(2^63)<=k/\k<2^63/\n*k.toNat<=16777216
open Classical in
def tJ:PV->PV->BG
 |.lst xs,.int k=>if Zy xs.length k then some (.lst (Gz xs k))else none
 |_,_=>none
open Classical in
theorem Ce{xs:BF}{k:Int}:tJ (.lst xs) (.int k)=if Zy xs.length k then some (.lst (Gz xs k))else none:=rfl
theorem aP.rep{c:Addr->Prop}{H:Hp}{xs:BF}{vs:List V}(r:aP K c H xs vs):∀n:Nat,aP K c H (dn n xs).flatten (dn n vs).flatten
 |0=>aP.nil
 |n+1=>by
  rw[ku,ku,mf,mf];exact r.append (aP.rep r n)
theorem aeO:fW K (Xx K) tJ:=λ{p S H a b c x y Q} s ra rb e k=>by
 cases a with
 |lst xs=>
  cases b with
  |int j=>
   rw[Ce]at e;split at e
   .rename_i hl
    cases e;obtain⟨a1,vs,rfl,l1,z1,r1⟩:=ra.lst;have hz:vs.length*j.toNat<=sizeLine:=by rw[<-r1.length,kS];exact hl.2.2
    exact⟨a1,j,vs,rfl,rb.int,l1,hl.1,hl.2.1,hz,λt ht=>k _ _ (iB ht) (nC s (aP.rep r1 _) (by rw[As,tm];exact hz) ht)⟩
   .cases e
  |_=>cases e
 |_=>cases e
end
def kB{α:Type}(xs:List α)(lo hi:BE)(st:Int):List α:=
 (sliceRange (sliceBounds lo hi (some st) xs.length).1 (sliceBounds lo hi (some st) xs.length).2.1 (sliceBounds lo hi (some st) xs.length).2.2).filterMap (xs[·]?)
theorem Ck(its:BB)(lo hi:BE)(st:Int):slicePick its.toArray lo hi (some st)=(kB its lo hi st).toArray:=by
 unfold slicePick kB
 simp_all
theorem Rm{α β:Type}{R:α->β->Prop}:∀{xs:List α}{ys:List β}(ks:List Nat),xs.length=ys.length->(ks.filterMap (xs[·]?)).length=(ks.filterMap (ys[·]?)).length
 |xs,ys,[],_=>rfl
 |xs,ys,k::ks,h=>by
  have ih:=Rm (R:=R)   ks h
  by_cases hk:k<xs.length
  .simp_all
  grind
theorem Hq  (xs:List α)(lo hi:BE)(st:Int):(kB xs lo hi st).length<=xs.length:=by
 have e:=slicePick_size_le (ya xs.length cy) lo hi (some st);have e2:(kB xs lo hi st).length=(slicePick (ya xs.length cy) lo hi (some st)).size:=by
  have:=Ck (dn xs.length cy) lo hi st;rw[show ya _ _=(dn xs.length cy).toArray by simp,this];unfold kB;rw[zn];exact Rm (R:=λ_ _=>True) _ (by simp)
 simp_all
section
variable{K:ae}{cl:Str->Addr}{E:XK}{X:Cx}{e:ah}{m:ME}{pos p2:ai}
theorem aW.at_   (r:aW xs us):∀{k:Nat}{x:V},xs[k]?=some x->∃u,us[k]?=some u/\bJ x u:=λ{k x} h=>by
 obtain⟨u,e1,e2⟩:=r.get h;exact⟨u,e1,e2⟩
theorem aW.pick   (r:aW xs us):∀ks:List Nat,aW (ks.filterMap (xs[·]?)) (ks.filterMap (us[·]?))
 |[]=>.nil
 |k::ks=>by
  have ih:=aW.pick r ks;rw[jp,jp];cases h:xs[k]? with
  |none=>
   have:us[k]?=none:=by
    rw[m9]at h⊢;rw[<-r.length];exact h
   rw[this];exact ih
  |some x=>
   obtain⟨u,e1,e2⟩:=aW.at_ r h;rw[e1];exact .cons e2 ih
theorem aP.pick   {xs:BF}{us:List V}(r:aP K c H xs us):∀ks:List Nat,aP K c H (ks.filterMap (xs[·]?)) (ks.filterMap (us[·]?))
 |[]=>.nil
 |k::ks=>by
  have ih:=aP.pick r ks;rw[jp,jp];cases h:xs[k]? with
  |none=>
   have:us[k]?=none:=by
    rw[m9]at h⊢;rw[<-r.length];exact h
   rw[this];exact ih
  |some x=>
   obtain⟨u,e1,e2⟩:=r.get h;rw[e1];exact .cons e2 ih
def Dz(v:PV)(lo hi:BE)(st:Int):BG:=match v with
 |.lst xs=>some (.lst (kB xs lo hi st))
 |_=>none
def qQ(m:ME)(ml mh:MO)(st:Int):ME:=λρ S=>(m ρ S).bind λv S1=>(ml ρ S1).bind λlo S2=>(mh ρ S2).bind λhi S3=>iN ((rd S3 v).bind λx=>Dz x lo hi st) S3
def agj(K:ae)(st:Int)(te:TE)(tl th:TO):TE:=λσ H Q=>te σ H λx H1=>tl σ H1 λl H2=>th σ H2 λu H3=>∃a xs,x=.ref a/\bO K H3 a xs/\∀p,H3 p=none->Q (.ref p) (aT H3 p (.lst (kB xs l u st)))
theorem N4{lo hi:Option ah}{es:ah}{te:TE}{tl th:TO}{st:Int}(h0:st≠0)(he:PE X e te)(hl:PO X lo tl)(hu:PO X hi th)(hst:PO X (some es) λ_ H Q=>Q (some st) H):PE X (.Subscript e (.Slice lo hi (some es) p2) pos) (agj X.K st te tl th):=by
 intro BJ s σ H Q I h;refine vz (bA (he BJ s σ H _ I h) λv s1 hq=>?_);rcases hq with⟨x,H1,I1,r1,q1⟩;refine wpAny_Slice (bA (hl BJ s1 σ H1 _ I1 q1) λvl s2 ⟨l,H2,I2,pl,q2⟩=>bA (hu BJ s2 σ H2 _ I2 q2) λvu s3 hq=>?_);rcases hq with⟨u,H3,I3,pu,q3⟩;refine bA (hst BJ s3 σ H3 (λo H'=>o=some st/\H'=H3) I3 ⟨rfl,rfl⟩) ?_
 rintro vs s4 ⟨o,H4,I4,ps,eo,eH⟩
 subst eo eH;obtain⟨a,xs,rfl,hx,q⟩:=q3;cases r1;have I5:aI X BJ σ H4 {s4 with heap:=s4.heap.push {cls:=.type "slice",data:=.fields #[vl,vu,vs]}}:=I4.kept  λb ob q=>ar _ q;obtain⟨its,r,ht,hz⟩:=I5.list hx;have hlen:=r.length;have hg:wpAny (model X.prog X.w) X.A (getItem (.ref a) (.ref s4.heap.objs.size)) (EP X BJ σ Q) X.xe {s4 with heap:=s4.heap.push {cls:=.type "slice",data:=.fields #[vl,vu,vs]}}:=by
  refine zx ht.isList (zq ..) pl pu ps (by simpa using h0) ?_ (by rw[bf]<;>omega);rw[Ck];refine⟨.ref _,_,I5.laid   (λb ob q=>ar _ q) (al _) ?_,rfl,q _ (I5.hok.fresh (al _))⟩;refine⟨fh (Hq xs l u st) hz,_,0,?_,cj _ rfl⟩;unfold kB;rw[hlen];exact aW.pick r _
 exact tail_any   ht.isList.typeIs wg.lookup hg (by with_unfolding_all rfl)
theorem Gv{lo hi:Option ah}{es:ah}{ml mh:MO}{st:Int}(he:aN K cl E X e m)(hl:pI K cl E X lo ml)(hu:pI K cl E X hi mh)(hst:PO X (some es) λ_ H Q=>Q (some st) H)(h0:st≠0):aN K cl E X (.Subscript e (.Slice lo hi (some es) p2) pos) (qQ m ml mh st):=by
 intro hK;subst hK;refine(N4 h0 (he rfl) (hl rfl) (hu rfl) hst).imp ?_
 rintro σ H Q ⟨p,S,ρ,s,e,h⟩
 refine bW s e h λq H1 a x S1 st s1 e1 r1 h1=>bW s1 e1 h1 λq2 H2 lo lo' S2 st2 s2 e2 r2 h2=>bW s2 e2 h2 λq3 H3 hi hi' S3 dI s3 e3 r3 h3=>?_;cases r2;cases r3;have ra:=dI.repA (st2.repA r1);obtain⟨c,ec,k⟩:=sL s3 h3;cases z:rd S3 a with
 |none=>rw[z]at ec;cases ec
 |some v=>
  rw[z]at ec;have rv:=qJ s3 ra z;cases v with
  |lst xs=>
   have ec:=ec;cases ec;obtain⟨a1,vs,rfl,l1,z1,r1⟩:=rv.lst;refine⟨a1,vs,rfl,l1,λt ht=>k _ _ (iB ht) (nC s3 ?_ (fh (Hq vs lo hi _) z1) ht)⟩;unfold kB;rw[r1.length];exact aP.pick r1 _
  |_=>cases ec
theorem ab4{j:Nat}{p1 p2:ai}:PO X (some (.UnaryOp .USub (.Constant (.int 1) j p1) p2)) λ_ H Q=>Q (some (-1)) H:=by
 intro BJ s σ H Q I h;exact(Ie (Cy Ou yL)) BJ s σ H Q I ⟨1,rfl,-1,rfl,h⟩
theorem ado   :PO X (some (.Constant (.int i) j p1)) λ_ H Q=>Q (some i) H:=by
 intro BJ s σ H Q I h;exact Ie yL _ s _ H Q I ⟨i,rfl,h⟩
end
end L2.Pp
namespace L2
open PySem PySem.Spec PyProof.Rows Bn
open PySem.W (KasT kas_sort kas_ask KatLex KatGo KatTups kat_run kat_kind kat_lt kat_one kas_item kat_snds)
def nX  (lt:Nat->Nat->Bool):KasT α->α
 |.ret a=>a
 |.ask i j k=>nX lt (k (lt i j))
def iY  (n:Nat):KasT α->Bool
 |.ret _=>true
 |.ask i j k=>decide (i<n)&&decide (j<n)&&iY n (k true)&&iY n (k false)
theorem Tp  {cmp:Nat->Nat->(Bool->aa->Prop)->aa->Prop}{lt:Nat->Nat->Bool}{n:Nat}{s:aa}(hc:∀i j(C:Bool->aa->Prop),i<n->j<n->C (lt i j) s->cmp i j C s):∀(t:KasT α)(Q:α->aa->Prop),iY n t=true->Q (nX lt t) s->t.kasWp cmp Q s
 |.ret a,Q,_,h=>h
 |.ask i j k,Q,ok,h=>by
  unfold iY at ok;simp only[ja,decide_eq_true_eq]at ok;obtain⟨⟨⟨hi,hj⟩,h1⟩,h2⟩:=ok;refine hc i j _ hi hj (Tp hc _ Q ?_ h);cases lt i j
  .exact h2
  .exact h1
def sX(h:Heap)(v:Value)(us:AY):Prop:=∃a o its n,v=.ref a/\h.get? a=some o/\o.cls=.type "tuple"/\o.data=.seq (qd its) n/\aW (us.map V.int) its
section
variable{prog:Program}{w:am}{A:aq}{E:Value->aa->Prop}{s:aa}
theorem Zq:∀(us vs:AY)(its jts:BB)(i:Nat)(fin:Bool),aW (us.map V.int) its->aW (vs.map V.int) jts->fin=decide (us.length<vs.length)->Q (HT.lexLt us vs) s->KatLex prog w A true fin Q (its.zip jts) i s
 |[],vs,its,jts,i,fin,h1,h2,hf,hQ=>by
  cases h1;cases vs with
  |nil=>
   subst hf;exact yb hQ
  |cons v vs=>
   have e:fin=true:=by rw[hf];simp
   subst e;exact yb hQ
 |u::us,[],its,jts,i,fin,h1,h2,hf,hQ=>by
  cases h2;have e:fin=false:=by rw[hf];simp
  subst e;rw[List.zip_nil_right];exact yb hQ
 |u::us,v::vs,its,jts,i,fin,h1,h2,hf,hQ=>by
  cases h1 with
  |cons r1 t1=>
   cases h2 with
   |cons r2 t2=>
    obtain⟨k1,rfl⟩:=r1;obtain⟨k2,rfl⟩:=r2;rw[List.zip_cons_cons];refine PySem.W.kat_cons (wpAny_eqBool_int ?_);rw[HT.lexLt_cons]at hQ
    by_cases e:u=v
    .rw[if_pos e]at hQ
     have b:(u==v)=true:=by simpa using e
     rw[b];exact PySem.W.kat_yes (Zq us vs _ _ (i+1) fin t1 t2 (by rw[hf];simp) hQ)
    .rw[if_neg e]at hQ
     have b:(u==v)=false:=by simpa using e
     rw[b];refine PySem.W.kat_no ?_
     by_cases hi:i=0
     .subst hi
      exact oneLt_int hQ
     .have b2:(true&&i==0)=false:=by simpa using hi
      rw[b2];exact kat_one _ _ (PySem.P.lt_int hQ)
theorem aem  {us vs:AY}{Q:Bool->aa->Prop}(hx:sX s.heap x us)(hy:sX s.heap y vs)(h:Q (HT.lexLt us vs) s):wpAny (model prog w) A (keyLt' (tuples' true) x y) Q E s:=by
 obtain⟨a,o,its,n,rfl,ho,hc,hd,r⟩:=hx;obtain⟨b,o2,jts,k,rfl,ho2,hc2,hd2,r2⟩:=hy;refine kat_lt ho hd ho2 hd2 ?_;have l1:=r.length;have l2:=r2.length;rw[ak]at l1 l2;refine Zq _ _ _ _ 0 _ r r2 ?_ h
 simp_all
theorem Gk:∀(vs:BB)(uss:AZ),vs.length=uss.length->(∀i,i<vs.length->sX s.heap (vs.getD i cy) (uss.getD i [])/\uss.getD i []≠[])->∃fs,KatTups s.heap vs fs/\fs.length=vs.length/\∀v∈fs,∃i t,v=.int i t
 |[],uss,_,_=>⟨[],trivial,rfl,λ_ h=>absurd h db⟩
 |v::vs,[],hl,_=>by cases hl
 |v::vs,us::uss,hl,h=>by
  obtain⟨fs,k,l,q⟩:=Gk vs uss (by simpa using hl) λi hi=>by
   have:=h (i+1) (by simp;omega);simpa using this
  obtain⟨⟨a,o,its,n,e,ho,hc,hd,r⟩,ne⟩:=h 0 (by simp);subst e;cases us with
  |nil=>exact absurd rfl ne
  |cons u us=>
   cases r with
   |cons r1 t1=>
    obtain⟨t,rfl⟩:=r1;refine⟨.int u t::fs,KatTups.cons ho hc hd (by simp) k,by simp[l],λx hx=>?_⟩;rcases bj.mp hx with rfl |hx
    .exact⟨u,t,rfl⟩
    .exact q x hx
def dZ(uss:AZ):List Nat:=(nX (λi j=>HT.lexLt (uss.getD i []) (uss.getD j [])) (iz uss.length)).toList
theorem B4{a:Addr}{vs:BB}{uss:AZ}{n:Nat}{P:tq->aa->Prop}(ho:s.heap.get? a=some (seqObj "list" vs.toArray n))(hl:vs.length=uss.length)(h2:2<=vs.length)(h64:vs.length<64)(ok:iY uss.length (iz uss.length)=true)
  (tu:∀i,i<vs.length->sX s.heap (vs.getD i cy) (uss.getD i [])/\uss.getD i []≠[])
  (h:P (.done (.ret .none)) {s with heap:=sortedHeap s.heap a vs (qd ((dZ uss).map λi=>vs.getD i cy))}):
  wpAny (model prog w) A (Builtin.«list.sort» ⟨[.ref a],[]⟩) P E s:=by
 obtain⟨e1,ho1⟩:∃e1,(s.heap.update a (ju λ_=>(#[]:Array Value))).get? a=some (seqObj "list" #[] e1):=⟨_,yc ho λ_=>#[]⟩;have kp:∀b o,b≠a->s.heap.get? b=some o->(((s.heap.update a (ju λ_=>(#[]:Array Value))).push (seqObj "tuple" vs.toArray 0)).push (seqObj "list" #[] 0)).get? b=some o:=λb o hb e=>
  ar _ (ar _ ((yd _ _ _ _ hb).trans e))
 have tu2:∀i,i<vs.length->sX _ (vs.getD i cy) (uss.getD i [])/\uss.getD i []≠[]:=λi hi=>by
  obtain⟨⟨b,o,its,m,e,hb,hc,hd,r⟩,ne⟩:=tu i hi;refine⟨⟨b,o,its,m,e,kp b o (λz=>?_) hb,hc,hd,r⟩,ne⟩;grind
 have na:(((s.heap.update a (ju λ_=>(#[]:Array Value))).push (seqObj "tuple" vs.toArray 0)).push (seqObj "list" #[] 0)).get? a=some (seqObj "list" #[] e1):=ar _ (ar _ ho1);rw[list_sort_plain];refine ag (listItems_at ho rfl ?_);refine ag (listUpdate_at ho rfl ?_ (by rw[bf,kb];omega) (iu _));refine ag (seqEpoch_at ho1 rfl ?_);refine ag (wpAny_newTuple ?_ (by show vs.length<=_;rw[kb];omega));refine ag (wpAny_newList ?_ (iu _));refine jz ?_;dsimp only;have hn2:¬vs.toArray.size<2:=by rw[bf];omega
 rw[if_neg hn2,if_neg hn2];obtain⟨fs,kt,lf,qf⟩:=Gk (s:={s with heap:=((s.heap.update a (ju λ_=>(#[]:Array Value))).push (seqObj "tuple" vs.toArray 0)).push (seqObj "list" #[] 0)}) vs uss hl tu2;refine ag (kat_kind (T:=.type "int") kt (by omega) (λv hv=>?_) rfl ?_)
 .obtain⟨i,t,rfl⟩:=qf v hv
  exact .now
 refine ag (je (kat_run (Q:=λst' s'=>∃p:Array Nat,p.size=vs.length/\arrOf st'=p.map (kas_item (vs.toArray.zip vs.toArray))/\failedOf st'=none/\p.toList=dZ uss/\s'={s with heap:=((s.heap.update a (ju λ_=>(#[]:Array Value))).push (seqObj "tuple" vs.toArray 0)).push (seqObj "list" #[] 0)})
  
  rfl h2 h64 (λp' st' s' a1 a2 a3 a4=>⟨p',a1,a2,a3,a4⟩) ?_) ?_ λ_ _ e=>e)
 .rw[hl]
  refine Tp  (n:=uss.length) (λi j C hi hj hC=>?_) _ _ ok ⟨rfl,rfl⟩;exact aem (tu2 i (by omega)).1 (tu2 j (by omega)).1 hC
 rintro⟨⟨⟩,st'⟩ s' ⟨p,hp,har,hf,hpl,rfl⟩
 dsimp only;have hout:=kat_snds rfl har;have hsz:(qd (p.toList.map λi=>vs.getD i cy)).size=vs.length:=by rw[bf,ak,kg,hp]
 rw[hout];refine ag (seqEpoch_at na rfl ?_);refine ag (listUpdate_at na rfl ?_ (iu _) (fh (Nat.le_of_eq hsz) (by rw[kb];omega)));rw[hf];simp only[bne_self_eq_false,Bool.false_eq_true,if_false];refine au ?_;rw[hpl];exact h
theorem G8  {o:Obj}{T:String}{vs:BB}{uss:AZ}{n:Nat}{Q:Value->aa->Prop}(hT:T="list"\/T="tuple")(ho:s.heap.get? l=some o)(hc:o.cls=.type T)(hd:o.data=.seq vs.toArray n)(hl:vs.length=uss.length)(h2:2<=vs.length)(h64:vs.length<64)(ok:iY uss.length (iz uss.length)=true)
  (tu:∀i,i<vs.length->sX s.heap (vs.getD i cy) (uss.getD i [])/\uss.getD i []≠[])
  (h:∀(h1 h':Heap)(c:Nat),(∀b o',s.heap.get? b=some o'->h1.get? b=some o')->(∀b o',h1.get? b=some o'->h'.get? b=some o')->h'.get? h1.objs.size=some (seqObj "list" (qd ((dZ uss).map λi=>vs.getD i cy)) c)->Q (.ref h1.objs.size) {s with heap:=h'}):
  wpAny (model prog w) A (call (.builtin "sorted") [.ref l]) Q E s:=by
 refine PySem.Calls.call_function_entry kind_sorted plain_sorted entry_sorted (args_sorted1 _) ?_;refine ag  (au ?_);refine ag (wpAny_collect_seq l hT ho hc hd (λh1 k1=>?_) (by rw[bf,kb];omega));refine ag (wpAny_newList ?_ (by rw[kb];simp;omega));have hoL:(h1.push (seqObj "list" vs.toArray 0)).get? h1.objs.size=some (seqObj "list" vs.toArray 0):=cj _ rfl;show wpAny _ _ _ _ _ {s with heap:=h1.push (seqObj "list" vs.toArray 0)};refine ag (jz (jt slot_list_sort ⟨_,hoL,rfl⟩ entry_list_sort ?body (args_list_sort _)))
 case body=>
  refine B4  hoL hl h2 h64 ok (λi hi=>?_) ⟨_,rfl,au ⟨_,rfl,?_⟩⟩
  .obtain⟨⟨b,o,its,m,e,hb,hc,hd,r⟩,ne⟩:=tu i hi
   exact⟨⟨b,o,its,m,e,ar _ (k1 b o hb),hc,hd,r⟩,ne⟩
  .obtain⟨e1,ho1⟩:∃e1,((h1.push (seqObj "list" vs.toArray 0)).update h1.objs.size _).get? h1.objs.size=some (seqObj "list" #[] e1):=⟨_,yc hoL λ_=>#[]⟩
   have ho2:=ar (seqObj "list" #[] 0) (ar (seqObj "tuple" vs.toArray 0) ho1);obtain⟨e2,ho3⟩:∃e2,(sortedHeap (h1.push (seqObj "list" vs.toArray 0)) h1.objs.size vs (qd ((dZ uss).map λi=>vs.getD i cy))).get? h1.objs.size=some _:=⟨_,yc ho2 _ ⟩;refine h h1 _ e2 k1 (λb o' hb1=>?_) ho3;have hne:=cw (ax hb1);exact(yd _ _ _ _ hne).trans (ar _ (ar _ ((yd _ _ _ _ hne).trans (ar _ hb1))))
end
def Eh(K:ae)(H:Hp)(ts:List V)(uss:AZ):Prop:=ts.length=uss.length/\∀i t,ts[i]?=some t->∃a,t=.ref a/\cG K H a ((uss.getD i []).map V.int)/\uss.getD i []≠[]
theorem J5{X:Cx}:iH X (.builtin "sorted") (λxs H Q=>∃(a:Addr)(ts:List V)(uss:AZ),xs=[.ref a]/\(bO X.K H a ts\/cG X.K H a ts)/\Eh X.K H ts uss/\2<=ts.length/\ts.length<64/\iY uss.length (iz uss.length)=true/\(dZ uss).length<=64/\
  ∀l,H l=none->Q (.ref l) (aT H l (.lst ((dZ uss).map λi=>ts.getD i .non)))):=by
 intro BJ s σ H xs us Q I r h;obtain⟨a,ts,uss,rfl,hq,⟨hl,ht⟩,h2,h64,ok,hpl,q⟩:=h;obtain⟨u,rfl,ru⟩:=jC r;cases ru;have go:∀(its:BB)(T:String)(o:Obj)(n:Nat),aW ts its->(T="list"\/T="tuple")->s.heap.get? a=some o->o.cls=.type T->o.data=.seq its.toArray n->ts.length<=sizeLine->
   wpAny (model X.prog X.w) X.A _ (EP X BJ σ Q) X.xe s:=λits T o n rv hT ho hc hd hz=>by
  have hlen:=rv.length;refine G8 (uss:=uss) hT ho hc hd (by omega) (by omega) (by omega) ok (λi hi=>?_) λh1 h' c k1 k2 e=>?_
  .have hi':i<ts.length:=by omega
   obtain⟨b,e1,sq,ne⟩:=ht i ts[i] (ay hi');obtain⟨v,e2,rel⟩:=rv.get (ay hi');rw[e1]at rel;cases rel;obtain⟨jts,rj,⟨o2,ho2,hc2,m,hd2⟩,_⟩:=I.tuple sq;refine⟨⟨b,o2,jts,m,?_,ho2,hc2,hd2,rj⟩,ne⟩;rw[cr,e2];rfl
  .have I1:aI X BJ σ H {s with heap:=h1,toks:=s.toks}:=I.kept k1
   have hz2:((dZ uss).map λi=>ts.getD i .non).length<=sizeLine:=by
    rw[ak,kb];omega
   have rel:∀ps:List Nat,aW (ps.map λi=>ts.getD i .non) (ps.map λi=>its.getD i cy):=λps=>by
    induction ps with
    |nil=>exact .nil
    |cons i ps ih=>
     refine .cons ?_ ih
     by_cases hi:i<ts.length
     .obtain⟨v,e2,rr⟩:=rv.get (ay hi)
      have q1:ts.getD i .non=ts[i]:=by simp[cr,hi]
      have q2:its.getD i cy=v:=by simp[cr,e2]
      show bJ (ts.getD i .non) (its.getD i cy);rw[q1,q2];exact rr
     .have q1:ts.getD i .non=.non:=by simp[cr,hi]
      have q2:its.getD i cy=cy:=by grind
      show bJ (ts.getD i .non) (its.getD i cy);rw[q1,q2];rfl
   refine⟨.ref h1.objs.size,_,I1.laid   k2 (al _) ?_,rfl,q _ (I1.hok.fresh (al _))⟩;exact⟨hz2,_,c,rel _,e⟩
 rcases hq with hq |hq
 .obtain⟨its,rv,pl,hz⟩:=I.list hq
  obtain⟨o,ho,hc,n,hd⟩:=pl.isList;exact go its "list" o n rv (.inl rfl) ho hc hd hz
 .obtain⟨its,rv,⟨o,ho,hc,n,hd⟩,hz⟩:=I.tuple hq
  exact go its "tuple" o n rv (.inr rfl) ho hc hd hz
end L2
namespace L2.Pp
open PySem PySem.Spec PyProof.Rows Bn
open PySem.W (kas_sort)
section
variable{K:ae}
def oS:BF->Option AZ
 |[]=>some []
 |.tup us::r=>match fS us,oS r with
  |some is,some uss=>some (is::uss)
  |_,_=>none
 |_::_=>none
theorem Sn:∀{xs:BF}{uss:AZ},oS xs=some uss->xs.length=uss.length
 |[],uss,e=>by cases e;rfl
 |.tup _::r,uss,e=>by
  unfold oS at e;split at e
  .rename_i is uss' h1 h2
   cases e;rw[ci,ci,Sn h2]
  .cases e
 |.non::_,_,e=>by cases e
 |.bl _::_,_,e=>by cases e
 |.int _::_,_,e=>by cases e
 |.str _::_,_,e=>by cases e
 |.lst _::_,_,e=>by cases e
theorem Hs  :∀{xs:BF}{uss:AZ}{vs:List V},oS xs=some uss->aP K c H xs vs->∀i t,vs[i]?=some t->∃a,t=.ref a/\cG K H a ((uss.getD i []).map V.int)
 |[],uss,vs,e,r,i,t,h=>by
  subst r;simp at h
 |.tup us::r,uss,vs,e,rr,i,t,h=>by
  unfold oS at e;split at e
  .rename_i is uss' h1 h2
   cases e;obtain⟨v,w,rfl,r1,r2⟩:=rr;cases i with
   |zero=>
    cases h;obtain⟨a,ws,rfl,sq,_,r3⟩:=r1;rw[oG h1 r3]at sq;exact⟨a,rfl,sq⟩
   |succ i=>
    have:=Hs h2 r2 i t (by simpa using h);simpa using this
  .cases e
 |.non::_,_,_,e,_,_,_,_=>by cases e
 |.bl _::_,_,_,e,_,_,_,_=>by cases e
 |.int _::_,_,_,e,_,_,_,_=>by cases e
 |.str _::_,_,_,e,_,_,_,_=>by cases e
 |.lst _::_,_,_,e,_,_,_,_=>by cases e
def Jh(uss:AZ):Prop:=2<=uss.length/\uss.length<64/\iY uss.length (iz uss.length)=true/\(dZ uss).length<=64/\∀us∈uss,us≠[]
def Nh(xs:BF)(uss:AZ):BF:=(dZ uss).map λi=>xs.getD i .non
open Classical in
def tH(xs:BF):BG:=match oS xs with
 |some uss=>if Jh uss then some (.lst (Nh xs uss))else none
 |none=>none
def sK:BF->BG
 |[.lst xs]=>tH xs
 |[.tup xs]=>tH xs
 |_=>none
theorem Ym   {xs:BF}{vs:List V}(r:aP K c H xs vs):∀ps:List Nat,aP K c H (ps.map λi=>xs.getD i .non) (ps.map λi=>vs.getD i .non)
 |[]=>.nil
 |i::ps=>by
  refine .cons ?_ (Ym r _)
  by_cases hi:i<xs.length
  .obtain⟨v,e1,e2⟩:=r.get (ay hi)
   simp_all
  .have hl:=r.length
   have q1:xs.getD i .non=.non:=by simp[cr,hi]
   have q2:vs.getD i .non=.non:=by grind
   show bG K c H (xs.getD i _) (vs.getD i _);rw[q1,q2];rfl
theorem ad3:jH K (λxs H Q=>∃(a:Addr)(ts:List V)(uss:AZ),xs=[.ref a]/\(bO K H a ts\/cG K H a ts)/\Eh K H ts uss/\2<=ts.length/\ts.length<64/\iY uss.length (iz uss.length)=true/\(dZ uss).length<=64/\
  ∀l,H l=none->Q (.ref l) (aT H l (.lst ((dZ uss).map λi=>ts.getD i .non)))) sK:=λ{p S H as c xs Q} s ra e k=>by
 have key:∀(zs:BF)(a:Addr)(vs:List V),tH zs=some c->(bO K H a vs\/cG K H a vs)->aP K p.c H zs vs->∃(a':Addr)(ts:List V)(uss:AZ),[V.ref a]=[.ref a']/\(bO K H a' ts\/cG K H a' ts)/\Eh K H ts uss/\2<=ts.length/\ts.length<64/\iY uss.length (iz uss.length)=true/\(dZ uss).length<=64/\
   ∀l,H l=none->Q (.ref l) (aT H l (.lst ((dZ uss).map λi=>ts.getD i .non))):=λzs a vs e sq r=>by
  unfold tH at e;split at e
  .rename_i uss hu
   split at e
   .rename_i hc
    cases e;obtain⟨c1,c2,c3,c4,c5⟩:=hc;have l1:=Sn hu;have l2:=r.length;refine⟨a,vs,uss,rfl,sq,⟨by omega,λi t h=>?_⟩,by omega,by omega,c3,c4,λl hl=>?_⟩
    .obtain⟨b,e1,e2⟩:=Hs hu r i t h
     have hi:i<uss.length:=by
      grind
     refine⟨b,e1,e2,?_⟩;rw[cr,ay hi];exact c5 _ (gi hi)
    .refine k _ _ (iB hl) (nC s (Ym r _) ?_ hl)
     rw[ak,kS];omega
   .cases e
  .cases e
 unfold sK at e;split at e
 .rename_i zs
  cases ra with
  |cons h t=>
   cases t;obtain⟨a,vs,rfl,l,z,r⟩:=h.lst;exact key zs a vs e (.inl l) r
 .rename_i zs
  cases ra with
  |cons h t=>
   cases t;obtain⟨a,vs,rfl,l,z,r⟩:=h.tup;exact key zs a vs e (.inr l) r
 .cases e
end
end L2.Pp
namespace L2
section
open PySem.W (KasT kas_sort)
theorem Kl  {lt lt':Nat->Nat->Bool}{n:Nat}(h:∀i j,i<n->j<n->lt i j=lt' i j):∀t:KasT α,iY n t=true->nX lt t=nX lt' t
 |.ret a,_=>rfl
 |.ask i j k,ok=>by
  unfold iY at ok;simp only[ja,decide_eq_true_eq]at ok;obtain⟨⟨⟨hi,hj⟩,h1⟩,h2⟩:=ok;show nX _ _=nX _ (k _);rw[<-h i j hi hj];refine Kl h (k _) ?_;cases lt i j
  .exact h2
  .exact h1
theorem lN:∀u:AY,HT.lexLt u u=false
 |[]=>rfl
 |x::u=>by rw[HT.lexLt_cons,if_pos rfl,lN u]
theorem Oe:∀u v:AY,u=v\/HT.lexLt u v=true\/HT.lexLt v u=true
 |[],[]=>.inl rfl
 |[],_::_=>.inr (.inl rfl)
 |_::_,[]=>.inr (.inr rfl)
 |x::u,y::v=>by
  rw[HT.lexLt_cons,HT.lexLt_cons]
  by_cases h:x=y
  .subst h
   rw[if_pos rfl,if_pos rfl];rcases Oe u v with h |h |h
   .exact .inl (by rw[h])
   .exact .inr (.inl h)
   .exact .inr (.inr h)
  .rw[if_neg h,if_neg λz=>h z.symm]
   by_cases q:x<y
   .exact .inr (.inl (by simpa using q))
   .exact .inr (.inr (by grind))
theorem xB:∀u v w:AY,HT.lexLt u v=true->HT.lexLt v w=true->HT.lexLt u w=true
 |[],[],_,h,_=>by cases h
 |[],_::_,[],_,h=>by cases h
 |[],_::_,_::_,_,_=>rfl
 |_::_,[],_,h,_=>by cases h
 |_::_,_::_,[],_,h=>by cases h
 |x::u,y::v,z::w,h1,h2=>by
  rw[HT.lexLt_cons]at h1 h2⊢
  by_cases e1:x=y
  .subst e1
   rw[if_pos rfl]at h1
   by_cases e2:x=z
   .rw[if_pos e2]at h2⊢
    exact xB u v w h1 h2
   .rw[if_neg e2]at h2⊢
    exact h2
  .grind
theorem aap  (h:HT.lexLt u v=true):HT.lexLt v u=false:=by
 cases q:HT.lexLt v u with
 |false=>rfl
 |true=>
  have:=xB u v u h q;rw[lN]at this<;>grind
theorem W6  (h:HT.lexLt u v=false)(g:HT.lexLt v u=false):u=v:=by
 rcases Oe u v with e |e |e
 .exact e
 .simp_all
 simp_all
def r3(a b c d e f:Bool):Bool:=(!(a&&b)||c)&&(!(d&&e)||f)
def Oa(b:Nat->Nat->Bool)(n:Nat):Bool:=(ce n).all λi=>!(b i i)&&(ce n).all λj=>!(b i j&&b j i)&&(ce n).all λk=>(!(b i j&&b j k)||b i k)&&(b i j||b j k|| !(b i k))
def zA(b:Nat->Nat->Bool)(n:Nat)(ps:List (List Nat)):Bool:=let p:=(nX b (iz n)).toList
 ps.contains p&&(ce n).all λi=>(ce n).all λj=>!(decide (i<j))|| !(b (p.getD j 0) (p.getD i 0))
def Lg:List (List Nat):=[[0,1,2],[0,2,1],[1,0,2],[1,2,0],[2,0,1],[2,1,0]]
def Nf:List (List Nat):=[[0,1,2,3],[0,1,3,2],[0,2,1,3],[0,2,3,1],[0,3,1,2],[0,3,2,1],[1,0,2,3],[1,0,3,2],[1,2,0,3],[1,2,3,0],[1,3,0,2],[1,3,2,0],
 [2,0,1,3],[2,0,3,1],[2,1,0,3],[2,1,3,0],[2,3,0,1],[2,3,1,0],[3,0,1,2],[3,0,2,1],[3,1,0,2],[3,1,2,0],[3,2,0,1],[3,2,1,0]]
def Ni(b01 b02 b10 b12 b20 b21:Bool)(i j:Nat):Bool:=match i,j with
 |0,1=>b01 |0,2=>b02 |1,0=>b10 |1,2=>b12 |2,0=>b20 |2,1=>b21 |_,_=>false
def Pi(b01 b02 b03 b10 b12 b13 b20 b21 b23 b30 b31 b32:Bool)(i j:Nat):Bool:=match i,j with
 |0,1=>b01 |0,2=>b02 |0,3=>b03 |1,0=>b10 |1,2=>b12 |1,3=>b13 |2,0=>b20 |2,1=>b21 |2,3=>b23 |3,0=>b30 |3,1=>b31 |3,2=>b32 |_,_=>false
theorem Wx:iY 3 (iz 3)=true:=by decide+kernel
theorem Ix:iY 4 (iz 4)=true:=by decide+kernel
theorem af4:∀b01 b02 b10 b12 b20 b21:Bool,Oa (Ni b01 b02 b10 b12 b20 b21) 3=true->zA (Ni b01 b02 b10 b12 b20 b21) 3 Lg=true:=by decide+kernel
theorem afM:∀b01 b02 b03 b10 b12 b13 b20 b21 b23 b30 b31 b32:Bool,Oa (Pi b01 b02 b03 b10 b12 b13 b20 b21 b23 b30 b31 b32) 4=true->zA (Pi b01 b02 b03 b10 b12 b13 b20 b21 b23 b30 b31 b32) 4 Nf=true:=by decide+kernel
theorem Jw  {n:Nat}{uss:AZ}(h:∀i j,i<n->j<n->b i j=HT.lexLt (uss.getD i []) (uss.getD j [])):Oa b n=true:=by
 unfold Oa;simp only[ji,uu,ja,i8,Bool.or_eq_true,Bool.and_eq_false_imp];intro i hi;refine⟨by rw[h i i hi hi,lN],λj hj=>⟨λq=>?_,λk hk=>⟨?_,?_⟩⟩⟩
 .rw[h i j hi hj]at q
  rw[h j i hj hi,aap q]
 .rw[h i j hi hj,h j k hj hk,h i k hi hk]
  cases q1:HT.lexLt (uss.getD i []) (uss.getD j [])with
  |false=>exact .inl λz=>by cases z
  |true=>
   cases q2:HT.lexLt (uss.getD j []) (uss.getD k [])with
   |false=>exact .inl λ_=>rfl
   |true=>exact .inr (xB _ _ _ q1 q2)
 .rw[h i j hi hj,h j k hj hk,h i k hi hk]
  cases q1:HT.lexLt (uss.getD i []) (uss.getD j [])with
  |true=>exact .inl (.inl rfl)
  |false=>
   cases q2:HT.lexLt (uss.getD j []) (uss.getD k [])with
   |true=>exact .inl (.inr rfl)
   |false=>
    refine .inr ?_;cases q3:HT.lexLt (uss.getD i []) (uss.getD k [])with
    |false=>rfl
    |true=>
     rcases Oe (uss.getD i []) (uss.getD j [])with e |e |e
     .rw[e]at q3;rw[q2]at q3;cases q3
     .rw[q1]at e;cases e
     .have:=xB _ _ _ e q3
      rw[q2]at this;cases this
def dJ(uss:AZ):AZ:=(dZ uss).map λi=>uss.getD i []
def rC(u v:AY):Prop:=HT.lexLt v u=false
theorem Ql{uss:AZ}{n:Nat}{ps:List (List Nat)}(hl:uss.length=n)(ok:iY n (iz n)=true){b:Nat->Nat->Bool}(hb:∀i j,i<n->j<n->b i j=HT.lexLt (uss.getD i []) (uss.getD j []))(good:zA b n ps=true)(hp:∀p∈ps,p.Perm (ce n)):
  dZ uss∈ps/\(dZ uss).Perm (ce n)/\(dJ uss).Pairwise rC:=by
 have e:dZ uss=(nX b (iz n)).toList:=by
  unfold dZ;rw[hl];exact congrArg uw (Kl (n:=n) (λi j hi hj=>(hb i j hi hj).symm) _ ok)
 unfold zA at good;simp only[ja,ji,uu]at good;rw[<-e]at good;obtain⟨g1,g2⟩:=good;have m:dZ uss∈ps:=by simpa using g1
 have pm:=hp _ m;refine⟨m,pm,?_⟩;have ln:(dZ uss).length=n:=by rw[pm.length_eq,List.length_range]
 unfold dJ;rw[List.pairwise_iff_getElem];intro i j hi hj hij;rw[ak]at hi hj;have q:=g2 i (by omega) j (by omega);have pi:(dZ uss).getD i 0=(dZ uss)[i]:=by simp[cr,hi]
 have pj:(dZ uss).getD j 0=(dZ uss)[j]:=by simp[cr,hj]
 rw[pi,pj]at q;have li:(dZ uss)[i]<n:=by
  have:=pm.subset (gi hi);simpa using this
 have lj:(dZ uss)[j]<n:=by
  have:=pm.subset (gi hj);simpa using this
 rw[hb _ _ lj li]at q;simp only[List.getElem_map];unfold rC;have d:decide (i<j)=true:=by simpa using hij
 rw[d]at q;simpa using q
theorem aa6:∀p∈Lg,p.Perm (ce 3):=by decide
theorem aar:∀p∈Nf,p.Perm (ce 4):=by decide
theorem Js  (h:uss.length=3):dZ uss∈Lg/\(dZ uss).Perm (ce 3)/\(dJ uss).Pairwise rC:=by
 obtain⟨u0,u1,u2,rfl⟩:=len3 h
 have hb:∀i j,i<3->j<3->Ni (HT.lexLt u0 u1) (HT.lexLt u0 u2) (HT.lexLt u1 u0) (HT.lexLt u1 u2) (HT.lexLt u2 u0) (HT.lexLt u2 u1) i j=HT.lexLt ([u0,u1,u2].getD i []) ([u0,u1,u2].getD j []):=λi j hi hj=>by
  match i,j,hi,hj with
  |0,0,_,_=>exact(lN u0).symm
  |0,1,_,_=>rfl
  |0,2,_,_=>rfl
  |1,0,_,_=>rfl
  |1,1,_,_=>exact(lN u1).symm
  |1,2,_,_=>rfl
  |2,0,_,_=>rfl
  |2,1,_,_=>rfl
  |2,2,_,_=>exact(lN u2).symm
 exact Ql rfl Wx hb (af4 _ _ _ _ _ _ (Jw hb)) aa6
theorem Lr  (h:uss.length=4):dZ uss∈Nf/\(dZ uss).Perm (ce 4)/\(dJ uss).Pairwise rC:=by
 obtain⟨u0,u1,u2,u3,rfl⟩:=len4 h
 have hb:∀i j,i<4->j<4->Pi (HT.lexLt u0 u1) (HT.lexLt u0 u2) (HT.lexLt u0 u3) (HT.lexLt u1 u0) (HT.lexLt u1 u2) (HT.lexLt u1 u3) (HT.lexLt u2 u0) (HT.lexLt u2 u1) (HT.lexLt u2 u3) (HT.lexLt u3 u0) (HT.lexLt u3 u1) (HT.lexLt u3 u2) i j=HT.lexLt ([u0,u1,u2,u3].getD i []) ([u0,u1,u2,u3].getD j []):=λi j hi hj=>by
  match i,j,hi,hj with
  |0,0,_,_=>exact(lN u0).symm
  |0,1,_,_=>rfl
  |0,2,_,_=>rfl
  |0,3,_,_=>rfl
  |1,0,_,_=>rfl
  |1,1,_,_=>exact(lN u1).symm
  |1,2,_,_=>rfl
  |1,3,_,_=>rfl
  |2,0,_,_=>rfl
  |2,1,_,_=>rfl
  |2,2,_,_=>exact(lN u2).symm
  |2,3,_,_=>rfl
  |3,0,_,_=>rfl
  |3,1,_,_=>rfl
  |3,2,_,_=>rfl
  |3,3,_,_=>exact(lN u3).symm
 exact Ql rfl Ix hb (afM _ _ _ _ _ _ _ _ _ _ _ _ (Jw hb)) aar
theorem oE  (h:uss.length=3\/uss.length=4):(dJ uss).Perm uss/\(dJ uss).Pairwise rC:=by
 have key:∀n,uss.length=n->(dZ _).Perm _->(dJ _).Perm uss:=λn hn hp=>by
  have e:(ce n).map (λi=>uss.getD i [])=uss:=by
   refine xh (by simp[hn]) λi h1 h2=>?_;have hi:=h2;simp[cr,hi]
  have:=hp.map (λi=>uss.getD i []);rw[e]at this;exact this
 rcases h with h |h
 .obtain⟨_,hp,hs⟩:=Js h
  exact⟨key 3 h hp,hs⟩
 .obtain⟨_,hp,hs⟩:=Lr h
  exact⟨key 4 h hp,hs⟩
theorem B0{A B:AZ}(hp:A.Perm B)(ha:A.Pairwise rC)(hb:B.Pairwise rC):A=B:=
 hp.eq_of_pairwise (λu v _ _ h g=>W6 g h) ha hb
theorem Gj  (hp:A.Perm B)(h:B.length=3\/B.length=4):dJ A=dJ B:=by
 obtain⟨p1,s1⟩:=oE  (by rw[hp.length_eq];exact h);obtain⟨p2,s2⟩:=oE h;exact B0 (p1.trans (hp.trans p2.symm)) s1 s2
end
open PySem PySem.Spec PyProof.Rows Bn
theorem abV   {own1 own:List Str}{cap1 cap:List (Nat×Str)}{C:Addr}{BK:aa}{BM:Hp}{ex:List Addr}(so:Scope)(hso:X.env.scope=so)(hk:so.kind=.function)(kind:sc.kind=.function)(names:∀y∈sc.names,y.2=.local->sc.names.lookup y.1=some .local)
  (nocell:∀y∈sc.names,y.2≠.cell)(free:∀y∈sc.names,y.2=.free->sc1.names.lookup y.1=some .free/\so.names.lookup y.1=some .cell)(at':∀p∈cap,(dE own1 cap1)[p.1]?=some p.2)(hcap:∀p∈cap,sc.names.lookup p.2=some .free):
  jB (iR X sc1 (dE own1 cap1) C BK BM ex) sc own cap:=
 ⟨kind,names,nocell,λy hy e=>by
  obtain⟨f1,f2⟩:=free y hy e;exact uG  (by rw[hso];exact hk) f1 (by show X.env.scope.names.lookup _=_;rw[hso];exact f2),at',hcap⟩
section
variable{M:Model}{A:aq}{E:Value->aa->Prop}{s:aa}
theorem D8     {outer:bi}{Q:bi->aa->Prop}
  (hQ:Q (newEnv scope s.heap.objs.size globals (cellsFrom (s.heap.objs.size+1) scope.names closure) qual none .none (some outer) builtinsNs) {s with heap:=pushCells (s.heap.push {cls:=.type "dict",data:=.dict #[]}) scope.names}):
  wpAny M A (newFunctionEnv scope globals closure [] qual none .none (some outer)) Q E s:=by
 refine ag (wpAny_alloc ?_);refine ag (wpAny_layCells _ (λname kind cells=>rfl) _ _ _ _ ?_);rw[show({s with heap:=s.heap.push _}:aa).heap.objs.size=s.heap.objs.size+1 from jb ..];refine ag ?_;exact au (au hQ)
end
theorem Cf:∀(names:List (Str×fz))(n:Nat)(acc:List (Str×Addr)),(∀x y c,acc.lookup x=some c->acc.lookup y=some c->x=y)->(∀x c,acc.lookup x=some c->c<n)->
  ∀x y c,(cellsFrom n names acc).lookup x=some c->(cellsFrom n names acc).lookup y=some c->x=y
 |[],n,acc,hi,_,x,y,c,e1,e2=>hi x y c e1 e2
 |(name,kind)::r,n,acc,hi,hb,x,y,c,e1,e2=>by
  unfold cellsFrom at e1 e2
  by_cases k:(kind==gh)=true
  .rw[if_pos k]at e1 e2
   refine Cf r _ _ (by grind) (by grind) x y c e1 e2<;>grind
  .rw[if_neg k]at e1 e2
   exact Cf r n _ hi hb x y c e1 e2
theorem uY{n0:Nat}:∀(names:List (Str×fz))(n:Nat)(acc:List (Str×Addr))(x:Str),((∃c,acc.lookup x=some c/\n0<=c)\/(x,gh)∈names)->n0<=n->∃c,(cellsFrom n names acc).lookup x=some c/\n0<=c
 |[],n,acc,x,h,hn=>by
  rcases h with h |h
  .exact h
  .cases h
 |(name,kind)::r,n,acc,x,h,hn=>by
  unfold cellsFrom
  by_cases k:(kind==gh)=true
  .rw[if_pos k]
   refine uY r _ _ x ?_ (n8 hn);cases w:x==name with
   |true=>exact .inl ⟨n,by rw[fw,w],hn⟩
   |false=>
    rcases h with⟨c,h,z⟩|h
    .exact .inl ⟨c,by rw[fw,w];exact h,z⟩
    .rcases bj.mp h with z |z
     .grind
     .exact .inr z
  .rw[if_neg k]
   refine uY r n _ x ?_ hn;rcases h with h |h
   .exact .inl h
   .rcases bj.mp h with z |z
    .grind
    .exact .inr z
theorem We:∀(names:List (Str×fz))(n:Nat)(acc:List (Str×Addr))(x:Str)(c:Addr),n0<=n->(cellsFrom n names acc).lookup x=some c->n0<=c\/acc.lookup x=some c
 |[],n,acc,x,c,hn,e=>.inr e
 |(name,kind)::r,n,acc,x,c,hn,e=>by
  unfold cellsFrom at e
  by_cases k:(kind==gh)=true
  .rw[if_pos k]at e
   rcases We r _ _ x c (n8 hn) e with z |z
   .exact .inl z
   .rw[fw]at z
    cases w:x==name<;>simp_all
  .rw[if_neg k]at e
   exact We r n _ x c hn e
theorem yO:∀(names:List (Str×fz))(n:Nat)(acc:List (Str×Addr))(x:Str),(x,gh)∉names->(cellsFrom n names acc).lookup x=acc.lookup x
 |[],n,acc,x,h=>rfl
 |(name,kind)::r,n,acc,x,h=>by
  unfold cellsFrom;have hr:(x,gh)∉r:=λz=>h (bd _ z)
  by_cases k:(kind==gh)=true
  .rw[if_pos k,yO r _ _ x hr,fw]
   cases w:x==name<;>simp_all
  .rw[if_neg k,yO r _ _ x hr]
theorem Qe:∀(names:List (Str×fz))(h:Heap)(acc:List (Str×Addr)),(∀x c,acc.lookup x=some c->∃v,h.IsCell c v)->∀x c,(cellsFrom h.objs.size names acc).lookup x=some c->∃v,(pushCells h names).IsCell c v
 |[],h,acc,hc,x,c,e=>hc x c e
 |(name,kind)::r,h,acc,hc,x,c,e=>by
  unfold cellsFrom at e;unfold pushCells
  by_cases k:(kind==gh)=true
  .rw[if_pos k]at e⊢
   rw[<-jb h _]at e;refine Qe r _ _ (λy c e=>?_) x c e;rw[fw]at e;cases w:y==name with
   |true=>
    rw[w]at e;cases e;exact⟨none,_,cj _ rfl,rfl⟩
   |false=>
    rw[w]at e;obtain⟨v,z⟩:=hc y c e;exact⟨v,z.keeps λb o e=>ar _ e⟩
  .rw[if_neg k]at e⊢
   exact Qe r h _ hc x c e
theorem Bl{env:bi}:∀{names:List (Str×fz)}{x:Str},
  (let l:=(names.map λ(n,k)=>if(k==ik&&env.scope.kind== .function&&env.kindOf n==some .cell)then(n,gh)else(n,k)).lookup x;l=some .cell\/l=some .free)->(x,ik)∈names\/(x,gh)∈names
 |[],x,h=>by
  simp_all
 |(n,k)::r,x,h=>by
  have ih:=@Bl env r x<;>grind
theorem Qk{env:bi}:∀{names:List (Str×fz)}{x:Str},names.lookup x=some .cell->
  (names.map λ(n,k)=>if(k==ik&&env.scope.kind== .function&&env.kindOf n==some .cell)then(n,gh)else(n,k)).lookup x=some .cell
 |[],x,h=>by cases h
 |(n,k)::r,x,h=>by
  rw[ao];dsimp only;rw[fw]at h;cases w:x==n with
  |true=>
   rw[w]at h;have kf:=cx h;subst kf;rw[if_neg (by simp),fw,w]
  |false=>
   rw[w]at h;have ih:=@Qk env r x h
   by_cases c:(k==ik&&env.scope.kind== .function&&env.kindOf n==some .cell)=true
   .rw[if_pos c,fw,w]
    exact ih
   .rw[if_neg c,fw,w]
    exact ih
def jX(X:Cx)(sc:Scope)(N:List Str)(C:Addr)(BK:aa)(BM:Hp)(ex:List Addr):Cx where
 prog:=X.prog
 w:=X.w
 K:=X.K
 mg:=X.mg
 base:=X.base
 A:=X.A
 N:=N
 BK:=BK
 BM:=BM
 env:=compEnvC sc (cellsFrom (C+1) sc.names (iG X.env sc.names [])) C X.env
 outer:=X.stack
 stack:=X.stack
 ex:=ex
 fn:=λx=>sc.names.lookup x==some .cell
 calm:=X.calm
 pn:=[]
 xe:=λ_ _=>False
structure oQ(X:Cx)(sc:Scope)(own:List Str)(cap:List (Nat×Str)):Prop where
 kind:sc.kind=.function
 names:∀y∈sc.names,y.2=.local->sc.names.lookup y.1=some .local
 cells:∀y∈sc.names,y.2=.cell->sc.names.lookup y.1=some .cell
 free:∀y∈sc.names,y.2=.free->X.env.kindOf y.1=some .cell
 at':∀p∈cap,X.N[p.1]?=some p.2
 cap:∀p∈cap,sc.names.lookup p.2=some .free
section
variable{X:Cx}{sc:Scope}{own:List Str}{cap:List (Nat×Str)}{BJ:List (Addr×Obj)}{σ:St}{H:Hp}{s:aa}{elt target iter:ah}{pos pos':ai}{wi:TI}{g:TG}{te:TE}{Q:VK}
theorem oQ.has(k:oQ X sc own cap)(ok:X.Ok):∀p∈sc.names,p.2=.free->∃c,X.env.cells.lookup p.1=some c:=λp hp e=>ok.has _ (.inl (k.free p hp e))
theorem aI.cmpC(k:oQ X sc own cap){h4:Heap}{fp:List Addr}{t':Nat}(I:aI X BJ σ H s)(hf:∀b∈fp,fZ X BJ H b)(hlt:∀b∈fp,b<s.heap.objs.size)
  (e4:h4=pushCells (s.heap.push {cls:=.type "dict",data:=.dict #[]}) sc.names):aI (jX X sc (dE own cap) s.heap.objs.size s H fp) [] (kN own cap σ) H {s with heap:=h4,toks:=t'}:=by
 have kp:∀b o,s.heap.get? b=some o->h4.get? b=some o:=λb o e=>by
  rw[e4];exact ye _ _ b o (ar _ e)
 have hns:h4.Ns s.heap.objs.size (λ_=>none):=by
  rw[e4];exact(Heap.Ns.new ..).keeps λb o e=>ye _ _ b o e
 have hcl:∀y c,(iG X.env sc.names []).lookup y=some c->X.env.cells.lookup y=some c:=λy c e=>by
  rcases wL sc.names [] (k.has I.ok) y c e with z |z
  .cases z
  .exact z
 have clt:∀y c,X.env.cells.lookup y=some c->c<s.heap.objs.size:=λy c e=>by
  obtain⟨v,o,ho,_⟩:=I.cell y c e;exact ax ho
 have hfr:=λy c e=>
  (We (n0:=s.heap.objs.size+1) sc.names _ _ y c (al _) e).imp (λz=>z) (hcl y c)
 have nst:∀b∈fp,b∉fF X.stack:=λb hb z=>by
  rcases bj.mp (I.stkSub b z)with e |e
  .exact(hf b hb).2.1 e
  .exact(hf b hb).2.2.1 e
 refine⟨⟨I.ok.mod,k.kind,I.ok.glob,I.ok.blt,al _,λx y c h1 h2=>?_,λx hx=>?_,λx c hfn e=>?_,I.ok.hd,I.ok.frames,.inl rfl,λb hb=>⟨cw (hlt b hb),λx c e=>?_⟩,
  I.bs,fh I.ok.bsz I.sz,λb o e hb=>?_,nst,I.stack,I.stkFree⟩,rfl,I.bare,Un.kept kp,⟨_,hns,λi x v h1 h2 h3=>?_⟩,λx c e=>?_,I.hok.fresh (al _),λx c e=>?_,λp hp=>absurd (show p∈([]:List (Addr×Obj)) from hp) (by simp),I.hok.kept kp,?_⟩
 .exact Cf sc.names _ _ (λx y c h1 h2=>I.ok.inj x y c (hcl x c h1) (hcl y c h2)) (λx c e=>xv (clt x c (hcl x c e))) x y c h1 h2
 .rcases Bl hx with z |z
  .by_cases m:(x,gh)∈sc.names
   .obtain⟨c,e,_⟩:=uY (n0:=0) sc.names (s.heap.objs.size+1) (iG X.env sc.names []) x (.inr m) (iu _)
    exact⟨c,e⟩
   .obtain⟨c,e⟩:=rO (env:=X.env) sc.names [] x (.inr z)
    exact⟨c,(yO sc.names _ _ x m).trans e⟩
  .obtain⟨c,e,_⟩:=uY (n0:=0) sc.names (s.heap.objs.size+1) (iG X.env sc.names []) x (.inr z) (iu _)
   exact⟨c,e⟩
 .have hm:(x,gh)∈sc.names:=jf (by simpa[jX]using hfn)
  obtain⟨c',e',hc'⟩:=uY (n0:=s.heap.objs.size) sc.names (s.heap.objs.size+1) (iG X.env sc.names []) x (.inr hm) (mj _);have:=e'.symm.trans e;cases this;exact hc'
 .rcases hfr x c e with z |z
  .exact lc (wy (hlt b hb) z)
  .exact(hf b hb).2.2.2.2.1 x c z
 .rcases(hf b hb).2.2.2.1 with z |z
  .exact I.ok.noex b o e z
  .exact absurd (de (ax (I.ok.bs b o e).1) z) (ix _)
 .have hN:(dE own cap)[i]?=some x:=h1
  unfold dE at hN;unfold kN at h2
  by_cases hi:i<own.length
  .rw[fu (by simpa using hi),az]at h2
   cases e:own[i]? with
   |none=>rw[e]at h2;cases h2
   |some z=>rw[e]at h2;cases h2
  .rw[dq (by simpa using hi),az,ak]at h2
   rw[dq (by omega),az]at hN;cases e:cap[i-own.length]? with
   |none=>rw[e]at h2;cases h2
   |some p=>
    rw[e]at h2 hN;have hp:p∈cap:=cq e;have hx:p.2=x:=cx hN;have hv:(σ[p.1]?).join=some v:=cx h2;have hv':σ[p.1]?=some (some v):=by
     cases e2:σ[p.1]? with
     |none=>rw[e2]at hv;cases hv
     |some z=>rw[e2]at hv;exact congrArg some hv
    have fr:=k.cap p hp;have nc:(p.2,gh)∉sc.names:=λz=>by
     have:=k.cells _ z rfl;rw[fr]at this;cases this
    have kc:X.env.kindOf p.2=some .cell:=k.free (p.2,.free) (jf fr) rfl;obtain⟨m0,_,hl⟩:=I.loc;obtain⟨u,ru,lk⟩:=hl p.1 p.2 v (k.at' p hp) hv' (.inr (.inl kc));refine⟨u,ru,?_⟩;rcases lk with⟨k1,_⟩|⟨_,c,ec,cell⟩
    .rw[kc]at k1
     cases k1
    .rw[<-hx]
     obtain⟨c',ec'⟩:=rO (env:=X.env) sc.names [] p.2 (.inr (jf fr));have:=(hcl _ _ ec').symm.trans ec;cases this;obtain⟨o,ho,hd⟩:=cell;exact .inr ⟨.inl (uG I.ok.kind fr kc),c,(yO sc.names _ _ p.2 nc).trans ec',o,kp c o ho,hd⟩
 .show ∃v,h4.IsCell c v
  rw[e4];refine Qe sc.names _ (iG X.env sc.names []) (λy c e=>?_) x c (by rw[jb];exact e);obtain⟨v,z⟩:=I.cell y c (hcl y c e);exact⟨v,z.keeps λb o e=>ar _ e⟩
 .rcases hfr x c e with z |z
  .exact I.hok.fresh (ot z)
  .exact I.freeC x c z
 .unfold kN
  show _=(dE own cap).length;unfold dE;rw[av,av,ak,ak,ak]
theorem aI.uncmpC  {H3 H':Hp}{N:List Str}{σ':St}{C:Addr}{fp:List Addr}{pl:List (Addr×Obj)}(I:aI X BJ σ H s)(hf:∀b∈fp,fZ X BJ H b)(u:Un (fF X.stack) fp H H3 s.heap s3.heap)(os:s3.os=s.os)
  (J:aI (jX X sc N C s3 H3 fp) pl σ' H' s'):aI X BJ σ H' s':=by
 have os':=(show s'.os=s3.os from J.os).trans os;refine I.call'  os' (u.trans J.base) J.hok J.bare λb hb=>?_;obtain⟨_,f1,_,f3,f4,f5⟩:=hf b hb;exact⟨f3,f1,f4,f5⟩
theorem K8{use:Option (Value->Sem Unit)}{Qf:Value->aa->Prop}(k:oQ X sc own cap)(hi:PI X target iter wi)(hc:X.calm=true)
  (hg:∀C BK BM ex,PG (jX X sc (dE own cap) C BK BM ex) target g)(he:∀C BK BM ex,PE (jX X sc (dE own cap) C BK BM ex) elt te)(I:aI X BJ σ H s)(h:vL own cap wi g te σ H Q)
  (fin:∀D C s' H' m,aI X BJ σ H' s'->fZ X BJ H' C->s'.heap.Ns C m->Q (.ref D) H'->compPost (model X.prog X.w) X.A X.xe use Qf (.ref D) C (.ok .next) s')
  (hs:∀x,foldedSetIterable iter X.env x=pure x):
  wpAny (model X.prog X.w) X.A (comprehension (.ListComp elt [⟨target,iter,[],0⟩] sc pos) sc X.env pos' (newList []) false (eval iter X.env) use) Qf X.xe s:=by
 refine c8 (use:=use) rfl hs (Ot (k.has I.ok)) k.kind k.names ?_;refine bA (hi BJ s σ H _ I h) λv s1 h1=>bA h1 λitv s2 h2=>?_;obtain⟨it,fp,tn,J,H2,e,I2,T,st2,f2,hW⟩:=h2;subst e;refine ka (D8 ?_);have I3:aI X BJ σ (aT H2 s2.heap.objs.size (.lst [])) {s2 with heap:=s2.heap.push {cls:=.type "list",data:=.seq ([]:BB).toArray},toks:=s2.toks}:=I2.lnew (ys:=[]) (its:=[]) .nil (iu _);have hD:H2 s2.heap.objs.size=none:=I2.fresh;have ltf:∀b∈fp,b<s2.heap.objs.size:=λb hb=>by
  obtain⟨o,ho,_⟩:=T.obj _ _ st2 b hb;exact ax ho
 have f3:∀b∈fp,fZ X BJ (aT H2 s2.heap.objs.size (.lst [])) b:=λb hb=>⟨by rw[bQ (cw (ltf b hb))];exact(f2 b hb).1,(f2 b hb).2⟩;have un:Un (fF X.stack) fp H2 (aT H2 s2.heap.objs.size (.lst [])) s2.heap (s2.heap.push {cls:=.type "list",data:=.seq ([]:BB).toArray}):=Un.laid (λb u q=>ar _ q) (al _) hD;have kp:∀b o,(s2.heap.push {cls:=.type "list",data:=.seq ([]:BB).toArray}).get? b=some o->(pushCells ((s2.heap.push {cls:=.type "list",data:=.seq ([]:BB).toArray}).push {cls:=.type "dict",data:=.dict #[]}) sc.names).get? b=some o:=λb o q=>ye _ _ b o (ar _ q);have J0:=I3.cmpC (t':=s2.toks) k f3 (λb hb=>de (ltf b hb) (by rw[jb];exact mj _)) rfl;have stat:∀{H':Hp},(∀b∈fp,H' b=none)->∀b∈fp,fZ _ [] H' b:=λhn b hb=>
  ⟨hn b hb,(J0.ok.exf b hb).1,J0.ok.exfs b hb,.inl hb,(J0.ok.exf b hb).2,λp hp=>absurd (show p∈([]:List (Addr×Obj)) from hp) (by simp)⟩
 have st4:=T.keep _ _ _ st2 λb hb o q=>kp b o (ar _ q);have fr0:∀b∈fp,(aT H2 s2.heap.objs.size (.lst [])) b=none:=λb hb=>(f3 b hb).1;have loop:codeAny (model X.prog X.w) X.A (.compLoop (.ListComp elt [⟨target,iter,[],0⟩] sc pos) 0 (.ref it) (.ref s2.heap.objs.size) (compEnvC sc (cellsFrom ((s2.heap.push {cls:=.type "list",data:=.seq ([]:BB).toArray}).objs.size+1) sc.names (iG X.env sc.names [])) (s2.heap.push {cls:=.type "list",data:=.seq ([]:BB).toArray}).objs.size X.env))
   (compPost (model X.prog X.w) X.A X.xe use Qf (.ref s2.heap.objs.size) (s2.heap.push {cls:=.type "list",data:=.seq ([]:BB).toArray}).objs.size) {s2 with heap:=(pushCells ((s2.heap.push {cls:=.type "list",data:=.seq ([]:BB).toArray}).push {cls:=.type "dict",data:=.dict #[]}) sc.names),toks:=s2.toks}:=by
  obtain⟨W,⟨m0,w0⟩,turn⟩:=hW s2.heap.objs.size hD;refine Cm (λn s'=>∃i σ' H' ys,aI _ [] σ' H' s'/\tn i s'.heap/\(∀b∈fp,H' b=none)/\W i n σ' H' ys) ?_ m0
   ⟨0,_,_,[],J0,st4,fr0,w0⟩
  rintro n s5 ⟨i,σ5,H5,ys,I5,st5,fr5,w5⟩
  obtain⟨hD5,w5⟩:=turn i n σ5 H5 ys w5;rcases w5 with⟨stop,qn⟩|⟨go,hlt,step⟩
  .refine bA (T.done (jX X sc (dE own cap) (s2.heap.push {cls:=.type "list",data:=.seq ([]:BB).toArray}).objs.size {s2 with heap:=s2.heap.push {cls:=.type "list",data:=.seq ([]:BB).toArray},toks:=s2.toks} (aT H2 s2.heap.objs.size (.lst [])) fp) rfl rfl rfl hc i [] s5 σ5 H5 _ I5 (stat fr5) st5 stop) ?_
   rintro r s6 ⟨hr,I6⟩
   subst hr;obtain⟨m,hn,_⟩:=id I6.loc;exact fin _ _ s6 H5 m (I2.uncmpC (s3:={s2 with heap:=s2.heap.push {cls:=.type "list",data:=.seq ([]:BB).toArray},toks:=s2.toks}) f2 un rfl I6) (I3.fpOk (al _) I6.free) hn qn
  .refine bA (T.item (jX X sc (dE own cap) (s2.heap.push {cls:=.type "list",data:=.seq ([]:BB).toArray}).objs.size {s2 with heap:=s2.heap.push {cls:=.type "list",data:=.seq ([]:BB).toArray},toks:=s2.toks} (aT H2 s2.heap.objs.size (.lst [])) fp) rfl rfl rfl hc i [] s5 σ5 H5 _ I5 (stat fr5) st5 go) ?_
   rintro r s6 ⟨u,hr,h6⟩
   subst hr;refine bA h6 ?_
   rintro _ s7 ⟨x,H7,I7,r7,y7,st7,fr7⟩
   have I7':=I7.pinned (stat fr7) (T.obj _ _ st7);refine bA (hg _ _ _ _ _ s7 σ5 H7 x u _ I7' r7 (step x H7 y7)) ?_
   rintro _ s8 ⟨σ8,H8,I8,q8⟩
   refine bA (he _ _ _ _ _ s8 σ8 H8 _ I8 q8) ?_
   rintro v9 s9 ⟨y,H9,I9,r9,hD9,m',hm,w9⟩
   refine bA (wW _ s9 σ8 H9 (.ref s2.heap.objs.size) [y] (.ref s2.heap.objs.size) [v9] (λ_ H'=>H'=aT H9 s2.heap.objs.size (.lst (ys++[y]))) I9 rfl (.cons r9 .nil) ⟨_,ys,y,rfl,rfl,hD9,hlt,rfl⟩) ?_
   rintro _ s10 ⟨_,H10,I10,_,q10⟩
   subst q10;refine⟨m',hm,i+1,σ8,_,_,I10.unpinned,T.keep _ _ _ st7 λb hb o q=>(I10.pin (b,o) (dm _ (dm _ (rM hb q)))).1,λb hb=>?_,w9⟩;obtain⟨o,q,d⟩:=T.obj _ _ st7 b hb;exact(I10.pin (b,o) (dm _ (dm _ (rM hb q)))).2.1
 exact d7 loop (T.self _ 0 _ _ _ st4 loop)
theorem aag(k:oQ X sc own cap)(hi:PI X target iter wi)(hc:X.calm=true)
  (hg:∀C BK BM ex,PG (jX X sc (dE own cap) C BK BM ex) target g)(he:∀C BK BM ex,PE (jX X sc (dE own cap) C BK BM ex) elt te)
  (hs:∀x,foldedSetIterable iter X.env x=pure x:=by intro _;rfl):PE X (.ListComp elt [⟨target,iter,[],0⟩] sc pos) (vL own cap wi g te):=by
 intro BJ s σ H Q I h;refine K8  k hi hc hg he I h (λD C s' H' m I' fC hn q=>?_) hs;refine⟨m,hn,λh' sb=>⟨.ref D,H',?_,rfl,q⟩⟩;obtain⟨f0,f1,f2,f3,f4,f5⟩:=fC;exact I'.turned  (λb o hb e=>(sb.2 b hb).trans e) f0 f1 f3 f4 f5
theorem aci     (so:Scope)(N:List Str)(hso:X.env.scope=so)(hN:X.N=N)(kind:sc.kind=.function)(names:∀y∈sc.names,y.2=.local->sc.names.lookup y.1=some .local)
  (cells:∀y∈sc.names,y.2=.cell->sc.names.lookup y.1=some .cell)(free:∀y∈sc.names,y.2=.free->so.names.lookup y.1=some .cell)(at':∀p∈cap,N[p.1]?=some p.2)(hcap:∀p∈cap,sc.names.lookup p.2=some .free):oQ X sc own cap:=
 ⟨kind,names,cells,λy hy e=>by show X.env.scope.names.lookup _=_;rw[hso];exact free y hy e,λp hp=>by rw[hN];exact at' p hp,hcap⟩
theorem acn  {sc1 sc:Scope}{own1 own:List Str}{cap1 cap:List (Nat×Str)}{C:Addr}{BK:aa}{BM:Hp}{ex:List Addr}(so:Scope)(hso:X.env.scope=so)(hk:so.kind=.function)(kind:sc.kind=.function)(names:∀y∈sc.names,y.2=.local->sc.names.lookup y.1=some .local)
  (nocell:∀y∈sc.names,y.2≠.cell)(free:∀y∈sc.names,y.2=.free->sc1.names.lookup y.1=some .cell\/(sc1.names.lookup y.1=some .free/\so.names.lookup y.1=some .cell))(at':∀p∈cap,(dE own1 cap1)[p.1]?=some p.2)(hcap:∀p∈cap,sc.names.lookup p.2=some .free):
  jB (jX X sc1 (dE own1 cap1) C BK BM ex) sc own cap:=
 ⟨kind,names,nocell,λy hy e=>by
  rcases free y hy e with f |⟨f1,f2⟩
  .exact Qk  f
  .exact uG  (by rw[hso];exact hk) f1 (by show X.env.scope.names.lookup _=_;rw[hso];exact f2),at',hcap⟩
end
end L2
namespace L2.Pp
open PySem PySem.Spec PyProof.Rows Bn
section
variable{K:ae}{cl:Str->Addr}{E:XK}{X:Cx}{p:Ph}{H H':Hp}{S:aJ}
variable{sc:Scope}{own:List Str}{cap:List (Nat×Str)}{elt target iter:ah}{pos:ai}{mi:MI}{g:GM}{me:ME}
theorem W8(k:oQ X sc own cap)(hi:PIp K cl E X target iter mi)(hc:X.calm=true)(hg:∀C BK BM ex,mO K (jX X sc (dE own cap) C BK BM ex) target g)(he:∀C BK BM ex,aN K cl E0 (jX X sc (dE own cap) C BK BM ex) elt me)
  (hs:∀x,foldedSetIterable iter X.env x=pure x:=by intro _;rfl):aN K cl E X (.ListComp elt [⟨target,iter,[],0⟩] sc pos) (bC own cap mi g me):=by
 intro hK;refine PE.imp (aag k (hi hK) hc (λC BK BM ex=>hg C _ _ _ hK) (λC BK BM ex=>he C _ _ _ hK) hs) ?_
 rintro σ H Q ⟨p,S,ρ,s,ev,h⟩
 exact bW s ev h λq H' xs J S' cO sm ev it kk D hD=>Pc sm ev it kk hD
end
section
open PySem PySem.Spec PyProof.Rows Bn
def Sa(k:Nat)(S:aJ):Prop:=∀(j:Nat)(o:SO),S[j]?=some o->j≠k->∃xs,o=.lst xs
def Pl(S:aJ):Prop:=∀(j:Nat)(o:SO),S[j]?=some o->∃xs,o=.lst xs
section
variable{K:ae}{cl:Str->Addr}{E:XK}{X:Cx}{a e:ah}{m:ME}{ms:MA}{pos:ai}{p q:Ph}{H H':Hp}{S:aJ}
theorem aQ.pushO(s:aQ K p S H){D:Addr}{o:SO}{ho:HO}(h:H D=none)(mo:Mb ho)(ob:pD K ⟨p.f++[D],λa=>p.w a\/a=D,λa=>p.c a\/a=D⟩ (aT H D ho) D o):
  let q:Ph:=⟨p.f++[D],λa=>p.w a\/a=D,λa=>p.c a\/a=D⟩
  bK p H q (aT H D ho)/\aQ K q (S++[o]) (aT H D ho):=by
 intro q;obtain⟨st0,sm0⟩:=s.res (D:=D) (o:=ho) h mo;have nf0:D∉p.f:=λz=>s.notin h (s.wc D (s.sub D z));refine⟨⟨st0.wc,st0.mu,⟨[D],rfl⟩,st0.mw,st0.mono,λa x n=>?_,st0.nw,st0.nc,st0.keep⟩,?_,by simp[q,s.len],λa x=>?_,sm0.wc,sm0.mu,λk a u e1 e2=>?_⟩
 .rcases br.mp x with z |z
  .exact absurd z n
  .have:a=D:=by simpa using z
   rw[this];exact h
 .show(p.f++[D]).Nodup
  rw[qb];refine⟨s.nd,by simp,λa ha b hb z=>?_⟩;have:b=D:=by simpa using hb
  exact nf0 (this▸z▸ha)
 .rcases br.mp x with z |z
  .exact .inl (s.sub a z)
  .exact .inr (by simpa using z)
 .by_cases hk:k<S.length
  .have e1':p.f[k]?=some a:=by
    rwa[fu (by rw[s.len];exact hk)]at e1
   rw[fu hk]at e2;refine(s.obj k a u e1' e2).mono (λvs e=>by rw[bQ (gH e h)];exact e) (λb w f=>⟨⟨.inl w,λm=>?_⟩,λvs e=>by rw[bQ (gH e h)];exact e⟩) λ_ _ r=>st0.reps r;rcases br.mp m with z |z
   .exact f z
   .have:b=D:=by simpa using z
    exact s.notin h (this▸s.wc b w)
  .have hk':k=S.length:=by
    have:=(bn.mp e2).1;simp at this;omega
   subst hk';rw[dq (al _),io]at e2;have e1:=e1;rw[<-s.len,dq (al _),io]at e1;cases e1;cases e2;exact ob
def Ah(xs:BI)(S:aJ):bH AV:=match(gS S xs).bind jK with
 |some (.lst vs)=>.ok (.ref S.length) (S++[.lol [vs]])
 |_=>.fail
def vT(ms:MA):ME:=λρ S=>(ms ρ S).bind Ah
theorem Cs    (s:aQ K p S H)(r:iF K p H as xs)(h:(gS S as).bind jK=some (.lst vs)):
  ∃b ws,xs=[.ref b]/\(bO K H b ws\/cG K H b ws)/\ws.length<=sizeLine/\aP K p.c H vs ws:=by
 cases z:gS S as with
 |none=>simp_all
 |some us=>
  rw[z]at h;have rr:=wY s r z;cases rr with
  |nil=>cases h
  |cons g t=>
   rename_i u x ut xt;cases t with
   |cons _ _=>cases u<;>cases h
   |nil=>
    cases u with
    |lst ws=>
     cases h;obtain⟨a,ws,rfl,l,z,r⟩:=g.lst;exact⟨a,ws,rfl,.inl l,z,r⟩
    |tup ws=>
     cases h;obtain⟨a,ws,rfl,l,z,r⟩:=g.tup;exact⟨a,ws,rfl,.inr l,z,r⟩
    |_=>cases h
theorem ad0{x:Str}{p lp:ai}(hx:x="list")(hg:Gl X "list")(hm:X.mg "list"=none)(ha:eQ K cl E X [e] ms)(he:starEach [e] X.env=[(false,eval e X.env)]:=by rfl)
  (hs:starEach [.Call (.Name x p) [e] [] pos] X.env=[(false,eval (.Call (.Name x p) [e] [] pos) X.env)]:=by rfl):aN K cl E X (.List [.Call (.Name x p) [e] [] pos] lp) (vT ms):=by
 intro hK;subst hK hx;refine PE.imp (Ag (sH (wQ Fb hg hm (by decide+kernel) (ha rfl) (by decide) (by decide) he rfl) uZ hs)) ?_
 rintro σ H Q ⟨p,S,ρ,s,ev,h⟩
 refine bW s ev h λq H1 as xs S1 st s1 e1 r1 h1=>?_;unfold Ah at h1;split at h1
 .rename_i vs hv
  obtain⟨b,ws,rfl,sq,hl,r⟩:=Cs s1 r1 hv;refine⟨b,ws,rfl,sq,λl hn=>⟨by show 1<=sizeLine;decide,λt ht=>?_⟩⟩;obtain⟨st2,sm2⟩:=s1.res (D:=l) (o:=.lst ws) hn trivial;have ne:l≠t:=λz=>by rw[<-z,fP]at ht;cases ht
  have nf:l∉q.f:=λz=>s1.notin hn (s1.wc l (s1.sub l z));have dI:=(sm2.res (D:=t) (o:=.lst [.ref l]) ht trivial).1;have ob:pD X.K ⟨(q.res l).f++[t],λa=>(q.res l).w a\/a=t,λa=>(q.res l).c a\/a=t⟩ (aT (aT H1 l (.lst ws)) t (.lst [.ref l])) t (.lol [vs]):=by
   refine⟨[l],fP,by show 1<=sizeLine;decide,by simp,λc hc=>?_,rfl,λi ys c e1 e2=>?_⟩
   .have:c=l:=by simpa using hc
    subst this;refine⟨.inl (.inr rfl),λm=>?_⟩;rcases br.mp m with z |z
    .exact nf z
    .exact ne (by simpa using z)
   .cases i with
    |zero=>
     cases e1;cases e2;exact⟨ws,by rw[bQ ne,fP],hl,dI.reps (st2.reps r)⟩
    |succ i=>simp at e1
  obtain⟨st4,sm4⟩:=sm2.pushO (D:=t) (ho:=.lst [.ref l]) ht trivial ob;exact h1 _ _ (.ref t) (st2.trans st4) sm4 ⟨t,by show(q.f++[t])[S1.length]?=some t;rw[<-s1.len,dq (al _),io];rfl,rfl⟩
 .exact h1.elim
def vQ(k:Nat)(ys:BI)(S:aJ):bH AV:=match(gS S ys).bind jK,S[k]? with
 |some (.lst vs),some (.lol xss)=>if xss.length<16777216 then .ok (.pv .non) (S.set k (.lol (xss++[vs])))else .fail
 |_,_=>.fail
def vK(m:ME)(ms:MA):ME:=λρ S=>(m ρ S).bind λk S1=>fG k S1 λk=>(ms ρ S1).bind λys S2=>vQ k ys S2
theorem aQ.growL(s:aQ K p S H){k:Nat}{D l:Addr}{xss:List BF}{bs:List Addr}{ys:BF}{ws:List V}(h:p.f[k]?=some D)(hS:S[k]?=some (.lol xss))(hn:H l=none)(hl:ws.length<=sizeLine)(r:aP K p.c H ys ws)(hH:H D=some (.lst (bs.map V.ref)))(hz:bs.length<sizeLine):
  bK p H (p.res l) (aT (aT H l (.lst ws)) D (.lst ((bs++[l]).map V.ref)))/\aQ K (p.res l) (S.set k (.lol (xss++[ys]))) (aT (aT H l (.lst ws)) D (.lst ((bs++[l]).map V.ref))):=by
 obtain⟨st2,sm2⟩:=s.res  (o:=.lst ws) hn trivial;have hk:=(bn.mp hS).1;have mD:=cq h;have w:(p.res l).w D:=.inl (s.sub D mD);have neD:D≠l:=λz=>by grind
 have nl:=λz=>s.notin hn (s.wc l (s.sub l z));have dI:bK (p.res l) _ (p.res l) (aT _ D (.lst ((bs++[l]).map V.ref))):=⟨sm2.wc,sm2.mu,jm,λ_ h=>h,λ_ h=>h,λ_ h g=>absurd h g,λ_ h g=>absurd h g,λ_ h g=>absurd h g,λa u e nw=>by
  rw[bQ (λz=>nw (by rw[z];exact w))];exact e⟩
 refine⟨st2.trans dI,sm2.nd,by rw[ff];exact sm2.len,sm2.sub,sm2.wc,λa x=>?_,λj a o e1 e2=>?_⟩
 .by_cases z:a=D
  .rw[z,fP]
   exact⟨_,rfl,trivial⟩
  .rw[bQ z]
   exact sm2.mu a x
 .by_cases hj:k=j
  .subst hj
   have e1:p.f[k]?=some a:=e1;rw[h]at e1;cases e1;rw[df hk]at e2;cases e2;obtain⟨cs,g1,g2,g3,g4,g5,g6⟩:=s.obj k D _ h hS;rw[hH]at g1;have ec:=by
    have:=congrArg (λo=>match o with |some (HO.lst v)=>v |_=>[]) g1
    exact o3 (λx y h=>by cases h;rfl) |>.mp this
   subst ec;have nb:∀b∈bs,b≠l:=λb hb z=>s.notin hn (z▸s.wc b (g4 b hb).1);refine⟨bs++[l],fP,by rw[av];exact hz,?_,λb hb=>?_,by rw[av,av,g5];rfl,λi xs b e1 e2=>?_⟩
   .rw[qb]
    exact⟨g3,by simp,λx hx y hy z=>nb x hx (by rw[z];simpa using hy)⟩
   .rcases br.mp hb with z |z
    .exact⟨.inl (g4 b z).1,(g4 b z).2⟩
    .have:=by simpa using z
     subst this;exact⟨.inr rfl,nl⟩
   .by_cases hi:i<bs.length
    .rw[fu hi]at e2
     rw[fu (by rw[g5];exact hi)]at e1;obtain⟨vs,h1,h2,h3⟩:=g6 i xs b e1 e2;have hb:=g4 b (cq e2);exact⟨vs,by rw[bQ (λz:b=D=>hb.2 (z▸mD)),bQ (nb b (cq e2))];exact h1,h2,dI.reps (st2.reps h3)⟩
    .have hi':i=bs.length:=by
      have:=(bn.mp e2).1;rw[av]at this;have:i<bs.length+1:=this;omega
     subst hi';rw[dq (al _),io]at e2;rw[<-g5,dq (al _),io]at e1;cases e1;cases e2;exact⟨ws,by rw[bQ (gw neD),fP],hl,dI.reps (st2.reps r)⟩
  .rw[dk hj]at e2
   have ne:a≠D:=λq=>hj (rQ s.nd h (q▸e1));exact(sm2.obj j a o e1 e2).mono (λvs e=>by rw[bQ ne];exact e) (λb w f=>⟨⟨w,f⟩,λvs e=>by rw[bQ (λz:b=D=>f (z▸mD))];exact e⟩) λ_ _ r=>dI.reps r
theorem aa9{x:Str}{p apos cpos:ai}(hx:x="list")(hg:Gl X "list")(hm:X.mg "list"=none)(ho:aN K cl E X a m)(ha:eQ K cl E X [e] ms)(hbase:attributeBase a "append" X.env (eval a X.env)=eval a X.env:=by rfl)
  (hfew:((backTo cpos (starEach [.Call (.Name x p) [e] [] pos] X.env)).all (λx=>!x.1)&&(backToKw cpos (keywordEach [] X.env)).all (λx=>x.1.isSome)&&decide (([.Call (.Name x p) [e] [] pos]:List ah).length+([]:List ft).length+(if([]:List ft).isEmpty then 0 else 1)<30))=true:=by rfl)
  (hline:(apos.endLine==cpos.line)=true:=by rfl)(he:starEach [e] X.env=[(false,eval e X.env)]:=by rfl)(hs:starEach [.Call (.Name x p) [e] [] pos] X.env=[(false,eval (.Call (.Name x p) [e] [] pos) X.env)]:=by rfl):
  aN K cl E X (.Call (.Attribute a "append" apos) [.Call (.Name x p) [e] [] pos] [] cpos) (vK m ms):=by
 intro hK;subst hK hx;refine PE.imp (Ng xq wo l8 wW (ho rfl) (sH (wQ Fb hg hm (by decide+kernel) (ha rfl) (by decide) (by decide) he rfl) uZ hs) hbase hfew hline hs rfl) ?_
 rintro σ H Q ⟨p,S,ρ,s,ev,h⟩
 refine bW s ev h λq H1 k x S1 st s1 e1 r1 h1=>?_;cases k with
 |pv v=>exact h1.elim
 |ref k=>
  have h1:bU X.K cl (dC X.K) q H1 (fG (.ref k) S1 λk=>(ms ρ S1).bind λys S2=>vQ k ys S2) Q E:=h1;rcases xH k S1 (λk=>(ms ρ S1).bind λys S2=>vQ k ys S2)with z |⟨z,n1,n2⟩
  .rw[z]at h1
   exact h1.elim
  rw[z]at h1;refine⟨He s1 r1 n1 n2,bW s1 e1 h1 λq2 H2 ys xs S2 st2 s2 e2 r2 h2=>?_⟩;obtain⟨a,ea,rfl⟩:=st2.repA r1;unfold vQ at h2;split at h2
  .rename_i vs xss hv hS
   obtain⟨b,ws,rfl,sq,hl,r⟩:=Cs s2 r2 hv;split at h2
   .rename_i hz
    refine⟨b,ws,rfl,sq,λl hn=>?_⟩;obtain⟨bs,g1,g2,g3,g4,g5,g6⟩:=s2.obj k a _ ea hS;have hzz:=kS;have neA:a≠l:=λz=>by rw[z,hn]at g1;cases g1
    obtain⟨dI,sm3⟩:=s2.growL ea hS hn hl r g1 (by rw[<-g5];omega);refine⟨a,bs.map V.ref,.ref l,rfl,rfl,by rw[bQ neA];exact g1,by rw[ak,<-g5];omega,?_⟩;have:=h2 _ _ .non dI sm3 (by show bG X.K (q2.res l).c (aT (aT H2 l (.lst ws)) a (.lst ((bs++[l]).map V.ref))) .non .non;exact iD (v:=.non) rfl);rw[du]at this;exact this
   .exact h2.elim
  .exact h2.elim
def zJ(m:Int)(xs:BF):Option BF:=match fX xs.length m with
 |some j=>match xs[j]? with
  |some (.int v)=>some (xs.set j (.int (1-v)))
  |_=>none
 |none=>none
def tE(m:Int):List BF->Option (List BF)
 |[]=>some []
 |xs::r=>match zJ m xs,tE m r with
  |some y,some ys=>some (y::ys)
  |_,_=>none
theorem Zl{m:Int}:∀{xss yss:List BF},tE m xss=some yss->xss.length=yss.length/\∀(i:Nat)(xs:BF),xss[i]?=some xs->∃ys:BF,yss[i]?=some ys/\zJ m xs=some ys
 |[],yss,e=>by
  cases e;exact⟨rfl,λi xs h=>by simp at h⟩
 |xs::r,yss,e=>by
  unfold tE at e;split at e
  .rename_i y ys h1 h2
   cases e;obtain⟨l,g⟩:=Zl h2;refine⟨by simp_all,λi zs h=>?_⟩;cases i with
   |zero=>
    cases h;exact⟨y,rfl,h1⟩
   |succ i=>simpa using g i zs (by simpa using h)
  .cases e
open Classical in
def qN(ics ic im:Nat):MS:=λρ S=>match ρ[ics]?,ρ[im]? with
 |some (some (.ref k)),some (some (.pv (.int m)))=>match S[k]? with
  |some (.lol xss)=>if Sa k S/\ic<ρ.length then(match tE m xss with
   |some yss=>.nx (ρ.set ic none) (S.set k (.lol yss))
   |none=>.fail)else .fail
  |_=>.fail
 |_,_=>.fail
theorem aQ.inner(s:aQ K p S H){k i:Nat}{D b:Addr}{xss:List BF}{bs:List Addr}{ys:BF}{ws:List V}(h:p.f[k]?=some D)(hS:S[k]?=some (.lol xss))(pl:Sa k S)(hH:H D=some (.lst (bs.map V.ref)))(hb:bs[i]?=some b)(hl:ws.length<=sizeLine)(r:aP K p.c H ys ws):
  bK p H p (aT H b (.lst ws))/\aQ K p (S.set k (.lol (xss.set i ys))) (aT H b (.lst ws)):=by
 have hk:=(bn.mp hS).1;obtain⟨cs,g1,g2,g3,g4,g5,g6⟩:=s.obj k D _ h hS;rw[hH]at g1;have ec:=by
  have:=congrArg (λo=>match o with |some (HO.lst v)=>v |_=>[]) g1
  have:=this;exact o3 (λx y h=>by grind) |>.mp this
 subst ec;have wb:=g4 b (cq hb);have st:bK p H p (aT H b (.lst ws)):=⟨s.wc,s.mu,jm,λ_ h=>h,λ_ h=>h,λ_ h g=>absurd h g,λ_ h g=>absurd h g,(by grind),λa u e nw=>by
  rw[bQ (λz=>nw (by rw[z];exact wb.1))];exact e⟩
 refine⟨st,s.nd,by rw[ff];exact s.len,s.sub,s.wc,λa x=>?_,λj a o e1 e2=>?_⟩
 .by_cases z:a=b
  .rw[z,fP]
   exact⟨_,rfl,trivial⟩
  .rw[bQ z]
   exact s.mu a x
 .have ne:a≠b:=λz=>wb.2 (z▸cq e1)
  by_cases hj:k=j
  .subst hj
   rw[h]at e1;cases e1;rw[df hk]at e2;cases e2;refine⟨bs,by rw[bQ ne];exact hH,g2,g3,g4,by simp_all,λi' xs c e1 e2=>?_⟩
   by_cases hi:i=i'
   .subst hi
    rw[hb]at e2;cases e2;have hx:i<xss.length:=by
     rw[g5];exact(bn.mp hb).1
    rw[df hx]at e1;cases e1;exact⟨ws,fP,hl,st.reps r⟩
   .rw[dk hi]at e1
    obtain⟨vs,h1,h2,h3⟩:=g6 i' xs c e1 e2;exact⟨vs,by rw[bQ (λz:c=b=>hi (rQ g3 hb (z▸e2)))];exact h1,h2,st.reps h3⟩
  .rw[dk hj]at e2
   obtain⟨xs,rfl⟩:=pl j o e2 (gw hj);obtain⟨vs,e,l,g⟩:=s.obj j a _ e1 e2;exact⟨vs,by rw[bQ ne];exact e,l,st.reps g⟩
theorem aau{α:Type}{ys xs:List α}{i:Nat}{y:α}(l:xs.length=ys.length)(h:ys[i]?=some y):(ys.take i++xs.drop i).set i y=ys.take (i+1)++xs.drop (i+1):=by
 have hi:=(bn.mp h).1;have hx:i<xs.length:=by omega
 have e:ys[i]=y:=(bn.mp h).2;rw[xn hx,List.set_append,if_neg (by grind),kd,yf (ot hi),io,List.take_succ_eq_append_getElem hi,e,ee];rfl
theorem Vp{α:Type}{l:List α}{i:Nat}{a b:α}:(l.set i a).set i b=l.set i b:=by simp
theorem abm{ics ic im:Nat}{c cs mm:Str}{p1 p2 p3 p4 p5 p6 p7 p8 p9 apos:ai}{j:Nat}(hp:ow (model X.prog X.w) X.A X.env X.xe)(hc:X.calm=true)(hN:X.N.Nodup)(h1:X.N[ics]?=some cs)(h2:X.N[ic]?=some c)(h3:X.N[im]?=some mm)
  (v1:pM X.env.scope cs)(v2:lI X.env.scope c)(v3:pM X.env.scope mm)(ne1:ics≠ic)(ne2:im≠ic)
  (ha:∀v,assign (.Subscript (.Name c p3) (.Name mm p4) p5) X.env v=(do
   let ov <-holding [v] (eval (.Name c p3) X.env)
   let iv <-holding [v,ov] (eval (.Name mm p4) X.env)
   standAt p5
   holding [v,ov,iv] (setItem ov iv v)
   release [v,ov,iv] []):=by intro _;rfl)
  (hs:swapsWithSole [.Subscript (.Name c p3) (.Name mm p4) p5] (.BinOp (.Constant (.int 1) j p6) .Sub (.Subscript (.Name c p7) (.Name mm p8) p9) p2) apos.line X.env=pure false:=by rfl)(hw:swappedStores [.Subscript (.Name c p3) (.Name mm p4) p5] (.BinOp (.Constant (.int 1) j p6) .Sub (.Subscript (.Name c p7) (.Name mm p8) p9) p2) X.env=pure none:=by rfl)
  (ht:(assignEach [.Subscript (.Name c p3) (.Name mm p4) p5] X.env).map (·.2)=[assign (.Subscript (.Name c p3) (.Name mm p4) p5) X.env]:=by rfl)
  (hpl:xR (.Name mm p8):=by intro _ _;rfl)
  (d1:(cs==("__debug__":Str))=false:=by decide)(d2:(c==("__debug__":Str))=false:=by decide)(d3:(mm==("__debug__":Str))=false:=by decide)
  (k1:(cs==("__classdict__":Str))=false:=by decide)(k2:(c==("__classdict__":Str))=false:=by decide)(k3:(mm==("__classdict__":Str))=false:=by decide)
  (hf:X.fn c=true\/X.env.scope.names.lookup c=some .local:=by first |exact .inl rfl |exact .inr rfl |assumption)
  (hfs:∀x,foldedSetIterable (.Name cs p1) X.env x=pure x:=by intro _;rfl){cp:ai}:
  eC K cl E X (.For (.Name c cp) (.Name cs p1) [.Assign [.Subscript (.Name c p3) (.Name mm p4) p5] (.BinOp (.Constant (.int 1) j p6) .Sub (.Subscript (.Name c p7) (.Name mm p8) p9) p2) apos] [] pos) (qN ics ic im):=by
 intro hK;subst hK;have vc:pM X.env.scope c:=v2.elim .inl λz=>.inr (.inl z);refine PS.imp (Lw hp hc (Qv (qL h1 v1 d1 k1)) (Ws hN h2 v2 hf) (Xs (yM (Fx Ju yL (Wg Hw (qL h2 vc d2 k2) (qL h3 v3 d3 k3) hpl)) (Pf (qL h2 vc d2 k2) (qL h3 v3 d3 k3) Ip ha) hs hw ht)) hfs) ?_
 rintro D σ H ⟨p,S,ρ,s,ev,h⟩
 unfold qN at h;split at h
 .rename_i k m q1 q2
  split at h
  .rename_i xss hS
   split at h
   .rename_i plc
    obtain⟨pl,hic⟩:=plc;split at h
    .rename_i yss hy
     obtain⟨x,ex,rx⟩:=ev.at_ ics _ q1;obtain⟨a,ea,rfl⟩:=rx;obtain⟨ll,fl⟩:=Zl hy;have hk:k<S.length:=(bn.mp hS).1;obtain⟨bs0,b1,b2,b3,b4,b5,b6⟩:=s.obj k a _ ea hS;have plx:∀zss,Sa k (S.set k (.lol zss)):=λzss j o e n=>by
      rw[dk (gw n)]at e;exact pl j o e n
     refine⟨.ref a,ex,a,rfl,.inl ⟨⟨_,bO.of b1⟩,λi n σ1 H1=>n=xss.length-i/\i<=xss.length/\∃p1,bK p H p1 H1/\aQ X.K p1 (S.set k (.lol (yss.take i++xss.drop i))) H1/\dN X.K p1 H1 (ρ.set ic none) σ1,⟨_,rfl,iu _,p,s.step,?_,?_⟩,?_⟩⟩
     .have e0:S.set k (.lol xss)=S:=by
       obtain⟨g1,g2⟩:=bn.mp hS;rw[<-g2];exact o4 g1
      simpa[e0]using s
     .have:=ev.forget ic ((σ[ic]?).join)
      have e0:σ.set ic (σ[ic]?).join=σ:=by
       by_cases hi:ic<σ.length
       .rw[ay hi]
        exact o4 hi
       .exact List.set_eq_of_length_le (by omega)
      rwa[e0]at this
     .rintro i n σ1 H1 ⟨rfl,hi,p1,st1,sm1,ev1⟩
      have e1:=st1.at_ ea;have hS1:(S.set k (.lol (yss.take i++xss.drop i)))[k]?=some (.lol (yss.take i++xss.drop i)):=df hk;obtain⟨bs,c1,c2,c3,c4,c5,c6⟩:=sm1.obj k a _ e1 hS1;have lz:(yss.take i++xss.drop i).length=xss.length:=by
       rw[av,kd,vw];omega
      by_cases hlt:i<xss.length
      .have hib:i<bs.length:=by omega
       obtain⟨ys,ey,fy⟩:=fl i _ (ay hlt);have ez:(yss.take i++xss.drop i)[i]?=some xss[i]:=by
        rw[dq (by rw[kd];omega),kd,yf (by omega),io,List.getElem?_drop,yg];exact ay hlt
       obtain⟨vs,g1,g2,g3⟩:=c6 i _ _ ez (ay hib);unfold zJ at fy;split at fy
       .rename_i jj hj
        split at fy
        .rename_i v hv
         cases fy;obtain⟨u,eu,ru⟩:=g3.get hv;have:u=.int v:=by unfold bG at ru;exact ru
         subst this;obtain⟨xm,exm,rxm⟩:=ev1.at_ im (.pv (.int m)) (by rw[dk (gw ne2)];exact q2);have:xm=.int m:=by
          have rxm:bG X.K p1.c H1 (.int m) xm:=rxm;unfold bG at rxm;exact rxm
         subst this;refine .inr ⟨⟨_,.ref bs[i],bO.of c1,by rw[az,ay hib];rfl⟩,λσ' H'=>∃p2,bK p H p2 H'/\aQ X.K p2 (S.set k (.lol (yss.take (i+1)++xss.drop (i+1)))) H'/\dN X.K p2 H' (ρ.set ic none) σ',λσ' H' hn=>⟨xss.length-(i+1),by omega,rfl,hlt,hn⟩,λx H2 hy=>?_⟩;obtain⟨rfl,hy⟩:=hy;have ey2:=hy _ (bO.of c1);rw[az,ay hib]at ey2;cases ey2;have hic1:ic<σ1.length:=by
          rw[<-ev1.len,ff];exact hic
         have sc:(σ1.set ic (some (V.ref bs[i])))[ic]?=some (some (.ref bs[i])):=df hic1;have sm':(σ1.set ic (some (V.ref bs[i])))[im]?=some (some (.int m)):=by rw[dk (gw ne2)];exact exm
         have hj':fX vs.length m=some jj:=by rw[<-g3.length];exact hj
         have ha1:fY vs m=some (.int v):=by unfold fY;rw[hj'];exact eu
         obtain⟨st2,sm2⟩:=sm1.inner (ys:=xss[i].set jj (.int (1-v))) (ws:=vs.set jj (.int (1-v))) e1 hS1 (plx _) c1 (ay hib) (by rw[ff];exact g2) (aP.set (iD (v:=.int (1-v)) rfl) jj g3);rw[Vp,aau ll ey]at sm2;have ev2:=(st2.repE ev1).forget ic (some (V.ref bs[i]));rw[Vp]at ev2;exact⟨_,sc,_,sm',.inl ⟨_,_,_,_,rfl,rfl,bO.of g1,ha1,1,v,rfl,rfl,_,sc,_,sm',_,_,_,_,rfl,rfl,g1,hj',p1,st1.trans st2,sm2,ev2⟩⟩
        .cases fy
       .cases fy
      .have e:i=xss.length:=by omega
       subst e;refine .inl ⟨⟨_,bO.of c1,by rw[ak];omega⟩,?_⟩;rw[xo,fk,ll,xw]at sm1;exact h p1 H1 σ1 st1 sm1 ev1
    .exact h.elim
   .exact h.elim
  .exact h.elim
 .exact h.elim
open Classical in
def yK(n:Nat):cE->bH AV
 |.rt (.ref k) S=>match S[k]? with
  |some (.lol xss)=>if ¬k<n/\Pl (S.take n)then .ok (.pv (.lst (xss.map .lst))) (S.take n)else .fail
  |_=>.fail
 |_=>.fail
open Classical in
def rD(np n:Nat)(b:MS)(xs:BI)(S:aJ):bH AV:=if xs.length=np/\Pl S then yK S.length (b (gJ n xs) S)else .fail
def Ph.only(p:Ph):Ph:=⟨p.f,λa=>a∈p.f,p.c⟩
theorem aQ.only(s:aQ K p S H)(pl:Pl S):aQ K p.only S H:=
 ⟨s.nd,s.len,λ_ h=>h,λa h=>s.wc a (s.sub a h),s.mu,λk a o e1 e2=>by
  obtain⟨xs,rfl⟩:=pl k o e2;exact s.obj k a _ e1 e2⟩
theorem K9   (h:iF K p H as vs):iF K p.only H as vs:=by
 induction h with
 |nil=>exact .nil
 |cons h _ ih=>
  refine .cons ?_ ih;rename_i v x _ _ _;cases v with
  |pv v=>exact h
  |ref k=>exact h
theorem F4{r:cE}{Q:VK}{E:XK}(s:aQ K p S H)(pl:Pl S)(h:bU K cl (dC K) p H (yK S.length r) Q E):eK K cl p.only H r {nx:=λ_ H'=>Q .non H',rt:=Q} E:=by
 cases r with
 |rt v S1=>
  cases v with
  |pv v=>exact h.elim
  |ref k=>
   unfold yK at h;dsimp only at h;split at h
   .rename_i xss hS
    split at h
    .rename_i hc
     obtain⟨hk,plt⟩:=hc
     rintro q H' x st sm ⟨a,e,rfl⟩
     have s1:=s.only pl;obtain⟨na,hn,nc⟩:=Jc s1 st sm e hk;obtain⟨bs,g1,g2,g3,g4,g5,g6⟩:=sm.obj k a _ e hS;have fresh:=λb hb=>st.nw b (g4 b hb).1 λm=>(g4 b hb).2 (st.pre.subset m);obtain⟨st1,sm1⟩:=s1.cutX (λb=>b=a\/b∈bs) st sm (λb d=>d.elim (λz=>z▸hn) (fresh b)) (.inr λj o e hj=>plt j o (by rw[tf,if_pos hj];exact e));refine h ⟨p.f,λb=>(q.w b/\¬(b=a\/b∈bs))\/p.w b,λb=>q.c b/\¬(b=a\/b∈bs)⟩ H' (.ref a) ⟨s.wc,s.mu,jm,λb h=>.inr h,st1.mono,λ_ h g=>absurd h g,λb h n=>?_,st1.nc,λb o e n=>st1.keep b o e λz=>n (s.sub b z)⟩
      ⟨s.nd,sm1.len,λb h=>.inr (s.sub b h),λb h=>h.elim (sm1.wc b) λz=>st1.mono b (s.wc b z),sm1.mu,λj b o e1 e2=>(sm1.obj j b o e1 e2).mono (λ_ e=>e) (λc w f=>⟨⟨.inl w,f⟩,λ_ e=>e⟩) λ_ _ r=>r⟩ ?_
     .rcases h with h |h
      .exact st1.nw b h λz=>n (s.sub b z)
      .exact absurd h n
     .refine⟨a,bs.map V.ref,rfl,.inl ⟨g1,λd=>d.2 (.inl rfl)⟩,by rw[ak];exact g2,?_⟩
      have go:∀(yss:List BF)(cs:List Addr),yss.length=cs.length->(∀c∈cs,c∈bs)->(∀(i:Nat)(xs:BF)(b:Addr),yss[i]?=some xs->cs[i]?=some b->∃vs,H' b=some (.lst vs)/\vs.length<=sizeLine/\aP K q.c H' xs vs)->aP K (λb=>q.c b/\¬(b=a\/b∈bs)) H' (yss.map .lst) (cs.map V.ref):=by
       intro yss
       induction yss with
       |nil=>
        intro cs l _ _;have:cs=[]:=yh.mp l.symm;subst this;exact .nil
       |cons ys r ih=>
        intro cs l hm hh;cases cs with
        |nil=>cases l
        |cons c t=>
         obtain⟨vs,k1,k2,k3⟩:=hh 0 ys c rfl rfl;refine .cons ?_ (ih t (by simpa using l) (λc h=>hm c (bd _ h)) λi xs b e1 e2=>hh (i+1) xs b (by simpa using e1) (by simpa using e2));unfold bG;exact⟨c,vs,rfl,.inl ⟨k1,λd=>d.2 (.inr (hm c bo))⟩,k2,rL (λb h=>h.1) k3⟩
      exact go xss bs g5 (λ_ h=>h) g6
    .exact h.elim
   .exact h.elim
 |nx ρ S1=>exact h.elim
 |exc n S1=>exact h.elim
 |bk ρ S1=>exact h.elim
 |ct ρ S1=>exact h.elim
 |fail=>exact h.elim
end
section
variable{P:Program}{w:am}{K:ae}{mg:Str->BC}{base:Heap}{cl:Str->Addr}
theorem ab3       (h:lE K cl (rD np n b) vs H Q E):vs.length=np:=by
 obtain⟨p,S,xs,sm,ra,h⟩:=h;unfold rD at h;split at h
 .rename_i e
  rw[<-Nm ra,e.1]
 .exact h.elim
theorem okL  {st:Stmt}{f:Addr}{fd:ca}{N ps:List Str}{k np n:Nat}{b:MS}(F:jI K x qual st f fd)(S:iV N ps (bY st))(hnp:ps.length=np)(hn:N.length=n)
  (hb:∀(cdv:Value)(A:aq)(outer:List bi)(s:aa)(H:Hp)(E:XK),dH k (A.deeper (envOfC qual (bY st) s.heap.objs.size f cdv))->gB K cl E0 (fD fL P w K mg base N qual (bY st) f cdv A outer s H E).nox (eF st) b):
  eI P w K mg base fL (k+1) f fd ps (lC K cl (rD np n b)):=by
 subst hnp hn;refine F.ok S (λvs H Q E h=>ab3 h) λcdv A outer s H vs Q E hr h=>⟨_,hb _ A _ s H E hr rfl,?_⟩;obtain⟨p,S,xs,sm,ra,h⟩:=h;unfold rD at h;split at h
 .rename_i e
  exact⟨p.only,S,_,sm.only e.2,wO (K9 ra),F4 sm e.2 h⟩
 .exact h.elim
end
end
def zH(v:AV)(S:aJ):bH Bool:=match rd S v with
 |some (.lst xs)=>.ok (!xs.isEmpty) S
 |some (.tup xs)=>.ok (!xs.isEmpty) S
 |some (.int i)=>.ok (i !=0) S
 |some (.bl b)=>.ok b S
 |_=>.fail
def vZ(m:ME):MT:=λρ S=>(m ρ S).bind zH
theorem Fk{K:ae}{c:Addr->Prop}{H:Hp}{xs:BF}{vs:List V}(r:aP K c H xs vs):vs.isEmpty=xs.isEmpty:=by
 have:=r.length;cases xs<;>cases vs<;>simp_all
theorem acD{K:ae}{cl:Str->Addr}{E:XK}{X:Cx}{a:ah}{ma:ME}(ha:aN K cl E X a ma)(he:∀whole,isTrue a X.env whole=(do let v <-whole;standAt a.pos;holding [v] (truthy v)):=by intro _;rfl):fO K cl E X a (vZ ma):=by
 intro hK;subst hK;refine(X5 (ha rfl) he).imp ?_
 rintro σ H Q ⟨p,S,ρ,s,e,h⟩
 refine bW s e h λq H1 a x S1 st s1 e1 r1 h1=>?_;unfold zH at h1;cases z:rd S1 a with
 |none=>rw[z]at h1;exact h1.elim
 |some v=>
  rw[z]at h1;have rr:=qJ s1 r1 z;cases v with
  |lst xs=>
   obtain⟨b,vs,rfl,l,_,r⟩:=rr.lst;exact⟨_,.inl ⟨vs,l,by rw[Fk r]⟩,bU.ret  h1 s1 rfl⟩
  |tup xs=>
   obtain⟨b,vs,rfl,l,_,r⟩:=rr.tup;exact⟨_,.inr (.inl ⟨vs,l,by rw[Fk r]⟩),bU.ret  h1 s1 rfl⟩
  |int i=>
   cases rr.int;exact⟨_,rfl,bU.ret  h1 s1 rfl⟩
  |bl i=>
   cases rr.bl;exact⟨_,rfl,bU.ret  h1 s1 rfl⟩
  |_=>exact h1.elim
def Ea(P:Program)(w:am)(K:ae)(mg:Str->BC)(base:Heap)(cl:Str->Addr)(x:Str)(k:Nat)(ps:List Str)(g:FM):Prop:=∃(a:Addr)(d:ca),eI P w K mg base fL k a d ps (lC K cl g)/\kC K d ps []/\fm K (.ref a)=true/\mg x=some (.ref a)
section
variable{cl:Str->Addr}{E:XK}{X:Cx}{e:ah}{es:List ah}{ms:MA}{pos p:ai}{k k0:Nat}{ps:List Str}{g:FM}{x:Str}
theorem aeG(C:Ea X.prog X.w X.K X.mg X.base cl x k ps g)(hr:dH k0 X.A)(hk:k<=k0)(hg:Gl X x)(ha:eQ X.K cl E X (e::es) ms)(hdb:(x==("__debug__":Str))=false:=by decide)(he:starEach (e::es) X.env=(false,eval e X.env)::starEach es X.env:=by rfl)(hpl:(backTo pos (starEach es X.env)).any (·.1)=false:=by rfl):
  aN X.K cl E X (.Call (.Name x p) (e::es) [] pos) (aH g [] ms):=by
 obtain⟨a,d,G,b,kk,n⟩:=C;exact W7 G (hr.mono hk) hg n kk b .nil Dv.nil ha hdb he hpl
theorem afz(C:Ea X.prog X.w X.K X.mg X.base cl x k ps g)(hr:dH k0 X.A)(hk:k<=k0)(hg:Gl X x)(ha:eQ X.K cl E X (e::es) ms)(hdb:(x==("__debug__":Str))=false:=by decide)(he:starEach (e::es) X.env=(false,eval e X.env)::starEach es X.env:=by rfl)(hpl:(backTo pos (starEach es X.env)).any (·.1)=false:=by rfl):
  aN X.K cl E X (.Call (.Name x p) (e::es) [] pos) (qE g [] ms):=by
 obtain⟨a,d,G,b,kk,n⟩:=C;exact aaj G (hr.mono hk) hg n kk b .nil Dv.nil ha hdb he hpl
end
theorem J6(l:Addr)(its:Array Value)(n:Nat)(b:Addr)(jts:Array Value)(k:Nat)(dd:BD)(sl:Array BC)(h0:¬(!its.isEmpty&&pf (its.size+jts.size))=true)(h1:its.size<=sizeLine)(h2:its.size+jts.size<=sizeLine+1):
  Meets (Builtin.«list.__iadd__» ⟨[.ref l,.ref b],[]⟩) (λ_ R s=>s.heap.get? l=some ⟨.type "list",none,.seq its n,#[]⟩/\s.heap.get? b=some ⟨.type "list",dd,.seq jts k,sl⟩/\R (.ok (.ret (fe l))) {s with heap:=s.heap.update l (ju λx=>x++jts),toks:=s.toks}):=
 .of_wp λprog w A R s h=>by
  obtain⟨hp,g,d,tk,os⟩:=s;obtain⟨hl,hb,h⟩:=h;have f1:=PySem.AutoSeq1.idx_int;have f2:=PySem.AutoSeq1.sub_tuple_tuple;have f3:=PySem.AutoSeq1.sub_list_list;have f4:=PySem.AutoSeq1.sub_tuple_list;have f5:=PySem.AutoSeq1.sub_list_tuple;have hz':(its++jts).size<=sizeLine+1:=by
   rw[Array.size_append];exact h2
  wp_walk using(wpAny_updateSeq hl rfl (hz:=h1) (_hz':=hz')),yi hl,yi hb
  exact⟨_,rfl,h⟩
section
variable{X:Cx}
def ae5(K:ae):Ja:=λx y H Q=>∃l b xs zs,x=.ref l/\y=.ref b/\H l=some (.lst xs)/\bO K H b zs/\xs.length+zs.length<=sizeLine/\Q (.ref l) (aT H l (.lst (xs++zs)))
theorem adS:L2.PIp X .Add (ae5 X.K):=by
 intro BJ s σ H x y v u Q I rx ry h;obtain⟨l,b,xs,zs,rfl,rfl,hx,hy,hz,q⟩:=h;cases rx;cases ry;obtain⟨z,its,n,r1,hl,e⟩:=I.lstM hx;obtain⟨jts,r2,p2,_⟩:=I.list hy;obtain⟨⟨cls2,dd2,data2,sl2⟩,n2,ho2,hc2,_,hd2⟩:=p2;simp only at hc2 hd2;subst hc2 hd2;have l1:=r1.length;have l2:=r2.length;have hsz:its.toArray.size+jts.toArray.size<=sizeLine:=by rw[bf,bf];omega
 have hlong:¬(!its.toArray.isEmpty&&pf (its.toArray.size+jts.toArray.size))=true:=by
  rw[Fp hsz,Bool.and_false];exact nu
 have ta:s.TypeIs (.ref l) "list":=⟨_,e,rfl⟩;have tb:s.TypeIs (.ref b) "list":=⟨_,ho2,rfl⟩;have hf:=o5.lookup;have hq:isSeqSlot (some (.builtin "list.__iadd__"))=true:=by decide+kernel
 have hfi:fillsInplaceSlot (.type "list") "add" (Operator.Add== .Add)=pure false:=by
  unfold fillsInplaceSlot;show(typeLookup (.type "list") (dunderI "add") >>= λfi=>pure (fi.isSome&& !isSeqSlot fi))=pure false;rw[hf,pure_bind,hq];rfl
 have hsi:seqSlot? (.type "list") (dunderI "add")=pure (some (.builtin "list.__iadd__")):=PySem.seqSlot_of hf hq;unfold inplaceOp;refine jz ?_;refine ag (wpAny_typeOf ta (ag (sf hfi ?_)));show wpAny _ _ (if false=true then _ else _) _ _ s;rw[if_neg nu];refine ag (wpAny_binaryOp1_none (nm:="add") ta tb noFill_list_add ?_);refine ag (sf hsi ?_);refine ag (ou ?_);refine mn o5 ⟨_,e,rfl⟩ PySem.F.entry_list_iadd (PySem.F.args_list_iadd_2 _ _) (J6 l its.toArray n b jts.toArray n2 dd2 sl2 hlong (by rw[bf];omega) (by omega)) ⟨e,ho2,?_⟩;refine⟨.ref l,_,I.lset (its':=its++jts) hx e (by simp) (r1.append r2) ?_,rfl,q⟩;rw[av];omega
end
section
variable{K:ae}{cl:Str->Addr}{E:XK}{X:Cx}{e:ah}{m:ME}{pos:ai}
def zR(k:Nat)(ρ:cN)(v:AV)(S:aJ):cE:=match v with
 |.pv (.lst ys)=>match S[k]? with
  |some (.lst xs)=>if xs.length+ys.length<=16777216 then .nx ρ (S.set k (.lst (xs++ys)))else .fail
  |_=>.fail
 |_=>.fail
def nR(i:Nat)(m:ME):MS:=λρ S=>match ρ[i]? with
 |some (some (.ref k))=>cE.of (m ρ S) (zR k ρ)
 |_=>.fail
theorem U6{i:Nat}{x:Str}{pos':ai}(hN:X.N.Nodup)(hi:X.N[i]?=some x)(hx:lI X.env.scope x)(he:aN K cl E X e m)
  (hf:X.fn x=true\/X.env.scope.names.lookup x=some .local:=by first |exact .inl rfl |exact .inr rfl |assumption):eC K cl E X (.AugAssign (.Name x pos') .Add e pos) (nR i m):=by
 intro hK;subst hK;refine PS.imp (adn hN hi hx (he rfl) adS hf) ?_
 rintro D σ H ⟨p,S,ρ,s,ev,h⟩
 unfold nR at h;split at h
 .rename_i k hx0
  obtain⟨v,e1,r1⟩:=ev.at_ i _ hx0;refine⟨v,e1,iW s ev h λq H' a b S' cO sm ev' r z=>?_⟩;obtain⟨D0,ea,rfl⟩:=cO.repA r1;unfold zR at z;split at z
  .rename_i ys
   obtain⟨b0,ws,rfl,sq,lw,rw0⟩:=(show eM X.K q H' (.lst ys) b from .inl r).lst;split at z
   .rename_i xs hS
    split at z
    .rename_i hl
     obtain⟨vs,h3,l3,r4⟩:=sm.obj k D0 _ ea hS;have hz:=kS;have n1:=r4.length;have n2:=rw0.length;obtain⟨dI,sm3⟩:=sm.write ea (bn.mp hS).1 (ps:=xs++ys) (vs:=vs++ws) (by rw[av];omega) (r4.append rw0);refine⟨D0,b0,vs,ws,rfl,rfl,h3,sq,by omega,?_⟩;have es:σ.set i (some (.ref D0))=σ:=by
      refine jn λj=>?_
      by_cases hj:i=j
      .subst hj
       rw[df (bn.mp e1).1,e1]
      .rw[dk hj]
     show D.nx (σ.set i (some (.ref D0))) _;rw[es];exact eK.nxD (z.mono dI) sm3 (dI.repE ev')
    .exact z.elim
   .exact z.elim
  .exact z.elim
 .exact h.elim
end
section
theorem yB:∀{is:AY}{its:BB},aW (is.map V.int) its->kw its is
 |[],_,.nil=>.nil
 |_::_,_,.cons r t=>by
  obtain⟨tk,rfl⟩:=r;exact .cons _ tk (yB t)
end
section
variable{K:ae}{X:Cx}
def Bv(K:ae):R2:=λx y H Q=>∃a b ys,x=.ref a/\y=.ref b/\cG K H a []/\cG K H b ys/\Q (.ref b) H
theorem aaE:dM X (binaryOp .Add) (Bv X.K):=by
 intro BJ s σ H x y v u Q I rx ry h;obtain⟨a,b,ys,rfl,rfl,ha,hb,q⟩:=h;cases rx;cases ry;obtain⟨its,r1,p1,_⟩:=I.tuple ha;obtain⟨jts,r2,p2,_⟩:=I.tuple hb;cases r1;obtain⟨⟨cls,dd,data,sl⟩,ho,hc,n,hd⟩:=p1;obtain⟨⟨cls2,dd2,data2,sl2⟩,ho2,hc2,n2,hd2⟩:=p2;simp only at hc hd hc2 hd2;subst hc hd hc2 hd2;exact qr ⟨_,ho,rfl⟩ ⟨_,ho2,rfl⟩ vj vk vm vn (vo _ _)
  (tuple_addW0 a b _ _ n n2 dd _ sl _ (by simp)) ⟨ho,ho2,⟨.ref b,H,I,rfl,q⟩⟩
def lU:PV->PV->BG
 |.tup xs,.tup ys=>if xs.length+ys.length<=16777216 then some (.tup (xs++ys))else none
 |_,_=>none
def Dy(K:ae):R2:=λx y H Q=>Bv K x y H Q\/Pg K x y H Q
theorem acw:dM X (binaryOp .Add) (Dy X.K):=dM.or aaE Qr
theorem eM.tupR     (h:eM K p H (.tup xs) x):bG K p.c H (.tup xs) x:=by
 rcases h with h |⟨ys,a,vs,e,_⟩
 .exact h
 .cases e
theorem adu:fW K (Dy K) lU:=λ{p S H a b c x y Q} s ra rb e k=>by
 cases a with
 |tup xs=>
  cases b with
  |tup ys=>
   have e:(if xs.length+ys.length<=16777216 then some (PV.tup (xs++ys))else none)=some c:=e;split at e
   .rename_i hl
    cases e;have ra':=ra.tupR;have rb':=rb.tupR;obtain⟨a1,vs,rfl,l1,z1,r1⟩:=ra.tup;obtain⟨a2,ws,rfl,l2,z2,r2⟩:=rb.tup;have hz:vs.length+ws.length<=sizeLine:=by rw[<-r1.length,<-r2.length];exact hl
    cases xs with
    |nil=>
     have hv:vs=[]:=o6 (by rw[<-r1.length];rfl);subst hv;exact .inl ⟨a1,a2,ws,rfl,rfl,l1,l2,k H _ (cZ.refl H) rb'⟩
    |cons x0 xs=>
     refine .inr ⟨a1,a2,vs,ws,rfl,rfl,l1,l2,λq=>?_,hz,λq=>?_,λ_ t ht=>k _ _ (iB ht) (qD s (r1.append r2) (by rw[av];exact hz) ht)⟩
     .have:=r1.length
      rw[q]at this;cases this
     .have hy:ys=[]:=by
       have:=r2.length;rw[q]at this;exact o6 this
      subst hy;have e0:x0::xs++[]=x0::xs:=fk _;refine k H _ (cZ.refl H) ?_;rw[e0];exact ra'
   .cases e
  |_=>cases e
 |_=>cases e
def lD(i:Int):AY->Option Nat
 |[]=>none
 |x::r=>if x=i then some 0 else(lD i r).map (·+1)
theorem Dm{i:Int}:∀{vs:BB}{ns:AY}{j:Nat},kw vs ns->lD i ns=some j->∃hj:j<vs.length,isInt i vs[j]=true/\∀m(hm:m<vs.length),m<j->isInt i vs[m]=false
 |_,_,j,.nil,h=>by cases h
 |_,_,j,.cons x t r,h=>by
  unfold lD at h;split at h
  .rename_i e
   cases h;refine⟨Nat.zero_lt_succ _,?_,λm _ hlt=>absurd hlt (Nat.not_lt_zero _)⟩;show decide (x=i)=true;rw[e];simp
  .rename_i e
   cases y:lD i _ with
   |none=>rw[y]at h;cases h
   |some z=>
    rw[y]at h;cases h;obtain⟨a,b,c⟩:=Dm r y;refine⟨Nat.succ_lt_succ a,b,λm hm hlt=>?_⟩;cases m with
    |zero=>
     show decide (x=i)=false;simpa using e
    |succ m=>exact c m (o7 hm) (o7 hlt)
end
theorem n1{n i:Nat}{P:Prop}(h:i<n)(p:P):∃m',m'<n-i/\(m'=n-(i+1)/\i+1<=n/\P):=⟨n-(i+1),by omega,rfl,h,p⟩
end L2.Pp
namespace L2
open PySem PySem.Spec PyProof.Rows Bn
open L2.Pp
section
variable{X:Cx}{BJ:List (Addr×Obj)}{σ:St}{H:Hp}{s:aa}{c:Addr->Prop}{a b:Addr}{n:Bool}{k:gL n}{ks:BF}{us:BB}
theorem Im:∀{l:AY}{vs:List V},aP X.K c H (l.map PV.int) vs->vs=l.map V.int
 |[],vs,h=>h
 |i::l,vs,h=>by
  obtain⟨v,r,rfl,h1,h2⟩:=h;rw[h1,Im h2];rfl
theorem Us(I:aI X BJ σ H s){l:AY}(r:bG X.K c H (.tup (l.map PV.int)) (.ref b)):gZ s.heap l b:=by
 obtain⟨a,vs,e,sq,_,r⟩:=r;cases e;obtain⟨its,rv,⟨o,ho,hc,m,hd⟩,_⟩:=I.tuple sq;rw[Im r]at rv;exact⟨o,its.toArray,m,ho,hc,hd,by simp_all ⟩
theorem Kk(I:aI X BJ σ H s):∀{l:AZ}{vs:List V}{its:BB},aP X.K c H (l.map λr:AY=>PV.tup (r.map PV.int)) vs->aW vs its->ib (λk v=>∃b,v=fe b/\gZ s.heap k b) l its
 |[],vs,its,h,rv=>by
  subst h;cases rv;exact .nil
 |i::l,vs,its,h,rv=>by
  obtain⟨v,r,rfl,h1,h2⟩:=h;cases rv with
  |cons e t=>
   have h1':=h1;obtain⟨a,ws,rfl,_⟩:=h1';cases e;exact .cons ⟨_,rfl,Us I h1⟩ (Kk I h2 t)
theorem Gg(I:aI X BJ σ H s):∀{n:Bool}{k:gL n}{b:Addr},bG X.K c H (eG n k) (.ref b)->(nO X.prog X.w n).is s.heap k b
 |false,k,b,r=>gZ.key (Us I r)
 |true,k,b,r=>by
  obtain⟨a,vs,e,sq,_,r⟩:=r;cases e;obtain⟨its,rv,⟨o,ho,hc,m,hd⟩,_⟩:=I.tuple sq;exact⟨o,its.toArray,m,ho,hc,hd,by simpa using Kk I r rv⟩
theorem Ld:∀{l m:AY},l.map PV.int=m.map PV.int->l=m
 |[],[],_=>rfl
 |[],_::_,h=>by cases h
 |_::_,[],h=>by cases h
 |i::l,j::m,h=>by
  injection h with h1 h2;injection h1 with h1;rw[h1,Ld h2]
theorem sC:∀{n:Bool}{k k':gL n},eG n k=eG n k'->k=k'
 |false,k,k',h=>by
  injection h with h;exact Ld h
 |true,k,k',h=>by
  injection h with h;have go:∀{l m:List (List _)},l.map (λr=>PV.tup (r.map PV.int))=m.map (λr=>PV.tup (r.map PV.int))->l=m:=by
   intro l
   induction l with
   |nil=>
    simp_all
   |cons x l ih=>
    intro m h;cases m with
    |nil=>cases h
    |cons y m=>
     injection h with h1 h2;injection h1 with h1;rw[Ld h1,ih h2]
  exact go h
theorem yD:∀{ps:BF}{vs:List V}{i:Nat}{v:V},aP X.K c H ps vs->vs[i]?=some v->∃p,ps[i]?=some p/\bG X.K c H p v:=λ{ps vs i v} r e=>by
 have hi:i<ps.length:=by
  rw[r.length];exact(bn.mp e).1
 obtain⟨u,e1,e2⟩:=r.get (ay hi)
 simp_all
theorem Tg   (I:aI X BJ σ H s)(h:H a=some (dO a es ep)):s.heap.get? a=some (oD es ep):=(I.hok a _ h).1
theorem Y8  :(oD es ep).ExactDict:=⟨rfl,rfl,rfl⟩
theorem Mv(I:aI X BJ σ H s){xs:List (gL n×Addr×Value)}{ep:Nat}(h:H a=some (dO a (xs.map (mI n)).toArray ep))(nd:(xs.map (·.1)).Nodup)(r:aP X.K c H (xs.map λx=>eG n x.1) (xs.map λx=>V.ref x.2.1)):
  s.heap.DictOfH (nO X.prog X.w n) a xs:=by
 refine⟨_,_,ep,Tg I h,Y8,rfl,?_,λx hx=>?_,nd⟩
 .have:mI n=entryOfKey (nO X.prog X.w n):=by
   funext x
   unfold mI entryOfKey;rw[Ek]
  simp_all
 .obtain⟨i,hi,e⟩:=pr.mp hx
  obtain⟨p,e1,e2⟩:=yD   r (by rw[az,ay hi,e];rfl);rw[az,ay hi,e]at e1;cases e1;exact Gg I e2
theorem Op  (nd:(xs.map (·.1)).Nodup):
  (∃(i:Nat)(p:Addr×Value),xs[i]?=some (k,p)/\atKey xs k=some p)\/((∀i:Nat,(xs.map λx=>eG n x.1)[i]?≠some (eG n k))/\atKey xs k=none):=by
 by_cases h:∃(i:Nat)(p:Addr×Value),xs[i]?=some (k,p)
 .obtain⟨i,p,h⟩:=h
  exact .inl ⟨i,p,h,atKey_of_get nd h⟩
 .refine .inr ⟨λi e=>?_,atKey_none_of_get λj p e=>h ⟨j,p,e⟩⟩
  rw[az]at e;cases z:xs[i]? with
  |none=>simp_all
  |some x=>
   rw[z]at e;have e:=cx e;exact h ⟨i,x.2,by rw[z,<-sC e]⟩
def qZ(K:ae)(H:Hp)(a b:Addr)(vs:List V)(Q:V->Prop)(N:Prop):Prop:=
 ∃(c:Addr->Prop)(n:Bool)(k:gL n)(ks:BF)(us:BB),pH K c H a n ks us/\aW vs us/\bG K c H (eG n k) (.ref b)/\(∀(i:Nat)(v:V),ks[i]?=some (eG n k)->vs[i]?=some v->Q v)/\((∀i:Nat,ks[i]?≠some (eG n k))->N)
theorem Es(I:aI X BJ σ H s){vs:List V}{Q:V->Prop}{N:Prop}(g:qZ X.K H a b vs Q N):∃(n:Bool)(k:gL n)(xs:List (gL n×Addr×Value)),(a==sysModules)=false/\s.heap.DictOfH (nO X.prog X.w n) a xs/\(nO X.prog X.w n).is s.heap k b/\
  ((∃p v,atKey xs k=some p/\bJ v p.2/\Q v)\/(atKey xs k=none/\N)):=by
 obtain⟨c,n,k,ks,us,⟨xs,ep,e,z,l,nd,rfl,r,rfl⟩,rv,rk,q1,q2⟩:=g;refine⟨n,k,xs,z,Mv I e nd r,Gg I rk,?_⟩;rcases Op  nd with⟨i,p,hx,ha⟩|⟨hn,ha⟩
 .have hi:=(bn.mp hx).1
  have hv:i<vs.length:=by
   rw[rv.length,ak];exact hi
  obtain⟨u,e1,e2⟩:=rv.get (ay _);rw[az,hx]at e1;cases e1;exact .inl ⟨p,_,ha,e2,q1 i _ (by rw[az,hx];rfl) (ay hv)⟩
 .exact .inr ⟨ha,q2 hn⟩
def aec(K:ae):V->List V->Hp->VK->Prop:=λx xs H Q=>∃a b z vs,x=.ref a/\xs=[.ref b,z]/\qZ K H a b vs (λv=>Q v H) (Q z H)
theorem U8(hu:X.A.units+2<cLine):wD X "dict.get" (aec X.K):=by
 intro BJ s σ H x xs v us Q I rx rv h;obtain⟨a,b,z,vs,rfl,rfl,g⟩:=h;cases rx;obtain⟨u1,u2,rfl,r1,r2⟩:=rv.two;cases r1;obtain⟨n,k,xs,hd,dd,hk,o⟩:=Es I g;refine call_meetsIn o8 dd.typeIs PySem.F.entry_dict_get (PySem.F.args_dict_get_3 _ _ _) (meetsH_dict_get_default _ a b hd u2) ⟨Ec hu n,k,xs,hk,dd,?_⟩;rcases o with⟨p,v,e,rv,q⟩|⟨e,q⟩
 .rw[e]
  exact⟨v,H,I.tok _,rv,q⟩
 .rw[e]
  exact⟨z,H,I.tok _,r2,q⟩
def agn(K:ae):R2:=λx y H Q=>∃a b vs,x=.ref a/\y=.ref b/\qZ K H a b vs (λv=>Q v H) False
theorem abG(hu:X.A.units+2<cLine):mM X (agn X.K):=by
 intro value slice BJ s σ H x y v u Q I rx ry h hs;obtain⟨a,b,vs,rfl,rfl,g⟩:=h;cases rx;cases ry;obtain⟨n,k,xs,hd,dd,hk,o⟩:=Es I g;rcases o with⟨p,v,e,rv,q⟩|⟨e,q⟩
 .refine ag ?_
  refine ag (wpAny_specialOf dd.typeIs PySem.F.slot_dict_getitem.lookup ?_);have fin:wpAny (model X.prog X.w) X.A (subscripted slice false (.ref a) (.ref b)) (λr s₃=>wpAny (model X.prog X.w) X.A (letTemporaryGo value (.ref a) r >>= λ_=>pure r) (EP X BJ σ Q) X.xe s₃) X.xe s:=by
   rw[hs];exact wpAny_operating (wpAny_getItem_heap (Ec hu n) hk dd e (ag (wpAny_letTemporaryGo (au ⟨v,H,I.tok _,rv,q⟩))))
  first
   |exact au (ag fin)
   |grind
   |grind
 .exact q.elim
def qW(H:Hp)(a:Addr)(n:Bool)(ks:BF)(rs:List V)(us:BB):Prop:=
 ∃(xs:List (gL n×Addr×Value))(ep:Nat),H a=some (dO a (xs.map (mI n)).toArray ep)/\(a==sysModules)=false/\xs.length<=sizeLine/\(xs.map (·.1)).Nodup/\ks=xs.map (λx=>eG n x.1)/\rs=xs.map (λx=>V.ref x.2.1)/\us=xs.map (·.2.2)
theorem Su{K:ae}(d:pH K c H a n ks us):∃rs,qW H a n ks rs us/\aP K c H ks rs:=by
 obtain⟨xs,ep,e,z,l,nd,ek,r,eu⟩:=d;exact⟨_,⟨xs,ep,e,z,l,nd,ek,rfl,eu⟩,r⟩
theorem qW.at_{K:ae}{rs:List V}(d:qW H a n ks rs us)(r:aP K c H ks rs):pH K c H a n ks us:=by
 obtain⟨xs,ep,e,z,l,nd,ek,er,eu⟩:=d;subst er;exact⟨xs,ep,e,z,l,nd,ek,r,eu⟩
def DPt(H:Hp)(a:Addr)(n:Bool)(ks:BF)(rs:List V)(us:BB)(k:gL n)(b:Addr)(u:Value)(H':Hp):Prop:=
 ∃es ep,H'=aT H a (dO a es ep)/\((∃i:Nat,ks[i]?=some (eG n k)/\qW H' a n ks rs (us.set i u))\/((∀i:Nat,ks[i]?≠some (eG n k))/\qW H' a n (ks++[eG n k]) (rs++[.ref b]) (us++[u])))
theorem aaQ{xs:List (gL n×Addr×Value)}{i:Nat}{p:Addr×Value}{u:Value}(nd:(xs.map (·.1)).Nodup)(hx:xs[i]?=some (k,p)):(xs.map (putAt k u)).map (·.2.2)=(xs.map (·.2.2)).set i u:=by
 refine jn λj=>?_;have hi:=(bn.mp hx).1;rw[tw,ak,az,az,az]
 by_cases h:i=j
 .subst h
  rw[if_pos hi,hx];simp[putAt]
 .rw[if_neg h]
  cases z:xs[j]? with
  |none=>rfl
  |some x=>
   have:x.1≠k:=λe=>h (yj nd   hx (by rw[z,<-e]));simp[putAt,this]
theorem aam{xs:List (gL n×Addr×Value)}{u:Value}:(xs.map (putAt k u)).map (λx=>V.ref x.2.1)=xs.map (λx=>V.ref x.2.1):=by
 rw[dr];refine gf λx _=>?_;simp only[q9,putAt];split<;>rfl
theorem aa4{xs:List (gL n×Addr×Value)}{u:Value}:(xs.map (putAt k u)).map (λx=>eG n x.1)=xs.map (λx=>eG n x.1):=by
 rw[dr];refine gf λx _=>?_;simp only[q9,putAt];split<;>rfl
def aff(K:ae):zV:=λo i v H Q=>∃(a b:Addr)(c:Addr->Prop)(n:Bool)(k:gL n)(ks:BF)(rs:List V)(us:BB),o=.ref a/\i=.ref b/\qW H a n ks rs us/\aP K c H ks rs/\bG K c H (eG n k) (.ref b)/\us.length<sizeLine/\
 ∀u H',bJ v u->DPt H a n ks rs us k b u H'->Q H'
theorem aao(hu:X.A.units+2<cLine):Uh X (aff X.K):=by
 intro BJ s σ H o i v ov iv u Q I ro ri rv h;obtain⟨a,b,c,n,k,ks,rs,us,rfl,rfl,d,r,rk,hl,q⟩:=h;cases ro;cases ri;obtain⟨xs,ep,e,z,l,nd,rfl,rfl,rfl⟩:=d;have dd:=Mv I e nd r;rw[ak]at hl;refine wpAny_setItem_heap  (Ec hu n) (Gg I rk) dd λh' dd' hs=>?_;obtain⟨ob,es,ep',ho,hex,hd,he,_,hnd⟩:=dd';have eob:ob=oD es ep':=by
  obtain⟨e1,e2,e3⟩:=hex;cases ob;subst e1 e2 e3 hd;rfl
 subst eob;have een:mI n=entryOfKey (nO X.prog X.w n):=by
  funext x
  unfold mI entryOfKey;rw[Ek]
 have ees:es=((storedH xs k b u).map (mI n)).toArray:=by
  rw[een,<-he]
 have I':aI X BJ σ (aT H a (dO a es ep')) {s with heap:=h',toks:=s.toks+(nO X.prog X.w n).draws k}:=
  I.write   (by rw[e];exact trivial) (.inl rfl) (λb' q' hb z'=>(hs.2 b' hb).trans z') ⟨_,ho⟩ ⟨ho,⟨_,ho⟩,λh1 h2 p kk=>kk _ p⟩
 refine⟨_,I',q u _ rv ⟨es,ep',rfl,?_⟩⟩;have hat:(aT H a (dO a es ep')) a=some (dO a ((storedH xs k b u).map (mI n)).toArray ep'):=by rw[fP,ees]
 rcases Op  nd with⟨i,p,hx,ha⟩|⟨hn,ha⟩
 .refine .inl ⟨i,by rw[az,hx];rfl,storedH xs k b u,ep',hat,z,?_,hnd,?_,?_,?_⟩
  .rw[tx ha,ak]
   exact l
  .rw[tx ha,aa4]
  .rw[tx ha,aam]
  .rw[tx ha,aaQ nd hx]
 .refine .inr ⟨hn,storedH xs k b u,ep',hat,z,?_,hnd,?_,?_,?_⟩
  .rw[tz ha,av]
   exact hl
  .rw[tz ha,du]<;>rfl
  .rw[tz ha,du]<;>rfl
  .rw[tz ha,du]<;>rfl
def Ky(x:V)(H:Hp):Prop:=∃a es ep,x=.ref a/\H a=some (dO a es ep)
theorem acT  {es:List ah}{to:TE}{t:TA}{name:Str}{apos cpos:ai}{id:String}{r:V->List V->Hp->VK->Prop}(slot:Slot "dict" name id)(hty:typeOf (.builtin id)=pure (.type "method_descriptor"))(hm:wD X id r)(ho:PE X o to)(ha:PA X (e::es) t)
  (hbase:attributeBase o name X.env (eval o X.env)=eval o X.env:=by rfl)
  (hfew:((backTo cpos (starEach (e::es) X.env)).all (λx=>!x.1)&&(backToKw cpos (keywordEach [] X.env)).all (λx=>x.1.isSome)
   &&decide ((e::es).length+([]:List ft).length+(if([]:List ft).isEmpty then 0 else 1)<30))=true:=by rfl)
  (hline:(apos.endLine==cpos.line)=true:=by rfl)(hs:starEach (e::es) X.env=(false,eval e X.env)::starEach es X.env:=by rfl)(hplain:(backTo cpos (starEach es X.env)).any (·.1)=false:=by rfl):
  PE X (.Call (.Attribute o name apos) (e::es) [] cpos) (λσ H Q=>to σ H λx H1=>Ky x H1/\t σ H1 λxs H2=>r x xs H2 Q):=by
 intro BJ s σ H Q I h;refine wm hbase hfew hline rfl (bA (ho _ s _ H _ I h) λv s1 hq=>?_);rcases hq with⟨x,H1,I1,r1,⟨a,ds,ep,ex,hH⟩,q1⟩;subst ex;cases r1;have hg:=Tg I1 hH;refine⟨"dict",id,PySem.F.plainAttrs_dict,slot,hty,⟨_,hg,rfl⟩,λb eb=>?_,?_⟩
 .cases eb
  exact⟨_,hg,rfl⟩
 have hA:=ha cpos _ _ _ _ _ I1 q1;rw[hs]at hA⊢;refine wn (by show(false||(backTo _ _).any _)=false;rw[hplain]<;>rfl) (qv ?_);exact bA hA λus s2 ⟨vs,H2,I2,r2,q2⟩=>hm _ _ _ _ (.ref a) _ _ us Q I2 rfl r2 q2
theorem abx(I:aI X BJ σ H s):sysModules<s.heap.objs.size:=by
 have h:=(I.mod.glob.keeps I.bk).lt;exact wy (by decide) h
theorem aaI:PE X (.Dict [] [] pos) (λ_ H Q=>∀p,H p=none->(p==sysModules)=false->Q (.ref p) (aT H p (dO p #[] 0))):=λBJ s σ H Q I h=>
 wpAny_Dict_empty ⟨.ref _,_,I.laid  (o:=dO _ _ 0)  (λ_ _ q=>ar _ q) (al _) ⟨cj _ rfl,⟨_,cj _ rfl⟩,λh1 h2 p kk=>kk _ p⟩,rfl,
  h _ (I.hok.fresh (al _)) (beq_eq_false_iff_ne.mpr (gw (cw (abx I))))⟩
end
end L2
namespace L2.Pp
section
open PySem PySem.Spec PyProof.Rows Bn
open Classical in
def jU{α:Type}(kvs:List (PV×α))(k:PV):Option Nat:=kvs.findIdx? λkv=>decide (kv.1=k)
def fJ  (kvs:List (PV×α))(k:PV):Option α:=match jU kvs k with
 |some i=>kvs[i]?.map (·.2)
 |none=>none
def gU  (kvs:List (PV×α))(k:PV)(v:α):List (PV×α):=match jU kvs k with
 |some i=>kvs.set i (k,v)
 |none=>kvs++[(k,v)]
def zZ(n:Bool)(k:PV):Prop:=∃k',k=eG n k'
theorem mZ    {i:Nat}(h:jU kvs k=some i):∃v,kvs[i]?=some (k,v):=by
 obtain⟨hi,e,_⟩:=List.findIdx?_eq_some_iff_getElem.mp h;have e:=by simpa using e
 refine⟨kvs[i].2,?_⟩;rw[ay hi];congr 1;exact Prod.ext e rfl
theorem Ad  {kvs:List (PV×α)}{k:PV}(h:jU kvs k=none)(i:Nat):(kvs.map (·.1))[i]?≠some k:=by
 unfold jU at h;rw[List.findIdx?_eq_none_iff]at h;intro e;rw[az]at e;cases z:kvs[i]? with
 |none=>simp_all
 |some x=>
  have:=h x (cq z)
  simp_all
theorem Ze  {kvs:List (PV×α)}{k:PV}{i:Nat}(h:(kvs.map (·.1))[i]?=some k):∃j,jU kvs k=some j:=by
 cases z:jU _ k with
 |some j=>exact⟨j,rfl⟩
 |none=>exact absurd h (Ad z i)
def lV(n:Bool):ME:=λ_ S=>.ok (.ref S.length) (S++[.dic n []])
open Classical in
def lR(d k:AV)(S:aJ)(z:BH):bH AV:=match d,k with
 |.ref j,.pv k=>match S[j]? with
  |some (.dic n kvs)=>if zZ n k then(match fJ kvs k,z with
   |some v,_=>.ok (.pv v) S
   |none,some z=>.ok z S
   |none,none=>.fail)else .fail
  |_=>.fail
 |_,_=>.fail
def mE(md mk:ME):ME:=λρ S=>(md ρ S).bind λd S1=>(mk ρ S1).bind λk S2=>lR d k S2 none
def zC  (d:AV)(S:aJ)(f:bH α):bH α:=match d with
 |.ref j=>(match S[j]? with
  |some (.dic _ _)=>f
  |_=>.fail)
 |_=>.fail
def yZ(md:ME)(ms:MA):ME:=λρ S=>(md ρ S).bind λd S1=>zC d S1 ((ms ρ S1).bind λks S2=>match ks with
 |[k,z]=>lR d k S2 (some z)
 |_=>.fail)
open Classical in
def oX(d k v:AV)(S:aJ):bH AV:=match d,k,v with
 |.ref j,.pv k,.pv v=>match S[j]? with
  |some (.dic n kvs)=>if zZ n k/\kvs.length<16777216 then .ok (.pv .non) (S.set j (.dic n (gU kvs k v)))else .fail
  |_=>.fail
 |_,_,_=>.fail
def nT(md mk mv:ME):MS:=λρ S=>cE.of (mv ρ S) λv S1=>cE.of (md ρ S1) λd S2=>cE.of (mk ρ S2) λk S3=>cE.of (oX d k v S3) λ_ S4=>.nx ρ S4
section
variable{K:ae}{cl:Str->Addr}{E:XK}{X:Cx}{p q:Ph}{H H':Hp}{S:aJ}{a b e o i v:ah}{es:List ah}{md mk mv:ME}{ms:MA}{pos:ai}
theorem abt(n:Bool):aN K cl E X (.Dict [] [] pos) (lV n):=by
 intro hK;subst hK;refine PE.imp aaI ?_
 rintro σ H Q ⟨p,S,ρ,s,ev,h⟩ t ht hs
 have ob:pD X.K ⟨p.f++[t],λa=>p.w a\/a=t,λa=>p.c a\/a=t⟩ (aT H t _) t (.dic n []):=
  ⟨[],[],⟨[],0,fP,hs,iu _,qc,rfl,.nil,rfl⟩,.nil,.nil⟩
 obtain⟨st,sm⟩:=s.pushO ht (show Mb (dO t _ 0) from trivial) ob;exact h _ _ _ st sm ⟨t,by rw[<-s.len,dq (al _),io];rfl,rfl⟩
theorem Nw(s:aQ K p S H){j:Nat}{a:Addr}{n:Bool}{kvs:List (PV×PV)}{k:PV}{y:V}{Q:V->Prop}{N:Prop}(ej:p.f[j]?=some a)(z:S[j]?=some (.dic n kvs))(hk:zZ n k)(ry:bG K p.c H k y)
  (q:∀v x,fJ kvs k=some v->bG K p.c H v x->Q x)(qn:fJ kvs k=none->N):∃b vs,y=.ref b/\qZ K H a b vs Q N:=by
 obtain⟨k',rfl⟩:=hk;obtain⟨us,vs,d,rv,r⟩:=s.obj j a _ ej z;have ey:∃b,y=.ref b:=by
  cases n with
  |false=>
   have ry:=ry;unfold bG at ry;obtain⟨b,_,e,_⟩:=ry;exact⟨b,e⟩
  |true=>
   have ry:=ry;unfold bG at ry;obtain⟨b,_,e,_⟩:=ry;exact⟨b,e⟩
 obtain⟨b,rfl⟩:=ey;have nd:∀i j:Nat,(kvs.map (·.1))[i]?=some (eG n k')->(kvs.map (·.1))[j]?=some (eG n k')->i=j:=by
  obtain⟨xs,ep,_,_,_,nd,ek,_⟩:=d;intro i j h1 h2;rw[ek,az]at h1 h2;cases z1:xs[i]? with
  |none=>rw[z1]at h1;cases h1
  |some x=>
   cases z2:xs[j]? with
   |none=>rw[z2]at h2;cases h2
   |some y=>
    rw[z1]at h1;rw[z2]at h2;have e1:=sC (cx h1);have e2:=sC (cx h2);exact yj nd (p:=x.2) (q:=y.2) (k:=k') (by rw[z1,<-e1]) (by rw[z2,<-e2])
 refine⟨b,vs,rfl,p.c,n,k',_,us,d,rv,ry,λi x h1 h2=>?_,λhn=>qn ?_⟩
 .obtain⟨j',hj⟩:=Ze h1
  obtain⟨v,hv⟩:=mZ hj;have ei:j'=i:=nd j' i (by rw[az,hv];rfl) h1;subst ei;obtain⟨x',e1,e2⟩:=r.get (i:=j') (p:=v) (by rw[az,hv];rfl);rw[h2]at e1;cases e1;exact q v x (by unfold fJ;rw[hj];simp[hv]) e2
 .cases z:jU kvs (eG n k')with
  |none=>unfold fJ;rw[z]
  |some i=>
   obtain⟨v,hv⟩:=mZ z;exact absurd (by rw[az,hv];rfl) (hn i)
theorem Sl  {z:BH}{x y:V}{Q:VK}(s:aQ K p S H)(rd:dC K p H d x)(rk:dC K p H k y)(h:bU K cl (dC K) p H (lR d k S z) Q E):
  ∃a b vs,x=.ref a/\y=.ref b/\qZ K H a b vs (λv=>Q v H) (∃w,z=some w/\∀u,dC K p H w u->Q u H):=by
 cases d with
 |pv _=>cases k<;>exact h.elim
 |ref j=>
  cases k with
  |ref _=>exact h.elim
  |pv k=>
   obtain⟨a,ej,rfl⟩:=rd;unfold lR at h;dsimp only at h;split at h
   .rename_i n kvs hS
    split at h
    .rename_i hk
     obtain⟨b,vs,e,g⟩:=Nw   (N:=∃w,z=some w/\∀u,dC K p H w u->Q u H) s ej hS hk rk (λv x e r=>by
      rw[e]at h;exact bU.ret (R:=dC K)  h s r) (λe=>by
      rw[e]at h;cases z with
      |none=>exact h.elim
      |some w=>exact⟨w,rfl,λu r=>bU.ret  h s r⟩)
     exact⟨a,b,vs,rfl,e,g⟩
    .exact h.elim
   .exact h.elim
theorem Ht{a b:Addr}{vs:List V}{Q Q':V->Prop}{N N':Prop}(g:qZ K H a b vs Q N)(f:∀v,Q v->Q' v)(f':N->N'):qZ K H a b vs Q' N':=by
 obtain⟨c,n,k,ks,us,d,rv,rk,q1,q2⟩:=g;exact⟨c,n,k,ks,us,d,rv,rk,λi v h1 h2=>f v (q1 i v h1 h2),λh=>f' (q2 h)⟩
theorem aeb(hu:X.A.units+8<cLine)(ha:aN K cl E X a md)(hb:aN K cl E X b mk)(hs:xR b:=by intro _ _;rfl):aN K cl E X (.Subscript a b pos) (mE md mk):=by
 intro hK;subst hK;refine PE.imp (Wg (abG (by omega)) (ha rfl) (hb rfl) hs) ?_
 rintro σ H Q ⟨p,S,ρ,s,ev,h⟩
 refine bW s ev h λq H1 d x S1 st s1 e1 r1 h1=>bW s1 e1 h1 λq2 H2 k y S2 st2 s2 e2 r2 h2=>?_;obtain⟨a,b,vs,ex,ey,g⟩:=Sl s2 (st2.repA r1) r2 h2;exact⟨a,b,vs,ex,ey,Ht g (λ_ h=>h) (by grind)⟩
theorem O9   {d:AV}{x:V}{f:bH α}{Q:β->Hp->Prop}(s:aQ K p S H)(rd:dC K p H d x)(h:bU K cl R p H (zC d S f) Q E):Ky x H/\bU K cl R p H f Q E:=by
 cases d with
 |pv _=>exact h.elim
 |ref j=>
  obtain⟨a,ej,rfl⟩:=rd;unfold zC at h;dsimp only at h;split at h
  .rename_i n kvs hS
   obtain⟨us,vs,⟨xs,ep,e,_⟩,_⟩:=s.obj j a _ ej hS;exact⟨⟨a,_,_,rfl,e⟩,h⟩
  .exact h.elim
theorem abH{apos cpos:ai}{f:ah}(hu:X.A.units+8<cLine)(ho:aN K cl E X o md)(ha:eQ K cl E X [e,f] ms)(hbase:attributeBase o "get" X.env (eval o X.env)=eval o X.env:=by rfl)
  (hfew:((backTo cpos (starEach [e,f] X.env)).all (λx=>!x.1)&&(backToKw cpos (keywordEach [] X.env)).all (λx=>x.1.isSome)&&decide (([e,f]:List ah).length+([]:List ft).length+(if([]:List ft).isEmpty then 0 else 1)<30))=true:=by rfl)
  (hline:(apos.endLine==cpos.line)=true:=by rfl)(hs:starEach [e,f] X.env=(false,eval e X.env)::starEach [f] X.env:=by rfl)(hplain:(backTo cpos (starEach [f] X.env)).any (·.1)=false:=by rfl):aN K cl E X (.Call (.Attribute o "get" apos) [e,f] [] cpos) (yZ md ms):=by
 intro hK;subst hK;refine PE.imp (acT o8 PySem.F.type_dict_get (U8 (by omega)) (ho rfl) (ha rfl) hbase hfew hline hs hplain) ?_
 rintro σ H Q ⟨p,S,ρ,s,ev,h⟩
 refine bW s ev h λq H1 d x S1 st s1 e1 r1 h1=>?_;obtain⟨hd,h1⟩:=O9 s1 r1 h1;refine⟨hd,bW s1 e1 h1 λq2 H2 ks ys S2 st2 s2 e2 r2 h2=>?_⟩;cases r2 with
 |nil=>exact h2.elim
 |cons r3 rr=>
  cases rr with
  |nil=>exact h2.elim
  |cons r4 rs=>
   cases rs with
   |nil=>
    obtain⟨a,b,vs,ex,ey,g⟩:=Sl s2 (st2.repA r1) r3 h2;exact⟨a,b,_,vs,ex,by rw[ey],Ht g (λ_ h=>h) λ⟨w',e,q'⟩=>by cases e;exact q' _ r4⟩
   |cons _ _=>exact h2.elim
theorem aQ.writeO(s:aQ K p S H){D:Addr}{k:Nat}{o:SO}{ho:HO}(h:p.f[k]?=some D)(hk:k<S.length)(mo:Mb ho)(ob:bK p H p (aT H D ho)->pD K p (aT H D ho) D o):bK p H p (aT H D ho)/\aQ K p (S.set k o) (aT H D ho):=by
 have w:=s.sub D (cq h);have st:bK p H p (aT H D ho):=⟨s.wc,s.mu,jm,λ_ h=>h,λ_ h=>h,λ_ h g=>absurd h g,λ_ h g=>absurd h g,λ_ h g=>absurd h g,λa u e nw=>by
  rw[bQ (λz=>nw (by rw[z];exact w))];exact e⟩
 refine⟨st,s.nd,by rw[ff];exact s.len,s.sub,s.wc,λa x=>?_,λj a u e1 e2=>?_⟩
 .by_cases z:a=D
  .rw[z,fP]
   exact⟨ho,rfl,mo⟩
  .rw[bQ z]
   exact s.mu a x
 .by_cases hj:k=j
  .simp_all
  .rw[dk hj]at e2
   have ne:a≠D:=λz=>hj (rQ s.nd h (by rw[z]at e1;exact e1));exact(s.obj j a u e1 e2).mono (λvs e=>by rw[bQ ne];exact e) (λb w f=>⟨⟨w,f⟩,λvs e=>by rw[bQ (λz:b=D=>f (z▸cq h))];exact e⟩) λ_ _ r=>st.reps r
theorem aW.setI     (r:aW vs us)(rx:bJ x u):∀i,aW (vs.set i x) (us.set i u):=λi=>r.set rx i
theorem acv{tpos:ai}(hu:X.A.units+8<cLine)(hv:aN K cl E X v mv)(ho:aN K cl E X o md)(hi:aN K cl E X i mk)
  (ha:∀v,assign (.Subscript o i tpos) X.env v=(do
   let ov <-holding [v] (eval o X.env)
   let iv <-holding [v,ov] (eval i X.env)
   standAt tpos
   holding [v,ov,iv] (setItem ov iv v)
   release [v,ov,iv] []):=by intro _;rfl)
  (hs:swapsWithSole [.Subscript o i tpos] v pos.line X.env=pure false:=by rfl)(hw:swappedStores [.Subscript o i tpos] v X.env=pure none:=by rfl)
  (h1:(assignEach [.Subscript o i tpos] X.env).map (·.2)=[assign (.Subscript o i tpos) X.env]:=by rfl):eC K cl E X (.Assign [.Subscript o i tpos] v pos) (nT md mk mv):=by
 intro hK;subst hK;refine PS.imp (yM (hv rfl) (Pf (ho rfl) (hi rfl) (aao (by omega)) ha) hs hw h1) ?_
 rintro D σ H ⟨p,S,ρ,s,ev,h⟩
 refine iW s ev h λq H1 v x S1 st s1 e1 r1 h1=>?_;refine iW s1 e1 h1 λq2 H2 d y S2 st2 s2 e2 r2 h2=>?_;refine iW s2 e2 h2 λq3 H3 k z S3 dI s3 e3 r3 h3=>?_;have r2:=dI.repA r2;have r1:=dI.repA (st2.repA r1);cases d with
 |pv _=>cases k<;>cases v<;>exact h3.elim
 |ref j=>
  cases k with
  |ref _=>cases v<;>exact h3.elim
  |pv k=>
   cases v with
   |ref _=>exact h3.elim
   |pv v=>
    obtain⟨a,ej,rfl⟩:=r2;have h3:=h3;unfold oX at h3;dsimp only at h3;cases hS:S3[j]? with
    |none=>simp only[hS]at h3;exact h3.elim
    |some o=>
     cases o with
     |lst _=>simp only[hS]at h3;exact h3.elim
     |lol _=>simp only[hS]at h3;exact h3.elim
     |dol _ _=>simp only[hS]at h3;exact h3.elim
     |dic n kvs=>
      simp only[hS]at h3
      by_cases hc:zZ n k/\kvs.length<16777216
      .rw[if_pos hc]at h3
       obtain⟨⟨k',rfl⟩,hl⟩:=hc;obtain⟨us,vs,d,rv,r⟩:=s3.obj j a _ ej hS;have rk:bG X.K q3.c H3 (eG n k') z:=r3;have ez:∃b,z=.ref b:=by
        obtain⟨b,_,e,_⟩:=Nw (Q:=λ_=>True) (N:=True) s3 ej hS ⟨k',rfl⟩ rk (λ_ _ _ _=>trivial) λ_=>trivial;exact⟨b,e⟩
       obtain⟨b,rfl⟩:=ez;obtain⟨rs,dw,rr⟩:=Su d;have lu:us.length=kvs.length:=by
        rw[<-rv.length,<-r.length,ak]
       refine⟨a,b,q3.c,n,k',_,rs,us,rfl,rfl,dw,rr,rk,by rw[lu,kS];exact hl,λu H' ru hp=>?_⟩;obtain⟨es,ep,rfl,hp⟩:=hp;have hj:=(bn.mp hS).1;obtain⟨st4,sm4⟩:=s3.writeO (o:=.dic n (gU kvs (eG n k') v)) ej hj (show Mb (dO a es ep) from trivial) λst4=>by
        rcases hp with⟨i,hi,dw'⟩|⟨hn,dw'⟩
        .obtain⟨i',hi'⟩:=Ze hi
         obtain⟨w,hw'⟩:=mZ hi';have ei:i'=i:=by
          obtain⟨xs,_,_,_,_,nd,ek,_⟩:=dw;have g1:(kvs.map (·.1))[i']?=some (eG n k'):=by rw[az,hw'];rfl
          rw[ek,az]at g1 hi;cases z1:xs[i']? with
          |none=>rw[z1]at g1;cases g1
          |some x1=>
           cases z2:xs[i]? with
           |none=>rw[z2]at hi;cases hi
           |some x2=>
            rw[z1]at g1;rw[z2]at hi;have e1:x1.1=k':=sC (cx g1);have e2:x2.1=k':=sC (cx hi);exact yj nd (p:=x1.2) (q:=x2.2) (k:=k') (by rw[z1,<-e1]) (by rw[z2,<-e2])
         subst ei;have ek:gU kvs (eG n k') v=kvs.set i' (eG n k',v):=by unfold gU;rw[hi']
         refine⟨us.set i' u,vs.set i' x,?_,aW.setI rv ru i',?_⟩
         .rw[ek]
          have e1:(kvs.set i' (eG n k',v)).map (·.1)=kvs.map (·.1):=by
           rw[kj];refine jn λt=>?_;rw[tw];split
           .rename_i ht
            subst ht;rw[if_pos (by rw[ak];exact(bn.mp hw').1),az,hw'];rfl
           .rfl
          rw[e1];exact dw'.at_ (st4.reps rr)
         .rw[ek,kj]
          exact aP.set (st4.rep r1) i' (st4.reps r)
        .have ei:jU kvs (eG n k')=none:=by
          cases z0:jU kvs (eG n k')with
          |none=>rfl
          |some i=>
           obtain⟨w,hw'⟩:=mZ z0;exact absurd (by rw[az,hw'];rfl) (hn i)
         have ek:gU kvs (eG n k') v=kvs++[(eG n k',v)]:=by unfold gU;rw[ei]
         refine⟨us++[u],vs++[x],?_,aW.append rv (.cons ru .nil),?_⟩
         .rw[ek,du]
          exact dw'.at_ ((st4.reps rr).append (.cons (st4.rep rk) .nil))
         .rw[ek,du]
          exact(st4.reps r).append (.cons (st4.rep r1) .nil)
       exact h3 _ _ _ st4 sm4 (st4.repE e3)
      .rw[if_neg hc]at h3
       exact h3.elim
end
end
end L2.Pp
namespace L2
open PySem PySem.Spec PyProof.Rows Bn L2.Pp
section
variable{prog:Program}{w:am}{A:aq}{E:Value->aa->Prop}{s:aa}{it d i ep:Nat}{es:Array DictEntry}
theorem abw{h:i<es.size}:(if(i:Int)<0 then none else es[(i:Int).toNat]?)=some es[i]:=by
 simp_all
theorem abj{h:¬i<es.size}:(if(i:Int)<0 then none else es[(i:Int).toNat]?)=none:=by
 simp_all
theorem aek{Q:BC->aa->Prop}{h1:Heap}(hh:A.handled=none)(sb:pw it s.heap h1)(q:∀h',pw it s.heap h'->Q none {s with heap:=h'}):
  wpAny (model prog w) A.in1 (newExc (.type "StopIteration") [] >>= raiseNew (α:=tq)) (λ_ _=>False) (λe s'=>wpAny (model prog w) A (isInstance e (.type "StopIteration")) (λb s2=>b=true/\Q none s2) E s') {s with heap:=h1}:=by
 refine ag ?_;simp only[newExc,newTuple];refine ag (m:=firstArgMember _ _) (sf (a:=cy) (by first |rfl |(simp only[firstArgMember];rfl)) ?_)
 refine ka ?_ (by size_fits);simp only[raiseNew];refine ag (wpAny_handled ?_);rw[show A.in1.handled=none from hh];refine ag (au (wpAny_throw ?_));exact xc (T:="StopIteration") (b:=true) ⟨_,cj _ rfl,rfl⟩ isSubtype_stop ⟨rfl,q _ ((sb.push _).push _)⟩
theorem Ts{Q:tq->aa->Prop}{E':Value->aa->Prop}(hit:s.heap.IsKeyIter it d i es.size ep)(hd:s.heap.get? d=some (oD es ep))
  (q1:∀h:i<es.size,∀h',h'.IsKeyIter it d (i+1) es.size ep->iy it s.heap h'->Q (.done (.ret es[i].key)) {s with heap:=h'})
  (q2:¬i<es.size->∀h',iy it s.heap h'->wpAny (model prog w) A.in1 (newExc (.type "StopIteration") [] >>= raiseNew (α:=tq)) Q E' {s with heap:=h'}):
  wpAny (model prog w) A.in1 (Builtin.«dict_keyiterator.__next__» ⟨[.ref it],[]⟩) Q E' s:=by
 obtain⟨o,ho,hc,hf⟩:=id hit;have nm:∀{s':aa}{R:Nat->aa->Prop},s'.TypeIs (.ref it) "dict_keyiterator"->R 0 s'->wpAny (model prog w) A.in1 (do let t <-typeNameOfWhole (.ref it);pure (if t7 t then 2 else 0)) R E' s':=λhT r=>
  ag (wpAny_typeNameOfWhole_keyiter hT (au (by rw[show t7 "dict_keyiterator"=false by decide];exact r)))
 refine ag (au (ag (ag (nm hit.typeIs (ag (wpAny_fieldsOf ho hf ?_))))));show wpAny _ _ (if(fe d==cy)=true then _ else _) _ _ s;rw[if_neg (show ¬((fe d==cy)=true) from nu)];refine ag (au (ag (wpAny_dictEntries hd rfl ?_)));rw[if_neg (by simp)];refine ag (au (ag (wpAny_dictEpoch hd rfl ?_)));rw[if_neg (by simp)];refine au ?_
 by_cases h:i<es.size
 .simp only[abw (h:=h)]
  refine ag (nm hit.typeIs (ag (u4 hit.typeIs ?_)));show wpAny _ _ (setField (.ref it) 1 (rawInt ((i:Int)+1)) >>= _) _ _ s;refine ag (rn ho hf (by simp) ?_);have hit':(s.heap.update it (Obj.mapFields (·.setIfInBounds 1 (rawInt ((i:Int)+1))))).IsKeyIter it d (i+1) es.size ep:=
   ⟨_,wj _ ho (f7 (se hf _)),(g7 ..).trans hc,by rw[se hf];simp[rawInt]⟩
  have tt:Shared.TypeIs {s with heap:=s.heap.update it (Obj.mapFields (·.setIfInBounds 1 (rawInt ((i:Int)+1))))} (.ref it) "dict_keyiterator":=hit'.typeIs;exact ag (jz (ag (u4 tt (au (au (q1 h _ hit' (rp ..)))))))
 .simp only[abj (h:=h)]
  refine ag (nm hit.typeIs ?_);exact ag (rn ho hf (by simp) (q2 h _ (rp ..)))
theorem abp  (hit:s.heap.IsKeyIter it d i es.size ep)(hd:s.heap.get? d=some (oD es ep))(h:i<es.size)
  (q:∀h',h'.IsKeyIter it d (i+1) es.size ep->iy it s.heap h'->Q (some es[i].key) {s with heap:=h'}):wpAny (model prog w) A (pyNext (.ref it)) Q E s:=by
 exact ag (sk (kr  hit.typeIs qe (jt qe hit.typeIs u5
  (Ts hit hd (λ_ h' a b=>⟨_,rfl,au (q _ a b)⟩) λn=>absurd h n) (u6 _))))
theorem adL{Q:BC->aa->Prop}(hh:A.handled=none)(hit:s.heap.IsKeyIter it d i es.size ep)(hd:s.heap.get? d=some (oD es ep))(h:¬i<es.size)
  (q:∀h',pw it s.heap h'->Q none {s with heap:=h'}):wpAny (model prog w) A (pyNext (.ref it)) Q E s:=by
 unfold pyNext;exact ag (sk (kr (name:=di "__next__") hit.typeIs qe (jt qe hit.typeIs u5
  (Ts hit hd (λn=>absurd n h) λ_ h' sb=>je (aek (E:=E) hh sb.extBut q) (λ_ _ z=>z.elim) λe s2 z=>ag (bA z λb s3 ⟨hb,q3⟩=>by subst hb;exact au q3)) (u6 _))))
theorem aab(hh:A.handled=none)(I d:Addr)(hne:d≠I)(es:Array DictEntry)(ep:Nat):
  Walks prog w A I [I,d] [I] es.size (λi v=>∃h:i<es.size,v=es[i].key) (λi h=>h.IsKeyIter I d i es.size ep/\h.get? d=some (oD es ep)) where
 sub:=λb hb=>by simp at hb;simp[hb]
 frame:=λ_ _ _ st hk=>⟨st.1.at λo e=>hk I (by simp) o e,hk d (by simp) _ st.2⟩
 item:=λi s Q E hi st hQ=>abp st.1 st.2 hi λh' hit' sb=>hQ _ h' s.toks ⟨hi,rfl⟩ ⟨hit',(sb.2 d hne).trans st.2⟩ λb o hb e=>sb.extBut b o (λz=>hb (by simp[z])) e
 done:=λs Q E st hQ=>adL hh st.1 st.2 (ix _) λh' eb=>hQ h' s.toks λb o hb e=>eb b o (λz=>hb (by simp[z])) e
 self:=λ_ _ _ _ st hQ=>wpAny_pyIter_keyiter st.1 hQ
theorem ad9  (ns:(d==sysModules)=false)(hd:s.heap.get? d=some (oD es ep))
  (q:Q (.ref s.heap.objs.size) {s with heap:=s.heap.push {cls:=.type "dict_keyiterator",data:=.fields #[.ref d,.int 0 0,.int es.size 0,.int ep 0]}}):wpAny (model prog w) A (pyIter (.ref d)) Q E s:=by
 have hT:s.TypeIs (.ref d) "dict":=⟨_,hd,rfl⟩;refine wpAny_pyIter_slot hT u7 (jt u7 hT F.entry_dict_iter ?_ (F.args_dict_iter_1 _));refine ag (ag (wpAny_notOrdered_dict hT (au ?_)));show wpAny _ _ (u8 d >>= _) _ _ s;unfold u8;rw[if_neg (by rw[ns];exact nu)];refine ag (au (ag (wpAny_dictEntries hd rfl (ag (wpAny_dictEpoch hd rfl ?_)))));exact ag (ka (au ⟨_,rfl,"dict_keyiterator",_,⟨_,cj _ rfl,rfl⟩,qe.lookup,q⟩))
theorem afF(ns:(d==sysModules)=false):PySem.W.KdlSrc prog w "dict" d d es.size (λi v=>∃h:i<es.size,v=es[i].key) (λh=>h.get? d=some (oD es ep)) where
 type:=λ_ hm=>⟨_,hm,rfl⟩
 there:=λ_ hm=>⟨ax hm,ax hm⟩
 keep:=λ_ _ hm hk=>hk d (.inl rfl) _ hm
 notList:=rfl
 notTuple:=rfl
 hint:=λ_ _ _ _ hm hq=>PySem.W.kdl_hint_dict ⟨_,hm,rfl⟩ hq
 iter:=λ_ _ hh hm=>⟨_,_,λ_ _ hq=>ad9 ns hm hq,aab hh _ d (cw (ax hm)) _ _,⟨⟨_,cj _ rfl,rfl,rfl⟩,ar _ hm⟩⟩
end
section
variable{X:Cx}
theorem F6(hc:X.calm=true):iH X (.type "list") (λxs H Q=>∃(a:Addr)(n:Bool)(ks:BF)(rs:List V)(us:BB),xs=[.ref a]/\qW H a n ks rs us/\∀l,H l=none->Q (.ref l) (aT H l (.lst rs))):=by
 intro BJ s σ H xs us Q I r h;obtain⟨a,n,ks,rs,us',rfl,d,q⟩:=h;obtain⟨u,rfl,ru⟩:=jC r;cases ru;obtain⟨ys,ep,e,z,l,nd,rfl,rfl,rfl⟩:=d;refine PySem.W.kdl_call (afF z) (I.ok.hd hc) (Tg I e) (by simpa using l) λh' tk acc c hk hl hi=>?_;have ev:aW (ys.map λx=>V.ref x.2.1) acc.toList:=by
  have e1:acc.toList=ys.map λx=>fe x.2.1:=by
   refine jn λj=>?_;have hz:acc.size=ys.length:=by simpa using hi.1
   by_cases hj:j<ys.length
   .obtain⟨_,ej⟩:=hi.2 j acc[j] (by simp[hz,hj])
    rw[az,ay hj,Array.getElem?_toList,Array.getElem?_eq_getElem (by omega),ej];simp[mI]
   .rw[u9 (by simp;omega),u9 (by simp;omega)]
  rw[e1];clear e1 hi e q l nd
  induction ys with
  |nil=>exact .nil
  |cons y ys ih=>exact .cons rfl ih
 refine⟨.ref s.heap.objs.size,_,I.laid (t':=tk) (o:=.lst (ys.map λx=>V.ref x.2.1)) hk (al _) ⟨by rw[ak];exact l,acc.toList,c,ev,hl⟩,rfl,q _ (I.hok.fresh (al _))⟩
end
end L2
namespace L2.Pp
open PySem PySem.Spec PyProof.Rows Bn
def Ig(d:AV)(S:aJ):bH AV:=match d with
 |.ref j=>(match S[j]? with
  |some (.dic _ kvs)=>.ok (.pv (.lst (kvs.map (·.1)))) S
  |_=>.fail)
 |_=>.fail
def vJ(ms:MA):ME:=λρ S=>(ms ρ S).bind λds S1=>match ds with
 |[d]=>Ig d S1
 |_=>.fail
section
variable{K:ae}{cl:Str->Addr}{E:XK}{X:Cx}{p:Ph}{H:Hp}{S:aJ}{a e:ah}{ms:MA}{pos:ai}
theorem ab7{x:Str}{px:ai}(hc:X.calm=true)(hg:Gl X x)(hm:X.mg x=none)(hv:bootBuiltins x=some (.type "list"))(ha:eQ K cl E X [e] ms)(hn:x≠"__name__":=by decide)(hdb:(x==("__debug__":Str))=false:=by decide)
  (he:starEach [e] X.env=(false,eval e X.env)::starEach [] X.env:=by rfl)(hpl:(backTo pos (starEach [] X.env)).any (·.1)=false:=by rfl):aN K cl E X (.Call (.Name x px) [e] [] pos) (vJ ms):=by
 intro hK;subst hK;refine PE.imp (wQ (F6 hc) hg hm hv (ha rfl) hn hdb he hpl) ?_
 rintro σ H Q ⟨p,S,ρ,s,ev,h⟩
 refine bW s ev h λq H1 ds xs S1 st s1 e1 r1 h1=>?_;rcases r1 with _ |⟨rj,_ |⟨_,_⟩⟩
 .exact h1.elim
 .rename_i d _
  rcases d with _ |j
  .exact h1.elim
  obtain⟨a,ej,er⟩:=rj;subst er;have h1:=h1;unfold Ig at h1;dsimp only at h1;split at h1
  .rename_i n kvs hS
   obtain⟨us,vs,d,rv,r⟩:=s1.obj j a _ ej hS;obtain⟨rs,dw,rr⟩:=Su d;refine⟨a,n,_,rs,us,rfl,dw,λl hl=>?_⟩;have hz:rs.length<=sizeLine:=by
    obtain⟨ys,_,_,_,lz,_,_,er,_⟩:=dw;rw[er,ak];exact lz
   exact bU.same  h1 s1 (iB hl) (nC s1 rr hz hl)
  .exact h1.elim
 .exact h1.elim
end
section
mutual
def nZ:PV->Bool
 |.lst _=>false
 |.tup xs=>zY xs
 |_=>true
def zY:BF->Bool
 |[]=>true
 |x::r=>nZ x&&zY r
end
def kY(f:FM)(ms:MA):ME:=λρ S=>(ms ρ S).bind λxs S1=>match gS S1 xs with
 |some vs=>(match f (vs.map .pv) []with
  |.ok (.pv v) _=>if nZ v=true then .ok (.pv v) S1 else .fail
  |_=>.fail)
 |none=>.fail
section
variable{K:ae}{p:Ph}{H:Hp}{a e v:ah}
mutual
theorem Ir{c c':Addr->Prop}:∀{v:PV}{x:V},bG K c H v x->nZ v=true->bG K c' H v x
 |.non,_,h,_=>by unfold bG at h⊢;exact h
 |.bl _,_,h,_=>by unfold bG at h⊢;exact h
 |.int _,_,h,_=>by unfold bG at h⊢;exact h
 |.str _,_,h,_=>by unfold bG at h⊢;exact h
 |.lst _,_,_,n=>by unfold nZ at n;cases n
 |.tup xs,_,h,n=>by
  unfold nZ at n;unfold bG at h⊢;obtain⟨a,vs,e,t,z,r⟩:=h;exact⟨a,vs,e,t,z,Bo r n⟩
theorem Bo{c c':Addr->Prop}:∀{v:BF}{x:List V},aP K c H v x->zY v=true->aP K c' H v x
 |[],_,h,_=>by unfold aP at h⊢;exact h
 |p::ps,_,h,n=>by
  unfold zY at n;unfold aP at h⊢;obtain⟨v,r,e,h1,h2⟩:=h;have n:=yk.mp n;exact⟨v,r,e,Ir h1 n.1,Bo h2 n.2⟩
end
def Ph.none:Ph:=⟨[],λ_=>False,λ_=>False⟩
theorem V5:aQ K Ph.none [] H:=⟨qc,rfl,λ_ h=>(nomatch h),λ_ h=>h,λ_ h=>h.elim,λk a o e=>nomatch e ⟩
theorem Yk:∀{vs:BF}{xs:List V},Hh K p H vs xs->iF K Ph.none H (vs.map .pv) xs
 |_,_,.nil=>.nil
 |_,_,.cons h t=>by
  refine .cons ?_ (Yk t);show bG K _ H _ _;rcases h with h |⟨xs,a,vs,rfl,rfl,h,z,r⟩
  .exact Zk (λ_ h=>h.elim) h
  .exact⟨a,vs,rfl,.inl ⟨h,λz=>z⟩,z,rL (λ_ h=>h.elim) r⟩
theorem afn{g:FM}{k k0:Nat}{ps:List Str}{x:Str}{px:ai}(C:Ea X.prog X.w X.K X.mg X.base cl x k ps g)(hr:dH k0 X.A)(hk:k<=k0)(hg:Gl X x)(ha:eQ X.K cl E X (e::es) ms)(hdb:(x==("__debug__":Str))=false:=by decide)(he:starEach (e::es) X.env=(false,eval e X.env)::starEach es X.env:=by rfl)(hpl:(backTo pos (starEach es X.env)).any (·.1)=false:=by rfl):
  aN X.K cl E X (.Call (.Name x px) (e::es) [] pos) (kY g ms):=by
 obtain⟨a,d,G,b,kk,n⟩:=C;intro hK;refine PE.imp (xY G (hr.mono hk) hg n kk b .nil zE (ha rfl) hdb he hpl) ?_
 rintro σ H Q ⟨p,S,ρ,s,ev,h⟩
 refine bW s ev h λq H1 as xs S1 st sm ev r k=>?_;cases z:gS S1 as with
 |none=>simp only[z]at k;exact k.elim
 |some vs=>
  simp only[z]at k;have rr:=Yk (wY sm r z);have e0:=fk xs;refine⟨Ph.none,[],vs.map .pv,V5,by first |exact rr |(rw[e0];exact rr),?_⟩
  cases y:g (vs.map .pv) []with
  |fail=>simp only[y]at k;exact k.elim
  |exc n S'=>simp only[y]at k;exact k.elim
  |ok w S'=>
   cases w with
   |ref j=>simp only[y]at k;exact k.elim
   |pv w=>
    simp only[y]at k
    by_cases hn:nZ w=true
    .rw[if_pos hn]at k
     intro q' H' x' st' sm' r';have same:cZ H1 H':=λa o e=>st'.keep a o e λz=>z;exact bU.same  k sm same (Ir r' hn)
    .rw[if_neg hn]at k
     exact k.elim
end
end
section
variable{P:Program}{w:am}{K:ae}{mg:Str->BC}{base:Heap}{cl:Str->Addr}{x qual:Str}{f:Addr}{N ps:List Str}{k n:Nat}{b:MS}
variable{so sc sc1:Scope}{own own1:List Str}{cap cap1:List (Nat×Str)}{cd:Value}{A:aq}{outer:List bi}{s:aa}{H:Hp}{E:XK}{C:Addr}{BK:aa}{BM:Hp}{ex:List Addr}
theorem Yw(a:sc.kind=.function:=by rfl)(b:∀y∈sc.names,y.2=.local->sc.names.lookup y.1=some .local:=by decide+kernel)(c:∀y∈sc.names,y.2≠.cell:=by decide+kernel)(d:∀y∈sc.names,y.2=.free->so.names.lookup y.1=some .cell:=by decide+kernel)(e:∀p∈cap,N[p.1]?=some p.2:=by decide+kernel)(g:∀p∈cap,sc.names.lookup p.2=some .free:=by decide+kernel):jB (fD fL P w K mg base N qual so f cd A outer s H E).nox sc own cap:=Rv so N rfl rfl a b c d e g
theorem adA(a:sc.kind=.function:=by rfl)(b:∀y∈sc.names,y.2=.local->sc.names.lookup y.1=some .local:=by decide+kernel)(c:∀y∈sc.names,y.2=.cell->sc.names.lookup y.1=some .cell:=by decide+kernel)(d:∀y∈sc.names,y.2=.free->so.names.lookup y.1=some .cell:=by decide+kernel)(e:∀p∈cap,N[p.1]?=some p.2:=by decide+kernel)(g:∀p∈cap,sc.names.lookup p.2=some .free:=by decide+kernel):oQ (fD fL P w K mg base N qual so f cd A outer s H E).nox sc own cap:=aci so N rfl rfl a b c d e g
theorem Hv(a:sc.kind=.function:=by rfl)(b:∀y∈sc.names,y.2=.local->sc.names.lookup y.1=some .local:=by decide+kernel)(c:∀y∈sc.names,y.2≠.cell:=by decide+kernel)(d:∀y∈sc.names,y.2=.free->sc1.names.lookup y.1=some .free/\so.names.lookup y.1=some .cell:=by decide+kernel)(e:∀p∈cap,(dE own1 cap1)[p.1]?=some p.2:=by decide+kernel)(g:∀p∈cap,sc.names.lookup p.2=some .free:=by decide+kernel)(hk:so.kind=.function:=by rfl):jB (iR (fD fL P w K mg base N qual so f cd A outer s H E).nox sc1 (dE own1 cap1) C BK BM ex) sc own cap:=abV so rfl hk a b c d e g
theorem Iv(a:sc.kind=.function:=by rfl)(b:∀y∈sc.names,y.2=.local->sc.names.lookup y.1=some .local:=by decide+kernel)(c:∀y∈sc.names,y.2≠.cell:=by decide+kernel)(d:∀y∈sc.names,y.2=.free->sc1.names.lookup y.1=some .cell\/(sc1.names.lookup y.1=some .free/\so.names.lookup y.1=some .cell):=by decide+kernel)(e:∀p∈cap,(dE own1 cap1)[p.1]?=some p.2:=by decide+kernel)(g:∀p∈cap,sc.names.lookup p.2=some .free:=by decide+kernel)(hk:so.kind=.function:=by rfl):jB (jX (fD fL P w K mg base N qual so f cd A outer s H E).nox sc1 (dE own1 cap1) C BK BM ex) sc own cap:=acn so rfl hk a b c d e g
theorem bP{N ps:List Str}{sc:Scope}(a:sc.kind=.function:=by rfl)(b:sc.isCoroutine=false:=by rfl)(c:sc.isGenerator=false:=by rfl)(d:N.Nodup:=by decide+kernel)(e:N.take ps.length=ps:=by rfl)(f:∀x∈ps,sc.names.lookup x=some .local\/sc.names.lookup x=some .cell:=by decide+kernel)(g:∀y∈sc.names,y.2≠.free:=by decide+kernel):iV N ps sc:=⟨a,b,c,d,e,f,g⟩
def Ci(P:Program)(w:am)(K:ae)(mg:Str->BC)(base:Heap)(cl:Str->Addr)(x:Str)(k:Nat)(ps:List Str)(g:FM):Prop:=∃(a:Addr)(d:ca),eI P w K mg base (iJ P w) k a d ps (lE K cl g)/\eI P w K mg base fL k a d ps (lC K cl g)/\kC K d ps []/\fm K (.ref a)=true/\mg x=some (.ref a)
theorem Zh  {a:Addr}{d:ca}(G:eI P w K mg base (iJ P w) k a d ps (lE K cl g))(b:kC K d ps [])(kp:fm K (.ref a)=true)(n:mg x=some (.ref a)):Ci P w K mg base cl x k ps g:=⟨_,_,G,x0 G,b,kp,n⟩
theorem aeY     {pos p:ai}{k0:Nat}{g:FM}(C:Ci X.prog X.w X.K X.mg X.base cl x k ps g)(hr:dH k0 X.A)(hk:k<=k0)(hg:Gl X x)(ha:eQ X.K cl E0 X (e::es) ms)(hdb:(x==("__debug__":Str))=false:=by decide)(he:starEach (e::es) X.env=(false,eval e X.env)::starEach es X.env:=by rfl)(hpl:(backTo pos (starEach es X.env)).any (·.1)=false:=by rfl):
  aN X.K cl E0 X (.Call (.Name x p) (e::es) [] pos) (kM g [] ms):=by
 obtain⟨a,d,_,G,b,kk,n⟩:=C;exact acH G (hr.mono hk) hg n kk b .nil Dv.nil ha hdb he hpl
end
structure Bx where
 P:Program
 w:am
 K:ae
 mg:Str->BC
 base:Heap
 cl:Str->Addr
abbrev bR(B:Bx)(x:Str)(k:Nat)(ps:List Str)(g:FM):Prop:=Ea B.P B.w B.K B.mg B.base B.cl x k ps g
abbrev Ha(B:Bx)(x:Str)(k:Nat)(ps:List Str)(g:FM):Prop:=Ci B.P B.w B.K B.mg B.base B.cl x k ps g
def HF(K:ae)(x:Str)(st:Stmt):Prop:=∃(f:Addr)(fd:ca),cv K mainGlobals x=some (some (.ref f))/\jI K x x st f fd
def XG(K:ae)(mg:Str->BC):Prop:=∃h:Heap,K.In h/\h.Ns mainGlobals mg
section
variable{B:Bx}{x:Str}{st:Stmt}{f:Addr}{fd:ca}{N ps:List Str}{k np n:Nat}{b:MS}
theorem Bf(X:XG B.K B.mg)(q:HF B.K x st):∃f fd,jI B.K x x st f fd/\fm B.K (.ref f)=true/\B.mg x=some (.ref f):=by
 obtain⟨f,fd,a,F⟩:=q;obtain⟨h,X,G⟩:=X;exact⟨f,fd,F,F.kp,kl X G a⟩
theorem aeZ{K:ae}{oc:Value}{od an:BD}{osl:Array BC}{kV doc pm cdv ct:Value}(a:cv K mainGlobals x=some (some (.ref f)))(l:K.lookup f=some ⟨oc,od,.func (dj x x (gR st) (eF st) (bY st) .none kV doc pm an cdv ct),osl⟩)
  (c:jg K cdv x=true)(k:fm K (.ref f)=true):HF K x st:=⟨_,_,a,Ov l c k⟩
theorem Ii(F:jI B.K x x st f fd)(h:∀(kV doc pm:Value)(an:BD)(cdv ct:Value)(us:BB),us.length=ps.length->bindArgs (dj x x (gR st) (eF st) (bY st) .none kV doc pm an cdv ct) ⟨us,[]⟩=pure (ps.zip us)):kC B.K fd ps []:=F.binds λkV doc pm an cdv ct us hl=>h _ _ _ _ _ _ _ hl
theorem bV(X:XG B.K B.mg)(q:HF B.K x st)(S:iV N ps (bY st))(hb:N.Nodup->∀(f:Addr)(cdv:Value)(A:aq)(outer:List bi)(s:aa)(H:Hp)(E:XK),dH k (A.deeper (envOfC x (bY st) s.heap.objs.size f cdv))->gB B.K B.cl E0 (fD fL B.P B.w B.K B.mg B.base N x (bY st) f cdv A outer s H E).nox (eF st) b)(hnp:ps.length=np:=by rfl)(hn:N.length=n:=by rfl)
  (h:∀(kV doc pm:Value)(an:BD)(cdv ct:Value)(us:BB),us.length=ps.length->bindArgs (dj x x (gR st) (eF st) (bY st) .none kV doc pm an cdv ct) ⟨us,[]⟩=pure (ps.zip us):=by intro _ _ _ _ _ _ us h;rcases us with _ |⟨_,_ |⟨_,_ |⟨_,_ |⟨_,_ |⟨_,_ |⟨_,_⟩⟩⟩⟩⟩⟩<;>first |(cases h;done) |rfl |(simp at h)):bR B x (k+1) ps (aL np n b):=by
 obtain⟨f,fd,F,kp,m⟩:=Bf X q;exact⟨f,fd,Qz F S hnp hn λcdv A outer s H E hr=>hb S.nd f _ A _ s H E hr,Ii F h,kp,m⟩
theorem mkL(X:XG B.K B.mg)(q:HF B.K x st)(S:iV N ps (bY st))(hb:N.Nodup->∀(f:Addr)(cdv:Value)(A:aq)(outer:List bi)(s:aa)(H:Hp)(E:XK),dH k (A.deeper (envOfC x (bY st) s.heap.objs.size f cdv))->gB B.K B.cl E0 (fD fL B.P B.w B.K B.mg B.base N x (bY st) f cdv A outer s H E).nox (eF st) b)(hnp:ps.length=np:=by rfl)(hn:N.length=n:=by rfl)
  (h:∀(kV doc pm:Value)(an:BD)(cdv ct:Value)(us:BB),us.length=ps.length->bindArgs (dj x x (gR st) (eF st) (bY st) .none kV doc pm an cdv ct) ⟨us,[]⟩=pure (ps.zip us):=by intro _ _ _ _ _ _ us h;rcases us with _ |⟨_,_ |⟨_,_ |⟨_,_ |⟨_,_ |⟨_,_ |⟨_,_⟩⟩⟩⟩⟩⟩<;>first |(cases h;done) |rfl |(simp at h)):bR B x (k+1) ps (rD np n b):=by
 obtain⟨f,fd,F,kp,m⟩:=Bf X q;exact⟨f,fd,okL F S hnp hn λcdv A outer s H E hr=>hb S.nd f _ A _ s H E hr,Ii F h,kp,m⟩
theorem mkX(X:XG B.K B.mg)(q:HF B.K x st)(S:iV N ps (bY st))(hb:N.Nodup->∀(f:Addr)(cdv:Value)(A:aq)(outer:List bi)(s:aa)(H:Hp)(E:XK),dH k (A.deeper (envOfC x (bY st) s.heap.objs.size f cdv))->gB B.K B.cl E (fD (iJ B.P B.w) B.P B.w B.K B.mg B.base N x (bY st) f cdv A outer s H E) (eF st) b)(hnp:ps.length=np:=by rfl)(hn:N.length=n:=by rfl)
  (h:∀(kV doc pm:Value)(an:BD)(cdv ct:Value)(us:BB),us.length=ps.length->bindArgs (dj x x (gR st) (eF st) (bY st) .none kV doc pm an cdv ct) ⟨us,[]⟩=pure (ps.zip us):=by intro _ _ _ _ _ _ us h;rcases us with _ |⟨_,_ |⟨_,_ |⟨_,_ |⟨_,_ |⟨_,_ |⟨_,_⟩⟩⟩⟩⟩⟩<;>first |(cases h;done) |rfl |(simp at h)):Ha B x (k+1) ps (aL np n b):=by
 obtain⟨f,fd,F,kp,m⟩:=Bf X q;exact Zh (okX F S hnp hn λcdv A outer s H E hr=>hb S.nd f _ A _ s H E hr) (Ii F h) kp m
theorem mkR(F:jI B.K x x st f fd)(S:iV N ps (bY st))(hb:N.Nodup->∀(f:Addr)(cdv:Value)(A:aq)(outer:List bi)(s:aa)(H:Hp)(E:XK),dH k (A.deeper (envOfC x (bY st) s.heap.objs.size f cdv))->gB B.K B.cl E0 (fD fL B.P B.w B.K B.mg B.base N x (bY st) f cdv A outer s H E).nox (eF st) b)(hnp:ps.length=np:=by rfl)(hn:N.length=n:=by rfl):eI B.P B.w B.K B.mg B.base fL (k+1) f fd ps (lC B.K B.cl (aL np n b)):=Qz F S hnp hn λcdv A outer s H E hr=>hb S.nd f _ A _ s H E hr
theorem Iz  (F:nY B.K x x st f fd dsv)(S:iV N ps (bY st))(hb:N.Nodup->∀(f:Addr)(cdv:Value)(A:aq)(outer:List bi)(s:aa)(H:Hp)(E:XK),dH k (A.deeper (envOfC x (bY st) s.heap.objs.size f cdv))->gB B.K B.cl E (fD (iJ B.P B.w) B.P B.w B.K B.mg B.base N x (bY st) f cdv A outer s H E) (eF st) b)(hnp:ps.length=np:=by rfl)(hn:N.length=n:=by rfl):eI B.P B.w B.K B.mg B.base (iJ B.P B.w) (k+1) f fd ps (lE B.K B.cl (aL np n b)):=afR F S hnp hn λcdv A outer s H E hr=>hb S.nd f _ A _ s H E hr
section
variable{P:Program}{w:am}{K:ae}{mg:Str->BC}{base:Heap}{qual:Str}{so sc:Scope}{own:List Str}{cap:List (Nat×Str)}{cd:Value}{A:aq}{outer:List bi}{s:aa}{H:Hp}{E:XK}
theorem Iw(a:sc.kind=.function:=by rfl)(b:∀y∈sc.names,y.2=.local->sc.names.lookup y.1=some .local:=by decide+kernel)(c:∀y∈sc.names,y.2≠.cell:=by decide+kernel)(d:∀y∈sc.names,y.2=.free->so.names.lookup y.1=some .cell:=by decide+kernel)(e:∀p∈cap,N[p.1]?=some p.2:=by decide+kernel)(g:∀p∈cap,sc.names.lookup p.2=some .free:=by decide+kernel):jB (fD (iJ P w) P w K mg base N qual so f cd A outer s H E) sc own cap:=Rv so N rfl rfl a b c d e g
end
end
end L2.Pp
namespace L2
open PySem PySem.Spec PyProof.Rows Bn
section
open PySem.W (KasT kas_sort kas_asc kas_desc kas_rev kas_tail3 kas_descPart kas_count kas_place kas_bin)
section
variable{α:Type}{lt:α->α->Bool}
def ins(lt:α->α->Bool)(x:α):List α->List α
 |[]=>[x]
 |y::r=>if lt x y then x::y::r else y::ins lt x r
end
end
open L2.Pp
end L2
namespace L2.Pp
open PySem PySem.Spec PyProof.Rows Bn
theorem aaW{K:ae}{cl:Str->Addr}{E:XK}{X:Cx}{st:List Stmt}:gB K cl E X st (λ_ _=>.fail):=λ_ BJ s σ H D I ⟨_,_,_,_,_,h⟩=>h.elim
section
variable{prog:Program}{w:am}{A:aq}{E:Value->aa->Prop}{s:aa}
theorem To{l:Addr}{h':Heap}(hk:∀b o,b∉[s.heap.objs.size]->(s.heap.push {cls:=.type "tuple_iterator",data:=.fields #[.ref l,.int 0 0]}).get? b=some o->h'.get? b=some o):∀b o,s.heap.get? b=some o->h'.get? b=some o:=λb o e=>by
 refine hk b o (λhm=>?_) (ar _ e);rcases bj.mp hm with e1 |hm
 .exact absurd (e1▸ax e) (ix _)
 .cases hm
theorem Au{l:Addr}{items:Array Value}(hl:s.heap.IsTuple l items){o:Obj}:∀b∈[s.heap.objs.size,l],b<(s.heap.push o).objs.size:=λb hb=>by
 have hlt:l<s.heap.objs.size:=by obtain⟨_,e,_⟩:=hl;exact ax e
 rw[jb];rcases bj.mp hb with rfl |hb
 .exact xp _
 .rcases bj.mp hb with rfl |hb
  .exact xv hlt
  .cases hb
theorem L0{l:Addr}{xs:Array (Int×Tok)}{Q:Value->aa->Prop}(hh:A.handled=none)(hl:s.heap.IsTuple l (intItems xs))(hne:0<xs.size)
  (h:∀v h' tk,(intItems xs)[argBest (λi j=>decide (numAt xs i>numAt xs j)) (xs.size-1)]?=some v->(∀b o,s.heap.get? b=some o->h'.get? b=some o)->Q v {s with heap:=h',toks:=tk}):
  wpAny (model prog w) A (call (.builtin "max") [.ref l]) Q E s:=by
 have hlt:l<s.heap.objs.size:=by obtain⟨_,e,_⟩:=hl;exact ax e
 refine call_max_walk (pz hl ?_);refine⟨_,_,_,_,_,_,_,rfl,xy (A:=A.in1) hh _ l (cw hlt) (intItems xs),⟨⟨_,cj _ rfl,rfl,rfl⟩,hl.push _⟩,Au hl,by simpa[intItems]using hne,CmpOf.ints_gt (numAt xs) (λ_ _=>ua),λv h' tk hP hk=>?_⟩;exact h v h' tk (by simpa[intItems]using hP) (To hk)
theorem I0{l:Addr}{xs:Array (Int×Tok)}{Q:Value->aa->Prop}(hh:A.handled=none)(hl:s.heap.IsTuple l (intItems xs))(hne:0<xs.size)
  (h:∀v h' tk,(intItems xs)[argBest (λi j=>decide (numAt xs i<numAt xs j)) (xs.size-1)]?=some v->(∀b o,s.heap.get? b=some o->h'.get? b=some o)->Q v {s with heap:=h',toks:=tk}):
  wpAny (model prog w) A (call (.builtin "min") [.ref l]) Q E s:=by
 have hlt:l<s.heap.objs.size:=by obtain⟨_,e,_⟩:=hl;exact ax e
 refine call_min_walk (pz hl ?_);refine⟨_,_,_,_,_,_,_,rfl,xy (A:=A.in1) hh _ l (cw hlt) (intItems xs),⟨⟨_,cj _ rfl,rfl,rfl⟩,hl.push _⟩,Au hl,by simpa[intItems]using hne,CmpOf.ints_lt (numAt xs) (λ_ _=>ua),λv h' tk hP hk=>?_⟩;exact h v h' tk (by simpa[intItems]using hP) (To hk)
end
section
open PySem.AutoSeq1 (wpAny_loadPart')
open PySem.MeetsSeq PySem.MeetsSeq2 PySem.MeetsSeq3 PySem.SeqRoads2
theorem Zz{M:Model}{A:aq}{E:Value->aa->Prop}{s:aa}{β:Type}(n:Nat)(f:Nat->β->Sem (ForInStep β))(I:List Nat->β->aa->Prop)(Q:β->aa->Prop)
  (turn:∀x eU b s,I (x::eU) b s->wpAny M A (f x b) (λr s'=>match r with |.yield b'=>I eU b' s' |.done b'=>Q b' s') E s)
  (fin:∀b s,I [] b s->Q b s)(b:β)(h:I (ce n) b s):wpAny M A (forIn [0:n] b f) Q E s:=by
 rw[AW];refine wpAny_forIn_list f I Q turn fin _ b ?_;simpa[AX,v7]using h
theorem B9(l:Addr)(items:Array Value)(n:Nat)(dd:BD)(sl:Array BC)(x:Value)(e:Value->Bool)(j:Nat)(hj:j<items.size)
  (hit:e items[j]=true)(hno:∀m(hm:m<items.size),m<j->e items[m]=false):
  Meets (Builtin.«tuple.index» ⟨[.ref l,x],[]⟩)
   (λA R s=>s.heap.get? l=some {cls:=.type "tuple",dict:=dd,data:=.seq items n,slots:=sl}/\(∀y,y∈items->jc A.in1 s y x (e y))/\R (.ok (.ret (.int j s.toks))) {s with toks:=s.toks+1}):=by
 refine .of_wp λprog w A R s h=>?_;obtain⟨hp,g,d,tk,os⟩:=s;obtain⟨hl,he,h⟩:=h
 wp_walk using yi hl,Zz _ _ (λeU b s'=>b.1=none/\s'=⟨hp,g,d,tk,os⟩/\∃i,eU=List.range' i (items.size-i)/\i<=j) _
 case turn=>
  rintro y eU b s' ⟨hb,rfl,i,hr,hij⟩
  have hz:items.size-i=(items.size-(i+1))+1:=by omega
  rw[hz,List.range'_succ]at hr;injection hr with h1 h2;subst h1;have hlt:y<items.size:=by omega
  have hi:items[y]?=some items[y]:=by simp[hlt]
  rw[hi];refine ag (he _ (Array.getElem_mem hlt) prog w _ _ ?_)
  by_cases c:y=j
  .subst c
   rw[hit]
   wp_walk
   exact⟨_,rfl,h⟩
  .rw[hno y hlt (by omega)]
   wp_walk
   exact⟨rfl,rfl,y+1,h2,by omega⟩
 case fin=>
  rintro⟨b1,b2⟩ s' ⟨hb,rfl,i,hr,hij⟩
  have:=congrArg kq hr;rw[List.length_range']at this;simp at this;omega
 case h=>
  exact⟨rfl,rfl,0,by simp[v7],by omega⟩
end
section
variable{K:ae}{cl:Str->Addr}{E:XK}{X:Cx}
theorem P4(hc:X.calm=true):iH X (.builtin "max") (λxs H Q=>∃(a:Addr)(is:AY),xs=[.ref a]/\cG X.K H a (is.map V.int)/\is≠[]/\∀M,M∈is->(∀b∈is,b<=M)->Q (.int M) H):=by
 intro BJ s σ H xs us Q I r h;obtain⟨a,is,rfl,hq,hne,q⟩:=h;obtain⟨u,rfl,ru⟩:=jC r;cases ru;obtain⟨its,rv,pl,hz⟩:=I.tuple hq;have hi:=yB rv;have hl:s.heap.IsTuple a its.toArray:=pl;obtain⟨xs,e⟩:=hi.allInts.items;have hns:is=xs.toList.map (·.1):=by rw[<-hi.numsOf,<-nums_intItems,<-e]
 have hsz:0<xs.size:=by
  have h3:0<is.length:=yl.mpr hne;rw[hns,ak,kg]at h3;exact h3
 rw[e]at hl;refine L0 (I.ok.hd hc) hl hsz λv h' tk hv hk=>?_;obtain⟨t,rfl⟩:=ua hv;obtain⟨h1,h2⟩:=argBest_gt (numAt xs) (xs.size-1);refine⟨.int _,H,I.kept (h':=h') (t':=tk) hk,⟨t,rfl⟩,q _ ?_ λa ha=>?_⟩
 .rw[hns,ub]
  exact getD_mem (by rw[ak,kg];omega)
 .rw[hns]at ha
  obtain⟨j,hj,rfl⟩:=mem_getD ha;rw[ak,kg]at hj;rw[<-ub];exact h2 j (by omega)
def qM:BF->BG
 |[.tup xs]=>(fS xs).bind λbs=>bs.max?.map .int
 |_=>none
theorem acZ:jH K (λxs H Q=>∃(a:Addr)(is:AY),xs=[.ref a]/\cG K H a (is.map V.int)/\is≠[]/\∀M,M∈is->(∀b∈is,b<=M)->Q (.int M) H) qM:=λ{p S H as c xs Q} s ra e k=>by
 unfold qM at e;split at e
 .rename_i zs
  cases y:fS zs with
  |none=>rw[y]at e;cases e
  |some bs=>
   rw[y]at e;cases ra with
   |cons h t=>
    cases t;obtain⟨a,vs,rfl,l,z,r⟩:=h.tup;rw[oG y r]at l;have e:bs.max?.map PV.int=some c:=e;cases y2:bs.max? with
    |none=>rw[y2]at e;cases e
    |some m=>
     rw[y2]at e;cases e;refine⟨a,bs,rfl,l,λz=>?_,λM hM hle=>?_⟩
     .rw[z]at y2
      cases y2
     .have e2:bs.max?=some M:=v8.mpr ⟨hM,hle⟩
      rw[y2]at e2;cases e2;exact k H _ (cZ.refl H) (iD (v:=.int _) rfl)
 .cases e
theorem O6(hc:X.calm=true):iH X (.builtin "min") (λxs H Q=>∃(a:Addr)(is:AY),xs=[.ref a]/\cG X.K H a (is.map V.int)/\is≠[]/\∀M,M∈is->(∀b∈is,M<=b)->Q (.int M) H):=by
 intro BJ s σ H xs us Q I r h;obtain⟨a,is,rfl,hq,hne,q⟩:=h;obtain⟨u,rfl,ru⟩:=jC r;cases ru;obtain⟨its,rv,pl,hz⟩:=I.tuple hq;have hi:=yB rv;have hl:s.heap.IsTuple a its.toArray:=pl;obtain⟨xs,e⟩:=hi.allInts.items;have hns:is=xs.toList.map (·.1):=by rw[<-hi.numsOf,<-nums_intItems,<-e]
 have hsz:0<xs.size:=by
  have h3:0<is.length:=yl.mpr hne;rw[hns,ak,kg]at h3;exact h3
 rw[e]at hl;refine I0 (I.ok.hd hc) hl hsz λv h' tk hv hk=>?_;obtain⟨t,rfl⟩:=ua hv;obtain⟨h1,h2⟩:=argBest_lt (numAt xs) (xs.size-1);refine⟨.int _,H,I.kept (h':=h') (t':=tk) hk,⟨t,rfl⟩,q _ ?_ λa ha=>?_⟩
 .rw[hns,ub]
  exact getD_mem (by rw[ak,kg];omega)
 .rw[hns]at ha
  obtain⟨j,hj,rfl⟩:=mem_getD ha;rw[ak,kg]at hj;rw[<-ub];exact h2 j (by omega)
def vN:BF->BG
 |[.tup xs]=>(fS xs).bind λbs=>bs.min?.map .int
 |_=>none
theorem ad1:jH K (λxs H Q=>∃(a:Addr)(is:AY),xs=[.ref a]/\cG K H a (is.map V.int)/\is≠[]/\∀M,M∈is->(∀b∈is,M<=b)->Q (.int M) H) vN:=λ{p S H as c xs Q} s ra e k=>by
 unfold vN at e;split at e
 .rename_i zs
  cases y:fS zs with
  |none=>rw[y]at e;cases e
  |some bs=>
   rw[y]at e;cases ra with
   |cons h t=>
    cases t;obtain⟨a,vs,rfl,l,z,r⟩:=h.tup;rw[oG y r]at l;have e:bs.min?.map PV.int=some c:=e;cases y2:bs.min? with
    |none=>rw[y2]at e;cases e
    |some m=>
     rw[y2]at e;cases e;refine⟨a,bs,rfl,l,λz=>?_,λM hM hle=>?_⟩
     .rw[z]at y2
      cases y2
     .have e2:bs.min?=some M:=w8.mpr ⟨hM,hle⟩
      rw[y2]at e2;cases e2;exact k H _ (cZ.refl H) (iD (v:=.int _) rfl)
 .cases e
def ab1(K:ae):V->List V->Hp->VK->Prop:=λx vs H Q=>∃(a:Addr)(is:AY)(i:Int)(j:Nat),x=.ref a/\vs=[.int i]/\cG K H a (is.map V.int)/\lD i is=some j/\Q (.int (j:Nat)) H
theorem Q6:wD X "tuple.index" (ab1 X.K):=by
 intro BJ s σ H x vs v us Q I rx rv h;obtain⟨a,is,i,j,rfl,rfl,hq,hx,q⟩:=h;cases rx;obtain⟨u,rfl,ru⟩:=rv.one;obtain⟨t,rfl⟩:=ru;obtain⟨its,r,pl,hz⟩:=I.tuple hq;have hi:=yB r;obtain⟨h1,h2,h3⟩:=Dm hi hx;obtain⟨⟨cls,dd,data,sl⟩,ho,hc,n,hd⟩:=id pl;simp only at hc hd;subst hc hd;refine mn AA ⟨_,ho,rfl⟩ PySem.F.entry_tuple_index (PySem.F.args_tuple_index_2 _ _) (B9 a its.toArray n dd sl (.int i t) (isInt i) j (by simpa using h1) (by simpa using h2) (λm hm hlt=>by simpa using h3 m (by simpa using hm) hlt)) ⟨ho,λy hy=>(eq_isInt i t hi y (by simpa using hy)).at _ _,?_⟩;exact⟨.int _,H,I.tok _,⟨_,rfl⟩,q⟩
def afY(K:ae)(x:V)(H:Hp):Prop:=∃a xs,x=.ref a/\cG K H a xs
theorem acX{o e:ah}{es:List ah}{to:TE}{t:TA}{name:Str}{apos cpos:ai}{id:String}{r:V->List V->Hp->VK->Prop}(slot:Slot "tuple" name id)(hty:typeOf (.builtin id)=pure (.type "method_descriptor"))(hm:wD X id r)(ho:PE X o to)(ha:PA X (e::es) t)
  (hbase:attributeBase o name X.env (eval o X.env)=eval o X.env:=by rfl)
  (hfew:((backTo cpos (starEach (e::es) X.env)).all (λx=>!x.1)&&(backToKw cpos (keywordEach [] X.env)).all (λx=>x.1.isSome)
   &&decide ((e::es).length+([]:List ft).length+(if([]:List ft).isEmpty then 0 else 1)<30))=true:=by rfl)
  (hline:(apos.endLine==cpos.line)=true:=by rfl)(hs:starEach (e::es) X.env=(false,eval e X.env)::starEach es X.env:=by rfl)(hplain:(backTo cpos (starEach es X.env)).any (·.1)=false:=by rfl):
  PE X (.Call (.Attribute o name apos) (e::es) [] cpos) (λσ H Q=>to σ H λx H1=>afY X.K x H1/\t σ H1 λxs H2=>r x xs H2 Q):=by
 intro BJ s σ H Q I h;refine wm hbase hfew hline rfl (bA (ho BJ s σ H _ I h) λv s1 hq=>?_);rcases hq with⟨x,H1,I1,r1,⟨a,ds,ex,hH⟩,q1⟩;subst ex;cases r1;obtain⟨its,rv,⟨ob,hg,hc,_⟩,_⟩:=I1.tuple hH;refine⟨"tuple",id,PySem.F.plainAttrs_tuple,slot,hty,⟨_,hg,hc⟩,λb eb=>?_,?_⟩
 .cases eb
  exact I1.tupD hH
 have hA:=ha cpos BJ s1 σ H1 _ I1 q1;rw[hs]at hA⊢;refine wn (by show(false||(backTo cpos (starEach es X.env)).any (·.1))=false;rw[hplain]<;>rfl) (qv ?_);exact bA hA λus s2 ⟨vs,H2,I2,r2,q2⟩=>hm BJ s2 σ H2 (.ref a) vs (.ref a) us Q I2 rfl r2 q2
def tupR{α:Type}(k:AV)(f:bH α):bH α:=match k with
 |.pv (.tup _)=>f
 |_=>.fail
def uW(v:AV)(ys:BI)(S:aJ):bH AV:=match v,ys with
 |.pv (.tup xs),[.pv (.int i)]=>match fS xs with
  |some is=>match lD i is with
   |some j=>.ok (.pv (.int (j:Nat))) S
   |none=>.fail
  |none=>.fail
 |_,_=>.fail
def oV(m:ME)(ms:MA):ME:=λρ S=>(m ρ S).bind λk S1=>tupR k ((ms ρ S1).bind λys S2=>uW k ys S2)
variable{a e:ah}{m:ME}{ms:MA}
theorem U3{apos cpos:ai}(ho:aN K cl E X a m)(ha:eQ K cl E X [e] ms)(hbase:attributeBase a "index" X.env (eval a X.env)=eval a X.env:=by rfl)
  (hfew:((backTo cpos (starEach [e] X.env)).all (λx=>!x.1)&&(backToKw cpos (keywordEach [] X.env)).all (λx=>x.1.isSome)&&decide (([e]:List ah).length+([]:List ft).length+(if([]:List ft).isEmpty then 0 else 1)<30))=true:=by rfl)
  (hline:(apos.endLine==cpos.line)=true:=by rfl)(hs:starEach [e] X.env=[(false,eval e X.env)]:=by rfl):aN K cl E X (.Call (.Attribute a "index" apos) [e] [] cpos) (oV m ms):=by
 intro hK;subst hK;refine PE.imp (acX AA PySem.F.type_tuple_index Q6 (ho rfl) (ha rfl) hbase hfew hline hs rfl) ?_
 rintro σ H Q ⟨p,S,ρ,s,ev,h⟩
 refine bW s ev h λq H1 k x S1 st s1 e1 r1 h1=>?_;unfold tupR at h1;split at h1
 .rename_i zs
  obtain⟨b0,ws,rfl,sq,lw,rw0⟩:=(show eM X.K q H1 (.tup zs) x from .inl r1).tup;refine⟨⟨_,_,rfl,sq⟩,bW s1 e1 h1 λq2 H2 ys xs S2 st2 s2 e2 r2 h2=>?_⟩;obtain⟨b1,lJ,ex,sq1,lw1,rw1⟩:=(show eM X.K q2 H2 (.tup zs) (.ref b0) from .inl (st2.repA (v:=.pv (.tup zs)) r1)).tup;unfold uW at h2;split at h2
  .rename_i zs' i hzz
   cases hzz;cases r2 with
   |cons r3 r4=>
    cases r4;have ei:=(show eM X.K q2 H2 (.int i) _ from .inl r3).int;cases y:fS zs with
    |none=>rw[y]at h2;exact h2.elim
    |some is=>
     rw[y]at h2;rw[oG y rw1]at sq1;cases ex;dsimp only at h2;cases y2:lD i is with
     |none=>rw[y2]at h2;exact h2.elim
     |some j=>
      rw[y2]at h2;exact⟨b0,is,i,j,rfl,by rw[ei],sq1,y2,h2 q2 H2 _ s2.step s2 (by show bG X.K q2.c H2 _ _;unfold bG;rfl)⟩
  .exact h2.elim
 .exact h1.elim
end
end L2.Pp
namespace L2
open PySem PySem.Spec PyProof.Rows Bn
theorem aaV{X:Cx}:dM X (binaryOp .FloorDiv) (rI (λ_ j=>j≠0) λi j=>.int (i.fdiv j)):=by
 intro BJ s σ H x y v u Q I rx ry h;obtain⟨i,j,rfl,rfl,hc,q⟩:=h;obtain⟨t,rfl⟩:=rx;obtain⟨t',rfl⟩:=ry;exact floordiv_int hc ⟨.int (i.fdiv j),H,I.tok _,⟨_,rfl⟩,q⟩ (.inr I.pyl)
end L2
namespace L2.Pp
open PySem PySem.Spec PyProof.Rows Bn
def lQ:=i2 (cI (λ_ j=>j≠0) λi j=>.int (i.fdiv j))
theorem acC{K:ae}:fW K (rI (λ_ j=>j≠0) λi j=>.int (i.fdiv j)) lQ:=vR λ_ _=>⟨rfl,rfl⟩
theorem Kc{i j:Int}(h:j≠0):lQ (.int i) (.int j)=some (.int (i.fdiv j)):=by
 unfold lQ i2 cI;exact if_pos h
end L2.Pp
namespace L2
open PySem PySem.Spec PyProof.Rows
def seerB(K:ae):Bool:=AC K cStatics&&cv K cStatics "sys.audit-hooks"==some none&&cv K cStatics "sys.dict"==some none&&AC K sysModules&&cv K sysModules "_pylong"==some none&&
 (match cv K mainGlobals "__builtins__" with
  |some (some (.ref bm))=>(match K.lookup bm with
   |some o=>o.cls== .type "module"&&o.dict==some builtinsNs
   |none=>false)
  |_=>false)
theorem seer_of{K:ae}{h:Heap}{mg mb:Str->BC}(q:seerB K=true)(X:K.In h)(G:h.Ns mainGlobals mg)(B:h.Ns builtinsNs mb)(hb:∀x:Str,x≠"__name__"->mb x=bootBuiltins x):h.NoSeer:=by
 unfold seerB at q;simp only[ja,beq_iff_eq]at q;obtain⟨⟨⟨⟨⟨q1,q2⟩,q3⟩,q4⟩,q5⟩,q6⟩:=q;refine⟨⟨_,.of_isNs (xf X q1),ss X q1 q2,ss X q1 q3⟩,⟨_,.of_isNs (xf X q4),ss X q4 q5⟩,⟨mb,B,hb⟩,?_⟩;generalize hn:cv K mainGlobals "__builtins__"=n at q6
 match n,q6 with
 |some (some (.ref bm)),q6=>
  dsimp only at q6;cases ho:K.lookup bm with
  |none=>rw[ho]at q6;cases q6
  |some o=>
   rw[ho]at q6;simp only[ja,beq_iff_eq]at q6;exact⟨mg,bm,o,G,kl X G hn,X _ _ ho,q6.1,q6.2⟩
open Bn
theorem Q8{X:Cx}(hc:X.calm=true):iH X (.builtin "any") (λxs H Q=>∃(a:Addr)(bs:List Bool),xs=[.ref a]/\bO X.K H a (bs.map V.bl)/\Q (.bl (bs.any id)) H):=by
 intro BJ s σ H xs us Q I r h;obtain⟨a,bs,rfl,hq,q⟩:=h;obtain⟨u,rfl,ru⟩:=jC r;cases ru;obtain⟨its,rv,pl,hz⟩:=I.list hq;have hl:bs.length=its.length:=by
  have:=rv.length
  rwa[ak]at this
 refine xx (ng pl.isList ?_);have ha:a<s.heap.objs.size:=by
  obtain⟨o,ho,_⟩:=pl.isList;exact ax ho
 refine⟨_,_,_,_,_,_,λi=>bs.getD i false,rfl,rf (prog:=X.prog) (w:=X.w) (A:=X.A.in1) (show X.A.in1.handled=none from I.ok.hd hc) s.heap.objs.size a (cw ha) its.toArray,⟨⟨_,cj _ rfl,rfl,rfl⟩,Heap.IsList.at pl.isList λo e=>ar _ e⟩,λi v s' Q' E' hv hQ=>?_,λh' tk kp=>?_⟩
 .have hv':its[i]?=some v:=by simpa using hv
  have hi:i<bs.length:=by
   have:=(bn.mp hv').1;omega
  obtain⟨u,hu,ru⟩:=rv.get (i:=i) (x:=.bl bs[i]) (by rw[az,ay hi];rfl);rw[hv']at hu;cases hu;cases(show v=oq bs[i] from ru);have e:bs.getD i false=bs[i]:=by simp[cr,hi]
  have hQ':Q' (bs.getD i false) s':=hQ;rw[e]at hQ';exact jy hQ'
 .have e:(ce its.toArray.size).any (λi=>bs.getD i false)=bs.any id:=by
   rw[bf,<-hl,ph,tj,tj];constructor
   .rintro⟨i,hi,z⟩
    have hi':i<bs.length:=by simpa using hi
    exact⟨bs[i],gi hi',by simpa[cr,hi']using z⟩
   .rintro⟨b,hb,z⟩
    obtain⟨i,hi,rfl⟩:=pr.mp hb;exact⟨i,by simpa using hi,by simpa[cr,hi]using z⟩
  show EP X BJ σ Q (.bool ((ce its.toArray.size).any λi=>bs.getD i false)) _;rw[e];have I1:aI X BJ σ H {s with heap:=s.heap.push {cls:=.type "list_iterator",data:=.fields #[.ref a,.int 0 0]},toks:=s.toks}:=I.kept λb o z=>ar _ z;have fp:fZ X BJ H s.heap.objs.size:=I.fpOk (al _) (I.hok.fresh (al _));obtain⟨f0,f1,f2,f3,f4,f5⟩:=fp;exact⟨.bl (bs.any id),H,I1.turned (λb o hb z=>kp b o (by simpa using hb) z) f0 f1 f3 f4 f5,rfl,q⟩
end L2
namespace L2.Pp
open PySem PySem.Spec PyProof.Rows Bn
def oW:BF->BG
 |[.lst xs]=>(iQ xs).map λbs=>.bl (bs.any id)
 |_=>none
theorem ad8{K:ae}:jH K (λxs H Q=>∃(a:Addr)(bs:List Bool),xs=[.ref a]/\bO K H a (bs.map V.bl)/\Q (.bl (bs.any id)) H) oW:=λ{p S H as c xs Q} s ra e k=>by
 unfold oW at e;split at e
 .rename_i zs
  cases y:iQ zs with
  |none=>rw[y]at e;cases e
  |some bs=>
   rw[y]at e;cases e;cases ra with
   |cons h t=>
    cases t;obtain⟨a,vs,rfl,l,z,r⟩:=h.lst;rw[Zc y r]at l;exact⟨a,bs,rfl,l,k H _ (cZ.refl H) (iD (v:=.bl _) rfl)⟩
 .cases e
theorem aen:bootBuiltins "len"=some (.builtin "len"):=by decide+kernel
theorem aer:bootBuiltins "abs"=some (.builtin "abs"):=by decide+kernel
theorem adf:bootBuiltins "all"=some (.builtin "all"):=by decide+kernel
theorem Fv:bootBuiltins "any"=some (.builtin "any"):=by decide+kernel
theorem adz:bootBuiltins "sum"=some (.builtin "sum"):=by decide+kernel
theorem adG:bootBuiltins "min"=some (.builtin "min"):=by decide+kernel
theorem adi:bootBuiltins "max"=some (.builtin "max"):=by decide+kernel
theorem S9:bootBuiltins "sorted"=some (.builtin "sorted"):=by decide+kernel
theorem Ev:bootBuiltins "int"=some (.type "int"):=by decide+kernel
theorem acm:bootBuiltins "bool"=some (.type "bool"):=by decide+kernel
theorem Ds:bootBuiltins "list"=some (.type "list"):=by decide+kernel
theorem Rp:bootBuiltins "tuple"=some (.type "tuple"):=by decide+kernel
end L2.Pp
set_option Elab.async false
set_option compiler.extract_closed false
set_option bootstrap.genMatcherCode false
set_option maxRecDepth 100000
set_option maxHeartbeats 4000000
namespace Sc
section
open PySem L2 Bn L2.Pp
abbrev Du:Stmt:=aO 6
abbrev Tl:Stmt:=aO 7
abbrev Gm:Stmt:=aO 8
abbrev uI:Stmt:=aO 9
abbrev Lu:Stmt:=aO 10
abbrev Ur:Stmt:=aO 11
abbrev uS:Stmt:=aO 13
abbrev Hj:Stmt:=aO 14
abbrev Hx:Stmt:=aO 15
abbrev Tn:Stmt:=aO 16
abbrev Jj:Stmt:=aO 17
abbrev Vt:Stmt:=aO 18
abbrev Mm:Stmt:=aO 20
abbrev Nk:Stmt:=aO 21
abbrev No:Stmt:=aO 22
abbrev Jp:Stmt:=aO 24
abbrev El:Stmt:=aO 25
abbrev sD:Stmt:=aO 26
abbrev Sj:Stmt:=aO 27
abbrev Ax:Stmt:=aO 28
abbrev Kv:Stmt:=aO 30
abbrev Bu:Stmt:=aO 32
abbrev Nq:Stmt:=aO 33
abbrev Kw:Stmt:=aO 34
abbrev Um:Stmt:=aO 35
abbrev Qn:Stmt:=aO 36
abbrev Ro:Stmt:=aO 37
abbrev Sm:Stmt:=aO 38
abbrev Sr:Stmt:=aO 39
abbrev Ku:Stmt:=aO 40
abbrev On:Stmt:=aO 41
abbrev Cw:Stmt:=aO 42
abbrev Ho:Stmt:=aO 43
abbrev Ow:Stmt:=aO 44
abbrev Ss:Stmt:=aO 45
abbrev Zv:Stmt:=aO 46
abbrev Cl:Stmt:=aO 47
abbrev Vs:Stmt:=aO 48
abbrev Qj:Stmt:=aO 49
abbrev Nj:Stmt:=aO 50
abbrev Fj:Stmt:=aO 51
abbrev Ep:Stmt:=aO 52
abbrev Yn:Stmt:=aO 53
abbrev Yv:Stmt:=aO 54
abbrev Rr:Stmt:=aO 55
abbrev Ps:Stmt:=aO 56
abbrev Ij:Stmt:=aO 57
abbrev Wi:Stmt:=aO 58
abbrev Rj:Stmt:=aO 59
abbrev Ak:Stmt:=aO 61
abbrev Yt:Stmt:=aO 60
abbrev Mt:Stmt:=aO 62
abbrev Vj:Stmt:=aO 63
abbrev Wv:Stmt:=aO 64
abbrev Wk:Stmt:=aO 65
abbrev Rs:Stmt:=aO 66
abbrev Ft:Stmt:=aO 67
abbrev Rn:Stmt:=aO 68
abbrev Yp:Stmt:=aO 69
abbrev Mj:Stmt:=aO 70
abbrev oY:Stmt:=aO 71
def Xe:MS:=(aE (bI (aR (aC dR (aA 0) (mC (.int 0)))) (aU (mC (.int 1))) cF)
 (aE (bI (aR (aC hJ (aA 0) (mC (.int 0)))) (aU (bS cM (mC (.int 1)))) cF)
 (aU (mC (.int 0)))))
def qF:FM:=aL 1 1 Xe
def Ic:MS:=(aE (nJ (aR (aC gM (aA 1) (mC (.int 0)))) (aE (aM 2 (aC fU (aA 0) (aA 1)))
 (aE (aM 0 (aA 1))
 (aM 1 (aA 2)))))
 (aU (mR jD (aB (aA 0) aD))))
def rP:FM:=aL 2 3 Ic
def Qc:MS:=(aE (aM 1 (mC (.int 0)))
 (aE (aY (aX (aA 0)) (gN 2) (aM 1 (aH rP [] (aB (aA 1) (aB (aA 2) aD)))))
 (aU (bC ["number"] [(1,"common")] (aX (aA 0)) (gN 0) (aC lQ (aA 0) (aA 1))))))
def wV:FM:=aL 1 3 Qc
def Zb:MS:=(aE (bI (aR (aC cB (aA 1) (mC (.int 0)))) (vE "NoNumber") cF)
 (aE (aM 2 (aC aV (aH qF [] (aB (aA 1) aD)) (aH rP [] (aB (aA 0) (aB (aA 1) aD)))))
 (aU (mN dP (aB (aC lQ (aA 0) (aA 2)) (aB (aC lQ (aA 1) (aA 2)) aD))))))
def rN:FM:=aL 2 3 Zb
def Af:MS:=(aU (kM rN [] (aB (aC bF (aC aV (aC aK (aA 0) (mC (.int 0))) (aC aK (aA 1) (mC (.int 1)))) (aC aV (aC aK (aA 1) (mC (.int 0))) (aC aK (aA 0) (mC (.int 1))))) (aB (aC aV (aC aK (aA 0) (mC (.int 1))) (aC aK (aA 1) (mC (.int 1)))) aD))))
def qK:FM:=aL 2 2 Af
def Te:MS:=(aE (nJ (aR (aC dR (mR cS (aB (aA 0) aD)) (mC (.int 1)))) (aE (aM 1 (bC ["one","other"] [] (gK (aB (qQ (aA 0) cJ cJ (2)) (aB (qQ (aA 0) (cU (mC (.int 1))) cJ (2)) aD))) (gT 2 (cD (gN 0) (cD (gN 1) eA))) (aH qK [] (aB (aA 0) (aB (aA 1) aD)))))
 (aM 0 (aC bF (aA 1) (cV (aA 0) (cU (aC aV (mC (.int 2)) (mR cS (aB (aA 1) aD)))) cJ)))))
 (aU (uA (vZ (aA 0)) (aC aK (aA 0) (mC (.int 0))) (mN dP (aB (mC (.int 0)) (aB (mC (.int 1)) aD))))))
def yG:FM:=aL 1 2 Te
def Se:MS:=(aE (bI (aR (aC cB (aA 1) (mC (.int 0)))) (vE "NoPoint") cF)
 (aU (mR gI (aB (bC ["number"] [(1,"bottom")] (aX (aH wV [] (aB (aC bF (mR jK (aB (aA 0) aD)) (mN eB (aB (aA 1) aD))) aD))) (gN 0) (aC aV (aH qF [] (aB (aA 1) aD)) (aA 0))) aD))))
def uQ:FM:=aL 2 2 Se
def Za:MS:=(aU (bC ["near","far"] [(0,"start"),(1,"end")] (gK (aB (cV (aA 0) cJ (cU (bS cM (mC (.int 1))))) (aB (cV (aA 1) cJ (cU (bS cM (mC (.int 1))))) aD))) (gT 2 (cD (gN 0) (cD (gN 1) eA))) (aC cX (aC aV (aA 1) (aC aK (aA 2) (bS cM (mC (.int 1))))) (aC aV (aA 0) (aC aK (aA 3) (bS cM (mC (.int 1))))))))
def oB:FM:=aL 2 2 Za
def Ih:MS:=(aU (mR qP (aB (bC ["one","other"] [] (gK (aB (aA 0) (aB (aA 1) aD))) (gT 2 (cD (gN 0) (cD (gN 1) eA))) (aC aV (aA 0) (aA 1))) aD)))
def sW:FM:=aL 2 2 Ih
def xP:MS:=(aE (aM 1 (aC aK (aA 0) (mC (.int 0))))
 (aE (bI (aR (aC cB (mR cS (aB (aA 0) aD)) (mC (.int 1)))) (aU (mN eB (aB (bS cM (aC aK (aA 1) (mC (.int 1)))) (aB (aC aK (aA 1) (mC (.int 0))) aD)))) cF)
 (aE (aM 2 (aC aK (aA 0) (mC (.int 1))))
 (aU (mN eB (aB (aC cX (aC aV (aC aK (aA 1) (mC (.int 1))) (aC aK (aA 2) (mC (.int 2)))) (aC aV (aC aK (aA 1) (mC (.int 2))) (aC aK (aA 2) (mC (.int 1))))) (aB (aC cX (aC aV (aC aK (aA 1) (mC (.int 2))) (aC aK (aA 2) (mC (.int 0)))) (aC aV (aC aK (aA 1) (mC (.int 0))) (aC aK (aA 2) (mC (.int 2))))) (aB (aC cX (aC aV (aC aK (aA 1) (mC (.int 0))) (aC aK (aA 2) (mC (.int 1)))) (aC aV (aC aK (aA 1) (mC (.int 1))) (aC aK (aA 2) (mC (.int 0))))) aD))))))))
def pY:FM:=aL 1 3 xP
def wH:MS:=(aE (aM 1 (bC ["p"] [(0,"points")] (aX (cV (aA 0) (cU (mC (.int 1))) cJ)) (gN 0) (aH oB [] (aB (aC aK (aA 1) (mC (.int 0))) (aB (aA 0) aD)))))
 (aU (aH sW [] (aB (aH pY [] (aB (cV (aA 1) cJ (cU (bS cM (mC (.int 1))))) aD)) (aB (aC aK (aA 1) (bS cM (mC (.int 1)))) aD)))))
def pO:FM:=aL 1 2 wH
def yU:MS:=(aU (aH qF [] (aB (aH pO [] (aB (aA 0) aD)) aD)))
def qI:FM:=aL 1 1 yU
def xC:MS:=(aE (aM 1 (mR sK (aB (aA 0) aD)))
 (aE (aM 2 (aH qI [] (aB (aA 1) aD)))
 (aE (bI (aR (aC cB (aA 2) (mC (.int 0)))) (vE "Flat") cF)
 (aE (bI (aR (aC hJ (aA 2) (mC (.int 0)))) (aM 1 (aC bF (cV (aA 1) cJ (cU (bS cM (mC (.int 2))))) (mN eB (aB (aC aK (aA 1) (bS cM (mC (.int 1)))) (aB (aC aK (aA 1) (bS cM (mC (.int 2)))) aD))))) cF)
 (aU (mR gI (aB (aA 1) aD)))))))
def mT:FM:=aL 1 3 xC
def Bc:MS:=(aU (aC lU (aC lU (cV (aA 0) cJ (cU (aA 1))) (mN dP (aB (aA 2) aD))) (cV (aA 0) (cU (aC bF (aA 1) (mC (.int 1)))) cJ)))
def lL:FM:=aL 3 3 Bc
def xE:MS:=(aE (aM 1 (uA (aR (aC cB (mR cS (aB (aA 0) aD)) (mC (.int 3)))) (mC (.int 2)) (mC (.int 6))))
 (aE (aM 2 (aA 1))
 (aE (aY (aX (cV (aA 0) (cU (mC (.int 1))) cJ)) (gN 3) (aM 2 (aC aV (aC aV (aA 2) (aC aK (aC aK (aA 0) (mC (.int 0))) (bS cM (mC (.int 1))))) (aC aK (aA 3) (bS cM (mC (.int 1)))))))
 (aU (kM rN [] (aB (aH pO [] (aB (aA 0) aD)) (aB (aA 2) aD)))))))
def rX:FM:=aL 1 4 xE
def Pd:MS:=(aU (aH sW [] (aB (aA 0) (aB (aA 1) aD))))
def uN:FM:=aL 2 2 Pd
def wN:MS:=(aE (aM 4 (bC ["first","second"] [(2,"p_height"),(3,"q_height")] (gK (aB (aA 0) (aB (aA 1) aD))) (gT 2 (cD (gN 0) (cD (gN 1) eA))) (aC cX (aC aV (aA 2) (aA 1)) (aC aV (aA 3) (aA 0)))))
 (aU (kM uQ [] (aB (cV (aA 4) cJ (cU (bS cM (mC (.int 1))))) (aB (aC aK (aA 4) (bS cM (mC (.int 1)))) aD)))))
def pV:FM:=aL 4 5 wN
def jJ(r:FM):MS:=(aE (aM 2 (oV (aA 1) (aB (mR qM (aB (aA 1) aD)) aD)))
 (aE (aM 3 (oV (aA 1) (aB (mR vN (aB (aA 1) aD)) aD)))
 (aE (bI (gF (aR (aC wA (aC aK (aA 1) (aA 2)) (mC (.int 0)))) (aR (aC qV (aC aK (aA 1) (aA 3)) (mC (.int 0))))) (aU (mN eB (aB (aA 0) aD))) cF)
 (aE (aM 4 (aH pV [] (aB (aC aK (aA 0) (aA 2)) (aB (aC aK (aA 0) (aA 3)) (aB (aC aK (aA 1) (aA 2)) (aB (aC aK (aA 1) (aA 3)) aD))))))
 (aE (aM 5 (eL aD))
 (aE (aY (aX (mN dP (aB (aA 2) (aB (aA 3) aD)))) (gN 6) (nR 5 (aH r [] (aB (aH lL [] (aB (aA 0) (aB (aA 6) (aB (aA 4) aD)))) (aB (aH lL [] (aB (aA 1) (aB (aA 6) (aB (mC (.int 0)) aD)))) aD)))))
 (aU (aA 5))))))))
def Vb:FM:=aL 2 7 λ_ _=>.fail
def Ac:FM:=aL 2 7 (jJ Vb)
def Sb:FM:=aL 2 7 (jJ Ac)
def Qb:FM:=aL 2 7 (jJ Sb)
def oK:FM:=aL 2 7 (jJ Qb)
def Ib:MS:=(aU (mR gI (aB (bC ["p"] [(1,"blade")] (aX (aA 0)) (gN 0) (aH uN [] (aB (aA 1) (aB (aA 0) aD)))) aD)))
def mP:FM:=aL 2 2 Ib
def Qg:MS:=(aE (aM 2 (eL aD))
 (aE (aM 3 (eL aD))
 (aE (aY (aX (aA 0)) (gN 4) (aY (aX (aH oK [] (aB (aA 4) (aB (aH mP [] (aB (aA 4) (aB (aA 1) aD))) aD)))) (gN 5) (bI (aR (aC dR (mR qM (aB (aH mP [] (aB (aA 5) (aB (aA 1) aD))) aD)) (mC (.int 0)))) (cK (cR (aA 2) (aB (kM mT [] (aB (aA 5) aD)) aD))) (cK (cR (aA 3) (aB (kM mT [] (aB (aA 5) aD)) aD))))))
 (aU (mN dP (aB (mR gI (aB (aA 2) aD)) (aB (mR gI (aB (aA 3) aD)) aD)))))))
def kZ:FM:=aL 2 6 Qg
def Hf:MS:=(aU (aH yG [] (aB (bC ["piece"] [] (aX (aA 0)) (gN 0) (aH rX [] (aB (aA 0) aD))) aD)))
def nG:FM:=aL 1 1 Hf
def Ye:MS:=(aE (aM 1 (eL aD))
 (aE (aY (zI (aB (cV (aA 0) cJ (cU (mC (.int 63)))) aD)) (gT 2 (cD (gN 2) (cD (gN 3) eA))) (bI (aR (aC qV (aA 3) (aC iM (mC (.int 10)) (mC (.int 18))))) (cK (cR (aA 1) (aB (aC cX (aA 3) (aC iM (mC (.int 10)) (mC (.int 18)))) aD))) (aE (aM 4 (aC fU (aC aV (aC bF (aC bF (aC bF (aA 3) (aC aV (aC aV (mC (.int 7)) (aA 2)) (aA 2))) (aC aV (mC (.int 13)) (aA 2))) (mC (.int 5))) (mC (.int 48271))) (mC (.int 2147483647))))
 (aE (aM 5 (aC fU (aC aV (aC bF (aC bF (aC bF (aA 3) (aC aV (aC aV (mC (.int 11)) (aA 2)) (aA 2))) (aC aV (mC (.int 17)) (aA 2))) (mC (.int 3))) (mC (.int 40692))) (mC (.int 2147483399))))
 (aE (aM 6 (aC fU (aC aV (aC bF (aC bF (aC bF (aA 3) (aC aV (aC aV (mC (.int 5)) (aA 2)) (aA 2))) (aC aV (mC (.int 29)) (aA 2))) (mC (.int 8))) (mC (.int 39373))) (mC (.int 2147483587))))
 (aE (aM 4 (aC fU (aC aV (aA 4) (mC (.int 52021))) (mC (.int 1000000007))))
 (aE (aM 5 (aC fU (aC aV (aA 5) (mC (.int 30011))) (mC (.int 998244353))))
 (aE (aM 6 (aC fU (aC aV (aA 6) (mC (.int 45989))) (mC (.int 1000000009))))
 (cK (cR (aA 1) (aB (aC bF (aC aV (aC bF (aC aV (aA 4) (mC (.int 998244353))) (aA 5)) (mC (.int 1000000009))) (aA 6)) aD)))))))))))
 (aU (aA 1))))
def sR:FM:=aL 1 7 Ye
def xT:MS:=(aE (nJ (jP (aR (aC dR (mR cS (aB (aA 0) aD)) (mC (.int 0)))) (aR (aC cB (aC aK (aA 0) (mC (.int 0))) (mC (.int 0))))) (cK (pB (aA 0) (aB (mC (.int 0)) aD))))
 (aE (bI (aR (aC cB (mR cS (aB (aA 0) aD)) (mC (.int 0)))) (aU (mC (.int 0))) cF)
 (aE (aM 2 (aC fU (aC aK (aA 0) (mC (.int 0))) (aA 1)))
 (aE (qG (aA 0) (mC (.int 0)) (aC jM (aC aK (aA 0) (mC (.int 0))) (aA 1)))
 (aU (aA 2))))))
def cY:FM:=aL 2 3 xT
def Kf:MS:=(aE (aM 0 (mR jD (aB (aA 0) aD)))
 (aE (aM 1 (mR jD (aB (aA 1) aD)))
 (aE (nJ (aR (aC dR (aA 1) (mC (.int 0)))) (vV 0 1 (aB (aA 1) (aB (aC fU (aA 0) (aA 1)) aD))))
 (aU (aA 0)))))
def uX:FM:=aL 2 2 Kf
def uK:MS:=(aE (aM 1 (mC (.int 0)))
 (aE (aY (aX (aA 0)) (gN 2) (aM 1 (aH uX [] (aB (aA 1) (aB (aA 2) aD)))))
 (aE (bI (aR (aC cB (aA 1) (mC (.int 0)))) (aU (mR gI (aB (aA 0) aD))) cF)
 (aU (mR gI (aB (bC ["_law_number"] [(1,"_law_by")] (aX (aA 0)) (gN 0) (aC lQ (aA 0) (aA 1))) aD))))))
def iA:FM:=aL 1 3 uK
def Mc:MS:=(aE (aM 1 (aH iA [] (aB (aA 0) aD)))
 (aE (aY (aX (aA 1)) (gN 2) (aE (bI (aR (aC dR (aA 2) (mC (.int 0)))) (aU (aA 1)) cF)
 (bI (aR (aC hJ (aA 2) (mC (.int 0)))) (aU (mR gI (aB (bC ["_law_one"] [] (aX (aA 1)) (gN 0) (aC cX (mC (.int 0)) (aA 0))) aD))) cF)))
 (aU (aA 1))))
def mS:FM:=aL 1 3 Mc
def Yc:MS:=(aU (oZ (bS (fV "int") (aA 0)) (bS vO (bS (fV "bool") (aA 0)))))
def uL:FM:=aL 1 1 Yc
def Vc:MS:=(aE (bI (gF (gX (aR (bS (fV "tuple") (aA 0)))) (aR (aC gM (mR cS (aB (aA 0) aD)) (aA 1)))) (aU (mC (.bl false))) cF)
 (aU (mR jE (aB (bC ["_law_number"] [] (aX (aA 0)) (gN 0) (aH uL [] (aB (aA 0) aD))) aD))))
def wP:FM:=aL 2 2 Vc
def xX:MS:=(aE (bI (aR (aC hJ (aA 1) (mC (.int 0)))) (aU (aH iA [] (aB (mN eB (aB (aC cX (mC (.int 0)) (aA 0)) (aB (aC cX (mC (.int 0)) (aA 1)) aD))) aD))) cF)
 (aU (aH iA [] (aB (mN eB (aB (aA 0) (aB (aA 1) aD))) aD))))
def nF:FM:=aL 2 2 xX
def Zf:MS:=(aU (aH nF [] (aB (aC bF (aC aV (aC aK (aA 0) (mC (.int 0))) (aC aK (aA 1) (mC (.int 1)))) (aC aV (aC aK (aA 1) (mC (.int 0))) (aC aK (aA 0) (mC (.int 1))))) (aB (aC aV (aC aK (aA 0) (mC (.int 1))) (aC aK (aA 1) (mC (.int 1)))) aD))))
def oR:FM:=aL 2 2 Zf
def Nc:MS:=(aE (aM 3 (bC ["_law_k"] [(2,"_law_way"),(1,"_law_q"),(0,"_law_p")] (cC (aB (aC cX (mR cS (aB (aA 0) aD)) (mC (.int 1))) aD)) (gN 0) (aC bF (aC aV (aC aV (aA 1) (aC aK (aA 3) (aA 0))) (aC aK (aA 2) (bS cM (mC (.int 1))))) (aC aV (aC aK (aA 2) (aA 0)) (aC aK (aA 3) (bS cM (mC (.int 1))))))))
 (aU (aH iA [] (aB (aC bF (aA 3) (mN eB (aB (aC aV (aC aK (aA 0) (bS cM (mC (.int 1)))) (aC aK (aA 1) (bS cM (mC (.int 1))))) aD))) aD))))
def oH:FM:=aL 3 4 Nc
def Df:MS:=(aU (bC ["_law_k"] [(1,"_law_q"),(0,"_law_p")] (cC (aB (aC cX (mR cS (aB (aA 0) aD)) (mC (.int 1))) aD)) (gN 0) (aC cX (aC aV (aC aK (aA 1) (aA 0)) (aC aK (aA 2) (bS cM (mC (.int 1))))) (aC aV (aC aK (aA 2) (aA 0)) (aC aK (aA 1) (bS cM (mC (.int 1))))))))
def iZ:FM:=aL 2 2 Df
def xO:MS:=(aE (aM 2 (aC cX (aC aV (aC aK (aA 0) (mC (.int 1))) (aC aK (aA 1) (mC (.int 2)))) (aC aV (aC aK (aA 0) (mC (.int 2))) (aC aK (aA 1) (mC (.int 1))))))
 (aE (aM 3 (aC cX (aC aV (aC aK (aA 0) (mC (.int 2))) (aC aK (aA 1) (mC (.int 0)))) (aC aV (aC aK (aA 0) (mC (.int 0))) (aC aK (aA 1) (mC (.int 2))))))
 (aE (aM 4 (aC cX (aC aV (aC aK (aA 0) (mC (.int 0))) (aC aK (aA 1) (mC (.int 1)))) (aC aV (aC aK (aA 0) (mC (.int 1))) (aC aK (aA 1) (mC (.int 0))))))
 (aU (mN eB (aB (aA 2) (aB (aA 3) (aB (aA 4) aD))))))))
def jW:FM:=aL 2 5 xO
def Sf:MS:=(aU (mR qP (aB (bC ["_law_one","_law_other"] [] (gK (aB (aA 0) (aB (aA 1) aD))) (gT 2 (cD (gN 0) (cD (gN 1) eA))) (aC aV (aA 0) (aA 1))) aD)))
def kX:FM:=aL 2 2 Sf
def sO:MS:=(aE (bI (aR (aC cB (mR cS (aB (aA 0) aD)) (mC (.int 2)))) (aU (aC cX (aC aV (aC aK (aC aK (aA 0) (mC (.int 0))) (mC (.int 0))) (aC aK (aC aK (aA 0) (mC (.int 1))) (mC (.int 1)))) (aC aV (aC aK (aC aK (aA 0) (mC (.int 0))) (mC (.int 1))) (aC aK (aC aK (aA 0) (mC (.int 1))) (mC (.int 0)))))) cF)
 (aU (aH kX [] (aB (aH jW [] (aB (aC aK (aA 0) (mC (.int 0))) (aB (aC aK (aA 0) (mC (.int 1))) aD))) (aB (aC aK (aA 0) (mC (.int 2))) aD)))))
def kT:FM:=aL 1 1 sO
def yS:MS:=(aU (aH kT [] (aB (bC ["_law_p"] [(0,"_law_points")] (aX (cV (aA 0) (cU (mC (.int 1))) cJ)) (gN 0) (aH iZ [] (aB (aC aK (aA 1) (mC (.int 0))) (aB (aA 0) aD)))) aD)))
def nK:FM:=aL 1 1 yS
def wK:MS:=(aE (aM 1 (mR sK (aB (aA 0) aD)))
 (aE (bI (aR (aC hJ (aH nK [] (aB (aA 1) aD)) (mC (.int 0)))) (aM 1 (aC bF (cV (aA 1) cJ (cU (bS cM (mC (.int 2))))) (mN eB (aB (aC aK (aA 1) (bS cM (mC (.int 1)))) (aB (aC aK (aA 1) (bS cM (mC (.int 2)))) aD))))) cF)
 (aU (mR gI (aB (aA 1) aD)))))
def oF:FM:=aL 1 2 wK
def xW:MS:=(aE (aM 1 (mC (.int 1)))
 (aE (aY (aX (cV (aA 0) (cU (mC (.int 1))) cJ)) (gN 2) (aM 1 (aC aV (aC aV (aA 1) (aC aK (aC aK (aA 0) (mC (.int 0))) (bS cM (mC (.int 1))))) (aC aK (aA 2) (bS cM (mC (.int 1)))))))
 (aU (aH nF [] (aB (mR jD (aB (aH nK [] (aB (aA 0) aD)) aD)) (aB (aC aV (aA 1) (aC aK (mN eB (aB (mC (.int 2)) (aB (mC (.int 6)) aD))) (aC cX (mR cS (aB (aA 0) aD)) (mC (.int 3))))) aD))))))
def sE:FM:=aL 1 3 xW
def Db:MS:=(aE (aM 1 (mN dP (aB (mC (.int 0)) (aB (mC (.int 1)) aD))))
 (aE (aY (aX (aA 0)) (gN 2) (aM 1 (aH oR [] (aB (aA 1) (aB (aH sE [] (aB (aA 2) aD)) aD)))))
 (aU (aA 1))))
def rJ:FM:=aL 1 3 Db
def Hb:MS:=(aU (aH mS [] (aB (aH jW [] (aB (aA 0) (aB (aA 1) aD))) aD)))
def rK:FM:=aL 2 2 Hb
def Cb:MS:=(aU (aH mS [] (aB (aC bF (aH iZ [] (aB (aA 0) (aB (aA 1) aD))) (aH jW [] (aB (aA 0) (aB (aA 1) aD)))) aD)))
def rH:FM:=aL 2 2 Cb
def Od:MS:=(aE (aM 3 (aH jW [] (aB (aH iZ [] (aB (aA 0) (aB (aA 1) aD))) (aB (aH iZ [] (aB (aA 0) (aB (aA 2) aD))) aD))))
 (aU (aH mS [] (aB (aC bF (bC ["_law_number"] [(0,"_law_p")] (aX (aA 3)) (gN 0) (aC aV (aA 0) (aC aK (aA 1) (mC (.int 3))))) (mN eB (aB (aC cX (mC (.int 0)) (aH kX [] (aB (aA 3) (aB (aA 0) aD)))) aD))) aD))))
def rW:FM:=aL 3 4 Od
def Hd:MS:=(aE (qS (gT 4 (cD (gN 1) (cD (gN 2) (cD (gN 3) (cD (gN 4) eA))))) (aA 0))
 (aU (mN eB (aB (mN dP (aB (aA 2) (aB (aA 3) (aB (aA 4) aD)))) (aB (mN dP (aB (aA 1) (aB (aA 4) (aB (aA 3) aD)))) (aB (mN dP (aB (aA 1) (aB (aA 2) (aB (aA 4) aD)))) (aB (mN dP (aB (aA 1) (aB (aA 3) (aB (aA 2) aD)))) aD)))))))
def mY:FM:=aL 1 5 Hd
def Vf:MS:=(nT (aA 0) (aA 1) (aC bF (yZ (aA 0) (aB (aA 1) (aB (mC (.int 0)) aD))) (aA 2)))
def kW:FM:=aL 3 3 Vf
def yC:MS:=(aE (bI (aR (aC cB (mR cS (aB (aA 1) aD)) (mC (.int 3)))) (aE (aY (cC (aB (mC (.int 3)) aD)) (gN 3) (aE (aM 4 (aC aK (aA 1) (aC cX (aA 3) (mC (.int 1)))))
 (aE (aM 5 (aC aK (aA 1) (aA 3)))
 (aE (aM 6 (aH rK [] (aB (aA 4) (aB (aA 5) aD))))
 (aE (cK (aH kW [] (aB (aA 0) (aB (mN dP (aB (aA 6) (aB (aA 4) aD))) (aB (aA 2) aD)))))
 (cK (aH kW [] (aB (aA 0) (aB (mN dP (aB (aA 6) (aB (aA 5) aD))) (aB (aC cX (mC (.int 0)) (aA 2)) aD))))))))))
 nS) cF)
 (aE (aM 7 (lV true))
 (aE (aY (cC (aB (mC (.int 4)) aD)) (gN 3) (aY (cC (aB (aA 3) aD)) (gN 8) (aE (aM 6 (aH rH [] (aB (aC aK (aA 1) (aA 8)) (aB (aC aK (aA 1) (aA 3)) aD))))
 (aE (nT (aA 7) (mN dP (aB (aC aK (aA 1) (aA 8)) (aB (aC aK (aA 1) (aA 3)) aD))) (aA 6))
 (nT (aA 7) (mN dP (aB (aC aK (aA 1) (aA 3)) (aB (aC aK (aA 1) (aA 8)) aD))) (aA 6))))))
 (aY (aX (aH mY [] (aB (aA 1) aD))) (gN 9) (aE (aM 10 (aH rW [] (aB (aC aK (aA 9) (mC (.int 0))) (aB (aC aK (aA 9) (mC (.int 1))) (aB (aC aK (aA 9) (mC (.int 2))) aD)))))
 (aY (cC (aB (mC (.int 3)) aD)) (gN 3) (aE (aM 4 (aC aK (aA 9) (aC cX (aA 3) (mC (.int 1)))))
 (aE (aM 5 (aC aK (aA 9) (aA 3)))
 (aE (aM 6 (mE (aA 7) (mN dP (aB (aA 4) (aB (aA 5) aD)))))
 (aE (cK (aH kW [] (aB (aA 0) (aB (mN dP (aB (aA 10) (aB (aA 6) (aB (aA 4) aD)))) (aB (aA 2) aD)))))
 (cK (aH kW [] (aB (aA 0) (aB (mN dP (aB (aA 10) (aB (aA 6) (aB (aA 5) aD)))) (aB (aC cX (mC (.int 0)) (aA 2)) aD)))))))))))))))
def nE:FM:=aL 3 11 yC
def De:MS:=(aE (aM 2 (lV true))
 (aE (aY (aX (aA 0)) (gN 3) (cK (aH nE [] (aB (aA 2) (aB (aA 3) (aB (mC (.int 1)) aD))))))
 (aE (aY (aX (aA 1)) (gN 3) (cK (aH nE [] (aB (aA 2) (aB (aA 3) (aB (bS cM (mC (.int 1))) aD))))))
 (aU (mR jE (aB (bC ["_law_key"] [(2,"_law_table")] (aX (vJ (aB (aA 2) aD))) (gN 0) (aC cB (mE (aA 1) (aA 0)) (mC (.int 0)))) aD))))))
def nA:FM:=aL 2 4 De
def Bb:MS:=(aE (bI (gF (gX (aR (aH wP [] (aB (aA 0) (aB (aC bF (aA 1) (mC (.int 1))) aD))))) (aR (aC hJ (aC aK (aA 0) (bS cM (mC (.int 1)))) (mC (.int 1))))) (aU (mC (.bl false))) cF)
 (aU (aC cB (aH iA [] (aB (aA 0) aD)) (aA 0))))
def uE:FM:=aL 2 2 Bb
def Wa:MS:=(aE (bI (gF (gX (aR (bS (fV "tuple") (aA 0)))) (aR (aC gM (mR cS (aB (aA 0) aD)) (aC bF (aA 1) (mC (.int 1)))))) (aU (mC (.bl false))) cF)
 (aE (bI (gX (aR (mR jE (aB (bC ["_law_p"] [(1,"_law_many")] (aX (aA 0)) (gN 0) (aH uE [] (aB (aA 0) (aB (aA 1) aD)))) aD)))) (aU (mC (.bl false))) cF)
 (aU (oZ (aC gM (aH nK [] (aB (aA 0) aD)) (mC (.int 0))) (aC cB (aH oF [] (aB (aA 0) aD)) (aA 0))))))
def uD:FM:=aL 2 2 Wa
def Eb:MS:=(aE (bI (gX (aR (bS (fV "tuple") (aA 0)))) (aU (mC (.bl false))) cF)
 (aU (mR jE (aB (bC ["_law_points"] [(1,"_law_many")] (aX (aA 0)) (gN 0) (aH uD [] (aB (aA 0) (aB (aA 1) aD)))) aD))))
def pP:FM:=aL 2 2 Eb
def wI:MS:=(aU (aH kT [] (aB (bC ["_law_corner"] [(0,"_law_corners")] (aX (cV (aA 0) (cU (mC (.int 1))) cJ)) (gN 0) (bC ["_law_b","_law_c"] [] (gK (aB (aC aK (aA 1) (mC (.int 0))) (aB (aA 0) aD))) (gT 2 (cD (gN 0) (cD (gN 1) eA))) (aC cX (aA 1) (aA 0)))) aD)))
def pR:FM:=aL 1 1 wI
def Jf:MS:=(aE (aM 3 (eL aD))
 (aE (aY (cC (aB (aC bF (aA 1) (mC (.int 1))) aD)) (gN 4) (cK (cR (aA 3) (aB (bC ["_law_m"] [(0,"_law_row_here"),(2,"_law_wide")] (cC (aB (aA 1) aD)) (gN 0) (aH cY [] (aB (aA 1) (aB (aC bF (aA 2) (mC (.int 1))) aD)))) aD))))
 (aE (bI (aR (aC gM (aH pR [] (aB (aA 3) aD)) (mC (.int 0)))) (aU (aA 3)) cF)
 (aU (bC ["_law_k"] [(1,"_law_dims")] (sM (aB (bS cM (mC (.int 1))) (aB (aA 1) aD))) (gN 0) (bC ["_law_m"] [(0,"_law_k")] (cC (aB (aA 1) aD)) (gN 0) (mR kP (aB (aC cB (aA 0) (aA 1)) aD))))))))
def lP:FM:=aL 3 5 Jf
def xV:MS:=(aE (aM 1 (eL (aB (mC (.int 0)) (aB (mC (.int 1)) (aB (mC (.int 2)) aD)))))
 (aE (aM 2 (eL (aB (mC (.int 0)) (aB (mC (.int 0)) (aB (mC (.int 0)) aD)))))
 (aE (aM 3 (vT (aB (aA 2) aD)))
 (aE (aY (cC (aB (mC (.int 3)) aD)) (gN 4) (aE (qG (aA 2) (pB (aA 1) (aB (aH cY [] (aB (aA 0) (aB (mR cS (aB (aA 1) aD)) aD))) aD)) (mC (.int 1)))
 (cK (vK (aA 3) (aB (aA 2) aD)))))
 (aE (aY (cC (aB (mC (.int 3)) aD)) (gN 5) (bI (aR (aC cB (aH cY [] (aB (aA 0) (aB (mC (.int 4)) aD))) (mC (.int 3)))) (qN 3 2 5) cF))
 (aU (aA 3)))))))
def sP:FM:=rD 1 6 xV
def Jb:MS:=(aE (aM 3 (eL aD))
 (aE (aY (cC (aB (aH cY [] (aB (aA 0) (aB (aC bF (aA 2) (mC (.int 1))) aD))) aD)) (gN 4) (aE (aM 5 (aH cY [] (aB (aA 0) (aB (mC (.int 6)) aD))))
 (bI (jP (aR (aC cB (aA 5) (mC (.int 5)))) (aR (aC dR (mR cS (aB (aA 3) aD)) (mC (.int 0))))) (cK (cR (aA 3) (aB (aC aK (aA 3) (bS cM (mC (.int 1)))) aD))) (bI (aR (aC cB (aA 1) (mC (.int 2)))) (cK (cR (aA 3) (aB (aH lP [] (aB (aA 0) (aB (mC (.int 2)) (aB (aC bF (mC (.int 1)) (mR kP (aB (aC cB (aA 5) (mC (.int 4))) aD))) aD)))) aD))) (bI (aR (aC dR (aA 5) (mC (.int 3)))) (cK (cR (aA 3) (aB (aH lP [] (aB (aA 0) (aB (mC (.int 3)) (aB (mC (.int 1)) aD)))) aD))) (cK (cR (aA 3) (aB (aH sP [] (aB (aA 0) aD)) aD))))))))
 (aU (aA 3))))
def pQ:FM:=aL 3 6 Jb
def Fg:MS:=(aE (aM 2 (aH cY [] (aB (aA 0) (aB (mC (.int 4)) aD))))
 (aE (aM 3 (aC aK (mN eB (aB (mC (.int 0)) (aB (mC (.int 3)) (aB (mC (.int 9)) (aB (aC iM (mC (.int 10)) (mC (.int 12))) aD))))) (aA 2)))
 (aE (aM 4 (aC bF (mC (.int 1)) (aC aV (aH cY [] (aB (aA 0) (aB (mC (.int 9)) aD))) (aC jM (aA 2) (mC (.int 2))))))
 (aE (aM 5 (bC ["_law_k"] [(3,"_law_wide"),(0,"_law_row_here")] (cC (aB (aA 1) aD)) (gN 0) (aC cX (aH cY [] (aB (aA 2) (aB (aC bF (aC aV (mC (.int 2)) (aA 1)) (mC (.int 1))) aD))) (aA 1))))
 (aU (aH iA [] (aB (aC bF (aA 5) (mN eB (aB (aA 4) aD))) aD)))))))
def nI:FM:=aL 2 6 Fg
def Xb:MS:=(aE (aM 2 (eL aD))
 (aE (aY (cC (aB (aA 1) aD)) (gN 3) (aE (aM 4 (aH cY [] (aB (aA 0) (aB (mC (.int 3)) aD))))
 (cK (cR (aA 2) (aB (aH nF [] (aB (aC bF (mC (.int 1)) (aH cY [] (aB (aA 0) (aB (aC aK (mN eB (aB (mC (.int 1)) (aB (mC (.int 7)) (aB (aC iM (mC (.int 10)) (mC (.int 9))) aD)))) (aA 4)) aD)))) (aB (aC bF (mC (.int 1)) (aH cY [] (aB (aA 0) (aB (aC aK (mN eB (aB (mC (.int 1)) (aB (mC (.int 7)) (aB (aC iM (mC (.int 10)) (mC (.int 6))) aD)))) (aA 4)) aD)))) aD))) aD)))))
 (aU (aA 2))))
def pU:FM:=aL 2 5 Xb
def yA:MS:=(aE (aM 2 (mC (.int 1)))
 (aE (aY (aX (aA 1)) (gN 3) (aM 2 (aC aV (aA 2) (aC aK (aA 3) (mC (.int 1))))))
 (aE (aM 4 (bC ["_law_number","_law_part"] [(2,"_law_under")] (gK (aB (aA 0) (aB (aA 1) aD))) (gT 2 (cD (gN 0) (cD (gN 1) eA))) (aC aV (aC aV (aA 0) (aC aK (aA 1) (mC (.int 0)))) (aC jM (aA 2) (aC aK (aA 1) (mC (.int 1)))))))
 (aU (aH iA [] (aB (aC bF (aA 4) (mN eB (aB (aA 2) aD))) aD))))))
def qC:FM:=aL 2 5 yA
def Ae:MS:=(aE (aM 3 (eL aD))
 (aE (aY (aX (aA 1)) (gN 4) (aE (aM 5 (aH nI [] (aB (aA 0) (aB (mR cS (aB (aA 2) aD)) aD))))
 (cK (cR (aA 3) (aB (aH oF [] (aB (bC ["_law_corner"] [(5,"_law_far_here"),(2,"_law_stretch_here")] (aX (aA 4)) (gN 0) (aH oH [] (aB (aH qC [] (aB (aA 0) (aB (aA 2) aD))) (aB (aA 1) (aB (mC (.int 1)) aD))))) aD)) aD)))))
 (aU (aA 3))))
def qA:FM:=aL 3 6 Ae
def xA:MS:=(aE (bI (aR (aC cB (aH cY [] (aB (aA 0) (aB (mC (.int 2)) aD))) (mC (.int 1)))) (aU (mR gI (aB (aA 1) aD))) cF)
 (aU (mR jK (aB (aA 1) aD))))
def pW:FM:=aL 2 2 xA
def xI:MS:=(aE (aM 1 (aC aK (aA 0) (mC (.int 0))))
 (aE (bI (aR (aC cB (mR cS (aB (aA 0) aD)) (mC (.int 2)))) (aU (aH iA [] (aB (aH jW [] (aB (aA 1) (aB (aC aK (aA 0) (mC (.int 1))) aD))) aD))) cF)
 (aE (aM 2 (aH jW [] (aB (aH iZ [] (aB (aA 1) (aB (aC aK (aA 0) (mC (.int 1))) aD))) (aB (aH iZ [] (aB (aA 1) (aB (aC aK (aA 0) (mC (.int 2))) aD))) aD))))
 (aU (aH iA [] (aB (aC bF (bC ["_law_number"] [(1,"_law_p")] (aX (aA 2)) (gN 0) (aC aV (aA 0) (aC aK (aA 1) (mC (.int 3))))) (mN eB (aB (aC cX (mC (.int 0)) (aH kX [] (aB (aA 2) (aB (aA 1) aD)))) aD))) aD))))))
def oJ:FM:=aL 1 3 xI
def Ab:MS:=(aE (aM 3 (eL aD))
 (aE (aY (cC (aB (aA 2) aD)) (gN 4) (bI (gF (aR (aC cB (mR cS (aB (aA 1) aD)) (mC (.int 0)))) (aR (aC cB (aH cY [] (aB (aA 0) (aB (mC (.int 4)) aD))) (mC (.int 3))))) (cK (cR (aA 3) (aB (aH nI [] (aB (aA 0) (aB (aA 2) aD))) aD))) (aE (aM 5 (aC aK (aA 1) (aH cY [] (aB (aA 0) (aB (mR cS (aB (aA 1) aD)) aD)))))
 (cK (cR (aA 3) (aB (aC aK (aA 5) (aH cY [] (aB (aA 0) (aB (mR cS (aB (aA 5) aD)) aD)))) aD))))))
 (aE (aM 6 (aH oJ [] (aB (aA 3) aD)))
 (aE (bI (aR (mR qR (aB (cV (aA 6) cJ (cU (bS cM (mC (.int 1))))) aD))) (aU (aA 6)) cF)
 (aE (aM 7 (aC bF (mN eB (aB (mC (.int 1)) aD)) (aC tJ (mN eB (aB (mC (.int 0)) aD)) (aC cX (aA 2) (mC (.int 1))))))
 (aU (mR gI (aB (aC bF (aA 7) (mN eB (aB (aC cX (mC (.int 0)) (aH cY [] (aB (aA 0) (aB (mC (.int 2)) aD)))) aD))) aD))))))))
def rG:FM:=aL 3 8 Ab
def Fh:MS:=(aE (aM 1 (qE sR [] (aB (aA 0) aD)))
 (aE (aM 2 (aC bF (mC (.int 2)) (aH cY [] (aB (aA 1) (aB (mC (.int 2)) aD)))))
 (aE (aM 3 (aH qA [] (aB (aA 1) (aB (aH pQ [] (aB (aA 1) (aB (aA 2) (aB (mC (.int 3)) aD)))) (aB (aH pU [] (aB (aA 1) (aB (aA 2) aD))) aD)))))
 (aE (aM 4 (aH rG [] (aB (aA 1) (aB (aA 3) (aB (aA 2) aD)))))
 (aE (aM 5 (aH pW [] (aB (aA 1) (aB (aA 3) aD))))
 (aE (aM 6 (aH kZ [] (aB (aA 5) (aB (aA 4) aD))))
 (aE (bI (gF (gX (aR (bS (fV "tuple") (aA 6)))) (gF (aR (aC gM (mR cS (aB (aA 6) aD)) (mC (.int 2)))) (aR (aC gM (mR jK (aB (aA 5) aD)) (aA 3))))) (aU (mC (.bl false))) cF)
 (aE (qS (gT 2 (cD (gN 7) (cD (gN 8) eA))) (aA 6))
 (aE (bI (gF (gX (aR (aH pP [] (aB (aA 7) (aB (aA 2) aD))))) (gX (aR (aH pP [] (aB (aA 8) (aB (aA 2) aD)))))) (aU (mC (.bl false))) cF)
 (aE (aY (aX (aA 7)) (gN 9) (bI (aR (mR oW (aB (bC ["_law_p"] [(4,"_law_knife")] (aX (aA 9)) (gN 0) (aC hJ (aH kX [] (aB (aA 1) (aB (aA 0) aD))) (mC (.int 0)))) aD))) (aU (mC (.bl false))) cF))
 (aE (aY (aX (aA 8)) (gN 9) (bI (aR (mR oW (aB (bC ["_law_p"] [(4,"_law_knife")] (aX (aA 9)) (gN 0) (aC dR (aH kX [] (aB (aA 1) (aB (aA 0) aD))) (mC (.int 0)))) aD))) (aU (mC (.bl false))) cF))
 (aE (bI (gF (gX (aR (kY nA (aB (mR jK (aB (aC lU (aA 7) (aA 8)) aD)) (aB (aA 3) aD))))) (aR (aC gM (aH oR [] (aB (aH nG [] (aB (aA 7) aD)) (aB (aH nG [] (aB (aA 8) aD)) aD))) (aH rJ [] (aB (aA 3) aD))))) (aU (mC (.bl false))) cF)
 (aE (aM 10 (aH kZ [] (aB (aA 7) (aB (aA 4) aD))))
 (aE (bI (gF (gX (aR (kY nA (aB (aC aK (aA 10) (mC (.int 0))) (aB (aA 7) aD))))) (aR (aC gM (aC aK (aA 10) (mC (.int 1))) (mN dP aD)))) (aU (mC (.bl false))) cF)
 (aE (aM 10 (aH kZ [] (aB (aA 8) (aB (aA 4) aD))))
 (aU (oZ (aC cB (aC aK (aA 10) (mC (.int 0))) (mN dP aD)) (kY nA (aB (aC aK (aA 10) (mC (.int 1))) (aB (aA 8) aD))))))))))))))))))))
def Mh:FM:=aL 1 11 Fh
abbrev xS(B:Bx):=bR B "sign" 1 ["number"] qF
abbrev Cc(B:Bx):=bR B "divisor" 1 ["one","other"] rP
abbrev Rk(B:Bx):=bR B "reduced" 2 ["numbers"] wV
abbrev Lb(B:Bx):=Ha B "fraction" 2 ["top","bottom"] rN
abbrev Yq(B:Bx):=bR B "plus" 3 ["one","other"] qK
abbrev Aq(B:Bx):=bR B "total" 4 ["parts"] yG
abbrev So(B:Bx):=Ha B "point" 3 ["numbers","bottom"] uQ
abbrev Bj(B:Bx):=bR B "whole_arrow" 1 ["start","end"] oB
abbrev Eg(B:Bx):=bR B "dot" 1 ["u","v"] sW
abbrev Em(B:Bx):=bR B "normal" 1 ["arrows"] pY
abbrev Xa(B:Bx):=bR B "determinant" 2 ["points"] pO
abbrev Xr(B:Bx):=bR B "side" 3 ["points"] qI
abbrev Tk(B:Bx):=Ha B "simplex" 4 ["points"] mT
abbrev uF(B:Bx):=bR B "replaced" 1 ["row","place","value"] lL
abbrev Fm(B:Bx):=bR B "extent" 3 ["piece"] rX
abbrev Qm(B:Bx):=bR B "height" 2 ["blade","p"] uN
abbrev uH(B:Bx):=bR B "crossing" 4 ["p","q","p_height","q_height"] pV
abbrev O7(B:Bx):=bR B "parted" 8 ["corners","heights"] oK
abbrev Cj(B:Bx):=bR B "heights_of" 3 ["corners","blade"] mP
abbrev Gw(B:Bx):=bR B "cut" 9 ["heap","blade"] kZ
abbrev Bt(B:Bx):=bR B "size" 5 ["heap"] nG
abbrev Qq(B:Bx):=bR B "_law_row" 1 ["_law_script"] sR
abbrev mW(B:Bx):=bR B "_law_take" 1 ["_law_row_here","_law_many"] cY
abbrev Dt(B:Bx):=bR B "_law_gcd" 1 ["_law_one","_law_other"] uX
abbrev oC(B:Bx):=bR B "_law_lowest" 2 ["_law_numbers"] iA
abbrev wM(B:Bx):=bR B "_law_upward" 3 ["_law_numbers"] mS
abbrev En(B:Bx):=bR B "_law_whole" 1 ["_law_number"] uL
abbrev Ll(B:Bx):=bR B "_law_wholes" 2 ["_law_told","_law_many"] wP
abbrev xG(B:Bx):=bR B "_law_frac" 3 ["_law_top","_law_bottom"] nF
abbrev Xd(B:Bx):=bR B "_law_sum" 4 ["_law_one","_law_other"] oR
abbrev Al(B:Bx):=bR B "_law_joined" 3 ["_law_p","_law_q","_law_way"] oH
abbrev uU(B:Bx):=bR B "_law_gap" 1 ["_law_p","_law_q"] iZ
abbrev rS(B:Bx):=bR B "_law_cross" 1 ["_law_u","_law_v"] jW
abbrev uR(B:Bx):=bR B "_law_dot" 1 ["_law_u","_law_v"] kX
abbrev Wc(B:Bx):=bR B "_law_turn" 2 ["_law_ways"] kT
abbrev xU(B:Bx):=bR B "_law_det" 3 ["_law_points"] nK
abbrev Kb(B:Bx):=bR B "_law_simplex" 4 ["_law_points"] oF
abbrev Ap(B:Bx):=bR B "_law_bulk" 4 ["_law_points"] sE
abbrev Lj(B:Bx):=bR B "_law_heap_bulk" 5 ["_law_heap"] rJ
abbrev Kj(B:Bx):=bR B "_law_flat_line" 4 ["_law_p","_law_q"] rK
abbrev Zi(B:Bx):=bR B "_law_space_line" 4 ["_law_p","_law_q"] rH
abbrev Bm(B:Bx):=bR B "_law_plane" 4 ["_law_p","_law_q","_law_r"] rW
abbrev Zm(B:Bx):=bR B "_law_shuts" 1 ["_law_points"] mY
abbrev Os(B:Bx):=bR B "_law_put" 1 ["_law_table","_law_key","_law_number"] kW
abbrev Dp(B:Bx):=bR B "_law_mark" 5 ["_law_table","_law_points","_law_number"] nE
abbrev Dq(B:Bx):=bR B "_law_same" 6 ["_law_one","_law_other"] nA
abbrev Aj(B:Bx):=bR B "_law_point_form" 3 ["_law_p","_law_many"] uE
abbrev Vi(B:Bx):=bR B "_law_simplex_form" 5 ["_law_points","_law_many"] uD
abbrev Ej(B:Bx):=bR B "_law_heap_form" 6 ["_law_heap","_law_many"] pP
abbrev Oj(B:Bx):=bR B "_law_raw_turn" 3 ["_law_corners"] pR
abbrev Gs(B:Bx):=bR B "_law_raw" 4 ["_law_row_here","_law_dims","_law_wide"] lP
abbrev Mo(B:Bx):=bR B "_law_kuhn" 2 ["_law_row_here"] sP
abbrev Uj(B:Bx):=bR B "_law_raw_heap" 5 ["_law_row_here","_law_dims","_law_many"] pQ
abbrev Pe(B:Bx):=bR B "_law_far" 3 ["_law_row_here","_law_dims"] nI
abbrev Zj(B:Bx):=bR B "_law_stretch" 4 ["_law_row_here","_law_dims"] pU
abbrev Mp(B:Bx):=bR B "_law_spot" 3 ["_law_corner","_law_stretch_here"] qC
abbrev Io(B:Bx):=bR B "_law_laid" 5 ["_law_row_here","_law_heap","_law_stretch_here"] qA
abbrev Sk(B:Bx):=bR B "_law_handed" 2 ["_law_row_here","_law_rows"] pW
abbrev Hn(B:Bx):=bR B "_law_blade" 3 ["_law_points"] oJ
abbrev Yi(B:Bx):=bR B "_law_some_blade" 4 ["_law_row_here","_law_heap","_law_dims"] rG
structure Mg(mg:Str->BC):Prop where
 m_abs:mg "abs"=none
 m_all:mg "all"=none
 m_any:mg "any"=none
 m_bool:mg "bool"=none
 m_enumerate:mg "enumerate"=none
 m_int:mg "int"=none
 m_isinstance:mg "isinstance"=none
 m_len:mg "len"=none
 m_list:mg "list"=none
 m_max:mg "max"=none
 m_min:mg "min"=none
 m_range:mg "range"=none
 m_sorted:mg "sorted"=none
 m_sum:mg "sum"=none
 m_tuple:mg "tuple"=none
 m_zip:mg "zip"=none
set_option hygiene false
local macro_rules | `(tactic|trivial)=> `(tactic|(first
 |(with_reducible show eQ _ _ _ _ _ aD);exact acA
 |(with_reducible show eQ _ _ _ _ _ (aB _ _));refine Z4 ?_ ?_
 |(with_reducible show aN _ _ _ _ _ (aA _));exact aed _
 |(with_reducible show aN _ _ _ _ _ (mC (.int _)));exact adX
 |(with_reducible show aN _ _ _ _ _ (mC (.bl _)));exact afl
 |(with_reducible show aN _ _ _ _ _ (bS cM _));refine afe Ou aeA ?_
 |(with_reducible show aN _ _ _ _ _ (bS vO _));refine adC ?_
 |(with_reducible show aN _ _ _ _ _ (aC tJ _ _));refine nN aca aeO ?_ ?_
 |(with_reducible show aN _ _ _ _ _ (aC lU _ _));refine nN acw adu ?_ ?_
 |(with_reducible show aN _ _ _ _ _ (aC bF _ _));refine nN abT ae1 ?_ ?_
 |(with_reducible show aN _ _ _ _ _ (aC cX _ _));refine nN Ju afg ?_ ?_
 |(with_reducible show aN _ _ _ _ _ (aC aV _ _));refine nN abl afE ?_ ?_
 |(with_reducible show aN _ _ _ _ _ (aC jM _ _));refine nN aal ac1 ?_ ?_
 |(with_reducible show aN _ _ _ _ _ (aC lQ _ _));refine nN aaV acC ?_ ?_
 |(with_reducible show aN _ _ _ _ _ (aC fU _ _));refine nN acr afv ?_ ?_
 |(with_reducible show aN _ _ _ _ _ (aC iM _ _));refine nN ac4 afG ?_ ?_
 |(with_reducible show aN _ _ _ _ _ (aC aK _ _));refine aeW ?_ ?_
 |(with_reducible show aN _ _ _ _ _ (aC cB _ _));refine sS (Nv (rE hr)) Qy ?_ ?_ (kJ _)
 |(with_reducible show aN _ _ _ _ _ (aC gM _ _));refine sS (Eu (rE hr)) Iy ?_ ?_ (kJ _)
 |(with_reducible show aN _ _ _ _ _ (aC hJ _ _));refine sS Hy Wy ?_ ?_ (kJ _)
 |(with_reducible show aN _ _ _ _ _ (aC wA _ _));refine sS Ww Fz ?_ ?_ (kJ _)
 |(with_reducible show aN _ _ _ _ _ (aC dR _ _));refine sS Yx Cz ?_ ?_ (kJ _)
 |(with_reducible show aN _ _ _ _ _ (aC qV _ _));refine sS Tx Bz ?_ ?_ (kJ _)
 |(with_reducible show fO _ _ _ _ _ (aR (aC cB _ _)));refine sJ (Nv (rE hr)) Qy ?_ ?_ (kJ _)
 |(with_reducible show fO _ _ _ _ _ (aR (aC gM _ _)));refine sJ (Eu (rE hr)) Iy ?_ ?_ (kJ _)
 |(with_reducible show fO _ _ _ _ _ (aR (aC hJ _ _)));refine sJ Hy Wy ?_ ?_ (kJ _)
 |(with_reducible show fO _ _ _ _ _ (aR (aC wA _ _)));refine sJ Ww Fz ?_ ?_ (kJ _)
 |(with_reducible show fO _ _ _ _ _ (aR (aC dR _ _)));refine sJ Yx Cz ?_ ?_ (kJ _)
 |(with_reducible show fO _ _ _ _ _ (aR (aC qV _ _)));refine sJ Tx Bz ?_ ?_ (kJ _)
 |(with_reducible show fO _ _ _ _ _ (aR _));refine abQ ?_
 |(with_reducible show fO _ _ _ _ _ (vZ _));refine acD ?_
 |(with_reducible show fO _ _ _ _ _ (gX _));refine abb ?_
 |(with_reducible show fO _ _ _ _ _ (jP _ _));refine kH.pt ?_
 |(with_reducible show fO _ _ _ _ _ (gF _ _));refine kH.pt ?_
 |(with_reducible show kH _ _ _ _ _ (jP _ _));refine abv ?_ ?_
 |(with_reducible show kH _ _ _ _ _ (gF _ _));refine ad2 ?_ ?_
 |(with_reducible show kH _ _ _ _ _ _);(first |refine Z8 ?_ |refine ack ?_)
 |(with_reducible show aN _ _ _ _ _ (oZ _ _));refine ady ?_ ?_
 |(with_reducible show aN _ _ _ _ _ (uA _ _ _));refine afm ?_ ?_ ?_
 |(with_reducible show aN _ _ _ _ _ (mN dP _));refine adg ?_
 |(with_reducible show aN _ _ _ _ _ (mN eB _));refine adJ ?_
 |(with_reducible show aN _ _ _ _ _ (eL _));refine acK ?_
 |(with_reducible show aN _ _ _ _ _ (qQ _ _ _ _));(first |refine Gv ?_ ?_ ?_ ab4 (by decide) |refine Gv ?_ ?_ ?_ ado (by decide))
 |(with_reducible show aN _ _ _ _ _ (cV _ _ _));refine aeP ?_ ?_ ?_
 |(with_reducible show pI _ _ _ _ _ cJ);exact aaF
 |(with_reducible show pI _ _ _ _ _ (cU _));refine aaw ?_
 |(with_reducible show aN _ _ _ _ _ (yZ _ _));refine abH (rE hr) ?_ ?_
 |(with_reducible show aN _ _ _ _ _ (mE _ _));refine aeb (rE hr) ?_ ?_
 |(with_reducible show aN _ _ _ _ _ (lV _));exact abt _
 |(with_reducible show aN _ _ _ _ _ (vJ _));refine ab7 rfl rfl m.m_list Ds ?_
 |(with_reducible show aN _ _ _ _ _ (vK _ _));refine aa9 rfl rfl m.m_list ?_ ?_
 |(with_reducible show aN _ _ _ _ _ (vT _));refine ad0 rfl rfl m.m_list ?_
 |(with_reducible show aN _ _ _ _ _ (cR _ _));refine S8 ?_ ?_
 |(with_reducible show aN _ _ _ _ _ (pB _ _));refine aei ?_ ?_
 |(with_reducible show aN _ _ _ _ _ (oV _ _));refine U3 ?_ ?_
 |(with_reducible show aN _ _ _ _ _ (kY _ _));refine afn (by assumption) hr (by decide) rfl ?_
 |(with_reducible show aN _ _ _ _ _ (kM _ [] _));refine aeY (by assumption) hr (by decide) rfl ?_
 |(with_reducible show aN _ _ _ _ _ (aH _ [] _));refine aeG (by assumption) hr (by decide) rfl ?_
 |(with_reducible show aN _ _ _ _ _ (qE _ [] _));refine afz (by assumption) hr (by decide) rfl ?_
 |(with_reducible show aN _ _ _ _ _ (bS (fV "int") _));refine Mf (n:="int") rfl m.m_isinstance rfl m.m_int Ev ?_
 |(with_reducible show aN _ _ _ _ _ (bS (fV "bool") _));refine Mf (n:="bool") rfl m.m_isinstance rfl m.m_bool acm ?_
 |(with_reducible show aN _ _ _ _ _ (bS (fV "tuple") _));refine Mf (n:="tuple") rfl m.m_isinstance rfl m.m_tuple Rp ?_
 |(with_reducible show aN _ _ _ _ _ (mR cS _));refine mX C5 aeD rfl m.m_len aen ?_
 |(with_reducible show aN _ _ _ _ _ (mR jD _));refine mX aaC aeU rfl m.m_abs aer ?_
 |(with_reducible show aN _ _ _ _ _ (mR jE _));refine mX (aa8 rfl) aey rfl m.m_all adf ?_
 |(with_reducible show aN _ _ _ _ _ (mR gI _));refine Lc B8 ab0 rfl m.m_tuple Rp ?_
 |(with_reducible show aN _ _ _ _ _ (mR jK _));refine Lc Fb act rfl m.m_list Ds ?_
 |(with_reducible show aN _ _ _ _ _ (mR kP _));refine Lc S6 afu rfl m.m_int Ev ?_
 |(with_reducible show aN _ _ _ _ _ (mR qP _));refine mX (T8 rfl) aet rfl m.m_sum adz ?_
 |(with_reducible show aN _ _ _ _ _ (mR qR _));refine mX (S0 rfl) aeL rfl m.m_any Fv ?_
 |(with_reducible show aN _ _ _ _ _ (mR oW _));refine mX (Q8 rfl) ad8 rfl m.m_any Fv ?_
 |(with_reducible show aN _ _ _ _ _ (mR sK _));refine mX J5 ad3 rfl m.m_sorted S9 ?_
 |(with_reducible show aN _ _ _ _ _ (mR vN _));refine mX (O6 rfl) ad1 rfl m.m_min adG ?_
 |(with_reducible show aN _ _ _ _ _ (mR qM _));refine mX (P4 rfl) acZ rfl m.m_max adi ?_
 |(with_reducible show aN _ _ _ _ _ (bC _ _ _ _ _));(first |refine ab9 (by first |exact Yw |exact Iw |exact Hv |exact Iv) ?_ rfl (λ_ _ _ _=> ?_) (λ_ _ _ _=> ?_) |refine W8 adA ?_ rfl (λ_ _ _ _=> ?_) (λ_ _ _ _=> ?_))
 |(with_reducible show PIp _ _ _ _ _ _ (gK _));refine abO rfl m.m_zip ?_
 |(with_reducible show PIp _ _ _ _ _ _ (zI _));refine aaR rfl m.m_enumerate ?_
 |(with_reducible show PIp _ _ _ _ _ _ (cC _));refine K7 rfl m.m_range ?_
 |(with_reducible show PIp _ _ _ _ _ _ (sM _));refine H0 rfl m.m_range ?_
 |(with_reducible show PIp _ _ _ _ _ _ (aX _));refine acL ?_
 |(with_reducible show mO _ _ _ (gN _));exact aaf (by first |exact nd |(show(dE _ _).Nodup;decide+kernel)) rfl (by first |exact ie rfl |exact ig rfl)
 |(with_reducible show mO _ _ _ (gT _ _));refine acB rfl ?_
 |(with_reducible show tO _ _ _ eA);exact aac
 |(with_reducible show tO _ _ _ (cD _ _));refine O3 ?_ ?_
 |(with_reducible show gB _ _ _ _ _ cF);exact aaU
 |(with_reducible show gB _ _ _ _ _ (aE _ _));refine Q3 ?_ ?_
 |(with_reducible show gB _ _ _ _ _ _);refine aaa ?_
 |(with_reducible show eC _ _ _ _ _ nS);exact aaM
 |(with_reducible show eC _ _ _ _ _ (aU _));refine abL ?_
 |(with_reducible show eC _ _ _ _ _ (bI _ _ _));refine ada ?_ ?_ ?_
 |(with_reducible show eC _ _ _ _ _ (cK _));refine aaB ?_
 |(with_reducible show eC _ _ _ _ _ (vE _));exact Q0 rfl (by assumption) (by assumption)
 |(with_reducible show eC _ _ _ _ _ (aM _ (bC _ _ _ _ _)));(first |refine Y9 nd rfl (by first |exact ie rfl |exact ig rfl) (by first |exact Yw |exact Iw |exact Hv |exact Iv) ?_ rfl (λ_ _ _ _=> ?_) (λ_ _ _ _=> ?_) |refine Bs nd rfl (by first |exact ie rfl |exact ig rfl) ?_)
 |(with_reducible show eC _ _ _ _ _ (aM _ _));refine Bs nd rfl (by first |exact ie rfl |exact ig rfl) ?_
 |(with_reducible show eC _ _ _ _ _ (vV _ _ _));refine aby rfl nd rfl rfl (by decide) rfl rfl ?_ rfl
 |(with_reducible show eC _ _ _ _ _ (qS _ _));refine acq ?_ ?_
 |(with_reducible show eC _ _ _ _ _ (nT _ _ _));refine acv (rE hr) ?_ ?_ ?_
 |(with_reducible show eC _ _ _ _ _ (qG _ _ _));refine U4 ?_ ?_ ?_
 |(with_reducible show eC _ _ _ _ _ (nR _ _));refine U6 nd rfl (by first |exact ie rfl |exact ig rfl) ?_
 |(with_reducible show eC _ _ _ _ _ (nJ _ _));refine R8 (by first |exact ym |exact yn) ?_ ?_
 |(with_reducible show eC _ _ _ _ _ (qN _ _ _));exact abm (by first |exact ym |exact yn) rfl nd rfl rfl rfl (by first |exact ie rfl |exact ig (ie rfl)) (by first |exact ie rfl |exact ig rfl) (by first |exact ie rfl |exact ig (ie rfl)) (by decide) (by decide)
 |(with_reducible show eC _ _ _ _ _ (aY _ _ _));refine abi (by first |exact ym |exact yn) rfl ?_ ?_ ?_)<;>trivial)
set_option hygiene true
section
variable{B:Bx}(X:XG B.K B.mg)(m:Mg B.mg)
include X m
theorem abg(h:HF B.K "sign" Du):xS B:=bV (N:=["number"]) X h bP λnd _ _ _ _ _ _ _ hr=>by unfold Xe;trivial
theorem J8(h:HF B.K "divisor" Tl):Cc B:=bV (N:=["one","other","rest"]) X h bP λnd _ _ _ _ _ _ _ hr=>by unfold Ic;trivial
theorem K5(h:HF B.K "reduced" Gm)(C_divisor:Cc B):Rk B:=bV (N:=["numbers","common","number"]) X h bP λnd _ _ _ _ _ _ _ hr=>by unfold Qc;trivial
theorem F8{f:Addr}{fd:ca}{dsv:Array Value}(F:nY B.K "fraction" "fraction" uI f fd dsv)(C_sign:xS B)(C_divisor:Cc B)(q_NoNumber:B.mg "NoNumber"=some (.ref (B.cl "NoNumber")))(x_NoNumber:iw B.K (B.cl "NoNumber") kU "ValueError.__new__"=true):eI B.P B.w B.K B.mg B.base (iJ B.P B.w) 2 f fd ["top","bottom"] (lE B.K B.cl rN):=Iz (N:=["top","bottom","common"]) F bP λnd _ _ _ _ _ _ _ hr=>by unfold Zb;trivial
theorem abe(h:HF B.K "plus" Lu)(H_fraction:Lb B):Yq B:=bV (N:=["one","other"]) X h bP λnd _ _ _ _ _ _ _ hr=>by unfold Af;trivial
theorem X4(h:HF B.K "total" Ur)(C_plus:Yq B):Aq B:=bV (N:=["parts","pairs"]) X h bP λnd _ _ _ _ _ _ _ hr=>by unfold Te;trivial
theorem Z6{f:Addr}{fd:ca}{dsv:Array Value}(F:nY B.K "point" "point" uS f fd dsv)(C_reduced:Rk B)(C_sign:xS B)(q_NoPoint:B.mg "NoPoint"=some (.ref (B.cl "NoPoint")))(x_NoPoint:iw B.K (B.cl "NoPoint") kU "ValueError.__new__"=true):eI B.P B.w B.K B.mg B.base (iJ B.P B.w) 3 f fd ["numbers","bottom"] (lE B.K B.cl uQ):=Iz (N:=["numbers","bottom"]) F bP λnd _ _ _ _ _ _ _ hr=>by unfold Se;trivial
theorem A5(h:HF B.K "whole_arrow" Hj):Bj B:=bV (N:=["start","end"]) X h bP λnd _ _ _ _ _ _ _ hr=>by unfold Za;trivial
theorem aej(h:HF B.K "dot" Hx):Eg B:=bV (N:=["u","v"]) X h bP λnd _ _ _ _ _ _ _ hr=>by unfold Ih;trivial
theorem N6(h:HF B.K "normal" Tn):Em B:=bV (N:=["arrows","u","v"]) X h bP λnd _ _ _ _ _ _ _ hr=>by unfold xP;trivial
theorem A8(h:HF B.K "determinant" Jj)(C_whole_arrow:Bj B)(C_dot:Eg B)(C_normal:Em B):Xa B:=bV (N:=["points","rows"]) X h bP λnd _ _ _ _ _ _ _ hr=>by unfold wH;trivial
theorem abz(h:HF B.K "side" Vt)(C_sign:xS B)(C_determinant:Xa B):Xr B:=bV (N:=["points"]) X h bP λnd _ _ _ _ _ _ _ hr=>by unfold yU;trivial
theorem L9(h:HF B.K "simplex" Mm)(C_side:Xr B)(q_Flat:B.mg "Flat"=some (.ref (B.cl "Flat")))(x_Flat:iw B.K (B.cl "Flat") kU "ValueError.__new__"=true):Tk B:=mkX (N:=["points","corners","turn"]) X h bP λnd _ _ _ _ _ _ _ hr=>by unfold xC;trivial
theorem F7(h:HF B.K "replaced" Nk):uF B:=bV (N:=["row","place","value"]) X h bP λnd _ _ _ _ _ _ _ hr=>by unfold Bc;trivial
theorem M9(h:HF B.K "extent" No)(H_fraction:Lb B)(C_determinant:Xa B):Fm B:=bV (N:=["piece","share","bottom","p"]) X h bP λnd _ _ _ _ _ _ _ hr=>by unfold xE;trivial
theorem Q5(h:HF B.K "height" Jp)(C_dot:Eg B):Qm B:=bV (N:=["blade","p"]) X h bP λnd _ _ _ _ _ _ _ hr=>by unfold Pd;trivial
theorem E4(h:HF B.K "crossing" El)(H_point:So B):uH B:=bV (N:=["p","q","p_height","q_height","numbers"]) X h bP λnd _ _ _ _ _ _ _ hr=>by unfold wN;trivial
theorem E1(h:HF B.K "parted" sD):bR B "parted" 1 ["corners","heights"] Vb:=bV (N:=["corners","heights","top","low","middle","parts","k"]) X h bP (k:=0) λnd _ _ _ _ _ _ _ hr=>aaW
theorem F0(h:HF B.K "parted" sD)(C_crossing:uH B)(C_replaced:uF B):bR B "parted" 5 ["corners","heights"] Ac:=by have C_rec:=E1 X m h;exact bV (N:=["corners","heights","top","low","middle","parts","k"]) (k:=4) X h bP λnd _ _ _ _ _ _ _ hr=>by unfold jJ;trivial
theorem E3(h:HF B.K "parted" sD)(C_crossing:uH B)(C_replaced:uF B):bR B "parted" 6 ["corners","heights"] Sb:=by have C_rec:=F0 X m h C_crossing C_replaced;exact bV (N:=["corners","heights","top","low","middle","parts","k"]) (k:=5) X h bP λnd _ _ _ _ _ _ _ hr=>by unfold jJ;trivial
theorem E7(h:HF B.K "parted" sD)(C_crossing:uH B)(C_replaced:uF B):bR B "parted" 7 ["corners","heights"] Qb:=by have C_rec:=E3 X m h C_crossing C_replaced;exact bV (N:=["corners","heights","top","low","middle","parts","k"]) (k:=6) X h bP λnd _ _ _ _ _ _ _ hr=>by unfold jJ;trivial
theorem P9(h:HF B.K "parted" sD)(C_crossing:uH B)(C_replaced:uF B):bR B "parted" 8 ["corners","heights"] oK:=by have C_rec:=E7 X m h C_crossing C_replaced;exact bV (N:=["corners","heights","top","low","middle","parts","k"]) (k:=7) X h bP λnd _ _ _ _ _ _ _ hr=>by unfold jJ;trivial
theorem B5(h:HF B.K "heights_of" Sj)(C_height:Qm B):Cj B:=bV (N:=["corners","blade"]) X h bP λnd _ _ _ _ _ _ _ hr=>by unfold Ib;trivial
theorem adF(h:HF B.K "cut" Ax)(C_parted:O7 B)(C_heights_of:Cj B)(H_simplex:Tk B):Gw B:=bV (N:=["heap","blade","front","behind","piece","part"]) X h bP λnd _ _ _ _ _ _ _ hr=>by unfold Qg;trivial
theorem abR(h:HF B.K "size" Kv)(C_total:Aq B)(C_extent:Fm B):Bt B:=bV (N:=["heap"]) X h bP λnd _ _ _ _ _ _ _ hr=>by unfold Hf;trivial
theorem acu(h:HF B.K "_law_row" Bu):Qq B:=bV (N:=["_law_script","_law_row_here","_law_k","_law_cell","_law_one","_law_two","_law_three"]) X h bP λnd _ _ _ _ _ _ _ hr=>by unfold Ye;trivial
theorem aaO(h:HF B.K "_law_take" Nq):mW B:=bV (N:=["_law_row_here","_law_many","_law_found"]) X h bP λnd _ _ _ _ _ _ _ hr=>by unfold xT;trivial
theorem abN(h:HF B.K "_law_gcd" Kw):Dt B:=bV (N:=["_law_one","_law_other"]) X h bP λnd _ _ _ _ _ _ _ hr=>by unfold Kf;trivial
theorem J2(h:HF B.K "_law_lowest" Um)(C_wgcd:Dt B):oC B:=bV (N:=["_law_numbers","_law_by","_law_number"]) X h bP λnd _ _ _ _ _ _ _ hr=>by unfold uK;trivial
theorem L8(h:HF B.K "_law_upward" Qn)(C_wlowest:oC B):wM B:=bV (N:=["_law_numbers","_law_told","_law_number"]) X h bP λnd _ _ _ _ _ _ _ hr=>by unfold Mc;trivial
theorem R4(h:HF B.K "_law_whole" Ro):En B:=bV (N:=["_law_number"]) X h bP λnd _ _ _ _ _ _ _ hr=>by unfold Yc;trivial
theorem J7(h:HF B.K "_law_wholes" Sm)(C_wwhole:En B):Ll B:=bV (N:=["_law_told","_law_many"]) X h bP λnd _ _ _ _ _ _ _ hr=>by unfold Vc;trivial
theorem aa0(h:HF B.K "_law_frac" Sr)(C_wlowest:oC B):xG B:=bV (N:=["_law_top","_law_bottom"]) X h bP λnd _ _ _ _ _ _ _ hr=>by unfold xX;trivial
theorem acN(h:HF B.K "_law_sum" Ku)(C_wfrac:xG B):Xd B:=bV (N:=["_law_one","_law_other"]) X h bP λnd _ _ _ _ _ _ _ hr=>by unfold Zf;trivial
theorem L7(h:HF B.K "_law_joined" On)(C_wlowest:oC B):Al B:=bV (N:=["_law_p","_law_q","_law_way","_law_far_here"]) X h bP λnd _ _ _ _ _ _ _ hr=>by unfold Nc;trivial
theorem acO(h:HF B.K "_law_gap" Cw):uU B:=bV (N:=["_law_p","_law_q"]) X h bP λnd _ _ _ _ _ _ _ hr=>by unfold Df;trivial
theorem Q1(h:HF B.K "_law_cross" Ho):rS B:=bV (N:=["_law_u","_law_v","_law_x","_law_y","_law_z"]) X h bP λnd _ _ _ _ _ _ _ hr=>by unfold xO;trivial
theorem abU(h:HF B.K "_law_dot" Ow):uR B:=bV (N:=["_law_u","_law_v"]) X h bP λnd _ _ _ _ _ _ _ hr=>by unfold Sf;trivial
theorem aaz(h:HF B.K "_law_turn" Ss)(C_wdot:uR B)(C_wcross:rS B):Wc B:=bV (N:=["_law_ways"]) X h bP λnd _ _ _ _ _ _ _ hr=>by unfold sO;trivial
theorem acI(h:HF B.K "_law_det" Zv)(C_wturn:Wc B)(C_wgap:uU B):xU B:=bV (N:=["_law_points"]) X h bP λnd _ _ _ _ _ _ _ hr=>by unfold yS;trivial
theorem D9(h:HF B.K "_law_simplex" Cl)(C_wdet:xU B):Kb B:=bV (N:=["_law_points","_law_told"]) X h bP λnd _ _ _ _ _ _ _ hr=>by unfold wK;trivial
theorem aaG(h:HF B.K "_law_bulk" Vs)(C_wfrac:xG B)(C_wdet:xU B):Ap B:=bV (N:=["_law_points","_law_under","_law_p"]) X h bP λnd _ _ _ _ _ _ _ hr=>by unfold xW;trivial
theorem B6(h:HF B.K "_law_heap_bulk" Qj)(C_wsum:Xd B)(C_wbulk:Ap B):Lj B:=bV (N:=["_law_heap","_law_told","_law_points"]) X h bP λnd _ _ _ _ _ _ _ hr=>by unfold Db;trivial
theorem C0(h:HF B.K "_law_flat_line" Nj)(C_wupward:wM B)(C_wcross:rS B):Kj B:=bV (N:=["_law_p","_law_q"]) X h bP λnd _ _ _ _ _ _ _ hr=>by unfold Hb;trivial
theorem A6(h:HF B.K "_law_space_line" Fj)(C_wupward:wM B)(C_wgap:uU B)(C_wcross:rS B):Zi B:=bV (N:=["_law_p","_law_q"]) X h bP λnd _ _ _ _ _ _ _ hr=>by unfold Cb;trivial
theorem S7(h:HF B.K "_law_plane" Ep)(C_wcross:rS B)(C_wgap:uU B)(C_wupward:wM B)(C_wdot:uR B):Bm B:=bV (N:=["_law_p","_law_q","_law_r","_law_out"]) X h bP λnd _ _ _ _ _ _ _ hr=>by unfold Od;trivial
theorem T5(h:HF B.K "_law_shuts" Yn):Zm B:=bV (N:=["_law_points","_law_p","_law_q","_law_r","_law_s"]) X h bP λnd _ _ _ _ _ _ _ hr=>by unfold Hd;trivial
theorem abD(h:HF B.K "_law_put" Yv):Os B:=bV (N:=["_law_table","_law_key","_law_number"]) X h bP λnd _ _ _ _ _ _ _ hr=>by unfold Vf;trivial
theorem U9(h:HF B.K "_law_mark" Rr)(C_wflat_line:Kj B)(C_wput:Os B)(C_wspace_line:Zi B)(C_wshuts:Zm B)(C_wplane:Bm B):Dp B:=bV (N:=["_law_table","_law_points","_law_number","_law_k","_law_p","_law_q","_law_line","_law_lines","_law_m","_law_shut","_law_flat"]) X h bP λnd _ _ _ _ _ _ _ hr=>by unfold yC;trivial
theorem aae(h:HF B.K "_law_same" Ps)(C_wmark:Dp B):Dq B:=bV (N:=["_law_one","_law_other","_law_table","_law_points"]) X h bP λnd _ _ _ _ _ _ _ hr=>by unfold De;trivial
theorem A9(h:HF B.K "_law_point_form" Ij)(C_wwholes:Ll B)(C_wlowest:oC B):Aj B:=bV (N:=["_law_p","_law_many"]) X h bP λnd _ _ _ _ _ _ _ hr=>by unfold Bb;trivial
theorem A0(h:HF B.K "_law_simplex_form" Wi)(C_wpoint_form:Aj B)(C_wdet:xU B)(C_wsimplex:Kb B):Vi B:=bV (N:=["_law_points","_law_many"]) X h bP λnd _ _ _ _ _ _ _ hr=>by unfold Wa;trivial
theorem C4(h:HF B.K "_law_heap_form" Rj)(C_wsimplex_form:Vi B):Ej B:=bV (N:=["_law_heap","_law_many"]) X h bP λnd _ _ _ _ _ _ _ hr=>by unfold Eb;trivial
theorem D7(h:HF B.K "_law_raw_turn" Ak)(C_wturn:Wc B):Oj B:=bV (N:=["_law_corners"]) X h bP λnd _ _ _ _ _ _ _ hr=>by unfold wI;trivial
theorem abJ(h:HF B.K "_law_raw" Yt)(C_wtake:mW B)(C_wraw_turn:Oj B):Gs B:=bV (N:=["_law_row_here","_law_dims","_law_wide","_law_corners","_law_k"]) X h bP λnd _ _ _ _ _ _ _ hr=>by unfold Jf;trivial
theorem V8(h:HF B.K "_law_kuhn" Mt)(C_wtake:mW B):Mo B:=mkL (N:=["_law_row_here","_law_rest","_law_corner","_law_corners","_law_k","_law_m"]) X h bP λnd _ _ _ _ _ _ _ hr=>by unfold xV;trivial
theorem D5(h:HF B.K "_law_raw_heap" Vj)(C_wtake:mW B)(C_wraw:Gs B)(C_wkuhn:Mo B):Uj B:=bV (N:=["_law_row_here","_law_dims","_law_many","_law_heap","_law_k","_law_kind"]) X h bP λnd _ _ _ _ _ _ _ hr=>by unfold Jb;trivial
theorem abE(h:HF B.K "_law_far" Wv)(C_wtake:mW B)(C_wlowest:oC B):Pe B:=bV (N:=["_law_row_here","_law_dims","_law_kind","_law_wide","_law_under","_law_far_here"]) X h bP λnd _ _ _ _ _ _ _ hr=>by unfold Fg;trivial
theorem E8(h:HF B.K "_law_stretch" Wk)(C_wtake:mW B)(C_wfrac:xG B):Zj B:=bV (N:=["_law_row_here","_law_dims","_law_told","_law_k","_law_kind"]) X h bP λnd _ _ _ _ _ _ _ hr=>by unfold Xb;trivial
theorem X8(h:HF B.K "_law_spot" Rs)(C_wlowest:oC B):Mp B:=bV (N:=["_law_corner","_law_stretch_here","_law_under","_law_part","_law_far_here"]) X h bP λnd _ _ _ _ _ _ _ hr=>by unfold yA;trivial
theorem aa1(h:HF B.K "_law_laid" Ft)(C_wfar:Pe B)(C_wsimplex:Kb B)(C_wjoined:Al B)(C_wspot:Mp B):Io B:=bV (N:=["_law_row_here","_law_heap","_law_stretch_here","_law_told","_law_corners","_law_far_here"]) X h bP λnd _ _ _ _ _ _ _ hr=>by unfold Ae;trivial
theorem K6(h:HF B.K "_law_handed" Rn)(C_wtake:mW B):Sk B:=bV (N:=["_law_row_here","_law_rows"]) X h bP λnd _ _ _ _ _ _ _ hr=>by unfold xA;trivial
theorem T7(h:HF B.K "_law_blade" Yp)(C_wlowest:oC B)(C_wcross:rS B)(C_wgap:uU B)(C_wdot:uR B):Hn B:=bV (N:=["_law_points","_law_p","_law_out"]) X h bP λnd _ _ _ _ _ _ _ hr=>by unfold xI;trivial
theorem A4(h:HF B.K "_law_some_blade" Mj)(C_wtake:mW B)(C_wfar:Pe B)(C_wblade:Hn B):Yi B:=bV (N:=["_law_row_here","_law_heap","_law_dims","_law_found","_law_k","_law_points","_law_told","_law_far_here"]) X h bP λnd _ _ _ _ _ _ _ hr=>by unfold Ab;trivial
theorem ac3{f:Addr}{fd:ca}(F:jI B.K "law" "law" oY f fd)(C_wrow:Qq B)(C_wtake:mW B)(C_wlaid:Io B)(C_wstretch:Zj B)(C_wraw_heap:Uj B)(C_wsome_blade:Yi B)(C_whanded:Sk B)(C_cut:Gw B)(C_wheap_form:Ej B)(C_wdot:uR B)(C_wsame:Dq B)(C_wsum:Xd B)(C_size:Bt B)(C_wheap_bulk:Lj B):eI B.P B.w B.K B.mg B.base fL 10 f fd ["_law_script"] (lC B.K B.cl Mh):=mkR (N:=["_law_script","_law_row_here","_law_dims","_law_heap","_law_knife","_law_handed_here","_law_found","_law_front","_law_rest","_law_points","_law_again"]) F bP λnd _ _ _ _ _ _ _ hr=>by unfold Fh;trivial
end
theorem Xu(i j:Int):wA (.int i) (.int j)=some (.bl (decide (i<=j))):=rfl
theorem Dg(i j:Int):hJ (.int i) (.int j)=some (.bl (decide (i<j))):=rfl
theorem Ks(i j:Int):cX (.int i) (.int j)=some (.int (i-j)):=rfl
theorem Lf(i j:Int):dR (.int i) (.int j)=some (.bl (decide (j<i))):=rfl
theorem Yu(i j:Int):qV (.int i) (.int j)=some (.bl (decide (j<=i))):=rfl
theorem adj(n:Nat)(a b:Int):aZ n (.int a) (.int b)=some (a==b):=by cases n<;>rfl
local macro_rules
 | `(tactic|simp! [$l,*] $[$loc:location]?)=>`(tactic|simp[gJ,aE,bI,aR,gX,jP,gF,oZ,Sy,uA,aC,bS,mR,mN,aB,aA,mC,aD,bH.bind,sV,kL,nP,zG,gS,rd,nQ,iN,cS,dP,eB,cM,vO,kR,cE.of,aU,nS,cF,cK,aM,nH,jA,aH,kM,qE,jD,gI,jK,cB,gM,frz,fT,Xu,Dg,Ks,Lf,Yu,bF,adj,$l,*] $[$loc]?)
 | `(tactic|dsimp! [$l,*] $[$loc:location]?)=>`(tactic|simp[gJ,aE,bI,aR,gX,jP,gF,oZ,Sy,uA,aC,bS,mR,mN,aB,aA,mC,aD,bH.bind,sV,kL,nP,zG,gS,rd,nQ,iN,cS,dP,eB,cM,vO,kR,cE.of,aU,nS,cF,cK,aM,nH,jA,aH,kM,qE,jD,gI,jK,cB,gM,frz,fT,Xu,Dg,Ks,Lf,Yu,bF,aK,aZ,fY,fX,$(⟨l.elemsAndSeps⟩),*] $[$loc]?)
theorem Vn(S:aJ)(k:Nat)(o:SO):(S.set k o).take S.length=S.set k o:=uc (by simp)
def eP(S:aJ)(k:Nat)(ns:AY):Prop:=S[k]?=some (.lst (ns.map .int))
theorem eP.lt    (h:eP S k ns):k<S.length:=(bn.mp h).1
theorem eP.set    (h:eP S k ns)(ms:AY):eP (S.set k (.lst (ms.map .int))) k ms:=df h.lt
theorem Fl{r:cN}{k:Nat}{m:AV}:∀(ns:AY)(S:aJ),eP S k ns->∃n ns',eT (jP (aR (aC dR (mR cS (aB (aA 0) aD)) (mC (.int 0)))) (aR (aC cB (aC aK (aA 0) (mC (.int 0))) (mC (.int 0))))) (cK (pB (aA 0) (aB (mC (.int 0)) aD))) n (some (.ref k)::some m::r) S=.nx (some (.ref k)::some m::r) (S.set k (.lst (ns'.map .int)))/\ns'.length<=ns.length/\(ns'=[]\/∃i t,ns'=i::t/\i≠0)
 |[],S,h=>by
  refine⟨1,[],?_,al _,.inl rfl⟩;have h':S[k]?=some (.lst []):=h;have e:S.set k (.lst (([]:AY).map .int))=S:=jn λi=>by
   by_cases q:k=i
   .subst q;rw[df h.lt,h'];rfl
   .rw[dk q]
  rw[e];simp[eT,jP,aR,aC,mR,aB,aA,mC,aD,bH.bind,nP,gS,rd,h',iN,cS,kL,dR,i2,kR,cE.of]
 |i::t,S,h=>by
  have h':S[k]?=some (.lst (.int i::t.map .int)):=h
  by_cases hi:i=0
  .subst hi
   have hr:eP (S.set k (.lst (t.map .int))) k t:=h.set t;obtain⟨n,ns',e,l,q⟩:=Fl (r:=r) (m:=m) t _ hr;refine⟨n+1,ns',?_,by simp;omega,q⟩;rw[nv]at e;rw[<-e];have hl:(0:Int)<(t.length:Int)+1:=by omega
   simp[eT,jP,aR,aC,mR,aB,aA,mC,aD,bH.bind,nP,gS,rd,h',iN,cS,kL,dR,i2,kR,cE.of,aK,fY,fX,cB,aZ,cK,pB,fG,tI,seqIndex?,hl]
  .refine⟨1,i::t,?_,al _,.inr ⟨i,t,rfl,hi⟩⟩
   have e:S.set k (.lst ((i::t).map .int))=S:=jn λj=>by
    by_cases q:k=j
    .subst q;rw[df h.lt,h'];rfl
    .rw[dk q]
   rw[e];have hl:(0:Int)<(t.length:Int)+1:=by omega
   simp[eT,jP,aR,aC,mR,aB,aA,mC,aD,bH.bind,nP,gS,rd,h',iN,cS,kL,dR,i2,kR,cE.of,aK,fY,fX,cB,aZ,hl,hi]
theorem iO{S:aJ}{k:Nat}{ns:AY}{m:Int}(h:eP S k ns)(hm:0<m)(b:Bd 8000 m):∃(v:Int)(ns':AY),cY [.ref k,.pv (.int m)] S=.ok (.pv (.int v)) (S.set k (.lst (ns'.map .int)))/\0<=v/\v<m/\ns'.length<=ns.length:=by
 obtain⟨n,ns',e,l,q⟩:=Fl (r:=[none]) (m:=.pv (.int m)) ns S h;have hr:=h.set ns';have hl1:(S.set k (.lst (ns'.map .int))).length=S.length:=by simp
 have hss:∀x,(S.set k (.lst (ns'.map .int))).set k x=S.set k x:=λx=>nv ..;generalize hS1:S.set k (.lst (ns'.map .int))=S1 at e hr hl1 hss;have w:=wT e (by simp);rcases q with rfl |⟨i,t,rfl,hi⟩
 .refine⟨0,[],?_,qx 0,hm,iu _⟩
  rw[hS1];have hr':S1[k]?=some (.lst []):=hr;have tk:List.take S.length S1=S1:=uc (by omega);unfold cY aL xT;simp[gJ,aE,w,bI,aR,aC,mR,aB,aA,mC,aD,bH.bind,nP,gS,rd,hr',iN,cS,kL,cB,aZ,kR,cE.of,aU,nH,jA,tk]
 .have hr':S1[k]?=some (.lst (.int i::t.map .int)):=hr
  refine⟨i.fmod m,i.fdiv m::t,?_,AD i hm,Int.fmod_lt_of_pos i hm,l⟩;rw[<-hss];have tk:∀x,List.take S.length (S1.set k x)=S1.set k x:=λx=>uc (by simp;omega);have hl:¬((t.length:Int)+1=0):=by omega
  have hq:vI i m:=⟨by omega,b⟩;have hm0:m≠0:=by omega
  unfold cY aL xT;simp[gJ,aE,w,bI,aR,aC,mR,aB,aA,mC,aD,bH.bind,nP,gS,rd,hr',iN,cS,kL,cB,aZ,kR,cE.of,aU,nH,jA,tk,cF,hl,aM,fU,jM,i2,cI,aK,fY,fX,hm0,hq,qG,fG,vH]
theorem lO  (h:qO i j):aV (.int i) (.int j)=some (.int (i*j)):=by
 simp[aV,i2,cI,h]
theorem rT  (h:vI i j):jM (.int i) (.int j)=some (.int (i.fdiv j)):=by
 simp[jM,i2,cI,h]
theorem oO{i j:Int}(h:j≠0):fU (.int i) (.int j)=some (.int (i.fmod j)):=by
 simp[fU,i2,cI,h]
theorem yH  (h:zM i j):iM (.int i) (.int j)=some (.int (i^j.toNat)):=by
 simp[iM,i2,cI,h]
theorem yF(n:Int)(S:aJ):qF [.pv (.int n)] S=.ok (.pv (.int (sg n))) S:=by
 unfold qF aL Xe sg
 by_cases h1:0<n
 .simp[gJ,aE,bI,aR,aC,aA,mC,bH.bind,kL,rd,iN,dR,i2,kR,cE.of,aU,nH,jA,h1]
 .by_cases h2:n<0
  .simp[gJ,aE,bI,aR,aC,aA,mC,bH.bind,kL,rd,iN,dR,hJ,i2,kR,cE.of,aU,nH,jA,h1,h2,cF,bS,sV,cM]
  .simp[gJ,aE,bI,aR,aC,aA,mC,bH.bind,kL,rd,iN,dR,hJ,i2,kR,cE.of,aU,nH,jA,h1,h2,cF,bS,sV,cM]
theorem Dj(S:aJ):∀(m:Nat)(a b:Int)(x:BH),b.natAbs<=m->∃(n:Nat)(g:Int)(x':BH),eT (aR (aC gM (aA 1) (mC (.int 0)))) (aE (aM 2 (aC fU (aA 0) (aA 1))) (aE (aM 0 (aA 1)) (aM 1 (aA 2)))) n [some (.pv (.int a)),some (.pv (.int b)),x] S=.nx [some (.pv (.int g)),some (.pv (.int 0)),x'] S/\g.natAbs=cf a b
 |0,a,b,x,h=>by
  have hb:b=0:=by omega
  subst hb;refine⟨1,a,x,?_,by simp⟩;dsimp! [eT]
 |m+1,a,b,x,h=>by
  by_cases hb:b=0
  .subst hb
   refine⟨1,a,x,?_,by simp⟩;dsimp! [eT]
  .have hl:=Jn a hb
   obtain⟨n,g,x',e,q⟩:=Dj S m b (a.fmod b) (some (.pv (.int (a.fmod b)))) (by omega);refine⟨n+1,g,x',?_,by rw[q,Np]⟩;rw[<-e];dsimp! [eT,oO hb,hb]
theorem Uk(a b:Int)(S:aJ):rP [.pv (.int a),.pv (.int b)] S=.ok (.pv (.int (cf a b:Nat))) S:=by
 obtain⟨n,g,x',e,q⟩:=Dj S b.natAbs a b none (al _);have w:=wT e (by simp);unfold rP aL Ic;have hg:(if g<0 then-g else g)=((cf a b:Nat):Int):=by rw[<-q];exact Bg g
 dsimp! [w,hg]
theorem Dn(S:aJ):∀(m:Nat)(a b:Int),0<=a->0<=b->b.natAbs<=m->∃(n:Nat),eT (aR (aC dR (aA 1) (mC (.int 0)))) (vV 0 1 (aB (aA 1) (aB (aC fU (aA 0) (aA 1)) aD))) n [some (.pv (.int a)),some (.pv (.int b))] S=.nx [some (.pv (.int (cf a b:Nat))),some (.pv (.int 0))] S
 |0,a,b,ha,hb,h=>by
  have hb:b=0:=by omega
  subst hb;have ea:((cf a 0:Nat):Int)=a:=by simp;omega
  refine⟨1,?_⟩;rw[ea];dsimp! [eT]
 |m+1,a,b,ha,hb,h=>by
  by_cases h0:b=0
  .subst h0
   have ea:((cf a 0:Nat):Int)=a:=by simp;omega
   refine⟨1,?_⟩;rw[ea];dsimp! [eT]
  .have hl:=Jn a h0
   have hp:0<b:=by omega
   obtain⟨n,e⟩:=Dn S m b (a.fmod b) hb (AD a hp) (by omega);refine⟨n+1,?_⟩;rw[<-Np,<-e];dsimp! [eT,oO h0,hp,vV]
theorem aee(a b:Int)(S:aJ):uX [.pv (.int a),.pv (.int b)] S=.ok (.pv (.int (cf a b:Nat))) S:=by
 have ha:0<=(if a<0 then-a else a):=by grind
 have hb:0<=(if b<0 then-b else b):=by grind
 obtain⟨n,e⟩:=Dn S _ _ _ ha hb (al _);have w:=wT e (by simp);have eg:cf (if a<0 then-a else a) (if b<0 then-b else b)=cf a b:=by
  rw[Bg,Bg];simp[cf]
 rw[eg]at w;unfold uX aL Kf;dsimp! [w]
theorem xJ(S:aJ)(v2:BH):∀(ns:AY)(g:Int)(a:AV),∃v',dL [] (gN 2) (aM 1 (aH uX [] (aB (aA 1) (aB (aA 2) aD)))) (ns.map .int) [some a,some (.pv (.int g)),v2] S=.nx [some a,some (.pv (.int (gl ns g))),v'] S
 |[],g,a=>⟨v2,eZ⟩
 |n::ns,g,a=>by
  obtain⟨v',e⟩:=xJ S _ ns _ a;refine⟨v',?_⟩;show dL [] _ _ (.int n::ns.map .int) _ S=_;rw[dY];dsimp! [gN,aee];exact e
theorem xD(S:aJ)(g:Int)(hg:g≠0)(b:Bd 16000 g):∀(ns:AY)(x:BH),bZ [] (gN 0) (aC lQ (aA 0) (aA 1)) (ns.map .int) [x,some (.pv (.int g))] S=.ok ((ns.map λn=>n.fdiv g).map .int) S
 |[],x=>dS
 |n::ns,x=>by
  have ih:=xD S g hg b ns (some (.pv (.int n)));show bZ [] _ _ (.int n::ns.map .int) _ S=_;rw[dX];dsimp! [gN,Kc hg,ih]
theorem mU(ns:AY)(S:aJ)(hb:∀n∈ns,Bd 16000 n):iA [.pv (.lst (ns.map .int))] S=.ok (.pv (.tup ((low ns).map .int))) S:=by
 obtain⟨v',e⟩:=xJ S none ns 0 (.pv (.lst (ns.map .int)));unfold iA aL uK
 by_cases h:gl ns 0=0
 .have el:low ns=ns:=by unfold low;rw[if_pos h]
  dsimp! [aY,aX,bT,e,h,el]
 .have el:low ns=ns.map λn=>n.fdiv (gl ns 0):=by
   unfold low;rw[if_neg h];exact gf λn hn=>(my ((jY ns 0).2 n hn)).symm
  have bg:Bd 16000 (gl ns 0):=yX (Bd.of (n:=0) (by simp) (qg 16000)) hb;have ec:=xD S (gl ns 0) h bg ns none;dsimp! [aY,aX,bT,e,h,el,bC,cQ,ec]
theorem aan(n:Int)(S:aJ):uL [.pv (.int n)] S=.ok (.pv (.bl true)) S:=by
 unfold uL aL Yc;dsimp! [fV]
theorem Wj(S:aJ):∀(ns:AY)(x:BH),bZ [] (gN 0) (aH uL [] (aB (aA 0) aD)) (ns.map .int) [x] S=.ok (ns.map λ_=>.bl true) S
 |[],x=>dS
 |n::ns,x=>by
  have ih:=Wj S ns (some (.pv (.int n)));show bZ _ _ _ (.int n::ns.map _) _ S=_;rw[dX];dsimp! [gN,aan,ih]
theorem Bq:∀(ns:AY),iQ (ns.map λ_=>PV.bl true)=some (ns.map λ_=>true)
 |[]=>rfl
 |n::ns=>by
  show iQ (.bl _::ns.map _)=_;unfold iQ;rw[Bq _];rfl
theorem S5(ns:AY)(S:aJ):wP [.pv (.tup (ns.map .int)),.pv (.int ns.length)] S=.ok (.pv (.bl true)) S:=by
 unfold wP aL Vc;have e:=Wj S ns none;dsimp! [fV,bC,aX,bT,cQ,e,jE,Bq]
theorem Rt:∀(n:Nat)(ns:AY),iX (cg (aZ n) (ns.map .int) (ns.map .int))=some (ns.map λ_=>true)
 |n,[]=>rfl
 |n,m::ns=>by
  have ih:=Rt n ns;simp only[ao,km];have e:aZ n (.int m) (.int m)=some true:=by cases n<;>simp[aZ]
  rw[e];unfold iX;rw[ih]
theorem Gr(n:Nat)(ns:AY):aZ (n+1) (.tup (ns.map .int)) (.tup (ns.map .int))=some true:=by
 rw[aZ,Rt];simp
theorem J3(ns:AY)(S:aJ)(hb:∀n∈ns,Bd 16000 n):iA [.pv (.tup (ns.map .int))] S=.ok (.pv (.tup ((low ns).map .int))) S:=by
 obtain⟨v',e⟩:=xJ S none ns 0 (.pv (.tup (ns.map .int)));unfold iA aL uK
 by_cases h:gl ns 0=0
 .have el:low ns=ns:=by unfold low;rw[if_pos h]
  dsimp! [aY,aX,bT,e,h,el]
 .have el:low ns=ns.map λn=>n.fdiv (gl ns 0):=by
   unfold low;rw[if_neg h];exact gf λn hn=>(my ((jY ns 0).2 n hn)).symm
  have bg:Bd 16000 (gl ns 0):=yX (Bd.of (n:=0) (by simp) (qg 16000)) hb;have ec:=xD S (gl ns 0) h bg ns none;dsimp! [aY,aX,bT,e,h,el,bC,cQ,ec]
theorem nU(i:Int){j:Int}(h1:-(2^64)<j)(h2:j<2^64):aV (.int i) (.int j)=some (.int (i*j)):=lO (.inl (.inr ⟨h1,h2⟩))
theorem Lz:iM (.int 10) (.int 18)=some (.int 1000000000000000000):=yH   ⟨by decide,by decide,by decide⟩
theorem Kd{k:Nat}{a:AV}:∀(cs:AY)(n:Nat)(acc:AY)(S:aJ)(v2 v3 v4 v5 v6:BH),eP S k acc->acc.length+cs.length<=63->n+cs.length<=63->∃(acc':AY)(w2 w3 w4 w5 w6:BH),dL [] (gT 2 (cD (gN 2) (cD (gN 3) eA))) ((bI (aR (aC qV (aA 3) (aC iM (mC (.int 10)) (mC (.int 18))))) (cK (cR (aA 1) (aB (aC cX (aA 3) (aC iM (mC (.int 10)) (mC (.int 18)))) aD))) (aE (aM 4 (aC fU (aC aV (aC bF (aC bF (aC bF (aA 3) (aC aV (aC aV (mC (.int 7)) (aA 2)) (aA 2))) (aC aV (mC (.int 13)) (aA 2))) (mC (.int 5))) (mC (.int 48271))) (mC (.int 2147483647))))
 (aE (aM 5 (aC fU (aC aV (aC bF (aC bF (aC bF (aA 3) (aC aV (aC aV (mC (.int 11)) (aA 2)) (aA 2))) (aC aV (mC (.int 17)) (aA 2))) (mC (.int 3))) (mC (.int 40692))) (mC (.int 2147483399))))
 (aE (aM 6 (aC fU (aC aV (aC bF (aC bF (aC bF (aA 3) (aC aV (aC aV (mC (.int 5)) (aA 2)) (aA 2))) (aC aV (mC (.int 29)) (aA 2))) (mC (.int 8))) (mC (.int 39373))) (mC (.int 2147483587))))
 (aE (aM 4 (aC fU (aC aV (aA 4) (mC (.int 52021))) (mC (.int 1000000007))))
 (aE (aM 5 (aC fU (aC aV (aA 5) (mC (.int 30011))) (mC (.int 998244353))))
 (aE (aM 6 (aC fU (aC aV (aA 6) (mC (.int 45989))) (mC (.int 1000000009))))
 (cK (cR (aA 1) (aB (aC bF (aC aV (aC bF (aC aV (aA 4) (mC (.int 998244353))) (aA 5)) (mC (.int 1000000009))) (aA 6)) aD))))))))))) (kA n (cs.map .int)) [some a,some (.ref k),v2,v3,v4,v5,v6] S=.nx [some a,some (.ref k),w2,w3,w4,w5,w6] (S.set k (.lst (acc'.map .int)))/\acc'.length<=63
 |[],n,acc,S,v2,v3,v4,v5,v6,h,hl,_=>by
  refine⟨acc,v2,v3,v4,v5,v6,?_,by simpa using hl⟩;have e:S.set k (.lst (acc.map .int))=S:=jn λj=>by
   by_cases q:k=j
   .subst q;rw[df h.lt];exact h.symm
   .rw[dk q]
  rw[e];exact eZ
 |x::cs,n,acc,S,v2,v3,v4,v5,v6,h,hl,hn=>by
  simp only[ci]at hl hn;have h':S[k]?=some (.lst (acc.map .int)):=h;have hlen:acc.length<16777216:=by omega
  have hk1:-(2^64)<(n:Int):=by omega
  have hk2:(n:Int)<2^64:=by omega
  by_cases c:(1000000000000000000:Int)<=x
  .obtain⟨acc',w2,w3,w4,w5,w6,e,q⟩:=Kd (k:=k) (a:=a) cs (n+1) (acc++[x-1000000000000000000]) (S.set k (.lst ((acc++[x-1000000000000000000]).map .int))) (some (.pv (.int n))) (some (.pv (.int x))) v4 v5 v6 (h.set _) (by simp;omega) (by omega)
   refine⟨acc',w2,w3,w4,w5,w6,?_,q⟩;rw[nv]at e;rw[<-e];show dL [] _ _ (.tup [.int n,.int x]::kA (n+1) (cs.map .int)) _ S=_;rw[dY];dsimp! [gT,cD,eA,gN,Lz,c,cR,fG,iE,h',hlen]
  .obtain⟨acc',w2,w3,w4,w5,w6,e,q⟩:=Kd (k:=k) (a:=a) cs (n+1) (acc++[((((x+7*n*n+13*n+5)*48271).fmod 2147483647*52021).fmod 1000000007*998244353+(((x+11*n*n+17*n+3)*40692).fmod 2147483399*30011).fmod 998244353)*1000000009+(((x+5*n*n+29*n+8)*39373).fmod 2147483587*45989).fmod 1000000009]) _ (some (.pv (.int n))) (some (.pv (.int x))) (some (.pv (.int ((((x+7*n*n+13*n+5)*48271).fmod 2147483647*52021).fmod 1000000007)))) (some (.pv (.int ((((x+11*n*n+17*n+3)*40692).fmod 2147483399*30011).fmod 998244353)))) (some (.pv (.int ((((x+5*n*n+29*n+8)*39373).fmod 2147483587*45989).fmod 1000000009)))) (h.set _) (by simp;omega) (by omega)
   refine⟨acc',w2,w3,w4,w5,w6,?_,q⟩;rw[nv]at e;rw[<-e];show dL [] _ _ (.tup [.int n,.int x]::kA (n+1) (cs.map .int)) _ S=_;rw[dY];dsimp! [gT,cD,eA,gN,Lz,c,cR,fG,iE,h',hlen,nU _ hk1 hk2,nU _ (show-(2^64)<(48271:Int) by decide) (by decide),nU _ (show-(2^64)<(40692:Int) by decide) (by decide),nU _ (show-(2^64)<(39373:Int) by decide) (by decide),nU _ (show-(2^64)<(52021:Int) by decide) (by decide),nU _ (show-(2^64)<(30011:Int) by decide) (by decide),nU _ (show-(2^64)<(45989:Int) by decide) (by decide),nU _ (show-(2^64)<(998244353:Int) by decide) (by decide),nU _ (show-(2^64)<(1000000009:Int) by decide) (by decide),oO (show(2147483647:Int)≠0 by decide),oO (show(2147483399:Int)≠0 by decide),oO (show(2147483587:Int)≠0 by decide),oO (show(1000000007:Int)≠0 by decide),oO (show(998244353:Int)≠0 by decide),oO (show(1000000009:Int)≠0 by decide)]
theorem adU(ns:AY)(S:aJ)(h:ns.length<=63):∃ms:AY,sR [.pv (.lst (ns.map .int))] S=.ok (.ref S.length) (S++[.lst (ms.map .int)])/\ms.length<=63:=by
 have hr:eP (S++[.lst []]) S.length []:=by unfold eP;simp
 obtain⟨ms,w2,w3,w4,w5,w6,e,q⟩:=Kd (a:=.pv (.lst (ns.map .int))) ns 0 [] (S++[.lst []]) none none none none none hr (by simpa using h) (by simpa using h);have ec:kO (ns.map .int) none (some 63)=ns.map .int:=by
  unfold kO;have e1:HT.sIx (ns.map PV.int).length 0 none=0:=rfl;have e2:HT.sIx (ns.map PV.int).length (ns.map PV.int).length (some 63)=(ns.map PV.int).length:=by
   have:=HT.sIx_nat (ns.map PV.int).length (ns.map PV.int).length 63;rw[show((63:Nat):Int)=63 from rfl]at this;rw[this,ak];omega
  rw[e1,e2,List.drop_zero,Nat.sub_zero,xw]
 refine⟨ms,?_,q⟩;have es:(S++[SO.lst []]).set S.length (.lst (ms.map .int))=S++[.lst (ms.map .int)]:=by simp
 rw[es]at e;unfold sR aL Ye;dsimp! [aY,eL,jN,zI,cV,cJ,cU,fB,iT,Ff,ec,e]
theorem acz  (h:gl L 0≠0):(low L).map (gl L 0*·)=L:=by
 unfold low;rw[if_neg h,dr]
 conv=>rhs;rw[<-List.map_id L]
 refine gf λn hn=>?_;exact Int.mul_ediv_cancel' ((jY L 0).2 n hn)
def PT(L:AY)(b:Int):AY:=(low (L++[b])).map (sg b*·)
theorem afO  {b:Int}(hb:b≠0):gl (L++[b]) 0≠0:=sZ (mV L b) hb
theorem Ru  {b:Int}(hb:0<b):PT L b=low (L++[b]):=by
 unfold PT sg
 simp_all
theorem Zo(S:aJ)(v2:BH):∀(ns:AY)(g:Int)(a:AV),∃v',dL [] (gN 2) (aM 1 (aH rP [] (aB (aA 1) (aB (aA 2) aD)))) (ns.map .int) [some a,some (.pv (.int g)),v2] S=.nx [some a,some (.pv (.int (gl ns g))),v'] S
 |[],g,a=>⟨v2,eZ⟩
 |n::ns,g,a=>by
  obtain⟨v',e⟩:=Zo S _ _ _ a;refine⟨v',?_⟩;show dL _ _ _ (.int n::ns.map _) _ S=_;rw[dY];dsimp! [gN,Uk];exact e
theorem M3(ns:AY)(S:aJ)(hb:∀n∈ns,Bd 16000 n)(h:gl ns 0≠0):wV [.pv (.lst (ns.map .int))] S=.ok (.pv (.lst ((low ns).map .int))) S:=by
 obtain⟨v',e⟩:=Zo S none ns 0 (.pv (.lst (ns.map .int)));have el:low ns=ns.map λn=>n.fdiv (gl ns 0):=by
  unfold low;rw[if_neg h];exact gf λn hn=>(my ((jY ns 0).2 n hn)).symm
 have bg:Bd 16000 (gl ns 0):=yX (Bd.of (n:=0) (by simp) (qg 16000)) hb;have ec:=xD S (gl ns 0) h bg ns none;unfold wV aL Qc;dsimp! [aY,aX,bT,e,h,el,bC,cQ,ec]
theorem Cp(S:aJ)(b:Int):∀(ns:AY)(x:BH),bZ [] (gN 0) (aC aV (aH qF [] (aB (aA 1) aD)) (aA 0)) (ns.map .int) [x,some (.pv (.int b))] S=.ok ((ns.map (sg b*·)).map .int) S
 |[],x=>dS
 |n::ns,x=>by
  have ih:=Cp S b ns (some (.pv (.int n)));have hm:aV _ (.int n)=some _:=lO (.inl (.inl (aah b)));show bZ _ _ _ (.int n::ns.map _) _ S=_;rw[dX];dsimp! [gN,yF,hm,ih]
theorem Zp{w:PV}(L:AY)(b:Int)(S:aJ)(hw:w=.lst (L.map .int)\/w=.tup (L.map .int))(hL:∀n∈L,Bd 16000 n)(bb:Bd 16000 b)(hb:b≠0)(hl:L.length<=100):uQ [.pv w,.pv (.int b)] S=.ok (.pv (.tup ((PT L b).map .int))) S:=by
 have e1:=M3 (L++[b]) S (λn hn=>by
  rcases br.mp hn with z |z
  .exact hL n z
  .have:n=b:=by simpa using z
   rw[this];exact bb) (afO hb)
 have e2:=Cp S b (low (L++[b])) none;have hz:L.length+1<=16777216:=by omega
 simp only[du,ao,aw]at e1;unfold PT uQ aL Se;rcases hw with rfl |rfl<;>dsimp! [hb,hz,e1,aX,bT,bC,cQ,e2]
theorem aaK(zs:AY)(z:Int):kO ((zs++[z]).map .int) none (some (-1))=zs.map .int:=by
 unfold kO;have e1:HT.sIx ((zs++[z]).map PV.int).length 0 none=0:=rfl;have e2:HT.sIx ((zs++[z]).map PV.int).length ((zs++[z]).map PV.int).length (some (-1))=zs.length:=by
  rw[ak,av];exact Ud _ _
 rw[e1,e2];simp
theorem M6(zs:AY)(z:Int):¬(HT.sIx ((zs++[z]).map PV.int).length 0 none=0/\HT.sIx ((zs++[z]).map PV.int).length ((zs++[z]).map PV.int).length (some (-1))=((zs++[z]).map PV.int).length):=by
 rintro⟨_,e⟩
 have e2:HT.sIx ((zs++[z]).map PV.int).length ((zs++[z]).map PV.int).length (some (-1))=zs.length:=by
  rw[ak,av];exact Ud _ _
 rw[e2,ak]at e;simp at e
theorem Fd(zs:AY)(z:Int):iT (.tup ((zs++[z]).map .int)) none (some (-1))=some (.tup (zs.map .int)):=by
 unfold iT;dsimp only;rw[if_neg (M6 _ z),aaK]
theorem pZ(zs:AY)(z:Int):aK (.tup ((zs++[z]).map .int)) (.int (-1))=some (.int z):=by
 rw[du];exact Z5 _ _
theorem jR  (h0:0<=m)(h:m<1024):Bd 8000 m:=Bd.of  (by omega) (de (show 1023<2^10 by decide) (wr (by decide) (by decide)))
theorem mB{a b:Int}(h:Bd 4000 a)(g:Bd 4000 b):aV (.int a) (.int b)=some (.int (a*b)):=lO (.inr ⟨h.mono (by decide),g.mono (by decide)⟩)
structure Pt(n:Nat)(xs:AY)(w:Int):Prop where
 len:xs.length=n
 pos:0<w
 low:low (xs++[w])=xs++[w]
 bx:∀x∈xs,Bd 300 x
 bw:Bd 300 w
def mv(way:Int)(xs:AY)(w:Int)(ys:AY)(v:Int):AY:=if way=1 then low (sm xs w ys v++[w*v])else low (sm ys v (xs.map (- ·)) w++[v*w])
theorem yN(zs:AY)(z:Int)(j:Nat)(h:j<zs.length):aK (.tup ((zs++[z]).map .int)) (.int (j:Nat))=some (.int (zs.getD j 0)):=by
 refine eD ?_;rw[az,fu h]
 simp_all
theorem Ar(S:aJ)(PL QL:BF)(xs ys:AY)(w v way:Int)(hp:aK (.tup PL) (.int (-1))=some (.int w))(hq:aK (.tup QL) (.int (-1))=some (.int v))(hpj:∀j:Nat,j<xs.length->aK (.tup PL) (.int (j:Nat))=some (.int (xs.getD j 0)))(hqj:∀j:Nat,j<xs.length->aK (.tup QL) (.int (j:Nat))=some (.int (ys.getD j 0)))
  (hway:way=1\/way=-1)(bw:Bd 2000 w)(bv:Bd 2000 v)(hx:∀j,Bd 2000 (xs.getD j 0))(hy:∀j,Bd 2000 (ys.getD j 0)):∀(js:List Nat)(x:BH),(∀j∈js,j<xs.length)->
  bZ [] (gN 0) (aC bF (aC aV (aC aV (aA 1) (aC aK (aA 3) (aA 0))) (aC aK (aA 2) (bS cM (mC (.int 1))))) (aC aV (aC aK (aA 2) (aA 0)) (aC aK (aA 3) (bS cM (mC (.int 1)))))) (js.map λj=>.int (0+(j:Nat))) [x,some (.pv (.int way)),some (.pv (.tup QL)),some (.pv (.tup PL))] S=.ok ((js.map λj=>way*xs.getD j 0*v+ys.getD j 0*w).map .int) S
 |[],x,_=>dS
 |j::js,x,h=>by
  have ih:=Ar S PL QL xs ys w v way hp hq hpj hqj hway bw bv hx hy js (some (.pv (.int (0+(j:Nat))))) λi hi=>h i (bd _ hi);have e1:=hpj j (h j bo);have e2:=hqj j (h j bo);have b1:Bd 2 way:=by rcases hway with rfl |rfl<;>exact Bd.of (n:=1) (by decide) (by decide)
  have m0:=mB (b1.mono (show 2<=4000 by decide)) ((hx j).mono (show 2000<=4000 by decide));have m1:=mB ((b1.mul (hx j)).mono (show 2+2000<=4000 by decide)) (bv.mono (show 2000<=4000 by decide));have m2:=mB ((hy j).mono (show 2000<=4000 by decide)) (bw.mono (show 2000<=4000 by decide));show bZ [] _ _ (.int (0+(j:Nat))::js.map λj=>.int (0+(j:Nat))) _ S=_;rw[dX];simp only[yo]at ih⊢;generalize hX:xs.getD j 0=X at e1 m0 m1;generalize hY:ys.getD j 0=Y at e2 m2;simp! [gN,e1,e2,hp,hq,m0,m1,m2,ih];simp only[AE]at hX hY;rw[hX,hY]
theorem yE{xs:AY}{k:Nat}(h:∀x∈xs,Bd k x)(j:Nat):Bd k (xs.getD j 0):=by
 by_cases hj:j<xs.length
 .simp_all
 .have e:xs.getD j 0=0:=by simp_all
  rw[e];exact Bd.of  (by decide) (qg k)
theorem Kn  (hl:xs.length=ys.length)(f:Int->Int->Int):(ce xs.length).map (λj=>f (xs.getD j 0) (ys.getD j 0))=cg f xs ys:=by
 refine xh (by simp[hl]) λi h1 h2=>?_;have hi:=by simpa using h1
 simp_all
theorem O0{xs ys:AY}{w v way:Int}(S:aJ)(hl:xs.length=ys.length)(h9:xs.length<=9)(hway:way=1\/way=-1)(hx:∀x∈xs,Bd 2000 x)(hy:∀y∈ys,Bd 2000 y)(bw:Bd 2000 w)(bv:Bd 2000 v):
  oH [.pv (.tup ((xs++[w]).map .int)),.pv (.tup ((ys++[v]).map .int)),.pv (.int way)] S=.ok (.pv (.tup ((low (cg (λx y=>way*x*v+y*w) xs ys++[w*v])).map .int))) S:=by
 have ip:=pZ xs w;have iq:=pZ ys v;have ec:=Ar S _ _ xs ys w v way ip iq (λj h=>yN xs w j h) (λj h=>yN ys v j (by omega)) hway bw bv (yE hx) (yE hy) (ce xs.length) none λj hj=>by simpa using hj
 have er:(ce xs.length).map (λj=>way*xs.getD j 0*v+ys.getD j 0*w)=cg (λx y=>way*x*v+y*w) xs ys:=Kn hl λx y=>way*x*v+y*w;rw[er]at ec;have mm:=mB (bw.mono (show 2000<=4000 by decide)) (bv.mono (show 2000<=4000 by decide));have b1:Bd 2 way:=by rcases hway with rfl |rfl<;>exact Bd.of (n:=1) (by decide) (by decide)
 have el:=mU (cg (λx y=>way*x*v+y*w) xs ys++[w*v]) S (λn hn=>by
  rcases br.mp hn with z |z
  .obtain⟨i,hi,e⟩:=qa z
   rw[AF]at e;rw[<-e];exact((((b1.mul (hx _ (gi _))).mul bv).mono (show 2+2000+2000<=6000 by decide)).add (((hy _ (gi _)).mul bw).mono (show 2000+2000<=6000 by decide))).mono (by decide)
  .have:n=w*v:=by simpa using z
   rw[this];exact(bw.mul bv).mono (by decide))
 have hlen:((xs++[w]).map PV.int).length=xs.length+1:=by simp
 have hz:xs.length+1<=16777216:=by omega
 have hr:gW [.pv (.int (((xs.length+1:Nat):Int)-1))] S=.ok ((ce xs.length).map λj=>.int (0+(j:Nat)),[]) S:=by
  unfold gW;dsimp only;rw[if_pos ⟨by omega,by omega⟩];have:(((xs.length+1:Nat):Int)-1).toNat=xs.length:=by omega
  rw[this];rfl
 have hzl:(cg (λx y=>way*x*v+y*w) xs ys).length+1<=16777216:=by rw[ki];omega
 simp only[du,ao,aw]at el;generalize hZ:(cg (λx y=>way*x*v+y*w) xs ys).map PV.int=ZL at ec el;have hzl2:ZL.length+1<=16777216:=by rw[<-hZ,ak];exact hzl
 generalize (ce xs.length).map (λj=>PV.int (0+(j:Nat)))=RL at ec hr;generalize hP:(xs++[w]).map PV.int=PL at ip ec hlen;generalize (ys++[v]).map PV.int=QL at iq ec;unfold oH aL Nc;have hr2:=hr;rw[<-hlen]at hr2;simp! [bC,cC,hr2,cQ,ec,ip,iq,mm,hzl2,el]
theorem Qo{k:Nat}{W:Int}(W0:0<=W)(W1:W<=1000000000000):∀(is:BF)(S:aJ)(ns:AY)(x:BH),eP S k ns->∃(xs ns':AY),bZ [] (gN 0) (aC cX (aH cY [] (aB (aA 2) (aB (aC bF (aC aV (mC (.int 2)) (aA 1)) (mC (.int 1))) aD))) (aA 1)) is [x,some (.pv (.int W)),some (.ref k)] S=.ok (xs.map .int) (S.set k (.lst (ns'.map .int)))/\xs.length=is.length/\∀n∈xs,Bd 50 n
 |[],S,ns,x,h=>by
  refine⟨[],ns,?_,rfl,λ_ h=>absurd h db⟩;have e:S.set k (.lst (ns.map .int))=S:=jn λj=>by
   by_cases q:k=j
   .subst q;rw[df h.lt];exact h.symm
   .rw[dk q]
  rw[e];exact dS
 |i::is,S,ns,x,h=>by
  obtain⟨t,n1,e1,t0,t1,_⟩:=iO (m:=2*W+1) h (by omega) ((Bd.of (k:=50) (n:=2000000000001) (by omega) (by decide)).mono (by decide));obtain⟨xs,n2,e2,l2,b2⟩:=Qo W0 W1 is _ n1 (some (.pv i)) (h.set n1);have m2:aV (.int 2) (.int W)=some (.int (2*W)):=lO (.inl (.inl ⟨by decide,by decide⟩));refine⟨(t-W)::xs,n2,?_,by simp[l2],λn hn=>?_⟩
  .rw[dX]
   dsimp! [gN,m2,e1,e2]
  .rcases bj.mp hn with rfl |hn
   .exact Bd.of (n:=1000000000000) (by omega) (by decide)
   .exact b2 n hn
theorem aeC  (h0:0<=v)(h1:v<4):∃M:Int,aK (.lst [.int 0,.int 3,.int 9,.int 1000000000000]) (.int v)=some (.int M)/\0<=M/\M<=1000000000000:=by
 have c:v=0\/v=1\/v=2\/v=3:=by omega
 rcases c with rfl |rfl |rfl |rfl
 .exact⟨0,rfl,by decide,by decide⟩
 .exact⟨3,rfl,by decide,by decide⟩
 .exact⟨9,rfl,by decide,by decide⟩
 .exact⟨1000000000000,rfl,by decide,by decide⟩
theorem p12:iM (.int 10) (.int 12)=some (.int 1000000000000):=yH   ⟨by decide,by decide,by decide⟩
theorem ae7{v:Int}(h0:0<=v)(h1:v<4):0<=v.fdiv 2/\v.fdiv 2<=1:=by grind
theorem ac5  {L:AY}{b:Int}(hb:0<b)(hl:L.length=n)(hk:k<=300)(hL:∀x∈L,Bd k x)(bb:Bd k b):∃(zs:AY)(z:Int),low (L++[b])=zs++[z]/\Pt n zs z/\(∀x∈zs,Bd k x)/\Bd k z:=by
 obtain⟨zs,z,g,e,hg,hz,_,_,hzl⟩:=yV L hb;have hbd:=sQ  (ns:=L++[b]) λm hm=>by
  rcases br.mp hm with y |y
  .exact hL m y
  .have:=by simpa using y
   rw[this];exact bb
 have hlow:=Fe L hb;rw[e]at hbd hlow;have b1:=λx hx=>hbd x (jq _ hx);have b2:=hbd z (mV _ z);exact⟨zs,z,e,⟨hzl.trans hl,hz,hlow,λx hx=>(b1 x hx).mono hk,b2.mono hk⟩,b1,b2⟩
theorem acS{S:aJ}{k:Nat}{ns:AY}(n:Nat)(hn:n=2\/n=3)(h:eP S k ns):∃(xs:AY)(w:Int)(ns':AY),nI [.ref k,.pv (.int n)] S=.ok (.pv (.tup ((xs++[w]).map .int))) (S.set k (.lst (ns'.map .int)))/\Pt n xs w/\(∀x∈xs,Bd 100 x)/\Bd 100 w:=by
 obtain⟨c,n1,e1,c0,c1,_⟩:=iO (m:=4) h (by decide) (jR (by decide) (by decide));obtain⟨M,em,M0,M1⟩:=aeC c0 c1;obtain⟨t,n2,e2,t0,t1,_⟩:=iO (m:=9) (h.set n1) (by decide) (jR (by decide) (by decide));rw[nv]at e2;obtain⟨xs,n3,e3,l3,b3⟩:=Qo M0 M1 (dW 0 n) _ n2 none (h.set n2);rw[nv]at e3;have hc:=ae7 c0 c1;have mt:aV (.int t) (.int (c.fdiv 2))=some (.int (t*c.fdiv 2)):=lO (.inl (.inl ⟨by omega,by omega⟩));have qt:jM (.int c) (.int 2)=some (.int (c.fdiv 2)):=rT ⟨by decide,jR (by decide) (by decide)⟩;have hm:0<=t*c.fdiv 2/\t*c.fdiv 2<=8:=by
  grind
 have lx:xs.length=n:=by rw[l3];unfold dW;simp
 generalize t*c.fdiv 2=tc at mt hm;obtain⟨zs,z,ez,P,b1,b2⟩:=ac5 (n:=n) (k:=100) (L:=xs) (b:=1+tc) (by omega) lx (by decide) (λx hx=>(b3 x hx).mono (by decide)) (Bd.of (n:=9) (by omega) (by decide));have el:=mU (xs++[1+tc]) (S.set k (.lst (n3.map .int))) (λm hm=>by
  rcases br.mp hm with y |y
  .exact(b3 m y).mono (by decide)
  .have:m=1+tc:=by simpa using y
   rw[this];exact(Bd.of (k:=4) (n:=9) (by omega) (by decide)).mono (by decide))
 rw[ez]at el;refine⟨zs,z,n3,?_,P,b1,b2⟩;have tk3:=Vn S k (.lst (n3.map .int));have hz:xs.length+1<=16777216:=by omega
 generalize S.set k (.lst (n2.map .int))=S2 at e2 e3;have hr:gW [.pv (.int (n:Int))] S2=.ok (dW 0 n,[]) S2:=by
  unfold gW;dsimp only;rw[if_pos ⟨by omega,by omega⟩];rfl
 conv at el=>lhs;rw[du]
 simp only[ao,aw]at el;generalize (zs++[z]).map PV.int=ZL at el;unfold nI aL Fg;simp! [p12,e1,em,e2,mt,qt,bC,cC,hr,cQ,e3,hz,el,tk3]
theorem Pn  (h:way=1\/way=-1)(xs:AY)(w:Int)(ys:AY)(v:Int):low (cg (λx y=>way*x*v+y*w) xs ys++[w*v])=mv way xs w ys v:=by
 unfold mv;rcases h with rfl |rfl
 .rw[if_pos rfl,J1]
 .rw[if_neg (by decide),E5,dg w v]
structure Pq(n k:Nat)(xs:AY)(w:Int):Prop where
 len:xs.length=n
 pos:0<w
 low:low (xs++[w])=xs++[w]
 bx:∀x∈xs,Bd k x
 bw:Bd k w
def Vl(n:Nat)(xs:AY)(w:Int)(N:Nat->Int)(D:Int):Prop:=∀j,j<n->xs.getD j 0*D=N j*w
theorem Vl.self(n:Nat)(xs:AY)(w:Int):Vl n xs w (λj=>xs.getD j 0) w:=λ_ _=>rfl
theorem yR{a b c:Int}(h:0<c)(e:a*c=b*c):a=b:=AG (by omega) e
theorem ab6  {f:Int->Int->Int}{j:Nat}(h1:j<xs.length)(h2:j<ys.length):(cg f xs ys).getD j 0=f (xs.getD j 0) (ys.getD j 0):=by
 have:j<(cg f xs ys).length:=by grind
 simp_all
theorem afA{n k l:Nat}{way:Int}{xs ys:AY}{w v:Int}(hway:way=1\/way=-1)(P:Pq n k xs w)(Q:Pq n l ys v):∃(zs:AY)(z:Int),mv way xs w ys v=zs++[z]/\Pq n (k+l+1) zs z/\
  ∀(N M:Nat->Int)(D E:Int),Vl n xs w N D->Vl n ys v M E->0<D->0<E->Vl n zs z (λj=>way*N j*E+M j*D) (D*E):=by
 rw[<-Pn hway];have hb:=aj P.pos Q.pos;have hl:(cg (λx y=>way*x*v+y*w) xs ys).length=n:=by rw[ki,P.len,Q.len];omega
 obtain⟨zs,z,g,e,hg,hz,g1,g2,hzl⟩:=yV (cg (λx y=>way*x*v+y*w) xs ys) hb;have hlow:=Fe (cg (λx y=>way*x*v+y*w) xs ys) hb;have hbd:=sQ (k:=k+l+1) (ns:=cg (λx y=>way*x*v+y*w) xs ys++[w*v]) λm hm=>by
  rcases br.mp hm with y |y
  .obtain⟨i,hi,e⟩:=qa y
   rw[AF]at e;rw[<-e];have b1:=(P.bx _ (gi (l:=xs) (n:=i) (by rw[ki]at hi;omega))).mul Q.bw;have b2:=(Q.bx _ (gi (l:=ys) (n:=i) (by rw[ki]at hi;omega))).mul P.bw;have b3:Bd (k+l) (way*xs[i]'(by rw[ki]at hi;omega)*v):=by
    rcases hway with rfl |rfl
    .rw[ij];exact b1
    .have:(-1:Int)*xs[i]'(by rw[ki]at hi;omega)*v=-(xs[i]'(by rw[ki]at hi;omega)*v):=by rw[jv,ij,jv]
     rw[this];exact b1.neg
   exact b3.add (b2.mono (by omega))
  .have:m=w*v:=by simpa using y
   rw[this];exact(P.bw.mul Q.bw).mono (by omega)
 rw[e]at hbd hlow;refine⟨zs,z,e,⟨hzl.trans hl,hz,hlow,λx hx=>hbd x (jq _ hx),hbd z (mV zs z)⟩,λN M D E a b hD hE j hj=>?_⟩;have h1:(cg (λx y=>way*x*v+y*w) xs ys).getD j 0=g*zs.getD j 0:=by
  rw[g1];have:j<zs.length:=by rw[hzl,hl];exact hj
  simp[cr,this]
 rw[ab6 (by rw[P.len];exact hj) (by rw[Q.len];exact hj)]at h1;have a1:=a j hj;have b1:=b j hj;refine yR (c:=g*(w*v)) (aj hg hb) ?_;grind
theorem Pt.pq  {xs:AY}{w:Int}(P:Pt n xs w)(b:∀x∈xs,Bd k x)(bw:Bd k w):Pq n k xs w:=⟨P.len,P.pos,P.low,b,bw⟩
theorem Pq.mono  {xs:AY}{w:Int}(P:Pq n k xs w)(h:k<=l):Pq n l xs w:=⟨P.len,P.pos,P.low,λx hx=>(P.bx x hx).mono h,P.bw.mono h⟩
theorem V7{xs:AY}{w:Int}{n k:Nat}(S:aJ)(hk:k<=4000)(h:Pq n k xs w):uE [.pv (.tup ((xs++[w]).map .int)),.pv (.int n)] S=.ok (.pv (.bl true)) S:=by
 have e1:=S5 (xs++[w]) S;have hl:((xs++[w]).length:Int)=(n:Int)+1:=by simp[h.len]
 rw[hl]at e1;have ip:=pZ xs w;have el:=J3 (xs++[w]) S (λm hm=>by
  rcases br.mp hm with z |z
  .exact(h.bx m z).mono (by omega)
  .have:m=w:=by simpa using z
   rw[this];exact h.bw.mono (by omega))
 rw[h.low]at el;have q:aZ 8 (.tup ((xs++[w]).map .int)) (.tup ((xs++[w]).map .int))=some true:=Gr 7 _;have hw:¬w<1:=by have:=h.pos;omega
 generalize (xs++[w]).map PV.int=PL at e1 ip el q;unfold uE aL Bb;simp! [e1,ip,hw,el,q]
theorem acx{n k l:Nat}{way:Int}{xs ys:AY}{w v:Int}(S:aJ)(hn:n=2\/n=3)(hway:way=1\/way=-1)(P:Pq n k xs w)(Q:Pq n l ys v)(hk:k<=2000)(hl:l<=2000):oH [.pv (.tup ((xs++[w]).map .int)),.pv (.tup ((ys++[v]).map .int)),.pv (.int way)] S=.ok (.pv (.tup ((mv way xs w ys v).map .int))) S:=by
 have e:=O0 (way:=way) S (P.len.trans Q.len.symm) (by rw[P.len];omega) hway (λx hx=>(P.bx x hx).mono hk) (λx hx=>(Q.bx x hx).mono hl) (P.bw.mono hk) (Q.bw.mono hl);rw[Pn hway]at e;exact e
theorem hrg(S:aJ):gW [.pv (.int 3)] S=.ok ([.int 0,.int 1,.int 2],[]) S:=by
 have h:dW 0 (3:Int).toNat=[.int 0,.int 1,.int 2]:=rfl;rw[<-h];unfold gW;grind
theorem Le(t b:Int)(S:aJ)(ht:Bd 16000 t)(hb:Bd 16000 b):nF [.pv (.int t),.pv (.int b)] S=.ok (.pv (.tup ((fr t b).map .int))) S:=by
 unfold nF aL xX fr;have e1:=mU [0-t,0-b] S (by
  intro n hn;rcases bj.mp hn with rfl |hn
  .rw[gg];exact ht.neg
  .have:n=0-b:=by simpa using hn
   rw[this,gg];exact hb.neg)
 have e2:=mU [t,b] S (by
  intro n hn;rcases bj.mp hn with rfl |hn
  .exact ht
  .have:n=b:=by simpa using hn
   rw[this];exact hb)
 by_cases h:b<0
 .simp only[ao,aw,gg]at e1
  dsimp! [h,e1]
 .simp only[ao,aw]at e2
  dsimp! [h,e2]
theorem Pb(t b:Int)(S:aJ)(ht:Bd 900000 t)(hb:Bd 900000 b)(h:b≠0):rN [.pv (.int t),.pv (.int b)] S=.ok (.pv (.tup ((fr t b).map .int))) S:=by
 have gb:Bd 900000 ((cf t b:Nat):Int):=ht.gcd hb;have sb:Bd 2 (sg b):=by
  unfold sg;split
  .unfold Bd;simp
  .split<;>(unfold Bd;simp)
 have mb:qO (sg b) (cf t b:Nat):=.inr ⟨sb.mono (by decide),gb.mono (by decide)⟩;have nz:sg b*(cf t b:Nat)≠0:=by
  have gp:=vF (kD t b) h;rw[sU]at gp;rcases Ko h with⟨_,s⟩|⟨_,s⟩<;>rw[s]<;>omega
 rw[<-R9 h];unfold rN aL Zb;dsimp! [h,yF,Uk,lO mb,Kc nz]
theorem pT:∀is:AY,fS (is.map .int)=some is
 |[]=>rfl
 |i::is=>by
  have ih:=pT is;show(match fS _ with |some _=>some _ |none=>none)=_
  rw[ih]
theorem Vm(is:AY):qP [.lst (is.map .int)]=some (.int is.sum):=by
 simp only[qP,pT,qh]
theorem Y4(is:AY):qR [.tup (is.map .int)]=some (.bl (is.any (· !=0))):=by
 simp only[qR,pT,qh]
def wa(xs:AY)(w:Int)(ys:AY)(v:Int):AY:=cg (λx y=>y*w-x*v) xs ys
theorem Kr(S:aJ)(PL QL:BF)(w v:Int)(hp:aK (.tup PL) (.int (-1))=some (.int w))(hq:aK (.tup QL) (.int (-1))=some (.int v))(bw:Bd 4000 w)(bv:Bd 4000 v):∀(xs ys:AY)(x y:BH),xs.length=ys.length->(∀x∈xs,Bd 4000 x)->(∀y∈ys,Bd 4000 y)->
  bZ [] (gT 2 (cD (gN 0) (cD (gN 1) eA))) (aC cX (aC aV (aA 1) (aC aK (aA 2) (bS cM (mC (.int 1))))) (aC aV (aA 0) (aC aK (aA 3) (bS cM (mC (.int 1)))))) (gA (xs.map .int) (ys.map .int)) [x,y,some (.pv (.tup PL)),some (.pv (.tup QL))] S=.ok ((wa xs w ys v).map .int) S
 |[],ys,x,y,hl,_,_=>by
  have:ys=[]:=yh.mp hl.symm;subst this;exact dS
 |a::xs,[],x,y,hl,_,_=>by cases hl
 |a::xs,b::ys,x,y,hl,hx,hy=>by
  have ih:=Kr S PL QL w v hp hq bw bv xs ys (some (.pv (.int a))) (some (.pv (.int b))) (by simpa using hl) (λm hm=>hx m (bd _ hm)) (λm hm=>hy m (bd _ hm));have m1:=mB (hx a bo) bv;have m2:=mB (hy b bo) bw;show bZ [] _ _ (.tup [.int a,.int b]::gA (xs.map .int) (ys.map .int)) _ S=_;rw[dX];simp! [gT,cD,eA,gN,hp,hq,m1,m2,ih,wa]
theorem Eo{xs ys:AY}{w v:Int}(S:aJ)(hl:xs.length=ys.length)(hx:∀x∈xs,Bd 4000 x)(hy:∀y∈ys,Bd 4000 y)(bw:Bd 4000 w)(bv:Bd 4000 v):
  oB [.pv (.tup ((xs++[w]).map .int)),.pv (.tup ((ys++[v]).map .int))] S=.ok (.pv (.lst ((wa xs w ys v).map .int))) S:=by
 have ip:=pZ xs w;have iq:=pZ ys v;have sp:=Fd xs w;have sq:=Fd ys v;have ec:=Kr S _ _ w v ip iq bw bv xs ys none none hl hx hy;generalize (xs++[w]).map PV.int=PL at ip sp ec;generalize (ys++[v]).map PV.int=QL at iq sq ec;unfold oB aL Za;simp! [bC,gK,kK,bT,cV,cJ,cU,fB,sp,sq,cQ,ec]
theorem Nd(S:aJ):∀(us vs:AY)(x y:BH),(∀x∈us,Bd 100000 x)->(∀y∈vs,Bd 100000 y)->
  bZ [] (gT 2 (cD (gN 0) (cD (gN 1) eA))) (aC aV (aA 0) (aA 1)) (gA (us.map .int) (vs.map .int)) [x,y] S=.ok ((cg (·*·) us vs).map .int) S
 |[],vs,x,y,_,_=>by
  exact dS
 |a::us,[],x,y,_,_=>by
  exact dS
 |a::us,b::vs,x,y,hx,hy=>by
  have ih:=Nd S us vs (some (.pv (.int a))) (some (.pv (.int b))) (λm hm=>hx m (bd _ hm)) (λm hm=>hy m (bd _ hm));have m1:=lO (.inr ⟨(hx a bo).mono (by decide),(hy b bo).mono (by decide)⟩);show bZ [] _ _ (.tup _::gA _ _) _ S=_;rw[dX];simp! [gT,cD,eA,gN,m1,ih]
def dt(us vs:AY):Int:=(cg (·*·) us vs).sum
def Sq(A:PV)(us:AY):Prop:=A=.lst (us.map .int)\/A=.tup (us.map .int)
theorem Wf  {us vs:AY}(S:aJ)(hA:Sq A us)(hB:Sq B vs)(hx:∀x∈us,Bd 100000 x)(hy:∀y∈vs,Bd 100000 y):sW [.pv A,.pv B] S=.ok (.pv (.int (dt us vs))) S:=by
 have ec:=Nd S us vs none none hx hy;have es:=Vm (cg (·*·) us vs);unfold dt;generalize (cg (·*·) us vs).map PV.int=ZL at ec es;unfold sW aL Ih;rcases hA with rfl |rfl<;>rcases hB with rfl |rfl<;>
  (simp! [bC,gK,kK,bT,cQ,ec,es])
theorem uP  {us vs:AY}(S:aJ)(hA:Sq A us)(hB:Sq B vs)(hx:∀x∈us,Bd 100000 x)(hy:∀y∈vs,Bd 100000 y):kX [.pv A,.pv B] S=.ok (.pv (.int (dt us vs))) S:=by
 have ec:=Nd S us vs none none hx hy;have es:=Vm (cg (·*·) us vs);unfold dt;generalize (cg (·*·) us vs).map PV.int=ZL at ec es;unfold kX aL Sf;rcases hA with rfl |rfl<;>rcases hB with rfl |rfl<;>
  (simp! [bC,gK,kK,bT,cQ,ec,es])
theorem gC  {a b:Int}(h:Bd k a)(g:Bd l b)(hk:k<=1000000:=by decide)(hl:l<=1000000:=by decide):aV (.int a) (.int b)=some (.int (a*b)):=lO (.inr ⟨h.mono hk,g.mono hl⟩)
theorem acy(a b:Int)(S:aJ):pY [.pv (.lst [.lst [.int a,.int b]])] S=.ok (.pv (.lst [.int (-b),.int a])) S:=by
 unfold pY aL xP;dsimp! [bF]
theorem Ms{a b c d e f:Int}(S:aJ)(ha:Bd 20000 a)(hb:Bd 20000 b)(hc:Bd 20000 c)(hd:Bd 20000 d)(he:Bd 20000 e)(hf:Bd 20000 f):pY [.pv (.lst [.lst [.int a,.int b,.int c],.lst [.int d,.int e,.int f]])] S=.ok (.pv (.lst [.int (b*f-c*e),.int (c*d-a*f),.int (a*e-b*d)])) S:=by
 have m1:=gC hb hf;have m2:=gC hc he;have m3:=gC hc hd;have m4:=gC ha hf;have m5:=gC ha he;have m6:=gC hb hd;unfold pY aL xP;dsimp! [m1,m2,m3,m4,m5,m6]
theorem uM{A B:PV}{a b c d e f:Int}(S:aJ)(hA:Sq A [a,b,c])(hB:Sq B [d,e,f])(ha:Bd 20000 a)(hb:Bd 20000 b)(hc:Bd 20000 c)(hd:Bd 20000 d)(he:Bd 20000 e)(hf:Bd 20000 f):jW [.pv A,.pv B] S=.ok (.pv (.lst [.int (b*f-c*e),.int (c*d-a*f),.int (a*e-b*d)])) S:=by
 have m1:=gC hb hf;have m2:=gC hc he;have m3:=gC hc hd;have m4:=gC ha hf;have m5:=gC ha he;have m6:=gC hb hd;unfold jW aL xO;rcases hA with rfl |rfl<;>rcases hB with rfl |rfl<;>dsimp! [m1,m2,m3,m4,m5,m6]
structure P2(x y w:Int):Prop where
 bx:Bd 2000 x
 by_:Bd 2000 y
 bw:Bd 2000 w
 pos:0<w
structure P3(x y z w:Int):Prop where
 bx:Bd 2000 x
 by_:Bd 2000 y
 bz:Bd 2000 z
 bw:Bd 2000 w
 pos:0<w
abbrev v2(x y w:Int):PV:=.tup [.int x,.int y,.int w]
abbrev v3(x y z w:Int):PV:=.tup [.int x,.int y,.int z,.int w]
def Sv(A:PV)(L:BF):Prop:=A=.lst L\/A=.tup L
theorem Oy(p:PV)(L:BF):kO (p::L) (some 1) none=L:=by
 show((p::L).drop 1).take ((p::L).length-1)=L;simp
theorem sY(p:PV)(L:BF):iT (.lst (p::L)) (some 1) none=some (.lst L):=by
 unfold iT;dsimp only;rw[Oy]
theorem pA(p:PV)(L:BF):iT (.tup (p::L)) (some 1) none=some (.tup L):=by
 unfold iT;dsimp only;have e1:HT.sIx (p::L).length 0 (some 1)=1:=rfl;rw[if_neg (by simp_all),Oy]
theorem Ew(L:BF)(p:PV):iT (.lst (L++[p])) none (some (-1))=some (.lst L):=by
 unfold iT;dsimp only;unfold kO;have e1:HT.sIx (L++[p]).length (L++[p]).length (some (-1))=L.length:=by
  rw[av];exact Ud _ _
 rw[e1];show some (PV.lst ((L++[p].drop 0).take (L.length-0)))=_;simp
theorem Hu{x0 y0 w0 x1 y1 w1:Int}(S:aJ)(p:P2 x0 y0 w0)(q:P2 x1 y1 w1):oB [.pv (v2 x0 y0 w0),.pv (v2 x1 y1 w1)] S=.ok (.pv (.lst [.int (x1*w0-x0*w1),.int (y1*w0-y0*w1)])) S:=by
 have e:=Eo (xs:=[x0,y0]) (ys:=[x1,y1])   S rfl (by simp;exact⟨p.bx.mono (by decide),p.by_.mono (by decide)⟩) (by simp;exact⟨q.bx.mono (by decide),q.by_.mono (by decide)⟩) (p.bw.mono (by decide)) (q.bw.mono (by decide));exact e
theorem vA{x0 y0 z0 w0 x1 y1 z1 w1:Int}(S:aJ)(p:P3 x0 y0 z0 w0)(q:P3 x1 y1 z1 w1):oB [.pv (v3 x0 y0 z0 w0),.pv (v3 x1 y1 z1 w1)] S=.ok (.pv (.lst [.int (x1*w0-x0*w1),.int (y1*w0-y0*w1),.int (z1*w0-z0*w1)])) S:=by
 have e:=Eo (xs:=[x0,y0,z0]) (ys:=[x1,y1,z1])   S rfl (by simp;exact⟨p.bx.mono (by decide),p.by_.mono (by decide),p.bz.mono (by decide)⟩) (by simp;exact⟨q.bx.mono (by decide),q.by_.mono (by decide),q.bz.mono (by decide)⟩) (p.bw.mono (by decide)) (q.bw.mono (by decide));exact e
theorem sb{x0 w0 x1 w1:Int}(a:Bd 2000 x0)(b:Bd 2000 w0)(c:Bd 2000 x1)(d:Bd 2000 w1):Bd 4001 (x1*w0-x0*w1):=((c.mul b).mono (show 2000+2000<=4000 by decide)).sub ((a.mul d).mono (show 2000+2000<=4000 by decide))
theorem cb{a b c d:Int}(h1:Bd 4001 a)(h2:Bd 4001 b)(h3:Bd 4001 c)(h4:Bd 4001 d):Bd 8003 (a*b-c*d):=((h1.mul h2).mono (show 4001+4001<=8002 by decide)).sub ((h3.mul h4).mono (show 4001+4001<=8002 by decide))
def D2(x0 y0 w0 x1 y1 w1 x2 y2 w2:Int):Int:=w0*(x1*y2-y1*x2)-w1*(x0*y2-y0*x2)+w2*(x0*y1-y0*x1)
def D3(x0 y0 z0 w0 x1 y1 z1 w1 x2 y2 z2 w2 x3 y3 z3 w3:Int):Int:=
 w0*((y1*z2-z1*y2)*x3+(z1*x2-x1*z2)*y3+(x1*y2-y1*x2)*z3)-w1*((y0*z2-z0*y2)*x3+(z0*x2-x0*z2)*y3+(x0*y2-y0*x2)*z3)
 +w2*((y0*z1-z0*y1)*x3+(z0*x1-x0*z1)*y3+(x0*y1-y0*x1)*z3)-w3*((y0*z1-z0*y1)*x2+(z0*x1-x0*z1)*y2+(x0*y1-y0*x1)*z2)
theorem aes(x0 y0 w0 x1 y1 w1 x2 y2 w2:Int):dt [-(y1*w0-y0*w1),x1*w0-x0*w1] [x2*w0-x0*w2,y2*w0-y0*w2]=w0*D2 x0 y0 w0 x1 y1 w1 x2 y2 w2:=by
 simp only[dt,D2,km,ny,oa,og];grind
theorem Dx(x0 y0 z0 w0 x1 y1 z1 w1 x2 y2 z2 w2 x3 y3 z3 w3:Int):dt [(y1*w0-y0*w1)*(z2*w0-z0*w2)-(z1*w0-z0*w1)*(y2*w0-y0*w2),(z1*w0-z0*w1)*(x2*w0-x0*w2)-(x1*w0-x0*w1)*(z2*w0-z0*w2),(x1*w0-x0*w1)*(y2*w0-y0*w2)-(y1*w0-y0*w1)*(x2*w0-x0*w2)] [x3*w0-x0*w3,y3*w0-y0*w3,z3*w0-z0*w3]=w0*w0*D3 x0 y0 z0 w0 x1 y1 z1 w1 x2 y2 z2 w2 x3 y3 z3 w3:=by
 simp only[dt,D3,km,ny,oa,og];grind
theorem jL  (h:0<w):sg (w*d)=sg d:=by
 unfold sg
 by_cases h1:0<d
 .rw[if_pos (aj h h1),if_pos h1]
 .by_cases h2:d<0
  .have:=a7 h h2
   rw[if_neg (by omega),if_pos this,if_neg h1,if_pos h2]
  .have:d=0:=by omega
   simp_all
theorem Ys{A:PV}{x0 y0 w0 x1 y1 w1 x2 y2 w2:Int}(S:aJ)(hA:Sv A [v2 x0 y0 w0,v2 x1 y1 w1,v2 x2 y2 w2])(p:P2 x0 y0 w0)(q:P2 x1 y1 w1)(r:P2 x2 y2 w2):pO [.pv A] S=.ok (.pv (.int (w0*D2 x0 y0 w0 x1 y1 w1 x2 y2 w2))) S:=by
 have a1:=Hu S p q;have a2:=Hu S p r;have bu:=sb p.bx p.bw q.bx q.bw;have bv:=sb p.by_ p.bw q.by_ q.bw;have bu2:=sb p.bx p.bw r.bx r.bw;have bv2:=sb p.by_ p.bw r.by_ r.bw;have id:=aes x0 y0 w0 x1 y1 w1 x2 y2 w2;generalize y2*w0-y0*w2=V1,x2*w0-x0*w2=V0,y1*w0-y0*w1=U1,x1*w0-x0*w1=U0,w0*D2 x0 y0 w0 x1 y1 w1 x2 y2 w2=D at *;have en:=acy U0 U1 S;have ed:=Wf (A:=.lst [.int (-U1),.int U0]) (B:=.lst [.int V0,.int V1]) (us:=[-U1,U0]) (vs:=[V0,V1]) S (.inl rfl) (.inl rfl) (by simp;exact⟨bv.neg.mono (by decide),bu.mono (by decide)⟩) (by simp;exact⟨bu2.mono (by decide),bv2.mono (by decide)⟩);rw[id]at ed;have pre:=Ew [.lst [.int U0,.int U1]] (.lst [.int V0,.int V1]);simp only[jo,fx]at pre;generalize v2 x2 y2 w2=R,v2 x1 y1 w1=Q,v2 x0 y0 w0=P at *;unfold pO aL wH;rcases hA with rfl |rfl
 .have s1:=sY P [Q,R]
  dsimp! [bC,aX,bT,cV,cJ,cU,fB,s1,cQ,dX,dS,gN,a1,a2,pre,en,ed]
 .have s1:=pA P [Q,R]
  dsimp! [bC,aX,bT,cV,cJ,cU,fB,s1,cQ,dX,dS,gN,a1,a2,pre,en,ed]
theorem Lq{A:PV}{x0 y0 z0 w0 x1 y1 z1 w1 x2 y2 z2 w2 x3 y3 z3 w3:Int}(S:aJ)(hA:Sv A [v3 x0 y0 z0 w0,v3 x1 y1 z1 w1,v3 x2 y2 z2 w2,v3 x3 y3 z3 w3])(p:P3 x0 y0 z0 w0)(q:P3 x1 y1 z1 w1)(r:P3 x2 y2 z2 w2)(s:P3 x3 y3 z3 w3):pO [.pv A] S=.ok (.pv (.int (w0*w0*D3 x0 y0 z0 w0 x1 y1 z1 w1 x2 y2 z2 w2 x3 y3 z3 w3))) S:=by
 have a1:=vA S p q;have a2:=vA S p r;have a3:=vA S p s;have b1:=sb p.bx p.bw q.bx q.bw;have b2:=sb p.by_ p.bw q.by_ q.bw;have b3:=sb p.bz p.bw q.bz q.bw;have b4:=sb p.bx p.bw r.bx r.bw;have b5:=sb p.by_ p.bw r.by_ r.bw;have b6:=sb p.bz p.bw r.bz r.bw;have b7:=sb p.bx p.bw s.bx s.bw;have b8:=sb p.by_ p.bw s.by_ s.bw;have b9:=sb p.bz p.bw s.bz s.bw;have id:=Dx x0 y0 z0 w0 x1 y1 z1 w1 x2 y2 z2 w2 x3 y3 z3 w3;generalize z3*w0-z0*w3=T2,y3*w0-y0*w3=T1,x3*w0-x0*w3=T0,z2*w0-z0*w2=V2,y2*w0-y0*w2=V1,x2*w0-x0*w2=V0,z1*w0-z0*w1=U2,y1*w0-y0*w1=U1,x1*w0-x0*w1=U0,w0*w0*D3 x0 y0 z0 w0 x1 y1 z1 w1 x2 y2 z2 w2 x3 y3 z3 w3=D at *;have h:∀{a:Int},Bd 4001 a->Bd 20000 a:=λh=>h.mono (by decide);have h4:∀{a:Int},Bd 8003 a->Bd 100000 a:=λh=>h.mono (by decide);have h2:∀{a:Int},Bd 4001 a->Bd 100000 a:=λh=>h.mono (by decide);have en:=Ms S (h b1) (h b2) (h b3) (h b4) (h b5) (h b6);have c1:=cb b2 b6 b3 b5;have c2:=cb b3 b4 b1 b6;have c3:=cb b1 b5 b2 b4;have ed:=Wf (A:=.lst [.int (U1*V2-U2*V1),.int (U2*V0-U0*V2),.int (U0*V1-U1*V0)]) (B:=.lst [.int T0,.int T1,.int T2]) (us:=[U1*V2-U2*V1,U2*V0-U0*V2,U0*V1-U1*V0]) (vs:=[T0,T1,T2]) S (.inl rfl) (.inl rfl) (by simp;exact⟨h4 c1,h4 c2,h4 c3⟩) (by simp;exact⟨h2 b7,h2 b8,h2 b9⟩);rw[id]at ed;generalize U0*V1-U1*V0=N2,U2*V0-U0*V2=N1,U1*V2-U2*V1=N0 at *;have pre:=Ew [.lst [.int U0,.int U1,.int U2],.lst [.int V0,.int V1,.int V2]] (.lst [.int T0,.int T1,.int T2]);simp only[jo,fx]at pre;generalize v3 x3 y3 z3 w3=T,v3 x2 y2 z2 w2=R,v3 x1 y1 z1 w1=Q,v3 x0 y0 z0 w0=P at *;unfold pO aL wH;rcases hA with rfl |rfl
 .have s1:=sY P [Q,R,T]
  dsimp! [bC,aX,bT,cV,cJ,cU,fB,s1,cQ,dX,dS,gN,a1,a2,a3,pre,en,ed]
 .have s1:=pA P [Q,R,T]
  dsimp! [bC,aX,bT,cV,cJ,cU,fB,s1,cQ,dX,dS,gN,a1,a2,a3,pre,en,ed]
theorem aaH  {x0 y0 w0 x1 y1 w1 x2 y2 w2:Int}(S:aJ)(hA:Sv A [v2 x0 y0 w0,v2 x1 y1 w1,v2 x2 y2 w2])(p:P2 x0 y0 w0)(q:P2 x1 y1 w1)(r:P2 x2 y2 w2):qI [.pv A] S=.ok (.pv (.int (sg (D2 x0 y0 w0 x1 y1 w1 x2 y2 w2)))) S:=by
 have e1:=Ys S hA p q r;have e2:=yF (w0*D2 x0 y0 w0 x1 y1 w1 x2 y2 w2) S;rw[jL p.pos]at e2;unfold qI aL yU;dsimp! [e1,e2]
theorem Y7  {x0 y0 z0 w0 x1 y1 z1 w1 x2 y2 z2 w2 x3 y3 z3 w3:Int}(S:aJ)(hA:Sv A [v3 x0 y0 z0 w0,v3 x1 y1 z1 w1,v3 x2 y2 z2 w2,v3 x3 y3 z3 w3])(p:P3 x0 y0 z0 w0)(q:P3 x1 y1 z1 w1)(r:P3 x2 y2 z2 w2)(s:P3 x3 y3 z3 w3):qI [.pv A] S=.ok (.pv (.int (sg (D3 x0 y0 z0 w0 x1 y1 z1 w1 x2 y2 z2 w2 x3 y3 z3 w3)))) S:=by
 have e1:=Lq S hA p q r s;have e2:=yF (w0*w0*D3 x0 y0 z0 w0 x1 y1 z1 w1 x2 y2 z2 w2 x3 y3 z3 w3) S;rw[jL (aj p.pos p.pos)]at e2;unfold qI aL yU;dsimp! [e1,e2]
def Gp(n k:Nat)(v:PV):Prop:=∃xs w,v=.tup ((xs++[w]).map .int)/\Pq n k xs w
theorem Gp.two{v:PV}(h:Gp 2 2000 v):∃x y w,v=v2 x y w/\P2 x y w:=by
 obtain⟨xs,w,rfl,P⟩:=h
 obtain⟨x,y,rfl⟩:=len2 P.len;exact⟨x,y,w,rfl,P.bx x (by simp),P.bx y (by simp),P.bw,P.pos⟩
theorem Gp.three{v:PV}(h:Gp 3 2000 v):∃x y z w,v=v3 x y z w/\P3 x y z w:=by
 obtain⟨xs,w,rfl,P⟩:=h
 obtain⟨x,y,z,rfl⟩:=len3 P.len;exact⟨x,y,z,w,rfl,P.bx x (by simp),P.bx y (by simp),P.bx z (by simp),P.bw,P.pos⟩
theorem Zu  {v:PV}(h:Gp n k v):aZ (m+1) v v=some true:=by
 obtain⟨xs,w,rfl,_⟩:=h;exact Gr m _
theorem Wb:∀L:BF,∀m,(∀v∈L,aZ m v v=some true)->iX (cg (aZ m) L L)=some (L.map λ_=>true)
 |[],m,_=>rfl
 |v::L,m,h=>by
  rw[km,h v bo,iX,Wb L m λu hu=>h u (bd _ hu)];rfl
theorem abh{m:Nat}{L:BF}(h:∀v∈L,aZ m v v=some true):aZ (m+1) (.lst L) (.lst L)=some true:=by
 rw[aZ,if_pos rfl,Wb L m h];simp
theorem Xc  {L:BF}(h:∀v∈L,aZ m v v=some true):aZ (m+1) (.tup L) (.tup L)=some true:=by
 rw[aZ,Wb L m h];simp
theorem Iq(S:aJ)(PL QL:BF)(xs ys:AY)(w v:Int)(hp:aK (.tup PL) (.int (-1))=some (.int w))(hq:aK (.tup QL) (.int (-1))=some (.int v))(hpj:∀j:Nat,j<xs.length->aK (.tup PL) (.int (j:Nat))=some (.int (xs.getD j 0)))(hqj:∀j:Nat,j<xs.length->aK (.tup QL) (.int (j:Nat))=some (.int (ys.getD j 0)))
  (bw:Bd 2000 w)(bv:Bd 2000 v)(hx:∀j,Bd 2000 (xs.getD j 0))(hy:∀j,Bd 2000 (ys.getD j 0)):∀(js:List Nat)(x:BH),(∀j∈js,j<xs.length)->
  bZ [] (gN 0) (aC cX (aC aV (aC aK (aA 1) (aA 0)) (aC aK (aA 2) (bS cM (mC (.int 1))))) (aC aV (aC aK (aA 2) (aA 0)) (aC aK (aA 1) (bS cM (mC (.int 1)))))) (js.map λj=>.int (0+(j:Nat))) [x,some (.pv (.tup QL)),some (.pv (.tup PL))] S=.ok ((js.map λj=>ys.getD j 0*w-xs.getD j 0*v).map .int) S
 |[],x,_=>dS
 |j::js,x,h=>by
  have ih:=Iq S PL QL xs ys w v hp hq hpj hqj bw bv hx hy js (some (.pv (.int (0+(j:Nat))))) λi hi=>h i (bd _ hi);have e1:=hpj j (h j bo);have e2:=hqj j (h j bo);have m1:=mB ((hx j).mono (show 2000<=4000 by decide)) (bv.mono (show 2000<=4000 by decide));have m2:=mB ((hy j).mono (show 2000<=4000 by decide)) (bw.mono (show 2000<=4000 by decide));show bZ [] _ _ (.int (0+(j:Nat))::js.map λj=>.int (0+(j:Nat))) _ S=_;rw[dX];simp only[yo]at ih⊢;generalize hX:xs.getD j 0=X at e1 m1;generalize hY:ys.getD j 0=Y at e2 m2;simp! [gN,e1,e2,hp,hq,m1,m2,ih];simp only[AE]at hX hY;rw[hX,hY]
theorem Nu{xs ys:AY}{w v:Int}(S:aJ)(hl:xs.length=ys.length)(h9:xs.length<=9)(hx:∀x∈xs,Bd 2000 x)(hy:∀y∈ys,Bd 2000 y)(bw:Bd 2000 w)(bv:Bd 2000 v):
  iZ [.pv (.tup ((xs++[w]).map .int)),.pv (.tup ((ys++[v]).map .int))] S=.ok (.pv (.lst ((wa xs w ys v).map .int))) S:=by
 have ip:=pZ xs w;have iq:=pZ ys v;have ec:=Iq S _ _ xs ys w v ip iq (λj h=>yN xs w j h) (λj h=>yN ys v j (by omega)) bw bv (yE hx) (yE hy) (ce xs.length) none λj hj=>by simpa using hj
 have er:(ce xs.length).map (λj=>ys.getD j 0*w-xs.getD j 0*v)=wa xs w ys v:=Kn hl λx y=>y*w-x*v;rw[er]at ec;have hlen:((xs++[w]).map PV.int).length=xs.length+1:=by simp
 have hr:gW [.pv (.int (((xs.length+1:Nat):Int)-1))] S=.ok ((ce xs.length).map λj=>.int (0+(j:Nat)),[]) S:=by
  unfold gW;dsimp only;rw[if_pos ⟨by omega,by omega⟩];have:(((xs.length+1:Nat):Int)-1).toNat=xs.length:=by omega
  rw[this];rfl
 generalize (wa xs w ys v).map PV.int=ZL at ec;generalize (ce xs.length).map (λj=>PV.int (0+(j:Nat)))=RL at ec hr;generalize hP:(xs++[w]).map PV.int=PL at ip ec hlen;generalize (ys++[v]).map PV.int=QL at iq ec;unfold iZ aL Df;have hr2:=hr;rw[<-hlen]at hr2;simp! [bC,cC,hr2,cQ,ec]
theorem Yy{x0 y0 w0 x1 y1 w1:Int}(S:aJ)(p:P2 x0 y0 w0)(q:P2 x1 y1 w1):iZ [.pv (v2 x0 y0 w0),.pv (v2 x1 y1 w1)] S=.ok (.pv (.lst [.int (x1*w0-x0*w1),.int (y1*w0-y0*w1)])) S:=by
 have e:=Nu (xs:=[x0,y0]) (ys:=[x1,y1])   S rfl (by simp) (by simp;exact⟨p.bx,p.by_⟩) (by simp;exact⟨q.bx,q.by_⟩) p.bw q.bw;exact e
theorem pF{x0 y0 z0 w0 x1 y1 z1 w1:Int}(S:aJ)(p:P3 x0 y0 z0 w0)(q:P3 x1 y1 z1 w1):iZ [.pv (v3 x0 y0 z0 w0),.pv (v3 x1 y1 z1 w1)] S=.ok (.pv (.lst [.int (x1*w0-x0*w1),.int (y1*w0-y0*w1),.int (z1*w0-z0*w1)])) S:=by
 have e:=Nu (xs:=[x0,y0,z0]) (ys:=[x1,y1,z1])   S rfl (by simp) (by simp;exact⟨p.bx,p.by_,p.bz⟩) (by simp;exact⟨q.bx,q.by_,q.bz⟩) p.bw q.bw;exact e
theorem Kq{A:PV}{x0 y0 w0 x1 y1 w1 x2 y2 w2:Int}(S:aJ)(hA:Sv A [v2 x0 y0 w0,v2 x1 y1 w1,v2 x2 y2 w2])(p:P2 x0 y0 w0)(q:P2 x1 y1 w1)(r:P2 x2 y2 w2):nK [.pv A] S=.ok (.pv (.int (w0*D2 x0 y0 w0 x1 y1 w1 x2 y2 w2))) S:=by
 have a1:=Yy S p q;have a2:=Yy S p r;have bu:=sb p.bx p.bw q.bx q.bw;have bv:=sb p.by_ p.bw q.by_ q.bw;have bu2:=sb p.bx p.bw r.bx r.bw;have bv2:=sb p.by_ p.bw r.by_ r.bw;have id:(x1*w0-x0*w1)*(y2*w0-y0*w2)-(y1*w0-y0*w1)*(x2*w0-x0*w2)=w0*D2 x0 y0 w0 x1 y1 w1 x2 y2 w2:=by
  unfold D2;grind
 generalize y2*w0-y0*w2=V1,x2*w0-x0*w2=V0,y1*w0-y0*w1=U1,x1*w0-x0*w1=U0,w0*D2 x0 y0 w0 x1 y1 w1 x2 y2 w2=D at *;have m1:=gC bu bv2;have m2:=gC bv bu2;generalize v2 x2 y2 w2=R,v2 x1 y1 w1=Q,v2 x0 y0 w0=P at *;have et:kT [.pv (.lst [.lst [.int U0,.int U1],.lst [.int V0,.int V1]])] S=.ok (.pv (.int D)) S:=by
  unfold kT aL sO;dsimp! [m1,m2,id]
 unfold nK aL yS;rcases hA with rfl |rfl
 .have s1:=sY P [Q,R]
  dsimp! [bC,aX,bT,cV,cJ,cU,fB,s1,cQ,dX,dS,gN,a1,a2,et]
 .have s1:=pA P [Q,R]
  dsimp! [bC,aX,bT,cV,cJ,cU,fB,s1,cQ,dX,dS,gN,a1,a2,et]
theorem Zn{A:PV}{x0 y0 z0 w0 x1 y1 z1 w1 x2 y2 z2 w2 x3 y3 z3 w3:Int}(S:aJ)(hA:Sv A [v3 x0 y0 z0 w0,v3 x1 y1 z1 w1,v3 x2 y2 z2 w2,v3 x3 y3 z3 w3])(p:P3 x0 y0 z0 w0)(q:P3 x1 y1 z1 w1)(r:P3 x2 y2 z2 w2)(s:P3 x3 y3 z3 w3):nK [.pv A] S=.ok (.pv (.int (w0*w0*D3 x0 y0 z0 w0 x1 y1 z1 w1 x2 y2 z2 w2 x3 y3 z3 w3))) S:=by
 have a1:=pF S p q;have a2:=pF S p r;have a3:=pF S p s;have b1:=sb p.bx p.bw q.bx q.bw;have b2:=sb p.by_ p.bw q.by_ q.bw;have b3:=sb p.bz p.bw q.bz q.bw;have b4:=sb p.bx p.bw r.bx r.bw;have b5:=sb p.by_ p.bw r.by_ r.bw;have b6:=sb p.bz p.bw r.bz r.bw;have b7:=sb p.bx p.bw s.bx s.bw;have b8:=sb p.by_ p.bw s.by_ s.bw;have b9:=sb p.bz p.bw s.bz s.bw;have id:=Dx x0 y0 z0 w0 x1 y1 z1 w1 x2 y2 z2 w2 x3 y3 z3 w3;generalize z3*w0-z0*w3=T2,y3*w0-y0*w3=T1,x3*w0-x0*w3=T0,z2*w0-z0*w2=V2,y2*w0-y0*w2=V1,x2*w0-x0*w2=V0,z1*w0-z0*w1=U2,y1*w0-y0*w1=U1,x1*w0-x0*w1=U0,w0*w0*D3 x0 y0 z0 w0 x1 y1 z1 w1 x2 y2 z2 w2 x3 y3 z3 w3=D at *;have h:∀{a:Int},Bd 4001 a->Bd 20000 a:=λh=>h.mono (by decide);have h4:∀{a:Int},Bd 8003 a->Bd 100000 a:=λh=>h.mono (by decide);have h2:∀{a:Int},Bd 4001 a->Bd 100000 a:=λh=>h.mono (by decide);have en:=uM (A:=.lst [.int U0,.int U1,.int U2]) (B:=.lst [.int V0,.int V1,.int V2]) S (.inl rfl) (.inl rfl) (h b1) (h b2) (h b3) (h b4) (h b5) (h b6);have c1:=cb b2 b6 b3 b5;have c2:=cb b3 b4 b1 b6;have c3:=cb b1 b5 b2 b4;have ed:=uP (A:=.lst [.int (U1*V2-U2*V1),.int (U2*V0-U0*V2),.int (U0*V1-U1*V0)]) (B:=.lst [.int T0,.int T1,.int T2]) (us:=[U1*V2-U2*V1,U2*V0-U0*V2,U0*V1-U1*V0]) (vs:=[T0,T1,T2]) S (.inl rfl) (.inl rfl) (by simp;exact⟨h4 c1,h4 c2,h4 c3⟩) (by simp;exact⟨h2 b7,h2 b8,h2 b9⟩);rw[id]at ed;generalize v3 x3 y3 z3 w3=T,v3 x2 y2 z2 w2=R,v3 x1 y1 z1 w1=Q,v3 x0 y0 z0 w0=P,U0*V1-U1*V0=N2,U2*V0-U0*V2=N1,U1*V2-U2*V1=N0 at *;have et:kT [.pv (.lst [.lst [.int U0,.int U1,.int U2],.lst [.int V0,.int V1,.int V2],.lst [.int T0,.int T1,.int T2]])] S=.ok (.pv (.int D)) S:=by
  unfold kT aL sO;dsimp! [en,ed]
 unfold nK aL yS;rcases hA with rfl |rfl
 .have s1:=sY P [Q,R,T]
  dsimp! [bC,aX,bT,cV,cJ,cU,fB,s1,cQ,dX,dS,gN,a1,a2,a3,et]
 .have s1:=pA P [Q,R,T]
  dsimp! [bC,aX,bT,cV,cJ,cU,fB,s1,cQ,dX,dS,gN,a1,a2,a3,et]
theorem Vy    (n:Nat)(hn:n=2\/n=3)(h:eP S k ns):∃(v:PV)(ns':AY),nI [.ref k,.pv (.int n)] S=.ok (.pv v) (S.set k (.lst (ns'.map .int)))/\Gp n 100 v:=by
 obtain⟨xs,w,n1,e1,P,b1,b2⟩:=acS n hn h;exact⟨_,n1,e1,xs,w,rfl,P.pq b1 b2⟩
theorem Zr(ns:AY):∃g:Int,0<g/\ns=(low ns).map (g*·):=by
 by_cases h:gl ns 0=0
 .refine⟨1,by decide,?_⟩
  unfold low
  simp_all
 .have:=Lh ns 0 (qx 0)
  exact⟨gl _ 0,by omega,(acz h).symm⟩
theorem aaJ(ns:AY):low (ns.map (- ·))=(low ns).map (- ·):=by
 have e:gl (ns.map (- ·)) 0=gl ns 0:=by
  rw[<-acg ns];grind
 unfold low;rw[e];split
 .rfl
 .rw[dr,dr]
  refine gf λx hx=>?_;exact Int.neg_ediv_of_dvd ((jY _ 0).2 x hx)
theorem U7{S:aJ}{k:Nat}{ns:AY}{L:BF}(h:eP S k ns):∃(A:PV)(ns':AY),pW [.ref k,.pv (.lst L)] S=.ok (.pv A) (S.set k (.lst (ns'.map .int)))/\Sv A L:=by
 obtain⟨t,n1,e1,t0,t1,_⟩:=iO (m:=2) h (by decide) (jR (by decide) (by decide));have tk:=Vn S k (.lst (n1.map .int));generalize hS:S.set k (.lst (n1.map .int))=S1 at e1 tk
 by_cases ht:t=1
 .subst ht
  refine⟨.tup L,n1,?_,.inr rfl⟩;rw[hS];unfold pW aL xA;dsimp! [e1,tk]
 .refine⟨.lst L,n1,?_,.inl rfl⟩
  rw[hS];unfold pW aL xA;dsimp! [e1,tk,ht]
def B2(x0 y0 w0 x1 y1 w1:Int):AY:=[-(y1*w0-y0*w1),x1*w0-x0*w1,x0*y1-y0*x1]
def N3(x0 y0 z0 w0 x1 y1 z1 w1 x2 y2 z2 w2:Int):AY:=[(y1*w0-y0*w1)*(z2*w0-z0*w2)-(z1*w0-z0*w1)*(y2*w0-y0*w2),(z1*w0-z0*w1)*(x2*w0-x0*w2)-(x1*w0-x0*w1)*(z2*w0-z0*w2),(x1*w0-x0*w1)*(y2*w0-y0*w2)-(y1*w0-y0*w1)*(x2*w0-x0*w2)]
theorem ads{x0 y0 z0 w0 x1 y1 z1 w1 x2 y2 z2 w2:Int}(S:aJ)(p:P3 x0 y0 z0 w0)(q:P3 x1 y1 z1 w1)(r:P3 x2 y2 z2 w2):∃a b c U V,N3 x0 y0 z0 w0 x1 y1 z1 w1 x2 y2 z2 w2=[a,b,c]/\Bd 8003 a/\Bd 8003 b/\Bd 8003 c/\
  oB [.pv (v3 x0 y0 z0 w0),.pv (v3 x1 y1 z1 w1)] S=.ok (.pv U) S/\oB [.pv (v3 x0 y0 z0 w0),.pv (v3 x2 y2 z2 w2)] S=.ok (.pv V) S/\iZ [.pv (v3 x0 y0 z0 w0),.pv (v3 x1 y1 z1 w1)] S=.ok (.pv U) S/\iZ [.pv (v3 x0 y0 z0 w0),.pv (v3 x2 y2 z2 w2)] S=.ok (.pv V) S/\
  pY [.pv (.lst [U,V])] S=.ok (.pv (.lst [.int a,.int b,.int c])) S/\jW [.pv U,.pv V] S=.ok (.pv (.lst [.int a,.int b,.int c])) S:=by
 have a1:=vA S p q;have a2:=vA S p r;have g1:=pF S p q;have g2:=pF S p r;have b1:=sb p.bx p.bw q.bx q.bw;have b2:=sb p.by_ p.bw q.by_ q.bw;have b3:=sb p.bz p.bw q.bz q.bw;have b4:=sb p.bx p.bw r.bx r.bw;have b5:=sb p.by_ p.bw r.by_ r.bw;have b6:=sb p.bz p.bw r.bz r.bw;have h:∀{a:Int},Bd 4001 a->Bd 20000 a:=λh=>h.mono (by decide);have en:=Ms S (h b1) (h b2) (h b3) (h b4) (h b5) (h b6);have ec:=uM S (.inl rfl) (.inl rfl) (h b1) (h b2) (h b3) (h b4) (h b5) (h b6);exact⟨_,_,_,_,_,rfl,cb b2 b6 b3 b5,cb b3 b4 b1 b6,cb b1 b5 b2 b4,a1,a2,g1,g2,en,ec⟩
def B3(w0 x0 y0 z0 a b c:Int):AY:=[w0*a,w0*b,w0*c,-(a*x0+b*y0+c*z0)]
theorem Qi(a b c x y z:Int):dt [a,b,c] [x,y,z]=a*x+b*y+c*z:=by
 simp only[dt,km,ny,oa,og];grind
theorem afZ(a b c x y z w:Int):dt [a,b,c] [x,y,z,w]=a*x+b*y+c*z:=by
 simp only[dt,km,ny,oa,og];grind
theorem afa{w0 x0 y0 z0 a b c:Int}(bw:Bd 2000 w0)(bx:Bd 2000 x0)(by':Bd 2000 y0)(bz:Bd 2000 z0)(ba:Bd 8003 a)(bb:Bd 8003 b)(bc:Bd 8003 c):∀n∈B3 w0 x0 y0 z0 a b c,Bd 16000 n:=λn hn=>by
 have hn:n=w0*a\/n=w0*b\/n=w0*c\/n=-(a*x0+b*y0+c*z0):=by simpa[B3]using hn
 rcases hn with rfl |rfl |rfl |rfl
 .exact(bw.mul ba).mono (by decide)
 .exact(bw.mul bb).mono (by decide)
 .exact(bw.mul bc).mono (by decide)
 .exact(((ba.mul bx).add (bb.mul by')).add ((bc.mul bz).mono (by decide))).neg.mono (by decide)
theorem Q7{A B:PV}(S:aJ){z:Int}(h:sW [.pv A,.pv B] S=.ok (.pv (.int z)) S):uN [.pv A,.pv B] S=.ok (.pv (.int z)) S:=by
 unfold uN aL Pd;dsimp! [h]
theorem Oi(d e f h x y z w:Int):dt [d,e,f,h] [x,y,z,w]=d*x+e*y+f*z+h*w:=by
 simp only[dt,km,ny,oa,og];grind
theorem ace       {S:aJ}(h:kI G S):bZ G g me (x::r) ρ S=(match g x ρ with
  |none=>.fail
  |some ρ1=>match me ρ1 S with
   |.ok (.pv y) S1=>match bZ G g me r ρ1 S1 with
    |.ok ys S2=>.ok (y::ys) S2
    |_=>.fail
   |_=>.fail):=by
 rw[bZ,if_pos h]
theorem aaq     {S:aJ}(h:kI G S):bZ G g me [] ρ S=.ok [] S:=by
 rw[bZ,if_pos h]
theorem Go(a b c x0 y0 w0 x1 y1 w1 x2 y2 w2:Int):D2 (a*x0) (a*y0) (a*w0) (b*x1) (b*y1) (b*w1) (c*x2) (c*y2) (c*w2)=a*b*c*D2 x0 y0 w0 x1 y1 w1 x2 y2 w2:=by
 unfold D2;grind
theorem Wp(a b c d x0 y0 z0 w0 x1 y1 z1 w1 x2 y2 z2 w2 x3 y3 z3 w3:Int):D3 (a*x0) (a*y0) (a*z0) (a*w0) (b*x1) (b*y1) (b*z1) (b*w1) (c*x2) (c*y2) (c*z2) (c*w2) (d*x3) (d*y3) (d*z3) (d*w3)=a*b*c*d*D3 x0 y0 z0 w0 x1 y1 z1 w1 x2 y2 z2 w2 x3 y3 z3 w3:=by
 unfold D3;grind
structure R2(x y w X Y D:Int):Prop where
 pos:0<w
 dos:0<D
 ex:x*D=X*w
 ey:y*D=Y*w
theorem Pq.p2{k:Nat}{x y w:Int}(P:Pq 2 k [x,y] w)(h:k<=2000):P2 x y w:=⟨(P.bx x (by simp)).mono h,(P.bx y (by simp)).mono h,P.bw.mono h,P.pos⟩
theorem Pq.p3{k:Nat}{x y z w:Int}(P:Pq 3 k [x,y,z] w)(h:k<=2000):P3 x y z w:=⟨(P.bx x (by simp)).mono h,(P.bx y (by simp)).mono h,(P.bx z (by simp)).mono h,P.bw.mono h,P.pos⟩
def jF:BF->Int
 |[.tup [.int x0,.int y0,.int w0],.tup [.int x1,.int y1,.int w1],.tup [.int x2,.int y2,.int w2]]=>sg (D2 x0 y0 w0 x1 y1 w1 x2 y2 w2)
 |[.tup [.int x0,.int y0,.int z0,.int w0],.tup [.int x1,.int y1,.int z1,.int w1],.tup [.int x2,.int y2,.int z2,.int w2],.tup [.int x3,.int y3,.int z3,.int w3]]=>sg (D3 x0 y0 z0 w0 x1 y1 z1 w1 x2 y2 z2 w2 x3 y3 z3 w3)
 |_=>0
theorem acp{n:Nat}(hn:n=2\/n=3){A:PV}{L:BF}(S:aJ)(hl:L.length=n+1)(hg:∀v∈L,Gp n 2000 v)(hA:Sv A L):qI [.pv A] S=.ok (.pv (.int (jF L))) S:=by
 rcases hn with rfl |rfl
 .obtain⟨P,Q,R,rfl⟩:=len3 hl
  obtain⟨x0,y0,w0,rfl,p⟩:=(hg P (by simp)).two;obtain⟨x1,y1,w1,rfl,q⟩:=(hg Q (by simp)).two;obtain⟨x2,y2,w2,rfl,r⟩:=(hg R (by simp)).two;exact aaH S hA p q r
 .obtain⟨P,Q,R,T,rfl⟩:=len4 hl
  obtain⟨x0,y0,z0,w0,rfl,p⟩:=(hg P (by simp)).three;obtain⟨x1,y1,z1,w1,rfl,q⟩:=(hg Q (by simp)).three;obtain⟨x2,y2,z2,w2,rfl,r⟩:=(hg R (by simp)).three;obtain⟨x3,y3,z3,w3,rfl,s⟩:=(hg T (by simp)).three;exact Y7 S hA p q r s
theorem Ut(D:Int):sg (-D)=-sg D:=by
 unfold sg;grind
abbrev tv(us:AY):PV:=.tup (us.map .int)
def Gu(n k:Nat)(us:AY):Prop:=∃xs w,us=xs++[w]/\Pq n k xs w
theorem Gu.gp   (h:Gu n k us):Gp n k (tv us):=by
 obtain⟨xs,w,rfl,P⟩:=h;exact⟨xs,w,rfl,P⟩
theorem Gu.ne   (h:Gu n k us):us≠[]:=by
 obtain⟨xs,w,rfl,P⟩:=h;simp
theorem Gi  {uss:AZ}(h:∀us∈uss,Gu n k us):∀v∈uss.map tv,Gp n k v:=λv hv=>by
 obtain⟨us,hu,rfl⟩:=fg.mp hv;exact(h _ hu).gp
theorem Il:∀uss:AZ,oS (uss.map tv)=some uss
 |[]=>rfl
 |us::uss=>by
  have ih:=Il uss;show(match fS _,oS _ with |some _,some _=>some _ |_,_=>none)=_
  rw[ih,pT]
theorem Gn  {n:Nat}(hl:uss.length=n)(hp:(dZ uss).Perm (ce n)):Nh (uss.map tv) uss=(dJ uss).map tv:=by
 unfold Nh dJ;rw[dr];refine gf λi hi=>?_;have h:i<uss.length:=by
  have:=hp.subset hi
  simp_all
 simp[cr,h]
theorem Ik  {uss:AZ}(hl:uss.length=3\/uss.length=4)(hA:Sv A (uss.map tv))(hne:∀us∈uss,us≠[]):sK [A]=some (.lst ((dJ uss).map tv)):=by
 have e:tH (uss.map tv)=some (.lst ((dJ uss).map tv)):=by
  unfold tH;rw[Il];dsimp only;rcases hl with h |h
  .obtain⟨_,hp,_⟩:=Js h
   rw[if_pos (show Jh _ from⟨by omega,by omega,by rw[h];exact Wx,by rw[hp.length_eq];simp,hne⟩),Gn h hp]
  .obtain⟨_,hp,_⟩:=Lr h
   rw[if_pos (show Jh _ from⟨by omega,by omega,by rw[h];exact Ix,by rw[hp.length_eq];simp,hne⟩),Gn h hp]
 rcases hA with rfl |rfl
 .exact e
 .exact e
def qU{α:Type}:List α->List α
 |[a,b,c]=>[a,c,b]
 |[a,b,c,d]=>[a,b,d,c]
 |l=>l
theorem Nt  (f:α->β)(l:List α):(qU l).map f=qU (l.map f):=by
 rcases l with _ |⟨a,_ |⟨b,_ |⟨c,_ |⟨d,_ |⟨e,l⟩⟩⟩⟩⟩<;>rfl
theorem aaP  (l:List α):(qU l).Perm l:=by
 unfold qU;split
 .exact .cons _ (.swap _ _ _)
 .exact .cons _ (.cons _ (.swap _ _ _))
 .simp_all
def dU:AZ->Int
 |[[x0,y0,w0],[x1,y1,w1],[x2,y2,w2]]=>D2 x0 y0 w0 x1 y1 w1 x2 y2 w2
 |[[x0,y0,z0,w0],[x1,y1,z1,w1],[x2,y2,z2,w2],[x3,y3,z3,w3]]=>D3 x0 y0 z0 w0 x1 y1 z1 w1 x2 y2 z2 w2 x3 y3 z3 w3
 |_=>0
theorem Gu.two{k:Nat}{us:AY}(h:Gu 2 k us)(hk:k<=2000):∃x y w,us=[x,y,w]/\P2 x y w:=by
 obtain⟨xs,w,rfl,P⟩:=h
 obtain⟨x,y,rfl⟩:=len2 P.len;exact⟨x,y,w,rfl,P.p2 hk⟩
theorem Gu.three{k:Nat}{us:AY}(h:Gu 3 k us)(hk:k<=2000):∃x y z w,us=[x,y,z,w]/\P3 x y z w:=by
 obtain⟨xs,w,rfl,P⟩:=h
 obtain⟨x,y,z,rfl⟩:=len3 P.len;exact⟨x,y,z,w,rfl,P.p3 hk⟩
theorem vC{n k:Nat}(hn:n=2\/n=3)(hk:k<=2000){uss:AZ}(hl:uss.length=n+1)(hg:∀us∈uss,Gu n k us):jF (uss.map tv)=sg (dU uss):=by
 rcases hn with rfl |rfl
 .obtain⟨a,b,c,rfl⟩:=len3 hl
  obtain⟨x0,y0,w0,rfl,_⟩:=(hg a (by simp)).two hk;obtain⟨x1,y1,w1,rfl,_⟩:=(hg b (by simp)).two hk;obtain⟨x2,y2,w2,rfl,_⟩:=(hg c (by simp)).two hk;rfl
 .obtain⟨a,b,c,d,rfl⟩:=len4 hl
  obtain⟨x0,y0,z0,w0,rfl,_⟩:=(hg a (by simp)).three hk;obtain⟨x1,y1,z1,w1,rfl,_⟩:=(hg b (by simp)).three hk;obtain⟨x2,y2,z2,w2,rfl,_⟩:=(hg c (by simp)).three hk;obtain⟨x3,y3,z3,w3,rfl,_⟩:=(hg d (by simp)).three hk;rfl
def Pw(n:Nat)(us:AY):Prop:=∃xs w,us=xs++[w]/\xs.length=n/\0<w
theorem Pw.two  (h:Pw 2 us):∃x y w,us=[x,y,w]/\0<w:=by
 obtain⟨xs,w,rfl,l,p⟩:=h
 obtain⟨x,y,rfl⟩:=len2 l;exact⟨x,y,w,rfl,p⟩
theorem Pw.three  (h:Pw 3 us):∃x y z w,us=[x,y,z,w]/\0<w:=by
 obtain⟨xs,w,rfl,l,p⟩:=h
 obtain⟨x,y,z,rfl⟩:=len3 l;exact⟨x,y,z,w,rfl,p⟩
theorem Gu.pt   (h:Gu n k us):Pw n us:=by
 obtain⟨xs,w,e,P⟩:=h;exact⟨xs,w,e,P.len,P.pos⟩
theorem dU2{x0 y0 w0 x1 y1 w1 x2 y2 w2:Int}:dU [[x0,y0,w0],[x1,y1,w1],[x2,y2,w2]]=D2 x0 y0 w0 x1 y1 w1 x2 y2 w2:=rfl
theorem dU3{x0 y0 z0 w0 x1 y1 z1 w1 x2 y2 z2 w2 x3 y3 z3 w3:Int}:dU [[x0,y0,z0,w0],[x1,y1,z1,w1],[x2,y2,z2,w2],[x3,y3,z3,w3]]=D3 x0 y0 z0 w0 x1 y1 z1 w1 x2 y2 z2 w2 x3 y3 z3 w3:=rfl
theorem Me{n:Nat}(hn:n=2\/n=3){pre l:AZ}{x y:AY}(hl:(pre++y::x::l).length=n+1)(hp:∀u∈pre++y::x::l,Pw n u):dU (pre++x::y::l)=-dU (pre++y::x::l):=by
 have hx:=hp x (by simp);have hy:=hp y (by simp);rcases hn with rfl |rfl
 .obtain⟨x0,y0,w0,rfl,_⟩:=hx.two
  obtain⟨x1,y1,w1,rfl,_⟩:=hy.two;have fin:∀c∈pre++l,∃x y w,c=[x,y,w]:=λc hc=>by
   obtain⟨x,y,w,e,_⟩:=(hp c (by simp at hc⊢;rcases hc with h |h<;>simp[h])).two;exact⟨x,y,w,e⟩
  match pre,l,hl,fin with
  |[],[c],_,fin |[c],[],_,fin=>
   obtain⟨x2,y2,w2,rfl⟩:=fin c (by simp);simp only[fx,jo,dU2,D2];grind
  |[],[],h,_=>simp at h
  |[],_::_::_,h,_=>simp at h
  |_::_::_,_,h,_=>simp at h;omega
  |[_],_::_,h,_=>simp at h
 .obtain⟨x0,y0,z0,w0,rfl,_⟩:=hx.three
  obtain⟨x1,y1,z1,w1,rfl,_⟩:=hy.three;have fin:∀c∈pre++l,∃x y z w,c=[x,y,z,w]:=λc hc=>by
   obtain⟨x,y,z,w,e,_⟩:=(hp c (by simp at hc⊢;rcases hc with h |h<;>simp[h])).three;exact⟨x,y,z,w,e⟩
  match pre,l,hl,fin with
  |[],[c,d],_,fin |[c],[d],_,fin |[c,d],[],_,fin=>
   obtain⟨x2,y2,z2,w2,rfl⟩:=fin c (by simp);obtain⟨x3,y3,z3,w3,rfl⟩:=fin d (by simp);simp only[fx,jo,dU3,D3];grind
  |[],[],h,_=>simp at h
  |[],[_],h,_=>simp at h
  |[],_::_::_::_,h,_=>simp at h
  |[_],[],h,_=>simp at h
  |[_],_::_::_,h,_=>simp at h
  |[_,_],_::_,h,_=>simp at h
  |_::_::_::_,_,h,_=>simp at h;omega
theorem acF  (hn:n=2\/n=3){A B:AZ}(h:A.Perm B):∀pre:AZ,(pre++A).length=n+1->(∀u∈pre++A,Pw n u)->dU (pre++B)=dU (pre++A)\/dU (pre++B)=-dU (pre++A):=by
 induction h with
 |nil=>exact λpre _ _=>.inl rfl
 |cons x _ ih=>
  intro pre hl hp;have:=ih (pre++[x]) (by simpa using hl) (by simpa using hp);simpa using this
 |swap x y l=>exact λpre hl hp=>.inr (Me hn hl hp)
 |trans h1 h2 ih1 ih2=>
  intro pre hl hp;have q1:=ih1 pre hl hp;have q2:=ih2 pre (by rw[<-(h1.append_left pre).length_eq];exact hl) λu hu=>hp u ((h1.append_left pre).mem_iff.mpr hu);omega
theorem Cr{n k:Nat}(hn:n=2\/n=3)(hk:k<=2000){uss:AZ}(hl:uss.length=n+1)(hg:∀us∈uss,Gu n k us):dU (dJ uss)=dU uss\/dU (dJ uss)=-dU uss:=
 acF hn (oE (by omega)).1.symm [] hl λu hu=>(hg u hu).pt
theorem iP  (hn:n=2\/n=3){uss:AZ}(hl:uss.length=n+1):uss.length=3\/uss.length=4:=by
 simp_all
theorem aa7{n:Nat}(hn:n=2\/n=3){uss:AZ}(hl:uss.length=n+1)(hg:∀us∈uss,Gu n 2000 us):jF ((dJ uss).map tv)=jF (uss.map tv)\/jF ((dJ uss).map tv)=-jF (uss.map tv):=by
 have hp:=(oE (iP hn hl)).1;rw[vC hn (al 2000) (by rw[hp.length_eq,hl]) (λus hu=>hg us (hp.subset hu)),vC hn (al 2000) hl hg];rcases Cr hn (al 2000) hl hg with e |e
 .exact .inl (by rw[e])
 .exact .inr (by rw[e,Ut])
theorem Wq{n:Nat}(hn:n=2\/n=3){A:PV}{L:BF}(S:aJ)(hl:L.length=n+1)(hg:∀v∈L,Gp n 2000 v)(hA:Sv A L):∃d:Int,nK [.pv A] S=.ok (.pv (.int d)) S/\sg d=jF L:=by
 rcases hn with rfl |rfl
 .obtain⟨P,Q,R,rfl⟩:=len3 hl
  obtain⟨x0,y0,w0,rfl,p⟩:=(hg P (by simp)).two;obtain⟨x1,y1,w1,rfl,q⟩:=(hg Q (by simp)).two;obtain⟨x2,y2,w2,rfl,r⟩:=(hg R (by simp)).two;exact⟨_,Kq S hA p q r,jL p.pos⟩
 .obtain⟨P,Q,R,T,rfl⟩:=len4 hl
  obtain⟨x0,y0,z0,w0,rfl,p⟩:=(hg P (by simp)).three;obtain⟨x1,y1,z1,w1,rfl,q⟩:=(hg Q (by simp)).three;obtain⟨x2,y2,z2,w2,rfl,r⟩:=(hg R (by simp)).three;obtain⟨x3,y3,z3,w3,rfl,s⟩:=(hg T (by simp)).three;exact⟨_,Zn S hA p q r s,jL (aj p.pos p.pos)⟩
def bX(uss:AZ):AZ:=if jF ((dJ uss).map tv)<0 then qU (dJ uss)else dJ uss
theorem Zw  (hn:n=2\/n=3){L:BF}(hl:L.length=n+1):∃a b M,iT (.lst L) none (some (-2))=some (.lst M)/\aK (.lst L) (.int (-1))=some a/\aK (.lst L) (.int (-2))=some b/\bF (.lst M) (.lst [a,b])=some (.lst (qU L)):=by
 rcases hn with rfl |rfl
 .obtain⟨P,Q,R,rfl⟩:=len3 hl;exact⟨R,Q,[P],rfl,rfl,rfl,rfl⟩
 .obtain⟨P,Q,R,T,rfl⟩:=len4 hl;exact⟨T,R,[P,Q],rfl,rfl,rfl,rfl⟩
theorem E6{n:Nat}(hn:n=2\/n=3){A:PV}{a:AV}{uss:AZ}(S:aJ)(ha:rd S a=some A)(hl:uss.length=n+1)(hg:∀us∈uss,Gu n 2000 us)(hA:Sv A (uss.map tv)):oF [a] S=.ok (.pv (.tup ((bX uss).map tv))) S:=by
 have h34:uss.length=3\/uss.length=4:=by omega
 have e1:=Ik h34 hA λus hu=>(hg us hu).ne;obtain⟨pm,_⟩:=oE h34;have hl2:((dJ uss).map tv).length=n+1:=by rw[ak,pm.length_eq];exact hl
 have hg2:∀v∈(dJ uss).map tv,Gp n 2000 v:=Gi λus hu=>hg us (pm.subset hu);obtain⟨d,e2,hd⟩:=Wq (A:=.lst ((dJ uss).map tv)) hn S hl2 hg2 (.inl rfl);obtain⟨a1,b1,M,t1,t2,t3,t4⟩:=Zw hn hl2;unfold bX;have hlt:d<0↔jF ((dJ uss).map tv)<0:=by
  rw[<-hd];unfold sg;split
  .omega
  .split<;>omega
 by_cases h:d<0
 .rw[if_pos (hlt.mp h),Nt]
  generalize (dJ uss).map tv=L at *;unfold oF aL wK;simp! [-bF,-rd,rd.eq_1,ha,e1,e2,h,cV,cJ,cU,fB,t1,t2,t3,t4]
 .rw[if_neg (λz=>h (hlt.mpr z))]
  generalize (dJ uss).map tv=L at *;unfold oF aL wK;simp! [-bF,-rd,rd.eq_1,ha,e1,e2,h]
theorem Yj{n:Nat}(hn:n=2\/n=3){A:PV}{uss:AZ}(S:aJ)(hl:uss.length=n+1)(hg:∀us∈uss,Gu n 2000 us)(hA:Sv A (uss.map tv)):oF [.pv A] S=.ok (.pv (.tup ((bX uss).map tv))) S:=E6 hn S rfl hl hg hA
theorem M5{n:Nat}(hn:n=2\/n=3){A:PV}{uss:AZ}(S:aJ)(hl:uss.length=n+1)(hg:∀us∈uss,Gu n 2000 us)(hA:Sv A (uss.map tv))(h0:jF (uss.map tv)≠0):mT [.pv A] S=.ok (.pv (.tup ((bX uss).map tv))) S:=by
 have h34:uss.length=3\/uss.length=4:=by omega
 have e1:=Ik h34 hA λus hu=>(hg us hu).ne;obtain⟨pm,_⟩:=oE h34;have hl2:((dJ uss).map tv).length=n+1:=by rw[ak,pm.length_eq];exact hl
 have hg2:∀v∈(dJ uss).map tv,Gp n 2000 v:=Gi λus hu=>hg us (pm.subset hu);have e2:=acp (A:=.lst ((dJ uss).map tv)) hn S hl2 hg2 (.inl rfl);have h1:jF ((dJ uss).map tv)≠0:=by rcases aa7 hn hl hg with e |e<;>omega
 obtain⟨a,b,M,t1,t2,t3,t4⟩:=Zw hn hl2;unfold bX
 by_cases h:jF ((dJ uss).map tv)<0
 .rw[if_pos h,Nt]
  generalize (dJ uss).map tv=L at *;generalize jF L=D at *;unfold mT aL xC;simp! [-bF,e1,e2,h,h1,cV,cJ,cU,fB,t1,t2,t3,t4]
 .rw[if_neg h]
  generalize (dJ uss).map tv=L at *;generalize jF L=D at *;unfold mT aL xC;simp! [-bF,e1,e2,h,h1]
theorem pX  (h:uss.length=3\/uss.length=4):(bX uss).Perm uss:=by
 obtain⟨pm,_⟩:=oE h;unfold bX;split
 .exact(aaP _).trans pm
 simp_all
theorem abA  (h:uss.length=3\/uss.length=4):bX (bX uss)=bX uss:=by
 have e:=Gj (pX h) h;unfold bX at e⊢;rw[e]
theorem adc{S:aJ}{k j:Nat}{xs:BF}{v:PV}(hS:S[k]?=some (.lst xs))(hv:xs[j]?=some v)(hj:j<2000):tI k [.pv (.int (j:Int))] S=.ok (.pv v) (S.set k (.lst (xs.eraseIdx j))):=by
 have hl:=(bn.mp hv).1;have e:seqIndex? (j:Int) xs.length=some j:=by
  unfold seqIndex?;have h1:¬((j:Int)<0):=by omega
  have h2:(decide (0<=(j:Int))&&decide ((j:Int)<(xs.length:Int)))=true:=by
   simp only[ja,decide_eq_true_eq];omega
  simp only[h1,if_false];rw[if_pos h2,rm]
 unfold tI;dsimp only;rw[if_pos ⟨by omega,by omega⟩,hS];dsimp only;rw[e];dsimp only;rw[hv]
def wU:AZ->Int
 |[]=>1
 |us::r=>us.getLastD 0*wU r
theorem Gu.mono  {us:AY}(h:Gu n k us)(hl:k<=l):Gu n l us:=by
 obtain⟨xs,w,e,P⟩:=h;exact⟨xs,w,e,P.mono hl⟩
theorem Wr:sg d=0↔d=0:=by
 unfold sg;grind
theorem Ox:sg d<0↔d<0:=by
 unfold sg;grind
theorem adK{n k:Nat}(hn:n=2\/n=3)(hk:k<=2000){uss:AZ}(hl:uss.length=n+1)(hg:∀us∈uss,Gu n k us):dU (qU uss)=-dU uss:=by
 rcases hn with rfl |rfl
 .obtain⟨a,b,c,rfl⟩:=len3 hl
  obtain⟨x0,y0,w0,rfl,_⟩:=(hg a (by simp)).two hk;obtain⟨x1,y1,w1,rfl,_⟩:=(hg b (by simp)).two hk;obtain⟨x2,y2,w2,rfl,_⟩:=(hg c (by simp)).two hk;show D2 x0 y0 w0 x2 y2 w2 x1 y1 w1=-(D2 x0 y0 w0 x1 y1 w1 x2 y2 w2);unfold D2;grind
 .obtain⟨a,b,c,d,rfl⟩:=len4 hl
  obtain⟨x0,y0,z0,w0,rfl,_⟩:=(hg a (by simp)).three hk;obtain⟨x1,y1,z1,w1,rfl,_⟩:=(hg b (by simp)).three hk;obtain⟨x2,y2,z2,w2,rfl,_⟩:=(hg c (by simp)).three hk;obtain⟨x3,y3,z3,w3,rfl,_⟩:=(hg d (by simp)).three hk;show D3 x0 y0 z0 w0 x1 y1 z1 w1 x3 y3 z3 w3 x2 y2 z2 w2=-(D3 x0 y0 z0 w0 x1 y1 z1 w1 x2 y2 z2 w2 x3 y3 z3 w3);unfold D3;grind
theorem nM{n k:Nat}(hn:n=2\/n=3)(hk:k<=2000){uss:AZ}(hl:uss.length=n+1)(hg:∀us∈uss,Gu n k us):dU (bX uss)=((dU uss).natAbs:Int):=by
 have hp:=(oE (iP hn hl)).1;have gs:∀us∈dJ uss,Gu n k us:=λus hu=>hg us (hp.subset hu);have ls:(dJ uss).length=n+1:=by rw[hp.length_eq,hl]
 have e:=Cr hn hk hl hg;have s:=adK hn hk ls gs;have q:=vC hn hk ls gs;unfold bX;split
 .rename_i h
  rw[q,Ox]at h;rw[s];omega
 .rename_i h
  rw[q,Ox]at h;omega
theorem Ee{A B:AZ}(h:A.Perm B):wU A=wU B:=by
 induction h with
 |nil=>rfl
 |cons x _ ih=>unfold wU;rw[ih]
 |swap x y l=>unfold wU wU;rw[<-jh,<-jh,dg (y.getLastD 0)]
 |trans _ _ i1 i2=>exact i1.trans i2
theorem jZ:∀{uss:AZ},(∀us∈uss,Gu n k us)->0<wU uss
 |[],_=>by decide
 |us::r,h=>by
  obtain⟨xs,w,rfl,P⟩:=h _ bo;refine aj ?_ (jZ λu hu=>h u (bd _ hu));rw[show(xs++[w]).getLastD 0=w by simp];exact P.pos
theorem Ob{A B:AZ}(hp:A.Perm B)(h:B.length=3\/B.length=4):bX A=bX B:=by
 unfold bX;rw[Gj hp h]
structure Sx(n k:Nat)(uss:AZ):Prop where
 len:uss.length=n+1
 gu:∀us∈uss,Gu n k us
 nz:dU uss≠0
 cn:bX uss=uss
abbrev px(uss:AZ):PV:=.tup (uss.map tv)
theorem Yg{n k:Nat}(hn:n=2\/n=3)(hk:k<=2000){uss:AZ}(hl:uss.length=n+1)(hg:∀us∈uss,Gu n k us)(nz:dU uss≠0):Sx n k (bX uss):=by
 have hp:=pX (iP hn hl);refine⟨by rw[hp.length_eq,hl],λus hu=>hg us (hp.subset hu),?_,abA (iP hn hl)⟩;rw[nM hn hk hl hg];omega
def kG(n:Nat)(A C:Nat->Int)(E:Int)(us us':AY):Prop:=∃xs w xs' w',us=xs++[w]/\us'=xs'++[w']/\xs.length=n/\xs'.length=n/\0<w/\0<w'/\∀j,j<n->xs'.getD j 0*(E*w)=(A j*xs.getD j 0+C j*w)*w'
theorem kG.two   {us us':AY}(h:kG 2 A C E us us'):∃x y w x' y' w',us=[x,y,w]/\us'=[x',y',w']/\x'*(E*w)=(A 0*x+C 0*w)*w'/\y'*(E*w)=(A 1*y+C 1*w)*w':=by
 obtain⟨xs,w,xs',w',rfl,rfl,l,l',_,_,h⟩:=h
 obtain⟨x,y,rfl⟩:=len2 l;obtain⟨x',y',rfl⟩:=len2 l';exact⟨x,y,w,x',y',w',rfl,rfl,h 0 (by decide),h 1 (by decide)⟩
theorem kG.three   {us us':AY}(h:kG 3 A C E us us'):∃x y z w x' y' z' w',us=[x,y,z,w]/\us'=[x',y',z',w']/\x'*(E*w)=(A 0*x+C 0*w)*w'/\y'*(E*w)=(A 1*y+C 1*w)*w'/\z'*(E*w)=(A 2*z+C 2*w)*w':=by
 obtain⟨xs,w,xs',w',rfl,rfl,l,l',_,_,h⟩:=h
 obtain⟨x,y,z,rfl⟩:=len3 l;obtain⟨x',y',z',rfl⟩:=len3 l';exact⟨x,y,z,w,x',y',z',w',rfl,rfl,h 0 (by decide),h 1 (by decide),h 2 (by decide)⟩
theorem afw(a b c d E x0 y0 w0 x1 y1 w1 x2 y2 w2:Int):D2 (a*x0+c*w0) (b*y0+d*w0) (E*w0) (a*x1+c*w1) (b*y1+d*w1) (E*w1) (a*x2+c*w2) (b*y2+d*w2) (E*w2)=a*b*E*D2 x0 y0 w0 x1 y1 w1 x2 y2 w2:=by
 unfold D2;grind
theorem aev(a b p c d e E x0 y0 z0 w0 x1 y1 z1 w1 x2 y2 z2 w2 x3 y3 z3 w3:Int):D3 (a*x0+c*w0) (b*y0+d*w0) (p*z0+e*w0) (E*w0) (a*x1+c*w1) (b*y1+d*w1) (p*z1+e*w1) (E*w1) (a*x2+c*w2) (b*y2+d*w2) (p*z2+e*w2) (E*w2) (a*x3+c*w3) (b*y3+d*w3) (p*z3+e*w3) (E*w3)=a*b*p*E*D3 x0 y0 z0 w0 x1 y1 z1 w1 x2 y2 z2 w2 x3 y3 z3 w3:=by
 unfold D3;grind
theorem cm(a b:Int){c:Int}(h:a*b=c):b*a=c:=by rw[dg];exact h
theorem Jz   {P Q R P' Q' R':AY}(h0:kG 2 A C E P P')(h1:kG 2 A C E Q Q')(h2:kG 2 A C E R R'):dU [P',Q',R']*(E*E*E*wU [P,Q,R])=A 0*A 1*E*dU [P,Q,R]*wU [P',Q',R']:=by
 obtain⟨x0,y0,w0,X0,Y0,W0,rfl,rfl,p,q⟩:=h0.two;obtain⟨x1,y1,w1,X1,Y1,W1,rfl,rfl,p1,q1⟩:=h1.two;obtain⟨x2,y2,w2,X2,Y2,W2,rfl,rfl,p2,q2⟩:=h2.two;have e:=Go (E*w0) (E*w1) (E*w2) X0 Y0 W0 X1 Y1 W1 X2 Y2 W2;have f:=Go W0 W1 W2 (A 0*x0+C 0*w0) (A 1*y0+C 1*w0) (E*w0) (A 0*x1+C 0*w1) (A 1*y1+C 1*w1) (E*w1) (A 0*x2+C 0*w2) (A 1*y2+C 1*w2) (E*w2);rw[afw]at f;rw[cm _ _ p,cm _ _ q,cm _ _ p1,cm _ _ q1,cm _ _ p2,cm _ _ q2,dg _ W0,dg _ W0,dg _ W0,dg _ W1,dg _ W1,dg _ W1,dg _ W2,dg _ W2,dg _ W2]at e;have g:=e.symm.trans f;show D2 X0 Y0 W0 X1 Y1 W1 X2 Y2 W2*(E*E*E*(w0*(w1*(w2*1))))=A 0*A 1*E*D2 x0 y0 w0 x1 y1 w1 x2 y2 w2*(W0*(W1*(W2*1)));clear e f p q p1 q1 p2 q2 h0 h1 h2;grind
theorem Ez{A C:Nat->Int}{E:Int}{P Q R T P' Q' R' T':AY}(h0:kG 3 A C E P P')(h1:kG 3 A C E Q Q')(h2:kG 3 A C E R R')(h3:kG 3 A C E T T'):dU [P',Q',R',T']*(E*E*E*E*wU [P,Q,R,T])=A 0*A 1*A 2*E*dU [P,Q,R,T]*wU [P',Q',R',T']:=by
 obtain⟨x0,y0,z0,w0,X0,Y0,Z0,W0,rfl,rfl,p,q,r⟩:=h0.three;obtain⟨x1,y1,z1,w1,X1,Y1,Z1,W1,rfl,rfl,p1,q1,r1⟩:=h1.three;obtain⟨x2,y2,z2,w2,X2,Y2,Z2,W2,rfl,rfl,p2,q2,r2⟩:=h2.three;obtain⟨x3,y3,z3,w3,X3,Y3,Z3,W3,rfl,rfl,p3,q3,r3⟩:=h3.three;have e:=Wp (E*w0) (E*w1) (E*w2) (E*w3) X0 Y0 Z0 W0 X1 Y1 Z1 W1 X2 Y2 Z2 W2 X3 Y3 Z3 W3;have f:=Wp W0 W1 W2 W3 (A 0*x0+C 0*w0) (A 1*y0+C 1*w0) (A 2*z0+C 2*w0) (E*w0) (A 0*x1+C 0*w1) (A 1*y1+C 1*w1) (A 2*z1+C 2*w1) (E*w1) (A 0*x2+C 0*w2) (A 1*y2+C 1*w2) (A 2*z2+C 2*w2) (E*w2) (A 0*x3+C 0*w3) (A 1*y3+C 1*w3) (A 2*z3+C 2*w3) (E*w3);rw[aev]at f;rw[cm _ _ p,cm _ _ q,cm _ _ r,cm _ _ p1,cm _ _ q1,cm _ _ r1,cm _ _ p2,cm _ _ q2,cm _ _ r2,cm _ _ p3,cm _ _ q3,cm _ _ r3]at e;have cW:∀a W:Int,a*W=W*a:=dg;rw[cW _ W0,cW _ W0,cW _ W0,cW _ W0,cW _ W1,cW _ W1,cW _ W1,cW _ W1,cW _ W2,cW _ W2,cW _ W2,cW _ W2,cW _ W3,cW _ W3,cW _ W3,cW _ W3]at e;have g:=e.symm.trans f;show D3 X0 Y0 Z0 W0 X1 Y1 Z1 W1 X2 Y2 Z2 W2 X3 Y3 Z3 W3*(E*E*E*E*(w0*(w1*(w2*(w3*1)))))=A 0*A 1*A 2*E*D3 x0 y0 z0 w0 x1 y1 z1 w1 x2 y2 z2 w2 x3 y3 z3 w3*(W0*(W1*(W2*(W3*1))));generalize D3 X0 Y0 Z0 W0 X1 Y1 Z1 W1 X2 Y2 Z2 W2 X3 Y3 Z3 W3=d at g⊢;generalize D3 x0 y0 z0 w0 x1 y1 z1 w1 x2 y2 z2 w2 x3 y3 z3 w3=d' at g⊢;clear e f p q r p1 q1 r1 p2 q2 r2 p3 q3 r3 h0 h1 h2 h3 cW;grind
def gY(way:Int)(f us:AY):AY:=mv way us.dropLast (us.getLastD 0) f.dropLast (f.getLastD 0)
theorem Dw(way:Int)(xs:AY)(w:Int)(ys:AY)(v:Int):gY way (ys++[v]) (xs++[w])=mv way xs w ys v:=by
 unfold gY;simp
theorem oP  {way:Int}{us f:AY}(hway:way=1\/way=-1)(h:Gu n k us)(g:Gu n l f):Gu n (k+l+1) (gY way f us)/\kG n (λ_=>way*f.getLastD 0) (λj=>f.getD j 0) (f.getLastD 0) us (gY way f us):=by
 obtain⟨xs,w,rfl,P⟩:=h;obtain⟨ys,v,rfl,Q⟩:=g;rw[Dw];obtain⟨zs,z,e,Z,hv⟩:=afA hway P Q;rw[e];refine⟨⟨zs,z,rfl,Z⟩,xs,w,zs,z,rfl,rfl,P.len,Z.len,P.pos,Z.pos,λj hj=>?_⟩;have a:=hv _ _ _ _ (Vl.self n xs w) (Vl.self n ys v) P.pos Q.pos j hj;rw[show(ys++[v]).getLastD 0=v by simp];have eg:(ys++[v]).getD j 0=ys.getD j 0:=by
  have:j<ys.length:=by rw[Q.len];exact hj
  simp[cr,fu this]
 dsimp only at a⊢;rw[eg];generalize ys.getD j 0=y at a⊢;rw[dg v w,a];grind
theorem abX{n k l:Nat}{way:Int}{us f:AY}(S:aJ)(hn:n=2\/n=3)(hway:way=1\/way=-1)(h:Gu n k us)(g:Gu n l f)(hk:k<=2000)(hl:l<=2000):oH [.pv (tv us),.pv (tv f),.pv (.int way)] S=.ok (.pv (tv (gY way f us))) S:=by
 obtain⟨xs,w,rfl,P⟩:=h;obtain⟨ys,v,rfl,Q⟩:=g;rw[Dw];exact acx S hn hway P Q hk hl
theorem N8{a b w v:Int}(hw:0<w)(hv:0<v)(h:a*w=b*v\/a*w=-(b*v)):(a.natAbs:Int)*w=(b.natAbs:Int)*v:=by
 have e:(a*w).natAbs=(b*v).natAbs:=by
  rcases h with h |h
  .rw[h]
  .simp_all
 rw[kh,kh]at e;have e1:(w.natAbs:Nat)=w:=by omega
 have e2:(v.natAbs:Int)=v:=by omega
 have e3:(a.natAbs*w.natAbs:Nat)=((b.natAbs*v.natAbs:Nat):Int):=by rw[e]
 rw[yp,yp,e1,e2]at e3;exact e3
theorem af8{v d d' w w':Int}{way:Int}(hv:0<v)(hway:way=1\/way=-1)(h:d'*(v*v*v*w)=way*v*(way*v)*v*d*w'):d'*w=d*w':=by
 have e:d'*w*(v*v*v)=d*w'*(v*v*v):=by rcases hway with rfl |rfl<;>grind
 exact yR (aj (aj hv hv) hv) e
theorem afQ{v d d' w w':Int}{way:Int}(hv:0<v)(hway:way=1\/way=-1)(h:d'*(v*v*v*v*w)=way*v*(way*v)*(way*v)*v*d*w'):d'*w=d*w'\/d'*w=-(d*w'):=by
 have p:=aj (aj (aj hv hv) hv) hv;rcases hway with rfl |rfl
 .left
  have e:d'*w*(v*v*v*v)=d*w'*(v*v*v*v):=by grind
  exact yR p e
 .right
  have e:d'*w*(v*v*v*v)=(-(d*w'))*(v*v*v*v):=by grind
  exact yR p e
theorem Jg  {way:Int}{f:AY}{uss:AZ}(hway:way=1\/way=-1)(hg:∀us∈uss,Gu n k us)(g:Gu n l f):∀us∈uss.map (gY way f),Gu n (k+l+1) us:=λus hu=>by
 obtain⟨u,hm,rfl⟩:=fg.mp hu;exact(oP hway (hg u hm) g).1
theorem Gu.lastpos   (h:Gu n k f):0<f.getLastD 0:=by
 obtain⟨xs,w,rfl,P⟩:=h;rw[show(xs++[w]).getLastD 0=w by simp];exact P.pos
theorem adh  (hn:n=2\/n=3){way:Int}{f:AY}{uss:AZ}(hway:way=1\/way=-1)(hl:uss.length=n+1)(hg:∀us∈uss,Gu n k us)(g:Gu n l f):((dU (uss.map (gY way f))).natAbs:Int)*wU uss=((dU uss).natAbs:Int)*wU (uss.map (gY way f)):=by
 have hv:=g.lastpos;have p1:=jZ hg;have p2:=jZ (Jg hway hg g);refine N8 p1 p2 ?_;rcases hn with rfl |rfl
 .obtain⟨a,b,c,rfl⟩:=len3 hl
  have e:=Jz (oP hway (hg a (by simp)) g).2 (oP hway (hg b (by simp)) g).2 (oP hway (hg c (by simp)) g).2;exact .inl (af8 hv hway e)
 .obtain⟨a,b,c,d,rfl⟩:=len4 hl
  have e:=Ez (oP hway (hg a (by simp)) g).2 (oP hway (hg b (by simp)) g).2 (oP hway (hg c (by simp)) g).2 (oP hway (hg d (by simp)) g).2;exact afQ hv hway e
theorem afy  (hn:n=2\/n=3){way:Int}{f:AY}{uss:AZ}(hway:way=1\/way=-1)(hl:uss.length=n+1)(hg:∀us∈uss,Gu n k us)(g:Gu n l f)(h:dU uss≠0):dU (uss.map (gY way f))≠0:=λz=>by
 have e:=adh hn hway hl hg g;have p2:=jZ (Jg hway hg g);have:(dU uss).natAbs*wU _≠0:=da (by omega) (ck p2)
 simp_all
theorem rR   (hG:kI G S){me:ME}{tail:cN}{α:Type}(A B:α->PV):∀(L:List α)(x:BH),(∀v∈L,me (some (.pv (A v))::tail) S=.ok (.pv (B v)) S)->bZ G (gN 0) me (L.map A) (x::tail) S=.ok (L.map B) S
 |[],x,_=>aaq hG
 |v::L,x,h=>by
  have e:=h v bo;have e':=rR hG A B L (some (.pv (A v))) λu hu=>h u (bd _ hu);rw[ao,ace hG];simp[gN,e,e']
theorem Sg{k:Nat}{x0 y0 w0 x1 y1 w1 x2 y2 w2:Int}(a0:Bd k x0)(b0:Bd k y0)(c0:Bd k w0)(a1:Bd k x1)(b1:Bd k y1)(c1:Bd k w1)(a2:Bd k x2)(b2:Bd k y2)(c2:Bd k w2):Bd (3*k+3) (D2 x0 y0 w0 x1 y1 w1 x2 y2 w2):=by
 have m:∀{a b:Int},Bd k a->Bd k b->Bd (2*k) (a*b):=λh g=>(h.mul g).mono (by omega);have s:∀{a b c d:Int},Bd k a->Bd k b->Bd k c->Bd k d->Bd (2*k+1) (a*b-c*d):=λh g i j=>(m h g).sub (m i j);have t:∀{w e:Int},Bd k w->Bd (2*k+1) e->Bd (3*k+1) (w*e):=λh g=>(h.mul g).mono (by omega);unfold D2;exact((t c0 (s a1 b2 b1 a2)).sub (t c1 (s a0 b2 b0 a2))).add ((t c2 (s a0 b1 b0 a1)).mono (by omega))
theorem Rg{k:Nat}{x0 y0 z0 w0 x1 y1 z1 w1 x2 y2 z2 w2 x3 y3 z3 w3:Int}(a0:Bd k x0)(b0:Bd k y0)(d0:Bd k z0)(c0:Bd k w0)(a1:Bd k x1)(b1:Bd k y1)(d1:Bd k z1)(c1:Bd k w1)(a2:Bd k x2)(b2:Bd k y2)(d2:Bd k z2)(c2:Bd k w2)(a3:Bd k x3)(b3:Bd k y3)(d3:Bd k z3)(c3:Bd k w3):Bd (4*k+6) (D3 x0 y0 z0 w0 x1 y1 z1 w1 x2 y2 z2 w2 x3 y3 z3 w3):=by
 have m:∀{a b:Int},Bd k a->Bd k b->Bd (2*k) (a*b):=λh g=>(h.mul g).mono (by omega);have s:∀{a b c d:Int},Bd k a->Bd k b->Bd k c->Bd k d->Bd (2*k+1) (a*b-c*d):=λh g i j=>(m h g).sub (m i j);have t:∀{e w:Int},Bd (2*k+1) e->Bd k w->Bd (3*k+1) (e*w):=λh g=>(h.mul g).mono (by omega);have u:∀{e f g w:Int},Bd (3*k+1) e->Bd (3*k+1) f->Bd (3*k+1) g->Bd k w->Bd (4*k+3) (w*(e+f+g)):=λh i j l=>(l.mul ((h.add i).add (j.mono (by omega)))).mono (by omega);unfold D3;refine(((u (t (s b1 d2 d1 b2) a3) (t (s d1 a2 a1 d2) b3) (t (s a1 b2 b1 a2) d3) c0).sub (u (t (s b0 d2 d0 b2) a3) (t (s d0 a2 a0 d2) b3) (t (s a0 b2 b0 a2) d3) c1)).add ((u (t (s b0 d1 d0 b1) a3) (t (s d0 a1 a0 d1) b3) (t (s a0 b1 b0 a1) d3) c2).mono (by omega))).sub ((u (t (s b0 d1 d0 b1) a2) (t (s d0 a1 a0 d1) b2) (t (s a0 b1 b0 a1) d2) c3).mono (by omega))
theorem Gu.two'   (h:Gu 2 k us):∃x y w,us=[x,y,w]/\0<w/\Bd k x/\Bd k y/\Bd k w:=by
 obtain⟨xs,w,rfl,P⟩:=h
 obtain⟨x,y,rfl⟩:=len2 P.len;exact⟨x,y,w,rfl,P.pos,P.bx x (by simp),P.bx y (by simp),P.bw⟩
theorem Gu.three'   (h:Gu 3 k us):∃x y z w,us=[x,y,z,w]/\0<w/\Bd k x/\Bd k y/\Bd k z/\Bd k w:=by
 obtain⟨xs,w,rfl,P⟩:=h
 obtain⟨x,y,z,rfl⟩:=len3 P.len;exact⟨x,y,z,w,rfl,P.pos,P.bx x (by simp),P.bx y (by simp),P.bx z (by simp),P.bw⟩
def sh(n:Nat):Int:=if n=2 then 2 else 6
theorem oU(n:Nat):0<sh n:=by
 unfold sh;split<;>decide
theorem mK:Bd 3 (6:Int):=by unfold Bd;decide
theorem pK:Bd 3 (2:Int):=by unfold Bd;decide
theorem ad5{n k:Nat}(hn:n=2\/n=3){uss:AZ}(hl:uss.length=n+1)(hg:∀us∈uss,Gu n k us):Bd (4*k+6) (dU uss)/\Bd (4*k+6) (sh n*wU uss):=by
 have b1:Bd 1 (1:Int):=by unfold Bd;decide
 rcases hn with rfl |rfl
 .obtain⟨a,b,c,rfl⟩:=len3 hl
  obtain⟨x0,y0,w0,rfl,q0,a0,b0,c0⟩:=(hg a (by simp)).two';obtain⟨x1,y1,w1,rfl,q1,a1,b1',c1⟩:=(hg b (by simp)).two';obtain⟨x2,y2,w2,rfl,q2,a2,b2,c2⟩:=(hg c (by simp)).two';refine⟨(Sg a0 b0 c0 a1 b1' c1 a2 b2 c2).mono (by omega),?_⟩;show Bd _ (2*(w0*(w1*(w2*1))));exact(pK.mul (c0.mul (c1.mul (c2.mul b1)))).mono (by omega)
 .obtain⟨a,b,c,d,rfl⟩:=len4 hl
  obtain⟨x0,y0,z0,w0,rfl,q0,a0,b0,d0,c0⟩:=(hg a (by simp)).three';obtain⟨x1,y1,z1,w1,rfl,q1,a1,b1',d1,c1⟩:=(hg b (by simp)).three';obtain⟨x2,y2,z2,w2,rfl,q2,a2,b2,d2,c2⟩:=(hg c (by simp)).three';obtain⟨x3,y3,z3,w3,rfl,q3,a3,b3,d3,c3⟩:=(hg d (by simp)).three';refine⟨Rg a0 b0 d0 c0 a1 b1' d1 c1 a2 b2 d2 c2 a3 b3 d3 c3,?_⟩;show Bd _ (6*(w0*(w1*(w2*(w3*1)))));exact(mK.mul (c0.mul (c1.mul (c2.mul (c3.mul b1))))).mono (by omega)
def vf(n:Nat)(uss:AZ):AY:=fr (dU uss) (sh n*wU uss)
theorem mk{k l:Nat}{a b:Int}(h:Bd k a)(g:Bd l b)(hk:k<=1000000)(hl:l<=1000000):aV (.int a) (.int b)=some (.int (a*b)):=lO (.inr ⟨h.mono (by omega),g.mono (by omega)⟩)
theorem R1{n k:Nat}(hn:n=2\/n=3)(hk:k<=1440){uss:AZ}(S:aJ)(h:Sx n k uss):rX [.pv (px uss)] S=.ok (.pv (tv (vf n uss))) S:=by
 have hl:=h.len;have hg:=h.gu;clear h;rcases hn with rfl |rfl
 .obtain⟨a,b,c,rfl⟩:=len3 hl
  obtain⟨x0,y0,w0,rfl,q0,a0,b0,c0⟩:=(hg a (by simp)).two';obtain⟨x1,y1,w1,rfl,q1,a1,b1,c1⟩:=(hg b (by simp)).two';obtain⟨x2,y2,w2,rfl,q2,a2,b2,c2⟩:=(hg c (by simp)).two';have u:∀{x:Int},Bd k x->Bd 2000 x:=λh=>h.mono (by omega);have e:=Ys (A:=.tup [v2 x0 y0 w0,v2 x1 y1 w1,v2 x2 y2 w2]) S (.inr rfl) ⟨u a0,u b0,u c0,q0⟩ ⟨u a1,u b1,u c1,q1⟩ ⟨u a2,u b2,u c2,q2⟩;have bD:=Sg a0 b0 c0 a1 b1 c1 a2 b2 c2;have m1:=mk pK c0 (by omega) (by omega);have m2:=mk (pK.mul c0) c1 (by omega) (by omega);have m3:=mk ((pK.mul c0).mul c1) c0 (by omega) (by omega);have m4:=mk (((pK.mul c0).mul c1).mul c0) c2 (by omega) (by omega);have nz:(2:Int)*w0*w1*w0*w2≠0:=ck (aj (aj (aj (aj (by decide) q0) q1) q0) q2);have f:=Pb (w0*D2 x0 y0 w0 x1 y1 w1 x2 y2 w2) (2*w0*w1*w0*w2) S ((c0.mul bD).mono (by omega)) (((((pK.mul c0).mul c1).mul c0).mul c2).mono (by omega)) nz;have ev:vf 2 [[x0,y0,w0],[x1,y1,w1],[x2,y2,w2]]=fr (w0*D2 x0 y0 w0 x1 y1 w1 x2 y2 w2) (2*w0*w1*w0*w2):=by
   unfold vf;refine xN (ck (aj (oU 2) (jZ hg))) nz ?_;show D2 x0 y0 w0 x1 y1 w1 x2 y2 w2*_=w0*D2 x0 y0 w0 x1 y1 w1 x2 y2 w2*(2*(w0*(w1*(w2*1))));generalize D2 x0 y0 w0 x1 y1 w1 x2 y2 w2=d;grind
  rw[ev];generalize D2 x0 y0 w0 x1 y1 w1 x2 y2 w2=d at e f⊢;unfold rX aL xE;simp only[ao,aw,px,tv];dsimp! [aY,aX,cV,cU,cJ,fB,bT,pA,dY,eZ,gN,m1,m2,m3,m4,e,f]
 .obtain⟨a,b,c,d,rfl⟩:=len4 hl
  obtain⟨x0,y0,z0,w0,rfl,q0,a0,b0,d0,c0⟩:=(hg a (by simp)).three';obtain⟨x1,y1,z1,w1,rfl,q1,a1,b1,d1,c1⟩:=(hg b (by simp)).three';obtain⟨x2,y2,z2,w2,rfl,q2,a2,b2,d2,c2⟩:=(hg c (by simp)).three';obtain⟨x3,y3,z3,w3,rfl,q3,a3,b3,d3,c3⟩:=(hg d (by simp)).three';have u:∀{x:Int},Bd k x->Bd 2000 x:=λh=>h.mono (by omega);have e:=Lq (A:=.tup [v3 x0 y0 z0 w0,v3 x1 y1 z1 w1,v3 x2 y2 z2 w2,v3 x3 y3 z3 w3]) S (.inr rfl) ⟨u a0,u b0,u d0,u c0,q0⟩ ⟨u a1,u b1,u d1,u c1,q1⟩ ⟨u a2,u b2,u d2,u c2,q2⟩ ⟨u a3,u b3,u d3,u c3,q3⟩;have bD:=Rg a0 b0 d0 c0 a1 b1 d1 c1 a2 b2 d2 c2 a3 b3 d3 c3;have m1:=mk mK c0 (by omega) (by omega);have m2:=mk (mK.mul c0) c1 (by omega) (by omega);have m3:=mk ((mK.mul c0).mul c1) c0 (by omega) (by omega);have m4:=mk (((mK.mul c0).mul c1).mul c0) c2 (by omega) (by omega);have m5:=mk ((((mK.mul c0).mul c1).mul c0).mul c2) c0 (by omega) (by omega);have m6:=mk (((((mK.mul c0).mul c1).mul c0).mul c2).mul c0) c3 (by omega) (by omega);have nz:(6:Int)*w0*w1*w0*w2*w0*w3≠0:=ck (aj (aj (aj (aj (aj (aj (by decide) q0) q1) q0) q2) q0) q3);have f:=Pb (w0*w0*D3 x0 y0 z0 w0 x1 y1 z1 w1 x2 y2 z2 w2 x3 y3 z3 w3) (6*w0*w1*w0*w2*w0*w3) S (((c0.mul c0).mul bD).mono (by omega)) (((((((mK.mul c0).mul c1).mul c0).mul c2).mul c0).mul c3).mono (by omega)) nz;have ev:vf 3 [[x0,y0,z0,w0],[x1,y1,z1,w1],[x2,y2,z2,w2],[x3,y3,z3,w3]]=fr (w0*w0*D3 x0 y0 z0 w0 x1 y1 z1 w1 x2 y2 z2 w2 x3 y3 z3 w3) (6*w0*w1*w0*w2*w0*w3):=by
   unfold vf;refine xN (ck (aj (oU 3) (jZ hg))) nz ?_;show D3 x0 y0 z0 w0 x1 y1 z1 w1 x2 y2 z2 w2 x3 y3 z3 w3*_=w0*w0*D3 x0 y0 z0 w0 x1 y1 z1 w1 x2 y2 z2 w2 x3 y3 z3 w3*(6*(w0*(w1*(w2*(w3*1)))));generalize D3 x0 y0 z0 w0 x1 y1 z1 w1 x2 y2 z2 w2 x3 y3 z3 w3=d;grind
  rw[ev];generalize D3 x0 y0 z0 w0 x1 y1 z1 w1 x2 y2 z2 w2 x3 y3 z3 w3=d at e f⊢;unfold rX aL xE;simp only[ao,aw,px,tv];dsimp! [aY,aX,cV,cU,cJ,fB,bT,pA,dY,eZ,gN,m1,m2,m3,m4,m5,m6,e,f]
theorem aeJ{n k:Nat}(hn:n=2\/n=3){uss:AZ}(h:Sx n k uss):∃p q,vf n uss=[p,q]/\0<q/\Bd (4*k+6) p/\Bd (4*k+6) q:=by
 have nz:=ck (aj (oU n) (jZ h.gu));obtain⟨p,q,e,hq,_⟩:=vM (t:=dU uss) nz;obtain⟨b1,b2⟩:=ad5 hn h.len h.gu;obtain⟨b3,b4⟩:=zB b1 b2 e;exact⟨p,q,e,hq,b3,b4⟩
abbrev fv(u:Int×Int):PV:=.tup [.int u.1,.int u.2]
theorem Xk{n:Nat}(S:aJ):∀(L:BF)(x:BH),(∀v∈L,Gp n 2000 v)->bZ [] (gN 0) (aH uE [] (aB (aA 0) (aB (aA 1) aD))) L [x,some (.pv (.int n))] S=.ok (L.map λ_=>.bl true) S
 |[],x,_=>dS
 |v::L,x,h=>by
  have ih:=Xk (n:=n) S L (some (.pv v)) λu hu=>h u (bd _ hu);obtain⟨xs,w,rfl,P⟩:=h v bo;have e:=V7 S (by decide) P;rw[dX];generalize (n:Int)=N,(xs++[w]).map PV.int=XL at *;dsimp! [gN,e,ih]
theorem Pm:∀L:BF,jE [.lst (L.map λ_=>.bl true)]=some (.bl true):=λL=>by
 have e:iQ (L.map λ_=>PV.bl true)=some (L.map λ_=>true):=by
  induction L with
  |nil=>rfl
  |cons v L ih=>
   show(match iQ _ with |some _=>some _ |none=>none)=_
   rw[ih];rfl
 simp only[jE,e];simp
theorem aad{n:Nat}(hn:n=2\/n=3){uss:AZ}(S:aJ)(hl:uss.length=n+1)(hg:∀us∈uss,Gu n 2000 us)(h0:jF (uss.map tv)≠0)(hc:bX uss=uss):uD [.pv (.tup (uss.map tv)),.pv (.int n)] S=.ok (.pv (.bl true)) S:=by
 have gp:=Gi hg;have hl2:(uss.map tv).length=n+1:=by rw[ak];exact hl
 have ec:=Xk S (uss.map tv) none gp;have ea:=Pm (uss.map tv);obtain⟨d,e2,hd⟩:=Wq (A:=.tup (uss.map tv)) hn S hl2 gp (.inr rfl);have hd0:d≠0:=λz=>h0 (by rw[<-hd,z];rfl);have hdb:(d==0)=false:=by simpa using hd0
 have e3:=Yj (A:=.tup (uss.map tv)) hn S hl hg (.inr rfl);rw[hc]at e3;have q:aZ 8 (.tup (uss.map tv)) (.tup (uss.map tv))=some true:=Xc λv hv=>Zu (m:=6) (gp v hv);have a3:bF (.int (n:Int)) (.int 1)=some (.int ((uss.map tv).length:Nat)):=by rw[bF,hl2];rfl
 generalize uss.map tv=L at *;generalize L.map (λ_=>PV.bl true)=BL at *;unfold uD aL Wa;generalize (n:Int)=N at *;simp! [-bF,fV,a3,bC,aX,bT,cQ,ec,ea,e2,hdb,e3,q]
theorem Am{n k:Nat}(hn:n=2\/n=3)(S:aJ){hs:BA}(h:∀uss∈hs,Sx n k uss)(hk:k<=2000):pP [.pv (.tup (hs.map px)),.pv (.int n)] S=.ok (.pv (.bl true)) S:=by
 have e:bZ [] (gN 0) (aH uD [] (aB (aA 0) (aB (aA 1) aD))) (hs.map px) [none,some (.pv (.int n))] S=.ok (hs.map λ_=>.bl true) S:=by
  refine rR (nB S) px (λ_=>.bl true) hs none λuss hu=>?_;have s:=h uss hu;have e1:=aad hn S s.len (λus hu=>(s.gu us hu).mono hk) (by rw[vC hn hk s.len s.gu];exact λz=>s.nz (Wr.mp z)) s.cn;dsimp! [e1]
 have ea:jE [.lst (hs.map λ_=>PV.bl true)]=some (.bl true):=by
  have:=Pm (hs.map px);rw[dr]at this;exact this
 unfold pP aL Eb;dsimp! [fV,bC,cQ,aX,bT,e,ea]
theorem adV{n k m:Nat}{uss:AZ}(h:∀us∈uss,Gu n k us):aZ (m+2) (px uss) (px uss)=some true:=
 Xc λv hv=>by
  obtain⟨us,hu,rfl⟩:=fg.mp hv;exact Zu (h us hu).gp
theorem W9{n k m:Nat}{hs:BA}(h:∀uss∈hs,Sx n k uss):aZ (m+3) (.tup (hs.map px)) (.tup (hs.map px))=some true/\aZ (m+3) (.lst (hs.map px)) (.lst (hs.map px))=some true:=by
 have a:∀v∈hs.map px,aZ (m+2) v v=some true:=λv hv=>by
  obtain⟨uss,hu,rfl⟩:=fg.mp hv;exact adV (h uss hu).gu
 exact⟨Xc a,abh a⟩
abbrev li(xs:AY):BF:=xs.map .int
abbrev lv(xs:AY):PV:=.lst (li xs)
abbrev dD(xss:AZ):PV:=.lst (xss.map lv)
structure Rw(n:Nat)(xss:AZ):Prop where
 len:xss.length=n+1
 l:∀xs∈xss,xs.length=n
 b:∀xs∈xss,∀x∈xs,-8<x/\x<8
 nz:dU (xss.map (·++[1]))≠0
theorem Wm{α β:Type}(f:α->β):∀(R:List α)(j:Nat),(R.map f).eraseIdx j=(R.eraseIdx j).map f
 |[],j=>rfl
 |a::R,0=>rfl
 |a::R,j+1=>by simp[Wm f R j]
theorem ix3:∀v<3,fX 3 ((v:Nat):Int)=some v:=by decide
abbrev wE:MS:=(aE (qG (aA 2) (pB (aA 1) (aB (aH cY [] (aB (aA 0) (aB (mR cS (aB (aA 1) aD)) aD))) aD)) (mC (.int 1)))
 (cK (vK (aA 3) (aB (aA 2) aD))))
abbrev Ka:MS:=(bI (aR (aC cB (aH cY [] (aB (aA 0) (aB (mC (.int 4)) aD))) (mC (.int 3)))) (qN 3 2 5) cF)
theorem Rh(ns:AY)(hl:BF)(R C:AY)(L:AZ)(x4 x5:BH)(hR0:0<R.length)(hR3:R.length<=3)(hv:∀v∈R,0<=v/\v<3)(hC:C.length=3)(hL:L.length<=9):
  ∃(j v:Nat)(ns':AY),j<R.length/\R[j]?=some (v:Int)/\wE [some (.ref 0),some (.ref 2),some (.ref 3),some (.ref 4),x4,x5] [.lst (li ns),.lst hl,.lst (li R),.lst (li C),.lol (L.map li)]
   = .nx [some (.ref 0),some (.ref 2),some (.ref 3),some (.ref 4),x4,x5] [.lst (li ns'),.lst hl,.lst (li (R.eraseIdx j)),.lst (li (C.set v 1)),.lol ((L++[C.set v 1]).map li)]:=by
 have hr:eP [.lst (li ns),.lst hl,.lst (li R),.lst (li C),.lol (L.map li)] 0 ns:=rfl;obtain⟨t,n1,e1,t0,t1,_⟩:=iO (m:=(R.length:Int)) hr (by omega) (jR (by omega) (by omega));simp only[dy]at e1;obtain⟨j,rfl⟩:∃j:Nat,t=(j:Int):=⟨t.toNat,by omega⟩;have hj:j<R.length:=by omega
 obtain⟨v,ev⟩:∃v:Nat,R[j]=(v:Int):=⟨R[j].toNat,by have:=hv _ (gi hj);omega⟩;have hv3:v<3:=by have:=hv _ (gi hj);omega
 have hq:R[j]?=some (v:Int):=by rw[ay hj,ev]
 have ep:=adc (S:=[.lst (li n1),.lst hl,.lst (li R),.lst (li C),.lol (L.map li)]) (k:=2) (j:=j) (xs:=li R) (v:=.int v) rfl (by rw[az,hq];rfl) (by omega);simp only[gr,dy]at ep;have er:(li R).eraseIdx j=li (R.eraseIdx j):=Wm _ _ _;rw[er]at ep;have ei:fX (li C).length (v:Int)=some v:=by
  rw[ak,hC];exact ix3 v hv3
 have ec:(li C).set v (.int 1)=li (C.set v 1):=by simp[li,kj]
 refine⟨j,v,n1,hj,hq,?_⟩;have e1':cY [.ref 0,.pv (.int ((li R).length:Int))] [.lst (li ns),.lst hl,.lst (li R),.lst (li C),.lol (L.map li)]=.ok (.pv (.int (j:Int))) [.lst (li n1),.lst hl,.lst (li R),.lst (li C),.lol (L.map li)]:=by
  rw[ak];exact e1
 have el:(L++[C.set v 1]).map li=L.map li++[li (C.set v 1)]:=by simp
 rw[el];have lz:(L.map li).length<16777216:=by rw[ak];omega
 generalize li n1=NL1,li ns=NL,(j:Int)=J,li R=RL,li (R.eraseIdx j)=RE,li C=CL,li (C.set v 1)=CS,L.map li=LL at *;unfold wE;simp! [qG,vH,pB,vK,vQ,fG,e1',ep,ei,ec,lz]
def k6:BA:=[[[0,0,0],[1,0,0],[1,1,0],[1,1,1]],[[0,0,0],[1,0,0],[1,0,1],[1,1,1]],[[0,0,0],[0,1,0],[1,1,0],[1,1,1]],[[0,0,0],[0,1,0],[0,1,1],[1,1,1]],[[0,0,0],[0,0,1],[1,0,1],[1,1,1]],[[0,0,0],[0,0,1],[0,1,1],[1,1,1]]]
theorem af6  {j v:Nat}{a b c:Int}(h:R=[a,b,c])(hj:j<R.length)(e:R[j]?=some (v:Int)):(j=0/\(v:Int)=a)\/(j=1/\(v:Int)=b)\/(j=2/\(v:Int)=c):=by
 subst h
 match j,hj,e with
 |0,_,e=>simp at e;exact .inl ⟨rfl,e.symm⟩
 |1,_,e=>simp at e;exact .inr (.inl ⟨rfl,e.symm⟩)
 |2,_,e=>simp at e;exact .inr (.inr ⟨rfl,e.symm⟩)
theorem agc  {j v:Nat}{a b:Int}(h:R=[a,b])(hj:j<R.length)(e:R[j]?=some (v:Int)):(j=0/\(v:Int)=a)\/(j=1/\(v:Int)=b):=by
 subst h
 match j,hj,e with
 |0,_,e=>simp at e;exact .inl ⟨rfl,e.symm⟩
 |1,_,e=>simp at e;exact .inr ⟨rfl,e.symm⟩
theorem af3  {j v:Nat}{a:Int}(h:R=[a])(hj:j<R.length)(e:R[j]?=some (v:Int)):j=0/\(v:Int)=a:=by
 simp_all
theorem k3(ns:AY)(hl:BF)(R C:AY)(A:AZ)(a b c:Nat)(x4 x5:BH)(hR:R=[(c:Int)])(hc:c<3)(hC:C.length=3)(hA:A.length<=9)(ks:BA)(hk:A++[C.set c 1]∈ks):
  ∃(xss:AZ)(ns':AY)(C':AY),xss∈ks/\dL [] (gN 4) wE [.int 2] [some (.ref 0),some (.ref 2),some (.ref 3),some (.ref 4),x4,x5] [.lst (li ns),.lst hl,.lst (li R),.lst (li C),.lol (A.map li)]
   = .nx [some (.ref 0),some (.ref 2),some (.ref 3),some (.ref 4),some (.pv (.int 2)),x5] [.lst (li ns'),.lst hl,.lst [],.lst (li C'),.lol (xss.map li)]:=by
 obtain⟨j,v,n1,hj,e,h⟩:=Rh ns hl R C A (some (.pv (.int 2))) x5 (by simp_all) (by simp_all) (by rw[hR];simp;omega) hC hA;obtain⟨rfl,ev⟩:=af3 hR hj e;have:v=c:=by omega
 subst this;subst hR;refine⟨_,n1,C.set v 1,hk,?_⟩;rw[dY];simp only[gN,gr,dy];rw[h];exact eZ
theorem k2(ns:AY)(hl:BF)(R C:AY)(A:AZ)(b c:Nat)(x4 x5:BH)(hR:R=[(b:Int),(c:Int)])(hb:b<3)(hc:c<3)(hC:C.length=3)(hA:A.length<=8)(ks:BA)(h1:A++[C.set b 1]++[(C.set b 1).set c 1]∈ks)(h2:A++[C.set c 1]++[(C.set c 1).set b 1]∈ks):
  ∃(xss:AZ)(ns':AY)(C':AY),xss∈ks/\dL [] (gN 4) wE [.int 1,.int 2] [some (.ref 0),some (.ref 2),some (.ref 3),some (.ref 4),x4,x5] [.lst (li ns),.lst hl,.lst (li R),.lst (li C),.lol (A.map li)]
   = .nx [some (.ref 0),some (.ref 2),some (.ref 3),some (.ref 4),some (.pv (.int 2)),x5] [.lst (li ns'),.lst hl,.lst [],.lst (li C'),.lol (xss.map li)]:=by
 obtain⟨j,v,n1,hj,e,h⟩:=Rh ns hl R C A _ x5 (by rw[hR];simp) (by rw[hR];simp) (by rw[hR];simp;omega) hC (by omega);rw[dY];simp only[gN,gr,dy];rw[h];rcases agc hR hj e with⟨rfl,ev⟩|⟨rfl,ev⟩
 .have:v=b:=by omega
  subst this;subst hR;exact k3 n1 hl _ (C.set v 1) _ 0 0 c _ x5 rfl hc (by rw[ff];exact hC) (by simp;omega) ks h1
 .have:v=c:=by omega
  subst this;subst hR;exact k3 n1 hl _ (C.set v 1) _ 0 0 b _ x5 rfl hb (by rw[ff];exact hC) (by simp;omega) ks h2
theorem k1(ns:AY)(hl:BF)(x4 x5:BH):
  ∃(xss:AZ)(ns':AY)(C':AY),xss∈k6/\dL [] (gN 4) wE [.int 0,.int 1,.int 2] [some (.ref 0),some (.ref 2),some (.ref 3),some (.ref 4),x4,x5] [.lst (li ns),.lst hl,.lst (li [0,1,2]),.lst (li [0,0,0]),.lol ([[0,0,0]].map li)]
   = .nx [some (.ref 0),some (.ref 2),some (.ref 3),some (.ref 4),some (.pv (.int 2)),x5] [.lst (li ns'),.lst hl,.lst [],.lst (li C'),.lol (xss.map li)]:=by
 obtain⟨j,v,n1,hj,e,h⟩:=Rh ns hl [0,1,2] [0,0,0] [[0,0,0]] (some (.pv (.int 0))) x5 (by decide) (by decide) (by decide) rfl (by decide);rw[dY];simp only[gN,gr,dy];rw[h];rcases af6 rfl hj e with⟨rfl,ev⟩|⟨rfl,ev⟩|⟨rfl,ev⟩
 .have:v=0:=by omega
  subst this;exact k2 n1 hl _ [1,0,0] _ 1 2 _ x5 rfl (by decide) (by decide) rfl (by decide) k6 (by decide) (by decide)
 .have:v=1:=by omega
  subst this;exact k2 n1 hl _ [0,1,0] _ 0 2 _ x5 rfl (by decide) (by decide) rfl (by decide) k6 (by decide) (by decide)
 .have:v=2:=by omega
  subst this;exact k2 n1 hl _ [0,0,1] _ 0 1 _ x5 rfl (by decide) (by decide) rfl (by decide) k6 (by decide) (by decide)
def tU(m:Nat)(xs:AY):AY:=xs.set m (1-xs.getD m 0)
theorem X6{m:Nat}{xs:AY}(h:xs.length=3)(hm:m<3):zJ (m:Int) (li xs)=some (li (tU m xs)):=by
 match xs,h,m,hm with
 |[a,b,c],_,0,_=>rfl
 |[a,b,c],_,1,_=>rfl
 |[a,b,c],_,2,_=>rfl
theorem Cq{m:Nat}(hm:m<3):∀{L:AZ},(∀xs∈L,xs.length=3)->tE (m:Int) (L.map li)=some ((L.map (tU m)).map li)
 |[],_=>rfl
 |xs::L,h=>by
  have e1:=X6 (h _ bo) hm;have e2:=Cq hm λys hy=>h _ (bd _ hy);simp only[ao];unfold tE;rw[e1,e2]
theorem afs  {L:List BF}:Sa 4 [.lst a,.lst b,.lst c,.lst d,.lol L]:=λj o e n=>by
 match j,e with
 |0,e=>cases e;exact⟨_,rfl⟩
 |1,e=>cases e;exact⟨_,rfl⟩
 |2,e=>cases e;exact⟨_,rfl⟩
 |3,e=>cases e;exact⟨_,rfl⟩
 |4,e=>simp_all
 |j+5,e=>simp at e
def lK(b:Bool)(m:Nat)(L:AZ):AZ:=if b then L.map (tU m)else L
theorem Kh(m:Nat)(hm:m<3)(ns:AY)(a b c:BF)(L:AZ)(hL:∀xs∈L,xs.length=3)(x2 x4:BH):
  ∃(f:Bool)(ns':AY)(y2:BH),Ka [some (.ref 0),some (.ref 2),x2,some (.ref 4),x4,some (.pv (.int (m:Int)))] [.lst (li ns),.lst a,.lst b,.lst c,.lol (L.map li)]
   = .nx [some (.ref 0),some (.ref 2),y2,some (.ref 4),x4,some (.pv (.int (m:Int)))] [.lst (li ns'),.lst a,.lst b,.lst c,.lol ((lK f m L).map li)]:=by
 have hr:eP [.lst (li ns),.lst a,.lst b,.lst c,.lol (L.map li)] 0 ns:=rfl;obtain⟨t,n1,e1,t0,t1,_⟩:=iO (m:=4) hr (by decide) (jR (by decide) (by decide));have e1:=e1;have ef:=Cq hm hL
 by_cases h:t=3
 .refine⟨true,n1,none,?_⟩
  have hf:qN 3 2 5 [some (.ref 0),some (.ref 2),x2,some (.ref 4),x4,some (.pv (.int (m:Int)))] [.lst (li n1),.lst a,.lst b,.lst c,.lol (L.map li)]=.nx [some (.ref 0),some (.ref 2),none,some (.ref 4),x4,some (.pv (.int (m:Int)))] [.lst (li n1),.lst a,.lst b,.lst c,.lol ((L.map (tU m)).map li)]:=by
   unfold qN;dsimp only[ud,kz];rw[if_pos ⟨afs,by simp⟩,ef];rfl
  unfold Ka;have:lK true m L=L.map (tU m):=rfl;rw[this];dsimp! [e1,h,hf]
 .refine⟨false,n1,x2,?_⟩
  unfold Ka;have:lK false m L=L:=rfl;rw[this];dsimp! [e1,h]
theorem Je   {L:AZ}(h:∀xs∈L,xs.length=3):∀xs∈lK b m L,xs.length=3:=by
 unfold lK;split
 .intro xs hx
  obtain⟨ys,hy,rfl⟩:=fg.mp hx;unfold tU;rw[ff];exact h _ hy
 .exact h
def Mi(xss:AZ):Bool:=decide (xss.length=4)&&xss.all (λxs=>decide (xs.length=3)&&xs.all λx=>decide (-8<x)&&decide (x<8))&&decide (dU (xss.map (·++[1]))≠0)
theorem adr  (h:Mi xss=true):Rw 3 xss:=by
 unfold Mi at h;simp only[ja,decide_eq_true_eq,ji]at h;exact⟨h.1.1,λxs hx=>(h.1.2 _ hx).1,λxs hx x hh=>(h.1.2 _ hx).2 x hh,h.2⟩
theorem k48:∀xss∈k6,∀a b c:Bool,Mi (lK c 2 (lK b 1 (lK a 0 xss)))=true:=by decide+kernel
theorem acW:∀xss∈k6,∀xs∈xss,xs.length=3:=by decide
theorem Uz:Pl [.lst a,.lst b]:=λj o e=>by
 match j,e with
 |0,e=>cases e;exact⟨_,rfl⟩
 |1,e=>cases e;exact⟨_,rfl⟩
 |j+2,e=>simp at e
theorem abk(ns:AY)(hl:BF):∃(xss:AZ)(ns':AY),sP [.ref 0] [.lst (li ns),.lst hl]=.ok (.pv (dD xss)) [.lst (li ns'),.lst hl]/\Rw 3 xss:=by
 obtain⟨L,n1,C,hm,e1⟩:=k1 ns hl none none;have l0:=acW L hm;obtain⟨fa,n2,y2,e2⟩:=Kh 0 (by decide) n1 hl [] (li C) L l0 (some (.ref 3)) (some (.pv (.int 2)));obtain⟨fb,n3,y3,e3⟩:=Kh 1 (by decide) n2 hl [] (li C) _ (Je l0) y2 (some (.pv (.int 2)));obtain⟨fc,n4,y4,e4⟩:=Kh 2 (by decide) n3 hl [] (li C) _ (Je (Je l0)) y3 (some (.pv (.int 2)));have c0:((0:Nat):Int)=0:=rfl;have c1:((1:Nat):Int)=1:=rfl;have c2:((2:Nat):Int)=2:=rfl;rw[c0]at e2;rw[c1]at e3;rw[c2]at e4;have hw:=k48 L hm fa fb fc;generalize lK fc 2 (lK fb 1 (lK fa 0 L))=X at hw e4;refine⟨X,n4,?_,adr hw⟩;have ex:(X.map li).map PV.lst=X.map lv:=by rw[dr];rfl
 have e5:dL [] (gN 5) Ka [.int 0,.int 1,.int 2] [some (.ref 0),some (.ref 2),some (.ref 3),some (.ref 4),some (.pv (.int 2)),none] [.lst (li n1),.lst hl,.lst [],.lst (li C),.lol (L.map li)]
   = .nx [some (.ref 0),some (.ref 2),y4,some (.ref 4),some (.pv (.int 2)),some (.pv (.int 2))] [.lst (li n4),.lst hl,.lst [],.lst (li C),.lol (X.map li)]:=by
  rw[dY];simp only[gN,gr,dy];rw[e2];dsimp only;rw[dY];simp only[gN,gr,dy];rw[e3];dsimp only;rw[dY];simp only[gN,gr,dy];rw[e4];exact eZ
 unfold sP rD;rw[if_pos ⟨rfl,Uz⟩];have eb:xV (gJ 6 [.ref 0]) [.lst (li ns),.lst hl]=.rt (.ref 4) [.lst (li n4),.lst hl,.lst [],.lst (li C),.lol (X.map li)]:=by
  simp only[li,ao,aw]at e1;have hb:xV=(aE _
   (aE _
   (aE (aM 3 (vT (aB (aA 2) aD)))
   (aE _
   (aE _
   (aU (aA 3))))))):=rfl
  rw[hb];dsimp! [eL,jN,vT,Ah,aY,cC,hrg,e1,e5]
 rw[eb];unfold yK;simp[Uz,ex]
theorem R5(L:BF)(p:PV)(h:L≠[]):∃v∈L,aK (.lst L) (.int (-1))=some v:=by
 have hl:=yl.mpr h;refine⟨L[L.length-1]'(by omega),gi _,?_⟩;show fY L _=_;unfold fY;have e:fX L.length (-1)=some (L.length-1):=by
  unfold fX;grind
 simp_all
theorem vW  (h:-1000<x)(g:x<1000):Bd 10 x:=by
 unfold Bd;omega
theorem tW(S:aJ){n:Nat}(h:n<=9):gW [.pv (.int (n:Int))] S=.ok (dW 0 n,[]) S:=by
 have e:gW [.pv (.int n)] S=@ite _ _ (td _) _ _:=rfl;rw[e,if_pos (by grind),rm]
theorem aaL    (h:eP S k ns):S.set k (.lst (ns.map .int))=S:=jn λj=>by
 by_cases q:k=j
 .subst q
  rw[df h.lt];exact h.symm
 .rw[dk q]
theorem Wn  {W:Int}(W0:0<=W)(W1:W<=2):∀(is:BF)(S:aJ)(ns:AY)(x:BH),eP S k ns->∃(xs ns':AY),bZ [] (gN 0) (aH cY [] (aB (aA 1) (aB (aC bF (aA 2) (mC (.int 1))) aD))) is [x,some (.ref k),some (.pv (.int W))] S=.ok (li xs) (S.set k (.lst (li ns')))/\xs.length=is.length/\∀n∈xs,0<=n/\n<=2
 |[],S,ns,x,h=>by
  refine⟨[],ns,?_,rfl,λ_ h=>absurd h db⟩;rw[show S.set k (.lst (li ns))=S from aaL h];exact dS
 |i::is,S,ns,x,h=>by
  obtain⟨t,n1,e1,t0,t1,_⟩:=iO (m:=W+1) h (by omega) (jR (by omega) (by omega));obtain⟨xs,n2,e2,l2,b2⟩:=Wn W0 W1 is _ n1 (some (.pv i)) (h.set n1);refine⟨t::xs,n2,?_,by simp[l2],λn hn=>?_⟩
  .rw[dX]
   dsimp! [gN,e1,e2]
  .grind
abbrev rB:MS:=(cK (cR (aA 3) (aB (bC ["_law_m"] [(0,"_law_row_here"),(2,"_law_wide")] (cC (aB (aA 1) aD)) (gN 0) (aH cY [] (aB (aA 1) (aB (aC bF (aA 2) (mC (.int 1))) aD)))) aD)))
theorem Uo{n:Nat}(hn:n<=9){W:Int}(W0:0<=W)(W1:W<=2)(hl:BF):∀(is:BF)(L:AZ)(ns:AY)(x4:BH),L.length+is.length<=99->∃(L':AZ)(ns':AY)(y4:BH),
  dL [] (gN 4) rB is [some (.ref 0),some (.pv (.int (n:Int))),some (.pv (.int W)),some (.ref 2),x4] [.lst (li ns),.lst hl,.lst (L.map lv)]=.nx [some (.ref 0),some (.pv (.int (n:Int))),some (.pv (.int W)),some (.ref 2),y4] [.lst (li ns'),.lst hl,.lst ((L++L').map lv)]
   /\L'.length=is.length/\∀xs∈L',xs.length=n/\∀x∈xs,0<=x/\x<=2
 |[],L,ns,x4,h9=>⟨[],ns,x4,by rw[fk];exact eZ,rfl,λ_ h=>absurd h db⟩
 |i::is,L,ns,x4,h9=>by
  have hr:eP [.lst (li ns),.lst hl,.lst (L.map lv)] 0 ns:=rfl;obtain⟨xs,n1,e1,l1,b1⟩:=Wn W0 W1 (dW 0 n) _ ns none hr;obtain⟨L',n2,y4,e2,l2,b2⟩:=Uo hn W0 W1 hl is (L++[xs]) n1 (some (.pv i)) (by grind);refine⟨xs::L',n2,y4,?_,by simp[l2],λys hy=>?_⟩
  .rw[dY]
   have es:rB [some (.ref 0),some (.pv (.int (n:Int))),some (.pv (.int W)),some (.ref 2),some (.pv i)] [.lst (li ns),.lst hl,.lst (L.map lv)]=.nx [some (.ref 0),some (.pv (.int (n:Int))),some (.pv (.int W)),some (.ref 2),some (.pv i)] [.lst (li n1),.lst hl,.lst ((L++[xs]).map lv)]:=by
    have el:(L++[xs]).map lv=L.map lv++[lv xs]:=by simp
    rw[el];have lz:(L.map lv).length<16777216:=by rw[ak];omega
    have rg:=tW [.lst (li ns),.lst hl,.lst (L.map lv)] hn;unfold rB;generalize (n:Int)=N,dW 0 n=IP,li ns=NL,L.map lv=LL at *;dsimp! [cR,fG,iE,bC,cQ,cC,rg,e1,lz]
   simp only[gN,gr,dy];rw[es];dsimp only;rw[e2,ee];rfl
  .rcases bj.mp hy with rfl |hy
   .exact⟨by rw[l1];unfold dW;simp,b1⟩
   .exact b2 ys hy
theorem adq{S:aJ}{ti:Nat}{a b c d e f:Int}(h:S[ti]?=some (.lst [lv [a,b],lv [c,d],lv [e,f]]))(ha:0<=a/\a<=2)(hb:0<=b/\b<=2)(hc:0<=c/\c<=2)(hd:0<=d/\d<=2)(he:0<=e/\e<=2)(hf:0<=f/\f<=2):pR [.ref ti] S=.ok (.pv (.int (D2 a b 1 c d 1 e f 1))) S:=by
 have id:(c-a)*(f-b)-(d-b)*(e-a)=D2 a b 1 c d 1 e f 1:=by
  unfold D2;grind
 have b1:Bd 10 (c-a):=vW (by omega) (by omega);have b2:Bd 10 (d-b):=vW (by omega) (by omega);have b3:Bd 10 (e-a):=vW (by omega) (by omega);have b4:Bd 10 (f-b):=vW (by omega) (by omega);have m1:=gC b1 b4;have m2:=gC b2 b3;generalize D2 a b 1 c d 1 e f 1=D at *;have s1:=sY (lv [a,b]) [lv [c,d],lv [e,f]];have et:kT [.pv (.lst [.lst [.int (c-a),.int (d-b)],.lst [.int (e-a),.int (f-b)]])] S=.ok (.pv (.int D)) S:=by
  unfold kT aL sO;dsimp! [m1,m2,id]
 unfold pR aL wI;dsimp! [bC,aX,bT,cV,cJ,cU,fB,h,s1,cQ,dX,dS,gN,gT,cD,eA,gK,kK,gA,et]
theorem acV{S:aJ}{ti:Nat}{x0 y0 z0 x1 y1 z1 x2 y2 z2 x3 y3 z3:Int}(h:S[ti]?=some (.lst [lv [x0,y0,z0],lv [x1,y1,z1],lv [x2,y2,z2],lv [x3,y3,z3]]))(hb:∀x∈[x0,y0,z0,x1,y1,z1,x2,y2,z2,x3,y3,z3],0<=x/\x<=2):pR [.ref ti] S=.ok (.pv (.int (D3 x0 y0 z0 1 x1 y1 z1 1 x2 y2 z2 1 x3 y3 z3 1))) S:=by
 have id:dt [(y1-y0)*(z2-z0)-(z1-z0)*(y2-y0),(z1-z0)*(x2-x0)-(x1-x0)*(z2-z0),(x1-x0)*(y2-y0)-(y1-y0)*(x2-x0)] [x3-x0,y3-y0,z3-z0]=D3 x0 y0 z0 1 x1 y1 z1 1 x2 y2 z2 1 x3 y3 z3 1:=by
  simp only[dt,D3,km,ny,oa,og];grind
 simp only[bj,db,or_false,forall_eq_or_imp,forall_eq]at hb;have q:∀{a b:Int},(0<=a/\a<=2)->(0<=b/\b<=2)->Bd 10 (a-b):=λh g=>vW (by omega) (by omega);obtain⟨hx0,hy0,hz0,hx1,hy1,hz1,hx2,hy2,hz2,hx3,hy3,hz3⟩:=hb;have b1:=q hx1 hx0;have b2:=q hy1 hy0;have b3:=q hz1 hz0;have b4:=q hx2 hx0;have b5:=q hy2 hy0;have b6:=q hz2 hz0;have b7:=q hx3 hx0;have b8:=q hy3 hy0;have b9:=q hz3 hz0;clear hx0 hy0 hz0 hx1 hy1 hz1 hx2 hy2 hz2 hx3 hy3 hz3 q;generalize D3 x0 y0 z0 1 x1 y1 z1 1 x2 y2 z2 1 x3 y3 z3 1=D at *;have s1:=sY (lv [x0,y0,z0]) [lv [x1,y1,z1],lv [x2,y2,z2],lv [x3,y3,z3]];have et:kT [.pv (.lst [.lst [.int (x1-x0),.int (y1-y0),.int (z1-z0)],.lst [.int (x2-x0),.int (y2-y0),.int (z2-z0)],.lst [.int (x3-x0),.int (y3-y0),.int (z3-z0)]])] S=.ok (.pv (.int D)) S:=by
  generalize z3-z0=T2,y3-y0=T1,x3-x0=T0,z2-z0=V2,y2-y0=V1,x2-x0=V0,z1-z0=U2,y1-y0=U1,x1-x0=U0 at *;have u:∀{a:Int},Bd 10 a->Bd 20000 a:=λh=>h.mono (by decide);have u2:∀{a:Int},Bd 10 a->Bd 100000 a:=λh=>h.mono (by decide);have cc:∀{a b c d:Int},Bd 10 a->Bd 10 b->Bd 10 c->Bd 10 d->Bd 100000 (a*b-c*d):=λh1 h2 h3 h4=>(((h1.mul h2).mono (show 10+10<=20 by decide)).sub ((h3.mul h4).mono (show 10+10<=20 by decide))).mono (by decide);have en:=uM (A:=.lst [.int U0,.int U1,.int U2]) (B:=.lst [.int V0,.int V1,.int V2]) S (.inl rfl) (.inl rfl) (u b1) (u b2) (u b3) (u b4) (u b5) (u b6);have ed:=uP (A:=.lst [.int (U1*V2-U2*V1),.int (U2*V0-U0*V2),.int (U0*V1-U1*V0)]) (B:=.lst [.int T0,.int T1,.int T2]) (us:=[U1*V2-U2*V1,U2*V0-U0*V2,U0*V1-U1*V0]) (vs:=[T0,T1,T2]) S (.inl rfl) (.inl rfl) (by simp;exact⟨cc b2 b6 b3 b5,cc b3 b4 b1 b6,cc b1 b5 b2 b4⟩) (by simp;exact⟨u2 b7,u2 b8,u2 b9⟩);rw[id]at ed;generalize U0*V1-U1*V0=N2,U2*V0-U0*V2=N1,U1*V2-U2*V1=N0 at *;unfold kT aL sO;dsimp! [en,ed]
 unfold pR aL wI;simp only[lv,li,ao,aw]at h s1;dsimp! [bC,aX,bT,cV,cJ,cU,fB,h,s1,cQ,dX,dS,gN,gT,cD,eA,gK,kK,gA,et]
theorem afp{n:Nat}(hn:n=2\/n=3){S:aJ}{ti:Nat}{L:AZ}(h:S[ti]?=some (.lst (L.map lv)))(hl:L.length=n+1)(hb:∀xs∈L,xs.length=n/\∀x∈xs,0<=x/\x<=2):pR [.ref ti] S=.ok (.pv (.int (dU (L.map (·++[1]))))) S:=by
 rcases hn with rfl |rfl
 .obtain⟨A,B,C,rfl⟩:=len3 hl
  have ga:=hb A (by simp);have gb:=hb B (by simp);have gc:=hb C (by simp);clear hb
  match A,ga.1,B,gb.1,C,gc.1 with
  |[a,b],_,[c,d],_,[e,f],_=>exact adq h (ga.2 a (by simp)) (ga.2 b (by simp)) (gb.2 c (by simp)) (gb.2 d (by simp)) (gc.2 e (by simp)) (gc.2 f (by simp))
 .obtain⟨A,B,C,D,rfl⟩:=len4 hl
  have ga:=hb A (by simp);have gb:=hb B (by simp);have gc:=hb C (by simp);have gd:=hb D (by simp);clear hb
  match A,ga.1,B,gb.1,C,gc.1,D,gd.1 with
  |[x0,y0,z0],_,[x1,y1,z1],_,[x2,y2,z2],_,[x3,y3,z3],_=>
   refine acV h λx hx=>?_;rw[show[x0,y0,z0,x1,y1,z1,x2,y2,z2,x3,y3,z3]=[x0,y0,z0]++([x1,y1,z1]++([x2,y2,z2]++[x3,y3,z3])) from rfl]at hx;rcases br.mp hx with z |z
   .exact ga.2 x z
   .rcases br.mp z with z |z
    .exact gb.2 x z
    .rcases br.mp z with z |z
     .exact gc.2 x z
     .exact gd.2 x z
def wG(n:Nat):AZ:=if n=2 then[[0,0],[1,0],[0,1]] else[[0,0,0],[1,0,0],[0,1,0],[0,0,1]]
theorem adD  (hn:n=2\/n=3):Rw n (wG n):=by
 rcases hn with rfl |rfl
 .exact⟨rfl,by decide,by decide,by decide⟩
 .exact⟨rfl,by decide,by decide,by decide⟩
theorem rgm(S:aJ){n:Nat}(h:n<=9):zL [.pv (.int (-1)),.pv (.int (n:Int))] S=.ok (dW (-1) (n+1),[]) S:=by
 have e:zL [.pv (.int (-1)),.pv (.int n)] S=@ite _ _ (td _) _ _:=rfl;grind
theorem Na   :fT (.ok a S)=.ok a S:=rfl
theorem Fa   :frz n (.ok (.pv v) S)=.ok (.pv v) S:=rfl
theorem ach{n:Nat}(hn:n=2\/n=3)(S:aJ)(x0 x2 x3 x4:BH):bC ["_law_k"] [(1,"_law_dims")] (sM (aB (bS cM (mC (.int 1))) (aB (aA 1) aD))) (gN 0) (bC ["_law_m"] [(0,"_law_k")] (cC (aB (aA 1) aD)) (gN 0) (mR kP (aB (aC cB (aA 0) (aA 1)) aD))) [x0,some (.pv (.int (n:Int))),x2,x3,x4] S=.ok (.pv (dD (wG n))) S:=by
 have r1:=λS=>tW S (n:=n) (by omega);have r2:=λS=>rgm S (n:=n) (by omega);rcases hn with rfl |rfl
 .have c2:((2:Nat):Int)=2:=rfl
  rw[c2]at r1 r2⊢;have i1:dW 0 2=[.int 0,.int 1]:=rfl;have i2:dW (-1) (2+1)=[.int (-1),.int 0,.int 1]:=rfl;rw[i1]at r1;rw[i2]at r2;dsimp! [bC,cQ,cC,sM,r1,r2,dX,dS,gN,kP,wG]
 .have c2:((3:Nat):Int)=3:=rfl
  rw[c2]at r1 r2⊢;have i1:dW 0 3=[.int 0,.int 1,.int 2]:=rfl;have i2:dW (-1) (3+1)=[.int (-1),.int 0,.int 1,.int 2]:=rfl;rw[i1]at r1;rw[i2]at r2;dsimp! [bC,cQ,cC,sM,r1,r2,dX,dS,gN,kP,wG]
theorem Pu{n:Nat}(hn:n=2\/n=3){W:Int}(W0:0<=W)(W1:W<=2)(ns:AY)(hl:BF):∃(xss:AZ)(ns':AY),frz 2 (fT (lP [.ref 0,.pv (.int (n:Int)),.pv (.int W)] [.lst (li ns),.lst hl]))=.ok (.pv (dD xss)) [.lst (li ns'),.lst hl]/\Rw n xss:=by
 obtain⟨L,n1,y4,e1,l1,b1⟩:=Uo (n:=n) (by omega) W0 W1 hl (dW 0 (n+1)) [] ns none (by unfold dW;simp;omega);have hi:(dW 0 (n+1)).length=n+1:=by unfold dW;simp
 rw[hi]at l1;simp only[fx,aw]at e1;have et:=afp (ti:=2) (S:=[.lst (li n1),.lst hl,.lst (L.map lv)]) hn rfl l1 b1;have rg:=tW [.lst (li ns),.lst hl,.lst []] (n:=n+1) (by omega);have cn:((n+1:Nat):Int)=(n:Int)+1:=by omega
 rw[cn]at rg;have ed:=ach hn [.lst (li n1),.lst hl,.lst (L.map lv)] (some (.ref 0)) (some (.pv (.int W))) (some (.ref 2)) y4;have hb:Jf=(aE (aM 3 (eL aD))
  (aE (aY (cC (aB (aC bF (aA 1) (mC (.int 1))) aD)) (gN 4) rB)
  _)):=rfl
 generalize rB=RB at e1 hb
 by_cases hd:dU (L.map (·++[1]))=0
 .refine⟨wG n,n1,?_,adD hn⟩
  rw[hd]at et;unfold lP aL;rw[hb];dsimp! [eL,jN,aY,cC,rg,e1,et,ed]
 .refine⟨L,n1,?_,⟨l1,λxs hx=>(b1 xs hx).1,λxs hx x hh=>by have:=(b1 xs hx).2 x hh;omega,hd⟩⟩
  unfold lP aL;rw[hb];have hv:dD L=.lst (L.map lv):=rfl;rw[hv];dsimp! [eL,jN,aY,cC,rg,e1,et,hd]
abbrev hB:MS:=(aE (aM 5 (aH cY [] (aB (aA 0) (aB (mC (.int 6)) aD))))
 (bI (jP (aR (aC cB (aA 5) (mC (.int 5)))) (aR (aC dR (mR cS (aB (aA 3) aD)) (mC (.int 0))))) (cK (cR (aA 3) (aB (aC aK (aA 3) (bS cM (mC (.int 1)))) aD))) (bI (aR (aC cB (aA 1) (mC (.int 2)))) (cK (cR (aA 3) (aB (aH lP [] (aB (aA 0) (aB (mC (.int 2)) (aB (aC bF (mC (.int 1)) (mR kP (aB (aC cB (aA 5) (mC (.int 4))) aD))) aD)))) aD))) (bI (aR (aC dR (aA 5) (mC (.int 3)))) (cK (cR (aA 3) (aB (aH lP [] (aB (aA 0) (aB (mC (.int 3)) (aB (mC (.int 1)) aD)))) aD))) (cK (cR (aA 3) (aB (aH sP [] (aB (aA 0) aD)) aD)))))))
theorem ae3{n:Nat}(hn:n=2\/n=3)(ns:AY)(hs:BA)(hw:∀xss∈hs,Rw n xss)(hl:hs.length<=99)(x2 x4 x5:BH):∃(xss:AZ)(ns':AY)(y5:BH),hB [some (.ref 0),some (.pv (.int (n:Int))),x2,some (.ref 1),x4,x5] [.lst (li ns),.lst (hs.map dD)]=.nx [some (.ref 0),some (.pv (.int (n:Int))),x2,some (.ref 1),x4,y5] [.lst (li ns'),.lst ((hs++[xss]).map dD)]/\Rw n xss:=by
 have hr:eP [.lst (li ns),.lst (hs.map dD)] 0 ns:=rfl;obtain⟨t,n1,e1,t0,t1,_⟩:=iO (m:=6) hr (by decide) (jR (by decide) (by decide));simp only[dy]at e1;have e1:cY [.ref 0,.pv (.int 6)] [.lst (li ns),.lst (hs.map dD)]=.ok (.pv (.int t)) [.lst (li n1),.lst (hs.map dD)]:=e1;have lz:(hs.map dD).length<16777216:=by rw[ak];omega
 have lz':hs.length<16777216:=by omega
 have el:∀xss,(hs++[xss]).map dD=hs.map dD++[dD xss]:=λxss=>by simp
 by_cases c1:t=5/\0<hs.length
 .obtain⟨v,hv,e2⟩:=R5 (hs.map dD) .non (by
   intro z;have:=congrArg kq z;simp at this;rw[this]at c1;simp at c1)
  obtain⟨xss,hx,rfl⟩:=fg.mp hv;refine⟨xss,n1,some (.pv (.int t)),?_,hw xss hx⟩;rw[el];obtain⟨c1,c2⟩:=c1;subst c1;have c3:hs.map dD≠[]:=λz=>by
   have:=congrArg kq z;simp at this;rw[this]at c2;simp at c2
  generalize hs.map dD=HL,dD xss=RV at *;unfold hB;simp! [-frz,-fT,e1,cR,fG,iE,e2,lz,c3]
 .have c1':t=5->hs.map dD=[]:=λz=>by
   have:hs.length=0:=by
    by_cases y:0<hs.length
    .exact absurd ⟨z,y⟩ c1
    .omega
   rw[yh.mp this];rfl
  have cA:∀(S:aJ)(ρ:cN),ρ[5]?=some (some (.pv (.int t)))->ρ[3]?=some (some (.ref 1))->S[1]?=some (.lst (hs.map dD))->jP (aR (aC cB (aA 5) (mC (.int 5)))) (aR (aC dR (mR cS (aB (aA 3) aD)) (mC (.int 0)))) ρ S=.ok false S:=λS ρ h5 h3 hS=>by
   cases z:t==5 with
   |false=>simp! [-frz,-fT,h5,z]
   |true=>
    rw[c1' (by simpa using z)]at hS;simp! [-frz,-fT,h5,h3,hS,z]
  generalize hA:jP (aR (aC cB (aA 5) (mC (.int 5)))) (aR (aC dR (mR cS (aB (aA 3) aD)) (mC (.int 0))))=MA at cA;have hBe:hB=(aE (aM 5 (aH cY [] (aB (aA 0) (aB (mC (.int 6)) aD))))
   (bI MA (cK (cR (aA 3) (aB (aC aK (aA 3) (bS cM (mC (.int 1)))) aD))) (bI (aR (aC cB (aA 1) (mC (.int 2)))) (cK (cR (aA 3) (aB (aH lP [] (aB (aA 0) (aB (mC (.int 2)) (aB (aC bF (mC (.int 1)) (mR kP (aB (aC cB (aA 5) (mC (.int 4))) aD))) aD)))) aD))) (bI (aR (aC dR (aA 5) (mC (.int 3)))) (cK (cR (aA 3) (aB (aH lP [] (aB (aA 0) (aB (mC (.int 3)) (aB (mC (.int 1)) aD)))) aD))) (cK (cR (aA 3) (aB (aH sP [] (aB (aA 0) aD)) aD))))))):=by rw[<-hA]
  rw[hBe];rcases hn with rfl |rfl
  .obtain⟨xss,n2,e2,hw2⟩:=Pu (n:=2) (.inl rfl) (W:=1+(if t=4 then 1 else 0)) (by split<;>decide) (by split<;>decide) n1 (hs.map dD)
   refine⟨xss,n2,some (.pv (.int t)),?_,hw2⟩;rw[el];have c2:((2:Nat):Int)=2:=rfl;rw[c2]at e2⊢;have cA':=cA [.lst (li n1),.lst (hs.map dD)] [some (.ref 0),some (.pv (.int 2)),x2,some (.ref 1),x4,some (.pv (.int t))] rfl rfl rfl;generalize hs.map dD=HL,dD xss=RV at*
   by_cases z:t=4
   .subst z
    simp! [-frz,-fT,e1,cA',cR,fG,iE,kP,Na,Fa,lz]at e2⊢;simp[e2,lz,bH.bind,cE.of]
   .rw[if_neg z]at e2
    have z':(t==4)=false:=by simpa using z
    simp! [-frz,-fT,e1,cA',cR,fG,iE,kP,Na,Fa,lz,z']at e2⊢;simp[e2,lz,bH.bind,cE.of]
  .have c3:((3:Nat):Int)=3:=rfl
   rw[c3];have cA':=cA [.lst (li n1),.lst (hs.map dD)] [some (.ref 0),some (.pv (.int 3)),x2,some (.ref 1),x4,some (.pv (.int t))] rfl rfl rfl
   by_cases z:3<t
   .obtain⟨xss,n2,e2,hw2⟩:=Pu (n:=3) (.inr rfl) (W:=1) (by decide) (by decide) n1 (hs.map dD)
    refine⟨xss,n2,some (.pv (.int t)),?_,hw2⟩;rw[el];rw[c3]at e2;generalize hs.map dD=HL,dD xss=RV at *;simp! [-frz,-fT,e1,cA',cR,fG,iE,Na,Fa,z];simp[e2,lz,bH.bind,cE.of]
   .obtain⟨xss,n2,e2,hw2⟩:=abk n1 (hs.map dD)
    refine⟨xss,n2,some (.pv (.int t)),?_,hw2⟩;rw[el];generalize hs.map dD=HL,dD xss=RV at *;simp! [-frz,-fT,e1,cA',cR,fG,iE,Na,Fa,z,e2,lz]
theorem Vw  (hn:n=2\/n=3)(x2:BH):∀(is:BF)(hs:BA)(ns:AY)(x4 x5:BH),(∀xss∈hs,Rw n xss)->hs.length+is.length<=99->∃(hs':BA)(ns':AY)(y4 y5:BH),
  dL [] (gN 4) hB is [some (.ref 0),some (.pv (.int (n:Int))),x2,some (.ref 1),x4,x5] [.lst (li ns),.lst (hs.map dD)]=.nx [some (.ref 0),some (.pv (.int (n:Int))),x2,some (.ref 1),y4,y5] [.lst (li ns'),.lst (hs'.map dD)]/\hs'.length=hs.length+is.length/\∀xss∈hs',Rw n xss
 |[],hs,ns,x4,x5,hw,_=>⟨hs,ns,x4,x5,eZ,rfl,hw⟩
 |i::is,hs,ns,x4,x5,hw,h9=>by
  have h9:hs.length+(is.length+1)<=99:=h9;obtain⟨xss,n1,y5,e1,r1⟩:=ae3 hn ns hs hw (by omega) x2 _ x5;obtain⟨hs',n2,z4,z5,e2,l2,r2⟩:=Vw hn x2 is (hs++[xss]) _ _ y5 (λy hy=>by
   rcases br.mp hy with z |z
   .exact hw y z
   .have:=by simpa using z
    rw[this];exact r1) (by rw[av,nj];omega)
  refine⟨hs',n2,z4,z5,?_,by rw[l2,av,nj];grind,r2⟩;rw[dY];simp only[gN,gr,dy];rw[e1];exact e2
theorem E2{n M:Nat}(hn:n=2\/n=3)(hM:M<=8)(ns:AY):∃(hs:BA)(ns':AY),pQ [.ref 0,.pv (.int (n:Int)),.pv (.int (M:Int))] [.lst (li ns)]=.ok (.ref 1) [.lst (li ns'),.lst (hs.map dD)]/\hs.length<=M/\∀xss∈hs,Rw n xss:=by
 have hr:eP [.lst (li ns),.lst []] 0 ns:=rfl;obtain⟨t,n1,e1,t0,t1,_⟩:=iO (m:=(M:Int)+1) hr (by omega) (jR (by omega) (by omega));have e1:=e1;obtain⟨m,rfl⟩:∃m:Nat,t=(m:Int):=⟨t.toNat,by omega⟩;have rg:=tW [.lst (li n1),.lst []] (n:=m) (by omega);have hi:(dW 0 m).length=m:=by unfold dW;simp
 obtain⟨hs,n2,y4,y5,e2,l2,r2⟩:=Vw hn (some (.pv (.int (M:Int)))) (dW 0 m) [] n1 none none (λ_ h=>absurd h db) (by grind);rw[hi]at l2;refine⟨hs,n2,?_,by grind,r2⟩;simp only[aw]at e2;have hb:Jb=(aE (aM 3 (eL aD))
  _):=rfl
 unfold pQ aL;rw[hb];dsimp! [eL,jN,aY,cC,e1,rg,e2]
theorem yP  {L:AY}{b:Int}(hb:0<b)(hl:L.length=n)(hL:∀x∈L,Bd k x)(bb:Bd k b):∃(zs:AY)(z:Int),low (L++[b])=zs++[z]/\Pq n k zs z/\∀j,j<n->zs.getD j 0*b=L.getD j 0*z:=by
 obtain⟨zs,z,g,e,hg,hz,g1,g2,hzl⟩:=yV L hb;have hlow:=Fe L hb;have hbd:=sQ  (ns:=L++[b]) λm hm=>by
  rcases br.mp hm with y |y
  .exact hL m y
  .have:=by simpa using y
   rw[this];exact bb
 rw[e]at hlow hbd;refine⟨zs,z,e,⟨hzl.trans hl,hz,hlow,λx hx=>hbd x (jq _ hx),hbd z (mV zs z)⟩,λj hj=>?_⟩;have hj':j<zs.length:=by omega
 have e1:L.getD j 0=g*zs.getD j 0:=by
  rw[g1];simp[cr,hj']
 rw[e1,g2];grind
structure Sp(u:Int×Int):Prop where
 p:0<u.1
 q:0<u.2
 bp:Bd 30 u.1
 bq:Bd 30 u.2
theorem p9:iM (.int 10) (.int 9)=some (.int 1000000000):=yH   ⟨by decide,by decide,by decide⟩
theorem p6:iM (.int 10) (.int 6)=some (.int 1000000):=yH   ⟨by decide,by decide,by decide⟩
theorem dI  (h0:0<=v)(h1:v<3):∃M N:Int,aK (.lst [.int 1,.int 7,.int 1000000000]) (.int v)=some (.int M)/\aK (.lst [.int 1,.int 7,.int 1000000]) (.int v)=some (.int N)/\0<M/\M<=1000000000/\0<N/\N<=1000000:=by
 have:v=0\/v=1\/v=2:=by omega
 rcases this with rfl |rfl |rfl
 .exact⟨1,1,rfl,rfl,by decide,by decide,by decide,by decide⟩
 .exact⟨7,7,rfl,rfl,by decide,by decide,by decide,by decide⟩
 .exact⟨1000000000,1000000,rfl,rfl,by decide,by decide,by decide,by decide⟩
abbrev sB:MS:=(aE (aM 4 (aH cY [] (aB (aA 0) (aB (mC (.int 3)) aD))))
 (cK (cR (aA 2) (aB (aH nF [] (aB (aC bF (mC (.int 1)) (aH cY [] (aB (aA 0) (aB (aC aK (mN eB (aB (mC (.int 1)) (aB (mC (.int 7)) (aB (aC iM (mC (.int 10)) (mC (.int 9))) aD)))) (aA 4)) aD)))) (aB (aC bF (mC (.int 1)) (aH cY [] (aB (aA 0) (aB (aC aK (mN eB (aB (mC (.int 1)) (aB (mC (.int 7)) (aB (aC iM (mC (.int 10)) (mC (.int 6))) aD)))) (aA 4)) aD)))) aD))) aD))))
theorem aeF(ns:AY)(fs:List (Int×Int))(hl:fs.length<=9)(x1 x3 x4:BH):∃(u:Int×Int)(ns':AY)(y4:BH),sB [some (.ref 0),x1,some (.ref 1),x3,x4] [.lst (li ns),.lst (fs.map fv)]=.nx [some (.ref 0),x1,some (.ref 1),x3,y4] [.lst (li ns'),.lst ((fs++[u]).map fv)]/\Sp u:=by
 have hr:∀ms,eP [.lst (li ms),.lst (fs.map fv)] 0 ms:=λ_=>rfl;obtain⟨c,n1,e1,c0,c1,_⟩:=iO (m:=3) (hr ns) (by decide) (jR (by decide) (by decide));obtain⟨M,N,em,en,M0,M1,N0,N1⟩:=dI c0 c1;have bM:Bd 8000 M:=(Bd.of (k:=30) (n:=1000000000) (by omega) (by decide)).mono (by decide);have bN:Bd 8000 N:=(Bd.of (k:=30) (n:=1000000000) (by omega) (by decide)).mono (by decide);obtain⟨t,n2,e2,t0,t1,_⟩:=iO (m:=M) (hr n1) M0 bM;obtain⟨v,n3,e3,v0,v1,_⟩:=iO (m:=N) (hr n2) N0 bN;simp only[dy]at e1 e2 e3;have bt:Bd 30 (1+t):=Bd.of (n:=1000000000) (by omega) (by decide);have bv:Bd 30 (1+v):=Bd.of (n:=1000000000) (by omega) (by decide);have nz:1+v≠0:=by omega
 have e4:=Le (1+t) (1+v) [.lst (li n3),.lst (fs.map fv)] (bt.mono (by decide)) (bv.mono (by decide));obtain⟨p,q,ef,hq,hpq⟩:=vM (t:=1+t) nz;obtain⟨b1,b2⟩:=zB bt bv ef;have hp:0<p:=by
  have h1:0<(1+t)*q:=aj (by omega) hq;rw[<-hpq]at h1;exact wx h1 (by omega)
 rw[ef]at e4;simp only[ao,aw]at e4;refine⟨(p,q),n3,some (.pv (.int c)),?_,⟨hp,hq,b1,b2⟩⟩;have el:(fs++[(p,q)]).map fv=fs.map fv++[.tup [.int p,.int q]]:=by simp
 rw[el];have lz:(fs.map fv).length<16777216:=by rw[ak];omega
 have e1:=e1;have e2:=e2;have e3:=e3;generalize fs.map fv=FL at *;unfold sB;simp! [e1,p9,p6,em,en,e2,e3,e4,cR,fG,iE,lz]
theorem Qx(x1:BH):∀(is:BF)(fs:List (Int×Int))(ns:AY)(x3 x4:BH),(∀u∈fs,Sp u)->fs.length+is.length<=9->∃(fs':List (Int×Int))(ns':AY)(y3 y4:BH),
  dL [] (gN 3) sB is [some (.ref 0),x1,some (.ref 1),x3,x4] [.lst (li ns),.lst (fs.map fv)]=.nx [some (.ref 0),x1,some (.ref 1),y3,y4] [.lst (li ns'),.lst (fs'.map fv)]/\fs'.length=fs.length+is.length/\∀u∈fs',Sp u
 |[],fs,ns,x3,x4,hw,_=>⟨fs,ns,x3,x4,eZ,rfl,hw⟩
 |i::is,fs,ns,x3,x4,hw,h9=>by
  have h9:fs.length+(is.length+1)<=9:=h9;obtain⟨u,n1,y4,e1,r1⟩:=aeF ns fs (by omega) x1 _ x4;obtain⟨fs',n2,z3,z4,e2,l2,r2⟩:=Qx x1 is (fs++[u]) n1 _ y4 (λy hy=>by
   rcases br.mp hy with z |z
   .exact hw y z
   .have:=by simpa using z
    rw[this];exact r1) (by rw[av,nj];omega)
  refine⟨fs',n2,z3,z4,?_,by rw[l2,av,nj];grind,r2⟩;rw[dY];simp only[gN,gr,dy];rw[e1];exact e2
theorem M4{n:Nat}(hn:n=2\/n=3)(ns:AY):∃(fs:List (Int×Int))(ns':AY),pU [.ref 0,.pv (.int (n:Int))] [.lst (li ns)]=.ok (.ref 1) [.lst (li ns'),.lst (fs.map fv)]/\fs.length=n/\∀u∈fs,Sp u:=by
 have hi:(dW 0 n).length=n:=by unfold dW;simp
 have rg:=tW [.lst (li ns),.lst []] (n:=n) (by omega);obtain⟨fs,n2,y3,y4,e2,l2,r2⟩:=Qx (some (.pv (.int n))) (dW 0 n) [] ns none none (λ_ h=>absurd h db) (by grind);rw[hi]at l2;refine⟨fs,n2,?_,by grind,r2⟩;simp only[aw]at e2;have hb:Xb=(aE _ (aE (aY _ (gN 3) sB) _)):=rfl;unfold pU aL;rw[hb];dsimp! [eL,jN,aY,cC,rg,e2]
def fH:List (Int×Int)->AY->AY
 |[u,v],[a,b]=>low ([a*u.1*v.2,b*v.1*u.2]++[1*u.2*v.2])
 |[u,v,t],[a,b,c]=>low ([a*u.1*(v.2*t.2),b*v.1*(u.2*t.2),c*t.1*(u.2*v.2)]++[1*u.2*v.2*t.2])
 |_,_=>[]
def Tz:List (Int×Int)->Nat->Int
 |[u,v],0=>u.1*v.2
 |[u,v],1=>v.1*u.2
 |[u,v,t],0=>u.1*(v.2*t.2)
 |[u,v,t],1=>v.1*(u.2*t.2)
 |[u,v,t],2=>t.1*(u.2*v.2)
 |_,_=>1
def Rz:List (Int×Int)->Int
 |[u,v]=>1*u.2*v.2
 |[u,v,t]=>1*u.2*v.2*t.2
 |_=>1
theorem Re{n:Nat}(hn:n=2\/n=3)(S:aJ){fs:List (Int×Int)}{xs:AY}(hf:fs.length=n)(h:∀u∈fs,Sp u)(hx:xs.length=n)(hb:∀x∈xs,-8<x/\x<8):qC [.pv (lv xs),.pv (.lst (fs.map fv))] S=.ok (.pv (tv (fH fs xs))) S/\Gu n 100 (fH fs xs)/\kG n (Tz fs) (λ_=>0) (Rz fs) (xs++[1]) (fH fs xs):=by
 have b3:∀{x:Int},-8<x/\x<8->Bd 3 x:=λh=>by
  unfold Bd;have:(2:Nat)^3=8:=rfl;omega
 have o1:Bd 1 (1:Int):=by unfold Bd;decide
 rcases hn with rfl |rfl
 .obtain⟨u,v,rfl⟩:=len2 hf;obtain⟨a,b,rfl⟩:=len2 hx
  have hu:=h u (by simp);have hv:=h v (by simp);have ba:=b3 (hb a (by simp));have bb:=b3 (hb b (by simp));have m1:=mk o1 hu.bq (by decide) (by decide);have m2:=mk (o1.mul hu.bq) hv.bq (by decide) (by decide);have d1:(1*u.2*v.2).fdiv u.2=v.2:=by rw[ij];exact pS (by have:=hu.q;omega)
  have d2:(1*u.2*v.2).fdiv v.2=u.2:=by rw[ij,dg];exact pS (by have:=hv.q;omega)
  have q1:jM (.int (1*u.2*v.2)) (.int u.2)=some (.int v.2):=by
   have e:=rT (i:=1*u.2*v.2) (j:=u.2) ⟨by have:=hu.q;omega,hu.bq.mono (by decide)⟩;rw[d1]at e;exact e
  have q2:jM (.int (1*u.2*v.2)) (.int v.2)=some (.int u.2):=by
   have e:=rT (i:=1*u.2*v.2) (j:=v.2) ⟨by have:=hv.q;omega,hv.bq.mono (by decide)⟩;rw[d2]at e;exact e
  have m3:=mk ba hu.bp (by decide) (by decide);have m4:=mk (ba.mul hu.bp) hv.bq (by decide) (by decide);have m5:=mk bb hv.bp (by decide) (by decide);have m6:=mk (bb.mul hv.bp) hu.bq (by decide) (by decide);have pE:0<1*u.2*v.2:=aj (aj (by decide) hu.q) hv.q;have bL:∀x∈[a*u.1*v.2,b*v.1*u.2],Bd 100 x:=by
   simp;exact⟨((ba.mul hu.bp).mul hv.bq).mono (by decide),((bb.mul hv.bp).mul hu.bq).mono (by decide)⟩
  have bE:Bd 100 (1*u.2*v.2):=((o1.mul hu.bq).mul hv.bq).mono (by decide);obtain⟨zs,z,el,Z,rel⟩:=yP (n:=2) pE rfl bL bE;have ew:=mU ([a*u.1*v.2,b*v.1*u.2]++[1*u.2*v.2]) S (by
   intro x hx;rcases br.mp hx with y |y
   .exact(bL x y).mono (by decide)
   .have:x=1*u.2*v.2:=by simpa using y
    rw[this];exact bE.mono (by decide))
  have es:fH [u,v] [a,b]=zs++[z]:=el;refine⟨?_,by rw[es];exact⟨zs,z,rfl,Z⟩,[a,b],1,zs,z,rfl,es,rfl,Z.len,by decide,Z.pos,λj hj=>?_⟩
  .rw[el]at ew
   rw[es];simp only[ao,aw,jo,fx]at ew;generalize hQ:1*u.2*v.2=Q at *;generalize hA:a*u.1*v.2=A at *;generalize hB:b*v.1*u.2=B at *;unfold qC aL yA;simp only[lv,li,ao,aw];simp only[tv];generalize (zs++[z]).map PV.int=ZL at *;simp only[ij]at m1 m2 hQ;dsimp! [aY,aX,bT,dY,eZ,gN,m1,m2,bC,cQ,gK,kK,gA,dX,dS,gT,cD,eA,m3,m4,m5,m6,q1,q2,ew]
  .have r:=rel j hj
   match j,hj with
   |0,_=>
    have r:zs.getD 0 0*(1*u.2*v.2)=a*u.1*v.2*z:=r;show zs.getD 0 0*(1*u.2*v.2*1)=(u.1*v.2*a+0*1)*z;rw[lm,r];grind
   |1,_=>
    have r:zs.getD 1 0*(1*u.2*v.2)=b*v.1*u.2*z:=r;show zs.getD 1 0*(1*u.2*v.2*1)=(v.1*u.2*b+0*1)*z;rw[lm,r];grind
 .obtain⟨u,v,t,rfl⟩:=len3 hf;obtain⟨a,b,c,rfl⟩:=len3 hx
  have hu:=h u (by simp);have hv:=h v (by simp);have ht:=h t (by simp);have ba:=b3 (hb a (by simp));have bb:=b3 (hb b (by simp));have bc:=b3 (hb c (by simp));have m1:=mk o1 hu.bq (by decide) (by decide);have m2:=mk (o1.mul hu.bq) hv.bq (by decide) (by decide);have m2':=mk ((o1.mul hu.bq).mul hv.bq) ht.bq (by decide) (by decide);have d1:(1*u.2*v.2*t.2).fdiv u.2=v.2*t.2:=by rw[ij,jh];exact pS (by have:=hu.q;omega)
  have d2:(1*u.2*v.2*t.2).fdiv v.2=u.2*t.2:=by rw[show 1*u.2*v.2*t.2=v.2*(u.2*t.2) by grind];exact pS (by have:=hv.q;omega)
  have d3:(1*u.2*v.2*t.2).fdiv t.2=u.2*v.2:=by rw[show 1*u.2*v.2*t.2=t.2*(u.2*v.2) by grind];exact pS (by have:=ht.q;omega)
  have q1:jM (.int (1*u.2*v.2*t.2)) (.int u.2)=some (.int (v.2*t.2)):=by
   have e:=rT (i:=1*u.2*v.2*t.2) (j:=u.2) ⟨by have:=hu.q;omega,hu.bq.mono (by decide)⟩;rw[d1]at e;exact e
  have q2:jM (.int (1*u.2*v.2*t.2)) (.int v.2)=some (.int (u.2*t.2)):=by
   have e:=rT (i:=1*u.2*v.2*t.2) (j:=v.2) ⟨by have:=hv.q;omega,hv.bq.mono (by decide)⟩;rw[d2]at e;exact e
  have q3:jM (.int (1*u.2*v.2*t.2)) (.int t.2)=some (.int (u.2*v.2)):=by
   have e:=rT (i:=1*u.2*v.2*t.2) (j:=t.2) ⟨by have:=ht.q;omega,ht.bq.mono (by decide)⟩;rw[d3]at e;exact e
  have m3:=mk ba hu.bp (by decide) (by decide);have m4:=mk (ba.mul hu.bp) (hv.bq.mul ht.bq) (by decide) (by decide);have m5:=mk bb hv.bp (by decide) (by decide);have m6:=mk (bb.mul hv.bp) (hu.bq.mul ht.bq) (by decide) (by decide);have m7:=mk bc ht.bp (by decide) (by decide);have m8:=mk (bc.mul ht.bp) (hu.bq.mul hv.bq) (by decide) (by decide);have pE:0<1*u.2*v.2*t.2:=aj (aj (aj (by decide) hu.q) hv.q) ht.q;have bL:∀x∈[a*u.1*(v.2*t.2),b*v.1*(u.2*t.2),c*t.1*(u.2*v.2)],Bd 100 x:=by
   simp;exact⟨((ba.mul hu.bp).mul (hv.bq.mul ht.bq)).mono (by decide),((bb.mul hv.bp).mul (hu.bq.mul ht.bq)).mono (by decide),((bc.mul ht.bp).mul (hu.bq.mul hv.bq)).mono (by decide)⟩
  have bE:Bd 100 (1*u.2*v.2*t.2):=(((o1.mul hu.bq).mul hv.bq).mul ht.bq).mono (by decide);obtain⟨zs,z,el,Z,rel⟩:=yP (n:=3) pE rfl bL bE;have ew:=mU ([a*u.1*(v.2*t.2),b*v.1*(u.2*t.2),c*t.1*(u.2*v.2)]++[1*u.2*v.2*t.2]) S (by
   intro x hx;rcases br.mp hx with y |y
   .exact(bL x y).mono (by decide)
   .have:x=1*u.2*v.2*t.2:=by simpa using y
    rw[this];exact bE.mono (by decide))
  have es:fH [u,v,t] [a,b,c]=zs++[z]:=el;refine⟨?_,by rw[es];exact⟨zs,z,rfl,Z⟩,[a,b,c],1,zs,z,rfl,es,rfl,Z.len,by decide,Z.pos,λj hj=>?_⟩
  .rw[el]at ew
   rw[es];simp only[ao,aw,jo,fx]at ew;generalize hQ:1*u.2*v.2*t.2=Q at *;generalize hA:a*u.1*(v.2*t.2)=A at *;generalize hB:b*v.1*(u.2*t.2)=B at *;generalize hC:c*t.1*(u.2*v.2)=C at *;unfold qC aL yA;simp only[lv,li,ao,aw];simp only[tv];generalize (zs++[z]).map PV.int=ZL at *;simp only[ij]at m1 m2 m2' hQ;dsimp! [aY,aX,bT,dY,eZ,gN,m1,m2,m2',bC,cQ,gK,kK,gA,dX,dS,gT,cD,eA,m3,m4,m5,m6,m7,m8,q1,q2,q3,ew]
  .have r:=rel j hj
   match j,hj with
   |0,_=>
    have r:zs.getD 0 0*(1*u.2*v.2*t.2)=a*u.1*(v.2*t.2)*z:=r;show zs.getD 0 0*(1*u.2*v.2*t.2*1)=(u.1*(v.2*t.2)*a+0*1)*z;rw[lm,r];grind
   |1,_=>
    have r:zs.getD 1 0*(1*u.2*v.2*t.2)=b*v.1*(u.2*t.2)*z:=r;show zs.getD 1 0*(1*u.2*v.2*t.2*1)=(v.1*(u.2*t.2)*b+0*1)*z;rw[lm,r];grind
   |2,_=>
    have r:zs.getD 2 0*(1*u.2*v.2*t.2)=c*t.1*(u.2*v.2)*z:=r;show zs.getD 2 0*(1*u.2*v.2*t.2*1)=(t.1*(u.2*v.2)*c+0*1)*z;rw[lm,r];grind
theorem acJ  (hn:n=2\/n=3){fs:List (Int×Int)}(hf:fs.length=n)(h:∀u∈fs,Sp u):0<Rz fs/\∀j,j<n->0<Tz fs j:=by
 rcases hn with rfl |rfl
 .obtain⟨u,v,rfl⟩:=len2 hf
  have hu:=h u (by simp);have hv:=h v (by simp);refine⟨aj (aj (by decide) hu.q) hv.q,λj hj=>?_⟩
  match j,hj with
  |0,_=>exact aj hu.p hv.q
  |1,_=>exact aj hv.p hu.q
 .obtain⟨u,v,t,rfl⟩:=len3 hf
  have hu:=h u (by simp);have hv:=h v (by simp);have ht:=h t (by simp);refine⟨aj (aj (aj (by decide) hu.q) hv.q) ht.q,λj hj=>?_⟩
  match j,hj with
  |0,_=>exact aj hu.p (aj hv.q ht.q)
  |1,_=>exact aj hv.p (aj hu.q ht.q)
  |2,_=>exact aj ht.p (aj hu.q hv.q)
theorem aa3{n:Nat}(hn:n=2\/n=3){fs:List (Int×Int)}(hf:fs.length=n)(h:∀u∈fs,Sp u){xss:AZ}(w:Rw n xss):dU (xss.map (fH fs))≠0:=λz=>by
 have af:=λxs hx=>(Re hn [] hf h (w.l xs hx) (w.b xs hx)).2.2;have gu:∀us∈xss.map (fH fs),Gu n 100 us:=λus hu=>by
  obtain⟨xs,hx,rfl⟩:=fg.mp hu;exact(Re hn [] hf h (w.l xs hx) (w.b xs hx)).2.1
 have p2:=jZ gu;obtain⟨pe,pa⟩:=acJ hn hf h;have nz:=w.nz;have wl:=w.len;clear w;rcases hn with rfl |rfl
 .obtain⟨a,b,c,rfl⟩:=len3 wl
  have e:=Jz (af a (by simp)) (af b (by simp)) (af c (by simp));have z:dU [fH fs a,fH fs b,fH fs c]=0:=z;rw[z,qi]at e;exact da (da (ck (aj (aj (pa 0 (by decide)) (pa 1 (by decide))) pe)) nz) (ck p2) e.symm
 .obtain⟨a,b,c,d,rfl⟩:=len4 wl
  have e:=Ez (af a (by simp)) (af b (by simp)) (af c (by simp)) (af d (by simp));have z:dU [fH fs a,fH fs b,fH fs c,fH fs d]=0:=z;rw[z,qi]at e;exact da (da (ck (aj (aj (aj (pa 0 (by decide)) (pa 1 (by decide))) (pa 2 (by decide))) pe)) nz) (ck p2) e.symm
abbrev lB:MS:=(aE (aM 5 (aH nI [] (aB (aA 0) (aB (mR cS (aB (aA 2) aD)) aD))))
 (cK (cR (aA 3) (aB (aH oF [] (aB (bC ["_law_corner"] [(5,"_law_far_here"),(2,"_law_stretch_here")] (aX (aA 4)) (gN 0) (aH oH [] (aB (aH qC [] (aB (aA 0) (aB (aA 2) aD))) (aB (aA 1) (aB (mC (.int 1)) aD))))) aD)) aD))))
theorem afr{n:Nat}(hn:n=2\/n=3)(ns:AY){fs:List (Int×Int)}(hf:fs.length=n)(h:∀u∈fs,Sp u)(gs:BA)(hg:gs.length<=99){xss:AZ}(w:Rw n xss)(x1 x5:BH):∃(uss:AZ)(ns':AY)(y5:BH),lB [some (.ref 0),x1,some (.pv (.lst (fs.map fv))),some (.ref 1),some (.pv (dD xss)),x5] [.lst (li ns),.lst (gs.map px)]=.nx [some (.ref 0),x1,some (.pv (.lst (fs.map fv))),some (.ref 1),some (.pv (dD xss)),y5] [.lst (li ns'),.lst ((gs++[uss]).map px)]/\Sx n 201 uss:=by
 have hr:eP [.lst (li ns),.lst (gs.map px)] 0 ns:=rfl;obtain⟨v,n1,e1,G⟩:=Vy n hn hr;simp only[dy]at e1;have e1:=e1;obtain⟨ys,y,rfl,P⟩:=G;have Gf:Gu n 100 (ys++[y]):=⟨ys,y,rfl,P⟩;generalize ys++[y]=f at *;have sp:=λS xs (hx:xs∈xss)=>Re hn S hf h (w.l xs hx) (w.b xs hx);have gu:∀us∈xss.map (fH fs),Gu n 100 us:=λus hu=>by
  obtain⟨xs,hx,rfl⟩:=fg.mp hu;exact(sp [] xs hx).2.1
 have hl:(xss.map (fH fs)).length=n+1:=by rw[ak];exact w.len
 have nz:=aa3 hn hf h w;have nz2:=afy hn (way:=1) (.inl rfl) hl gu Gf nz;have gu2:=Jg (way:=1) (.inl rfl) gu Gf;have l2:((xss.map (fH fs)).map (gY 1 f)).length=n+1:=by rw[ak];exact hl
 have S1:=Yg hn (k:=100+100+1) (by decide) l2 gu2 nz2;refine⟨_,n1,some (.pv (tv f)),?_,S1⟩;have el:(gs++[bX ((xss.map (fH fs)).map (gY 1 f))]).map px=gs.map px++[px (bX ((xss.map (fH fs)).map (gY 1 f)))]:=by simp
 rw[el];have lz:(gs.map px).length<16777216:=by rw[ak];omega
 have ln:((fs.map fv).length:Int)=(n:Int):=by rw[ak,hf]
 have ec:bZ [] (gN 0) (aH oH [] (aB (aH qC [] (aB (aA 0) (aB (aA 2) aD))) (aB (aA 1) (aB (mC (.int 1)) aD)))) (xss.map lv) [none,some (.pv (tv f)),some (.pv (.lst (fs.map fv)))] [.lst (li n1),.lst (gs.map px)]=.ok (xss.map λxs=>tv (gY 1 f (fH fs xs))) [.lst (li n1),.lst (gs.map px)]:=by
  refine rR (nB _) lv (λxs=>tv (gY 1 f (fH fs xs))) xss none λxs hx=>?_;have a1:=(sp [.lst (li n1),.lst (gs.map px)] xs hx).1;have a2:=abX (way:=1) [.lst (li n1),.lst (gs.map px)] hn (.inl rfl) (sp [] xs hx).2.1 Gf (by decide) (by decide);dsimp! [a1,a2]
 have es:=Yj (uss:=(xss.map (fH fs)).map (gY 1 f))  hn [.lst (li n1),.lst (gs.map px)] l2 (λus hu=>(gu2 us hu).mono (by decide)) (.inl rfl);have em:((xss.map (fH fs)).map (gY 1 f)).map tv=xss.map λxs=>tv (gY 1 f (fH fs xs)):=by rw[dr,dr];rfl
 rw[em]at es;have hv:dD xss=.lst (xss.map lv):=rfl;have hp:∀L:AZ,px L=.tup (L.map tv):=λ_=>rfl;rw[hv,hp];clear S1 nz2 gu2 l2 nz hl gu sp;generalize (n:Int)=N,gs.map px=GL,fs.map fv=FL,xss.map lv=XL,(xss.map λxs=>tv (gY 1 f (fH fs xs)))=TL,(bX ((xss.map (fH fs)).map (gY 1 f))).map tv=PX at *;unfold lB;dsimp! [ln,e1,cR,fG,iE,bC,cQ,aX,bT,ec,es,lz]
theorem Ey  (hn:n=2\/n=3){fs:List (Int×Int)}(hf:fs.length=n)(h:∀u∈fs,Sp u)(x1:BH):∀(hs:BA)(gs:BA)(ns:AY)(x4 x5:BH),(∀xss∈hs,Rw n xss)->(∀uss∈gs,Sx n 201 uss)->gs.length+hs.length<=99->∃(gs':BA)(ns':AY)(y4 y5:BH),
  dL [] (gN 4) lB (hs.map dD) [some (.ref 0),x1,some (.pv (.lst (fs.map fv))),some (.ref 1),x4,x5] [.lst (li ns),.lst (gs.map px)]=.nx [some (.ref 0),x1,some (.pv (.lst (fs.map fv))),some (.ref 1),y4,y5] [.lst (li ns'),.lst (gs'.map px)]/\gs'.length=gs.length+hs.length/\∀uss∈gs',Sx n 201 uss
 |[],gs,ns,x4,x5,_,hg,_=>⟨gs,ns,x4,x5,eZ,rfl,hg⟩
 |xss::hs,gs,ns,x4,x5,hw,hg,h9=>by
  have h9:gs.length+(hs.length+1)<=99:=h9;obtain⟨uss,n1,y5,e1,r1⟩:=afr hn ns hf h gs (by omega) (hw xss bo) x1 x5;obtain⟨gs',n2,z4,z5,e2,l2,r2⟩:=Ey hn hf h x1 hs (gs++[uss]) n1 _ y5 (λy hy=>hw y (bd _ hy)) (λy hy=>by
   rcases br.mp hy with z |z
   .exact hg y z
   .have:=by simpa using z
    rw[this];exact r1) (by grind)
  refine⟨gs',n2,z4,z5,?_,by grind,r2⟩;rw[ao,dY];simp only[gN,gr,dy];rw[e1];exact e2
theorem abu  (hn:n=2\/n=3)(ns:AY){fs:List (Int×Int)}(hf:fs.length=n)(h:∀u∈fs,Sp u){hs:BA}(hw:∀xss∈hs,Rw n xss)(h9:hs.length<=90):∃(gs:BA)(ns':AY),qA [.ref 0,.pv (.lst (hs.map dD)),.pv (.lst (fs.map fv))] [.lst (li ns)]=.ok (.ref 1) [.lst (li ns'),.lst (gs.map px)]/\gs.length=hs.length/\∀uss∈gs,Sx n 201 uss:=by
 obtain⟨gs,n2,y4,y5,e2,l2,r2⟩:=Ey hn hf h (some (.pv (.lst (hs.map dD)))) hs [] ns none none hw (λ_ h=>absurd h db) (by grind);refine⟨gs,n2,?_,by grind,r2⟩;simp only[aw]at e2;have hb:Ae=(aE _ (aE (aY (aX (aA 1)) (gN 4) lB) _)):=rfl;unfold qA aL;rw[hb];dsimp! [eL,jN,aY,aX,bT,e2]
theorem acP{n M:Nat}(hn:n=2\/n=3)(hM:M<=8)(ns:AY)(ρ:cN){i j:Nat}(hi:ρ[i]?=some (some (.ref 0)))(hj:ρ[j]?=some (some (.pv (.int (n:Int))))):∃(gs:BA)(ns':AY),aH qA [] (aB (aA i) (aB (aH pQ [] (aB (aA i) (aB (aA j) (aB (mC (.int (M:Int))) aD)))) (aB (aH pU [] (aB (aA i) (aB (aA j) aD))) aD))) ρ [.lst (li ns)]=.ok (.pv (.lst (gs.map px))) [.lst (li ns')]/\gs.length<=M/\∀uss∈gs,Sx n 201 uss:=by
 obtain⟨hs,n1,e1,l1,r1⟩:=E2 hn hM ns;obtain⟨fs,n2,e2,l2,r2⟩:=M4 hn n1;obtain⟨gs,n3,e3,l3,r3⟩:=abu hn n2 l2 r2 r1 (by omega);refine⟨gs,n3,?_,by omega,r3⟩;generalize fs.map fv=FL,hs.map dD=HL,gs.map px=GL at *;dsimp! [hi,hj,e1,e2,e3]
theorem aaY(bs:List Bool):jE [.lst (bs.map .bl)]=some (.bl (bs.all id)):=by
 have e:iQ (bs.map PV.bl)=some bs:=by
  induction bs with
  |nil=>rfl
  |cons v L ih=>
   show(match iQ (L.map PV.bl)with |some bs=>some (v::bs) |none=>none)=_
   rw[ih]
 simp only[jE,e,qh]
def kE(k:AZ):PV:=.tup (k.map λr:AY=>PV.tup (r.map PV.int))
theorem Kg{k l:AZ}(h:kE k=kE l):k=l:=sC (n:=true) h
abbrev dF:Type:=AZ×Int
def dG:List dF->AZ->Int
 |[],_=>0
 |c::C,k=>(if c.1=k then c.2 else 0)+dG C k
theorem lM(C D:List dF)(k:AZ):dG (C++D) k=dG C k+dG D k:=by
 induction C with
 |nil=>simp[dG]
 |cons c C ih=>simp[dG,ih];omega
def nW:BG->Int
 |some (.int i)=>i
 |_=>0
def iS(kvs:List (PV×PV))(c:dF):List (PV×PV):=gU kvs (kE c.1) (.int (nW (fJ kvs (kE c.1))+c.2))
def gO(kvs:List (PV×PV))(C:List dF):List (PV×PV):=C.foldl iS kvs
theorem oN(kvs:List (PV×PV))(C D:List dF):gO (gO kvs C) D=gO kvs (C++D):=by
 unfold gO;rw[List.foldl_append]
theorem Aw{kvs:List (PV×PV)}(nd:(kvs.map (·.1)).Nodup){i j:Nat}{k v w:PV}(h1:kvs[i]?=some (k,v))(h2:kvs[j]?=some (k,w)):i=j:=by
 have e1:(kvs.map (·.1))[i]?=some k:=by rw[az,h1];rfl
 have e2:(kvs.map (·.1))[j]?=some k:=by rw[az,h2];rfl
 exact(List.getElem?_inj (bn.mp e1).1 nd).mp (e1.trans e2.symm)
theorem rV{kvs:List (PV×PV)}(nd:(kvs.map (·.1)).Nodup){k v:PV}(h:(k,v)∈kvs):fJ kvs k=some v:=by
 obtain⟨i,hi⟩:=qj.mp h;obtain⟨j,hj⟩:=Ze (kvs:=kvs) (k:=k) (i:=i) (by rw[az,hi];rfl);obtain⟨w,hw⟩:=mZ hj;have e:=Aw nd hw hi;subst e;unfold fJ;rw[hj];simp[hi]
theorem O1{kvs:List (PV×PV)}{k:PV}(h:∀v,(k,v)∉kvs):fJ kvs k=none:=by
 unfold fJ;cases z:jU kvs k with
 |none=>rfl
 |some i=>
  obtain⟨v,hv⟩:=mZ z;exact absurd (cq hv) (h v)
theorem Jd{kvs:List (PV×PV)}(nd:(kvs.map (·.1)).Nodup){k v:PV}(x:PV×PV):x∈gU kvs k v↔(x=(k,v))\/(x.1≠k/\x∈kvs):=by
 unfold gU;cases z:jU kvs k with
 |none=>
  dsimp only;rw[br,yq];constructor
  .rintro(h |h)
   .refine .inr ⟨λe=>?_,h⟩
    obtain⟨i,hi⟩:=qj.mp h;exact Ad z i (by rw[az,hi,<-e];rfl)
   .exact .inl h
  .rintro(h |h)
   .exact .inr h
   .exact .inl h.2
 |some i=>
  dsimp only;obtain⟨w,hw⟩:=mZ z;have hi:=(bn.mp hw).1;constructor
  .intro h
   obtain⟨j,hj⟩:=qj.mp h;rw[tw]at hj
   by_cases e:i=j
   .subst e
    rw[if_pos rfl,if_pos hi]at hj;exact .inl (cx hj).symm
   .rw[if_neg e]at hj
    refine .inr ⟨λek=>e (Aw nd hw (w:=x.2) (by rw[hj,<-ek])),cq hj⟩
  .rintro(h |⟨h1,h2⟩)
   .rw[h]
    exact cq (df hi)
   .obtain⟨j,hj⟩:=qj.mp h2
    have e:i≠j:=λe=>by
     subst e;rw[hw]at hj;cases hj;exact h1 rfl
    exact cq (i:=j) (by rw[dk e];exact hj)
theorem sN{kvs:List (PV×PV)}(nd:(kvs.map (·.1)).Nodup){k v:PV}:((gU kvs k v).map (·.1)).Nodup/\(gU kvs k v).length<=kvs.length+1:=by
 unfold gU;cases z:jU kvs k with
 |none=>
  dsimp only;refine⟨?_,by rw[av];exact al _⟩;rw[du,qb];refine⟨nd,by simp,λa ha b hb=>?_⟩;have hb:b=k:=by simpa using hb
  rintro rfl
  subst hb;obtain⟨i,hi⟩:=qj.mp ha;exact Ad z i hi
 |some i=>
  dsimp only;obtain⟨w,hw⟩:=mZ z;refine⟨?_,by rw[ff];exact mj _⟩;have e:(kvs.set i (k,v)).map (·.1)=kvs.map (·.1):=by
   rw[kj];refine jn λt=>?_;rw[tw];split
   .rename_i ht
    subst ht;rw[if_pos (by rw[ak];exact(bn.mp hw).1),az,hw];rfl
   .rfl
  rw[e];exact nd
structure Tb(kvs:List (PV×PV))(C:List dF):Prop where
 int:∀x∈kvs,∃k i,x=(kE k,.int i)
 nd:(kvs.map (·.1)).Nodup
 val:∀k,(kE k,PV.int (dG C k))∈kvs\/((∀v,(kE k,v)∉kvs)/\dG C k=0)
 len:kvs.length<=C.length
theorem Tb.nil:Tb [] []:=⟨λ_ h=>absurd h db,qc,λk=>.inr ⟨λ_ h=>absurd h db,rfl⟩,al _⟩
theorem Tb.get{kvs:List (PV×PV)}{C:List dF}(h:Tb kvs C)(k:AZ):fJ kvs (kE k)=some (.int (dG C k))\/(fJ kvs (kE k)=none/\dG C k=0):=by
 rcases h.val k with e |⟨e,z⟩
 .exact .inl (rV h.nd e)
 .exact .inr ⟨O1 e,z⟩
theorem Tb.vint{kvs:List (PV×PV)}{C:List dF}(h:Tb kvs C)(k:AZ):nW (fJ kvs (kE k))=dG C k:=by
 rcases h.get k with e |⟨e,z⟩
 .rw[e];rfl
 .rw[e,z];rfl
theorem Tb.add{kvs:List (PV×PV)}{C:List dF}(h:Tb kvs C)(c:dF):Tb (iS kvs c) (C++[c]):=by
 have hm:=λx=>Jd h.nd (k:=kE c.1) (v:=.int (dG C c.1+c.2)) x;have en:=sN h.nd (k:=kE c.1) (v:=.int (dG C c.1+c.2));unfold iS;rw[h.vint];have sm:∀k,dG (C++[c]) k=dG C k+if c.1=k then c.2 else 0:=λk=>by rw[lM];simp[dG]
 refine⟨λx hx=>?_,en.1,λk=>?_,by rw[av];exact fh en.2 (zy h.len)⟩
 .rcases(hm x).mp hx with e |⟨_,e⟩
  .exact⟨_,_,e⟩
  .exact h.int x e
 .rw[sm]
  by_cases e:c.1=k
  .subst e
   rw[if_pos rfl];exact .inl ((hm _).mpr (.inl rfl))
  .rw[if_neg e,Int.add_zero]
   have ne:kE k≠kE c.1:=λz=>e (Kg z).symm;rcases h.val k with g |⟨g,z⟩
   .exact .inl ((hm _).mpr (.inr ⟨ne,g⟩))
   .refine .inr ⟨λv hv=>?_,z⟩
    rcases(hm _).mp hv with q |⟨_,q⟩
    .exact ne (congrArg Prod.fst q)
    .exact g v q
theorem Tb.adds{kvs:List (PV×PV)}{C:List dF}(h:Tb kvs C):∀D:List dF,Tb (gO kvs D) (C++D)
 |[]=>by rw[fk];exact h
 |c::D=>by
  have:=(h.add c).adds D;rw[ee]at this;exact this
def eO:AY->Int
 |[]=>0
 |n::r=>if n=0 then eO r else sg n
def aS(ns:AY):AY:=(low ns).map (eO ns*·)
theorem sA:aS (ns.map (- ·))=aS ns:=by
 unfold aS;have hf:∀l ,eO (l.map (- ·))=-eO l:=λl=>by
  induction l with
  |nil=>rfl
  |cons n l ih=>
   rw[ao];unfold eO
   by_cases h:n=0
   .simp_all
   .rw[if_neg h,if_neg (by omega),Ut]
 rw[aaJ,hf,dr];refine gf λn _=>?_;simp[a8]
def fM:AY->AY->AY
 |[x0,y0,w0],[x1,y1,w1]=>[x1*w0-x0*w1,y1*w0-y0*w1]
 |[x0,y0,z0,w0],[x1,y1,z1,w1]=>[x1*w0-x0*w1,y1*w0-y0*w1,z1*w0-z0*w1]
 |_,_=>[]
theorem mH{x0 y0 w0 x1 y1 w1:Int}:fM [x0,y0,w0] [x1,y1,w1]=[x1*w0-x0*w1,y1*w0-y0*w1]:=rfl
theorem mF{x0 y0 z0 w0 x1 y1 z1 w1:Int}:fM [x0,y0,z0,w0] [x1,y1,z1,w1]=[x1*w0-x0*w1,y1*w0-y0*w1,z1*w0-z0*w1]:=rfl
def eR:AY->AY->AY
 |[a,b,c],[d,e,f]=>[b*f-c*e,c*d-a*f,a*e-b*d]
 |_,_=>[]
theorem zP:eR [a,b,c] [d,e,f]=[b*f-c*e,c*d-a*f,a*e-b*d]:=rfl
def cT:AZ->AY
 |[p,q]=>(match fM p q with
  |[a,b]=>[-b,a]
  |_=>[])
 |[p,q,r]=>eR (fM p q) (fM p r)
 |_=>[]
theorem vS:cT [p,q]=(match fM p q with |[a,b]=>[-b,a] |_=>[]):=rfl
theorem vY:cT [p,q,r]=eR (fM p q) (fM p r):=rfl
def sd(pi s e:AY)(n:Int):List dF:=[([pi,aS (fM s e),s],n),([pi,aS (fM s e),e],-n)]
def Qa:AZ->List (AY×AY)
 |[p,q]=>[(p,q)]
 |[a,b,c]=>[(c,a),(a,b),(b,c)]
 |_=>[]
def cW(w:AZ)(n:Int):List dF:=(Qa w).flatMap λx=>sd (aS (cT w)) x.1 x.2 n
def yI:AZ->BA
 |[a,b,c]=>[[a,b],[b,c],[c,a]]
 |[a,b,c,d]=>[[b,c,d],[a,d,c],[a,b,d],[a,c,b]]
 |_=>[]
def cP(uss:AZ)(n:Int):List dF:=(yI uss).flatMap λw=>cW w n
def cH(hs:BA)(n:Int):List dF:=hs.flatMap λuss=>cP uss n
theorem Ex  (h:k≠0):sg k*sg k=1:=by
 unfold sg;grind
theorem Lo  (hk:0<k)(l:AY):aS (l.map (k*·))=aS l:=by
 by_cases z:gl l 0=0
 .have e:l.map (k*·)=l:=by
   have h:=Ke z;clear z
   induction l with
   |nil=>rfl
   |cons n l ih=>rw[ao,ih λm hm=>h m (bd _ hm),h n (bo ..),jw]
  rw[e]
 .have hf:∀l ,eO (l.map (k*·))=eO l:=λl=>by
   induction l with
   |nil=>rfl
   |cons n l ih=>
    rw[ao];unfold eO
    by_cases h:n=0
    .subst h
     simpa using ih
    .rw[if_neg h,if_neg (da (by omega) h),jL hk]
  unfold aS;rw[uJ hk l z,hf]
theorem Jo  (hk:k≠0)(l:AY):aS (l.map (k*·))=aS l:=by
 by_cases h:0<k
 .exact Lo h l
 .have e:l.map (k*·)=(l.map (-k*·)).map (- ·):=by
   rw[dr];refine gf λn _=>?_;show k*n=-(-k*n);rw[jv,Int.neg_neg]
  rw[e,sA,Lo (by omega) l]
theorem oI  {a b:Int}(ha:a≠0)(hb:b≠0)(h:u.map (a*·)=v.map (b*·)):aS u=aS v:=by
 rw[<-Jo ha,h,Jo hb]
theorem aa2(ns:AY):∃g:Int,ns=(aS ns).map (g*·):=by
 by_cases z:gl ns 0=0
 .have h:=Ke z
  refine⟨0,?_⟩;have hl:(aS ns).length=ns.length:=by unfold aS;rw[ak,xZ]
  generalize aS ns=D at hl;clear z
  induction ns generalizing D with
  |nil=>cases D with
   |nil=>rfl
   |cons a D=>simp at hl
  |cons n ns ih=>
   cases D with
   |nil=>simp at hl
   |cons a D=>
    rw[ao,<-ih (λm hm=>h m (bd _ hm)) D (by simpa using hl),h n (bo ..),qi]
 .obtain⟨g,_,e⟩:=Zr ns
  have hf:=by
   have:∀l:AY,gl l 0≠0->eO l*eO l=1:=λl=>by
    induction l with
    |nil=>intro h;exact absurd rfl h
    |cons n l ih=>
     intro h;unfold eO
     by_cases e:n=0
     .subst e
      exact ih (by simpa[gl]using h)
     .rw[if_neg e]
      exact Ex e
   exact this ns z
  refine⟨g*eO ns,?_⟩;unfold aS;rw[dr];refine e.trans ?_;refine gf λn _=>?_;grind
def tk(pi d p:AY)(k:AZ):Int:=if[pi,d,p]=k then 1 else 0
def Ed(pi s e:AY)(k:AZ):Int:=tk pi (aS (fM s e)) s k-tk pi (aS (fM s e)) e k
theorem Xw(pi s e:AY)(n:Int)(k:AZ):dG (sd pi s e n) k=n*Ed pi s e k:=by
 unfold sd Ed tk;simp only[dG];split<;>split<;>simp<;>omega
def W2(p q:AY)(k:AZ):Int:=Ed (aS (cT [p,q])) p q k
def W3(p q r:AY)(k:AZ):Int:=Ed (aS (cT [p,q,r])) r p k+Ed (aS (cT [p,q,r])) p q k+Ed (aS (cT [p,q,r])) q r k
def PS(uss:AZ)(k:AZ):Int:=match uss with
 |[a,b,c]=>W2 a b k+W2 b c k+W2 c a k
 |[a,b,c,d]=>W3 b c d k+W3 a d c k+W3 a b d k+W3 a c b k
 |_=>0
theorem aeu{uss:AZ}(h:uss.length=3\/uss.length=4)(n:Int)(k:AZ):dG (cP uss n) k=n*PS uss k:=by
 rcases h with h |h
 .obtain⟨a,b,c,rfl⟩:=len3 h
  simp only[cP,yI,cW,Qa,oh,AH,fk,lM,Xw,PS,W2];generalize Ed _ a b k=A;generalize Ed _ b c k=B;generalize Ed _ c a k=C;grind
 .obtain⟨a,b,c,d,rfl⟩:=len4 h
  simp only[cP,yI,cW,Qa,oh,AH,fk,lM,Xw,PS,W3,Int.mul_add];omega
theorem Td  (hn:n=2\/n=3){p q:AY}(hp:Pw n p)(hq:Pw n q):fM q p=(fM p q).map (- ·):=by
 rcases hn with rfl |rfl
 .obtain⟨x0,y0,w0,rfl,_⟩:=hp.two
  obtain⟨x1,y1,w1,rfl,_⟩:=hq.two;simp[mH,ue]
 .obtain⟨x0,y0,z0,w0,rfl,_⟩:=hp.three
  obtain⟨x1,y1,z1,w1,rfl,_⟩:=hq.three;simp[mF,ue]
theorem oM{n:Nat}(hn:n=2\/n=3){p q:AY}(hp:Pw n p)(hq:Pw n q)(pi:AY)(k:AZ):Ed pi q p k=-Ed pi p q k:=by
 unfold Ed;rw[Td hn hp hq,sA];omega
theorem qB{p q:AY}(hp:Pw 2 p)(hq:Pw 2 q)(k:AZ):W2 q p k=-W2 p q k:=by
 have e:cT [q,p]=(cT [p,q]).map (- ·):=by
  obtain⟨x0,y0,w0,rfl,_⟩:=hp.two;obtain⟨x1,y1,w1,rfl,_⟩:=hq.two;simp[vS,vY,mH,mF,ue]
 unfold W2;rw[e,sA,oM (.inl rfl) hp hq]
theorem l3{a b c d e f:Int}(h:a=d)(g:b=e)(i:c=f):[a,b,c]=[d,e,f]:=by simp_all
theorem Ch  (hp:Pw 3 p)(hq:Pw 3 q)(hr:Pw 3 r):aS (cT [q,p,r])=aS (cT [p,q,r]):=by
 obtain⟨x0,y0,z0,w0,rfl,p0⟩:=hp.three;obtain⟨x1,y1,z1,w1,rfl,p1⟩:=hq.three;obtain⟨x2,y2,z2,w2,rfl,p2⟩:=hr.three;refine oI (a:=w0) (b:=-w1) (by omega) (by omega) ?_;refine l3 ?_ ?_ ?_<;>grind
theorem aeQ  (hp:Pw 3 p)(hq:Pw 3 q)(hr:Pw 3 r):aS (cT [p,r,q])=aS (cT [p,q,r]):=by
 obtain⟨x0,y0,z0,w0,rfl,p0⟩:=hp.three;obtain⟨x1,y1,z1,w1,rfl,p1⟩:=hq.three;obtain⟨x2,y2,z2,w2,rfl,p2⟩:=hr.three;refine oI (a:=1) (b:=-1) (by omega) (by omega) ?_;refine l3 ?_ ?_ ?_<;>grind
theorem zS{p q r:AY}(hp:Pw 3 p)(hq:Pw 3 q)(hr:Pw 3 r)(k:AZ):W3 q p r k=-W3 p q r k:=by
 unfold W3;rw[Ch hp hq hr,oM (.inr rfl) hq hr,oM (.inr rfl) hp hq,oM (.inr rfl) hr hp];omega
theorem jQ{p q r:AY}(hp:Pw 3 p)(hq:Pw 3 q)(hr:Pw 3 r)(k:AZ):W3 p r q k=-W3 p q r k:=by
 unfold W3;rw[aeQ hp hq hr,oM (.inr rfl) hq hr,oM (.inr rfl) hp hq,oM (.inr rfl) hr hp];omega
def tV(A B:AZ):Prop:=∃s:Int,(s=1\/s=-1)/\dU B=s*dU A/\∀k,PS B k=s*PS A k
theorem tV.trans{A B C:AZ}(h:tV A B)(g:tV B C):tV A C:=by
 obtain⟨s,hs,e1,e2⟩:=h;obtain⟨t,ht,e3,e4⟩:=g;refine⟨t*s,?_,by rw[e3,e1,jh],λk=>by rw[e4,e2,jh]⟩;rcases hs with rfl |rfl<;>rcases ht with rfl |rfl<;>simp
theorem acf{n:Nat}(hn:n=2\/n=3){pre l:AZ}{x y:AY}(hl:(pre++y::x::l).length=n+1)(hp:∀u∈pre++y::x::l,Pw n u):tV (pre++y::x::l) (pre++x::y::l):=by
 refine⟨-1,.inr rfl,(Me hn hl hp).trans (by omega),λk=>?_⟩;have hx:=hp x (by simp);have hy:=hp y (by simp);rcases hn with rfl |rfl
 .match pre,l,hl with
  |[],[c],_=>
   have hc:=hp c (by simp);have h1:=qB hx hy k;have h2:=qB hx hc k;have h3:=qB hy hc k;simp only[PS,fx];omega
  |[c],[],_=>
   have hc:=hp c (by simp);have h1:=qB hx hy k;have h2:=qB hx hc k;have h3:=qB hy hc k;simp only[PS,fx,jo];omega
  |[],[],h=>simp at h
  |[],_::_::_,h=>simp at h
  |_::_::_,_,h=>simp at h;omega
  |[_],_::_,h=>simp at h
 .match pre,l,hl with
  |[],[c,d],_=>
   have hc:=hp c (by simp);have hd:=hp d (by simp);have a:=jQ hy hd hc k;have b:=jQ hx hc hd k;have e:=zS hy hx hd k;have f:=zS hx hc hy k;have g:=jQ hc hy hx k;have i:=zS hy hc hx k;simp only[PS,fx];omega
  |[c],[d],_=>
   have hc:=hp c (by simp);have hd:=hp d (by simp);have a:=zS hy hx hd k;have b:=jQ hc hy hd k;have e:=jQ hc hd hx k;have f:=jQ hc hx hy k;simp only[PS,fx,jo];omega
  |[c,d],[],_=>
   have hc:=hp c (by simp);have hd:=hp d (by simp);have a:=jQ hd hy hx k;have b:=jQ hc hx hy k;have e:=jQ hc hy hd k;have f:=jQ hc hd hx k;simp only[PS,fx,jo];omega
  |[],[],h=>simp at h
  |[],[_],h=>simp at h
  |[],_::_::_::_,h=>simp at h
  |[_],[],h=>simp at h
  |[_],_::_::_,h=>simp at h
  |[_,_],_::_,h=>simp at h
  |_::_::_::_,_,h=>simp at h;omega
theorem abS{n:Nat}(hn:n=2\/n=3){A B:AZ}(h:A.Perm B):∀pre:AZ,(pre++A).length=n+1->(∀u∈pre++A,Pw n u)->tV (pre++A) (pre++B):=by
 induction h with
 |nil=>exact λpre _ _=>⟨1,.inl rfl,(ij _).symm,λk=>(ij _).symm⟩
 |cons x _ ih=>
  intro pre hl hp;have:=ih (pre++[x]) (by simpa using hl) (by simpa using hp);simpa using this
 |swap x y l=>exact λpre hl hp=>acf hn hl hp
 |trans h1 h2 ih1 ih2=>
  intro pre hl hp;have e:∀u,u∈pre++_↔u∈pre++_:=λu=>(h1.append_left pre).mem_iff;exact(ih1 pre hl hp).trans (ih2 pre (by rw[<-(h1.append_left pre).length_eq];exact hl) λu hu=>hp u ((e u).mpr hu))
theorem Rf{n k:Nat}(hn:n=2\/n=3)(hk:k<=2000){uss:AZ}(hl:uss.length=n+1)(hg:∀us∈uss,Gu n k us)(nz:dU uss≠0)(kk:AZ):PS (bX uss) kk=sg (dU uss)*PS uss kk:=by
 obtain⟨s,hs,e1,e2⟩:=abS hn (pX (iP hn hl)).symm [] hl λu hu=>(hg u hu).pt;simp only[fx]at e1 e2;rw[nM hn hk hl hg]at e1;rw[e2];congr 1;unfold sg;rcases hs with rfl |rfl<;>(repeat' split)<;>omega
def HS:BA->AZ->Int
 |[],_=>0
 |u::hs,k=>PS u k+HS hs k
theorem Vg{n:Int}{k:AZ}:∀{hs:BA},(∀u∈hs,u.length=3\/u.length=4)->dG (cH hs n) k=n*HS hs k
 |[],_=>by simp[cH,dG,HS]
 |u::hs,h=>by
  have ih:=Vg (n:=n) (k:=k) (hs:=hs) λv hv=>h v (bd _ hv);unfold cH at ih⊢;rw[oh,lM,ih,aeu (h u bo),HS,Int.mul_add]
theorem Fu(hs gs:BA)(k:AZ):HS (hs++gs) k=HS hs k+HS gs k:=by
 induction hs with
 |nil=>simp[HS]
 |cons u hs ih=>simp[HS,ih];omega
theorem Ge{A B:BA}(h:A.Perm B)(k:AZ):HS A k=HS B k:=by
 induction h with
 |nil=>rfl
 |cons x _ ih=>simp only[HS,ih]
 |swap x y l=>simp only[HS];omega
 |trans _ _ ih1 ih2=>exact ih1.trans ih2
def gD(n:Nat)(u v:Int)(p q m:AY):Prop:=Pw n m/\∀j,j<=n->m.getD j 0*((u+v)*p.getD n 0*q.getD n 0)=(u*p.getD j 0*q.getD n 0+v*q.getD j 0*p.getD n 0)*m.getD n 0
theorem gD.symm{n:Nat}{u v:Int}{p q m:AY}(h:gD n u v p q m):gD n v u q p m:=⟨h.1,λj hj=>by
 have:=h.2 j hj;grind⟩
theorem gD.three{u v:Int}{x0 y0 z0 w0 x1 y1 z1 w1:Int}{m:AY}(h:gD 3 u v [x0,y0,z0,w0] [x1,y1,z1,w1] m):∃x y z w,m=[x,y,z,w]/\0<w/\x*((u+v)*w0*w1)=(u*x0*w1+v*x1*w0)*w/\y*((u+v)*w0*w1)=(u*y0*w1+v*y1*w0)*w/\z*((u+v)*w0*w1)=(u*z0*w1+v*z1*w0)*w:=by
 obtain⟨x,y,z,w,rfl,p⟩:=h.1.three;exact⟨x,y,z,w,rfl,p,h.2 0 (by decide),h.2 1 (by decide),h.2 2 (by decide)⟩
theorem gD.two{u v:Int}{x0 y0 w0 x1 y1 w1:Int}{m:AY}(h:gD 2 u v [x0,y0,w0] [x1,y1,w1] m):∃x y w,m=[x,y,w]/\0<w/\x*((u+v)*w0*w1)=(u*x0*w1+v*x1*w0)*w/\y*((u+v)*w0*w1)=(u*y0*w1+v*y1*w0)*w:=by
 obtain⟨x,y,w,rfl,p⟩:=h.1.two;exact⟨x,y,w,rfl,p,h.2 0 (by decide),h.2 1 (by decide)⟩
theorem lZ{u v x0 w0 x1 w1 x w:Int}(h:x*((u+v)*w0*w1)=(u*x0*w1+v*x1*w0)*w):(u+v)*w1*(x*w0-x0*w)=v*w*(x1*w0-x0*w1):=by grind
theorem ab5{n:Nat}(hn:n=2\/n=3){u v:Int}(hu:0<u)(hv:0<v){p q m:AY}(hp:Pw n p)(hq:Pw n q)(h:gD n u v p q m):∃a b:Int,a≠0/\b≠0/\(fM p m).map (a*·)=(fM p q).map (b*·):=by
 rcases hn with rfl |rfl
 .obtain⟨x0,y0,w0,rfl,p0⟩:=hp.two
  obtain⟨x1,y1,w1,rfl,p1⟩:=hq.two;obtain⟨x,y,w,rfl,p2,h1,h2⟩:=h.two;refine⟨(u+v)*w1,v*w,da (by omega) (by omega),da (by omega) (by omega),?_⟩;simp only[mH,mF,ao,aw];rw[lZ h1,lZ h2]
 .obtain⟨x0,y0,z0,w0,rfl,p0⟩:=hp.three
  obtain⟨x1,y1,z1,w1,rfl,p1⟩:=hq.three;obtain⟨x,y,z,w,rfl,p2,h1,h2,h3⟩:=h.three;refine⟨(u+v)*w1,v*w,da (by omega) (by omega),da (by omega) (by omega),?_⟩;simp only[mH,mF,ao,aw];rw[lZ h1,lZ h2,lZ h3]
theorem Ls{n:Nat}(hn:n=2\/n=3){u v:Int}(hu:0<u)(hv:0<v){p q m:AY}(hp:Pw n p)(hq:Pw n q)(h:gD n u v p q m):aS (fM p m)=aS (fM p q):=by
 obtain⟨a,b,ha,hb,e⟩:=ab5 hn hu hv hp hq h;exact oI ha hb e
theorem Mw{n:Nat}(hn:n=2\/n=3){u v:Int}(hu:0<u)(hv:0<v){p q m:AY}(hp:Pw n p)(hq:Pw n q)(h:gD n u v p q m)(pi:AY)(k:AZ):Ed pi p m k+Ed pi m q k=Ed pi p q k:=by
 have e1:=Ls hn hu hv hp hq h;have e2:aS (fM m q)=aS (fM p q):=by
  rw[Td hn hq h.1,sA,Ls hn hv hu hq hp h.symm,Td hn hp hq,sA]
 unfold Ed;rw[e1,e2];omega
theorem adB{u v:Int}(hu:0<u)(hv:0<v){p q m:AY}(hp:Pw 2 p)(hq:Pw 2 q)(h:gD 2 u v p q m)(k:AZ):W2 p m k+W2 m q k=W2 p q k:=by
 have nr:∀{p q m:AY}{u v:Int},0<u->0<v->Pw 2 p->Pw 2 q->gD 2 u v p q m->aS (cT [p,m])=aS (cT [p,q]):=λ{p q m u v} hu hv hp hq h=>by
  obtain⟨x0,y0,w0,rfl,p0⟩:=hp.two;obtain⟨x1,y1,w1,rfl,p1⟩:=hq.two;obtain⟨x,y,w,rfl,p2,h1,h2⟩:=h.two;refine oI (a:=(u+v)*w1) (b:=v*w) (da (by omega) (by omega)) (da (by omega) (by omega)) ?_;simp only[vS,vY,mH,mF,ao,aw];rw[kx,kx,lZ h1,lZ h2]
 have e1:=nr hu hv hp hq h;have e2:=nr hv hu hq hp h.symm;have sw:∀{p q:AY},Pw 2 p->Pw 2 q->aS (cT [q,p])=aS (cT [p,q]):=λ{p q} hp hq=>by
  obtain⟨x0,y0,w0,rfl,_⟩:=hp.two;obtain⟨x1,y1,w1,rfl,_⟩:=hq.two;rw[show cT [[x1,y1,w1],[x0,y0,w0]]=(cT [[x0,y0,w0],[x1,y1,w1]]).map (- ·) by simp[vS,vY,mH,mF,ue],sA]
 unfold W2;rw[e1,<-sw h.1 hq,e2,sw hp hq];exact Mw (.inl rfl) hu hv hp hq h _ k
theorem Br{u v:Int}(hu:0<u)(hv:0<v){p q m r:AY}(hp:Pw 3 p)(hq:Pw 3 q)(hr:Pw 3 r)(h:gD 3 u v p q m):aS (cT [p,m,r])=aS (cT [p,q,r]):=by
 obtain⟨x0,y0,z0,w0,rfl,p0⟩:=hp.three;obtain⟨x1,y1,z1,w1,rfl,p1⟩:=hq.three;obtain⟨x2,y2,z2,w2,rfl,p2⟩:=hr.three;obtain⟨x,y,z,w,rfl,p3,h1,h2,h3⟩:=h.three;refine oI (a:=(u+v)*w1) (b:=v*w) (da (by omega) (by omega)) (da (by omega) (by omega)) ?_;have g1:=lZ h1;have g2:=lZ h2;have g3:=lZ h3;simp only[vS,vY,mH,mF,zP,ao,aw];have key:∀{A B a b c d s t:Int},A*a=B*b->A*c=B*d->A*(a*s-c*t)=B*(b*s-d*t):=λ{A B a b c d s t} e f=>by
  rw[qy,<-jh,<-jh,e,f,qy,jh,jh]
 exact l3 (key g2 g3) (key g3 g1) (key g1 g2)
theorem Vv{u v:Int}(hu:0<u)(hv:0<v){p q m r:AY}(hp:Pw 3 p)(hq:Pw 3 q)(hr:Pw 3 r)(h:gD 3 u v p q m)(k:AZ):W3 p m r k+W3 m q r k=W3 p q r k:=by
 have e1:=Br hu hv hp hq hr h;have e2:=Br hv hu hq hp hr h.symm;have e3:=Ch hq h.1 hr;have e4:=Ch hp hq hr;have e5:=Mw (.inr rfl) hu hv hp hq h (aS (cT [p,q,r])) k;have e6:=oM (.inr rfl) h.1 hr (aS (cT [p,q,r])) k;unfold W3;rw[e1,e3,e2,e4];omega
theorem aeo{n:Nat}(hn:n=2\/n=3){u v:Int}(hu:0<u)(hv:0<v){p q m:AY}{R:AZ}(hl:(p::q::R).length=n+1)(hp:∀x∈p::q::R,Pw n x)(h:gD n u v p q m):(∀k,PS (m::q::R) k+PS (p::m::R) k=PS (p::q::R) k)/\sg (dU (m::q::R))=sg (dU (p::q::R))/\sg (dU (p::m::R))=sg (dU (p::q::R)):=by
 have h1:=hp p (by simp);have h2:=hp q (by simp);rcases hn with rfl |rfl
 .obtain⟨r,rfl⟩:=len1 (by simpa using hl)
  have h3:=hp r (by simp);refine⟨λk=>?_,?_⟩
  .have e1:=adB hu hv h1 h2 h k
   have e2:=qB h.1 h3 k;simp only[PS];omega
  .obtain⟨x0,y0,w0,rfl,p0⟩:=h1.two
   obtain⟨x1,y1,w1,rfl,p1⟩:=h2.two;obtain⟨x2,y2,w2,rfl,p2⟩:=h3.two;obtain⟨x,y,w,rfl,p3,g1,g2⟩:=h.two;have c0:0<(u+v)*w0*w1:=aj (aj (by omega) p0) p1;have c1:(u+v)*w0*w1*D2 x y w x1 y1 w1 x2 y2 w2=u*w1*w*D2 x0 y0 w0 x1 y1 w1 x2 y2 w2:=by unfold D2;grind
   have c2:(u+v)*w0*w1*D2 x0 y0 w0 x y w x2 y2 w2=v*w0*w*D2 x0 y0 w0 x1 y1 w1 x2 y2 w2:=by unfold D2;grind
   show sg (D2 _ _ _ _ _ _ _ _ _)=sg (D2 _ _ _ _ _ _ _ _ _)/\sg (D2 _ _ _ _ _ _ _ _ _)=_;rw[<-jL c0,c1,jL (aj (aj hu p1) p3)];refine⟨rfl,?_⟩;rw[<-jL c0,c2,jL (aj (aj hv p0) p3)];rfl
 .obtain⟨r,s,rfl⟩:=len2 (by simpa using hl)
  have h3:=hp r (by simp);have h4:=hp s (by simp);refine⟨λk=>?_,?_⟩
  .have e1:=Vv hu hv h1 h2 h3 h k
   have e2:=Vv hu hv h1 h2 h4 h k;have e3:=jQ h.1 h3 h4 k;have f1:=jQ h.1 h2 h3 k;have f2:=jQ h1 h.1 h3 k;have f3:=jQ h1 h2 h3 k;simp only[PS];omega
  .obtain⟨x0,y0,z0,w0,rfl,p0⟩:=h1.three
   obtain⟨x1,y1,z1,w1,rfl,p1⟩:=h2.three;obtain⟨x2,y2,z2,w2,rfl,p2⟩:=h3.three;obtain⟨x3,y3,z3,w3,rfl,p4⟩:=h4.three;obtain⟨x,y,z,w,rfl,p3,g1,g2,g3⟩:=h.three;have c0:0<(u+v)*w0*w1:=aj (aj (by omega) p0) p1;have ex:∀(x y z w a b c d:Int),(x*a+y*b+z*c+w*d)*((u+v)*w0*w1)=x*((u+v)*w0*w1)*a+y*((u+v)*w0*w1)*b+z*((u+v)*w0*w1)*c+w*((u+v)*w0*w1)*d:=λx y z w a b c d=>by grind
   have c1:(u+v)*w0*w1*D3 x y z w x1 y1 z1 w1 x2 y2 z2 w2 x3 y3 z3 w3=u*w1*w*D3 x0 y0 z0 w0 x1 y1 z1 w1 x2 y2 z2 w2 x3 y3 z3 w3:=by
    unfold D3;grind
   have c2:(u+v)*w0*w1*D3 x0 y0 z0 w0 x y z w x2 y2 z2 w2 x3 y3 z3 w3=v*w0*w*D3 x0 y0 z0 w0 x1 y1 z1 w1 x2 y2 z2 w2 x3 y3 z3 w3:=by
    unfold D3;grind
   show sg (D3 _ _ _ _ _ _ _ _ _ _ _ _ _ _ _ _)=sg (D3 _ _ _ _ _ _ _ _ _ _ _ _ _ _ _ _)/\sg (D3 _ _ _ _ _ _ _ _ _ _ _ _ _ _ _ _)=_;rw[<-jL c0,c1,jL (aj (aj hu p1) p3)];refine⟨rfl,?_⟩;rw[<-jL c0,c2,jL (aj (aj hv p0) p3)];rfl
theorem sq   {S S':aJ}{r:cE}(h:a ρ S=.nx ρ' S')(g:b ρ' S'=r):aE a b ρ S=r:=by
 rw[aE,h];exact g
theorem tD  {b:MS}{xs:BI}{S S':aJ}{v:AV}{r:bH AV}(hl:xs.length=np)(h:b (gJ n xs) S=.rt v S')(hc:jA S.length v S'=r):aL np n b xs S=r:=by
 unfold aL;rw[if_pos hl,h];exact hc
theorem Lm  {me:ME}{α:Type}(A B C:α->PV):∀(L:List α)(x y:BH),(∀v∈L,me [some (.pv (A v)),some (.pv (B v))] S=.ok (.pv (C v)) S)->bZ [] (gT 2 (cD (gN 0) (cD (gN 1) eA))) me (L.map λv=>.tup [A v,B v]) [x,y] S=.ok (L.map C) S
 |[],x,y,_=>dS
 |v::L,x,y,h=>by
  have e:=h v bo;have e':=Lm A B C L (some (.pv (A v))) (some (.pv (B v))) λu hu=>h u (bd _ hu);rw[ao,dX];simp[gN,gT,cD,eA,e,e']
theorem agp(L:BF){a:Nat}(h:a<=L.length):iT (.lst L) (some (a:Int)) none=some (.lst (L.drop a)):=by
 show some (PV.lst ((L.drop (min a _)).take (L.length-min a _)))=_;rw[yf h,uc (by simp_all)]
theorem Wz{ns:AY}{L:BF}{T:aJ}{k:Nat}(hl:L.length+k<=1000)(h0:0<L.length+k):∃(a:Nat)(n1:AY),cY [.ref 0,.pv (.int ((L.length+k:Nat):Int))] (.lst (li ns)::T)=.ok (.pv (.int (a:Int))) (.lst (li n1)::T)/\a<L.length+k:=by
 obtain⟨a,n1,e,a0,a1,_⟩:=iO (m:=((L.length+k:Nat):Int)) (show eP (.lst (li ns)::T) 0 ns from rfl) (by omega) (jR (by omega) (by omega));exact⟨a.toNat,n1,by rw[show((a.toNat:Nat):Int)=a by omega];exact e,by omega⟩
def Fin(n k:Nat)(P:AZ)(X:BA):Prop:=X=[P]\/∃(p q m:AY)(R:AZ)(u v:Int),0<u/\0<v/\gD n u v p q m/\Gu n k m/\P.Perm (p::q::R)/\X=[bX (m::q::R),bX (p::m::R)]
theorem xM{α:Type}:∀{L:List α}{i:Nat}{x:α},L[i]?=some x->L.Perm (x::L.eraseIdx i)
 |a::L,0,x,h=>by
  simp at h;subst h;exact List.Perm.refl _
 |a::L,i+1,x,h=>((xM (L:=L) (i:=i) (by simpa using h)).cons a).trans (List.Perm.swap x a _)
theorem aaX{α:Type}{P:List α}{i j:Nat}{p q m:α}(hij:i≠j)(hp:P[i]?=some p)(hq:P[j]?=some q):∃R,P.Perm (p::q::R)/\(P.set i m).Perm (m::q::R)/\(P.set j m).Perm (p::m::R):=by
 have one:∀{L:List α}{i:Nat}{x:α},L[i]?=some x->L.Perm (x::L.eraseIdx i):=xM;have il:i<P.length:=(bn.mp hp).1;have jl:j<P.length:=(bn.mp hq).1;have s1:(P.set i m).Perm (m::P.eraseIdx i):=by
  have:=one (L:=P.set i m) (i:=i) (x:=m) (df il);rw[uf]at this;exact this
 have s2:(P.set j m).Perm (p::(P.set j m).eraseIdx i):=one (by rw[dk (gw hij)];exact hp);rcases Nat.lt_or_ge j i with c |c
 .have hq':(P.eraseIdx i)[j]?=some q:=by rw[List.getElem?_eraseIdx_of_lt c];exact hq
  have jl':j<(P.eraseIdx i).length:=(bn.mp hq').1;refine⟨(P.eraseIdx i).eraseIdx j,(one hp).trans ((one hq').cons _),s1.trans ((one hq').cons _),?_⟩;rw[List.eraseIdx_set_gt c]at s2;have:=one (L:=(P.eraseIdx i).set j m) (i:=j) (x:=m) (df jl');rw[uf]at this;exact s2.trans (this.cons _)
 .have c':i<j:=by omega
  have hq':(P.eraseIdx i)[j-1]?=some q:=by rw[List.getElem?_eraseIdx_of_ge (by omega),Nat.sub_add_cancel (by omega)];exact hq
  have jl':j-1<(P.eraseIdx i).length:=(bn.mp hq').1;refine⟨(P.eraseIdx i).eraseIdx (j-1),(one hp).trans ((one hq').cons _),s1.trans ((one hq').cons _),?_⟩;rw[List.eraseIdx_set_lt c']at s2;have:=one (L:=(P.eraseIdx i).set (j-1) m) (i:=j-1) (x:=m) (df jl');rw[uf]at this;exact s2.trans (this.cons _)
theorem Ly{n k:Nat}{us:AY}(h:Gu n k us):∀x∈us,Bd k x:=λx hx=>by
 obtain⟨xs,w,rfl,P⟩:=h;rcases br.mp hx with h |h
 .exact P.bx x h
 .have:x=w:=by simpa using h
  rw[this];exact P.bw
theorem Sx.mono  {u:AZ}(h:Sx n k u)(hl:k<=l):Sx n l u:=⟨h.len,λus hu=>(h.gu _ hu).mono hl,h.nz,h.cn⟩
theorem Sw{n:Nat}(hn:n=2\/n=3){u v:Int}{p q m:AY}(hp:Pw n p)(hq:Pw n q)(h:gD n u v p q m){Y:AZ}(hY:∀y∈Y,Pw n y)(hl:Y.length=n):(u+v)*p.getD n 0*q.getD n 0*dU (m::Y)=u*q.getD n 0*m.getD n 0*dU (p::Y)+v*p.getD n 0*m.getD n 0*dU (q::Y):=by
 rcases hn with rfl |rfl
 .obtain⟨x0,y0,w0,rfl,_⟩:=hp.two
  obtain⟨x1,y1,w1,rfl,_⟩:=hq.two;obtain⟨x,y,w,rfl,_,g1,g2⟩:=h.two
  obtain⟨a,b,rfl⟩:=len2 hl
  obtain⟨x2,y2,w2,rfl,_⟩:=(hY a (by simp)).two;obtain⟨x3,y3,w3,rfl,_⟩:=(hY b (by simp)).two;show(u+v)*w0*w1*D2 x y w x2 y2 w2 x3 y3 w3=u*w1*w*D2 x0 y0 w0 x2 y2 w2 x3 y3 w3+v*w0*w*D2 x1 y1 w1 x2 y2 w2 x3 y3 w3;unfold D2;grind
 .obtain⟨x0,y0,z0,w0,rfl,_⟩:=hp.three
  obtain⟨x1,y1,z1,w1,rfl,_⟩:=hq.three;obtain⟨x,y,z,w,rfl,_,g1,g2,g3⟩:=h.three
  obtain⟨a,b,c,rfl⟩:=len3 hl
  obtain⟨x2,y2,z2,w2,rfl,_⟩:=(hY a (by simp)).three;obtain⟨x3,y3,z3,w3,rfl,_⟩:=(hY b (by simp)).three;obtain⟨x4,y4,z4,w4,rfl,_⟩:=(hY c (by simp)).three;show(u+v)*w0*w1*D3 x y z w x2 y2 z2 w2 x3 y3 z3 w3 x4 y4 z4 w4=u*w1*w*D3 x0 y0 z0 w0 x2 y2 z2 w2 x3 y3 z3 w3 x4 y4 z4 w4+v*w0*w*D3 x1 y1 z1 w1 x2 y2 z2 w2 x3 y3 z3 w3 x4 y4 z4 w4;unfold D3;grind
theorem Qh{n:Nat}(hn:n=2\/n=3){x y:AY}{l:AZ}(hl:l.length+1=n)(hp:∀u∈y::x::l,Pw n u):dU (x::y::l)=-dU (y::x::l):=Me hn (pre:=[]) (by simp;omega) (by simpa using hp)
theorem Pw.w{n:Nat}{p:AY}(h:Pw n p):0<p.getD n 0/\p.getLastD 0=p.getD n 0:=by
 obtain⟨xs,w,rfl,l,hw⟩:=h;have e:(xs++[w]).getD n 0=w:=by rw[<-l];simp
 rw[e];exact⟨hw,by simp⟩
theorem Uw{n:Nat}(hn:n=2\/n=3){u v:Int}{p q m:AY}(hp:Pw n p)(hq:Pw n q)(h:gD n u v p q m){R:AZ}(hR:∀y∈R,Pw n y)(hl:R.length+1=n):(u+v)*p.getD n 0*q.getD n 0*dU (m::q::R)=u*q.getD n 0*m.getD n 0*dU (p::q::R)/\(u+v)*p.getD n 0*q.getD n 0*dU (p::m::R)=v*p.getD n 0*m.getD n 0*dU (p::q::R):=by
 have qs:∀y∈q::R,Pw n y:=λy hy=>by
  rcases bj.mp hy with rfl |hy
  .exact hq
  .exact hR y hy
 have ps:∀y∈p::R,Pw n y:=λy hy=>by
  rcases bj.mp hy with rfl |hy
  .exact hp
  .exact hR y hy
 have e1:=Sw hn hp hq h qs (by rw[ci];exact hl);have e2:=Sw hn hp hq h ps (by rw[ci];exact hl);have z:∀{y:AY},Pw n y->dU (y::y::R)=0:=λ{y} hy=>by
  have:=Qh hn (x:=y) (y:=y) hl (λu hu=>by
   rcases bj.mp hu with rfl |hu
   .exact hy
   .rcases bj.mp hu with rfl |hu
    .exact hy
    .exact hR u hu)
  omega
 have s1:=Qh hn (x:=p) (y:=m) hl (λu hu=>by
  rcases bj.mp hu with rfl |hu
  .exact h.1
  .exact ps u hu)
 have s2:=Qh hn (x:=p) (y:=q) hl (λu hu=>by
  rcases bj.mp hu with rfl |hu
  .exact hq
  .exact ps u hu)
 rw[z hq,jw,Int.add_zero]at e1;rw[z hp,jw,yo]at e2;refine⟨e1,?_⟩;rw[s1,s2,kx,kx,e2]
theorem Gy{M a c d:Int}(hM:0<M)(hc:0<c)(e:M*a=c*d):M*(a.natAbs:Int)=c*(d.natAbs:Int):=by
 have h:=congrArg Int.natAbs e;rw[kh,kh]at h;have h:=congrArg (λx:Nat=>(x:Int)) h;simp only[yp]at h;rw[show((M.natAbs:Nat):Int)=M by omega,show((c.natAbs:Nat):Int)=c by omega]at h;exact h
def fN(n:Nat):BA->Rat
 |[]=>0
 |u::hs=>(dU u:Rat)/((sh n*wU u:Int):Rat)+fN n hs
theorem Xf(n:Nat)(A B:BA):fN n (A++B)=fN n A+fN n B:=by
 induction A with
 |nil=>show fN n B=0+fN n B;grind
 |cons u A ih=>simp only[jo,fN,ih];grind
theorem abK{n:Nat}{A B:BA}(h:A.Perm B):fN n A=fN n B:=by
 induction h with
 |nil=>rfl
 |cons x _ ih=>simp only[fN,ih]
 |swap x y l=>simp only[fN];grind
 |trans _ _ ih1 ih2=>exact ih1.trans ih2
theorem m0{a b:Rat}(ha:a≠0)(hb:b≠0):a*b≠0:=λz=>by
 rcases Rat.mul_eq_zero.mp z with z |z
 .exact ha z
 .exact hb z
theorem acs{dA dB d u v w w0 w1 c:Rat}(hw:w≠0)(h0:w0≠0)(h1:w1≠0)(hc:c≠0)(hu:u+v≠0)(e1:(u+v)*w0*w1*dA=u*w1*w*d)(e2:(u+v)*w0*w1*dB=v*w0*w*d):dA/(c*(w*w1))+dB/(c*(w0*w))=d/(c*(w0*w1)):=by
 have f1:dA=u*w*d/((u+v)*w0):=by grind
 have f2:dB=v*w*d/((u+v)*w1):=by grind
 rw[f1,f2];have n1:=m0 hc (m0 hw h1);have n2:=m0 hc (m0 h0 hw);have n3:=m0 hc (m0 h0 h1);have n4:=m0 hu h1;have n5:=m0 hu h0;grind
theorem i0{i:Int}(h:i≠0):(i:Rat)≠0:=λz=>h (Rat.intCast_inj.mp (z.trans rfl))
theorem Fs{n k l:Nat}(hn:n=2\/n=3)(hkl:k<=l)(hl:l<=2000){P:AZ}(h:Sx n k P){p q m:AY}{R:AZ}{u v:Int}(hu:0<u)(hv:0<v)(hm:gD n u v p q m)(gm:Gu n l m)(pm:P.Perm (p::q::R)):R.length+1=n/\(∀x∈p::q::R,Gu n l x)/\(∀x∈m::q::R,Gu n l x)/\(∀x∈p::m::R,Gu n l x)/\bX (p::q::R)=P/\dU (p::q::R)≠0/\dU (m::q::R)≠0/\dU (p::m::R)≠0:=by
 have g0:∀x∈p::q::R,Gu n l x:=λx hx=>(h.gu x (pm.mem_iff.mpr hx)).mono hkl;have l0:(p::q::R).length=n+1:=by rw[<-pm.length_eq];exact h.len
 have lr:R.length+1=n:=by simp only[ci]at l0;omega
 have c0:bX (p::q::R)=P:=by rw[<-Ob pm (iP hn l0)];exact h.cn
 have n0:dU (p::q::R)≠0:=λz=>by
  have:=nM hn hl l0 g0;rw[c0,z]at this;exact h.nz this
 have hp:=(g0 p (by simp)).pt;have hq:=(g0 q (by simp)).pt;obtain⟨e1,e2⟩:=Uw hn hp hq hm (R:=R) (λy hy=>(g0 y (by simp[hy])).pt) lr;have w0:=hp.w.1;have w1:=hq.w.1;have w:=hm.1.w.1;refine⟨lr,g0,λx hx=>?_,λx hx=>?_,c0,n0,λz=>?_,λz=>?_⟩
 .rcases bj.mp hx with rfl |hx
  .exact gm
  .exact g0 x (bd _ hx)
 .rcases bj.mp hx with rfl |hx
  .exact g0 _ (by simp)
  .rcases bj.mp hx with rfl |hx
   .exact gm
   .exact g0 x (by simp[hx])
 .rw[z,jw]at e1
  exact da (ck (aj (aj hu w1) w)) n0 e1.symm
 .rw[z,jw]at e2
  exact da (ck (aj (aj hv w0) w)) n0 e2.symm
theorem aeh{n k l:Nat}(hn:n=2\/n=3)(hkl:k<=l)(hl:l<=2000){P:AZ}{X:BA}(h:Sx n k P)(f:Fin n l P X):(∀kk,HS X kk=PS P kk)/\fN n X=fN n [P]:=by
 rcases f with rfl |⟨p,q,m,R,u,v,hu,hv,hm,gm,pm,rfl⟩
 .exact⟨λkk=>by simp[HS],rfl⟩
 .obtain⟨lr,g0,g1,g2,c0,n0,n1,n2⟩:=Fs hn hkl hl h hu hv hm gm pm
  have l0:∀a b:AY,(a::b::R).length=n+1:=λa b=>by simp only[ci];omega
  constructor
  .obtain⟨e,d1,d2⟩:=aeo hn hu hv (l0 p q) (λx hx=>(g0 x hx).pt) hm
   intro kk;simp only[HS];rw[Rf hn hl (l0 m q) g1 n1,Rf hn hl (l0 p m) g2 n2,d1,d2]
   conv=>rhs;rw[<-c0]
   rw[Rf hn hl (l0 p q) g0 n0,<-e kk];grind
  .have hp:=(g0 p (by simp)).pt
   have hq:=(g0 q (by simp)).pt;obtain⟨e1,e2⟩:=Uw hn hp hq hm (R:=R) (λy hy=>(g0 y (by simp[hy])).pt) lr;obtain⟨w0,f0⟩:=hp.w;obtain⟨w1,f1⟩:=hq.w;obtain⟨w,f⟩:=hm.1.w;have hM:=aj (aj (show 0<u+v by omega) w0) w1;have e1:=Gy hM (aj (aj hu w1) w) e1;have e2:=Gy hM (aj (aj hv w0) w) e2;rw[<-nM hn hl (l0 m q) g1,<-nM hn hl (l0 p q) g0,c0]at e1;rw[<-nM hn hl (l0 p m) g2,<-nM hn hl (l0 p q) g0,c0]at e2;have wR:0<sh n*wU R:=aj (oU n) (jZ λy hy=>g0 y (by simp[hy]));have k1:sh n*wU (bX (m::q::R))=sh n*wU R*(m.getD n 0*q.getD n 0):=by
    rw[Ee (pX (iP hn (l0 m q)))];simp only[wU,f,f1];grind
   have k2:sh n*wU (bX (p::m::R))=sh n*wU R*(p.getD n 0*m.getD n 0):=by
    rw[Ee (pX (iP hn (l0 p m)))];simp only[wU,f,f0];grind
   have k3:sh n*wU P=sh n*wU R*(p.getD n 0*q.getD n 0):=by
    rw[Ee pm];simp only[wU,f0,f1];grind
   simp only[fN];rw[k1,k2,k3];generalize m.getD n 0=W,q.getD n 0=W1,p.getD n 0=W0,sh n*wU R=c,dU P=d,dU (bX (p::m::R))=dB,dU (bX (m::q::R))=dA at *;have r1:=congrArg (λi:Int=>(i:Rat)) e1;have r2:=congrArg (λi:Int=>(i:Rat)) e2;simp only[AI,AJ]at r1 r2⊢;have:=acs (i0 (ck w)) (i0 (ck w0)) (i0 (ck w1)) (i0 (ck wR)) (u:=(u:Rat)) (v:=(v:Rat)) (by rw[<-AJ];exact i0 (by omega)) r1 r2;grind
theorem Rl(S:aJ)(g:Int)(hg:g≠0):∀(ns:AY)(x:BH),bZ [] (gN 0) (aC lQ (aA 0) (aA 1)) (ns.map .int) [x,some (.pv (.int g))] S=.ok ((ns.map λn=>n.fdiv g).map .int) S
 |[],x=>dS
 |n::ns,x=>by
  have ih:=Rl S g hg ns (some (.pv (.int n)));show bZ [] _ _ (.int n::ns.map .int) _ S=_;rw[dX];dsimp! [gN,Kc hg,ih]
theorem Dl(ns:AY)(S:aJ)(hb:∀n∈ns,Bd 1200000 n):iA [.pv (.lst (ns.map .int))] S=.ok (.pv (.tup ((low ns).map .int))) S:=by
 obtain⟨v',e⟩:=xJ S none ns 0 (.pv (.lst (ns.map .int)));unfold iA aL uK
 by_cases h:gl ns 0=0
 .have el:low ns=ns:=by unfold low;rw[if_pos h]
  dsimp! [aY,aX,bT,e,h,el]
 .have el:low ns=ns.map λn=>n.fdiv (gl ns 0):=by
   unfold low;rw[if_neg h];exact gf λn hn=>(my ((jY ns 0).2 n hn)).symm
  have ec:=Rl S (gl ns 0) h ns none;dsimp! [aY,aX,bT,e,h,el,bC,cQ,ec]
theorem Z9(t b:Int)(S:aJ)(ht:Bd 1200000 t)(hb:Bd 1200000 b):nF [.pv (.int t),.pv (.int b)] S=.ok (.pv (.tup ((fr t b).map .int))) S:=by
 unfold nF aL xX fr;have e1:=Dl [0-t,0-b] S (by
  intro n hn;rcases bj.mp hn with rfl |hn
  .rw[gg];exact ht.neg
  .have:n=0-b:=by simpa using hn
   rw[this,gg];exact hb.neg)
 have e2:=Dl [t,b] S (by
  intro n hn;rcases bj.mp hn with rfl |hn
  .exact ht
  .have:n=b:=by simpa using hn
   rw[this];exact hb)
 by_cases h:b<0
 .simp only[ao,aw,gg]at e1
  dsimp! [h,e1]
 .simp only[ao,aw]at e2
  dsimp! [h,e2]
def pl(u v:Int×Int):Int×Int:=((fr (u.1*v.2+v.1*u.2) (u.2*v.2)).getD 0 0,(fr (u.1*v.2+v.1*u.2) (u.2*v.2)).getD 1 0)
structure Fq(k:Nat)(u:Int×Int):Prop where
 pos:0<u.2
 b1:Bd k u.1
 b2:Bd k u.2
 lo:cf u.1 u.2=1
theorem Fq.mono  {u:Int×Int}(h:Fq k u)(hl:k<=l):Fq l u:=⟨h.pos,h.b1.mono hl,h.b2.mono hl,h.lo⟩
theorem Vx  {u v:Int×Int}(h:Fq k u)(g:Fq k v):fr (u.1*v.2+v.1*u.2) (u.2*v.2)=[(pl u v).1,(pl u v).2]/\Fq (2*k+1) (pl u v)/\(pl u v).1*(u.2*v.2)=(u.1*v.2+v.1*u.2)*(pl u v).2:=by
 have nz:=ck (aj h.pos g.pos);obtain⟨p,q,e,hq,c⟩:=vM  nz;have bt:Bd (2*k+1) (u.1*v.2+v.1*u.2):=by
  have:=(h.b1.mul g.b2).add (g.b1.mul h.b2);grind
 have bb:Bd (2*k+1) _:=(h.b2.mul g.b2).mono (by omega);obtain⟨b3,b4⟩:=zB bt bb e;have ep:pl u v=(p,q):=by unfold pl;rw[e];rfl
 rw[ep];exact⟨e,⟨hq,b3,b4,Gc nz e⟩,c⟩
theorem acQ{k:Nat}{u v:Int×Int}(S:aJ)(h:Fq k u)(g:Fq k v)(hk:2*k+1<=900000):qK [.pv (fv u),.pv (fv v)] S=.ok (.pv (fv (pl u v))) S:=by
 have nz:u.2*v.2≠0:=ck (aj h.pos g.pos);have bt:Bd 900000 (u.1*v.2+v.1*u.2):=by
  have:=(h.b1.mul g.b2).add (g.b1.mul h.b2);exact this.mono (by omega)
 have e:=Pb (u.1*v.2+v.1*u.2) (u.2*v.2) S bt ((h.b2.mul g.b2).mono (by omega)) nz;rw[(Vx h g).1]at e;simp only[ao,aw]at e;have m1:=mk h.b1 g.b2 (by omega) (by omega);have m2:=mk g.b1 h.b2 (by omega) (by omega);have m3:=mk h.b2 g.b2 (by omega) (by omega);unfold qK aL Af;dsimp! [m1,m2,m3,e]
def cO:List (Int×Int)->List (Int×Int)
 |a::b::L=>pl a b::cO L
 |L=>L
abbrev zX:MS:=(aE (aM 1 (bC ["one","other"] [] (gK (aB (qQ (aA 0) cJ cJ (2)) (aB (qQ (aA 0) (cU (mC (.int 1))) cJ (2)) aD))) (gT 2 (cD (gN 0) (cD (gN 1) eA))) (aH qK [] (aB (aA 0) (aB (aA 1) aD)))))
 (aM 0 (aC bF (aA 1) (cV (aA 0) (cU (aC aV (mC (.int 2)) (mR cS (aB (aA 1) aD)))) cJ))))
def ev{α:Type}:List α->List α
 |a::_::L=>a::ev L
 |L=>L
def od{α:Type}:List α->List α
 |_::b::L=>b::od L
 |_=>[]
def fI:List (Int×Int)->List ((Int×Int)×(Int×Int))
 |a::b::L=>(a,b)::fI L
 |_=>[]
theorem Fy:∀L:List α,(ce ((L.length+1)/2)).filterMap (λk=>L[2*k]?)=ev L
 |[]=>by simp[ev]
 |[a]=>by simp[ev]
 |a::b::L=>by
  have h:((a::b::L).length+1)/2=(L.length+1)/2+1:=by grind
  have ih:=Fy L;rw[h,AK,jp,ug];show a::_=a::ev L;rw[<-ih];rfl
theorem Qw:∀L:List α,(ce (L.length/2)).filterMap (λk=>L[2*k+1]?)=od L
 |[]=>by simp[od]
 |[a]=>by simp[od]
 |a::b::L=>by
  have h:(a::b::L).length/2=L.length/2+1:=by grind
  have ih:=Qw L;rw[h,AK,jp,ug];show b::_=b::od L;rw[<-ih];rfl
theorem aeX  (L:List α):kB L none none 2=ev L:=by
 rw[<-Fy];unfold kB sliceBounds sliceRange;simp only[xu];have h:(if(2:Int)>0 then if(if(2:Int)>0 then 0 else(L.length:Int)-1)<(if(2:Int)>0 then(L.length:Int)else-1)then((if(2:Int)>0 then(L.length:Int)else-1)-(if(2:Int)>0 then 0 else(L.length:Int)-1)+2-1)/2 else 0 else if(if(2:Int)>0 then 0 else(L.length:Int)-1)>(if(2:Int)>0 then(L.length:Int)else-1)then((if(2:Int)>0 then 0 else(L.length:Int)-1)-(if(2:Int)>0 then(L.length:Int)else-1)-2-1)/ -2 else 0).toNat=(L.length+1)/2:=by
  grind
 rw[h,ug];congr 1
 funext k
 show L[((if(2:Int)>0 then 0 else(L.length:Int)-1)+2*k).toNat]?=L[2*k]?;grind
theorem aeK{α:Type}(L:List α)(hl:0<L.length):kB L (some 1) none 2=od L:=by
 rw[<-Qw];unfold kB sliceBounds sliceRange;have m:max (0:Int) (min 1 (L.length:Int))=1:=by omega
 simp only[xu,gt_iff_lt,Int.reduceLT,↓reduceIte,m];have h:(if(1:Int)<(L.length:Int)then((L.length:Int)-1+2-1)/2 else 0).toNat=L.length/2:=by
  split<;>omega
 rw[h,ug];congr 1
 funext k
 show L[(1+2*(k:Int)).toNat]?=L[2*k+1]?;congr 1;omega
theorem Tu  (f:α->β):∀L:List α,ev (L.map f)=(ev L).map f
 |[]=>rfl
 |[_]=>rfl
 |a::b::L=>by
  show f a::ev _=f a::(ev L).map f;rw[Tu f L]
theorem Xv  (f:α->β):∀L:List α,od (L.map f)=(od L).map f
 |[]=>rfl
 |[_]=>rfl
 |a::b::L=>by
  show f b::od _=f b::(od L).map f;rw[Xv f L]
theorem Iu:∀L:List (Int×Int),gA ((ev L).map fv) ((od L).map fv)=(fI L).map λw=>PV.tup [fv w.1,fv w.2]
 |[]=>rfl
 |[_]=>rfl
 |a::b::L=>by
  show PV.tup _::gA _ _=PV.tup [fv a,fv b]::(fI L).map _;rw[Iu L]
theorem Tv:∀L:List (Int×Int),cO L=((fI L).map λw=>pl w.1 w.2)++L.drop (2*(fI L).length)/\2*(fI L).length<=L.length/\∀w∈fI L,w.1∈L/\w.2∈L
 |[]=>⟨rfl,al _,λ_ h=>nomatch h⟩
 |[_]=>⟨rfl,by simp[fI],λ_ h=>nomatch h⟩
 |a::b::L=>by
  obtain⟨h1,h2,h3⟩:=Tv L;refine⟨?_,by simp only[fI,ci];omega,λw hw=>?_⟩
  .show pl a b::cO L=pl a b::(((fI L).map _)++(a::b::L).drop _)
   rw[h1];rfl
  .rcases bj.mp hw with rfl |hw
   .exact⟨by simp,by simp⟩
   .exact⟨by simp[(h3 w hw).1],by simp[(h3 w hw).2]⟩
theorem aax{k:Nat}(S:aJ)(x:BH)(hk:2*k+1<=900000)(L:List (Int×Int))(h2:2<=L.length)(hl:L.length<=2000)(h:∀u∈L,Fq k u):∃y,zX [some (.pv (.lst (L.map fv))),x] S=.nx [some (.pv (.lst ((cO L).map fv))),y] S:=by
 obtain⟨s1,s2,s3⟩:=Tv L;have e1:=aeX (L.map fv);rw[Tu]at e1;have e2:=aeK (L.map fv) (by rw[ak];omega);rw[Xv]at e2;have e3:=Iu L;have e4:bZ [] (gT 2 (cD (gN 0) (cD (gN 1) eA))) (aH qK [] (aB (aA 0) (aB (aA 1) aD))) ((fI L).map λw=>PV.tup [fv w.1,fv w.2]) [none,none] S=.ok ((fI L).map λw=>fv (pl w.1 w.2)) S:=by
  refine Lm (λw:(Int×Int)×(Int×Int)=>fv w.1) (λw=>fv w.2) (λw=>fv (pl w.1 w.2)) (fI L) none none λw hw=>?_;have p:=acQ S (h _ (s3 w hw).1) (h _ (s3 w hw).2) hk;generalize fv w.2=B,fv w.1=A,fv (pl w.1 w.2)=R at *;dsimp! [p]
 have e5:=agp (L.map fv) (a:=2*(fI L).length) (by rw[ak];exact s2);have e7:((fI L).map λw=>fv (pl w.1 w.2)).length=(fI L).length:=ak ..;have e6:aV (.int 2) (.int ((((fI L).map λw=>fv (pl w.1 w.2)).length:Nat):Int))=some (.int ((2*(fI L).length:Nat):Int)):=by
  rw[e7];exact lO (.inl (.inl ⟨by decide,by omega⟩))
 have e8:((fI L).map λw=>fv (pl w.1 w.2)).length+((L.map fv).drop (2*(fI L).length)).length<=16777216:=by simp;omega
 have e9:(cO L).map fv=((fI L).map λw=>fv (pl w.1 w.2))++(L.map fv).drop (2*(fI L).length):=by
  rw[s1,du,dr,List.map_drop];rfl
 rw[e9];generalize 2*(fI L).length=c2,L.map fv=LL,(od L).map fv=OL,(ev L).map fv=EL,(L.map fv).drop (2*(fI L).length)=DL,(((fI L).map λw=>fv (pl w.1 w.2)):BF)=PL,(((fI L).map λw=>PV.tup [fv w.1,fv w.2]):BF)=ZL at *;refine⟨some (.pv (.lst PL)),?_⟩;unfold zX;generalize (aH qK [] (aB (aA 0) (aB (aA 1) aD)))=ME1 at *;refine sq (ρ':=[some (.pv (.lst LL)),some (.pv (.lst PL))]) (S':=S) ?_ ?_
 .dsimp! [bC,cQ,gK,kK,qQ,Dz,cJ,cU,fB,bT,e1,e2,e3,e4]
 .dsimp! [cV,cJ,cU,fB,e5,e6,e8]
theorem Ue:∀(L:List (Int×Int)),(cO L).length=(L.length+1)/2
 |[]=>rfl
 |[_]=>by simp[cO]
 |a::b::L=>by
  unfold cO;rw[ci,ci,ci,Ue L]<;>grind
theorem yT:∀(L:List (Int×Int)),(∀u∈L,Fq k u)->∀u∈cO L,Fq (2*k+1) u
 |[],h,u,hu=>by cases hu
 |[a],h,u,hu=>(h u hu).mono (by omega)
 |a::b::L,h,u,hu=>by
  rcases bj.mp hu with rfl |hu
  .exact(Vx (h a (by simp)) (h b (by simp))).2.1
  .exact yT L (λv hv=>h v (bd _ (bd _ hv))) u hu
def eW:Nat->List (Int×Int)->List (Int×Int)
 |0,L=>L
 |m+1,L=>if L.length<=1 then L else eW m (cO L)
abbrev vX:MT:=aR (aC dR (mR cS (aB (aA 0) aD)) (mC (.int 1)))
theorem Nl(S:aJ):∀(m k:Nat)(L:List (Int×Int))(x:BH),L.length<=2000->L.length<=2^m->2^m*(k+1)<=900000->(∀u∈L,Fq k u)->∃n y,eT vX zX n [some (.pv (.lst (L.map fv))),x] S=.nx [some (.pv (.lst ((eW m L).map fv))),y] S/\(eW m L).length<=1
 |m,k,L,x,h10,hm,hk,h=>by
  by_cases h1:L.length<=1
  .refine⟨1,x,?_,?_⟩
   .have c:vX [some (.pv (.lst (L.map fv))),x] S=.ok false S:=by
     unfold vX;have:decide ((1:Int)<(L.length:Int))=false:=by simp;omega
     dsimp! [this]
    have er:eW m L=L:=by
     cases m with
     |zero=>rfl
     |succ m=>unfold eW;rw[if_pos h1]
    unfold eT;rw[c,er];rfl
   .cases m with
    |zero=>exact h1
    |succ m=>unfold eW;rw[if_pos h1];exact h1
  .match m,hm,hk with
   |0,hm,_=>exact absurd hm (by simpa using h1)
   |m+1,hm,hk=>
    have hk2:2*k+1<=900000:=by
     have:2<=2^(m+1):=by
      rw[qk];have:=qg m;omega
     have:=yr (k+1) this;omega
    obtain⟨y,e⟩:=aax S x hk2 L (by omega) h10 h;have hl:=Ue L;have hp:2^(m+1)=2*2^m:=by rw[qk];omega
    obtain⟨n,z,e2,l2⟩:=Nl S m (2*k+1) (cO L) y (by omega) (by omega) (by
     rw[hp]at hk;have:2*2^m*(k+1)=2^m*(2*k+1+1):=by
      rw[tm 2,Nat.mul_assoc];congr 1
     omega) (yT L h)
    have er:eW (m+1) L=eW m (cO L):=by
     show(if L.length<=1 then L else eW m (cO L))=_;rw[if_neg h1]
    refine⟨n+1,z,?_,by rw[er];exact l2⟩;have c:vX [some (.pv (.lst (L.map fv))),x] S=.ok true S:=by
     unfold vX;have:decide ((1:Int)<(L.length:Int))=true:=by simp;omega
     dsimp! [this]
    unfold eT;rw[c,er];show(match zX _ S with |.nx ρ2 S2=>_ |.ct ρ2 S2=>_ |.bk ρ2 S2=>_ |.rt v S2=>_ |.exc n S2=>_ |.fail=>_)=_
    rw[e];exact e2
def mG(L:List (Int×Int)):Int×Int:=match eW 6 L with
 |[]=>(0,1)
 |u::_=>u
theorem X9(S:aJ){m k:Nat}{L:List (Int×Int)}(h10:L.length<=2000)(hm:L.length<=2^m)(m4:m<=6)(hk:2^m*(k+1)<=900000)(h:∀u∈L,Fq k u):yG [.pv (.lst (L.map fv))] S=.ok (.pv (fv (mG L))) S:=by
 obtain⟨n,y,e,l⟩:=Nl S m k L none h10 hm hk h;have w:=wT e (by simp);have er:∀(i j:Nat)(L:List (Int×Int)),i<=j->(eW i L).length<=1->eW j L=eW i L:=by
  intro i
  induction i with
  |zero=>
   intro j L _ hl;cases j with
   |zero=>rfl
   |succ j=>
    show(if L.length<=1 then L else _)=L;have hl:L.length<=1:=hl;rw[if_pos hl]
  |succ i ih=>
   intro j L hij hl;cases j with
   |zero=>omega
   |succ j=>
    show(if L.length<=1 then L else eW j (cO L))=(if L.length<=1 then L else eW i (cO L));split
    .rfl
    .rename_i hn
     have hl:(if L.length<=1 then L else eW i (cO L)).length<=1:=hl;rw[if_neg hn]at hl;exact ih j (cO L) (by omega) hl
 have e4:=er m 6 L m4 l;unfold mG;rw[e4];generalize eW m L=R at w l;unfold yG aL Te
 match R,l with
 |[],_=>
  simp only[aw]at w;dsimp! [w,vZ,zH]
 |[u],_=>
  simp only[ao,aw]at w;dsimp! [w,vZ,zH]
def vp(n:Nat)(uss:AZ):Int×Int:=((vf n uss).getD 0 0,(vf n uss).getD 1 0)
theorem vG{n k:Nat}(hn:n=2\/n=3){uss:AZ}(h:Sx n k uss):tv (vf n uss)=fv (vp n uss)/\Fq (4*k+6) (vp n uss):=by
 obtain⟨p,q,e,hq,b1,b2⟩:=aeJ hn h;have ep:vp n uss=(p,q):=by unfold vp;rw[e];rfl
 rw[ep,e];exact⟨rfl,hq,b1,b2,Gc (ck (aj (oU n) (jZ h.gu))) e⟩
theorem Tt{n k m:Nat}(hn:n=2\/n=3)(S:aJ){hs:BA}{A:PV}(hA:Sv A (hs.map px))(h:∀uss∈hs,Sx n k uss)(hk:k<=1440)(h10:hs.length<=2000)(hm:hs.length<=2^m)(m4:m<=6)(hb:2^m*(4*k+7)<=900000):nG [.pv A] S=.ok (.pv (fv (mG (hs.map (vp n))))) S:=by
 have e:bZ [] (gN 0) (aH rX [] (aB (aA 0) aD)) (hs.map px) [none] S=.ok (hs.map λuss=>fv (vp n uss)) S:=by
  refine rR (nB S) px (λuss=>fv (vp n uss)) hs none λuss hu=>?_;have e1:=R1 hn hk S (h uss hu);rw[(vG hn (h uss hu)).1]at e1;dsimp! [e1]
 have t:=X9 S (L:=hs.map (vp n)) (m:=m) (k:=4*k+6) (by simpa using h10) (by simpa using hm) m4 hb (λu hu=>by
  obtain⟨uss,hm,rfl⟩:=fg.mp hu;exact(vG hn (h uss hm)).2)
 rw[dr]at t;have et:(hs.map λuss=>fv (vp n uss))=hs.map (fv∘vp n):=rfl;rw[et]at e;unfold nG aL Hf;rcases hA with rfl |rfl<;>dsimp! [bC,cQ,aX,bT,e,t]
theorem Rq{p q b t:Int}(c:cf p q=1)(e:p*b=t*q):q.natAbs∣b.natAbs:=by
 have h:p.natAbs*b.natAbs=t.natAbs*q.natAbs:=by rw[<-kh,<-kh,e]
 have d:q.natAbs∣p.natAbs*b.natAbs:=⟨t.natAbs,by rw[h,tm]⟩;have c2:Nat.Coprime q.natAbs p.natAbs:=by
  have:Nat.gcd q.natAbs p.natAbs=1:=by rw[Nat.gcd_comm];exact c
  exact this
 exact c2.dvd_of_dvd_mul_left d
theorem vD{k l:Nat}{u v:Int×Int}(h:Fq k u)(g:Fq l v):fr (u.1*v.2+v.1*u.2) (u.2*v.2)=[(pl u v).1,(pl u v).2]/\Fq (k+l+1) (pl u v)/\(pl u v).1*(u.2*v.2)=(u.1*v.2+v.1*u.2)*(pl u v).2:=by
 have nz:u.2*v.2≠0:=ck (aj h.pos g.pos);obtain⟨p,q,e,hq,c⟩:=vM (t:=u.1*v.2+v.1*u.2) nz;have bt:Bd (k+l+1) (u.1*v.2+v.1*u.2):=by
  have:=(h.b1.mul g.b2).add ((g.b1.mul h.b2).mono (show l+k<=k+l by omega));exact this.mono (by omega)
 have bb:Bd (k+l+1) (u.2*v.2):=(h.b2.mul g.b2).mono (by omega);obtain⟨b3,b4⟩:=zB bt bb e;have ep:pl u v=(p,q):=by unfold pl;rw[e];rfl
 rw[ep];exact⟨e,⟨hq,b3,b4,Gc nz e⟩,c⟩
theorem Vq{k l:Nat}{u v:Int×Int}(S:aJ)(h:Fq k u)(g:Fq l v)(hk:k+l+1<=1200000)(k1:k<=1000000)(l1:l<=1000000):oR [.pv (fv u),.pv (fv v)] S=.ok (.pv (fv (pl u v))) S:=by
 have bt:Bd 1200000 (u.1*v.2+v.1*u.2):=by
  have:=(h.b1.mul g.b2).add ((g.b1.mul h.b2).mono (show l+k<=k+l by omega));exact this.mono (by omega)
 have e:=Z9 (u.1*v.2+v.1*u.2) (u.2*v.2) S bt ((h.b2.mul g.b2).mono (by omega));rw[(vD h g).1]at e;simp only[ao,aw]at e;have m1:=mk h.b1 g.b2 (by omega) (by omega);have m2:=mk g.b1 h.b2 (by omega) (by omega);have m3:=mk h.b2 g.b2 (by omega) (by omega);unfold oR aL Zf;dsimp! [m1,m2,m3,e]
def rv(u:Int×Int):Rat:=(u.1:Rat)/(u.2:Rat)
def rs:List (Int×Int)->Rat
 |[]=>0
 |u::L=>rv u+rs L
theorem abZ{p q a b c d:Int}(hb:b≠0)(hd:d≠0)(hq:q≠0)(h:p*(b*d)=(a*d+c*b)*q):(p:Rat)/q=(a:Rat)/b+(c:Rat)/d:=by
 have hb':(b:Rat)≠0:=by exact_mod_cast hb
 have hd':(d:Rat)≠0:=by exact_mod_cast hd
 have hq':(q:Rat)≠0:=by exact_mod_cast hq
 have h':(p:Rat)*(b*d)=(a*d+c*b)*q:=by exact_mod_cast h
 clear h hb hd hq;grind
theorem N9{p q a b:Int}(hb:b≠0)(hq:q≠0)(h:(p:Rat)/q=(a:Rat)/b):p*b=a*q:=by
 have hb':(b:Rat)≠0:=by exact_mod_cast hb
 have hq':(q:Rat)≠0:=by exact_mod_cast hq
 have:(p:Rat)*b=a*q:=by clear hb hq;grind
 exact_mod_cast this
theorem Ug{k l:Nat}{u v:Int×Int}(h:Fq k u)(g:Fq l v):rv (pl u v)=rv u+rv v:=by
 obtain⟨_,f,c⟩:=vD h g;exact abZ (ck h.pos) (ck g.pos) (ck f.pos) c
theorem ael{k l:Nat}{u v:Int×Int}(h:Fq k u)(g:Fq l v)(e:rv u=rv v):u=v:=by
 obtain⟨p,q⟩:=u;obtain⟨a,b⟩:=v;have hq:0<q:=h.pos;have hb:0<b:=g.pos;have c:p*b=a*q:=N9 (ck hb) (ck hq) e;have d1:=Rq h.lo c;have d2:=Rq g.lo c.symm;have e1:=Nat.dvd_antisymm d1 d2;have e2:q=b:=by omega
 subst e2;have:p=a:=AG (ck hq) c;rw[this]
theorem Lv{k:Nat}:∀L:List (Int×Int),(∀u∈L,Fq k u)->rs (cO L)=rs L
 |[],_=>rfl
 |[_],_=>rfl
 |a::b::L,h=>by
  have e:=Ug (h a (by simp)) (h b (by simp));have ih:=Lv L λv hv=>h v (bd _ (bd _ hv));show rv (pl a b)+rs (cO L)=rv a+(rv b+rs L);rw[e,ih];grind
theorem Uf:∀(m k:Nat)(L:List (Int×Int)),(∀u∈L,Fq k u)->L.length<=2^m->rs (eW m L)=rs L/\(eW m L).length<=1/\∃l,∀u∈eW m L,Fq l u
 |0,k,L,h,hl=>⟨rfl,hl,k,h⟩
 |m+1,k,L,h,hl=>by
  by_cases h1:L.length<=1
  .have e:eW (m+1) L=L:=by
    show(if L.length<=1 then L else _)=L;rw[if_pos h1]
   rw[e];exact⟨rfl,h1,k,h⟩
  .have e:eW (m+1) L=eW m (cO L):=by
    show(if L.length<=1 then L else eW m (cO L))=_;rw[if_neg h1]
   have l2:=Ue L;have hp:2^(m+1)=2*2^m:=by rw[qk];omega
   obtain⟨a,b,c⟩:=Uf m (2*k+1) (cO L) (yT L h) (by omega);rw[e,a,Lv L h];exact⟨rfl,b,c⟩
theorem zT:Fq 1 ((0,1):Int×Int):=⟨by decide,by unfold Bd;decide,by unfold Bd;decide,rfl ⟩
theorem Jy:rv (0,1)=0:=by
 show((0:Int):Rat)/((1:Int):Rat)=0;grind
theorem Mu{k:Nat}{L:List (Int×Int)}(h:∀u∈L,Fq k u)(hl:L.length<=64):rv (mG L)=rs L/\∃l,Fq l (mG L):=by
 obtain⟨a,b,l,c⟩:=Uf 6 k L h hl;unfold mG;rw[<-a];generalize eW 6 L=R at*
 match R,b,c with
 |[],_,_=>exact⟨Jy,1,zT⟩
 |[u],_,c=>
  refine⟨?_,l,c u (by simp)⟩;show rv u=rv u+0;grind
theorem Is{k:Nat}:∀(L:List (Int×Int))(l:Nat)(u:Int×Int),Fq l u->(∀v∈L,Fq k v)->rv (L.foldl pl u)=rv u+rs L/\Fq (l+L.length*(k+1)) (L.foldl pl u)
 |[],l,u,h,_=>⟨by show rv u=rv u+0;grind,by simpa using h⟩
 |v::L,l,u,h,g=>by
  obtain⟨_,f,_⟩:=vD h (g v (by simp));obtain⟨a,b⟩:=Is L (l+k+1) (pl u v) f λw hw=>g w (bd _ hw);refine⟨?_,b.mono ?_⟩
  .show rv (L.foldl pl (pl u v))=rv u+(rv v+rs L)
   rw[a,Ug h (g v (by simp))];grind
  .rw[ci,Nat.add_mul]
   omega
theorem afi{n k:Nat}(hn:n=2\/n=3)(hk:k<=2000){uss:AZ}(h:Sx n k uss):0<=dU uss:=by
 have e3:=nM hn hk h.len h.gu;rw[h.cn]at e3;omega
theorem acM{n k:Nat}(hn:n=2\/n=3)(hk:k<=900){uss:AZ}(S:aJ)(h:Sx n k uss):sE [.pv (px uss)] S=.ok (.pv (tv (vf n uss))) S:=by
 have nn:=afi hn (by omega) h;have hl:=h.len;have hg:=h.gu;clear h;rcases hn with rfl |rfl
 .obtain⟨a,b,c,rfl⟩:=len3 hl
  obtain⟨x0,y0,w0,rfl,q0,a0,b0,c0⟩:=(hg a (by simp)).two';obtain⟨x1,y1,w1,rfl,q1,a1,b1,c1⟩:=(hg b (by simp)).two';obtain⟨x2,y2,w2,rfl,q2,a2,b2,c2⟩:=(hg c (by simp)).two';have nn:0<=D2 x0 y0 w0 x1 y1 w1 x2 y2 w2:=nn;have u:∀{x:Int},Bd k x->Bd 2000 x:=λh=>h.mono (by omega);have o1:Bd 1 (1:Int):=by unfold Bd;decide
  have e:=Kq (A:=.tup [v2 x0 y0 w0,v2 x1 y1 w1,v2 x2 y2 w2]) S (.inr rfl) ⟨u a0,u b0,u c0,q0⟩ ⟨u a1,u b1,u c1,q1⟩ ⟨u a2,u b2,u c2,q2⟩;have bD:=Sg a0 b0 c0 a1 b1 c1 a2 b2 c2;have m1:=mk o1 c0 (by omega) (by omega);have m2:=mk (o1.mul c0) c1 (by omega) (by omega);have m3:=mk ((o1.mul c0).mul c1) c0 (by omega) (by omega);have m4:=mk (((o1.mul c0).mul c1).mul c0) c2 (by omega) (by omega);have m5:=mk ((((o1.mul c0).mul c1).mul c0).mul c2) pK (by omega) (by omega);have nz:1*w0*w1*w0*w2*2≠0:=ck (aj (aj (aj (aj (aj (by decide) q0) q1) q0) q2) (by decide));have f:=Le (w0*D2 x0 y0 w0 x1 y1 w1 x2 y2 w2) (1*w0*w1*w0*w2*2) S ((c0.mul bD).mono (by omega)) ((((((o1.mul c0).mul c1).mul c0).mul c2).mul pK).mono (by omega));have ev:vf 2 [[x0,y0,w0],[x1,y1,w1],[x2,y2,w2]]=fr (w0*D2 x0 y0 w0 x1 y1 w1 x2 y2 w2) (1*w0*w1*w0*w2*2):=by
   unfold vf;refine xN (ck (aj (oU 2) (jZ hg))) nz ?_;show D2 x0 y0 w0 x1 y1 w1 x2 y2 w2*_=w0*D2 x0 y0 w0 x1 y1 w1 x2 y2 w2*(2*(w0*(w1*(w2*1))));generalize D2 x0 y0 w0 x1 y1 w1 x2 y2 w2=d;grind
  rw[ev];have nb:¬w0*D2 x0 y0 w0 x1 y1 w1 x2 y2 w2<0:=by
   have:=yt (qz q0) nn;omega
  generalize D2 x0 y0 w0 x1 y1 w1 x2 y2 w2=d at e f nb⊢;have ab:jD [.int (w0*d)]=some (.int (w0*d)):=by
   simp only[jD];rw[if_neg nb]
  unfold sE aL xW;simp only[ao,aw,px,tv];generalize (fr (w0*d) (1*w0*w1*w0*w2*2)).map PV.int=FR at *;generalize hX:w0*d=X at *;simp only[ij]at m1 m2 m3 m4 m5 f;dsimp! [-jD,aY,aX,cV,cU,cJ,fB,bT,pA,dY,eZ,gN,m1,m2,m3,m4,m5,e,ab,f]
 .obtain⟨a,b,c,d,rfl⟩:=len4 hl
  obtain⟨x0,y0,z0,w0,rfl,q0,a0,b0,d0,c0⟩:=(hg a (by simp)).three';obtain⟨x1,y1,z1,w1,rfl,q1,a1,b1,d1,c1⟩:=(hg b (by simp)).three';obtain⟨x2,y2,z2,w2,rfl,q2,a2,b2,d2,c2⟩:=(hg c (by simp)).three';obtain⟨x3,y3,z3,w3,rfl,q3,a3,b3,d3,c3⟩:=(hg d (by simp)).three';have nn:0<=D3 x0 y0 z0 w0 x1 y1 z1 w1 x2 y2 z2 w2 x3 y3 z3 w3:=nn;have u:∀{x:Int},Bd k x->Bd 2000 x:=λh=>h.mono (by omega);have o1:Bd 1 (1:Int):=by unfold Bd;decide
  have e:=Zn (A:=.tup [v3 x0 y0 z0 w0,v3 x1 y1 z1 w1,v3 x2 y2 z2 w2,v3 x3 y3 z3 w3]) S (.inr rfl) ⟨u a0,u b0,u d0,u c0,q0⟩ ⟨u a1,u b1,u d1,u c1,q1⟩ ⟨u a2,u b2,u d2,u c2,q2⟩ ⟨u a3,u b3,u d3,u c3,q3⟩;have bD:=Rg a0 b0 d0 c0 a1 b1 d1 c1 a2 b2 d2 c2 a3 b3 d3 c3;have m1:=mk o1 c0 (by omega) (by omega);have m2:=mk (o1.mul c0) c1 (by omega) (by omega);have m3:=mk ((o1.mul c0).mul c1) c0 (by omega) (by omega);have m4:=mk (((o1.mul c0).mul c1).mul c0) c2 (by omega) (by omega);have m5:=mk ((((o1.mul c0).mul c1).mul c0).mul c2) c0 (by omega) (by omega);have m6:=mk (((((o1.mul c0).mul c1).mul c0).mul c2).mul c0) c3 (by omega) (by omega);have m7:=mk ((((((o1.mul c0).mul c1).mul c0).mul c2).mul c0).mul c3) mK (by omega) (by omega);have nz:1*w0*w1*w0*w2*w0*w3*6≠0:=ck (aj (aj (aj (aj (aj (aj (aj (by decide) q0) q1) q0) q2) q0) q3) (by decide));have f:=Le (w0*w0*D3 x0 y0 z0 w0 x1 y1 z1 w1 x2 y2 z2 w2 x3 y3 z3 w3) (1*w0*w1*w0*w2*w0*w3*6) S (((c0.mul c0).mul bD).mono (by omega)) ((((((((o1.mul c0).mul c1).mul c0).mul c2).mul c0).mul c3).mul mK).mono (by omega));have ev:vf 3 [[x0,y0,z0,w0],[x1,y1,z1,w1],[x2,y2,z2,w2],[x3,y3,z3,w3]]=fr (w0*w0*D3 x0 y0 z0 w0 x1 y1 z1 w1 x2 y2 z2 w2 x3 y3 z3 w3) (1*w0*w1*w0*w2*w0*w3*6):=by
   unfold vf;refine xN (ck (aj (oU 3) (jZ hg))) nz ?_;show D3 x0 y0 z0 w0 x1 y1 z1 w1 x2 y2 z2 w2 x3 y3 z3 w3*_=w0*w0*D3 x0 y0 z0 w0 x1 y1 z1 w1 x2 y2 z2 w2 x3 y3 z3 w3*(6*(w0*(w1*(w2*(w3*1)))));generalize D3 x0 y0 z0 w0 x1 y1 z1 w1 x2 y2 z2 w2 x3 y3 z3 w3=d;grind
  rw[ev];have nb:¬w0*w0*D3 x0 y0 z0 w0 x1 y1 z1 w1 x2 y2 z2 w2 x3 y3 z3 w3<0:=by
   have:=yt (yt (qz q0) (qz q0)) nn;omega
  generalize D3 x0 y0 z0 w0 x1 y1 z1 w1 x2 y2 z2 w2 x3 y3 z3 w3=d at e f nb⊢;have ab:jD [.int (w0*w0*d)]=some (.int (w0*w0*d)):=by
   simp only[jD];rw[if_neg nb]
  unfold sE aL xW;simp only[ao,aw,px,tv];generalize (fr (w0*w0*d) (1*w0*w1*w0*w2*w0*w3*6)).map PV.int=FR at *;generalize hX:w0*w0*d=X at *;simp only[ij]at m1 m2 m3 m4 m5 m6 m7 f;dsimp! [-jD,aY,aX,cV,cU,cJ,fB,bT,pA,dY,eZ,gN,m1,m2,m3,m4,m5,m6,m7,e,ab,f]
theorem Dr{n k:Nat}(hn:n=2\/n=3)(hk:k<=900)(S:aJ)(x0:BH):∀(hs:BA)(l:Nat)(u:Int×Int)(x2:BH),(∀uss∈hs,Sx n k uss)->Fq l u->l+hs.length*(4*k+7)<=16000->∃y2,dL [] (gN 2) (aM 1 (aH oR [] (aB (aA 1) (aB (aH sE [] (aB (aA 2) aD)) aD)))) (hs.map px) [x0,some (.pv (fv u)),x2] S=.nx [x0,some (.pv (fv ((hs.map (vp n)).foldl pl u))),y2] S
 |[],l,u,x2,_,_,_=>⟨x2,eZ⟩
 |uss::hs,l,u,x2,h,f,hl=>by
  have s:=h uss (by simp);have e1:=acM hn hk S s;have v:=vG hn s;rw[v.1]at e1;have hl:l+(hs.length+1)*(4*k+7)<=16000:=hl;rw[Nat.add_mul]at hl;have e2:=Vq S f v.2 (by omega) (by omega) (by omega);obtain⟨y2,ih⟩:=Dr hn hk S x0 hs (l+(4*k+6)+1) (pl u (vp n uss)) (some (.pv (px uss))) (λx hx=>h x (bd _ hx)) (vD f v.2).2.1 (by omega);refine⟨y2,?_⟩;have el:((uss::hs).map (vp n)).foldl pl u=(hs.map (vp n)).foldl pl (pl u (vp n uss)):=rfl;rw[ao,dY,el];generalize hs.map px=G6,px uss=G5,fv u=G4,fv (vp n uss)=G3,fv (pl u (vp n uss))=G2,fv ((hs.map (vp n)).foldl pl (pl u (vp n uss)))=G1 at *;dsimp! [gN,e1,e2,ih]
theorem D4{n k:Nat}(hn:n=2\/n=3)(hk:k<=900)(S:aJ){hs:BA}(h:∀uss∈hs,Sx n k uss)(hl:1+hs.length*(4*k+7)<=16000):rJ [.pv (.lst (hs.map px))] S=.ok (.pv (fv ((hs.map (vp n)).foldl pl (0,1)))) S:=by
 obtain⟨y2,e⟩:=Dr hn hk S (some (.pv (.lst (hs.map px)))) hs 1 (0,1) none h zT hl;generalize hs.map px=G6,fv ((hs.map (vp n)).foldl pl (0,1))=G1 at *;unfold rJ aL Db;dsimp! [aY,aX,bT,e]
theorem zF{n k:Nat}(hn:n=2\/n=3):∀{hs:BA},(∀u∈hs,Sx n k u)->rs (hs.map (vp n))=fN n hs
 |[],_=>rfl
 |u::hs,h=>by
  have ih:=zF hn (hs:=hs) λv hv=>h v (bd _ hv);have s:=h u bo;have f:=(vG hn s).2;have wp:0<sh n*wU u:=aj (oU n) (jZ s.gu);obtain⟨p,q,e,hq,c⟩:=vM (t:=dU u) (ck wp);have e:vp n u=(p,q):=by unfold vp vf;rw[e];rfl
  rw[ao];unfold rs fN rv;rw[ih,e];have r:=congrArg (λi:Int=>(i:Rat)) c;have n1:=i0 (ck wp);have n2:=i0 (ck hq);generalize sh n*wU u=W at *;simp only[AI]at r;have:(p:Rat)/q=(dU u:Rat)/W:=by grind
  rw[this]
theorem Km(S:aJ):∀(ns:AY)(x:BH),bZ [] (gN 0) (aC cX (mC (.int 0)) (aA 0)) (ns.map .int) [x] S=.ok ((ns.map (- ·)).map .int) S
 |[],x=>dS
 |n::ns,x=>by
  rw[ao,dX];dsimp! [gN,Km S ns]
theorem Er(ns:AY):∃g:Int,g≠0/\ns=(aS ns).map (g*·):=by
 obtain⟨g,e⟩:=aa2 ns
 by_cases h:g=0
 .refine⟨1,by decide,?_⟩
  have z:∀n∈ns,n=0:=λn hn=>by
   rw[e,h]at hn;obtain⟨m,_,rfl⟩:=fg.mp hn;exact qi m
  have z2:∀n∈aS ns,n=0:=λn hn=>by
   unfold aS at hn;obtain⟨m,hm,rfl⟩:=fg.mp hn;have:m=0:=by
    unfold low at hm;split at hm
    .exact z m hm
    .obtain⟨x,hx,rfl⟩:=fg.mp hm
     rw[z x hx,Int.zero_ediv]
   rw[this,jw]
  have l:ns.length=(aS ns).length:=by unfold aS;rw[ak,xZ]
  have e1:=AL z;have e2:=AL z2;rw[e2,<-l,List.map_replicate];exact e1
 .exact⟨g,h,e⟩
abbrev Pr(u v:AY):Prop:=∃a b:Int,a≠0/\b≠0/\u.map (a*·)=v.map (b*·)
theorem iC{u v:AY}:aS u=aS v↔Pr u v:=by
 constructor
 .intro h
  obtain⟨g,hg,e⟩:=Er u;obtain⟨k,hk,f⟩:=Er v;refine⟨k,g,hk,hg,?_⟩;have e1:=congrArg (sy (k*·)) e;have f1:=congrArg (sy (g*·)) f;rw[e1,f1,h,dr,dr];refine gf λx _=>?_;show k*(g*x)=g*(k*x);grind
 .rintro⟨a,b,ha,hb,e⟩
  exact oI ha hb e
def ext:AY->AY->AY
 |[a,b,c],[x,y,z,t]=>[a*t,b*t,c*t,0-(a*x+b*y+c*z)]
 |_,_=>[]
theorem Ei{a b c x y z t:Int}:ext [a,b,c] [x,y,z,t]=[a*t,b*t,c*t,0-(a*x+b*y+c*z)]:=rfl
def tZ:AY->AY->AY
 |[a,b,c],[x,y,z,t]=>[a*t,b*t,c*t,y*c-z*b,z*a-x*c,x*b-y*a]
 |_,_=>[]
theorem Th{a b c x y z t:Int}:tZ [a,b,c] [x,y,z,t]=[a*t,b*t,c*t,y*c-z*b,z*a-x*c,x*b-y*a]:=rfl
def exf:AY->AY->AY
 |[a,b],[x,y,t]=>[-(b*t),a*t,x*b-y*a]
 |_,_=>[]
def fR:AY->AY->AY
 |[x0,y0,z0,w0],[x1,y1,z1,w1]=>[x1*w0-x0*w1,y1*w0-y0*w1,z1*w0-z0*w1,y0*z1-z0*y1,z0*x1-x0*z1,x0*y1-y0*x1]
 |_,_=>[]
theorem Vh{x0 y0 z0 w0 x1 y1 z1 w1:Int}:fR [x0,y0,z0,w0] [x1,y1,z1,w1]=[x1*w0-x0*w1,y1*w0-y0*w1,z1*w0-z0*w1,y0*z1-z0*y1,z0*x1-x0*z1,x0*y1-y0*x1]:=rfl
theorem Nr{a b c d e f x y z t:Int}(ht:0<t):Pr (ext [a,b,c] [x,y,z,t]) (ext [d,e,f] [x,y,z,t])↔Pr [a,b,c] [d,e,f]:=by
 constructor
 .rintro⟨k,l,hk,hl,h⟩
  simp only[Ei,ao,aw,dz,and_true]at h;refine⟨k*t,l*t,da hk (by omega),da hl (by omega),?_⟩;obtain⟨h1,h2,h3,_⟩:=h;exact l3 (by grind) (by grind) (by grind)
 .rintro⟨k,l,hk,hl,h⟩
  simp only[ao,aw,dz,and_true]at h;obtain⟨h1,h2,h3⟩:=h;refine⟨k,l,hk,hl,?_⟩;simp only[Ei,ao,aw,dz,and_true];exact⟨by grind,by grind,by grind,by grind⟩
theorem Tr{a b c d e f x y z t:Int}(ht:0<t):Pr (tZ [a,b,c] [x,y,z,t]) (tZ [d,e,f] [x,y,z,t])↔Pr [a,b,c] [d,e,f]:=by
 constructor
 .rintro⟨k,l,hk,hl,h⟩
  simp only[Th,ao,aw,dz,and_true]at h;refine⟨k*t,l*t,da hk (by omega),da hl (by omega),?_⟩;obtain⟨h1,h2,h3,_⟩:=h;exact l3 (by grind) (by grind) (by grind)
 .rintro⟨k,l,hk,hl,h⟩
  simp only[ao,aw,dz,and_true]at h;obtain⟨h1,h2,h3⟩:=h;refine⟨k,l,hk,hl,?_⟩;simp only[Th,ao,aw,dz,and_true];exact⟨by grind,by grind,by grind,by grind,by grind,by grind⟩
theorem Jr{a b d e x y t:Int}(ht:0<t):Pr (exf [a,b] [x,y,t]) (exf [d,e] [x,y,t])↔Pr [a,b] [d,e]:=by
 constructor
 .rintro⟨k,l,hk,hl,h⟩
  simp only[exf,ao,aw,dz,and_true]at h;refine⟨k*t,l*t,da hk (by omega),da hl (by omega),?_⟩;obtain⟨h1,h2,_⟩:=h;simp only[ao,aw,dz,and_true];exact⟨by grind,by grind⟩
 .rintro⟨k,l,hk,hl,h⟩
  simp only[ao,aw,dz,and_true]at h;obtain⟨h1,h2⟩:=h;refine⟨k,l,hk,hl,?_⟩;simp only[exf,ao,aw,dz,and_true];exact⟨by grind,by grind,by grind⟩
theorem ae8{x0 y0 z0 w0 x1 y1 z1 w1 x2 y2 z2 w2:Int}(h0:0<w0)(h1:0<w1)(h2:0<w2):Pr (ext (cT [[x0,y0,z0,w0],[x1,y1,z1,w1],[x2,y2,z2,w2]]) [x0,y0,z0,w0]) (ext (cT [[x0,y0,z0,w0],[x1,y1,z1,w1],[x2,y2,z2,w2]]) [x1,y1,z1,w1])/\Pr (ext (cT [[x0,y0,z0,w0],[x1,y1,z1,w1],[x2,y2,z2,w2]]) [x0,y0,z0,w0]) (ext (cT [[x0,y0,z0,w0],[x1,y1,z1,w1],[x2,y2,z2,w2]]) [x2,y2,z2,w2]):=by
 refine⟨⟨w1,w0,by omega,by omega,?_⟩,⟨w2,w0,by omega,by omega,?_⟩⟩<;>
 .simp only[Ei,vS,vY,zP,mH,mF,ao,aw,dz,and_true]
  exact⟨by grind,by grind,by grind,by grind⟩
theorem adQ{x0 y0 z0 w0 x1 y1 z1 w1:Int}(h0:0<w0)(h1:0<w1):Pr (fR [x0,y0,z0,w0] [x1,y1,z1,w1]) (tZ (fM [x0,y0,z0,w0] [x1,y1,z1,w1]) [x0,y0,z0,w0])/\Pr (fR [x0,y0,z0,w0] [x1,y1,z1,w1]) (tZ (fM [x0,y0,z0,w0] [x1,y1,z1,w1]) [x1,y1,z1,w1]):=by
 refine⟨⟨w0,1,by omega,by omega,?_⟩,⟨w1,1,by omega,by omega,?_⟩⟩<;>
 .simp only[Vh,Th,mH,mF,ao,aw,dz,and_true]
  exact⟨by grind,by grind,by grind,by grind,by grind,by grind⟩
theorem ac2{x0 y0 z0 w0 x1 y1 z1 w1:Int}:aS (fR [x1,y1,z1,w1] [x0,y0,z0,w0])=aS (fR [x0,y0,z0,w0] [x1,y1,z1,w1]):=oI (a:=1) (b:=-1) (by decide) (by decide) (by
 simp only[Vh,ao,aw,dz,and_true];exact⟨by grind,by grind,by grind,by grind,by grind,by grind⟩)
theorem aef{x0 y0 w0 x1 y1 w1:Int}(h0:0<w0)(h1:0<w1):Pr (eR [x0,y0,w0] [x1,y1,w1]) (exf (fM [x0,y0,w0] [x1,y1,w1]) [x0,y0,w0])/\Pr (eR [x0,y0,w0] [x1,y1,w1]) (exf (fM [x0,y0,w0] [x1,y1,w1]) [x1,y1,w1]):=by
 refine⟨⟨w0,1,by omega,by omega,?_⟩,⟨w1,1,by omega,by omega,?_⟩⟩<;>
 .simp only[zP,exf,mH,mF,ao,aw,dz,and_true]
  exact⟨by grind,by grind,by grind⟩
def Lk(n:Nat)(k l:AZ):Prop:=
 (n=3/\∃a b c d e f x y z t:Int,0<t/\k=[aS [a,b,c],aS [d,e,f],[x,y,z,t]]/\l=[aS (ext [a,b,c] [x,y,z,t]),aS (tZ [d,e,f] [x,y,z,t]),[x,y,z,t]])\/
 (n=2/\∃a b x y t:Int,0<t/\k=[aS [-b,a],aS [a,b],[x,y,t]]/\l=[aS (exf [a,b] [x,y,t]),[x,y,t]])
theorem Lk.iff{n:Nat}{k l k' l':AZ}(h:Lk n k l)(h':Lk n k' l'):k=k'↔l=l':=by
 rcases h with⟨hn,a,b,c,d,e,f,x,y,z,t,ht,rfl,rfl⟩|⟨hn,a,b,x,y,t,ht,rfl,rfl⟩<;>
 rcases h' with⟨hn',a',b',c',d',e',f',x',y',z',t',ht',rfl,rfl⟩|⟨hn',a',b',x',y',t',ht',rfl,rfl⟩
 .have key:∀P:Prop,(P/\[x,y,z,t]=[x',y',z',t'])=([x,y,z,t]=[x',y',z',t']/\P):=λP=>by rw[and_comm]
  simp only[dz,and_true];constructor
  .rintro⟨h1,h2,rfl,rfl,rfl,rfl⟩
   exact⟨iC.mpr ((Nr ht).mpr (iC.mp h1)),iC.mpr ((Tr ht).mpr (iC.mp h2)),rfl,rfl,rfl,rfl⟩
  .rintro⟨h1,h2,rfl,rfl,rfl,rfl⟩
   exact⟨iC.mpr ((Nr ht).mp (iC.mp h1)),iC.mpr ((Tr ht).mp (iC.mp h2)),rfl,rfl,rfl,rfl⟩
 .omega
 .omega
 .simp only[dz,and_true]
  constructor
  .rintro⟨_,h2,rfl,rfl,rfl⟩
   exact⟨iC.mpr ((Jr ht).mpr (iC.mp h2)),rfl,rfl,rfl⟩
  .rintro⟨h1,rfl,rfl,rfl⟩
   have q:=(Jr ht).mp (iC.mp h1);refine⟨?_,iC.mpr q,rfl,rfl,rfl⟩;obtain⟨k,l,hk,hl,h⟩:=q;simp only[ao,aw,dz,and_true]at h;refine oI hk hl ?_;simp only[ao,aw,dz,and_true];exact⟨by grind,by grind⟩
def iL(n:Nat):List dF->List dF->Prop
 |[],[]=>True
 |c::C,d::D=>(Lk n c.1 d.1/\c.2=d.2)/\iL n C D
 |_,_=>False
theorem iL.app{n:Nat}:∀{C D C' D':List dF},iL n C D->iL n C' D'->iL n (C++C') (D++D')
 |[],[],_,_,_,h=>h
 |c::C,d::D,_,_,h,h'=>⟨h.1,h.2.app h'⟩
theorem iL.at{n:Nat}{k l:AZ}(hk:Lk n k l):∀{C D:List dF},iL n C D->dG C k=dG D l
 |[],[],_=>rfl
 |c::C,d::D,h=>by
  unfold dG;rw[iL.at hk h.2,h.1.2]
  by_cases e:c.1=k
  .rw[if_pos e,if_pos ((h.1.1.iff hk).mp e)]
  .rw[if_neg e,if_neg λz=>e ((h.1.1.iff hk).mpr z)]
theorem iL.one{n:Nat}:∀{C D:List dF},iL n C D->(∀c∈C,∃d∈D,Lk n c.1 d.1)/\(∀d∈D,∃c∈C,Lk n c.1 d.1)
 |[],[],_=>⟨λ_ h=>absurd h db,λ_ h=>absurd h db⟩
 |c::C,d::D,h=>by
  have ih:=iL.one h.2;refine⟨λx hx=>?_,λx hx=>?_⟩
  .rcases bj.mp hx with rfl |hx
   .exact⟨d,bo,h.1.1⟩
   .obtain⟨y,hy,z⟩:=ih.1 x hx
    exact⟨y,bd _ hy,z⟩
  .rcases bj.mp hx with rfl |hx
   .exact⟨c,bo,h.1.1⟩
   .obtain⟨y,hy,z⟩:=ih.2 x hx
    exact⟨y,bd _ hy,z⟩
theorem Tf{k:AZ}:∀{C:List dF},(∀c∈C,c.1≠k)->dG C k=0
 |[],_=>rfl
 |c::C,h=>by
  unfold dG;rw[if_neg (h c bo),Tf λd hd=>h d (bd _ hd)];rfl
theorem iL.iff{n:Nat}{C D:List dF}(h:iL n C D):(∀k,dG C k=0)↔∀l,dG D l=0:=by
 constructor
 .intro z l
  by_cases q:∃d∈D,d.1=l
  .obtain⟨d,hd,rfl⟩:=q
   obtain⟨c,_,hc⟩:=h.one.2 d hd;rw[<-h.at hc];exact z _
  .exact Tf λd hd e=>q ⟨d,hd,e⟩
 .intro z k
  by_cases q:∃c∈C,c.1=k
  .obtain⟨c,hc,rfl⟩:=q
   obtain⟨d,_,hd⟩:=h.one.1 c hc;rw[h.at hd];exact z _
  .exact Tf λc hc e=>q ⟨c,hc,e⟩
abbrev pN:MS:=(aE (bI (aR (aC dR (aA 2) (mC (.int 0)))) (aU (aA 1)) cF) (bI (aR (aC hJ (aA 2) (mC (.int 0)))) (aU (mR gI (aB (bC ["_law_one"] [] (aX (aA 1)) (gN 0) (aC cX (mC (.int 0)) (aA 0))) aD))) cF))
theorem At(S:aJ)(TL:AY)(x0:BH):∀(L:AY)(x2:BH),(eO L=0/\∃y2,dL [] (gN 2) pN (L.map .int) [x0,some (.pv (tv TL)),x2] S=.nx [x0,some (.pv (tv TL)),y2] S)\/(eO L≠0/\dL [] (gN 2) pN (L.map .int) [x0,some (.pv (tv TL)),x2] S=.rt (.pv (tv (TL.map (eO L*·)))) S)
 |[],x2=>.inl ⟨rfl,x2,eZ⟩
 |n::L,x2=>by
  rw[ao,dY];have ec:=Km S TL none;rcases Int.lt_trichotomy n 0 with h |h |h
  .have hf:eO (n::L)=-1:=by
    unfold eO;rw[if_neg (by omega)];unfold sg
    (repeat' split)<;>omega
   rw[hf];refine .inr ⟨by decide,?_⟩;have e:TL.map (-1*·)=TL.map (- ·):=gf λx _=>by omega
   rw[e];have h1:¬0<n:=by omega
   unfold pN;show _=cE.rt (.pv (.tup ((TL.map (- ·)).map .int))) S;have ht:tv TL=.tup (TL.map .int):=rfl;rw[ht];generalize TL.map PV.int=T1,(TL.map (- ·)).map PV.int=T2 at *;simp! [gN,h1,h,bC,cQ,aX,bT,ec]
  .subst h
   have hf:eO (0::L)=eO L:=by simp[eO]
   rw[hf];have ih:=At S TL x0 L (some (.pv (.int 0)));have e:pN [x0,some (.pv (tv TL)),some (.pv (.int 0))] S=.nx [x0,some (.pv (tv TL)),some (.pv (.int 0))] S:=by
    unfold pN;generalize tv TL=T1;simp! [bF]
   simp only[gN,gr,dy,e];exact ih
  .have hf:eO (n::L)=1:=by
    unfold eO;rw[if_neg (by omega)];unfold sg
    (repeat' split)<;>omega
   rw[hf];refine .inr ⟨by decide,?_⟩;have e:TL.map (1*·)=TL:=by simp
   rw[e];unfold pN;generalize tv TL=T1;simp! [gN,h]
theorem Tc(ns:AY)(S:aJ)(hb:∀n∈ns,Bd 16000 n):mS [.pv (.lst (ns.map .int))] S=.ok (.pv (tv (aS ns))) S:=by
 have e1:=mU ns S hb;have e1:iA [.pv (.lst (ns.map .int))] S=.ok (.pv (tv (low ns))) S:=e1;have hf:∀{k:Int}(_:0<k)(l:AY),eO (l.map (k*·))=eO l:=λ{k} hk l=>by
  induction l with
  |nil=>rfl
  |cons n l ih=>
   rw[ao];unfold eO
   by_cases h:n=0
   .subst h
    simpa using ih
   .rw[if_neg h,if_neg (da (by omega) h),jL hk]
 have ef:eO ns=eO (low ns):=by
  obtain⟨g,hg,e⟩:=Zr ns;have:=hf hg (low ns);rw[<-e]at this;exact this
 have hb:Mc=(aE (aM 1 (aH iA [] (aB (aA 0) aD))) (aE (aY (aX (aA 1)) (gN 2) pN) (aU (aA 1)))):=rfl;unfold mS aL aS;rw[hb,ef];have ht:∀l:AY,tv l=.tup (l.map .int):=λ_=>rfl;have ih:=At S (low ns) (some (.pv (.lst (ns.map .int)))) (low ns) none;rw[ht]at e1 ih;rw[ht];generalize pN=UB at *;rcases ih with⟨z,y2,e2⟩|⟨z,e2⟩
 .rw[z]
  have e:(low ns).map (0*·)=low ns:=by
   have q:∀l:AY,eO l=0->l.map (0*·)=l:=λl=>by
    induction l with
    |nil=>intro _;rfl
    |cons n l ih=>
     intro h;unfold eO at h
     by_cases c:n=0
     .rw[if_pos c]at h
      rw[ao,ih h,c,qi]
     .rw[if_neg c]at h
      have:=Ex c;rw[h]at this;exact absurd this (by decide)
   exact q _ z
  rw[e];generalize ns.map PV.int=T2,(low ns).map PV.int=T1 at *;simp! [aY,aX,bT,e1,e2]
 .rw[ht]at e2
  generalize ns.map PV.int=T2,(low ns).map PV.int=T1,((low ns).map (eO (low ns)*·)).map PV.int=T3 at *;simp! [aY,aX,bT,e1,e2]
theorem Vz{a b c d e f:Int}{A B:PV}(S:aJ)(hA:A=.tup [.int a,.int b,.int c]\/∃w,A=.tup [.int a,.int b,.int c,.int w])(hB:B=.tup [.int d,.int e,.int f]\/∃w,B=.tup [.int d,.int e,.int f,.int w])(ha:Bd 2000 a)(hb:Bd 2000 b)(hc:Bd 2000 c)(hd:Bd 2000 d)(he:Bd 2000 e)(hf:Bd 2000 f):jW [.pv A,.pv B] S=.ok (.pv (.lst [.int (b*f-c*e),.int (c*d-a*f),.int (a*e-b*d)])) S:=by
 have m1:=mk hb hf (by decide) (by decide);have m2:=mk hc he (by decide) (by decide);have m3:=mk hc hd (by decide) (by decide);have m4:=mk ha hf (by decide) (by decide);have m5:=mk ha he (by decide) (by decide);have m6:=mk hb hd (by decide) (by decide);obtain⟨a0,a1,a2⟩:aK A (.int 0)=some (.int a)/\aK A (.int 1)=some (.int b)/\aK A (.int 2)=some (.int c):=by
  rcases hA with rfl |⟨w,rfl⟩<;>exact⟨eD (j:=0) rfl,eD (j:=1) rfl,eD (j:=2) rfl⟩
 obtain⟨b0,b1,b2⟩:aK B (.int 0)=some (.int d)/\aK B (.int 1)=some (.int e)/\aK B (.int 2)=some (.int f):=by
  rcases hB with rfl |⟨w,rfl⟩<;>exact⟨eD (j:=0) rfl,eD (j:=1) rfl,eD (j:=2) rfl⟩
 unfold jW aL xO;simp! [a0,a1,a2,b0,b1,b2,m1,m2,m3,m4,m5,m6]
theorem iI{k:Nat}{a b c d:Int}(ha:Bd k a)(hb:Bd k b)(hc:Bd k c)(hd:Bd k d):Bd (k+k+1) (a*b-c*d):=(ha.mul hb).sub (hc.mul hd)
theorem Qd{x0 y0 w0 x1 y1 w1:Int}(S:aJ)(p:P2 x0 y0 w0)(q:P2 x1 y1 w1):rK [.pv (tv [x0,y0,w0]),.pv (tv [x1,y1,w1])] S=.ok (.pv (tv (aS (eR [x0,y0,w0] [x1,y1,w1])))) S:=by
 have c:=Vz S (A:=.tup [.int x0,.int y0,.int w0]) (B:=.tup [.int x1,.int y1,.int w1]) (.inl rfl) (.inl rfl) p.bx p.by_ p.bw q.bx q.by_ q.bw;have e:=Tc (eR [x0,y0,w0] [x1,y1,w1]) S (λn hn=>by
  have hn:n=y0*w1-w0*y1\/n=w0*x1-x0*w1\/n=x0*y1-y0*x1:=by simpa[zP]using hn
  rcases hn with rfl |rfl |rfl
  .exact(iI p.by_ q.bw p.bw q.by_).mono (by decide)
  .exact(iI p.bw q.bx p.bx q.bw).mono (by decide)
  .exact(iI p.bx q.by_ p.by_ q.bx).mono (by decide))
 have e:mS [.pv (.lst [.int (y0*w1-w0*y1),.int (w0*x1-x0*w1),.int (x0*y1-y0*x1)])] S=_:=e;have ht:∀a b c:Int,tv [a,b,c]=.tup [.int a,.int b,.int c]:=λ_ _ _=>rfl;rw[ht,ht];generalize x0*y1-y0*x1=n3,w0*x1-x0*w1=n2,y0*w1-w0*y1=n1,tv (aS (eR [x0,y0,w0] [x1,y1,w1]))=R at *;unfold rK aL Hb;dsimp! [c,e]
theorem rZ{x0 y0 z0 w0 x1 y1 z1 w1:Int}(S:aJ)(p:P3 x0 y0 z0 w0)(q:P3 x1 y1 z1 w1):rH [.pv (tv [x0,y0,z0,w0]),.pv (tv [x1,y1,z1,w1])] S=.ok (.pv (tv (aS (fR [x0,y0,z0,w0] [x1,y1,z1,w1])))) S:=by
 have g:=pF S p q;have c:=Vz S (A:=v3 x0 y0 z0 w0) (B:=v3 x1 y1 z1 w1) (.inr ⟨_,rfl⟩) (.inr ⟨_,rfl⟩) p.bx p.by_ p.bz q.bx q.by_ q.bz;have e:=Tc (fR [x0,y0,z0,w0] [x1,y1,z1,w1]) S (λn hn=>by
  have hn:n=x1*w0-x0*w1\/n=y1*w0-y0*w1\/n=z1*w0-z0*w1\/n=y0*z1-z0*y1\/n=z0*x1-x0*z1\/n=x0*y1-y0*x1:=by simpa[Vh]using hn
  rcases hn with rfl |rfl |rfl |rfl |rfl |rfl
  .exact(iI q.bx p.bw p.bx q.bw).mono (by decide)
  .exact(iI q.by_ p.bw p.by_ q.bw).mono (by decide)
  .exact(iI q.bz p.bw p.bz q.bw).mono (by decide)
  .exact(iI p.by_ q.bz p.bz q.by_).mono (by decide)
  .exact(iI p.bz q.bx p.bx q.bz).mono (by decide)
  .exact(iI p.bx q.by_ p.by_ q.bx).mono (by decide))
 have e:mS [.pv (.lst [.int (x1*w0-x0*w1),.int (y1*w0-y0*w1),.int (z1*w0-z0*w1),.int (y0*z1-z0*y1),.int (z0*x1-x0*z1),.int (x0*y1-y0*x1)])] S=_:=e;have ht:∀a b c d:Int,tv [a,b,c,d]=v3 a b c d:=λ_ _ _ _=>rfl;rw[ht,ht];generalize x0*y1-y0*x1=n6,z0*x1-x0*z1=n5,y0*z1-z0*y1=n4,z1*w0-z0*w1=n3,y1*w0-y0*w1=n2,x1*w0-x0*w1=n1,v3 x1 y1 z1 w1=B,v3 x0 y0 z0 w0=A,tv (aS (fR [x0,y0,z0,w0] [x1,y1,z1,w1]))=R at *;unfold rH aL Cb;dsimp! [g,c,e]
theorem xL{x0 y0 z0 w0 x1 y1 z1 w1 x2 y2 z2 w2:Int}(S:aJ)(p:P3 x0 y0 z0 w0)(q:P3 x1 y1 z1 w1)(r:P3 x2 y2 z2 w2):rW [.pv (tv [x0,y0,z0,w0]),.pv (tv [x1,y1,z1,w1]),.pv (tv [x2,y2,z2,w2])] S=.ok (.pv (tv (aS (ext (cT [[x0,y0,z0,w0],[x1,y1,z1,w1],[x2,y2,z2,w2]]) [x0,y0,z0,w0])))) S:=by
 have g1:=pF S p q;have g2:=pF S p r;have b1:=iI q.bx p.bw p.bx q.bw;have b2:=iI q.by_ p.bw p.by_ q.bw;have b3:=iI q.bz p.bw p.bz q.bw;have b4:=iI r.bx p.bw p.bx r.bw;have b5:=iI r.by_ p.bw p.by_ r.bw;have b6:=iI r.bz p.bw p.bz r.bw;have hn:cT [[x0,y0,z0,w0],[x1,y1,z1,w1],[x2,y2,z2,w2]]=eR [x1*w0-x0*w1,y1*w0-y0*w1,z1*w0-z0*w1] [x2*w0-x0*w2,y2*w0-y0*w2,z2*w0-z0*w2]:=rfl;rw[hn];have ht:∀a b c d:Int,tv [a,b,c,d]=v3 a b c d:=λ_ _ _ _=>rfl;rw[ht,ht,ht];generalize z2*w0-z0*w2=t3,y2*w0-y0*w2=t2,x2*w0-x0*w2=t1,z1*w0-z0*w1=u3,y1*w0-y0*w1=u2,x1*w0-x0*w1=u1 at *;have c:=uM S (A:=.lst [.int u1,.int u2,.int u3]) (B:=.lst [.int t1,.int t2,.int t3]) (.inl rfl) (.inl rfl) (b1.mono (by decide)) (b2.mono (by decide)) (b3.mono (by decide)) (b4.mono (by decide)) (b5.mono (by decide)) (b6.mono (by decide));have d1:=iI b2 b6 b3 b5;have d2:=iI b3 b4 b1 b6;have d3:=iI b1 b5 b2 b4;have hc:eR [u1,u2,u3] [t1,t2,t3]=[u2*t3-u3*t2,u3*t1-u1*t3,u1*t2-u2*t1]:=rfl;rw[hc];generalize u1*t2-u2*t1=n3,u3*t1-u1*t3=n2,u2*t3-u3*t2=n1 at *;have f:=uP S (A:=.lst [.int n1,.int n2,.int n3]) (B:=v3 x0 y0 z0 w0) (us:=[n1,n2,n3]) (vs:=[x0,y0,z0,w0]) (.inl rfl) (.inr rfl) (by simp;exact⟨d1.mono (by decide),d2.mono (by decide),d3.mono (by decide)⟩) (by simp;exact⟨p.bx.mono (by decide),p.by_.mono (by decide),p.bz.mono (by decide),p.bw.mono (by decide)⟩);have hd:dt [n1,n2,n3] [x0,y0,z0,w0]=n1*x0+n2*y0+n3*z0:=by
  unfold dt;simp;omega
 rw[hd]at f;have m1:=mk d1 p.bw (by decide) (by decide);have m2:=mk d2 p.bw (by decide) (by decide);have m3:=mk d3 p.bw (by decide) (by decide);have hx:ext [n1,n2,n3] [x0,y0,z0,w0]=[n1*w0,n2*w0,n3*w0,0-(n1*x0+n2*y0+n3*z0)]:=rfl;have e:=Tc (ext [n1,n2,n3] [x0,y0,z0,w0]) S (λn hn=>by
  rw[hx]at hn;have hn:n=n1*w0\/n=n2*w0\/n=n3*w0\/n=0-(n1*x0+n2*y0+n3*z0):=by simpa using hn
  rcases hn with rfl |rfl |rfl |rfl
  .exact(d1.mul p.bw).mono (by decide)
  .exact(d2.mul p.bw).mono (by decide)
  .exact(d3.mul p.bw).mono (by decide)
  .rw[gg]
   exact((((d1.mul p.bx).add (d2.mul p.by_)).add ((d3.mul p.bz).mono (by decide))).neg).mono (by decide))
 rw[hx]at e⊢;have e:mS [.pv (.lst [.int (n1*w0),.int (n2*w0),.int (n3*w0),.int (0-(n1*x0+n2*y0+n3*z0))])] S=_:=e;have i3:aK (v3 x0 y0 z0 w0) (.int 3)=some (.int w0):=eD (j:=3) rfl;generalize n1*x0+n2*y0+n3*z0=N,tv (aS [n1*w0,n2*w0,n3*w0,0-(n1*x0+n2*y0+n3*z0)])=R at *;rw[gg]at e;generalize v3 x2 y2 z2 w2=C,v3 x1 y1 z1 w1=B,v3 x0 y0 z0 w0=A at *;generalize hq1:n1*w0=q1 at *;generalize hq2:n2*w0=q2 at *;generalize hq3:n3*w0=q3 at *;unfold rW aL Od;simp! [bC,cQ,aX,bT,dX,dS,gN,g1,g2,c,f,i3,m1,m2,m3,e]
theorem yJ{kvs:List (PV×PV)}{C:List dF}(h:Tb kvs C)(hl:C.length<=100000)(T:aJ)(k:AZ)(m:Int):kW [.ref 0,.pv (kE k),.pv (.int m)] (.dic true kvs::T)=.ok (.pv .non) (.dic true (iS kvs (k,m))::T):=by
 have e1:lR (.ref 0) (.pv (kE k)) (.dic true kvs::T) (some (.pv (.int 0)))=.ok (.pv (.int (dG C k))) (.dic true kvs::T):=by
  unfold lR;simp only[kz];rw[if_pos ⟨k,rfl⟩];rcases h.get k with e |⟨e,z⟩
  .rw[e]
  .rw[e,z]
 have e2:oX (.ref 0) (.pv (kE k)) (.pv (.int (dG C k+m))) (.dic true kvs::T)=.ok (.pv .non) (.dic true (iS kvs (k,m))::T):=by
  unfold oX iS;simp only[kz];have:=h.len;rw[if_pos ⟨⟨k,rfl⟩,by omega⟩,h.vint];rfl
 unfold kW aL Vf;generalize kE k=K1 at *;dsimp! [yZ,zC,nT,e1,e2]
def lF(s e:AY)(n:Int):List dF:=[([aS (eR s e),s],n),([aS (eR s e),e],0-n)]
def lS(w:AZ)(s e:AY)(n:Int):List dF:=[([aS (ext (cT w) (w.headD [])),aS (fR s e),s],n),([aS (ext (cT w) (w.headD [])),aS (fR s e),e],0-n)]
def lW(w:AZ)(n:Int):List dF:=(Qa w).flatMap λx=>lS w x.1 x.2 n
def lA(uss:AZ)(n:Int):List dF:=match uss with
 |[a,b,c]=>lF c a n++lF a b n++lF b c n
 |[a,b,c,d]=>(yI [a,b,c,d]).flatMap λw=>lW w n
 |_=>[]
def uB:MS:=(aE (aM 4 (aC aK (aA 1) (aC cX (aA 3) (mC (.int 1))))) (aE (aM 5 (aC aK (aA 1) (aA 3))) (aE (aM 6 (aH rK [] (aB (aA 4) (aB (aA 5) aD)))) (aE (cK (aH kW [] (aB (aA 0) (aB (mN dP (aB (aA 6) (aB (aA 4) aD))) (aB (aA 2) aD))))) (cK (aH kW [] (aB (aA 0) (aB (mN dP (aB (aA 6) (aB (aA 5) aD))) (aB (aC cX (mC (.int 0)) (aA 2)) aD)))))))))
theorem Ti{kvs:List (PV×PV)}{C:List dF}(h:Tb kvs C)(hl:C.length<=90000){U:PV}{p q:AY}{k:Int}(i1:aK U (.int (k-1))=some (tv p))(i2:aK U (.int k)=some (tv q))(el:∀S,rK [.pv (tv p),.pv (tv q)] S=.ok (.pv (tv (aS (eR p q)))) S)(n:Int)(x4 x5 x6 x7 x8 x9 x10:BH):∃y4 y5 y6,uB [some (.ref 0),some (.pv U),some (.pv (.int n)),some (.pv (.int k)),x4,x5,x6,x7,x8,x9,x10] [.dic true kvs]=.nx [some (.ref 0),some (.pv U),some (.pv (.int n)),some (.pv (.int k)),y4,y5,y6,x7,x8,x9,x10] [.dic true (gO kvs (lF p q n))]:=by
 have h2:=h.add ([aS (eR p q),p],n);have e1:=yJ h (by omega) [] [aS (eR p q),p] n;have e2:=yJ h2 (by rw[av];simp;omega) [] [aS (eR p q),q] (0-n);have e0:=el [.dic true kvs];have et:gO kvs (lF p q n)=iS (iS kvs ([aS (eR p q),p],n)) ([aS (eR p q),q],0-n):=rfl;have k1:kE [aS (eR p q),p]=.tup [tv (aS (eR p q)),tv p]:=rfl;have k2:kE [aS (eR p q),q]=.tup [tv (aS (eR p q)),tv q]:=rfl;rw[et];rw[k1]at e1;rw[k2]at e2;refine⟨some (.pv (tv p)),some (.pv (tv q)),some (.pv (tv (aS (eR p q)))),?_⟩;unfold uB;generalize tv q=T3,tv p=T2,tv (aS (eR p q))=T1,iS kvs ([aS (eR p q),p],n)=K1,iS (iS kvs ([aS (eR p q),p],n)) ([aS (eR p q),q],0-n)=K2 at *;rw[gg]at e2;simp! [i1,i2,e0,e1,e2]
theorem Si(S:aJ):gW [.pv (.int 3)] S=.ok ([.int 0,.int 1,.int 2],[]) S:=by
 unfold gW;dsimp only;rw[if_pos (by decide)];rfl
theorem Yr{ls:List (PV×PV)}(nd:(ls.map (·.1)).Nodup)(k v:PV):fJ (gU ls k v) k=some v:=rV (sN nd).1 ((Jd nd _).mpr (.inl rfl))
theorem Uq{ls:List (PV×PV)}(nd:(ls.map (·.1)).Nodup){k v k' u:PV}(h:k'≠k)(g:fJ ls k'=some u):fJ (gU ls k v) k'=some u:=by
 refine rV (sN nd).1 ((Jd nd _).mpr (.inr ⟨h,?_⟩));unfold fJ at g;cases z:jU ls k' with
 |none=>rw[z]at g;cases g
 |some i=>
  rw[z]at g;obtain⟨w,hw⟩:=mZ z;simp only[hw,qh,Option.some.injEq]at g;subst g;exact cq hw
abbrev eJ(p q:AY):PV:=tv (aS (fR p q))
def fE(ls:List (PV×PV))(p q:AY):List (PV×PV):=gU (gU ls (kE [p,q]) (eJ p q)) (kE [q,p]) (eJ p q)
structure Ln(ls:List (PV×PV))(E:List (AY×AY)):Prop where
 nd:(ls.map (·.1)).Nodup
 len:ls.length<=2*E.length
 at_:∀x∈E,fJ ls (kE [x.1,x.2])=some (eJ x.1 x.2)/\fJ ls (kE [x.2,x.1])=some (eJ x.1 x.2)
theorem Ln.add{ls:List (PV×PV)}{E:List (AY×AY)}(h:Ln ls E){p q:AY}(sw:eJ q p=eJ p q):Ln (fE ls p q) ((p,q)::E):=by
 have n1:=sN h.nd (k:=kE [p,q]) (v:=eJ p q);have n2:=sN n1.1 (k:=kE [q,p]) (v:=eJ p q);have key:∀{s t:AY}{v:PV},((s=p/\t=q)->v=eJ p q)->((s=q/\t=p)->v=eJ p q)->(fJ ls (kE [s,t])=some v\/(s=p/\t=q)\/(s=q/\t=p))->fJ (fE ls p q) (kE [s,t])=some v:=λ{s t v} h1 h2 h3=>by
  unfold fE
  by_cases c:s=q/\t=p
  .rw[c.1,c.2,h2 c]
   exact Yr n1.1 _ _
  .refine Uq n1.1 (λe=>c (by have:=Kg e;simpa using this)) ?_
   by_cases c':s=p/\t=q
   .rw[c'.1,c'.2,h1 c']
    exact Yr h.nd _ _
   .refine Uq h.nd (λe=>c' (by have:=Kg e;simpa using this)) ?_
    rcases h3 with g |g |g
    .exact g
    .exact absurd g c'
    .exact absurd g c
 refine⟨n2.1,?_,λx hx=>?_⟩
 .have:=h.len
  have:=n1.2;have:=n2.2;unfold fE;rw[ci];omega
 .rcases bj.mp hx with rfl |hx
  .exact⟨key (λ_=>rfl) (λ_=>rfl) (.inr (.inl ⟨rfl,rfl⟩)),key (λ_=>rfl) (λ_=>rfl) (.inr (.inr ⟨rfl,rfl⟩))⟩
  .have g:=h.at_ x hx
   refine⟨key (λe=>by rw[e.1,e.2]) (λe=>by rw[e.1,e.2,sw]) (.inl g.1),key (λe=>by rw[e.1,e.2,sw]) (λe=>by rw[e.1,e.2]) (.inl g.2)⟩
theorem Ln.nil:Ln [] []:=⟨qc,al _,λ_ h=>absurd h db⟩
def pJ:MS:=(aE (aM 6 (aH rH [] (aB (aC aK (aA 1) (aA 8)) (aB (aC aK (aA 1) (aA 3)) aD)))) (aE (nT (aA 7) (mN dP (aB (aC aK (aA 1) (aA 8)) (aB (aC aK (aA 1) (aA 3)) aD))) (aA 6)) (nT (aA 7) (mN dP (aB (aC aK (aA 1) (aA 3)) (aB (aC aK (aA 1) (aA 8)) aD))) (aA 6))))
theorem tT{kvs ls:List (PV×PV)}{E:List (AY×AY)}(h:Ln ls E)(hl:E.length<=2000){U:PV}{p q:AY}{k m:Int}(i1:aK U (.int m)=some (tv p))(i2:aK U (.int k)=some (tv q))(el:∀S,rH [.pv (tv p),.pv (tv q)] S=.ok (.pv (eJ p q)) S)(x2 x4 x5 x6 x9 x10:BH):pJ [some (.ref 0),some (.pv U),x2,some (.pv (.int k)),x4,x5,x6,some (.ref 1),some (.pv (.int m)),x9,x10] [.dic true kvs,.dic true ls]=.nx [some (.ref 0),some (.pv U),x2,some (.pv (.int k)),x4,x5,some (.pv (eJ p q)),some (.ref 1),some (.pv (.int m)),x9,x10] [.dic true kvs,.dic true (fE ls p q)]:=by
 have e0:=el [.dic true kvs,.dic true ls];have n1:=sN h.nd (k:=kE [p,q]) (v:=eJ p q);have hl':=h.len;have e1:oX (.ref 1) (.pv (kE [p,q])) (.pv (eJ p q)) [.dic true kvs,.dic true ls]=.ok (.pv .non) [.dic true kvs,.dic true (gU ls (kE [p,q]) (eJ p q))]:=by
  unfold oX;simp only[ud,kz];rw[if_pos ⟨⟨_,rfl⟩,by omega⟩];rfl
 have e2:oX (.ref 1) (.pv (kE [q,p])) (.pv (eJ p q)) [.dic true kvs,.dic true (gU ls (kE [p,q]) (eJ p q))]=.ok (.pv .non) [.dic true kvs,.dic true (fE ls p q)]:=by
  unfold oX;simp only[ud,kz];rw[if_pos ⟨⟨_,rfl⟩,by omega⟩];rfl
 have k1:kE [p,q]=.tup [tv p,tv q]:=rfl;have k2:kE [q,p]=.tup [tv q,tv p]:=rfl;rw[k1]at e1 e2;rw[k2]at e2;unfold pJ;generalize tv q=T2,tv p=T1,eJ p q=V,gU ls (.tup [tv p,tv q]) (eJ p q)=L1,fE ls p q=L2 at *;simp! [nT,i1,i2,e0,e1,e2]
def Ra:MS:=(aE (aM 4 (aC aK (aA 9) (aC cX (aA 3) (mC (.int 1))))) (aE (aM 5 (aC aK (aA 9) (aA 3))) (aE (aM 6 (mE (aA 7) (mN dP (aB (aA 4) (aB (aA 5) aD))))) (aE (cK (aH kW [] (aB (aA 0) (aB (mN dP (aB (aA 10) (aB (aA 6) (aB (aA 4) aD)))) (aB (aA 2) aD))))) (cK (aH kW [] (aB (aA 0) (aB (mN dP (aB (aA 10) (aB (aA 6) (aB (aA 5) aD)))) (aB (aC cX (mC (.int 0)) (aA 2)) aD)))))))))
theorem lJ{kvs ls:List (PV×PV)}{C:List dF}(h:Tb kvs C)(hl:C.length<=90000){W:PV}{w:AZ}{p q:AY}{k:Int}(i1:aK W (.int (k-1))=some (tv p))(i2:aK W (.int k)=some (tv q))(hg:fJ ls (kE [p,q])=some (eJ p q))(n:Int)(x1 x4 x5 x6 x8:BH):∃y4 y5 y6,Ra [some (.ref 0),x1,some (.pv (.int n)),some (.pv (.int k)),x4,x5,x6,some (.ref 1),x8,some (.pv W),some (.pv (tv (aS (ext (cT w) (w.headD [])))))] [.dic true kvs,.dic true ls]=.nx [some (.ref 0),x1,some (.pv (.int n)),some (.pv (.int k)),y4,y5,y6,some (.ref 1),x8,some (.pv W),some (.pv (tv (aS (ext (cT w) (w.headD [])))))] [.dic true (gO kvs (lS w p q n)),.dic true ls]:=by
 generalize hP:aS (ext (cT w) (w.headD []))=P at *;have h2:=h.add ([P,aS (fR p q),p],n);have e1:=yJ h (by omega) [.dic true ls] [P,aS (fR p q),p] n;have e2:=yJ h2 (by rw[av];simp;omega) [.dic true ls] [P,aS (fR p q),q] (0-n);have e0:lR (.ref 1) (.pv (kE [p,q])) [.dic true kvs,.dic true ls] none=.ok (.pv (eJ p q)) [.dic true kvs,.dic true ls]:=by
  unfold lR;simp only[ud,kz];rw[if_pos ⟨_,rfl⟩,hg]
 have et:gO kvs (lS w p q n)=iS (iS kvs ([P,aS (fR p q),p],n)) ([P,aS (fR p q),q],0-n):=by rw[<-hP];rfl
 have k0:kE [p,q]=.tup [tv p,tv q]:=rfl;have k1:kE [P,aS (fR p q),p]=.tup [tv P,eJ p q,tv p]:=rfl;have k2:kE [P,aS (fR p q),q]=.tup [tv P,eJ p q,tv q]:=rfl;rw[et];rw[k0]at e0;rw[k1]at e1;rw[k2]at e2;refine⟨some (.pv (tv p)),some (.pv (tv q)),some (.pv (eJ p q)),?_⟩;unfold Ra;generalize tv P=T4,tv q=T3,tv p=T2,eJ p q=T1,iS kvs ([P,aS (fR p q),p],n)=K1,iS (iS kvs ([P,aS (fR p q),p],n)) ([P,aS (fR p q),q],0-n)=K2 at *;rw[gg]at e2;simp! [mE,i1,i2,e0,e1,e2]
def uC:MS:=(aE (aM 10 (aH rW [] (aB (aC aK (aA 9) (mC (.int 0))) (aB (aC aK (aA 9) (mC (.int 1))) (aB (aC aK (aA 9) (mC (.int 2))) aD))))) (aY (cC (aB (mC (.int 3)) aD)) (gN 3) Ra))
theorem Ia{kvs ls:List (PV×PV)}{C:List dF}(h:Tb kvs C)(hl:C.length<=80000){a b c:AY}(ep:∀S,rW [.pv (tv a),.pv (tv b),.pv (tv c)] S=.ok (.pv (tv (aS (ext (cT [a,b,c]) a)))) S)(g1:fJ ls (kE [c,a])=some (eJ c a))(g2:fJ ls (kE [a,b])=some (eJ a b))(g3:fJ ls (kE [b,c])=some (eJ b c))(n:Int)(x1 x3 x4 x5 x6 x8 x10:BH):∃y3 y4 y5 y6 y10,uC [some (.ref 0),x1,some (.pv (.int n)),x3,x4,x5,x6,some (.ref 1),x8,some (.pv (.tup [tv a,tv b,tv c])),x10] [.dic true kvs,.dic true ls]=.nx [some (.ref 0),x1,some (.pv (.int n)),y3,y4,y5,y6,some (.ref 1),x8,some (.pv (.tup [tv a,tv b,tv c])),y10] [.dic true (gO kvs (lW [a,b,c] n)),.dic true ls]:=by
 have ll:∀s e:AY,(lS [a,b,c] s e n).length=2:=λ_ _=>rfl;obtain⟨y4,y5,y6,e1⟩:=lJ (W:=.tup [tv a,tv b,tv c]) (w:=[a,b,c]) (p:=c) (q:=a) (k:=0) h (by omega) rfl (eD (j:=0) rfl) g1 n x1 x4 x5 x6 x8;have h1:=h.adds (lS [a,b,c] c a n);obtain⟨z4,z5,z6,e2⟩:=lJ (W:=.tup [tv a,tv b,tv c]) (w:=[a,b,c]) (p:=a) (q:=b) (k:=1) h1 (by rw[av,ll];omega) (eD (j:=0) rfl) (eD (j:=1) rfl) g2 n x1 y4 y5 y6 x8;have h2:=h1.adds (lS [a,b,c] a b n);obtain⟨t4,t5,t6,e3⟩:=lJ (W:=.tup [tv a,tv b,tv c]) (w:=[a,b,c]) (p:=b) (q:=c) (k:=2) h2 (by rw[av,av,ll,ll];omega) (eD (j:=1) rfl) (eD (j:=2) rfl) g3 n x1 z4 z5 z6 x8;rw[oN]at e2 e3;rw[oN]at e3;have hW:lW [a,b,c] n=lS [a,b,c] c a n++lS [a,b,c] a b n++lS [a,b,c] b c n:=rfl;have ep:=ep [.dic true kvs,.dic true ls];have hh:[a,b,c].headD []=a:=rfl;rw[hh]at e1 e2 e3;refine⟨some (.pv (.int 2)),t4,t5,t6,some (.pv (tv (aS (ext (cT [a,b,c]) a)))),?_⟩;rw[hW];have i0:aK (.tup [tv a,tv b,tv c]) (.int 0)=some (tv a):=eD (j:=0) rfl;have i1:aK (.tup [tv a,tv b,tv c]) (.int 1)=some (tv b):=eD (j:=1) rfl;have i2:aK (.tup [tv a,tv b,tv c]) (.int 2)=some (tv c):=eD (j:=2) rfl;unfold uC;generalize tv c=T3,tv b=T2,tv a=T1,PV.tup [tv a,tv b,tv c]=W,tv (aS (ext (cT [a,b,c]) a))=T4,Ra=FB at *;simp! [i0,i1,i2,ep,aY,cC,Si,dY,eZ,gN,e1,e2,e3]
theorem afq{kvs:List (PV×PV)}{C:List dF}(h:Tb kvs C)(hl:C.length<=80000){x0 y0 w0 x1 y1 w1 x2 y2 w2:Int}(p0:P2 x0 y0 w0)(p1:P2 x1 y1 w1)(p2:P2 x2 y2 w2)(n:Int):nE [.ref 0,.pv (px [[x0,y0,w0],[x1,y1,w1],[x2,y2,w2]]),.pv (.int n)] [.dic true kvs]=.ok (.pv .non) [.dic true (gO kvs (lA [[x0,y0,w0],[x1,y1,w1],[x2,y2,w2]] n))]:=by
 have l1:=λS=>Qd S p2 p0;have l2:=λS=>Qd S p0 p1;have l3':=λS=>Qd S p1 p2;have hA:lA [[x0,y0,w0],[x1,y1,w1],[x2,y2,w2]] n=lF [x2,y2,w2] [x0,y0,w0] n++lF [x0,y0,w0] [x1,y1,w1] n++lF [x1,y1,w1] [x2,y2,w2] n:=rfl;have hU:px [[x0,y0,w0],[x1,y1,w1],[x2,y2,w2]]=.tup [tv [x0,y0,w0],tv [x1,y1,w1],tv [x2,y2,w2]]:=rfl;rw[hA,hU];generalize [x2,y2,w2]=c,[x1,y1,w1]=b,[x0,y0,w0]=a at *;have ll:∀s e:AY,(lF s e n).length=2:=λ_ _=>rfl;obtain⟨y4,y5,y6,e1⟩:=Ti (U:=.tup [tv a,tv b,tv c]) (p:=c) (q:=a) (k:=0) h (by omega) rfl (eD (j:=0) rfl) l1 n none none none none none none none;have h1:=h.adds (lF c a n);obtain⟨z4,z5,z6,e2⟩:=Ti (U:=.tup [tv a,tv b,tv c]) (p:=a) (q:=b) (k:=1) h1 (by rw[av,ll];omega) (eD (j:=0) rfl) (eD (j:=1) rfl) l2 n y4 y5 y6 none none none none;have h2:=h1.adds (lF a b n);obtain⟨t4,t5,t6,e3⟩:=Ti (U:=.tup [tv a,tv b,tv c]) (p:=b) (q:=c) (k:=2) h2 (by rw[av,av,ll,ll];omega) (eD (j:=1) rfl) (eD (j:=2) rfl) l3' n z4 z5 z6 none none none none;rw[oN]at e2 e3;rw[oN]at e3;have hb:yC=(aE (bI (aR (aC cB (mR cS (aB (aA 1) aD)) (mC (.int 3)))) (aE (aY (cC (aB (mC (.int 3)) aD)) (gN 3) uB) nS) cF) (aE (aM 7 (lV true)) (aE (aY (cC (aB (mC (.int 4)) aD)) (gN 3) (aY (cC (aB (aA 3) aD)) (gN 8) pJ)) (aY (aX (aH mY [] (aB (aA 1) aD))) (gN 9) uC)))):=rfl;unfold nE aL;rw[hb];generalize (aE (aM 7 (lV true)) (aE (aY (cC (aB (mC (.int 4)) aD)) (gN 3) (aY (cC (aB (aA 3) aD)) (gN 8) pJ)) (aY (aX (aH mY [] (aB (aA 1) aD))) (gN 9) uC)))=MR;generalize tv c=T3,tv b=T2,tv a=T1,uB=FB at *;simp! [aY,cC,Si,dY,eZ,gN,e1,e2,e3]
theorem rg0(S:aJ):gW [.pv (.int 0)] S=.ok ([],[]) S/\gW [.pv (.int 1)] S=.ok ([.int 0],[]) S/\gW [.pv (.int 2)] S=.ok ([.int 0,.int 1],[]) S/\gW [.pv (.int 4)] S=.ok ([.int 0,.int 1,.int 2,.int 3],[]) S:=by
 refine⟨?_,?_,?_,?_⟩<;>
 .unfold gW
  dsimp only;rw[if_pos (by decide)];rfl
theorem tQ{x0 y0 z0 w0 x1 y1 z1 w1:Int}:eJ [x1,y1,z1,w1] [x0,y0,z0,w0]=eJ [x0,y0,z0,w0] [x1,y1,z1,w1]:=congrArg tv ac2
theorem afd{kvs:List (PV×PV)}{C:List dF}(h:Tb kvs C)(hl:C.length<=70000){x0 y0 z0 w0 x1 y1 z1 w1 x2 y2 z2 w2 x3 y3 z3 w3:Int}(p0:P3 x0 y0 z0 w0)(p1:P3 x1 y1 z1 w1)(p2:P3 x2 y2 z2 w2)(p3:P3 x3 y3 z3 w3)(n:Int):nE [.ref 0,.pv (px [[x0,y0,z0,w0],[x1,y1,z1,w1],[x2,y2,z2,w2],[x3,y3,z3,w3]]),.pv (.int n)] [.dic true kvs]=.ok (.pv .non) [.dic true (gO kvs (lA [[x0,y0,z0,w0],[x1,y1,z1,w1],[x2,y2,z2,w2],[x3,y3,z3,w3]] n))]:=by
 have l1:=λS=>rZ S p0 p1;have l2:=λS=>rZ S p0 p2;have l3':=λS=>rZ S p1 p2;have l4:=λS=>rZ S p0 p3;have l5:=λS=>rZ S p1 p3;have l6:=λS=>rZ S p2 p3;have s1:=@tQ x0 y0 z0 w0 x1 y1 z1 w1;have s2:=@tQ x0 y0 z0 w0 x2 y2 z2 w2;have s3:=@tQ x1 y1 z1 w1 x2 y2 z2 w2;have s4:=@tQ x0 y0 z0 w0 x3 y3 z3 w3;have s5:=@tQ x1 y1 z1 w1 x3 y3 z3 w3;have s6:=@tQ x2 y2 z2 w2 x3 y3 z3 w3;have q1:=λS=>xL S p1 p2 p3;have q2:=λS=>xL S p0 p3 p2;have q3:=λS=>xL S p0 p1 p3;have q4:=λS=>xL S p0 p2 p1;generalize [x3,y3,z3,w3]=d,[x2,y2,z2,w2]=c,[x1,y1,z1,w1]=b,[x0,y0,z0,w0]=a at *;have hA:lA [a,b,c,d] n=lW [b,c,d] n++lW [a,d,c] n++lW [a,b,d] n++lW [a,c,b] n:=by
  show lW [b,c,d] n++(lW [a,d,c] n++(lW [a,b,d] n++(lW [a,c,b] n++[])))=_;rw[fk,ee,ee]
 have hU:px [a,b,c,d]=.tup [tv a,tv b,tv c,tv d]:=rfl;rw[hA,hU];have i0:aK (.tup [tv a,tv b,tv c,tv d]) (.int 0)=some (tv a):=eD (j:=0) rfl;have i1:aK (.tup [tv a,tv b,tv c,tv d]) (.int 1)=some (tv b):=eD (j:=1) rfl;have i2:aK (.tup [tv a,tv b,tv c,tv d]) (.int 2)=some (tv c):=eD (j:=2) rfl;have i3:aK (.tup [tv a,tv b,tv c,tv d]) (.int 3)=some (tv d):=eD (j:=3) rfl;have L1:=Ln.nil.add s1;have L2:=L1.add s2;have L3:=L2.add s3;have L4:=L3.add s4;have L5:=L4.add s5;have L6:=L5.add s6;have e1:=λx2 x4 x5 x6 x9 x10=>tT (kvs:=kvs) Ln.nil (by decide) i0 i1 l1 x2 x4 x5 x6 x9 x10;have e2:=λx2 x4 x5 x6 x9 x10=>tT (kvs:=kvs) L1 (by simp) i0 i2 l2 x2 x4 x5 x6 x9 x10;have e3:=λx2 x4 x5 x6 x9 x10=>tT (kvs:=kvs) L2 (by simp) i1 i2 l3' x2 x4 x5 x6 x9 x10;have e4:=λx2 x4 x5 x6 x9 x10=>tT (kvs:=kvs) L3 (by simp) i0 i3 l4 x2 x4 x5 x6 x9 x10;have e5:=λx2 x4 x5 x6 x9 x10=>tT (kvs:=kvs) L4 (by simp) i1 i3 l5 x2 x4 x5 x6 x9 x10;have e6:=λx2 x4 x5 x6 x9 x10=>tT (kvs:=kvs) L5 (by simp) i2 i3 l6 x2 x4 x5 x6 x9 x10;have g1:=L6.at_ (a,b) (by simp);have g2:=L6.at_ (a,c) (by simp);have g3:=L6.at_ (b,c) (by simp);have g4:=L6.at_ (a,d) (by simp);have g5:=L6.at_ (b,d) (by simp);have g6:=L6.at_ (c,d) (by simp);dsimp only at g1 g2 g3 g4 g5 g6;have ls:∃y3 y6 y8,(aY (cC (aB (mC (.int 4)) aD)) (gN 3) (aY (cC (aB (aA 3) aD)) (gN 8) pJ)) [some (.ref 0),some (.pv (.tup [tv a,tv b,tv c,tv d])),some (.pv (.int n)),none,none,none,none,some (.ref 1),none,none,none] [.dic true kvs,.dic true []]=.nx [some (.ref 0),some (.pv (.tup [tv a,tv b,tv c,tv d])),some (.pv (.int n)),y3,none,none,y6,some (.ref 1),y8,none,none] [.dic true kvs,.dic true (fE (fE (fE (fE (fE (fE [] a b) a c) b c) a d) b d) c d)]:=by
  refine⟨some (.pv (.int 3)),some (.pv (eJ c d)),some (.pv (.int 2)),?_⟩;clear L1 L2 L3 L4 L5 L6 g1 g2 g3 g4 g5 g6 l1 l2 l3' l4 l5 l6 s1 s2 s3 s4 s5 s6 q1 q2 q3 q4 i0 i1 i2 i3;generalize PV.tup [tv a,tv b,tv c,tv d]=U,pJ=LB at *;simp! [aY,cC,Si,rg0,dY,eZ,gN,e1,e2,e3,e4,e5,e6]
 obtain⟨y3,y6,y8,el⟩:=ls;clear e1 e2 e3 e4 e5 e6 i0 i1 i2 i3 L1 L2 L3 L4 L5 L6;generalize fE (fE (fE (fE (fE (fE [] a b) a c) b c) a d) b d) c d=LS at *;have ll:∀u v t:AY,(lW [u,v,t] n).length=6:=λ_ _ _=>rfl;obtain⟨b3,b4,b5,b6,b10,f1⟩:=Ia h (by omega) q1 (by rw[s5];exact g5.2) g3.1 g6.1 n (some (.pv (.tup [tv a,tv b,tv c,tv d]))) y3 none none y6 y8 none;have h1:=h.adds (lW [b,c,d] n);obtain⟨c3,c4,c5,c6,c10,f2⟩:=Ia h1 (by rw[av,ll];omega) q2 (by rw[s2];exact g2.2) g4.1 (by rw[s6];exact g6.2) n (some (.pv (.tup [tv a,tv b,tv c,tv d]))) b3 b4 b5 b6 y8 b10;have h2:=h1.adds (lW [a,d,c] n);obtain⟨d3,d4,d5,d6,d10,f3⟩:=Ia h2 (by rw[av,av,ll,ll];omega) q3 (by rw[s4];exact g4.2) g1.1 g5.1 n (some (.pv (.tup [tv a,tv b,tv c,tv d]))) c3 c4 c5 c6 y8 c10;have h3:=h2.adds (lW [a,b,d] n);obtain⟨j3,j4,j5,j6,j10,f4⟩:=Ia h3 (by rw[av,av,av,ll,ll,ll];omega) q4 (by rw[s1];exact g1.2) g2.1 (by rw[s3];exact g3.2) n (some (.pv (.tup [tv a,tv b,tv c,tv d]))) d3 d4 d5 d6 y8 d10;rw[oN]at f2 f3 f4;rw[oN]at f3 f4;rw[oN]at f4;have es:∀S,mY [.pv (.tup [tv a,tv b,tv c,tv d])] S=.ok (.pv (.lst [.tup [tv b,tv c,tv d],.tup [tv a,tv d,tv c],.tup [tv a,tv b,tv d],.tup [tv a,tv c,tv b]])) S:=λS=>by
  generalize tv a=T1;generalize tv b=T2;generalize tv c=T3;generalize tv d=T4;unfold mY aL Hd;dsimp! [qS,gT,cD,eA,gN]
 have es:=es [.dic true kvs,.dic true LS];have hb:yC=(aE (bI (aR (aC cB (mR cS (aB (aA 1) aD)) (mC (.int 3)))) (aE (aY (cC (aB (mC (.int 3)) aD)) (gN 3) uB) nS) cF) (aE (aM 7 (lV true)) (aE (aY (cC (aB (mC (.int 4)) aD)) (gN 3) (aY (cC (aB (aA 3) aD)) (gN 8) pJ)) (aY (aX (aH mY [] (aB (aA 1) aD))) (gN 9) uC)))):=rfl;unfold nE aL;rw[hb];clear g1 g2 g3 g4 g5 g6 l1 l2 l3' l4 l5 l6 s1 s2 s3 s4 s5 s6 q1 q2 q3 q4 hb hA hU h1 h2 h3;generalize tv d=T4,tv c=T3,tv b=T2,tv a=T1,PV.tup [tv a,tv c,tv b]=W4,PV.tup [tv a,tv b,tv d]=W3,PV.tup [tv a,tv d,tv c]=W2,PV.tup [tv b,tv c,tv d]=W1,uC=WB,uB=FB,(aY (cC (aB (mC (.int 4)) aD)) (gN 3) (aY (cC (aB (aA 3) aD)) (gN 8) pJ))=SL at *;have t1:(bI (aR (aC cB (mR cS (aB (aA 1) aD)) (mC (.int 3)))) (aE (aY (cC (aB (mC (.int 3)) aD)) (gN 3) FB) nS) cF) [some (.ref 0),some (.pv (.tup [T1,T2,T3,T4])),some (.pv (.int n)),none,none,none,none,none,none,none,none] [.dic true kvs]=.nx [some (.ref 0),some (.pv (.tup [T1,T2,T3,T4])),some (.pv (.int n)),none,none,none,none,none,none,none,none] [.dic true kvs]:=by
  simp! [bF]
 have t2:(aY (aX (aH mY [] (aB (aA 1) aD))) (gN 9) WB) [some (.ref 0),some (.pv (.tup [T1,T2,T3,T4])),some (.pv (.int n)),y3,none,none,y6,some (.ref 1),y8,none,none] [.dic true kvs,.dic true LS]=.nx [some (.ref 0),some (.pv (.tup [T1,T2,T3,T4])),some (.pv (.int n)),j3,j4,j5,j6,some (.ref 1),y8,some (.pv W4),j10] [.dic true (gO kvs (lW [b,c,d] n++lW [a,d,c] n++lW [a,b,d] n++lW [a,c,b] n)),.dic true LS]:=by
  simp! [aY,aX,bT,es,dY,eZ,gN,f1,f2,f3,f4]
 clear f1 f2 f3 f4 es;generalize (bI (aR (aC cB (mR cS (aB (aA 1) aD)) (mC (.int 3)))) (aE (aY (cC (aB (mC (.int 3)) aD)) (gN 3) FB) nS) cF)=SI,(aY (aX (aH mY [] (aB (aA 1) aD))) (gN 9) WB)=SW,gO kvs (lW [b,c,d] n++lW [a,d,c] n++lW [a,b,d] n++lW [a,c,b] n)=KV at *;simp! [lV,t1,el,t2]
theorem afc{n k:Nat}(hn:n=2\/n=3)(hk:k<=2000){kvs:List (PV×PV)}{C:List dF}(h:Tb kvs C)(hl:C.length<=70000){u:AZ}(s:Sx n k u)(m:Int):nE [.ref 0,.pv (px u),.pv (.int m)] [.dic true kvs]=.ok (.pv .non) [.dic true (gO kvs (lA u m))]:=by
 have hg:=s.gu;have sl:=s.len;rcases hn with rfl |rfl
 .obtain⟨a,b,c,rfl⟩:=len3 sl
  obtain⟨x0,y0,w0,rfl,p0⟩:=(hg a (by simp)).two hk;obtain⟨x1,y1,w1,rfl,p1⟩:=(hg b (by simp)).two hk;obtain⟨x2,y2,w2,rfl,p2⟩:=(hg c (by simp)).two hk;exact afq h (by omega) p0 p1 p2 m
 .obtain⟨a,b,c,d,rfl⟩:=len4 sl
  obtain⟨x0,y0,z0,w0,rfl,p0⟩:=(hg a (by simp)).three hk;obtain⟨x1,y1,z1,w1,rfl,p1⟩:=(hg b (by simp)).three hk;obtain⟨x2,y2,z2,w2,rfl,p2⟩:=(hg c (by simp)).three hk;obtain⟨x3,y3,z3,w3,rfl,p3⟩:=(hg d (by simp)).three hk;exact afd h hl p0 p1 p2 p3 m
def cL(hs:BA)(m:Int):List dF:=hs.flatMap λu=>lA u m
theorem Bw{u:AZ}(h:u.length=3\/u.length=4)(m:Int):(lA u m).length<=24:=by
 rcases h with h |h
 .obtain⟨a,b,c,rfl⟩:=len3 h;exact(by decide:6<=24)
 .obtain⟨a,b,c,d,rfl⟩:=len4 h;exact al 24
def qT(e:ME):MS:=(cK (aH nE [] (aB (aA 2) (aB (aA 3) (aB e aD)))))
theorem Be{n k:Nat}(hn:n=2\/n=3)(hk:k<=2000){e:ME}{m:Int}(he:∀ρ S,e ρ S=.ok (.pv (.int m)) S)(a0 a1:BH):∀(L:BA)(kvs:List (PV×PV))(C:List dF)(x3:BH),Tb kvs C->C.length+24*L.length<=70000->(∀u∈L,Sx n k u)->∃y3,dL [] (gN 3) (qT e) (L.map px) [a0,a1,some (.ref 0),x3] [.dic true kvs]=.nx [a0,a1,some (.ref 0),y3] [.dic true (gO kvs (cL L m))]
 |[],kvs,C,x3,h,hl,ha=>⟨x3,eZ⟩
 |u::L,kvs,C,x3,h,hl,ha=>by
  rw[ci]at hl;have su:=ha u bo;have e1:=afc hn hk h (by omega) su m;have h2:=h.adds (lA u m);have:=Bw (iP hn su.len) m;obtain⟨y3,e2⟩:=Be hn hk he a0 a1 L _ _ (some (.pv (px u))) h2 (by rw[av];omega) λy hy=>ha y (bd _ hy);refine⟨y3,?_⟩;rw[oN]at e2;have ec:cL (u::L) m=lA u m++cL L m:=oh;rw[ao,dY,ec];have e3:qT e [a0,a1,some (.ref 0),some (.pv (px u))] [.dic true kvs]=.nx [a0,a1,some (.ref 0),some (.pv (px u))] [.dic true (gO kvs (lA u m))]:=by
   unfold qT;generalize px u=T1 at *;dsimp! [he,e1]
  simp[gN,e3,e2]
theorem aea{kvs:List (PV×PV)}{C:List dF}(h:Tb kvs C):∃b L,bZ [] (gN 0) (aC cB (mE (aA 1) (aA 0)) (mC (.int 0))) (kvs.map (·.1)) [none,some (.ref 0)] [.dic true kvs]=.ok L [.dic true kvs]/\jE [.lst L]=some (.bl b)/\(b=true↔∀k,dG C k=0):=by
 refine⟨kvs.all λx=>nW (some x.2)==0,kvs.map λx=>.bl (nW (some x.2)==0),?_,?_,?_⟩
 .refine rR (nB _) (λx:PV×PV=>x.1) (λx=>PV.bl (nW (some x.2)==0)) kvs none λx hx=>?_
  obtain⟨k,i,rfl⟩:=h.int x hx;have e:=rV h.nd hx;have e1:lR (.ref 0) (.pv (kE k)) [.dic true kvs] none=.ok (.pv (.int i)) [.dic true kvs]:=by
   unfold lR;simp only[kz];rw[if_pos ⟨k,rfl⟩,e]
  dsimp only[nW];generalize kE k=K1 at *;simp! [mE,e1]
 .have e:=aaY (kvs.map λx=>nW (some x.2)==0)
  rw[dr]at e;refine e.trans ?_;rw[List.all_map];rfl
 .rw[ji]
  constructor
  .intro z k
   rcases h.val k with m |⟨_,m⟩
   .simpa[nW]using z _ m
   .exact m
  .intro z x hx
   obtain⟨k,i,rfl⟩:=h.int x hx;rcases h.val k with m |⟨m,_⟩
   .have e1:=rV h.nd m
    rw[rV h.nd hx]at e1;injection e1 with e1;injection e1 with e1;simp[nW,e1,z k]
   .exact absurd hx (m _)
theorem Fi{x0 y0 w0 x1 y1 w1:Int}(h0:0<w0)(h1:0<w1)(m:Int):iL 2 (cW [[x0,y0,w0],[x1,y1,w1]] m) (lF [x0,y0,w0] [x1,y1,w1] m):=by
 have c:=@aef x0 y0 w0 x1 y1 w1 h0 h1;have e1:=iC.mpr c.1;have e2:=iC.mpr c.2;refine⟨⟨.inr ⟨rfl,_,_,_,_,_,h0,rfl,?_⟩,rfl⟩,⟨.inr ⟨rfl,_,_,_,_,_,h1,rfl,?_⟩,?_⟩,trivial⟩
 .show[aS (eR [x0,y0,w0] [x1,y1,w1]),[x0,y0,w0]]=_
  rw[e1];rfl
 .show[aS (eR [x0,y0,w0] [x1,y1,w1]),[x1,y1,w1]]=_
  rw[e2];rfl
 .show-m=0-m
  omega
theorem Ai{w:AZ}{n1 n2 n3:Int}(hN:cT w=[n1,n2,n3]){x0 y0 z0 w0 x1 y1 z1 w1:Int}(h0:0<w0)(h1:0<w1)(eS:Pr (ext (cT w) (w.headD [])) (ext (cT w) [x0,y0,z0,w0]))(eE:Pr (ext (cT w) (w.headD [])) (ext (cT w) [x1,y1,z1,w1]))(m:Int):iL 3 (sd (aS (cT w)) [x0,y0,z0,w0] [x1,y1,z1,w1] m) (lS w [x0,y0,z0,w0] [x1,y1,z1,w1] m):=by
 have c:=@adQ x0 y0 z0 w0 x1 y1 z1 w1 h0 h1;have e1:=iC.mpr c.1;have e2:=iC.mpr c.2;have e3:=iC.mpr eS;have e4:=iC.mpr eE;refine⟨⟨.inl ⟨rfl,n1,n2,n3,x1*w0-x0*w1,y1*w0-y0*w1,z1*w0-z0*w1,x0,y0,z0,w0,h0,?_,?_⟩,rfl⟩,⟨.inl ⟨rfl,n1,n2,n3,x1*w0-x0*w1,y1*w0-y0*w1,z1*w0-z0*w1,x1,y1,z1,w1,h1,?_,?_⟩,?_⟩,trivial⟩
 .rw[<-hN]
  rfl
 .show[aS (ext (cT w) (w.headD [])),aS (fR [x0,y0,z0,w0] [x1,y1,z1,w1]),[x0,y0,z0,w0]]=_
  rw[e3,e1,hN];rfl
 .rw[<-hN]
  rfl
 .show[aS (ext (cT w) (w.headD [])),aS (fR [x0,y0,z0,w0] [x1,y1,z1,w1]),[x1,y1,z1,w1]]=_
  rw[e4,e2,hN];rfl
 .show-m=0-m
  omega
theorem La{a b c:AY}(ha:Pw 3 a)(hb:Pw 3 b)(hc:Pw 3 c)(m:Int):iL 3 (cW [a,b,c] m) (lW [a,b,c] m):=by
 obtain⟨x0,y0,z0,w0,rfl,h0⟩:=ha.three;obtain⟨x1,y1,z1,w1,rfl,h1⟩:=hb.three;obtain⟨x2,y2,z2,w2,rfl,h2⟩:=hc.three;have q:=@ae8 x0 y0 z0 w0 x1 y1 z1 w1 x2 y2 z2 w2 h0 h1 h2;have r:Pr (ext (cT [[x0,y0,z0,w0],[x1,y1,z1,w1],[x2,y2,z2,w2]]) [x0,y0,z0,w0]) (ext (cT [[x0,y0,z0,w0],[x1,y1,z1,w1],[x2,y2,z2,w2]]) [x0,y0,z0,w0]):=⟨1,1,by decide,by decide,rfl⟩;exact(Ai (w:=[[x0,y0,z0,w0],[x1,y1,z1,w1],[x2,y2,z2,w2]]) rfl h2 h0 q.2 r m).app ((Ai (w:=[[x0,y0,z0,w0],[x1,y1,z1,w1],[x2,y2,z2,w2]]) rfl h0 h1 r q.1 m).app ((Ai (w:=[[x0,y0,z0,w0],[x1,y1,z1,w1],[x2,y2,z2,w2]]) rfl h1 h2 q.1 q.2 m).app (C':=[]) (D':=[]) trivial))
theorem aeR{n:Nat}(hn:n=2\/n=3){u:AZ}(hl:u.length=n+1)(hp:∀v∈u,Pw n v)(m:Int):∃D,iL n (cP u m) D/\∀k,dG D k=dG (lA u m) k:=by
 rcases hn with rfl |rfl
 .obtain⟨a,b,c,rfl⟩:=len3 hl
  obtain⟨x0,y0,w0,rfl,h0⟩:=(hp a (by simp)).two;obtain⟨x1,y1,w1,rfl,h1⟩:=(hp b (by simp)).two;obtain⟨x2,y2,w2,rfl,h2⟩:=(hp c (by simp)).two;refine⟨_,(Fi h0 h1 m).app ((Fi h1 h2 m).app ((Fi h2 h0 m).app (C':=[]) (D':=[]) trivial)),λk=>?_⟩;show _=dG (lF _ _ m++lF _ _ m++lF _ _ m) k;simp only[lM,dG];omega
 .obtain⟨a,b,c,d,rfl⟩:=len4 hl
  have pa:=hp a (by simp);have pb:=hp b (by simp);have pc:=hp c (by simp);have pd:=hp d (by simp);exact⟨_,(La pb pc pd m).app ((La pa pd pc m).app ((La pa pb pd m).app ((La pa pc pb m).app (C':=[]) (D':=[]) trivial))),λk=>rfl⟩
theorem Og{n k:Nat}(hn:n=2\/n=3)(m:Int):∀{hs:BA},(∀u∈hs,Sx n k u)->∃D,iL n (cH hs m) D/\∀k,dG D k=dG (cL hs m) k
 |[],_=>⟨[],trivial,λ_=>rfl⟩
 |u::hs,h=>by
  obtain⟨D,l1,s1⟩:=Og hn m (hs:=hs) λv hv=>h v (bd _ hv);have su:=h u bo;obtain⟨E,l2,s2⟩:=aeR hn su.len (λv hv=>(su.gu v hv).pt) m;refine⟨E++D,l2.app l1,λk=>?_⟩;have ec:cL (u::hs) m=lA u m++cL hs m:=oh;rw[ec,lM,lM,s1,s2]
theorem afW{x0 y0 w0 x1 y1 w1:Int}{k:Nat}{S:aJ}(hk:S[k]?=some (.lst [v2 x0 y0 w0,v2 x1 y1 w1]))(p:P2 x0 y0 w0)(q:P2 x1 y1 w1):oJ [.ref k] S=.ok (.pv (.tup ((low (B2 x0 y0 w0 x1 y1 w1)).map .int))) S:=by
 have t:∀{a:Int},Bd 2000 a->Bd 20000 a:=λh=>h.mono (by decide);have ec:=uM (A:=v2 x0 y0 w0) (B:=v2 x1 y1 w1) S (.inr rfl) (.inr rfl) (t p.bx) (t p.by_) (t p.bw) (t q.bx) (t q.by_) (t q.bw);have e1:y0*w1-w0*y1=-(y1*w0-y0*w1):=by grind
 have e2:w0*x1-x0*w1=x1*w0-x0*w1:=by grind
 rw[e1,e2]at ec;have el:=mU (B2 x0 y0 w0 x1 y1 w1) S (by
  intro n hn;have hn:n=-(y1*w0-y0*w1)\/n=x1*w0-x0*w1\/n=x0*y1-y0*x1:=by simpa[B2]using hn
  rcases hn with rfl |rfl |rfl
  .exact(sb p.by_ p.bw q.by_ q.bw).neg.mono (by decide)
  .exact(sb p.bx p.bw q.bx q.bw).mono (by decide)
  .exact((p.bx.mul q.by_).sub (p.by_.mul q.bx)).mono (by decide))
 have hB:(B2 x0 y0 w0 x1 y1 w1).map PV.int=[.int (-(y1*w0-y0*w1)),.int (x1*w0-x0*w1),.int (x0*y1-y0*x1)]:=rfl;rw[hB]at el;generalize v2 x1 y1 w1=Q,v2 x0 y0 w0=P,[PV.int (-(y1*w0-y0*w1)),.int (x1*w0-x0*w1),.int (x0*y1-y0*x1)]=CL,(low (B2 x0 y0 w0 x1 y1 w1)).map PV.int=RL at *;unfold oJ aL xI;dsimp! [ec,el,hk]
theorem agh{Q R U V:PV}{x0 y0 z0 w0 a b c:Int}{k:Nat}{S:aJ}(hk:S[k]?=some (.lst [v3 x0 y0 z0 w0,Q,R]))(p:P3 x0 y0 z0 w0)(a1:iZ [.pv (v3 x0 y0 z0 w0),.pv Q] S=.ok (.pv U) S)(a2:iZ [.pv (v3 x0 y0 z0 w0),.pv R] S=.ok (.pv V) S)(en:jW [.pv U,.pv V] S=.ok (.pv (.lst [.int a,.int b,.int c])) S)
  (ba:Bd 8003 a)(bb:Bd 8003 b)(bc:Bd 8003 c):oJ [.ref k] S=.ok (.pv (.tup ((low (B3 w0 x0 y0 z0 a b c)).map .int))) S:=by
 have m1:=gC ba p.bw;have m2:=gC bb p.bw;have m3:=gC bc p.bw;rw[dg]at m1 m2 m3;have ed:=uP (A:=.lst [.int a,.int b,.int c]) (B:=v3 x0 y0 z0 w0) (us:=[a,b,c]) (vs:=[x0,y0,z0,w0]) S (.inl rfl) (.inr rfl) (by simp;exact⟨ba.mono (by decide),bb.mono (by decide),bc.mono (by decide)⟩) (by simp;exact⟨p.bx.mono (by decide),p.by_.mono (by decide),p.bz.mono (by decide),p.bw.mono (by decide)⟩);rw[afZ]at ed;have el:=mU (B3 w0 x0 y0 z0 a b c) S (afa p.bw p.bx p.by_ p.bz ba bb bc);have i3:aK (v3 x0 y0 z0 w0) (.int 3)=some (.int w0):=rfl;generalize (low (B3 w0 x0 y0 z0 a b c)).map PV.int=RL at *;simp only[B3,ao,aw]at el;have s0:∀T:Int,0-T=-T:=λT=>by omega
 generalize a*x0+b*y0+c*z0=T at *;have m1':aV (.int a) (.int w0)=some (.int (w0*a)):=m1;generalize v3 x0 y0 z0 w0=P,w0*c=K3,w0*b=K2,w0*a=K1 at *;have f0:aK (.lst [P,Q,R]) (.int 0)=some P:=rfl;have f1:aK (.lst [P,Q,R]) (.int 1)=some Q:=rfl;have f2:aK (.lst [P,Q,R]) (.int 2)=some R:=rfl;unfold oJ aL xI;simp! [f0,f1,f2,i3,bC,aX,bT,cQ,dX,dS,gN,a1,a2,en,ed,m1,m2,m3,s0,el,hk]
theorem adp{n:Nat}(hn:n=2\/n=3){T:AZ}(hl:T.length=n)(hg:∀p∈T,Gu n 201 p):∃B:AY,(∀(S:aJ)(k:Nat),S[k]?=some (.lst (T.map tv))->oJ [.ref k] S=.ok (.pv (tv B)) S)/\B.length=n+1/\∀x∈B,Bd 1020 x:=by
 have m:∀{a:Int},Bd 201 a->Bd 2000 a:=λh=>h.mono (by decide);have s:∀{k:Nat}{a b c d:Int},Bd k a->Bd k b->Bd k c->Bd k d->Bd (2*k+1) (a*b-c*d):=λ{k} {_ _ _ _} h1 h2 h3 h4=>((h1.mul h2).mono (show k+k<=2*k by omega)).sub ((h3.mul h4).mono (show k+k<=2*k by omega));rcases hn with rfl |rfl
 .obtain⟨p,q,rfl⟩:=len2 hl
  obtain⟨x0,y0,w0,rfl,q0,a0,b0,c0⟩:=(hg p (by simp)).two';obtain⟨x1,y1,w1,rfl,q1,a1,b1,c1⟩:=(hg q (by simp)).two';refine⟨low (B2 x0 y0 w0 x1 y1 w1),λS k hk=>afW hk ⟨m a0,m b0,m c0,q0⟩ ⟨m a1,m b1,m c1,q1⟩,by rw[xZ];rfl,λx hx=>?_⟩;refine sQ (k:=1020) (ns:=B2 x0 y0 w0 x1 y1 w1) (λn hn=>?_) x hx;have hn:n=-(y1*w0-y0*w1)\/n=x1*w0-x0*w1\/n=x0*y1-y0*x1:=by simpa[B2]using hn
  rcases hn with rfl |rfl |rfl
  .exact(s b1 c0 b0 c1).neg.mono (by decide)
  .exact(s a1 c0 a0 c1).mono (by decide)
  .exact(s a0 b1 b0 a1).mono (by decide)
 .obtain⟨p,q,r,rfl⟩:=len3 hl
  obtain⟨x0,y0,z0,w0,rfl,q0,a0,b0,d0,c0⟩:=(hg p (by simp)).three';obtain⟨x1,y1,z1,w1,rfl,q1,a1,b1,d1,c1⟩:=(hg q (by simp)).three';obtain⟨x2,y2,z2,w2,rfl,q2,a2,b2,d2,c2⟩:=(hg r (by simp)).three';have hF:=λS=>ads S (x0:=x0) (y0:=y0) (z0:=z0) (w0:=w0) (x1:=x1) (y1:=y1) (z1:=z1) (w1:=w1) (x2:=x2) (y2:=y2) (z2:=z2) (w2:=w2) ⟨m a0,m b0,m d0,m c0,q0⟩ ⟨m a1,m b1,m d1,m c1,q1⟩ ⟨m a2,m b2,m d2,m c2,q2⟩;obtain⟨a,b,c,_,_,eN,ba,bb,bc,_⟩:=hF [];have eN0:=eN;simp only[N3,dz,and_true]at eN0;obtain⟨n1,n2,n3⟩:=eN0;have g1:=s a1 c0 a0 c1;have g2:=s b1 c0 b0 c1;have g3:=s d1 c0 d0 c1;have k1:=s a2 c0 a0 c2;have k2:=s b2 c0 b0 c2;have k3:=s d2 c0 d0 c2;have t1:Bd 807 a:=by rw[<-n1];exact(s g2 k3 g3 k2).mono (by decide)
  have t2:Bd 807 b:=by rw[<-n2];exact(s g3 k1 g1 k3).mono (by decide)
  have t3:Bd 807 c:=by rw[<-n3];exact(s g1 k2 g2 k1).mono (by decide)
  refine⟨low (B3 w0 x0 y0 z0 a b c),λS k hk=>?_,by rw[xZ];rfl,λx hx=>?_⟩
  .obtain⟨a0,b0,c0,U,V,e,_,_,_,q1,q2,q3,q4,q5,q6⟩:=hF S
   rw[eN]at e;simp only[dz,and_true]at e;obtain⟨rfl,rfl,rfl⟩:=e;exact agh hk ⟨m (by assumption),m (by assumption),m (by assumption),m (by assumption),by assumption⟩ q3 q4 q6 ba bb bc
  .refine sQ (k:=1020) (ns:=B3 w0 x0 y0 z0 a b c) (λn hn=>?_) x hx
   have hn:n=w0*a\/n=w0*b\/n=w0*c\/n=-(a*x0+b*y0+c*z0):=by simpa[B3]using hn
   rcases hn with rfl |rfl |rfl |rfl
   .exact(c0.mul t1).mono (by decide)
   .exact(c0.mul t2).mono (by decide)
   .exact(c0.mul t3).mono (by decide)
   .exact((((t1.mul a0).add (t2.mul b0)).add ((t3.mul d0).mono (show 807+201<=1009 by decide))).neg).mono (by decide)
theorem Mx{h k w0 w1:Int}(h0:0<h)(k0:k<0)(p0:0<w0)(p1:0<w1):0<h*w1-k*w0/\0< -k*w0/\0<h*w1:=by
 have a:=aj h0 p1;have b:=aj (show 0< -k by omega) p0;refine⟨?_,b,a⟩;rw[jv]at b;omega
theorem vB{x0 x1 w0 w1 h k x z:Int}(e:x*(h*w1-k*w0)=(h*x1-k*x0)*z):x*((-k*w0+h*w1)*w0*w1)=(-k*w0*x0*w1+h*w1*x1*w0)*z:=by grind
theorem Vu{a b:Int}(hb:0<b)(e:a*b=0):a=0:=by
 rcases Int.mul_eq_zero.mp e with h |h
 .exact h
 .omega
theorem ade{n:Nat}(hn:n=2\/n=3){B p q:AY}(hB:B.length=n+1)(gp:Gu n 201 p)(gq:Gu n 201 q){h k:Int}(h0:0<h)(k0:k<0)(bh:Bd 1230 h)(bk:Bd 1230 k)(eh:dt B p=h)(ek:dt B q=k):∃(m:AY)(u v:Int),(∀S,pV [.pv (tv p),.pv (tv q),.pv (.int h),.pv (.int k)] S=.ok (.pv (tv m)) S)/\0<u/\0<v/\gD n u v p q m/\Gu n 1440 m/\dt B m=0:=by
 have bb:∀{x y:Int},Bd 201 x->Bd 201 y->Bd 1440 (h*y-k*x):=λhx hy=>((bh.mul hy).sub (bk.mul hx)).mono (by decide);have t8:∀{x:Int},Bd 1440 x->Bd 16000 x:=λh=>h.mono (by decide);have m1:∀{y:Int},Bd 201 y->aV (.int h) (.int y)=some (.int (h*y)):=λhy=>gC bh hy;have m2:∀{y:Int},Bd 201 y->aV (.int k) (.int y)=some (.int (k*y)):=λhy=>gC bk hy;rcases hn with rfl |rfl
 .obtain⟨x0,y0,w0,rfl,p0,a0,b0,c0⟩:=gp.two'
  obtain⟨x1,y1,w1,rfl,p1,a1,b1,c1⟩:=gq.two';obtain⟨b0',u0,v0⟩:=Mx h0 k0 p0 p1;obtain⟨zs,z,e1,P,e2⟩:=yP (n:=2) (k:=1440) (L:=[h*x1-k*x0,h*y1-k*y0]) (b:=h*w1-k*w0) b0' rfl (λx hx=>by
   simp only[bj,db,or_false]at hx;rcases hx with rfl |rfl
   .exact bb a0 a1
   .exact bb b0 b1) (bb c0 c1)
  have ep:=λS=>Zp (w:=.lst [.int (h*x1-k*x0),.int (h*y1-k*y0)]) [h*x1-k*x0,h*y1-k*y0] (h*w1-k*w0) S (.inl rfl) (λx hx=>by
   simp only[bj,db,or_false]at hx;rcases hx with rfl |rfl
   .exact t8 (bb a0 a1)
   .exact t8 (bb b0 b1)) (t8 (bb c0 c1)) (by omega) (by simp)
  rw[Ru b0',e1]at ep;refine⟨zs++[z],-k*w0,h*w1,λS=>?_,u0,v0,?_,⟨zs,z,rfl,P⟩,?_⟩
  .have ep:=ep S
   have r1:=m1 a1;have r2:=m1 b1;have r3:=m1 c1;have r4:=m2 a0;have r5:=m2 b0;have r6:=m2 c0;show pV [.pv (.tup [.int x0,.int y0,.int w0]),.pv (.tup [.int x1,.int y1,.int w1]),.pv (.int h),.pv (.int k)] S=.ok (.pv (.tup ((zs++[z]).map .int))) S;generalize (zs++[z]).map PV.int=ZL at *;clear e2 P e1 eh ek;unfold pV aL wN;dsimp! [bC,cQ,gK,kK,gA,bT,dX,dS,gT,cD,eA,gN,r1,r2,r3,r4,r5,r6,cV,cJ,cU,fB,iT,kO,HT.sIx,ep]
  .have h0':=e2 0 (by decide)
   have h1':=e2 1 (by decide)
   obtain⟨x,y,rfl⟩:=len2 P.len;have z0:=P.pos
   refine⟨⟨[x,y],z,rfl,rfl,z0⟩,λj hj=>?_⟩
   match j,hj with
   |0,_=>exact vB h0'
   |1,_=>exact vB h1'
   |2,_=>
    show z*((-k*w0+h*w1)*w0*w1)=(-k*w0*w0*w1+h*w1*w1*w0)*z;grind
  .have h0':=e2 0 (by decide)
   have h1':=e2 1 (by decide)
   obtain⟨a,b,c,rfl⟩:=len3 hB;obtain⟨x,y,rfl⟩:=len2 P.len
   have h0':x*(h*w1-k*w0)=(h*x1-k*x0)*z:=h0';have h1':y*(h*w1-k*w0)=(h*y1-k*y0)*z:=h1';rw[Qi]at eh ek;refine Vu b0' ?_;show dt [a,b,c] [x,y,z]*_=0;rw[Qi];grind
 .obtain⟨x0,y0,t0,w0,rfl,p0,a0,b0,d0,c0⟩:=gp.three'
  obtain⟨x1,y1,t1,w1,rfl,p1,a1,b1,d1,c1⟩:=gq.three';obtain⟨b0',u0,v0⟩:=Mx h0 k0 p0 p1;obtain⟨zs,z,e1,P,e2⟩:=yP (n:=3) (k:=1440) (L:=[h*x1-k*x0,h*y1-k*y0,h*t1-k*t0]) (b:=h*w1-k*w0) b0' rfl (λx hx=>by
   simp only[bj,db,or_false]at hx;rcases hx with rfl |rfl |rfl
   .exact bb a0 a1
   .exact bb b0 b1
   .exact bb d0 d1) (bb c0 c1)
  have ep:=λS=>Zp (w:=.lst [.int (h*x1-k*x0),.int (h*y1-k*y0),.int (h*t1-k*t0)]) [h*x1-k*x0,h*y1-k*y0,h*t1-k*t0] (h*w1-k*w0) S (.inl rfl) (λx hx=>by
   simp only[bj,db,or_false]at hx;rcases hx with rfl |rfl |rfl
   .exact t8 (bb a0 a1)
   .exact t8 (bb b0 b1)
   .exact t8 (bb d0 d1)) (t8 (bb c0 c1)) (by omega) (by simp)
  rw[Ru b0',e1]at ep;refine⟨zs++[z],-k*w0,h*w1,λS=>?_,u0,v0,?_,⟨zs,z,rfl,P⟩,?_⟩
  .have ep:=ep S
   have r1:=m1 a1;have r2:=m1 b1;have r3:=m1 c1;have r4:=m2 a0;have r5:=m2 b0;have r6:=m2 c0;have r7:=m1 d1;have r8:=m2 d0;show pV [.pv (.tup [.int x0,.int y0,.int t0,.int w0]),.pv (.tup [.int x1,.int y1,.int t1,.int w1]),.pv (.int h),.pv (.int k)] S=.ok (.pv (.tup ((zs++[z]).map .int))) S;generalize (zs++[z]).map PV.int=ZL at *;clear e2 P e1 eh ek;unfold pV aL wN;dsimp! [bC,cQ,gK,kK,gA,bT,dX,dS,gT,cD,eA,gN,r1,r2,r3,r4,r5,r6,r7,r8,cV,cJ,cU,fB,iT,kO,HT.sIx,ep]
  .have h0':=e2 0 (by decide)
   have h1':=e2 1 (by decide);have h2':=e2 2 (by decide)
   obtain⟨x,y,t,rfl⟩:=len3 P.len;have z0:=P.pos
   refine⟨⟨[x,y,t],z,rfl,rfl,z0⟩,λj hj=>?_⟩
   match j,hj with
   |0,_=>exact vB h0'
   |1,_=>exact vB h1'
   |2,_=>exact vB h2'
   |3,_=>
    show z*((-k*w0+h*w1)*w0*w1)=(-k*w0*w0*w1+h*w1*w1*w0)*z;grind
  .have h0':=e2 0 (by decide)
   have h1':=e2 1 (by decide);have h2':=e2 2 (by decide)
   obtain⟨a,b,c,d,rfl⟩:=len4 hB;obtain⟨x,y,t,rfl⟩:=len3 P.len
   have h0':x*(h*w1-k*w0)=(h*x1-k*x0)*z:=h0';have h1':y*(h*w1-k*w0)=(h*y1-k*y0)*z:=h1';have h2':t*(h*w1-k*w0)=(h*t1-k*t0)*z:=h2';rw[Oi]at eh ek;refine Vu b0' ?_;show dt [a,b,c,d] [x,y,t,z]*_=0;rw[Oi];grind
theorem Vr{n:Nat}(hn:n=2\/n=3){W:BF}{v:PV}(hl:W.length=n+1)(S:aJ){j:Nat}(hj:j<n+1):lL [.pv (PV.tup W),.pv (.int (j:Int)),.pv (v)] S=.ok (.pv (PV.tup (W.set j v))) S:=by
 have go:∀(L M R:BF)(a b:BG),iT (PV.tup W) none (some (j:Int))=some (.tup L)->iT (PV.tup W) (some ((j:Int)+1)) none=some (.tup R)->L.length+1+R.length<=100->PV.tup (W.set j v)=.tup (L++[v]++R)->lL [.pv (PV.tup W),.pv (.int (j:Int)),.pv (v)] S=.ok (.pv (PV.tup (W.set j v))) S:=λL M R a b h1 h2 hz h3=>by
  have t1:lU (.tup L) (.tup [v])=some (.tup (L++[v])):=by
   show(if L.length+1<=16777216 then some (PV.tup (L++[v]))else none)=_;rw[if_pos (by omega)]
  have t2:lU (.tup (L++[v])) (.tup R)=some (.tup (L++[v]++R)):=by
   show(if(L++[v]).length+R.length<=16777216 then some (PV.tup (L++[v]++R))else none)=_;rw[if_pos (by rw[av,nj];omega)]
  rw[h3];generalize (j:Int)=J,v=T,PV.tup W=P,L++[v]=U,L++[v]++R=V at *;unfold lL aL Bc;dsimp! [cV,cJ,cU,fB,h1,h2,t1,t2]
 rcases hn with rfl |rfl
 .match W,hl,j,hj with
  |[a,b,c],_,0,_=>exact go [] [] [b,c] none none rfl rfl (by simp) rfl
  |[a,b,c],_,1,_=>exact go [a] [] [c] none none rfl rfl (by simp) rfl
  |[a,b,c],_,2,_=>exact go [a,b] [] [] none none rfl rfl (by simp) rfl
 .match W,hl,j,hj with
  |[a,b,c,d],_,0,_=>exact go [] [] [b,c,d] none none rfl rfl (by simp) rfl
  |[a,b,c,d],_,1,_=>exact go [a] [] [c,d] none none rfl rfl (by simp) rfl
  |[a,b,c,d],_,2,_=>exact go [a,b] [] [d] none none rfl rfl (by simp) rfl
  |[a,b,c,d],_,3,_=>exact go [a,b,c] [] [] none none rfl rfl (by simp) rfl
theorem Cd{i:Int}:∀{l:AY},i∈l->∃j,lD i l=some j/\l[j]?=some i
 |x::l,h=>by
  unfold lD
  by_cases c:x=i
  .exact⟨0,by rw[if_pos c],by simp[c]⟩
  .obtain⟨j,e1,e2⟩:=Cd (l:=l) (by
    rcases bj.mp h with z |z
    .exact absurd z.symm c
    .exact z)
   exact⟨j+1,by rw[if_neg c,e1];rfl,by simpa using e2⟩
theorem Az{l:AY}{M:Int}{i:Nat}(h:lD M l=some i)(S:aJ):uW (.pv (tv l)) [.pv (.int M)] S=.ok (.pv (.int (i:Nat))) S:=by
 show(match fS (l.map .int)with |some is=>(match lD M is with |some j=>bH.ok (AV.pv (.int (j:Nat))) S |none=>.fail) |none=>.fail)=_
 rw[pT];dsimp only;rw[h]
theorem Ve{l:AY}(h:l≠[]):∃(M:Int)(i:Nat),qM [tv l]=some (.int M)/\(∀S,uW (.pv (tv l)) [.pv (.int M)] S=.ok (.pv (.int (i:Nat))) S)/\l[i]?=some M/\∀x∈l,x<=M:=by
 cases e:l.max? with
 |none=>exact absurd (List.max?_eq_none_iff.mp e) h
 |some M=>
  obtain⟨a,b⟩:=v8.mp e;obtain⟨i,e1,e2⟩:=Cd a;refine⟨M,i,?_,Az e1,e2,b⟩;show(fS (l.map .int)).bind (λbs=>bs.max?.map PV.int)=_;rw[pT];show l.max?.map PV.int=_;rw[e];rfl
theorem Fr{l:AY}(h:l≠[]):∃(M:Int)(i:Nat),vN [tv l]=some (.int M)/\(∀S,uW (.pv (tv l)) [.pv (.int M)] S=.ok (.pv (.int (i:Nat))) S)/\l[i]?=some M/\∀x∈l,M<=x:=by
 cases e:l.min? with
 |none=>exact absurd (List.min?_eq_none_iff.mp e) h
 |some M=>
  obtain⟨a,b⟩:=w8.mp e;obtain⟨i,e1,e2⟩:=Cd a;refine⟨M,i,?_,Az e1,e2,b⟩;show(fS (l.map .int)).bind (λbs=>bs.min?.map PV.int)=_;rw[pT];show l.min?.map PV.int=_;rw[e];rfl
theorem Mr(S:aJ){n:Nat}{B:AY}(bB:∀x∈B,Bd 1020 x):∀(C:AZ)(x:BH),(∀c∈C,Gu n 1440 c)->bZ [] (gN 0) (aH uN [] (aB (aA 1) (aB (aA 0) aD))) (C.map tv) [x,some (.pv (tv B))] S=.ok ((C.map (dt B)).map .int) S
 |[],x,_=>dS
 |c::C,x,h=>by
  have e:=Q7 S (Wf S (A:=tv B) (B:=tv c) (us:=B) (vs:=c) (.inr rfl) (.inr rfl) (λx hx=>(bB x hx).mono (by decide)) (λx hx=>(Ly (h c (by simp)) x hx).mono (by decide)));have ih:=Mr S bB C (some (.pv (tv c))) (λd hd=>h d (bd _ hd));rw[ao,ao,ao,dX];generalize dt B c=DC,tv c=TC,tv B=TB at *;simp! [gN,e,ih]
theorem Jl{n:Nat}(S:aJ){B:AY}(bB:∀x∈B,Bd 1020 x){C:AZ}(h:∀c∈C,Gu n 1440 c):mP [.pv (px C),.pv (tv B)] S=.ok (.pv (tv (C.map (dt B)))) S:=by
 have e:=Mr S bB C none h;have hp:px C=.tup (C.map tv):=rfl;have hq:tv (C.map (dt B))=.tup ((C.map (dt B)).map .int):=rfl;rw[hp,hq];generalize tv B=TB,C.map tv=CL,(C.map (dt B)).map PV.int=HL at *;unfold mP aL Ib;simp! [bC,cQ,aX,bT,e]
theorem Nz{n:Nat}(hn:n=2\/n=3){B c:AY}(hB:B.length=n+1)(bB:∀x∈B,Bd 1020 x)(g:Gu n 201 c):Bd 1230 (dt B c):=by
 rcases hn with rfl |rfl
 .obtain⟨x,y,w,rfl,_,a,b,c⟩:=g.two'
  obtain⟨d,e,f,rfl⟩:=len3 hB
  rw[Qi];exact((((bB d (by simp)).mul a).add ((bB e (by simp)).mul b)).add (((bB f (by simp)).mul c).mono (show 1020+201<=1020+201+1 by decide))).mono (by decide)
 .obtain⟨x,y,z,w,rfl,_,a,b,c,d⟩:=g.three'
  obtain⟨e,f,g,h,rfl⟩:=len4 hB
  rw[Oi];exact(((((bB e (by simp)).mul a).add ((bB f (by simp)).mul b)).add (((bB g (by simp)).mul c).mono (show 1020+201<=1020+201+1 by decide))).add (((bB h (by simp)).mul d).mono (show 1020+201<=1020+201+1+1 by decide))).mono (by decide)
def Pk(n:Nat)(B:AY)(C:AZ):Prop:=C.length=n+1/\(∀c∈C,Gu n 1440 c/\(dt B c≠0->Gu n 201 c))/\Sx n 1440 (bX C)
def Px(n:Nat)(B:AY)(C:AZ)(X:BA):Prop:=(∀D∈X,D.length=n+1/\(∀c∈D,Gu n 1440 c)/\Sx n 1440 (bX D)/\((∀c∈D,0<=dt B c)\/∀c∈D,dt B c<=0))/\(∀kk,HS (X.map bX) kk=PS (bX C) kk)/\fN n (X.map bX)=fN n [bX C]
def rA(B:AY)(C:AZ):Nat:=C.countP λc=>dt B c !=0
theorem adb{n:Nat}(hn:n=2\/n=3){B:AY}{C:AZ}(h:Pk n B C){i j:Nat}(hij:i≠j){p q m:AY}(hp:C[i]?=some p)(hq:C[j]?=some q){u v:Int}(hu:0<u)(hv:0<v)(hm:gD n u v p q m)(gm:Gu n 1440 m)(m0:dt B m=0):Pk n B (C.set i m)/\Pk n B (C.set j m)/\∀X Y,Px n B (C.set i m) X->Px n B (C.set j m) Y->Px n B C (X++Y):=by
 obtain⟨hl,hg,sx⟩:=h;obtain⟨R,q0,q1,q2⟩:=aaX (m:=m) hij hp hq;have pm:(bX C).Perm (p::q::R):=(pX (iP hn hl)).trans q0;obtain⟨lr,g0,g1,g2,c0,n0,n1,n2⟩:=Fs hn (al 1440) (by decide) sx hu hv hm gm pm;have ll:∀a b:AY,(a::b::R).length=n+1:=λa b=>by simp only[ci];omega
 have c1:bX (C.set i m)=bX (m::q::R):=Ob q1 (iP hn (ll m q));have c2:bX (C.set j m)=bX (p::m::R):=Ob q2 (iP hn (ll p m));have st:∀k,∀c∈C.set k m,Gu n 1440 c/\(dt B c≠0->Gu n 201 c):=λk c hc=>by
  rcases List.mem_or_eq_of_mem_set hc with z |z
  .exact hg c z
  .rw[z]
   exact⟨gm,λy=>absurd m0 y⟩
 refine⟨⟨by rw[ff,hl],st i,?_⟩,⟨by rw[ff,hl],st j,?_⟩,λX Y=>?_⟩
 .rw[c1]
  exact Yg hn (by decide) (ll m q) g1 n1
 .rw[c2]
  exact Yg hn (by decide) (ll p m) g2 n2
 .rintro⟨a1,a2,a3⟩ ⟨b1,b2,b3⟩
  obtain⟨f1,f2⟩:=aeh hn (al 1440) (by decide) sx (X:=[bX (C.set i m),bX (C.set j m)]) (.inr ⟨p,q,m,R,u,v,hu,hv,hm,gm,pm,by rw[c1,c2]⟩);refine⟨λD hD=>(br.mp hD).elim (a1 D) (b1 D),λkk=>?_,?_⟩
  .rw[du,Fu,a2,b2,<-f1 kk]
   simp[HS]
  .rw[du,Xf,a3,b3,<-f2]
   simp only[fN];grind
theorem Av{B:AY}{C:AZ}{i j:Nat}(hij:i≠j){p q m:AY}(hp:C[i]?=some p)(hq:C[j]?=some q)(p0:dt B p≠0)(q0:dt B q≠0)(m0:dt B m=0):rA B (C.set i m)+1=rA B C/\0<rA B (C.set i m):=by
 have il:i<C.length:=(bn.mp hp).1;have hpi:C[i]=p:=(bn.mp hp).2;have e1:(C.set i m).Perm (m::C.eraseIdx i):=by
  have:=xM (L:=C.set i m) (i:=i) (x:=m) (df il);rw[uf]at this;exact this
 have e2:C.Perm (p::C.eraseIdx i):=xM hp;unfold rA;refine⟨?_,?_⟩
 .rw[e1.countP_eq,e2.countP_eq,AM,AM]
  simp[m0,p0]
 .rw[List.countP_pos_iff]
  refine⟨q,cq (i:=j) ?_,by simpa using q0⟩;rw[dk hij];exact hq
theorem Tq{S:aJ}{L Y:BF}{ρ:cN}{m:ME}(hρ:ρ[5]?=some (some (.ref S.length)))(hm:m ρ (S++[.lst L])=.ok (.pv (.lst Y)) (S++[.lst L]))(hz:L.length+Y.length<=2000):nR 5 m ρ (S++[.lst L])=.nx ρ (S++[.lst (L++Y)]):=by
 unfold nR;rw[hρ];dsimp only;rw[hm];have h2:L.length+Y.length<=16777216:=by omega
 show zR S.length ρ (.pv (.lst Y)) (S++[.lst L])=_;unfold zR;simp[h2]
theorem Oh{f:FM}{ms:MA}{ρ:cN}{S S1 S2:aJ}{xs:BI}{v:AV}(h:ms ρ S=.ok xs S1)(g:frz S1.length (fT (f xs S1))=.ok v S2):aH f [] ms ρ S=.ok v S2:=by
 unfold aH;rw[h];show frz S1.length (fT (f (xs++[]) S1))=_;rw[fk];exact g
theorem yQ{l:AY}{i:Nat}{x:Int}(h:l[i]?=some x):aK (tv l) (.int (i:Int))=some (.int x):=eD (by rw[az,h];rfl)
theorem Jv{C:AZ}{i:Nat}{p:AY}(h:C[i]?=some p):aK (px C) (.int (i:Int))=some (tv p):=eD (by rw[az,h];rfl)
abbrev Ua:MA:=(aB (aH lL [] (aB (aA 0) (aB (aA 6) (aB (aA 4) aD)))) (aB (aH lL [] (aB (aA 1) (aB (aA 6) (aB (mC (.int 0)) aD)))) aD))
theorem Qs{n:Nat}(hn:n=2\/n=3){C:AZ}{H:AY}(hl:C.length=n+1)(hH:H.length=n+1){m:AY}{i:Nat}(hi:i<n+1)(x2 x3 x5:BH)(S:aJ):Ua [some (.pv (px C)),some (.pv (tv H)),x2,x3,some (.pv (tv m)),x5,some (.pv (.int (i:Int)))] S=.ok [.pv (px (C.set i m)),.pv (tv (H.set i 0))] S:=by
 have e1:=Vr hn (W:=C.map tv) (v:=tv m) (by rw[ak,hl]) S hi;have e2:=Vr hn (W:=H.map .int) (v:=.int 0) (by rw[ak,hH]) S hi;have k1:PV.tup ((C.map tv).set i (tv m))=px (C.set i m):=by
  show _=PV.tup ((C.set i m).map tv);rw[kj]
 have k2:PV.tup ((H.map PV.int).set i (.int 0))=tv (H.set i 0):=by
  show _=PV.tup ((H.set i 0).map PV.int);rw[kj]
 rw[k1]at e1;rw[k2]at e2;have hp:PV.tup (C.map tv)=px C:=rfl;have hq:PV.tup (H.map PV.int)=tv H:=rfl;rw[hp]at e1;rw[hq]at e2;generalize (i:Int)=I,tv m=M,tv H=T,px C=P,tv (H.set i 0)=T1,px (C.set i m)=P1 at *;unfold Ua;simp! [e1,e2]
theorem Et{n:Nat}{B:AY}{r:FM}{C:AZ}(hl:C.length=n+1)(sd:(∀c∈C,0<=dt B c)\/∀c∈C,dt B c<=0)(S:aJ):frz S.length (fT (aL 2 7 (jJ r) [.pv (px C),.pv (tv (C.map (dt B)))] S))=.ok (.pv (.lst ([C].map px))) S:=by
 have ne:C.map (dt B)≠[]:=λe=>by
  have:=congrArg kq e;rw[ak,hl]at this;simp at this
 obtain⟨M,i,x1,x2,x3,x4⟩:=Ve ne;obtain⟨N,j,y1,y2,y3,y4⟩:=Fr ne;have fi:=yQ x3;have fj:=yQ y3;have x2:=x2 S;have y2:=y2 S;have ht:tv (C.map (dt B))=.tup ((C.map (dt B)).map .int):=rfl;have c:M<=0\/0<=N:=by
  rcases sd with sd |sd
  .obtain⟨d,hd,e⟩:=fg.mp (cq y3)
   exact .inr (e▸sd d hd)
  .obtain⟨d,hd,e⟩:=fg.mp (cq x3)
   exact .inl (e▸sd d hd)
 rw[ao,aw];rw[ht]at x1 x2 y1 y2 fi fj⊢;clear x3 x4 y3 y4;generalize (j:Int)=J,(i:Int)=I,px C=P,(C.map (dt B)).map PV.int=T at *;have hf:aL 2 7 (jJ r) [.pv P,.pv (.tup T)] S=.ok (.pv (.lst [P])) S:=by
  unfold jJ;apply tD (v:=.pv (.lst [P])) (S':=S) rfl;apply sq;simp! [gJ,oV,tupR,x1,x2];exact⟨rfl,rfl⟩;apply sq;simp! [oV,tupR,y1,y2];exact⟨rfl,rfl⟩;rw[aE]
  by_cases c1:M<=0
  .simp! [fi,c1]
  .have c2:0<=N:=c.resolve_left c1
   simp! [fi,fj,c1,c2]
  simp[jA]
 rw[hf];rfl
theorem wZ{n:Nat}(hn:n=2\/n=3){B:AY}(hB:B.length=n+1)(bB:∀x∈B,Bd 1020 x){r:FM}{z:Nat}(z4:z<=3)(hr:0<z->∀(C:AZ)(S:aJ),Pk n B C->rA B C<=z->∃X:BA,frz S.length (fT (r [.pv (px C),.pv (tv (C.map (dt B)))] S))=.ok (.pv (.lst (X.map px))) S/\X.length<=2^z/\Px n B C X)(C:AZ)(S:aJ)(h:Pk n B C)(hz:rA B C<=z+1):∃X:BA,frz S.length (fT (aL 2 7 (jJ r) [.pv (px C),.pv (tv (C.map (dt B)))] S))=.ok (.pv (.lst (X.map px))) S/\X.length<=2^(z+1)/\Px n B C X:=by
 have hl:=h.1;have hH:(C.map (dt B)).length=n+1:=by rw[ak,hl]
 have ne:C.map (dt B)≠[]:=λe=>by
  rw[e]at hH;simp at hH
 obtain⟨M,i,x1,x2,x3,x4⟩:=Ve ne;obtain⟨N,j,y1,y2,y3,y4⟩:=Fr ne;have fi:=yQ x3;have fj:=yQ y3;have x2:=x2 S;have y2:=y2 S;have ht:tv (C.map (dt B))=.tup ((C.map (dt B)).map .int):=rfl
 by_cases c:M<=0\/0<=N
 .have sd:(∀c∈C,0<=dt B c)\/∀c∈C,dt B c<=0:=by
   rcases c with c |c
   .exact .inr λd hd=>Int.le_trans (x4 _ (yu hd)) c
   .exact .inl λd hd=>Int.le_trans c (y4 _ (yu hd))
  refine⟨[C],Et hl sd S,AN,λD hD=>?_,λkk=>by simp[HS],rfl⟩;have:D=C:=by simpa using hD
  subst this;exact⟨hl,λc hc=>(h.2.1 c hc).1,h.2.2,sd⟩
 .have M0:0<M:=by omega
  have N0:N<0:=by omega
  have il:i<n+1:=by
   have:=(bn.mp x3).1;omega
  have jl:j<n+1:=by
   have:=(bn.mp y3).1;omega
  have hij:i≠j:=λe=>by
   rw[e,y3]at x3;injection x3 with x3;omega
  obtain⟨p,hp,ep⟩:∃p,C[i]?=some p/\dt B p=M:=by
   rw[az]at x3;cases e:C[i]? with
   |none=>rw[e]at x3;cases x3
   |some p=>rw[e]at x3;injection x3 with x3;exact⟨p,rfl,x3⟩
  obtain⟨q,hq,eq⟩:∃q,C[j]?=some q/\dt B q=N:=by
   rw[az]at y3;cases e:C[j]? with
   |none=>rw[e]at y3;cases y3
   |some p=>rw[e]at y3;injection y3 with y3;exact⟨p,rfl,y3⟩
  have p0:dt B p≠0:=by omega
  have q0:dt B q≠0:=by omega
  have gp:=(h.2.1 p (cq hp)).2 p0;have gq:=(h.2.1 q (cq hq)).2 q0;obtain⟨m,u,v,em,hu,hv,hm,gm,m0⟩:=ade hn hB gp gq M0 N0 (ep▸Nz hn hB bB gp) (eq▸Nz hn hB bB gq) ep eq;obtain⟨P1,P2,PX⟩:=adb hn h hij hp hq hu hv hm gm m0;obtain⟨n1,n2⟩:=Av hij hp hq p0 q0 m0;obtain⟨n3,n4⟩:=Av (gw hij) hq hp q0 p0 m0;have s1:(C.set i m).map (dt B)=(C.map (dt B)).set i 0:=by rw[kj,m0]
  have s2:(C.set j m).map (dt B)=(C.map (dt B)).set j 0:=by rw[kj,m0]
  obtain⟨X,eX,lX,qX⟩:=hr (by omega) (C.set i m) (S++[.lst []]) P1 (by omega);obtain⟨Y,eY,lY,qY⟩:=hr (by omega) (C.set j m) (S++[.lst (X.map px)]) P2 (by omega);rw[s1]at eX;rw[s2]at eY;have b3:2^z<=8:=wr (by decide) z4;refine⟨X++Y,?_,by rw[av,qk];omega,PX X Y qX qY⟩;have a1:=λx2 x3 x5=>Oh (Qs hn hl hH il x2 x3 x5 (S++[.lst []])) eX;have a2:=λx2 x3 x5=>Oh (Qs hn hl hH jl x2 x3 x5 (S++[.lst (X.map px)])) eY;have g1:=λx2 x3=>Tq (S:=S) (L:=[]) (Y:=X.map px) rfl (a1 x2 x3 (some (.ref S.length))) (by simp;omega);have g2:=λx2 x3=>Tq (S:=S) (L:=X.map px) (Y:=Y.map px) rfl (a2 x2 x3 (some (.ref S.length))) (by simp;omega);have em:=em S;have fp:=Jv hp;have fq:=Jv hq;rw[du];rw[ht]at x1 x2 y1 y2 fi fj⊢;simp only[ht]at g1 g2;clear x3 x4 y3 y4 eX eY a1 a2 s1 s2 hr PX P1 P2 qX qY;generalize (j:Int)=J,(i:Int)=I,tv q=TQ,tv p=TP,tv m=TM,px C=P,Y.map px=YL,X.map px=XL,(C.map (dt B)).map PV.int=T at *;have c1:¬M<=0:=by omega
  have c2:¬0<=N:=by omega
  have hf:aL 2 7 (jJ r) [.pv P,.pv (.tup T)] S=.ok (.ref S.length) (S++[.lst (XL++YL)]):=by
   unfold jJ;apply tD rfl;apply sq;simp! [gJ,oV,tupR,x1,x2];exact⟨rfl,rfl⟩;apply sq;simp! [oV,tupR,y1,y2];exact⟨rfl,rfl⟩;apply sq;simp! [fi,fj,c1,c2];exact⟨rfl,rfl⟩;apply sq;simp! [fi,fj,fp,fq,em];exact⟨rfl,rfl⟩;apply sq;simp! [eL,jN];exact⟨rfl,rfl⟩;refine sq (ρ':=[some (.pv P),some (.pv (.tup T)),some (.pv (.int I)),some (.pv (.int J)),some (.pv TM),some (.ref S.length),some (.pv (.int J))]) (S':=S++[.lst (XL++YL)]) ?_ ?_
   .have g1:=g1 (some (.pv (.int I))) (some (.pv (.int J)))
    have g2:=g2 (some (.pv (.int I))) (some (.pv (.int J)));have ab:(nR 5 (aH r [] (aB (aH lL [] (aB (aA 0) (aB (aA 6) (aB (aA 4) aD)))) (aB (aH lL [] (aB (aA 1) (aB (aA 6) (aB (mC (.int 0)) aD)))) aD))))=nR 5 (aH r [] Ua):=rfl;rw[ab];generalize nR 5 (aH r [] Ua)=AB at *;rw[fx]at g1;simp! [aY,aX,bT,dY,eZ,gN,g1,g2]
   .simp! [bF];exact⟨rfl,rfl⟩
   simp[jA]
  rw[hf];simp[fT,frz]
theorem R3{n:Nat}(hn:n=2\/n=3){B:AY}(hB:B.length=n+1)(bB:∀x∈B,Bd 1020 x){C:AZ}(S:aJ)(h:Pk n B C):∃X:BA,frz S.length (fT (oK [.pv (px C),.pv (tv (C.map (dt B)))] S))=.ok (.pv (.lst (X.map px))) S/\X.length<=16/\Px n B C X:=by
 have e1:=wZ hn hB bB (r:=Vb) (z:=0) (by decide) (λz=>absurd z (ix 0));have e2:=wZ hn hB bB (r:=Ac) (z:=1) (by decide) (λ_=>e1);have e3:=wZ hn hB bB (r:=Sb) (z:=2) (by decide) (λ_=>e2);have e4:=wZ hn hB bB (r:=Qb) (z:=3) (by decide) (λ_=>e3);refine e4 C S h ?_;have:=List.countP_le_length (l:=C) (p:=λc=>dt B c !=0);have hl:=h.1;unfold rA;omega
abbrev tX:MS:=(bI (aR (aC dR (mR qM (aB (aH mP [] (aB (aA 5) (aB (aA 1) aD))) aD)) (mC (.int 0)))) (cK (cR (aA 2) (aB (kM mT [] (aB (aA 5) aD)) aD))) (cK (cR (aA 3) (aB (kM mT [] (aB (aA 5) aD)) aD))))
abbrev wF:MS:=(aY (aX (aH oK [] (aB (aA 4) (aB (aH mP [] (aB (aA 4) (aB (aA 1) aD))) aD)))) (gN 5) tX)
def Dk(n:Nat)(B:AY)(D:AZ):Prop:=D.length=n+1/\(∀c∈D,Gu n 1440 c)/\Sx n 1440 (bX D)/\((∀c∈D,0<=dt B c)\/∀c∈D,dt B c<=0)
theorem abY{n:Nat}(hn:n=2\/n=3){B:AY}(bB:∀x∈B,Bd 1020 x){D:AZ}(hD:Dk n B D)(R:SO)(F G:BA)(hF:F.length<=2000)(hG:G.length<=2000)(x0 x4:BH):∃F' G':BA,tX [x0,some (.pv (tv B)),some (.ref 1),some (.ref 2),x4,some (.pv (px D))] [R,.lst (F.map px),.lst (G.map px)]=.nx [x0,some (.pv (tv B)),some (.ref 1),some (.ref 2),x4,some (.pv (px D))] [R,.lst ((F++F').map px),.lst ((G++G').map px)]/\F'++G'=[bX D]/\(∀u∈F',(∀c∈u,0<=dt B c)/\∃c∈u,0<dt B c)/\∀u∈G',∀c∈u,dt B c<=0:=by
 obtain⟨hl,hg,sx,sd⟩:=hD;have hpm:=pX (iP hn hl);have nz:dU D≠0:=λz=>by
  have:=nM hn (by decide) hl hg;rw[z]at this;exact sx.nz this
 have es:=λS=>M5 hn (A:=px D) (uss:=D) S hl (λu hu=>(hg u hu).mono (by decide)) (.inr rfl) (by
  rw[vC hn (by decide) hl hg];exact λz=>nz (Wr.mp z))
 have es:∀S,mT [.pv (px D)] S=.ok (.pv (px (bX D))) S:=es;have eh:=λS=>Jl (n:=n) S bB hg;have ne:D.map (dt B)≠[]:=λe=>by
  have:=congrArg kq e;rw[ak,hl]at this;simp at this
 obtain⟨M,i,x1,_,x3,xm⟩:=Ve ne;have lF:(F.map px).length<16777216:=by rw[ak];omega
 have lG:(G.map px).length<16777216:=by rw[ak];omega
 by_cases c:0<M
 .refine⟨[bX D],[],?_,by simp,λu hu=>?_,λu hu=>absurd hu db⟩
  .rw[du,fk,ao,aw]
   generalize tv B=TB,tv (D.map (dt B))=TH,G.map px=GL,F.map px=FL,px D=PD,px (bX D)=PC at *;unfold tX;simp! [eh,x1,c,es,cR,fG,iE,lF]
  .have:u=bX D:=by simpa using hu
   subst this;obtain⟨d,hd,ed⟩:=fg.mp (cq x3);refine⟨λe he=>?_,d,hpm.mem_iff.mpr hd,ed▸c⟩;have he:=hpm.mem_iff.mp he;rcases sd with sd |sd
   .exact sd e he
   .have:=sd d hd
    omega
 .refine⟨[],[bX D],?_,by simp,λu hu=>absurd hu db,λu hu e he=>?_⟩
  .rw[fk,du,ao,aw]
   generalize tv B=TB,tv (D.map (dt B))=TH,G.map px=GL,F.map px=FL,px D=PD,px (bX D)=PC at *;unfold tX;simp! [eh,x1,c,es,cR,fG,iE,lG]
  .have:u=bX D:=by simpa using hu
   subst this;have he:=hpm.mem_iff.mp he;have:=xm _ (yu (f:=dt B) he);omega
theorem Kt{n:Nat}(hn:n=2\/n=3){B:AY}(bB:∀x∈B,Bd 1020 x)(R:SO)(x0 x4:BH):∀(X F G:BA)(x5:BH),(∀D∈X,Dk n B D)->F.length+G.length+X.length<=2000->∃(F' G':BA)(y5:BH),dL [] (gN 5) tX (X.map px) [x0,some (.pv (tv B)),some (.ref 1),some (.ref 2),x4,x5] [R,.lst (F.map px),.lst (G.map px)]=.nx [x0,some (.pv (tv B)),some (.ref 1),some (.ref 2),x4,y5] [R,.lst ((F++F').map px),.lst ((G++G').map px)]/\(F'++G').Perm (X.map bX)/\(∀u∈F',(∀c∈u,0<=dt B c)/\∃c∈u,0<dt B c)/\∀u∈G',∀c∈u,dt B c<=0
 |[],F,G,x5,_,_=>⟨[],[],x5,by rw[fk,fk];exact eZ,.nil,λu hu=>absurd hu db,λu hu=>absurd hu db⟩
 |D::X,F,G,x5,h,hl=>by
  simp only[ci]at hl;obtain⟨F1,G1,e1,p1,a1,b1⟩:=abY hn bB (h D (by simp)) R F G (by omega) (by omega) x0 x4;have l1:F1.length+G1.length=1:=by rw[<-av,p1];rfl
  obtain⟨F2,G2,y5,e2,p2,a2,b2⟩:=Kt hn bB R x0 x4 X (F++F1) (G++G1) (some (.pv (px D))) (λE hE=>h E (bd _ hE)) (by simp only[av];omega);refine⟨F1++F2,G1++G2,y5,?_,?_,λu hu=>(br.mp hu).elim (a1 u) (a2 u),λu hu=>(br.mp hu).elim (b1 u) (b2 u)⟩
  .rw[ao,dY]
   simp only[gN,gr,dy];rw[e1];rw[ee,ee]at e2;exact e2
  .have q:(F1++F2++(G1++G2)).Perm (F1++G1++(F2++G2)):=by
    rw[ee,ee];refine AO F1 ?_;rw[<-ee,<-ee];exact AQ G2 AR
   refine q.trans ?_;rw[p1,ao];exact p2.cons _
def Cu(Q:AZ->BA->Prop):BA->BA->Prop
 |[],Y=>Y=[]
 |u::hs,Y=>∃X Z,Q u X/\Cu Q hs Z/\Y=X.map bX++Z
def Cn(n:Nat)(B:AY)(Q:AZ->BA->Prop)(u:AZ):Prop:=(∀c∈u,Gu n 1440 c)/\∀S:aJ,∃X:BA,frz S.length (fT (oK [.pv (px u),.pv (tv (u.map (dt B)))] S))=.ok (.pv (.lst (X.map px))) S/\X.length<=16/\(∀D∈X,Dk n B D)/\Q u X
theorem V3{n:Nat}(hn:n=2\/n=3){B:AY}(bB:∀x∈B,Bd 1020 x){Q:AZ->BA->Prop}(R:SO)(x0 x5:BH){u:AZ}(h:Cn n B Q u)(F G:BA)(hl:F.length+G.length<=900):∃(X F' G':BA)(y5:BH),wF [x0,some (.pv (tv B)),some (.ref 1),some (.ref 2),some (.pv (px u)),x5] [R,.lst (F.map px),.lst (G.map px)]=.nx [x0,some (.pv (tv B)),some (.ref 1),some (.ref 2),some (.pv (px u)),y5] [R,.lst ((F++F').map px),.lst ((G++G').map px)]/\Q u X/\(F'++G').Perm (X.map bX)/\F'.length+G'.length<=16/\(∀u∈F',(∀c∈u,0<=dt B c)/\∃c∈u,0<dt B c)/\(∀u∈G',∀c∈u,dt B c<=0)/\∀u∈F'++G',Sx n 1440 u:=by
 obtain⟨X,eX,lX,q1,q⟩:=h.2 [R,.lst (F.map px),.lst (G.map px)];obtain⟨F1,G1,y5,e1,p1,a1,b1⟩:=Kt hn bB R x0 (some (.pv (px u))) X F G x5 q1 (by omega);refine⟨X,F1,G1,y5,?_,q,p1,?_,a1,b1,λv hv=>?_⟩
 .have eh:=Jl (n:=n) [R,.lst (F.map px),.lst (G.map px)] bB h.1
  have c1:(aH oK [] (aB (aA 4) (aB (aH mP [] (aB (aA 4) (aB (aA 1) aD))) aD))) [x0,some (.pv (tv B)),some (.ref 1),some (.ref 2),some (.pv (px u)),x5] [R,.lst (F.map px),.lst (G.map px)]=.ok (.pv (.lst (X.map px))) [R,.lst (F.map px),.lst (G.map px)]:=by
   refine Oh (xs:=[.pv (px u),.pv (tv (u.map (dt B)))]) (S1:=[R,.lst (F.map px),.lst (G.map px)]) ?_ eX;clear eX e1;generalize G.map px=GL,F.map px=FL,px u=PU,tv B=TB,tv (u.map (dt B))=TH at *;simp! [eh]
  clear eX eh;unfold wF;generalize px u=PU,tv B=TB,G.map px=GL,F.map px=FL,(G++G1).map px=GL1,(F++F1).map px=FL1,X.map px=XL,(aH oK [] (aB (aA 4) (aB (aH mP [] (aB (aA 4) (aB (aA 1) aD))) aD)))=MC,tX=CB at *;simp! [aY,aX,bT,c1,e1]
 .rw[<-av,p1.length_eq,ak]
  exact lX
 .obtain⟨D,hD,rfl⟩:=fg.mp (p1.mem_iff.mp hv)
  exact(q1 D hD).2.2.1
def Ct(n:Nat)(B:AY)(F G:BA):Prop:=(∀u∈F,(∀c∈u,0<=dt B c)/\∃c∈u,0<dt B c)/\(∀u∈G,∀c∈u,dt B c<=0)/\∀u∈F++G,Sx n 1440 u
theorem Ct.app{n:Nat}{B:AY}{F G F2 G2:BA}(h:Ct n B F G)(g:Ct n B F2 G2):Ct n B (F++F2) (G++G2):=by
 obtain⟨a,b,c⟩:=h;obtain⟨d,e,f⟩:=g;refine⟨λu hu=>(br.mp hu).elim (a u) (d u),λu hu=>(br.mp hu).elim (b u) (e u),λu hu=>?_⟩;rcases br.mp hu with hu |hu
 .exact(br.mp hu).elim (λq=>c u (jq _ q)) (λq=>f u (jq _ q))
 .exact(br.mp hu).elim (λq=>c u (dm _ q)) (λq=>f u (dm _ q))
theorem aeM{α:Type}(F1 F2 G1 G2:List α):(F1++F2++(G1++G2)).Perm (F1++G1++(F2++G2)):=by
 rw[ee,ee];refine AO F1 ?_;rw[<-ee,<-ee];exact AQ G2 AR
theorem Ao{n:Nat}(hn:n=2\/n=3){B:AY}(bB:∀x∈B,Bd 1020 x){Q:AZ->BA->Prop}(R:SO)(x0:BH):∀(hs F G:BA)(x4 x5:BH),(∀u∈hs,Cn n B Q u)->F.length+G.length+16*hs.length<=900->∃(F' G' Y:BA)(y4 y5:BH),dL [] (gN 4) wF (hs.map px) [x0,some (.pv (tv B)),some (.ref 1),some (.ref 2),x4,x5] [R,.lst (F.map px),.lst (G.map px)]=.nx [x0,some (.pv (tv B)),some (.ref 1),some (.ref 2),y4,y5] [R,.lst ((F++F').map px),.lst ((G++G').map px)]/\Cu Q hs Y/\(F'++G').Perm Y/\F'.length+G'.length<=16*hs.length/\Ct n B F' G'
 |[],F,G,x4,x5,_,_=>⟨[],[],[],x4,x5,by rw[fk,fk];exact eZ,rfl,.nil,al _,λu hu=>absurd hu db,λu hu=>absurd hu db,λu hu=>absurd hu db⟩
 |u::hs,F,G,x4,x5,h,hl=>by
  simp only[ci]at hl;obtain⟨X,F1,G1,y5,e1,q1,p1,l1,a1,b1,c1⟩:=V3 hn bB R x0 x5 (h u (by simp)) F G (by omega);obtain⟨F2,G2,Y,z4,z5,e2,q2,p2,l2,ct⟩:=Ao hn bB R x0 hs (F++F1) (G++G1) (some (.pv (px u))) y5 (λE hE=>h E (bd _ hE)) (by simp only[av];omega);refine⟨F1++F2,G1++G2,X.map bX++Y,z4,z5,?_,⟨X,Y,q1,q2,rfl⟩,(aeM F1 F2 G1 G2).trans (p1.append p2),by simp only[av,ci];omega,Ct.app ⟨a1,b1,c1⟩ ct⟩;rw[ao,dY];simp only[gN,gr,dy];rw[e1];rw[ee,ee]at e2;exact e2
theorem Of{n:Nat}(hn:n=2\/n=3){B:AY}(bB:∀x∈B,Bd 1020 x){Q:AZ->BA->Prop}(R:SO){A:PV}{hs:BA}(hA:Sv A (hs.map px))(h:∀u∈hs,Cn n B Q u)(hl:hs.length<=50):∃F G Y:BA,kZ [.pv A,.pv (tv B)] [R]=.ok (.pv (.tup [.tup (F.map px),.tup (G.map px)])) [R]/\Cu Q hs Y/\(F++G).Perm Y/\F.length+G.length<=16*hs.length/\Ct n B F G:=by
 obtain⟨F,G,Y,y4,y5,e,ct⟩:=Ao hn bB R (some (.pv A)) hs [] [] none none h (by simp;omega);refine⟨F,G,Y,?_,ct⟩;simp only[fx,aw]at e;clear ct;have hb:Qg=(aE (aM 2 (eL aD)) (aE (aM 3 (eL aD)) (aE (aY (aX (aA 0)) (gN 4) wF) (aU (mN dP (aB (mR gI (aB (aA 2) aD)) (aB (mR gI (aB (aA 3) aD)) aD))))))):=rfl;unfold kZ;rw[hb];generalize tv B=TB,hs.map px=HL,G.map px=GL,F.map px=FL,wF=CB at *;apply tD (v:=.pv (.tup [.tup FL,.tup GL])) (S':=[R,.lst FL,.lst GL]) rfl
 .apply sq;simp! [gJ,eL,jN];exact⟨rfl,rfl⟩
  apply sq;simp! [eL,jN];exact⟨rfl,rfl⟩;refine sq (ρ':=[some (.pv A),some (.pv TB),some (.ref 1),some (.ref 2),y4,y5]) (S':=[R,.lst FL,.lst GL]) ?_ ?_
  .rcases hA with rfl |rfl<;>simp! [aY,aX,bT,e]
  .simp! [bF]
 .simp[jA]
theorem V9{n:Nat}(hn:n=2\/n=3){B:AY}(hB:B.length=n+1)(bB:∀x∈B,Bd 1020 x){u:AZ}(h:Sx n 201 u):Cn n B (Px n B) u:=by
 have g6:=h.gu;have g5:∀c∈u,Gu n 1440 c:=λc hc=>(g6 c hc).mono (by decide);have pk:Pk n B u:=⟨h.len,λc hc=>⟨g5 c hc,λ_=>g6 c hc⟩,by rw[h.cn];exact h.mono (by decide)⟩;exact⟨g5,λS=>by
  obtain⟨X,eX,lX,q⟩:=R3 hn hB bB S pk;exact⟨X,eX,lX,q.1,q⟩⟩
theorem Co{n:Nat}{B:AY}{u:AZ}(h:Sx n 1440 u)(sd:(∀c∈u,0<=dt B c)\/∀c∈u,dt B c<=0):Cn n B (λu X=>X=[u]) u:=
 ⟨h.gu,λS=>⟨[u],Et h.len sd S,by simp,λD hD=>by
  have:D=u:=by simpa using hD
  subst this;exact⟨h.len,h.gu,by rw[h.cn];exact h,sd⟩,rfl⟩⟩
theorem Qp{n:Nat}{B:AY}:∀{hs Y:BA},(∀u∈hs,Sx n 201 u)->Cu (Px n B) hs Y->(∀kk,HS Y kk=HS hs kk)/\fN n Y=fN n hs
 |[],Y,_,h=>by
  have h:Y=[]:=h;subst h;exact⟨λ_=>rfl,rfl⟩
 |u::hs,Y,s,h=>by
  obtain⟨X,Z,⟨_,f1,f2⟩,c,rfl⟩:=h;obtain⟨b1,b2⟩:=Qp (λv hv=>s v (bd _ hv)) c;have cn:=(s u bo).cn;refine⟨λkk=>by rw[Fu,f1,b1,HS,cn],?_⟩;rw[Xf,f2,b2,cn];simp only[fN];grind
theorem Sd:∀{hs Y:BA},(∀u∈hs,bX u=u)->Cu (λu X=>X=[u]) hs Y->Y=hs
 |[],Y,_,h=>h
 |u::hs,Y,s,h=>by
  obtain⟨X,Z,rfl,c,rfl⟩:=h;rw[Sd (λv hv=>s v (bd _ hv)) c,ao,aw,s u bo];rfl
theorem Xp{n:Nat}(hn:n=2\/n=3){B:AY}(bB:∀x∈B,Bd 1020 x)(R:SO){F:BA}(s:∀u∈F,Sx n 1440 u)(hl:F.length<=50):((∀u∈F,(∀c∈u,0<=dt B c)/\∃c∈u,0<dt B c)->∃F2:BA,kZ [.pv (.tup (F.map px)),.pv (tv B)] [R]=.ok (.pv (.tup [.tup (F2.map px),.tup []])) [R]/\F2.Perm F)/\((∀u∈F,∀c∈u,dt B c<=0)->∃F2:BA,kZ [.pv (.tup (F.map px)),.pv (tv B)] [R]=.ok (.pv (.tup [.tup [],.tup (F2.map px)])) [R]/\F2.Perm F):=by
 constructor
 .intro a
  obtain⟨F2,G2,Y,e,q,p,_,ct⟩:=Of hn bB R (A:=.tup (F.map px)) (.inr rfl) (λu hu=>Co (s u hu) (.inl (a u hu).1)) hl;have ey:=Sd (λu hu=>(s u hu).cn) q;subst ey;have z:G2=[]:=by
   cases G2 with
   |nil=>rfl
   |cons g G2=>
    obtain⟨c,hc,h0⟩:=(a g (p.mem_iff.mp (by simp))).2;have:=ct.2.1 g (by simp) c hc;omega
  subst z;exact⟨F2,e,by simpa using p⟩
 .intro a
  obtain⟨F2,G2,Y,e,q,p,_,ct⟩:=Of hn bB R (A:=.tup (F.map px)) (.inr rfl) (λu hu=>Co (s u hu) (.inr (a u hu))) hl;have ey:=Sd (λu hu=>(s u hu).cn) q;subst ey;have z:F2=[]:=by
   cases F2 with
   |nil=>rfl
   |cons g F2=>
    obtain⟨c,hc,h0⟩:=(ct.1 g (by simp)).2;have:=a g (p.mem_iff.mp (by simp)) c hc;omega
  subst z;exact⟨G2,e,by simpa using p⟩
abbrev tY:MS:=(aE (aM 5 (aC aK (aA 1) (aH cY [] (aB (aA 0) (aB (mR cS (aB (aA 1) aD)) aD))))) (cK (cR (aA 3) (aB (aC aK (aA 5) (aH cY [] (aB (aA 0) (aB (mR cS (aB (aA 5) aD)) aD)))) aD))))
theorem adE{n k:Nat}{hs:BA}(h:∀u∈hs,Sx n k u)(h0:0<hs.length)(h9:hs.length<=90)(n9:n<=9)(ns:AY)(T:AZ)(hT:T.length<=90)(x2 x4 x5 x6 x7:BH):∃(p:AY)(ns':AY)(y5:BH),tY [some (.ref 0),some (.pv (.lst (hs.map px))),x2,some (.ref 1),x4,x5,x6,x7] [.lst (li ns),.lst (T.map tv)]=.nx [some (.ref 0),some (.pv (.lst (hs.map px))),x2,some (.ref 1),x4,y5,x6,x7] [.lst (li ns'),.lst ((T++[p]).map tv)]/\Gu n k p:=by
 obtain⟨i,n1,e1,il⟩:=Wz (ns:=ns) (L:=hs.map px) (T:=[.lst (T.map tv)]) (k:=0) (by simp;omega) (by simp;omega);rw[yg]at e1 il;rw[ak]at il;have i1:aK (.lst (hs.map px)) (.int (i:Int))=some (px hs[i]):=eD (by rw[az,ay il];rfl);have su:=h _ (gi il);obtain⟨j,n2,e2,jl⟩:=Wz (ns:=n1) (L:=(hs[i]).map tv) (T:=[.lst (T.map tv)]) (k:=0) (by rw[ak,su.len];omega) (by rw[ak,su.len];omega);rw[yg]at e2 jl;rw[ak]at jl;have i2:aK (.tup ((hs[i]).map tv)) (.int (j:Int))=some (tv (hs[i])[j]):=eD (by rw[az,ay jl];rfl);refine⟨(hs[i])[j],n2,some (.pv (px hs[i])),?_,su.gu _ (gi jl)⟩;have lz:(T.map tv).length<16777216:=by rw[ak];omega
 have ep:(T++[(hs[i])[j]]).map tv=T.map tv++[tv (hs[i])[j]]:=by simp
 have hp:px hs[i]=.tup ((hs[i]).map tv):=rfl;rw[ep];rw[hp]at i1⊢;clear h su ep hp;generalize T.map tv=TL,hs.map px=HL,(hs[i]).map tv=UL,tv (hs[i])[j]=TP at *;unfold tY;simp! [e1,i1,e2,i2,cR,fG,iE,lz]
abbrev mJ:MS:=(bI (gF (aR (aC cB (mR cS (aB (aA 1) aD)) (mC (.int 0)))) (aR (aC cB (aH cY [] (aB (aA 0) (aB (mC (.int 4)) aD))) (mC (.int 3))))) (cK (cR (aA 3) (aB (aH nI [] (aB (aA 0) (aB (aA 2) aD))) aD))) tY)
theorem Kx{n:Nat}(hn:n=2\/n=3)(ns:AY)(T:aJ):∃(p ns':AY),nI [.ref 0,.pv (.int (n:Int))] (.lst (li ns)::T)=.ok (.pv (tv p)) (.lst (li ns')::T)/\Gu n 100 p:=by
 obtain⟨v,n1,e,xs,w,rfl,P⟩:=Vy n hn (show eP (.lst (li ns)::T) 0 ns from rfl);exact⟨xs++[w],n1,e,xs,w,rfl,P⟩
theorem abM{n k:Nat}(hn:n=2\/n=3)(hk:k<=201){hs:BA}(h:∀u∈hs,Sx n k u)(h9:hs.length<=90)(ns:AY)(T:AZ)(hT:T.length<=90)(x4 x5 x6 x7:BH):∃(p:AY)(ns':AY)(y5:BH),mJ [some (.ref 0),some (.pv (.lst (hs.map px))),some (.pv (.int (n:Int))),some (.ref 1),x4,x5,x6,x7] [.lst (li ns),.lst (T.map tv)]=.nx [some (.ref 0),some (.pv (.lst (hs.map px))),some (.pv (.int (n:Int))),some (.ref 1),x4,y5,x6,x7] [.lst (li ns'),.lst ((T++[p]).map tv)]/\Gu n 201 p:=by
 have lz:(T.map tv).length<16777216:=by rw[ak];omega
 have ep:∀p,(T++[p]).map tv=T.map tv++[tv p]:=λp=>by simp
 by_cases c:hs.length=0
 .obtain⟨p,n1,e1,g⟩:=Kx hn ns [.lst (T.map tv)]
  refine⟨p,n1,x5,?_,g.mono (by decide)⟩;have z:(((hs.map px).length:Int)==0)=true:=by rw[ak,c];rfl
  rw[ep];generalize (n:Int)=N,tv p=TP,T.map tv=TL,hs.map px=HL at *;unfold mJ;generalize tY=AB at *;simp! [z,e1,cR,fG,iE,lz]
 .have z:(((hs.map px).length:Int)==0)=false:=by rw[ak];exact beq_false_of_ne (by omega)
  obtain⟨t,n0,e0,t0,t1,_⟩:=iO (m:=4) (show eP [.lst (li ns),.lst (T.map tv)] 0 ns from rfl) (by decide) (jR (by decide) (by decide));have e0:cY [.ref 0,.pv (.int 4)] [.lst (li ns),.lst (T.map tv)]=.ok (.pv (.int t)) [.lst (li n0),.lst (T.map tv)]:=e0
  by_cases c3:t=3
  .obtain⟨p,n1,e1,g⟩:=Kx hn n0 [.lst (T.map tv)]
   refine⟨p,n1,x5,?_,g.mono (by decide)⟩;subst c3;rw[ep];generalize (n:Int)=N,tv p=TP,T.map tv=TL,hs.map px=HL at *;unfold mJ;generalize tY=AB at *;simp! [z,e0,e1,cR,fG,iE,lz]
  .obtain⟨p,n1,y5,e1,g⟩:=adE h (by omega) h9 (by omega) n0 T hT (some (.pv (.int (n:Int)))) x4 x5 x6 x7
   refine⟨p,n1,y5,?_,g.mono hk⟩;have z3:(t==3)=false:=beq_false_of_ne c3;generalize (n:Int)=N,T.map tv=TL,(T++[p]).map tv=TL1,hs.map px=HL at *;unfold mJ;generalize tY=AB at *;simp! [z,e0,z3,c3,e1]
theorem Zs{n k:Nat}(hn:n=2\/n=3)(hk:k<=201){hs:BA}(h:∀u∈hs,Sx n k u)(h9:hs.length<=90)(x6 x7:BH):∀(is:BF)(T:AZ)(ns:AY)(x4 x5:BH),(∀p∈T,Gu n 201 p)->T.length+is.length<=9->∃(T':AZ)(ns':AY)(y4 y5:BH),dL [] (gN 4) mJ is [some (.ref 0),some (.pv (.lst (hs.map px))),some (.pv (.int (n:Int))),some (.ref 1),x4,x5,x6,x7] [.lst (li ns),.lst (T.map tv)]=.nx [some (.ref 0),some (.pv (.lst (hs.map px))),some (.pv (.int (n:Int))),some (.ref 1),y4,y5,x6,x7] [.lst (li ns'),.lst (T'.map tv)]/\T'.length=T.length+is.length/\∀p∈T',Gu n 201 p
 |[],T,ns,x4,x5,hT,_=>⟨T,ns,x4,x5,eZ,rfl,hT⟩
 |i::is,T,ns,x4,x5,hT,hl=>by
  simp only[ci]at hl;obtain⟨p,n1,y5,e1,g⟩:=abM hn hk h h9 ns T (by omega) (some (.pv i)) x5 x6 x7;obtain⟨T',n2,z4,z5,e2,l2,g2⟩:=Zs hn hk h h9 x6 x7 is (T++[p]) n1 (some (.pv i)) y5 (λq hq=>by
   rcases br.mp hq with z |z
   .exact hT q z
   .rw[yq.mp z];exact g) (by simp only[av,ci,AS];omega)
  refine⟨T',n2,z4,z5,?_,by rw[l2];simp only[av,ci,AS];omega,g2⟩;rw[dY];simp only[gN,gr,dy];rw[e1];exact e2
theorem N5{n k:Nat}(hn:n=2\/n=3)(hk:k<=201){hs:BA}(h:∀u∈hs,Sx n k u)(h9:hs.length<=90)(ns:AY):∃(B ns':AY),rG [.ref 0,.pv (.lst (hs.map px)),.pv (.int (n:Int))] [.lst (li ns)]=.ok (.pv (tv B)) [.lst (li ns')]/\B.length=n+1/\∀x∈B,Bd 1020 x:=by
 obtain⟨T,n1,y4,y5,e1,l1,g1⟩:=Zs hn hk h h9 none none (dW 0 n) [] ns none none (by simp) (by unfold dW;simp;omega);have l1:T.length=n:=by rw[l1];unfold dW;simp
 obtain⟨B,e2,hB,bB⟩:=adp hn l1 g1;have e2:=e2 [.lst (li n1),.lst (T.map tv)] 1 rfl;obtain⟨t,n3,e3,t0,t1,_⟩:=iO (m:=2) (show eP [.lst (li n1),.lst (T.map tv)] 0 n1 from rfl) (by decide) (jR (by decide) (by decide));have e3:cY [.ref 0,.pv (.int 2)] [.lst (li n1),.lst (T.map tv)]=.ok (.pv (.int t)) [.lst (li n3),.lst (T.map tv)]:=e3;obtain⟨DI,w,rfl⟩:∃DI w,B=DI++[w]:=⟨B.dropLast,B.getLast (λe=>by rw[e]at hB;simp at hB),(List.dropLast_concat_getLast _).symm⟩;have sI:=Fd DI w;have fA:=Y4 DI;have rg:=tW [.lst (li ns),.lst []] (n:=n) (by omega);have hb:Ab=(aE (aM 3 (eL aD)) (aE (aY (cC (aB (aA 2) aD)) (gN 4) mJ) (aE (aM 6 (aH oJ [] (aB (aA 3) aD))) (aE (bI (aR (mR qR (aB (cV (aA 6) cJ (cU (bS cM (mC (.int 1))))) aD))) (aU (aA 6)) cF) (aE (aM 7 (aC bF (mN eB (aB (mC (.int 1)) aD)) (aC tJ (mN eB (aB (mC (.int 0)) aD)) (aC cX (aA 2) (mC (.int 1)))))) (aU (mR gI (aB (aC bF (aA 7) (mN eB (aB (aC cX (mC (.int 0)) (aH cY [] (aB (aA 0) (aB (mC (.int 2)) aD)))) aD))) aD)))))))):=rfl;obtain⟨rl,L,b1,b2,b5,b3,b4⟩:∃(rl:BF)(L:AY),tJ (.lst [.int 0]) (.int (n-1:Int))=some (.lst rl)/\L.map PV.int=.int 1::rl/\1+rl.length<=16777216/\L.length=n/\∀x∈L,x=0\/x=1:=by
  rcases hn with rfl |rfl
  .refine⟨[.int 0],[1,0],?_,rfl,by decide,rfl,by simp⟩
   rw[Ce,if_pos ⟨by decide,by decide,by decide⟩];rfl
  .refine⟨[.int 0,.int 0],[1,0,0],?_,rfl,by decide,rfl,by simp⟩
   rw[Ce,if_pos ⟨by decide,by decide,by decide⟩];rfl
 have tF:(aY (cC (aB (aA 2) aD)) (gN 4) mJ) [some (.ref 0),some (.pv (.lst (hs.map px))),some (.pv (.int (n:Int))),some (.ref 1),none,none,none,none] [.lst (li ns),.lst []]=.nx [some (.ref 0),some (.pv (.lst (hs.map px))),some (.pv (.int (n:Int))),some (.ref 1),y4,y5,none,none] [.lst (li n1),.lst (T.map tv)]:=by
  rw[aw]at e1;generalize (n:Int)=N,dW 0 n=IP,T.map tv=TL,hs.map px=HL,mJ=SB at *;simp! [aY,cC,rg,e1]
 have et:tv (DI++[w])=.tup ((DI++[w]).map .int):=rfl
 by_cases c:DI.any (· !=0)=true
 .refine⟨DI++[w],n1,?_,hB,bB⟩
  rw[c]at fA;rw[et]at e2⊢;clear h g1 e1 rg;unfold rG;rw[hb];generalize (n:Int)=N,DI.map PV.int=DIL,(DI++[w]).map PV.int=DL,T.map tv=TL,hs.map px=HL,mJ=SB at *;apply tD (v:=.pv (.tup DL)) (S':=[.lst (li n1),.lst TL]) rfl
  .apply sq;simp! [gJ,eL,jN];exact⟨rfl,rfl⟩
   refine sq tF ?_;apply sq;simp! [e2];exact⟨rfl,rfl⟩;rw[aE];simp! [cV,cJ,cU,fB,sI,fA]
  .simp[jA]
 .have c:DI.any (· !=0)=false:=by simpa using c
  refine⟨L++[0-t],n3,?_,by simp[b3],λx hx=>?_⟩
  .rw[c]at fA
   rw[et]at e2;have lz:rl.length+1+1<=16777216:=by
    have:=congrArg kq b2;rw[ak,b3,ci]at this;omega
   show _=bH.ok (AV.pv (.tup ((L++[0-t]).map .int))) _;rw[du,ao,aw,b2];have s1:cX (.int (n:Int)) (.int 1)=some (.int (n-1:Int)):=rfl;clear h g1 e1 rg;unfold rG;rw[hb];generalize (n:Int)=N,(n-1:Int)=N1,DI.map PV.int=DIL,(DI++[w]).map PV.int=DL,T.map tv=TL,hs.map px=HL,mJ=SB at *;apply tD (v:=.pv (.tup (.int 1::rl++[.int (0-t)]))) (S':=[.lst (li n3),.lst TL]) rfl
   .apply sq;simp! [gJ,eL,jN];exact⟨rfl,rfl⟩
    refine sq tF ?_;apply sq;simp! [e2];exact⟨rfl,rfl⟩;apply sq;simp! [cV,cJ,cU,fB,sI,fA];exact⟨rfl,rfl⟩;apply sq;simp! [s1,b1,b5];exact⟨rfl,rfl⟩;simp! [e3,lz]
   .simp[jA]
  .rcases br.mp hx with z |z
   .rcases b4 x z with rfl |rfl
    .exact(Bd.of (k:=7) (n:=1) (by decide) (by decide)).mono (by decide)
    .exact(Bd.of (k:=7) (n:=1) (by decide) (by decide)).mono (by decide)
   .rw[yq.mp z]
    exact(Bd.of (k:=7) (n:=3) (by omega) (by decide)).mono (by decide)
theorem aat{α:Type}:∀L:List α,oW [.lst (L.map λ_=>.bl false)]=some (.bl false):=λL=>by
 have e:iQ (L.map λ_=>PV.bl false)=some (L.map λ_=>false):=by
  induction L with
  |nil=>rfl
  |cons v L ih=>
   show(match iQ (L.map λ_=>PV.bl false)with |some bs=>some (false::bs) |none=>none)=_
   rw[ih];rfl
 simp only[oW,e,qh];simp
abbrev lH(f:PV->PV->BG):MS:=(bI (aR (mR oW (aB (bC ["_law_p"] [(4,"_law_knife")] (aX (aA 9)) (gN 0) (aC f (aH kX [] (aB (aA 1) (aB (aA 0) aD))) (mC (.int 0)))) aD))) (aU (mC (.bl false))) cF)
abbrev rq(x0 x1 x2 x3 x4 x5 x6 x7 x8 x9 x10:BH):cN:=[x0,x1,x2,x3,x4,x5,x6,x7,x8,x9,x10]
theorem Wd{n:Nat}{B:AY}(bB:∀x∈B,Bd 1020 x){f:PV->PV->BG}(S:aJ)(x0 x1 x2 x3 x5 x6 x7 x8 x10:BH):∀(F:BA)(x9:BH),(∀u∈F,∀c∈u,Gu n 1440 c/\f (.int (dt B c)) (.int 0)=some (.bl false))->∃y9,dL [] (gN 9) (lH f) (F.map px) (rq x0 x1 x2 x3 (some (.pv (tv B))) x5 x6 x7 x8 x9 x10) S=.nx (rq x0 x1 x2 x3 (some (.pv (tv B))) x5 x6 x7 x8 y9 x10) S
 |[],x9,_=>⟨x9,eZ⟩
 |u::F,x9,h=>by
  have ec:bZ [] (gN 0) (aC f (aH kX [] (aB (aA 1) (aB (aA 0) aD))) (mC (.int 0))) (u.map tv) [none,some (.pv (tv B))] S=.ok (u.map λ_=>.bl false) S:=by
   refine rR (nB S) tv (λ_=>.bl false) u none λc hc=>?_;obtain⟨g,e⟩:=h u (by simp) c hc;have ed:=uP (A:=tv B) (B:=tv c) (us:=B) (vs:=c) S (.inr rfl) (.inr rfl) (λx hx=>(bB x hx).mono (by decide)) (λx hx=>(Ly g x hx).mono (by decide));generalize tv c=TC,tv B=TB at *;simp! [ed,e]
  have ea:=aat u;obtain⟨y9,e2⟩:=Wd bB S x0 x1 x2 x3 x5 x6 x7 x8 x10 F (some (.pv (px u))) λv hv=>h v (bd _ hv);refine⟨y9,?_⟩;have e1:lH f (rq x0 x1 x2 x3 (some (.pv (tv B))) x5 x6 x7 x8 (some (.pv (px u))) x10) S=.nx (rq x0 x1 x2 x3 (some (.pv (tv B))) x5 x6 x7 x8 (some (.pv (px u))) x10) S:=by
   have hp:px u=.tup (u.map tv):=rfl;rw[hp];unfold lH;generalize tv B=TB,u.map tv=UL,(u.map λ_=>PV.bl false)=BL,(aC f (aH kX [] (aB (aA 1) (aB (aA 0) aD))) (mC (.int 0)))=ME1 at *;simp! [bC,cQ,aX,bT,ec,ea]
  rw[ao,dY];simp only[gN,rq,gr,dy];unfold rq at e1 e2;rw[e1];exact e2
theorem Dd{n k:Nat}(hn:n=2\/n=3)(hk:k<=2000){A B:PV}{hs gs:BA}(hA:Sv A (hs.map px))(hB:Sv B (gs.map px))(h:∀u∈hs,Sx n k u)(g:∀u∈gs,Sx n k u)(lh:hs.length<=1000)(lg:gs.length<=1000)(e:∀kk,HS hs kk=HS gs kk):nA [.pv A,.pv B] []=.ok (.pv (.bl true)) []:=by
 have cl:∀(hs:BA)(m:Int),(∀u∈hs,Sx n k u)->(cL hs m).length<=24*hs.length:=λhs m=>by
  induction hs with
  |nil=>intro _;simp[cL]
  |cons u hs ih=>
   intro h;have e:cL (u::hs) m=lA u m++cL hs m:=oh;rw[e,av,ci];have:=Bw (iP hn (h u bo).len) m;have:=ih λv hv=>h v (bd _ hv);omega
 obtain⟨y3,e1⟩:=Be hn hk (e:=(mC (.int 1))) (m:=1) (λ_ _=>rfl) (some (.pv A)) (some (.pv B)) hs [] [] none Tb.nil (by simp;omega) h;have h1:=Tb.nil.adds (cL hs 1);rw[fx]at h1;have l1:=cl hs 1 h;obtain⟨z3,e2⟩:=Be hn hk (e:=(bS cM (mC (.int 1)))) (m:=-1) (λ_ _=>rfl) (some (.pv A)) (some (.pv B)) gs _ _ y3 h1 (by omega) g;have h2:=h1.adds (cL gs (-1));obtain⟨b,L,e3,e4,eb⟩:=aea h2;obtain⟨D1,p1,s1⟩:=Og hn 1 h;obtain⟨D2,p2,s2⟩:=Og hn (-1) g;have bt:b=true:=eb.mpr λl=>by
  rw[lM,<-s1,<-s2,<-lM];refine(p1.app p2).iff.mp (λkk=>?_) l;rw[lM,Vg λu hu=>iP hn (h u hu).len,Vg λu hu=>iP hn (g u hu).len,e];omega
 subst bt;have hb:De=(aE (aM 2 (lV true)) (aE (aY (aX (aA 0)) (gN 3) (qT (mC (.int 1)))) (aE (aY (aX (aA 1)) (gN 3) (qT (bS cM (mC (.int 1))))) (aU (mR jE (aB (bC ["_law_key"] [(2,"_law_table")] (aX (vJ (aB (aA 2) aD))) (gN 0) (aC cB (mE (aA 1) (aA 0)) (mC (.int 0)))) aD)))))):=rfl;unfold nA aL;rw[hb];clear eb s1 s2 p1 p2;generalize gO [] (cL hs 1)=K1,gO (gO [] (cL hs 1)) (cL gs (-1))=K2,gs.map px=GL,hs.map px=HL,(aC cB (mE (aA 1) (aA 0)) (mC (.int 0)))=B3,qT (bS cM (mC (.int 1)))=B2,qT (mC (.int 1))=B1 at *;rcases hA with rfl |rfl<;>rcases hB with rfl |rfl<;>simp! [lV,aY,aX,bT,e1,e2,bC,cQ,vJ,Ig,e3,e4]
theorem Qu:∀(m k:Nat)(L:List (Int×Int)),(∀u∈L,Fq k u)->∀u∈eW m L,Fq (2^m*(k+1)) u
 |0,k,L,h=>λu hu=>(h u hu).mono (by omega)
 |m+1,k,L,h=>by
  unfold eW;split
  .exact λu hu=>(h u hu).mono (by have:=yr (k+1) (AN (n:=m+1));omega)
  .intro u hu
   have:=Qu m (2*k+1) (cO L) (yT L h) u hu;rw[show 2^(m+1)*(k+1)=2^m*(2*k+1+1) by rw[qk,Nat.mul_assoc];congr 1];exact this
theorem Wt{k:Nat}{L:List (Int×Int)}(h:∀u∈L,Fq k u)(hl:L.length<=64):Fq (64*(k+1)) (mG L):=by
 have f:=Qu 6 k L h;obtain⟨_,z,_⟩:=Uf 6 k L h hl;unfold mG
 match eW 6 L,z,f with
 |[],_,_=>exact zT.mono (by omega)
 |[u],_,f=>exact f u (by simp)
theorem vq{n k:Nat}(hn:n=2\/n=3){hs:BA}(h:∀u∈hs,Sx n k u):∀u∈hs.map (vp n),Fq (4*k+6) u:=λu hu=>by
 obtain⟨x,hx,rfl⟩:=fg.mp hu;exact(vG hn (h x hx)).2
theorem aak{n:Nat}(hn:n=2\/n=3)(S:aJ){hs F G:BA}(h:∀u∈hs,Sx n 201 u)(hF:∀u∈F,Sx n 1440 u)(hG:∀u∈G,Sx n 1440 u)(l3:hs.length<=3)(lF:F.length<=64)(lG:G.length<=64)(e:fN n (F++G)=fN n hs):∃u v w:Int×Int,nG [.pv (.tup (F.map px))] S=.ok (.pv (fv u)) S/\nG [.pv (.tup (G.map px))] S=.ok (.pv (fv v)) S/\oR [.pv (fv u),.pv (fv v)] S=.ok (.pv (fv w)) S/\rJ [.pv (.lst (hs.map px))] S=.ok (.pv (fv w)) S:=by
 have z1:=Tt (m:=6) hn S (A:=.tup (F.map px)) (.inr rfl) hF (by decide) (by omega) lF (by decide) (by decide);have z2:=Tt (m:=6) hn S (A:=.tup (G.map px)) (.inr rfl) hG (by decide) (by omega) lG (by decide) (by decide);have z3:=D4 hn (show 201<=900 by decide) S h (by
  have:=yr (4*201+7) l3;omega)
 have f1:=Wt (vq hn hF) (by rw[ak];exact lF);have f2:=Wt (vq hn hG) (by rw[ak];exact lG);obtain⟨a1,_⟩:=Mu (vq hn hF) (by rw[ak];exact lF);obtain⟨b1,_⟩:=Mu (vq hn hG) (by rw[ak];exact lG);obtain⟨c1,c2⟩:=Is (hs.map (vp n)) 1 (0,1) zT (vq hn h);have z4:=Vq S f1 f2 (by decide) (by decide) (by decide);have q:pl (mG (F.map (vp n))) (mG (G.map (vp n)))=(hs.map (vp n)).foldl pl (0,1):=ael (vD f1 f2).2.1 c2 (by
  rw[Ug f1 f2,a1,b1,c1,Jy,zF hn hF,zF hn hG,zF hn h,<-Xf,e];grind)
 rw[q]at z4;exact⟨_,_,_,z1,z2,z4,z3⟩
theorem V4(ns:AY)(h:ns.length<=63):∃S,Mh [.pv (.lst (ns.map .int))] []=.ok (.pv (.bl true)) S:=by
 obtain⟨ms,e0,_⟩:=adU ns [] h;have e0:sR [.pv (.lst (ns.map .int))] []=.ok (.ref 0) [.lst (li ms)]:=e0;obtain⟨d,n1,e1,d0,d1,_⟩:=iO (m:=2) (show eP [.lst (li ms)] 0 ms from rfl) (by decide) (jR (by decide) (by decide));have e1:cY [.ref 0,.pv (.int 2)] [.lst (li ms)]=.ok (.pv (.int d)) [.lst (li n1)]:=e1;obtain⟨n,en,hn⟩:∃n:Nat,2+d=(n:Int)/\(n=2\/n=3):=⟨(2+d).toNat,by omega,by omega⟩;have a2:bF (.int 2) (.int d)=some (.int n):=by rw[bF,en]
 obtain⟨hs,n2,e2,l3,s⟩:=acP (M:=3) hn (by decide) n1 [some (.pv (.lst (ns.map .int))),some (.ref 0),some (.pv (.int (n:Int))),none,none,none,none,none,none,none,none] (i:=1) (j:=2) rfl rfl;rw[show((3:Nat):Int)=3 from rfl]at e2;obtain⟨B,n3,e3,hB,bB⟩:=N5 hn (k:=201) (by decide) s (by omega) n2;obtain⟨A,n4,e4,hA⟩:=U7 (L:=hs.map px) (show eP [.lst (li n3)] 0 n3 from rfl);have e4:pW [.ref 0,.pv (.lst (hs.map px))] [.lst (li n3)]=.ok (.pv A) [.lst (li n4)]:=e4;obtain⟨F,G,Y,e5,cu,pm,l5,aF,aG,sx⟩:=Of hn bB (.lst (li n4)) hA (λu hu=>V9 hn hB bB (s u hu)) (by omega);obtain⟨hH,hV⟩:=Qp s cu;have sF:∀u∈F,Sx n 1440 u:=λu hu=>sx u (jq _ hu);have sG:∀u∈G,Sx n 1440 u:=λu hu=>sx u (dm _ hu);have f1:=Am hn [.lst (li n4)] sF (by decide);have f2:=Am hn [.lst (li n4)] sG (by decide);obtain⟨y1,e6⟩:=Wd (n:=n) bB (f:=hJ) [.lst (li n4)] (some (.pv (.lst (ns.map .int)))) (some (.ref 0)) (some (.pv (.int n))) (some (.pv (.lst (hs.map px)))) (some (.pv A)) (some (.pv (.tup [.tup (F.map px),.tup (G.map px)]))) (some (.pv (.tup (F.map px)))) (some (.pv (.tup (G.map px)))) none F none λu hu c hc=>⟨(sF u hu).gu c hc,by
  have:=(aF u hu).1 c hc;rw[Dg];simp;omega⟩
 obtain⟨y2,e7⟩:=Wd (n:=n) bB (f:=dR) [.lst (li n4)] (some (.pv (.lst (ns.map .int)))) (some (.ref 0)) (some (.pv (.int n))) (some (.pv (.lst (hs.map px)))) (some (.pv A)) (some (.pv (.tup [.tup (F.map px),.tup (G.map px)]))) (some (.pv (.tup (F.map px)))) (some (.pv (.tup (G.map px)))) none G y1 λu hu c hc=>⟨(sG u hu).gu c hc,by
  have:=aG u hu c hc;rw[Lf];simp;omega⟩
 have hY:∀kk,HS (F++G) kk=HS hs kk:=λkk=>by rw[Ge pm,hH]
 have lFG:(F++G).length<=48:=by rw[av];omega
 have q1:=Dd hn (by decide) (A:=.lst ((F++G).map px)) (B:=.lst (hs.map px)) (.inl rfl) (.inl rfl) sx (λu hu=>(s u hu).mono (by decide)) (by omega) (by omega) hY;obtain⟨u,v,w,z1,z2,z3,z4⟩:=aak hn [.lst (li n4)] s sF sG l3 (by omega) (by omega) (by rw[abK pm,hV]);obtain⟨F2,e8,p8⟩:=(Xp hn bB (.lst (li n4)) sF (by omega)).1 aF;obtain⟨G2,e9,p9⟩:=(Xp hn bB (.lst (li n4)) sG (by omega)).2 aG;have q2:=Dd hn (by decide) (A:=.tup (F2.map px)) (B:=.tup (F.map px)) (.inr rfl) (.inr rfl) (λu hu=>sF u (p8.mem_iff.mp hu)) sF (by rw[p8.length_eq];omega) (by omega) (Ge p8);have q3:=Dd hn (by decide) (A:=.tup (G2.map px)) (B:=.tup (G.map px)) (.inr rfl) (.inr rfl) (λu hu=>sG u (p9.mem_iff.mp hu)) sG (by rw[p9.length_eq];omega) (by omega) (Ge p9);have w1:=(W9 (m:=5) s).2;have w2:aZ 8 (fv w) (fv w)=some true:=by simp[aZ,iX]
 have w3:aZ 8 (.tup []) (.tup [])=some true:=rfl;have a4:lU (.tup (F.map px)) (.tup (G.map px))=some (.tup ((F++G).map px)):=by
  simp only[lU];rw[if_pos (by rw[ak,ak,<-av];omega),du]
 refine⟨[],?_⟩;clear cu pm aF aG sx hH hV sF sG hY s bB hB l3 l5 lFG p8 p9;have hb:Fh=(aE (aM 1 (qE sR [] (aB (aA 0) aD))) (aE (aM 2 (aC bF (mC (.int 2)) (aH cY [] (aB (aA 1) (aB (mC (.int 2)) aD))))) (aE (aM 3 (aH qA [] (aB (aA 1) (aB (aH pQ [] (aB (aA 1) (aB (aA 2) (aB (mC (.int 3)) aD)))) (aB (aH pU [] (aB (aA 1) (aB (aA 2) aD))) aD))))) (aE (aM 4 (aH rG [] (aB (aA 1) (aB (aA 3) (aB (aA 2) aD))))) (aE (aM 5 (aH pW [] (aB (aA 1) (aB (aA 3) aD)))) (aE (aM 6 (aH kZ [] (aB (aA 5) (aB (aA 4) aD)))) (aE (bI (gF (gX (aR (bS (fV "tuple") (aA 6)))) (gF (aR (aC gM (mR cS (aB (aA 6) aD)) (mC (.int 2)))) (aR (aC gM (mR jK (aB (aA 5) aD)) (aA 3))))) (aU (mC (.bl false))) cF) (aE (qS (gT 2 (cD (gN 7) (cD (gN 8) eA))) (aA 6)) (aE (bI (gF (gX (aR (aH pP [] (aB (aA 7) (aB (aA 2) aD))))) (gX (aR (aH pP [] (aB (aA 8) (aB (aA 2) aD)))))) (aU (mC (.bl false))) cF) (aE (aY (aX (aA 7)) (gN 9) (lH hJ)) (aE (aY (aX (aA 8)) (gN 9) (lH dR)) (aE (bI (gF (gX (aR (kY nA (aB (mR jK (aB (aC lU (aA 7) (aA 8)) aD)) (aB (aA 3) aD))))) (aR (aC gM (aH oR [] (aB (aH nG [] (aB (aA 7) aD)) (aB (aH nG [] (aB (aA 8) aD)) aD))) (aH rJ [] (aB (aA 3) aD))))) (aU (mC (.bl false))) cF) (aE (aM 10 (aH kZ [] (aB (aA 7) (aB (aA 4) aD)))) (aE (bI (gF (gX (aR (kY nA (aB (aC aK (aA 10) (mC (.int 0))) (aB (aA 7) aD))))) (aR (aC gM (aC aK (aA 10) (mC (.int 1))) (mN dP aD)))) (aU (mC (.bl false))) cF) (aE (aM 10 (aH kZ [] (aB (aA 8) (aB (aA 4) aD)))) (aU (oZ (aC cB (aC aK (aA 10) (mC (.int 0))) (mN dP aD)) (kY nA (aB (aC aK (aA 10) (mC (.int 1))) (aB (aA 8) aD)))))))))))))))))))):=rfl;unfold rq at e6 e7;unfold Mh;rw[hb];have tF:(aY (aX (aA 7)) (gN 9) (lH hJ)) [some (.pv (.lst (ns.map .int))),some (.ref 0),some (.pv (.int n)),some (.pv (.lst (hs.map px))),some (.pv (tv B)),some (.pv A),some (.pv (.tup [.tup (F.map px),.tup (G.map px)])),some (.pv (.tup (F.map px))),some (.pv (.tup (G.map px))),none,none] [.lst (li n4)]=.nx [some (.pv (.lst (ns.map .int))),some (.ref 0),some (.pv (.int n)),some (.pv (.lst (hs.map px))),some (.pv (tv B)),some (.pv A),some (.pv (.tup [.tup (F.map px),.tup (G.map px)])),some (.pv (.tup (F.map px))),some (.pv (.tup (G.map px))),y1,none] [.lst (li n4)]:=by
  generalize F.map px=FL,lH hJ=LB at *;simp! [aY,aX,bT,e6]
 have tG:(aY (aX (aA 8)) (gN 9) (lH dR)) [some (.pv (.lst (ns.map .int))),some (.ref 0),some (.pv (.int n)),some (.pv (.lst (hs.map px))),some (.pv (tv B)),some (.pv A),some (.pv (.tup [.tup (F.map px),.tup (G.map px)])),some (.pv (.tup (F.map px))),some (.pv (.tup (G.map px))),y1,none] [.lst (li n4)]=.nx [some (.pv (.lst (ns.map .int))),some (.ref 0),some (.pv (.int n)),some (.pv (.lst (hs.map px))),some (.pv (tv B)),some (.pv A),some (.pv (.tup [.tup (F.map px),.tup (G.map px)])),some (.pv (.tup (F.map px))),some (.pv (.tup (G.map px))),y2,none] [.lst (li n4)]:=by
  generalize G.map px=GL,lH dR=LB at *;simp! [aY,aX,bT,e7]
 clear e6 e7;generalize fv w=FW,fv v=FV,fv u=FU,(n:Int)=N,tv B=TB,ns.map PV.int=NL,hs.map px=HL,G2.map px=GL2,F2.map px=FL2,G.map px=GL,F.map px=FL,(F++G).map px=FGL,(aH qA [] (aB (aA 1) (aB (aH pQ [] (aB (aA 1) (aB (aA 2) (aB (mC (.int 3)) aD)))) (aB (aH pU [] (aB (aA 1) (aB (aA 2) aD))) aD))))=HE1,(aY (aX (aA 8)) (gN 9) (lH dR))=LG,(aY (aX (aA 7)) (gN 9) (lH hJ))=LF at *;have i0:∀x y:PV,aK (.tup [x,y]) (.int 0)=some x:=λx y=>eD (j:=0) rfl;have i1:∀x y:PV,aK (.tup [x,y]) (.int 1)=some y:=λx y=>eD (j:=1) rfl;apply tD rfl;apply sq;simp! [gJ,e0];exact⟨rfl,rfl⟩;apply sq;simp! [-bF,e1,a2];exact⟨rfl,rfl⟩;apply sq;simp! [e2];exact⟨rfl,rfl⟩;apply sq;simp! [e3];exact⟨rfl,rfl⟩;apply sq;simp! [e4];exact⟨rfl,rfl⟩;apply sq;simp! [e5];exact⟨rfl,rfl⟩;refine sq (S':=[.lst (li n4)]) (ρ':=[some (.pv (.lst NL)),some (.ref 0),some (.pv (.int N)),some (.pv (.lst HL)),some (.pv TB),some (.pv A),some (.pv (.tup [.tup FL,.tup GL])),none,none,none,none]) (by rcases hA with rfl |rfl<;>simp! [fV,w1]) ?_;apply sq;simp! [qS,gT,cD,eA,gN];exact⟨rfl,rfl⟩;apply sq;simp! [f1,f2];exact⟨rfl,rfl⟩;refine sq tF ?_;refine sq tG ?_;apply sq;simp! [kY,nZ,a4,q1,z1,z2,z3,z4,w2];exact⟨rfl,rfl⟩;apply sq;simp! [e8];exact⟨rfl,rfl⟩;apply sq;simp! [kY,nZ,i0,i1,q2,w3];exact⟨rfl,rfl⟩;apply sq;simp! [e9];exact⟨rfl,rfl⟩;simp! [kY,nZ,i0,i1,q3,w3];exact⟨rfl,rfl⟩;simp[jA]
theorem hF_k   {st:Stmt}{f:Addr}{oc:Value}{od an:BD}{osl:Array BC}{kV doc pm cdv ct:Value}(a:cv K mainGlobals x=some (some (.ref f)):=by k_is)(l:K.lookup f=some ⟨oc,od,.func (dj x x (gR st) (eF st) (bY st) .none kV doc pm an cdv ct),osl⟩:=by k_is)(c:jg K cdv x=true:=by k_is)(k:fm K (.ref f)=true:=by k_is):HF K x st:=aeZ a l c k
theorem all_mk{l:mq}{w:am}{K:ae}{h:Heap}{mg:Str->BC}{fa:Addr}(X:K.In h)(G:h.Ns mainGlobals mg)(hfa:mg "law"=some (.ref fa))
  (h32:HF K "_law_row" Bu)
  (h33:HF K "_law_take" Nq)
  (h34:HF K "_law_gcd" Kw)
  (h35:HF K "_law_lowest" Um)
  (h64:HF K "_law_far" Wv)
  (h44:HF K "_law_dot" Ow)
  (h43:HF K "_law_cross" Ho)
  (h45:HF K "_law_turn" Ss)
  (h42:HF K "_law_gap" Cw)
  (h46:HF K "_law_det" Zv)
  (h47:HF K "_law_simplex" Cl)
  (h41:HF K "_law_joined" On)
  (h66:HF K "_law_spot" Rs)
  (h67:HF K "_law_laid" Ft)
  (h39:HF K "_law_frac" Sr)
  (h65:HF K "_law_stretch" Wk)
  (h61:HF K "_law_raw_turn" Ak)
  (h60:HF K "_law_raw" Yt)
  (h62:HF K "_law_kuhn" Mt)
  (h63:HF K "_law_raw_heap" Vj)
  (h69:HF K "_law_blade" Yp)
  (h70:HF K "_law_some_blade" Mj)
  (h68:HF K "_law_handed" Rn)
  (h7:HF K "divisor" Tl)
  (h8:HF K "reduced" Gm)
  (h6:HF K "sign" Du)
  (h25:HF K "crossing" El)
  (h21:HF K "replaced" Nk)
  (h26:HF K "parted" sD)
  (h15:HF K "dot" Hx)
  (h24:HF K "height" Jp)
  (h27:HF K "heights_of" Sj)
  (h14:HF K "whole_arrow" Hj)
  (h16:HF K "normal" Tn)
  (h17:HF K "determinant" Jj)
  (h18:HF K "side" Vt)
  (h20:HF K "simplex" Mm)
  (h28:HF K "cut" Ax)
  (h37:HF K "_law_whole" Ro)
  (h38:HF K "_law_wholes" Sm)
  (h57:HF K "_law_point_form" Ij)
  (h58:HF K "_law_simplex_form" Wi)
  (h59:HF K "_law_heap_form" Rj)
  (h36:HF K "_law_upward" Qn)
  (h50:HF K "_law_flat_line" Nj)
  (h54:HF K "_law_put" Yv)
  (h51:HF K "_law_space_line" Fj)
  (h53:HF K "_law_shuts" Yn)
  (h52:HF K "_law_plane" Ep)
  (h55:HF K "_law_mark" Rr)
  (h56:HF K "_law_same" Ps)
  (h40:HF K "_law_sum" Ku)
  (h10:HF K "plus" Lu)
  (h11:HF K "total" Ur)
  (h22:HF K "extent" No)
  (h30:HF K "size" Kv)
  (h48:HF K "_law_bulk" Vs)
  (h49:HF K "_law_heap_bulk" Qj)
  {f13:Addr}{od13 an13:BD}{sl13:Array BC}{oc13 kV13 dc13 pm13 cd13 ct13:Value}
  {T13:Addr}{tc13:Value}{td13:BD}{tl13:Array BC}{tn13:Nat}{tt13:Tok}
  (a13:cv K mainGlobals "point"=some (some (.ref f13)))(l13:K.lookup f13=some ⟨oc13,od13,.func (dj "point" "point" (gR uS) (eF uS) (bY uS) (.ref T13) kV13 dc13 pm13 an13 cd13 ct13),sl13⟩)(c13:jg K cd13 "point"=true)(k13:fm K (.ref f13)=true)
  (t13:K.lookup T13=some ⟨tc13,td13,.seq #[.int 1 tt13] tn13,tl13⟩)
  {f9:Addr}{od9 an9:BD}{sl9:Array BC}{oc9 kV9 dc9 pm9 cd9 ct9:Value}
  {T9:Addr}{tc9:Value}{td9:BD}{tl9:Array BC}{tn9:Nat}{tt9:Tok}
  (a9:cv K mainGlobals "fraction"=some (some (.ref f9)))(l9:K.lookup f9=some ⟨oc9,od9,.func (dj "fraction" "fraction" (gR uI) (eF uI) (bY uI) (.ref T9) kV9 dc9 pm9 an9 cd9 ct9),sl9⟩)(c9:jg K cd9 "fraction"=true)(k9:fm K (.ref f9)=true)
  (t9:K.lookup T9=some ⟨tc9,td9,.seq #[.int 1 tt9] tn9,tl9⟩)
  {f71:Addr}{od71 an71:BD}{sl71:Array BC}{oc71 kV71 dc71 pm71 cd71 ct71:Value}
  (a71:cv K mainGlobals "law"=some (some (.ref f71)))(l71:K.lookup f71=some ⟨oc71,od71,.func (dj "law" "law" (gR oY) (eF oY) (bY oY) .none kV71 dc71 pm71 an71 cd71 ct71),sl71⟩)(c71:jg K cd71 "law"=true)(k71:fm K (.ref f71)=true)
  (z1:cv K mainGlobals "abs"=some none)
  (z2:cv K mainGlobals "all"=some none)
  (z3:cv K mainGlobals "any"=some none)
  (z4:cv K mainGlobals "bool"=some none)
  (z5:cv K mainGlobals "enumerate"=some none)
  (z6:cv K mainGlobals "int"=some none)
  (z7:cv K mainGlobals "isinstance"=some none)
  (z8:cv K mainGlobals "len"=some none)
  (z9:cv K mainGlobals "list"=some none)
  (z10:cv K mainGlobals "max"=some none)
  (z11:cv K mainGlobals "min"=some none)
  (z12:cv K mainGlobals "range"=some none)
  (z13:cv K mainGlobals "sorted"=some none)
  (z14:cv K mainGlobals "sum"=some none)
  (z15:cv K mainGlobals "tuple"=some none)
  (z16:cv K mainGlobals "zip"=some none)
  {C1 C2 C3:Addr}
  (y1:cv K mainGlobals "Flat"=some (some (.ref C1)))(x1:iw K C1 kU "ValueError.__new__"=true)
  (y2:cv K mainGlobals "NoNumber"=some (some (.ref C2)))(x2:iw K C2 kU "ValueError.__new__"=true)
  (y3:cv K mainGlobals "NoPoint"=some (some (.ref C3)))(x3:iw K C3 kU "ValueError.__new__"=true)
  :∃fd:ca,(∀(s:aa)(v:Value),ly s fd ⟨[v],[]⟩ [("_law_script",v)])/\∀base:Heap,K.In base->base.Ns mainGlobals mg->eI l.prog w K mg base fL 10 fa fd ["_law_script"] (zD K):=by
 let cl:Str->Addr:=λn=>if n="Flat" then C1 else if n="NoNumber" then C2 else if n="NoPoint" then C3 else 0
 have e:=hfa.symm.trans (kl X G a71);cases e;have F13:=Qt (st:=uS) l13 c13 k13 t13 rfl;have b13:=F13.binds (ps:=["numbers","bottom"]) (dd:=[]) λ_ _ _ _ _ _ _ us hl=>match us,hl with |[_,_],_=>⟨_,rfl,rfl⟩
 have n13:=kl X G a13;have F9:=Qt (st:=uI) l9 c9 k9 t9 rfl;have b9:=F9.binds (ps:=["top","bottom"]) (dd:=[]) λ_ _ _ _ _ _ _ us hl=>match us,hl with |[_,_],_=>⟨_,rfl,rfl⟩
 have n9:=kl X G a9;have F71:=Ov (st:=oY) l71 c71 k71;have m:Mg mg:=⟨gv X G z1,gv X G z2,gv X G z3,gv X G z4,gv X G z5,gv X G z6,gv X G z7,gv X G z8,gv X G z9,gv X G z10,gv X G z11,gv X G z12,gv X G z13,gv X G z14,gv X G z15,gv X G z16⟩;refine⟨dj "law" "law" (gR oY) (eF oY) (bY oY) .none kV71 dc71 pm71 an71 cd71 ct71,λs v=>.of_eq rfl,λbase _ _=>?_⟩
 let B:Bx:=⟨l.prog,w,K,mg,base,cl⟩
 have Xg:XG B.K B.mg:=⟨h,X,G⟩;have m:Mg B.mg:=m;have q_Flat:B.mg "Flat"=some (.ref (B.cl "Flat")):=kl X G y1;have x_Flat:iw B.K (B.cl "Flat") kU "ValueError.__new__"=true:=x1;have q_NoNumber:B.mg "NoNumber"=some (.ref (B.cl "NoNumber")):=kl X G y2;have x_NoNumber:iw B.K (B.cl "NoNumber") kU "ValueError.__new__"=true:=x2;have q_NoPoint:B.mg "NoPoint"=some (.ref (B.cl "NoPoint")):=kl X G y3;have x_NoPoint:iw B.K (B.cl "NoPoint") kU "ValueError.__new__"=true:=x3;have C32:=acu Xg m h32;have C33:=aaO Xg m h33;have C34:=abN Xg m h34;have C35:=J2 Xg m h35 C34;have C64:=abE Xg m h64 C33 C35;have C44:=abU Xg m h44;have C43:=Q1 Xg m h43;have C45:=aaz Xg m h45 C44 C43;have C42:=acO Xg m h42;have C46:=acI Xg m h46 C45 C42;have C47:=D9 Xg m h47 C46;have C41:=L7 Xg m h41 C35;have C66:=X8 Xg m h66 C35;have C67:=aa1 Xg m h67 C64 C47 C41 C66;have C39:=aa0 Xg m h39 C35;have C65:=E8 Xg m h65 C33 C39;have C61:=D7 Xg m h61 C45;have C60:=abJ Xg m h60 C33 C61;have C62:=V8 Xg m h62 C33;have C63:=D5 Xg m h63 C33 C60 C62;have C69:=T7 Xg m h69 C35 C43 C42 C44;have C70:=A4 Xg m h70 C33 C64 C69;have C68:=K6 Xg m h68 C33;have C7:=J8 Xg m h7;have C8:=K5 Xg m h8 C7;have C6:=abg Xg m h6;have G13:=Z6 Xg m F13 C8 C6 q_NoPoint x_NoPoint;have H13:So B:=Zh G13 b13 k13 n13;have C25:=E4 Xg m h25 H13;have C21:=F7 Xg m h21;have C26:=P9 Xg m h26 C25 C21;have C15:=aej Xg m h15;have C24:=Q5 Xg m h24 C15;have C27:=B5 Xg m h27 C24;have C14:=A5 Xg m h14;have C16:=N6 Xg m h16;have C17:=A8 Xg m h17 C14 C15 C16;have C18:=abz Xg m h18 C6 C17;have H20:=L9 Xg m h20 C18 q_Flat x_Flat;have C28:=adF Xg m h28 C26 C27 H20;have C37:=R4 Xg m h37;have C38:=J7 Xg m h38 C37;have C57:=A9 Xg m h57 C38 C35;have C58:=A0 Xg m h58 C57 C46 C47;have C59:=C4 Xg m h59 C58;have C36:=L8 Xg m h36 C35;have C50:=C0 Xg m h50 C36 C43;have C54:=abD Xg m h54;have C51:=A6 Xg m h51 C36 C42 C43;have C53:=T5 Xg m h53;have C52:=S7 Xg m h52 C43 C42 C36 C44;have C55:=U9 Xg m h55 C50 C54 C51 C53 C52;have C56:=aae Xg m h56 C55;have C40:=acN Xg m h40 C39;have G9:=F8 Xg m F9 C6 C7 q_NoNumber x_NoNumber;have H9:Lb B:=Zh G9 b9 k9 n9;have C10:=abe Xg m h10 H9;have C11:=X4 Xg m h11 C10;have C22:=M9 Xg m h22 H9 C17;have C30:=abR Xg m h30 C11 C22;have C48:=aaG Xg m h48 C39 C46;have C49:=B6 Xg m h49 C40 C48;exact(ac3 Xg m F71 C32 C33 C67 C65 C63 C70 C68 C28 C59 C44 C56 C40 C30 C49).imp λvs H Q E h=>acj V4 h
theorem walk{l:mq}{q:Program}{loose:List Str}{XP:(Str->BC)->Heap->Prop}{YP:am->Heap->Prop}{d:DefRec}{K:oi->ae}(hn:l.most=some 63)(hdf:d.params.defaults=[])
  (hY:∀(w:am)(h:Heap),YP w h->(K w.params).In h)
  (hSe:∀(w:am)(h:Heap)(mg mb:Str->BC),YP w h->h.Ns mainGlobals mg->h.Ns builtinsNs mb->(∀x:Str,x≠"__name__"->mb x=bootBuiltins x)->h.NoSeer)(hTr:l.prog.given.tree=none)
  (F:∀(w:am)(mg:Str->BC)(fa:Addr)(h:Heap),(K w.params).In h->h.Ns mainGlobals mg->mg d.name=some (.ref fa)->
   ∃fd:ca,(∀(s:aa)(u:Value),ly s fd ⟨[u],[]⟩ [("_law_script",u)])/\∀base:Heap,(K w.params).In base->base.Ns mainGlobals mg->eI l.prog w (K w.params) mg base fL 10 fa fd ["_law_script"] (zD (K w.params))):
  PySem.W.WalkO q loose XP YP l.row.toRowW d [] (λf vs=>wq f vs):=
 L2.walk_of (n:=63) (k:=10) (x:="_law_script") (CX:=λ_=>fL) (sp:=λw=>zD (K w.params)) hn (by decide) hdf ⟨rfl,by decide,by decide⟩ hY hSe hTr F (λ_ _ a ns hl _ hS=>⟨a,ns,rfl,hS,hl,λ_=>rfl⟩) λ_ _ _ _ _ z=>z
theorem seerK:∀P,L2.seerB (KK P)=true:=λ_=>by kernel_rfl
end
end Sc
open PySem PySem.W PyProof.Rows
set_option maxRecDepth 100000 in
set_option maxHeartbeats 0 in
theorem PySem.Challenge.cw_scissorhall_k19_whole_cuts_holds : PySem.Challenge.rw_scissorhall_k19_whole_cuts.Holds := by
 w_on; refine holds_law Sc.wsaid λsaid=>?_
 refine holds_open (q:=Sc.VW) (loose:=[di "fraction",di "point"]) (Xt:=λs=>xlAt Sc.VW [] s && recOk (uj (uk (ul oj))) s) (XP:=XL Sc.VW []) (Yf:=uh (kHook Sc.KK Sc.KA Sc.KE)) (Ya:=ui (kHook Sc.KK Sc.KA Sc.KE)) (YP:=Hook.says (kHook Sc.KK Sc.KA Sc.KE)) (N:=5460) Sc.left (Hook.of (kHook Sc.KK Sc.KA Sc.KE)) (Hook.keeps (kHook Sc.KK Sc.KA Sc.KE)) (λs e=>xl_of s (yk.mp e).1) XL.keeps (by rfl) (by rfl) (by rfl) (λs e=>recFacts_of (yk.mp e).2) (by rfl) (by first | assumption | decide +kernel) (by decide +kernel) ⟨rfl,rfl,rfl,rfl,rfl,by decide +kernel⟩ ?hw ?hc
 case hw=>w_witness2
 k_fill
 refine Sc.walk (l:=oj) rfl rfl (λw h Y=>AT Y) (λw h mg mb Y G B hb=>L2.seer_of (Sc.seerK w.params) (AT Y) G B hb) rfl ?F
 case F =>
  intro w mg fa h KX G hmg;refine' Sc.all_mk KX G hmg Sc.hF_k Sc.hF_k Sc.hF_k Sc.hF_k Sc.hF_k Sc.hF_k Sc.hF_k Sc.hF_k Sc.hF_k Sc.hF_k Sc.hF_k Sc.hF_k Sc.hF_k Sc.hF_k Sc.hF_k Sc.hF_k Sc.hF_k Sc.hF_k Sc.hF_k Sc.hF_k Sc.hF_k Sc.hF_k Sc.hF_k Sc.hF_k Sc.hF_k Sc.hF_k Sc.hF_k Sc.hF_k Sc.hF_k Sc.hF_k Sc.hF_k Sc.hF_k Sc.hF_k Sc.hF_k Sc.hF_k Sc.hF_k Sc.hF_k Sc.hF_k Sc.hF_k Sc.hF_k Sc.hF_k Sc.hF_k Sc.hF_k Sc.hF_k Sc.hF_k Sc.hF_k Sc.hF_k Sc.hF_k Sc.hF_k Sc.hF_k Sc.hF_k Sc.hF_k Sc.hF_k Sc.hF_k Sc.hF_k Sc.hF_k Sc.hF_k Sc.hF_k ?a13 ?l13 ?c13 ?k13 ?t13 ?a9 ?l9 ?c9 ?k9 ?t9 ?a71 ?l71 ?c71 ?k71 ?z1 ?z2 ?z3 ?z4 ?z5 ?z6 ?z7 ?z8 ?z9 ?z10 ?z11 ?z12 ?z13 ?z14 ?z15 ?z16 ?y1 ?x1 ?y2 ?x2 ?y3 ?x3
  (case a13 | l13 | c13 | k13 | t13 | a9 | l9 | c9 | k9 | t9 | a71 | l71 | c71 | k71 | z1 | z2 | z3 | z4 | z5 | z6 | z7 | z8 | z9 | z10 | z11 | z12 | z13 | z14 | z15 | z16 | y1=>k_is)
  (case x1=>k_exc)
  (case y2=>k_is)
  (case x2=>k_exc)
  (case y3=>k_is)
  (case x3=>k_exc)
#print axioms PySem.Challenge.cw_scissorhall_k19_whole_cuts_holds
