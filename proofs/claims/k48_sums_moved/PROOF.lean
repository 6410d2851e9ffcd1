import PyProof.Rows.All
import KE.KFromBytes
import KE.KIsAll
import PyProof.EqAt
import PyProof.EqKinds
import PyProof.TupleCall
import PyProof.ZipIter
import PyProof.Draws
import PyProof.CompFree
import PyProof.NeKinds
import PyProof.NsDelKeeps
import PyProof.ExcArgsOwn
import PyProof.ExcAttrAll.ValueError
import KE.KSortTup
import PyProof.DictRoadsH
import Wide.Seal
import KE.KIntText
import PyProof.FitsReplace
import PyProof.StrWalks
import PyProof.CompMap
import KE.KDictList
import PySem.Challenge.RW_scissorhall_k48_sums_moved
set_option Elab.async false
set_option compiler.extract_closed false
set_option bootstrap.genMatcherCode false
set_option maxRecDepth 100000
set_option maxHeartbeats 0
open Array renaming length_toList->wy,replicate->yj,getElem?_toList->yo,getElem?_eq_getElem->yp,toList->zy,forIn_toList->l8
open Bool renaming false_ne_true->jx,and_eq_true->sx,eq_iff_iff->xx,and_eq_true_iff->yq,false_eq_true->AE
open Classical renaming propDecidable->ue
open Decidable renaming byContradiction->AR
open False renaming elim->kh
open ForInStep renaming yield->xu
open Function renaming comp_apply->u7
open Int renaming mul_pos->bf,gcd->ci,ne_of_gt->df,mul_ne_zero->di,mul_comm->fe,one_mul->gh,mul_assoc->kj,zero_sub->kl,mul_eq_zero->kq,neg_mul->kz,mul_one->mj,mul_ediv_cancel_left->oa,zero_mul->ou,natAbs_mul->ql,mul_zero->qo,gcd_zero_left->qp,fdiv_eq_ediv_of_dvd->qq,le_refl->ss,pos_of_mul_pos_left->su,toNat_natCast->tj,mul_neg->xl,gcd_dvd_left->xn,gcd_dvd_right->xo,neg_gcd->xp,eq_of_mul_eq_mul_left->zi,natCast_nonneg->g9,gcd_mul_left->i7,mul_neg_of_pos_of_neg->i8,neg_mul_neg->i9,fmod_nonneg_of_pos->AK,eq_of_mul_eq_mul_right->AM,natCast_mul->AO
open List renaming length_map->ak,map_cons->au,mem_cons_self->av,getElem?_map->aw,length_append->ax,getElem?_eq_getElem->ay,mem_cons_of_mem->bh,size_toArray->bj,mem_cons->br,mem_map->ca,mem_append->ce,getElem?_eq_some_iff->cf,map_map->cj,range->ck,zipWith->cr,length_cons->cu,map_append->cw,map_nil->da,mem_append_right->dg,mem_of_getElem?->dh,getD->dj,map_congr_left->dy,getElem?_append_right->ee,not_mem_nil->fm,getElem?_set_ne->fu,getElem?_append_left->fw,getElem?_set_self->fz,lookup_cons->ib,length_set->ij,nil_append->iw,set_cons_zero->ix,mem_filter->iy,append_nil->jb,nodup_cons->jc,getElem_mem->jf,ext_getElem?->jg,prefix_rfl->jl,flatMap_cons->jm,append_assoc->jp,set_cons_succ->jr,filterMap_cons->kd,nodup_nil->kn,toArray->ko,length_take->ku,length_zipWith->la,length_range->lc,cons_append->lg,mem_append_left->lj,all_eq_true->mq,nodup_append->ng,length_singleton->nh,mem_flatMap->ni,getElem_of_mem->oh,getElem?_eq_none->om,set_set->oq,getLastD_cons->ow,getLastD_nil->ox,length->qk,drop_eq_getElem_cons->qs,zipWith_cons_cons->qx,length_filter_le->qz,flatMap_append->re,replicate->rm,length_drop->sf,forIn_cons->sv,mem_iff_getElem->td,ext_getElem->uc,drop_length->uf,getElem?_take->ug,getElem?_set->ui,map_set->uk,pairwise_cons->um,take_of_length_le->ur,filterMap_map->uv,filter_cons->uz,mem_filterMap->vo,of_mem_zip->vz,zip_nil_right->wj,zip_cons_cons->wk,length_nil->wm,take_length->yi,pairwise_map->yx,mem_singleton->yy,getElem_zipWith->zb,zipWith_nil_left->zc,sum_cons->zd,sum_nil->ze,getElem?_cons_succ->zf,getElem?_cons_zero->zg,perm_append_comm->zj,flatMap_nil->zk,getElem?_replicate->a9,zipIdx_cons->k4,zipIdx_nil->k7,forIn_nil->k8,getElem?_zipWith->n8,getElem?_eq_none_iff->o8,map_inj_right->t7,set_getElem_self->t8,length_eq_zero_iff->t9,eq_nil_of_length_eq_zero->u5,pairwise_iff_getElem->AD,getD_eq_getElem?_getD->AL,range_succ_eq_map->AQ,foldl_cons->AT,map_eq_nil_iff->AU,filter_eq_nil_iff->AW,perm_ext_iff_of_nodup->AX,map_flatMap->AY,filter_map->AZ
open List.Perm renaming swap->va,append_left->zl,cons->BA
open List.cons renaming injEq->AN
open Nat renaming le_refl->aj,ne_of_lt->de,zero_le->dq,lt_of_lt_of_le->du,le_trans->fx,sub_self->ie,lt_irrefl->ji,ne_of_gt->kr,le_succ->nv,mul_le_mul_right->ot,le_of_lt->pw,lt_of_le_of_lt->qm,pow_le_pow_right->sr,two_pow_pos->uu,lt_trans->xq,lt_of_succ_lt->ye,add_assoc->yf,le_succ_of_le->yk,min_eq_left->ym,succ_le_succ->g7,eq_zero_or_pos->g8,exists_eq_add_of_le->l9,lt_succ_self->m9,lt_succ_of_lt->o7
open Ne renaming symm->iz
open Option renaming getD_some->yh,getD_none->d8,map_some->AI
open Option.some renaming inj->cq
open Or renaming inr->eh,inl->ft
open Prod renaming fst->uw,ext->wv
open PyProof.Rows renaming IntsAre->jk,AllBare->jt,IsTup->lh,callWith_type1->qg,slot_tuple_getitem->si,SortKind->uo,assignInOrder_cons->vn,Subscript_->xa,get?_update_seq->yr,listUpdate_at->yu,seqEpoch_at->yw,subscriptTail_builtinR->d6
open PyProof.Rows.IsTup renaming new->rl
open PySem renaming Shared->aa,wpAny_bind->ag,Expr->ah,Pos->ai,World->am,wpAny_pure->ao,Around->aq,Env->bn,FuncData->cg,Tok->cv,Paired->ff,IsPair->fg,sizeLine->gm,wpAny_mono->gv,Keyword->ia,NameKind->ig,IsZip->il,wpAny_field->ir,storedH_new->jq,wpAny_newObj_type->ju,mem_of_lookup->jv,Draws->jy,wpAny_holding->ke,sizeLine_eq->kg,wpAny_call_entry->ki,wpAny_seqItems->km,IsPart->kw,wpAny_truthy_bool->lq,wpAny_rule->lr,wpAny_passesOwn->mf,wpAny_callSpecial?_slot->mn,BindsTo->nu,wpAny_setField_rec->og,Params->oy,wpAny_standAt->qd,PassesOwn->qe,Result->qi,codeAny_mono->qj,atKey_none_of_get->qu,idxH_unique->qv,wpAny_execs_nil->rh,wpAny_loadPart'->rn,concat_meets->se,wpAny_pyIter_list->sy,wpAny_setField->tm,wpAny_of_eq->tw,wpAny_onRaise->tz,wpAny_attempt->ua,storedH_old->uj,Fin->ul,wpAny_collect_seq->uq,wpAny_Name->vm,wpAny_Call_Name_kw->vw,noFill_tuple_add->wo,seq_tuple_add->wq,wpAny_typeOf->wz,seqIndex_of->xb,seqIndex_neg->xc,slot_list_getitem->xf,call_meets->xj,call->xk,wpAny_comprehension_free->xv,codeAny_compStart_list->xw,wpAny_updateSeq_pair->xy,wpAny_letGo->ya,wpAny_isInstance->yb,pushCells_keeps->yl,wpAny_dictEntries->yn,Within->zp,wpAny_loadName_local->zt,wpAny_loadName_cell->zu,wpAny_isTrue_Compare1->zx,wpAny_getItem_list_slice->f6,wpAny_Call_method_late->f7,wpAny_newFunctionEnv->j5,wpAny_pyIter_tuple->l6,wpAny_isOneOf_keyiter->u9,wpAny_notOrdered_dict->AA
open PySem.AutoSeq1 renaming sub_tuple_tuple->c7
open PySem.Builtin.Dict renaming showsAll->AC
open PySem.Builtin.Dict_items renaming ownsTuple->u8
open PySem.Builtin.Int renaming intBits->j4
open PySem.Builtin.List renaming listTooLong->xi
open PySem.Builtin.Slice renaming slicePlaces->wx,sliceAdjust->c8
open PySem.Builtin.SmallTypes renaming nextOf->mx,ownedTupleIsFree->tx,ownedTupleHandOut->k9
open PySem.Builtin.Tuple renaming tupleItemsOf->c9,tupleHashOf->l7
open PySem.Calls renaming evalArgs_plain->xh,Name_function_global->zw,callWith_builtin->f9
open PySem.Challenge renaming pw_scissorhall_k48_sums_moved->nj,rw_scissorhall_k48_sums_moved->oz
open PySem.F renaming slot_dict_keyiterator_next->qw,slot_list_append->sk,slot_tuple_iterator_next->tf,slot_zip_next->ub,plainAttrs_list->uh,slot_tuple_add->wr,entry_tuple_add->wt,args_tuple_add_2->wu,type_list_append->yg,entry_tuple_iterator_next->j6,args_tuple_iterator_next_1->j7,entry_zip_next->l4,args_zip_next_1->l5,slot_list_iadd->u0,entry_list_iadd->u4,slot_dict_get->u6,entry_dict_keyiterator_next->v7,args_dict_keyiterator_next_1->v8,slot_dict_iter->w8,slot_dict_setdefault->AH
open PySem.Heap renaming get?_push_of_some->ar,lt_size->bi,get?_push_size->cy,SameBut->ja,size_push->jo,ExtBut->qr,get?_update_self->sj,get?_update_ne->yt,get?_update_other->d7
open PySem.Heap.IsSliceOf renaming new->d5
open PySem.Heap.SameBut renaming update->my
open PySem.NameKind renaming cell->ik,free->jd
open PySem.Obj renaming mapSeq->kx,data_mapFields->tq,isFreed_of_fields->j8,cls_mapFields->j9,data_mapDictKeys->AG
open PySem.Paired renaming length->zo
open PySem.PassesOwn renaming never->yz,leaving->za
open PySem.SeqAt renaming EqAt->jn,RcAt->oi
open PySem.SeqAt.EqAt renaming same->ud,int_int->wg,of_refs->yd
open PySem.SeqAt.RcAt renaming tuples->yc,none_none->n9,bool_bool->o0,int_int->o3,str_str->o4,lists->o5,lists_lengths->o6
open PySem.Str renaming ofString->fh
open PySem.Value renaming ref->cx,none->dk,int->ph,bool->pk,str->vh
open PySem.W renaming Frag->ae,nsIn->dr,fnOf->fj,keepIn->gw,excIn->io,kia_one->je,mg_none_of->jh,codeIn->jw,mg_of->jz,kitOne->nr,OpenLaw->ny,kat_nil->oj,kHook->rf,instObj->vj,hideAll_get->vk,lookIn->vp,findIn->vq,kitx_list->vt,xlAt->zm,recOk->zn,of_hideAll->zq,plainGet->zz,specialIn->a5,kitx_tuple->a6,kitx_dict->a7,cellsFrom_some->a8,kat_cons->q0,kat_yes->q9,kat_no->t5,kat_kind->AF,KatGo->AJ
open PySem.W.Hook renaming obs->vb,val->vd
open PySem.W.KatTups renaming cons->t6
open PySem.W.OpenLaw renaming row->vg,wellSaid->BB
open PySem.W.OpenRow renaming toRowW->vf
open PySem.W.RowW renaming records->ve
open Rat renaming intCast_mul->qy,add_assoc->zh,intCast_inj->AS
open Sum renaming inl->pf,inr->pj
open True renaming intro->qh
theorem zZqq(h:True:=by rfl):True:=h
@[reducible] def Zqq:Lean.Syntax:=zZqq._auto_1
theorem zZqw(h:True:=by decide):True:=h
@[reducible] def Zqw:Lean.Syntax:=zZqw._auto_1
theorem zZqx(h:True:=by decide+kernel):True:=h
@[reducible] def Zqx:Lean.Syntax:=zZqx._auto_1
theorem zZqz(h:True:=by intro _;rfl):True:=h
@[reducible] def Zqz:Lean.Syntax:=zZqz._auto_1
theorem zZwq(h:True:=by first |exact .inl rfl |exact .inr rfl |assumption):True:=h
@[reducible] def Zwq:Lean.Syntax:=zZwq._auto_1
theorem zZww(h:True:=by first |exact ft rfl |exact eh (ft rfl) |exact eh (eh rfl)):True:=h
@[reducible] def Zww:Lean.Syntax:=zZww._auto_1
theorem zZwx(h:True:=by intro _ _;rfl):True:=h
@[reducible] def Zwx:Lean.Syntax:=zZwx._auto_1
theorem zZwz(h:True:=by k_is):True:=h
@[reducible] def Zwz:Lean.Syntax:=zZwz._auto_1
theorem zZzq(h:True:=by intro _ _ _ _ _ _ us h;rcases us with _ |⟨_,_ |⟨_,_ |⟨_,_ |⟨_,_ |⟨_,_ |⟨_,_⟩⟩⟩⟩⟩⟩<;>first |(cases h;done) |rfl |(simp at h)):True:=h
@[reducible] def Zzq:Lean.Syntax:=zZzq._auto_1
local macro_rules(kind:=Lean.Parser.Command.declaration)
|s=>do if s[0].getArgs.all (·.getNumArgs==0)&&(s[1].isOfKind `Lean.Parser.Command.definition||s[1].isOfKind `Lean.Parser.Command.abbrev) then return s.setArg 0 (<-`(noncomputable def x:=0)).raw[0] else Lean.Macro.throwUnsupported
set_option hygiene false
local macro_rules
|`(1#h)=>`((Int×Int))
|`(1#g)=>`((model X.prog X.w))
|`(1#f)=>`((eU X sc (cN own cap) (s2.heap.push {cls:=.type "list",data:=.seq ([]:BF).toArray}).objs.size {s2 with heap:=s2.heap.push {cls:=.type "list",data:=.seq ([]:BF).toArray},toks:=s2.toks} (aM H2 s2.heap.objs.size (.lst [])) fp))
|`(1#e)=>`((mC (.int 0)))
|`(1#d)=>`((by simp))
|`(1#c)=>`((mC (.int 1)))
|`(1#b)=>`((by decide))
|`(1#a)=>`((by omega))
set_option hygiene true
abbrev BC:=List Int
abbrev BD:=List BC
abbrev BE:=List BD
abbrev BF:=List PySem.Value
abbrev BG:=Option PySem.Value
abbrev BI:=Option PySem.Addr
abbrev BJ:=Option Int
theorem len2{α:Type}:∀{l:List α},l.length=2->∃a b,l=[a,b]
 |[],h=>nomatch h
 |[_],h=>nomatch h
 |[a,b],_=>⟨a,b,rfl⟩
 |_::_::_::_,h=>nomatch h
theorem len3{α:Type}:∀{l:List α},l.length=3->∃a b c,l=[a,b,c]
 |[],h=>nomatch h
 |a::_,h=>have⟨b,c,e⟩:=len2 (Nat.succ.inj h);⟨a,b,c,e▸rfl⟩
theorem len4{α:Type}:∀{l:List α},l.length=4->∃a b c d,l=[a,b,c,d]
 |[],h=>nomatch h
 |a::_,h=>have⟨b,c,d,e⟩:=len3 (Nat.succ.inj h);⟨a,b,c,d,e▸rfl⟩
namespace L2
open PySem
def gY(s:Stmt):Arguments:=match s with
 |.FunctionDef _ a _ _ _ _ _ _ _ _=>a
 |_=>{posonlyargs:=[],args:=[],vararg:=none,kwonlyargs:=[],kw_defaults:=[],kwarg:=none,defaults:=[]}
def eN(s:Stmt):List Stmt:=match s with
 |.FunctionDef _ _ b _ _ _ _ _ _ _=>b
 |_=>[]
def cL(s:Stmt):Scope:=match s with
 |.FunctionDef _ _ _ _ _ _ sc _ _ _=>sc
 |_=>{kind:=.function,names:=[],isGenerator:=false,isCoroutine:=false}
end L2
namespace Sc
section
open PySem L2
def aN(i:Nat):Stmt:=nj.main.body.getD i (.Pass ⟨0,0,0,0⟩)
abbrev vs(s:String)(t:Nat):Value:=.str (fh s) t
abbrev vi(i:Int):Value:=.int i 0
abbrev vr(a:Nat):Value:=.ref a
abbrev fo(n:String)(i:Nat)(dV dc pm cd ct:Value):Obj:=⟨.type "function",none,.func (fj (fh n) (fh n) (gY (aN i)) (eN (aN i)) (cL (aN i)) dV .none dc pm none cd ct),#[]⟩
abbrev fc(l:BF):Obj:=⟨.type "code",none,.fields l.toArray,#[]⟩
abbrev K0(n:String)(t l a r g:Nat)(x:BF):Obj:=fc (vs n t::vs n (t+1)::vs "/claim/cut.py" (t+2)::vi l::vi a::vi 0::vi 0::vi 3::vr r:: .bool true::vi g::vr (r+1):: .none::x)
abbrev dZ(n:String)(t l a r g u:Nat):Obj:=K0 n t l a r g [vr (r+2),vr (r+3),vr (r+4),vi u,vi l,vs "/claim/cut.py" (u+1)]
abbrev eK(n:String)(t l a r g:Nat):Obj:=K0 n t l a r g [.none,.none,vr (r+2),vi (t+3),vi l,vs "/claim/cut.py" (t+4)]
abbrev fd(P:oy)(n:Nat)(l:List (String×Nat×Value)):Obj:=⟨.type "dict",none,.dict (l.map λe=>⟨PyData.keyHash P (fh e.1),.str (fh e.1) e.2.1,e.2.2⟩).toArray n,#[]⟩
abbrev vLq:Value:=vs "law_scissorhall_k48_sums_moved" 526
abbrev fzq (n:String)(i:Nat)(m:Value)(r:Nat):Obj:=fo n i .none .none m (vr r) .none
abbrev v0q:Value:=vs "scissorhall.points" 325
abbrev v1q:Value:=vs "scissorhall.sums" 464
abbrev v2q:Value:=vs "scissorhall.lowest" 271
abbrev v3q:Value:=vs "scissorhall.moves" 425
def KK(P:oy):ae:=
 (nat_lit 3,fd P 82 [("__name__",165,vs "law_scissorhall_k48_sums_moved" 526),("__doc__",166,.none),("__package__",167,.none),("__loader__",168,(.builtin "__main__.__loader__#opaque")),("__spec__",169,.none),("__annotations__",170,vr 6),("__builtins__",171,vr 4),("__file__",173,vs "/claim/cut.py" 172),("__cached__",174,.none),("HallError",206,vr 24),("NoNumber",222,vr 37),("NoPoint",238,vr 49),("Flat",254,vr 61),("NoMove",270,vr 73),("sign",279,vr 82),("divisor",288,vr 89),("reduced",294,vr 94),("lowest_way",300,vr 99),("fraction",310,vr 107),("plus",318,vr 114),("total",324,vr 119),("point",333,vr 125),("added",339,vr 130),("lessened",347,vr 137),("turned",353,vr 142),("whole_arrow",359,vr 147),("dot",365,vr 152),("normal",374,vr 159),("determinant",380,vr 164),("side",387,vr 171),("FLAT_WALLS",396,vr 175),("SPACE_WALLS",409,vr 180),("simplex",418,vr 187),("walls",424,vr 192),("move",434,vr 199),("is_push",441,vr 206),("moved_point",449,vr 213),("moved",455,vr 218),("sides",463,vr 223),("along",471,vr 228),("side_share",479,vr 235),("wall_share",485,vr 240),("summed",491,vr 245),("all_walls",500,vr 252),("side_sums",506,vr 257),("wall_sums",512,vr 262),("edge_sums",525,vr 269),("_law_row",540,vr 276),("_law_take",549,vr 283),("_law_gcd",557,vr 290),("_law_lowest",563,vr 295),("_law_whole",570,vr 302),("_law_wholes",576,vr 307),("_law_frac",584,vr 314),("_law_sum",592,vr 321),("_law_joined",598,vr 326),("_law_gap",604,vr 331),("_law_cross",615,vr 338),("_law_dot",621,vr 343),("_law_turn",628,vr 350),("_law_det",634,vr 355),("_law_simplex",642,vr 362),("_law_point_form",650,vr 369),("_law_simplex_form",656,vr 374),("_law_heap_form",662,vr 379),("_law_raw",668,vr 384),("_law_raw_turn",674,vr 389),("_law_kuhn",686,vr 396),("_law_raw_heap",698,vr 403),("_law_far",704,vr 408),("_law_stretch",715,vr 415),("_law_spot",721,vr 420),("_law_laid",727,vr 425),("_law_handed",735,vr 432),("_law_put_sum",744,vr 439),("_law_told_sums",750,vr 444),("_law_wide_far",758,vr 451),("_law_added_sums",769,vr 458),("_law_turned_sums",775,vr 463),("_law_sums_form",784,vr 470),("_law_asked",795,vr 477),("law",812,vr 484)])::
 (nat_lit 23,fd P 3 [("__module__",196,vs "scissorhall.errors" 187),("__firstlineno__",200,(.int 2 199)),("__static_attributes__",201,vr 22),("__weakref__",203,vr 25),("__doc__",204,.none)])::
 (nat_lit 24,⟨(.type "type"),none,.cls {name:="HallError",bases:=[(.type "ValueError")],mro:=[vr 24,(.type "ValueError"),(.type "Exception"),(.type "BaseException"),(.type "object")],ns:=23,qualname:="HallError",hasDict:=true,subclasses:=[vr 37,vr 49,vr 61,vr 73]},#[some (vr 15),none,some (vs "HallError" 189),some (vs "HallError" 197),some (.builtin "ValueError.__new__"),some (.bool true)]⟩)::
 (nat_lit 36,fd P 2 [("__module__",214,vs "scissorhall.errors" 187),("__firstlineno__",218,(.int 4 217)),("__static_attributes__",219,vr 35),("__doc__",220,.none)])::
 (nat_lit 37,⟨(.type "type"),none,.cls {name:="NoNumber",bases:=[vr 24],mro:=[vr 37,vr 24,(.type "ValueError"),(.type "Exception"),(.type "BaseException"),(.type "object")],ns:=36,qualname:="NoNumber",hasDict:=true,subclasses:=[]},#[some (vr 28),none,some (vs "NoNumber" 207),some (vs "NoNumber" 215),some (.builtin "ValueError.__new__"),some (.bool true)]⟩)::
 (nat_lit 48,fd P 2 [("__module__",230,vs "scissorhall.errors" 187),("__firstlineno__",234,(.int 6 233)),("__static_attributes__",235,vr 47),("__doc__",236,.none)])::
 (nat_lit 49,⟨(.type "type"),none,.cls {name:="NoPoint",bases:=[vr 24],mro:=[vr 49,vr 24,(.type "ValueError"),(.type "Exception"),(.type "BaseException"),(.type "object")],ns:=48,qualname:="NoPoint",hasDict:=true,subclasses:=[]},#[some (vr 40),none,some (vs "NoPoint" 223),some (vs "NoPoint" 231),some (.builtin "ValueError.__new__"),some (.bool true)]⟩)::
 (nat_lit 60,fd P 2 [("__module__",246,vs "scissorhall.errors" 187),("__firstlineno__",250,(.int 8 249)),("__static_attributes__",251,vr 59),("__doc__",252,.none)])::
 (nat_lit 61,⟨(.type "type"),none,.cls {name:="Flat",bases:=[vr 24],mro:=[vr 61,vr 24,(.type "ValueError"),(.type "Exception"),(.type "BaseException"),(.type "object")],ns:=60,qualname:="Flat",hasDict:=true,subclasses:=[]},#[some (vr 52),none,some (vs "Flat" 239),some (vs "Flat" 247),some (.builtin "ValueError.__new__"),some (.bool true)]⟩)::
 (nat_lit 72,fd P 2 [("__module__",262,vs "scissorhall.errors" 187),("__firstlineno__",266,(.int 10 265)),("__static_attributes__",267,vr 71),("__doc__",268,.none)])::
 (nat_lit 73,⟨(.type "type"),none,.cls {name:="NoMove",bases:=[vr 24],mro:=[vr 73,vr 24,(.type "ValueError"),(.type "Exception"),(.type "BaseException"),(.type "object")],ns:=72,qualname:="NoMove",hasDict:=true,subclasses:=[]},#[some (vr 64),none,some (vs "NoMove" 255),some (vs "NoMove" 263),some (.builtin "ValueError.__new__"),some (.bool true)]⟩)::
 (nat_lit 81,dZ "sign" 273 13 1 76 181 277)::
 (nat_lit 82,fzq "sign" 7 v2q 81)::
 (nat_lit 88,dZ "divisor" 280 19 2 83 181 286)::
 (nat_lit 89,fzq "divisor" 8 v2q 88)::
 (nat_lit 93,eK "reduced" 289 25 1 90 181)::
 (nat_lit 94,fzq "reduced" 9 v2q 93)::
 (nat_lit 98,eK "lowest_way" 295 30 1 95 181)::
 (nat_lit 99,fzq "lowest_way" 10 v2q 98)::
 (nat_lit 100,⟨.type "tuple",none,.seq #[(.int 1 301)] 0,#[]⟩)::
 (nat_lit 106,dZ "fraction" 302 33 2 101 181 308)::
 (nat_lit 107,fo "fraction" 11 (vr 100) .none v2q (vr 106) .none)::
 (nat_lit 113,dZ "plus" 311 38 2 108 181 316)::
 (nat_lit 114,fzq "plus" 12 v2q 113)::
 (nat_lit 118,eK "total" 319 40 1 115 181)::
 (nat_lit 119,fzq "total" 13 v2q 118)::
 (nat_lit 120,⟨.type "tuple",none,.seq #[(.int 1 327)] 0,#[]⟩)::
 (nat_lit 124,eK "point" 328 46 2 121 181)::
 (nat_lit 125,fo "point" 15 (vr 120) .none v0q (vr 124) .none)::
 (nat_lit 129,eK "added" 334 50 2 126 181)::
 (nat_lit 130,fzq "added" 16 v0q 129)::
 (nat_lit 136,dZ "lessened" 340 53 2 131 181 345)::
 (nat_lit 137,fzq "lessened" 17 v0q 136)::
 (nat_lit 141,eK "turned" 348 55 1 138 181)::
 (nat_lit 142,fzq "turned" 18 v0q 141)::
 (nat_lit 146,eK "whole_arrow" 354 57 2 143 181)::
 (nat_lit 147,fzq "whole_arrow" 19 v0q 146)::
 (nat_lit 151,eK "dot" 360 59 2 148 181)::
 (nat_lit 152,fzq "dot" 20 v0q 151)::
 (nat_lit 158,dZ "normal" 366 61 1 153 181 372)::
 (nat_lit 159,fzq "normal" 21 v0q 158)::
 (nat_lit 163,eK "determinant" 375 67 1 160 181)::
 (nat_lit 164,fzq "determinant" 22 v0q 163)::
 (nat_lit 170,dZ "side" 381 70 1 165 181 385)::
 (nat_lit 171,fzq "side" 23 v0q 170)::
 (nat_lit 172,⟨.type "tuple",none,.seq #[(.int 0 390),(.int 1 391)] 0,#[]⟩)::
 (nat_lit 173,⟨.type "tuple",none,.seq #[(.int 1 392),(.int 2 393)] 0,#[]⟩)::
 (nat_lit 174,⟨.type "tuple",none,.seq #[(.int 2 394),(.int 0 395)] 0,#[]⟩)::
 (nat_lit 175,⟨.type "tuple",none,.seq #[vr 172,vr 173,vr 174] 0,#[]⟩)::
 (nat_lit 176,⟨.type "tuple",none,.seq #[(.int 1 397),(.int 2 398),(.int 3 399)] 0,#[]⟩)::
 (nat_lit 177,⟨.type "tuple",none,.seq #[(.int 0 400),(.int 3 401),(.int 2 402)] 0,#[]⟩)::
 (nat_lit 178,⟨.type "tuple",none,.seq #[(.int 0 403),(.int 1 404),(.int 3 405)] 0,#[]⟩)::
 (nat_lit 179,⟨.type "tuple",none,.seq #[(.int 0 406),(.int 2 407),(.int 1 408)] 0,#[]⟩)::
 (nat_lit 180,⟨.type "tuple",none,.seq #[vr 176,vr 177,vr 178,vr 179] 0,#[]⟩)::
 (nat_lit 186,dZ "simplex" 410 75 1 181 181 416)::
 (nat_lit 187,fzq "simplex" 27 (vs "scissorhall.simplexes" 388) 186)::
 (nat_lit 191,eK "walls" 419 83 1 188 181)::
 (nat_lit 192,fzq "walls" 28 (vs "scissorhall.simplexes" 388) 191)::
 (nat_lit 198,dZ "move" 427 87 2 193 181 432)::
 (nat_lit 199,fzq "move" 30 v3q 198)::
 (nat_lit 205,dZ "is_push" 435 91 1 200 181 439)::
 (nat_lit 206,fzq "is_push" 31 v3q 205)::
 (nat_lit 212,dZ "moved_point" 442 93 2 207 181 447)::
 (nat_lit 213,fzq "moved_point" 32 v3q 212)::
 (nat_lit 217,eK "moved" 450 97 2 214 181)::
 (nat_lit 218,fzq "moved" 33 v3q 217)::
 (nat_lit 222,eK "sides" 458 100 1 219 181)::
 (nat_lit 223,fzq "sides" 35 (vs "scissorhall.heaps" 456) 222)::
 (nat_lit 227,eK "along" 466 105 2 224 181)::
 (nat_lit 228,fzq "along" 37 v1q 227)::
 (nat_lit 234,dZ "side_share" 472 109 2 229 181 477)::
 (nat_lit 235,fzq "side_share" 38 v1q 234)::
 (nat_lit 239,eK "wall_share" 480 111 1 236 181)::
 (nat_lit 240,fzq "wall_share" 39 v1q 239)::
 (nat_lit 244,eK "summed" 486 115 1 241 181)::
 (nat_lit 245,fzq "summed" 40 v1q 244)::
 (nat_lit 251,dZ "all_walls" 492 121 1 246 181 498)::
 (nat_lit 252,fzq "all_walls" 41 v1q 251)::
 (nat_lit 256,eK "side_sums" 501 126 1 253 181)::
 (nat_lit 257,fzq "side_sums" 42 v1q 256)::
 (nat_lit 261,eK "wall_sums" 507 128 1 258 181)::
 (nat_lit 262,fzq "wall_sums" 43 v1q 261)::
 (nat_lit 268,dZ "edge_sums" 513 130 1 263 181 523)::
 (nat_lit 269,fzq "edge_sums" 44 v1q 268)::
 (nat_lit 275,dZ "_law_row" 528 139 1 270 181 538)::
 (nat_lit 276,fzq "_law_row" 46 vLq 275)::
 (nat_lit 282,dZ "_law_take" 541 153 2 277 181 547)::
 (nat_lit 283,fzq "_law_take" 47 vLq 282)::
 (nat_lit 289,dZ "_law_gcd" 550 161 2 284 181 555)::
 (nat_lit 290,fzq "_law_gcd" 48 vLq 289)::
 (nat_lit 294,eK "_law_lowest" 558 167 1 291 181)::
 (nat_lit 295,fzq "_law_lowest" 49 vLq 294)::
 (nat_lit 301,dZ "_law_whole" 564 174 1 296 181 568)::
 (nat_lit 302,fzq "_law_whole" 50 vLq 301)::
 (nat_lit 306,eK "_law_wholes" 571 176 2 303 181)::
 (nat_lit 307,fzq "_law_wholes" 51 vLq 306)::
 (nat_lit 313,dZ "_law_frac" 577 180 2 308 181 582)::
 (nat_lit 314,fzq "_law_frac" 52 vLq 313)::
 (nat_lit 320,dZ "_law_sum" 585 184 2 315 181 590)::
 (nat_lit 321,fzq "_law_sum" 53 vLq 320)::
 (nat_lit 325,eK "_law_joined" 593 186 3 322 181)::
 (nat_lit 326,fzq "_law_joined" 54 vLq 325)::
 (nat_lit 330,eK "_law_gap" 599 189 2 327 181)::
 (nat_lit 331,fzq "_law_gap" 55 vLq 330)::
 (nat_lit 337,dZ "_law_cross" 605 191 2 332 181 613)::
 (nat_lit 338,fzq "_law_cross" 56 vLq 337)::
 (nat_lit 342,eK "_law_dot" 616 196 2 339 181)::
 (nat_lit 343,fzq "_law_dot" 57 vLq 342)::
 (nat_lit 349,dZ "_law_turn" 622 198 1 344 181 626)::
 (nat_lit 350,fzq "_law_turn" 58 vLq 349)::
 (nat_lit 354,eK "_law_det" 629 202 1 351 181)::
 (nat_lit 355,fzq "_law_det" 59 vLq 354)::
 (nat_lit 361,dZ "_law_simplex" 635 204 1 356 181 640)::
 (nat_lit 362,fzq "_law_simplex" 60 vLq 361)::
 (nat_lit 368,dZ "_law_point_form" 643 209 2 363 181 648)::
 (nat_lit 369,fzq "_law_point_form" 61 vLq 368)::
 (nat_lit 373,eK "_law_simplex_form" 651 213 2 370 181)::
 (nat_lit 374,fzq "_law_simplex_form" 62 vLq 373)::
 (nat_lit 378,eK "_law_heap_form" 657 219 2 375 181)::
 (nat_lit 379,fzq "_law_heap_form" 63 vLq 378)::
 (nat_lit 383,eK "_law_raw" 663 223 3 380 181)::
 (nat_lit 384,fzq "_law_raw" 64 vLq 383)::
 (nat_lit 388,eK "_law_raw_turn" 669 230 1 385 181)::
 (nat_lit 389,fzq "_law_raw_turn" 65 vLq 388)::
 (nat_lit 395,dZ "_law_kuhn" 675 232 1 390 181 684)::
 (nat_lit 396,fzq "_law_kuhn" 66 vLq 395)::
 (nat_lit 402,dZ "_law_raw_heap" 687 244 3 397 181 696)::
 (nat_lit 403,fzq "_law_raw_heap" 67 vLq 402)::
 (nat_lit 407,eK "_law_far" 699 257 2 404 181)::
 (nat_lit 408,fzq "_law_far" 68 vLq 407)::
 (nat_lit 414,dZ "_law_stretch" 705 263 2 409 181 713)::
 (nat_lit 415,fzq "_law_stretch" 69 vLq 414)::
 (nat_lit 419,eK "_law_spot" 716 269 2 416 181)::
 (nat_lit 420,fzq "_law_spot" 70 vLq 419)::
 (nat_lit 424,eK "_law_laid" 722 275 3 421 181)::
 (nat_lit 425,fzq "_law_laid" 71 vLq 424)::
 (nat_lit 431,dZ "_law_handed" 728 281 2 426 181 733)::
 (nat_lit 432,fzq "_law_handed" 72 vLq 431)::
 (nat_lit 438,dZ "_law_put_sum" 736 285 3 433 181 742)::
 (nat_lit 439,fzq "_law_put_sum" 73 vLq 438)::
 (nat_lit 443,eK "_law_told_sums" 745 287 1 440 181)::
 (nat_lit 444,fzq "_law_told_sums" 74 vLq 443)::
 (nat_lit 450,dZ "_law_wide_far" 751 289 2 445 181 756)::
 (nat_lit 451,fzq "_law_wide_far" 75 vLq 450)::
 (nat_lit 457,dZ "_law_added_sums" 759 293 2 452 181 767)::
 (nat_lit 458,fzq "_law_added_sums" 76 vLq 457)::
 (nat_lit 462,eK "_law_turned_sums" 770 298 1 459 181)::
 (nat_lit 463,fzq "_law_turned_sums" 77 vLq 462)::
 (nat_lit 469,dZ "_law_sums_form" 776 300 2 464 181 782)::
 (nat_lit 470,fzq "_law_sums_form" 78 vLq 469)::
 (nat_lit 476,dZ "_law_asked" 785 314 3 471 181 793)::
 (nat_lit 477,fzq "_law_asked" 79 vLq 476)::
 (nat_lit 483,dZ "law" 796 327 1 478 181 810)::
 (nat_lit 484,fzq "law" 80 vLq 483)::[]
def KA:List Nat:=[3,23,24,36,37,48,49,60,61,72,73,81,82,88,89,93,94,98,99,100,106,107,113,114,118,119,120,124,125,129,130,136,137,141,142,146,147,151,152,158,159,163,164,170,171,172,173,174,175,176,177,178,179,180,186,187,191,192,198,199,205,206,212,213,217,218,222,223,227,228,234,235,239,240,244,245,251,252,256,257,261,262,268,269,275,276,282,283,289,290,294,295,301,302,306,307,313,314,320,321,325,326,330,331,337,338,342,343,349,350,354,355,361,362,368,369,373,374,378,379,383,384,388,389,395,396,402,403,407,408,414,415,419,420,424,425,431,432,438,439,443,444,450,451,457,458,462,463,469,470,476,477,483,484]
def VW:Program:={nj with main:={nj.main with body:=[aN 1,aN 2,aN 3,aN 4,aN 5,aN 7,aN 8,aN 9,aN 10,aN 12,aN 13,aN 16,aN 17,aN 18,aN 19,aN 20,aN 21,aN 22,aN 23,aN 25,aN 26,aN 27,aN 28,aN 30,aN 31,aN 32,aN 33,aN 35,aN 37,aN 38,aN 39,aN 40,aN 41,aN 42,aN 43,aN 44,aN 46,aN 47,aN 48,aN 49,aN 50,aN 51,aN 52,aN 53,aN 54,aN 55,aN 56,aN 57,aN 58,aN 59,aN 60,aN 61,aN 62,aN 63,aN 64,aN 65,aN 66,aN 67,aN 68,aN 69,aN 70,aN 71,aN 72,aN 73,aN 74,aN 75,aN 76,aN 77,aN 78,aN 79,aN 80]}}
theorem KE:∀P,KA=(KK P).map (·.1):=λ_=>by kernel_rfl
theorem wsaid:BB oz=true:=by kernel_rfl
open PySem.W PyProof.Rows PySem.Spec
abbrev RN(w:am):=openEnds treeTable nj w 6246
abbrev LW:=looseW VW [fh "fraction",fh "point"]
theorem afZ:∀w,(RN w).map (λs=>vb (rf KK KA KE) s)=some (vd (rf KK KA KE) w):=by
 intro w
 kernel_rfl
theorem agc:∀w,(RN w).map (λs=>seen ((recsOf VW).map (·.name)) (ownsOf VW) [] {s with gens:=#[]})=some (expectedOf VW):=by
 intro w
 kernel_rfl
theorem agl:∀w,(RN w).map (λs=>s.heap.bltView)=some (bltViewBooted):=by
 intro w
 kernel_rfl
theorem agC:∀w,(RN w).map (λs=>s.heap.keysOk LW ((recsOf VW).map (·.name)) ((litsOf VW).map (·.1)) ((clssOf VW LW).map (·.name)))=some (true):=by
 intro w
 kernel_rfl
theorem agO:∀w,(RN w).map (λs=>s.heap.accountedOkI (importedModules nj.main.body)&&(s.heap.isNs mainGlobals&&s.heap.isNs builtinsNs&&tablesOk VW s.heap)&&((λs=>zm VW [] s&&zn (ve (vf (vg oz))) s) s&&(s.gens.size==0)))=some (true):=by
 intro w
 kernel_rfl
theorem afV:∀w,(RN w).map (λs=>tabsOk VW s)=some (true):=by
 intro w
 kernel_rfl
theorem agd:∀w,(RN w).map (λs=>(pinSeenD VW (drecsOf VW) s,plainSeenD VW [fh "fraction",fh "point"] s,clsSeenW VW [fh "fraction",fh "point"] s))=some (pinGoodD (drecsOf VW),plainGoodD VW [fh "fraction",fh "point"],clsGoodW VW [fh "fraction",fh "point"]):=by
 intro w
 kernel_rfl
theorem afU:∀w,(RN w).map (λs=>plainSeenE VW LW s)=some (plainGoodE VW LW):=by
 intro w
 kernel_rfl
theorem agV:∀w,(RN w).map (λs=>wideSeen VW s)=some (wideGood VW):=by
 intro w
 kernel_rfl
theorem bz (h:k=true)(h2:(a&&(n&&m&&t)&&(x&&g))=true):(k&&a&&n&&m&&t&&x&&g)=true:=by grind
theorem ahn{A B C P Q R T V Y:Type}{o:Option aa}{y:Y}{G:aa->Y}{k a n m t x g f:aa->Bool}{b:aa->B}{c:aa->C}{p:aa->P}{q:aa->Q}{r:aa->R}{u:aa->T}{v:aa->V}{b':B}{c':C}{p':P}{q':Q}{r':R}{u':T}{v':V}(hA:o.map G=some y)(hB:o.map b=some b')(hC:o.map c=some c')(hD:o.map k=some true)(hE:o.map (λs=>a s&&(n s&&m s&&t s)&&(x s&&g s))=some true)(hF:o.map f=some true)
  (hG:o.map (λs=>(p s,q s,r s))=some (p',q',r'))(hH:o.map u=some u')(hI:o.map v=some v'):o.map (λs=>((b s,c s,(k s&&a s&&n s&&m s&&t s&&x s&&g s),f s,p s,u s,q s,v s,r s),G s))=some ((b',c',true,true,p',u',q',v',r'),y):=by
 cases o<;>simp_all
theorem left:LeftO nj VW [fh "fraction",fh "point"] (λs=>zm VW [] s&&zn (ve (vf (vg oz))) s) (vb (rf KK KA KE)) (vd (rf KK KA KE)) 6246:=λw=>ahn (A:=Nat) (afZ w) (agc w) (agl w) (agC w) (agO w) (afV w) (agd w) (afU w) (agV w)
end
end Sc
set_option maxHeartbeats 200000
set_option Elab.async false
set_option compiler.extract_closed false
set_option bootstrap.genMatcherCode false
set_option linter.all false
set_option maxRecDepth 100000
namespace L2
open PySem PySem.Spec PyProof.Rows
abbrev iY:=Sum Int Str
def A5:iY->Value->Bool
 |.inl k,v=>Value.isInt k v
 |.inr x,v=>Value.isStrOf x v
def ahw(w:am):iY->Int
 |.inl k=>hashInt k
 |.inr x=>hashStr w x
theorem nH:∀{k:iY}{v:Value},A5 k v=true->(∃i t,k=pf i/\v=ph i t)\/(∃x t,k=pj x/\v=vh x t)
 |.inl i,v,h=>by
  obtain⟨t,e⟩:=Value.isInt_shape h;exact .inl ⟨i,t,rfl,e⟩
 |.inr x,v,h=>by
  obtain⟨t,e⟩:=Value.isStrOf_shape h;exact .inr ⟨x,t,rfl,e⟩
theorem afK(a b:Int):decide ((pf a:iY)=pf b)=(a==b):=by
 by_cases e:a=b
 .simp_all
 simp_all
theorem aew(a b:Str):decide ((pj a:iY)=pj b)=decide (a=b):=by
 simp_all
theorem aez(a:Int)(b:Str):decide ((pf a:iY)=pj b)=false:=rfl
theorem aeB(a:Str)(b:Int):decide ((pj a:iY)=pf b)=false:=rfl
def Jg(prog:Program)(w:am):PySem.KeyKind prog w iY where
 is:=A5
 hash:=ahw w
 inj:=λv a b ha hb=>by
  rcases nH ha with⟨i,t,rfl,rfl⟩|⟨x,t,rfl,rfl⟩
  .rcases nH hb with⟨j,u,rfl,e⟩|⟨y,u,rfl,e⟩
   .injection e with e1 _;rw[e1]
   .exact nomatch e
  .rcases nH hb with⟨j,u,rfl,e⟩|⟨y,u,rfl,e⟩
   .exact nomatch e
   .injection e with e1 _;rw[e1]
 byValue:=λk v h=>by
  rcases nH h with⟨i,t,rfl,rfl⟩|⟨x,t,rfl,rfl⟩<;>rfl
 pyHash:=λhv h=>by
  rcases nH hv with⟨i,t,rfl,rfl⟩|⟨x,t,rfl,rfl⟩
  .exact wpAny_pyHash_int h
  .exact wpAny_pyHash_str h
 eqBool:=λhu hv h=>by
  rcases nH hu with⟨i,t,rfl,rfl⟩|⟨x,t,rfl,rfl⟩
  .rcases nH hv with⟨j,u,rfl,rfl⟩|⟨y,u,rfl,rfl⟩
   .rw[afK]at h;exact wpAny_eqBool_int h
   .rw[aez]at h;exact SeqAt.EqAt.int_str i t y u _ _ _ _ h
  .rcases nH hv with⟨j,u,rfl,rfl⟩|⟨y,u,rfl,rfl⟩
   .rw[aeB]at h;exact SeqAt.EqAt.str_int x t j u _ _ _ _ h
   .rw[aew]at h;exact wpAny_eqBool_str h
 «strs»:=λk x t v h=>by
  rcases nH h with⟨i,u,rfl,e⟩|⟨y,u,rfl,e⟩
  .exact nomatch e
  .injection e with e1 _
   subst e1;cases v<;>rfl
inductive V where
 |non |bl (b:Bool) |int (i:Int) |str (x:Str) |byt (b:Array UInt8) |flt (b:UInt64) |ref (a:Addr) |ty (n:String)
 deriving DecidableEq
def bS:V->Value->Prop
 |.non,u=>u=dk
 |.bl b,u=>u=pk b
 |.int i,u=>∃t,u=ph i t
 |.str x,u=>∃t,u=vh x t
 |.byt b,u=>∃t,u=Value.bytes b t
 |.flt b,u=>∃t,u=Value.float b t
 |.ref a,u=>u=cx a
 |.ty n,u=>u=Value.type n
abbrev aV:List V->BF->Prop:=ff bS
theorem aV.length (r:aV xs us):xs.length=us.length:=zo r
theorem aV.get:∀{xs:List V}{us:BF}{i:Nat}{x:V},aV xs us->xs[i]?=some x->∃u,us[i]?=some u/\bS x u
 |_,_,_,_,.nil,e=>by simp at e
 |_,_,0,_,.cons r _,e=>by simp at e;subst e;exact⟨_,rfl,r⟩
 |_,_,i+1,x,.cons _ t,e=>by
  obtain⟨u,h1,h2⟩:=aV.get t (by simpa using e);exact⟨u,by simpa using h1,h2⟩
theorem aV.set (r:bS x u):∀{xs:List V}{us:BF}(i:Nat),aV xs us->aV (xs.set i x) (us.set i u)
 |_,_,_,.nil=>.nil
 |_,_,0,.cons _ t=>.cons r t
 |_,_,i+1,.cons q t=>.cons q (aV.set r i t)
theorem aV.append:∀{xs ys:List V}{us ws:BF},aV xs us->aV ys ws->aV (xs++ys) (us++ws)
 |_,_,_,_,.nil,s=>s
 |_,_,_,_,.cons r t,s=>.cons r (aV.append t s)
theorem aV.take:∀{xs:List V}{us:BF}(n:Nat),aV xs us->aV (xs.take n) (us.take n)
 |_,_,0,_=>.nil
 |_,_,_+1,.nil=>.nil
 |_,_,n+1,.cons r t=>.cons r (aV.take n t)
theorem aV.drop:∀{xs:List V}{us:BF}(n:Nat),aV xs us->aV (xs.drop n) (us.drop n)
 |_,_,0,r=>r
 |_,_,_+1,.nil=>.nil
 |_,_,n+1,.cons _ t=>aV.drop n t
def Ck:Option V->BG->Prop
 |some v,some u=>bS v u
 |none,none=>True
 |_,_=>False
def KV:List (κ×V)->List (κ×Value)->Prop:=ff λ(p:κ×V) (q:κ×Value)=>p.1=q.1/\bS p.2 q.2
def kV:iY->V
 |.inl i=>.int i
 |.inr x=>.str x
inductive HO where
 /--a list -/
 |lst (xs:List V)
 /--a tuple (never changes) -/
 |tup (xs:List V)
 /--a dict whose keys are ints and texts;one whose keys are tuples of ints and texts (the empty one is both) -/
 |dK (kvs:List (iY×V)) |dT (kvs:List (List iY×V))
 /--a set of ints:its members,its size -/
 |set (S:Int->Bool) (n:Nat)
 /--an instance of the class at C,its dict at dx,its attributes -/
 |ins (C dx:Addr) (fs:List (Str×V))
 /--the dict of the instance at x -/
 |own (x:Addr)
 /--the dict of an exception -/
 |xd (fs:List (Str×V))
 /--a bound method,f of x -/
 |met (f x:Addr)
 /--a range object lo,lo+1,.. below hi -/
 |rng (lo hi:Int)
 /--a thing that is known to the object (the script;a dict while a loop walks it):read,never written while it is so -/
 |frz (o:Obj) (u:HO)
 /--a code object's table -/
 |tbl (ps:Array Value)
 /--any other thing,by what is true of its one object (a def of one's own:SetO a S n:=HO.ext λh=>..) -/
 |ext (φ:Heap->Prop)
abbrev Hp:=Addr->Option HO
def aM(H:Hp)(a:Addr)(o:HO):Hp:=λb=>if b=a then some o else H b
theorem eC :aM H a o a=some o:=by unfold aM;simp_all
theorem bK {a b:Addr}{o:HO}(h:b≠a):aM H a o b=H b:=by unfold aM;simp_all
theorem gJ{H:Hp}{a b:Addr}{o:HO}(h:H a=some o)(h':H b=none):a≠b:=by
 intro e;simp_all
section
variable(P:Program)(w:am)
def fU(H:Hp)(h:Heap)(a:Addr):HO->Prop
 |.lst xs=>xs.length<=sizeLine/\∃(its:BF)(n:Nat),aV xs its/\h.get? a=some {cls:=.type "list",data:=.seq its.toArray n}
 |.tup xs=>(xs.length<=sizeLine/\∃o,h.get? a=some o/\o.dict=none)/\∃its:BF,aV xs its/\lh h a its.toArray
 |.dK kvs=>kvs.length<=sizeLine/\(a==sysModules)=false/\∃vs,KV kvs vs/\h.DictOf (Jg P w) a vs
 |.dT kvs=>kvs.length<=sizeLine/\(a==sysModules)=false/\∃xs:List (List iY×Addr×Value),
   ff (λ(p:List iY×V) (q:List iY×Addr×Value)=>p.1=q.1/\H q.2.1=some (.tup (p.1.map kV))/\bS p.2 q.2.2) kvs xs/\
   ∃o es ep,h.get? a=some o/\o.ExactDict/\o.data=.dict es ep/\es.toList=xs.map (entryOfKey (tupleKind (Jg P w)))/\(xs.map (·.1)).Nodup
 |.set S n=>h.SetOf (intKind P w) a S n
 |.ins C dx fs=>H dx=some (.own a)/\fs.length<=1000/\dx≠a/\h.get? a=some (vj C dx)/\
   ∃mA,h.Ns1 dx mA/\(∀f,Ck (fs.lookup f) (mA f))/\zp mA (fs.map (·.1))
 |.own _=>∃o,h.get? a=some o
 |.xd fs=>∃mA,h.Ns1 a mA/\∀f,Ck (fs.lookup f) (mA f)
 |.rng lo hi=>∃t u v,h.get? a=some {cls:=.type "range",data:=.fields #[.int lo t,.int hi u,.int 1 v]}
 |.frz o u=>h.get? a=some o/\fU H h a u
 |.tbl ps=>h.get? a=some {cls:=.none,data:=.fields ps}
 |.met f x=>h.get? a=some (PySem.W.methodObj (.ref f) (.ref x))
 |.ext φ=>φ h/\(∃o,h.get? a=some o)/\∀h1 h2:Heap,φ h1->(∀o,h1.get? a=some o->h2.get? a=some o)->φ h2
def fN(H:Hp)(h:Heap):Prop:=∀a o,H a=some o->fU P w H h a o
end
section
variable{P:Program}{w:am}{H H':Hp}{h h':Heap}{a:Addr}{o:HO}
theorem fU.lt(x:fU P w H h a o):a<h.objs.size:=by
 cases o with
 |lst xs=>obtain⟨_,_,_,_,e⟩:=x;exact bi e
 |tup xs=>obtain⟨_,_,_,p⟩:=x;exact p.lt
 |dK kvs=>obtain⟨_,_,_,_,o,_,_,e,_⟩:=x;exact bi e
 |dT kvs=>obtain⟨_,_,_,_,o,_,_,e,_⟩:=x;exact bi e
 |set S n=>obtain⟨o,_,_,_,e,_⟩:=x;exact bi e
 |ins C dx fs=>obtain⟨_,_,_,e,_⟩:=x;exact bi e
 |own y=>obtain⟨_,e⟩:=x;exact bi e
 |xd fs=>obtain⟨_,⟨_,_,_,e,_⟩,_⟩:=x;exact bi e
 |rng lo hi=>obtain⟨_,_,_,e⟩:=x;exact bi e
 |frz ob u=>obtain⟨e,_⟩:=x;exact bi e
 |tbl ps=>exact bi (show h.get? a=some _ from x)
 |met f y=>exact bi (show h.get? a=some _ from x)
 |ext φ=>obtain⟨_,⟨_,e⟩,_⟩:=x;exact bi e
theorem Paired.mapP :∀{l₁:List α}{l₂:List β},ff F l₁ l₂->(∀a b,F a b->G a b)->ff G l₁ l₂
 |_,_,.nil,_=>.nil
 |_,_,.cons r t,f=>.cons (f _ _ r) (Paired.mapP t f)
theorem fU.stay(x:fU P w H h a o)(k:∀b u,(b=a\/H b=some (.own a))->h.get? b=some u->h'.get? b=some u)
  (ho:∀b,H b=some (.own a)->H' b=some (.own a))(ht:∀b xs,H b=some (.tup xs)->H' b=some (.tup xs)):fU P w H' h' a o:=by
 induction o with
 |lst xs=>obtain⟨z,its,n,r,e⟩:=x;exact⟨z,its,n,r,k _ _ (.inl rfl) e⟩
 |tup xs=>obtain⟨⟨z,o9,e9,d9⟩,its,r,ob,e,c⟩:=x;exact⟨⟨z,o9,k _ _ (.inl rfl) e9,d9⟩,its,r,ob,k _ _ (.inl rfl) e,c⟩
 |dK kvs=>obtain⟨z,y,vs,r,ob,es,ep,e,c⟩:=x;exact⟨z,y,vs,r,ob,es,ep,k _ _ (.inl rfl) e,c⟩
 |dT kvs=>
  obtain⟨z,y,xs,r,ob,es,ep,e,c⟩:=x;exact⟨z,y,xs,Paired.mapP r λp q z=>⟨z.1,ht _ _ z.2.1,z.2.2⟩,ob,es,ep,k _ _ (.inl rfl) e,c⟩
 |set S n=>obtain⟨ob,es,ep,t,e,c⟩:=x;exact⟨ob,es,ep,t,k _ _ (.inl rfl) e,c⟩
 |ins C dx fs=>
  obtain⟨d,z,ne,e,mA,⟨od,es,ep,e2,c⟩,r⟩:=x;exact⟨ho _ d,z,ne,k _ _ (.inl rfl) e,mA,⟨od,es,ep,k _ _ (.inr d) e2,c⟩,r⟩
 |own y=>obtain⟨ob,e⟩:=x;exact⟨ob,k _ _ (.inl rfl) e⟩
 |xd fs=>obtain⟨mA,⟨od,es,ep,e,c⟩,r⟩:=x;exact⟨mA,⟨od,es,ep,k _ _ (.inl rfl) e,c⟩,r⟩
 |rng lo hi=>obtain⟨t,u,v,e⟩:=x;exact⟨t,u,v,k _ _ (.inl rfl) e⟩
 |frz ob u ih=>obtain⟨e,q⟩:=x;exact⟨k _ _ (.inl rfl) e,ih q⟩
 |tbl ps=>
  have e:=x;exact k a _ (.inl rfl) e
 |met f y=>
  have e:=x;exact k a _ (.inl rfl) e
 |ext φ=>obtain⟨p,⟨o,e⟩,st⟩:=x;exact⟨st _ _ p λo q=>k _ _ (.inl rfl) q,⟨o,k _ _ (.inl rfl) e⟩,st⟩
theorem fN.lt(x:fN P w H h)(e:H a=some o):a<h.objs.size:=(x a o e).lt
theorem fN.fresh(x:fN P w H h)(e:h.objs.size<=a):H a=none:=by
 cases q:H a with
 |none=>rfl
 |some u=>exact absurd (du (x.lt q) e) (ji _)
theorem fN.kept(x:fN P w H h)(k:∀b u,h.get? b=some u->h'.get? b=some u):fN P w H h':=λa o e=>
 (x a o e).stay (λb u _ q=>k b u q) (λ_ q=>q) λ_ _ q=>q
theorem fN.laid(x:fN P w H h)(k:∀b u,h.get? b=some u->h'.get? b=some u)(hp:h.objs.size<=a)(new:fU P w (aM H a o) h' a o):fN P w (aM H a o) h':=λb u e=>by
 have hn:=x.fresh hp
 by_cases hb:b=a
 .subst hb;rw[eC]at e;simp_all
 .rw[bK hb]at e
  exact(x b u e).stay (λc v _ q=>k c v q) (λc q=>by rw[bK (gJ q hn)];exact q) λc xs q=>by rw[bK (gJ q hn)];exact q
end
def Rd(H:Hp)(a:Addr)(u:HO):Prop:=H a=some u\/∃o,H a=some (.frz o u)
theorem Rd.ok {H:Hp}{h:Heap}{a:Addr}{u:HO}(r:Rd H a u)(x:fN P w H h):fU P w H h a u:=by
 rcases r with r |⟨o,r⟩
 .exact x a u r
 .obtain⟨_,q⟩:=x a _ r
  exact q
def Yb:Option HO->Prop
 |some (.lst _)=>True
 |some (.dK _)=>True
 |some (.dT _)=>True
 |some (.set _ _)=>True
 |some (.ins _ _ _)=>True
 |some (.ext _)=>True
 |_=>False
section
variable{P:Program}{w:am}{H:Hp}{h h':Heap}{x e:Addr}{o':HO}
theorem fN.write(ok:fN P w H h)(mu:Yb (H x))(he:e=x\/H e=some (.own x))(k:∀b u,b≠e->h.get? b=some u->h'.get? b=some u)(heo:∃u,h'.get? e=some u)
  (new:fU P w (aM H x o') h' x o'):fN P w (aM H x o') h':=λb u q=>by
 have nown:∀c y,H c=some (.own y)->c≠x:=λc y r z=>by subst z;rw[r]at mu;exact mu
 have ntup:∀c xs,H c=some (.tup xs)->c≠x:=λc xs r z=>by subst z;rw[r]at mu;exact mu
 by_cases hb:b=x
 .subst hb;rw[eC]at q;cases q;exact new
 .rw[bK hb]at q
  by_cases hbe:b=e
  .have q':H b=some (.own x):=by
    rcases he with z |z
    .exact absurd (hbe.trans z) hb
    .rw[hbe];exact z
   rw[q]at q';cases q';obtain⟨v,hv⟩:=heo;exact⟨v,by rw[hbe];exact hv⟩
  .refine(ok b u q).stay (λc v hc r=>k c v ?_ r) (λc r=>by rw[bK (nown c b r)];exact r) λc xs r=>by rw[bK (ntup c xs r)];exact r
   grind
end
structure Un(fs ex:List Addr)(H H':Hp)(h h':Heap):Prop where
 keep:∀b o,h.get? b=some o->H b=none->b∉fs->b∉ex->h'.get? b=some o
 slot:∀b o,h.get? b=some o->H b=none->b∈fs->b∉ex->∃sl,h'.get? b=some {o with slots:=sl}
 free:∀b o,h.get? b=some o->H b=none->b∉ex->H' b=none
 there:∀b o,h.get? b=some o->b∉ex->∃o',h'.get? b=some o'
 tups:∀b xs,H b=some (.tup xs)->H' b=some (.tup xs)
 frzs:∀b o u,H b=some (.frz o u)->H' b=some (.frz o u)
 tbls:∀b ps,H b=some (.tbl ps)->∃more,H' b=some (.tbl (ps++more))
section
variable{fs ex:List Addr}{H H1 H2:Hp}{h h1 h2 h':Heap}{a x e:Addr}{o:HO}
theorem Un.any(u:Un fs ex H H1 h h1){b:Addr}{ob:Obj}(q:h.get? b=some ob)(n:H b=none)(hx:b∉ex):∃sl,h1.get? b=some {ob with slots:=sl}:=by
 by_cases hb:b∈fs
 .exact u.slot b _ q n hb hx
 .exact⟨ob.slots,u.keep b _ q n hb hx⟩
theorem Un.trans(a:Un fs ex H H1 h h1)(b:Un fs ex H1 H2 h1 h2):Un fs ex H H2 h h2 where
 keep:=λc ob q n hc hx=>b.keep c _ (a.keep c _ q n hc hx) (a.free c _ q n hx) hc hx
 slot:=λc ob q n hc hx=>by
  obtain⟨sl,e1⟩:=a.slot c _ q n hc hx;obtain⟨sl',e2⟩:=b.slot c _ e1 (a.free c _ q n hx) hc hx;exact⟨sl',e2⟩
 free:=λc ob q n hx=>by
  obtain⟨o',e1⟩:=a.there c _ q hx;exact b.free c _ e1 (a.free c _ q n hx) hx
 there:=λc ob q hx=>by
  obtain⟨o',e1⟩:=a.there c _ q hx;exact b.there c _ e1 hx
 tups:=λc xs q=>b.tups c _ (a.tups c _ q)
 frzs:=λc ob xs q=>b.frzs c _ _ (a.frzs c _ _ q)
 tbls:=λc ps q=>by
  obtain⟨m1,e1⟩:=a.tbls c _ q;obtain⟨m2,e2⟩:=b.tbls c _ e1;exact⟨m1++m2,by simp_all ⟩
theorem Un.kept(k:∀b u,h.get? b=some u->h'.get? b=some u):Un fs ex H H h h':=
 ⟨λb ob q _ _ _=>k b _ q,λb ob q _ _ _=>⟨ob.slots,k b ob q⟩,λ_ _ _ n _=>n,λb ob q _=>⟨ob,k b _ q⟩,λ_ _ q=>q,λ_ _ _ q=>q,λ_ ps q=>⟨#[],by simp_all ⟩⟩
theorem Un.refl:Un fs ex H H h h:=Un.kept λ_ _ q=>q
theorem Un.laid(k:∀b u,h.get? b=some u->h'.get? b=some u)(hp:h.objs.size<=a)(hn:H a=none):Un fs ex H (aM H a o) h h' where
 keep:=λb u q _ _ _=>k b u q
 slot:=λb u q _ _ _=>⟨u.slots,k b u q⟩
 free:=λb u q n _=>by rw[bK (de (du (bi q) hp))];exact n
 there:=λb u q _=>⟨u,k b u q⟩
 tups:=λb xs q=>by rw[bK (gJ q hn)];exact q
 frzs:=λb u xs q=>by rw[bK (gJ q hn)];exact q
 tbls:=λb ps q=>⟨#[],by rw[bK (gJ q hn),q];simp⟩
theorem Un.write(mu:Yb (H x))(he:e=x\/H e=some (.own x))(k:∀b u,b≠e->h.get? b=some u->h'.get? b=some u)(heo:∃u,h'.get? e=some u):Un fs ex H (aM H x o) h h':=by
 have hx:∀b,H b=none->b≠x:=λb n z=>by subst z;rw[n]at mu;exact mu
 have hb:∀b,H b=none->b≠e:=λb n z=>by
  subst z;rcases he with r |r
  .exact hx b n r
  .grind
 have hm:∀b u,H b=some u->¬Yb (some u)->b≠x:=λb u q nm z=>by simp_all
 refine⟨λb u q n _ _=>k b u (hb b n) q,λb u q n _ _=>⟨u.slots,k b u (hb b n) q⟩,λb u q n _=>by rw[bK (hx b n)];exact n,λb u q _=>?_,
  λb xs q=>by rw[bK (hm b _ q λz=>z)];exact q,λb u xs q=>by rw[bK (hm b _ q λz=>z)];exact q,λb ps q=>⟨#[],by rw[bK (hm b _ q λz=>z),q];simp⟩⟩
 by_cases hbe:b=e
 .subst hbe;exact heo
 .exact⟨u,k b u hbe q⟩
end
def J4(h:Heap)(H:Hp):List Addr:=(ck h.objs.size).filter λa=>(H a).isSome
def nY(h:Heap)(H:Hp):Heap:=PySem.W.hideAll h (J4 h H)
theorem aaq(h:Heap)(H:Hp):(nY h H).objs.size=h.objs.size:=PySem.W.hideAll_size _ _
theorem aa6 {H:Hp}{b:Addr}{o:Obj}(e:h.get? b=some o)(n:H b=none):(nY h H).get? b=some o:=
 vk _ e λhm=>by
  have q:=(iy.mp hm).2
  simp_all
theorem adk (e:(nY h H).get? b=some o):h.get? b=some o/\H b=none:=by
 have e':=zq _ e;refine⟨e',?_⟩;cases q:H b with
 |none=>rfl
 |some x=>
  have hm:b∈J4 h H:=iy.mpr ⟨List.mem_range.mpr (bi e'),by simp[q]⟩;have z:(nY h H).get? b=none:=PySem.W.hideAll_none _ hm
  simp_all
def ado(g h:Heap)(L:Addr):List (Addr×Obj):=(ck h.objs.size).filterMap λa=>if a=L\/(g.get? a).isSome=true then none else(h.get? a).map λo=>(a,o)
def fL(g h:Heap)(L d:Addr):List (Addr×Obj):=(ado g h L).filter λp=>decide (p.1≠d)
structure Mod(K:ae)(mg:Str->BG)(base:Heap):Prop where
 kin:K.In base
 glob:base.Ns mainGlobals mg
 blt:∃mb,base.Ns builtinsNs mb/\∀x:Str,x≠"__name__"->mb x=bootBuiltins x
 nolimit:base.NoLimit
structure Cx where
 prog:Program
 w:am
 K:ae
 mg:Str->BG
 base:Heap
 A:aq
 N:List Str
 BQ:aa
 BR:Hp
 env:bn
 outer:List bn
 stack:List bn
 ex:List Addr
 fn:Str->Bool
 calm:Bool
 pn:List (Addr×Obj)
 xe:Value->aa->Prop
def fP(l:List bn):List Addr:=l.filterMap (·.frame)
abbrev Cx.fs(X:Cx):List Addr:=fP X.outer
def lW(sc:Scope)(x:Str):Prop:=sc.names.lookup x=some .local\/sc.names.lookup x=some .cell\/sc.names.lookup x=some .free
def lX(sc:Scope)(x:Str):Prop:=sc.names.lookup x=some .local\/sc.names.lookup x=some .cell
def ag7(env:bn)(h:Heap)(m:Str->BG)(x:Str)(u:Value):Prop:=
 (env.kindOf x=some .local/\m x=some u)\/((env.kindOf x=some .cell\/env.kindOf x=some .free)/\∃c,env.cells.lookup x=some c/\h.IsCell c (some u))
structure Cx.Ok(X:Cx):Prop where
 mod:Mod X.K X.mg X.base
 kind:X.env.scope.kind=.function
 glob:X.env.globals=mainGlobals
 blt:X.env.builtins=builtinsNs
 above:X.BQ.heap.objs.size<=X.env.locals
 inj:∀x y c,X.env.cells.lookup x=some c->X.env.cells.lookup y=some c->x=y
 has:∀x,(X.env.kindOf x=some .cell\/X.env.kindOf x=some .free)->∃c,X.env.cells.lookup x=some c
 cab:∀x c,X.fn x=true->X.env.cells.lookup x=some c->X.BQ.heap.objs.size<=c
 hd:X.calm=true->X.A.handled=none
 frames:X.A.frames=some X.stack
 stk:X.stack=X.outer\/(X.stack=X.env::X.outer/\X.env.frame=some X.env.locals)
 exf:∀b∈X.ex,b≠X.env.locals/\∀x c,X.env.cells.lookup x=some c->c≠b
 bs:∀b o,X.base.get? b=some o->X.BQ.heap.get? b=some o/\X.BR b=none
 bsz:X.base.objs.size<=X.BQ.heap.objs.size
 noex:∀b o,X.base.get? b=some o->b∉X.ex
 exfs:∀b∈X.ex,b∉X.fs
 funs:X.BQ.heap.FunFrames X.base X.outer
 frf:∀b∈X.fs,X.BR b=none
structure aG(X:Cx)(BP:List (Addr×Obj))(σ:List (Option V))(H:Hp)(s:aa):Prop where
 ok:X.Ok
 os:s.os=X.BQ.os
 bare:jt s.gens
 base:Un X.fs X.ex X.BR H X.BQ.heap s.heap
 loc:∃m,s.heap.Ns X.env.locals m/\∀(i:Nat)(x:Str)(v:V),X.N[i]?=some x->σ[i]?=some (some v)->lW X.env.scope x->∃u,bS v u/\ag7 X.env s.heap m x u
 cell:∀x c,X.env.cells.lookup x=some c->∃v,s.heap.IsCell c v
 free:H X.env.locals=none
 freeC:∀x c,X.env.cells.lookup x=some c->H c=none
 pin:∀p∈X.pn++BP,s.heap.get? p.1=some p.2/\H p.1=none/\p.1≠X.env.locals/\p.1∉X.fs/\∀v,p.2.data≠.cell v
 hok:fN X.prog X.w H s.heap
 len:σ.length=X.N.length
section
variable{X:Cx}{BP:List (Addr×Obj)}{σ:List (Option V)}{H H':Hp}{s:aa}{h':Heap}
theorem Cx.Ok.nofr(ok:X.Ok){b:Addr}{o:Obj}(e:X.base.get? b=some o):b∉X.fs:=λhb=>by
 have:=(ok.funs.mem hb).1;grind
theorem aG.bs(I:aG X BP σ H s):∀b o,X.base.get? b=some o->s.heap.get? b=some o/\H b=none:=λb o e=>
 ⟨I.base.keep b o (I.ok.bs b o e).1 (I.ok.bs b o e).2 (I.ok.nofr e) (I.ok.noex b o e),I.base.free b o (I.ok.bs b o e).1 (I.ok.bs b o e).2 (I.ok.noex b o e)⟩
theorem aG.bk(I:aG X BP σ H s):∀b o,X.base.get? b=some o->s.heap.get? b=some o:=λb o e=>(I.bs b o e).1
theorem aG.mod(I:aG X BP σ H s):Mod X.K X.mg X.base:=I.ok.mod
theorem aG.kIn(I:aG X BP σ H s):X.K.In s.heap:=I.ok.mod.kin.keeps I.bk
theorem aG.lt(I:aG X BP σ H s):X.env.locals<s.heap.objs.size:=let⟨_,hn,_⟩:=I.loc;hn.lt
theorem aG.sz(I:aG X BP σ H s):X.BQ.heap.objs.size<=s.heap.objs.size:=fx I.ok.above (pw I.lt)
theorem aG.nofs(I:aG X BP σ H s){a:Addr}(h:s.heap.objs.size<=a):a∉X.fs:=λhb=>by
 obtain⟨_,o,ho,_⟩:=I.ok.funs.mem hb;exact absurd (du (bi ho) (fx I.sz h)) (ji _)
theorem aG.cne(I:aG X BP σ H s):∀x c,X.env.cells.lookup x=some c->c≠X.env.locals:=λx c e z=>by
 obtain⟨v,o,ho,hd⟩:=I.cell x c e;obtain⟨m,⟨o',es,ep,ho',hd',_⟩,_⟩:=I.loc;grind
theorem aG.funs(I:aG X BP σ H s):s.heap.FunFrames X.base X.outer:=by
 have all:∀l,(∀b∈fP l,b∈X.fs)->X.BQ.heap.FunFrames X.base l->s.heap.FunFrames X.base l:=by
  intro l
  induction l with
  |nil=>intro _ _;trivial
  |cons env r ih=>
   intro hs hl;obtain⟨hk,⟨L,o,hf,hn,ho,hd⟩,hr⟩:=hl;have hL:=hs L (by unfold fP;rw[kd,hf];exact av);obtain⟨sl,e⟩:=I.base.slot L o ho (I.ok.frf L hL) hL λz=>I.ok.exfs L z hL;exact⟨hk,⟨L,_,hf,hn,e,hd⟩,ih (λb hb=>hs b (by unfold fP;rw[kd,hf];exact bh _ hb)) hr⟩
 exact all _ (λ_ hb=>hb) I.ok.funs
theorem aG.stack(I:aG X BP σ H s):s.heap.FunFrames X.base X.stack:=by
 rcases I.ok.stk with e |⟨e,hf⟩
 .rw[e];exact I.funs
 .rw[e]
  obtain⟨m,hn,_⟩:=I.loc;refine .cons (by rw[I.ok.kind];decide) hf hn ?_ I.funs;exact Heap.get?_none_of_le (fx I.ok.bsz I.ok.above)
theorem aG.stkSub(I:aG X BP σ H s):∀b∈fP X.stack,b∈X.env.locals::X.fs:=λb hb=>by
 rcases I.ok.stk with e |⟨e,hf⟩
 .simp_all
 .rw[e]at hb
  unfold fP at hb;rw[kd,hf]at hb;exact hb
theorem aG.stkFree(I:aG X BP σ H s):∀b∈fP X.stack,H b=none:=λb hb=>by
 rcases br.mp (I.stkSub b hb)with e |hb
 .rw[e];exact I.free
 .obtain⟨_,o,ho,_⟩:=I.ok.funs.mem hb
  exact I.base.free b o ho (I.ok.frf b hb) λz=>I.ok.exfs b z hb
theorem aG.step {t':Nat}{d':Drawn}{ch:List Addr}(I:aG X BP σ H s)
  (hch:∀b∈ch,(b∈X.ex\/X.BQ.heap.objs.size<=b)/\b≠X.env.locals/\(∀x c,X.env.cells.lookup x=some c->c≠b)/\∀p∈X.pn++BP,p.1≠b)
  (keep:∀b o,b≠X.env.locals->b∉X.fs->b∉ch->s.heap.get? b=some o->H b=none->h'.get? b=some o)
  (slot:∀b o,b≠X.env.locals->b∈X.fs->b∉ch->s.heap.get? b=some o->H b=none->∃sl,h'.get? b=some {o with slots:=sl})(free:∀b o,b∉ch->s.heap.get? b=some o->H b=none->H' b=none)
  (there:∀b o,b∉ch->s.heap.get? b=some o->∃o',h'.get? b=some o')
  (tups:∀b xs,H b=some (.tup xs)->H' b=some (.tup xs))(frzs:∀b o u,H b=some (.frz o u)->H' b=some (.frz o u))(tbls:∀b ps,H b=some (.tbl ps)->∃more,H' b=some (.tbl (ps++more)))
  (ns:∀m,s.heap.Ns X.env.locals m->h'.Ns X.env.locals m)(hok:fN X.prog X.w H' h')(hg:jt g'):
  aG X BP σ H' {s with heap:=h',gens:=g',drawn:=d',toks:=t'}:=by
 have neL:∀b o,X.BQ.heap.get? b=some o->b≠X.env.locals:=λb o e=>de (du (bi e) I.ok.above);have neC:∀b o,X.BQ.heap.get? b=some o->b∉X.ex->b∉ch:=λb o e hx hb=>by
  rcases(hch b hb).1 with z |z
  .exact hx z
  .exact absurd (du (bi e) z) (ji _)
 have cellK:∀x c,X.env.cells.lookup x=some c->∀v,s.heap.IsCell c v->h'.IsCell c v:=λx c e v ⟨o,ho,hd⟩=>by
  have nch:c∉ch:=λz=>(hch c z).2.2.1 x c e rfl
  by_cases hc:c∈X.fs
  .obtain⟨sl,q⟩:=slot c o (I.cne x c e) hc nch ho (I.freeC x c e)
   exact⟨_,q,hd⟩
  .exact⟨o,keep c o (I.cne x c e) hc nch ho (I.freeC x c e),hd⟩
 refine⟨I.ok,I.os,hg,⟨λb o e n hb hx=>?_,λb o e n hb hx=>?_,λb o e n hx=>?_,λb o e hx=>?_,λb xs e=>tups b xs (I.base.tups b xs e),λb o xs e=>frzs b o xs (I.base.frzs b o xs e),λb ps e=>?_⟩,?_,λx c e=>?_,?_,λx c e=>?_,λp hp=>?_,hok,I.len⟩
 .exact keep b o (neL b o e) hb (neC b o e hx) (I.base.keep b o e n hb hx) (I.base.free b o e n hx)
 .obtain⟨sl,e1⟩:=I.base.slot b o e n hb hx
  obtain⟨sl',e2⟩:=slot b _ (neL b o e) hb (neC b o e hx) e1 (I.base.free b o e n hx);exact⟨sl',e2⟩
 .obtain⟨o',e1⟩:=I.base.there b o e hx
  exact free b o' (neC b o e hx) e1 (I.base.free b o e n hx)
 .obtain⟨o',e1⟩:=I.base.there b o e hx
  exact there b o' (neC b o e hx) e1
 .obtain⟨m1,e1⟩:=I.base.tbls b ps e
  obtain⟨m2,e2⟩:=tbls b _ e1;exact⟨m1++m2,by rw[e2,Array.append_assoc]⟩
 .obtain⟨m,hn,hl⟩:=I.loc
  refine⟨m,ns m hn,λi x v e1 e2 e3=>?_⟩;obtain⟨u,r,l⟩:=hl i x v e1 e2 e3;refine⟨u,r,?_⟩;rcases l with l |⟨k,c,e,z⟩
  .exact .inl l
  .exact .inr ⟨k,c,e,cellK x c e _ z⟩
 .obtain⟨v,z⟩:=I.cell x c e
  exact⟨v,cellK x c e v z⟩
 .obtain⟨m,⟨o,_,_,ho,_⟩,_⟩:=I.loc
  exact free _ o (λz=>(hch _ z).2.1 rfl) ho I.free
 .obtain⟨v,o,ho,hd⟩:=I.cell x c e
  exact free c o (λz=>(hch c z).2.2.1 x c e rfl) ho (I.freeC x c e)
 .obtain⟨e,n,ne,nf,d⟩:=I.pin p hp
  have nch:p.1∉ch:=λz=>(hch p.1 z).2.2.2 p hp rfl;exact⟨keep p.1 p.2 ne nf nch e n,free p.1 p.2 nch e n,ne,nf,d⟩
theorem aG.un (I:aG X BP σ H s)(u:Un X.fs [] H H' s.heap h')(hok:fN X.prog X.w H' h'):aG X BP σ H' {s with heap:=h',toks:=t'}:=by
 obtain⟨m,⟨o,es,ep,ho,r⟩,_⟩:=id I.loc;obtain⟨sl,hL⟩:=u.any ho I.free 1#d;exact I.step (ch:=[]) (λ_ z=>nomatch z) (λb o _ hb _ e n=>u.keep b o e n hb 1#d) (λb o _ hb _ e n=>u.slot b o e n hb 1#d) (λb o _ e n=>u.free b o e n 1#d) (λb o _ e=>u.there b o e 1#d) u.tups u.frzs u.tbls (λm' hm=>by
  obtain⟨o',es',ep',ho',r'⟩:=hm;rw[ho]at ho';cases ho';exact⟨_,es',ep',hL,r'⟩) hok I.bare
theorem aG.call {d':Drawn}{ch:List Addr}(I:aG X BP σ H s)(u:Un (fP X.stack) ch H H' s.heap h')(hok:fN X.prog X.w H' h')(hg:jt g')
  (hch:∀b∈ch,(b∈X.ex\/X.BQ.heap.objs.size<=b)/\b≠X.env.locals/\(∀x c,X.env.cells.lookup x=some c->c≠b)/\∀p∈X.pn++BP,p.1≠b):
  aG X BP σ H' {s with heap:=h',gens:=g',drawn:=d',toks:=t'}:=by
 obtain⟨m,⟨o,es,ep,ho,r⟩,_⟩:=id I.loc;obtain⟨sl,hL⟩:=u.any ho I.free λz=>(hch _ z).2.1 rfl;exact I.step hch (λb o hL hb hc e n=>u.keep b o e n (λz=>(br.mp (I.stkSub b z)).elim hL hb) hc) (λb o _ _ hc e n=>u.any e n hc) (λb o hc e n=>u.free b o e n hc) (λb o hc e=>u.there b o e hc) u.tups u.frzs u.tbls (λm' hm=>by
  obtain⟨o',es',ep',ho',r'⟩:=hm;rw[ho]at ho';cases ho';exact⟨_,es',ep',hL,r'⟩) hok hg
theorem aG.turned {it:Addr}(I:aG X BP σ H s)(k:∀b o,b≠it->s.heap.get? b=some o->h'.get? b=some o)(hn:H it=none)(hL:it≠X.env.locals)
  (h1:it∈X.ex\/X.BQ.heap.objs.size<=it)(h2:∀x c,X.env.cells.lookup x=some c->c≠it)(h3:∀p∈X.pn++BP,p.1≠it):aG X BP σ H {s with heap:=h',toks:=t'}:=by
 have nit:∀b u,H b=some u->b≠it:=λb u e z=>by rw[z,hn]at e;cases e
 refine I.step (ch:=[it]) (λb hb=>?_) (λb o _ _ hc e _=>k b o (λz=>hc (by simp[z])) e) (λb o _ _ hc e _=>⟨o.slots,k b o (λz=>hc (by simp[z])) e⟩) (λ_ _ _ _ n=>n)
  (λb o hc e=>⟨o,k b o (λz=>hc (by simp[z])) e⟩) (λ_ _ e=>e) (λ_ _ _ e=>e) (λb ps e=>⟨#[],by rw[e];simp⟩) (λm hm=>?_) (λb u e=>?_) I.bare
 .have e:=by simpa using hb
  subst e;exact⟨h1,hL,h2,h3⟩
 .obtain⟨o,es,ep,ho,r⟩:=hm
  exact⟨o,es,ep,k _ o (iz hL) ho,r⟩
 .refine(I.hok b u e).stay (λc v hc q=>k c v ?_ q) (λ_ q=>q) λ_ _ q=>q
  rcases hc with z |z
  .rw[z];exact nit b u e
  .exact nit c _ z
theorem aG.tok(I:aG X BP σ H s)(t:Nat):aG X BP σ H {s with toks:=t}:=I.un Un.refl I.hok
theorem aG.kept (I:aG X BP σ H s)(k:∀b u,s.heap.get? b=some u->h'.get? b=some u):aG X BP σ H {s with heap:=h',toks:=t'}:=I.un (Un.kept k) (I.hok.kept k)
theorem aG.laid{a:Addr}{o:HO}{t':Nat}(I:aG X BP σ H s)(k:∀b u,s.heap.get? b=some u->h'.get? b=some u)(hp:s.heap.objs.size<=a)(new:fU X.prog X.w (aM H a o) h' a o):
  aG X BP σ (aM H a o) {s with heap:=h',toks:=t'}:=I.un (Un.laid k hp (I.hok.fresh hp)) (I.hok.laid k hp new)
theorem aG.write (I:aG X BP σ H s)(mu:Yb (H x))(he:e=x\/H e=some (.own x))(k:∀b u,b≠e->s.heap.get? b=some u->h'.get? b=some u)(heo:∃u,h'.get? e=some u)
  (new:fU X.prog X.w (aM H x o) h' x o):aG X BP σ (aM H x o) {s with heap:=h',toks:=t'}:=I.un (Un.write mu he k heo) (I.hok.write mu he k heo new)
theorem aG.pins_of (I:aG X BP σ H s)(h:∀p∈pins',s.heap.get? p.1=some p.2/\H p.1=none/\p.1≠X.env.locals/\p.1∉X.fs/\∀v,p.2.data≠.cell v):aG X pins' σ H s:=
 ⟨I.ok,I.os,I.bare,I.base,I.loc,I.cell,I.free,I.freeC,λp hp=>(ce.mp hp).elim (λz=>I.pin p (lj _ z)) (h p),I.hok,I.len⟩
theorem Cr{N:List Str}(hN:N.Nodup){i j:Nat}{x:Str}(a:N[i]?=some x)(b:N[j]?=some x):i=j:=by
 obtain⟨h1,e1⟩:=cf.mp a;obtain⟨h2,e2⟩:=cf.mp b;exact(List.getElem_inj hN).mp (e1.trans e2.symm)
theorem aac {A:aq}{E:Value->aa->Prop}{i:Nat}{x:Str}{v:V}{u:Value}{Q:Unit->aa->Prop}(I:aG X BP σ H s)(hN:X.N.Nodup)(hi:X.N[i]?=some x)(hx:lX X.env.scope x)(r:bS v u)
  (h:∀s',aG X BP (σ.set i (some v)) H s'->(∃a,ja a s.heap s'.heap/\(a=X.env.locals\/X.env.cells.lookup x=some a))->Q () s')(hf:autoParam (X.fn x=true\/X.env.scope.names.lookup x=some .local) Zwq):wpAny M A (storeName X.env x u) Q E s:=by
 obtain⟨m,hn,hl⟩:=id I.loc;have hcls:(X.env.scope.kind== .class||(X.env.scope.kind== .module&&X.env.locals !=X.env.globals))=false:=by rw[I.ok.kind];rfl
 have hiσ:i<σ.length:=by rw[I.len];exact(cf.mp hi).1
 have cne:=I.cne;have tracked:∀{a:Addr}{h':Heap},(∃o,s.heap.get? a=some o/\H a=none)->ja a s.heap h'->fN X.prog X.w H h':=λ{a h'} ha hs b ob e=>by
  refine(I.hok b ob e).stay (λc w' hc q=>(hs.2 c ?_).trans q) (λ_ q=>q) λ_ _ q=>q;grind
 rcases hx with hk |hk
 .refine wpAny_storeName_local hk hn (λh' hn' hs=>?_) hcls
  obtain⟨oL,_,_,hoL,_⟩:=id hn;refine h _ ⟨I.ok,I.os,I.bare,⟨λb o e n hb hx=>?_,λb o e n hb hx=>?_,I.base.free,λb o e hx=>?_,I.base.tups,I.base.frzs,I.base.tbls⟩,⟨_,hn',λj y v' e1 e2 e3=>?_⟩,λy c e=>?_,I.free,I.freeC,λp hp=>?_,tracked ⟨oL,hoL,I.free⟩ hs,by simpa using I.len⟩ ⟨_,hs,.inl rfl⟩
  .exact(hs.2 b (de (du (bi e) I.ok.above))).trans (I.base.keep b o e n hb hx)
  .obtain⟨sl,e1⟩:=I.base.slot b o e n hb hx
   exact⟨sl,(hs.2 b (de (du (bi e) I.ok.above))).trans e1⟩
  .obtain⟨o',e1⟩:=I.base.there b o e hx
   exact⟨o',(hs.2 b (de (du (bi e) I.ok.above))).trans e1⟩
  .by_cases hj:j=i
   .subst hj
    rw[hi]at e1;cases e1;rw[fz hiσ]at e2;cases e2;exact⟨u,r,.inl ⟨hk,by simp⟩⟩
   .rw[fu (iz hj)]at e2
    obtain⟨u',r',q⟩:=hl j y v' e1 e2 e3;refine⟨u',r',?_⟩;rcases q with⟨k,e⟩|⟨k,c,e,z⟩
    .refine .inl ⟨k,?_⟩
     have:y≠x:=λe=>hj (Cr hN e1 (e▸hi));simp[this,e]
    .exact .inr ⟨k,c,e,z.sameBut hs (cne y c e)⟩
  .obtain⟨w',z⟩:=I.cell y c e
   exact⟨w',z.sameBut hs (cne y c e)⟩
  .obtain⟨e,n,ne,nf,d⟩:=I.pin p hp
   exact⟨(hs.2 p.1 ne).trans e,n,ne,nf,d⟩
 .have hfn:X.fn x=true:=by
   grind
  obtain⟨c,hc⟩:=I.ok.has x (.inl hk);obtain⟨w',z⟩:=I.cell x c hc;refine wpAny_storeName_cell I.ok.kind hk hc z (λh' hc' hs=>?_);obtain⟨oc,hoc,hocd⟩:=id z;refine h {s with heap:=h'} ⟨I.ok,I.os,I.bare,⟨λb o e n hb hx=>?_,λb o e n hb hx=>?_,I.base.free,λb o e hx=>?_,I.base.tups,I.base.frzs,I.base.tbls⟩,⟨m,hn.sameBut hs (iz (cne x c hc)),λj y v' e1 e2 e3=>?_⟩,λy c' e=>?_,I.free,I.freeC,λp hp=>?_,tracked ⟨oc,hoc,I.freeC x c hc⟩ hs,by simpa using I.len⟩ ⟨c,hs,.inr hc⟩
  .exact(hs.2 b (de (du (bi e) (I.ok.cab x c hfn hc)))).trans (I.base.keep b o e n hb hx)
  .obtain⟨sl,e1⟩:=I.base.slot b o e n hb hx
   exact⟨sl,(hs.2 b (de (du (bi e) (I.ok.cab x c hfn hc)))).trans e1⟩
  .obtain⟨o',e1⟩:=I.base.there b o e hx
   exact⟨o',(hs.2 b (de (du (bi e) (I.ok.cab x c hfn hc)))).trans e1⟩
  .by_cases hj:j=i
   .subst hj
    rw[hi]at e1;cases e1;rw[fz hiσ]at e2;cases e2;exact⟨u,r,.inr ⟨.inl hk,c,hc,hc'⟩⟩
   .rw[fu (iz hj)]at e2
    obtain⟨u',r',q⟩:=hl j y v' e1 e2 e3;refine⟨u',r',?_⟩;rcases q with q |⟨k,c',e,z'⟩
    .exact .inl q
    .refine .inr ⟨k,c',e,z'.sameBut hs ?_⟩
     rintro rfl
     exact hj (Cr hN e1 (I.ok.inj _ _ _ e hc▸hi))
  .by_cases hcc:c'=c
   .subst hcc;exact⟨_,hc'⟩
   .obtain⟨w2,z2⟩:=I.cell y c' e
    exact⟨w2,z2.sameBut hs hcc⟩
  .obtain⟨e,n,ne,nf,d⟩:=I.pin p hp
   refine⟨(hs.2 p.1 ?_).trans e,n,ne,nf,d⟩;intro q;rw[q,hoc]at e;have q':=cq e;exact d w' (by rw[<-q'];exact hocd)
theorem sE {i:Nat}{x:Str}{v:V}{u:Value}{Q:Unit->aa->Prop}(I:aG X BP σ H s)(hN:X.N.Nodup)(hi:X.N[i]?=some x)(hx:lX X.env.scope x)(r:bS v u)
  (h:∀s',aG X BP (σ.set i (some v)) H s'->Q () s')(hf:autoParam (X.fn x=true\/X.env.scope.names.lookup x=some .local) Zwq):wpAny M A (storeName X.env x u) Q E s:=
 aac I hN hi hx r (λs' I' _=>h _ I') hf
theorem aG.call' {ch:List Addr}(I:aG X BP σ H s)(ho:s'.os=s.os)(u:Un (fP X.stack) ch H H' s.heap s'.heap)(hok:fN X.prog X.w H' s'.heap)(hg:jt s'.gens)
  (hch:∀b∈ch,(b∈X.ex\/X.BQ.heap.objs.size<=b)/\b≠X.env.locals/\(∀x c,X.env.cells.lookup x=some c->c≠b)/\∀p∈X.pn++BP,p.1≠b):aG X BP σ H' s':=by
 obtain⟨h',g',d',t',o'⟩:=s';have e:=ho;subst e;exact I.call u hok hg hch
end
abbrev XK:=Value->BI->Hp->Prop
abbrev St:=List (Option V)
abbrev VK:=V->Hp->Prop
abbrev TE:=St->Hp->VK->Prop
abbrev TT:=St->Hp->(Bool->Hp->Prop)->Prop
abbrev TA:=St->Hp->(List V->Hp->Prop)->Prop
structure tR where
 nx:St->Hp->Prop
 rt:VK
 bk:St->Hp->Prop:=λ_ _=>False
 ct:St->Hp->Prop:=λ_ _=>False
abbrev TS:=tR->St->Hp->Prop
def EP(X:Cx)(BP:List (Addr×Obj))(σ:St)(Q:VK)(u:Value)(s':aa):Prop:=∃v H',aG X BP σ H' s'/\bS v u/\Q v H'
def TP(X:Cx)(BP:List (Addr×Obj))(σ:St)(Q:Bool->Hp->Prop)(b:Bool)(s':aa):Prop:=∃H',aG X BP σ H' s'/\Q b H'
def AP(X:Cx)(BP:List (Addr×Obj))(σ:St)(Q:List V->Hp->Prop)(us:BF)(s':aa):Prop:=∃vs H',aG X BP σ H' s'/\aV vs us/\Q vs H'
def SP(X:Cx)(BP:List (Addr×Obj))(D:tR)(f:Flow)(s':aa):Prop:=
 match f with
 |.next=>∃σ' H',aG X BP σ' H' s'/\D.nx σ' H'
 |.brk=>∃σ' H',aG X BP σ' H' s'/\D.bk σ' H'
 |.cont=>∃σ' H',aG X BP σ' H' s'/\D.ct σ' H'
 |.ret u=>∃v σ' H',aG X BP σ' H' s'/\bS v u/\D.rt v H'
def PE(X:Cx)(e:ah)(t:TE):Prop:=
 ∀(BP:List (Addr×Obj))(s:aa)(σ:St)(H:Hp)(Q:VK),aG X BP σ H s->t σ H Q->wpAny 1#g X.A (eval e X.env) (EP X BP σ Q) X.xe s
def PT(X:Cx)(e:ah)(t:TT):Prop:=
 ∀(BP:List (Addr×Obj))(s:aa)(σ:St)(H:Hp)(Q:Bool->Hp->Prop),aG X BP σ H s->t σ H Q->wpAny 1#g X.A (isTrue e X.env (eval e X.env)) (TP X BP σ Q) X.xe s
def PW(X:Cx)(e:ah)(t:TT):Prop:=
 ∀(whole:Sem Value)(BP:List (Addr×Obj))(s:aa)(σ:St)(H:Hp)(Q:Bool->Hp->Prop),aG X BP σ H s->t σ H Q->wpAny 1#g X.A (isTrue e X.env whole) (TP X BP σ Q) X.xe s
theorem PW.pt (h:PW X e t):PT X e t:=h _
def PA(X:Cx)(es:List ah)(t:TA):Prop:=
 ∀(pos:ai)(BP:List (Addr×Obj))(s:aa)(σ:St)(H:Hp)(Q:List V->Hp->Prop),aG X BP σ H s->t σ H Q->wpAny 1#g X.A (spliced (backTo pos (starEach es X.env))) (AP X BP σ Q) X.xe s
def PS(X:Cx)(st:Stmt)(t:TS):Prop:=
 ∀(BP:List (Addr×Obj))(s:aa)(σ:St)(H:Hp)(D:tR),aG X BP σ H s->t D σ H->wpAny 1#g X.A (exec st X.env) (SP X BP D) X.xe s
def gS(X:Cx)(st:List Stmt)(t:TS):Prop:=
 ∀(BP:List (Addr×Obj))(s:aa)(σ:St)(H:Hp)(D:tR),aG X BP σ H s->t D σ H->wpAny 1#g X.A (execs st X.env) (SP X BP D) X.xe s
theorem aY {M:Model}{A:aq}{E:Value->aa->Prop}{s:aa}(h:wpAny M A t Q E s)(hQ:∀a s,Q a s->Q' a s):wpAny M A t Q' E s:=gv h hQ λ_ _ x=>x
section
variable{X:Cx}
theorem bin {ta tb:TE}(ha:PE X a ta)(hb:PE X b tb){BP:List (Addr×Obj)}{s:aa}{σ:St}{H:Hp}{R:V->V->Hp->Prop}(I:aG X BP σ H s)(h:ta σ H λx H1=>tb σ H1 λy H2=>R x y H2)
  {α:Type}{Q:α->aa->Prop}{f:Value->Value->Sem α}
  (hf:∀v u s2 x y H2,aG X BP σ H2 s2->bS x v->bS y u->R x y H2->wpAny 1#g X.A (f v u) Q X.xe s2):
  wpAny 1#g X.A (eval a X.env) (λv BS=>wpAny 1#g X.A (eval b X.env) (λu BV=>wpAny 1#g X.A (f v u) Q X.xe BV) X.xe BS) X.xe s:=by
 refine aY (ha _ s _ H _ I h) ?_
 rintro v s1 ⟨x,H1,I1,r1,q1⟩
 refine aY (hb _ _ _ _ _ I1 q1) ?_
 rintro u s2 ⟨y,H2,I2,r2,q2⟩
 exact hf v u _ x y _ I2 r1 r2 q2
def E8(i:Nat):TE:=λσ H Q=>∃v,σ[i]?=some (some v)/\Q v H
def tC(v:V):TE:=λ_ H Q=>Q v H
theorem mP {pos:ai}(hN:X.N[i]?=some x)(hv:lW X.env.scope x)(hd:autoParam ((x==("__debug__":Str))=false) Zqw)(hcd:autoParam ((x==("__classdict__":Str))=false) Zqw):PE X (.Name x pos) (E8 i):=by
 intro BP s σ H Q I h;obtain⟨v,e,h⟩:=h;obtain⟨m,hn,hl⟩:=I.loc;obtain⟨u,r,l⟩:=hl i x v hN e hv;have fin:EP X BP σ Q u s:=⟨v,H,I,r,h⟩;rcases l with⟨hk,hm⟩|⟨hk,c,hc,hcell⟩
 .exact vm (zt I.ok.kind hk hn hm fin) hd
 .rcases hk with hk |hk
  .exact vm (zu I.ok.kind hk hc hcell fin) hd
  .exact vm (wpAny_loadName_free I.ok.kind hk hc hcell fin hcd) hd
theorem Aa:PE X (.Constant (.int i) j pos) (tC (.int i)):=λ_ _ _ H _ I h=>wpAny_Constant_int ⟨.int i,H,I.tok _,⟨_,rfl⟩,h⟩
theorem agm:PE X (.Constant (.bool b) j pos) (tC (.bl b)):=λ_ _ _ H _ I h=>Constant_bool ⟨.bl b,H,I,rfl,h⟩
theorem afx:PE X (.Constant .none j pos) (tC .non):=λ_ _ _ H _ I h=>Constant_none ⟨.non,H,I,rfl,h⟩
theorem aeA:PE X (.Constant (.str x) j pos) (tC (.str x)):=λ_ _ _ H _ I h=>Calls.Constant_str ⟨.str x,H,I.tok _,⟨_,rfl⟩,h⟩
def Gl(X:Cx)(x:Str):Prop:=X.env.kindOf x=some .globalImplicit
theorem Zf {BP:List (Addr×Obj)}{s:aa}{σ:St}{H:Hp}{x:Str}{u:Value}{pos:ai}{Q:Value->aa->Prop}(I:aG X BP σ H s)(hg:Gl X x)(hm:X.mg x=some u)(h:Q u s)
  (hd:autoParam ((x==("__debug__":Str))=false) Zqw):wpAny 1#g X.A (eval (.Name x pos) X.env) Q E s:=
 zw I.ok.kind hg (Calls.loadGlobal_global (by rw[I.ok.glob];exact I.mod.glob.keeps I.bk) hm h) hd
theorem qH{E:Value->aa->Prop}{BP:List (Addr×Obj)}{s:aa}{σ:St}{H:Hp}{x:Str}{u:Value}{pos:ai}{Q:Value->aa->Prop}(I:aG X BP σ H s)(hg:Gl X x)(hm:X.mg x=none)(hv:bootBuiltins x=some u)(h:Q u s)
  (hn:autoParam (x≠"__name__") Zqw)(hd:autoParam ((x==("__debug__":Str))=false) Zqw):wpAny 1#g X.A (eval (.Name x pos) X.env) Q E s:=by
 obtain⟨mb,h1,h2⟩:=I.mod.blt;exact zw I.ok.kind hg (Calls.loadGlobal_builtin (by rw[I.ok.glob];exact I.mod.glob.keeps I.bk) hm (by rw[I.ok.blt];exact h1.keeps I.bk) ((h2 x hn).trans hv) h) hd
theorem adx {u:Value}{pos:ai}(hg:Gl X x)(hm:X.mg x=some u)(r:bS v u)(hd:autoParam ((x==("__debug__":Str))=false) Zqw):PE X (.Name x pos) (tC v):=
 λ_ _ _ H _ I h=>Zf I hg hm ⟨v,H,I,r,h⟩ hd
theorem adA {u:Value}{pos:ai}(hg:Gl X x)(hm:X.mg x=none)(hv:bootBuiltins x=some u)(r:bS v u)(hn:autoParam (x≠"__name__") Zqw)(hd:autoParam ((x==("__debug__":Str))=false) Zqw):PE X (.Name x pos) (tC v):=
 λ_ _ _ H _ I h=>qH I hg hm hv ⟨v,H,I,r,h⟩ hn hd
variable{a b:ah}{ta tb:TE}{pos:ai}
def PC(X:Cx)(op:CmpOp)(a b:ah)(t:TE):Prop:=
 ∀(BP:List (Addr×Obj))(s:aa)(σ:St)(H:Hp)(Q:VK),aG X BP σ H s->t σ H Q->
  wpAny 1#g X.A (eval a X.env) (λv BS=>wpAny 1#g X.A (eval b X.env) (λu BV=>wpAny 1#g X.A (compareOp op v u) (EP X BP σ Q) X.xe BV) X.xe BS) X.xe s
theorem abQ(b:ah){op:CmpOp}(h:op≠.In)(h2:op≠.NotIn):behindInMarks op b=false:=by
 have e1:(op==CmpOp.In)=false:=by grind
 have e2:(op==CmpOp.NotIn)=false:=by grind
 cases b<;>simp[behindInMarks,e1,e2]
def F2(ta:TE):TE:=λσ H Q=>ta σ H λx H1=>Q (.bl (decide (x=.non))) H1
theorem bS.none_iff (r:bS x v):(v==dk)=decide (x=.non):=by
 cases x with
 |non=>cases r;rfl
 |bl _=>cases r;rfl
 |int _=>obtain⟨t,rfl⟩:=r;rfl
 |str _=>obtain⟨t,rfl⟩:=r;rfl
 |byt _=>obtain⟨t,rfl⟩:=r;rfl
 |flt _=>obtain⟨t,rfl⟩:=r;rfl
 |ref _=>cases r;rfl
 |ty _=>cases r;rfl
theorem aet (ha:PE X a ta):PC X .Is a (.Constant .none j pos') (F2 ta):=by
 intro BP s σ H Q I h;refine aY (ha _ s _ H _ I h) ?_
 rintro v s1 ⟨x,H1,I1,r1,q1⟩
 exact Constant_none (is_none_gen ⟨.bl _,H1,I1,by rw[r1.none_iff];rfl,q1⟩)
def tB(t:TE):TT:=λσ H Q=>t σ H λx H1=>∃c,x=.bl c/\Q c H1
theorem aeQ (h:PC X op a b t)(h1:behindInMarks op b=false:=by first |exact abQ _ 1#b 1#b |rfl):PT X (.Compare a [op] [b] pos) (tB t):=by
 intro BP s σ H Q I hw;refine zx (aY (h _ s _ H _ I hw) λv s1 h1=>aY h1 λu s2 h2=>aY h2 λc s3 hq=>?_) h1;rcases hq with⟨x,H1,I1,r1,q1⟩;obtain⟨d,rfl,q⟩:=q1;cases r1;exact lq ⟨H1,I1,q⟩
theorem afh (h:PE X e t)(he:autoParam (∀whole,isTrue e X.env whole=(do let v <-whole;standAt e.pos;holding [v] (truthy v))) Zqz):PT X e (tB t):=by
 intro BP s σ H Q I hw;refine isTrue_plain (aY (h _ s _ H _ I hw) λv s1 hq=>?_) (he _);rcases hq with⟨x,H1,I1,r1,q1⟩;obtain⟨d,rfl,q⟩:=q1;cases r1;exact lq ⟨H1,I1,q⟩
variable{tA tB':TT}{fL:List ah}
def ahC(t u:TT):TT:=λσ H Q=>t σ H λc H1=>if c=true then u σ H1 Q else Q false H1
def tOr(t u:TT):TT:=λσ H Q=>t σ H λc H1=>if c=true then Q true H1 else u σ H1 Q
def ahr(t:TT):TT:=λσ H Q=>t σ H λc H1=>Q (!c) H1
theorem act(ha:PT X a tA):PW X (.BoolOp .And [a] pos) tA:=by
 intro wh BP s σ H Q I h;refine isTrue_and (aY (ha _ s _ H Q I h) λc s1 e=>?_);cases c with
 |true=>exact isTrue_and_nil e
 |false=>exact e
theorem aeU(ha:PT X a tA):PW X (.BoolOp .Or [a] pos) tA:=by
 intro wh BP s σ H Q I h;refine isTrue_or (aY (ha _ s _ H Q I h) λc s1 e=>?_);cases c with
 |false=>exact isTrue_or_nil e
 |true=>exact e
theorem afR(ha:PT X a tA)(hb:PW X (.BoolOp .And (b::fL) pos) tB'):PW X (.BoolOp .And (a::b::fL) pos) (ahC tA tB'):=by
 intro wh BP s σ H Q I h;refine isTrue_and (aY (ha _ s _ H _ I h) λc s1 hq=>?_);rcases hq with⟨H1,I1,q1⟩;cases c with
 |true=>exact hb _ _ _ _ _ Q I1 q1
 |false=>exact⟨H1,I1,q1⟩
theorem agr(ha:PT X a tA)(hb:PW X (.BoolOp .Or (b::fL) pos) tB'):PW X (.BoolOp .Or (a::b::fL) pos) (tOr tA tB'):=by
 intro wh BP s σ H Q I h;refine isTrue_or (aY (ha _ s _ H _ I h) λc s1 hq=>?_);rcases hq with⟨H1,I1,q1⟩;cases c with
 |true=>exact⟨H1,I1,q1⟩
 |false=>exact hb _ _ _ _ _ Q I1 q1
theorem afv(ha:PT X a tA):PT X (.UnaryOp .Not a pos) (ahr tA):=by
 intro BP s σ H Q I h;exact isTrue_not (ha _ s _ H _ I h)
def agg(ta tb:TE):TE:=λσ H Q=>ta σ H λx H1=>∃c,x=.bl c/\if c=true then tb σ H1 Q else Q (.bl false) H1
def agI(ta:TE):TE:=λσ H Q=>ta σ H λx H1=>∃c,x=.bl c/\Q (.bl (!c)) H1
theorem aeO(ha:PE X a ta)(hb:PE X (.BoolOp .And (b::fL) pos) tb):PE X (.BoolOp .And (a::b::fL) pos) (agg ta tb):=by
 intro BP s σ H Q I h;refine BoolOp_and (aY (ha _ s _ H _ I h) λv s1 hq=>?_);rcases hq with⟨x,H1,I1,r1,q1⟩;obtain⟨c,rfl,q1⟩:=q1;cases r1;refine lq ?_;cases c with
 |true=>exact hb _ _ _ _ Q I1 q1
 |false=>exact⟨.bl _,H1,I1,rfl,q1⟩
theorem aeG(ha:PE X a ta):PE X (.UnaryOp .Not a pos) (agI ta):=by
 intro BP s σ H Q I h;refine UnaryOp_ (aY (ha _ s _ H _ I h) λv s1 hq=>?_);rcases hq with⟨x,H1,I1,r1,q1⟩;obtain⟨c,rfl,q1⟩:=q1;cases r1;exact not_of (lq ⟨.bl _,H1,I1,rfl,q1⟩)
def tIf(t:TT)(ta tb:TE):TE:=λσ H Q=>t σ H λc H1=>if c=true then ta σ H1 Q else tb σ H1 Q
theorem aaV (hc:PT X c tA)(ha:PE X a ta)(hb:PE X b tb):PE X (.IfExp c a b pos) (tIf tA ta tb):=by
 intro BP s σ H Q I h;refine wpAny_IfExp (aY (hc _ s _ H _ I h) λd s1 hq=>?_);rcases hq with⟨H1,I1,q1⟩;cases d with
 |true=>exact ha _ _ _ _ Q I1 q1
 |false=>exact hb _ _ _ _ Q I1 q1
end
def bV(K:ae)(H:Hp)(a:Addr)(xs:List V):Prop:=
 Rd H a (.lst xs)\/
  ∃(o:Obj)(its:Array Value)(n:Nat),K.lookup a=some o/\o.cls=.type "list"/\o.dict=none/\o.data=.seq its n/\its.size<=sizeLine/\aV xs its.toList
def dB(K:ae)(H:Hp)(a:Addr)(xs:List V):Prop:=
 Rd H a (.tup xs)\/
  ∃(o:Obj)(its:Array Value)(n:Nat),K.lookup a=some o/\(o.cls=.type "tuple"/\o.dict=none)/\o.data=.seq its n/\its.size<=sizeLine/\aV xs its.toList
def ahj:Value->Option V
 |.none=>some .non
 |.bool b=>some (.bl b)
 |.int i _=>some (.int i)
 |.str x _=>some (.str x)
 |.bytes b _=>some (.byt b)
 |.float b _=>some (.flt b)
 |.ref a=>some (.ref a)
 |.type n=>some (.ty n)
 |_=>none
theorem bS.abs (r:bS x u):ahj u=some x:=by
 cases x with
 |non=>cases r;rfl
 |bl _=>cases r;rfl
 |int _=>obtain⟨t,rfl⟩:=r;rfl
 |str _=>obtain⟨t,rfl⟩:=r;rfl
 |byt _=>obtain⟨t,rfl⟩:=r;rfl
 |flt _=>obtain⟨t,rfl⟩:=r;rfl
 |ref _=>cases r;rfl
 |ty _=>cases r;rfl
theorem bS.inj {u:Value}(r:bS x u)(q:bS y u):x=y:=cq (r.abs.symm.trans q.abs)
theorem aV.inj:∀{xs ys:List V}{us:BF},aV xs us->aV ys us->xs=ys
 |_,_,_,.nil,.nil=>rfl
 |_,_,_,.cons r t,.cons r' t'=>by rw[r.inj r',aV.inj t t']
section
variable{X:Cx}{BP:List (Addr×Obj)}{σ:St}{H:Hp}{s:aa}{a:Addr}{xs ys:List V}
theorem bV.of{K:ae}(h:H a=some (.lst xs)):bV K H a xs:=.inl (.inl h)
theorem dB.of{K:ae}(h:H a=some (.tup xs)):dB K H a xs:=.inl (.inl h)
theorem aG.list(I:aG X BP σ H s)(h:bV X.K H a xs):∃its:BF,aV xs its/\PlainL s.heap a its.toArray/\xs.length<=sizeLine:=by
 rcases h with h |⟨o,its,n,hk,hc,hd,hs,hz,r⟩
 .obtain⟨z,its,n,r,e⟩:=h.ok I.hok
  exact⟨its,r,⟨_,n,e,rfl,rfl,rfl⟩,z⟩
 .refine⟨its.toList,r,⟨o,n,I.kIn a o hk,hc,hd,by simpa using hs⟩,?_⟩
  have e:=r.length<;>grind
theorem aG.tuple(I:aG X BP σ H s)(h:dB X.K H a xs):∃its:BF,aV xs its/\lh s.heap a its.toArray/\xs.length<=sizeLine:=by
 rcases h with h |⟨o,its,n,hk,hc,hs,hz,r⟩
 .obtain⟨z,its,r,p⟩:=h.ok I.hok
  exact⟨its,r,p,z.1⟩
 .refine⟨its.toList,r,⟨o,I.kIn a o hk,hc.1,n,by simpa using hs⟩,?_⟩
  have e:=r.length<;>grind
theorem aG.list_inj(I:aG X BP σ H s)(h:bV X.K H a xs)(h':bV X.K H a ys):xs=ys:=by
 obtain⟨its,r,⟨o,n,e,_,_,d⟩,_⟩:=I.list h;obtain⟨its',r',⟨o',n',e',_,_,d'⟩,_⟩:=I.list h';rw[e]at e';cases e';rw[d]at d';injection d' with d1 _;have:=by simpa using congrArg zy d1
 subst this;exact r.inj r'
theorem aG.tuple_inj(I:aG X BP σ H s)(h:dB X.K H a xs)(h':dB X.K H a ys):xs=ys:=by
 obtain⟨its,r,⟨o,e,_,n,d⟩,_⟩:=I.tuple h;obtain⟨its',r',⟨o',e',_,n',d'⟩,_⟩:=I.tuple h';rw[e]at e';cases e';rw[d]at d';injection d' with d1 _;have:=by simpa using congrArg zy d1
 subst this;exact r.inj r'
end
abbrev Cx.wish(X:Cx)(E:Value->aa->Prop):Cx:={X with xe:=E}
abbrev Cx.nox(X:Cx):Cx:=X.wish λ_ _=>False
theorem Cx.Ok.wish{X:Cx}(ok:X.Ok)(E:Value->aa->Prop):(X.wish E).Ok:=
 ⟨ok.mod,ok.kind,ok.glob,ok.blt,ok.above,ok.inj,ok.has,ok.cab,ok.hd,ok.frames,ok.stk,ok.exf,ok.bs,ok.bsz,ok.noex,ok.exfs,ok.funs,ok.frf⟩
theorem Cx.Ok.unwish{X:Cx}{E:Value->aa->Prop}(ok:(X.wish E).Ok):X.Ok:=
 ⟨ok.mod,ok.kind,ok.glob,ok.blt,ok.above,ok.inj,ok.has,ok.cab,ok.hd,ok.frames,ok.stk,ok.exf,ok.bs,ok.bsz,ok.noex,ok.exfs,ok.funs,ok.frf⟩
section
variable{X:Cx}{BP:List (Addr×Obj)}{σ:St}{H:Hp}{s:aa}{E:Value->aa->Prop}
theorem aG.wish(I:aG X BP σ H s)(E:Value->aa->Prop):aG (X.wish E) BP σ H s:=⟨I.ok.wish E,I.os,I.bare,I.base,I.loc,I.cell,I.free,I.freeC,I.pin,I.hok,I.len⟩
theorem aG.unwish(I:aG (X.wish E) BP σ H s):aG X BP σ H s:=⟨I.ok.unwish,I.os,I.bare,I.base,I.loc,I.cell,I.free,I.freeC,I.pin,I.hok,I.len⟩
theorem SP.unwish (h:SP (X.wish E) BP D f s'):SP X BP D f s':=by
 cases f with
 |next=>obtain⟨σ',H',I,q⟩:=h;exact⟨σ',H',I.unwish,q⟩
 |brk=>obtain⟨σ',H',I,q⟩:=h;exact⟨σ',H',I.unwish,q⟩
 |cont=>obtain⟨σ',H',I,q⟩:=h;exact⟨σ',H',I.unwish,q⟩
 |ret u=>obtain⟨v,σ',H',I,r,q⟩:=h;exact⟨v,σ',H',I.unwish,r,q⟩
theorem gS.nox{st:List Stmt}{t:TS}(h:gS X.nox st t):gS X st t:=λBP s σ H D I hw=>
 gv (h _ s _ H D (I.wish _) hw) (λ_ _ q=>q.unwish) (by grind)
end
section
variable{X:Cx}{st:Stmt}{fL:List Stmt}{t u:TS}{e:ah}{te:TE}{pos:ai}
def agz:TS:=λD σ H=>D.nx σ H
def ahB(t u:TS):TS:=λD σ H=>t {D with nx:=u D} σ H
theorem adR:gS X [] agz:=λ_ _ σ H _ I h=>rh ⟨σ,H,I,h⟩
theorem aaJ(h1:PS X st t)(h2:gS X fL u):gS X (st::fL) (ahB t u):=by
 intro BP s σ H D I h;refine wpAny_execs_cons (aY (h1 _ s _ H _ I h) λf s1 q=>?_);cases f with
 |next=>
  obtain⟨σ',H',I',q⟩:=q;exact h2 _ _ _ _ D I' q
 |ret v=>exact q
 |brk=>exact q
 |cont=>exact q
theorem Ov(h1:PS X st t):gS X [st] t:=by
 intro BP s σ H D I h;refine wpAny_execs_cons (aY (h1 _ s _ H D I h) λf s1 q=>?_);cases f with
 |next=>exact rh q
 |ret v=>exact q
 |brk=>exact q
 |cont=>exact q
theorem aG.quiet {σ:St}{H:Hp}{s:aa}(I:aG X BP σ H s):interactive X.env=false:=by simp[interactive,I.ok.kind]
def ag3(te:TE):TS:=λD σ H=>te σ H λ_ H1=>D.nx σ H1
theorem adI(he:PE X e te)(hs:autoParam (swapsWith e none pos.line X.env=pure false) Zqq):PS X (.Expr e pos) (ag3 te):=by
 intro BP s σ H D I h;exact wpAny_Expr_any (aY (he _ s _ H _ I h) λv s1 ⟨x,H1,I1,r1,q1⟩=>⟨σ,H1,I1,q1⟩) I.quiet hs
def ahh(te:TE):TS:=λD σ H=>te σ H D.rt
theorem afj(he:PE X e te):PS X (.Return (some e) pos) (ahh te):=by
 intro BP s σ H D I h;exact wpAny_Return_some (aY (he _ s _ H _ I h) λv s1 ⟨x,H1,I1,r1,q1⟩=>⟨x,σ,H1,I1,r1,q1⟩)
def ahv(c:TT)(t u:TS):TS:=λD σ H=>c σ H λb H1=>if b=true then t D σ H1 else u D σ H1
theorem af5 {tc:TT}(hc:PT X c tc)(ha:gS X a t)(hb:gS X b u):PS X (.If c a b pos) (ahv tc t u):=by
 intro BP s σ H D I h;refine wpAny_If (aY (hc _ s _ H _ I h) λd s1 hq=>?_);rcases hq with⟨H1,I1,q1⟩;cases d with
 |true=>exact ha _ _ _ _ D I1 q1
 |false=>exact hb _ _ _ _ D I1 q1
end
abbrev TG:=V->St->Hp->(St->Hp->Prop)->Prop
abbrev pM:=List V->St->Hp->(St->Hp->Prop)->Prop
def PG(X:Cx)(target:ah)(t:TG):Prop:=
 ∀(BP:List (Addr×Obj))(s:aa)(σ:St)(H:Hp)(v:V)(u:Value)(Q:St->Hp->Prop),aG X BP σ H s->bS v u->t v σ H Q->
  wpAny 1#g X.A (assign target X.env u) (λ_ s'=>∃σ' H',aG X BP σ' H' s'/\Q σ' H') X.xe s
def nE(X:Cx)(ts:List ah)(t:pM):Prop:=
 ∀(BP:List (Addr×Obj))(s:aa)(σ:St)(H:Hp)(vs:List V)(us:BF)(Q:St->Hp->Prop),aG X BP σ H s->aV vs us->t vs σ H Q->
  wpAny 1#g X.A (assignInOrder ((assignEach ts X.env).map (·.2)) us) (λ_ s'=>∃σ' H',aG X BP σ' H' s'/\Q σ' H') X.xe s
abbrev Qb:=V->V->V->Hp->(Hp->Prop)->Prop
def Hk(X:Cx)(t:Qb):Prop:=
 ∀(BP:List (Addr×Obj))(s:aa)(σ:St)(H:Hp)(o i v:V)(ov iv u:Value)(Q:Hp->Prop),aG X BP σ H s->bS o ov->bS i iv->bS v u->t o i v H Q->
  wpAny 1#g X.A (setItem ov iv u) (λ_ s'=>∃H',aG X BP σ H' s'/\Q H') X.xe s
abbrev Zb:=V->V->Hp->VK->Prop
def PIp(X:Cx)(op:Operator)(t:Zb):Prop:=
 ∀(BP:List (Addr×Obj))(s:aa)(σ:St)(H:Hp)(x y:V)(v u:Value)(Q:VK),aG X BP σ H s->bS x v->bS y u->t x y H Q->
  wpAny 1#g X.A (inplaceOp op v u) (EP X BP σ Q) X.xe s
section
variable{X:Cx}{pos:ai}
def Bj(i:Nat):TG:=λv σ H Q=>Q (σ.set i (some v)) H
theorem Gv (hN:X.N.Nodup)(hi:X.N[i]?=some x)(hx:lX X.env.scope x)(hf:autoParam (X.fn x=true\/X.env.scope.names.lookup x=some .local) Zwq):PG X (.Name x pos) (Bj i):=by
 intro BP s σ H v u Q I r h;exact wpAny_assign_Name (sE I hN hi hx r (λs' I'=>⟨_,H,I',h⟩) hf)
def ahD:pM:=λvs σ H Q=>vs=[]/\Q σ H
def ago(t:TG)(u:pM):pM:=λvs σ H Q=>∃v r,vs=v::r/\t v σ H λσ' H'=>u r σ' H' Q
theorem acD:nE X [] ahD:=by
 intro BP s σ H vs us Q I r h;obtain⟨e,h⟩:=h;exact assignInOrder_nil ⟨σ,H,I,h⟩
theorem aaQ {t:TG}{u:pM}(h1:PG X e t)(h2:nE X es u)
  (hs:autoParam ((assignEach (e::es) X.env).map (·.2)=assign e X.env::(assignEach es X.env).map (·.2)) Zqq):nE X (e::es) (ago t u):=by
 intro BP s σ H vs us Q I r h;obtain⟨v,vr,e1,h⟩:=h;subst e1;cases r with
 |cons r rr=>
  rw[hs];refine vn (aY (h1 _ s _ H _ _ _ I r h) λ_ s1 hq=>?_);rcases hq with⟨σ1,H1,I1,q1⟩;exact h2 _ _ _ _ _ _ Q I1 rr q1
def ahl(K:ae)(n:Nat)(t:pM):TG:=λv σ H Q=>∃a xs,v=.ref a/\dB K H a xs/\xs.length=n/\t xs σ H Q
theorem afr {k:Nat}{t:pM}{n:Nat}(hc:X.calm=true)(h:nE X es t)
  (hn:autoParam ((assignEach es X.env).length=n) Zqq)(hst:autoParam ((assignEach es X.env).findIdx? (·.1)=none) Zqq):PG X (.Tuple es k pos) (ahl X.K n t):=by
 intro BP s σ H v u Q I r hw;obtain⟨a,xs,e1,hq,hl,hw⟩:=hw;subst e1;cases r;obtain⟨its,rv,ht,hz⟩:=I.tuple hq;refine assign_Tuple_tuple (I.ok.hd hc) ht (by simp[hn,<-hl,rv.length]) hst λh' hx=>?_;have I1:=I.kept (t':=s.toks) λb o e=>hx b o (de (bi e)) e;exact h BP _ σ H xs _ Q I1 (by simpa using rv) hw
def ag8(to ti:TE)(t:Qb):TG:=λv σ H Q=>to σ H λo H1=>ti σ H1 λi H2=>t o i v H2 λH3=>Q σ H3
theorem Gh {to ti:TE}{t:Qb}(ho:PE X o to)(hi:PE X i ti)(hs:Hk X t)
  (ha:∀v,assign (.Subscript o i pos) X.env v=(do
   let ov <-holding [v] (eval o X.env)
   let iv <-holding [v,ov] (eval i X.env)
   standAt pos
   holding [v,ov,iv] (setItem ov iv v)
   release [v,ov,iv] []):=by intro _;rfl):PG X (.Subscript o i pos) (ag8 to ti t):=by
 intro BP s σ H v u Q I r h;rw[ha];refine ag (ke (aY (ho _ s _ H _ I h) λov s1 hq=>?_));rcases hq with⟨x,H1,I1,r1,q1⟩;refine ag (ke (aY (hi _ _ _ _ _ I1 q1) λiv s2 hq=>?_));rcases hq with⟨y,H2,I2,r2,q2⟩;refine ag (qd (ag (ke (aY (hs _ _ _ _ x y v _ _ u _ I2 r1 r2 r q2) λ_ s3 hq=>?_))));rcases hq with⟨H3,I3,q3⟩;exact wpAny_release ⟨σ,H3,I3,q3⟩
def Vj(te:TE)(g:TG):TS:=λD σ H=>te σ H λx H1=>g x σ H1 D.nx
theorem Ai{tg e:ah}{te:TE}{g:TG}(he:PE X e te)(hg:PG X tg g)(hs:autoParam (swapsWithSole [tg] e pos.line X.env=pure false) Zqq)(hw:autoParam (swappedStores [tg] e X.env=pure none) Zqq)
  (h1:autoParam ((assignEach [tg] X.env).map (·.2)=[assign tg X.env]) Zqq):PS X (.Assign [tg] e pos) (Vj te g):=by
 intro BP s σ H D I h;refine wpAny_Assign_stores (aY (he _ s _ H _ I h) λv s1 hq=>?_) hs hw;rcases hq with⟨x,H1,I1,r1,q1⟩;rw[h1];exact aY (hg _ _ _ _ x v _ I1 r1 q1) λ_ s2 q=>q
theorem aeK {pos':ai}(hN:X.N.Nodup)(hi:X.N[i]?=some x)(hx:lX X.env.scope x)(he:PE X e te)(hs:autoParam (swapsWith e (some (.Name x pos')) pos.line X.env=pure false) Zqq)(hf:autoParam (X.fn x=true\/X.env.scope.names.lookup x=some .local) Zwq):
  PS X (.Assign [.Name x pos'] e pos) (Vj te (Bj i)):=by
 intro BP s σ H D I h;refine wpAny_Assign_Name (aY (he _ s _ H _ I h) λv s1 hq=>?_) hs;rcases hq with⟨y,H1,I1,r1,q1⟩;exact sE I1 hN hi hx r1 (λs2 I2=>⟨_,H1,I2,q1⟩) hf
def ahz(i j:Nat)(ta:TA):TS:=λD σ H=>ta σ H λvs H1=>∃v w,vs=[v,w]/\D.nx ((σ.set i (some v)).set j (some w)) H1
theorem afa{i j:Nat}{x y:Str}{a b:ah}{ta:TA}{px py pt:ai}{kt k2 pt2}(hc:X.calm=true)(hN:X.N.Nodup)(hi:X.N[i]?=some x)(hj:X.N[j]?=some y)(hij:i≠j)
  (hx:X.env.scope.names.lookup x=some .local)(hy:X.env.scope.names.lookup y=some .local)(ha:PA X [a,b] ta)
  (hw:swappedStores [.Tuple [.Name x px,.Name y py] kt pt] (.Tuple [a,b] k2 pt2) X.env=pure (some [x,y]))
  (hs:autoParam (swapsWithSole [.Tuple [.Name x px,.Name y py] kt pt] (.Tuple [a,b] k2 pt2) pos.line X.env=pure false) Zqq):
  PS X (.Assign [.Tuple [.Name x px,.Name y py] kt pt] (.Tuple [a,b] k2 pt2) pos) (ahz i j ta):=by
 intro BP s σ H D I h;rw[exec_Assign_arm];refine ag (qd ?_);rw[hs];refine ag (ao ?_);refine ag (Tuple_ (aY (ha _ BP s σ H _ I h) λus s1 hq=>?_));rcases hq with⟨vs,H1,I1,r1,q1⟩;obtain⟨v,w,e1,q1⟩:=q1;subst e1;obtain⟨u1,u2,rfl,rv,rw'⟩:∃u1 u2,us=[u1,u2]/\bS v u1/\bS w u2:=by
  cases r1 with
  |cons p q=>
   cases q with
   |cons p' q'=>
    cases q';exact⟨_,_,rfl,p,p'⟩
 refine ju ?_ (by show 2<=sizeLine;decide);have I2:aG X BP σ H1 {s1 with heap:=s1.heap.push {cls:=.type "tuple",data:=.seq [u1,u2].toArray}}:=I1.kept λb o e=>ar _ e;rw[hw];refine ag (ao ?_);refine ag (lr (ag (unpackItems_tuple (items:=#[u1,u2]) (I.ok.hd hc) (rl s1.heap _) λh' hx'=>?_)));have I3:=I2.kept (h':=h') (t':=s1.toks) λb o e=>hx' b o (de (bi e)) e;refine ag (vn (wpAny_bindName (sE I3 hN hj (.inl hy) rw' (λs2 I4=>?_) (.inr hy))));refine vn (wpAny_bindName (sE I4 hN hi (.inl hx) rv (λs3 I5=>assignInOrder_nil (ao ?_)) (.inr hx)));rw[List.set_comm _ _ (iz hij)]at I5;exact⟨_,H1,I5,q1⟩
def ahE(i:Nat)(te:TE)(ti:Zb):TS:=λD σ H=>∃x,σ[i]?=some (some x)/\te σ H λy H1=>ti x y H1 λz H2=>D.nx (σ.set i (some z)) H2
theorem aff {e:ah}{te:TE}{op:Operator}{ti:Zb}{pos':ai}(hN:X.N.Nodup)(hi:X.N[i]?=some x)(hx:lX X.env.scope x)(he:PE X e te)(ho:PIp X op ti)(hf:autoParam (X.fn x=true\/X.env.scope.names.lookup x=some .local) Zwq):
  PS X (.AugAssign (.Name x pos') op e pos) (ahE i te ti):=by
 intro BP s σ H D I h;obtain⟨v,e1,h⟩:=h;obtain⟨m,hn,hl⟩:=I.loc;have vis:lW X.env.scope x:=by rcases hx with k |k;exact .inl k;exact .inr (.inl k)
 obtain⟨u,r,l⟩:=hl i x v hi e1 vis;refine wpAny_AugAssign_Name ?_;have go:wpAny 1#g X.A (eval e X.env) (λw BV=>wpAny 1#g X.A (inplaceOp op u w) (λr s₃=>wpAny 1#g X.A (storeName X.env x r) (λ_=>SP X BP D .next) X.xe s₃) X.xe BV) X.xe s:=by
  refine aY (he BP s σ H _ I h) ?_
  rintro w s1 ⟨y,H1,I1,r1,q1⟩
  refine aY (ho BP s1 σ H1 v y u w _ I1 r r1 q1) ?_
  rintro z s2 ⟨zv,H2,I2,r2,q2⟩
  exact sE I2 hN hi hx r2 (λs3 I3=>⟨_,H2,I3,q2⟩) hf
 rcases l with⟨hk,hm⟩|⟨hk,c,hc,hcell⟩
 .exact zt I.ok.kind hk hn hm go
 .rcases hk with hk |hk
  .exact zu I.ok.kind hk hc hcell go
  .rcases hx with k |k
   .have:X.env.scope.names.lookup x=some .free:=hk
    rw[k]at this;cases this
   .have:X.env.scope.names.lookup x=some .free:=hk
    rw[k]at this;cases this
def afs(c:TT)(tb:TS):TS:=λD σ H=>∃W:Nat->St->Hp->Prop,(∃m,W m σ H)/\∀m σ H,W m σ H->
 c σ H λb H1=>if b=true then ∃N:St->Hp->Prop,(∀σ' H',N σ' H'->∃m',m'<m/\W m' σ' H')/\tb {D with nx:=N,ct:=N,bk:=D.nx} σ H1 else D.nx σ H1
theorem abx {body:List Stmt}{tc:TT}{tb:TS}(hp:qe 1#g X.A X.env X.xe)(hc:PT X c tc)(hb:gS X body tb):PS X (.While c body [] pos) (afs tc tb):=by
 intro BP s σ H D I h;obtain⟨W,⟨m0,w0⟩,turn⟩:=h;refine wpAny_While (codeAny_whileLoop (λn s'=>∃σ' H',aG X BP σ' H' s'/\W n σ' H') ?_ m0 ⟨σ,H,I,w0⟩)
 rintro n s1 ⟨σ1,H1,I1,w1⟩
 refine mf hp (aY (hc BP s1 σ1 H1 _ I1 (turn n σ1 H1 w1)) λb s2 hq=>?_);rcases hq with⟨H2,I2,q2⟩;cases b with
 |true=>
  obtain⟨N,hN,q2⟩:=q2;refine mf hp (aY (hb BP s2 σ1 H2 _ I2 q2) λf s3 q3=>?_);cases f with
  |next=>
   obtain⟨σ3,H3,I3,n3⟩:=q3;obtain⟨m',hm,w3⟩:=hN σ3 H3 n3;exact⟨m',hm,σ3,H3,I3,w3⟩
  |cont=>
   obtain⟨σ3,H3,I3,n3⟩:=q3;obtain⟨m',hm,w3⟩:=hN σ3 H3 n3;exact⟨m',hm,σ3,H3,I3,w3⟩
  |brk=>exact q3
  |ret v=>exact q3
 |false=>
  exact rh ⟨σ1,H2,I2,q2⟩
end
structure It where
 go:Nat->Hp->Prop
 yld:Nat->Hp->V->Hp->Prop
 stop:Nat->Hp->Prop
def fZ(X:Cx)(BP:List (Addr×Obj))(H:Hp)(b:Addr):Prop:=
 H b=none/\b≠X.env.locals/\b∉X.fs/\(b∈X.ex\/X.BQ.heap.objs.size<=b)/\(∀x c,X.env.cells.lookup x=some c->c≠b)/\∀p∈X.pn++BP,p.1≠b
theorem aG.fpOk {σ:St}{H H':Hp}{s:aa}{b:Addr}(I:aG X BP σ H s)(hb:s.heap.objs.size<=b)(hn:H' b=none):fZ X BP H' b:=by
 refine⟨hn,kr (du I.lt hb),I.nofs hb,.inr (fx I.sz hb),λx c e z=>?_,λp hp z=>?_⟩
 .obtain⟨v,q⟩:=I.cell x c e
  exact absurd (du q.lt (by simp_all)) (ji _)
 .exact absurd (du (bi (I.pin p hp).1) (by simp_all)) (ji _)
structure tV(P:Program)(w:am)(K:ae)(tg:ah)(J:It)(fp:List Addr)(it:Addr)(tn:Nat->Heap->Prop):Prop where
 mem:it∈fp
 obj:∀i h,tn i h->∀b∈fp,∃o,h.get? b=some o/\∀v,o.data≠.cell v
 keep:∀i h h',tn i h->(∀b∈fp,∀o,h.get? b=some o->h'.get? b=some o)->tn i h'
 item:∀(X:Cx),X.prog=P->X.w=w->X.K=K->X.calm=true->∀(i:Nat)(BP:List (Addr×Obj))(s:aa)(σ:St)(H:Hp)(E:Value->aa->Prop),aG X BP σ H s->(∀b∈fp,fZ X BP H b)->tn i s.heap->J.go i H->
  wpAny (model P w) X.A (pyNext (.ref it)) (λr s1=>∃u,r=some u/\
   wpAny (model P w) X.A (letOwnedTupleGo tg (.ref it) u) (λ_ s2=>∃x H',aG X BP σ H' s2/\bS x u/\J.yld i H x H'/\tn (i+1) s2.heap/\∀b∈fp,H' b=none) E s1) E s
 done:∀(X:Cx),X.prog=P->X.w=w->X.K=K->X.calm=true->∀(i:Nat)(BP:List (Addr×Obj))(s:aa)(σ:St)(H:Hp)(E:Value->aa->Prop),aG X BP σ H s->(∀b∈fp,fZ X BP H b)->tn i s.heap->J.stop i H->
  wpAny (model P w) X.A (pyNext (.ref it)) (λr s1=>r=none/\aG X BP σ H s1) E s
 self:∀(A:aq)(i:Nat)(s:aa)(Q:Value->aa->Prop)(E:Value->aa->Prop),tn i s.heap->Q (.ref it) s->wpAny (model P w) A (pyIter (.ref it)) Q E s
abbrev TI:=St->Hp->(It->Hp->Prop)->Prop
def J2(X:Cx)(BP:List (Addr×Obj))(σ:St)(tg:ah)(R:It->Hp->Prop)(itv:Value)(s2:aa):Prop:=
 ∃(it:Addr)(fp:List Addr)(tn:Nat->Heap->Prop)(J:It)(H':Hp),itv=.ref it/\aG X BP σ H' s2/\tV X.prog X.w X.K tg J fp it tn/\tn 0 s2.heap/\(∀b∈fp,fZ X BP H' b)/\R J H'
def PI(X:Cx)(tg iter:ah)(wi:TI):Prop:=
 ∀(BP:List (Addr×Obj))(s:aa)(σ:St)(H:Hp)(R:It->Hp->Prop),aG X BP σ H s->wi σ H R->
  wpAny 1#g X.A (eval iter X.env) (λv s1=>wpAny 1#g X.A (pyIter v) (J2 X BP σ tg R) X.xe s1) X.xe s
theorem Cj {A : aq} {E : Value → aa → Prop} {s : aa} {tg : ah} {it : Addr} {u : Value} {o : Obj} {n : String} {vs : Array Value} {Q : Unit → aa → Prop} (ho : s.heap.get? it = some o) (hc : o.cls = .type n) (hd : o.data = .fields vs)
    (hn : ["enumerate", "zip", "dict_itemiterator", "dict_reverseitemiterator", "odict_iterator", "itertools.zip_longest", "itertools.pairwise"].contains n = false) (hQ : Q () s) : wpAny M A (letOwnedTupleGo tg (.ref it) u) Q E s := by
  cases tg <;> first
    | exact ao hQ
    | (cases u <;> first
        | exact ao hQ
        | (refine ag (wpAny_load ho ?_)
           rw [hc, hd];show wpAny M A (if (["enumerate", "zip", "dict_itemiterator", "dict_reverseitemiterator", "odict_iterator", "itertools.zip_longest", "itertools.pairwise"].contains n && vs[0]? == some _) = true then _ else _) Q E s;rw [if_neg (by intro h; rw [hn] at h; cases h)];exact ao hQ))
def Ac(K:ae)(a:Addr):It:=
 ⟨λi H=>∃xs x,bV K H a xs/\xs[i]?=some x,λi H x H'=>H'=H/\∀xs,bV K H a xs->xs[i]?=some x,λi H=>∃xs,bV K H a xs/\xs.length<=i⟩
def Tk(K:ae)(a:Addr):It:=
 ⟨λi H=>∃xs x,dB K H a xs/\xs[i]?=some x,λi H x H'=>H'=H/\∀xs,dB K H a xs->xs[i]?=some x,λi H=>∃xs,dB K H a xs/\xs.length<=i⟩
def xI(lo:Int)(n:Nat):It:=⟨λi _=>i<n,λi H x H'=>H'=H/\x=.int (lo+i),λi _=>n<=i⟩
theorem aav{P:Program}{w:am}{K:ae}{tg:ah}(a it:Addr):tV P w K tg (Ac K a) [it] it (λi h=>h.IsListIter it a i) where
 mem:=by simp
 obj:=λi h st b hb=>by
  have e:b=it:=by simpa using hb
  subst e;obtain⟨o,e,c,d⟩:=st;exact⟨o,e,λv z=>by rw[d]at z;cases z⟩
 keep:=λi h h' st k=>st.at λo e=>k it 1#d o e
 item:=by
  intro X hP hw hK hc i BP s σ H E I hf st hg;subst hP hw hK;obtain⟨xs,x,hq,hx⟩:=hg;obtain⟨its,rv,p,hz⟩:=I.list hq;obtain⟨u,hu,ru⟩:=rv.get hx;obtain⟨f0,f1,f2,f3,f4,f5⟩:=hf it 1#d;refine wpAny_pyNext_list_item st p.isList (x:=u) (by simpa using hu) λh' st' sb=>?_;have I1:=I.turned (t':=s.toks) (λb o hb e=>(sb.2 b hb).trans e) f0 f1 f3 f4 f5;obtain⟨o,e,c,d⟩:=id st';exact⟨u,rfl,Cj e c d 1#b ⟨x,H,I1,ru,⟨rfl,λys hy=>by rw[I.list_inj hy hq];exact hx⟩,st',λb hb=>(hf b hb).1⟩⟩
 done:=by
  intro X hP hw hK hc i BP s σ H E I hf st hg;subst hP hw hK;obtain⟨xs,hq,hx⟩:=hg;obtain⟨its,rv,p,hz⟩:=I.list hq;obtain⟨f0,f1,f2,f3,f4,f5⟩:=hf it 1#d;have hl:=rv.length;exact wpAny_pyNext_list_end (I.ok.hd hc) st p.isList (by simp;omega) λh' eb=>⟨rfl,I.turned (t':=s.toks) (λb o hb e=>eb b o hb e) f0 f1 f3 f4 f5⟩
 self:=λ_ _ _ _ _ st h=>wpAny_pyIter_listiter st h
theorem U5{P:Program}{w:am}{K:ae}{tg:ah}(a it:Addr):tV P w K tg (Tk K a) [it] it (λi h=>h.IsTupleIter it a i) where
 mem:=by simp
 obj:=λi h st b hb=>by
  have e:b=it:=by simpa using hb
  subst e;obtain⟨o,e,c,d⟩:=st;exact⟨o,e,λv z=>by rw[d]at z;cases z⟩
 keep:=λi h h' st k=>st.at λo e=>k it 1#d o e
 item:=by
  intro X hP hw hK hc i BP s σ H E I hf st hg;subst hP hw hK;obtain⟨xs,x,hq,hx⟩:=hg;obtain⟨its,rv,p,hz⟩:=I.tuple hq;obtain⟨u,hu,ru⟩:=rv.get hx;obtain⟨f0,f1,f2,f3,f4,f5⟩:=hf it 1#d;refine wpAny_pyNext_tuple_item st (show s.heap.IsTuple a its.toArray from p) (x:=u) (by simpa using hu) λh' st' sb=>?_;have I1:=I.turned (t':=s.toks) (λb o hb e=>(sb.2 b hb).trans e) f0 f1 f3 f4 f5;obtain⟨o,e,c,d⟩:=id st';exact⟨u,rfl,Cj e c d 1#b ⟨x,H,I1,ru,⟨rfl,λys hy=>by rw[I.tuple_inj hy hq];exact hx⟩,st',λb hb=>(hf b hb).1⟩⟩
 done:=by
  intro X hP hw hK hc i BP s σ H E I hf st hg;subst hP hw hK;obtain⟨xs,hq,hx⟩:=hg;obtain⟨its,rv,p,hz⟩:=I.tuple hq;obtain⟨f0,f1,f2,f3,f4,f5⟩:=hf it 1#d;have hl:=rv.length;exact wpAny_pyNext_tuple_end (I.ok.hd hc) st (show s.heap.IsTuple a its.toArray from p) (by simp;omega) λh' eb=>⟨rfl,I.turned (t':=s.toks) (λb o hb e=>eb b o hb e) f0 f1 f3 f4 f5⟩
 self:=λ_ _ _ _ _ st h=>wpAny_pyIter_tupleiter st h
theorem S8 {w:am}{K:ae}{tg:ah}(it:Addr)(lo:Int)(n:Nat):tV P w K tg (xI lo n) [it] it (λi h=>IsRangeIter h it (lo+(i:Nat)*1) ((n:Int)-(i:Nat)) 1) where
 mem:=by simp
 obj:=λi h st b hb=>by
  have e:b=it:=by simpa using hb
  subst e;exact⟨_,st,λv z=>by
   have z':=z;cases z'⟩
 keep:=λi h h' st k=>k it 1#d _ st
 item:=by
  intro X hP hw hK hc i BP s σ H E I hf st hg;subst hP hw hK;obtain⟨f0,f1,f2,f3,f4,f5⟩:=hf it 1#d;have W:=Walks.range (prog:=X.prog) (w:=X.w) (I.ok.hd hc) it lo 1 n;refine W.item i s _ _ hg st λv h' tk hv st' kk=>?_;obtain⟨t,rfl⟩:=hv;have I1:aG X BP σ H {s with heap:=h',toks:=tk}:=I.turned (λb o hb e=>kk b o (by simpa using hb) e) f0 f1 f3 f4 f5;refine⟨_,rfl,Cj st' rfl rfl 1#b ⟨.int (lo+i),H,I1,⟨t,?_⟩,⟨rfl,rfl⟩,st',λb hb=>(hf b hb).1⟩⟩;rw[mj]
 done:=by
  intro X hP hw hK hc i BP s σ H E I hf st hg;subst hP hw hK;obtain⟨f0,f1,f2,f3,f4,f5⟩:=hf it 1#d;exact wpAny_pyNext_range_end (I.ok.hd hc) st (by have:n<=i:=hg;omega) λh' eb=>⟨rfl,I.turned (t':=s.toks) (λb o hb e=>eb b o hb e) f0 f1 f3 f4 f5⟩
 self:=λ_ _ _ _ _ st h=>wpAny_pyIter_rangeiter st h
section
variable{X:Cx}{tg:ah}
theorem Hr {σ:St}{H:Hp}{s:aa}{R:It->Hp->Prop}{E:Value->aa->Prop}{lo hi:Int}{t u v:cv}{tk:Nat}(I:aG X BP σ H s)(h1:-(2^62)<=lo)(h2:lo<2^62)(h3:-(2^62)<=hi)(h4:hi<2^62)
  (q:R (xI lo (hi-lo).toNat) H):wpAny 1#g X.A (pyIter (.ref s.heap.objs.size)) (J2 X BP σ tg R) E {s with heap:=s.heap.push {cls:=.type "range",data:=.fields #[.int lo t,.int hi u,.int 1 v]},toks:=tk}:=by
 refine wpAny_pyIter_range (IsRange.new ..) (small_one h1 h2 h3 h4) ?_;have I1:aG X _ σ H {s with heap:=s.heap.push {cls:=.type "range",data:=.fields #[.int lo t,.int hi u,.int 1 v]},toks:=tk}:=I.kept λb o e=>ar _ e;refine⟨(s.heap.push _).objs.size,[(s.heap.push _).objs.size],_,_,H,rfl,
  I1.kept λb o e=>ar _ e,S8 _ lo _,?_,λb hb=>?_,q⟩
 .have e1:lo+(0:Nat)*1=lo:=by simp
  have e2:((hi-lo).toNat:Int)-(0:Nat)=Builtin.Range.rangeSize lo hi 1:=by rw[rangeSize_one];grind
  rw[e1,e2];exact cy _ rfl
 .have e:b=(s.heap.push {cls:=.type "range",data:=.fields #[.int lo t,.int hi u,.int 1 v]}).objs.size:=by simpa using hb
  subst e;exact I1.fpOk (aj _) (I1.hok.fresh (aj _))
def agX(ta:TA):TI:=λσ H R=>ta σ H λvs H1=>∃j:Int,vs=[.int j]/\-(2^62)<=j/\j<2^62/\R (xI 0 j.toNat) H1
def agB(ta:TA):TI:=λσ H R=>ta σ H λvs H1=>∃i j:Int,vs=[.int i,.int j]/\(-(2^62)<=i/\i<2^62/\-(2^62)<=j/\j<2^62)/\R (xI i (j-i).toNat) H1
theorem X5 {p pos:ai}(hg:Gl X "range")(hm:X.mg "range"=none)(ha:PA X [a] ta)(hs:autoParam (starEach [a] X.env=[(false,eval a X.env)]) Zqq):PI X tg (.Call (.Name "range" p) [a] [] pos) (agX ta):=by
 intro BP s σ H R I h;refine Call_ (qH I hg hm boot_range (qg (aY (ha pos BP s σ H _ I h) λus s1 hq=>?_) hs rfl));rcases hq with⟨vs,H1,I1,r1,q1⟩;obtain⟨j,e,q1,q2,q⟩:=q1;subst e;cases r1 with
 |cons r rr=>
  cases rr;obtain⟨t,rfl⟩:=r;exact call_range_1 (Hr I1 1#a 1#a q1 q2 (by simpa using q))
theorem Z9 {p pos:ai}(hg:Gl X "range")(hm:X.mg "range"=none)(ha:PA X [a,b] ta)(hs:autoParam (starEach [a,b] X.env=[(false,eval a X.env),(false,eval b X.env)]) Zqq)(hs2:autoParam (starEach [b] X.env=[(false,eval b X.env)]) Zqq):
  PI X tg (.Call (.Name "range" p) [a,b] [] pos) (agB ta):=by
 intro BP s σ H R I h;refine Call_ (qH I hg hm boot_range (qg (aY (ha pos BP s σ H _ I h) λus s1 hq=>?_) (by rw[hs,hs2]) (by rw[hs2];rfl)));rcases hq with⟨vs,H1,I1,r1,q1⟩;obtain⟨i,j,e,⟨q1,q2,q3,q4⟩,q⟩:=q1;subst e;cases r1 with
 |cons r rr=>
  cases rr with
  |cons r' rr=>
   cases rr;obtain⟨t,rfl⟩:=r;obtain⟨t',rfl⟩:=r';exact call_range_2 (Hr I1 q1 q2 q3 q4 q)
def ahb(wi:TI)(g:TG)(tb:TS):TS:=λD σ H=>wi σ H λJ H1=>∃W:Nat->Nat->St->Hp->Prop,(∃m,W 0 m σ H1)/\∀i m σ H,W i m σ H->
 (J.stop i H/\D.nx σ H)\/(J.go i H/\∃N:St->Hp->Prop,(∀σ' H',N σ' H'->∃m',m'<m/\W (i+1) m' σ' H')/\∀x H',J.yld i H x H'->g x σ H' λσ2 H2=>tb {D with nx:=N,ct:=N,bk:=D.nx} σ2 H2)
def Zh(fp:List Addr)(h:Heap):List (Addr×Obj):=fp.filterMap λb=>(h.get? b).map λo=>(b,o)
theorem mG {b:Addr}{o:Obj}(hb:b∈fp)(e:h.get? b=some o):(b,o)∈Zh fp h:=vo.mpr ⟨b,hb,by simp_all ⟩
theorem aag (hp:p∈Zh fp h):p.1∈fp/\h.get? p.1=some p.2:=by
 obtain⟨b,hb,e⟩:=vo.mp hp;cases q:h.get? b with
 |none=>simp_all
 |some o=>
  rw[q]at e;have e':=cq e;subst e';exact⟨hb,q⟩
theorem aG.pinned {σ:St}{H:Hp}{s:aa}{fp:List Addr}(I:aG X BP σ H s)(hf:∀b∈fp,fZ X BP H b)(ho:∀b∈fp,∃o,s.heap.get? b=some o/\∀v,o.data≠.cell v):aG X (BP++Zh fp s.heap) σ H s:=
 I.pins_of λp hp=>(ce.mp hp).elim (λz=>I.pin p (dg _ z)) λz=>by
  obtain⟨hb,e⟩:=aag z;obtain⟨f0,f1,f2,_⟩:=hf _ hb;obtain⟨o,e',d⟩:=ho _ hb
  simp_all
theorem aG.unpinned {σ:St}{H:Hp}{s:aa}(I:aG X (BP++pl) σ H s):aG X BP σ H s:=I.pins_of λp hp=>I.pin p (dg _ (lj _ hp))
theorem Qy {body:List Stmt}{wi:TI}{g:TG}{tb:TS}{pos:ai}(hp:qe 1#g X.A X.env X.xe)(hc:X.calm=true)(hi:PI X tg iter wi)(hg:PG X tg g)(hb:gS X body tb)
  (hs:autoParam (∀x,foldedSetIterable iter X.env x=pure x) Zqz):PS X (.For tg iter body [] pos) (ahb wi g tb):=by
 intro BP s σ H D I h;refine wpAny_For (aY (hi BP s σ H _ I h) λv s1 h1=>aY h1 λitv s2 h2=>?_) hs;obtain⟨it,fp,tn,J,H2,e,I2,T,st2,f2,W,⟨m0,w0⟩,turn⟩:=h2;subst e
 --what stays true of the iterator's objects through the loop
 have stat:∀{H':Hp},(∀b∈fp,H' b=none)->∀b∈fp,fZ X BP H' b:=λhn b hb=>⟨hn b hb,(f2 b hb).2⟩;refine codeAny_forLoop_any (λn s'=>∃i σ' H',aG X BP σ' H' s'/\tn i s'.heap/\(∀b∈fp,H' b=none)/\W i n σ' H') ?_ m0 ⟨0,σ,H2,I2,st2,λb hb=>(f2 b hb).1,w0⟩
 rintro n s3 ⟨i,σ3,H3,I3,dR,fr3,w3⟩
 rcases turn i n σ3 H3 w3 with⟨stop,qn⟩|⟨go,N,hN,step⟩
 .refine mf hp (aY (T.done X rfl rfl rfl hc i BP s3 σ3 H3 X.xe I3 (stat fr3) dR stop) λr s4 hq=>?_)
  rcases hq with⟨hr,I4⟩;subst hr;exact rh ⟨σ3,H3,I4,qn⟩
 .refine mf hp (aY (T.item X rfl rfl rfl hc i BP s3 σ3 H3 X.xe I3 (stat fr3) dR go) λr s4 hq=>?_)
  rcases hq with⟨u,hr,h4⟩;subst hr;refine mf hp (aY h4 λ_ s5 hq=>?_);rcases hq with⟨x,H5,I5,r5,y5,st5,fr5⟩;have I5':=I5.pinned (stat fr5) (T.obj _ _ st5);refine mf hp (aY (hg _ s5 σ3 H5 x u _ I5' r5 (step x H5 y5)) λ_ s6 hq=>?_);rcases hq with⟨σ6,H6,I6,q6⟩;refine mf hp (aY (hb _ s6 σ6 H6 _ I6 q6) λf s7 q7=>?_);have again:∀{σ7:St}{H7:Hp},aG X _ σ7 H7 s7->N σ7 H7->∃m,m<n/\∃i σ' H',aG X BP σ' H' s7/\tn i s7.heap/\(∀b∈fp,H' b=none)/\W i m σ' H':=λ{σ7 H7} I7 n7=>by
   obtain⟨m',hm,w7⟩:=hN σ7 H7 n7;refine⟨m',hm,i+1,σ7,H7,I7.unpinned,T.keep _ _ _ st5 λb hb o e=>(I7.pin (b,o) (dg _ (dg _ (mG hb e)))).1,λb hb=>?_,w7⟩;obtain⟨o,e,d⟩:=T.obj _ _ st5 b hb;exact(I7.pin (b,o) (dg _ (dg _ (mG hb e)))).2.1
  cases f with
  |next=>obtain⟨σ7,H7,I7,n7⟩:=q7;exact again I7 n7
  |cont=>obtain⟨σ7,H7,I7,n7⟩:=q7;exact again I7 n7
  |brk=>obtain⟨σ7,H7,I7,q7⟩:=q7;exact⟨σ7,H7,I7.unpinned,q7⟩
  |ret v=>obtain⟨x7,σ7,H7,I7,r7,q7⟩:=q7;exact⟨x7,σ7,H7,I7.unpinned,r7,q7⟩
end
abbrev R2:=V->V->Hp->VK->Prop
def eJ(X:Cx)(f:Value->Value->Sem Value)(r:R2):Prop:=
 ∀(BP:List (Addr×Obj))(s:aa)(σ:St)(H:Hp)(x y:V)(v u:Value)(Q:VK),aG X BP σ H s->bS x v->bS y u->r x y H Q->
  wpAny 1#g X.A (f v u) (EP X BP σ Q) X.xe s
def Wb(X:Cx)(f:Value->Sem Value)(r:V->Hp->VK->Prop):Prop:=
 ∀(BP:List (Addr×Obj))(s:aa)(σ:St)(H:Hp)(x:V)(v:Value)(Q:VK),aG X BP σ H s->bS x v->r x H Q->
  wpAny 1#g X.A (f v) (EP X BP σ Q) X.xe s
def iM(X:Cx)(f:Value)(r:List V->Hp->VK->Prop):Prop:=
 ∀(BP:List (Addr×Obj))(s:aa)(σ:St)(H:Hp)(xs:List V)(us:BF)(Q:VK),aG X BP σ H s->aV xs us->r xs H Q->
  wpAny 1#g X.A (call f us) (EP X BP σ Q) X.xe s
def ahJ(X:Cx)(r:V->Hp->(Bool->Hp->Prop)->Prop):Prop:=
 ∀(BP:List (Addr×Obj))(s:aa)(σ:St)(H:Hp)(x:V)(v:Value)(Q:Bool->Hp->Prop),aG X BP σ H s->bS x v->r x H Q->
  wpAny 1#g X.A (truthy v) (TP X BP σ Q) X.xe s
def Vb(r:R2)(ta tb:TE):TE:=λσ H Q=>ta σ H λx H1=>tb σ H1 λy H2=>r x y H2 Q
def tUn(r:V->Hp->VK->Prop)(ta:TE):TE:=λσ H Q=>ta σ H λx H1=>r x H1 Q
def rI(C:Int->Int->Prop)(g:Int->Int->V):R2:=λx y H Q=>∃i j,x=.int i/\y=.int j/\C i j/\Q (g i j) H
def kT(g:Int->Int->V):R2:=λx y H Q=>∃i j,x=.int i/\y=.int j/\Q (g i j) H
def rU(g:Int->V):V->Hp->VK->Prop:=λx H Q=>∃i,x=.int i/\Q (g i) H
section
variable{X:Cx}{a b:ah}{ta tb:TE}{pos:ai}
theorem Zj(ha:PE X a ta)(hb:PE X b tb){BP:List (Addr×Obj)}{s:aa}{σ:St}{H:Hp}{R:V->V->Hp->Prop}(I:aG X BP σ H s)
  (h:ta σ H λx H1=>tb σ H1 λy H2=>R x y H2){Q:Value->aa->Prop}{f:Value->Value->Sem Value}
  (hf:∀v u s2 x y H2,aG X BP σ H2 s2->bS x v->bS y u->R x y H2->wpAny 1#g X.A (f v u) Q X.xe s2):
  wpAny 1#g X.A (eval a X.env) (λv BS=>wpAny 1#g X.A (eval b X.env) (λu BV=>wpAny 1#g X.A (f v u) Q X.xe BV) X.xe BS) X.xe s:=by
 refine aY (ha _ s _ H _ I h) ?_
 rintro v s1 ⟨x,H1,I1,r1,q1⟩
 refine aY (hb _ _ _ _ _ I1 q1) ?_
 rintro u s2 ⟨y,H2,I2,r2,q2⟩
 exact hf v u _ x y _ I2 r1 r2 q2
theorem B3 (ho:eJ X (binaryOp op) r)(ha:PE X a ta)(hb:PE X b tb):PE X (.BinOp a op b pos) (Vb r ta tb):=by
 intro BP s σ H Q I h;exact wpAny_BinOp (Zj ha hb I h λv u s2 x y H2 I2 rx ry q=>ho _ _ _ _ x y v u Q I2 rx ry q)
theorem C0 (ho:Wb X (unaryOp op) r)(ha:PE X a ta):PE X (.UnaryOp op a pos) (tUn r ta):=by
 intro BP s σ H Q I h;exact UnaryOp_ (aY (ha _ s _ H _ I h) λv s1 ⟨x,H1,I1,r1,q1⟩=>ho _ _ _ _ x v Q I1 r1 q1)
theorem Sb {C:Int->Int->Prop}{g:Int->Int->Int}
  (rule:∀(i j:Int)(t u:cv)(s:aa)(Q:Value->aa->Prop)(E:Value->aa->Prop),C i j->Q (.int (g i j) s.toks) {s with toks:=s.toks+1}->wpAny 1#g X.A (f (.int i t) (.int j u)) Q E s):
  eJ X f (rI C λi j=>.int (g i j)):=by
 intro BP s σ H x y v u Q I rx ry h;obtain⟨i,j,rfl,rfl,hc,q⟩:=h;obtain⟨t,rfl⟩:=rx;obtain⟨t',rfl⟩:=ry;exact rule i j t _ s _ _ hc ⟨.int _,H,I.tok _,⟨_,rfl⟩,q⟩
theorem G4 {g:Int->Int->Int}
  (rule:∀(i j:Int)(t u:cv)(s:aa)(Q:Value->aa->Prop)(E:Value->aa->Prop),Q (.int (g i j) s.toks) {s with toks:=s.toks+1}->wpAny 1#g X.A (f (.int i t) (.int j u)) Q E s):
  eJ X f (kT λi j=>.int (g i j)):=by
 intro BP s σ H x y v u Q I rx ry h;obtain⟨i,j,rfl,rfl,q⟩:=h;obtain⟨t,rfl⟩:=rx;obtain⟨t',rfl⟩:=ry;exact rule i j t _ s _ _ ⟨.int _,H,I.tok _,⟨_,rfl⟩,q⟩
theorem Wj {g:Int->Int->Bool}
  (rule:∀(i j:Int)(t u:cv)(s:aa)(Q:Value->aa->Prop)(E:Value->aa->Prop),Q (.bool (g i j)) s->wpAny 1#g X.A (f (.int i t) (.int j u)) Q E s):
  eJ X f (kT λi j=>.bl (g i j)):=by
 intro BP s σ H x y v u Q I rx ry h;obtain⟨i,j,rfl,rfl,q⟩:=h;obtain⟨t,rfl⟩:=rx;obtain⟨t',rfl⟩:=ry;exact rule i j t _ s _ _ ⟨.bl _,H,I,rfl,q⟩
def Lb(i j:Int):Prop:=0<=j/\j<=1000000/\i.natAbs<2^64
def Xj(i j:Int):Prop:=(-(2^64)<i/\i<2^64)\/(-(2^64)<j/\j<2^64)
theorem Xj.ok (h:Xj i j):IntMulOk i j:=by
 rcases h with⟨h1,h2⟩|⟨h1,h2⟩
 .exact .of_left (intBits_le_64 h1 h2)
 .exact .of_right (intBits_le_64 h1 h2)
theorem afE:eJ X (binaryOp .Add) (kT λi j=>.int (i+j)):=G4 λ_ _ _ _ _ _ _ q=>add_int q
theorem Uz:eJ X (binaryOp .Sub) (kT λi j=>.int (i-j)):=G4 λ_ _ _ _ _ _ _ q=>sub_int q
theorem ack:eJ X (binaryOp .Mod) (rI (λ_ j=>j≠0) λi j=>.int (i.fmod j)):=Sb λ_ _ _ _ _ _ _ hc q=>mod_int' hc q
theorem aeR:eJ X (binaryOp .Pow) (rI Lb λi j=>.int (i^j.toNat)):=Sb λ_ _ _ _ _ _ _ hc q=>pow_int_small hc.1 hc.2.1 hc.2.2 q
theorem unI {g:Int->Int}
  (rule:∀(i:Int)(t:cv)(s:aa)(Q:Value->aa->Prop)(E:Value->aa->Prop),Q (.int (g i) s.toks) {s with toks:=s.toks+1}->wpAny 1#g X.A (f (.int i t)) Q E s):
  Wb X f (rU λi=>.int (g i)):=by
 intro BP s σ H x v Q I rx h;obtain⟨i,rfl,q⟩:=h;obtain⟨t,rfl⟩:=rx;exact rule i t s _ _ ⟨.int _,H,I.tok _,⟨_,rfl⟩,q⟩
theorem Fz:Wb X (unaryOp .USub) (rU λi=>.int (-i)):=unI λ_ _ _ _ _ q=>neg_int q
theorem A3:eJ X (compareOp .Lt) (kT λi j=>.bl (decide (i<j))):=Wj λ_ _ _ _ _ _ _ q=>lt_int q
theorem A8:eJ X (compareOp .Gt) (kT λi j=>.bl (decide (j<i))):=Wj λ_ _ _ _ _ _ _ q=>gt_int q
theorem D7:eJ X (compareOp .GtE) (kT λi j=>.bl (decide (j<=i))):=Wj λ_ _ _ _ _ _ _ q=>ge_int q
theorem eJ.or (h:eJ X f r)(h':eJ X f r'):eJ X f (λx y H Q=>r x y H Q\/r' x y H Q):=by
 intro BP s σ H x y v u Q I rx ry q;rcases q with q |q
 .exact h _ s _ H x y v u Q I rx ry q
 .exact h' _ s _ H x y v u Q I rx ry q
theorem mQ(b:ah){op:CmpOp}(h:autoParam (op≠.In) Zqw)(h2:autoParam (op≠.NotIn) Zqw):behindInMarks op b=false:=by
 have e1:(op==CmpOp.In)=false:=by grind
 have e2:(op==CmpOp.NotIn)=false:=by grind
 cases b<;>simp[behindInMarks,e1,e2]
theorem acH (ho:eJ X (compareOp op) r)(ha:PE X a ta)(hb:PE X b tb)(hm:behindInMarks op b=false):PE X (.Compare a [op] [b] pos) (Vb r ta tb):=by
 intro BP s σ H Q I h;exact wpAny_Compare1 (Zj ha hb I h λv u s2 x y H2 I2 rx ry q=>ho _ _ _ _ x y v u Q I2 rx ry q) hm
def agK(t:TE):TT:=λσ H Q=>t σ H λx H'=>∃k,x=.bl k/\Q k H'
theorem adm (ho:eJ X (compareOp op) r)(ha:PE X a ta)(hb:PE X b tb)(hm:behindInMarks op b=false):PT X (.Compare a [op] [b] pos) (agK (Vb r ta tb)):=by
 intro BP s σ H Q I h;refine zx (aY (ha _ s _ H _ I h) λv s1 ⟨x,H1,I1,r1,q1⟩=>aY (hb _ _ _ _ _ I1 q1) λu s2 ⟨y,H2,I2,r2,q2⟩=>
  aY (ho _ _ _ _ x y v u _ I2 r1 r2 q2) λc s3 ⟨z,H3,I3,r3,k,e,q3⟩=>?_) hm
 subst e;cases r3;exact lq ⟨H3,I3,q3⟩
def F3(K:ae)(x:V)(H:Hp)(k:Bool):Prop:=
 match x with
 |.non=>k=false
 |.bl b=>k=b
 |.int i=>k=(i !=0)
 |.str y=>y.length<=sizeLine/\k=((y.length:Int) !=0)
 |.byt y=>y.size<=sizeLine/\k=((y.size:Int) !=0)
 |.ref p=>(∃xs,bV K H p xs/\k=!xs.isEmpty)\/(∃xs,dB K H p xs/\k=!xs.isEmpty)\/∃kvs,H p=some (.dK kvs)/\k=!kvs.isEmpty
 |_=>False
theorem U4 (r:KV kvs vs):(!vs.isEmpty)=!kvs.isEmpty:=by
 cases r<;>rfl
theorem Kn (r:aV xs its):(!its.toArray.isEmpty)=!xs.isEmpty:=by
 cases r<;>simp
theorem sS:(sizeLine:Nat)<2^63:=by decide
theorem aeI:ahJ X (λx H Q=>∃k,F3 X.K x H k/\Q k H):=by
 intro BP s σ H x v Q I rx h;obtain⟨k,e,q⟩:=h;have hl:=sS;have hs:sizeLine=16777216:=kg;cases x with
 |non=>
  cases rx;have e':k=false:=e;subst e';exact truthy_none ⟨H,I,q⟩
 |bl b=>
  cases rx;have e':k=b:=e;subst e';exact lq ⟨H,I,q⟩
 |int i=>
  obtain⟨t,rfl⟩:=rx;have e':k=(i !=0):=e;subst e';exact PySem.P.truthy_int ⟨H,I,q⟩
 |str y=>
  obtain⟨t,rfl⟩:=rx;obtain⟨hy,e'⟩:y.length<=sizeLine/\k=((y.length:Int) !=0):=e;subst e';exact PySem.P.truthy_str 1#a ⟨H,I.tok _,q⟩
 |byt y=>
  obtain⟨t,rfl⟩:=rx;obtain⟨hy,e'⟩:y.size<=sizeLine/\k=((y.size:Int) !=0):=e;subst e';exact PySem.W.truthy_bytes 1#a ⟨H,I.tok _,q⟩
 |ref p=>
  cases rx;have e':=e;rcases e' with⟨xs,hx,e'⟩|⟨xs,hx,e'⟩|⟨kvs,hx,e'⟩
  .subst e'
   obtain⟨its,r,pl,hz⟩:=I.list hx;have hlen:=r.length;exact wpAny_truthy_list pl.isList (by simp only[bj];omega) ⟨H,I.tok _,by rw[Kn r];exact q⟩
  .subst e'
   obtain⟨its,r,pl,hz⟩:=I.tuple hx;have hlen:=r.length;exact truthy_tuple pl (by simp only[bj];omega) ⟨H,I.tok _,by rw[Kn r];exact q⟩
  .subst e'
   obtain⟨hz,hS,vs,r,m⟩:kvs.length<=sizeLine/\(p==sysModules)=false/\∃vs,KV kvs vs/\s.heap.DictOf (Jg X.prog X.w) p vs:=I.hok p _ hx;have hlen:kvs.length=vs.length:=zo r;exact wpAny_truthy_dict hS m 1#a ⟨H,I.tok _,by rw[U4 r];exact q⟩
 |_=>exact(show False from e).elim
theorem abo(ha:PE X a ta)(he:∀whole,isTrue a X.env whole=(do let v <-whole;standAt a.pos;holding [v] (truthy v))):
  PT X a (λσ H Q=>ta σ H λx H'=>∃k,F3 X.K x H' k/\Q k H'):=by
 intro BP s σ H Q I h;exact isTrue_plain (aY (ha _ s _ H _ I h) λv s1 ⟨x,H1,I1,r1,q1⟩=>aeI _ _ _ _ x v Q I1 r1 q1) (he _)
theorem jR (r:aV [x] us):∃u,us=[u]/\bS x u:=by
 cases r with
 |cons r1 r2=>cases r2;exact⟨_,rfl,r1⟩
theorem E3 (r:aV [x,y] us):∃u w',us=[u,w']/\bS x u/\bS y w':=by
 cases r with
 |cons r1 r2=>
  cases r2 with
  |cons r3 r4=>cases r4;exact⟨_,_,rfl,r1,r3⟩
theorem ach:iM X (.builtin "abs") (λxs H Q=>∃i,xs=[.int i]/\Q (.int (if i<0 then-i else i)) H):=by
 intro BP s σ H xs us Q I r h;obtain⟨i,rfl,q⟩:=h;obtain⟨u,rfl,t,rfl⟩:=jR r;exact call_abs_int λu tk=>⟨.int _,H,I.tok _,⟨_,rfl⟩,q⟩
theorem aal:iM X (.type "int") (λxs H Q=>(∃i,xs=[.int i]/\Q (.int i) H)\/∃k,xs=[.bl k]/\Q (.int (if k then 1 else 0)) H):=by
 intro BP s σ H xs us Q I r h;rcases h with⟨i,rfl,q⟩|⟨k,rfl,q⟩
 .obtain⟨u,rfl,t,rfl⟩:=jR r
  exact call_int_int ⟨.int i,H,I,⟨_,rfl⟩,q⟩
 .obtain⟨u,rfl,r1⟩:=jR r
  cases r1;exact call_int_bool ⟨.int _,H,I.tok _,⟨_,rfl⟩,q⟩
end
structure Fk(h:Heap)(x dx C:Addr)(mA:Str->BG):Prop where
 obj:h.get? x=some (vj C dx)
 ns:h.Ns1 dx mA
 ne:dx≠x
theorem aax{h:Heap}{dx:Addr}{mA:Str->BG}(n:h.Ns1 dx mA):∃od,h.get? dx=some od/\∀name,vp name od=some (mA name):=by
 obtain⟨o,es,ep,ho,hd,hk,_,hm⟩:=n;refine⟨o,ho,λname=>?_⟩;have e:=hm name;unfold nsFind findBy at e;rw[<-Array.find?_toList]at e;unfold vp;rw[hd];dsimp only;split
 .simp_all
 .rename_i q
  rw[q]at e;have a:es.toList.any (·.refKey)=false:=by
   rw[List.any_eq_false];intro y hy;obtain⟨z,t,hkey⟩:=hk y (Array.mem_toList_iff.mp hy);simp[DictEntry.refKey,hkey]
  have a':¬es.toList.any (·.refKey)=true:=by rw[a];simp_all
  rw[if_neg a'];exact congrArg _ e
theorem Fk.look (I:Fk h x dx C mA):∃od,PySem.W.InstAt h x (vj C dx) C (some od)/\∀name,vp name od=some (mA name):=
 let⟨od,ho,hl⟩:=aax I.ns
 ⟨od,⟨I.obj,rfl,rfl,ho⟩,hl⟩
section
variable{P:Program}{w:am}{H:Hp}{h:Heap}{a C dx:Addr}{fs:List (Str×V)}
theorem ac8(hok:fN P w H h)(e:H a=some (.ins C dx fs)):∃mA,Fk h a dx C mA/\(∀f,Ck (fs.lookup f) (mA f))/\zp mA (fs.map (·.1))/\fs.length<=1000/\H dx=some (.own a):=by
 obtain⟨d,z,ne,ob,mA,n,r,q⟩:=show fU P w H h a _ from hok a _ e;exact⟨mA,⟨ob,n,ne⟩,r,q,z,d⟩
end
structure Sk(K:ae)(C:Addr):Prop where
 pg:zz K C Str.empty=true
 hd:PySem.W.hasDictIn K C=true
 po:PySem.W.plainOver K C=true
 sa:vq K (.ref C) "__setattr__"=some (some (.builtin "object.__setattr__"))
theorem Sk.get{K:ae}{C:Addr}(c:Sk K C)(f:Str):zz K C f=true:=c.pg
structure Jk(K:ae)(C:Addr)(f:Str)(v:V)(u:Value):Prop where
 at_:vq K (.ref C) f=some (some u)
 rel:bS v u
 get:a5 K u "__get__"=some none
 cp:PySem.W.copiedNames.contains f=false
section
variable{X:Cx}{BP:List (Addr×Obj)}{σ:St}{H:Hp}{s:aa}{A:aq}{E:Value->aa->Prop}{Q:Value->aa->Prop}{c:Value}{b:Bool}
inductive kM(K:ae)(H:Hp):V->Value->Prop where
 |non:kM K H .non (.type "NoneType")
 |bl (x:Bool):kM K H (.bl x) (.type "bool")
 |int (i:Int):kM K H (.int i) (.type "int")
 |str (x:Str):kM K H (.str x) (.type "str")
 |flt (x:UInt64):kM K H (.flt x) (.type "float")
 |lst {a:Addr} {xs:List V} (e:H a=some (.lst xs)):kM K H (.ref a) (.type "list")
 |frz {a:Addr} {o:Obj} {xs:List V} (e:H a=some (.frz o (.lst xs))):kM K H (.ref a) (.type "list")
 |tup {a:Addr} {xs:List V} (e:H a=some (.tup xs)):kM K H (.ref a) (.type "tuple")
 |dK {a:Addr} {kvs:List (iY×V)} (e:H a=some (.dK kvs)):kM K H (.ref a) (.type "dict")
 |dT {a:Addr} {kvs:List (List iY×V)} (e:H a=some (.dT kvs)):kM K H (.ref a) (.type "dict")
 |ins {a C dx:Addr} {fs:List (Str×V)} (e:H a=some (.ins C dx fs)) (cl:Sk K C) (ha:vq K (.ref C) "__class__"=some (some (.builtin "object.__class__")))
   (hn:a5 K (.builtin "object.__class__") "__get__"=some (some (.builtin "getset_descriptor.__get__"))) (htk:PySem.W.takesIn K (.builtin "object.__class__")=some true)
   (hm:PySem.W.mroIn K C (.type "object")=some true):kM K H (.ref a) (.ref C)
theorem X4 {u t:Value}(I:aG X BP σ H s)(rx:bS x u)(ty:kM X.K H x t)(e:nr X.K t c=some b)(h:∀tk,Q (.bool b) {s with toks:=tk}):
  wpAny 1#g A (call (.builtin "isinstance") [u,c]) Q E s:=by
 cases ty with
 |non=>cases show u=dk from rx;exact je PySem.W.kitx_none I.kIn qh e (by grind) h
 |bl y=>cases show u=pk y from rx;exact je PySem.W.kitx_bool I.kIn qh e (by grind) h
 |int i=>obtain⟨t,q⟩:=show ∃t,u=ph i t from rx;cases q;exact je PySem.W.kitx_int I.kIn qh e (by grind) h
 |str y=>obtain⟨t,q⟩:=show ∃t,u=vh y t from rx;cases q;exact je PySem.W.kitx_str I.kIn qh e (by grind) h
 |flt y=>obtain⟨t,q⟩:=show ∃t,u=Value.float y t from rx;cases q;exact je PySem.W.kitx_float I.kIn qh e (by grind) h
 |@lst a xs ea=>
  cases show u=cx a from rx;obtain⟨_,_,n,_,h1⟩:=(show fU _ _ H _ a _ from I.hok a _ ea);exact je vt I.kIn ⟨_,h1,rfl⟩ e (by grind) h
 |@frz a ob xs ea=>
  cases show u=cx a from rx;obtain⟨_,_,_,n,_,h1⟩:=(show fU _ _ H _ a _ from I.hok a _ ea);exact je vt I.kIn ⟨_,h1,rfl⟩ e (by grind) h
 |@tup a xs ea=>
  cases show u=cx a from rx;obtain⟨_,_,_,p⟩:=(show fU _ _ H _ a _ from I.hok a _ ea);obtain⟨o,h1,h2,_⟩:=p;exact je a6 I.kIn ⟨o,h1,h2⟩ e (by grind) h
 |@dK a kvs ea=>
  cases show u=cx a from rx;obtain⟨_,_,vs,_,p⟩:=(show fU _ _ H _ a _ from I.hok a _ ea);obtain⟨o,es,ep,h1,h2,_⟩:=p;exact je a7 I.kIn ⟨o,h1,h2.1⟩ e (by grind) h
 |@dT a kvs ea=>
  cases show u=cx a from rx;obtain⟨_,_,xs,_,o,es,ep,h1,h2,_⟩:=(show fU _ _ H _ a _ from I.hok a _ ea);exact je a7 I.kIn ⟨o,h1,h2.1⟩ e (by grind) h
 |@ins a C dx fs ea cl ha hn htk hm=>
  cases show u=cx a from rx;obtain⟨mA,O,_⟩:=ac8 I.hok ea;obtain⟨od,J,_⟩:=O.look;exact je (PySem.W.kitx_own (cl.get _) cl.hd ha hn htk hm) I.kIn J e (by grind) h
end
structure dP(k:Nat)(A:aq):Prop where
 hd:A.handled=none
 dp:A.depth+3*k+5<recursionLimit
 un:A.units+16*k+200<cLine
theorem dP.mono{j k:Nat}{A:aq}(r:dP k A)(h:j<=k):dP j A:=⟨r.hd,by have:=r.dp;omega,by have:=r.un;omega⟩
theorem dP.deeper (r:dP (k+1) A)(env:bn):dP k (A.deeper env):=
 ⟨r.hd,by have:=r.dp;show A.depth+1+3*k+5<_;omega,by have:=r.un;show A.units+3+16*k+200<_;omega⟩
theorem dP.depth (r:dP k A):A.depth<recursionLimit:=by have:=r.dp;omega
theorem dP.units (r:dP k A):A.units+64<cLine:=by have:=r.un;omega
def ahx:TA:=λ_ H Q=>Q [] H
def agF(ta:TE)(tr:TA):TA:=λσ H Q=>ta σ H λx H1=>tr σ H1 λxs H2=>Q (x::xs) H2
section
variable{X:Cx}{e:ah}{es:List ah}{te:TE}{t:TA}{pos:ai}
theorem nS:PA X [] ahx:=λ_ _ _ _ H Q I h=>Calls.spliced_nil ⟨[],H,I,.nil,h⟩
theorem mL(ha:PE X e te)(hr:PA X es t)(hs:autoParam (starEach (e::es) X.env=(false,eval e X.env)::starEach es X.env) Zqq):PA X (e::es) (agF te t):=by
 intro pos BP s σ H Q I h;rw[hs];show wpAny _ _ (spliced ((false,eval e _)::backTo _ _)) _ _ s;refine Calls.spliced_cons (aY (ha _ s _ H _ I h) λu s1 hq=>?_);rcases hq with⟨x,H1,I1,r1,q1⟩;exact aY (hr _ _ _ _ _ _ I1 q1) λus s2 ⟨xs,H2,I2,r2,q2⟩=>⟨x::xs,H2,I2,.cons r1 r2,q2⟩
def ahe(t:TA):TE:=λσ H Q=>t σ H λxs H1=>xs.length<=sizeLine/\∀p,H1 p=none->Q (.ref p) (aM H1 p (.tup xs))
def ahp(t:TA):TE:=λσ H Q=>t σ H λxs H1=>xs.length<=sizeLine/\∀p,H1 p=none->Q (.ref p) (aM H1 p (.lst xs))
theorem afQ (h:PA X es t):PE X (.Tuple es x1 pos) (ahe t):=by
 intro BP s σ H Q I hq;refine wpAny_Tuple_spliced (aY (h _ _ s _ H _ I hq) λus s1 ⟨xs,H1,I1,r,z,q⟩=>⟨by rw[<-r.length];exact z,?_⟩);have hf:=I1.hok.fresh (aj _);refine⟨.ref _,aM _ _ _,I1.laid (λb u e=>ar _ e) (aj _) ?_,rfl,q _ hf⟩;exact⟨⟨z,_,cy _ rfl,rfl⟩,us,r,⟨_,cy _ rfl,rfl,_,rfl⟩⟩
theorem zX(h:PA X es t):PE X (.List es pos) (ahp t):=by
 intro BP s σ H Q I hq;refine wpAny_List_spliced (aY (h _ _ s _ H _ I hq) λus s1 ⟨xs,H1,I1,r,z,q⟩=>⟨by rw[<-r.length];exact z,?_⟩);have hf:=I1.hok.fresh (aj _);refine⟨.ref _,aM _ _ _,I1.laid (λb u e=>ar _ e) (aj _) ?_,rfl,q _ hf⟩;exact⟨z,us,0,r,cy _ rfl⟩
end
abbrev Sp:=List V->Hp->VK->XK->Prop
abbrev kR:=List bn->Hp->aa->XK->Value->aa->Prop
structure Ib(P:Program)(w:am)(K:ae)(mg:Str->BG)(base:Heap)(A:aq)(outer:List bn)(s:aa)(H:Hp):Prop where
 frames:A.frames=some outer
 mod:Mod K mg base
 bs:∀b o,base.get? b=some o->s.heap.get? b=some o/\H b=none
 bsz:base.objs.size<=s.heap.objs.size
 funs:s.heap.FunFrames base outer
 frf:∀b∈fP outer,H b=none
 hok:fN P w H s.heap
 bare:jt s.gens
def CE(outer:List bn)(P:Program)(w:am)(H:Hp)(s:aa)(Q:VK)(u:Value)(s':aa):Prop:=
 ∃v H',s'.os=s.os/\jt s'.gens/\Un (fP outer) [] H H' s.heap s'.heap/\fN P w H' s'.heap/\bS v u/\Q v H'
def CR(CX:kR)(outer:List bn)(P:Program)(w:am)(H:Hp)(s:aa)(Q:VK)(E:XK)(r:qi)(s':aa):Prop:=
 match r with
 |.ok (.ret u)=>CE outer P w H s Q u s'
 |.ok _=>False
 |.error e=>CX outer H s E e s'
structure eO(P:Program)(w:am)(K:ae)(mg:Str->BG)(base:Heap)(CX:kR)(k:Nat)(f:Addr)(fd:cg)(ps:List Str)(sp:Sp):Prop where
 len:∀vs H Q E,sp vs H Q E->vs.length=ps.length
 run:∀(A:aq)(outer:List bn)(s:aa)(H:Hp)(args:Args)(us:BF)(vs:List V)(Q:VK)(E:XK),dP k A->Ib P w K mg base A outer s H->nu s fd args (ps.zip us)->aV vs us->sp vs H Q E->
  codeAny (model P w) A (.call (.ref f) args) (CR CX outer P w H s Q E) s
theorem eO.imp {K:ae}{mg:Str->BG}{base:Heap}{CX:kR}{k:Nat}{f:Addr}{fd:cg}{ps:List Str}{sp sp':Sp}(F:eO P w K mg base CX k f fd ps sp)
  (h:∀vs H Q E,sp' vs H Q E->sp vs H Q E):eO P w K mg base CX k f fd ps sp':=
 ⟨λvs H Q E q=>F.len _ H Q E (h _ _ _ _ q),λA outer s H args us vs Q E hr he hb hv hs=>F.run A _ s H _ _ _ Q E hr he hb hv (h _ _ _ _ hs)⟩
section
variable{X:Cx}{BP:List (Addr×Obj)}{σ:St}{H:Hp}{s s':aa}
theorem aG.env0(I:aG X BP σ H s):Ib X.prog X.w X.K X.mg X.base X.A X.stack s H:=
 ⟨I.ok.frames,I.ok.mod,I.bs,fx I.ok.bsz I.sz,I.stack,I.stkFree,I.hok,I.bare⟩
theorem aG.after (I:aG X BP σ H s)(h:CE X.stack X.prog X.w H s Q u s'):EP X BP σ Q u s':=by
 obtain⟨v,H',os,bare,un,hok,r,q⟩:=h;obtain⟨hh,g,d,t,os'⟩:=s';obtain rfl:os'=s.os:=os;exact⟨v,H',I.call un hok bare λb z=>absurd z 1#d,r,q⟩
end
def ag4(sp:Sp)(dvs:List V)(E:XK)(t:TA):TE:=λσ H Q=>t σ H λvs H1=>sp (vs++dvs) H1 Q E
def kJ(K:ae)(fd:cg)(ps:List Str)(ds:BF):Prop:=
 ∀(s:aa)(us:BF),K.In s.heap->(us++ds).length=ps.length->nu s fd ⟨us,[]⟩ (ps.zip (us++ds))
theorem kJ.all{K:ae}{fd:cg}{ps:List Str}(h:∀us:BF,us.length=ps.length->bindArgs fd ⟨us,[]⟩=pure (ps.zip us)):kJ K fd ps []:=λs us _ hl=>by
 rw[jb]at hl⊢;exact .of_eq (h _ hl)
def Th(CX:kR)(X:Cx)(E:XK):Prop:=∀(BP:List (Addr×Obj))(σ:St)(H:Hp)(s:aa)(e:Value)(s':aa),aG X BP σ H s->CX X.stack H s E e s'->X.xe e s'
section
variable{X:Cx}{CX:kR}{k:Nat}{f:Addr}{fd:cg}{ps:List Str}{sp:Sp}{dvs:List V}{ds:BF}{E:XK}{x:Str}{p pos:ai}{e:ah}{es:List ah}{t:TA}
theorem afJ {σ:St}{H:Hp}{s:aa}{Q:VK}{us:BF}{vs:List V}(F:eO X.prog X.w X.K X.mg X.base CX k f fd ps sp)(hr:dP k X.A)(hb:kJ X.K fd ps ds)(hd:aV dvs ds)(hx:Th CX X E)
  (I:aG X BP σ H s)(r:aV vs us)(h:sp (vs++dvs) H Q E):wpAny 1#g X.A (call (.ref f) us) (EP X BP σ Q) X.xe s:=by
 have r2:=r.append hd;have hl:(us++ds).length=ps.length:=by rw[<-r2.length];exact F.len _ _ _ _ h
 refine wpAny_call (qj (F.run _ _ s H _ _ _ Q E hr I.env0 (hb s _ I.kIn hl) r2 h) λr s' hq=>?_);cases r with
 |error e=>exact hx _ _ H s e _ I hq
 |ok fl=>
  cases fl with
  |ret u=>exact I.after hq
  |next=>exact kh hq
  |brk=>exact kh hq
  |cont=>exact kh hq
theorem uX(F:eO X.prog X.w X.K X.mg X.base CX k f fd ps sp)(hr:dP k X.A)(hg:Gl X x)(hm:X.mg x=some (.ref f))(hk:gw X.K (.ref f)=true)(hb:kJ X.K fd ps ds)(hd:aV dvs ds)(hx:Th CX X E)
  (ha:PA X (e::es) t)(hdb:autoParam ((x==("__debug__":Str))=false) Zqw)(he:autoParam (starEach (e::es) X.env=(false,eval e X.env)::starEach es X.env) Zqq)(hpl:autoParam ((backTo pos (starEach es X.env)).any (·.1)=false) Zqq):
  PE X (.Call (.Name x p) (e::es) [] pos) (ag4 sp dvs E t):=by
 intro BP s σ H Q I h;refine vw (Zf I hg hm ?_ hdb);refine PySem.W.callWith_K I.ok.mod.kin hk (aY (ha _ _ s _ H _ I h) λus s1 ⟨vs,H1,I1,r,q⟩=>⟨I1.kIn,?_⟩) he hpl;exact afJ F hr hb hd hx I1 r q
end
structure iZ(N P:List Str)(sc:Scope):Prop where
 kind:sc.kind=.function
 co:sc.isCoroutine=false
 gen:sc.isGenerator=false
 nd:N.Nodup
 pre:N.take P.length=P
 par:∀x∈P,sc.names.lookup x=some .local\/sc.names.lookup x=some .cell
 nofree:∀y∈sc.names,y.2≠.free
theorem Yo{kindOf:Str->Option ig}{x:Str}:∀{binds:List (Str×Value)}{m:Str->BG},(∀v,(x,v)∉binds)->bindL kindOf binds m x=m x
 |[],_,_=>rfl
 |(n,v)::r,m,h=>by
  unfold bindL;rw[Yo λw hw=>h w (bh _ hw)];split
  .have:x≠n:=by rintro rfl;exact h v av
   simp_all
  rfl
theorem Xp{kindOf:Str->Option ig}{x:Str}:∀{binds:List (Str×Value)}{m:Str->BG},(∀v,(x,v)∉binds)->bindC kindOf binds m x=m x
 |[],_,_=>rfl
 |(n,v)::r,m,h=>by
  unfold bindC;rw[Xp λw hw=>h w (bh _ hw)];split
  .rfl
  .have:x≠n:=by rintro rfl;exact h v av
   simp_all
theorem Vp{kindOf:Str->Option ig}{x:Str}{v:Value}:∀{P:List Str}{vs:BF}{i:Nat}{m:Str->BG},P.Nodup->P[i]?=some x->vs[i]?=some v->kindOf x=some .local->
  bindL kindOf (P.zip vs) m x=some v
 |[],_,_,_,_,h,_,_=>by simp at h
 |_::_,[],_,_,_,_,h,_=>by simp at h
 |p::P,w::vs,0,m,nd,h1,h2,hk=>by
  simp at h1 h2;subst h1;subst h2;show bindL kindOf ((p,w)::P.zip vs) m p=_;unfold bindL;rw[Yo λv hv=>(jc.mp nd).1 (vz hv).1,if_pos hk];simp
 |p::P,w::vs,i+1,m,nd,h1,h2,hk=>by
  unfold bindL;exact Vp (jc.mp nd).2 (by simpa using h1) (by simpa using h2) hk
theorem Wp{kindOf:Str->Option ig}{x:Str}{v:Value}:∀{P:List Str}{vs:BF}{i:Nat}{m:Str->BG},P.Nodup->P[i]?=some x->vs[i]?=some v->kindOf x≠some .local->
  bindC kindOf (P.zip vs) m x=some v
 |[],_,_,_,_,h,_,_=>by simp at h
 |_::_,[],_,_,_,_,h,_=>by simp at h
 |p::P,w::vs,0,m,nd,h1,h2,hk=>by
  simp at h1 h2;subst h1;subst h2;show bindC kindOf ((p,w)::P.zip vs) m p=_;unfold bindC;rw[Xp λv hv=>(jc.mp nd).1 (vz hv).1,if_neg hk];simp
 |p::P,w::vs,i+1,m,nd,h1,h2,hk=>by
  unfold bindC;exact Wp (jc.mp nd).2 (by simpa using h1) (by simpa using h2) hk
def start(N:List Str)(vs:List V):St:=vs.map some++rm (N.length-vs.length) none
def fF(CX:kR)(P:Program)(w:am)(K:ae)(mg:Str->BG)(base:Heap)(N:List Str)(qual:Str)(scope:Scope)(f:Addr)(cd:Value)(A:aq)(outer:List bn)(s:aa)(H:Hp)(E:XK):Cx where
 prog:=P
 w:=w
 K:=K
 mg:=mg
 base:=base
 A:=A.deeper (envOfC qual scope s.heap.objs.size f cd)
 N:=N
 BQ:=s
 BR:=H
 env:=envOfC qual scope s.heap.objs.size f cd
 outer:=outer
 stack:=envOfC qual scope s.heap.objs.size f cd::outer
 ex:=[]
 calm:=true
 fn:=λ_=>true
 pn:=[]
 xe:=λe s'=>wpAny (model P w) (A.deeper (envOfC qual scope s.heap.objs.size f cd)) (leaving (envOfC qual scope s.heap.objs.size f cd) e) (λ_ s''=>CX outer H s E e s'') (λe' s''=>CX outer H s E e' s'') s'
theorem Xs{sc:Scope}{n:Nat}{x:Str}(h:sc.names.lookup x=some .cell):∃c,(cellsFrom n sc.names []).lookup x=some c:=by
 have q:=a8 _ n [] (.inl h);exact Option.isSome_iff_exists.mp q
theorem aaz{CX:kR}{P:Program}{w:am}{K:ae}{mg:Str->BG}{base:Heap}{N ps:List Str}{qual:Str}{scope:Scope}{f:Addr}{cd:Value}{A:aq}{outer:List bn}{s s1:aa}{H:Hp}{E:XK}{us:BF}{vs:List V}
  (S:iZ N ps scope)(hd:A.handled=none)(e0:Ib P w K mg base A outer s H)(hl:vs.length=ps.length)(r:aV vs us)
  (x:InCallC s s.heap.objs.size (bindL (envOfC qual scope s.heap.objs.size f cd).kindOf (ps.zip us) λ_=>none) (cellsFrom (s.heap.objs.size+1) scope.names []) (bindC (envOfC qual scope s.heap.objs.size f cd).kindOf (ps.zip us) λ_=>none) s1):
  aG (fF CX P w K mg base N qual scope f cd A outer s H E) [] (start N vs) H s1:=by
 have hpl:ps.length<=N.length:=by have:=congrArg qk S.pre;rw[ku]at this;omega
 obtain⟨h1,tk,rfl,hk⟩:=x.done;have noA:∀b:Addr,b∉(fF CX P w K mg base N qual scope f cd A outer s H E).ex:=λb z=>absurd (show b∈([]:List Addr) from z) 1#d;refine⟨⟨e0.mod,S.kind,rfl,rfl,aj _,λy z c h1 h2=>?_,λy hy=>?_,λy c _ h=>?_,λ_=>hd,Around.frames_deeper e0.frames,.inr ⟨rfl,rfl⟩,λb z=>absurd z (noA b),e0.bs,e0.bsz,λb _ _=>noA b,λb z=>absurd z (noA b),e0.funs,e0.frf⟩,
  rfl,e0.bare,Un.kept hk,⟨_,x.toInCall.ns,λi y v h1 h2 h3=>?_⟩,λy c h=>⟨_,x.cell y c h⟩,e0.hok.fresh (aj _),λy c h=>?_,λp hp=>absurd (show p∈[] from hp) 1#d,e0.hok.kept hk,?_⟩
 .exact name_of_addr x.apart (jv h1) (jv h2)
 .have hy:=hy
  rcases hy with hy |hy
  .exact Xs hy
  .exact absurd rfl (S.nofree _ (jv hy))
 .exact pw (x.above y c (jv h))
 .have hi:i<vs.length:=by
   unfold start at h2
   by_cases hi:i<vs.length
   .exact hi
   .rw[ee (by simpa using hi)]at h2
    rw[a9]at h2;split at h2<;>cases h2
  have ha:vs[i]?=some v:=by
   unfold start at h2;rw[fw (by simpa using hi),aw]at h2;cases e:vs[i]? with
   |none=>rw[e]at h2;cases h2
   |some a=>rw[e]at h2;cases h2;rfl
  obtain⟨u,hu,rv⟩:=r.get ha;have hp:ps[i]?=some y:=by
   rw[<-S.pre,List.getElem?_take_of_lt 1#a];exact h1
  have ndP:ps.Nodup:=by rw[<-S.pre];exact S.nd.sublist (List.take_sublist _ _)
  refine⟨u,rv,?_⟩;rcases S.par y (dh hp)with k |k
  .exact .inl ⟨k,Vp ndP hp hu k⟩
  .obtain⟨c,e⟩:=Xs k
   refine .inr ⟨.inl k,c,e,?_⟩;have q:=x.cell y c e;rw[Wp ndP hp hu (by show scope.names.lookup y≠_;rw[k];decide)]at q;exact q
 .exact e0.hok.fresh (pw (x.above y c (jv h)))
 .unfold start
  show _=N.length;grind
theorem Dj {P:Program}{w:am}{K:ae}{mg:Str->BG}{base:Heap}{k:Nat}{f:Addr}{name qual:Str}{params:Arguments}{body:List Stmt}{scope:Scope}{dV kV doc pm cdv ct oc:Value}{an od:BI}
  {osl:Array BG}{N ps:List Str}{sp:Sp}(lk:K.lookup f=some ⟨oc,od,.func (fj name qual params body scope dV kV doc pm an cdv ct),osl⟩)(hcd:jw K cdv qual=true)(S:iZ N ps scope)
  (len:∀vs H Q E,sp vs H Q E->vs.length=ps.length)
  (hbody:∀(A:aq)(outer:List bn)(s:aa)(H:Hp)(vs:List V)(Q:VK)(E:XK),dP k (A.deeper (envOfC qual scope s.heap.objs.size f cdv))->sp vs H Q E->
   ∃t,gS (fF CX P w K mg base N qual scope f cdv A outer s H E) body t/\t {nx:=λ_ H'=>Q .non H',rt:=Q} (start N vs) H):
  eO P w K mg base CX (k+1) f (fj name qual params body scope dV kV doc pm an cdv ct) ps sp:=by
 refine⟨len,λA outer s H args us vs Q E hr e0 hb r hsp=>?_⟩;have hl:=len _ _ _ _ hsp;have KX:=e0.mod.kin.keeps λb o e=>(e0.bs b o e).1;have lim:=e0.mod.nolimit.keeps λb o e=>(e0.bs b o e).1;have hkind:∀y∈ps.zip us,scope.names.lookup y.1=some .local\/(scope.names.lookup y.1=some .cell/\((cellsFrom (s.heap.objs.size+1) _ []).lookup y.1).isSome=true):=λ⟨n,v⟩ hy=>by
  rcases S.par n (vz hy).1 with q |q
  .exact .inl q
  .exact .inr ⟨q,a8 _ _ _ (.inl q)⟩
 refine codeAny_call_function hr.depth (KX _ _ lk) rfl S.co S.gen rfl (PySem.W.codeRec_of KX hcd) (hb _ _ _ _ ?_);refine wpAny_newFunctionEnv_cells S.kind hkind λenv he s1 x=>?_;subst he;refine⟨lim.keeps x.toInCall.keep,codeAny_func ?_⟩;obtain⟨t,ht,hq⟩:=hbody A _ s H vs Q E (hr.deeper _) hsp;have I:aG (fF CX P w K mg base N qual _ f cdv A _ s H E) [] _ H s1:=aaz S hr.hd e0 hl r x;refine gv (ht [] s1 _ H _ I hq) (λfl s' hs=>?_) λe s' hs=>hs;have fin:∀{σ':St}{H':Hp}{v:V}{u:Value},aG (fF CX P w K mg base N qual scope f cdv A outer s H E) [] σ' H' s'->bS v u->Q v H'->CE _ P w H s Q u s':=
  λ{σ' H' v u} J rv q=>⟨v,H',J.os,J.bare,J.base,J.hok,rv,q⟩
 cases fl with
 |ret u=>
  obtain⟨v,σ',H',J,rv,q⟩:=hs;exact fin J rv q
 |next=>
  obtain⟨σ',H',J,q⟩:=hs;exact fin (v:=V.non) J rfl q
 |brk=>
  obtain⟨_,_,_,q⟩:=hs;exact kh q
 |cont=>
  obtain⟨_,_,_,q⟩:=hs;exact kh q
section
variable{X:Cx}{x:Str}{p pos:ai}{e:ah}{es:List ah}{t:TA}{id T:String}{r:List V->Hp->VK->Prop}
def K2(r:List V->Hp->VK->Prop)(t:TA):TE:=λσ H Q=>t σ H λvs H1=>r vs H1 Q
theorem yT(hc:iM X (.builtin id) r)(hg:Gl X x)(hm:X.mg x=none)(hv:bootBuiltins x=some (.builtin id))(ha:PA X (e::es) t)(hn:autoParam (x≠"__name__") Zqw)(hdb:autoParam ((x==("__debug__":Str))=false) Zqw)
  (he:autoParam (starEach (e::es) X.env=(false,eval e X.env)::starEach es X.env) Zqq)(hpl:autoParam ((backTo pos (starEach es X.env)).any (·.1)=false) Zqq):PE X (.Call (.Name x p) (e::es) [] pos) (K2 r t):=by
 intro BP s σ H Q I h;refine vw (qH I hg hm hv ?_ hn hdb);exact PyProof.Rows.callWith_builtin1 (aY (ha _ _ s _ H _ I h) λus s1 ⟨vs,H1,I1,r1,q1⟩=>hc _ _ _ _ _ _ Q I1 r1 q1) he hpl
theorem yG(hc:iM X (.type T) r)(hg:Gl X x)(hm:X.mg x=none)(hv:bootBuiltins x=some (.type T))(ha:PA X (e::es) t)(hn:autoParam (x≠"__name__") Zqw)(hdb:autoParam ((x==("__debug__":Str))=false) Zqw)
  (he:autoParam (starEach (e::es) X.env=(false,eval e X.env)::starEach es X.env) Zqq)(hpl:autoParam ((backTo pos (starEach es X.env)).any (·.1)=false) Zqq):PE X (.Call (.Name x p) (e::es) [] pos) (K2 r t):=by
 intro BP s σ H Q I h;refine vw (qH I hg hm hv ?_ hn hdb);exact qg (aY (ha _ _ s _ H _ I h) λus s1 ⟨vs,H1,I1,r1,q1⟩=>hc _ _ _ _ _ _ Q I1 r1 q1) he hpl
end
end L2
namespace HT
open PySem PyProof.Rows
def lexLt:BC->BC->Bool
 |[],[]=>false
 |[],_::_=>true
 |_::_,[]=>false
 |x::xs,y::ys=>if x=y then lexLt xs ys else decide (x<y)
theorem lexLt_cons(x y:Int)(xs ys:BC):lexLt (x::xs) (y::ys)=if x=y then lexLt xs ys else decide (x<y):=rfl
theorem M8:lexLt [] []=false:=rfl
theorem M2(y:Int)(ys:BC):lexLt [] (y::ys)=true:=rfl
theorem M4(x:Int)(xs:BC):lexLt (x::xs) []=false:=rfl
theorem abw(A:aq)(s:aa)(a:Int)(t:cv)(c:Int)(u:cv):∃e,jn A s (.int a t) (.int c u) e/\(e=true↔a=c):=
 ⟨ a==c,wg a t c u,by simp⟩
theorem abA(A:aq)(s:aa)(a:Int)(t:cv)(c:Int)(u:cv)(prog:Program)(w:am)(E:Value->aa->Prop)(Q:Value->aa->Prop)(h:Q (.bool (decide (a<c))) s):
  wpAny (model prog w) A (richCompare .Lt (.int a t) (.int c u)) Q E s:=
 PyProof.Rows.lt_int h
section
open PySem.SeqAt
open PySem.AutoSeq1 (wpAny_loadPart')
open PySem.MeetsSeq PySem.MeetsSeq2 PySem.MeetsSeq3
theorem M9(l b:Addr)(items items2:Array Value)(n n2:Nat)(dd dd2:BI)(sl sl2:Array BG)(ns ms:BC)(hi:jk items.toList ns)(hj:jk items2.toList ms):
  Meets (Builtin.«tuple.__lt__» ⟨[.ref l,.ref b],[]⟩)
   (λ_ R s=>s.heap.get? l=some {cls:=.type "tuple",dict:=dd,data:=.seq items n,slots:=sl}/\s.heap.get? b=some {cls:=.type "tuple",dict:=dd2,data:=.seq items2 n2,slots:=sl2}/\
    R (.ok (.ret (.bool (lexLt ns ms)))) s):=
 .of_wp λprog w A R s h=>by
  obtain⟨hp,g,d,tk,os⟩:=s;obtain⟨hl,hb,h⟩:=h;have f2:=c7;have z1:items.size=ns.length:=by rw[<-hi.length];simp
  have z2:items2.size=ms.length:=by rw[<-hj.length];simp
  wp_walk using rn hl,rn hb,wpAny_forIn_list _ (λfL b s'=>b.1=none/\s'=⟨hp,g,d,tk,os⟩/\∃(vs ws:BF)(ns' ms':BC),fL=vs.zip ws/\
   jk vs ns'/\jk ws ms'/\ns'.length+items2.size=ms'.length+items.size/\R (.ok (.ret (.bool (lexLt ns' ms')))) ⟨hp,g,d,tk,os⟩) _
  case turn=>
   rintro⟨y,x⟩ fL b s' ⟨hb',rfl,vs,ws,ns',ms',hz,hvi,hwi,hlen,hR⟩
   cases hvi with
   |nil=>rw[List.zip_nil_left]at hz;cases hz
   |cons a t hvi'=>
    cases hwi with
    |nil=>rw[wj]at hz;cases hz
    |cons c u hwi'=>
     rw[wk]at hz;injection hz with hyx hrest;injection hyx with hy hx;subst hy hx;rw[lexLt_cons]at hR;simp only[cu]at hlen;obtain⟨e,he,hiff⟩:=abw A.in1 ⟨hp,g,d,tk,os⟩ a t c u;refine ag (he prog w _ _ ?_);cases e with
     |true=>
      rw[if_pos (hiff.mp rfl)]at hR
      wp_walk
      exact⟨rfl,rfl,_,_,_,_,hrest,hvi',hwi',by omega,hR⟩
     |false=>
      rw[if_neg (λq=>absurd (hiff.mpr q) jx)]at hR;have hri:=abA A.in1 ⟨hp,g,d,tk,os⟩ a t c u prog w
      wp_walk using hri
      exact⟨_,rfl,by simpa using hR⟩
  case fin=>
   rintro⟨b1,b2⟩ s' ⟨hb',rfl,vs,ws,ns',ms',hz,hvi,hwi,hlen,hR⟩
   simp only at hb';subst hb';have hv:lexLt ns' ms'=decide (items.size<items2.size):=by
    cases hvi with
    |nil=>
     cases hwi with
     |nil=>
      simp only[wm]at hlen;rw[M8];exact(decide_eq_false 1#a).symm
     |cons c u hw=>
      simp only[wm,cu]at hlen;rw[M2];exact(decide_eq_true 1#a).symm
    |cons a t hv=>
     cases hwi with
     |nil=>
      simp only[wm,cu]at hlen;rw[M4];exact(decide_eq_false 1#a).symm
     |cons c u hw=>
      rw[wk]at hz;cases hz
   rw[hv]at hR
   wp_walk
   exact⟨_,rfl,by simpa[Builtin.Tuple.tupleCompareSizes]using hR⟩
  case h=>
   exact⟨rfl,rfl,items.toList,items2.toList,ns,ms,rfl,hi,hj,by omega,h⟩
end
section
variable{prog:Program}{w:am}{A:aq}{E:Value->aa->Prop}{s:aa}
theorem lt_tupInts {items items2:Array Value}{ns ms:BC}{Q:Value->aa->Prop}(hl:lh s.heap l items)(hb:lh s.heap b items2)(hi:jk items.toList ns)(hj:jk items2.toList ms)
  (hu:A.units<cLine)(h:Q (.bool (lexLt ns ms)) s):wpAny (model prog w) A (compareOp .Lt (.ref l) (.ref b)) Q E s:=by
 obtain⟨⟨cls,dd,data,sl⟩,ho,hc,n,hd⟩:=id hl;obtain⟨⟨cls2,dd2,data2,sl2⟩,ho2,hc2,n2,hd2⟩:=id hb;simp only at hc hd hc2 hd2;subst hc hd hc2 hd2;exact richCompare_meets_room (op:=.Lt) ⟨_,ho,rfl⟩ ⟨_,ho2,rfl⟩ PySem.F.slot_tuple_lt PySem.F.entry_tuple_lt (PySem.F.args_tuple_lt_2 _ _) (M9 l b _ _ n _ _ _ _ _ _ _ hi hj)
  ⟨ho,ho2,show pk _≠Value.notImplemented/\Q _ s from⟨(by grind),h⟩⟩ hu
theorem cat_tup {vs ws:BF}{Q:Value->aa->Prop}(ht:lh s.heap t vs.toArray)(hb:lh s.heap b ws.toArray)(hv:vs≠[])
  (h1:ws=[]->Q (.ref t) s)(h2:ws≠[]->Q (.ref s.heap.objs.size) {s with heap:=s.heap.push {cls:=.type "tuple",data:=.seq (vs++ws).toArray}})
  (hsz:vs.length+ws.length<=sizeLine):wpAny (model prog w) A (binaryOp .Add (.ref t) (.ref b)) Q E s:=by
 obtain⟨⟨cls,dd,data,sl⟩,ho,hc,n,hd⟩:=id ht;obtain⟨⟨cls2,dd2,data2,sl2⟩,ho2,hc2,n2,hd2⟩:=id hb;simp only at hc hd hc2 hd2;subst hc hd hc2 hd2;have e:vs.toArray++ws.toArray=(vs++ws).toArray:=by simp
 by_cases hw:ws=[]
 .exact se ⟨_,ho,rfl⟩ ⟨_,ho2,rfl⟩ wo wq wr wt (wu _ _)
   (tuple_addW1 t b _ _ n n2 dd _ sl _ (by simpa using hv) (by simp[hw])) ⟨ho,ho2,h1 hw⟩
 .refine se ⟨_,ho,rfl⟩ ⟨_,ho2,rfl⟩ wo wq wr wt (wu _ _)
   (tuple_addW2 t b _ _ n n2 dd _ sl _ (by simpa using hv) (by simpa using hw) (by exact hsz)) ⟨ho,ho2,?_⟩
  rw[e];exact h2 hw
def sIx(n d:Nat):BJ->Nat
 |none=>d
 |some v=>if v<0 then(v+(n:Int)).toNat else min v.toNat n
theorem sIx_nat(n d k:Nat):sIx n d (some (k:Int))=min k n:=rfl
theorem ag6(n d:Nat)(hd:d<=n)(o:BJ):sIx n d o<=n:=by
 cases o with
 |none=>exact hd
 |some v=>
  show(if v<0 then(v+n).toNat else min _ n)<=n<;>grind
theorem Pu(v:Int)(n d:Nat):(if v<0 then max (v+(n:Int)) 0 else min v (n:Int))=((sIx n d (some v):Nat):Int):=by
 show(if v<0 then max _ 0 else min v n)=if v<0 then(v+n).toNat else min _ n;grind
theorem S9(lo hi:BJ)(n:Nat):c8 lo hi 1 (n:Int)=(((sIx n 0 lo:Nat):Int),((sIx n n hi:Nat):Int)):=by
 refine wv ?_ ?_
 .cases lo with
  |none=>rfl
  |some v=>exact Pu v n 0
 .cases hi with
  |none=>rfl
  |some v=>exact Pu v n n
theorem V5(i j:Nat):wx (i:Int) (j:Int) 1=j-i:=by
 unfold wx;grind
theorem Do{v:Value}{o:BJ}{Q:BJ->aa->Prop}(p:kw v o)(h:Q o s):wpAny (model prog w) A (Builtin.Slice.slicePartIndex v) Q E s:=by
 cases p with
 |none=>exact slicePart_none h
 |int i t=>exact slicePart_int h
theorem K8 {vl vu:Value}{lo hi:BJ}{n:Nat}{Q:Int×Int×Nat->aa->Prop}(hs:s.heap.IsSliceOf sl vl vu .none)(pl:kw vl lo)(pu:kw vu hi)
  (h:Q (((sIx n 0 lo:Nat):Int),1,sIx n n hi-sIx n 0 lo) s):wpAny (model prog w) A (Builtin.Slice.sliceApplied (.ref sl) (pure (n:Int))) Q E s:=by
 obtain⟨os,hos,hcs,hds⟩:=id hs;refine ag (ag (ir hos hds (x:=vl) rfl (ag (ir hos hds (x:=vu) rfl (ag (ir hos hds (x:=.none) rfl (ao ?_)))))));refine ag (slicePart_none ?_);refine ag (Do pl (ag (Do pu (ag (ao ?_)))));show wpAny _ _ (match c8 lo hi 1 n with |(lo,hi)=>pure (lo,(1:Int),wx lo hi 1)) _ _ s
 rw[S9 lo hi n];show wpAny _ _ (pure _) _ _ s;rw[V5];exact ao h
theorem aca(xs:Array Value)(i k:Nat):((ck k).filterMap λ(m:Nat)=>xs[((i:Int)+(m:Int)*1).toNat]?).toArray=((xs.toList.drop i).take k).toArray:=by
 have e:(λ(m:Nat)=>xs[(i+(m:Int)*1).toNat]?)=λm=>xs[i+m]?:=by
  grind
 have:=pick_run xs i k;have e2:((λx=>xs[x]?)∘λx=>i+x)=λm=>xs[i+m]?:=rfl
 simp_all
theorem getItem_tuple_cut{t sl:Addr}{items:Array Value}{vl vu:Value}{lo hi:BJ}{Q:Value->aa->Prop}(ht:lh s.heap t items)(hs:s.heap.IsSliceOf sl vl vu .none)(pl:kw vl lo)(pu:kw vu hi)
  (hw:¬(sIx items.size 0 lo=0/\sIx items.size items.size hi=items.size))
  (h:Q (.ref s.heap.objs.size) {s with heap:=s.heap.push {cls:=.type "tuple",data:=.seq ((items.toList.drop (sIx items.size 0 lo)).take (sIx items.size items.size hi-sIx items.size 0 lo)).toArray}})
  (hsz:items.size<=sizeLine):wpAny (model prog w) A (getItem (.ref t) (.ref sl)) Q E s:=by
 have htake:sizeOk (.seq ((items.toList.drop (sIx items.size 0 lo)).take (sIx items.size items.size hi-sIx items.size 0 lo)).toArray):=by
  show((items.toList.drop (sIx items.size 0 lo)).take (sIx items.size items.size hi-sIx items.size 0 lo)).toArray.size<=sizeLine;rw[bj,ku,sf,wy];omega
 obtain⟨os,hos,hcs,hds⟩:=id hs;have hTs:s.TypeIs (.ref sl) "slice":=⟨os,hos,hcs⟩;unfold getItem
 try with_reducible refine ke ?_
 refine ag (wpAny_sequenceKey ht.typeIs 1#b ?_);refine ag (mn ht.typeIs si
  (ki si ht.typeIs entry_tuple_getitem ?_ (args_tuple_getitem _ _)))
 show wpAny _ _ (c9 (.ref t) >>= _) _ _ s;refine ag (tupleItemsOf_ ht ?_);refine ag (wz hTs ?_);rw[if_pos 1#b];refine ag (K8 hs pl pu ?_);have hno:¬((((sIx items.size 0 lo:Nat):Int)==0&&(1:Int)==1&&(sIx items.size items.size hi-sIx items.size 0 lo)==items.size)=true):=by
  grind
 show wpAny _ _ (if(((sIx items.size 0 lo:Nat):Int)==0&&(1:Int)==1&&(sIx items.size items.size hi-sIx items.size 0 lo)==items.size)=true then _ else _) _ _ s;rw[if_neg hno,aca]
 first
  |exact ag (ju (ao ⟨_,rfl,ao h⟩) htake)
  |grind
  |grind
  |grind
end
end HT
namespace L2
open PySem PySem.Spec PyProof.Rows
abbrev TO:=St->Hp->(BJ->Hp->Prop)->Prop
def PO(X:Cx)(e:Option ah)(t:TO):Prop:=
 ∀(BP:List (Addr×Obj))(s:aa)(σ:St)(H:Hp)(Q:BJ->Hp->Prop),aG X BP σ H s->t σ H Q->
  wpAny 1#g X.A (evalPart e X.env) (λu s'=>∃o H',aG X BP σ H' s'/\kw u o/\Q o H') X.xe s
def acS:TO:=λ_ H Q=>Q none H
def af7(t:TE):TO:=λσ H Q=>t σ H λx H1=>∃i,x=.int i/\Q (some i) H1
theorem Wo:∀{us:BF},aV (ns.map V.int) us->jk us ns:=by
 induction ns with
 |nil=>intro us r;cases r;exact .nil
 |cons n ns ih=>
  intro us r;cases r with
  |cons r1 r2=>
   obtain⟨t,e⟩:=r1;subst e;exact .cons n t (ih r2)
section
variable{X:Cx}{e:ah}{te:TE}{lo hi:Option ah}{tl th:TO}{pos p2:ai}
theorem adG:PO X none acS:=by
 intro BP s σ H Q I h;exact ao ⟨none,H,I,.none,h⟩
theorem Ch(h:PE X e te):PO X (some e) (af7 te):=by
 intro BP s σ H Q I hw;refine aY (h _ s _ H _ I hw) ?_
 rintro u s1 ⟨x,H1,I1,r1,q1⟩
 obtain⟨i,rfl,q⟩:=q1;obtain⟨t,rfl⟩:=r1;exact⟨some i,H1,I1,.int i t,q⟩
def pL(X:Cx)(r:V->BJ->BJ->Hp->VK->Prop):Prop:=
 ∀(BP:List (Addr×Obj))(s:aa)(σ:St)(H:Hp)(x:V)(v vl vu:Value)(lo hi:BJ)(sl:Addr)(Q:VK),aG X BP σ H s->bS x v->s.heap.IsSliceOf sl vl vu .none->kw vl lo->kw vu hi->r x lo hi H Q->
  ∃T id,typeLookup (.type T) "__getitem__"=pure (some (.builtin id))/\s.TypeIs v T/\wpAny 1#g X.A (getItem v (.ref sl)) (EP X BP σ Q) X.xe s
theorem pL.or (h:pL X r)(h':pL X r'):pL X (λx lo hi H Q=>r x lo hi H Q\/r' x lo hi H Q):=by
 intro BP s σ H x v vl vu lo hi sl Q I rx hs pl pu q;rcases q with q |q
 .exact h _ s _ H x v _ _ _ _ _ Q I rx hs pl pu q
 .exact h' _ s _ H x v _ _ _ _ _ Q I rx hs pl pu q
def tSl(r:V->BJ->BJ->Hp->VK->Prop)(te:TE)(tl th:TO):TE:=λσ H Q=>te σ H λx H1=>tl σ H1 λl H2=>th σ H2 λu H3=>r x l u H3 Q
theorem acg (hr:pL X r)(he:PE X e te)(hl:PO X lo tl)(hu:PO X hi th):PE X (.Subscript e (.Slice lo hi none p2) pos) (tSl r te tl th):=by
 intro BP s σ H Q I h;refine xa (aY (he _ s _ H _ I h) λv s1 hq=>?_);rcases hq with⟨x,H1,I1,r1,q1⟩;refine wpAny_Slice (aY (hl _ _ _ _ _ I1 q1) λvl s2 ⟨l,H2,I2,pl,q2⟩=>aY (hu _ _ _ _ _ I2 q2) λvu s3 hq=>?_);rcases hq with⟨u,H3,I3,pu,q3⟩;refine ao ?_;have I4:aG X _ _ _ {s3 with heap:=s3.heap.push {cls:=.type "slice",data:=.fields #[vl,vu,.none]}}:=I3.kept λb ob q=>ar _ q;obtain⟨T,id,hT,ht,hg⟩:=hr _ _ _ _ x v _ _ l u _ Q I4 r1 (d5 ..) pl pu q3;exact tail_any ht hT hg (rfl)
def tX(xs:List V)(lo hi:BJ):List V:=(xs.drop (HT.sIx xs.length 0 lo)).take (HT.sIx xs.length xs.length hi-HT.sIx xs.length 0 lo)
theorem xR(xs:List V)(lo hi:BJ):(tX xs lo hi).length<=xs.length:=by
 unfold tX;rw[ku,sf];omega
def ahy(K:ae):V->BJ->BJ->Hp->VK->Prop:=λx lo hi H Q=>∃a xs,x=.ref a/\dB K H a xs/\
 ¬(HT.sIx xs.length 0 lo=0/\HT.sIx xs.length xs.length hi=xs.length)/\∀p,H p=none->Q (.ref p) (aM H p (.tup (tX xs lo hi)))
theorem ae6:pL X (ahy X.K):=by
 intro BP s σ H x v vl vu lo hi sl Q I rx hs pl pu h;obtain⟨a,xs,rfl,hx,hw,q⟩:=h;cases rx;obtain⟨its,r,ht,hz⟩:=I.tuple hx;have hlen:its.toArray.size=xs.length:=by exact r.length.symm
 refine⟨"tuple",_,si.lookup,ht.typeIs,?_⟩;refine HT.getItem_tuple_cut ht hs pl pu (by rw[hlen];exact hw) ?_ (by rw[hlen];exact hz);rw[hlen];refine⟨.ref _,_,I.laid (λb ob q=>ar _ q) (aj _) ?_,rfl,q _ (I.hok.fresh (aj _))⟩;exact⟨⟨fx (xR xs lo hi) hz,_,cy _ rfl,rfl⟩,_,(r.drop _).take _,rl _ _⟩
def Rj(K:ae):R2:=λx y H Q=>∃a b xs ys,x=.ref a/\y=.ref b/\dB K H a xs/\dB K H b ys/\xs≠[]/\xs.length+ys.length<=sizeLine/\
 (ys=[]->Q (.ref a) H)/\(ys≠[]->∀p,H p=none->Q (.ref p) (aM H p (.tup (xs++ys))))
theorem aV.nil_iff (r:aV xs us):us=[]↔xs=[]:=by
 cases r<;>simp_all
theorem Tw:eJ X (binaryOp .Add) (Rj X.K):=by
 intro BP s σ H x y v u Q I rx ry h;obtain⟨a,b,xs,ys,rfl,rfl,ha,hb,hx,hz,q1,q2⟩:=h;cases rx;cases ry;obtain⟨its,r1,p1,_⟩:=I.tuple ha;obtain⟨its2,r2,p2,_⟩:=I.tuple hb;refine HT.cat_tup p1 p2 (λz=>hx (r1.nil_iff.mp z)) (λz=>⟨.ref a,H,I,rfl,q1 (r2.nil_iff.mp z)⟩) (λz=>?_) (by rw[<-r1.length,<-r2.length];exact hz);refine⟨.ref _,_,I.laid (λb ob q=>ar _ q) (aj _) ?_,rfl,q2 (λw=>z (r2.nil_iff.mpr w)) _ (I.hok.fresh (aj _))⟩;exact⟨⟨by rw[ax];exact hz,_,cy _ rfl,rfl⟩,_,r1.append r2,rl _ _⟩
end
def gG(n:Nat)(i:Int):Option Nat:=if 0<=i then(if i<n then some i.toNat else none)else if-(n:Int)<=i then some (i+n).toNat else none
def gH{α:Type}(xs:List α)(i:Int):Option α:=(gG xs.length i).bind λj=>xs[j]?
theorem Ju (h:gG n i=some j):seqIndex? i n=some j/\j<n/\-(n:Int)<=i/\i<n:=by
 unfold gG at h
 by_cases h0:0<=i
 .rw[if_pos h0]at h
  by_cases h1:i<n
  .rw[if_pos h1]at h
   have e:=cq h;exact⟨by rw[xb h0 h1,e],by omega,by omega,h1⟩
  .simp_all
 .rw[if_neg h0]at h
  by_cases h1:-n<=i
  .rw[if_pos h1]at h
   have e:=cq h;exact⟨by rw[xc 1#a h1,e],by omega,h1,by omega⟩
  .simp_all
theorem Sg (h:gH xs i=some v):∃j,seqIndex? i xs.length=some j/\xs[j]?=some v/\j<xs.length/\-(xs.length:Int)<=i/\i<xs.length:=by
 unfold gH at h;cases e:gG _ i with
 |none=>rw[e]at h;cases h
 |some j=>
  rw[e]at h;obtain⟨h1,h2,h3,h4⟩:=Ju e;exact⟨j,h1,h,h2,h3,h4⟩
theorem jK {j:Nat}{v:α}(h:xs[j]?=some v):gH xs (j:Int)=some v:=by
 have hj:=(cf.mp h).1;have e:gG xs.length j=some j:=by
  unfold gG
  simp_all
 unfold gH;rw[e];exact h
theorem aaM (xs:List α)(v:α):gH (xs++[v]) (-1)=some v:=by
 have hl:(xs++[v]).length=xs.length+1:=by simp
 have e:gG (xs++[v]).length (-1)=some xs.length:=by
  unfold gG;grind
 unfold gH;rw[e];simp
def vC(b:ah):Prop:=∀o i,subscripted b false o i=operate [o,i] (getItem o i)
def nF(X:Cx)(r:R2):Prop:=
 ∀(value slice:ah)(BP:List (Addr×Obj))(s:aa)(σ:St)(H:Hp)(x y:V)(v u:Value)(Q:VK),aG X BP σ H s->bS x v->bS y u->r x y H Q->
  subscripted slice false v u=operate [v,u] (getItem v u)->wpAny 1#g X.A (subscriptTail value slice v u) (EP X BP σ Q) X.xe s
def Xb(X:Cx)(id:String)(r:V->List V->Hp->VK->Prop):Prop:=
 ∀(BP:List (Addr×Obj))(s:aa)(σ:St)(H:Hp)(x:V)(xs:List V)(v:Value)(us:BF)(Q:VK),aG X BP σ H s->bS x v->aV xs us->r x xs H Q->
  wpAny 1#g X.A (call (.builtin id) (v::us)) (EP X BP σ Q) X.xe s
section
variable{X:Cx}{a b:ah}{ta tb:TE}{pos:ai}
theorem nF.or (h:nF X r)(h':nF X r'):nF X (λx y H Q=>r x y H Q\/r' x y H Q):=by
 intro value slice BP s σ H x y v u Q I rx ry q hs;rcases q with q |q
 .exact h _ _ _ s _ H x y v u Q I rx ry q hs
 .exact h' _ _ _ s _ H x y v u Q I rx ry q hs
theorem Ta (hr:nF X r)(ha:PE X a ta)(hb:PE X b tb)(hs:vC b):PE X (.Subscript a b pos) (Vb r ta tb):=by
 intro BP s σ H Q I h;exact xa (Zj ha hb I h λv u s2 x y H2 I2 rx ry q=>hr a b _ _ _ _ x y v u Q I2 rx ry q (hs _ _))
def F7(K:ae):R2:=λx y H Q=>∃p xs i v,x=.ref p/\y=.int i/\bV K H p xs/\gH xs i=some v/\Q v H
def E6(K:ae):R2:=λx y H Q=>∃p xs i v,x=.ref p/\y=.int i/\dB K H p xs/\gH xs i=some v/\Q v H
def F4:R2:=λx y H Q=>∃z i c,x=.str z/\y=.int i/\z.length<=sizeLine/\gH z.cps.toList i=some c/\Q (.str ⟨#[c]⟩) H
theorem acU:nF X (F7 X.K):=by
 intro value slice BP s σ H x y v u Q I rx ry h hs;obtain⟨p,xs,i,z,rfl,rfl,hq,he,q⟩:=h;cases rx;obtain⟨t,rfl⟩:=ry;obtain⟨its,r,pl,hz⟩:=I.list hq;obtain⟨j,h1,h2,h3,h4,h5⟩:=Sg he;obtain⟨w,ew,rw'⟩:=r.get h2;have hl:=r.length;have hn:=sS;have fin:EP X BP σ Q w s:=⟨z,H,I,rw',q⟩
 by_cases h0:0<=i
 .have hj:=by
   rw[xb h0 h5]at h1;exact cq h1
  exact item_listR pl.isList h0 1#a (by rw[hj];simpa using ew) fin hs
 .have hj:(i+(its.toArray.size:Int)).toNat=j:=by
   rw[xc 1#a h4]at h1;rw[bj,<-hl];exact cq h1
  exact d6 (x:=w) pl.isList.typeIs xf.lookup
   (wpAny_getItem_list_neg pl.isList 1#a (by rw[bj]<;>omega) 1#a (by rw[hj];simpa using ew) ⟨rfl,fin⟩) hs
theorem aep:nF X (E6 X.K):=by
 intro value slice BP s σ H x y v u Q I rx ry h hs;obtain⟨p,xs,i,z,rfl,rfl,hq,he,q⟩:=h;cases rx;obtain⟨t,rfl⟩:=ry;obtain⟨its,r,pl,hz⟩:=I.tuple hq;obtain⟨j,h1,h2,h3,h4,h5⟩:=Sg he;obtain⟨w,ew,rw'⟩:=r.get h2;have hl:=r.length;have hn:=sS;have fin:EP X BP σ Q w s:=⟨z,H,I,rw',q⟩;exact d6 pl.typeIs si.lookup
  (getItem_tuple pl 1#a 1#a (by rw[bj,<-hl];exact h1) (by simpa using ew) ⟨rfl,fin⟩) hs
theorem afC:nF X F4:=by
 intro value slice BP s σ H x y v u Q I rx ry h hs;obtain⟨z,i,c,rfl,rfl,hz,he,q⟩:=h;obtain⟨t,rfl⟩:=rx;obtain⟨t',rfl⟩:=ry;obtain⟨j,h1,h2,h3,h4,h5⟩:=Sg he;have hl:z.cps.toList.length=z.length:=by simp[Str.length]
 rw[hl]at h1 h4 h5;have hn:=sS;exact tail_any (typeIs_str s z t) slot_str_getitem.lookup (getItem_str (c:=c) (by
  have e1:decide (i< -(2^63:Int))=false:=decide_eq_false 1#a;have e2:decide (i>=2^63)=false:=decide_eq_false 1#a;rw[e1,e2,Bool.or_false]) (by rw[h1];simpa using h2) ⟨.str ⟨#[c]⟩,H,I.tok _,⟨_,rfl⟩,q⟩) hs
def J8(K:ae):R2:=λx y H Q=>F7 K x y H Q\/E6 K x y H Q\/F4 x y H Q
theorem Ey:nF X (J8 X.K):=acU.or (aep.or afC)
theorem V7(its:BF)(n j:Nat)(u:Value):kx (·.setIfInBounds j u) {cls:=.type "list",data:=.seq its.toArray n}={cls:=.type "list",data:=.seq (its.set j u).toArray n}:=by
 simp[kx]
theorem aG.lst {σ:St}{H:Hp}{s:aa}{p:Addr}{xs:List V}(I:aG X BP σ H s)(h:H p=some (.lst xs)):
  ∃(its:BF)(n:Nat),aV xs its/\s.heap.get? p=some {cls:=.type "list",data:=.seq its.toArray n}/\xs.length<=sizeLine:=by
 obtain⟨z,its,n,r,e⟩:=I.hok p _ h;exact⟨its,n,r,e,z⟩
theorem aG.lstUpd {σ:St}{H:Hp}{s:aa}{p:Addr}{xs ys:List V}{its its':BF}{n n':Nat}{f:Obj->Obj}(I:aG X BP σ H s)(h:H p=some (.lst xs))
  (ho:s.heap.get? p=some {cls:=.type "list",data:=.seq its.toArray n})(hf:f {cls:=.type "list",data:=.seq its.toArray n}={cls:=.type "list",data:=.seq its'.toArray n'})(r:aV ys its')(hz:ys.length<=sizeLine)(t:Nat):
  aG X BP σ (aM H p (.lst ys)) {s with heap:=s.heap.update p f,toks:=t}:=by
 have e:(s.heap.update p f).get? p=some {cls:=.type "list",data:=.seq its'.toArray n'}:=by
  rw[sj f ho (by rw[hf]<;>rfl),hf]
 refine I.write (by rw[h];trivial) (.inl rfl) (λb u hb q=>(d7 _ _ (iz hb)).trans q) ⟨_,e⟩ ?_;exact⟨hz,its',n',r,e⟩
def afW:V->V->V->Hp->(Hp->Prop)->Prop:=λo i v H Q=>∃p xs k j,o=.ref p/\i=.int k/\H p=some (.lst xs)/\gG xs.length k=some j/\Q (aM H p (.lst (xs.set j v)))
theorem Yt:Hk X afW:=by
 intro BP s σ H o i v ov iv u Q I ro ri rv h;obtain⟨p,xs,k,j,rfl,rfl,hp,hj,q⟩:=h;cases ro;obtain⟨t,rfl⟩:=ri;obtain⟨its,n,r,ho,hz⟩:=I.lst hp;obtain⟨h1,h2,h3,h4⟩:=Ju hj;have hl:=r.length;have hn:=sS;have I' :=
  I.lstUpd hp ho (V7 its n j u) (r.set rv j) (by rw[ij];exact hz) s.toks
 by_cases h0:0<=k
 .have hk:=by
   rw[xb h0 h4]at h1;exact cq h1
  exact PySem.W.ki_setAt ho h0 1#a (by rw[bj,<-hl];exact h4) (by rw[hk];exact⟨_,I',q⟩)
 .have hk:(k+(its.toArray.size:Int)).toNat=j:=by
   rw[xc 1#a h3]at h1;rw[bj,<-hl];exact cq h1
  exact PySem.W.ki_setBack ho 1#a (by rw[bj,<-hl];exact h3) 1#a (by rw[hk];exact⟨_,I',q⟩)
theorem O3(lo hi:BJ)(n:Nat):(sliceBounds lo hi none n).1=((HT.sIx n 0 lo:Nat):Int)/\(sliceBounds lo hi none n).2.1=((HT.sIx n n hi:Nat):Int)/\(sliceBounds lo hi none n).2.2=1:=by
 refine⟨?_,?_,rfl⟩
 .cases lo with
  |none=>rfl
  |some i=>
   simp only[sliceBounds,HT.sIx,d8,show(1:Int)>0 by decide,if_true]
   by_cases h:i<0
   .simp only[h,if_true]<;>omega
   .simp only[h,if_false]<;>omega
 .cases hi with
  |none=>rfl
  |some i=>
   simp only[sliceBounds,HT.sIx,d8,show(1:Int)>0 by decide,if_true]
   by_cases h:i<0
   .simp only[h,if_true]<;>omega
   .simp only[h,if_false]<;>omega
theorem N6(its:BF)(lo hi:BJ):slicePick its.toArray lo hi none=((its.drop (HT.sIx its.length 0 lo)).take (HT.sIx its.length its.length hi-HT.sIx its.length 0 lo)).toArray:=by
 obtain⟨h1,h2,h3⟩:=O3 _ _ _;unfold slicePick;rw[h1,h2,h3];simp only[sliceRange_one,pick_run]<;>rfl
def ahg(K:ae):V->BJ->BJ->Hp->VK->Prop:=λx lo hi H Q=>∃a xs,x=.ref a/\bV K H a xs/\∀p,H p=none->Q (.ref p) (aM H p (.lst (tX xs lo hi)))
theorem acu:pL X (ahg X.K):=by
 intro BP s σ H x v vl vu lo hi sl Q I rx hs pl pu h;obtain⟨a,xs,rfl,hx,q⟩:=h;cases rx;obtain⟨its,r,ht,hz⟩:=I.list hx;have hlen:=r.length;refine⟨"list",_,xf.lookup,ht.isList.typeIs,?_⟩;refine f6 ht.isList hs pl pu .none 1#d ?_ (by grind);rw[N6,<-hlen];refine⟨.ref _,_,I.laid (λb ob q=>ar _ q) (aj _) ?_,rfl,q _ (I.hok.fresh (aj _))⟩;exact⟨fx (xR _ _ _) hz,_,0,(r.drop _).take _,cy _ rfl⟩
theorem P5:iM X (.builtin "len") (λxs H Q=>∃p ys,xs=[.ref p]/\(bV X.K H p ys\/dB X.K H p ys)/\Q (.int ys.length) H):=by
 intro BP s σ H xs us Q I r h;obtain⟨p,ys,rfl,hq,q⟩:=h;obtain⟨u,rfl,rx⟩:=jR r;cases rx;have hn:=sS;rcases hq with hq |hq
 .obtain⟨its,r',pl,hz⟩:=I.list hq
  have hlen:=r'.length;exact Calls.call_len_list pl.isList (by simp only[bj]<;>omega) ⟨.int _,H,I.tok _,⟨s.toks+1,by rw[bj,hlen]⟩,q⟩
 .obtain⟨its,r',pl,hz⟩:=I.tuple hq
  have hlen:=r'.length;exact len_tuple pl (by simp only[bj]<;>omega) ⟨.int _,H,I.tok _,⟨s.toks+1,by rw[bj,hlen]⟩,q⟩
theorem Nc:iM X (.type "list") (λxs H Q=>∃p ys,xs=[.ref p]/\(bV X.K H p ys\/dB X.K H p ys)/\∀l,H l=none->Q (.ref l) (aM H l (.lst ys))):=by
 intro BP s σ H xs us Q I r h;obtain⟨p,ys,rfl,hq,q⟩:=h;obtain⟨u,rfl,rx⟩:=jR r;cases rx;have fin:∀its,aV ys _->ys.length<=sizeLine->∀(h':Heap) c',(∀b o',s.heap.get? b=some o'->h'.get? b=some o')->
   h'.get? _=some _->EP X _ σ Q (.ref _) {s with heap:=h'}:=λits r' hz h' c' kp e=>
  ⟨.ref _,_,I.laid kp (aj _) (show fU _ _ _ h' _ (.lst ys) from⟨hz,its,c',r',e⟩),rfl,q _ (I.hok.fresh (aj _))⟩
 rcases hq with hq |hq
 .obtain⟨its,r',pl,hz⟩:=I.list hq
  have hlen:=r'.length;obtain⟨o,ho,hc,n,hd⟩:=pl.isList;exact call_list_seq p (.inl rfl) ho hc hd (λh' c' kp e=>fin _ r' hz _ c' kp e) (by simp_all)
 .obtain⟨its,r',pl,hz⟩:=I.tuple hq
  have hlen:=r'.length;obtain⟨o,ho,hc,n,hd⟩:=pl;exact call_list_seq p (.inr rfl) ho hc hd (λh' c' kp e=>fin _ r' hz h' c' kp e) (by simp_all)
theorem N7:iM X (.type "tuple") (λxs H Q=>∃p ys,xs=[.ref p]/\((bV X.K H p ys/\∀l,H l=none->Q (.ref l) (aM H l (.tup ys)))\/(dB X.K H p ys/\Q (.ref p) H))):=by
 intro BP s σ H xs us Q I r h;obtain⟨p,ys,rfl,h⟩:=h;obtain⟨u,rfl,rx⟩:=jR r;cases rx;rcases h with⟨hq,q⟩|⟨hq,q⟩
 .obtain⟨its,r',pl,hz⟩:=I.list hq
  have hlen:=r'.length;refine call_tuple_list pl.isList (λh' kp=>?_) (by grind);have I1:=I.kept (t':=s.toks) kp;have I2 :=
   I1.laid (t':=s.toks) (λb o e=>ar _ e) (aj _) (show fU _ _ _ _ _ (.tup _) from⟨⟨hz,_,cy _ rfl,rfl⟩,its,r',rl _ _⟩)
  exact⟨.ref _,_,I2,rfl,q _ (I1.hok.fresh (aj _))⟩
 .obtain⟨its,r',pl,hz⟩:=I.tuple hq
  exact call_tuple_same pl ⟨.ref p,H,I,rfl,q⟩
def Qk(K:ae)(T:String)(x:V)(H:Hp):Prop:=match x with
 |.str _=>T="str"
 |.int _=>T="int"
 |.ref p=>(T="list"/\∃xs,bV K H p xs)\/(T="tuple"/\∃o,K.lookup p=some o/\o.cls=.type "tuple"/\o.dict=none)\/
   (T="dict"/\((∃kvs,H p=some (.dK kvs))\/∃kvs,H p=some (.dT kvs)))\/(T="set"/\∃S n,H p=some (.set S n))
 |_=>False
theorem aej {σ:St}{H:Hp}{s:aa}{T:String}{x:V}{v:Value}(I:aG X BP σ H s)(r:bS x v)(ty:Qk X.K T x H):
  s.TypeIs v T/\∀a,v=.ref a->∃ob,s.heap.get? a=some ob/\ob.dict=none:=by
 cases x with
 |str z=>
  obtain⟨t,rfl⟩:=r;cases(show T="str" from ty);exact⟨typeIs_str s z t,λ_ e=>nomatch e⟩
 |int i=>
  obtain⟨t,rfl⟩:=r;cases(show T="int" from ty);exact⟨typeIs_int s i t,λ_ e=>nomatch e⟩
 |ref p=>
  cases r;rcases ty with⟨rfl,xs,hq⟩|⟨rfl,o,hk,hc,hd⟩|⟨rfl,hk⟩|⟨rfl,S,n,hk⟩
  .obtain⟨its,_,pl,_⟩:=I.list hq
   refine⟨pl.isList.typeIs,λa e=>?_⟩;cases e;obtain⟨o,n,e,c,hd,_⟩:=pl;exact⟨o,e,hd⟩
  .refine⟨⟨o,I.kIn p o hk,hc⟩,λa e=>?_⟩
   cases e;exact⟨o,I.kIn _ o hk,hd⟩
  .have z:∃o,s.heap.get? p=some o/\o.ExactDict:=by
    rcases hk with⟨kvs,hk⟩|⟨kvs,hk⟩
    .obtain⟨_,_,_,_,o,_,_,e,ex,_⟩:=I.hok p _ hk
     exact⟨o,e,ex⟩
    .obtain⟨_,_,_,_,o,_,_,e,ex,_⟩:=I.hok p _ hk
     exact⟨o,e,ex⟩
   obtain⟨o,e,ex⟩:=z;refine⟨⟨o,e,ex.1⟩,λa e2=>?_⟩;cases e2;exact⟨o,e,ex.2.1⟩
  .obtain⟨o,_,_,_,e,ex,_⟩:=I.hok p _ hk
   refine⟨⟨o,e,ex.1⟩,λa e2=>?_⟩;cases e2;exact⟨o,e,ex.2.1⟩
 |_=>exact kh ty
def tBM(K:ae)(T:String)(r:V->List V->Hp->VK->Prop)(to:TE)(t:TA):TE:=λσ H Q=>to σ H λx H1=>Qk K T x H1/\t σ H1 λxs H2=>r x xs H2 Q
variable{o e:ah}{es:List ah}{to:TE}{t:TA}{name:Str}{apos cpos:ai}{T id:String}{r:V->List V->Hp->VK->Prop}
theorem Ua(pa:PlainAttrs T)(slot:Slot T name id)(hty:typeOf (.builtin id)=pure (.type "method_descriptor"))(hm:Xb X id r)(ho:PE X o to)(ha:PA X (e::es) t)
  (hbase:autoParam (attributeBase o name X.env (eval o X.env)=eval o X.env) Zqq)
  (hfew:((backTo cpos (starEach (e::es) X.env)).all (λx=>!x.1)&&(backToKw cpos (keywordEach [] X.env)).all (λx=>x.1.isSome)
   &&decide ((e::es).length+([]:List ia).length+(if([]:List ia).isEmpty then 0 else 1)<30))=true:=by rfl)
  (hline:autoParam ((apos.endLine==cpos.line)=true) Zqq)(hs:autoParam (starEach (e::es) X.env=(false,eval e X.env)::starEach es X.env) Zqq)(hplain:autoParam ((backTo cpos (starEach es X.env)).any (·.1)=false) Zqq):
  PE X (.Call (.Attribute o name apos) (e::es) [] cpos) (tBM X.K T r to t):=by
 intro BP s σ H Q I h;refine f7 hbase hfew hline rfl (aY (ho _ s _ H _ I h) λv s1 hq=>?_);rcases hq with⟨x,H1,I1,r1,ty,q1⟩;obtain⟨h1,h2⟩:=aej I1 r1 ty;refine⟨T,id,pa,slot,hty,h1,h2,?_⟩;have hA:=ha cpos _ _ _ _ _ I1 q1;rw[hs]at hA⊢;refine f9 (by show(false||(backTo _ _).any _)=false;rw[hplain]<;>rfl) (xh ?_);exact aY hA λus s2 ⟨vs,H2,I2,r2,q2⟩=>hm _ _ _ _ x _ v us Q I2 r1 r2 q2
end
def J6(X:Cx)(id:String)(r:V->List V->Hp->VK->Prop):Prop:=
 ∀(BP:List (Addr×Obj))(s:aa)(σ:St)(H:Hp)(x:V)(xs:List V)(v:Value)(us:BF)(Q:VK),aG X BP σ H s->bS x v->aV xs us->r x xs H Q->
  wpAny 1#g X.A (call (.builtin id) (v::us)) (EP X BP σ Q) X.xe s
theorem aV.one:∀{x:V}{us:BF},aV [x] us->∃u,us=[u]/\bS x u:=by
 rintro _ _ (_ |⟨r,_ |_⟩)
 exact⟨_,rfl,r⟩
theorem aV.two:∀{x y:V}{us:BF},aV [x,y] us->∃u v,us=[u,v]/\bS x u/\bS y v:=by
 rintro _ _ _ (_ |⟨r,_ |⟨q,_ |_⟩⟩)
 exact⟨_,_,rfl,r,q⟩
theorem aV.eraseIdx:∀{xs:List V}{us:BF}(i:Nat),aV xs us->aV (xs.eraseIdx i) (us.eraseIdx i)
 |_,_,_,.nil=>.nil
 |_,_,0,.cons _ t=>t
 |_,_,i+1,.cons r t=>.cons r (aV.eraseIdx i t)
theorem Je{α:Type}:∀(l:List α)(i:Nat),(l.eraseIdx i).length<=l.length
 |[],_=>aj _
 |_::_,0=>nv _
 |_::r,i+1=>g7 (Je r i)
section
variable{X:Cx}{BP:List (Addr×Obj)}{σ:St}{H:Hp}{s:aa}{l:Addr}{xs ys:List V}
theorem aG.lset{its its':BF}{n:Nat}{f:Array Value->Array Value}{t':Nat}(I:aG X BP σ H s)(hH:H l=some (.lst xs))
  (e:s.heap.get? l=some {cls:=.type "list",data:=.seq its.toArray n})(hf:f its.toArray=its'.toArray)(hv:aV ys its')(hz:ys.length<=sizeLine):
  aG X BP σ (aM H l (.lst ys)) {s with heap:=s.heap.update l (kx f),toks:=t'}:=by
 have q:=PySem.IsL.update e f;rw[hf]at q;refine I.write (by rw[hH];exact trivial) (.inl rfl) (λb' u hb hu=>(d7 _ _ (iz hb)).trans hu) ⟨_,q⟩ ?_;exact⟨hz,its',_,hv,q⟩
theorem aG.lnew (I:aG X BP σ H s)(hv:aV ys its)(hz:ys.length<=sizeLine):
  aG X BP σ (aM H s.heap.objs.size (.lst ys)) {s with heap:=s.heap.push {cls:=.type "list",data:=.seq its.toArray},toks:=t'}:=
 I.laid (λ_ _ q=>ar _ q) (aj _) ⟨hz,its,0,hv,cy _ rfl⟩
theorem aG.fresh(I:aG X BP σ H s):H s.heap.objs.size=none:=I.hok.fresh (aj _)
theorem aG.lstM(I:aG X BP σ H s)(hH:H l=some (.lst xs)):xs.length<=sizeLine/\∃(its:BF)(n:Nat),aV xs its/\xs.length=its.length/\s.heap.get? l=some {cls:=.type "list",data:=.seq its.toArray n}:=by
 obtain⟨z,its,n,r,e⟩:=I.hok l _ hH;exact⟨z,its,n,r,r.length,e⟩
theorem aaE (h:n<=sizeLine):xi n=false:=decide_eq_false 1#a
end
section
variable{X:Cx}
def adD:V->List V->Hp->VK->Prop:=λx vs H Q=>∃l xs y,x=.ref l/\vs=[y]/\H l=some (.lst xs)/\xs.length<sizeLine/\Q .non (aM H l (.lst (xs++[y])))
theorem rS:J6 X "list.append" adD:=by
 intro BP s σ H x vs v us Q I rx rv h;obtain⟨l,xs,y,rfl,rfl,hH,hz,q⟩:=h;cases rx;obtain⟨u,rfl,ru⟩:=rv.one;obtain⟨z,its,n,r,hl,e⟩:=I.lstM hH;refine xj sk ⟨_,e,rfl⟩ F.entry_list_append (F.args_list_append_2 _ _) (PySem.list_append l _ n u (by grind)) ⟨e,?_⟩;refine⟨.non,_,I.lset hH e 1#d (r.append (.cons ru .nil)) ?_,rfl,q⟩;grind
def afL:V->List V->Hp->VK->Prop:=λx vs H Q=>∃l xs i k y,x=.ref l/\vs=[.int i]/\H l=some (.lst xs)/\-(2^63)<=i/\i<2^63/\seqIndex? i xs.length=some k/\xs[k]?=some y/\Q y (aM H l (.lst (xs.eraseIdx k)))
theorem abU:J6 X "list.pop" afL:=by
 intro BP s σ H x vs v us Q I rx rv h;obtain⟨l,xs,i,k,y,rfl,rfl,hH,h1,h2,hk,hy,q⟩:=h;cases rx;obtain⟨u,rfl,ru⟩:=rv.one;obtain⟨t,rfl⟩:=ru;obtain⟨z,its,n,r,hl,e⟩:=I.lstM hH;obtain⟨w,hw,rw'⟩:=r.get hy;refine xj F.slot_list_pop ⟨_,e,rfl⟩ F.entry_list_pop (F.args_list_pop_2 _ _)
  (MeetsSeq.list_pop_at l _ n i t k w (fitsIndex_both h1 h2) (by simp_all) (by simp_all) (by simp_all)) ⟨e,?_⟩
 refine⟨y,_,I.lset hH e ?_ (r.eraseIdx k) ?_,rw',q⟩
 .rw[List.eraseIdxIfInBounds_toArray]
 .have:=Je xs k
  omega
end
end L2
namespace Att
open PySem PySem.W PySem.Calls PyProof.Rows
theorem L3 :∀(ns:BC)(vs:BF),WellAll P h vs (ns.map WData.int)->jk vs ns:=by
 intro ns
 induction ns with
 |nil=>
  intro vs w;cases w;exact .nil
 |cons n ns ih=>
  intro vs w;cases w with
  |cons a b=>
   cases a;exact .cons _ _ (ih _ b)
theorem aay{l:ny}{n:Nat}(hn:l.most=some n){P:oy}{h:Heap}{args:List WData}{vals:BF}
  (hpre:l.row.toRowW.claim.pre args=true)(hwl:WellAll P h vals args):
  ∃a vs ns,vals=[cx a]/\args=[WData.list (ns.map WData.int)]/\h.get? a=some {cls:=.type "list",data:=.seq vs.toArray}/\jk vs ns/\ns.length<=n:=by
 have hsh:WShape.hasAll [] _ [.list _]=true:=(pre_splitW hpre).1;have hc:l.pre.holds [] _=true:=(pre_splitW hpre).2;obtain⟨d,r,rfl,h1,h2⟩:=hasAllW_cons hsh;obtain rfl:=hasAllW_nil h2;obtain⟨xs,rfl,h3⟩:=hasW_list h1;obtain⟨ns,rfl⟩:=items_int h3;have hlen:=by
  have h4:=by
   have h4:=(holds_andW hc).1;rw[hn]at h4;exact h4
  have h5:=condW_of h4 rfl
  first
   |( grind)
   |(simp at h5;omega)
 cases hwl with
 |cons w1 w2=>
  cases w2;cases w1 with
  |list ho hall=>exact⟨_,_,ns,rfl,rfl,ho,L3 _ _ hall,hlen⟩
theorem aae(l:ny)(args:List WData):l.row.toRowW.claim.post args (.bool true) args=true:=
 postW_of  
  rfl
  (show(WTm.eq _ _).value _ _=some _ from w_eq_bool rfl w_lit) rfl
theorem attach_call{l:ny}{n:Nat}{q:Program}{loose:List Str}{XP:(Str->BG)->Heap->Prop}{YP:am->Heap->Prop}{d:DefRec}
  (hn:l.most=some n)(hdf:d.params.defaults=[])
  (call:∀(w:am)(BQ BS:aa)(mg mb:Str->BG)(fa:Addr)(o:Obj)(pm cd doc:Value)(a:Addr)(vs:BF)(ns:BC),
   Ground q loose [] XP w BQ mg mb BS.heap->YP w BS.heap->
   BS.heap.get? fa=some o->o.data=.func (docDef d.name d.params d.body d.scope pm cd doc)->BS.heap.CodeRec cd d.name->mg d.name=some (.ref fa)->
   BS.heap.get? a=some {cls:=.type "list",data:=.seq vs.toArray}->jk vs ns->ns.length<=n->BS.gens=#[]->
   codeAny (model l.prog w) callerA (.call (.ref fa) ⟨[.ref a],[]⟩) (λr s'=>r=.ok (.ret (.bool true))/\OldK BS.heap s'.heap/\s'.os=BS.os/\jt s'.gens) BS):
  WalkO q loose XP YP l.row.toRowW d [] (λf vs=>xk f vs):=by
 intro w BQ BS mg mb G Y fa o pm cd doc dV kV ho hd hcd hD hmg hg args vals as hpre hlay hrd hwl hlo;obtain rfl:dV=.none:=Dflts.none hD hdf;obtain rfl:kV=.none:=Dflts.noKw hD;obtain⟨a,vs,ns,rfl,rfl,hobj,hints,hlen⟩:=aay hn hpre hwl;refine enter_call (qj (call w _ _ _ _ _ o _ _ _ a _ _ G Y ho (fd_plain hd) hcd hmg hobj hints hlen hg) λr s' hq=>?_);obtain⟨rfl,h2,h3,h4⟩:=hq;exact⟨.inl ⟨.bool _,.bool _,[],rfl,λ_=>rfl,.bool _,aae l _,λ_=>(by grind)⟩,h2,h3,h4⟩
end Att
namespace L2
open PySem PySem.Spec PyProof.Rows
theorem Tp:∀{vs:BF}{ns:BC},jk vs ns->aV (ns.map V.int) vs
 |_,_,.nil=>.nil
 |_,_,.cons n t h=>.cons ⟨t,rfl⟩ (Tp h)
def Dk(H:Hp):Prop:=∀b,H b=none\/∃o xs,H b=some (.frz o (.lst xs))
theorem abd{P:Program}{w:am}{K:ae}{mg mb:Str->BG}{CX:kR}{k:Nat}{fa a:Addr}{fd:cg}{x:Str}{sp:Sp}{BS:aa}{vs:BF}{ns:BC}
  (KX:K.In BS.heap)(hns:BS.heap.Ns mainGlobals mg)(hb:BS.heap.Ns builtinsNs mb)(hbb:∀x:Str,x≠"__name__"->mb x=bootBuiltins x)(hlim:BS.heap.NoLimit)(hg:BS.gens=#[])
  (ha:BS.heap.get? a=some {cls:=.type "list",data:=.seq vs.toArray})(hi:jk vs ns)(hl:ns.length<=sizeLine)(hr:dP k callerA)
  (F:∀base:Heap,K.In base->base.Ns mainGlobals mg->eO P w K mg base CX k fa fd [x] sp)(hbind:∀(s:aa)(u:Value),nu s fd ⟨[u],[]⟩ [(x,u)])
  (hsp:∀H:Hp,Dk H->bV K H a (ns.map V.int)->sp [.ref a] H (λv _=>v=.bl true) λ_ _ _=>False)
  (hCX:∀H e s',CX [] H BS (λ_ _ _=>False) e s'->False):
  codeAny (model P w) callerA (.call (.ref fa) ⟨[.ref a],[]⟩) (λr s'=>r=.ok (.ret (.bool true))/\OldK BS.heap s'.heap/\s'.os=BS.os/\jt s'.gens) BS:=by
 have rv:=Tp hi;have lenV:=hi.length
 --from an abstract heap in which nothing but the script may be tracked
 have core:∀H:Hp,Dk H->bV K H a (ns.map V.int)->fN P w H BS.heap->(∀b,H b≠none->b=a)->(H a≠none->K.lookup a=none)->
   codeAny (model P w) callerA (.call (.ref fa) ⟨[.ref a],[]⟩) (λr s'=>r=.ok (.ret (.bool true))/\OldK BS.heap s'.heap/\s'.os=BS.os/\jt s'.gens) BS:=by
  intro H hO hS hok hA hK;have base_of:∀{b:Addr}{o:Obj},BS.heap.get? b=some o->H b=none->(nY BS.heap H).get? b=some o:=λe n=>aa6 e n;have noA:∀{b:Addr}{o:Obj}{es:Array DictEntry}{ep:Nat},BS.heap.get? b=some o->o.data=.dict es ep->H b=none:=λ{b o es ep} e d=>by
   grind
  have nsK:∀{b:Addr}{m:Str->BG},BS.heap.Ns b m->(nY BS.heap H).Ns b m:=λ{b m} ⟨o,es,ep,e,d,r⟩=>⟨o,es,ep,base_of e (noA e d),d,r⟩;have hKb:K.In (nY BS.heap H):=λb o e=>base_of (KX b o e) (by
   grind)
  have hM:Mod K mg (nY BS.heap H):=⟨hKb,nsK hns,⟨mb,nsK hb,hbb⟩,let⟨mc,h1,h2⟩:=hlim;⟨mc,nsK h1,h2⟩⟩;have e0:Ib P w K mg (nY BS.heap H) callerA [] BS H:=⟨rfl,hM,λb o e=>adk e,Nat.le_of_eq (aaq _ _),trivial,λb hb=>absurd (show b∈([]:List Addr) from hb) 1#d,hok,.of_eq hg⟩;refine qj ((F _ hKb (nsK hns)).run callerA [] BS H ⟨[.ref a],[]⟩ [.ref a] [.ref a] _ _ hr e0 (hbind BS (.ref a)) (.cons rfl .nil) (hsp H hO hS)) λr s' h=>?_;cases r with
  |error e=>exact(hCX H e s' h).elim
  |ok fl=>
   cases fl with
   |next=>exact kh h
   |brk=>exact kh h
   |cont=>exact kh h
   |ret u=>
    obtain⟨v,H',os,bare,un,hok',r',q⟩:=h;have q':v=.bl true:=q;subst q';obtain rfl:u=pk true:=r';refine⟨rfl,OldK.of_keep λb o e=>?_,os,bare⟩;cases q:H b with
    |none=>exact un.keep b o e q (by intro z;exact absurd (show b∈([]:List Addr) from z) 1#d) 1#d
    |some u=>
     rcases hO b with z |⟨ob,xs,z⟩
     .rw[q]at z;cases z
     .have z2:=un.frzs b ob _ z
      obtain⟨e1,_⟩:=hok b _ z;obtain⟨e2,_⟩:=hok' b _ z2;rw[e]at e1;cases e1;exact e2
 cases hk:K.lookup a with
 |some o=>
  --the script is one of the module's own objects
  have e:=KX a o hk;rw[ha]at e;cases e;refine core (λ_=>none) (λ_=>.inl rfl) (.inr ⟨_,vs.toArray,_,hk,rfl,rfl,rfl,by rw[bj,lenV];exact hl,by simpa using rv⟩) (λb u z=>by have z':=z;cases z') (λb z=>absurd rfl z) λz=>absurd rfl z
 |none=>
  refine core (λb=>if b=a then some _ else none) (λb=>?_) (.inl (.inr ⟨{cls:=.type "list",data:=.seq vs.toArray},if_pos rfl⟩)) (λb u z=>?_) (λb z=>?_) λ_=>hk
  .by_cases hb:b=a
   .exact .inr ⟨_,_,if_pos hb⟩
   .exact .inl (if_neg hb)
  .by_cases hb:b=a
   .have z':=(if_pos hb).symm.trans z
    cases z';subst hb;exact⟨ha,by rw[ak];exact hl,vs,_,rv,ha⟩
   .have z':=(if_neg hb).symm.trans z
    cases z'
  .by_cases hb:b=a
   .exact hb
   .exact absurd (if_neg hb) z
theorem walk_of{l:ny}{n k:Nat}{q:Program}{loose:List Str}{XP:(Str->BG)->Heap->Prop}{YP:am->Heap->Prop}{d:DefRec}{K:oy->ae}{CX:am->kR}{sp:am->Sp}{x:Str}
  (hn:l.most=some n)(hn2:n<=sizeLine)(hdf:d.params.defaults=[])(hr:dP k callerA)
  (hY:∀(w:am)(h:Heap),YP w h->(K w.params).In h)
  (F:∀(w:am)(mg:Str->BG)(fa:Addr)(h:Heap),(K w.params).In h->h.Ns mainGlobals mg->mg d.name=some (.ref fa)->
   ∃fd:cg,(∀(s:aa)(u:Value),nu s fd ⟨[u],[]⟩ [(x,u)])/\
    ∀base:Heap,(K w.params).In base->base.Ns mainGlobals mg->eO l.prog w (K w.params) mg base (CX w) k fa fd [x] (sp w))
  (hsp:∀(w:am)(H:Hp)(a:Addr)(ns:BC),ns.length<=n->Dk H->bV (K w.params) H a (ns.map V.int)->sp w [.ref a] H (λv _=>v=.bl true) λ_ _ _=>False)
  (hCX:∀(w:am)(H:Hp)(s:aa)(e:Value)(s':aa),CX w [] H s (λ_ _ _=>False) e s'->False):
  PySem.W.WalkO q loose XP YP l.row.toRowW d [] (λf vs=>xk f vs):=by
 refine Att.attach_call hn hdf λw BQ BS mg mb fa o pm cd doc a vs ns G Y ho hd hcd hmg hobj hints hlen hg=>?_;have KX:=hY w _ Y;obtain⟨fd,hb,hF⟩:=F w _ _ _ KX G.T.g hmg;exact abd KX G.T.g G.T.b G.T.builtins G.T.nolimit hg hobj hints (fx hlen hn2) hr hF hb (λH hO hS=>hsp w H a _ hlen hO hS) λH e s'=>hCX w H _ e _
abbrev fR:kR:=λ_ _ _ _ _ _=>False
abbrev E0:XK:=λ_ _ _=>False
theorem wA:Th fR X E0:=λ_ _ _ _ _ _ _ h=>h.elim
structure jG(K:ae)(x qual:Str)(st:Stmt)(f:Addr)(fd:cg):Prop where
 ex:∃(oc:Value)(od:BI)(kV doc pm:Value)(an:BI)(cdv ct:Value)(osl:Array BG),
  fd=fj x qual (gY st) (eN st) (cL st) .none kV doc pm an cdv ct/\K.lookup f=some ⟨oc,od,.func fd,osl⟩/\jw K cdv qual=true
 kp:gw K (.ref f)=true
section
variable{P:Program}{w:am}{K:ae}{mg:Str->BG}{base:Heap}
theorem jG.ok {st:Stmt}{f:Addr}{fd:cg}{N ps:List Str}{k:Nat}{sp:Sp}(F:jG K x qual st f fd)(S:iZ N ps (cL st))(len:∀vs H Q E,sp vs H Q E->vs.length=ps.length)
  (hbody:∀(cdv:Value)(A:aq)(outer:List bn)(s:aa)(H:Hp)(vs:List V)(Q:VK)(E:XK),dP k (A.deeper (envOfC qual (cL st) s.heap.objs.size f cdv))->sp vs H Q E->
   ∃t,gS (fF fR P w K mg base N qual (cL st) f cdv A outer s H E).nox (eN st) t/\t {nx:=λ_ H'=>Q .non H',rt:=Q} (start N vs) H):eO P w K mg base fR (k+1) f fd ps sp:=by
 obtain⟨oc,od,kV,doc,pm,an,cdv,ct,osl,rfl,lk,hcd⟩:=F.ex;refine Dj lk hcd S len λA outer s H vs Q E hr hsp=>?_;obtain⟨t,h,q⟩:=hbody _ A _ s H _ Q E hr hsp;exact⟨t,h.nox,q⟩
theorem jG.binds {st:Stmt}{f:Addr}{fd:cg}{ps:List Str}(F:jG K x qual st f fd)
  (h:∀(kV doc pm:Value)(an:BI)(cdv ct:Value)(us:BF),us.length=ps.length->bindArgs (fj x qual (gY st) (eN st) (cL st) .none kV doc pm an cdv ct) ⟨us,[]⟩=pure (ps.zip us)):kJ K fd ps []:=by
 obtain⟨oc,od,kV,doc,pm,an,cdv,ct,osl,rfl,lk,hcd⟩:=F.ex;exact .all (h _ _ _ _ _ _)
theorem Mz {st:Stmt}{f:Addr}{oc:Value}{od an:BI}{osl:Array BG}{kV doc pm cdv ct:Value}(l:K.lookup f=some ⟨oc,od,.func (fj x qual (gY st) (eN st) (cL st) .none kV doc pm an cdv ct),osl⟩)
  (c:jw K cdv qual=true)(k:gw K (.ref f)=true):jG K x qual st f (fj x qual (gY st) (eN st) (cL st) .none kV doc pm an cdv ct):=⟨⟨oc,od,kV,doc,pm,an,cdv,ct,osl,rfl,l,c⟩,k⟩
end
section
variable{X:Cx}
theorem pv(i:Nat){x:Str}{pos:ai}(hN:autoParam (X.N[i]?=some x) Zqq)(hv:autoParam (lW X.env.scope x) Zww)(hd:autoParam ((x==("__debug__":Str))=false) Zqw)
  (hcd:autoParam ((x==("__classdict__":Str))=false) Zqw):PE X (.Name x pos) (E8 i):=mP hN hv hd hcd
end
def dI(H H':Hp):Prop:=∀b o,H b=some o->H' b=some o
theorem dI.refl(H:Hp):dI H H:=λ_ _ h=>h
end L2
namespace Bn
def Bd(k:Nat)(i:Int):Prop:=i.natAbs<2^k
theorem Bd.mono {i:Int}(h:Bd j i)(l:j<=k):Bd k i:=du h (sr 1#b l)
theorem Bd.mul {a b:Int}(h:Bd j a)(g:Bd k b):Bd (j+k) (a*b):=by
 unfold Bd;rw[ql,Nat.pow_add];exact Nat.mul_lt_mul'' h g
theorem Bd.add (h:Bd k a)(g:Bd k b):Bd (k+1) (a+b):=by
 unfold Bd at *;have:=Int.natAbs_add_le a b;omega
theorem Bd.neg (h:Bd k a):Bd k (-a):=by
 unfold Bd at*
 simp_all
theorem Bd.sub (h:Bd k a)(g:Bd k b):Bd (k+1) (a-b):=h.add g.neg
theorem Bd.le {a b:Int}(h:Bd k b)(l:a.natAbs<=b.natAbs):Bd k a:=qm l h
theorem Bd.of{k n:Nat}{a:Int}(l:a.natAbs<=n)(h:n<2^k):Bd k a:=qm l h
theorem Bd.log (h:Bd k a)(hk:0<k):a.natAbs.log2<k:=by
 rcases g8 a.natAbs with z |z
 .simp_all
 .exact(Nat.log2_lt (kr z)).mpr h
theorem Kp(a:Int){b:Int}(h:b≠0):(a.fmod b).natAbs<b.natAbs:=by
 rw[Int.fmod_eq_emod];have h1:=Int.emod_nonneg a h;have h2:=Int.emod_lt a h
 by_cases c:0<=b\/b∣a
 .rw[if_pos c]<;>grind
 .rw[if_neg c]
  omega
theorem Nr(a b:Int):ci b (a.fmod b)=ci a b:=by
 rw[Int.fmod_def,fe,Int.gcd_sub_mul_right_right,Int.gcd_comm]
theorem Ni(x:Int):(if x<0 then-x else x)=(x.natAbs:Int):=by grind
def gl:BC->Int->Int
 |[],g=>g
 |n::r,g=>gl r (ci g n:Nat)
def low(ns:BC):BC:=if gl ns 0=0 then ns else ns.map (· /gl ns 0)
theorem Jj:∀(ns:BC)(g:Int),0<=g->0<=gl ns g
 |[],_,h=>h
 |_::r,_,_=>Jj r _ (g9 _)
theorem Oy(k:Int):∀(ns:BC)(g:Int),0<=g->gl (ns.map (k*·)) ((k.natAbs:Int)*g)=(k.natAbs:Int)*gl ns g
 |[],_,_=>rfl
 |n::r,g,h=>by
  show gl (r.map _) _=k.natAbs*gl r _;have e:(ci (k.natAbs*g) (k*n):Nat)=k.natAbs*(ci g n:Int):=by
   rcases Int.natAbs_eq k with q |q
   .rw[<-q,i7]
    have:=q.symm
    simp_all
   .have e2:k*n=k.natAbs*-n:=by rw[xl,<-kz,<-q]
    rw[e2,i7];simp
  rw[e];exact Oy k r _ (g9 _)
theorem yX(k:Int)(ns:BC):gl (ns.map (k*·)) 0=(k.natAbs:Int)*gl ns 0:=by
 have:=Oy k ns 0 (ss 0)
 rwa[qo]at this
theorem uK (h:0<k)(ns:BC):gl ns 0≠0->low (ns.map (k*·))=low ns:=λz=>by
 have hk:k.natAbs=k:=by omega
 have e:=yX k ns;rw[hk]at e;have nz:k*gl _ 0≠0:=di 1#a z;unfold low;rw[e,if_neg nz,if_neg z,cj];refine dy λn _=>?_;exact Int.mul_ediv_mul_of_pos _ _ h
theorem kF:∀(ns:BC)(g:Int),gl ns g∣g/\∀n∈ns,gl ns g∣n
 |[],g=>⟨Int.dvd_refl g,by grind ⟩
 |m::r,g=>by
  obtain⟨h1,h2⟩:=kF r _;refine⟨Int.dvd_trans h1 (xn ..),λn hn=>?_⟩;rcases br.mp hn with q |q
  .subst q
   exact Int.dvd_trans h1 (xo ..)
  .exact h2 n q
theorem Ag (h:gl ns 0=0):∀n∈ns,n=0:=λn hn=>by
 have:=(kF _ 0).2 n hn
 simp_all
theorem tO (hn:n∈ns)(h:n≠0):gl ns 0≠0:=λz=>h (Ag z n hn)
theorem vU (hn:n∈ns)(h:n≠0):0<gl ns 0:=by
 have h1:=Jj ns 0 (ss 0);have h2:=tO hn h;omega
theorem sT (hn:n∈ns)(h:n≠0):low ns=ns.map (· /gl ns 0):=by
 unfold low;rw[if_neg (tO hn h)]
theorem Bd.gcd (h:Bd k a)(g:Bd k b):Bd k (ci a b:Nat):=by
 rcases g8 a.natAbs with z |z
 .have:a=0:=by omega
  subst this;rw[qp];exact g
 .exact qm (Nat.gcd_le_left _ z) h
theorem Za:∀{ns:BC}{g:Int},Bd k g->(∀n∈ns,Bd k n)->Bd k (gl ns g)
 |[],_,h,_=>h
 |n::r,g,h,hn=>Za (ns:=r) (h.gcd (hn n av)) λm hm=>hn m (bh _ hm)
theorem Na {ns:BC}(h:∀n∈ns,Bd k n):∀n∈low ns,Bd k n:=λn hn=>by
 unfold low at hn
 by_cases c:gl ns 0=0
 .rw[if_pos c]at hn
  exact h n hn
 .rw[if_neg c]at hn
  obtain⟨m,hm,rfl⟩:=ca.mp hn;refine(h m hm).le ?_;have d:=(kF _ 0).2 m hm;obtain⟨q,e⟩:=d;rw[e,oa _ c,ql];exact Nat.le_mul_of_pos_left _ 1#a
theorem Su(ns:BC):(low ns).length=ns.length:=by
 unfold low;split
 .rfl
 simp_all
def fr(t b:Int):BC:=if b<0 then low [0-t,0-b] else low [t,b]
theorem jS(a b:Int):b∈[a,b]:=bh _ av
theorem acj(ns:BC):gl (ns.map (-1*·)) 0=gl ns 0:=by
 have:=yX (-1) ns
 simp_all
theorem ae8{t b:Int}(h:b≠0):fr (-t) (-b)=fr t b:=by
 unfold fr;grind
theorem Am{k t b:Int}(hk:0<k)(h:b≠0):fr (k*t) (k*b)=fr t b:=by
 unfold fr;have e1:[k*t,k*b]=[t,b].map (k*·):=rfl;have e2:[0-k*t,0-k*b]=[0-t,0-b].map (k*·):=by
  show _=[k*(0-t),k*(0-b)];rw[Int.mul_sub,Int.mul_sub,qo]
 by_cases c:b<0
 .rw[if_pos c,if_pos (i8 hk c),e2]
  exact uK hk _ (tO (jS _ _) 1#a)
 .have c':¬(k*b<0):=by
   have:0<k*b:=bf hk 1#a;omega
  rw[if_neg c,if_neg c',e1];exact uK hk _ (tO (jS _ _) h)
theorem Ht{k t b:Int}(hk:k≠0)(h:b≠0):fr (k*t) (k*b)=fr t b:=by
 by_cases c:0<k
 .exact Am c h
 .have c':0< -k:=by omega
  have hb:=di hk h;rw[<-ae8 hb,<-kz,<-kz];exact Am c' h
theorem yW{t b t' b':Int}(h:b≠0)(h':b'≠0)(e:t*b'=t'*b):fr t b=fr t' b':=by
 rw[<-Ht h' h,<-Ht h h',fe _ t,e,fe _ b,fe _ b]
theorem wE{t b:Int}(h:b≠0):∃p q:Int,fr t b=[p,q]/\0<q/\p*b=t*q:=by
 have go:∀{t b:Int},0<b->∃p q:Int,low [t,b]=[p,q]/\0<q/\p*b=t*q:=λ{t b} hb=>by
  have nz:b≠0:=by omega
  have gp:=vU (jS t b) nz;refine⟨t/gl [t,b] 0,b/gl [t,b] 0,sT (jS t b) nz,?_,?_⟩
  .obtain⟨m,e⟩:=(kF [t,b] 0).2 b (jS t b)
   have:b/gl [t,b] 0=m:=by
    conv=>lhs;lhs;rw[e]
    exact oa _ 1#a
   rw[this];have hm:0<m*gl [t,b] 0:=by rw[fe,<-e];exact hb
   exact su hm gp
  .obtain⟨m,e⟩:=(kF [t,b] 0).2 b (jS t b)
   obtain⟨n,f⟩:=(kF [t,b] 0).2 t av;have e1:b/gl [t,b] 0=m:=by
    conv=>lhs;lhs;rw[e]
    exact oa _ 1#a
   have e2:t/gl [t,b] 0=n:=by
    conv=>lhs;lhs;rw[f]
    exact oa _ 1#a
   rw[e1,e2]
   conv=>lhs;rhs;rw[e]
   conv=>rhs;lhs;rw[f]
   rw[Int.mul_left_comm,kj]
 unfold fr
 by_cases c:b<0
 .rw[if_pos c]
  obtain⟨p,q,e1,e2,e3⟩:=go (b:=0-b) 1#a;refine⟨p,q,e1,e2,?_⟩;grind
 .rw[if_neg c]
  exact go 1#a
def sg(n:Int):Int:=if 0<n then 1 else if n<0 then-1 else 0
theorem Eu (h:b≠0):(0<b/\sg b=1)\/(b<0/\sg b=-1):=by
 unfold sg
 by_cases c:0<b
 .exact .inl ⟨c,if_pos c⟩
 .have d:b<0:=by omega
  exact .inr ⟨d,by rw[if_neg c,if_pos d]⟩
theorem aaL(b:Int):-(2^64)<sg b/\sg b<2^64:=by
 unfold sg;split
 .decide
 .split<;>decide
theorem qE(t b:Int):gl [t,b] 0=(ci t b:Nat):=by
 show(ci _ b:Int)=_;rw[qp];rfl
theorem pS{g n:Int}(h:g≠0):(g*n).fdiv g=n:=by
 simp_all
theorem Jl (h:g≠0):(g*n).fdiv (-1*g)=-n:=by
 have e:g*n=(-1*g)*(-n):=by
  rw[kz,gh,i9]
 rw[e];exact pS 1#a
theorem Y8{t b:Int}(h:b≠0):[t.fdiv (sg b*(ci t b:Nat)),b.fdiv (sg b*(ci t b:Nat))]=fr t b:=by
 have gp:=vU (jS t b) h;rw[qE]at gp;have gn:(ci t b:Int)≠0:=by omega
 obtain⟨n,en⟩:=xn (a:=t) (b:=b);obtain⟨m,em⟩:=xo (a:=t) (b:=b);have ht:=en;have hb:=em;generalize hg:(ci t b:Nat)=g at *;rcases Eu h with⟨c,s⟩|⟨c,s⟩
 .rw[s,gh]
  have e1:fr t b=[t/g,b/g]:=by
   unfold fr;rw[if_neg 1#a,sT (jS t b) h,qE,hg];rfl
  have e2:=qq ⟨n,ht⟩;have e3:=qq ⟨m,hb⟩;rw[e1,e2,e3]
 .rw[s]
  have e1:fr t b=[(0-t)/g,(0-b)/g]:=by
   unfold fr;rw[if_pos c,sT (jS (0-t) (0-b)) 1#a,qE,kl,kl,xp,Int.gcd_neg,hg];rfl
  have e2:t.fdiv (-1*g)=-n:=by
   conv=>lhs;lhs;rw[ht]
   exact Jl gn
  have e3:b.fdiv (-1*g)=-m:=by
   conv=>lhs;lhs;rw[hb]
   exact Jl gn
  have e4:(0-t)/g=-n:=by
   rw[ht,kl,<-xl,oa _ gn]
  have e5:(0-b)/g=-m:=by
   rw[hb,kl,<-xl,oa _ gn]
  rw[e1,e2,e3,e4,e5]
theorem Iu(n:Int):∀(l:BC)(g:Int),gl (l++[n]) g=(ci (gl l g) n:Nat)
 |[],g=>rfl
 |m::r,g=>Iu n r _
theorem wM {t b p q:Int}(ht:Bd k t)(hb:Bd k b)(e:fr t b=[p,q]):Bd k p/\Bd k q:=by
 have go:∀{x y:Int},Bd k x->Bd k y->low _=[p,q]->Bd k p/\Bd k q:=λ{x y} hx hy e=>by
  have h:=Na (ns:=[x,y]) λn hn=>by
   rcases br.mp hn with z |z
   .rw[z];exact hx
   .have z':=by simpa using z
    simp_all
  rw[e]at h;exact⟨h p av,h q (jS _ _)⟩
 unfold fr at e;split at e
 .exact go (by rw[kl];exact ht.neg) (by rw[kl];exact hb.neg) e
 .exact go ht hb e
theorem yA{t b p q:Int}(h:b≠0)(e:fr t b=[p,q]):ci p q=1:=by
 have go:∀{x y:Int},y≠0->low _=[p,q]->ci p q=1:=λ{x y} hy e=>by
  rw[sT (jS x y) hy,qE]at e;have gp:=vU (jS x y) hy;rw[qE]at gp;have e1:x/(ci x y:Nat)=p:=by injection e
  have e2:y/(ci x y:Int)=q:=by
   simp_all
  rw[<-e1,<-e2,Int.gcd_ediv (xn ..) (xo ..)]
  simp_all
 unfold fr at e;split at e
 .exact go 1#a e
 .exact go h e
theorem adf{p q:Int}(hq:0<q)(h:ci p q=1):fr p q=[p,q]:=by
 unfold fr;rw[if_neg 1#a,sT (jS p q) 1#a,qE]
 simp_all
theorem abk (hk:0<k)(hm:0<m){A B:BC}(hA:gl A 0≠0)(e:A.map (k*·)=B.map (m*·)):low A=low B:=by
 have hB:gl B 0≠0:=λz=>by
  have h:=yX k A;rw[e,yX m B,z,qo]at h;have:k.natAbs*gl A 0≠0:=di 1#a hA;exact this h.symm
 rw[<-uK hk A hA,e,uK hm B hB]
theorem Bz(b:Int):∀(ns:BC)(g:Int),gl ns (ci g b:Nat)=(ci (gl ns g) b:Nat)
 |[],_=>rfl
 |n::r,g=>by
  show gl r _=ci (gl r _) b;rw[<-Bz b r,Int.gcd_assoc,Int.gcd_comm b n,<-Int.gcd_assoc]
theorem Dg {b:Int}(hb:0<b):gl (ns++[b]) 0=gl ns b:=by
 rw[Iu,<-Bz,qp];grind
theorem nJ(ns:BC)(b:Int):b∈ns++[b]:=dg _ av
theorem afG {b:Int}(hb:0<b):low (ns++[b])=(ns.map λn=>n.fdiv (gl ns b))++[b.fdiv (gl ns b)]/\0<gl ns b:=by
 have gp:=vU (nJ ns b) 1#a;rw[Dg hb]at gp;refine⟨?_,gp⟩;rw[sT (nJ _ b) 1#a,Dg hb,cw];have e:=λn=>(Int.fdiv_eq_ediv_of_nonneg n (Int.le_of_lt gp)).symm
 simp_all
theorem Ma(ns:BC){b:Int}(hb:0<b):∃(zs:BC)(z g:Int),low (ns++[b])=zs++[z]/\0<g/\0<z/\ns=zs.map (g*·)/\b=g*z/\zs.length=ns.length:=by
 obtain⟨e,gp⟩:=afG (ns:=ns) hb;have dv:=kF (ns++[b]) 0;rw[Dg hb]at dv;have ex:∀n∈ns++[b],gl _ b*n.fdiv _=n:=λn hn=>by
  obtain⟨q,e⟩:=dv.2 n hn
  conv=>lhs;rhs;rw[e]
  rw[pS 1#a];exact e.symm
 refine⟨_,_,gl _ b,e,gp,?_,?_,(ex b (nJ _ b)).symm,ak _⟩
 .have h:=ex b (nJ _ b)
  have:0<b.fdiv (gl ns b)*gl ns b:=by rw[fe,h];exact hb
  exact su this gp
 .rw[cj]
  conv=>lhs;rw[<-List.map_id ns]
  refine dy λn hn=>?_
  simp_all
theorem Og(ns:BC){b:Int}(hb:0<b):low (low (ns++[b]))=low (ns++[b]):=by
 obtain⟨zs,z,g,e,hg,hz,e1,e2,_⟩:=Ma _ hb;rw[e];refine abk (m:=1) hg 1#b (tO (nJ _ z) 1#a) ?_ |>.trans e
 simp_all
def sm(xs:BC)(w:Int)(ys:BC)(v:Int):BC:=cr (λx y=>x*v+y*w) xs ys
theorem A7 {f g:Int->Int->Int}(h:∀x y,f x y=g x y):cr f xs ys=cr g xs ys:=by
 have:=funext λx=>funext λy=>h x y;rw[this]
theorem V9(xs:BC)(w:Int)(ys:BC)(v:Int):cr (λx y=>1*x*v+y*w) xs ys=sm xs w ys v:=A7 λx y=>by simp_all
theorem R4(xs:BC)(w:Int)(ys:BC)(v:Int):cr (λy x=>-1*y*w+x*v) ys xs=sm xs w (ys.map (- ·)) v:=by
 unfold sm;rw[List.zipWith_map_right,List.zipWith_comm];refine A7 λx y=>?_;rw[kz,gh];exact Int.add_comm _ _
theorem aeT {w v:Int}(h:xs.length=ys.length):(sm xs w ys v).length=xs.length:=by
 unfold sm;grind
end Bn
namespace L2
open PySem PySem.Spec PyProof.Rows Bn
section
variable{X:Cx}
theorem Ww (h:Bd k i):j4 i<=k:=by
 unfold j4;split
 .simp_all
 .have z:i.natAbs≠0:=by
   grind
  have:=(Nat.log2_lt z).mpr h<;>grind
def qT(_ j:Int):Prop:=j≠0/\Bd 8000 j
theorem abF:eJ X (binaryOp .FloorDiv) (rI qT λi j=>.int (i.fdiv j)):=
 Sb λ_ _ _ _ _ _ _ hc q=>floordiv_int hc.1 q (.inl (PyProof.noPylong_of_log2 (xq (hc.2.log 1#b) 1#b)))
theorem PS.imp{st:Stmt}{t t':TS}(h:PS X st t)(i:∀D σ H,t' D σ H->t D σ H):PS X st t':=λBP s σ H D I q=>h _ s _ H D I (i D _ H q)
theorem gS.imp{st:List Stmt}{t t':TS}(h:gS X st t)(i:∀D σ H,t' D σ H->t D σ H):gS X st t':=λBP s σ H D I q=>h _ s _ H D I (i D _ H q)
theorem PE.imp (h:PE X e t)(i:∀σ H Q,t' σ H Q->t σ H Q):PE X e t':=λBP s σ H Q I q=>h _ s _ H Q I (i _ H Q q)
theorem PT.imp (h:PT X e t)(i:∀σ H Q,t' σ H Q->t σ H Q):PT X e t':=λBP s σ H Q I q=>h _ s _ H Q I (i _ H Q q)
theorem aG.turnedNew {σ:St}{H:Hp}{s:aa}{h':Heap}{t':Nat}{ch:List Addr}{a:Addr}{o:HO}(I:aG X BP σ H s)(hf:∀b∈ch,fZ X BP H b)
  (k:∀b u,b∉ch->s.heap.get? b=some u->h'.get? b=some u)(hp:s.heap.objs.size<=a)(new:fU X.prog X.w (aM H a o) h' a o):
  aG X BP σ (aM H a o) {s with heap:=h',toks:=t'}:=by
 have hn:=I.hok.fresh hp;have nch:∀b u,H b=some u->b∉ch:=λb u e z=>by
  rw[(hf b z).1]at e;cases e
 have nea:∀b u,H b=some u->b≠a:=λb u e=>gJ e hn;refine I.step (λb hb=>?_) (λb u _ _ hc e _=>k b u hc e) (λb u _ _ hc e _=>⟨u.slots,k b u hc e⟩) (λb u _ e n=>?_)
  (λb u hc e=>⟨u,k b u hc e⟩) (λb xs e=>?_) (λb u v e=>?_) (λb ps e=>⟨#[],?_⟩) (λm hm=>?_) (λb u e=>?_) I.bare
 .obtain⟨_,f1,_,f3,f4,f5⟩:=hf b hb
  exact⟨f3,f1,f4,f5⟩
 .rw[bK (de (du (bi e) hp))]
  exact n
 .rw[bK (nea b _ e)]
  exact e
 .rw[bK (nea b _ e)]
  exact e
 .rw[bK (nea b _ e),e]
  simp
 .obtain⟨ob,es,ep,ho,r⟩:=hm
  exact⟨ob,es,ep,k _ ob (λz=>(hf _ z).2.1 rfl) ho,r⟩
 .by_cases hb:b=a
  .subst hb
   rw[eC]at e;cases e;exact new
  .rw[bK hb]at e
   refine(I.hok b u e).stay (λc v hc q=>k c v ?_ q) (λc q=>?_) λc xs q=>?_
   .rcases hc with z |z
    .rw[z]
     exact nch b u e
    .exact nch c _ z
   .rw[bK (nea c _ q)]
    exact q
   .rw[bK (nea c _ q)]
    exact q
theorem aG.turnedL {σ:St}{H:Hp}{s:aa}{h':Heap}{t':Nat}{ch:List Addr}(I:aG X BP σ H s)(hf:∀b∈ch,fZ X BP H b)
  (k:∀b u,b∉ch->s.heap.get? b=some u->h'.get? b=some u):aG X BP σ H {s with heap:=h',toks:=t'}:=by
 have nch:∀b u,H b=some u->b∉ch:=λb u e z=>by
  rw[(hf b z).1]at e<;>grind
 refine I.step (λb hb=>?_) (λb u _ _ hc e _=>k b u hc e) (λb u _ _ hc e _=>⟨u.slots,k b u hc e⟩) (λb u _ e n=>n)
  (λb u hc e=>⟨u,k b u hc e⟩) (λb xs e=>e) (λb u v e=>e) (λb ps e=>⟨#[],?_⟩) (λm hm=>?_) (λb u e=>?_) I.bare
 .obtain⟨_,f1,_,f3,f4,f5⟩:=hf b hb
  exact⟨f3,f1,f4,f5⟩
 .simp_all
 .obtain⟨ob,es,ep,ho,r⟩:=hm
  exact⟨ob,es,ep,k _ _ (λz=>(hf _ z).2.1 rfl) ho,r⟩
 .refine(I.hok b u e).stay (λc v hc q=>k c v ?_ q) (λc q=>q) λc xs q=>q
  rcases hc with z |z
  .rw[z]
   exact nch b u e
  .exact nch c _ z
end
def Xk (K : ae) (a : Addr) : It :=
  ⟨λi H => ∃ xs x, bV K H a xs ∧ xs[i]? = some x,
   λi H x H' => ∃ p y, H p = none ∧ x = .ref p ∧ H' = aM H p (.tup [.int i, y]) ∧ ∀ xs, bV K H a xs → xs[i]? = some y,
   λi H => ∃ xs, bV K H a xs ∧ xs.length ≤ i⟩
theorem Y9{P:Program}{w:am}{K:ae}{elts:List ah}{x1:Nat}{tp:ai}(a e it:Addr)(hne:e≠it):
  tV P w K (.Tuple elts x1 tp) (Xk K a) [e,it] e (λi h=>(∃old,IsEnum h e it (i:Int) old)/\h.IsListIter it a i) where
 mem:=by simp
 obj:=λi h st b hb=>by
  obtain⟨⟨old,q⟩,o,e1,c,d⟩:=st;rcases br.mp hb with z |z
  .subst z
   exact⟨_,q,λv z=>nomatch z⟩
  .have z':b=it:=by simpa using z
   subst z';exact⟨o,e1,λv z=>by rw[d]at z;cases z⟩
 keep:=λi h h' st k=>⟨let⟨old,q⟩:=st.1;⟨old,k e 1#d _ q⟩,st.2.at λo q=>k it 1#d o q⟩
 item:=by
  intro X hP hw hK hc i BP s σ H E I hf st hg;subst hP hw hK;obtain⟨xs,x,hq,hx⟩:=hg;obtain⟨its,rv,pl,hz⟩:=I.list hq;obtain⟨u,hu,ru⟩:=rv.get hx;obtain⟨⟨old,he⟩,hit⟩:=st;refine wpAny_pyNext_enum_item he hit pl.isList (x:=u) (by simpa using hu) hne λh1 ho1 hit1 ht1 hs1 hk1=>⟨_,rfl,?_⟩;have lt1:e<s.heap.objs.size:=bi he;refine wpAny_letOwnedTupleGo_enum ho1 λh2 he2 sb2=>?_;have ht2:=(sb2.2 _ (kr lt1)).trans ht1;have I2:aG X BP σ (aM H s.heap.objs.size (.tup [.int i,x])) {s with heap:=h2,toks:=s.toks+1}:=
   I.turnedNew hf (λb o hb q=>(sb2.2 b (λz=>hb (by simp[z]))).trans (hk1 b o (λz=>hb (by simp[z])) (λz=>hb (by simp[z])) q)) (aj _)
    ⟨⟨by show 2<=sizeLine;decide,_,ht2,rfl⟩,[.int i s.toks,u],.cons ⟨_,rfl⟩ (.cons ru .nil),⟨_,ht2,rfl,_,rfl⟩⟩
  refine⟨.ref s.heap.objs.size,_,I2,rfl,⟨_,x,I.hok.fresh (aj _),rfl,rfl,λys hy=>by rw[I.list_inj hy hq];exact hx⟩,⟨⟨_,by simpa using he2⟩,hit1.at λo q=>(sb2.2 it hne.symm).trans q⟩,λb hb=>?_⟩;have hb':=(hf b hb).1;have lt:b≠s.heap.objs.size:=by
   rcases br.mp hb with z |z
   .subst z
    exact de lt1
   .have z':b=it:=by simpa using z
    subst z';obtain⟨o,q,_⟩:=hit;exact de (bi q)
  rw[bK lt];exact hb'
 done:=by
  intro X hP hw hK hc i BP s σ H E I hf st hg;subst hP hw hK;obtain⟨xs,hq,hx⟩:=hg;obtain⟨its,rv,pl,hz⟩:=I.list hq;obtain⟨⟨old,he⟩,hit⟩:=st;have hl:=rv.length;exact wpAny_pyNext_enum_end (I.ok.hd hc) he hit pl.isList (by simp;omega) λh' eb=>⟨rfl,I.turnedL (t':=s.toks) hf λb o hb q=>eb b o (λz=>hb (by simp[z])) q⟩
 self:=λ_ _ _ _ _ st h=>let⟨_,q⟩:=st.1;wpAny_pyIter_enum q h
section
variable{X:Cx}{elts:List ah}{x1:Nat}{tp:ai}
def ags(K:ae)(tl:TA):TI:=λσ H R=>tl σ H λvs H1=>∃a,vs=[.ref a]/\(∃xs,bV K H1 a xs)/\R (Xk K a) H1
theorem ad2 {p pos:ai}(hg:Gl X "enumerate")(hm:X.mg "enumerate"=none)(hl:PA X [l] tl)(hs:autoParam (starEach [l] X.env=[(false,eval l X.env)]) Zqq):
  PI X (.Tuple elts x1 tp) (.Call (.Name "enumerate" p) [l] [] pos) (ags X.K tl):=by
 intro BP s σ H R I h;refine Call_ (qH I hg hm boot_enumerate (qg (aY (hl pos BP s σ H _ I h) λus s1 hq=>?_) hs rfl));rcases hq with⟨vs,H1,I1,r1,q1⟩;obtain⟨a,rfl,⟨xs,hq⟩,q⟩:=q1;obtain⟨u,rfl,ru⟩:=jR r1;cases ru;obtain⟨its,rv,pl,hz⟩:=I1.list hq;refine call_enumerate_list pl.isList λh' he hit hsz k=>?_;have I2:=I1.kept (t':=s1.toks) k;refine wpAny_pyIter_enum he ?_;refine⟨s1.heap.objs.size+1,[s1.heap.objs.size+1,s1.heap.objs.size],_,_,H1,rfl,I2,Y9 a _ _ (Nat.succ_ne_self _),⟨⟨_,he⟩,hit⟩,λb hb=>?_,q⟩;have hb':s1.heap.objs.size<=b:=by
  rcases br.mp hb with z |z
  .rw[z]
   exact nv _
  .have z':=by simpa using z
   rw[z'];exact aj _
 exact I1.fpOk hb' (I1.hok.fresh hb')
end
def hJ(env:bn):List (Str×ig)->List (Str×Addr)->List (Str×Addr)
 |[],acc=>acc
 |p::r,acc=>if(p.2== .free)=true then hJ env r ((p.1,(env.cells.lookup p.1).getD 0)::acc)else hJ env r acc
theorem Ah (h:∀p∈sc.names,p.2=.free->∃c,env.cells.lookup p.1=some c):closureFor sc env=pure (hJ env sc.names []):=by
 unfold closureFor;have go:∀l acc,(∀p∈l,p.2=.free->∃c,env.cells.lookup p.1=some c)->
   (forIn l acc (λx r=>if(x.2==jd)=true then do let a <-cellOf env x.1;pure (xu ((x.1,a)::r))else pure (xu r)):Sem _)=pure (hJ env l acc):=by
  intro l
  induction l with
  |nil=>intro acc _;rfl
  |cons p r ih=>
   intro acc hp;rw[sv];have hr:=λacc'=>ih acc' λq hq=>hp q (bh _ hq)
   by_cases c:(p.2==jd)=true
   .obtain⟨a,ea⟩:=hp p av (by simpa using c)
    have e1:cellOf env p.1=pure a:=by unfold cellOf;rw[ea]
    rw[if_pos c,e1];simp only[pure_bind];rw[hr];show _=pure (if(p.2== .free)=true then _ else _);rw[if_pos c,ea];rfl
   .rw[if_neg c]
    simp only[pure_bind];rw[hr];show _=pure (if(p.2== .free)=true then _ else _);rw[if_neg c]
 have e:=go sc.names [] h;rw[bind_pure];exact e
theorem yB:∀(l:List (Str×ig))(acc:List (Str×Addr)),(∀p∈l,p.2=.free->∃c,env.cells.lookup p.1=some c)->
  ∀y c,(hJ env l acc).lookup y=some c->acc.lookup y=some c\/env.cells.lookup y=some c
 |[],acc,_,y,c,e=>.inl e
 |p::r,acc,h,y,c,e=>by
  have hr:=λq hq=>h q (bh _ hq);unfold hJ at e
  by_cases k:(p.2==jd)=true
  .rw[if_pos k]at e
   obtain⟨a,ea⟩:=h p av (by simpa using k);rcases yB r _ hr y c e with z |z
   .rw[ib]at z
    cases w:y==p.1<;>simp_all
   .exact .inr z
  .rw[if_neg k]at e
   exact yB r _ hr y c e
theorem rV:∀(l:List (Str×ig))(acc:List (Str×Addr))(y:Str),((∃c,acc.lookup y=some c)\/(y,jd)∈l)->∃c,(hJ env l acc).lookup y=some c
 |[],acc,y,h=>by
  rcases h with h |h
  .exact h
  .cases h
 |p::r,acc,y,h=>by
  unfold hJ
  by_cases k:(p.2==jd)=true
  .rw[if_pos k]
   refine rV r _ y ?_;cases w:y==p.1 with
   |true=>exact .inl ⟨_,by rw[ib,w]⟩
   |false=>
    rcases h with⟨c,h⟩|h
    .exact .inl ⟨c,by rw[ib,w];exact h⟩
    .rcases br.mp h with z |z
     .rw[<-z]at w
      simp at w
     .exact .inr z
  .rw[if_neg k]
   refine rV r _ y ?_;rcases h with h |h
   .exact .inl h
   .rcases br.mp h with z |z
    .rw[<-z]at k
     simp at k
    .exact .inr z
theorem Bm{env:bn}:∀{names:List (Str×ig)}{x:Str},(∀y∈names,y.2≠.cell)->
  (let l:=(names.map λ(n,k)=>if(k==jd&&env.scope.kind== .function&&env.kindOf n==some .cell)then(n,ik)else(n,k)).lookup x;l=some .cell\/l=some .free)->(x,jd)∈names
 |[],x,_,h=>by
  rcases h with h |h<;>cases h
 |(n,k)::r,x,hc,h=>by
  dsimp only at h;rw[au]at h;have ih:=@Bm env r x λy hy=>hc y (bh _ hy);have nk:=hc (n,k) av
  by_cases c:(k==jd&&env.scope.kind== .function&&env.kindOf n==some .cell)=true
  .have kf:k=.free:=by
    simp only[sx,beq_iff_eq]at c;exact c.1.1
   rw[if_pos c,ib]at h;cases w:x==n with
   |true=>
    have hx:x=n:=by simpa using w
    rw[hx,<-kf];exact av
   |false=>
    rw[w]at h;exact bh _ (ih h)
  .rw[if_neg c,ib]at h
   cases w:x==n with
   |true=>
    simp_all
   |false=>
    rw[w]at h;exact bh _ (ih h)
def eU(X:Cx)(sc:Scope)(N:List Str)(C:Addr)(BQ:aa)(BR:Hp)(ex:List Addr):Cx where
 prog:=X.prog
 w:=X.w
 K:=X.K
 mg:=X.mg
 base:=X.base
 A:=X.A
 N:=N
 BQ:=BQ
 BR:=BR
 env:=compEnvC sc (hJ X.env sc.names []) C X.env
 outer:=X.stack
 stack:=X.stack
 ex:=ex
 fn:=λ_=>false
 calm:=X.calm
 pn:=[]
 xe:=λ_ _=>False
def jC(own:List Str)(cap:List (Nat×Str))(σ:St):St:=own.map (λ_=>none)++cap.map λp=>(σ[p.1]?).join
def cN(own:List Str)(cap:List (Nat×Str)):List Str:=own++cap.map (·.2)
def Pb(J:It)(g:TG)(te:TE)(BT:St)(H1:Hp)(D:Addr)(Q:VK):Prop:=
 ∃W:Nat->Nat->St->Hp->List V->Prop,(∃m,W 0 m BT (aM H1 D (.lst [])) [])/\∀i m σ H ys,W i m σ H ys->H D=some (.lst ys)/\
  ((J.stop i H/\Q (.ref D) H)\/(J.go i H/\ys.length<sizeLine/\∀x H2,J.yld i H x H2->g x σ H2 λσ3 H3=>te σ3 H3 λy H4=>H4 D=some (.lst ys)/\∃m',m'<m/\W (i+1) m' σ3 (aM H4 D (.lst (ys++[y]))) (ys++[y])))
def wC(own:List Str)(cap:List (Nat×Str))(wi:TI)(g:TG)(te:TE):TE:=λσ H Q=>wi σ H λJ H1=>∀D,H1 D=none->Pb J g te (jC own cap σ) H1 D Q
def Nx(n:Nat)(Pv:Nat->St->Hp->List V->Prop)(D:Addr)(i:Nat)(ys:List V)(σ:St)(y:V)(H:Hp):Prop:=
 H D=some (.lst ys)/\∃m,m<n-i/\(m=n-(i+1)/\i+1<=n/\Pv (i+1) σ (aM H D (.lst (ys++[y]))) (ys++[y]))
theorem agv {D:Addr}{i:Nat}{ys:List V}{σ:St}{y:V}{H:Hp}(h:i<n)(hD:H D=some (.lst ys))(p:Pv (i+1) σ (aM H D (.lst (ys++[y]))) (ys++[y])):Nx n Pv D i ys σ y H:=
 ⟨hD,n-(i+1),by omega,rfl,h,p⟩
theorem acl {g:TG}{te:TE}{BT:St}{H1:Hp}{D:Addr}{Q:VK}(n:Nat)(hn:n<=sizeLine)(Pv:Nat->St->Hp->List V->Prop)(h0:Pv 0 BT (aM H1 D (.lst [])) [])
  (hl:∀i σ H ys,Pv i σ H ys->ys.length=i/\H D=some (.lst ys))(hgo:∀i σ H ys,i<n->Pv i σ H ys->J.go i H)
  (hs:∀i σ H ys x H2,i<n->Pv i σ H ys->J.yld i H x H2->g x σ H2 λσ3 H3=>te σ3 H3 λy H4=>Nx n Pv D i ys σ3 y H4)
  (hd:∀σ H ys,Pv n σ H ys->J.stop n H/\Q (.ref D) H):Pb J g te BT H1 D Q:=by
 refine⟨λi m σ H ys=>m=n-i/\i<=n/\Pv i σ H ys,⟨n,rfl,dq _,h0⟩,?_⟩
 rintro i m σ H ys ⟨rfl,hi,p⟩
 obtain⟨l1,l2⟩:=hl i _ H _ p;refine⟨l2,?_⟩
 by_cases hlt:i<n
 .exact .inr ⟨hgo i _ H _ hlt p,by omega,λx H2 y=>hs i _ H _ x _ hlt p y⟩
 .grind
section
variable{prog:Program}{w:am}{A:aq}{R:qi->aa->Prop}{s:aa}
theorem Jq{elt target iter:ah}{sc:Scope}{pos:ai}{it acc:Value}{env:bn}(I:Nat->aa->Prop)
  (turn:∀n s,I n s->wpAny (model prog w) A (pyNext it) (λr s1=>match r with
   |none=>R (.ok .next) s1
   |some v=>wpAny (model prog w) A (letOwnedTupleGo target it v) (λ_ s2=>wpAny (model prog w) A (assign target env v) (λ_ s3=>wpAny (model prog w) A (eval elt env)
     (λx s4=>wpAny (model prog w) A (call (.builtin "list.append") [acc,x]) (λ_ s5=>∃m,m<n/\I m s5) (λ_ _=>False) s4) (λ_ _=>False) s3) (λ_ _=>False) s2) (λ_ _=>False) s1) (λ_ _=>False) s)
  (n:Nat)(h:I n s):codeAny (model prog w) A (.compLoop (.ListComp elt [⟨target,iter,[],0⟩] sc pos) 0 it acc env) R s:=by
 refine codeAny_loop rfl I (λn s hI=>?_) n h;refine wpAny_noted ?_;rw[compTurn_list1];refine ag (qd (ag ?_));refine gv (turn n s hI) (λr s1 h1=>?_) λ_ _ z=>z.elim;cases r with
 |none=>exact ao h1
 |some v=>
  refine ag (gv h1 (λ_ s2 h2=>?_) λ_ _ z=>z.elim);refine ag (gv h2 (λ_ s3 h3=>?_) λ_ _ z=>z.elim);refine ag (ag (gv h3 (λx s4 h4=>?_) λ_ _ z=>z.elim));refine ag (gv h4 (λ_ s5 h5=>?_) λ_ _ z=>z.elim);exact ao (ao ⟨rfl,h5⟩)
end
structure iH(X:Cx)(sc:Scope)(own:List Str)(cap:List (Nat×Str)):Prop where
 kind:sc.kind=.function
 names:∀y∈sc.names,y.2=.local->sc.names.lookup y.1=some .local
 nocell:∀y∈sc.names,y.2≠.cell
 free:∀y∈sc.names,y.2=.free->X.env.kindOf y.1=some .cell
 at':∀p∈cap,X.N[p.1]?=some p.2
 cap:∀p∈cap,sc.names.lookup p.2=some .free
section
variable{X:Cx}{sc:Scope}{own:List Str}{cap:List (Nat×Str)}{BP:List (Addr×Obj)}{σ:St}{H:Hp}{s:aa}
theorem iH.has(k:iH X sc own cap)(ok:X.Ok):∀p∈sc.names,p.2=.free->∃c,X.env.cells.lookup p.1=some c:=λp hp e=>ok.has _ (.inl (k.free p hp e))
theorem uH{env:bn}:∀{names:List (Str×ig)}{x:Str},env.scope.kind=.function->names.lookup x=some .free->env.kindOf x=some .cell->
  (names.map λ(n,k)=>if(k==jd&&env.scope.kind== .function&&env.kindOf n==some .cell)then(n,ik)else(n,k)).lookup x=some .cell
 |[],x,_,h,_=>by cases h
 |(n,k)::r,x,hk,h,hx=>by
  rw[au];dsimp only;rw[ib]at h;cases w:x==n with
  |true=>
   rw[w]at h;have e:=by simpa using w
   simp_all
  |false=>
   rw[w]at h;have ih:=@uH env r x hk h hx
   by_cases c:(k==jd&&env.scope.kind== .function&&env.kindOf n==some .cell)=true
   .rw[if_pos c,ib,w]
    exact ih
   .rw[if_neg c,ib,w]
    exact ih
theorem aG.cmp(k:iH X sc own cap){h4:Heap}{fp:List Addr}{m:Str->BG}{t':Nat}(I:aG X BP σ H s)(hf:∀b∈fp,fZ X BP H b)(hlt:∀b∈fp,b<s.heap.objs.size)(hns:h4.Ns s.heap.objs.size m)
  (kp:∀b o,s.heap.get? b=some o->h4.get? b=some o):aG (eU X sc (cN own cap) s.heap.objs.size s H fp) [] (jC own cap σ) H {s with heap:=h4,toks:=t'}:=by
 have hcl:∀y c,(hJ _ _ []).lookup y=some c->X.env.cells.lookup y=some c:=λy c e=>by
  rcases yB _ [] (k.has I.ok) y c e with z |z
  .cases z
  .exact z
 have nst:∀b∈fp,b∉fP _:=λb hb z=>by
  rcases br.mp (I.stkSub b z)with e |e
  .exact(hf b hb).2.1 e
  .exact(hf b hb).2.2.1 e
 refine⟨⟨I.ok.mod,k.kind,I.ok.glob,I.ok.blt,aj _,λx y c h1 h2=>I.ok.inj x y c (hcl x c h1) (hcl y c h2),λx hx=>?_,λx c e=>(nomatch e),I.ok.hd,I.ok.frames,.inl rfl,λb hb=>⟨de (hlt b hb),λx c e=>(hf b hb).2.2.2.2.1 x c (hcl x c e)⟩,
  I.bs,fx I.ok.bsz I.sz,λb o e hb=>?_,nst,I.stack,I.stkFree⟩,rfl,I.bare,Un.kept kp,⟨m,hns,λi x v h1 h2 h3=>?_⟩,λx c e=>?_,I.hok.fresh (aj _),λx c e=>I.freeC x c (hcl x c e),λp hp=>absurd (show p∈[] from hp) 1#d,I.hok.kept kp,?_⟩
 .exact rV _ [] x (.inr (Bm k.nocell hx))
 .rcases(hf b hb).2.2.2.1 with z |z
  .exact I.ok.noex b o e z
  .exact absurd (du (bi (I.ok.bs b o e).1) z) (ji _)
 .have hN:(cN _ _)[i]?=some x:=h1
  unfold cN at hN;unfold jC at h2
  by_cases hi:i<own.length
  .rw[fw (by simpa using hi),aw]at h2
   cases e:own[i]?<;>simp_all
  .rw[ee (by simpa using hi),aw,ak]at h2
   rw[ee 1#a,aw]at hN;cases e:cap[i-own.length]? with
   |none=>simp_all
   |some p=>
    rw[e]at h2 hN;have hp:=dh e;have hx:=cq hN;have hv:(σ[p.1]?).join=some v:=cq h2;have hv':σ[p.1]?=some (some v):=by
     cases e2:σ[p.1]?<;>simp_all
    have fr:=k.cap p hp;have kc:=k.free _ (jv fr) rfl;obtain⟨m0,_,hl⟩:=I.loc;obtain⟨u,ru,lk⟩:=hl p.1 p.2 v (k.at' p hp) hv' (.inr (.inl kc));refine⟨u,ru,?_⟩;rcases lk with⟨k1,_⟩|⟨_,c,ec,cell⟩
    .simp_all
    .rw[<-hx]
     obtain⟨c',ec'⟩:=rV _ [] p.2 (.inr (jv fr));have:=(hcl _ _ ec').symm.trans ec;cases this;obtain⟨o,ho,hd⟩:=cell;exact .inr ⟨.inl (uH I.ok.kind fr kc),c,ec',o,kp c o ho,hd⟩
 .obtain⟨v,o,ho,hd⟩:=I.cell x c (hcl x c e)
  exact⟨v,o,kp c o ho,hd⟩
 .unfold jC
  show _=(cN _ _).length;unfold cN
  simp_all
theorem aG.uncmp {H3 H':Hp}{N:List Str}{σ':St}{C:Addr}{fp:List Addr}{pl:List (Addr×Obj)}(I:aG X BP σ H s)(hf:∀b∈fp,fZ X BP H b)(u:Un (fP X.stack) fp H H3 s.heap s3.heap)(os:s3.os=s.os)
  (J:aG (eU X sc N C s3 H3 fp) pl σ' H' s'):aG X BP σ H' s':=by
 have os':=(show s'.os=s3.os from J.os).trans os;refine I.call' os' (u.trans J.base) J.hok J.bare λb hb=>?_;obtain⟨_,f1,_,f3,f4,f5⟩:=hf b hb;exact⟨f3,f1,f4,f5⟩
end
section
variable{X:Cx}{sc:Scope}{own:List Str}{cap:List (Nat×Str)}{BP:List (Addr×Obj)}{σ:St}{H:Hp}{s:aa}{elt target iter:ah}{pos pos':ai}{wi:TI}{g:TG}{te:TE}{Q:VK}
theorem Jp{use:Option (Value->Sem Unit)}{Qf:Value->aa->Prop}(k:iH X sc own cap)(hi:PI X target iter wi)(hc:X.calm=true)
  (hg:∀C BQ BR ex,PG (eU X sc (cN own cap) C BQ BR ex) target g)(he:∀C BQ BR ex,PE (eU X sc (cN own cap) C BQ BR ex) elt te)(I:aG X BP σ H s)(h:wC own cap wi g te σ H Q)
  (fin:∀D C s' H' m,aG X BP σ H' s'->fZ X BP H' C->s'.heap.Ns C m->Q (.ref D) H'->compPost 1#g X.A X.xe use Qf (.ref D) C (.ok .next) s')
  (hs:∀x,foldedSetIterable iter X.env x=pure x):
  wpAny 1#g X.A (comprehension (.ListComp elt [⟨target,iter,[],0⟩] sc pos) sc X.env pos' (newList []) false (eval iter X.env) use) Qf X.xe s:=by
 refine xv (use:=use) rfl hs (Ah (k.has I.ok)) k.kind k.names ?_;refine aY (hi BP s σ H _ I h) λv s1 h1=>aY h1 λitv s2 h2=>?_;obtain⟨it,fp,tn,J,H2,e,I2,T,st2,f2,hW⟩:=h2;subst e;refine ju (j5 k.nocell (λy hy=>nomatch hy) (λh4 hns hsb=>?_) k.kind);have I3:aG X BP σ (aM H2 s2.heap.objs.size (.lst [])) {s2 with heap:=s2.heap.push {cls:=.type "list",data:=.seq ([]:BF).toArray},toks:=s2.toks}:=I2.lnew (ys:=[]) (its:=[]) .nil (dq _);have hD:H2 s2.heap.objs.size=none:=I2.fresh;have ltf:∀b∈fp,b<s2.heap.objs.size:=λb hb=>by
  obtain⟨o,ho,_⟩:=T.obj _ _ st2 b hb;exact bi ho
 have f3:∀b∈fp,fZ X BP (aM H2 s2.heap.objs.size (.lst [])) b:=λb hb=>⟨by rw[bK (de (ltf b hb))];exact(f2 b hb).1,(f2 b hb).2⟩;have un:Un (fP X.stack) fp H2 (aM H2 s2.heap.objs.size (.lst [])) s2.heap (s2.heap.push {cls:=.type "list",data:=.seq ([]:BF).toArray}):=Un.laid (λb u q=>ar _ q) (aj _) hD;have kp:=λb o q=>hsb.extBut b o (de (bi q)) (ar _ q);have J0:=I3.cmp (t':=s2.toks+([]:List (Str×Value)).length) k f3 (λb hb=>du (ltf b hb) (by rw[jo];exact nv _)) hns kp;have stat:∀{H':Hp},(∀b∈fp,H' b=none)->∀b∈fp,fZ _ [] H' b:=λhn b hb=>
  ⟨hn b hb,(J0.ok.exf b hb).1,J0.ok.exfs b hb,.inl hb,(J0.ok.exf b hb).2,λp hp=>absurd (show p∈([]:List (Addr×Obj)) from hp) 1#d⟩
 have st4:tn 0 h4:=T.keep _ _ _ st2 λb hb o q=>kp b o (ar _ q);have fr0:∀b∈fp,(aM H2 s2.heap.objs.size (.lst [])) b=none:=λb hb=>(f3 b hb).1;have loop:codeAny 1#g X.A (.compLoop (.ListComp elt [⟨target,iter,[],0⟩] sc pos) 0 (.ref it) (.ref s2.heap.objs.size) (compEnvC sc (hJ X.env sc.names []) (s2.heap.push {cls:=.type "list",data:=.seq ([]:BF).toArray}).objs.size X.env))
   (compPost 1#g X.A X.xe use Qf (.ref s2.heap.objs.size) (s2.heap.push {cls:=.type "list",data:=.seq ([]:BF).toArray}).objs.size) {s2 with heap:=h4,toks:=s2.toks+([]:List (Str×Value)).length}:=by
  obtain⟨W,⟨m0,w0⟩,turn⟩:=hW s2.heap.objs.size hD;refine Jq (λn s'=>∃i σ' H' ys,aG _ [] σ' H' s'/\tn i s'.heap/\(∀b∈fp,H' b=none)/\W i n σ' H' ys) ?_ m0
   ⟨0,_,_,[],J0,st4,fr0,w0⟩
  rintro n s5 ⟨i,σ5,H5,ys,I5,st5,fr5,w5⟩
  obtain⟨hD5,w5⟩:=turn i n σ5 H5 ys w5;rcases w5 with⟨stop,qn⟩|⟨go,hlt,step⟩
  .refine aY (T.done 1#f rfl rfl rfl hc i [] s5 σ5 H5 _ I5 (stat fr5) st5 stop) ?_
   rintro r s6 ⟨hr,I6⟩
   subst hr;obtain⟨m,hn,_⟩:=id I6.loc;exact fin _ _ s6 H5 m (I2.uncmp (s3:={s2 with heap:=s2.heap.push {cls:=.type "list",data:=.seq ([]:BF).toArray},toks:=s2.toks}) f2 un rfl I6) (I3.fpOk (aj _) I6.free) hn qn
  .refine aY (T.item 1#f rfl rfl rfl hc i [] s5 σ5 H5 _ I5 (stat fr5) st5 go) ?_
   rintro r s6 ⟨u,hr,h6⟩
   subst hr;refine aY h6 ?_
   rintro _ s7 ⟨x,H7,I7,r7,y7,st7,fr7⟩
   have I7':=I7.pinned (stat fr7) (T.obj _ _ st7);refine aY (hg _ _ _ _ _ s7 σ5 H7 x u _ I7' r7 (step x H7 y7)) ?_
   rintro _ s8 ⟨σ8,H8,I8,q8⟩
   refine aY (he _ _ _ _ _ s8 σ8 H8 _ I8 q8) ?_
   rintro v9 s9 ⟨y,H9,I9,r9,hD9,m',hm,w9⟩
   refine aY (rS _ s9 σ8 H9 (.ref s2.heap.objs.size) [y] (.ref s2.heap.objs.size) [v9] (λ_ H'=>H'=aM H9 s2.heap.objs.size (.lst (ys++[y]))) I9 rfl (.cons r9 .nil) ⟨_,ys,y,rfl,rfl,hD9,hlt,rfl⟩) ?_
   rintro _ s10 ⟨_,H10,I10,_,q10⟩
   subst q10;refine⟨m',hm,i+1,σ8,_,_,I10.unpinned,T.keep _ _ _ st7 λb hb o q=>(I10.pin (b,o) (dg _ (dg _ (mG hb q)))).1,λb hb=>?_,w9⟩;obtain⟨o,q,d⟩:=T.obj _ _ st7 b hb;exact(I10.pin (b,o) (dg _ (dg _ (mG hb q)))).2.1
 exact xw loop (T.self _ 0 _ _ _ st4 loop)
theorem adS(k:iH X sc own cap)(hi:PI X target iter wi)(hc:X.calm=true)
  (hg:∀C BQ BR ex,PG (eU X sc (cN own cap) C BQ BR ex) target g)(he:∀C BQ BR ex,PE (eU X sc (cN own cap) C BQ BR ex) elt te)
  (hs:autoParam (∀x,foldedSetIterable iter X.env x=pure x) Zqz):PE X (.ListComp elt [⟨target,iter,[],0⟩] sc pos) (wC own cap wi g te):=by
 intro BP s σ H Q I h;refine Jp k hi hc hg he I h (λD C s' H' m I' fC hn q=>?_) hs;refine⟨m,hn,λh' sb=>⟨.ref D,H',?_,rfl,q⟩⟩;obtain⟨f0,f1,f2,f3,f4,f5⟩:=fC;exact I'.turned (λb o hb e=>(sb.2 b hb).trans e) f0 f1 f3 f4 f5
theorem adV {py spos:ai}(hN:X.N.Nodup)(hx:X.N[i]?=some x)(hl:lX X.env.scope x)(k:iH X sc own cap)(hi:PI X target iter wi)(hc:X.calm=true)
  (hg:∀C BQ BR ex,PG (eU X sc (cN own cap) C BQ BR ex) target g)(he:∀C BQ BR ex,PE (eU X sc (cN own cap) C BQ BR ex) elt te)
  (hs:autoParam (∀x,foldedSetIterable iter X.env x=pure x) Zqz)(hsw:autoParam (swapsWith (.ListComp elt [⟨target,iter,[],0⟩] sc pos) (some (.Name x py)) spos.line X.env=pure true) Zqq)
  (hf:autoParam (X.fn x=true\/X.env.scope.names.lookup x=some .local) Zwq):
  PS X (.Assign [.Name x py] (.ListComp elt [⟨target,iter,[],0⟩] sc pos) spos) (Vj (wC own cap wi g te) (Bj i)):=by
 intro BP s σ H D I h;rw[exec_Assign_Name_used _ _ _ _ hsw];refine ag (qd (ag ?_));refine ag (aY (Jp k hi hc hg he I h (λB C s' H' m I' fC hn q=>?_) hs) λ_ s' hq=>ao (ao hq));obtain⟨o,es,ep,ho,hd,r⟩:=hn;obtain⟨f0,f1,f2,f3,f4,f5⟩:=fC;have I'':aG X (BP++[(C,o)]) σ H' s':=I'.pins_of λp hp=>(ce.mp hp).elim (λz=>I'.pin p (dg _ z)) λz=>by
  have e:=by simpa using z
  subst e;exact⟨ho,f0,f1,f2,λv z=>by rw[hd]at z;cases z⟩
 refine wpAny_assign_Name (sE I'' hN hx hl (v:=.ref B) rfl (λs2 I2=>?_) hf);have pC:=I2.pin (C,o) 1#d;refine⟨m,⟨o,es,ep,pC.1,hd,r⟩,λh' sb=>⟨_,H',?_,q⟩⟩;exact(I2.unpinned).turned (λb o hb e=>(sb.2 b hb).trans e) f0 f1 f3 f4 f5
end
section
variable{X:Cx}
theorem abj(hc:X.calm=true):iM X (.builtin "all") (λxs H Q=>∃(a:Addr)(bs:List Bool),xs=[.ref a]/\bV X.K H a (bs.map V.bl)/\Q (.bl (bs.all id)) H):=by
 intro BP s σ H xs us Q I r h;obtain⟨a,bs,rfl,hq,q⟩:=h;obtain⟨u,rfl,ru⟩:=jR r;cases ru;obtain⟨its,rv,pl,hz⟩:=I.list hq;have hl:=by
  have:=rv.length
  rwa[ak]at this
 refine call_all_walk (sy pl.isList ?_);have ha:a<s.heap.objs.size:=by
  obtain⟨o,ho,_⟩:=pl.isList;exact bi ho
 refine⟨_,_,_,_,_,_,λi=>bs.getD i true,rfl,Walks.list (w:=X.w) (A:=X.A.in1) (show X.A.in1.handled=none from I.ok.hd hc) s.heap.objs.size a (de ha) its.toArray,⟨⟨_,cy _ rfl,rfl,rfl⟩,Heap.IsList.at pl.isList λo e=>ar _ e⟩,λi v s' Q' E' hv hQ=>?_,λh' tk kp=>?_⟩
 .have hv':=by simpa using hv
  have hi:i<bs.length:=by
   grind
  obtain⟨u,hu,ru⟩:=rv.get (i:=i) (by rw[aw,ay hi];rfl);rw[hv']at hu;cases hu;cases(show v=pk bs[i] from ru);have e:bs.getD i true=bs[i]:=by simp[dj,hi]
  have hQ':Q' (bs.getD i true) s':=hQ;rw[e]at hQ';exact lq hQ'
 .have e:(ck its.toArray.size).all (λi=>bs.getD i true)=bs.all id:=by
   rw[bj,<-hl,xx,mq,mq];constructor
   .intro z b hb
    obtain⟨i,hi,rfl⟩:=td.mp hb;have:=z i (by simpa using hi);simpa[dj,hi]using this
   .intro z i hi
    have hi':i<bs.length:=by simpa using hi
    have:=z bs[i] (jf hi');simpa[dj,hi']using this
  rw[e];have I1:aG X BP σ H {s with heap:=s.heap.push {cls:=.type "list_iterator",data:=.fields #[.ref a,.int 0 0]},toks:=s.toks}:=I.kept λb o z=>ar _ z;have fp:=I.fpOk (aj _) (I.hok.fresh (aj _));obtain⟨f0,f1,f2,f3,f4,f5⟩:=fp;exact⟨.bl (bs.all id),H,I1.turned (λb o hb z=>kp b o (by simpa using hb) z) f0 f1 f3 f4 f5,rfl,q⟩
end
section
variable{prog:Program}{w:am}{A:aq}{E:Value->aa->Prop}{s:aa}
theorem W4 {items:Array Value}{x:Value}{Q:Value->aa->Prop}(git:s.heap.IsTupleIter it t i)(gt:s.heap.IsTuple t items)(gx:items[i]?=some x)
  (gQ:∀h',h'.IsTupleIter it t (i+1)->ja it s.heap h'->Q x {s with heap:=h'}):wpAny (model prog w) A (mx (.ref it)) Q E s:=by
 obtain⟨o,go,gc,gd⟩:=id git;obtain⟨ol,gol,_,nl,gdl⟩:=gt;refine ag (mn git.typeIs tf (ki tf git.typeIs j6 ?_ (j7 _)));show wpAny _ _ (field (.ref it) 0 >>= _) _ _ s;refine ag (ir go gd (x:=.ref t) rfl ?_);refine ag (ir go gd (x:=.int i 0) rfl ?_);refine ag (km gol gdl ?_);simp only[tj,gx];refine ag (tm go gd 1#d (ao ⟨_,rfl,ao (gQ _ ?_ (my ..))⟩));refine⟨_,sj _ go (j8 (tq gd _)),(j9 ..).trans gc,?_⟩;rw[tq gd];simp[rawInt]
theorem L9{it t:Addr}{i:Nat}{items:Array Value}{Q:Value->aa->Prop}(hh:A.handled=none)(git:s.heap.IsTupleIter it t i)(gt:s.heap.IsTuple t items)(gx:items[i]?=none)
  (gE:∀h' e,qr it s.heap h'->(∃o,h'.get? e=some o/\o.cls=.type "StopIteration")->E (.ref e) {s with heap:=h'}):wpAny (model prog w) A (mx (.ref it)) Q E s:=by
 obtain⟨o,go,gc,gd⟩:=id git;obtain⟨ol,gol,_,nl,gdl⟩:=gt;unfold mx;refine ag (mn (name:=fh "__next__") git.typeIs tf (ki tf git.typeIs j6 ?_ (j7 _)));show wpAny _ _ (field (.ref it) 0 >>= _) _ _ s;refine ag (ir go gd (x:=.ref t) rfl ?_);show wpAny _ _ (if(cx t==dk)=true then _ else _) _ _ s;show wpAny _ _ (field (.ref it) 1 >>= _) _ _ s;refine ag (ir go gd (x:=.int i 0) rfl ?_);show wpAny _ _ (seqItems? (.ref t) >>= _) _ _ s;refine ag (km gol gdl ?_);simp only[tj,gx]
 first
  |grind
  |refine ag (lr (ag (tm go gd (by simp) ?_)))
 show wpAny _ _ (newExc (.type "StopIteration") [] >>= _) _ _ _;refine ag ?_;simp only[newExc,newTuple];refine ag (ju ?_ (by size_fits));refine ag (m:=firstArgMember _ _) (tw (a:=dk) (by first |rfl |(simp only[firstArgMember];rfl)) ?_)
 refine ju ?_ (by size_fits);simp only[raiseNew];refine ag (wpAny_handled ?_)
 first
  |rw[show A.in1.handled=none from hh]
  |rw[hh]
 refine ag (ao (wpAny_throw ?_));exact gE _ _ (((my ..).extBut.push _).push _) ⟨_,cy _ rfl,rfl⟩
end
theorem ab7 {A:aq}(hh:A.handled=none)(it t:Addr)(hne:t≠it)(items:Array Value):
  jy prog w A it [it,t] items.size (λi v=>items[i]?=some v) (λi h=>h.IsTupleIter it t i/\h.IsTuple t items) where
 live:=λ_ _ st=>let⟨o,ho,_⟩:=st.1;⟨o,ho⟩
 frame:=λ_ _ _ st hk=>⟨let⟨o,ho,r⟩:=st.1;⟨o,hk _ 1#d o ho,r⟩,let⟨o,ho,r⟩:=st.2;⟨o,hk t 1#d o ho,r⟩⟩
 item:=λi s Q E hi st hQ=>by
  refine W4 st.1 st.2 (x:=items[i]) (by simp[hi]) λh' hit' hs'=>?_;exact hQ _ _ _ (by simp[hi]) ⟨hit',st.2.extBut hs'.extBut hne⟩ hs'
 done:=λs Q E st hE=>L9 hh st.1 st.2 1#d hE
structure wZ(z TI TO i1 i2:Addr)(fp1 fp2:List Addr):Prop where
 tiz:TI≠z
 toz:TO≠z
 tito:TI≠TO
 ti1:TI≠i1
 ti2:TI≠i2
 z1:z∉fp1
 z2:z∉fp2
 to1:TO∉fp1
 to2:TO∉fp2
 i12:i1∉fp2
 i21:i2∉fp1
 m1:i1∈fp1
 m2:i2∈fp2
section
variable{prog:Program}{w:am}{A:aq}{E:Value->aa->Prop}{s:aa}{z TI TO i1 i2:Addr}{fp1 fp2:List Addr}{n1 n2 i:Nat}{P1 P2:Nat->Value->Prop}{S1 S2:Nat->Heap->Prop}{a b:Value}
theorem Z4{Q:Value->aa->Prop}(D1:jy prog w A i1 fp1 n1 P1 S1)(D2:jy prog w A i2 fp2 n2 P2 S2)(ap:wZ z TI TO i1 i2 fp1 fp2)(gz:il s.heap z TI TO .none)(gTI:fg s.heap TI (.ref i1) (.ref i2))(gTO:fg s.heap TO a b)
  (g1:S1 i s.heap)(g2:S2 i s.heap)(l1:i<n1)(l2:i<n2)
  (gQ:∀h' tk x y,P1 i x->P2 i y->il h' z TI TO (rawInt s.heap.objs.size)->fg h' TO x y->S1 (i+1) h'->S2 (i+1) h'->fg h' s.heap.objs.size x y->
   (∀c o,c≠z->c≠TO->c≠i1->c≠i2->s.heap.get? c=some o->h'.get? c=some o)->Q (.ref s.heap.objs.size) {s with heap:=h',toks:=tk}):
  wpAny (model prog w) A (Builtin.«zip.__next__» ⟨[.ref z],[]⟩) (λfin s'=>∃v,fin=.done (.ret v)/\Q v s') E s:=by
 have nz1:i1≠z:=λq=>ap.z1 (q▸ap.m1);have fE:i2≠z:=λq=>ap.z2 (q▸ap.m2);have nt1:TO≠i1:=λq=>ap.to1 (q▸ap.m1);have nt2:TO≠i2:=λq=>ap.to2 (q▸ap.m2);show wpAny _ _ (field (.ref z) 2 >>= _) _ _ _;refine ag (ir gz rfl (x:=.bool false) rfl ?_);show wpAny _ _ (field (.ref z) 3 >>= _) _ _ _;refine ag (ir gz rfl (x:=.ref TI) rfl ?_);refine ag (km gTI rfl ?_);show wpAny _ _ (tx (.ref z) >>= _) _ _ _;refine ag ?_;unfold tx;refine ag (ir gz rfl (x:=.none) rfl (ao ?_));simp only[if_true];refine ag (lr ?_);refine ag (ir gz rfl (x:=.ref TO) rfl ?_);refine ag (og gz 1#d λh1 gz1 s1=>?_)
 replace gz1:il h1 z TI TO .ellipsis:=gz1
 refine ag ?_;simp only[k4,k7,sv,k8];refine ag (ag (tz ?_));show wpAny _ _ (mx (.ref i1) >>= _) _ _ _;refine ag (D1.item i _ _ _ l1 (D1.frame _ _ _ g1 λc hc o q=>s1.extBut c o (λe=>ap.z1 (e▸hc)) q) λx h2 tk2 px g1' s2=>ao ?_);have gTO2:fg h2 TO a b:=s2.extBut _ _ nt1 (s1.extBut _ _ ap.toz gTO);refine ag (km gTO2 rfl ?_);refine ag (xy (s:={s with heap:=h2,toks:=tk2}) gTO2 λh3 gTO3 s3=>?_)
 replace gTO3:fg h3 TO x b:=gTO3
 replace s3:ja TO h2 h3:=s3
 refine ag (ya (ao ?_));refine ag (ag (tz ?_));show wpAny _ _ (mx (.ref i2) >>= _) _ _ _;have g2':S2 i h3:=D2.frame _ _ _ g2 λc hc o q=>s3.extBut c o (λe=>ap.to2 (e▸hc)) (s2.extBut c o (λe=>ap.i12 (e▸hc)) (s1.extBut c o (λe=>ap.z2 (e▸hc)) q));refine ag (D2.item i _ _ _ l2 g2' λy h4 tk4 py g2'' s4=>ao ?_)
 replace s4:ja i2 h3 h4:=s4
 have gTO4:fg h4 TO x b:=s4.extBut _ _ nt2 gTO3;refine ag (km gTO4 rfl ?_);refine ag (xy (s:={s with heap:=h4,toks:=tk4}) gTO4 λh5 gTO5 s5=>?_)
 replace gTO5:fg h5 TO x y:=gTO5
 replace s5:ja TO h4 h5:=s5
 refine ag (ya (ao (ao ?_)));refine ag (km gTO5 rfl ?_);refine ag (wpAny_newTuple ?_);have hsz:h5.objs.size=s.heap.objs.size:=by rw[s5.1,s4.1,s3.1,s2.1,s1.1]
 have gz5:il h5 z TI TO .ellipsis:=s5.extBut _ _ ap.toz.symm (s4.extBut _ _ fE.symm (s3.extBut _ _ ap.toz.symm (s2.extBut _ _ nz1.symm gz1)));have k5:∀c o,c≠z->c≠TO->c≠i1->c≠i2->s.heap.get? c=some o->h5.get? c=some o:=λc o c1 c2 c3 c4 q=>s5.extBut _ _ c2 (s4.extBut _ _ c4 (s3.extBut _ _ c2 (s2.extBut _ _ c3 (s1.extBut _ _ c1 q))));have g15:S1 (i+1) h5:=D1.frame _ _ _ g1' λc hc o q=>s5.extBut c o (λe=>ap.to1 (e▸hc)) (s4.extBut c o (λe=>ap.i21 (e▸hc)) (s3.extBut c o (λe=>ap.to1 (e▸hc)) q));have g25:S2 (i+1) h5:=D2.frame _ _ _ g2'' λc hc o q=>s5.extBut c o (λe=>ap.to2 (e▸hc)) q;have zlt:z<h5.objs.size:=bi gz5;show wpAny _ _ (k9 (.ref z) (.ref h5.objs.size) >>= _) _ _ _;refine ag ?_;unfold k9;have gz6:il (h5.push {cls:=.type "tuple",data:=.seq #[x,y]}) z TI TO .ellipsis:=ar _ gz5;refine ag (og gz6 1#d λh7 gz7 s7=>?_)
 replace gz7:il h7 z TI TO (rawInt h5.objs.size):=gz7
 refine og gz7 1#d λh8 gz8 s8=>?_
 replace gz8:il h8 z TI TO (rawInt h5.objs.size):=gz8
 have up:∀c o,c≠z->h5.get? c=some o->h8.get? c=some o:=λc o c1 q=>s8.extBut _ _ c1 (s7.extBut _ _ c1 (ar _ q));have gT8:fg h8 h5.objs.size x y:=s8.extBut _ _ (kr zlt) (s7.extBut _ _ (kr zlt) (cy _ rfl));rw[hsz]at gz8 gT8;refine ao ⟨_,rfl,?_⟩;show Q (.ref h5.objs.size) _;rw[hsz];exact gQ h8 _ x y px py gz8 (up _ _ ap.toz gTO5) (D1.frame _ _ _ g15 λc hc o q=>up c o (λe=>ap.z1 (e▸hc)) q) (D2.frame _ _ _ g25 λc hc o q=>up c o (λe=>ap.z2 (e▸hc)) q) gT8 λc o c1 c2 c3 c4 q=>up c o c1 (k5 c o c1 c2 c3 c4 q)
theorem Y4{Q:Fin->aa->Prop}(D1:jy prog w A i1 fp1 n1 P1 S1)(D2:jy prog w A i2 fp2 n2 P2 S2)(ap:wZ z TI TO i1 i2 fp1 fp2)(gz:il s.heap z TI TO .none)(gTI:fg s.heap TI (.ref i1) (.ref i2))(gTO:fg s.heap TO a b)
  (g1:S1 i s.heap)(g2:S2 i s.heap)(fin:i=n1\/(i<n1/\i=n2))
  (gE:∀h' tk e,(∀c o,c≠z->c≠TO->c≠i1->c≠i2->s.heap.get? c=some o->h'.get? c=some o)->(∃o,h'.get? e=some o/\o.cls=.type "StopIteration")->E (.ref e) {s with heap:=h',toks:=tk}):
  wpAny (model prog w) A (Builtin.«zip.__next__» ⟨[.ref z],[]⟩) Q E s:=by
 have nz1:i1≠z:=λq=>ap.z1 (q▸ap.m1);have fE:i2≠z:=λq=>ap.z2 (q▸ap.m2);have nt1:TO≠i1:=λq=>ap.to1 (q▸ap.m1);have nt2:TO≠i2:=λq=>ap.to2 (q▸ap.m2);show wpAny _ _ (field (.ref z) 2 >>= _) _ _ _;refine ag (ir gz rfl (x:=.bool false) rfl ?_);show wpAny _ _ (field (.ref z) 3 >>= _) _ _ _;refine ag (ir gz rfl (x:=.ref TI) rfl ?_);refine ag (km gTI rfl ?_);show wpAny _ _ (tx (.ref z) >>= _) _ _ _;refine ag ?_;unfold tx;refine ag (ir gz rfl (x:=.none) rfl (ao ?_));simp only[if_true];refine ag (lr ?_);refine ag (ir gz rfl (x:=.ref TO) rfl ?_);refine ag (og gz 1#d λh1 gz1 s1=>?_)
 replace gz1:il h1 z TI TO .ellipsis:=gz1
 refine ag ?_;simp only[k4,k7,sv,k8];refine ag (ag (tz ?_));show wpAny _ _ (mx (.ref i1) >>= _) _ _ _;have g1':S1 i h1:=D1.frame _ _ _ g1 λc hc o q=>s1.extBut c o (λe=>ap.z1 (e▸hc)) q;rcases fin with e1 |⟨l1,e2⟩
 .subst e1
  refine ag (D1.done _ _ _ g1' λh2 e s2 he=>?_);obtain⟨oe,hoe,hce⟩:=he;have gz2:il h2 z TI TO .ellipsis:=s2 _ _ nz1.symm gz1;have hez:e≠z:=λq=>by
   subst q;rw[gz2]at hoe;cases hoe;simp at hce
  refine og (s:={s with heap:=h2}) gz2 1#d λh3 _ s3=>?_;exact gE h3 _ e (λc o c1 _ c3 _ q=>s3.extBut _ _ c1 (s2 _ _ c3 (s1.extBut _ _ c1 q))) ⟨oe,s3.extBut _ _ hez hoe,hce⟩
 .subst e2
  refine ag (D1.item i _ _ _ l1 g1' λx h2 tk2 px g1'' s2=>ao ?_);have gTO2:fg h2 TO a b:=s2.extBut _ _ nt1 (s1.extBut _ _ ap.toz gTO);refine ag (km gTO2 rfl ?_);refine ag (xy (s:={s with heap:=h2,toks:=tk2}) gTO2 λh3 gTO3 s3=>?_)
  replace s3:ja TO h2 h3:=s3
  refine ag (ya (ao ?_));refine ag (ag (tz ?_));show wpAny _ _ (mx (.ref i2) >>= _) _ _ _;have g2':S2 i h3:=D2.frame _ _ _ g2 λc hc o q=>s3.extBut c o (λe=>ap.to2 (e▸hc)) (s2.extBut c o (λe=>ap.i12 (e▸hc)) (s1.extBut c o (λe=>ap.z2 (e▸hc)) q));refine ag (D2.done _ _ _ g2' λh4 e s4 he=>?_)
  replace s4:qr i2 h3 h4:=s4
  obtain⟨oe,hoe,hce⟩:=he;have gz4:il h4 z TI TO .ellipsis:=s4 _ _ fE.symm (s3.extBut _ _ ap.toz.symm (s2.extBut _ _ nz1.symm gz1));have hez:e≠z:=λq=>by
   subst q;rw[gz4]at hoe;cases hoe;simp at hce
  refine og (s:={s with heap:=h4,toks:=tk2}) gz4 1#d λh5 _ s5=>?_;exact gE h5 _ e (λc o c1 c2 c3 c4 q=>s5.extBut _ _ c1 (s4 _ _ c4 (s3.extBut _ _ c2 (s2.extBut _ _ c3 (s1.extBut _ _ c1 q))))) ⟨oe,s5.extBut _ _ hez hoe,hce⟩
theorem R0 (D1:jy prog w A.in1 i1 fp1 n1 P1 S1)(D2:jy prog w A.in1 i2 fp2 n2 P2 S2)(ap:wZ z TI TO i1 i2 fp1 fp2)(gz:il s.heap z TI TO .none)(gTI:fg s.heap TI (.ref i1) (.ref i2))(gTO:fg s.heap TO a b)
  (g1:S1 i s.heap)(g2:S2 i s.heap)(l1:i<n1)(l2:i<n2)
  (gQ:∀h' tk x y,P1 i x->P2 i y->il h' z TI TO (rawInt s.heap.objs.size)->fg h' TO x y->S1 (i+1) h'->S2 (i+1) h'->fg h' s.heap.objs.size x y->
   (∀c o,c≠z->c≠TO->c≠i1->c≠i2->s.heap.get? c=some o->h'.get? c=some o)->Q (some (.ref s.heap.objs.size)) {s with heap:=h',toks:=tk}):
  wpAny (model prog w) A (pyNext (.ref z)) Q E s:=by
 have gT:s.TypeIs (.ref z) _:=⟨_,gz,rfl⟩;refine ag (ua (mn gT ub (ki ub gT l4 ?_ (l5 _))));exact Z4 D1 D2 ap gz gTI gTO g1 g2 l1 l2 λh' tk x y p1 p2 e1 e2 e3 e4 e5 e6=>ao (gQ h' tk x y p1 p2 e1 e2 e3 e4 e5 e6)
theorem L0 (D1:jy prog w A.in1 i1 fp1 n1 P1 S1)(D2:jy prog w A.in1 i2 fp2 n2 P2 S2)(ap:wZ z TI TO i1 i2 fp1 fp2)(gz:il s.heap z TI TO .none)(gTI:fg s.heap TI (.ref i1) (.ref i2))(gTO:fg s.heap TO a b)
  (g1:S1 i s.heap)(g2:S2 i s.heap)(fin:i=n1\/(i<n1/\i=n2))
  (gQ:∀h' tk,(∀c o,c≠z->c≠TO->c≠i1->c≠i2->s.heap.get? c=some o->h'.get? c=some o)->Q none {s with heap:=h',toks:=tk}):wpAny (model prog w) A (pyNext (.ref z)) Q E s:=by
 have gT:s.TypeIs (.ref z) _:=⟨_,gz,rfl⟩;refine ag (ua (mn gT ub (ki ub gT l4 ?_ (l5 _))));refine Y4 D1 D2 ap gz gTI gTO g1 g2 fin λh' tk e hk he=>?_;obtain⟨o,ho,hc⟩:=he;refine ag (yb ⟨o,ho,hc⟩ isSubtype_stop ?_);exact ao (gQ _ _ hk)
end
abbrev Bb(h:Heap)(o1:Obj):Heap:=h.push o1
abbrev Cb(h:Heap)(o1 o2:Obj):Heap:=(Bb h o1).push o2
abbrev Jb(h:Heap)(o1 o2:Obj):Heap:=(Cb h o1 o2).push {cls:=.type "tuple",data:=.seq #[.ref h.objs.size,.ref (Bb h o1).objs.size]}
abbrev Db(h:Heap)(o1 o2:Obj):Heap:=(Jb h o1 o2).push {cls:=.type "tuple",data:=.seq #[.none,.none]}
abbrev tW(h:Heap)(o1 o2:Obj):Heap:=(Db h o1 o2).push {cls:=.type "zip",data:=.fields #[.none,.bool false,.bool false,.ref (Cb h o1 o2).objs.size,.ref (Jb h o1 o2).objs.size]}
def wP(l:Addr)(o:Obj)(G:Heap->Prop):Prop:=
 ∀(prog:Program)(w:am)(A:aq)(E:Value->aa->Prop)(s:aa)(Q:Value->aa->Prop),G s.heap->Q (.ref s.heap.objs.size) {s with heap:=s.heap.push o}->wpAny (model prog w) A (pyIter (.ref l)) Q E s
theorem aaw(l1 l2:Addr)(o1 o2:Obj)(G1 G2:Heap->Prop)(p1:wP l1 o1 G1)(p2:wP l2 o2 G2)(k2:∀h,G2 h->G2 (h.push o1)):
  Meets (Builtin.«zip.__new__» ⟨[.type "zip",.ref l1,.ref l2],[]⟩) (λ_ R s=>G1 s.heap/\G2 s.heap/\R (.ok (.ret (.ref (Db s.heap o1 o2).objs.size))) {s with heap:=tW s.heap o1 o2}):=
 .of_wp λprog w A R s h=>by
  obtain⟨hp,g,d,tk,os⟩:=s;obtain⟨g1,g2,h⟩:=h;have hsub:=sub_zip;have q1:=λ(A':aq) (E':Value->aa->Prop) (Q':Value->aa->Prop)=>p1 prog w A' E' ⟨hp,g,d,tk,os⟩ Q' g1;have q2:=λ(A':aq) (E':Value->aa->Prop) (Q':Value->aa->Prop)=>p2 prog w A' E' ⟨hp.push o1,g,d,tk,os⟩ Q' (k2 _ g2)
  wp_walk using q1 _ _ _,q2 _ _ _
  exact⟨_,rfl,h⟩
theorem O2 {w:am}{A:aq}{E:Value->aa->Prop}{s:aa}{l1 l2:Addr}{o1 o2:Obj}{G1 G2:Heap->Prop}{Q:Value->aa->Prop}(p1:wP l1 o1 G1)(p2:wP l2 o2 G2)(k2:∀h,G2 h->G2 (h.push o1))(g1:G1 s.heap)(g2:G2 s.heap)
  (f1:o1.isFreed=false)(f2:o2.isFreed=false)
  (h:∀h',il h' (s.heap.objs.size+4) (s.heap.objs.size+2) (s.heap.objs.size+3) .none->fg h' (s.heap.objs.size+2) (.ref s.heap.objs.size) (.ref (s.heap.objs.size+1))->fg h' (s.heap.objs.size+3) .none .none->
   h'.get? s.heap.objs.size=some o1->h'.get? (s.heap.objs.size+1)=some o2->(∀c o,s.heap.get? c=some o->h'.get? c=some o)->Q (.ref (s.heap.objs.size+4)) {s with heap:=h'}):
  wpAny (model prog w) A (call (.type "zip") [.ref l1,.ref l2]) Q E s:=by
 refine callType_new F.called_zip 1#b (F.typeCall_zip_2 _ _) (F.newCall_zip_2 _ _) (λobj=>F.args_object_init_3 obj _ _) F.entry_zip_new (aaw l1 l2 o1 o2 G1 G2 p1 p2 k2) ⟨g1,g2,?_⟩;have e1:(Bb s.heap o1).objs.size=s.heap.objs.size+1:=jo ..;have e2:(Cb s.heap o1 o2).objs.size=s.heap.objs.size+2:=by rw[jo,e1]
 have e3:(Jb s.heap o1 o2).objs.size=s.heap.objs.size+3:=by rw[jo,e2]
 have e4:(Db s.heap o1 o2).objs.size=s.heap.objs.size+4:=by rw[jo,e3]
 have r5:(tW s.heap o1 o2).get? (Db s.heap o1 o2).objs.size=some _:=cy _ rfl;have r4:(tW s.heap o1 o2).get? (Jb s.heap o1 o2).objs.size=some _:=ar _ (cy _ rfl);have r3:(tW s.heap o1 o2).get? (Cb s.heap o1 o2).objs.size=some _:=ar _ (ar _ (cy _ rfl));have r2:(tW s.heap o1 o2).get? (Bb s.heap o1).objs.size=some o2:=ar _ (ar _ (ar _ (cy _ f2)));have r1:(tW s.heap o1 o2).get? s.heap.objs.size=some o1:=ar _ (ar _ (ar _ (ar _ (cy _ f1))));show _/\_;rw[e2,e3,e4]at r5;rw[e1,e2]at r3;rw[e3]at r4;rw[e1]at r2;rw[e4];exact⟨⟨_,r5,rfl⟩,h _ r5 r3 r4 r1 r2 λc o q=>ar _ (ar _ (ar _ (ar _ (ar _ q))))⟩
def jX(f:Bool)(K:ae)(H:Hp)(a:Addr)(xs:List V):Prop:=match f with
 |true=>dB K H a xs
 |false=>bV K H a xs
def oC(f:Bool)(it a:Addr)(i:Nat)(h:Heap):Prop:=match f with
 |true=>h.IsTupleIter it a i
 |false=>h.IsListIter it a i
def tU(f:Bool)(a:Addr)(items:Array Value)(h:Heap):Prop:=match f with
 |true=>h.IsTuple a items
 |false=>h.IsList a items
def Lk(f:Bool)(a:Addr):Obj:=match f with
 |true=>{cls:=.type "tuple_iterator",data:=.fields #[.ref a,.int 0 0]}
 |false=>{cls:=.type "list_iterator",data:=.fields #[.ref a,.int 0 0]}
section
variable{X:Cx}{BP:List (Addr×Obj)}{σ:St}{H:Hp}{s:aa}{a:Addr}{xs ys:List V}{f:Bool}
theorem aG.seqF(I:aG X BP σ H s)(h:jX f X.K H a xs):∃its:BF,aV xs its/\tU f a its.toArray s.heap/\xs.length<=sizeLine:=by
 cases f with
 |true=>
  obtain⟨its,r,p,z⟩:=I.tuple h;exact⟨its,r,p,z⟩
 |false=>
  obtain⟨its,r,p,z⟩:=I.list h;exact⟨its,r,p.isList,z⟩
theorem aG.seqF_inj(I:aG X BP σ H s)(h:jX f X.K H a xs)(h':jX f X.K H a ys):xs=ys:=by
 cases f with
 |true=>exact I.tuple_inj h h'
 |false=>exact I.list_inj h h'
theorem aG.apart (I:aG X BP σ H s)(fb:fZ X BP H b)(h:jX f X.K H a xs):a≠b:=by
 have viaK:∀{o:Obj},X.K.lookup a=some o->a≠b:=λ{o} q e=>by
  have hb:=e▸I.ok.mod.kin a o q;rcases fb.2.2.2.1 with z |z
  .exact I.ok.noex b o hb z
  .exact absurd (du (bi (I.ok.bs b o hb).1) z) (ji _)
 cases f with
 |true=>
  rcases h with(h |⟨o,h⟩) |⟨o,_,_,q,_⟩
  .exact gJ h fb.1
  .exact gJ h fb.1
  .exact viaK q
 |false=>
  rcases h with(h |⟨o,h⟩) |⟨o,_,_,q,_⟩
  .exact gJ h fb.1
  .exact gJ h fb.1
  .exact viaK q
end
theorem Ia (f:Bool)(hh:A.handled=none)(it a:Addr)(hne:a≠it)(items:Array Value):
  jy prog w A it [it,a] items.size (λi v=>items[i]?=some v) (λi h=>oC f it a i h/\tU f a items h):=by
 cases f with
 |true=>exact ab7 hh _ a hne _
 |false=>exact Draws.list hh _ a hne _
theorem E1(f:Bool)(a:Addr)(items:Array Value):wP a (Lk f a) (tU f a items):=by
 cases f with
 |true=>exact λprog w A E s Q g q=>l6 g q
 |false=>exact λprog w A E s Q g q=>sy g q
theorem oC.keep (x:oC f it a i h)(k:∀o,h.get? it=some o->h'.get? it=some o):oC f it a i h':=by
 cases f with
 |true=>obtain⟨o,e,r⟩:=x;exact⟨o,k o e,r⟩
 |false=>obtain⟨o,e,r⟩:=x;exact⟨o,k o e,r⟩
theorem tU.keep (x:tU f a items h)(k:∀o,h.get? a=some o->h'.get? a=some o):tU f a items h':=by
 cases f with
 |true=>obtain⟨o,e,r⟩:=x;exact⟨o,k o e,r⟩
 |false=>obtain⟨o,e,r⟩:=x;exact⟨o,k o e,r⟩
theorem oC.obj (x:oC f it a i h):∃o,h.get? it=some o/\∀v,o.data≠.cell v:=by
 cases f with
 |true=>obtain⟨o,e,_,d⟩:=x;exact⟨o,e,λv z=>by rw[d]at z;cases z⟩
 |false=>obtain⟨o,e,_,d⟩:=x;exact⟨o,e,λv z=>by rw[d]at z;cases z⟩
theorem Lp(f:Bool)(a it:Addr){h:Heap}(e:h.get? it=some (Lk f a)):oC f it a 0 h:=by
 cases f with
 |true=>exact⟨_,e,rfl,rfl⟩
 |false=>exact⟨_,e,rfl,rfl⟩
theorem Ts(f:Bool)(a:Addr):(Lk f a).isFreed=false:=by cases f<;>rfl
def K5 (K : ae) (f1 : Bool) (a : Addr) (f2 : Bool) (b : Addr) : It :=
  ⟨λi H => ∃ xs ys x y, jX f1 K H a xs ∧ jX f2 K H b ys ∧ xs[i]? = some x ∧ ys[i]? = some y,
   λi H v H' => ∃ p x y, H p = none ∧ v = .ref p ∧ H' = aM H p (.tup [x, y]) ∧ (∀ xs, jX f1 K H a xs → xs[i]? = some x) ∧ ∀ ys, jX f2 K H b ys → ys[i]? = some y,
   λi H => ∃ xs ys, jX f1 K H a xs ∧ jX f2 K H b ys ∧ (i = xs.length ∨ (i < xs.length ∧ i = ys.length))⟩
structure Eb(z TI TO i1 i2:Addr):Prop where
 tiz:TI≠z
 toz:TO≠z
 i1z:i1≠z
 i2z:i2≠z
 tito:TI≠TO
 ti1:TI≠i1
 ti2:TI≠i2
 to1:TO≠i1
 to2:TO≠i2
 i12:i1≠i2
theorem Eb.ap{z TI TO i1 i2 a b:Addr}(r:Eb z TI TO i1 i2)(h:∀c∈[z,TI,TO,i1,i2],a≠c)(g:∀c∈[z,TI,TO,i1,i2],b≠c):wZ z TI TO i1 i2 [i1,a] [i2,b] where
 tiz:=r.tiz
 toz:=r.toz
 tito:=r.tito
 ti1:=r.ti1
 ti2:=r.ti2
 z1:=λq=>by simp at q;rcases q with q |q;exact r.i1z q.symm;exact h z (by simp) q.symm
 z2:=λq=>by simp at q;rcases q with q |q;exact r.i2z q.symm;exact g z (by simp) q.symm
 to1:=λq=>by simp at q;rcases q with q |q;exact r.to1 q;exact h _ (by simp) q.symm
 to2:=λq=>by simp at q;rcases q with q |q;exact r.to2 q;exact g _ (by simp) q.symm
 i12:=λq=>by simp at q;rcases q with q |q;exact r.i12 q;exact g _ (by simp) q.symm
 i21:=λq=>by simp at q;rcases q with q |q;exact r.i12 q.symm;exact h _ (by simp) q.symm
 m1:=by simp
 m2:=by simp
theorem abZ{P:Program}{w:am}{K:ae}{elts:List ah}{x1:Nat}{tp:ai}(f1 f2:Bool)(a b z TI TO i1 i2:Addr)(zr:Eb z TI TO i1 i2):
  tV P w K (.Tuple elts x1 tp) (K5 K f1 a f2 b) [z,TI,TO,i1,i2] z (λi h=>il h z TI TO .none/\fg h TI (.ref i1) (.ref i2)/\(∃u v,fg h TO u v)/\oC f1 i1 a i h/\oC f2 i2 b i h) where
 mem:=by simp
 obj:=λi h st c hc=>by
  obtain⟨e1,e2,⟨u,v,e3⟩,e4,e5⟩:=st;simp at hc;rcases hc with q |q |q |q |q
  .subst q
   exact⟨_,e1,λv z=>nomatch z⟩
  .subst q
   exact⟨_,e2,λv z=>nomatch z⟩
  .subst q
   exact⟨_,e3,λv z=>nomatch z⟩
  .subst q
   exact e4.obj
  .subst q
   exact e5.obj
 keep:=λi h h' st k=>by
  obtain⟨e1,e2,⟨u,v,e3⟩,e4,e5⟩:=st;exact⟨k z 1#d _ e1,k TI 1#d _ e2,⟨u,v,k TO 1#d _ e3⟩,e4.keep λo q=>k i1 1#d o q,e5.keep λo q=>k i2 1#d o q⟩
 item:=by
  intro X hP hw hK hc i BP s σ H E I hf st hg;subst hP hw hK;obtain⟨xs,ys,x,y,hx,hy,ex,ey⟩:=hg;obtain⟨its,r1,p1,_⟩:=I.seqF hx;obtain⟨jts,r2,p2,_⟩:=I.seqF hy;obtain⟨ux,gx,rx⟩:=r1.get ex;obtain⟨uy,gy,ry⟩:=r2.get ey;obtain⟨e1,e2,⟨u,v,e3⟩,e4,e5⟩:=st;have na:=λc hc=>I.apart (hf c hc) hx;have nb:=λc hc=>I.apart (hf c hc) hy;have hd:X.A.in1.handled=none:=I.ok.hd hc;have D1:=Ia (prog:=X.prog) (w:=X.w) f1 hd i1 a (na i1 1#d) its.toArray;have D2:=Ia (prog:=X.prog) (w:=X.w) f2 hd i2 b (nb i2 1#d) jts.toArray;refine R0 D1 D2 (zr.ap na nb) e1 e2 e3 ⟨e4,p1⟩ ⟨e5,p2⟩ (cf.mp gx).1 (cf.mp gy).1 λh1 tk vx vy px py q1 q2 q3 q4 q5 k1=>⟨_,rfl,?_⟩;have ex':vx=ux:=by
   have:its[i]?=some vx:=by simpa using px
   rw[gx]at this;exact(cq this).symm
  have ey':vy=uy:=by
   have:jts[i]?=some vy:=by simpa using py
   rw[gy]at this;exact(cq this).symm
  subst ex' ey';have lt:∀c∈[z,TI,TO,i1,i2],c≠s.heap.objs.size:=λc hc=>by
   have:∃o,s.heap.get? c=some o:=by
    simp at hc;rcases hc with q |q |q |q |q
    .exact⟨_,q▸e1⟩
    .exact⟨_,q▸e2⟩
    .exact⟨_,q▸e3⟩
    .obtain⟨o,ho,_⟩:=e4.obj
     exact⟨o,q▸ho⟩
    .obtain⟨o,ho,_⟩:=e5.obj
     exact⟨o,q▸ho⟩
   obtain⟨o,ho⟩:=this;exact de (bi ho)
  refine wpAny_letOwnedTupleGo_zip q1 λh2 z2 sb2=>?_;have t2:=(sb2.2 _ (lt z 1#d).symm).trans q5;have I2:aG X BP σ (aM H s.heap.objs.size (.tup [x,y])) {s with heap:=h2,toks:=tk}:=
   I.turnedNew hf (λc o hc q=>(sb2.2 c (λe=>hc (by simp[e]))).trans (k1 c o (λe=>hc (by simp[e])) (λe=>hc (by simp[e])) (λe=>hc (by simp[e])) (λe=>hc (by simp[e])) q)) (aj _)
    ⟨⟨by show 2<=sizeLine;decide,_,t2,rfl⟩,[vx,vy],.cons rx (.cons ry .nil),⟨_,t2,rfl,_,rfl⟩⟩
  refine⟨.ref s.heap.objs.size,_,I2,rfl,⟨_,x,y,I.hok.fresh (aj _),rfl,rfl,λzs hz=>by rw[I.seqF_inj hz hx];exact ex,λzs hz=>by rw[I.seqF_inj hz hy];exact ey⟩,
   ⟨z2,(sb2.2 _ zr.tiz).trans (k1 _ _ zr.tiz zr.tito zr.ti1 zr.ti2 e2),⟨_,_,(sb2.2 _ zr.toz).trans q2⟩,q3.1.keep λo q=>(sb2.2 _ zr.i1z).trans q,q4.1.keep λo q=>(sb2.2 _ zr.i2z).trans q⟩,λc hc=>?_⟩
  rw[bK (lt c hc)];exact(hf c hc).1
 done:=by
  intro X hP hw hK hc i BP s σ H E I hf st hg;subst hP hw hK;obtain⟨xs,ys,hx,hy,fin⟩:=hg;obtain⟨its,r1,p1,_⟩:=I.seqF hx;obtain⟨jts,r2,p2,_⟩:=I.seqF hy;have l1:=r1.length;have l2:=r2.length;obtain⟨e1,e2,⟨u,v,e3⟩,e4,e5⟩:=st;have na:=λc hc=>I.apart (hf c hc) hx;have nb:=λc hc=>I.apart (hf c hc) hy;have hd:X.A.in1.handled=none:=I.ok.hd hc;have D1:=Ia (prog:=X.prog) (w:=X.w) f1 hd i1 a (na i1 1#d) its.toArray;have D2:=Ia (prog:=X.prog) (w:=X.w) f2 hd i2 b (nb i2 1#d) jts.toArray;refine L0 D1 D2 (zr.ap na nb) e1 e2 e3 ⟨e4,p1⟩ ⟨e5,p2⟩ (by rw[bj,bj,<-l1,<-l2];exact fin) λh' tk k=>⟨rfl,?_⟩;exact I.turnedL hf λc o hc q=>k c o (λe=>hc (by simp[e])) (λe=>hc (by simp[e])) (λe=>hc (by simp[e])) (λe=>hc (by simp[e])) q
 self:=λ_ _ _ _ _ st h=>wpAny_pyIter_zip st.1 h
section
variable{X:Cx}{elts:List ah}{x1:Nat}{tp:ai}
def ahu(K:ae)(tl:TA):TI:=λσ H R=>tl σ H λvs H1=>∃f1 a f2 b xs ys,vs=[.ref a,.ref b]/\jX f1 K H1 a xs/\jX f2 K H1 b ys/\R (K5 K f1 a f2 b) H1
theorem afd {tl:TA}{p pos:ai}(hg:Gl X "zip")(hm:X.mg "zip"=none)(hl:PA X [l,r] tl)(hs:autoParam (starEach [l,r] X.env=[(false,eval l X.env),(false,eval r X.env)]) Zqq)(hs2:autoParam (starEach [r] X.env=[(false,eval r X.env)]) Zqq):
  PI X (.Tuple elts x1 tp) (.Call (.Name "zip" p) [l,r] [] pos) (ahu X.K tl):=by
 intro BP s σ H R I h;refine Call_ (qH I hg hm boot_zip (qg (aY (hl pos BP s σ H _ I h) λus s1 hq=>?_) (by rw[hs,hs2]) (by rw[hs2];rfl)));rcases hq with⟨vs,H1,I1,r1,q1⟩;obtain⟨f1,a,f2,b,xs,ys,rfl,hx,hy,q⟩:=q1;obtain⟨u,v,rfl,ru,rv⟩:=E3 r1;cases ru;cases rv;obtain⟨its,_,p1,_⟩:=I1.seqF hx;obtain⟨jts,_,p2,_⟩:=I1.seqF hy;refine O2 (E1 f1 a its.toArray) (E1 f2 b jts.toArray) (λh g=>g.keep λo z=>ar _ z) p1 p2 (Ts _ _) (Ts _ _) λh' e1 e2 e3 e4 e5 k=>?_;refine wpAny_pyIter_zip e1 ?_;have zr:Eb (s1.heap.objs.size+4) (s1.heap.objs.size+2) (s1.heap.objs.size+3) s1.heap.objs.size (s1.heap.objs.size+1):=by
  generalize s1.heap.objs.size=n;have g:∀i j:Nat,i≠j->((n:Nat)+i:Nat)≠n+j:=λi j h=>by omega
  exact⟨g 2 4 1#b,g 3 4 1#b,g 0 4 1#b,g 1 4 1#b,g 2 3 1#b,g 2 0 1#b,g 2 1 1#b,g 3 0 1#b,g 3 1 1#b,g 0 1 1#b⟩
 refine⟨_,[s1.heap.objs.size+4,s1.heap.objs.size+2,s1.heap.objs.size+3,s1.heap.objs.size,s1.heap.objs.size+1],_,_,H1,rfl,I1.kept k,abZ f1 f2 a b _ _ _ _ _ zr,⟨e1,e2,⟨_,_,e3⟩,Lp f1 a _ e4,Lp f2 b _ e5⟩,λc hc=>?_,q⟩;have hb:s1.heap.objs.size<=c:=by
  simp only[br,fm,or_false]at hc;rcases hc with q |q |q |q |q
  all_goals rw[q]
  all_goals first |exact aj _ |exact Nat.le_add_right _ _
 exact I1.fpOk hb (I1.hok.fresh hb)
end
theorem aeH(K:ae):nr K (.type "int") (.type "bool")=some false:=by
 unfold nr PySem.W.kitCls;rw[if_neg 1#b];show(if PySem.W.kitMeta "bool"=true then PySem.W.subIn K (.type "int") (.type "bool")else none)=some false;rw[if_pos (by decide+kernel)];show(fastBuiltinMro "int").map (·.contains (.type "bool"))=some false;decide+kernel
structure nX(K:ae)(x qual:Str)(st:Stmt)(f:Addr)(fd:cg)(ds:Array Value):Prop where
 ex:∃(oc:Value)(od:BI)(T:Addr)(oT:Obj)(n:Nat)(kV doc pm:Value)(an:BI)(cdv ct:Value)(osl:Array BG),
  fd=fj x qual (gY st) (eN st) (cL st) (.ref T) kV doc pm an cdv ct/\K.lookup f=some ⟨oc,od,.func fd,osl⟩/\jw K cdv qual=true/\K.lookup T=some oT/\oT.data=.seq ds n
 kp:gw K (.ref f)=true
section
variable{K:ae}
theorem nX.binds {st:Stmt}{f:Addr}{fd:cg}{ds:Array Value}{ps:List Str}{dd:BF}(F:nX K x qual st f fd ds)
  (h:∀(T:Addr)(kV doc pm:Value)(an:BI)(cdv ct:Value)(us:BF),(us++dd).length=ps.length->
   ∃k,bindArgs (fj x qual (gY st) (eN st) (cL st) (.ref T) kV doc pm an cdv ct) ⟨us,[]⟩=seqItems? (.ref T) >>= k/\k (some ds)=pure (ps.zip (us++dd))):kJ K fd ps dd:=by
 obtain⟨oc,od,T,oT,n,kV,doc,pm,an,cdv,ct,osl,rfl,lk,hcd,lT,hT⟩:=F.ex;intro s us hK hl;obtain⟨k,h1,h2⟩:=h T _ _ _ _ _ _ _ hl;exact PySem.W.binds_K hK rfl lT hT h1 h2
theorem Fv {st:Stmt}{f T:Addr}{oT:Obj}{n:Nat}{ds:Array Value}{oc:Value}{od an:BI}{osl:Array BG}{kV doc pm cdv ct:Value}(l:K.lookup f=some ⟨oc,od,.func (fj x qual (gY st) (eN st) (cL st) (.ref T) kV doc pm an cdv ct),osl⟩)
  (c:jw K cdv qual=true)(k:gw K (.ref f)=true)(lT:K.lookup T=some oT)(hT:oT.data=.seq ds n):nX K x qual st f (fj x qual (gY st) (eN st) (cL st) (.ref T) kV doc pm an cdv ct) ds:=
 ⟨⟨oc,od,T,oT,n,kV,doc,pm,an,cdv,ct,osl,rfl,l,c,lT,hT⟩,k⟩
end
theorem Uy {cap:List (Nat×Str)}(so:Scope)(N:List Str)(hso:X.env.scope=so)(hN:X.N=N)(kind:sc.kind=.function)(names:∀y∈sc.names,y.2=.local->sc.names.lookup y.1=some .local)
  (nocell:∀y∈sc.names,y.2≠.cell)(free:∀y∈sc.names,y.2=.free->so.names.lookup y.1=some .cell)(at':∀p∈cap,N[p.1]?=some p.2)(hcap:∀p∈cap,sc.names.lookup p.2=some .free):iH X sc own cap:=
 ⟨kind,names,nocell,λy hy e=>by show X.env.scope.names.lookup _=_;rw[hso];exact free y hy e,λp hp=>by rw[hN];exact at' p hp,hcap⟩
theorem Bf(n d:Nat):HT.sIx (n+1) d (some (-1))=n:=by
 unfold HT.sIx;grind
theorem fU.has (x:fU P w H h a o):∃u,h.get? a=some u:=by
 cases o with
 |lst xs=>obtain⟨_,_,_,_,e⟩:=x;exact⟨_,e⟩
 |tup xs=>obtain⟨_,_,_,u,e,_⟩:=x;exact⟨u,e⟩
 |dK kvs=>obtain⟨_,_,_,_,o,_,_,e,_⟩:=x;exact⟨_,e⟩
 |dT kvs=>obtain⟨_,_,_,_,o,_,_,e,_⟩:=x;exact⟨_,e⟩
 |set S n=>obtain⟨o,_,_,_,e,_⟩:=x;exact⟨_,e⟩
 |ins C dx fs=>obtain⟨_,_,_,e,_⟩:=x;exact⟨_,e⟩
 |own y=>exact x
 |xd fs=>obtain⟨_,⟨_,_,_,e,_⟩,_⟩:=x;exact⟨_,e⟩
 |rng lo hi=>obtain⟨_,_,_,e⟩:=x;exact⟨_,e⟩
 |frz ob u=>obtain⟨e,_⟩:=x;exact⟨_,e⟩
 |tbl ps=>exact⟨_,show h.get? a=some _ from x⟩
 |met f y=>exact⟨_,show h.get? a=some _ from x⟩
 |ext φ=>exact x.2.1
@[reducible] def jN:BF:=[.type "ValueError",.type "Exception",.type "BaseException",.type "object"]
theorem adz{K:ae}{h:Heap}{C:Addr}{bmB:BF}{newId:String}(X:K.In h)(q:io K C bmB newId=true):
  ∃bm N nm qn bs hdct sn sub ab col dd k0 k1 k2 k3 k5 mN,h.get? C=some (excClassObj nm qn C N bs bm hdct sn sub ab col dd k0 k1 k2 k3 k5 newId)/\h.Ns N mN/\mN "__init__"=none/\OwnTail h bmB bm:=by
 unfold io at q;split at q
 .rename_i dd cd sl ho
  split at q
  .rename_i C' bm k0 k1 k2 k3 n k5 hm hs
   simp only[sx,beq_iff_eq,Bool.not_eq_true']at q;obtain⟨⟨⟨⟨⟨z1,z2⟩,hdel⟩,ht⟩,hok⟩,hni⟩:=q;subst z1 z2;obtain⟨nm,bs,mro,ns,qn,hd,sn,sub,ab,col,del⟩:=cd;dsimp only at hm hdel hok hni;subst hm hdel;have hsl:sl=#[k0,k1,k2,k3,some (.builtin n),k5]:=by
    obtain⟨l⟩:=sl;simp only at hs;rw[hs]
   subst hsl;refine⟨bm,ns,nm,qn,bs,hd,sn,sub,ab,col,dd,k0,k1,k2,k3,k5,_,X _ _ ho,.of_isNs (PySem.W.isNs_of_in X hok),PySem.W.nsMap_none_of_in X hok hni,PySem.W.tail_of_in X ht⟩
  .cases q
 .cases q
def iR(P:Program)(w:am):kR:=λouter H s E e s'=>∃(x C t:Addr)(B:Heap)(H':Hp),e=.ref x/\s'.os=s.os/\jt s'.gens/\Un (fP outer) [] H H' s.heap s'.heap/\fN P w H' s'.heap/\
 Heap.FlyingW B outer x (.ref C) (.ref t) s'.heap/\(∀b o,s'.heap.get? b=some o->(∃u,H' b=some u)\/(∃o',s.heap.get? b=some o'/\b∉fP outer)->B.get? b=some o)/\E (.ref C) none H'
theorem abT{P:Program}{w:am}{K:ae}{mg:Str->BG}{base:Heap}{N:List Str}{qual:Str}{scope:Scope}{f:Addr}{cd:Value}{A:aq}{outer:List bn}{BQ:aa}{BR:Hp}{E:XK}
  {x:Str}{C:Addr}{txt:Str}{j:Nat}{np p1 cpos pos:ai}(hg:Gl (fF (iR P w) P w K mg base N qual scope f cd A outer BQ BR E) x)(hm:mg x=some (.ref C))(hx:io K C jN "ValueError.__new__"=true)
  (hd:autoParam ((x==("__debug__":Str))=false) Zqw):
  PS (fF (iR P w) P w K mg base N qual scope f cd A outer BQ BR E) (.Raise (some (.Call (.Name x np) [.Constant (.str txt) j p1] [] cpos)) none pos) (λ_ _ H=>E (.ref C) none H):=by
 intro BP s σ H D I h;obtain⟨bm,Nn,nm,qn,bs,hdct,sn,sub,ab,col,dd,k0,k1,k2,k3,k5,mN,hC,hN,hni,T⟩:=adz I.ok.mod.kin hx;refine wpAny_Raise_call_subT (C:=C) (nm:=nm) (q:=qn) (N:=Nn) (bs:=bs) (bm:=bm) (hdct:=hdct) (sn:=sn) (sub:=sub) (ab:=ab) (col:=col) (dd:=dd) (k0:=k0) (k1:=k1) (k2:=k2) (k3:=k3) (k5:=k5)
  PySem.F.excBase_ValueError (mN:=mN) (T.hasType 1#b) (I.ok.hd rfl) rfl hni (Zf I hg hm ⟨rfl,?_⟩ hd)
 refine xh (aY ((mL aeA nS) cpos BP s σ H (λvs H1=>vs=[.str txt]/\H1=H) I ⟨rfl,rfl⟩) λus s2 q2=>?_);obtain⟨vs,H2,I2,r2,rfl,rfl⟩:=q2;have l2:=r2.length;refine⟨rfl,by rw[<-l2];show 1<=sizeLine;decide,I2.bk _ _ hC,hN.keeps I2.bk,T.keeps I2.bk,λh' e made=>?_⟩
 --the frame is left
 have nfr:∀{b u},H2 b=some u->b∉fP (envOfC qual scope BQ.heap.objs.size f cd::outer):=λ{b u} q z=>by
  rw[I2.stkFree b z]at q;cases q
 have nL:∀{b o},BQ.heap.get? b=some o->b∉fP outer->b∉fP (envOfC qual scope BQ.heap.objs.size f cd::outer):=λ{b o} q z y=>by
  rcases br.mp (I2.stkSub b y)with g |g
  .exact absurd (du (bi q) I2.ok.above) (by rw[g];exact ji _)
  .exact z g
 refine wpAny_leaves_madeW (h:=s2.heap) (s:={s2 with heap:=h'}) I2.ok.frames rfl (λb o q=>zq _ q)
  (PySem.W.funFrames_hide I2.stack λenv he b hb=>vo.mpr ⟨env,he,hb⟩) made λh'' t fl tup nb ups=>?_
 have keepB:=λb o q z=>fl.1 b o (vk _ q z);have upS:=λb o q z=>ups b o (made.keeps b o q) z;refine⟨e,C,t,_,H2,rfl,I2.os,I2.bare,⟨λb o q n hb _=>?_,λb o q n hb _=>?_,λb o q n _=>I2.base.free b o q n (by intro z;cases z),λb o q _=>?_,I2.base.tups,I2.base.frzs,I2.base.tbls⟩,λb u q=>?_,fl,λb o q z=>?_,h⟩
 .exact keepB b o (I2.base.keep b o q n hb (by intro z;cases z)) (nL q hb)
 .obtain⟨sl,g⟩:=I2.base.slot b o q n hb (by intro z;cases z)
  obtain⟨_,o',ho',hd'⟩:=I2.ok.funs.mem hb;have eo:o'=o:=by
   have ho2:BQ.heap.get? b=some o':=ho';rw[q]at ho2;exact(cq ho2).symm
  subst eo;obtain⟨sl',g'⟩:=upS b _ g hd';exact⟨sl',g'⟩
 .obtain⟨o',g⟩:=I2.base.there b o q (by intro z;cases z)
  by_cases c:b∈fP (envOfC qual scope BQ.heap.objs.size f cd::outer)
  .obtain⟨_,o2,ho2,hd2⟩:=I2.stack.mem c
   obtain⟨sl,g'⟩:=upS b o2 ho2 hd2;exact⟨_,g'⟩
  .exact⟨o',keepB b o' g c⟩
 .refine(I2.hok b u q).stay (λc v hc g=>keepB c v g ?_) (λ_ g=>g) λ_ _ g=>g
  rcases hc with z |z
  .rw[z]
   exact nfr q
  .exact nfr z
 .have go:=λ{o2} g n=>by
   have:=keepB b o2 g n;have q':h''.get? b=some o:=q;rw[q']at this;cases this;exact vk _ g n
  rcases z with⟨u,z⟩|⟨o',z,nz⟩
  .obtain⟨o2,g⟩:=(I2.hok b u z).has
   exact go g (nfr z)
  .obtain⟨o2,g⟩:=I2.base.there b o' z (by intro z;cases z)
   exact go g (nL z nz)
section
variable{P:Program}{w:am}{K:ae}{mg:Str->BG}{base:Heap}{CX:kR}
theorem jG.okX {st:Stmt}{f:Addr}{fd:cg}{N ps:List Str}{k:Nat}{sp:Sp}(F:jG K x qual st f fd)(S:iZ N ps (cL st))(len:∀vs H Q E,sp vs H Q E->vs.length=ps.length)
  (hbody:∀(cdv:Value)(A:aq)(outer:List bn)(s:aa)(H:Hp)(vs:List V)(Q:VK)(E:XK),dP k (A.deeper (envOfC qual (cL st) s.heap.objs.size f cdv))->sp vs H Q E->
   ∃t,gS (fF CX P w K mg base N qual (cL st) f cdv A outer s H E) (eN st) t/\t {nx:=λ_ H'=>Q .non H',rt:=Q} (start N vs) H):eO P w K mg base CX (k+1) f fd ps sp:=by
 obtain⟨oc,od,kV,doc,pm,an,cdv,ct,osl,rfl,lk,hcd⟩:=F.ex;exact Dj lk hcd S len λA outer s H vs Q E hr hsp=>hbody _ A _ s H _ Q E hr hsp
theorem nX.okX {st:Stmt}{f:Addr}{fd:cg}{ds:Array Value}{N ps:List Str}{k:Nat}{sp:Sp}(F:nX K x qual st f fd ds)(S:iZ N ps (cL st))(len:∀vs H Q E,sp vs H Q E->vs.length=ps.length)
  (hbody:∀(cdv:Value)(A:aq)(outer:List bn)(s:aa)(H:Hp)(vs:List V)(Q:VK)(E:XK),dP k (A.deeper (envOfC qual (cL st) s.heap.objs.size f cdv))->sp vs H Q E->
   ∃t,gS (fF CX P w K mg base N qual (cL st) f cdv A outer s H E) (eN st) t/\t {nx:=λ_ H'=>Q .non H',rt:=Q} (start N vs) H):eO P w K mg base CX (k+1) f fd ps sp:=by
 obtain⟨oc,od,T,oT,n,kV,doc,pm,an,cdv,ct,osl,rfl,lk,hcd,_,_⟩:=F.ex;exact Dj lk hcd S len λA outer s H vs Q E hr hsp=>hbody _ A _ s H _ Q E hr hsp
end
open PySem.W PySem.Calls PySem.Builtin PySem.Builtin.Getset_descriptor
def gF(h:Heap)(l:BC)(a:Addr):Prop:=∃o its n,h.get? a=some o/\o.cls=.type "tuple"/\o.data=.seq its n/\aV (l.map V.int) its.toList
def jZ(h:Heap)(ks:BD)(a:Addr):Prop:=∃o its n,h.get? a=some o/\o.cls=.type "tuple"/\o.data=.seq its n/\ff (λk v=>∃b,v=cx b/\gF h k b) ks its.toList
def hF(l:BC):Int:=reduceHash (l7 (l.map hashInt))
def hN(l:BD):Int:=reduceHash (l7 (l.map hF))
abbrev iK(prog:Program)(w:am):KeyKind prog w Int:=intKind prog w
theorem Ms:∀{l m:BC}{us:BF},aV (l.map V.int) us->aV (m.map V.int) us->l=m
 |[],[],_,_,_=>rfl
 |[],_::_,_,.nil,h=>nomatch h
 |_::_,[],_,.cons _ _,h=>nomatch h
 |i::l,j::m,_,.cons r t,.cons r' t'=>by
  obtain⟨x,e⟩:=r;obtain⟨y,e'⟩:=r';rw[e]at e';injection e' with e1;rw[e1,Ms t t']
section
variable{prog:Program}{w:am}{A:aq}{E:Value->aa->Prop}{s:aa}{h h':Heap}{a b d:Addr}
theorem gF.inj (hx:gF h x a)(hy:gF h y a):x=y:=by
 obtain⟨o,its,n,e,_,f,r⟩:=hx;obtain⟨o',its',n',e',_,f',r'⟩:=hy;cases cq (e.symm.trans e');cases f.symm.trans f';exact Ms r r'
theorem jZ.inj (hx:jZ h x a)(hy:jZ h y a):x=y:=by
 obtain⟨o,its,n,e,_,f,r⟩:=hx;obtain⟨o',its',n',e',_,f',r'⟩:=hy;cases cq (e.symm.trans e');cases f.symm.trans f'
 revert r r'
 generalize its.toList=us;intro r
 induction r generalizing y with
 |nil=>intro r';cases r';rfl
 |cons p _ ih=>
  intro r';cases r' with
  |cons p' t'=>
   obtain⟨b,rfl,g⟩:=p;obtain⟨b',eb,g'⟩:=p';cases eb;rw[g.inj g',ih t']
theorem Cy {its:Array Value}{n:Nat}{es ep}(e:h.get? a=some o)(f:o.data=.seq its n)(e':h.get? d=some o')(f':o'.data=.dict es ep):a≠d:=by grind
theorem gF.keep (x:gF h l a)(e':h.get? d=some o')(f':o'.data=.dict es ep)(sb:ja d h h'):gF h' l a:=by
 obtain⟨o,its,n,e,c,f,r⟩:=x;exact⟨o,its,n,(sb.2 a (Cy e f e' f')).trans e,c,f,r⟩
theorem jZ.keep (x:jZ h l a)(e':h.get? d=some o')(f':o'.data=.dict es ep)(sb:ja d h h'):jZ h' l a:=by
 obtain⟨o,its,n,e,c,f,r⟩:=x;exact⟨o,its,n,(sb.2 a (Cy e f e' f')).trans e,c,f,Paired.mapP r λ_ _ ⟨b,eb,g⟩=>⟨b,eb,g.keep e' f' sb⟩⟩
theorem Ed:∀{l:BC}{us:BF},aV (l.map V.int) us->ItemsAre (iK prog w) l us
 |[],_,.nil=>.nil
 |i::l,_,.cons r t=>by
  obtain⟨t',rfl⟩:=r;exact .cons (by simp[iK,intKind,Value.isInt]) (Ed t)
theorem gF.key (x:gF h l a):IsTupleKey (iK prog w) h l a:=by
 obtain⟨o,its,n,e,c,f,r⟩:=x;exact⟨o,its,n,e,c,f,Ed r⟩
theorem acd{α:Type}[DecidableEq α](z:α)(l m:List α):((ck (min l.length m.length)).all (λj=>decide (l.getD j z=m.getD j z))&&l.length==m.length)=decide (l=m):=by
 rw[xx,sx,mq,decide_eq_true_iff];constructor
 .rintro⟨h1,h2⟩
  have hl:=by simpa using h2
  refine uc hl λi g1 g2=>?_;have:=h1 i (by grind);simpa[dj,g1,g2]using this
 .rintro rfl
  exact⟨λi _=>by simp,by simp⟩
theorem zG {R:α->β->Prop}:∀{l:List α}{m:List β},ff R l m->l.length=m.length/\∀(j:Nat)(x:α)(y:β),l[j]?=some x->m[j]?=some y->R x y
 |_,_,.nil=>⟨rfl,λj x y h=>by simp at h⟩
 |_,_,.cons r t=>by
  obtain⟨e,g⟩:=zG t;refine⟨by simp_all,λj x y h1 h2=>?_⟩;cases j with
  |zero=>
   simp_all
  |succ j=>exact g j x y (by simpa using h1) (by simpa using h2)
theorem Dr [DecidableEq α](z:α){R:α->Value->Prop}{x y:List α}{o o':Obj}{us vs:Array Value}{n n':Nat}(hu:A.units<cLine)(ha:s.heap.get? a=some o)(hc:o.cls=.type "tuple")(hd:o.data=.seq us n)(hb:s.heap.get? b=some o')(hc':o'.cls=.type "tuple")(hd':o'.data=.seq vs n')
  (rx:ff R x us.toList)(ry:ff R y vs.toList)(same:a=b->x=y)(eq:∀k l u v,R k u->R l v->jn A.in1 s u v (decide (k=l))):jn A s (.ref a) (.ref b) (decide (x=y)):=by
 by_cases ab:a=b
 .rw[decide_eq_true (same ab),ab]
  exact ud _
 .obtain⟨m1,g1⟩:=zG rx
  obtain⟨m2,g2⟩:=zG ry;have l1:=by simpa using m1
  have l2:=by simpa using m2
  have:=yc (A:=A) (s:=s) (l:=a) (b:=b) (e:=λj=>decide (x.getD j z=y.getD j z)) ⟨o,ha,hc,n,hd⟩ ⟨o',hb,hc',n',hd'⟩ hu λj h1 h2=>by
   have i1:j<x.length:=by omega
   have i2:j<y.length:=by omega
   have e1:x.getD j z=x[j]:=by simp[dj,i1]
   have e2:y.getD j z=y[j]:=by simp[dj,i2]
   rw[e1,e2];exact eq _ _ _ _ (g1 j _ _ (ay i1) (by simp[h1])) (g2 j _ _ (ay i2) (by simp[h2]))
  rw[<-l1,<-l2,acd]at this;exact yd ab this
theorem Oe:∀{l:BC}{us:BF},aV (l.map V.int) us->ff (λ(i:Int) v=>∃t,v=ph i t) l us
 |[],_,.nil=>.nil
 |_::_,_,.cons r t=>.cons r (Oe t)
theorem gF.eq (hu:A.units<cLine)(hx:gF s.heap x a)(hy:gF s.heap y b):jn A s (.ref a) (.ref b) (decide (x=y)):=by
 have inj:a=b->x=y:=λz=>by subst z;exact hx.inj hy
 obtain⟨o,us,n,e,c,f,r⟩:=hx;obtain⟨o',vs,n',e',c',f',r'⟩:=hy;refine Dr 0 hu e c f e' c' f' (Oe r) (Oe r') inj ?_
 rintro k l u v ⟨t,eu⟩ ⟨t',ev⟩
 have:=wg (A:=A.in1) (s:=s) k t l t';have e:(k==l)=decide (k=l):=by grind
 simp_all
theorem jZ.eq (hu:A.units+1<cLine)(hx:jZ s.heap x a)(hy:jZ s.heap y b):jn A s (.ref a) (.ref b) (decide (x=y)):=by
 have inj:a=b->x=y:=λz=>by subst z;exact hx.inj hy
 obtain⟨o,us,n,e,c,f,r⟩:=hx;obtain⟨o',vs,n',e',c',f',r'⟩:=hy;refine Dr [] (ye hu) e c f e' c' f' r r' inj ?_
 rintro k l u v ⟨p,eu,g⟩ ⟨q,ev,g'⟩
 subst eu ev;exact g.eq hu g'
theorem Zn (hu:A.units<cLine):∀(ks:BD)(vs:BF)(t:Nat)(acc:Array Int),ff (λk v=>∃b,v=cx b/\gF s.heap k b) ks vs->
  (∀acc':Array Int,acc'.toList=acc.toList++ks.map hF->Q acc' {s with toks:=t+(ks.map λk=>k.length+1).sum})->
  wpAny (model prog w) A (forIn vs acc λx r=>do let h <-pyHash x;pure PUnit.unit;pure (xu (r.push h))) Q E {s with toks:=t}
 |[],_,t,acc,.nil,q=>ao (by simpa using q acc 1#d)
 |k::ks,_,t,acc,.cons ⟨b,eb,g⟩ r,q=>by
  subst eb;rw[sv];refine ag (ag (wpAny_pyHash_tuple hu g.key ?_));refine ag (ao (ao ?_));refine Zn hu ks _ _ _ r λacc' e=>?_;have:=q acc' (by rw[e];simp[hF,tupleKeyHash,iK,intKind]);simpa[yf]using this
theorem jZ.hash {Q:Int->aa->Prop}(hu:A.units+1<cLine)(hk:jZ s.heap ks a)(q:Q (hN ks) {s with toks:=s.toks+((ks.map λk=>k.length+1).sum+1)}):wpAny (model prog w) A (pyHash (.ref a)) Q E s:=by
 obtain⟨o,its,n,e,c,f,r⟩:=hk;refine PySem.W.pyHash_slot ⟨o,e,c⟩ F.slot_tuple_hash F.entry_tuple_hash (F.args_tuple_hash_1 _) (beq_builtin_none _) (.inr (ye hu)) ?_;show wpAny _ _ (c9 _ >>= _) _ _ s;refine ag (wpAny_tupleItemsOf e f (ag ?_));rw[<-l8];refine Zn hu ks _ _ #[] r λacc ea=>?_;show wpAny _ _ (retInt _) _ _ _;rw[ea];exact ag (wpAny_mkInt (ao ⟨_,_,rfl,by simpa[hN,yf]using q⟩))
theorem Tm {P:Value->Prop}(hP:∀v(Q:Bool->aa->Prop),P v->Q true s->wpAny (model prog w) A (eqIsQuiet n v) Q E s){o:Obj}{its:Array Value}{m:Nat}{Q:Bool->aa->Prop}(e:s.heap.get? a=some o)(c:o.cls=.type "tuple")(f:o.data=.seq its m)(r:∀v∈its.toList,P v)(q:Q true s):
  wpAny (model prog w) A (eqIsQuiet (n+1) (.ref a)) Q E s:=by
 have hT:s.TypeIs (.ref a) "tuple":=⟨o,e,c⟩;unfold eqIsQuiet;refine ag (wpAny_specialOf hT F.slot_tuple_eq.lookup (ag (yb hT isSubtype_tuple_tuple ?_)));refine ag (km e f (ag ?_));rw[<-l8];refine wpAny_forIn_list _ (λfL z s'=>s'=s/\z.1=none/\∀v∈fL,P v) _ ?_ ?_ _ _ ⟨rfl,rfl,r⟩
 .rintro v fL z s' ⟨rfl,hz,hr⟩
  refine ag (hP v _ (hr v av) ?_);exact ao ⟨rfl,rfl,λu hu=>hr u (bh _ hu)⟩
 .rintro⟨z1,z2⟩ s' ⟨rfl,hz,_⟩
  cases hz;exact ao q
theorem gF.quiet {l:BC}{Q:Bool->aa->Prop}(hk:gF s.heap l a)(q:Q true s):wpAny (model prog w) A (eqIsQuiet (n+1) (.ref a)) Q E s:=by
 obtain⟨o,its,m,e,c,f,r⟩:=hk;refine Tm (λv Q' hv q'=>?_) e c f (Ed (prog:=prog) (w:=w) r).byValue q;rw[eqIsQuiet_byValue _ hv];exact ao q'
theorem jZ.quiet (hk:jZ s.heap ks a)(q:Q true s):wpAny (model prog w) A (eqIsQuiet 8 (.ref a)) Q E s:=by
 obtain⟨o,its,m,e,c,f,r⟩:=hk;refine Tm (P:=λv=>∃k b,v=.ref b/\gF s.heap k b) (λv Q' ⟨k,b,ev,g⟩ q'=>by subst ev;exact g.quiet q') e c f (λv hv=>?_) q;obtain⟨l1,g⟩:=zG r;obtain⟨i,hi,ev⟩:=td.mp hv;have i1:i<ks.length:=by rw[l1];exact hi
 obtain⟨b,eb,gb⟩:=g i _ v (ay i1) (by rw[ay hi,ev]);exact⟨_,b,eb,gb⟩
end
def ab1(prog:Program)(w:am):HeapKind prog w BD where
 is:=jZ
 hash:=hN
 draws:=λks=>(ks.map λk=>k.length+1).sum+1
 room:=λA=>A.units+1<cLine
 inj:=λhx hy=>hx.inj hy
 keeps:=λx ho hd hs=>x.keep ho hd hs
 pyHash:=λhu hk h=>hk.hash hu h
 eqBool:=λhu hx hy h=>hx.eq hu hy _ _ _ _ h
 quiet:=λhk h=>hk.quiet h
def gA:Bool->Type
 |false=>BC
 |true=>BD
instance decK:(n:Bool)->DecidableEq (gA n)
 |false=>inferInstanceAs (DecidableEq BC)
 |true=>inferInstanceAs (DecidableEq BD)
def B0:(n:Bool)->gA n->Int
 |false=>hF
 |true=>hN
def kG(prog:Program)(w:am):(n:Bool)->HeapKind prog w (gA n)
 |false=>tupleKind (iK prog w)
 |true=>ab1 prog w
theorem Fd :∀(n:Bool)(k:gA n),(kG prog w n).hash k=B0 n k
 |false,_=>rfl
 |true,_=>rfl
theorem xW {A:aq}(hu:A.units+2<cLine):∀n:Bool,(kG prog w n).room A.in1
 |false=>ye hu
 |true=>hu
end L2
namespace L2.Pp
open PySem PySem.Spec PyProof.Rows Bn
section
inductive PV where
 |non |bl (b:Bool) |int (i:Int) |str (x:Str) |tup (xs:List PV) |lst (xs:List PV)
abbrev BK:=List PV
abbrev BM:=Option PV
inductive SO where
 |lst (xs:BK)
 |lol (xss:List BK)
 |dic (n:Bool) (kvs:List (PV×PV))
 |dol (n:Bool) (kvs:List (PV×BK))
abbrev aF:=List SO
inductive AV where
 |pv (v:PV) |ref (k:Nat)
abbrev BN:=Option AV
abbrev BO:=List AV
abbrev cR:=List BN
inductive bQ(α:Type) where
 |ok (a:α) (S:aF) |exc (n:Str) (S:aF) |fail
def bQ.bind (r:bQ α)(k:α->aF->bQ β):bQ β:=match r with
 |.ok a S=>k a S
 |.exc n S=>.exc n S
 |.fail=>.fail
inductive cO where
 |nx (ρ:cR) (S:aF) |rt (v:AV) (S:aF) |bk (ρ:cR) (S:aF) |ct (ρ:cR) (S:aF) |exc (n:Str) (S:aF) |fail
def lD(K:ae)(c:Addr->Prop)(H:Hp)(a:Addr)(vs:List V):Prop:=
 (H a=some (.lst vs)/\¬c a)\/(∃o,H a=some (.frz o (.lst vs)))\/
  ∃(o:Obj)(its:Array Value)(n:Nat),K.lookup a=some o/\o.cls=.type "list"/\o.dict=none/\o.data=.seq its n/\its.size<=sizeLine/\aV vs its.toList
theorem lD.sq{K:ae}{c:Addr->Prop}{H:Hp}{a:Addr}{vs:List V}(h:lD K c H a vs):bV K H a vs:=by
 rcases h with h |h |h
 .exact .inl (.inl h.1)
 .exact .inl (.inr h)
 .exact .inr h
mutual
def bD(K:ae)(c:Addr->Prop)(H:Hp):PV->V->Prop
 |.non,x=>x=.non
 |.bl b,x=>x=.bl b
 |.int i,x=>x=.int i
 |.str s,x=>x=.str s
 |.tup xs,x=>∃a vs,x=.ref a/\dB K H a vs/\vs.length<=sizeLine/\aR K c H xs vs
 |.lst xs,x=>∃a vs,x=.ref a/\lD K c H a vs/\vs.length<=sizeLine/\aR K c H xs vs
def aR(K:ae)(c:Addr->Prop)(H:Hp):BK->List V->Prop
 |[],vs=>vs=[]
 |p::ps,vs=>∃v r,vs=v::r/\bD K c H p v/\aR K c H ps r
end
section
variable{K:ae}{c c':Addr->Prop}{H H':Hp}
mutual
theorem bD.mono(hT:∀a vs,dB K H a vs->dB K H' a vs)(hL:∀a vs,lD K c H a vs->lD K c' H' a vs):∀(v:PV)(x:V),bD K c H v x->bD K c' H' v x
 |.non,x,h=>h
 |.bl b,x,h=>h
 |.int i,x,h=>h
 |.str s,x,h=>h
 |.tup xs,x,h=>by
  unfold bD at h⊢;obtain⟨a,vs,e,t,z,r⟩:=h;exact⟨a,vs,e,hT a vs t,z,aR.mono hT hL xs vs r⟩
 |.lst xs,x,h=>by
  unfold bD at h⊢;obtain⟨a,vs,e,t,z,r⟩:=h;exact⟨a,vs,e,hL a vs t,z,aR.mono hT hL xs vs r⟩
theorem aR.mono(hT:∀a vs,dB K H a vs->dB K H' a vs)(hL:∀a vs,lD K c H a vs->lD K c' H' a vs):∀(v:BK)(x:List V),aR K c H v x->aR K c' H' v x
 |[],vs,h=>by
  unfold aR at h⊢;exact h
 |p::ps,vs,h=>by
  unfold aR at h⊢;obtain⟨v,r,e,h1,h2⟩:=h;exact⟨v,r,e,bD.mono hT hL p v h1,aR.mono hT hL ps r h2⟩
end
theorem aR.length:∀{xs:BK}{vs:List V},aR K c H xs vs->xs.length=vs.length
 |[],vs,h=>by
  rw[h];rfl
 |p::ps,vs,h=>by
  obtain⟨v,r,rfl,_,h2⟩:=h;rw[cu,cu,aR.length h2]
theorem aR.get:∀{xs:BK}{vs:List V}{i:Nat}{p:PV},aR K c H xs vs->xs[i]?=some p->∃v,vs[i]?=some v/\bD K c H p v
 |[],vs,i,p,h,e=>by simp at e
 |q::ps,vs,0,p,h,e=>by
  obtain⟨v,r,rfl,h1,_⟩:=h;simp at e;subst e;exact⟨v,rfl,h1⟩
 |q::ps,vs,i+1,p,h,e=>by
  obtain⟨v,r,rfl,_,h2⟩:=h;obtain⟨u,e1,e2⟩:=aR.get h2 (by simpa using e);exact⟨u,by simpa using e1,e2⟩
theorem aR.nil:aR K c H [] []:=rfl
theorem aR.cons (h:bD K c H p v)(t:aR K c H ps vs):aR K c H (p::ps) (v::vs):=⟨v,vs,rfl,h,t⟩
theorem aR.append:∀{xs ys:BK}{vs ws:List V},aR K c H xs vs->aR K c H ys ws->aR K c H (xs++ys) (vs++ws)
 |[],ys,vs,ws,h,g=>by
  subst h;exact g
 |p::ps,ys,vs,ws,h,g=>by
  obtain⟨v,r,rfl,h1,h2⟩:=h;exact .cons h1 (h2.append g)
theorem aR.drop:∀{xs:BK}{vs:List V}(n:Nat),aR K c H xs vs->aR K c H (xs.drop n) (vs.drop n)
 |xs,vs,0,h=>by simp_all
 |[],vs,n+1,h=>by
  subst h;rfl
 |p::ps,vs,n+1,h=>by
  obtain⟨v,r,rfl,_,h2⟩:=h;simpa using h2.drop n
theorem aR.take:∀{xs:BK}{vs:List V}(n:Nat),aR K c H xs vs->aR K c H (xs.take n) (vs.take n)
 |xs,vs,0,h=>rfl
 |[],vs,n+1,h=>by
  subst h;rfl
 |p::ps,vs,n+1,h=>by
  obtain⟨v,r,rfl,h1,h2⟩:=h;simpa using aR.cons h1 (h2.take n)
theorem aR.eraseIdx:∀{xs:BK}{vs:List V}(n:Nat),aR K c H xs vs->aR K c H (xs.eraseIdx n) (vs.eraseIdx n)
 |[],vs,n,h=>by
  subst h;rfl
 |p::ps,vs,0,h=>by
  obtain⟨v,r,rfl,h1,h2⟩:=h
  simp_all
 |p::ps,vs,n+1,h=>by
  obtain⟨v,r,rfl,h1,h2⟩:=h;simpa using aR.cons h1 (h2.eraseIdx n)
theorem aR.set (g:bD K c H p v):∀{xs:BK}{vs:List V}(n:Nat),aR K c H xs vs->aR K c H (xs.set n p) (vs.set n v)
 |[],vs,n,h=>by
  subst h;rfl
 |q::ps,vs,0,h=>by
  obtain⟨v,r,rfl,h1,h2⟩:=h;simpa using aR.cons g h2
 |q::ps,vs,n+1,h=>by
  obtain⟨v,r,rfl,h1,h2⟩:=h;simpa using aR.cons h1 (aR.set g n h2)
end
structure Ph where
 f:List Addr
 w:Addr->Prop
 c:Addr->Prop
def Va(K:ae)(c:Addr->Prop)(H:Hp)(xss:List BK)(bs:List Addr):Prop:=
 xss.length=bs.length/\∀(i:Nat)(xs:BK)(b:Addr),xss[i]?=some xs->bs[i]?=some b->∃vs,H b=some (.lst vs)/\vs.length<=sizeLine/\aR K c H xs vs
def cM:(n:Bool)->gA n->PV
 |false,l=>.tup (List.map PV.int l)
 |true,l=>.tup (List.map (λr:BC=>PV.tup (r.map PV.int)) l)
def oD(es:Array DictEntry)(ep:Nat):Obj:={cls:=.type "dict",data:=.dict es ep}
def dO(a:Addr)(es:Array DictEntry)(ep:Nat):HO:=.ext λh=>h.get? a=some (oD es ep)
def jH(n:Bool)(x:gA n×Addr×Value):DictEntry:=⟨B0 n x.1,.ref x.2.1,x.2.2⟩
def pN(K:ae)(c:Addr->Prop)(H:Hp)(a:Addr)(n:Bool)(ks:BK)(us:BF):Prop:=
 ∃(xs:List (gA n×Addr×Value))(ep:Nat),H a=some (dO a (xs.map (jH n)).toArray ep)/\(a==sysModules)=false/\xs.length<=sizeLine/\(xs.map (·.1)).Nodup/\ks=xs.map (λx=>cM n x.1)/\aR K c H ks (xs.map λx=>V.ref x.2.1)/\us=xs.map (·.2.2)
def nZ(K:ae)(p:Ph)(H:Hp)(a:Addr):SO->Prop
 |.lst xs=>∃vs,H a=some (.lst vs)/\vs.length<=sizeLine/\aR K p.c H xs vs
 |.lol xss=>∃bs:List Addr,H a=some (.lst (bs.map V.ref))/\bs.length<=sizeLine/\bs.Nodup/\(∀b∈bs,p.w b/\b∉p.f)/\Va K p.c H xss bs
 |.dic n kvs=>∃us vs,pN K p.c H a n (kvs.map (·.1)) us/\aV vs us/\aR K p.c H (kvs.map (·.2)) vs
 |.dol n kvs=>∃bs:List Addr,pN K p.c H a n (kvs.map (·.1)) (bs.map cx)/\bs.Nodup/\(∀b∈bs,p.w b/\b∉p.f)/\Va K p.c H (kvs.map (·.2)) bs
theorem pN.mono{K:ae}{c c':Addr->Prop}{H H':Hp}{a:Addr}{n:Bool}{ks:BK}{us:BF}(h:pN K c H a n ks us)(ha:∀o,H a=some o->H' a=some o)(hR:∀xs vs,aR K c H xs vs->aR K c' H' xs vs):pN K c' H' a n ks us:=by
 obtain⟨xs,ep,e,z,l,nd,ek,r,eu⟩:=h;exact⟨xs,ep,ha _ e,z,l,nd,ek,hR _ _ r,eu⟩
theorem nZ.mono{K:ae}{p p':Ph}{H H':Hp}{a:Addr}{o:SO}(h:nZ K p H a o)(ha:∀o,H a=some o->H' a=some o)
  (hb:∀b,p.w b->b∉p.f->(p'.w b/\b∉p'.f)/\∀vs,H b=some (.lst vs)->H' b=some (.lst vs))(hR:∀xs vs,aR K p.c H xs vs->aR K p'.c H' xs vs):nZ K p' H' a o:=by
 have lol:∀{xss:List _}{bs:List _},(∀b∈bs,p.w b/\b∉p.f)->Va K p.c H _ bs->Va K _ _ xss _:=λwf ⟨z,at_⟩=>⟨z,λi xs b e1 e2=>by
  obtain⟨vs,g1,g2,g3⟩:=at_ i _ b e1 e2;have m:=wf b (dh e2);exact⟨vs,(hb b m.1 m.2).2 _ g1,g2,hR _ _ g3⟩⟩
 cases o with
 |lst xs=>
  obtain⟨vs,e,l,r⟩:=h;exact⟨vs,ha _ e,l,hR _ _ r⟩
 |lol xss=>
  obtain⟨bs,e,l,nd,wf,z⟩:=h;exact⟨bs,ha _ e,l,nd,λb m=>(hb b (wf b m).1 (wf b m).2).1,lol wf z⟩
 |dic n kvs=>
  obtain⟨us,vs,d,v,r⟩:=h;exact⟨us,vs,d.mono ha hR,v,hR _ _ r⟩
 |dol n kvs=>
  obtain⟨bs,d,nd,wf,z⟩:=h;exact⟨bs,d.mono ha hR,nd,λb m=>(hb b (wf b m).1 (wf b m).2).1,lol wf z⟩
def Mb:HO->Prop
 |.lst _=>True
 |.dK _=>True
 |.dT _=>True
 |.ins _ _ _=>True
 |.ext _=>True
 |_=>False
structure aQ(K:ae)(p:Ph)(S:aF)(H:Hp):Prop where
 nd:p.f.Nodup
 len:p.f.length=S.length
 sub:∀a∈p.f,p.w a
 wc:∀a,p.w a->p.c a
 mu:∀a,p.c a->∃o,H a=some o/\Mb o
 obj:∀(k:Nat)(a:Addr)(o:SO),p.f[k]?=some a->S[k]?=some o->nZ K p H a o
structure bP(p:Ph)(H:Hp)(q:Ph)(H':Hp):Prop where
 wc:∀a,p.w a->p.c a
 mu:∀a,p.c a->∃o,H a=some o/\Mb o
 pre:p.f <+:q.f
 mw:∀a,p.w a->q.w a
 mono:∀a,p.c a->q.c a
 nf:∀a∈q.f,a∉p.f->H a=none
 nw:∀a,q.w a->¬p.w a->H a=none
 nc:∀a,q.c a->¬p.c a->H a=none
 keep:∀a o,H a=some o->¬p.w a->H' a=some o
def cS(K:ae)(p:Ph)(H:Hp):AV->V->Prop
 |.pv v,x=>bD K p.c H v x
 |.ref k,x=>∃a,p.f[k]?=some a/\x=.ref a
abbrev iI(K:ae)(p:Ph)(H:Hp):BO->List V->Prop:=ff (cS K p H)
structure dL(K:ae)(p:Ph)(H:Hp)(ρ:cR)(σ:St):Prop where
 len:ρ.length=σ.length
 at_:∀(i:Nat)(v:AV),ρ[i]?=some (some v)->∃x,σ[i]?=some (some x)/\cS K p H v x
section
variable{K:ae}{p q r:Ph}{H H' H'':Hp}{S:aF}
theorem aQ.step(s:aQ K p S H):bP p H p H:=⟨s.wc,s.mu,jl,λ_ h=>h,λ_ h=>h,λ_ h g=>absurd h g,λ_ h g=>absurd h g,λ_ h g=>absurd h g,λ_ _ h _=>h⟩
theorem bP.trans(a:bP p H q H')(b:bP q H' r H''):bP p H r H'':=by
 have back:∀x,H' x=none->¬p.w x->H x=none:=λx h n=>by
  cases e:H x with
  |none=>rfl
  |some o=>rw[a.keep x o e n]at h;cases h
 refine⟨a.wc,a.mu,a.pre.trans b.pre,λx h=>b.mw x (a.mw x h),λx h=>b.mono x (a.mono x h),λx h n=>?_,λx h n=>?_,λx h n=>?_,λx o e n=>?_⟩
 .by_cases m:x∈q.f
  .exact a.nf x m n
  .have hn:=b.nf x h m
   refine back x hn λz=>?_;obtain⟨o,ho,_⟩:=b.mu x (a.mono x (a.wc x z))
   simp_all
 .by_cases m:q.w x
  .exact a.nw x m n
  .exact back x (b.nw x h m) n
 .by_cases m:q.c x
  .exact a.nc x m n
  .exact back x (b.nc x h m) λz=>n (a.wc x z)
 .refine b.keep x o (a.keep x o e n) λz=>?_
  rw[a.nw x z n]at e;cases e
theorem bP.tup(s:bP p H q H'){a:Addr}{vs:List V}(h:dB K H a vs):dB K H' a vs:=by
 have go:∀o,H a=some o->¬Mb o->H' a=some o:=λo e n=>s.keep a o e λz=>by
  obtain⟨u,e',m⟩:=s.mu a (s.wc a z);grind
 rcases h with(h |⟨o,h⟩) |h
 .exact .inl (.inl (go _ h λz=>z))
 .exact .inl (.inr ⟨o,go _ h λz=>z ⟩)
 .exact .inr h
theorem bP.lat(s:bP p H q H'){a:Addr}{vs:List V}(h:lD K p.c H a vs):lD K q.c H' a vs:=by
 rcases h with⟨h,n⟩|⟨o,h⟩|h
 .refine .inl ⟨s.keep a _ h λz=>n (s.wc a z),λz=>?_⟩
  rw[s.nc a z n]at h<;>grind
 .refine .inr (.inl ⟨o,s.keep a _ h λz=>?_⟩)
  obtain⟨u,e',m⟩:=s.mu a (s.wc a z);rw[h]at e';cases e';exact m
 .exact .inr (.inr h)
theorem bP.rep(s:bP p H q H'){v:PV}{x:V}(h:bD K p.c H v x):bD K q.c H' v x:=bD.mono (λ_ _=>s.tup) (λ_ _=>s.lat) v x h
theorem bP.reps(s:bP p H q H'){v:BK}{x:List V}(h:aR K p.c H v x):aR K q.c H' v x:=aR.mono (λ_ _=>s.tup) (λ_ _=>s.lat) v x h
theorem bP.at_(s:bP p H q H'){k:Nat}{a:Addr}(h:p.f[k]?=some a):q.f[k]?=some a:=by
 obtain⟨t,e⟩:=s.pre;rw[<-e,fw (by
  have:=cf.mp h;exact this.1)]
 exact h
theorem bP.repA(s:bP p H q H'){v:AV}{x:V}(h:cS K p H v x):cS K q H' v x:=by
 cases v with
 |pv v=>exact s.rep h
 |ref k=>
  obtain⟨a,e,f⟩:=h;exact⟨a,s.at_ e,f⟩
theorem bP.repE(s:bP p H q H'){ρ:cR}{σ:St}(h:dL K p H ρ σ):dL K q H' ρ σ:=
 ⟨h.len,λi v e=>let⟨x,e1,e2⟩:=h.at_ i v e;⟨x,e1,s.repA e2⟩⟩
theorem aQ.same(s:aQ K p S H)(h:dI H H'):bP p H p H':=⟨s.wc,s.mu,jl,λ_ h=>h,λ_ h=>h,λ_ h g=>absurd h g,λ_ h g=>absurd h g,λ_ h g=>absurd h g,λa o e _=>h a o e⟩
theorem aQ.ofSame(s:aQ K p S H)(h:dI H H'):aQ K p S H':=
 ⟨s.nd,s.len,s.sub,s.wc,λa m=>let⟨o,e,m⟩:=s.mu a m;⟨o,h a o e,m⟩,λk a o e1 e2=>(s.obj k a o e1 e2).mono (λvs e=>h _ _ e) (λb w f=>⟨⟨w,f⟩,λvs e=>h _ _ e⟩) λxs vs=>(s.same h).reps ⟩
theorem gL (h:H a=none):dI H (aM H a o):=λb u e=>by
 rw[bK (gJ e h)];exact e
end
section
variable{α β γ δ:Type}
def bY(K:ae)(cl:Str->Addr)(R:Ph->Hp->α->β->Prop)(p:Ph)(H:Hp)(r:bQ α)(Q:β->Hp->Prop)(E:XK):Prop:=match r with
 |.ok a S=>∀q H' x,bP p H q H'->aQ K q S H'->R q H' a x->Q x H'
 |.exc n S=>∀q H',bP p H q H'->aQ K q S H'->E (.ref (cl n)) none H'
 |.fail=>False
def eT(K:ae)(cl:Str->Addr)(p:Ph)(H:Hp)(r:cO)(D:tR)(E:XK):Prop:=match r with
 |.nx ρ S=>∀q H' σ,bP p H q H'->aQ K q S H'->dL K q H' ρ σ->D.nx σ H'
 |.bk ρ S=>∀q H' σ,bP p H q H'->aQ K q S H'->dL K q H' ρ σ->D.bk σ H'
 |.ct ρ S=>∀q H' σ,bP p H q H'->aQ K q S H'->dL K q H' ρ σ->D.ct σ H'
 |.rt v S=>∀q H' x,bP p H q H'->aQ K q S H'->cS K q H' v x->D.rt x H'
 |.exc n S=>∀q H',bP p H q H'->aQ K q S H'->E (.ref (cl n)) none H'
 |.fail=>False
variable{K:ae}{cl:Str->Addr}{p q:Ph}{H H':Hp}{S:aF}{E:XK}{R:Ph->Hp->α->β->Prop}{R':Ph->Hp->γ->δ->Prop}
theorem bY.mono (h:bY K cl R p H r Q E)(s:bP p H q H'):bY K cl R q H' r Q E:=by
 cases r with
 |ok a S=>exact λq' H'' x s'=>h _ _ x (s.trans s')
 |exc n S=>exact λq' H'' s'=>h _ _ (s.trans s')
 |fail=>exact h
theorem eT.mono (h:eT K cl p H r D E)(s:bP p H q H'):eT K cl q H' r D E:=by
 cases r with
 |nx ρ S=>exact λq' H'' x s'=>h _ _ x (s.trans s')
 |bk ρ S=>exact λq' H'' x s'=>h _ _ x (s.trans s')
 |ct ρ S=>exact λq' H'' x s'=>h _ _ x (s.trans s')
 |rt v S=>exact λq' H'' x s'=>h _ _ x (s.trans s')
 |exc n S=>exact λq' H'' s'=>h _ _ (s.trans s')
 |fail=>exact h
theorem bY.ret {Q:β->Hp->Prop}(h:bY K cl R p H (.ok a S) Q E)(s:aQ K p S H)(r:R p H a x):Q x H:=h p H x s.step s r
theorem bY.same {Q:β->Hp->Prop}(h:bY K cl R p H (.ok a S) Q E)(s:aQ K p S H)(e:dI H H')(r:R p H' a x):Q x H':=h p _ x (s.same e) (s.ofSame e) r
def tP(K:ae)(cl:Str->Addr)(E:XK)(R:Ph->Hp->α->β->Prop)(m:cR->aF->bQ α)(σ:St)(H:Hp)(Q:β->Hp->Prop):Prop:=
 ∃p S ρ,aQ K p S H/\dL K p H ρ σ/\bY K cl R p H (m ρ S) Q E
def tS(K:ae)(cl:Str->Addr)(E:XK)(m:cR->aF->cO):TS:=λD σ H=>
 ∃p S ρ,aQ K p S H/\dL K p H ρ σ/\eT K cl p H (m ρ S) D E
theorem bZ {ρ:cR}{σ:St}{Q:δ->Hp->Prop}{T:β->Hp->Prop}(s:aQ K p S H)(e:dL K p H ρ σ)(h:bY K cl R' p H ((m ρ S).bind k) Q E)
  (g:∀q H' a b S',bP p H q H'->aQ K q S' H'->dL K q H' ρ σ->R q H' a b->bY K cl R' q H' (k a S') Q E->T b H'):tP K cl E R m σ H T:=by
 refine⟨p,S,ρ,s,e,?_⟩;cases z:m _ S with
 |ok a S1=>
  rw[z]at h;exact λq H' b st sm r=>g q _ a b _ st sm (st.repE e) r (bY.mono h st)
 |exc n S1=>
  rw[z]at h;exact h
 |fail=>
  rw[z]at h;exact h
def cO.of (r:bQ α)(k:α->aF->cO):cO:=match r with
 |.ok a S=>k a S
 |.exc n S=>.exc n S
 |.fail=>.fail
theorem jM {ρ:cR}{σ:St}{D:tR}{T:β->Hp->Prop}(s:aQ K p S H)(e:dL K p H ρ σ)(h:eT K cl p H (cO.of (m ρ S) k) D E)
  (g:∀q H' a b S',bP p H q H'->aQ K q S' H'->dL K q H' ρ σ->R q H' a b->eT K cl q H' (k a S') D E->T b H'):tP K cl E R m σ H T:=by
 refine⟨p,S,ρ,s,e,?_⟩;cases z:m _ S with
 |ok a S1=>
  rw[z]at h;exact λq H' b st sm r=>g q _ a b _ st sm (st.repE e) r (eT.mono h st)
 |exc n S1=>
  rw[z]at h;exact h
 |fail=>
  rw[z]at h;exact h
end
end
abbrev RB:Ph->Hp->Bool->Bool->Prop:=λ_ _ a b=>a=b
abbrev ME:=cR->aF->bQ AV
abbrev MT:=cR->aF->bQ Bool
abbrev MA:=cR->aF->bQ BO
abbrev MS:=cR->aF->cO
section
variable(K:ae)(cl:Str->Addr)(E:XK)(X:Cx)
def aL(e:ah)(m:ME):Prop:=X.K=K->PE X e (tP K cl E (cS K) m)
def fH(e:ah)(m:MT):Prop:=X.K=K->PT X e (tP K cl E RB m)
def kP(e:ah)(m:MT):Prop:=X.K=K->PW X e (tP K cl E RB m)
def eR(es:List ah)(m:MA):Prop:=X.K=K->PA X es (tP K cl E (iI K) m)
def eZ(st:Stmt)(m:MS):Prop:=X.K=K->PS X st (tS K cl E m)
def fO(st:List Stmt)(m:MS):Prop:=X.K=K->gS X st (tS K cl E m)
end
theorem PA.imp (h:PA X es t)(i:∀σ H Q,t' σ H Q->t σ H Q):PA X es t':=λpos BP s σ H Q I q=>h _ _ s _ H Q I (i _ H Q q)
theorem PW.imp (h:PW X e t)(i:∀σ H Q,t' σ H Q->t σ H Q):PW X e t':=λwh BP s σ H Q I q=>h _ _ s _ H Q I (i _ H Q q)
def aA(i:Nat):ME:=λρ S=>match ρ[i]? with
 |some (some v)=>.ok v S
 |_=>.fail
def mC(v:PV):ME:=λ_ S=>.ok (.pv v) S
def rd(S:aF):AV->BM
 |.pv v=>some v
 |.ref k=>match S[k]? with
  |some (.lst xs)=>some (.lst xs)
  |_=>none
def hU(S:aF):BO->Option BK
 |[]=>some []
 |a::r=>match rd S a with
  |some v=>match hU S r with
   |some vs=>some (v::vs)
   |none=>none
  |none=>none
def iC(o:BM)(S:aF):bQ AV:=match o with
 |some r=>.ok (.pv r) S
 |none=>.fail
def tQ(f:PV->BM)(a:AV)(S:aF):bQ AV:=iC ((rd S a).bind f) S
def kX(f:PV->PV->BM)(a b:AV)(S:aF):bQ AV:=iC ((rd S a).bind λx=>(rd S b).bind λy=>f x y) S
def bG(f:PV->BM)(ma:ME):ME:=λρ S=>(ma ρ S).bind λx S1=>tQ f x S1
def aC(f:PV->PV->BM)(ma mb:ME):ME:=λρ S=>(ma ρ S).bind λx S1=>(mb ρ S1).bind λy S2=>kX f x y S2
def aD:MA:=λ_ S=>.ok [] S
def aB(ma:ME)(mr:MA):MA:=λρ S=>(ma ρ S).bind λx S1=>(mr ρ S1).bind λxs S2=>.ok (x::xs) S2
def nW:BO->Option BK
 |[]=>some []
 |.pv v::r=>match nW r with
  |some vs=>some (v::vs)
  |none=>none
 |.ref _::_=>none
def Qa(f:BK->BM)(xs:BO)(S:aF):bQ AV:=iC ((nW xs).bind f) S
def nU(f:BK->BM)(xs:BO)(S:aF):bQ AV:=iC ((hU S xs).bind f) S
def mR(f:BK->BM)(ma:MA):ME:=λρ S=>(ma ρ S).bind λxs S1=>nU f xs S1
def mN(f:BK->BM)(ma:MA):ME:=λρ S=>(ma ρ S).bind λxs S1=>Qa f xs S1
def eF(vs:BK):BM:=if vs.length<=16777216 then some (.tup vs)else none
def fG(vs:BK):BM:=if vs.length<=16777216 then some (.lst vs)else none
def lA:AV->aF->bQ Bool
 |.pv (.bl b),S=>.ok b S
 |_,_=>.fail
def aO(m:ME):MT:=λρ S=>(m ρ S).bind lA
def fM(m:MT):MT:=λρ S=>(m ρ S).bind λb S1=>.ok (!b) S1
def iA(m n:MT):MT:=λρ S=>(m ρ S).bind λb S1=>if b=true then n ρ S1 else .ok false S1
def gC(m n:MT):MT:=λρ S=>(m ρ S).bind λb S1=>if b=true then .ok true S1 else n ρ S1
def tI(m n:ME):ME:=λρ S=>(m ρ S).bind λx S1=>match x with
 |.pv (.bl true)=>n ρ S1
 |.pv (.bl false)=>.ok (.pv (.bl false)) S1
 |_=>.fail
def G5(m n:ME):ME:=λρ S=>(m ρ S).bind λx S1=>match x with
 |.pv (.bl false)=>n ρ S1
 |.pv (.bl true)=>.ok (.pv (.bl true)) S1
 |_=>.fail
def wV:PV->BM
 |.bl b=>some (.bl (!b))
 |_=>none
def uA(c:MT)(a b:ME):ME:=λρ S=>(c ρ S).bind λt S1=>if t=true then a ρ S1 else b ρ S1
section
variable{K:ae}{cl:Str->Addr}{E:XK}{X:Cx}{a b c e:ah}{es:List ah}{ma mb m:ME}{mt nt:MT}{ms:MA}{pos:ai}
theorem ae0(i:Nat){x:Str}(hN:autoParam (X.N[i]?=some x) Zqq)(hv:autoParam (lW X.env.scope x) Zww)(hd:autoParam ((x==("__debug__":Str))=false) Zqw)
  (hcd:autoParam ((x==("__classdict__":Str))=false) Zqw):aL K cl E X (.Name x pos) (aA i):=λ_=>(mP hN hv hd hcd).imp λσ H Q ⟨p,S,ρ,s,e,h⟩=>by
 unfold aA at h;cases z:ρ[i]? with
 |none=>rw[z]at h;exact h.elim
 |some o=>
  cases o with
  |none=>rw[z]at h;exact h.elim
  |some v=>
   rw[z]at h;obtain⟨x,e1,e2⟩:=e.at_ i v z;exact⟨x,e1,bY.ret h s e2⟩
theorem ae1 :aL K cl E X (.Constant (.int i) j pos) (mC (.int i)):=λ_=>Aa.imp λσ H Q ⟨p,S,ρ,s,e,h⟩=>bY.ret h s rfl
theorem agx :aL K cl E X (.Constant (.bool i) j pos) (mC (.bl i)):=λ_=>agm.imp λσ H Q ⟨p,S,ρ,s,e,h⟩=>bY.ret h s rfl
theorem ae3:aL K cl E X (.Constant .none j pos) (mC .non):=λ_=>afx.imp λσ H Q ⟨p,S,ρ,s,e,h⟩=>bY.ret h s rfl
def fB(K:ae)(p:Ph)(H:Hp)(v:PV)(x:V):Prop:=bD K p.c H v x\/∃xs a vs,v=.lst xs/\x=.ref a/\H a=some (.lst vs)/\vs.length<=sizeLine/\aR K p.c H xs vs
theorem fB.int (h:fB K p H (.int i) x):x=.int i:=by
 rcases h with h |⟨_,_,_,e,_⟩
 .exact h
 .cases e
theorem fB.bl (h:fB K p H (.bl i) x):x=.bl i:=by
 rcases h with h |⟨_,_,_,e,_⟩
 .exact h
 .cases e
theorem fB.str (h:fB K p H (.str i) x):x=.str i:=by
 rcases h with h |⟨_,_,_,e,_⟩
 .exact h
 .cases e
theorem fB.non (h:fB K p H .non x):x=.non:=by
 rcases h with h |⟨_,_,_,e,_⟩
 .exact h
 .cases e
theorem fB.tup (h:fB K p H (.tup xs) x):∃a vs,x=.ref a/\dB K H a vs/\vs.length<=sizeLine/\aR K p.c H xs vs:=by
 rcases h with h |⟨_,_,_,e,_⟩
 .exact h
 .cases e
theorem fB.lst (h:fB K p H (.lst xs) x):∃a vs,x=.ref a/\bV K H a vs/\vs.length<=sizeLine/\aR K p.c H xs vs:=by
 rcases h with h |⟨ys,a,vs,e,e2,h,z,r⟩
 .obtain⟨a,vs,e,l,z,r⟩:=h
  exact⟨a,vs,e,l.sq,z,r⟩
 .cases e
  exact⟨a,vs,e2,bV.of h,z,r⟩
theorem qL {S:aF}{H:Hp}{a:AV}{v:PV}{x:V}(s:aQ K p S H)(r:cS K p H a x)(e:rd S a=some v):fB K p H v x:=by
 cases a with
 |pv u=>cases e;exact .inl r
 |ref k=>
  obtain⟨a,e1,rfl⟩:=r;unfold rd at e;cases z:S[k]? with
  |none=>simp_all
  |some o=>
   cases o with
   |lst xs=>
    simp only[z]at e;cases e;obtain⟨vs,h,l,r⟩:=s.obj k a _ e1 z;exact .inr ⟨xs,a,vs,rfl,rfl,h,l,r⟩
   |lol _=>simp_all
   |dic _ _=>simp_all
   |dol _ _=>simp_all
abbrev Zi(K:ae)(p:Ph)(H:Hp):BK->List V->Prop:=ff (fB K p H)
theorem yD {S:aF}{H:Hp}(s:aQ K p S H):∀{as:BO}{vs:BK}{xs:List V},iI K p H as xs->hU S as=some vs->Zi K p H vs xs
 |[],vs,_,.nil,e=>by
  cases e;exact .nil
 |a::r,vs,_,.cons h t,e=>by
  unfold hU at e;cases z:rd S a with
  |none=>simp_all
  |some v=>
   simp only[z]at e;cases y:hU S r with
   |none=>simp_all
   |some us=>
    simp only[y]at e;cases e;exact .cons (qL s h z) (yD s t y)
def iD(K:ae)(r:R2)(f:PV->PV->BM):Prop:=∀{p:Ph}{S:aF}{H:Hp}{a b c:PV}{x y:V}{Q:VK},aQ K p S H->fB K p H a x->fB K p H b y->f a b=some c->
 (∀H' z,dI H H'->bD K p.c H' c z->Q z H')->r x y H Q
def Tb(K:ae)(r:V->Hp->VK->Prop)(f:PV->BM):Prop:=∀{p:Ph}{S:aF}{H:Hp}{a c:PV}{x:V}{Q:VK},aQ K p S H->fB K p H a x->f a=some c->
 (∀H' z,dI H H'->bD K p.c H' c z->Q z H')->r x H Q
def CaS(K:ae)(r:List V->Hp->VK->Prop)(f:BK->BM):Prop:=∀{p:Ph}{S:aF}{H:Hp}{as:BK}{c:PV}{xs:List V}{Q:VK},aQ K p S H->aR K p.c H as xs->f as=some c->
 (∀H' z,dI H H'->bD K p.c H' c z->Q z H')->r xs H Q
def lF(K:ae)(r:List V->Hp->VK->Prop)(f:BK->BM):Prop:=∀{p:Ph}{S:aF}{H:Hp}{as:BK}{c:PV}{xs:List V}{Q:VK},aQ K p S H->Zi K p H as xs->f as=some c->
 (∀H' z,dI H H'->bD K p.c H' c z->Q z H')->r xs H Q
theorem oS {Q:VK}(s:aQ K p S H)(h:bY K cl (cS K) p H (iC o S) Q E):∃c,o=some c/\∀H' z,dI H H'->bD K p.c H' c z->Q z H':=by
 cases o with
 |none=>exact h.elim
 |some c=>exact⟨c,rfl,λH' z sm rz=>bY.same h s sm rz⟩
theorem yO (hf:iD K r f){p:Ph}{S:aF}{H:Hp}{a b:AV}{x y:V}{Q:VK}(s:aQ K p S H)(ra:cS K p H a x)(rb:cS K p H b y)(h:bY K cl (cS K) p H (kX f a b S) Q E):r x y H Q:=by
 obtain⟨c,e,k⟩:=oS s h;cases z:rd S a with
 |none=>simp_all
 |some v=>
  cases y:rd S b with
  |none=>simp_all
  |some w=>
   rw[z,y]at e;exact hf s (qL s ra z) (qL s rb y) e k
theorem yP (hf:Tb K r f){p:Ph}{S:aF}{H:Hp}{a:AV}{x:V}{Q:VK}(s:aQ K p S H)(ra:cS K p H a x)(h:bY K cl (cS K) p H (tQ f a S) Q E):r x H Q:=by
 obtain⟨c,e,k⟩:=oS s h;cases z:rd S a with
 |none=>simp_all
 |some v=>
  rw[z]at e;exact hf s (qL s ra z) e k
theorem Qq (hf:lF K r f){p:Ph}{S:aF}{H:Hp}{as:BO}{xs:List V}{Q:VK}(s:aQ K p S H)(ra:iI K p H as xs)(h:bY K cl (cS K) p H (nU f as S) Q E):r xs H Q:=by
 obtain⟨c,e,k⟩:=oS s h;cases z:hU S as with
 |none=>simp_all
 |some v=>
  rw[z]at e;exact hf s (yD s ra z) e k
theorem Pd :∀{as:BO}{vs:BK}{xs:List V},nW as=some vs->iI K p H as xs->aR K p.c H vs xs
 |[],vs,_,e,.nil=>by
  cases e;exact .nil
 |.pv v::r,vs,_,e,.cons h t=>by
  unfold nW at e;cases z:nW r with
  |none=>simp only[z]at e;cases e
  |some us=>
   simp only[z]at e;cases e;exact .cons h (Pd z t)
 |.ref k::r,vs,_,e,.cons h t=>by
  cases e
theorem Yq (hf:CaS K r f){p:Ph}{S:aF}{H:Hp}{as:BO}{xs:List V}{Q:VK}(s:aQ K p S H)(ra:iI K p H as xs)(h:bY K cl (cS K) p H (Qa f as S) Q E):r xs H Q:=by
 obtain⟨c,e,k⟩:=oS s h;cases z:nW as with
 |none=>simp_all
 |some v=>
  rw[z]at e;exact hf s (Pd z ra) e k
theorem qR (ho:eJ X (binaryOp op) r)(hf:iD X.K r f)(ha:aL K cl E X a ma)(hb:aL K cl E X b mb):aL K cl E X (.BinOp a op b pos) (aC f ma mb):=by
 intro hK;subst hK;refine(B3 ho (ha rfl) (hb rfl)).imp ?_
 rintro σ H Q ⟨p,S,ρ,s,e,h⟩
 exact bZ s e h λq H1 a x S1 st s1 e1 r1 h1=>bZ s1 e1 h1 λq2 H2 b y S2 st2 s2 e2 r2 h2=>yO hf s2 (st2.repA r1) r2 h2
theorem agZ (ho:Wb X (unaryOp op) r)(hf:Tb X.K r f)(ha:aL K cl E X a ma):aL K cl E X (.UnaryOp op a pos) (bG f ma):=by
 intro hK;subst hK;refine(C0 ho (ha rfl)).imp ?_
 rintro σ H Q ⟨p,S,ρ,s,e,h⟩
 exact bZ s e h λq H1 a x S1 st s1 e1 r1 h1=>yP hf s1 r1 h1
theorem vV (ho:eJ X (compareOp op) r)(hf:iD X.K r f)(ha:aL K cl E X a ma)(hb:aL K cl E X b mb)(hm:behindInMarks op b=false):aL K cl E X (.Compare a [op] [b] pos) (aC f ma mb):=by
 intro hK;subst hK;refine(acH ho (ha rfl) (hb rfl) hm).imp ?_
 rintro σ H Q ⟨p,S,ρ,s,e,h⟩
 exact bZ s e h λq H1 a x S1 st s1 e1 r1 h1=>bZ s1 e1 h1 λq2 H2 b y S2 st2 s2 e2 r2 h2=>yO hf s2 (st2.repA r1) r2 h2
theorem D6 (r:cS K p H v x){b:Bool}(e:v=.pv (.bl b)):x=.bl b:=by
 subst e;exact r
theorem Rf (s:aQ K p S H)(r:cS K p H v x)
  (h:bY K cl RB p H (lA v S) Q E):∃k,x=.bl k/\Q k H:=by
 cases v with
 |ref k=>exact h.elim
 |pv v=>
  cases v with
  |bl b=>exact⟨b,D6 r rfl,bY.ret h s rfl⟩
  |_=>exact h.elim
theorem vF (ho:eJ X (compareOp op) r)(hf:iD X.K r f)(ha:aL K cl E X a ma)(hb:aL K cl E X b mb)(hm:behindInMarks op b=false):fH K cl E X (.Compare a [op] [b] pos) (aO (aC f ma mb)):=by
 intro hK;subst hK;refine(adm ho (ha rfl) (hb rfl) hm).imp ?_
 rintro σ H Q ⟨p,S,ρ,s,e,h⟩
 have z:tP _ _ E (cS _) _ _ H _:=bZ s e h λq H1 a x S1 st s1 e1 r1 h1=>Rf s1 r1 h1;obtain⟨p',S',ρ',s',e',h'⟩:=z;exact bZ s' e' h' λq H1 a x S1 st s1 e1 r1 h1=>bZ s1 e1 h1 λq2 H2 b y S2 st2 s2 e2 r2 h2=>yO hf s2 (st2.repA r1) r2 h2
theorem adb(ha:aL K cl E X a ma)(he:autoParam (∀whole,isTrue a X.env whole=(do let v <-whole;standAt a.pos;holding [v] (truthy v))) Zqz):fH K cl E X a (aO ma):=by
 intro hK;subst hK;refine(afh (ha rfl) he).imp ?_
 rintro σ H Q ⟨p,S,ρ,s,e,h⟩
 exact bZ s e h λq H1 a x S1 st s1 e1 r1 h1=>Rf s1 r1 h1
theorem acI(ha:fH K cl E X a mt):fH K cl E X (.UnaryOp .Not a pos) (fM mt):=by
 intro hK;subst hK;refine(afv (ha rfl)).imp ?_
 rintro σ H Q ⟨p,S,ρ,s,e,h⟩
 exact bZ s e h λq H1 a x S1 st s1 e1 r1 h1=>by
  cases r1;exact bY.ret h1 s1 rfl
theorem ab8(ha:fH K cl E X a mt):kP K cl E X (.BoolOp .And [a] pos) mt:=λhK=>act (ha hK)
theorem adE(ha:fH K cl E X a mt):kP K cl E X (.BoolOp .Or [a] pos) mt:=λhK=>aeU (ha hK)
theorem kP.pt(h:kP K cl E X a mt):fH K cl E X a mt:=λhK=>PW.pt (h hK)
theorem acZ{fL:List ah}(ha:fH K cl E X a mt)(hb:kP K cl E X (.BoolOp .And (b::fL) pos) nt):kP K cl E X (.BoolOp .And (a::b::fL) pos) (iA mt nt):=by
 intro hK;subst hK;refine PW.imp (afR (ha rfl) (hb rfl)) ?_
 rintro σ H Q ⟨p,S,ρ,s,e,h⟩
 refine bZ s e h λq H1 a x S1 st s1 e1 r1 h1=>?_;cases r1;cases a with
 |true=>exact⟨q,S1,ρ,s1,e1,h1⟩
 |false=>exact bY.ret h1 s1 rfl
theorem aeu{fL:List ah}(ha:fH K cl E X a mt)(hb:kP K cl E X (.BoolOp .Or (b::fL) pos) nt):kP K cl E X (.BoolOp .Or (a::b::fL) pos) (gC mt nt):=by
 intro hK;subst hK;refine PW.imp (agr (ha rfl) (hb rfl)) ?_
 rintro σ H Q ⟨p,S,ρ,s,e,h⟩
 refine bZ s e h λq H1 a x S1 st s1 e1 r1 h1=>?_;cases r1;cases a with
 |true=>exact bY.ret h1 s1 rfl
 |false=>exact⟨q,S1,ρ,s1,e1,h1⟩
theorem aek{fL:List ah}(ha:aL K cl E X a ma)(hb:aL K cl E X (.BoolOp .And (b::fL) pos) mb):aL K cl E X (.BoolOp .And (a::b::fL) pos) (tI ma mb):=by
 intro hK;subst hK;refine(aeO (ha rfl) (hb rfl)).imp ?_
 rintro σ H Q ⟨p,S,ρ,s,e,h⟩
 refine bZ s e h λq H1 a x S1 st s1 e1 r1 h1=>?_;cases a with
 |ref k=>exact h1.elim
 |pv v=>
  cases v with
  |bl b=>
   refine⟨b,D6 r1 rfl,?_⟩;cases b with
   |true=>exact⟨q,S1,ρ,s1,e1,h1⟩
   |false=>exact bY.ret h1 s1 (by rfl)
  |_=>exact h1.elim
theorem aeL(ha:aL K cl E X a ma):aL K cl E X (.UnaryOp .Not a pos) (bG wV ma):=by
 intro hK;subst hK;refine(aeG (ha rfl)).imp ?_
 rintro σ H Q ⟨p,S,ρ,s,e,h⟩
 refine bZ s e h λq H1 a x S1 st s1 e1 r1 h1=>?_;refine yP (r:=λx H Q=>∃c,x=.bl c/\Q (.bl !c) H) (λ{p S H a c x Q} s r e k=>?_) s1 r1 h1;cases a with
 |bl b=>
  cases e;exact⟨b,r.bl,k H _ (dI.refl H) (by rfl)⟩
 |_=>cases e
theorem ag1(hc:fH K cl E X c mt)(ha:aL K cl E X a ma)(hb:aL K cl E X b mb):aL K cl E X (.IfExp c a b pos) (uA mt ma mb):=by
 intro hK;subst hK;refine(aaV (hc rfl) (ha rfl) (hb rfl)).imp ?_
 rintro σ H Q ⟨p,S,ρ,s,e,h⟩
 refine bZ s e h λq H1 a x S1 st s1 e1 r1 h1=>?_;cases r1;cases a with
 |true=>exact⟨q,S1,ρ,s1,e1,h1⟩
 |false=>exact⟨q,S1,ρ,s1,e1,h1⟩
theorem acV:eR K cl E X [] aD:=λ_=>PA.imp nS λσ H Q ⟨p,S,ρ,s,e,h⟩=>bY.ret h s .nil
theorem abV(ha:aL K cl E X e m)(hr:eR K cl E X es ms)(hs:autoParam (starEach (e::es) X.env=(false,eval e X.env)::starEach es X.env) Zqq):eR K cl E X (e::es) (aB m ms):=by
 intro hK;subst hK;refine PA.imp (mL (ha rfl) (hr rfl) hs) ?_
 rintro σ H Q ⟨p,S,ρ,s,e,h⟩
 exact bZ s e h λq H1 a x S1 st s1 e1 r1 h1=>bZ s1 e1 h1 λq2 H2 b y S2 st2 s2 e2 r2 h2=>bY.ret h2 s2 (.cons (st2.repA r1) r2)
theorem qD (s:aQ K p S H)(r:aR K p.c H vs xs)(z:xs.length<=sizeLine)(ht:H t=none):bD K p.c (aM H t (.tup xs)) (.tup vs) (.ref t):=⟨t,xs,rfl,dB.of eC,z,(s.same (gL ht)).reps r⟩
theorem lI (s:aQ K p S H)(r:aR K p.c H vs xs)(z:xs.length<=sizeLine)(ht:H t=none):bD K p.c (aM H t (.lst xs)) (.lst vs) (.ref t):=by
 refine⟨t,xs,rfl,.inl ⟨eC,λc=>?_⟩,z,(s.same (gL ht)).reps r⟩;obtain⟨o,e,_⟩:=s.mu t c;grind
theorem jI:sizeLine=16777216:=kg
theorem aeF (h:eR K cl E X es ms):aL K cl E X (.Tuple es x1 pos) (mN eF ms):=by
 intro hK;subst hK;refine(afQ (h rfl)).imp ?_
 rintro σ H Q ⟨p,S,ρ,s,e,h⟩
 refine bZ s e h λq H1 as xs S1 st s1 e1 r1 h1=>?_;refine Yq (r:=λxs H Q=>xs.length<=sizeLine/\∀t,H t=none->Q (.ref t) (aM H t (.tup xs))) (λ{p S H as c xs Q} s r e k=>?_) s1 r1 h1;unfold eF at e;split at e
 .rename_i hl
  cases e;rw[r.length]at hl;exact⟨hl,λt ht=>k _ _ (gL ht) (qD s r hl ht)⟩
 .cases e
theorem aeV(h:eR K cl E X es ms):aL K cl E X (.List es pos) (mN fG ms):=by
 intro hK;subst hK;refine(zX (h rfl)).imp ?_
 rintro σ H Q ⟨p,S,ρ,s,e,h⟩
 refine bZ s e h λq H1 as xs S1 st s1 e1 r1 h1=>?_;refine Yq (r:=λxs H Q=>xs.length<=sizeLine/\∀t,H t=none->Q (.ref t) (aM H t (.lst xs))) (λ{p S H as c xs Q} s r e k=>?_) s1 r1 h1;unfold fG at e;split at e
 .rename_i hl
  cases e;rw[r.length]at hl;exact⟨hl,λt ht=>k _ _ (gL ht) (lI s r hl ht)⟩
 .cases e
end
section
open PySem PySem.Spec PyProof.Rows Bn
def cP:MS:=λρ S=>.nx ρ S
def aH(a b:MS):MS:=λρ S=>match a ρ S with
 |.nx ρ1 S1=>b ρ1 S1
 |r=>r
def dC(m:ME):MS:=λρ S=>cO.of (m ρ S) λ_ S1=>.nx ρ S1
def aT(m:ME):MS:=λρ S=>cO.of (m ρ S) λv S1=>.rt v S1
def B4:MS:=λ_ S=>.rt (.pv .non) S
def bW(c:MT)(a b:MS):MS:=λρ S=>cO.of (c ρ S) λt S1=>if t=true then a ρ S1 else b ρ S1
def aP(i:Nat)(m:ME):MS:=λρ S=>cO.of (m ρ S) λv S1=>.nx (ρ.set i (some v)) S1
def wT(i j:Nat)(m:MA):MS:=λρ S=>cO.of (m ρ S) λvs S1=>match vs with
 |[v,w]=>.nx ((ρ.set i (some v)).set j (some w)) S1
 |_=>.fail
abbrev GM:=PV->cR->Option cR
abbrev rF:=BK->cR->Option cR
def gN(i:Nat):GM:=λv ρ=>some (ρ.set i (some (.pv v)))
def cJ:rF:=λvs ρ=>match vs with
 |[]=>some ρ
 |_=>none
def aZ(g:GM)(gs:rF):rF:=λvs ρ=>match vs with
 |[]=>none
 |v::r=>match g v ρ with
  |some ρ1=>gs r ρ1
  |none=>none
def gT(n:Nat)(gs:rF):GM:=λv ρ=>match v with
 |.tup vs=>if vs.length=n then gs vs ρ else none
 |_=>none
abbrev Gd:=List (Nat×BK)
def iQ(G:Gd)(S:aF):Prop:=∀g∈G,S[g.1]?=some (.lst g.2)
theorem kB(S:aF):iQ [] S:=λ_ h=>nomatch h
abbrev MI:=cR->aF->bQ (BK×Gd)
open Classical in
def dH(G:Gd)(g:GM)(mb:MS):BK->cR->aF->cO
 |[],ρ,S=>if iQ G S then .nx ρ S else .fail
 |x::r,ρ,S=>if iQ G S then(match g x ρ with
  |none=>.fail
  |some ρ1=>match mb ρ1 S with
   |.nx ρ2 S2=>dH G g mb r ρ2 S2
   |.ct ρ2 S2=>dH G g mb r ρ2 S2
   |.bk ρ2 S2=>.nx ρ2 S2
   |.rt v S2=>.rt v S2
   |.exc n S2=>.exc n S2
   |.fail=>.fail)else .fail
def cB(mi:MI)(g:GM)(mb:MS):MS:=λρ S=>cO.of (mi ρ S) λxs S1=>dH xs.2 g mb xs.1 ρ S1
theorem gK :dH [] g mb [] ρ S=.nx ρ S:=by
 unfold dH;rw[if_pos (kB S)]
theorem eW :dH [] g mb (x::r) ρ S=(match g x ρ with
  |none=>.fail
  |some ρ1=>match mb ρ1 S with
   |.nx ρ2 S2=>dH [] g mb r ρ2 S2
   |.ct ρ2 S2=>dH [] g mb r ρ2 S2
   |.bk ρ2 S2=>.nx ρ2 S2
   |.rt v S2=>.rt v S2
   |.exc n S2=>.exc n S2
   |.fail=>.fail):=by
 rw[dH,if_pos (kB S)]
def eX(c:MT)(mb:MS):Nat->cR->aF->cO
 |0,_,_=>.fail
 |n+1,ρ,S=>cO.of (c ρ S) λt S1=>if t=true then(match mb ρ S1 with
   |.nx ρ2 S2=>eX c mb n ρ2 S2
   |.ct ρ2 S2=>eX c mb n ρ2 S2
   |.bk ρ2 S2=>.nx ρ2 S2
   |.rt v S2=>.rt v S2
   |.exc n S2=>.exc n S2
   |.fail=>.fail)else .nx ρ S1
open Classical in
def nP(c:MT)(mb:MS):MS:=λρ S=>if h:∃n,eX c mb n ρ S≠.fail then eX c mb h.choose ρ S else .fail
theorem cO.of_ok {k k':α->aF->cO}(h:∀a S,k a S≠.fail->k' a S=k a S)(n:cO.of r k≠.fail):cO.of r k'=cO.of r k:=by
 cases r with
 |ok a S=>exact h a S n
 |exc=>rfl
 |fail=>rfl
theorem Wc {mb:MS}:∀{n:Nat}{ρ:cR}{S:aF},eX c mb n ρ S≠.fail->eX c mb (n+1) ρ S=eX c mb n ρ S
 |0,_,_,h=>absurd rfl h
 |n+1,ρ,S,h=>by
  refine cO.of_ok (λt S1 h1=>?_) h
  by_cases ht:t=true
  .simp only[if_pos ht]at h1⊢
   cases z:mb _ _ with
   |nx ρ2 S2=>rw[z]at h1;exact Wc h1
   |ct ρ2 S2=>rw[z]at h1;exact Wc h1
   |_=>rfl
  .simp_all
theorem Dd (h:eX c mb n ρ S≠.fail):∀k,eX c mb (n+k) ρ S=eX c mb n ρ S
 |0=>rfl
 |k+1=>by
  have ih:=Dd h k;rw[<-yf,Wc (by rw[ih];exact h),ih]
theorem yI {ρ:cR}{S:aF}{r:cO}(e:eX c mb n ρ S=r)(h:r≠.fail):nP c mb ρ S=r:=by
 have h':∃n,eX c _ n _ S≠.fail:=⟨n,by rw[e];exact h⟩;unfold nP;rw[dif_pos h'];have e2:=h'.choose_spec;rcases Nat.le_total n h'.choose with l |l
 .obtain⟨k,q⟩:=l9 l
  rw[q,Dd (by rw[e];exact h),e]
 .obtain⟨k,q⟩:=l9 l
  have z:=Dd e2 k
  simp_all
section
variable{K:ae}{cl:Str->Addr}{E:XK}{X:Cx}{a b c e tg:ah}{es:List ah}{m:ME}{mt:MT}{ms:MA}{b1 b2:MS}{st:Stmt}{sts sts':List Stmt}{pos:ai}
theorem dL.set {ρ:cR}{σ:St}{v:AV}{x:V}(h:dL K p H ρ σ)(r:cS K p H v x)(i:Nat):dL K p H (ρ.set i (some v)) (σ.set i (some x)):=by
 refine⟨by rw[ij,ij,h.len],λj u e=>?_⟩
 by_cases q:i=j
 .subst q
  by_cases l:i<ρ.length
  .rw[fz l]at e
   cases e;exact⟨x,fz (by rw[<-h.len];exact l),r⟩
  .simp_all
 .rw[fu q]at e⊢
  exact h.at_ j u e
theorem abc:fO K cl E X [] cP:=λ_=>gS.imp adR λD σ H ⟨p,S,ρ,s,e,h⟩=>h p H _ s.step s e
theorem eT.nxD (h:eT K cl p H (.nx ρ S) D E){σ:St}(s:aQ K p S H)(e:dL K p H ρ σ):D.nx σ H:=h p H _ s.step s e
theorem X9(h1:eZ K cl E X st b1)(h2:fO K cl E X sts b2):fO K cl E X (st::sts) (aH b1 b2):=by
 intro hK;subst hK;refine gS.imp (aaJ (h1 rfl) (h2 rfl)) λD σ H ⟨p,S,ρ,s,e,h⟩=>⟨p,S,ρ,s,e,?_⟩;unfold aH at h;cases z:b1 ρ S with
 |nx ρ1 S1=>
  rw[z]at h;exact λq H' σ' dD sm ev=>⟨q,S1,ρ1,sm,ev,eT.mono h dD⟩
 |bk ρ1 S1=>rw[z]at h;exact h
 |ct ρ1 S1=>rw[z]at h;exact h
 |rt v S1=>rw[z]at h;exact h
 |exc n S1=>rw[z]at h;exact h
 |fail=>rw[z]at h;exact h
theorem aa5(h1:eZ K cl E X st b1):fO K cl E X [st] b1:=λhK=>Ov (h1 hK)
theorem abp(he:aL K cl E X e m)(hs:autoParam (swapsWith e none pos.line X.env=pure false) Zqq):eZ K cl E X (.Expr e pos) (dC m):=by
 intro hK;subst hK;refine PS.imp (adI (he rfl) hs) ?_
 rintro D σ H ⟨p,S,ρ,s,e,h⟩
 exact jM s e h λq H' a b S' dD sm ev r k=>eT.nxD k sm ev
theorem acW(he:aL K cl E X e m):eZ K cl E X (.Return (some e) pos) (aT m):=by
 intro hK;subst hK;refine PS.imp (afj (he rfl)) ?_
 rintro D σ H ⟨p,S,ρ,s,e,h⟩
 exact jM s e h λq H' a b S' dD sm ev r k=>k q _ b sm.step sm r
theorem afl(hc:fH K cl E X c mt)(ha:fO K cl E X sts b1)(hb:fO K cl E X sts' b2):eZ K cl E X (.If c sts sts' pos) (bW mt b1 b2):=by
 intro hK;subst hK;refine PS.imp (af5 (hc rfl) (ha rfl) (hb rfl)) ?_
 rintro D σ H ⟨p,S,ρ,s,e,h⟩
 refine jM s e h λq H' a b S' dD sm ev r k=>?_;cases r;cases a with
 |true=>exact⟨q,S',ρ,sm,ev,k⟩
 |false=>exact⟨q,S',ρ,sm,ev,k⟩
theorem Hv (hN:X.N.Nodup)(hi:X.N[i]?=some x)(hx:lX X.env.scope x)(he:aL K cl E X e m)(hs:autoParam (swapsWith e (some (.Name x pos')) pos.line X.env=pure false) Zqq)
  (hf:autoParam (X.fn x=true\/X.env.scope.names.lookup x=some .local) Zwq):eZ K cl E X (.Assign [.Name x pos'] e pos) (aP i m):=by
 intro hK;subst hK;refine PS.imp (aeK hN hi hx (he rfl) hs hf) ?_
 rintro D σ H ⟨p,S,ρ,s,e,h⟩
 exact jM s e h λq H' a b S' dD sm ev r k=>eT.nxD k sm (ev.set r i)
theorem ad0 {x y:Str}{px py pt:ai}{kt k2 pt2}(hc:X.calm=true)(hN:X.N.Nodup)(hi:X.N[i]?=some x)(hj:X.N[j]?=some y)(hij:i≠j)
  (hx:X.env.scope.names.lookup x=some .local)(hy:X.env.scope.names.lookup y=some .local)(ha:eR K cl E X [a,b] ms)
  (hw:swappedStores [.Tuple [.Name x px,.Name y py] kt pt] (.Tuple [a,b] k2 pt2) X.env=pure (some [x,y]))
  (hs:autoParam (swapsWithSole [.Tuple [.Name x px,.Name y py] kt pt] (.Tuple [a,b] k2 pt2) pos.line X.env=pure false) Zqq):
  eZ K cl E X (.Assign [.Tuple [.Name x px,.Name y py] kt pt] (.Tuple [a,b] k2 pt2) pos) (wT i j ms):=by
 intro hK;subst hK;refine PS.imp (afa hc hN hi hj hij hx hy (ha rfl) hw hs) ?_
 rintro D σ H ⟨p,S,ρ,s,e,h⟩
 refine jM s e h λq H' vs xs S' dD sm ev r k=>?_;cases r with
 |nil=>exact k.elim
 |cons r1 rr=>
  cases rr with
  |nil=>exact k.elim
  |cons r2 rs=>
   cases rs with
   |nil=>exact⟨_,_,rfl,eT.nxD k sm ((ev.set r1 i).set r2 j)⟩
   |cons _ _=>exact k.elim
def gP(K:ae)(g:GM):TG:=λx σ H Q=>∃p S ρ v ρ',aQ K p S H/\dL K p H ρ σ/\bD K p.c H v x/\g v ρ=some ρ'/\∀σ',dL K p H ρ' σ'->Q σ' H
def gPs(K:ae)(g:rF):pM:=λxs σ H Q=>∃p S ρ vs ρ',aQ K p S H/\dL K p H ρ σ/\aR K p.c H vs xs/\g vs ρ=some ρ'/\∀σ',dL K p H ρ' σ'->Q σ' H
variable(K X)
def nC(tg:ah)(g:GM):Prop:=X.K=K->PG X tg (gP K g)
def tT(ts:List ah)(g:rF):Prop:=X.K=K->nE X ts (gPs K g)
variable{K X}
theorem PG.imp (h:PG X tg t)(i:∀x σ H Q,t' x σ H Q->t x σ H Q):PG X tg t':=λBP s σ H v u Q I r q=>h _ s _ H v u Q I r (i v _ H Q q)
theorem nE.imp (h:nE X ts t)(i:∀x σ H Q,t' x σ H Q->t x σ H Q):nE X ts t':=λBP s σ H v u Q I r q=>h _ s _ H v u Q I r (i v _ H Q q)
theorem aaR (hN:X.N.Nodup)(hi:X.N[i]?=some x)(hx:lX X.env.scope x)(hf:autoParam (X.fn x=true\/X.env.scope.names.lookup x=some .local) Zwq):nC K X (.Name x pos) (gN i):=
 λ_=>PG.imp (Gv hN hi hx hf) λx σ H Q ⟨p,S,ρ,v,ρ',s,ev,r,g,k⟩=>by
  cases g;exact k _ (ev.set (v:=.pv v) r i)
theorem aaW:tT K X [] cJ:=λ_=>nE.imp acD λxs σ H Q ⟨p,S,ρ,vs,ρ',s,ev,r,g,k⟩=>by
 cases vs with
 |nil=>
  cases g;exact⟨r,k _ ev⟩
 |cons _ _=>cases g
theorem Y6 (h1:nC K X e g)(h2:tT K X es gs)(hs:autoParam ((assignEach (e::es) X.env).map (·.2)=assign e X.env::(assignEach es X.env).map (·.2)) Zqq):tT K X (e::es) (aZ g gs):=by
 intro hK;subst hK;refine nE.imp (aaQ (h1 rfl) (h2 rfl) hs) ?_
 rintro xs σ H Q ⟨p,S,ρ,vs,ρ',s,ev,r,g1,k⟩
 cases vs with
 |nil=>cases g1
 |cons v vr=>
  obtain⟨x,xr,rfl,r1,r2⟩:=r;unfold aZ at g1;cases z:g v ρ with
  |none=>simp_all
  |some ρ1=>
   simp only[z]at g1;exact⟨x,xr,rfl,p,S,ρ,v,ρ1,s,ev,r1,z,λσ' ev'=>⟨p,S,ρ1,vr,ρ',s,ev',r2,g1,k⟩⟩
theorem adU{k:Nat}{gs:rF}{n:Nat}(hc:X.calm=true)(h:tT K X es gs)(hn:autoParam ((assignEach es X.env).length=n) Zqq)(hst:autoParam ((assignEach es X.env).findIdx? (·.1)=none) Zqq):nC K X (.Tuple es k pos) (gT n gs):=by
 intro hK;subst hK;refine PG.imp (afr hc (h rfl) hn hst) ?_
 rintro x σ H Q ⟨p,S,ρ,v,ρ',s,ev,r,g1,k⟩
 cases v with
 |tup vs=>
  obtain⟨a,xs,rfl,t,z,r⟩:=r;unfold gT at g1;dsimp only at g1;split at g1
  .rename_i hl
   exact⟨a,xs,rfl,t,r.length.symm.trans hl,p,S,ρ,vs,ρ',s,ev,r,g1,k⟩
  .cases g1
 |_=>cases g1
def iP(K:ae)(p:Ph)(H:Hp)(xs:BK×Gd)(J:It):Prop:=xs.1.length<=sizeLine/\∀q H1 S1,bP p H q H1->aQ K q S1 H1->iQ xs.2 S1->
 (∀(i:Nat)(v:PV),xs.1[i]?=some v->J.go i H1/\∀x H2,J.yld i H1 x H2->dI H1 H2/\bD K q.c H2 v x)/\J.stop xs.1.length H1
theorem iP.step {H H':Hp}{xs:BK×Gd}{J:It}(h:iP K p H xs J)(s:bP p H q H'):iP K q H' xs J:=⟨h.1,λr H1 S1 t=>h.2 r _ _ (s.trans t)⟩
variable(K cl E X)
def PIp(tg iter:ah)(m:MI):Prop:=X.K=K->PI X tg iter (tP K cl E (iP K) m)
variable{K cl E X}
theorem PI.imp (h:PI X tg iter t)(i:∀σ H Q,t' σ H Q->t σ H Q):PI X tg iter t':=λBP s σ H R I q=>h _ s _ H R I (i _ H R q)
def ahF(K:ae)(tl:TE):TI:=λσ H R=>tl σ H λx H1=>∃a,x=.ref a/\(((∃xs,bV K H1 a xs)/\R (Ac K a) H1)\/((∃xs,dB K H1 a xs)/\R (Tk K a) H1))
theorem Kz (hl:PE X l tl):PI X tg l (ahF X.K tl):=by
 intro BP s σ H R I h;refine aY (hl _ s σ H _ I h) ?_
 rintro v s1 ⟨x,H1,I1,r1,q1⟩
 obtain⟨a,e,q⟩:=q1;subst e;cases r1;rcases q with⟨⟨xs,hq⟩,q⟩|⟨⟨xs,hq⟩,q⟩
 .obtain⟨its,rv,p,hz⟩:=I1.list hq
  refine sy p.isList ?_;refine⟨s1.heap.objs.size,[s1.heap.objs.size],_,_,H1,rfl,I1.kept λb o e=>ar _ e,aav a _,⟨_,cy _ rfl,rfl,rfl⟩,λb hb=>?_,q⟩;have e:=by simpa using hb
  subst e;exact I1.fpOk (aj _) (I1.hok.fresh (aj _))
 .obtain⟨its,rv,p,hz⟩:=I1.tuple hq
  refine l6 (show s1.heap.IsTuple a _ from p) ?_;refine⟨s1.heap.objs.size,[s1.heap.objs.size],_,_,H1,rfl,I1.kept λb o e=>ar _ e,U5 a _,⟨_,cy _ rfl,rfl,rfl⟩,λb hb=>?_,q⟩;have e:=by simpa using hb
  subst e;exact I1.fpOk (aj _) (I1.hok.fresh (aj _))
def bT:AV->aF->bQ (BK×Gd)
 |.pv (.lst xs),S=>.ok (xs,[]) S
 |.pv (.tup xs),S=>.ok (xs,[]) S
 |.ref k,S=>match S[k]? with
  |some (.lst xs)=>.ok (xs,[(k,xs)]) S
  |_=>.fail
 |_,_=>.fail
def aX(m:ME):MI:=λρ S=>(m ρ S).bind bT
theorem aey {H:Hp}{xs:BK}{a:Addr}{vs:List V}(l:lD K p.c H a vs)(z:vs.length<=sizeLine)(r:aR K p.c H xs vs):iP K p H (xs,[]) (Ac K a):=by
 refine⟨by rw[r.length];exact z,λq H1 S1 st _ _=>⟨λi v e=>?_,?_⟩⟩
 .have l1:=(st.lat l).sq
  obtain⟨x,e1,r1⟩:=(st.reps r).get e;refine⟨⟨vs,x,l1,e1⟩,λy H2 hy=>?_⟩;obtain⟨rfl,hy⟩:=hy;have:=(hy _ l1).symm.trans e1;cases this;exact⟨dI.refl _,r1⟩
 .exact⟨vs,(st.lat l).sq,by rw[r.length];simp_all ⟩
theorem afy {H:Hp}{xs:BK}{a:Addr}{vs:List V}(l:dB K H a vs)(z:vs.length<=sizeLine)(r:aR K p.c H xs vs):iP K p H (xs,[]) (Tk K a):=by
 refine⟨by rw[r.length];exact z,λq H1 S1 st _ _=>⟨λi v e=>?_,?_⟩⟩
 .have l1:=st.tup l
  obtain⟨x,e1,r1⟩:=(st.reps r).get e;refine⟨⟨vs,x,l1,e1⟩,λy H2 hy=>?_⟩;obtain⟨rfl,hy⟩:=hy;have:=(hy _ l1).symm.trans e1;cases this;exact⟨dI.refl _,r1⟩
 .exact⟨vs,st.tup l,by rw[r.length];simp_all ⟩
theorem afw {xs:BK}{a:Addr}{k:Nat}{n:xs.length<=sizeLine}(hf:p.f[k]?=some a):iP K p H (xs,[(k,xs)]) (Ac K a):=by
 refine⟨n,λq H1 S1 st sm g=>?_⟩;have e0:S1[k]?=some (.lst xs):=g _ av;obtain⟨vs,h1,l1,r1⟩:=sm.obj k a _ (st.at_ hf) e0;refine⟨λi v e=>?_,?_⟩
 .obtain⟨x,e1,r2⟩:=r1.get e
  refine⟨⟨vs,x,bV.of h1,e1⟩,λy H2 hy=>?_⟩;obtain⟨rfl,hy⟩:=hy;have:=(hy vs (bV.of h1)).symm.trans e1;cases this;exact⟨dI.refl _,r2⟩
 .exact⟨vs,bV.of h1,by rw[r1.length];exact aj _⟩
theorem adW(h:aL K cl E X e m):PIp K cl E X tg e (aX m):=by
 intro hK;subst hK;refine PI.imp (Kz (h rfl)) ?_
 rintro σ H R ⟨p,S,ρ,s,ev,h⟩
 refine bZ s ev h λq H' v x S' dD sm ev r k=>?_;cases v with
 |ref j=>
  obtain⟨a,e,rfl⟩:=r;unfold bT at k;dsimp only at k;cases z:S'[j]? with
  |none=>rw[z]at k;exact k.elim
  |some o=>
   cases o with
   |lst xs=>
    rw[z]at k;obtain⟨vs,h1,l1,r1⟩:=sm.obj j a _ e z;exact⟨a,rfl,.inl ⟨⟨vs,bV.of h1⟩,bY.ret k sm (afw (n:=by rw[r1.length];exact l1) e)⟩⟩
   |lol _=>rw[z]at k;exact k.elim
   |dic _ _=>rw[z]at k;exact k.elim
   |dol _ _=>rw[z]at k;exact k.elim
 |pv v=>
  cases v with
  |lst xs=>
   have r:=r;obtain⟨a,vs,rfl,l,z,r⟩:=r;exact⟨a,rfl,.inl ⟨⟨vs,l.sq⟩,bY.ret k sm (aey l z r)⟩⟩
  |tup xs=>
   have r:=r;obtain⟨a,vs,rfl,l,z,r⟩:=r;exact⟨a,rfl,.inr ⟨⟨vs,l⟩,bY.ret k sm (afy l z r)⟩⟩
  |_=>exact k.elim
def dS(lo:Int)(n:Nat):BK:=(ck n).map λi=>.int (lo+(i:Nat))
def iX:BO->aF->bQ (BK×Gd)
 |[.pv (.int j)],S1=>@ite _ (j<=16777216/\-16777216<=j) (ue _) (.ok (dS 0 j.toNat,[]) S1) .fail
 |_,_=>.fail
def dG(ms:MA):MI:=λρ S=>(ms ρ S).bind iX
def Gb:BO->aF->bQ (BK×Gd)
 |[.pv (.int i),.pv (.int j)],S1=>@ite _ ((-4611686018427387904<=i/\i<4611686018427387904/\-4611686018427387904<=j/\j<4611686018427387904)/\j-i<=16777216) (ue _) (.ok (dS i (j-i).toNat,[]) S1) .fail
 |_,_=>.fail
def sK(ms:MA):MI:=λρ S=>(ms ρ S).bind Gb
theorem Iz {lo:Int}{n:Nat}(h:n<=sizeLine):iP K p H (dS lo n,[]) (xI lo n):=by
 have hl:(dS lo n).length=n:=by unfold dS;simp_all
 refine⟨by simp_all,λq H1 S1 st _ _=>⟨λi v e=>?_,?_⟩⟩
 .have hi:i<n:=by
   grind
  refine⟨hi,λx H2 hy=>?_⟩;obtain⟨rfl,rfl⟩:=hy;unfold dS at e;rw[aw,List.getElem?_range hi]at e;cases e;refine⟨dI.refl _,?_⟩;rfl
 .rw[hl]
  exact aj n
theorem S7 (hg:Gl X "range")(hm:X.mg "range"=none)(ha:eR K cl E X [a] ms)(hs:autoParam (starEach [a] X.env=[(false,eval a X.env)]) Zqq):PIp K cl E X tg (.Call (.Name "range" p) [a] [] pos) (dG ms):=by
 intro hK;subst hK;refine PI.imp (X5 hg hm (ha rfl) hs) ?_
 rintro σ H R ⟨p,S,ρ,s,ev,h⟩
 refine bZ s ev h λq H' vs xs S' dD sm ev r k=>?_;unfold iX at k;split at k
 .rename_i j
  cases r with
  |cons r1 r2=>
   cases r2;have e:=by
    have r1:=r1;exact r1
   subst e;split at k
   .have hz:=jI
    exact⟨j,rfl,by omega,by omega,bY.ret k sm (Iz 1#a)⟩
   .exact k.elim
 .exact k.elim
theorem R7{p:ai}(hg:Gl X "range")(hm:X.mg "range"=none)(ha:eR K cl E X [a,b] ms)(hs:autoParam (starEach [a,b] X.env=[(false,eval a X.env),(false,eval b X.env)]) Zqq)(hs2:autoParam (starEach [b] X.env=[(false,eval b X.env)]) Zqq):PIp K cl E X tg (.Call (.Name "range" p) [a,b] [] pos) (sK ms):=by
 intro hK;subst hK;refine PI.imp (Z9 hg hm (ha rfl) hs hs2) ?_
 rintro σ H R ⟨p,S,ρ,s,ev,h⟩
 refine bZ s ev h λq H' vs xs S' dD sm ev r k=>?_;unfold Gb at k;split at k
 .rename_i i j
  cases r with
  |cons r1 r2=>
   cases r2 with
   |cons r2 r3=>
    cases r3;rename_i x y;have e:=by
     have r1:=r1;exact r1
    have e2:=by
     have r1:=r2;exact r1
    subst e e2;split at k
    .have hz:=jI
     exact⟨i,j,rfl,by omega,bY.ret k sm (Iz 1#a)⟩
    .exact k.elim
 .exact k.elim
theorem acO (hp:qe 1#g X.A X.env X.xe)(hc:X.calm=true)(hi:PIp K cl E X tg e mi)(hg:nC K X tg g)(hb:fO K cl E X sts b1)
  (hs:autoParam (∀x,foldedSetIterable e X.env x=pure x) Zqz):eZ K cl E X (.For tg e sts [] pos) (cB mi g b1):=by
 intro hK;subst hK;refine PS.imp (Qy hp hc (hi rfl) (hg rfl) (hb rfl) hs) ?_
 rintro D σ H ⟨p,S,ρ,s,ev,h⟩
 refine jM s ev h λq H' xg J S' dD sm ev it k=>?_;obtain⟨xs,G⟩:=xg;refine⟨λi n σ H=>n=xs.length-i/\i<=xs.length/\∃p S ρ,aQ _ p S H/\dL _ p H ρ σ/\iP _ p H _ J/\eT _ _ p H (dH G g _ (xs.drop i) ρ S) D E,⟨xs.length,rfl,dq _,q,S',ρ,sm,ev,it,by simpa using k⟩,?_⟩
 rintro i n σ1 H1 ⟨rfl,hi,p1,S1,ρ1,sm1,ev1,it1,k1⟩
 by_cases hlt:i<xs.length
 .have hx:=ay hlt
  rw[qs hlt]at k1;unfold dH at k1;split at k1
  .rename_i gk
   obtain⟨g1,y1⟩:=(it1.2 _ _ _ sm1.step sm1 gk).1 i _ hx;cases z:g xs[i] ρ1 with
   |none=>simp only[z]at k1;exact k1.elim
   |some ρ2=>
    simp only[z]at k1;refine .inr ⟨g1,λσ' H'=>i+1<=xs.length/\∃p S ρ,aQ _ p S _/\dL _ p _ _ _/\iP _ p _ _ J/\eT _ _ p _ _ D E,λσ' H' hN=>⟨xs.length-(i+1),by omega,rfl,hN⟩,λx H2 hy=>?_⟩;obtain⟨same,rx⟩:=y1 x _ hy;have st2:=sm1.same same;have sm2:=sm1.ofSame same;refine⟨p1,S1,ρ1,xs[i],ρ2,sm2,st2.repE ev1,rx,z,λσ3 ev3=>⟨p1,S1,ρ2,sm2,ev3,?_⟩⟩;have it2:=it1.step st2;cases y:b1 _ _ with
    |nx ρ4 S4=>
     rw[y]at k1;exact λq5 H5 σ5 st5 sm5 ev5=>⟨hlt,q5,S4,ρ4,sm5,ev5,it2.step st5,eT.mono k1 (st2.trans st5)⟩
    |ct ρ4 S4=>
     rw[y]at k1;exact λq5 H5 σ5 st5 sm5 ev5=>⟨hlt,q5,S4,ρ4,sm5,ev5,it2.step st5,eT.mono k1 (st2.trans st5)⟩
    |bk ρ4 S4=>rw[y]at k1;exact eT.mono k1 st2
    |rt v S4=>rw[y]at k1;exact eT.mono k1 st2
    |exc v S4=>rw[y]at k1;exact eT.mono k1 st2
    |fail=>rw[y]at k1;exact k1.elim
  .exact k1.elim
 .have e:i=xs.length:=by omega
  subst e;rw[uf]at k1;unfold dH at k1;split at k1
  .rename_i gk
   exact .inl ⟨(it1.2 _ _ _ sm1.step sm1 gk).2,eT.nxD k1 sm1 ev1⟩
  .exact k1.elim
theorem Y5(hp:qe 1#g X.A X.env X.xe)(hc:fH K cl E X c mt)(hb:fO K cl E X sts b1):eZ K cl E X (.While c sts [] pos) (nP mt b1):=by
 intro hK;subst hK;refine PS.imp (abx hp (hc rfl) (hb rfl)) ?_
 rintro D σ H ⟨p,S,ρ,s,ev,h⟩
 unfold nP at h;split at h
 .refine⟨λn σ H=>∃p S ρ,aQ X.K p S H/\dL X.K p H ρ σ/\eT X.K cl p H (eX mt b1 n ρ S) D E,⟨_,p,S,ρ,s,ev,h⟩,?_⟩
  rintro n σ1 H1 ⟨p1,S1,ρ1,sm1,ev1,k1⟩
  cases n with
  |zero=>exact k1.elim
  |succ n=>
   refine jM sm1 ev1 k1 λq H2 t t' S2 dD sm2 ev2 r k2=>?_;cases r;cases t with
   |true=>
    refine⟨λσ' H'=>∃p S ρ,aQ X.K p S H'/\dL X.K p H' ρ σ'/\eT X.K cl p H' _ D E,λσ' H' hN=>⟨n,m9 n,hN⟩,q,S2,ρ1,sm2,ev2,?_⟩;cases y:b1 ρ1 S2 with
    |nx ρ4 S4=>
     rw[y]at k2;exact λq5 H5 σ5 st5 sm5 ev5=>⟨q5,S4,ρ4,sm5,ev5,eT.mono k2 st5⟩
    |ct ρ4 S4=>
     rw[y]at k2;exact λq5 H5 σ5 st5 sm5 ev5=>⟨q5,S4,ρ4,sm5,ev5,eT.mono k2 st5⟩
    |bk ρ4 S4=>rw[y]at k2;exact k2
    |rt v S4=>rw[y]at k2;exact k2
    |exc v S4=>rw[y]at k2;exact k2
    |fail=>rw[y]at k2;exact k2.elim
   |false=>
    exact eT.nxD k2 sm2 ev2
 .exact h.elim
end
end
def gW(n:Nat)(xs:BO):cR:=xs.map some++rm (n-xs.length) none
def jB(n:Nat):AV->aF->bQ AV
 |.pv v,S=>.ok (.pv v) (S.take n)
 |.ref k,S=>if k<n then .ok (.ref k) (S.take n)else match S[k]? with
  |some (.lst xs)=>.ok (.ref n) (S.take n++[.lst xs])
  |some (.dic b kvs)=>.ok (.ref n) (S.take n++[.dic b kvs])
  |_=>.fail
def frz(n:Nat):bQ AV->bQ AV
 |.ok (.ref k) S=>if k<n then .ok (.ref k) S else match S[k]? with
  |some (.lst xs)=>.ok (.pv (.lst xs)) (S.take n)
  |_=>.fail
 |r=>r
def nR(n:Nat):cO->bQ AV
 |.rt v S=>jB n v S
 |.nx _ S=>.ok (.pv .non) (S.take n)
 |.exc e S=>.exc e (S.take n)
 |_=>.fail
def aI(np n:Nat)(b:MS)(xs:BO)(S:aF):bQ AV:=if xs.length=np then nR S.length (b (gW n xs) S)else .fail
def jO:bQ α->bQ α
 |.ok a S=>.ok a S
 |_=>.fail
abbrev FM:=BO->aF->bQ AV
def jQ(f:FM)(ds:BK)(ms:MA):ME:=λρ S=>(ms ρ S).bind λxs S1=>frz S1.length (f (xs++ds.map .pv) S1)
def aJ(f:FM)(ds:BK)(ms:MA):ME:=λρ S=>(ms ρ S).bind λxs S1=>frz S1.length (jO (f (xs++ds.map .pv) S1))
def qN(f:FM)(ds:BK)(ms:MA):ME:=λρ S=>(ms ρ S).bind λxs S1=>jO (f (xs++ds.map .pv) S1)
def lV(K:ae)(cl:Str->Addr)(f:FM):Sp:=λvs H Q E=>∃p S xs,aQ K p S H/\iI K p H xs vs/\bY K cl (cS K) p H (f xs S) Q E
def kN(K:ae)(cl:Str->Addr)(f:FM):Sp:=λvs H Q _=>lV K cl f vs H Q E0
section
variable{K:ae}{cl:Str->Addr}{p q:Ph}{H H':Hp}{S S':aF}
theorem Mn (h:∀a,c a->c' a){a:Addr}{vs:List V}(l:lD K c' H a vs):lD K c H a vs:=by
 rcases l with⟨l,n⟩|l |l
 .exact .inl ⟨l,λz=>n (h a z)⟩
 .exact .inr (.inl l)
 .exact .inr (.inr l)
theorem oH (h:∀a,c a->c' a){ps:BK}{vs:List V}(r:aR K c' H ps vs):aR K c H ps vs:=aR.mono (λ_ _ t=>t) (λ_ _ l=>Mn h l) _ _ r
theorem Sn (h:∀a,c a->c' a){v:PV}{x:V}(r:bD K c' H v x):bD K c H v x:=bD.mono (λ_ _ t=>t) (λ_ _ l=>Mn h l) v x r
theorem R5{f g:List Addr}(h:f <+:g):g.take f.length=f:=by
 obtain⟨t,e⟩:=h;rw[<-e,List.take_left]
theorem nodup_idx{α:Type}:∀{l:List α}{i j:Nat}{a:α},l.Nodup->l[i]?=some a->l[j]?=some a->i=j
 |[],i,j,a,_,e,_=>by simp at e
 |b::l,0,0,a,_,_,_=>rfl
 |b::l,0,j+1,a,n,e,f=>by
  simp at e f;subst e;exact absurd (dh f) (jc.mp n).1
 |b::l,i+1,0,a,n,e,f=>by
  simp at e f;subst f;exact absurd (dh e) (jc.mp n).1
 |b::l,i+1,j+1,a,n,e,f=>congrArg (·+1) (nodup_idx (l:=l) (a:=a) (jc.mp n).2 (by simpa using e) (by simpa using f))
theorem aQ.cutX(D:Addr->Prop)(s:aQ K p S H)(st:bP p H q H')(s':aQ K q S' H')(hD:∀b,D b->H b=none)(hq:(∀b,D b->b∈q.f)\/∀k o,S'[k]?=some o->k<S.length->∃xs,o=.lst xs):
  let r:Ph:=⟨p.f,λb=>q.w b/\¬D b,λb=>q.c b/\¬D b⟩
  bP p H r H'/\aQ K r (S'.take S.length) H':=by
 intro r;have nD:∀a,p.c a->¬D a:=λa c d=>by
  obtain⟨o,ho,_⟩:=s.mu a c;rw[hD a d]at ho;cases ho
 have le:S.length<=S'.length:=by
  have:=st.pre.length_le;rw[<-s.len,<-s'.len];exact this
 refine⟨⟨s.wc,s.mu,jl,λa h=>⟨st.mw a h,nD a (s.wc a h)⟩,λa h=>⟨st.mono a h,nD a h⟩,λ_ h g=>absurd h g,λa h=>st.nw a h.1,λa h=>st.nc a h.1,st.keep⟩,s.nd,by rw[s.len,ku];omega,λa h=>⟨st.mw a (s.sub a h),nD a (s.wc a (s.sub a h))⟩,λa h=>⟨s'.wc a h.1,h.2⟩,λa h=>s'.mu a h.1,λk a o e1 e2=>?_⟩;have hk:k<S.length:=by
  have:=(cf.mp e1).1;rw[<-s.len];exact this
 have e2':=by
  rw[ug,if_pos hk]at e2;exact e2
 have z:=s'.obj k a o (st.at_ e1) e2';have aK:∀xs vs,aR K q.c H' xs vs->aR K r.c H' xs vs:=λxs vs=>oH (λb h=>h.1);have sub:∀b,b∉q.f->b∉p.f:=λb n h=>n (st.pre.subset h);rcases hq with hq |hq
 .exact z.mono (λ_ e=>e) (λb w f=>⟨⟨⟨w,λd=>f (hq b d)⟩,sub b f⟩,λ_ e=>e⟩) aK
 .obtain⟨xs,rfl⟩:=hq k o e2' hk
  obtain⟨vs,e,l,g⟩:=z;exact⟨vs,e,l,aK xs vs g⟩
theorem aQ.cut(s:aQ K p S H)(st:bP p H q H')(s':aQ K q S' H'):bP p H ⟨p.f,λb=>q.w b/\¬False,λb=>q.c b/\¬False⟩ H'/\aQ K ⟨p.f,λb=>q.w b/\¬False,λb=>q.c b/\¬False⟩ (S'.take S.length) H':=
 s.cutX _ st s' (λ_ h=>h.elim) (.inl λ_ h=>h.elim)
theorem Re(s:aQ K p S H)(st:bP p H q H')(sm:aQ K q S' H'){k:Nat}{a:Addr}(e:q.f[k]?=some a)(hk:¬k<S.length):a∉p.f/\H a=none/\¬p.c a:=by
 have na:a∉p.f:=λhm=>by
  obtain⟨j,hj,ej⟩:=oh hm;have e2:=st.at_ (by rw[ay hj,ej]);have hjk:=nodup_idx sm.nd e2 e;rw[s.len]at hj<;>grind
 have hn:=st.nf a (dh e) na;refine⟨na,hn,λc=>?_⟩;obtain⟨o,ho,_⟩:=s.mu a c;grind
theorem Tt {Q:VK}{E:XK}(s:aQ K p S H)(h:bY K cl (cS K) p H (frz S.length r) Q E):bY K cl (cS K) p H r Q E:=by
 cases r with
 |exc n S1=>exact h
 |fail=>exact h
 |ok v S1=>
  cases v with
  |pv v=>exact h
  |ref k=>
   have h:bY K _ _ p H (if k<S.length then .ok _ _ else match S1[k]? with
    |some (.lst _)=>.ok _ _
    |_=>.fail) Q E:=h
   split at h
   .exact h
   .rename_i hk
    cases z:S1[k]? with
    |none=>rw[z]at h;exact h.elim
    |some o=>
     cases o with
     |lol _=>rw[z]at h;exact h.elim
     |dic _ _=>rw[z]at h;exact h.elim
     |dol _ _=>rw[z]at h;exact h.elim
     |lst xs=>
      rw[z]at h;intro q H' x st sm r;obtain⟨a,e,rfl⟩:=r;obtain⟨na,hn,nc⟩:=Re s st sm e hk;obtain⟨st1,sm1⟩:=s.cutX (λb=>b=a) st sm (λb d=>d▸hn) (.inl λb d=>d▸dh e);obtain⟨vs,h1,l,r⟩:=sm.obj k a _ e z;refine h _ _ _ st1 sm1 ?_;exact⟨a,vs,rfl,.inl ⟨h1,λd=>d.2 rfl⟩,l,oH (λb h=>h.1) r⟩
theorem Od {Q:VK}{E:XK}(s:aQ K p S H)(h:bY K cl (cS K) p H (nR S.length r) Q E):eT K cl p H r {nx:=λ_ H'=>Q .non H',rt:=Q} E:=by
 cases r with
 |nx ρ S1=>
  intro q H' σ st sm ev;obtain⟨st1,sm1⟩:=s.cut st sm;exact h _ H' .non st1 sm1 (by rfl)
 |exc n S1=>
  intro q H' st sm;obtain⟨st1,sm1⟩:=s.cut st sm;exact h _ H' st1 sm1
 |rt v S1=>
  intro q H' x st sm r;obtain⟨st1,sm1⟩:=s.cut st sm;cases v with
  |pv v=>exact h _ H' x st1 sm1 (show bD K _ H' v x from Sn (λb h=>h.1) r)
  |ref k=>
   obtain⟨a,e,rfl⟩:=r;have h:bY K cl (cS K) p H (if k<S.length then .ok (.ref k) _ else match S1[k]? with
    |some (.lst xs)=>.ok _ _
    |some (.dic b kvs)=>.ok _ _
    |_=>.fail) Q E:=h
   split at h
   .rename_i hk
    refine h _ H' _ st1 sm1 ⟨a,?_,rfl⟩;have hf:=R5 st.pre;rw[<-hf,ug,if_pos (by rw[s.len];exact hk)];exact e
   .rename_i hk
    have fin:∀o,S1[k]?=some o->bY K cl (cS K) p H (.ok (.ref S.length) (S1.take _++[o])) Q E->Q _ H':=λo z h=>by
     obtain⟨na,hn,nc⟩:=Re s st sm e hk;have l1:(S1.take S.length).length=S.length:=by rw[<-sm1.len,<-s.len]
     have ma:=dh e;refine h ⟨p.f++[a],q.w,q.c⟩ H' (.ref a) ⟨s.wc,s.mu,⟨[a],rfl⟩,st.mw,st.mono,λb hb n=>?_,st.nw,st.nc,st.keep⟩ ⟨?_,?_,λb hb=>?_,sm.wc,sm.mu,λj b o e1 e2=>?_⟩ ⟨a,?_,rfl⟩
     .simp_all
     .rw[ng]
      refine⟨s.nd,by simp,λb hb c hc z=>?_⟩;have:=by simpa using hc
      exact na (this▸z▸hb)
     .rw[ax,ax,l1,s.len]
      rfl
     .rcases ce.mp hb with z |z
      .exact st.mw b (s.sub b z)
      .have:=by simpa using z
       rw[this];exact sm.sub a ma
     .by_cases hj:j<S.length
      .have e1':p.f[j]?=some b:=by
        rwa[fw (by rw[s.len];exact hj)]at e1
       rw[fw (by rw[l1];exact hj),ug,if_pos hj]at e2;refine(sm.obj j b o (st.at_ e1') e2).mono (λ_ e=>e) (λc w f=>⟨⟨w,λm=>?_⟩,λ_ e=>e⟩) λ_ _ r=>r;rcases ce.mp m with z |z
       .exact f (st.pre.subset z)
       .have:=by simpa using z
        exact f (this▸ma)
      .have hj':j=S.length:=by
        have:=(cf.mp e2).1;rw[ax,l1]at this;simp at this;omega
       subst hj';rw[ee (by rw[l1];exact aj _),l1,ie]at e2;rw[<-s.len,ee (aj _),ie]at e1;cases e1;cases e2;refine(sm.obj k a _ e z).mono (λ_ e=>e) (λc w f=>⟨⟨w,λm=>?_⟩,λ_ e=>e⟩) λ_ _ r=>r;rcases ce.mp m with z |z
       .exact f (st.pre.subset z)
       .have:=by simpa using z
        exact f (this▸ma)
     .rw[<-s.len,ee (aj _),ie]
      rfl
    split at h
    .simp_all
    .rename_i z
     exact fin _ z h
    .exact h.elim
 |bk ρ S1=>exact h.elim
 |ct ρ S1=>exact h.elim
 |fail=>exact h.elim
theorem xZ {xs:BO}{vs:List V}(r:iI K p H xs vs):dL K p H (gW N.length xs) (L2.start N vs):=by
 have go:∀{xs:BO}{vs:List V},iI K p H xs vs->xs.length=vs.length:=λ{xs vs} r=>by
  induction r with
  |nil=>rfl
  |cons _ _ ih=>rw[cu,cu,ih]
 have get:∀{xs:BO}{vs:List V},iI K p H xs vs->∀(i:Nat)(v:AV),xs[i]?=some v->∃x,vs[i]?=some x/\cS K p H v x:=λ{xs vs} r=>by
  induction r with
  |nil=>intro i v e;simp at e
  |cons h _ ih=>
   intro i v e;cases i<;>simp_all
 have hl:=go r;refine⟨by unfold gW L2.start;simp[hl],λi v e=>?_⟩;unfold gW at e;unfold L2.start
 by_cases hi:i<xs.length
 .rw[fw (by simpa using hi),aw]at e
  cases z:xs[i]? with
  |none=>rw[z]at e;cases e
  |some u=>
   rw[z]at e;cases e;obtain⟨x,e1,e2⟩:=get r i v z;refine⟨x,?_,e2⟩;rw[fw (by rw[ak,<-hl];exact hi),aw,e1];rfl
 .rw[ee (by rw[ak];omega),a9]at e
  split at e
  .cases e
  .cases e
end
section
variable{P:Program}{w:am}{K:ae}{mg:Str->BG}{base:Heap}{cl:Str->Addr}
theorem Np (h:iI K p H xs vs):xs.length=vs.length:=by
 induction h<;>simp_all
theorem Rh (h:lV K cl (aI np n b) vs H Q E):vs.length=np:=by
 obtain⟨p,S,xs,sm,ra,h⟩:=h;unfold aI at h;split at h
 .rename_i e
  rw[<-Np ra,e]
 .exact h.elim
theorem J5 {st:Stmt}{f:Addr}{fd:cg}{N ps:List Str}{k np n:Nat}{b:MS}(F:jG K x qual st f fd)(S:iZ N ps (cL st))(hnp:ps.length=np)(hn:N.length=n)
  (hb:∀(cdv:Value)(A:aq)(outer:List bn)(s:aa)(H:Hp)(E:XK),dP k (A.deeper (envOfC qual (cL st) s.heap.objs.size f cdv))->fO K cl E0 (fF fR P w K mg base N qual (cL st) f cdv A outer s H E).nox (eN st) b):
  eO P w K mg base fR (k+1) f fd ps (kN K cl (aI np n b)):=by
 subst hnp hn;refine F.ok S (λvs H Q E h=>Rh h) λcdv A outer s H vs Q E hr h=>⟨_,hb _ A _ s H E hr rfl,?_⟩;obtain⟨p,S,xs,sm,ra,h⟩:=h;unfold aI at h;split at h
 .exact⟨p,S,_,sm,xZ ra,Od sm h⟩
 .exact h.elim
theorem okX {st:Stmt}{f:Addr}{fd:cg}{N ps:List Str}{k np n:Nat}{b:MS}(F:jG K x qual st f fd)(S:iZ N ps (cL st))(hnp:ps.length=np)(hn:N.length=n)
  (hb:∀(cdv:Value)(A:aq)(outer:List bn)(s:aa)(H:Hp)(E:XK),dP k (A.deeper (envOfC qual (cL st) s.heap.objs.size f cdv))->fO K cl E (fF (iR P w) P w K mg base N qual (cL st) f cdv A outer s H E) (eN st) b):
  eO P w K mg base (iR P w) (k+1) f fd ps (lV K cl (aI np n b)):=by
 subst hnp hn;refine F.okX S (λvs H Q E h=>Rh h) λcdv A outer s H vs Q E hr h=>⟨_,hb _ A _ s H E hr rfl,?_⟩;obtain⟨p,S,xs,sm,ra,h⟩:=h;unfold aI at h;split at h
 .exact⟨p,S,_,sm,xZ ra,Od sm h⟩
 .exact h.elim
theorem ahK {st:Stmt}{f:Addr}{fd:cg}{ds:Array Value}{N ps:List Str}{k np n:Nat}{b:MS}(F:nX K x qual st f fd ds)(S:iZ N ps (cL st))(hnp:ps.length=np)(hn:N.length=n)
  (hb:∀(cdv:Value)(A:aq)(outer:List bn)(s:aa)(H:Hp)(E:XK),dP k (A.deeper (envOfC qual (cL st) s.heap.objs.size f cdv))->fO K cl E (fF (iR P w) P w K mg base N qual (cL st) f cdv A outer s H E) (eN st) b):
  eO P w K mg base (iR P w) (k+1) f fd ps (lV K cl (aI np n b)):=by
 subst hnp hn;refine F.okX S (λvs H Q E h=>Rh h) λcdv A outer s H vs Q E hr h=>⟨_,hb _ A _ s H E hr rfl,?_⟩;obtain⟨p,S,xs,sm,ra,h⟩:=h;unfold aI at h;split at h
 .exact⟨p,S,_,sm,xZ ra,Od sm h⟩
 .exact h.elim
theorem x0 {k:Nat}{g:FM}(F:eO P w K mg base (iR P w) k f fd ps (lV K cl g)):eO P w K mg base fR k f fd ps (kN K cl g):=
 ⟨λvs H Q E h=>F.len _ H Q _ h,λA outer s H args us vs Q E hr e0 hb hv h=>qj (F.run A _ s H _ _ _ Q _ hr e0 hb hv h) λr s' hq=>by
  cases r with
  |error e=>
   obtain⟨_,_,_,_,_,_,_,_,_,_,_,_,z⟩:=hq;exact z
  |ok fl=>
   cases fl with
   |ret u=>exact hq
   |next=>exact hq
   |brk=>exact hq
   |cont=>exact hq⟩
end
section
variable{K:ae}{cl:Str->Addr}{E:XK}{X:Cx}{e:ah}{es:List ah}{ms:MA}{pos p:ai}{k n:Nat}{f:Addr}{fd:cg}{ps:List Str}{g:FM}{x:Str}{dvs:List V}{ds:BF}{dv:BK}
theorem Qc{p:Ph}{H:Hp}{xs ys:BO}{vs ws:List V}(h:iI K p H xs vs)(g:iI K p H ys ws):iI K p H (xs++ys) (vs++ws):=by
 induction h with
 |nil=>exact g
 |cons h _ ih=>exact .cons h ih
def Dv(dv:BK)(dvs:List V):Prop:=∀K p H,iI K p H (dv.map .pv) dvs
theorem Dv.nil:Dv [] []:=λ_ _ _=>.nil
theorem adX(F:eO X.prog X.w X.K X.mg X.base fR k f fd ps (kN K cl g))(hr:dP k X.A)(hg:Gl X x)(hm:X.mg x=some (.ref f))(hk:gw X.K (.ref f)=true)(hb:kJ X.K fd ps ds)(hd:aV dvs ds)(hv:Dv dv dvs)
  (ha:eR K cl E0 X (e::es) ms)(hdb:autoParam ((x==("__debug__":Str))=false) Zqw)(he:autoParam (starEach (e::es) X.env=(false,eval e X.env)::starEach es X.env) Zqq)(hpl:autoParam ((backTo pos (starEach es X.env)).any (·.1)=false) Zqq):
  aL K cl E0 X (.Call (.Name x p) (e::es) [] pos) (jQ g dv ms):=by
 intro hK;refine PE.imp (uX F hr hg hm hk hb hd wA (ha hK) hdb he hpl) ?_
 rintro σ H Q ⟨p,S,ρ,s,ev,h⟩
 exact bZ s ev h λq H' as xs S' dD sm ev r k=>⟨q,S',_,sm,Qc r (hv K q _),Tt sm k⟩
theorem Yn {p:Ph}{H:Hp}{r:bQ α}{Q:β->Hp->Prop}(h:bY K cl R p H (jO r) Q E):bY K cl R p H r Q E0:=by
 cases r with
 |ok a S=>exact h
 |exc n S=>exact h.elim
 |fail=>exact h.elim
theorem aaO(F:eO X.prog X.w X.K X.mg X.base fR k f fd ps (kN K cl g))(hr:dP k X.A)(hg:Gl X x)(hm:X.mg x=some (.ref f))(hk:gw X.K (.ref f)=true)(hb:kJ X.K fd ps ds)(hd:aV dvs ds)(hv:Dv dv dvs)
  (ha:eR K cl E X (e::es) ms)(hdb:autoParam ((x==("__debug__":Str))=false) Zqw)(he:autoParam (starEach (e::es) X.env=(false,eval e X.env)::starEach es X.env) Zqq)(hpl:autoParam ((backTo pos (starEach es X.env)).any (·.1)=false) Zqq):
  aL K cl E X (.Call (.Name x p) (e::es) [] pos) (aJ g dv ms):=by
 intro hK;refine PE.imp (uX F hr hg hm hk hb hd wA (ha hK) hdb he hpl) ?_
 rintro σ H Q ⟨p,S,ρ,s,ev,h⟩
 exact bZ s ev h λq H' as xs S' dD sm ev r k=>⟨q,S',_,sm,Qc r (hv K q _),Yn (Tt sm k)⟩
theorem acb(F:eO X.prog X.w X.K X.mg X.base fR k f fd ps (kN K cl g))(hr:dP k X.A)(hg:Gl X x)(hm:X.mg x=some (.ref f))(hk:gw X.K (.ref f)=true)(hb:kJ X.K fd ps ds)(hd:aV dvs ds)(hv:Dv dv dvs)
  (ha:eR K cl E X (e::es) ms)(hdb:autoParam ((x==("__debug__":Str))=false) Zqw)(he:autoParam (starEach (e::es) X.env=(false,eval e X.env)::starEach es X.env) Zqq)(hpl:autoParam ((backTo pos (starEach es X.env)).any (·.1)=false) Zqq):
  aL K cl E X (.Call (.Name x p) (e::es) [] pos) (qN g dv ms):=by
 intro hK;refine PE.imp (uX F hr hg hm hk hb hd wA (ha hK) hdb he hpl) ?_
 rintro σ H Q ⟨p,S,ρ,s,ev,h⟩
 exact bZ s ev h λq H' as xs S' dD sm ev r k=>⟨q,S',_,sm,Qc r (hv K q _),Yn k⟩
def sX(n:Str):MS:=λ_ S=>.exc n S
theorem aaj {base:Heap}{N:List Str}{qual:Str}{scope:Scope}{f:Addr}{cd:Value}{A:aq}{outer:List bn}{BQ:aa}{BR:Hp}
  {txt:Str}{j:Nat}{np p1 cpos:ai}(hg:Gl (fF (iR P w) P w K mg base N qual scope f cd A outer BQ BR E) x)(hm:mg x=some (.ref (cl x)))(hx:io K (cl x) jN "ValueError.__new__"=true)
  (hd:autoParam ((x==("__debug__":Str))=false) Zqw):
  eZ K cl E (fF (iR P w) P w K mg base N qual scope f cd A outer BQ BR E) (.Raise (some (.Call (.Name x np) [.Constant (.str txt) j p1] [] cpos)) none pos) (sX x):=
 λ_=>PS.imp (abT hg hm hx hd) λD σ H ⟨p,S,ρ,s,ev,h⟩=>h p H s.step s
end
def cC(own:List Str)(cap:List (Nat×Str))(ρ:cR):cR:=own.map (λ_=>none)++cap.map λp=>(ρ[p.1]?).join
open Classical in
def cH(G:Gd)(g:GM)(me:ME):BK->cR->aF->bQ BK
 |[],_,S=>if iQ G S then .ok [] S else .fail
 |x::r,ρ,S=>if iQ G S then(match g x ρ with
  |none=>.fail
  |some ρ1=>match me ρ1 S with
   |.ok (.pv y) S1=>match cH G g me r ρ1 S1 with
    |.ok ys S2=>.ok (y::ys) S2
    |_=>.fail
   |_=>.fail)else .fail
theorem eG :cH [] g me [] ρ S=.ok [] S:=by
 unfold cH;rw[if_pos (kB S)]
theorem eM :cH [] g me (x::r) ρ S=(match g x ρ with
  |none=>.fail
  |some ρ1=>match me ρ1 S with
   |.ok (.pv y) S1=>match cH [] g me r ρ1 S1 with
    |.ok ys S2=>.ok (y::ys) S2
    |_=>.fail
   |_=>.fail):=by
 rw[cH,if_pos (kB S)]
def bA(own:List Str)(cap:List (Nat×Str))(mi:MI)(g:GM)(me:ME):ME:=λρ S=>(mi ρ S).bind λxs S1=>(cH xs.2 g me xs.1 (cC own cap ρ) S1).bind λys S2=>.ok (.pv (.lst ys)) S2
theorem Q8 {me:ME}:∀(xs:BK)(ρ:cR)(S:aF)(n:Str)(S':aF),cH G g me xs ρ S≠.exc n S'
 |[],_,_,_,_,e=>by
  unfold cH at e;grind
 |x::r,ρ,S,n,S',e=>by
  unfold cH at e;split at e
  .split at e
   .cases e
   .split at e
    .split at e
     .cases e
     .cases e
    .cases e
  grind
theorem Kr {ρ:cR}{S S':aF}(e:cH G g me xs ρ S=.ok zs S'):iQ G S:=by
 cases xs with
 |nil=>
  unfold cH at e<;>grind
 |cons x r=>
  unfold cH at e;split at e
  .assumption
  grind
section
variable{K:ae}{cl:Str->Addr}{E:XK}{X:Cx}{p q:Ph}{H H':Hp}{S:aF}
theorem Qs {own:List Str}{cap:List (Nat×Str)}(h:dL K p H ρ σ):dL K p H (cC own cap ρ) (jC own cap σ):=by
 refine⟨by unfold cC jC;simp,λi v e=>?_⟩;unfold cC at e;unfold jC
 by_cases hi:i<own.length
 .rw[fw (by simpa using hi),aw,ay hi]at e
  cases e
 .rw[ee (by rw[ak];omega),aw,ak]at e⊢
  cases z:cap[i-own.length]? with
  |none=>rw[z]at e;cases e
  |some c=>
   rw[z]at e;have e:(ρ[c.1]?).join=some v:=cq e;have e':ρ[c.1]?=some (some v):=by
    cases y:ρ[c.1]? with
    |none=>rw[y]at e;cases e
    |some o=>rw[y]at e;exact congrArg some e
   obtain⟨x,e1,e2⟩:=h.at_ c.1 v e';refine⟨x,?_,e2⟩;show some ((σ[c.1]?).join)=some (some x);rw[e1];rfl
def Ph.res(p:Ph)(D:Addr):Ph:=⟨p.f,λa=>p.w a\/a=D,λa=>p.c a\/a=D⟩
def Ph.hold(p:Ph)(D:Addr):Ph:=⟨p.f,λa=>p.w a/\a≠D,p.c⟩
def Ph.less(p:Ph)(D:Addr):Ph:=⟨p.f,λa=>p.w a/\a≠D,λa=>p.c a/\a≠D⟩
theorem aQ.notin(s:aQ K p S H){D:Addr}(h:H D=none):¬p.c D:=λc=>by
 obtain⟨o,e,_⟩:=s.mu D c;grind
theorem aQ.res(s:aQ K p S H){D:Addr}{o:HO}(h:H D=none)(mo:Mb o):bP p H (p.res D) (aM H D o)/\aQ K (p.res D) S (aM H D o):=by
 have st:bP p H (p.res D) (aM H D o):=⟨s.wc,s.mu,jl,λa h=>.inl h,λa h=>.inl h,λa h g=>absurd h g,λa x n=>x.elim (λz=>absurd z n) λz=>by simp_all,λa x n=>x.elim (λz=>absurd z n) λz=>by simp_all,λa u e _=>by
  rw[bK (gJ e h)];exact e⟩
 refine⟨st,s.nd,s.len,λa h=>.inl (s.sub a h),λa x=>x.elim (λz=>.inl (s.wc a z)) .inr,λa x=>?_,λk a u e1 e2=>?_⟩
 .by_cases z:a=D
  .rw[z,eC]
   simp_all
  .rw[bK z]
   exact s.mu a (x.elim id λy=>absurd y z)
 .exact(s.obj k a u e1 e2).mono (λvs e=>by rw[bK (gJ e h)];exact e) (λb w f=>⟨⟨.inl w,f⟩,λvs e=>by rw[bK (gJ e h)];exact e⟩) λ_ _ r=>st.reps r
theorem aQ.resHold(s:aQ K p S H){D:Addr}{o:HO}(h:H D=none)(mo:Mb o):aQ K ((p.res D).hold D) S (aM H D o):=by
 obtain⟨st,sm⟩:=s.res h mo;have ne:∀a,p.w a->a≠D:=λa w z=>s.notin h (z▸s.wc a w);refine⟨sm.nd,sm.len,λa m=>⟨sm.sub a m,ne a (s.sub a m)⟩,λa x=>sm.wc a x.1,sm.mu,λk a u e1 e2=>?_⟩;exact(s.obj k a u e1 e2).mono (λvs e=>by rw[bK (gJ e h)];exact e) (λb w f=>⟨⟨⟨.inl w,ne b w⟩,f⟩,λvs e=>by rw[bK (gJ e h)];exact e⟩) λ_ _ r=>st.reps r
theorem bP.unhold (h:p.w D)(st:bP (p.hold D) H q H')(s:aQ K p S H):bP p H ⟨q.f,λa=>q.w a\/a=D,q.c⟩ H':=
 ⟨s.wc,s.mu,st.pre,λa x=>by
  by_cases z:a=D
  .exact .inr z
  .exact .inl (st.mw a ⟨x,z⟩),st.mono,st.nf,λa x n=>by
  rcases x with x |x
  .exact st.nw a x λz=>n z.1
  simp_all,st.nc,λa o e n=>st.keep a o e λz=>n z.1⟩
theorem aQ.grow {ys:List V}{o:HO}(s:aQ K p S H)(sh:aQ K (p.hold D) S H)(w:p.w D)(n:D∉p.f)(mo:Mb o):bP p H p (aM H D o)/\aQ K p S (aM H D o)/\aQ K (p.hold D) S (aM H D o):=by
 have st:bP p H p (aM H D o):=⟨s.wc,s.mu,jl,λ_ h=>h,λ_ h=>h,λ_ h g=>absurd h g,λ_ h g=>absurd h g,λ_ h g=>absurd h g,λa u e nw=>by
  rw[bK (λz=>nw (by rw[z];exact w))];exact e⟩
 have hm:∀a,p.c a->∃u,aM H D o a=some u/\Mb u:=λa x=>by
  by_cases z:a=D
  .rw[z,eC]
   exact⟨o,rfl,mo⟩
  .rw[bK z]
   exact s.mu a x
 refine⟨st,⟨s.nd,s.len,s.sub,s.wc,hm,λk a u e1 e2=>?_⟩,⟨sh.nd,sh.len,sh.sub,sh.wc,hm,λk a u e1 e2=>?_⟩⟩
 .have ne:a≠D:=λz=>n (z▸dh e1)
  exact(sh.obj k a u e1 e2).mono (λvs e=>by rw[bK ne];exact e) (λb w f=>⟨⟨w.1,f⟩,λvs e=>by rw[bK w.2];exact e⟩) λ_ _ r=>st.reps r
 .have ne:a≠D:=λz=>n (z▸dh e1)
  exact(sh.obj k a u e1 e2).mono (λvs e=>by rw[bK ne];exact e) (λb w f=>⟨⟨w,f⟩,λvs e=>by rw[bK w.2];exact e⟩) λ_ _ r=>st.reps r
theorem aQ.toLess (s:aQ K (p.hold D) S H):aQ K (p.less D) S H:=
 ⟨s.nd,s.len,s.sub,λa h=>⟨s.wc a h,h.2⟩,λa h=>s.mu a h.1,λk a o e1 e2=>
  (s.obj k a o e1 e2).mono (λ_ e=>e) (λb w f=>⟨⟨w,f⟩,λ_ e=>e⟩) λ_ _ r=>oH (λa h=>h.1) r⟩
theorem bP.toLess (st:bP p H q H')(h:H D=none):bP p H (q.less D) H':=by
 have nD:∀a,p.c a->a≠D:=λa c z=>by
  obtain⟨o,e,_⟩:=st.mu a c<;>grind
 exact⟨st.wc,st.mu,st.pre,λa x=>⟨st.mw a x,nD a (st.wc a x)⟩,λa x=>⟨st.mono a x,nD a x⟩,st.nf,λa x=>st.nw a x.1,λa x=>st.nc a x.1,st.keep⟩
variable{sc:Scope}{own:List Str}{cap:List (Nat×Str)}{elt target iter:ah}{pos:ai}{mi:MI}{g:GM}{me:ME}
theorem aaf{σ:St}{ρ:cR}{xs zs:BK}{G:Gd}{J:It}{Q:VK}{D:Addr}{S2:aF}(sm:aQ K p S H)(ev:dL K p H ρ σ)(it:iP K p H (xs,G) J)(z:cH G g me xs (cC own cap ρ) S=.ok zs S2)(hD:H D=none)
  (k:∀q H' vs,bP p H q H'->aQ K q S2 H'->aQ K (q.hold D) S2 H'->q.w D->D∉q.f->H' D=some (.lst vs)->vs.length<=sizeLine->aR K q.c H' zs vs->Q (.ref D) H'):
  Pb J (gP K g) (tP K cl E0 (cS K) me) (jC own cap σ) H D Q:=by
 obtain⟨st0,sm0⟩:=sm.res (D:=D) (o:=.lst []) hD trivial;have sh0:=sm.resHold (D:=D) (o:=.lst []) hD trivial;have nf0:D∉p.f:=λh=>sm.notin hD (sm.wc D (sm.sub D h));refine acl xs.length it.1 (λi σ1 H1 ys=>ys.length=i/\i<=xs.length/\H1 D=some (.lst ys)/\∃p1 S1 ρ1 us ws,(aQ K p1 S1 H1/\aQ K (p1.hold D) S1 H1)/\bP p H p1 H1/\p1.w D/\D∉p1.f/\dL K p1 H1 ρ1 σ1/\iP K p1 H1 (xs,G) J/\iQ G S1/\aR K p1.c H1 us ys/\zs=us++ws/\cH G g me (xs.drop i) ρ1 S1=.ok ws S2) ?_ ?_ ?_ ?_ ?_
 .refine⟨rfl,dq _,eC,p.res D,S,cC own cap ρ,[],zs,⟨sm0,sh0⟩,st0,.inr rfl,nf0,Qs (st0.repE ev),it.step st0,?_,.nil,rfl,by simpa using z⟩
  exact Kr z
 .rintro i σ1 H1 ys ⟨h1,_,h2,_⟩
  exact⟨h1,h2⟩
 .rintro i σ1 H1 ys hi ⟨_,_,_,p1,S1,ρ1,us,ws,⟨sm1,sh1⟩,st1,w1,f1,ev1,it1,g1,_⟩
  exact((it1.2 p1 H1 S1 sm1.step sm1 g1).1 i xs[i] (ay hi)).1
 .rintro i σ1 H1 ys x H2 hi ⟨hl,_,hH,p1,S1,ρ1,us,ws,⟨sm1,sh1⟩,st1,w1,f1,ev1,it1,g1,r1,e1,c1⟩ hy
  obtain⟨same,rx⟩:=((it1.2 p1 H1 S1 sm1.step sm1 g1).1 i xs[i] (ay hi)).2 x H2 hy;rw[qs hi]at c1;unfold cH at c1;rw[if_pos g1]at c1;split at c1
  .cases c1
  .rename_i ρ2 gz
   split at c1
   .rename_i y S3 mz
    split at c1
    .rename_i vs S4 cz
     cases c1;have st2:=sm1.same same;have sm2:=sm1.ofSame same;have smh:=sh1.ofSame same;refine⟨p1,S1,ρ1,xs[i],ρ2,sm2,st2.repE ev1,rx,gz,λσ3 ev3=>⟨p1.hold D,S1,ρ2,smh,⟨ev3.len,ev3.at_⟩,?_⟩⟩;rw[mz];intro q H4 y' st4 sm4 ry;have hD2:=same _ _ hH;have hD4:=st4.keep D _ hD2 λz=>z.2 rfl;have fq:D∉q.f:=λh=>by
      have:=st4.nf D h f1;rw[hD2]at this;cases this
     have stU:=bP.unhold w1 st4 sm2;have nq:¬q.w D:=λz=>by
      have:=st4.nw D z λy=>y.2 rfl;rw[hD2]at this;cases this
     have smU:aQ K ⟨q.f,λa=>q.w a\/a=D,q.c⟩ S3 H4:=⟨sm4.nd,sm4.len,λa h=>.inl (sm4.sub a h),λa h=>h.elim (sm4.wc a) λz=>z▸st4.mono D (sm2.wc D w1),sm4.mu,λk a o e1 e2=>
      (sm4.obj k a o e1 e2).mono (λ_ e=>e) (λb w f=>⟨⟨.inl w,f⟩,λ_ e=>e⟩) λ_ _ r=>r⟩
     have shU:aQ K (Ph.hold ⟨q.f,λa=>q.w a\/a=D,q.c⟩ D) S3 H4:=⟨sm4.nd,sm4.len,λa h=>⟨.inl (sm4.sub a h),λz=>nq (z▸sm4.sub a h)⟩,λa h=>smU.wc a h.1,sm4.mu,λk a o e1 e2=>
      (sm4.obj k a o e1 e2).mono (λ_ e=>e) (λb w f=>⟨⟨⟨.inl w,λz=>nq (z▸w)⟩,f⟩,λ_ e=>e⟩) λ_ _ r=>r⟩
     obtain⟨stG,smG,shG⟩:=smU.grow (ys:=ys) (D:=D) (o:=.lst (ys++[y'])) shU (.inr rfl) fq trivial;have stA:=st2.trans (stU.trans stG);refine agv hi hD4 ⟨by rw[ax,hl];rfl,hi,eC,_,S3,ρ2,us++[y],vs,⟨smG,shG⟩,st1.trans stA,.inr rfl,fq,stG.repE (stU.repE ev3),it1.step stA,Kr cz,?_,by rw[e1,jp];rfl,cz⟩;exact(stA.reps r1).append (.cons (stG.rep ry) .nil)
    .cases c1
   .cases c1
 .rintro σ1 H1 ys ⟨hl,_,hH,p1,S1,ρ1,us,ws,⟨sm1,sh1⟩,st1,w1,f1,ev1,it1,g1,r1,e1,c1⟩
  rw[uf]at c1;unfold cH at c1;rw[if_pos g1]at c1;cases c1;refine⟨(it1.2 p1 H1 _ sm1.step sm1 g1).2,?_⟩;rw[jb]at e1;subst e1;exact k p1 H1 ys st1 sm1 sh1 w1 f1 hH (by rw[hl];exact it.1) r1
theorem Pe {ρ:cR}{xs:BK×Gd}{J:It}{Q:VK}{D:Addr}(sm:aQ K p S H)(ev:dL K p H ρ σ)(it:iP K p H xs J)(k:bY K cl (cS K) p H ((cH xs.2 g me xs.1 (cC own cap ρ) S).bind λys S2=>.ok (.pv (.lst ys)) S2) Q E)(hD:H D=none):
  Pb J (gP K g) (tP K cl E0 (cS K) me) (jC own cap σ) H D Q:=by
 cases z:cH _ g _ _ _ S with
 |fail=>rw[z]at k;exact k.elim
 |exc n S'=>exact absurd z (Q8 _ _ _ _ _)
 |ok zs S2=>
  rw[z]at k;refine aaf sm ev it z hD λq H' vs st1 sm1 sh1 w1 f1 hH l1 r1=>?_;refine k _ _ _ (st1.toLess hD) sh1.toLess ?_;exact⟨D,vs,rfl,.inl ⟨hH,λz=>z.2 rfl⟩,l1,oH (λa h=>h.1) r1⟩
theorem adF(k:iH X sc own cap)(hi:PIp K cl E X target iter mi)(hc:X.calm=true)(hg:∀C BQ BR ex,nC K (eU X sc (cN own cap) C BQ BR ex) target g)(he:∀C BQ BR ex,aL K cl E0 (eU X sc (cN own cap) C BQ BR ex) elt me)
  (hs:autoParam (∀x,foldedSetIterable iter X.env x=pure x) Zqz):aL K cl E X (.ListComp elt [⟨target,iter,[],0⟩] sc pos) (bA own cap mi g me):=by
 intro hK;refine PE.imp (adS k (hi hK) hc (λC BQ BR ex=>hg C _ _ _ hK) (λC BQ BR ex=>he C _ _ _ hK) hs) ?_
 rintro σ H Q ⟨p,S,ρ,s,ev,h⟩
 exact bZ s ev h λq H' xs J S' dD sm ev it kk D hD=>Pe sm ev it kk hD
theorem abC {py spos:ai}(hN:X.N.Nodup)(hx:X.N[i]?=some x)(hl:lX X.env.scope x)(k:iH X sc own cap)(hi:PIp K cl E X target iter mi)(hc:X.calm=true)(hg:∀C BQ BR ex,nC K (eU X sc (cN own cap) C BQ BR ex) target g)(he:∀C BQ BR ex,aL K cl E0 (eU X sc (cN own cap) C BQ BR ex) elt me)
  (hs:autoParam (∀x,foldedSetIterable iter X.env x=pure x) Zqz)(hsw:autoParam (swapsWith (.ListComp elt [⟨target,iter,[],0⟩] sc pos) (some (.Name x py)) spos.line X.env=pure true) Zqq)
  (hf:autoParam (X.fn x=true\/X.env.scope.names.lookup x=some .local) Zwq):
  eZ K cl E X (.Assign [.Name x py] (.ListComp elt [⟨target,iter,[],0⟩] sc pos) spos) (aP i (bA own cap mi g me)):=by
 intro hK;refine PS.imp (adV hN hx hl k (hi hK) hc (λC BQ BR ex=>hg C BQ BR ex hK) (λC BQ BR ex=>he C BQ BR ex hK) hs hsw hf) ?_
 rintro D σ H ⟨p,S,ρ,s,ev,h⟩
 have h2:tP K cl E (cS K) (bA own cap mi g me) σ H λy H1=>D.nx (σ.set i (some y)) H1:=by
  refine⟨p,S,ρ,s,ev,?_⟩;unfold aP at h;cases z:bA own cap mi g me ρ S with
  |ok v S1=>
   rw[z]at h;exact λq H' y st sm r=>h q H' _ st sm ((st.repE ev).set r i)
  |exc n S1=>rw[z]at h;exact h
  |fail=>rw[z]at h;exact h
 obtain⟨p,S,ρ,s,ev,h⟩:=h2;exact bZ s ev h λq H' xs J S' dD sm ev it kk B hB=>Pe sm ev it kk hB
end
def iW:List (Option Bool)->Option (List Bool)
 |[]=>some []
 |some b::r=>match iW r with
  |some bs=>some (b::bs)
  |none=>none
 |none::_=>none
theorem Vo:∀{l:List (Option Bool)}{bs:List Bool},iW l=some bs->bs.length=l.length
 |[],_,e=>by cases e;rfl
 |some b::r,bs,e=>by
  unfold iW at e;split at e
  .rename_i cs h
   cases e;rw[cu,cu,Vo h]
  .cases e
 |none::r,_,e=>by cases e
theorem Nd:∀{l:List (Option Bool)}{bs:List Bool}{i:Nat}{o:Option Bool},iW l=some bs->l[i]?=some o->∃b,o=some b/\bs[i]?=some b
 |[],_,i,o,_,h=>by simp at h
 |some b::r,bs,i,o,e,h=>by
  unfold iW at e;split at e
  .rename_i cs h'
   cases e;cases i with
   |zero=>
    simp at h;exact⟨b,h.symm,rfl⟩
   |succ i=>simpa using Nd h' (by simp_all)
  .cases e
 |none::r,_,_,_,e,_=>by cases e
def bC:Nat->PV->PV->Option Bool
 |_,.non,.non=>some true
 |_,.bl a,.bl b=>some (a==b)
 |_,.int a,.int b=>some (a==b)
 |_,.str a,.str b=>some (a==b)
 |n+1,.tup xs,.tup ys=>match iW (cr (bC n) xs ys)with
  |some bs=>some (bs.all id&&xs.length==ys.length)
  |none=>none
 |n+1,.lst xs,.lst ys=>if xs.length=ys.length then(match iW (cr (bC n) xs ys)with
  |some bs=>some (bs.all id)
  |none=>none)else some false
 |_,_,_=>none
theorem yC(bs:List Bool):((ck bs.length).all λj=>bs.getD j true)=bs.all id:=by
 rw[xx,mq,mq];constructor
 .intro h b hb
  obtain⟨j,hj,e⟩:=oh hb;have:=h j (by simp_all);simpa[dj,hj,e]using this
 .intro h j hj
  have hj:=by simpa using hj
  have:=h _ (jf hj);simpa[dj,hj]using this
section
variable{X:Cx}{BP:List (Addr×Obj)}{σ:St}{H:Hp}{s:aa}{c:Addr->Prop}
theorem yR {xs ys:BK}{vs ws:List V}{its jts:BF}{bs:List Bool}{A:aq}
  (ih:∀(v w:PV)(x y:V)(u u':Value)(b:Bool),bD X.K c H v x->bD X.K c H w y->bS x u->bS y u'->bC n v w=some b->jn A s u u' b)
  (r1:aR X.K c H xs vs)(r2:aR X.K c H ys ws)(q1:aV vs its)(q2:aV ws jts)(e:iW (cr (bC n) xs ys)=some bs):
  ∀j(h1:j<its.toArray.size)(h2:j<jts.toArray.size),jn A s its.toArray[j] jts.toArray[j] (bs.getD j true):=λj h1 h2=>by
 have l1:=r1.length.trans q1.length;have l2:=r2.length.trans q2.length;have g1:j<xs.length:=by rw[l1];simpa using h1
 have g2:j<ys.length:=by rw[l2];simpa using h2
 obtain⟨x,ex,rx⟩:=r1.get (ay g1);obtain⟨y,ey,ry⟩:=r2.get (ay g2);obtain⟨u,eu,ru⟩:=q1.get ex;obtain⟨u',eu',ru'⟩:=q2.get ey;have hz:(cr (bC n) xs ys)[j]?=some (bC n xs[j] ys[j]):=by
  rw[n8,ay g1,ay g2]
 obtain⟨b,eb,eb'⟩:=Nd e hz;have e1:its.toArray[j]=u:=by
  rw[ay (by simpa using h1)]at eu;exact cq eu
 have e2:jts.toArray[j]=u':=by
  rw[ay (by simpa using h2)]at eu';exact cq eu'
 rw[e1,e2];have e3:bs.getD j true=b:=by simp[dj,eb']
 rw[e3];exact ih _ _ _ _ _ _ _ rx ry ru ru' eb
theorem uU (e:iW (cr (bC n) xs ys)=some bs):bs.length=min xs.length ys.length:=by
 rw[Vo e,la]
theorem Aq(n:Nat)(v w:PV)(x:V)(b:Bool)(nt:∀xs,v≠.tup xs)(nl:∀xs,v≠.lst xs)(h:bD X.K c H v x)(g:bD X.K c H w x)(e:bC n v w=some b):b=true:=by
 cases v with
 |tup xs=>exact absurd rfl (nt xs)
 |lst xs=>exact absurd rfl (nl xs)
 |non=>
  cases w<;>first |(unfold bC at e;simp at e;done) |skip
  unfold bC at e;cases e;rfl
 |bl i=>
  cases w<;>first |(unfold bC at e;simp at e;done) |skip
  subst h;injection g with g';subst g';unfold bC at e;cases e;exact beq_self_eq_true _
 |int i=>
  cases w<;>first |(unfold bC at e;simp at e;done) |skip
  subst h;injection g with g';subst g';unfold bC at e;cases e;exact beq_self_eq_true _
 |str i=>
  cases w<;>first |(unfold bC at e;simp at e;done) |skip
  subst h;injection g with g';subst g';unfold bC at e;cases e;exact beq_self_eq_true _
theorem Au(I:aG X BP σ H s):∀(n:Nat)(v w:PV)(x:V)(b:Bool),bD X.K c H v x->bD X.K c H w x->bC n v w=some b->b=true:=by
 intro n
 induction n with
 |zero=>
  intro v w x b h g e;cases v with
  |tup xs=>unfold bC at e;simp at e
  |lst xs=>unfold bC at e;simp at e
  |_=>exact Aq 0 _ w x b (by intro _ z;cases z) (by intro _ z;cases z) h g e
 |succ n ih=>
  have items:∀(xs ys:BK)(vs:List V)(bs:List Bool),aR X.K c H xs vs->aR X.K c H ys vs->iW (cr (bC n) xs ys)=some bs->bs.all id=true/\xs.length=ys.length:=λxs ys vs bs r1 r2 e=>by
   have ll:=r1.length.trans r2.length.symm;refine⟨?_,ll⟩;rw[mq];intro b hb;obtain⟨j,hj,ej⟩:=oh hb;have hj':=hj;rw[uU e]at hj';have g1:j<xs.length:=by omega
   have g2:j<ys.length:=by omega
   obtain⟨x,ex,rx⟩:=r1.get (ay g1);obtain⟨y,ey,ry⟩:=r2.get (ay g2);have:=ex.symm.trans ey;cases this;have hz:(cr (bC n) xs ys)[j]?=some (bC n xs[j] ys[j]):=by
    rw[n8,ay g1,ay g2]
   obtain⟨b',eb,eb'⟩:=Nd e hz;rw[ay hj,ej]at eb';cases eb';exact ih _ _ _ _ rx ry eb
  intro v w x b h g e;cases v with
  |tup xs=>
   cases w with
   |tup ys=>
    obtain⟨a,vs,rfl,t1,_,r1⟩:=h;obtain⟨a',ws,e1,t2,_,r2⟩:=g;cases e1;have:=I.tuple_inj t1 t2;subst this;unfold bC at e;split at e
    .rename_i bs hb
     obtain⟨z1,z2⟩:=items xs ys vs bs r1 r2 hb;grind
    .cases e
   |_=>unfold bC at e;simp at e
  |lst xs=>
   cases w with
   |lst ys=>
    obtain⟨a,vs,rfl,t1,_,r1⟩:=h;obtain⟨a',ws,e1,t2,_,r2⟩:=g;cases e1;have:=I.list_inj t1.sq t2.sq;subst this;unfold bC at e;rw[if_pos (r1.length.trans r2.length.symm)]at e;split at e
    .rename_i bs hb
     obtain⟨z1,z2⟩:=items xs ys vs bs r1 r2 hb;grind
    .cases e
   |_=>unfold bC at e;simp at e
  |_=>exact Aq (n+1) _ w x b (by intro _ z;cases z) (by intro _ z;cases z) h g e
theorem Ry(I:aG X BP σ H s):∀(n:Nat)(v w:PV)(x y:V)(u u':Value)(b:Bool)(A:aq),A.units+n<cLine->bD X.K c H v x->bD X.K c H w y->bS x u->bS y u'->bC n v w=some b->oi A s u u' b/\jn A s u u' b:=by
 have flat:∀(n:Nat)(v w:PV)(x y:V)(u u':Value)(b:Bool)(A:aq),(∀xs,v≠.tup xs)->(∀xs,v≠.lst xs)->bD X.K c H v x->bD X.K c H w y->bS x u->bS y u'->bC n v w=some b->oi A s u u' b/\jn A s u u' b:=by
  intro n v w x y u u' b A nt nl h g r r' e;cases v with
  |tup xs=>exact absurd rfl (nt xs)
  |lst xs=>exact absurd rfl (nl xs)
  |non=>
   cases w<;>first |(unfold bC at e;simp at e;done) |skip
   unfold bD at h g;subst h g;cases r;cases r';unfold bC at e;cases e;exact⟨n9,ud _⟩
  |bl i=>
   cases w<;>first |(unfold bC at e;simp at e;done) |skip
   unfold bD at h g;subst h g;cases r;cases r';unfold bC at e;cases e;exact⟨o0 _ _,SeqAt.EqAt.bool_bool _ _⟩
  |int i=>
   cases w<;>first |(unfold bC at e;simp at e;done) |skip
   unfold bD at h g;subst h g;obtain⟨t,rfl⟩:=r;obtain⟨t',rfl⟩:=r';unfold bC at e;cases e;exact⟨o3 _ _ _ _,wg _ _ _ _⟩
  |str i=>
   cases w<;>first |(unfold bC at e;simp at e;done) |skip
   unfold bD at h g;subst h g;obtain⟨t,rfl⟩:=r;obtain⟨t',rfl⟩:=r';unfold bC at e;cases e;exact⟨o4 _ _ _ _,SeqAt.EqAt.str_str _ _ _ _⟩
 have main:∀(n:Nat)(v w:PV)(x y:V)(u u':Value)(b:Bool)(A:aq),A.units+n<cLine->bD X.K c H v x->bD X.K c H w y->bS x u->bS y u'->bC n v w=some b->oi A s u u' b/\jn A s u u' b:=by
  intro n
  induction n with
  |zero=>
   intro v w x y u u' b A hu h g r r' e;cases v with
   |tup xs=>unfold bC at e;simp at e
   |lst xs=>unfold bC at e;simp at e
   |_=>exact flat 0 _ w x y u u' b A (by intro _ z;cases z) (by intro _ z;cases z) h g r r' e
  |succ n ih=>
   intro v w x y u u' b A hu h g r r' e;have hin:A.in1.units+n<cLine:=by show A.units+1+n<cLine;omega
   cases v with
   |tup xs=>
    cases w with
    |tup ys=>
     have hs:x=y->b=true:=λz=>Au I (n+1) _ _ x b h (z▸g) e;unfold bD at h g;obtain⟨a,vs,rfl,t1,_,r1⟩:=h;obtain⟨a',ws,rfl,t2,_,r2⟩:=g;cases r;cases r';obtain⟨its,q1,p1,_⟩:=I.tuple t1;obtain⟨jts,q2,p2,_⟩:=I.tuple t2;unfold bC at e;split at e
     .rename_i bs hb
      cases e;have z:=yc (A:=A) (s:=s) (e:=λj=>bs.getD j true) (show s.heap.IsTuple a its.toArray from p1) (show s.heap.IsTuple a' jts.toArray from p2) 1#a
       (yR (A:=A.in1) (λv w x y u u' b h1 h2 h3 h4 h5=>(ih v w x y u u' b A.in1 hin h1 h2 h3 h4 h5).2) r1 r2 q1 q2 hb)
      have l1:=r1.length.trans q1.length;have l2:=r2.length.trans q2.length;rw[bj,bj,<-l1,<-l2,<-uU hb,yC]at z;refine⟨z,?_⟩
      by_cases ha:a=a'
      .subst ha
       rw[hs rfl];exact ud _
      .exact yd ha z
     .cases e
    |_=>unfold bC at e;simp at e
   |lst xs=>
    cases w with
    |lst ys=>
     have hs:x=y->b=true:=λz=>Au I (n+1) _ _ x b h (z▸g) e;unfold bD at h g;obtain⟨a,vs,rfl,t1,_,r1⟩:=h;obtain⟨a',ws,rfl,t2,_,r2⟩:=g;cases r;cases r';obtain⟨its,q1,p1,_⟩:=I.list t1.sq;obtain⟨jts,q2,p2,_⟩:=I.list t2.sq;have l1:=r1.length.trans q1.length;have l2:=r2.length.trans q2.length;have fin:oi A s (.ref a) (.ref a') b->oi A s (.ref a) (.ref a') b/\jn A s (.ref a) (.ref a') b:=λz=>by
      refine⟨z,?_⟩
      by_cases ha:a=a'
      .subst ha
       rw[hs rfl];exact ud _
      .exact yd ha z
     unfold bC at e;split at e
     .rename_i hl
      split at e
      .rename_i bs hb
       cases e;have z:=o5 (A:=A) (s:=s) (e:=λj=>bs.getD j true) p1.isList p2.isList (by rw[bj,bj];omega) 1#a
        (yR (A:=A.in1) (λv w x y u u' b h1 h2 h3 h4 h5=>(ih v w x y u u' b A.in1 hin h1 h2 h3 h4 h5).2) r1 r2 q1 q2 hb)
       have hm:its.length=bs.length:=by rw[uU hb];omega
       rw[bj,hm,yC]at z;exact fin z
      .cases e
     .rename_i hl
      cases e;exact fin (o6 p1.isList p2.isList (by rw[bj,bj];simp;omega) 1#a)
    |_=>unfold bC at e;simp at e
   |_=>exact flat (n+1) _ w x y u u' b A (by intro _ z;cases z) (by intro _ z;cases z) h g r r' e
 exact main
end
section
open PySem PySem.Spec PyProof.Rows Bn
section
variable{X:Cx}
theorem D5{BP:List (Addr×Obj)}{σ:St}{H:Hp}{s:aa}(I:aG X BP σ H s){p:Ph}{v w:PV}{x y:V}{u u':Value}{b:Bool}{A:aq}(hu:A.units+8<cLine)(h:fB X.K p H v x)(g:fB X.K p H w y)(r:bS x u)(r':bS y u')(e:bC 8 v w=some b):
  oi A s u u' b/\SeqAt.RcNeAt A s u u' (!b):=by
 have hin:A.in1.units+7<cLine:=by show A.units+1+7<cLine;omega
 cases v with
 |non=>
  cases w<;>first |(unfold bC at e;simp at e;done) |skip
  have h:=h.non;have g:=g.non;subst h g;cases r;cases r';unfold bC at e;cases e;exact⟨n9,SeqAt.RcNeAt.none_none⟩
 |bl i=>
  cases w<;>first |(unfold bC at e;simp at e;done) |skip
  have h:=h.bl;have g:=g.bl;subst h g;cases r;cases r';unfold bC at e;cases e;exact⟨o0 _ _,SeqAt.RcNeAt.bool_bool _ _⟩
 |int i=>
  cases w<;>first |(unfold bC at e;simp at e;done) |skip
  have h:=h.int;have g:=g.int;subst h g;obtain⟨t,rfl⟩:=r;obtain⟨t',rfl⟩:=r';unfold bC at e;cases e;exact⟨o3 _ _ _ _,SeqAt.RcNeAt.int_int _ _ _ _⟩
 |str i=>
  cases w<;>first |(unfold bC at e;simp at e;done) |skip
  have h:=h.str;have g:=g.str;subst h g;obtain⟨t,rfl⟩:=r;obtain⟨t',rfl⟩:=r';unfold bC at e;cases e;exact⟨o4 _ _ _ _,SeqAt.RcNeAt.str_str _ _ _ _⟩
 |tup xs=>
  cases w with
  |tup ys=>
   obtain⟨a,vs,rfl,t1,_,r1⟩:=h.tup;obtain⟨a',ws,rfl,t2,_,r2⟩:=g.tup;cases r;cases r';obtain⟨its,q1,p1,_⟩:=I.tuple t1;obtain⟨jts,q2,p2,_⟩:=I.tuple t2;unfold bC at e;split at e
   .rename_i bs hb
    cases e;have it:=yR (s:=s) (A:=A.in1) (λv w x y u u' b h1 h2 h3 h4 h5=>(Ry I 7 v w x y u u' b A.in1 hin h1 h2 h3 h4 h5).2) r1 r2 q1 q2 hb;have z:=yc (A:=A) (s:=s) (e:=λj=>bs.getD j true) (show s.heap.IsTuple a its.toArray from p1) (show s.heap.IsTuple a' jts.toArray from p2) 1#a it;have z':=SeqAt.RcNeAt.tuples (A:=A) (s:=s) (e:=λj=>bs.getD j true) (show s.heap.IsTuple a its.toArray from p1) (show s.heap.IsTuple a' jts.toArray from p2) 1#a it;have l1:=r1.length.trans q1.length;have l2:=r2.length.trans q2.length;rw[bj,bj,<-l1,<-l2,<-uU hb,yC]at z z';exact⟨z,z'⟩
   .cases e
  |_=>unfold bC at e;simp at e
 |lst xs=>
  cases w with
  |lst ys=>
   obtain⟨a,vs,rfl,t1,_,r1⟩:=h.lst;obtain⟨a',ws,rfl,t2,_,r2⟩:=g.lst;cases r;cases r';obtain⟨its,q1,p1,_⟩:=I.list t1;obtain⟨jts,q2,p2,_⟩:=I.list t2;have l1:=r1.length.trans q1.length;have l2:=r2.length.trans q2.length;unfold bC at e;split at e
   .rename_i hl
    split at e
    .rename_i bs hb
     cases e;have it:=yR (s:=s) (A:=A.in1) (λv w x y u u' b h1 h2 h3 h4 h5=>(Ry I 7 v w x y u u' b A.in1 hin h1 h2 h3 h4 h5).2) r1 r2 q1 q2 hb;have z:=o5 (A:=A) (s:=s) (e:=λj=>bs.getD j true) p1.isList p2.isList (by rw[bj,bj];omega) 1#a it;have z':=SeqAt.RcNeAt.lists (A:=A) (s:=s) (e:=λj=>bs.getD j true) p1.isList p2.isList (by rw[bj,bj];omega) 1#a it;have hm:its.length=bs.length:=by rw[uU hb];omega
     rw[bj,hm,yC]at z z';exact⟨z,z'⟩
    .cases e
   .rename_i hl
    cases e;exact⟨o6 p1.isList p2.isList (by rw[bj,bj];simp;omega) 1#a,SeqAt.RcNeAt.lists_lengths p1.isList p2.isList (by rw[bj,bj];simp;omega) 1#a⟩
  |_=>unfold bC at e;simp at e
def Ob(K:ae)(neg:Bool):R2:=λx y H Q=>∃p v w b,fB K p H v x/\fB K p H w y/\bC 8 v w=some b/\Q (.bl (if neg then !b else b)) H
theorem Jz(hu:X.A.units+8<cLine):eJ X (compareOp .Eq) (Ob X.K false):=by
 intro BP s σ H x y v u Q I rx ry h;obtain⟨p,a,b,k,h1,h2,e,q⟩:=h;exact(D5 I hu h1 h2 rx ry e).1 _ _ _ _ ⟨.bl k,H,I,rfl,q⟩
theorem Ez(hu:X.A.units+8<cLine):eJ X (compareOp .NotEq) (Ob X.K true):=by
 intro BP s σ H x y v u Q I rx ry h;obtain⟨p,a,b,k,h1,h2,e,q⟩:=h;exact(D5 I hu h1 h2 rx ry e).2 _ _ _ _ ⟨.bl _,H,I,rfl,q⟩
def cY(a b:PV):BM:=(bC 8 a b).map .bl
def eA(a b:PV):BM:=(bC 8 a b).map λk=>.bl (!k)
theorem G7{K:ae}:iD K (Ob K false) cY:=λ{p S H a b c x y Q} s ra rb e k=>by
 unfold cY at e;cases z:bC 8 a b with
 |none=>simp_all
 |some t=>
  rw[z]at e;cases e;exact⟨p,a,b,t,ra,rb,z,k H _ (dI.refl H) rfl ⟩
theorem G3{K:ae}:iD K (Ob K true) eA:=λ{p S H a b c x y Q} s ra rb e k=>by
 unfold eA at e;cases z:bC 8 a b with
 |none=>simp_all
 |some t=>
  rw[z]at e;cases e;exact⟨p,a,b,t,ra,rb,z,k H _ (dI.refl H) rfl ⟩
def i2(f:Int->Int->BM):PV->PV->BM
 |.int a,.int b=>f a b
 |_,_=>none
open Classical in
def cI(C:Int->Int->Prop)(g:Int->Int->PV)(a b:Int):BM:=if C a b then some (g a b)else none
def Vk:PV->V
 |.int i=>.int i
 |.bl b=>.bl b
 |.str s=>.str s
 |_=>.non
def Kj:PV->Bool
 |.int _=>true
 |.bl _=>true
 |.str _=>true
 |.non=>true
 |_=>false
theorem kA{K:ae}{c:Addr->Prop}{H:Hp}{v:PV}(h:Kj v=true):bD K c H v (Vk v):=by
 cases v with
 |tup _=>cases h
 |lst _=>cases h
 |_=>rfl
theorem Fb{K:ae}{C:Int->Int->Prop}{g:Int->Int->PV}{h:Int->Int->V}(fl:∀i j,Kj (g i j)=true/\Vk (g i j)=h i j):iD K (rI C h) (i2 (cI C g)):=λ{p S H a b c x y Q} s ra rb e k=>by
 cases a with
 |int i=>
  cases b with
  |int j=>
   unfold i2 cI at e;dsimp only at e;split at e
   .rename_i hc
    cases e;refine⟨i,j,ra.int,rb.int,hc,?_⟩;rw[<-(fl i j).2];exact k H _ (dI.refl H) (kA (fl i j).1)
   .cases e
  |_=>cases e
 |_=>cases e
theorem Kb{K:ae}{g:Int->Int->PV}{h:Int->Int->V}(fl:∀i j,Kj (g i j)=true/\Vk (g i j)=h i j):iD K (kT h) (i2 λi j=>some (g i j)):=λ{p S H a b c x y Q} s ra rb e k=>by
 cases a with
 |int i=>
  cases b with
  |int j=>
   cases e;refine⟨i,j,ra.int,rb.int,?_⟩;rw[<-(fl i j).2];exact k H _ (dI.refl H) (kA (fl i j).1)
  |_=>cases e
 |_=>cases e
def qS(i j:Int):Prop:=Xj i j\/(Bd 1000000 i/\Bd 1000000 j)
theorem qS.ok (h:qS i j):IntMulOk i j:=by
 rcases h with h |h
 .exact h.ok
 have h1:=Ww h.1;have h2:=Ww h.2;unfold IntMulOk Builtin.Int.intTooBig bitsLine;grind
theorem acw:eJ X (binaryOp .Mult) (rI qS λi j=>.int (i*j)):=Sb λ_ _ _ _ _ _ _ hc q=>mul_int q hc.ok
def aU:=i2 (cI qS λi j=>.int (i*j))
def hV:=i2 (cI qT λi j=>.int (i.fdiv j))
def gB:=i2 (cI (λ_ j=>j≠0) λi j=>.int (i.fmod j))
def iO:=i2 (cI Lb λi j=>.int (i^j.toNat))
def dY:=i2 λi j=>some (.int (i-j))
def kS:=i2 λi j=>some (.bl (decide (i<j)))
def fLe:=i2 λi j=>some (.bl (decide (i<=j)))
def fS:=i2 λi j=>some (.bl (decide (j<i)))
def uB:=i2 λi j=>some (.bl (decide (j<=i)))
theorem af2{K:ae}:iD K (rI qS λi j=>.int (i*j)) aU:=Fb λ_ _=>⟨rfl,rfl⟩
theorem aeE{K:ae}:iD K (rI qT λi j=>.int (i.fdiv j)) hV:=Fb λ_ _=>⟨rfl,rfl⟩
theorem afS{K:ae}:iD K (rI (λ_ j=>j≠0) λi j=>.int (i.fmod j)) gB:=Fb λ_ _=>⟨rfl,rfl⟩
theorem af4{K:ae}:iD K (rI Lb λi j=>.int (i^j.toNat)) iO:=Fb λ_ _=>⟨rfl,rfl⟩
theorem agt{K:ae}:iD K (kT λi j=>.int (i-j)) dY:=Kb λ_ _=>⟨rfl,rfl⟩
theorem E9{K:ae}:iD K (kT λi j=>.bl (decide (i<j))) kS:=Kb λ_ _=>⟨rfl,rfl⟩
theorem E5{K:ae}:iD K (kT λi j=>.bl (decide (j<i))) fS:=Kb λ_ _=>⟨rfl,rfl⟩
theorem F0{K:ae}:iD K (kT λi j=>.bl (decide (j<=i))) uB:=Kb λ_ _=>⟨rfl,rfl⟩
def cF:PV->BM
 |.int i=>some (.int (-i))
 |_=>none
theorem agj{K:ae}:Tb K (rU λi=>.int (-i)) cF:=λ{p S H a c x Q} s ra e k=>by
 cases a with
 |int i=>
  cases e;exact⟨i,ra.int,k H _ (dI.refl H) rfl ⟩
 |_=>cases e
def D9(K:ae):R2:=λx y H Q=>∃l b xs zs,x=.ref l/\y=.ref b/\bV K H l xs/\bV K H b zs/\xs.length+zs.length<=sizeLine/\∀p,H p=none->Q (.ref p) (aM H p (.lst (xs++zs)))
theorem adK:eJ X (binaryOp .Add) (D9 X.K):=by
 intro BP s σ H x y v u Q I rx ry h;obtain⟨l,b,xs,zs,rfl,rfl,hx,hy,hz,q⟩:=h;cases rx;cases ry;obtain⟨its,r1,p1,_⟩:=I.list hx;obtain⟨jts,r2,p2,_⟩:=I.list hy;obtain⟨⟨cls,dd,data,sl⟩,n,ho,hc,_,hd⟩:=p1;obtain⟨⟨cls2,dd2,data2,sl2⟩,n2,ho2,hc2,_,hd2⟩:=p2;simp only at hc hd hc2 hd2;subst hc hd hc2 hd2;have e:its.toArray++jts.toArray=(its++jts).toArray:=by simp
 have l1:=r1.length;have l2:=r2.length;refine se ⟨_,ho,rfl⟩ ⟨_,ho2,rfl⟩ noFill_list_add seq_list_add PySem.F.slot_list_add PySem.F.entry_list_add (PySem.F.args_list_add_2 _ _) (list_addW l b _ _ n n2 dd dd2 sl sl2 (by grind)) ⟨ho,ho2,?_⟩;rw[e];exact⟨.ref _,_,I.lnew (r1.append r2) (by rw[ax];omega),rfl,q _ I.fresh⟩
def bF:PV->PV->BM
 |.int a,.int b=>some (.int (a+b))
 |.lst xs,.lst ys=>if xs.length+ys.length<=16777216 then some (.lst (xs++ys))else none
 |.tup xs,.tup ys=>if xs.length≠0/\ys.length≠0/\xs.length+ys.length<=16777216 then some (.tup (xs++ys))else none
 |_,_=>none
def Zz(K:ae):R2:=λx y H Q=>(kT λi j=>.int (i+j)) x y H Q\/D9 K x y H Q\/Rj K x y H Q
theorem ac3:eJ X (binaryOp .Add) (Zz X.K):=eJ.or afE (eJ.or adK Tw)
theorem agp{K:ae}:iD K (Zz K) bF:=λ{p S H a b c x y Q} s ra rb e k=>by
 cases a with
 |int i=>
  cases b with
  |int j=>
   cases e;exact .inl ⟨i,j,ra.int,rb.int,k H _ (dI.refl H) (kA rfl)⟩
  |_=>cases e
 |lst xs=>
  cases b with
  |lst ys=>
   have e:(if xs.length+ys.length<=16777216 then some (PV.lst (xs++ys))else none)=some c:=e;split at e
   .rename_i hl
    cases e;obtain⟨a1,vs,rfl,l1,z1,r1⟩:=ra.lst;obtain⟨a2,ws,rfl,l2,z2,r2⟩:=rb.lst;have hz:vs.length+ws.length<=sizeLine:=by rw[<-r1.length,<-r2.length,jI];exact hl
    exact .inr (.inl ⟨a1,a2,vs,ws,rfl,rfl,l1,l2,hz,λt ht=>k _ _ (gL ht) (lI s (r1.append r2) (by rw[ax];exact hz) ht)⟩)
   .cases e
  |_=>cases e
 |tup xs=>
  cases b with
  |tup ys=>
   have e:(if xs.length≠0/\ys.length≠0/\xs.length+ys.length<=16777216 then some (PV.tup (xs++ys))else none)=some c:=e;split at e
   .rename_i hl
    cases e;obtain⟨a1,vs,rfl,l1,z1,r1⟩:=ra.tup;obtain⟨a2,ws,rfl,l2,z2,r2⟩:=rb.tup;have hz:vs.length+ws.length<=sizeLine:=by rw[<-r1.length,<-r2.length,jI];exact hl.2.2
    refine .inr (.inr ⟨a1,a2,vs,ws,rfl,rfl,l1,l2,λq=>hl.1 (by rw[r1.length,q];rfl),hz,λq=>absurd (show ys.length=0 by rw[r2.length,q];rfl) hl.2.1,λ_ t ht=>k _ _ (gL ht) (qD s (r1.append r2) (by rw[ax];exact hz) ht)⟩)
   .cases e
  |_=>cases e
 |_=>cases e
end
section
variable{K:ae}{cl:Str->Addr}{E:XK}{X:Cx}{a b e:ah}{es:List ah}{ma mb m:ME}{ms:MA}{pos p2:ai}
def aE:PV->PV->BM
 |.lst xs,.int i=>gH xs i
 |.tup xs,.int i=>gH xs i
 |_,_=>none
theorem zN (r:aR K c H xs vs)(e:gH xs i=some v):∃x,gH vs i=some x/\bD K c H v x:=by
 unfold gH at e⊢;rw[<-r.length];cases z:gG _ i with
 |none=>simp_all
 |some j=>
  rw[z]at e;exact r.get e
theorem ahs:iD K (J8 K) aE:=λ{p S H a b c x y Q} s ra rb e k=>by
 cases b with
 |int i=>
  cases a with
  |lst xs=>
   obtain⟨a1,vs,rfl,l1,z1,r1⟩:=ra.lst;obtain⟨x,e1,r2⟩:=zN r1 e;exact .inl ⟨a1,vs,i,x,rfl,rb.int,l1,e1,k H x (dI.refl H) r2⟩
  |tup xs=>
   obtain⟨a1,vs,rfl,l1,z1,r1⟩:=ra.tup;obtain⟨x,e1,r2⟩:=zN r1 e;exact .inr (.inl ⟨a1,vs,i,x,rfl,rb.int,l1,e1,k H x (dI.refl H) r2⟩)
  |_=>cases e
 |_=>cases a<;>cases e
theorem agb(ha:aL K cl E X a ma)(hb:aL K cl E X b mb)(hs:autoParam (vC b) Zwx):aL K cl E X (.Subscript a b pos) (aC aE ma mb):=by
 intro hK;subst hK;refine(Ta Ey (ha rfl) (hb rfl) hs).imp ?_
 rintro σ H Q ⟨p,S,ρ,s,e,h⟩
 exact bZ s e h λq H1 a x S1 st s1 e1 r1 h1=>bZ s1 e1 h1 λq2 H2 b y S2 st2 s2 e2 r2 h2=>yO ahs s2 (st2.repA r1) r2 h2
abbrev MO:=cR->aF->bQ BJ
def dF:MO:=λ_ S=>.ok none S
def gO:AV->aF->bQ BJ
 |.pv (.int i),S=>.ok (some i) S
 |_,_=>.fail
def dN(m:ME):MO:=λρ S=>(m ρ S).bind gO
abbrev RO:Ph->Hp->BJ->BJ->Prop:=λ_ _ a b=>a=b
variable(K cl E X)
def pK(e:Option ah)(m:MO):Prop:=X.K=K->PO X e (tP K cl E RO m)
variable{K cl E X}
theorem PO.imp{e:Option ah}{t t':TO}(h:PO X e t)(i:∀σ H Q,t' σ H Q->t σ H Q):PO X e t':=λBP s σ H Q I q=>h _ s _ H Q I (i _ H Q q)
theorem abH:pK K cl E X none dF:=λ_=>PO.imp adG λσ H Q ⟨p,S,ρ,s,e,h⟩=>bY.ret h s rfl
theorem abq(h:aL K cl E X e m):pK K cl E X (some e) (dN m):=by
 intro hK;subst hK;refine PO.imp (Ch (h rfl)) ?_
 rintro σ H Q ⟨p,S,ρ,s,e,h⟩
 refine bZ s e h λq H1 a x S1 st s1 e1 r1 h1=>?_;unfold gO at h1;split at h1
 .rename_i i
  exact⟨i,(show fB _ q _ _ x from .inl r1).int,bY.ret h1 s1 rfl⟩
 .exact h1.elim
def mX(xs:BK)(lo hi:BJ):BK:=(xs.drop (HT.sIx xs.length 0 lo)).take (HT.sIx xs.length xs.length hi-HT.sIx xs.length 0 lo)
def lC(v:PV)(lo hi:BJ):BM:=match v with
 |.lst xs=>some (.lst (mX xs lo hi))
 |.tup xs=>if HT.sIx xs.length 0 lo=0/\HT.sIx xs.length xs.length hi=xs.length then none else some (.tup (mX xs lo hi))
 |_=>none
def dW(m:ME)(ml mh:MO):ME:=λρ S=>(m ρ S).bind λv S1=>(ml ρ S1).bind λlo S2=>(mh ρ S2).bind λhi S3=>iC ((rd S3 v).bind λx=>lC x lo hi) S3
theorem Cs {lo hi:BJ}(r:aR K c H xs vs):aR K c H (mX xs lo hi) (tX vs lo hi):=by
 unfold mX tX;rw[<-r.length];exact(r.drop _).take _
theorem agM{lo hi:Option ah}{ml mh:MO}(he:aL K cl E X e m)(hl:pK K cl E X lo ml)(hu:pK K cl E X hi mh):aL K cl E X (.Subscript e (.Slice lo hi none p2) pos) (dW m ml mh):=by
 intro hK;subst hK;refine(acg (pL.or acu ae6) (he rfl) (hl rfl) (hu rfl)).imp ?_
 rintro σ H Q ⟨p,S,ρ,s,e,h⟩
 refine bZ s e h λq H1 a x S1 st s1 e1 r1 h1=>bZ s1 e1 h1 λq2 H2 lo lo' S2 st2 s2 e2 r2 h2=>bZ s2 e2 h2 λq3 H3 hi hi' S3 dR s3 e3 r3 h3=>?_;cases r2;cases r3;have ra:=dR.repA (st2.repA r1);obtain⟨c,ec,k⟩:=oS s3 h3;cases z:rd S3 a with
 |none=>rw[z]at ec;cases ec
 |some v=>
  rw[z]at ec;have rv:=qL s3 ra z;cases v with
  |lst xs=>
   have ec:=ec;cases ec;obtain⟨a1,vs,rfl,l1,z1,r1⟩:=rv.lst;exact .inl ⟨a1,vs,rfl,l1,λt ht=>k _ _ (gL ht) (lI s3 (Cs r1) (fx (xR vs lo hi) z1) ht)⟩
  |tup xs=>
   obtain⟨a1,vs,rfl,l1,z1,r1⟩:=rv.tup;have ec:(if HT.sIx xs.length 0 lo=0/\HT.sIx xs.length xs.length hi=xs.length then none else some _)=some c:=ec;split at ec
   .cases ec
   .rename_i hw
    cases ec;rw[r1.length]at hw;exact .inr ⟨a1,vs,rfl,l1,hw,λt ht=>k _ _ (gL ht) (qD s3 (Cs r1) (fx (xR vs lo hi) z1) ht)⟩
  |_=>cases ec
theorem sF{id:String}{r:List V->Hp->VK->Prop}{f:BK->BM}{x:Str}{p:ai}(hc:iM X (.builtin id) r)(hf:lF X.K r f)(hg:Gl X x)(hm:X.mg x=none)(hv:bootBuiltins x=some (.builtin id))(ha:eR K cl E X (e::es) ms)(hn:autoParam (x≠"__name__") Zqw)(hdb:autoParam ((x==("__debug__":Str))=false) Zqw)
  (he:autoParam (starEach (e::es) X.env=(false,eval e X.env)::starEach es X.env) Zqq)(hpl:autoParam ((backTo pos (starEach es X.env)).any (·.1)=false) Zqq):aL K cl E X (.Call (.Name x p) (e::es) [] pos) (mR f ms):=by
 intro hK;subst hK;refine PE.imp (yT hc hg hm hv (ha rfl) hn hdb he hpl) ?_
 rintro σ H Q ⟨p,S,ρ,s,ev,h⟩
 exact bZ s ev h λq H' as xs S' dD sm ev r k=>Qq hf sm r k
theorem De {p:ai}(hc:iM X (.type T) r)(hf:lF X.K r f)(hg:Gl X x)(hm:X.mg x=none)(hv:bootBuiltins x=some (.type T))(ha:eR K cl E X (e::es) ms)(hn:autoParam (x≠"__name__") Zqw)(hdb:autoParam ((x==("__debug__":Str))=false) Zqw)
  (he:autoParam (starEach (e::es) X.env=(false,eval e X.env)::starEach es X.env) Zqq)(hpl:autoParam ((backTo pos (starEach es X.env)).any (·.1)=false) Zqq):aL K cl E X (.Call (.Name x p) (e::es) [] pos) (mR f ms):=by
 intro hK;subst hK;refine PE.imp (yG hc hg hm hv (ha rfl) hn hdb he hpl) ?_
 rintro σ H Q ⟨p,S,ρ,s,ev,h⟩
 exact bZ s ev h λq H' as xs S' dD sm ev r k=>Qq hf sm r k
def cE:BK->BM
 |[.lst xs]=>some (.int xs.length)
 |[.tup xs]=>some (.int xs.length)
 |_=>none
theorem agW:lF K (λxs H Q=>∃p ys,xs=[.ref p]/\(bV K H p ys\/dB K H p ys)/\Q (.int ys.length) H) cE:=λ{p S H as c xs Q} s ra e k=>by
 unfold cE at e;split at e
 .cases e
  cases ra with
  |cons h t=>
   cases t;obtain⟨a,vs,rfl,l,z,r⟩:=h.lst;refine⟨a,vs,rfl,.inl l,?_⟩;rw[<-r.length];exact k H _ (dI.refl H) (kA rfl)
 .cases e
  cases ra with
  |cons h t=>
   cases t;obtain⟨a,vs,rfl,l,z,r⟩:=h.tup;refine⟨a,vs,rfl,.inr l,?_⟩;rw[<-r.length];exact k H _ (dI.refl H) (kA rfl)
 .cases e
def pJ:BK->BM
 |[.int i]=>some (.int (if i<0 then-i else i))
 |_=>none
theorem age:lF K (λxs H Q=>∃i,xs=[.int i]/\Q (.int (if i<0 then-i else i)) H) pJ:=λ{p S H as c xs Q} s ra e k=>by
 unfold pJ at e;split at e
 .rename_i i
  cases e;cases ra with
  |cons h t=>
   cases t;cases h.int;exact⟨i,rfl,k H _ (dI.refl H) (kA rfl)⟩
 .cases e
def fX:BK->BM
 |[.lst xs]=>some (.tup xs)
 |[.tup xs]=>some (.tup xs)
 |_=>none
theorem adY:lF K (λxs H Q=>∃p ys,xs=[.ref p]/\((bV K H p ys/\∀l,H l=none->Q (.ref l) (aM H l (.tup ys)))\/(dB K H p ys/\Q (.ref p) H))) fX:=λ{p S H as c xs Q} s ra e k=>by
 unfold fX at e;split at e
 .cases e
  cases ra with
  |cons h t=>
   cases t;obtain⟨a,vs,rfl,l,z,r⟩:=h.lst;exact⟨a,vs,rfl,.inl ⟨l,λt ht=>k _ _ (gL ht) (qD s r z ht)⟩⟩
 .cases e
  cases ra with
  |cons h t=>
   cases t;obtain⟨a,vs,rfl,l,z,r⟩:=h.tup;refine⟨a,vs,rfl,.inr ⟨l,k H _ (dI.refl H) ?_⟩⟩;exact⟨a,vs,rfl,l,z,r⟩
 .cases e
def gM:BK->BM
 |[.lst xs]=>some (.lst xs)
 |[.tup xs]=>some (.lst xs)
 |_=>none
theorem adC:lF K (λxs H Q=>∃p ys,xs=[.ref p]/\(bV K H p ys\/dB K H p ys)/\∀l,H l=none->Q (.ref l) (aM H l (.lst ys))) gM:=λ{p S H as c xs Q} s ra e k=>by
 unfold gM at e;split at e
 .cases e
  cases ra with
  |cons h t=>
   cases t;obtain⟨a,vs,rfl,l,z,r⟩:=h.lst;exact⟨a,vs,rfl,.inl l,λt ht=>k _ _ (gL ht) (lI s r z ht)⟩
 .cases e
  cases ra with
  |cons h t=>
   cases t;obtain⟨a,vs,rfl,l,z,r⟩:=h.tup;exact⟨a,vs,rfl,.inr l,λt ht=>k _ _ (gL ht) (lI s r z ht)⟩
 .cases e
def mT:BK->Option (List Bool)
 |[]=>some []
 |.bl b::r=>match mT r with
  |some bs=>some (b::bs)
  |none=>none
 |_::_=>none
def mW:BK->BM
 |[.lst xs]=>(mT xs).map λbs=>.bl (bs.all id)
 |_=>none
theorem Br :∀{xs:BK}{bs:List Bool}{vs:List V},mT xs=some bs->aR K c H xs vs->vs=bs.map V.bl
 |[],bs,vs,e,r=>by
  cases e;exact r
 |.bl b::xs,bs,vs,e,r=>by
  unfold mT at e;split at e
  .rename_i cs h
   cases e;obtain⟨v,w,rfl,r1,r2⟩:=r;rw[r1,Br h r2];rfl
  .cases e
 |.non::_,_,_,e,_=>by cases e
 |.int _::_,_,_,e,_=>by cases e
 |.str _::_,_,_,e,_=>by cases e
 |.tup _::_,_,_,e,_=>by cases e
 |.lst _::_,_,_,e,_=>by cases e
theorem af9:lF K (λxs H Q=>∃(a:Addr)(bs:List Bool),xs=[.ref a]/\bV K H a (bs.map V.bl)/\Q (.bl (bs.all id)) H) mW:=λ{p S H as c xs Q} s ra e k=>by
 unfold mW at e;split at e
 .rename_i zs
  cases y:mT zs with
  |none=>simp_all
  |some bs=>
   rw[y]at e;cases e;cases ra with
   |cons h t=>
    cases t;obtain⟨a,vs,rfl,l,z,r⟩:=h.lst;rw[Br y r]at l;exact⟨a,bs,rfl,l,k H _ (dI.refl H) (kA rfl)⟩
 .cases e
def kY:BK->BM
 |[.int i]=>some (.int i)
 |[.bl b]=>some (.int (if b then 1 else 0))
 |_=>none
theorem agY:lF K (λxs H Q=>(∃i,xs=[.int i]/\Q (.int i) H)\/∃k,xs=[.bl k]/\Q (.int (if k then 1 else 0)) H) kY:=λ{p S H as c xs Q} s ra e k=>by
 unfold kY at e;split at e
 .rename_i i
  cases e;cases ra with
  |cons h t=>
   cases t;cases h.int;exact .inl ⟨i,rfl,k H _ (dI.refl H) (kA rfl)⟩
 .rename_i i
  cases e;cases ra with
  |cons h t=>
   cases t;cases h.bl;exact .inr ⟨i,rfl,k H _ (dI.refl H) (kA rfl)⟩
 .cases e
end
end
section
variable{K:ae}{cl:Str->Addr}{E:XK}{X:Cx}{a b c e l:ah}{es:List ah}{m:ME}{ms:MA}{pos:ai}{p q:Ph}{H H':Hp}{S:aF}
theorem aQ.push(s:aQ K p S H){D:Addr}{ps:BK}{vs:List V}(h:H D=none)(l:vs.length<=sizeLine)(r:aR K p.c H ps vs):
  let q:Ph:=⟨p.f++[D],λa=>p.w a\/a=D,λa=>p.c a\/a=D⟩
  bP p H q (aM H D (.lst vs))/\aQ K q (S++[.lst ps]) (aM H D (.lst vs)):=by
 intro q;obtain⟨st0,sm0⟩:=s.res (D:=D) (o:=.lst vs) h trivial;have nf0:D∉p.f:=λz=>s.notin h (s.wc D (s.sub D z));refine⟨⟨st0.wc,st0.mu,⟨[D],rfl⟩,st0.mw,st0.mono,λa x n=>?_,st0.nw,st0.nc,st0.keep⟩,?_,by simp[q,s.len],λa x=>?_,sm0.wc,sm0.mu,λk a o e1 e2=>?_⟩
 .grind
 .show(p.f++[D]).Nodup
  rw[ng];refine⟨s.nd,by simp,λa ha b hb z=>?_⟩;have:b=D:=by simpa using hb
  exact nf0 (this▸z▸ha)
 .rcases ce.mp x with z |z
  .exact .inl (s.sub a z)
  .exact .inr (by simpa using z)
 .by_cases hk:k<S.length
  .have e1':p.f[k]?=some a:=by
    rwa[fw (by rw[s.len];exact hk)]at e1
   rw[fw hk]at e2;refine(s.obj k a o e1' e2).mono (λvs e=>by rw[bK (gJ e h)];exact e) (λb w f=>⟨⟨.inl w,λm=>?_⟩,λvs e=>by rw[bK (gJ e h)];exact e⟩) λ_ _ r=>st0.reps r;rcases ce.mp m with z |z
   .exact f z
   .have:b=D:=by simpa using z
    exact s.notin h (this▸s.wc b w)
  .have hk':k=S.length:=by
    have:=(cf.mp e2).1;simp at this;omega
   subst hk';rw[ee (aj _),ie]at e2;have e1:=e1;rw[<-s.len,ee (aj _),ie]at e1;cases e1;cases e2;exact⟨vs,eC,l,st0.reps r⟩
theorem aQ.write(s:aQ K p S H){D:Addr}{k:Nat}{ps:BK}{vs:List V}(h:p.f[k]?=some D)(hk:k<S.length)(l:vs.length<=sizeLine)(r:aR K p.c H ps vs):
  bP p H p (aM H D (.lst vs))/\aQ K p (S.set k (.lst ps)) (aM H D (.lst vs)):=by
 have w:=s.sub D (dh h);have st:bP p H p (aM H D (.lst vs)):=⟨s.wc,s.mu,jl,λ_ h=>h,λ_ h=>h,λ_ h g=>absurd h g,λ_ h g=>absurd h g,λ_ h g=>absurd h g,λa u e nw=>by
  rw[bK (λz=>nw (by rw[z];exact w))];exact e⟩
 refine⟨st,s.nd,by rw[ij];exact s.len,s.sub,s.wc,λa x=>?_,λj a o e1 e2=>?_⟩
 .by_cases z:a=D
  .rw[z,eC]
   exact⟨_,rfl,trivial⟩
  .rw[bK z]
   exact s.mu a x
 .by_cases hj:k=j
  .subst hj
   rw[h]at e1;cases e1;rw[fz hk]at e2;cases e2;exact⟨vs,eC,l,st.reps r⟩
  .rw[fu hj]at e2
   have ne:a≠D:=λq=>hj (nodup_idx s.nd h (q▸e1));exact(s.obj j a o e1 e2).mono (λvs e=>by rw[bK ne];exact e) (λb w f=>⟨⟨w,f⟩,λvs e=>by rw[bK (λz:b=D=>f (z▸dh h))];exact e⟩) λ_ _ r=>st.reps r
def lM(xs:BO)(S:aF):bQ AV:=match nW xs with
 |some vs=>if vs.length<=16777216 then .ok (.ref S.length) (S++[.lst vs])else .fail
 |none=>.fail
def fV(ms:MA):ME:=λρ S=>(ms ρ S).bind lM
theorem aec(h:eR K cl E X es ms):aL K cl E X (.List es pos) (fV ms):=by
 intro hK;subst hK;refine(zX (h rfl)).imp ?_
 rintro σ H Q ⟨p,S,ρ,s,e,h⟩
 refine bZ s e h λq H1 as xs S1 st s1 e1 r1 h1=>?_;unfold lM at h1;split at h1
 .rename_i vs hv
  split at h1
  .rename_i hl
   have r:=Pd hv r1;rw[r.length]at hl;refine⟨hl,λt ht=>?_⟩;obtain⟨st2,sm2⟩:=s1.push ht hl r;exact h1 _ _ _ st2 sm2 ⟨t,by rw[<-s1.len,ee (aj _),ie];rfl,rfl⟩
  .exact h1.elim
 .exact h1.elim
def jP(k:Nat)(ys:BO)(S:aF):bQ AV:=match ys with
 |[.pv y]=>match S[k]? with
  |some (.lst xs)=>if xs.length<16777216 then .ok (.pv .non) (S.set k (.lst (xs++[y])))else .fail
  |_=>.fail
 |_=>.fail
def fY (k:AV)(S:aF)(f:Nat->bQ α):bQ α:=match k with
 |.ref k=>(match S[k]? with
  |some (.dic _ _)=>.fail
  |some (.dol _ _)=>.fail
  |_=>f k)
 |_=>.fail
theorem zH (k:Nat)(S:aF)(f:Nat->bQ α):fY (.ref k) S f=.fail\/(fY (.ref k) S f=f k/\(∀n l,S[k]?≠some (.dic n l))/\∀n l,S[k]?≠some (.dol n l)):=by
 have e:fY (.ref k) S f=match S[k]? with
  |some (.dic _ _)=>.fail
  |some (.dol _ _)=>.fail
  |_=>f k:=rfl
 rw[e];cases S[k]? with
 |none=>exact .inr ⟨rfl,λ_ _ z=>(nomatch z),λ_ _ z=>nomatch z ⟩
 |some o=>
  cases o with
  |dic n l=>exact .inl rfl
  |dol n l=>exact .inl rfl
  |lst xs=>exact .inr ⟨rfl,λ_ _ z=>(nomatch z),λ_ _ z=>nomatch z ⟩
  |lol xs=>exact .inr ⟨rfl,λ_ _ z=>(nomatch z),λ_ _ z=>nomatch z ⟩
def dQ(m:ME)(ms:MA):ME:=λρ S=>(m ρ S).bind λk S1=>fY k S1 λk=>(ms ρ S1).bind λys S2=>jP k ys S2
theorem Kg (s:aQ K p S H)(r:cS K p H (.ref k) x)(n1:∀n l,S[k]?≠some (.dic n l))(n2:∀n l,S[k]?≠some (.dol n l)):Qk K "list" x H:=by
 obtain⟨a,e,rfl⟩:=r;have hk:k<S.length:=by
  have:=(cf.mp e).1;rw[<-s.len];exact this
 have z:=s.obj k a _ e (ay hk);cases y:S[k]with
 |lst xs=>
  rw[y]at z;obtain⟨vs,h,_⟩:=z;exact .inl ⟨rfl,vs,bV.of h⟩
 |lol xss=>
  rw[y]at z;obtain⟨bs,h,_⟩:=z;exact .inl ⟨rfl,_,bV.of h⟩
 |dic n l=>exact absurd (by rw[ay hk,y]) (n1 n l)
 |dol n l=>exact absurd (by rw[ay hk,y]) (n2 n l)
theorem aas{apos cpos:ai}(ho:aL K cl E X a m)(ha:eR K cl E X [e] ms)(hbase:autoParam (attributeBase a "append" X.env (eval a X.env)=eval a X.env) Zqq)
  (hfew:autoParam (((backTo cpos (starEach [e] X.env)).all (λx=>!x.1)&&(backToKw cpos (keywordEach [] X.env)).all (λx=>x.1.isSome)&&decide (([e]:List ah).length+([]:List ia).length+(if([]:List ia).isEmpty then 0 else 1)<30))=true) Zqq)
  (hline:autoParam ((apos.endLine==cpos.line)=true) Zqq)(hs:autoParam (starEach [e] X.env=[(false,eval e X.env)]) Zqq):aL K cl E X (.Call (.Attribute a "append" apos) [e] [] cpos) (dQ m ms):=by
 intro hK;subst hK;refine PE.imp (Ua uh sk yg rS (ho rfl) (ha rfl) hbase hfew hline hs rfl) ?_
 rintro σ H Q ⟨p,S,ρ,s,ev,h⟩
 refine bZ s ev h λq H1 k x S1 st s1 e1 r1 h1=>?_;cases k with
 |pv v=>exact h1.elim
 |ref k=>
  have h1:=h1;rcases zH k S1 (λk=>(ms ρ S1).bind λys S2=>jP k ys S2)with z |⟨z,n1,n2⟩
  .rw[z]at h1
   exact h1.elim
  rw[z]at h1;refine⟨Kg s1 r1 n1 n2,bZ s1 e1 h1 λq2 H2 ys xs S2 st2 s2 e2 r2 h2=>?_⟩;obtain⟨a,ea,rfl⟩:=st2.repA r1;unfold jP at h2;split at h2
  .rename_i y
   cases r2 with
   |cons r3 r4=>
    cases r4;rename_i x;cases z:S2[k]? with
    |none=>rw[z]at h2;exact h2.elim
    |some o=>
     cases o with
     |lol _=>simp only[z]at h2;exact h2.elim
     |dic _ _=>simp only[z]at h2;exact h2.elim
     |dol _ _=>simp only[z]at h2;exact h2.elim
     |lst zs=>
      simp only[z]at h2;obtain⟨vs,h3,l3,r4⟩:=s2.obj k a _ ea z;split at h2
      .rename_i hl
       rw[r4.length]at hl;have hz:=jI;refine⟨a,vs,x,rfl,rfl,h3,by omega,?_⟩;obtain⟨dR,sm3⟩:=s2.write ea (cf.mp z).1 (ps:=zs++[y]) (vs:=vs++[x]) (by rw[ax,nh];omega) (r4.append (.cons r3 .nil));exact h2 _ _ .non dR sm3 (by show bD X.K q2.c (aM H2 a (.lst (vs++[x]))) .non .non;unfold bD;rfl)
      .exact h2.elim
  .exact h2.elim
def tD(k:Nat)(ys:BO)(S:aF):bQ AV:=match ys with
 |[.pv (.int i)]=>if-9223372036854775808<=i/\i<9223372036854775808 then(match S[k]? with
  |some (.lst xs)=>match seqIndex? i xs.length with
   |some j=>match xs[j]? with
    |some v=>.ok (.pv v) (S.set k (.lst (xs.eraseIdx j)))
    |none=>.fail
   |none=>.fail
  |_=>.fail)else .fail
 |_=>.fail
def pI(m:ME)(ms:MA):ME:=λρ S=>(m ρ S).bind λk S1=>fY k S1 λk=>(ms ρ S1).bind λys S2=>tD k ys S2
theorem aes{apos cpos:ai}(ho:aL K cl E X a m)(ha:eR K cl E X [e] ms)(hbase:autoParam (attributeBase a "pop" X.env (eval a X.env)=eval a X.env) Zqq)
  (hfew:autoParam (((backTo cpos (starEach [e] X.env)).all (λx=>!x.1)&&(backToKw cpos (keywordEach [] X.env)).all (λx=>x.1.isSome)&&decide (([e]:List ah).length+([]:List ia).length+(if([]:List ia).isEmpty then 0 else 1)<30))=true) Zqq)
  (hline:autoParam ((apos.endLine==cpos.line)=true) Zqq)(hs:autoParam (starEach [e] X.env=[(false,eval e X.env)]) Zqq):aL K cl E X (.Call (.Attribute a "pop" apos) [e] [] cpos) (pI m ms):=by
 intro hK;subst hK;refine PE.imp (Ua uh PySem.F.slot_list_pop PySem.F.type_list_pop abU (ho rfl) (ha rfl) hbase hfew hline hs rfl) ?_
 rintro σ H Q ⟨p,S,ρ,s,ev,h⟩
 refine bZ s ev h λq H1 k x S1 st s1 e1 r1 h1=>?_;cases k with
 |pv v=>exact h1.elim
 |ref k=>
  have h1:=h1;rcases zH k S1 (λk=>(ms ρ S1).bind λys S2=>tD k ys S2)with z |⟨z,n1,n2⟩
  .rw[z]at h1
   exact h1.elim
  rw[z]at h1;refine⟨Kg s1 r1 n1 n2,bZ s1 e1 h1 λq2 H2 ys xs S2 st2 s2 e2 r2 h2=>?_⟩;obtain⟨a,ea,rfl⟩:=st2.repA r1;unfold tD at h2;split at h2
  .rename_i i
   cases r2 with
   |cons r3 r4=>
    cases r4;rename_i x;have ex:x=.int i:=(show fB X.K q2 H2 (.int i) x from .inl r3).int;subst ex;split at h2
    .rename_i hi
     cases z:S2[k]? with
     |none=>rw[z]at h2;exact h2.elim
     |some o=>
      cases o with
      |lol _=>simp only[z]at h2;exact h2.elim
      |dic _ _=>simp only[z]at h2;exact h2.elim
      |dol _ _=>simp only[z]at h2;exact h2.elim
      |lst zs=>
       simp only[z]at h2;obtain⟨vs,h3,l3,r4⟩:=s2.obj k a _ ea z;cases y:seqIndex? i zs.length with
       |none=>simp only[y]at h2;exact h2.elim
       |some j=>
        simp only[y]at h2;cases yv:zs[j]? with
        |none=>simp only[yv]at h2;exact h2.elim
        |some v=>
         simp only[yv]at h2;obtain⟨u,eu,ru⟩:=r4.get yv;refine⟨a,vs,i,j,u,rfl,rfl,h3,hi.1,hi.2,by rw[<-r4.length];exact y,eu,?_⟩;obtain⟨dR,sm3⟩:=s2.write ea (cf.mp z).1 (ps:=zs.eraseIdx j) (vs:=vs.eraseIdx j) (fx (Je vs j) l3) (r4.eraseIdx j);exact h2 _ _ u dR sm3 (dR.rep ru)
    .exact h2.elim
  .exact h2.elim
def wK(k:Nat)(i:AV)(v:AV)(S:aF):bQ Unit:=match i,v with
 |.pv (.int i),.pv v=>match S[k]? with
  |some (.lst xs)=>match gG xs.length i with
   |some j=>.ok () (S.set k (.lst (xs.set j v)))
   |none=>.fail
  |_=>.fail
 |_,_=>.fail
def qI(mo mi mv:ME):MS:=λρ S=>cO.of (mv ρ S) λv S1=>cO.of (mo ρ S1) λk S2=>cO.of (mi ρ S2) λi S3=>cO.of (fY k S3 λk=>wK k i v S3) λ_ S4=>.nx ρ S4
theorem X7{o i v:ah}{mo mi mv:ME}{tpos:ai}(hv:aL K cl E X v mv)(ho:aL K cl E X o mo)(hi:aL K cl E X i mi)
  (ha:∀v,assign (.Subscript o i tpos) X.env v=(do
   let ov <-holding [v] (eval o X.env)
   let iv <-holding [v,ov] (eval i X.env)
   standAt tpos
   holding [v,ov,iv] (setItem ov iv v)
   release [v,ov,iv] []):=by intro _;rfl)
  (hs:autoParam (swapsWithSole [.Subscript o i tpos] v pos.line X.env=pure false) Zqq)(hw:autoParam (swappedStores [.Subscript o i tpos] v X.env=pure none) Zqq)
  (h1:autoParam ((assignEach [.Subscript o i tpos] X.env).map (·.2)=[assign (.Subscript o i tpos) X.env]) Zqq):eZ K cl E X (.Assign [.Subscript o i tpos] v pos) (qI mo mi mv):=by
 intro hK;subst hK;refine PS.imp (Ai (hv rfl) (Gh (ho rfl) (hi rfl) Yt ha) hs hw h1) ?_
 rintro D σ H ⟨p,S,ρ,s,ev,h⟩
 refine jM s ev h λq H1 v x S1 st s1 e1 r1 h1=>?_;refine jM s1 e1 h1 λq2 H2 k y S2 st2 s2 e2 r2 h2=>?_;refine jM s2 e2 h2 λq3 H3 i z S3 dR s3 e3 r3 h3=>?_;cases k with
 |pv _=>exact h3.elim
 |ref k=>
  obtain⟨a,ea,rfl⟩:=dR.repA r2;have rv:=dR.repA (st2.repA r1);have h3:=h3;rcases zH k S3 (λk=>wK k i v S3)with z0 |⟨z0,_,_⟩
  .rw[z0]at h3
   exact h3.elim
  rw[z0]at h3;unfold wK at h3;split at h3
  .rename_i ii vv _
   have ez:z=.int ii:=(show fB X.K q3 H3 (.int ii) z from .inl r3).int;subst ez;cases w:S3[k]? with
   |none=>rw[w]at h3;exact h3.elim
   |some o=>
    cases o with
    |lol _=>simp only[w]at h3;exact h3.elim
    |dic _ _=>simp only[w]at h3;exact h3.elim
    |dol _ _=>simp only[w]at h3;exact h3.elim
    |lst zs=>
     simp only[w]at h3;obtain⟨vs,hh,ll,rr⟩:=s3.obj k a _ ea w;cases y:gG zs.length ii with
     |none=>simp only[y]at h3;exact h3.elim
     |some j=>
      simp only[y]at h3;refine⟨a,vs,ii,j,rfl,rfl,hh,by rw[<-rr.length];exact y,?_⟩;obtain⟨st4,sm4⟩:=s3.write ea (cf.mp w).1 (ps:=zs.set j vv) (vs:=vs.set j x) (by rw[ij];exact ll) (aR.set rv j rr);exact h3 _ _ _ st4 sm4 (st4.repE e3)
  .exact h3.elim
def gR:BK->BK->BK
 |x::xs,y::ys=>.tup [x,y]::gR xs ys
 |_,_=>[]
theorem Kf:∀(xs ys:BK),(gR xs ys).length=min xs.length ys.length
 |[],ys=>rfl
 |x::xs,[]=>rfl
 |x::xs,y::ys=>by
  unfold gR;rw[cu,Kf _ _,cu,cu]<;>grind
theorem Tr:∀{xs ys:BK}{i:Nat}{v:PV},(gR xs ys)[i]?=some v->∃x y,xs[i]?=some x/\ys[i]?=some y/\v=.tup [x,y]
 |[],ys,i,v,e=>by cases ys<;>simp[gR]at e
 |x::xs,[],i,v,e=>by simp[gR]at e
 |x::xs,y::ys,0,v,e=>by
  unfold gR at e;simp at e;exact⟨x,y,rfl,rfl,e.symm⟩
 |x::xs,y::ys,i+1,v,e=>by
  unfold gR at e;obtain⟨a,b,h1,h2,h3⟩:=Tr (by simpa using e);exact⟨a,b,by simpa using h1,by simpa using h2,h3⟩
def lN:BO->aF->bQ (BK×Gd)
 |[a,b],S=>match bT a S with
  |.ok xs _=>match bT b S with
   |.ok ys _=>.ok (gR xs.1 ys.1,xs.2++ys.2) S
   |_=>.fail
  |_=>.fail
 |_,_=>.fail
def iB(ms:MA):MI:=λρ S=>(ms ρ S).bind lN
theorem Ks{a:AV}{x:V}{xs:BK×Gd}{S':aF}(s:aQ K p S H)(r:cS K p H a x)(e:bT a S=.ok xs S'):∃f ad vs,x=.ref ad/\jX f K H ad vs/\xs.1.length<=sizeLine/\∀q H1 S1,bP p H q H1->aQ K q S1 H1->iQ xs.2 S1->∃vs,jX f K H1 ad vs/\aR K q.c H1 xs.1 vs:=by
 cases a with
 |ref j=>
  obtain⟨a,e1,rfl⟩:=r;unfold bT at e;dsimp only at e;cases z:S[j]? with
  |none=>rw[z]at e;cases e
  |some o=>
   cases o with
   |lol _=>rw[z]at e;cases e
   |dic _ _=>rw[z]at e;cases e
   |dol _ _=>rw[z]at e;cases e
   |lst ys=>
    rw[z]at e;cases e;obtain⟨vs,h1,l1,r1⟩:=s.obj j a _ e1 z;refine⟨false,a,vs,rfl,bV.of h1,by rw[r1.length];exact l1,λq H1 S1 st sm g=>?_⟩;obtain⟨ws,h2,l2,r2⟩:=sm.obj j a _ (st.at_ e1) (g (j,ys) av);exact⟨ws,bV.of h2,r2⟩
 |pv v=>
  cases v with
  |lst ys=>
   cases e;have r:=r;obtain⟨a,vs,rfl,l,z,r⟩:=r;exact⟨false,a,vs,rfl,l.sq,by rw[r.length];exact z,λq H1 S1 st sm g=>⟨vs,(st.lat l).sq,st.reps r⟩⟩
  |tup ys=>
   cases e;have r:=r;obtain⟨a,vs,rfl,l,z,r⟩:=r;exact⟨true,a,vs,rfl,l,by rw[r.length];exact z,λq H1 S1 st sm g=>⟨vs,st.tup l,st.reps r⟩⟩
  |_=>cases e
theorem acR{elts:List ah}{x1:Nat}{tp p:ai}(hg:Gl X "zip")(hm:X.mg "zip"=none)(hl:eR K cl E X [a,b] ms)(hs:autoParam (starEach [a,b] X.env=[(false,eval a X.env),(false,eval b X.env)]) Zqq)(hs2:autoParam (starEach [b] X.env=[(false,eval b X.env)]) Zqq):
  PIp K cl E X (.Tuple elts x1 tp) (.Call (.Name "zip" p) [a,b] [] pos) (iB ms):=by
 intro hK;subst hK;refine PI.imp (afd hg hm (hl rfl) hs hs2) ?_
 rintro σ H R ⟨p,S,ρ,s,ev,h⟩
 refine bZ s ev h λq H' as xs S' dD sm ev r k=>?_;unfold lN at k;split at k
 .cases r with
  |cons r1 r2=>
   cases r2 with
   |cons r2 r3=>
    cases r3;split at k
    .rename_i xs1 S1 hx
     split at k
     .rename_i ys1 S2 hy
      obtain⟨f1,a1,vs1,rfl,q1,z1,st1⟩:=Ks sm r1 hx;obtain⟨f2,a2,vs2,rfl,q2,z2,st2⟩:=Ks sm r2 hy;refine⟨f1,a1,f2,a2,vs1,vs2,rfl,q1,q2,bY.ret k sm ?_⟩;refine⟨by rw[Kf];omega,λq3 H3 S3 dR sm3 g3=>?_⟩;obtain⟨ws1,w1,rr1⟩:=st1 q3 H3 S3 dR sm3 λg hg=>g3 g (lj _ hg);obtain⟨ws2,w2,rr2⟩:=st2 q3 H3 S3 dR sm3 λg hg=>g3 g (dg _ hg);refine⟨λi v e=>?_,?_⟩
      .obtain⟨x,y,ex,ey,rfl⟩:=Tr e
       obtain⟨x',ex',rx⟩:=rr1.get ex;obtain⟨y',ey',ry⟩:=rr2.get ey;refine⟨⟨ws1,ws2,x',y',w1,w2,ex',ey'⟩,λz H4 hz=>?_⟩;obtain⟨t,x2,y2,ht,rfl,rfl,g1,g2⟩:=hz;have e1:=(g1 ws1 w1).symm.trans ex';have e2:=(g2 ws2 w2).symm.trans ey';cases e1;cases e2;refine⟨gL ht,qD sm3 (.cons rx (.cons ry .nil)) (by show 2<=sizeLine;decide) ht⟩
      .refine⟨ws1,ws2,w1,w2,?_⟩
       rw[Kf,rr1.length,rr2.length];omega
     .exact k.elim
    .exact k.elim
 .exact k.elim
def kK:Nat->BK->BK
 |_,[]=>[]
 |n,x::xs=>.tup [.int n,x]::kK (n+1) xs
theorem Ce:∀(n:Nat)(xs:BK),(kK n xs).length=xs.length
 |_,[]=>rfl
 |n,x::xs=>by
  unfold kK;rw[cu,Ce _ _,cu]
theorem Cq:∀{n:Nat}{xs:BK}{i:Nat}{v:PV},(kK n xs)[i]?=some v->∃x,xs[i]?=some x/\v=.tup [.int ((n+i:Nat):Int),x]
 |n,[],i,v,e=>by simp[kK]at e
 |n,x::xs,0,v,e=>by
  unfold kK at e;simp at e;exact⟨x,rfl,e.symm⟩
 |n,x::xs,i+1,v,e=>by
  unfold kK at e;obtain⟨y,h1,h2⟩:=Cq (by simpa using e);refine⟨y,by simpa using h1,?_⟩;grind
def Mi:BO->aF->bQ (BK×Gd)
 |[.pv (.lst xs)],S=>.ok (kK 0 xs,[]) S
 |[.ref k],S=>match bT (.ref k) S with
  |.ok xs _=>.ok (kK 0 xs.1,xs.2) S
  |_=>.fail
 |_,_=>.fail
def Wa(ms:MA):MI:=λρ S=>(ms ρ S).bind Mi
theorem Hz {G:Gd}{a:Addr}(z:xs.length<=sizeLine)(st1:∀q H1 S1,bP p H q H1->aQ K q S1 H1->iQ G S1->∃vs,bV K H1 a vs/\aR K q.c H1 xs vs):iP K p H (kK 0 xs,G) (Xk K a):=by
 refine⟨by rw[Ce];exact z,λq3 H3 S3 dR sm3 g3=>?_⟩;obtain⟨ws1,w1,rr1⟩:=st1 _ _ _ dR sm3 g3;refine⟨λi v e=>?_,?_⟩
 .obtain⟨x,ex,rfl⟩:=Cq e
  obtain⟨x',ex',rx⟩:=rr1.get ex;refine⟨⟨ws1,x',w1,ex'⟩,λz H4 hz=>?_⟩;obtain⟨t,y2,ht,rfl,rfl,g1⟩:=hz;have e1:=(g1 _ w1).symm.trans ex';cases e1;refine⟨gL ht,qD sm3 (.cons ?_ (.cons rx .nil)) (by show 2<=sizeLine;decide) ht⟩;rw[Nat.zero_add];exact kA rfl
 .refine⟨ws1,w1,?_⟩
  rw[Ce,rr1.length]
  simp_all
theorem aaS {tp p:ai}(hg:Gl X "enumerate")(hm:X.mg "enumerate"=none)(hl:eR K cl E X [l] ms)(hs:autoParam (starEach [l] X.env=[(false,eval l X.env)]) Zqq):
  PIp K cl E X (.Tuple elts x1 tp) (.Call (.Name "enumerate" p) [l] [] pos) (Wa ms):=by
 intro hK;subst hK;refine PI.imp (ad2 hg hm (hl rfl) hs) ?_
 rintro σ H R ⟨p,S,ρ,s,ev,h⟩
 refine bZ s ev h λq H' as xs S' dD sm ev r k=>?_;unfold Mi at k;split at k
 .cases r with
  |cons r1 r2=>
   cases r2;have r1:=r1;obtain⟨a,vs,rfl,l,z,r⟩:=r1;exact⟨a,rfl,⟨vs,l.sq⟩,bY.ret k sm (Hz (by rw[r.length];exact z) λq H1 S1 st sm g=>⟨vs,(st.lat l).sq,st.reps r⟩)⟩
 .rename_i j
  cases r with
  |cons r1 r2=>
   cases r2;split at k
   .rename_i xs1 S1 hx
    obtain⟨a,e1,rfl⟩:=r1;cases z:S'[j]? with
    |none=>unfold bT at hx;simp only[z]at hx;cases hx
    |some o=>
     cases o with
     |lol _=>unfold bT at hx;simp only[z]at hx;cases hx
     |dic _ _=>unfold bT at hx;simp only[z]at hx;cases hx
     |dol _ _=>unfold bT at hx;simp only[z]at hx;cases hx
     |lst ys=>
      unfold bT at hx;simp only[z]at hx;cases hx;obtain⟨vs,h1,l1,r1⟩:=sm.obj j a _ e1 z;refine⟨a,rfl,⟨vs,bV.of h1⟩,bY.ret k sm (Hz (by rw[r1.length];exact l1) λq H1 S1 st sm g=>?_)⟩;obtain⟨ws,h2,l2,r2⟩:=sm.obj j a _ (st.at_ e1) (g _ av);exact⟨ws,bV.of h2,r2⟩
   .exact k.elim
 .exact k.elim
end
theorem kQ {k:Nat}(hr:dP k A):A.units+8<cLine:=by
 have:=hr.units;omega
section
variable{K:ae}{cl:Str->Addr}{E:XK}{X:Cx}{a b c e:ah}{m:ME}{pos:ai}{p q:Ph}{H H':Hp}{S:aF}
def eY(n:String):PV->BM
 |.int _=>if n="int" then some (.bl true)else if n="bool" then some (.bl false)else none
 |.tup _=>if n="tuple" then some (.bl true)else none
 |.lst _=>if n="list" then some (.bl true)else none
 |.str _=>if n="str" then some (.bl true)else none
 |.bl _=>if n="bool" then some (.bl true)else none
 |_=>none
theorem uN(K:ae)(n:String):nr K (.type n) (.type n)=some true:=by
 unfold nr
 simp_all
def F6(K:ae)(n:String):V->Hp->VK->Prop:=λx H Q=>(∃t b,kM K H x t/\nr K t (.type n)=some b/\Q (.bl b) H)\/(n="tuple"/\∃a xs,x=.ref a/\dB K H a xs/\Q (.bl true) H)\/(n="list"/\∃a xs,x=.ref a/\bV K H a xs/\Q (.bl true) H)
theorem aat(n:String):iM X (.builtin "isinstance") (λxs H Q=>∃x,xs=[x,.ty n]/\F6 X.K n x H Q):=by
 intro BP s σ H xs us Q I r h;obtain⟨x,rfl,h⟩:=h;obtain⟨u,c,rfl,rx,rc⟩:=E3 r;cases(show c=Value.type n from rc);rcases h with⟨t,b,ty,e,q⟩|⟨rfl,a,xs,rfl,t,q⟩|⟨rfl,a,xs,rfl,t,q⟩
 .exact X4 I rx ty e λtk=>⟨.bl b,H,I.tok tk,rfl,q⟩
 .cases rx
  obtain⟨its,_,⟨o,h1,h2,_⟩,_⟩:=I.tuple t;exact je a6 I.kIn ⟨o,h1,h2⟩ (uN X.K _) (λz=>nomatch z) λtk=>⟨.bl true,H,I.tok tk,rfl,q⟩
 .cases rx
  obtain⟨its,_,pl,_⟩:=I.list t;obtain⟨o,h1,h2,_⟩:=pl.isList;exact je vt I.kIn ⟨o,h1,h2⟩ (uN X.K "list") (λz=>nomatch z) λtk=>⟨.bl true,H,I.tok tk,rfl,q⟩
theorem afT(n:String):Tb K (F6 K n) (eY n):=λ{p S H a c x Q} s ra e k=>by
 have fin:∀b,c=.bl b->Q (.bl b) H:=λb h=>by
  subst h;exact k H _ (dI.refl H) (by rfl)
 cases a with
 |int i=>
  cases ra.int;unfold eY at e;dsimp only at e;split at e
  .rename_i hn
   cases e;subst hn;exact .inl ⟨_,true,.int i,uN K _,fin _ rfl⟩
  .split at e
   .rename_i hn
    cases e;subst hn;exact .inl ⟨_,false,.int i,aeH K,fin _ rfl⟩
   .cases e
 |bl i=>
  cases ra.bl;unfold eY at e;dsimp only at e;split at e
  .rename_i hn
   cases e;subst hn;exact .inl ⟨_,true,.bl i,uN K _,fin _ rfl⟩
  .cases e
 |str i=>
  cases ra.str;unfold eY at e;dsimp only at e;split at e
  .rename_i hn
   cases e;subst hn;exact .inl ⟨_,true,.str i,uN K _,fin _ rfl⟩
  .cases e
 |tup xs=>
  obtain⟨a,vs,rfl,t,_,_⟩:=ra.tup;unfold eY at e;dsimp only at e;split at e
  .rename_i hn
   cases e;exact .inr (.inl ⟨hn,a,vs,rfl,t,fin _ rfl⟩)
  .cases e
 |lst xs=>
  obtain⟨a,vs,rfl,t,_,_⟩:=ra.lst;unfold eY at e;dsimp only at e;split at e
  .rename_i hn
   cases e;exact .inr (.inr ⟨hn,a,vs,rfl,t,fin _ rfl⟩)
  .cases e
 |non=>cases e
theorem Ti {t:Str}{p p2:ai}(hg:Gl X "isinstance")(hm:X.mg "isinstance"=none)(hgt:Gl X t)(hmt:X.mg t=none)(hv:bootBuiltins t=some (.type n))(ha:aL K cl E X a m)
  (htn:autoParam (t≠"__name__") Zqw)(htd:autoParam ((t==("__debug__":Str))=false) Zqw)
  (he:autoParam (starEach [a,.Name t p2] X.env=(false,eval a X.env)::starEach [.Name t p2] X.env) Zqq)(he2:autoParam (starEach [.Name t p2] X.env=[(false,eval (.Name t p2) X.env)]) Zqq)(hpl:autoParam ((backTo pos (starEach [.Name t p2] X.env)).any (·.1)=false) Zqq):
  aL K cl E X (.Call (.Name "isinstance" p) [a,.Name t p2] [] pos) (bG (eY n) m):=by
 intro hK;subst hK;refine PE.imp (yT (aat n) hg hm PyProof.Rows.boot_isinstance (mL (ha rfl) (mL (adA hgt hmt hv (v:=.ty n) rfl htn htd) nS he2) he) 1#b 1#b he hpl) ?_
 rintro σ H Q ⟨p,S,ρ,s,ev,h⟩
 exact bZ s ev h λq H' as x S' dD sm ev r k=>⟨x,rfl,yP (afT n) sm r k⟩
def lP:PV->BM
 |.non=>some (.bl true)
 |_=>some (.bl false)
def Nj(K:ae):Sp:=λvs H Q _=>∃(a:Addr)(ns:BC),vs=[.ref a]/\bV K H a (ns.map V.int)/\ns.length<=63/\∀H',Q (.bl true) H'
theorem ac2 (ht:∀ns:BC,ns.length<=63->∃S,f [.pv (.lst (ns.map .int))] []=.ok (.pv (.bl true)) S){vs:List V}{H:Hp}{Q:VK}{E:XK}(h:Nj K vs H Q E):kN K cl f vs H Q E:=by
 obtain⟨a,ns,rfl,hS,hl,hQ⟩:=h;obtain⟨S,e⟩:=ht ns hl;have rs:∀(ns:List _),aR K (λ_=>False) H (ns.map .int) (ns.map _):=λns=>by
  induction ns with
  |nil=>exact .nil
  |cons n ns ih=>exact .cons (by rfl) ih
 refine⟨⟨[],λ_=>False,λ_=>False⟩,[],[.pv (.lst (ns.map .int))],⟨kn,rfl,(λ_ h=>absurd h (fm)),(λ_ h=>h),(λ_ h=>h.elim),λk a o e=>by simp at e ⟩,.cons ?_ .nil,?_⟩
 .refine⟨a,_,rfl,?_,?_,rs _ ⟩
  .rcases hS with(h |h) |h
   .exact .inl ⟨h,λz=>z⟩
   .exact .inr (.inl h)
   .exact .inr (.inr h)
  .rw[ak,jI]
   omega
 .rw[e]
  intro q H' x st sm r;have r:=r;rw[r];exact hQ H'
end
section
variable{K:ae}{e:ah}{p q:Ph}{H:Hp}
theorem dL.forget (h:dL K p H ρ σ)(i:Nat)(x:Option V):dL K p H (ρ.set i none) (σ.set i x):=by
 refine⟨by rw[ij,ij,h.len],λj u e=>?_⟩
 by_cases q:i=j
 .subst q
  by_cases l:i<ρ.length
  .simp_all
  .simp_all
 .rw[fu q]at e⊢
  exact h.at_ j u e
end
end L2.Pp
namespace L2
open PySem PySem.Spec PyProof.Rows Bn
section
variable{X:Cx}
theorem An(is:BC):∀j,j<=is.length->preSum (λi=>is.getD i 0) j=(is.take j).sum
 |0,_=>rfl
 |j+1,h=>by
  have hj:=h;rw[preSum,An _ j 1#a,List.take_add_one,ay hj,Option.toList_some,List.sum_append,List.sum_singleton];simp only[dj,ay hj,yh]
theorem aak(hc:X.calm=true):iM X (.builtin "sum") (λxs H Q=>∃(a:Addr)(is:BC),xs=[.ref a]/\bV X.K H a (is.map V.int)/\Q (.int is.sum) H):=by
 intro BP s σ H xs us Q I r h;obtain⟨a,is,rfl,hq,q⟩:=h;obtain⟨u,rfl,ru⟩:=jR r;cases ru;obtain⟨its,rv,pl,hz⟩:=I.list hq;have hl:=by
  have:=rv.length
  rwa[ak]at this
 refine call_sum_walkG (sy pl.isList ?_);have ha:a<s.heap.objs.size:=by
  obtain⟨o,ho,_⟩:=pl.isList;exact bi ho
 refine⟨_,_,_,_,_,_,λi=>is.getD i 0,rfl,Walks.list (show X.A.in1.handled=none from I.ok.hd hc) _ a (de ha) _,⟨⟨_,cy _ rfl,rfl,rfl⟩,Heap.IsList.at pl.isList λo e=>ar _ e⟩,λb hb=>?_,λi v hv=>?_,λh' tk t' kp=>?_⟩
 .have hb':=by simpa using hb
  rw[jo];rcases hb' with e |e<;>rw[e]
  .exact m9 _
  .exact o7 ha
 .have hv':=by simpa using hv
  have hi:i<is.length:=by
   grind
  obtain⟨u,hu,ru⟩:=rv.get (by rw[aw,ay hi];rfl);rw[hv']at hu;cases hu;obtain⟨t,ht⟩:=(show ∃t,v=ph is[i] t from ru);exact⟨t,by rw[ht];simp[dj,hi]⟩
 .have e:preSum (λi=>is.getD i 0) its.toArray.size=is.sum:=by
   rw[bj,<-hl,An is _ (aj _),yi]
  rw[e];have I1:aG X BP σ H {s with heap:=s.heap.push {cls:=.type "list_iterator",data:=.fields #[.ref a,.int 0 0]},toks:=s.toks}:=I.kept λb o z=>ar _ z;have fp:=I.fpOk (aj _) (I.hok.fresh (aj _));obtain⟨f0,f1,f2,f3,f4,f5⟩:=fp;exact⟨.int is.sum,H,I1.turned (λb o hb z=>kp b o (by simpa using hb) z) f0 f1 f3 f4 f5,⟨t',rfl⟩,q⟩
end
end L2
namespace L2.Pp
open PySem PySem.Spec PyProof.Rows Bn
section
variable{K:ae}
def kD:BK->Option BC
 |[]=>some []
 |.int b::r=>match kD r with
  |some bs=>some (b::bs)
  |none=>none
 |_::_=>none
theorem Ge :∀{xs:BK}{bs:BC}{vs:List V},kD xs=some bs->aR K c H xs vs->vs=bs.map V.int
 |[],bs,vs,e,r=>by
  cases e;exact r
 |.int b::xs,bs,vs,e,r=>by
  unfold kD at e;split at e
  .rename_i cs h
   cases e;obtain⟨v,w,rfl,r1,r2⟩:=r;rw[r1,Ge h r2];rfl
  .cases e
 |.non::_,_,_,e,_=>by cases e
 |.bl _::_,_,_,e,_=>by cases e
 |.str _::_,_,_,e,_=>by cases e
 |.tup _::_,_,_,e,_=>by cases e
 |.lst _::_,_,_,e,_=>by cases e
def rE:BK->BM
 |[.lst xs]=>(kD xs).map λbs=>.int bs.sum
 |_=>none
theorem aga:lF K (λxs H Q=>∃(a:Addr)(is:BC),xs=[.ref a]/\bV K H a (is.map V.int)/\Q (.int is.sum) H) rE:=λ{p S H as c xs Q} s ra e k=>by
 unfold rE at e;split at e
 .rename_i zs
  cases y:kD zs with
  |none=>simp_all
  |some bs=>
   rw[y]at e;cases e;cases ra with
   |cons h t=>
    cases t;obtain⟨a,vs,rfl,l,z,r⟩:=h.lst;rw[Ge y r]at l;exact⟨a,bs,rfl,l,k H _ (dI.refl H) (kA rfl)⟩
 .cases e
end
def kH{α:Type}(xs:List α)(lo hi:BJ)(st:Int):List α:=
 (sliceRange (sliceBounds lo hi (some st) xs.length).1 (sliceBounds lo hi (some st) xs.length).2.1 (sliceBounds lo hi (some st) xs.length).2.2).filterMap (xs[·]?)
theorem Ym(its:BF)(lo hi:BJ)(st:Int):slicePick its.toArray lo hi (some st)=(kH its lo hi st).toArray:=by
 unfold slicePick kH
 simp_all
theorem Ep{α β:Type}{R:α->β->Prop}:∀{xs:List α}{ys:List β}(ks:List Nat),xs.length=ys.length->(ks.filterMap (xs[·]?)).length=(ks.filterMap (ys[·]?)).length
 |xs,ys,[],_=>rfl
 |xs,ys,k::ks,h=>by
  have ih:=Ep (R:=R) ks h
  by_cases hk:k<xs.length
  .simp_all
  grind
theorem Rr (xs:List α)(lo hi:BJ)(st:Int):(kH xs lo hi st).length<=xs.length:=by
 have e:=slicePick_size_le (yj xs.length dk) lo hi (some st);have e2:(kH xs lo hi st).length=(slicePick (yj xs.length dk) lo hi (some st)).size:=by
  have:=Ym (rm xs.length dk) lo hi st;rw[show yj _ _=(rm xs.length dk).toArray by simp,this];unfold kH;rw[List.length_replicate];exact Ep (R:=λ_ _=>True) _ 1#d
 simp_all
section
variable{K:ae}{cl:Str->Addr}{E:XK}{X:Cx}{e:ah}{m:ME}{pos p2:ai}
theorem aV.at_ (r:aV xs us):∀{k:Nat}{x:V},xs[k]?=some x->∃u,us[k]?=some u/\bS x u:=λ{k x} h=>by
 obtain⟨u,e1,e2⟩:=r.get h;exact⟨u,e1,e2⟩
theorem aV.pick (r:aV xs us):∀ks:List Nat,aV (ks.filterMap (xs[·]?)) (ks.filterMap (us[·]?))
 |[]=>.nil
 |k::ks=>by
  have ih:=aV.pick r ks;rw[kd,kd];cases h:xs[k]? with
  |none=>
   have:us[k]?=none:=by
    rw[o8]at h⊢;rw[<-r.length];exact h
   rw[this];exact ih
  |some x=>
   obtain⟨u,e1,e2⟩:=aV.at_ r h;rw[e1];exact .cons e2 ih
theorem aR.pick {xs:BK}{us:List V}(r:aR K c H xs us):∀ks:List Nat,aR K c H (ks.filterMap (xs[·]?)) (ks.filterMap (us[·]?))
 |[]=>.nil
 |k::ks=>by
  have ih:=aR.pick r ks;rw[kd,kd];cases h:xs[k]? with
  |none=>
   have:us[k]?=none:=by
    rw[o8]at h⊢;rw[<-r.length];exact h
   rw[this];exact ih
  |some x=>
   obtain⟨u,e1,e2⟩:=r.get h;rw[e1];exact .cons e2 ih
def F8(v:PV)(lo hi:BJ)(st:Int):BM:=match v with
 |.lst xs=>some (.lst (kH xs lo hi st))
 |_=>none
def rD(m:ME)(ml mh:MO)(st:Int):ME:=λρ S=>(m ρ S).bind λv S1=>(ml ρ S1).bind λlo S2=>(mh ρ S2).bind λhi S3=>iC ((rd S3 v).bind λx=>F8 x lo hi st) S3
def ahi(K:ae)(st:Int)(te:TE)(tl th:TO):TE:=λσ H Q=>te σ H λx H1=>tl σ H1 λl H2=>th σ H2 λu H3=>∃a xs,x=.ref a/\bV K H3 a xs/\∀p,H3 p=none->Q (.ref p) (aM H3 p (.lst (kH xs l u st)))
theorem Z8{lo hi:Option ah}{es:ah}{te:TE}{tl th:TO}{st:Int}(h0:st≠0)(he:PE X e te)(hl:PO X lo tl)(hu:PO X hi th)(hst:PO X (some es) λ_ H Q=>Q (some st) H):PE X (.Subscript e (.Slice lo hi (some es) p2) pos) (ahi X.K st te tl th):=by
 intro BP s σ H Q I h;refine xa (aY (he BP s σ H _ I h) λv s1 hq=>?_);rcases hq with⟨x,H1,I1,r1,q1⟩;refine wpAny_Slice (aY (hl BP s1 σ H1 _ I1 q1) λvl s2 ⟨l,H2,I2,pl,q2⟩=>aY (hu BP s2 σ H2 _ I2 q2) λvu s3 hq=>?_);rcases hq with⟨u,H3,I3,pu,q3⟩;refine aY (hst BP s3 σ H3 (λo H'=>o=some st/\H'=H3) I3 ⟨rfl,rfl⟩) ?_
 rintro vs s4 ⟨o,H4,I4,ps,eo,eH⟩
 subst eo eH;obtain⟨a,xs,rfl,hx,q⟩:=q3;cases r1;have I5:aG X BP σ H4 {s4 with heap:=s4.heap.push {cls:=.type "slice",data:=.fields #[vl,vu,vs]}}:=I4.kept λb ob q=>ar _ q;obtain⟨its,r,ht,hz⟩:=I5.list hx;have hlen:=r.length;have hg:wpAny 1#g X.A (getItem (.ref a) (.ref s4.heap.objs.size)) (EP X BP σ Q) X.xe {s4 with heap:=s4.heap.push {cls:=.type "slice",data:=.fields #[vl,vu,vs]}}:=by
  refine f6 ht.isList (d5 ..) pl pu ps (by simpa using h0) ?_ (by rw[bj]<;>omega);rw[Ym];refine⟨.ref _,_,I5.laid (λb ob q=>ar _ q) (aj _) ?_,rfl,q _ (I5.hok.fresh (aj _))⟩;refine⟨fx (Rr xs l u st) hz,_,0,?_,cy _ rfl⟩;unfold kH;rw[hlen];exact aV.pick r _
 exact tail_any ht.isList.typeIs xf.lookup hg (by with_unfolding_all rfl)
theorem Mx{lo hi:Option ah}{es:ah}{ml mh:MO}{st:Int}(he:aL K cl E X e m)(hl:pK K cl E X lo ml)(hu:pK K cl E X hi mh)(hst:PO X (some es) λ_ H Q=>Q (some st) H)(h0:st≠0):aL K cl E X (.Subscript e (.Slice lo hi (some es) p2) pos) (rD m ml mh st):=by
 intro hK;subst hK;refine(Z8 h0 (he rfl) (hl rfl) (hu rfl) hst).imp ?_
 rintro σ H Q ⟨p,S,ρ,s,e,h⟩
 refine bZ s e h λq H1 a x S1 st s1 e1 r1 h1=>bZ s1 e1 h1 λq2 H2 lo lo' S2 st2 s2 e2 r2 h2=>bZ s2 e2 h2 λq3 H3 hi hi' S3 dR s3 e3 r3 h3=>?_;cases r2;cases r3;have ra:=dR.repA (st2.repA r1);obtain⟨c,ec,k⟩:=oS s3 h3;cases z:rd S3 a with
 |none=>rw[z]at ec;cases ec
 |some v=>
  rw[z]at ec;have rv:=qL s3 ra z;cases v with
  |lst xs=>
   have ec:=ec;cases ec;obtain⟨a1,vs,rfl,l1,z1,r1⟩:=rv.lst;refine⟨a1,vs,rfl,l1,λt ht=>k _ _ (gL ht) (lI s3 ?_ (fx (Rr vs lo hi _) z1) ht)⟩;unfold kH;rw[r1.length];exact aR.pick r1 _
  |_=>cases ec
theorem ad7{j:Nat}{p1 p2:ai}:PO X (some (.UnaryOp .USub (.Constant (.int 1) j p1) p2)) λ_ H Q=>Q (some (-1)) H:=by
 intro BP s σ H Q I h;exact(Ch (C0 Fz Aa)) BP s σ H Q I ⟨1,rfl,-1,rfl,h⟩
theorem ae4 :PO X (some (.Constant (.int i) j p1)) λ_ H Q=>Q (some i) H:=by
 intro BP s σ H Q I h;exact Ch Aa _ s _ H Q I ⟨i,rfl,h⟩
end
end L2.Pp
namespace L2
open PySem PySem.Spec PyProof.Rows Bn
open PySem.W (KasT kas_sort kas_ask KatLex KatGo KatTups kat_run kat_kind kat_lt kat_one kas_item kat_snds)
def wF(h:Heap)(v:Value)(us:BC):Prop:=∃a o its n,v=.ref a/\h.get? a=some o/\o.cls=.type "tuple"/\o.data=.seq (ko its) n/\aV (us.map V.int) its
section
variable{prog:Program}{w:am}{A:aq}{E:Value->aa->Prop}{s:aa}
theorem Ax:∀(us vs:BC)(its jts:BF)(i:Nat)(fin:Bool),aV (us.map V.int) its->aV (vs.map V.int) jts->fin=decide (us.length<vs.length)->Q (HT.lexLt us vs) s->KatLex prog w A true fin Q (its.zip jts) i s
 |[],vs,its,jts,i,fin,h1,h2,hf,hQ=>by
  cases h1;cases vs with
  |nil=>
   subst hf;exact oj hQ
  |cons v vs=>
   have e:fin=true:=by rw[hf];simp
   subst e;exact oj hQ
 |u::us,[],its,jts,i,fin,h1,h2,hf,hQ=>by
  cases h2;have e:fin=false:=by rw[hf];simp
  subst e;rw[wj];exact oj hQ
 |u::us,v::vs,its,jts,i,fin,h1,h2,hf,hQ=>by
  cases h1 with
  |cons r1 t1=>
   cases h2 with
   |cons r2 t2=>
    obtain⟨k1,rfl⟩:=r1;obtain⟨k2,rfl⟩:=r2;rw[wk];refine q0 (wpAny_eqBool_int ?_);rw[HT.lexLt_cons]at hQ
    by_cases e:u=v
    .rw[if_pos e]at hQ
     have b:(u==v)=true:=by simpa using e
     rw[b];exact q9 (Ax us vs _ _ (i+1) fin t1 t2 (by rw[hf];simp) hQ)
    .rw[if_neg e]at hQ
     have b:(u==v)=false:=by simpa using e
     rw[b];refine t5 ?_
     by_cases hi:i=0
     .subst hi
      exact oneLt_int hQ
     .have b2:(true&&i==0)=false:=by simpa using hi
      rw[b2];exact kat_one _ _ (PySem.P.lt_int hQ)
theorem afi {us vs:BC}{Q:Bool->aa->Prop}(hx:wF s.heap x us)(hy:wF s.heap y vs)(h:Q (HT.lexLt us vs) s):wpAny (model prog w) A (keyLt' (tuples' true) x y) Q E s:=by
 obtain⟨a,o,its,n,rfl,ho,hc,hd,r⟩:=hx;obtain⟨b,o2,jts,k,rfl,ho2,hc2,hd2,r2⟩:=hy;refine kat_lt ho hd ho2 hd2 ?_;have l1:=r.length;have l2:=r2.length;rw[ak]at l1 l2;refine Ax _ _ _ _ 0 _ r r2 ?_ h
 simp_all
theorem Ho:∀(vs:BF)(uss:BD),vs.length=uss.length->(∀i,i<vs.length->wF s.heap (vs.getD i dk) (uss.getD i [])/\uss.getD i []≠[])->∃fs,KatTups s.heap vs fs/\fs.length=vs.length/\∀v∈fs,∃i t,v=.int i t
 |[],uss,_,_=>⟨[],trivial,rfl,λ_ h=>absurd h fm⟩
 |v::vs,[],hl,_=>by cases hl
 |v::vs,us::uss,hl,h=>by
  obtain⟨fs,k,l,q⟩:=Ho vs uss (by simpa using hl) λi hi=>by
   have:=h (i+1) (by simp;omega);simpa using this
  obtain⟨⟨a,o,its,n,e,ho,hc,hd,r⟩,ne⟩:=h 0 1#d;subst e;cases us with
  |nil=>exact absurd rfl ne
  |cons u us=>
   cases r with
   |cons r1 t1=>
    obtain⟨t,rfl⟩:=r1;refine⟨.int u t::fs,t6 ho hc hd 1#d k,by simp[l],λx hx=>?_⟩;rcases br.mp hx with rfl |hx
    .exact⟨u,t,rfl⟩
    .exact q x hx
end
def tK(K:ae)(H:Hp)(ts:List V)(uss:BD):Prop:=ts.length=uss.length/\∀i t,ts[i]?=some t->∃a,t=.ref a/\dB K H a ((uss.getD i []).map V.int)/\uss.getD i []≠[]
end L2
namespace L2.Pp
open PySem PySem.Spec PyProof.Rows Bn
open PySem.W (kas_sort)
section
variable{K:ae}
def iV:BK->Option BD
 |[]=>some []
 |.tup us::r=>match kD us,iV r with
  |some is,some uss=>some (is::uss)
  |_,_=>none
 |_::_=>none
theorem zD:∀{xs:BK}{uss:BD},iV xs=some uss->xs.length=uss.length
 |[],uss,e=>by cases e;rfl
 |.tup _::r,uss,e=>by
  unfold iV at e;split at e
  .rename_i is uss' h1 h2
   cases e;rw[cu,cu,zD h2]
  .cases e
 |.non::_,_,e=>by cases e
 |.bl _::_,_,e=>by cases e
 |.int _::_,_,e=>by cases e
 |.str _::_,_,e=>by cases e
 |.lst _::_,_,e=>by cases e
theorem Nw :∀{xs:BK}{uss:BD}{vs:List V},iV xs=some uss->aR K c H xs vs->∀i t,vs[i]?=some t->∃a,t=.ref a/\dB K H a ((uss.getD i []).map V.int)
 |[],uss,vs,e,r,i,t,h=>by
  subst r;simp at h
 |.tup us::r,uss,vs,e,rr,i,t,h=>by
  unfold iV at e;split at e
  .rename_i is uss' h1 h2
   cases e;obtain⟨v,w,rfl,r1,r2⟩:=rr;cases i with
   |zero=>
    cases h;obtain⟨a,ws,rfl,sq,_,r3⟩:=r1;rw[Ge h1 r3]at sq;exact⟨a,rfl,sq⟩
   |succ i=>
    have:=Nw h2 r2 i t (by simpa using h);simpa using this
  .cases e
 |.non::_,_,_,e,_,_,_,_=>by cases e
 |.bl _::_,_,_,e,_,_,_,_=>by cases e
 |.int _::_,_,_,e,_,_,_,_=>by cases e
 |.str _::_,_,_,e,_,_,_,_=>by cases e
 |.lst _::_,_,_,e,_,_,_,_=>by cases e
theorem uL {xs:BK}{vs:List V}(r:aR K c H xs vs):∀ps:List Nat,aR K c H (ps.map λi=>xs.getD i .non) (ps.map λi=>vs.getD i .non)
 |[]=>.nil
 |i::ps=>by
  refine .cons ?_ (uL r _)
  by_cases hi:i<xs.length
  .obtain⟨v,e1,e2⟩:=r.get (ay hi)
   simp_all
  .have hl:=r.length
   have q1:xs.getD i .non=.non:=by simp[dj,hi]
   have q2:vs.getD i .non=.non:=by grind
   show bD K c H (xs.getD i _) (vs.getD i _);rw[q1,q2];rfl
end
end L2.Pp
namespace L2
section
open PySem.W (KasT kas_sort)
theorem zL:∀u:BC,HT.lexLt u u=false
 |[]=>rfl
 |x::u=>by rw[HT.lexLt_cons,if_pos rfl,zL u]
theorem vD:∀u v:BC,u=v\/HT.lexLt u v=true\/HT.lexLt v u=true
 |[],[]=>.inl rfl
 |[],_::_=>.inr (.inl rfl)
 |_::_,[]=>.inr (.inr rfl)
 |x::u,y::v=>by
  rw[HT.lexLt_cons,HT.lexLt_cons]
  by_cases h:x=y
  .subst h
   rw[if_pos rfl,if_pos rfl];rcases vD u v with h |h |h
   .exact .inl (by rw[h])
   .exact .inr (.inl h)
   .exact .inr (.inr h)
  .rw[if_neg h,if_neg λz=>h z.symm]
   by_cases q:x<y
   .exact .inr (.inl (by simpa using q))
   .exact .inr (.inr (by grind))
theorem pV:∀u v w:BC,HT.lexLt u v=true->HT.lexLt v w=true->HT.lexLt u w=true
 |[],[],_,h,_=>by cases h
 |[],_::_,[],_,h=>by cases h
 |[],_::_,_::_,_,_=>rfl
 |_::_,[],_,h,_=>by cases h
 |_::_,_::_,[],_,h=>by cases h
 |x::u,y::v,z::w,h1,h2=>by
  rw[HT.lexLt_cons]at h1 h2⊢
  by_cases e1:x=y
  .subst e1
   rw[if_pos rfl]at h1
   by_cases e2:x=z
   .rw[if_pos e2]at h2⊢
    exact pV u v w h1 h2
   .rw[if_neg e2]at h2⊢
    exact h2
  .grind
theorem yV (h:HT.lexLt u v=true):HT.lexLt v u=false:=by
 cases q:HT.lexLt v u with
 |false=>rfl
 |true=>
  have:=pV u v u h q;rw[zL]at this<;>grind
def r3(a b c d e f:Bool):Bool:=(!(a&&b)||c)&&(!(d&&e)||f)
end
open PySem PySem.Spec PyProof.Rows Bn
theorem acz {own1 own:List Str}{cap1 cap:List (Nat×Str)}{C:Addr}{BQ:aa}{BR:Hp}{ex:List Addr}(so:Scope)(hso:X.env.scope=so)(hk:so.kind=.function)(kind:sc.kind=.function)(names:∀y∈sc.names,y.2=.local->sc.names.lookup y.1=some .local)
  (nocell:∀y∈sc.names,y.2≠.cell)(free:∀y∈sc.names,y.2=.free->sc1.names.lookup y.1=some .free/\so.names.lookup y.1=some .cell)(at':∀p∈cap,(cN own1 cap1)[p.1]?=some p.2)(hcap:∀p∈cap,sc.names.lookup p.2=some .free):
  iH (eU X sc1 (cN own1 cap1) C BQ BR ex) sc own cap:=
 ⟨kind,names,nocell,λy hy e=>by
  obtain⟨f1,f2⟩:=free y hy e;exact uH (by rw[hso];exact hk) f1 (by show X.env.scope.names.lookup _=_;rw[hso];exact f2),at',hcap⟩
section
variable{M:Model}{A:aq}{E:Value->aa->Prop}{s:aa}
theorem P4 {outer:bn}{Q:bn->aa->Prop}
  (hQ:Q (newEnv scope s.heap.objs.size globals (cellsFrom (s.heap.objs.size+1) scope.names closure) qual none .none (some outer) builtinsNs) {s with heap:=pushCells (s.heap.push {cls:=.type "dict",data:=.dict #[]}) scope.names}):
  wpAny M A (newFunctionEnv scope globals closure [] qual none .none (some outer)) Q E s:=by
 refine ag (wpAny_alloc ?_);refine ag (wpAny_layCells _ (λname kind cells=>rfl) _ _ _ _ ?_);rw[show({s with heap:=s.heap.push _}:aa).heap.objs.size=s.heap.objs.size+1 from jo ..];refine ag ?_;exact ao (ao hQ)
end
theorem Sh:∀(names:List (Str×ig))(n:Nat)(acc:List (Str×Addr)),(∀x y c,acc.lookup x=some c->acc.lookup y=some c->x=y)->(∀x c,acc.lookup x=some c->c<n)->
  ∀x y c,(cellsFrom n names acc).lookup x=some c->(cellsFrom n names acc).lookup y=some c->x=y
 |[],n,acc,hi,_,x,y,c,e1,e2=>hi x y c e1 e2
 |(name,kind)::r,n,acc,hi,hb,x,y,c,e1,e2=>by
  unfold cellsFrom at e1 e2
  by_cases k:(kind==ik)=true
  .rw[if_pos k]at e1 e2
   refine Sh r _ _ (by grind) (by grind) x y c e1 e2<;>grind
  .rw[if_neg k]at e1 e2
   exact Sh r n _ hi hb x y c e1 e2
theorem vH{n0:Nat}:∀(names:List (Str×ig))(n:Nat)(acc:List (Str×Addr))(x:Str),((∃c,acc.lookup x=some c/\n0<=c)\/(x,ik)∈names)->n0<=n->∃c,(cellsFrom n names acc).lookup x=some c/\n0<=c
 |[],n,acc,x,h,hn=>by
  rcases h with h |h
  .exact h
  .cases h
 |(name,kind)::r,n,acc,x,h,hn=>by
  unfold cellsFrom
  by_cases k:(kind==ik)=true
  .rw[if_pos k]
   refine vH r _ _ x ?_ (yk hn);cases w:x==name with
   |true=>exact .inl ⟨n,by rw[ib,w],hn⟩
   |false=>
    rcases h with⟨c,h,z⟩|h
    .exact .inl ⟨c,by rw[ib,w];exact h,z⟩
    .rcases br.mp h with z |z
     .grind
     .exact .inr z
  .rw[if_neg k]
   refine vH r n _ x ?_ hn;rcases h with h |h
   .exact .inl h
   .rcases br.mp h with z |z
    .grind
    .exact .inr z
theorem Ug:∀(names:List (Str×ig))(n:Nat)(acc:List (Str×Addr))(x:Str)(c:Addr),n0<=n->(cellsFrom n names acc).lookup x=some c->n0<=c\/acc.lookup x=some c
 |[],n,acc,x,c,hn,e=>.inr e
 |(name,kind)::r,n,acc,x,c,hn,e=>by
  unfold cellsFrom at e
  by_cases k:(kind==ik)=true
  .rw[if_pos k]at e
   rcases Ug r _ _ x c (yk hn) e with z |z
   .exact .inl z
   .rw[ib]at z
    cases w:x==name<;>simp_all
  .rw[if_neg k]at e
   exact Ug r n _ x c hn e
theorem La:∀(names:List (Str×ig))(n:Nat)(acc:List (Str×Addr))(x:Str),(x,ik)∉names->(cellsFrom n names acc).lookup x=acc.lookup x
 |[],n,acc,x,h=>rfl
 |(name,kind)::r,n,acc,x,h=>by
  unfold cellsFrom;have hr:(x,ik)∉r:=λz=>h (bh _ z)
  by_cases k:(kind==ik)=true
  .rw[if_pos k,La r _ _ x hr,ib]
   cases w:x==name<;>simp_all
  .rw[if_neg k,La r _ _ x hr]
theorem Gg:∀(names:List (Str×ig))(h:Heap)(acc:List (Str×Addr)),(∀x c,acc.lookup x=some c->∃v,h.IsCell c v)->∀x c,(cellsFrom h.objs.size names acc).lookup x=some c->∃v,(pushCells h names).IsCell c v
 |[],h,acc,hc,x,c,e=>hc x c e
 |(name,kind)::r,h,acc,hc,x,c,e=>by
  unfold cellsFrom at e;unfold pushCells
  by_cases k:(kind==ik)=true
  .rw[if_pos k]at e⊢
   rw[<-jo h _]at e;refine Gg r _ _ (λy c e=>?_) x c e;rw[ib]at e;cases w:y==name with
   |true=>
    rw[w]at e;cases e;exact⟨none,_,cy _ rfl,rfl⟩
   |false=>
    rw[w]at e;obtain⟨v,z⟩:=hc y c e;exact⟨v,z.keeps λb o e=>ar _ e⟩
  .rw[if_neg k]at e⊢
   exact Gg r h _ hc x c e
theorem Ro{env:bn}:∀{names:List (Str×ig)}{x:Str},
  (let l:=(names.map λ(n,k)=>if(k==jd&&env.scope.kind== .function&&env.kindOf n==some .cell)then(n,ik)else(n,k)).lookup x;l=some .cell\/l=some .free)->(x,jd)∈names\/(x,ik)∈names
 |[],x,h=>by
  simp_all
 |(n,k)::r,x,h=>by
  have ih:=@Ro env r x<;>grind
theorem Bo{env:bn}:∀{names:List (Str×ig)}{x:Str},names.lookup x=some .cell->
  (names.map λ(n,k)=>if(k==jd&&env.scope.kind== .function&&env.kindOf n==some .cell)then(n,ik)else(n,k)).lookup x=some .cell
 |[],x,h=>by cases h
 |(n,k)::r,x,h=>by
  rw[au];dsimp only;rw[ib]at h;cases w:x==n with
  |true=>
   rw[w]at h;have kf:=cq h;subst kf;rw[if_neg 1#d,ib,w]
  |false=>
   rw[w]at h;have ih:=@Bo env r x h
   by_cases c:(k==jd&&env.scope.kind== .function&&env.kindOf n==some .cell)=true
   .rw[if_pos c,ib,w]
    exact ih
   .rw[if_neg c,ib,w]
    exact ih
def kC(X:Cx)(sc:Scope)(N:List Str)(C:Addr)(BQ:aa)(BR:Hp)(ex:List Addr):Cx where
 prog:=X.prog
 w:=X.w
 K:=X.K
 mg:=X.mg
 base:=X.base
 A:=X.A
 N:=N
 BQ:=BQ
 BR:=BR
 env:=compEnvC sc (cellsFrom (C+1) sc.names (hJ X.env sc.names [])) C X.env
 outer:=X.stack
 stack:=X.stack
 ex:=ex
 fn:=λx=>sc.names.lookup x==some .cell
 calm:=X.calm
 pn:=[]
 xe:=λ_ _=>False
structure oV(X:Cx)(sc:Scope)(own:List Str)(cap:List (Nat×Str)):Prop where
 kind:sc.kind=.function
 names:∀y∈sc.names,y.2=.local->sc.names.lookup y.1=some .local
 cells:∀y∈sc.names,y.2=.cell->sc.names.lookup y.1=some .cell
 free:∀y∈sc.names,y.2=.free->X.env.kindOf y.1=some .cell
 at':∀p∈cap,X.N[p.1]?=some p.2
 cap:∀p∈cap,sc.names.lookup p.2=some .free
section
variable{X:Cx}{sc:Scope}{own:List Str}{cap:List (Nat×Str)}{BP:List (Addr×Obj)}{σ:St}{H:Hp}{s:aa}{elt target iter:ah}{pos pos':ai}{wi:TI}{g:TG}{te:TE}{Q:VK}
theorem oV.has(k:oV X sc own cap)(ok:X.Ok):∀p∈sc.names,p.2=.free->∃c,X.env.cells.lookup p.1=some c:=λp hp e=>ok.has _ (.inl (k.free p hp e))
theorem aG.cmpC(k:oV X sc own cap){h4:Heap}{fp:List Addr}{t':Nat}(I:aG X BP σ H s)(hf:∀b∈fp,fZ X BP H b)(hlt:∀b∈fp,b<s.heap.objs.size)
  (e4:h4=pushCells (s.heap.push {cls:=.type "dict",data:=.dict #[]}) sc.names):aG (kC X sc (cN own cap) s.heap.objs.size s H fp) [] (jC own cap σ) H {s with heap:=h4,toks:=t'}:=by
 have kp:∀b o,s.heap.get? b=some o->h4.get? b=some o:=λb o e=>by
  rw[e4];exact yl _ _ b o (ar _ e)
 have hns:h4.Ns s.heap.objs.size (λ_=>none):=by
  rw[e4];exact(Heap.Ns.new ..).keeps λb o e=>yl _ _ b o e
 have hcl:∀y c,(hJ X.env sc.names []).lookup y=some c->X.env.cells.lookup y=some c:=λy c e=>by
  rcases yB sc.names [] (k.has I.ok) y c e with z |z
  .cases z
  .exact z
 have clt:∀y c,X.env.cells.lookup y=some c->c<s.heap.objs.size:=λy c e=>by
  obtain⟨v,o,ho,_⟩:=I.cell y c e;exact bi ho
 have hfr:=λy c e=>
  (Ug (n0:=s.heap.objs.size+1) sc.names _ _ y c (aj _) e).imp (λz=>z) (hcl y c)
 have nst:∀b∈fp,b∉fP X.stack:=λb hb z=>by
  rcases br.mp (I.stkSub b z)with e |e
  .exact(hf b hb).2.1 e
  .exact(hf b hb).2.2.1 e
 refine⟨⟨I.ok.mod,k.kind,I.ok.glob,I.ok.blt,aj _,λx y c h1 h2=>?_,λx hx=>?_,λx c hfn e=>?_,I.ok.hd,I.ok.frames,.inl rfl,λb hb=>⟨de (hlt b hb),λx c e=>?_⟩,
  I.bs,fx I.ok.bsz I.sz,λb o e hb=>?_,nst,I.stack,I.stkFree⟩,rfl,I.bare,Un.kept kp,⟨_,hns,λi x v h1 h2 h3=>?_⟩,λx c e=>?_,I.hok.fresh (aj _),λx c e=>?_,λp hp=>absurd (show p∈([]:List (Addr×Obj)) from hp) 1#d,I.hok.kept kp,?_⟩
 .exact Sh sc.names _ _ (λx y c h1 h2=>I.ok.inj x y c (hcl x c h1) (hcl y c h2)) (λx c e=>o7 (clt x c (hcl x c e))) x y c h1 h2
 .rcases Ro hx with z |z
  .by_cases m:(x,ik)∈sc.names
   .obtain⟨c,e,_⟩:=vH (n0:=0) sc.names (s.heap.objs.size+1) (hJ X.env sc.names []) x (.inr m) (dq _)
    exact⟨c,e⟩
   .obtain⟨c,e⟩:=rV (env:=X.env) sc.names [] x (.inr z)
    exact⟨c,(La sc.names _ _ x m).trans e⟩
  .obtain⟨c,e,_⟩:=vH (n0:=0) sc.names (s.heap.objs.size+1) (hJ X.env sc.names []) x (.inr z) (dq _)
   exact⟨c,e⟩
 .have hm:(x,ik)∈sc.names:=jv (by simpa[kC]using hfn)
  obtain⟨c',e',hc'⟩:=vH (n0:=s.heap.objs.size) sc.names (s.heap.objs.size+1) (hJ X.env sc.names []) x (.inr hm) (nv _);have:=e'.symm.trans e;cases this;exact hc'
 .rcases hfr x c e with z |z
  .exact kr (xq (hlt b hb) z)
  .exact(hf b hb).2.2.2.2.1 x c z
 .rcases(hf b hb).2.2.2.1 with z |z
  .exact I.ok.noex b o e z
  .exact absurd (du (bi (I.ok.bs b o e).1) z) (ji _)
 .have hN:(cN own cap)[i]?=some x:=h1
  unfold cN at hN;unfold jC at h2
  by_cases hi:i<own.length
  .rw[fw (by simpa using hi),aw]at h2
   cases e:own[i]? with
   |none=>rw[e]at h2;cases h2
   |some z=>rw[e]at h2;cases h2
  .rw[ee (by simpa using hi),aw,ak]at h2
   rw[ee 1#a,aw]at hN;cases e:cap[i-own.length]? with
   |none=>rw[e]at h2;cases h2
   |some p=>
    rw[e]at h2 hN;have hp:p∈cap:=dh e;have hx:p.2=x:=cq hN;have hv:(σ[p.1]?).join=some v:=cq h2;have hv':σ[p.1]?=some (some v):=by
     cases e2:σ[p.1]? with
     |none=>rw[e2]at hv;cases hv
     |some z=>rw[e2]at hv;exact congrArg some hv
    have fr:=k.cap p hp;have nc:(p.2,ik)∉sc.names:=λz=>by
     have:=k.cells _ z rfl;rw[fr]at this;cases this
    have kc:X.env.kindOf p.2=some .cell:=k.free (p.2,.free) (jv fr) rfl;obtain⟨m0,_,hl⟩:=I.loc;obtain⟨u,ru,lk⟩:=hl p.1 p.2 v (k.at' p hp) hv' (.inr (.inl kc));refine⟨u,ru,?_⟩;rcases lk with⟨k1,_⟩|⟨_,c,ec,cell⟩
    .rw[kc]at k1
     cases k1
    .rw[<-hx]
     obtain⟨c',ec'⟩:=rV (env:=X.env) sc.names [] p.2 (.inr (jv fr));have:=(hcl _ _ ec').symm.trans ec;cases this;obtain⟨o,ho,hd⟩:=cell;exact .inr ⟨.inl (uH I.ok.kind fr kc),c,(La sc.names _ _ p.2 nc).trans ec',o,kp c o ho,hd⟩
 .show ∃v,h4.IsCell c v
  rw[e4];refine Gg sc.names _ (hJ X.env sc.names []) (λy c e=>?_) x c (by rw[jo];exact e);obtain⟨v,z⟩:=I.cell y c (hcl y c e);exact⟨v,z.keeps λb o e=>ar _ e⟩
 .rcases hfr x c e with z |z
  .exact I.hok.fresh (pw z)
  .exact I.freeC x c z
 .unfold jC
  show _=(cN own cap).length;unfold cN;rw[ax,ax,ak,ak,ak]
theorem aG.uncmpC {H3 H':Hp}{N:List Str}{σ':St}{C:Addr}{fp:List Addr}{pl:List (Addr×Obj)}(I:aG X BP σ H s)(hf:∀b∈fp,fZ X BP H b)(u:Un (fP X.stack) fp H H3 s.heap s3.heap)(os:s3.os=s.os)
  (J:aG (kC X sc N C s3 H3 fp) pl σ' H' s'):aG X BP σ H' s':=by
 have os':=(show s'.os=s3.os from J.os).trans os;refine I.call' os' (u.trans J.base) J.hok J.bare λb hb=>?_;obtain⟨_,f1,_,f3,f4,f5⟩:=hf b hb;exact⟨f3,f1,f4,f5⟩
theorem V8{use:Option (Value->Sem Unit)}{Qf:Value->aa->Prop}(k:oV X sc own cap)(hi:PI X target iter wi)(hc:X.calm=true)
  (hg:∀C BQ BR ex,PG (kC X sc (cN own cap) C BQ BR ex) target g)(he:∀C BQ BR ex,PE (kC X sc (cN own cap) C BQ BR ex) elt te)(I:aG X BP σ H s)(h:wC own cap wi g te σ H Q)
  (fin:∀D C s' H' m,aG X BP σ H' s'->fZ X BP H' C->s'.heap.Ns C m->Q (.ref D) H'->compPost 1#g X.A X.xe use Qf (.ref D) C (.ok .next) s')
  (hs:∀x,foldedSetIterable iter X.env x=pure x):
  wpAny 1#g X.A (comprehension (.ListComp elt [⟨target,iter,[],0⟩] sc pos) sc X.env pos' (newList []) false (eval iter X.env) use) Qf X.xe s:=by
 refine xv (use:=use) rfl hs (Ah (k.has I.ok)) k.kind k.names ?_;refine aY (hi BP s σ H _ I h) λv s1 h1=>aY h1 λitv s2 h2=>?_;obtain⟨it,fp,tn,J,H2,e,I2,T,st2,f2,hW⟩:=h2;subst e;refine ju (P4 ?_);have I3:aG X BP σ (aM H2 s2.heap.objs.size (.lst [])) {s2 with heap:=s2.heap.push {cls:=.type "list",data:=.seq ([]:BF).toArray},toks:=s2.toks}:=I2.lnew (ys:=[]) (its:=[]) .nil (dq _);have hD:H2 s2.heap.objs.size=none:=I2.fresh;have ltf:∀b∈fp,b<s2.heap.objs.size:=λb hb=>by
  obtain⟨o,ho,_⟩:=T.obj _ _ st2 b hb;exact bi ho
 have f3:∀b∈fp,fZ X BP (aM H2 s2.heap.objs.size (.lst [])) b:=λb hb=>⟨by rw[bK (de (ltf b hb))];exact(f2 b hb).1,(f2 b hb).2⟩;have un:Un (fP X.stack) fp H2 (aM H2 s2.heap.objs.size (.lst [])) s2.heap (s2.heap.push {cls:=.type "list",data:=.seq ([]:BF).toArray}):=Un.laid (λb u q=>ar _ q) (aj _) hD;have kp:∀b o,(s2.heap.push {cls:=.type "list",data:=.seq ([]:BF).toArray}).get? b=some o->(pushCells ((s2.heap.push {cls:=.type "list",data:=.seq ([]:BF).toArray}).push {cls:=.type "dict",data:=.dict #[]}) sc.names).get? b=some o:=λb o q=>yl _ _ b o (ar _ q);have J0:=I3.cmpC (t':=s2.toks) k f3 (λb hb=>du (ltf b hb) (by rw[jo];exact nv _)) rfl;have stat:∀{H':Hp},(∀b∈fp,H' b=none)->∀b∈fp,fZ _ [] H' b:=λhn b hb=>
  ⟨hn b hb,(J0.ok.exf b hb).1,J0.ok.exfs b hb,.inl hb,(J0.ok.exf b hb).2,λp hp=>absurd (show p∈([]:List (Addr×Obj)) from hp) 1#d⟩
 have st4:=T.keep _ _ _ st2 λb hb o q=>kp b o (ar _ q);have fr0:∀b∈fp,(aM H2 s2.heap.objs.size (.lst [])) b=none:=λb hb=>(f3 b hb).1;have loop:codeAny 1#g X.A (.compLoop (.ListComp elt [⟨target,iter,[],0⟩] sc pos) 0 (.ref it) (.ref s2.heap.objs.size) (compEnvC sc (cellsFrom ((s2.heap.push {cls:=.type "list",data:=.seq ([]:BF).toArray}).objs.size+1) sc.names (hJ X.env sc.names [])) (s2.heap.push {cls:=.type "list",data:=.seq ([]:BF).toArray}).objs.size X.env))
   (compPost 1#g X.A X.xe use Qf (.ref s2.heap.objs.size) (s2.heap.push {cls:=.type "list",data:=.seq ([]:BF).toArray}).objs.size) {s2 with heap:=(pushCells ((s2.heap.push {cls:=.type "list",data:=.seq ([]:BF).toArray}).push {cls:=.type "dict",data:=.dict #[]}) sc.names),toks:=s2.toks}:=by
  obtain⟨W,⟨m0,w0⟩,turn⟩:=hW s2.heap.objs.size hD;refine Jq (λn s'=>∃i σ' H' ys,aG _ [] σ' H' s'/\tn i s'.heap/\(∀b∈fp,H' b=none)/\W i n σ' H' ys) ?_ m0
   ⟨0,_,_,[],J0,st4,fr0,w0⟩
  rintro n s5 ⟨i,σ5,H5,ys,I5,st5,fr5,w5⟩
  obtain⟨hD5,w5⟩:=turn i n σ5 H5 ys w5;rcases w5 with⟨stop,qn⟩|⟨go,hlt,step⟩
  .refine aY (T.done (kC X sc (cN own cap) (s2.heap.push {cls:=.type "list",data:=.seq ([]:BF).toArray}).objs.size {s2 with heap:=s2.heap.push {cls:=.type "list",data:=.seq ([]:BF).toArray},toks:=s2.toks} (aM H2 s2.heap.objs.size (.lst [])) fp) rfl rfl rfl hc i [] s5 σ5 H5 _ I5 (stat fr5) st5 stop) ?_
   rintro r s6 ⟨hr,I6⟩
   subst hr;obtain⟨m,hn,_⟩:=id I6.loc;exact fin _ _ s6 H5 m (I2.uncmpC (s3:={s2 with heap:=s2.heap.push {cls:=.type "list",data:=.seq ([]:BF).toArray},toks:=s2.toks}) f2 un rfl I6) (I3.fpOk (aj _) I6.free) hn qn
  .refine aY (T.item (kC X sc (cN own cap) (s2.heap.push {cls:=.type "list",data:=.seq ([]:BF).toArray}).objs.size {s2 with heap:=s2.heap.push {cls:=.type "list",data:=.seq ([]:BF).toArray},toks:=s2.toks} (aM H2 s2.heap.objs.size (.lst [])) fp) rfl rfl rfl hc i [] s5 σ5 H5 _ I5 (stat fr5) st5 go) ?_
   rintro r s6 ⟨u,hr,h6⟩
   subst hr;refine aY h6 ?_
   rintro _ s7 ⟨x,H7,I7,r7,y7,st7,fr7⟩
   have I7':=I7.pinned (stat fr7) (T.obj _ _ st7);refine aY (hg _ _ _ _ _ s7 σ5 H7 x u _ I7' r7 (step x H7 y7)) ?_
   rintro _ s8 ⟨σ8,H8,I8,q8⟩
   refine aY (he _ _ _ _ _ s8 σ8 H8 _ I8 q8) ?_
   rintro v9 s9 ⟨y,H9,I9,r9,hD9,m',hm,w9⟩
   refine aY (rS _ s9 σ8 H9 (.ref s2.heap.objs.size) [y] (.ref s2.heap.objs.size) [v9] (λ_ H'=>H'=aM H9 s2.heap.objs.size (.lst (ys++[y]))) I9 rfl (.cons r9 .nil) ⟨_,ys,y,rfl,rfl,hD9,hlt,rfl⟩) ?_
   rintro _ s10 ⟨_,H10,I10,_,q10⟩
   subst q10;refine⟨m',hm,i+1,σ8,_,_,I10.unpinned,T.keep _ _ _ st7 λb hb o q=>(I10.pin (b,o) (dg _ (dg _ (mG hb q)))).1,λb hb=>?_,w9⟩;obtain⟨o,q,d⟩:=T.obj _ _ st7 b hb;exact(I10.pin (b,o) (dg _ (dg _ (mG hb q)))).2.1
 exact xw loop (T.self _ 0 _ _ _ st4 loop)
theorem abB(k:oV X sc own cap)(hi:PI X target iter wi)(hc:X.calm=true)
  (hg:∀C BQ BR ex,PG (kC X sc (cN own cap) C BQ BR ex) target g)(he:∀C BQ BR ex,PE (kC X sc (cN own cap) C BQ BR ex) elt te)
  (hs:autoParam (∀x,foldedSetIterable iter X.env x=pure x) Zqz):PE X (.ListComp elt [⟨target,iter,[],0⟩] sc pos) (wC own cap wi g te):=by
 intro BP s σ H Q I h;refine V8 k hi hc hg he I h (λD C s' H' m I' fC hn q=>?_) hs;refine⟨m,hn,λh' sb=>⟨.ref D,H',?_,rfl,q⟩⟩;obtain⟨f0,f1,f2,f3,f4,f5⟩:=fC;exact I'.turned (λb o hb e=>(sb.2 b hb).trans e) f0 f1 f3 f4 f5
theorem acs (so:Scope)(N:List Str)(hso:X.env.scope=so)(hN:X.N=N)(kind:sc.kind=.function)(names:∀y∈sc.names,y.2=.local->sc.names.lookup y.1=some .local)
  (cells:∀y∈sc.names,y.2=.cell->sc.names.lookup y.1=some .cell)(free:∀y∈sc.names,y.2=.free->so.names.lookup y.1=some .cell)(at':∀p∈cap,N[p.1]?=some p.2)(hcap:∀p∈cap,sc.names.lookup p.2=some .free):oV X sc own cap:=
 ⟨kind,names,cells,λy hy e=>by show X.env.scope.names.lookup _=_;rw[hso];exact free y hy e,λp hp=>by rw[hN];exact at' p hp,hcap⟩
theorem adT {sc1 sc:Scope}{own1 own:List Str}{cap1 cap:List (Nat×Str)}{C:Addr}{BQ:aa}{BR:Hp}{ex:List Addr}(so:Scope)(hso:X.env.scope=so)(hk:so.kind=.function)(kind:sc.kind=.function)(names:∀y∈sc.names,y.2=.local->sc.names.lookup y.1=some .local)
  (nocell:∀y∈sc.names,y.2≠.cell)(free:∀y∈sc.names,y.2=.free->sc1.names.lookup y.1=some .cell\/(sc1.names.lookup y.1=some .free/\so.names.lookup y.1=some .cell))(at':∀p∈cap,(cN own1 cap1)[p.1]?=some p.2)(hcap:∀p∈cap,sc.names.lookup p.2=some .free):
  iH (kC X sc1 (cN own1 cap1) C BQ BR ex) sc own cap:=
 ⟨kind,names,nocell,λy hy e=>by
  rcases free y hy e with f |⟨f1,f2⟩
  .exact Bo f
  .exact uH (by rw[hso];exact hk) f1 (by show X.env.scope.names.lookup _=_;rw[hso];exact f2),at',hcap⟩
end
end L2
namespace L2.Pp
open PySem PySem.Spec PyProof.Rows Bn
section
variable{K:ae}{cl:Str->Addr}{E:XK}{X:Cx}{p:Ph}{H H':Hp}{S:aF}
variable{sc:Scope}{own:List Str}{cap:List (Nat×Str)}{elt target iter:ah}{pos:ai}{mi:MI}{g:GM}{me:ME}
theorem aa1(k:oV X sc own cap)(hi:PIp K cl E X target iter mi)(hc:X.calm=true)(hg:∀C BQ BR ex,nC K (kC X sc (cN own cap) C BQ BR ex) target g)(he:∀C BQ BR ex,aL K cl E0 (kC X sc (cN own cap) C BQ BR ex) elt me)
  (hs:autoParam (∀x,foldedSetIterable iter X.env x=pure x) Zqz):aL K cl E X (.ListComp elt [⟨target,iter,[],0⟩] sc pos) (bA own cap mi g me):=by
 intro hK;refine PE.imp (abB k (hi hK) hc (λC BQ BR ex=>hg C _ _ _ hK) (λC BQ BR ex=>he C _ _ _ hK) hs) ?_
 rintro σ H Q ⟨p,S,ρ,s,ev,h⟩
 exact bZ s ev h λq H' xs J S' dD sm ev it kk D hD=>Pe sm ev it kk hD
end
section
open PySem PySem.Spec PyProof.Rows Bn
def Ub(k:Nat)(S:aF):Prop:=∀(j:Nat)(o:SO),S[j]?=some o->j≠k->∃xs,o=.lst xs
def Pl(S:aF):Prop:=∀(j:Nat)(o:SO),S[j]?=some o->∃xs,o=.lst xs
section
variable{K:ae}{cl:Str->Addr}{E:XK}{X:Cx}{a e:ah}{m:ME}{ms:MA}{pos:ai}{p q:Ph}{H H':Hp}{S:aF}
theorem aQ.pushO(s:aQ K p S H){D:Addr}{o:SO}{ho:HO}(h:H D=none)(mo:Mb ho)(ob:nZ K ⟨p.f++[D],λa=>p.w a\/a=D,λa=>p.c a\/a=D⟩ (aM H D ho) D o):
  let q:Ph:=⟨p.f++[D],λa=>p.w a\/a=D,λa=>p.c a\/a=D⟩
  bP p H q (aM H D ho)/\aQ K q (S++[o]) (aM H D ho):=by
 intro q;obtain⟨st0,sm0⟩:=s.res (D:=D) (o:=ho) h mo;have nf0:D∉p.f:=λz=>s.notin h (s.wc D (s.sub D z));refine⟨⟨st0.wc,st0.mu,⟨[D],rfl⟩,st0.mw,st0.mono,λa x n=>?_,st0.nw,st0.nc,st0.keep⟩,?_,by simp[q,s.len],λa x=>?_,sm0.wc,sm0.mu,λk a u e1 e2=>?_⟩
 .rcases ce.mp x with z |z
  .exact absurd z n
  .have:a=D:=by simpa using z
   rw[this];exact h
 .show(p.f++[D]).Nodup
  rw[ng];refine⟨s.nd,by simp,λa ha b hb z=>?_⟩;have:b=D:=by simpa using hb
  exact nf0 (this▸z▸ha)
 .rcases ce.mp x with z |z
  .exact .inl (s.sub a z)
  .exact .inr (by simpa using z)
 .by_cases hk:k<S.length
  .have e1':p.f[k]?=some a:=by
    rwa[fw (by rw[s.len];exact hk)]at e1
   rw[fw hk]at e2;refine(s.obj k a u e1' e2).mono (λvs e=>by rw[bK (gJ e h)];exact e) (λb w f=>⟨⟨.inl w,λm=>?_⟩,λvs e=>by rw[bK (gJ e h)];exact e⟩) λ_ _ r=>st0.reps r;rcases ce.mp m with z |z
   .exact f z
   .have:b=D:=by simpa using z
    exact s.notin h (this▸s.wc b w)
  .have hk':k=S.length:=by
    have:=(cf.mp e2).1;simp at this;omega
   subst hk';rw[ee (aj _),ie]at e2;have e1:=e1;rw[<-s.len,ee (aj _),ie]at e1;cases e1;cases e2;exact ob
def Yi(xs:BO)(S:aF):bQ AV:=match(hU S xs).bind gM with
 |some (.lst vs)=>.ok (.ref S.length) (S++[.lol [vs]])
 |_=>.fail
def wW(ms:MA):ME:=λρ S=>(ms ρ S).bind Yi
theorem Kv (s:aQ K p S H)(r:iI K p H as xs)(h:(hU S as).bind gM=some (.lst vs)):
  ∃b ws,xs=[.ref b]/\(bV K H b ws\/dB K H b ws)/\ws.length<=sizeLine/\aR K p.c H vs ws:=by
 cases z:hU S as with
 |none=>simp_all
 |some us=>
  rw[z]at h;have rr:=yD s r z;cases rr with
  |nil=>cases h
  |cons g t=>
   rename_i u x ut xt;cases t with
   |cons _ _=>cases u<;>cases h
   |nil=>
    cases u with
    |lst ws=>
     cases h;obtain⟨a,ws,rfl,l,z,r⟩:=g.lst;exact⟨a,ws,rfl,.inl l,z,r⟩
    |tup ws=>
     cases h;obtain⟨a,ws,rfl,l,z,r⟩:=g.tup;exact⟨a,ws,rfl,.inr l,z,r⟩
    |_=>cases h
theorem afB{x:Str}{p lp:ai}(hx:x="list")(hg:Gl X "list")(hm:X.mg "list"=none)(ha:eR K cl E X [e] ms)(he:autoParam (starEach [e] X.env=[(false,eval e X.env)]) Zqq)
  (hs:autoParam (starEach [.Call (.Name x p) [e] [] pos] X.env=[(false,eval (.Call (.Name x p) [e] [] pos) X.env)]) Zqq):aL K cl E X (.List [.Call (.Name x p) [e] [] pos] lp) (wW ms):=by
 intro hK;subst hK hx;refine PE.imp (zX (mL (yG Nc hg hm (by decide+kernel) (ha rfl) 1#b 1#b he rfl) nS hs)) ?_
 rintro σ H Q ⟨p,S,ρ,s,ev,h⟩
 refine bZ s ev h λq H1 as xs S1 st s1 e1 r1 h1=>?_;unfold Yi at h1;split at h1
 .rename_i vs hv
  obtain⟨b,ws,rfl,sq,hl,r⟩:=Kv s1 r1 hv;refine⟨b,ws,rfl,sq,λl hn=>⟨by show 1<=sizeLine;decide,λt ht=>?_⟩⟩;obtain⟨st2,sm2⟩:=s1.res (D:=l) (o:=.lst ws) hn trivial;have ne:l≠t:=λz=>by rw[<-z,eC]at ht;cases ht
  have nf:l∉q.f:=λz=>s1.notin hn (s1.wc l (s1.sub l z));have dR:=(sm2.res (D:=t) (o:=.lst [.ref l]) ht trivial).1;have ob:nZ X.K ⟨(q.res l).f++[t],λa=>(q.res l).w a\/a=t,λa=>(q.res l).c a\/a=t⟩ (aM (aM H1 l (.lst ws)) t (.lst [.ref l])) t (.lol [vs]):=by
   refine⟨[l],eC,by show 1<=sizeLine;decide,by simp,λc hc=>?_,rfl,λi ys c e1 e2=>?_⟩
   .have:c=l:=by simpa using hc
    subst this;refine⟨.inl (.inr rfl),λm=>?_⟩;rcases ce.mp m with z |z
    .exact nf z
    .exact ne (by simpa using z)
   .cases i with
    |zero=>
     cases e1;cases e2;exact⟨ws,by rw[bK ne,eC],hl,dR.reps (st2.reps r)⟩
    |succ i=>simp at e1
  obtain⟨st4,sm4⟩:=sm2.pushO (D:=t) (ho:=.lst [.ref l]) ht trivial ob;exact h1 _ _ (.ref t) (st2.trans st4) sm4 ⟨t,by show(q.f++[t])[S1.length]?=some t;rw[<-s1.len,ee (aj _),ie];rfl,rfl⟩
 .exact h1.elim
def wX(k:Nat)(ys:BO)(S:aF):bQ AV:=match(hU S ys).bind gM,S[k]? with
 |some (.lst vs),some (.lol xss)=>if xss.length<16777216 then .ok (.pv .non) (S.set k (.lol (xss++[vs])))else .fail
 |_,_=>.fail
def wI(m:ME)(ms:MA):ME:=λρ S=>(m ρ S).bind λk S1=>fY k S1 λk=>(ms ρ S1).bind λys S2=>wX k ys S2
theorem aQ.growL(s:aQ K p S H){k:Nat}{D l:Addr}{xss:List BK}{bs:List Addr}{ys:BK}{ws:List V}(h:p.f[k]?=some D)(hS:S[k]?=some (.lol xss))(hn:H l=none)(hl:ws.length<=sizeLine)(r:aR K p.c H ys ws)(hH:H D=some (.lst (bs.map V.ref)))(hz:bs.length<sizeLine):
  bP p H (p.res l) (aM (aM H l (.lst ws)) D (.lst ((bs++[l]).map V.ref)))/\aQ K (p.res l) (S.set k (.lol (xss++[ys]))) (aM (aM H l (.lst ws)) D (.lst ((bs++[l]).map V.ref))):=by
 obtain⟨st2,sm2⟩:=s.res (o:=.lst ws) hn trivial;have hk:=(cf.mp hS).1;have mD:=dh h;have w:(p.res l).w D:=.inl (s.sub D mD);have neD:D≠l:=λz=>by grind
 have nl:=λz=>s.notin hn (s.wc l (s.sub l z));have dR:bP (p.res l) _ (p.res l) (aM _ D (.lst ((bs++[l]).map V.ref))):=⟨sm2.wc,sm2.mu,jl,λ_ h=>h,λ_ h=>h,λ_ h g=>absurd h g,λ_ h g=>absurd h g,λ_ h g=>absurd h g,λa u e nw=>by
  rw[bK (λz=>nw (by rw[z];exact w))];exact e⟩
 refine⟨st2.trans dR,sm2.nd,by rw[ij];exact sm2.len,sm2.sub,sm2.wc,λa x=>?_,λj a o e1 e2=>?_⟩
 .by_cases z:a=D
  .rw[z,eC]
   exact⟨_,rfl,trivial⟩
  .rw[bK z]
   exact sm2.mu a x
 .by_cases hj:k=j
  .subst hj
   have e1:p.f[k]?=some a:=e1;rw[h]at e1;cases e1;rw[fz hk]at e2;cases e2;obtain⟨cs,g1,g2,g3,g4,g5,g6⟩:=s.obj k D _ h hS;rw[hH]at g1;have ec:=by
    have:=congrArg (λo=>match o with |some (HO.lst v)=>v |_=>[]) g1
    exact t7 (λx y h=>by cases h;rfl) |>.mp this
   subst ec;have nb:∀b∈bs,b≠l:=λb hb z=>s.notin hn (z▸s.wc b (g4 b hb).1);refine⟨bs++[l],eC,by rw[ax];exact hz,?_,λb hb=>?_,by rw[ax,ax,g5];rfl,λi xs b e1 e2=>?_⟩
   .rw[ng]
    exact⟨g3,by simp,λx hx y hy z=>nb x hx (by rw[z];simpa using hy)⟩
   .rcases ce.mp hb with z |z
    .exact⟨.inl (g4 b z).1,(g4 b z).2⟩
    .have:=by simpa using z
     subst this;exact⟨.inr rfl,nl⟩
   .by_cases hi:i<bs.length
    .rw[fw hi]at e2
     rw[fw (by rw[g5];exact hi)]at e1;obtain⟨vs,h1,h2,h3⟩:=g6 i xs b e1 e2;have hb:=g4 b (dh e2);exact⟨vs,by rw[bK (λz:b=D=>hb.2 (z▸mD)),bK (nb b (dh e2))];exact h1,h2,dR.reps (st2.reps h3)⟩
    .have hi':i=bs.length:=by
      have:=(cf.mp e2).1;rw[ax]at this;have:i<bs.length+1:=this;omega
     subst hi';rw[ee (aj _),ie]at e2;rw[<-g5,ee (aj _),ie]at e1;cases e1;cases e2;exact⟨ws,by rw[bK (iz neD),eC],hl,dR.reps (st2.reps r)⟩
  .rw[fu hj]at e2
   have ne:a≠D:=λq=>hj (nodup_idx s.nd h (q▸e1));exact(sm2.obj j a o e1 e2).mono (λvs e=>by rw[bK ne];exact e) (λb w f=>⟨⟨w,f⟩,λvs e=>by rw[bK (λz:b=D=>f (z▸mD))];exact e⟩) λ_ _ r=>dR.reps r
theorem ad9{x:Str}{p apos cpos:ai}(hx:x="list")(hg:Gl X "list")(hm:X.mg "list"=none)(ho:aL K cl E X a m)(ha:eR K cl E X [e] ms)(hbase:autoParam (attributeBase a "append" X.env (eval a X.env)=eval a X.env) Zqq)
  (hfew:autoParam (((backTo cpos (starEach [.Call (.Name x p) [e] [] pos] X.env)).all (λx=>!x.1)&&(backToKw cpos (keywordEach [] X.env)).all (λx=>x.1.isSome)&&decide (([.Call (.Name x p) [e] [] pos]:List ah).length+([]:List ia).length+(if([]:List ia).isEmpty then 0 else 1)<30))=true) Zqq)
  (hline:autoParam ((apos.endLine==cpos.line)=true) Zqq)(he:autoParam (starEach [e] X.env=[(false,eval e X.env)]) Zqq)(hs:autoParam (starEach [.Call (.Name x p) [e] [] pos] X.env=[(false,eval (.Call (.Name x p) [e] [] pos) X.env)]) Zqq):
  aL K cl E X (.Call (.Attribute a "append" apos) [.Call (.Name x p) [e] [] pos] [] cpos) (wI m ms):=by
 intro hK;subst hK hx;refine PE.imp (Ua uh sk yg rS (ho rfl) (mL (yG Nc hg hm (by decide+kernel) (ha rfl) 1#b 1#b he rfl) nS hs) hbase hfew hline hs rfl) ?_
 rintro σ H Q ⟨p,S,ρ,s,ev,h⟩
 refine bZ s ev h λq H1 k x S1 st s1 e1 r1 h1=>?_;cases k with
 |pv v=>exact h1.elim
 |ref k=>
  have h1:bY X.K cl (cS X.K) q H1 (fY (.ref k) S1 λk=>(ms ρ S1).bind λys S2=>wX k ys S2) Q E:=h1;rcases zH k S1 (λk=>(ms ρ S1).bind λys S2=>wX k ys S2)with z |⟨z,n1,n2⟩
  .rw[z]at h1
   exact h1.elim
  rw[z]at h1;refine⟨Kg s1 r1 n1 n2,bZ s1 e1 h1 λq2 H2 ys xs S2 st2 s2 e2 r2 h2=>?_⟩;obtain⟨a,ea,rfl⟩:=st2.repA r1;unfold wX at h2;split at h2
  .rename_i vs xss hv hS
   obtain⟨b,ws,rfl,sq,hl,r⟩:=Kv s2 r2 hv;split at h2
   .rename_i hz
    refine⟨b,ws,rfl,sq,λl hn=>?_⟩;obtain⟨bs,g1,g2,g3,g4,g5,g6⟩:=s2.obj k a _ ea hS;have hzz:=jI;have neA:a≠l:=λz=>by rw[z,hn]at g1;cases g1
    obtain⟨dR,sm3⟩:=s2.growL ea hS hn hl r g1 (by rw[<-g5];omega);refine⟨a,bs.map V.ref,.ref l,rfl,rfl,by rw[bK neA];exact g1,by rw[ak,<-g5];omega,?_⟩;have:=h2 _ _ .non dR sm3 (by show bD X.K (q2.res l).c (aM (aM H2 l (.lst ws)) a (.lst ((bs++[l]).map V.ref))) .non .non;exact kA (v:=.non) rfl);rw[cw]at this;exact this
   .exact h2.elim
  .exact h2.elim
def Pa(m:Int)(xs:BK):Option BK:=match gG xs.length m with
 |some j=>match xs[j]? with
  |some (.int v)=>some (xs.set j (.int (1-v)))
  |_=>none
 |none=>none
def tG(m:Int):List BK->Option (List BK)
 |[]=>some []
 |xs::r=>match Pa m xs,tG m r with
  |some y,some ys=>some (y::ys)
  |_,_=>none
theorem Hq{m:Int}:∀{xss yss:List BK},tG m xss=some yss->xss.length=yss.length/\∀(i:Nat)(xs:BK),xss[i]?=some xs->∃ys:BK,yss[i]?=some ys/\Pa m xs=some ys
 |[],yss,e=>by
  cases e;exact⟨rfl,λi xs h=>by simp at h⟩
 |xs::r,yss,e=>by
  unfold tG at e;split at e
  .rename_i y ys h1 h2
   cases e;obtain⟨l,g⟩:=Hq h2;refine⟨by simp_all,λi zs h=>?_⟩;cases i with
   |zero=>
    cases h;exact⟨y,rfl,h1⟩
   |succ i=>simpa using g i zs (by simpa using h)
  .cases e
open Classical in
def qQ(ics ic im:Nat):MS:=λρ S=>match ρ[ics]?,ρ[im]? with
 |some (some (.ref k)),some (some (.pv (.int m)))=>match S[k]? with
  |some (.lol xss)=>if Ub k S/\ic<ρ.length then(match tG m xss with
   |some yss=>.nx (ρ.set ic none) (S.set k (.lol yss))
   |none=>.fail)else .fail
  |_=>.fail
 |_,_=>.fail
theorem aQ.inner(s:aQ K p S H){k i:Nat}{D b:Addr}{xss:List BK}{bs:List Addr}{ys:BK}{ws:List V}(h:p.f[k]?=some D)(hS:S[k]?=some (.lol xss))(pl:Ub k S)(hH:H D=some (.lst (bs.map V.ref)))(hb:bs[i]?=some b)(hl:ws.length<=sizeLine)(r:aR K p.c H ys ws):
  bP p H p (aM H b (.lst ws))/\aQ K p (S.set k (.lol (xss.set i ys))) (aM H b (.lst ws)):=by
 have hk:=(cf.mp hS).1;obtain⟨cs,g1,g2,g3,g4,g5,g6⟩:=s.obj k D _ h hS;rw[hH]at g1;have ec:=by
  have:=congrArg (λo=>match o with |some (HO.lst v)=>v |_=>[]) g1
  have:=this;exact t7 (λx y h=>by grind) |>.mp this
 subst ec;have wb:=g4 b (dh hb);have st:bP p H p (aM H b (.lst ws)):=⟨s.wc,s.mu,jl,λ_ h=>h,λ_ h=>h,λ_ h g=>absurd h g,λ_ h g=>absurd h g,(by grind),λa u e nw=>by
  rw[bK (λz=>nw (by rw[z];exact wb.1))];exact e⟩
 refine⟨st,s.nd,by rw[ij];exact s.len,s.sub,s.wc,λa x=>?_,λj a o e1 e2=>?_⟩
 .by_cases z:a=b
  .rw[z,eC]
   exact⟨_,rfl,trivial⟩
  .rw[bK z]
   exact s.mu a x
 .have ne:a≠b:=λz=>wb.2 (z▸dh e1)
  by_cases hj:k=j
  .subst hj
   rw[h]at e1;cases e1;rw[fz hk]at e2;cases e2;refine⟨bs,by rw[bK ne];exact hH,g2,g3,g4,by simp_all,λi' xs c e1 e2=>?_⟩
   by_cases hi:i=i'
   .subst hi
    rw[hb]at e2;cases e2;have hx:i<xss.length:=by
     rw[g5];exact(cf.mp hb).1
    rw[fz hx]at e1;cases e1;exact⟨ws,eC,hl,st.reps r⟩
   .rw[fu hi]at e1
    obtain⟨vs,h1,h2,h3⟩:=g6 i' xs c e1 e2;exact⟨vs,by rw[bK (λz:c=b=>hi (nodup_idx g3 hb (z▸e2)))];exact h1,h2,st.reps h3⟩
  .rw[fu hj]at e2
   obtain⟨xs,rfl⟩:=pl j o e2 (iz hj);obtain⟨vs,e,l,g⟩:=s.obj j a _ e1 e2;exact⟨vs,by rw[bK ne];exact e,l,st.reps g⟩
theorem aa4{α:Type}{ys xs:List α}{i:Nat}{y:α}(l:xs.length=ys.length)(h:ys[i]?=some y):(ys.take i++xs.drop i).set i y=ys.take (i+1)++xs.drop (i+1):=by
 have hi:=(cf.mp h).1;have hx:i<xs.length:=by omega
 have e:ys[i]=y:=(cf.mp h).2;rw[qs hx,List.set_append,if_neg (by grind),ku,ym (pw hi),ie,List.take_succ_eq_append_getElem hi,e,jp];rfl
theorem Ir{α:Type}{l:List α}{i:Nat}{a b:α}:(l.set i a).set i b=l.set i b:=by simp
theorem acM{ics ic im:Nat}{c cs mm:Str}{p1 p2 p3 p4 p5 p6 p7 p8 p9 apos:ai}{j:Nat}(hp:qe 1#g X.A X.env X.xe)(hc:X.calm=true)(hN:X.N.Nodup)(h1:X.N[ics]?=some cs)(h2:X.N[ic]?=some c)(h3:X.N[im]?=some mm)
  (v1:lW X.env.scope cs)(v2:lX X.env.scope c)(v3:lW X.env.scope mm)(ne1:ics≠ic)(ne2:im≠ic)
  (ha:∀v,assign (.Subscript (.Name c p3) (.Name mm p4) p5) X.env v=(do
   let ov <-holding [v] (eval (.Name c p3) X.env)
   let iv <-holding [v,ov] (eval (.Name mm p4) X.env)
   standAt p5
   holding [v,ov,iv] (setItem ov iv v)
   release [v,ov,iv] []):=by intro _;rfl)
  (hs:autoParam (swapsWithSole [.Subscript (.Name c p3) (.Name mm p4) p5] (.BinOp (.Constant (.int 1) j p6) .Sub (.Subscript (.Name c p7) (.Name mm p8) p9) p2) apos.line X.env=pure false) Zqq)(hw:autoParam (swappedStores [.Subscript (.Name c p3) (.Name mm p4) p5] (.BinOp (.Constant (.int 1) j p6) .Sub (.Subscript (.Name c p7) (.Name mm p8) p9) p2) X.env=pure none) Zqq)
  (ht:autoParam ((assignEach [.Subscript (.Name c p3) (.Name mm p4) p5] X.env).map (·.2)=[assign (.Subscript (.Name c p3) (.Name mm p4) p5) X.env]) Zqq)
  (hpl:autoParam (vC (.Name mm p8)) Zwx)
  (d1:autoParam ((cs==("__debug__":Str))=false) Zqw)(d2:autoParam ((c==("__debug__":Str))=false) Zqw)(d3:autoParam ((mm==("__debug__":Str))=false) Zqw)
  (k1:autoParam ((cs==("__classdict__":Str))=false) Zqw)(k2:autoParam ((c==("__classdict__":Str))=false) Zqw)(k3:autoParam ((mm==("__classdict__":Str))=false) Zqw)
  (hf:autoParam (X.fn c=true\/X.env.scope.names.lookup c=some .local) Zwq)
  (hfs:autoParam (∀x,foldedSetIterable (.Name cs p1) X.env x=pure x) Zqz){cp:ai}:
  eZ K cl E X (.For (.Name c cp) (.Name cs p1) [.Assign [.Subscript (.Name c p3) (.Name mm p4) p5] (.BinOp (.Constant (.int 1) j p6) .Sub (.Subscript (.Name c p7) (.Name mm p8) p9) p2) apos] [] pos) (qQ ics ic im):=by
 intro hK;subst hK;have vc:lW X.env.scope c:=v2.elim .inl λz=>.inr (.inl z);refine PS.imp (Qy hp hc (Kz (mP h1 v1 d1 k1)) (Gv hN h2 v2 hf) (Ov (Ai (B3 Uz Aa (Ta Ey (mP h2 vc d2 k2) (mP h3 v3 d3 k3) hpl)) (Gh (mP h2 vc d2 k2) (mP h3 v3 d3 k3) Yt ha) hs hw ht)) hfs) ?_
 rintro D σ H ⟨p,S,ρ,s,ev,h⟩
 unfold qQ at h;split at h
 .rename_i k m q1 q2
  split at h
  .rename_i xss hS
   split at h
   .rename_i plc
    obtain⟨pl,hic⟩:=plc;split at h
    .rename_i yss hy
     obtain⟨x,ex,rx⟩:=ev.at_ ics _ q1;obtain⟨a,ea,rfl⟩:=rx;obtain⟨ll,fl⟩:=Hq hy;have hk:k<S.length:=(cf.mp hS).1;obtain⟨bs0,b1,b2,b3,b4,b5,b6⟩:=s.obj k a _ ea hS;have plx:∀zss,Ub k (S.set k (.lol zss)):=λzss j o e n=>by
      rw[fu (iz n)]at e;exact pl j o e n
     refine⟨.ref a,ex,a,rfl,.inl ⟨⟨_,bV.of b1⟩,λi n σ1 H1=>n=xss.length-i/\i<=xss.length/\∃p1,bP p H p1 H1/\aQ X.K p1 (S.set k (.lol (yss.take i++xss.drop i))) H1/\dL X.K p1 H1 (ρ.set ic none) σ1,⟨_,rfl,dq _,p,s.step,?_,?_⟩,?_⟩⟩
     .have e0:S.set k (.lol xss)=S:=by
       obtain⟨g1,g2⟩:=cf.mp hS;rw[<-g2];exact t8 g1
      simpa[e0]using s
     .have:=ev.forget ic ((σ[ic]?).join)
      have e0:σ.set ic (σ[ic]?).join=σ:=by
       by_cases hi:ic<σ.length
       .rw[ay hi]
        exact t8 hi
       .exact List.set_eq_of_length_le 1#a
      rwa[e0]at this
     .rintro i n σ1 H1 ⟨rfl,hi,p1,st1,sm1,ev1⟩
      have e1:=st1.at_ ea;have hS1:(S.set k (.lol (yss.take i++xss.drop i)))[k]?=some (.lol (yss.take i++xss.drop i)):=fz hk;obtain⟨bs,c1,c2,c3,c4,c5,c6⟩:=sm1.obj k a _ e1 hS1;have lz:(yss.take i++xss.drop i).length=xss.length:=by
       rw[ax,ku,sf];omega
      by_cases hlt:i<xss.length
      .have hib:i<bs.length:=by omega
       obtain⟨ys,ey,fy⟩:=fl i _ (ay hlt);have ez:(yss.take i++xss.drop i)[i]?=some xss[i]:=by
        rw[ee (by rw[ku];omega),ku,ym 1#a,ie,List.getElem?_drop,Nat.add_zero];exact ay hlt
       obtain⟨vs,g1,g2,g3⟩:=c6 i _ _ ez (ay hib);unfold Pa at fy;split at fy
       .rename_i jj hj
        split at fy
        .rename_i v hv
         cases fy;obtain⟨u,eu,ru⟩:=g3.get hv;have:u=.int v:=by unfold bD at ru;exact ru
         subst this;obtain⟨xm,exm,rxm⟩:=ev1.at_ im (.pv (.int m)) (by rw[fu (iz ne2)];exact q2);have:xm=.int m:=by
          have rxm:bD X.K p1.c H1 (.int m) xm:=rxm;unfold bD at rxm;exact rxm
         subst this;refine .inr ⟨⟨_,.ref bs[i],bV.of c1,by rw[aw,ay hib];rfl⟩,λσ' H'=>∃p2,bP p H p2 H'/\aQ X.K p2 (S.set k (.lol (yss.take (i+1)++xss.drop (i+1)))) H'/\dL X.K p2 H' (ρ.set ic none) σ',λσ' H' hn=>⟨xss.length-(i+1),by omega,rfl,hlt,hn⟩,λx H2 hy=>?_⟩;obtain⟨rfl,hy⟩:=hy;have ey2:=hy _ (bV.of c1);rw[aw,ay hib]at ey2;cases ey2;have hic1:ic<σ1.length:=by
          rw[<-ev1.len,ij];exact hic
         have sc:(σ1.set ic (some (V.ref bs[i])))[ic]?=some (some (.ref bs[i])):=fz hic1;have sm':(σ1.set ic (some (V.ref bs[i])))[im]?=some (some (.int m)):=by rw[fu (iz ne2)];exact exm
         have hj':gG vs.length m=some jj:=by rw[<-g3.length];exact hj
         have ha1:gH vs m=some (.int v):=by unfold gH;rw[hj'];exact eu
         obtain⟨st2,sm2⟩:=sm1.inner (ys:=xss[i].set jj (.int (1-v))) (ws:=vs.set jj (.int (1-v))) e1 hS1 (plx _) c1 (ay hib) (by rw[ij];exact g2) (aR.set (kA (v:=.int (1-v)) rfl) jj g3);rw[Ir,aa4 ll ey]at sm2;have ev2:=(st2.repE ev1).forget ic (some (V.ref bs[i]));rw[Ir]at ev2;exact⟨_,sc,_,sm',.inl ⟨_,_,_,_,rfl,rfl,bV.of g1,ha1,1,v,rfl,rfl,_,sc,_,sm',_,_,_,_,rfl,rfl,g1,hj',p1,st1.trans st2,sm2,ev2⟩⟩
        .cases fy
       .cases fy
      .have e:i=xss.length:=by omega
       subst e;refine .inl ⟨⟨_,bV.of c1,by rw[ak];omega⟩,?_⟩;rw[uf,jb,ll,yi]at sm1;exact h p1 H1 σ1 st1 sm1 ev1
    .exact h.elim
   .exact h.elim
  .exact h.elim
 .exact h.elim
open Classical in
def Ba(n:Nat):cO->bQ AV
 |.rt (.ref k) S=>match S[k]? with
  |some (.lol xss)=>if ¬k<n/\Pl (S.take n)then .ok (.pv (.lst (xss.map .lst))) (S.take n)else .fail
  |_=>.fail
 |_=>.fail
open Classical in
def rG(np n:Nat)(b:MS)(xs:BO)(S:aF):bQ AV:=if xs.length=np/\Pl S then Ba S.length (b (gW n xs) S)else .fail
def Ph.only(p:Ph):Ph:=⟨p.f,λa=>a∈p.f,p.c⟩
theorem aQ.only(s:aQ K p S H)(pl:Pl S):aQ K p.only S H:=
 ⟨s.nd,s.len,λ_ h=>h,λa h=>s.wc a (s.sub a h),s.mu,λk a o e1 e2=>by
  obtain⟨xs,rfl⟩:=pl k o e2;exact s.obj k a _ e1 e2⟩
theorem W5 (h:iI K p H as vs):iI K p.only H as vs:=by
 induction h with
 |nil=>exact .nil
 |cons h _ ih=>
  refine .cons ?_ ih;rename_i v x _ _ _;cases v with
  |pv v=>exact h
  |ref k=>exact h
theorem Q9{r:cO}{Q:VK}{E:XK}(s:aQ K p S H)(pl:Pl S)(h:bY K cl (cS K) p H (Ba S.length r) Q E):eT K cl p.only H r {nx:=λ_ H'=>Q .non H',rt:=Q} E:=by
 cases r with
 |rt v S1=>
  cases v with
  |pv v=>exact h.elim
  |ref k=>
   unfold Ba at h;dsimp only at h;split at h
   .rename_i xss hS
    split at h
    .rename_i hc
     obtain⟨hk,plt⟩:=hc
     rintro q H' x st sm ⟨a,e,rfl⟩
     have s1:=s.only pl;obtain⟨na,hn,nc⟩:=Re s1 st sm e hk;obtain⟨bs,g1,g2,g3,g4,g5,g6⟩:=sm.obj k a _ e hS;have fresh:=λb hb=>st.nw b (g4 b hb).1 λm=>(g4 b hb).2 (st.pre.subset m);obtain⟨st1,sm1⟩:=s1.cutX (λb=>b=a\/b∈bs) st sm (λb d=>d.elim (λz=>z▸hn) (fresh b)) (.inr λj o e hj=>plt j o (by rw[ug,if_pos hj];exact e));refine h ⟨p.f,λb=>(q.w b/\¬(b=a\/b∈bs))\/p.w b,λb=>q.c b/\¬(b=a\/b∈bs)⟩ H' (.ref a) ⟨s.wc,s.mu,jl,λb h=>.inr h,st1.mono,λ_ h g=>absurd h g,λb h n=>?_,st1.nc,λb o e n=>st1.keep b o e λz=>n (s.sub b z)⟩
      ⟨s.nd,sm1.len,λb h=>.inr (s.sub b h),λb h=>h.elim (sm1.wc b) λz=>st1.mono b (s.wc b z),sm1.mu,λj b o e1 e2=>(sm1.obj j b o e1 e2).mono (λ_ e=>e) (λc w f=>⟨⟨.inl w,f⟩,λ_ e=>e⟩) λ_ _ r=>r⟩ ?_
     .rcases h with h |h
      .exact st1.nw b h λz=>n (s.sub b z)
      .exact absurd h n
     .refine⟨a,bs.map V.ref,rfl,.inl ⟨g1,λd=>d.2 (.inl rfl)⟩,by rw[ak];exact g2,?_⟩
      have go:∀(yss:List BK)(cs:List Addr),yss.length=cs.length->(∀c∈cs,c∈bs)->(∀(i:Nat)(xs:BK)(b:Addr),yss[i]?=some xs->cs[i]?=some b->∃vs,H' b=some (.lst vs)/\vs.length<=sizeLine/\aR K q.c H' xs vs)->aR K (λb=>q.c b/\¬(b=a\/b∈bs)) H' (yss.map .lst) (cs.map V.ref):=by
       intro yss
       induction yss with
       |nil=>
        intro cs l _ _;have:cs=[]:=t9.mp l.symm;subst this;exact .nil
       |cons ys r ih=>
        intro cs l hm hh;cases cs with
        |nil=>cases l
        |cons c t=>
         obtain⟨vs,k1,k2,k3⟩:=hh 0 ys c rfl rfl;refine .cons ?_ (ih t (by simpa using l) (λc h=>hm c (bh _ h)) λi xs b e1 e2=>hh (i+1) xs b (by simpa using e1) (by simpa using e2));unfold bD;exact⟨c,vs,rfl,.inl ⟨k1,λd=>d.2 (.inr (hm c av))⟩,k2,oH (λb h=>h.1) k3⟩
      exact go xss bs g5 (λ_ h=>h) g6
    .exact h.elim
   .exact h.elim
 |nx ρ S1=>exact h.elim
 |exc n S1=>exact h.elim
 |bk ρ S1=>exact h.elim
 |ct ρ S1=>exact h.elim
 |fail=>exact h.elim
end
section
variable{P:Program}{w:am}{K:ae}{mg:Str->BG}{base:Heap}{cl:Str->Addr}
theorem acX (h:lV K cl (rG np n b) vs H Q E):vs.length=np:=by
 obtain⟨p,S,xs,sm,ra,h⟩:=h;unfold rG at h;split at h
 .rename_i e
  rw[<-Np ra,e.1]
 .exact h.elim
theorem okL {st:Stmt}{f:Addr}{fd:cg}{N ps:List Str}{k np n:Nat}{b:MS}(F:jG K x qual st f fd)(S:iZ N ps (cL st))(hnp:ps.length=np)(hn:N.length=n)
  (hb:∀(cdv:Value)(A:aq)(outer:List bn)(s:aa)(H:Hp)(E:XK),dP k (A.deeper (envOfC qual (cL st) s.heap.objs.size f cdv))->fO K cl E0 (fF fR P w K mg base N qual (cL st) f cdv A outer s H E).nox (eN st) b):
  eO P w K mg base fR (k+1) f fd ps (kN K cl (rG np n b)):=by
 subst hnp hn;refine F.ok S (λvs H Q E h=>acX h) λcdv A outer s H vs Q E hr h=>⟨_,hb _ A _ s H E hr rfl,?_⟩;obtain⟨p,S,xs,sm,ra,h⟩:=h;unfold rG at h;split at h
 .rename_i e
  exact⟨p.only,S,_,sm.only e.2,xZ (W5 ra),Q9 sm e.2 h⟩
 .exact h.elim
end
end
def Xa(v:AV)(S:aF):bQ Bool:=match rd S v with
 |some (.lst xs)=>.ok (!xs.isEmpty) S
 |some (.tup xs)=>.ok (!xs.isEmpty) S
 |some (.int i)=>.ok (i !=0) S
 |some (.bl b)=>.ok b S
 |_=>.fail
def wR(m:ME):MT:=λρ S=>(m ρ S).bind Xa
theorem Lo{K:ae}{c:Addr->Prop}{H:Hp}{xs:BK}{vs:List V}(r:aR K c H xs vs):vs.isEmpty=xs.isEmpty:=by
 have:=r.length;cases xs<;>cases vs<;>simp_all
theorem ad3{K:ae}{cl:Str->Addr}{E:XK}{X:Cx}{a:ah}{ma:ME}(ha:aL K cl E X a ma)(he:autoParam (∀whole,isTrue a X.env whole=(do let v <-whole;standAt a.pos;holding [v] (truthy v))) Zqz):fH K cl E X a (wR ma):=by
 intro hK;subst hK;refine(abo (ha rfl) he).imp ?_
 rintro σ H Q ⟨p,S,ρ,s,e,h⟩
 refine bZ s e h λq H1 a x S1 st s1 e1 r1 h1=>?_;unfold Xa at h1;cases z:rd S1 a with
 |none=>rw[z]at h1;exact h1.elim
 |some v=>
  rw[z]at h1;have rr:=qL s1 r1 z;cases v with
  |lst xs=>
   obtain⟨b,vs,rfl,l,_,r⟩:=rr.lst;exact⟨_,.inl ⟨vs,l,by rw[Lo r]⟩,bY.ret h1 s1 rfl⟩
  |tup xs=>
   obtain⟨b,vs,rfl,l,_,r⟩:=rr.tup;exact⟨_,.inr (.inl ⟨vs,l,by rw[Lo r]⟩),bY.ret h1 s1 rfl⟩
  |int i=>
   cases rr.int;exact⟨_,rfl,bY.ret h1 s1 rfl⟩
  |bl i=>
   cases rr.bl;exact⟨_,rfl,bY.ret h1 s1 rfl⟩
  |_=>exact h1.elim
def xE(P:Program)(w:am)(K:ae)(mg:Str->BG)(base:Heap)(cl:Str->Addr)(x:Str)(k:Nat)(ps:List Str)(g:FM):Prop:=∃(a:Addr)(d:cg),eO P w K mg base fR k a d ps (kN K cl g)/\kJ K d ps []/\gw K (.ref a)=true/\mg x=some (.ref a)
section
variable{cl:Str->Addr}{E:XK}{X:Cx}{e:ah}{es:List ah}{ms:MA}{pos p:ai}{k k0:Nat}{ps:List Str}{g:FM}{x:Str}
theorem af0(C:xE X.prog X.w X.K X.mg X.base cl x k ps g)(hr:dP k0 X.A)(hk:k<=k0)(hg:Gl X x)(ha:eR X.K cl E X (e::es) ms)(hdb:autoParam ((x==("__debug__":Str))=false) Zqw)(he:autoParam (starEach (e::es) X.env=(false,eval e X.env)::starEach es X.env) Zqq)(hpl:autoParam ((backTo pos (starEach es X.env)).any (·.1)=false) Zqq):
  aL X.K cl E X (.Call (.Name x p) (e::es) [] pos) (aJ g [] ms):=by
 obtain⟨a,d,G,b,kk,n⟩:=C;exact aaO G (hr.mono hk) hg n kk b .nil Dv.nil ha hdb he hpl
theorem af1(C:xE X.prog X.w X.K X.mg X.base cl x k ps g)(hr:dP k0 X.A)(hk:k<=k0)(hg:Gl X x)(ha:eR X.K cl E X (e::es) ms)(hdb:autoParam ((x==("__debug__":Str))=false) Zqw)(he:autoParam (starEach (e::es) X.env=(false,eval e X.env)::starEach es X.env) Zqq)(hpl:autoParam ((backTo pos (starEach es X.env)).any (·.1)=false) Zqq):
  aL X.K cl E X (.Call (.Name x p) (e::es) [] pos) (qN g [] ms):=by
 obtain⟨a,d,G,b,kk,n⟩:=C;exact acb G (hr.mono hk) hg n kk b .nil Dv.nil ha hdb he hpl
end
theorem R8(l:Addr)(its:Array Value)(n:Nat)(b:Addr)(jts:Array Value)(k:Nat)(dd:BI)(sl:Array BG)(h0:¬(!its.isEmpty&&xi (its.size+jts.size))=true)(h1:its.size<=sizeLine)(h2:its.size+jts.size<=sizeLine+1):
  Meets (Builtin.«list.__iadd__» ⟨[.ref l,.ref b],[]⟩) (λ_ R s=>s.heap.get? l=some ⟨.type "list",none,.seq its n,#[]⟩/\s.heap.get? b=some ⟨.type "list",dd,.seq jts k,sl⟩/\R (.ok (.ret (cx l))) {s with heap:=s.heap.update l (kx λx=>x++jts),toks:=s.toks}):=
 .of_wp λprog w A R s h=>by
  obtain⟨hp,g,d,tk,os⟩:=s;obtain⟨hl,hb,h⟩:=h;have f1:=PySem.AutoSeq1.idx_int;have f2:=c7;have f3:=PySem.AutoSeq1.sub_list_list;have f4:=PySem.AutoSeq1.sub_tuple_list;have f5:=PySem.AutoSeq1.sub_list_tuple;have hz':(its++jts).size<=sizeLine+1:=by
   rw[Array.size_append];exact h2
  wp_walk using(wpAny_updateSeq hl rfl (hz:=h1) (_hz':=hz')),rn hl,rn hb
  exact⟨_,rfl,h⟩
section
variable{X:Cx}
def agH(K:ae):Zb:=λx y H Q=>∃l b xs zs,x=.ref l/\y=.ref b/\H l=some (.lst xs)/\bV K H b zs/\xs.length+zs.length<=sizeLine/\Q (.ref l) (aM H l (.lst (xs++zs)))
theorem aeY:L2.PIp X .Add (agH X.K):=by
 intro BP s σ H x y v u Q I rx ry h;obtain⟨l,b,xs,zs,rfl,rfl,hx,hy,hz,q⟩:=h;cases rx;cases ry;obtain⟨z,its,n,r1,hl,e⟩:=I.lstM hx;obtain⟨jts,r2,p2,_⟩:=I.list hy;obtain⟨⟨cls2,dd2,data2,sl2⟩,n2,ho2,hc2,_,hd2⟩:=p2;simp only at hc2 hd2;subst hc2 hd2;have l1:=r1.length;have l2:=r2.length;have hsz:its.toArray.size+jts.toArray.size<=sizeLine:=by rw[bj,bj];omega
 have hlong:¬(!its.toArray.isEmpty&&xi (its.toArray.size+jts.toArray.size))=true:=by
  rw[aaE hsz,Bool.and_false];exact jx
 have ta:s.TypeIs (.ref l) "list":=⟨_,e,rfl⟩;have tb:s.TypeIs (.ref b) "list":=⟨_,ho2,rfl⟩;have hf:=u0.lookup;have hq:isSeqSlot (some (.builtin "list.__iadd__"))=true:=by decide+kernel
 have hfi:fillsInplaceSlot (.type "list") "add" (Operator.Add== .Add)=pure false:=by
  unfold fillsInplaceSlot;show(typeLookup (.type "list") (dunderI "add") >>= λfi=>pure (fi.isSome&& !isSeqSlot fi))=pure false;rw[hf,pure_bind,hq];rfl
 have hsi:seqSlot? (.type "list") (dunderI "add")=pure (some (.builtin "list.__iadd__")):=PySem.seqSlot_of hf hq;unfold inplaceOp;refine ke ?_;refine ag (wz ta (ag (tw hfi ?_)));show wpAny _ _ (if false=true then _ else _) _ _ s;rw[if_neg jx];refine ag (wpAny_binaryOp1_none (nm:="add") ta tb noFill_list_add ?_);refine ag (tw hsi ?_);refine ag (lr ?_);refine xj u0 ⟨_,e,rfl⟩ u4 (PySem.F.args_list_iadd_2 _ _) (R8 l its.toArray n b jts.toArray n2 dd2 sl2 hlong (by rw[bj];omega) 1#a) ⟨e,ho2,?_⟩;refine⟨.ref l,_,I.lset (its':=its++jts) hx e 1#d (r1.append r2) ?_,rfl,q⟩;rw[ax];omega
end
section
variable{K:ae}{cl:Str->Addr}{E:XK}{X:Cx}{e:ah}{m:ME}{pos:ai}
def Ik(k:Nat)(ρ:cR)(v:AV)(S:aF):cO:=match v with
 |.pv (.lst ys)=>match S[k]? with
  |some (.lst xs)=>if xs.length+ys.length<=16777216 then .nx ρ (S.set k (.lst (xs++ys)))else .fail
  |_=>.fail
 |_=>.fail
def pG(i:Nat)(m:ME):MS:=λρ S=>match ρ[i]? with
 |some (some (.ref k))=>cO.of (m ρ S) (Ik k ρ)
 |_=>.fail
theorem abY{i:Nat}{x:Str}{pos':ai}(hN:X.N.Nodup)(hi:X.N[i]?=some x)(hx:lX X.env.scope x)(he:aL K cl E X e m)
  (hf:autoParam (X.fn x=true\/X.env.scope.names.lookup x=some .local) Zwq):eZ K cl E X (.AugAssign (.Name x pos') .Add e pos) (pG i m):=by
 intro hK;subst hK;refine PS.imp (aff hN hi hx (he rfl) aeY hf) ?_
 rintro D σ H ⟨p,S,ρ,s,ev,h⟩
 unfold pG at h;split at h
 .rename_i k hx0
  obtain⟨v,e1,r1⟩:=ev.at_ i _ hx0;refine⟨v,e1,jM s ev h λq H' a b S' dD sm ev' r z=>?_⟩;obtain⟨D0,ea,rfl⟩:=dD.repA r1;unfold Ik at z;split at z
  .rename_i ys
   obtain⟨b0,ws,rfl,sq,lw,rw0⟩:=(show fB X.K q H' (.lst ys) b from .inl r).lst;split at z
   .rename_i xs hS
    split at z
    .rename_i hl
     obtain⟨vs,h3,l3,r4⟩:=sm.obj k D0 _ ea hS;have hz:=jI;have n1:=r4.length;have n2:=rw0.length;obtain⟨dR,sm3⟩:=sm.write ea (cf.mp hS).1 (ps:=xs++ys) (vs:=vs++ws) (by rw[ax];omega) (r4.append rw0);refine⟨D0,b0,vs,ws,rfl,rfl,h3,sq,by omega,?_⟩;have es:σ.set i (some (.ref D0))=σ:=by
      refine jg λj=>?_
      by_cases hj:i=j
      .subst hj
       rw[fz (cf.mp e1).1,e1]
      .rw[fu hj]
     show D.nx (σ.set i (some (.ref D0))) _;rw[es];exact eT.nxD (z.mono dR) sm3 (dR.repE ev')
    .exact z.elim
   .exact z.elim
  .exact z.elim
 .exact h.elim
end
section
variable{K:ae}{cl:Str->Addr}{E:XK}{X:Cx}
def Tx(K:ae):R2:=λx y H Q=>∃a b ys,x=.ref a/\y=.ref b/\dB K H a []/\dB K H b ys/\Q (.ref b) H
theorem abi:eJ X (binaryOp .Add) (Tx X.K):=by
 intro BP s σ H x y v u Q I rx ry h;obtain⟨a,b,ys,rfl,rfl,ha,hb,q⟩:=h;cases rx;cases ry;obtain⟨its,r1,p1,_⟩:=I.tuple ha;obtain⟨jts,r2,p2,_⟩:=I.tuple hb;cases r1;obtain⟨⟨cls,dd,data,sl⟩,ho,hc,n,hd⟩:=p1;obtain⟨⟨cls2,dd2,data2,sl2⟩,ho2,hc2,n2,hd2⟩:=p2;simp only at hc hd hc2 hd2;subst hc hd hc2 hd2;exact se ⟨_,ho,rfl⟩ ⟨_,ho2,rfl⟩ wo wq wr wt (wu _ _)
  (tuple_addW0 a b _ _ n n2 dd _ sl _ 1#d) ⟨ho,ho2,⟨.ref b,H,I,rfl,q⟩⟩
def sZ:PV->PV->BM
 |.tup xs,.tup ys=>if xs.length+ys.length<=16777216 then some (.tup (xs++ys))else none
 |_,_=>none
def D4(K:ae):R2:=λx y H Q=>Tx K x y H Q\/Rj K x y H Q
theorem acT:eJ X (binaryOp .Add) (D4 X.K):=eJ.or abi Tw
theorem fB.tupR (h:fB K p H (.tup xs) x):bD K p.c H (.tup xs) x:=by
 rcases h with h |⟨ys,a,vs,e,_⟩
 .exact h
 .cases e
theorem ae5:iD K (D4 K) sZ:=λ{p S H a b c x y Q} s ra rb e k=>by
 cases a with
 |tup xs=>
  cases b with
  |tup ys=>
   have e:(if xs.length+ys.length<=16777216 then some (PV.tup (xs++ys))else none)=some c:=e;split at e
   .rename_i hl
    cases e;have ra':=ra.tupR;have rb':=rb.tupR;obtain⟨a1,vs,rfl,l1,z1,r1⟩:=ra.tup;obtain⟨a2,ws,rfl,l2,z2,r2⟩:=rb.tup;have hz:vs.length+ws.length<=sizeLine:=by rw[<-r1.length,<-r2.length];exact hl
    cases xs with
    |nil=>
     have hv:vs=[]:=u5 (by rw[<-r1.length];rfl);subst hv;exact .inl ⟨a1,a2,ws,rfl,rfl,l1,l2,k H _ (dI.refl H) rb'⟩
    |cons x0 xs=>
     refine .inr ⟨a1,a2,vs,ws,rfl,rfl,l1,l2,λq=>?_,hz,λq=>?_,λ_ t ht=>k _ _ (gL ht) (qD s (r1.append r2) (by rw[ax];exact hz) ht)⟩
     .have:=r1.length
      rw[q]at this;cases this
     .have hy:ys=[]:=by
       have:=r2.length;rw[q]at this;exact u5 this
      subst hy;have e0:x0::xs++[]=x0::xs:=jb _;refine k H _ (dI.refl H) ?_;rw[e0];exact ra'
   .cases e
  |_=>cases e
 |_=>cases e
def xF(K:ae)(mg:Str->BG)(x:Str)(pv:PV):Prop:=∃(u:Value)(v:V),mg x=some u/\bS v u/\∀c H,bD K c H pv v
theorem Gw {pv:PV}{pos:ai}(hg:Gl X x)(hm:xF K X.mg x pv)(hd:autoParam ((x==("__debug__":Str))=false) Zqw):aL K cl E X (.Name x pos) (mC pv):=λ_=>by
 obtain⟨u,v,hm,r,hr⟩:=hm;exact(adx hg hm r hd).imp λσ H Q ⟨p,S,ρ,s,e,h⟩=>bY.ret h s (hr _ H)
theorem nM:∀c H,aR K c H [] []:=λc H=>rfl
theorem fK {v:V}{vs:List V}(h:∀c H,bD K c H p v)(t:∀c H,aR K c H ps vs):∀c H,aR K c H (p::ps) (v::vs):=λc H=>⟨v,vs,rfl,h c H,t c H⟩
theorem iE:∀c H,bD K c H (.int i) (.int i):=λc H=>rfl
theorem nN {vs:List V}(l:K.lookup a=some ⟨.type "tuple",none,.seq its n,sl⟩)(hs:its.size<=sizeLine)(hv:aV vs its.toList)(hl:vs.length<=sizeLine)(t:∀c H,aR K c H xs vs):∀c H,bD K c H (.tup xs) (.ref a):=λc H=>⟨a,vs,rfl,.inr ⟨_,its,n,l,⟨rfl,rfl⟩,rfl,hs,hv⟩,hl,t c H⟩
end
section
variable{K:ae}{cl:Str->Addr}{E:XK}{X:Cx}{a:ah}{pos:ai}
theorem ac0 {σ:St}{H:Hp}{Q:VK}(z:tP X.K cl E (cS X.K) (bG lP m) σ H Q):F2 (tP X.K cl E (cS X.K) m) σ H Q:=by
 obtain⟨p,S,ρ,s,ev,h⟩:=z;refine bZ s ev h λq H' as x S' dD sm ev r k=>?_;refine yP (r:=λx H Q=>Q (.bl (decide (x=.non))) H) (λ{p S H a c x Q} s ra e k=>?_) sm r k;have z:c=.bl (decide (x=.non)):=by
  cases a with
  |non=>cases ra.non;cases e;rfl
  |int i=>cases ra.int;cases e;rfl
  |bl i=>cases ra.bl;cases e;rfl
  |str i=>cases ra.str;cases e;rfl
  |tup xs=>obtain⟨a,vs,rfl,_⟩:=ra.tup;cases e;rfl
  |lst xs=>obtain⟨a,vs,rfl,_⟩:=ra.lst;cases e;rfl
 subst z;exact k H _ (dI.refl H) (by rfl)
theorem aeZ (ha:aL K cl E X a m):fH K cl E X (.Compare a [.Is] [.Constant .none j pos'] pos) (aO (bG lP m)):=by
 intro hK;subst hK;refine(aeQ (aet (ha rfl))).imp ?_
 rintro σ H Q ⟨p,S,ρ,s,e,h⟩
 have z:tP _ _ E (cS _) _ _ H _:=bZ s e h λq H1 a x S1 st s1 e1 r1 h1=>Rf s1 r1 h1;exact ac0 z
end
end L2.Pp
namespace L2
open PySem PySem.Spec PyProof.Rows Bn
def Oa(J:It)(g:TG)(tc:TT)(te:TE)(BT:St)(H1:Hp)(D:Addr)(Q:VK):Prop:=
 ∃W:Nat->Nat->St->Hp->List V->Prop,(∃m,W 0 m BT (aM H1 D (.lst [])) [])/\∀i m σ H ys,W i m σ H ys->H D=some (.lst ys)/\
  ((J.stop i H/\Q (.ref D) H)\/(J.go i H/\ys.length<sizeLine/\∀x H2,J.yld i H x H2->g x σ H2 λσ3 H3=>tc σ3 H3 λb HA=>if b=true then te σ3 HA λy H4=>H4 D=some (.lst ys)/\∃m',m'<m/\W (i+1) m' σ3 (aM H4 D (.lst (ys++[y]))) (ys++[y])else ∃m',m'<m/\W (i+1) m' σ3 HA ys))
def My(own:List Str)(cap:List (Nat×Str))(wi:TI)(g:TG)(tc:TT)(te:TE):TE:=λσ H Q=>wi σ H λJ H1=>∀D,H1 D=none->Oa J g tc te (jC own cap σ) H1 D Q
section
variable{prog:Program}{w:am}{A:aq}{R:qi->aa->Prop}{s:aa}
theorem U6{elt target iter cnd:ah}{sc:Scope}{pos:ai}{it acc:Value}{env:bn}(I:Nat->aa->Prop)
  (turn:∀n s,I n s->wpAny (model prog w) A (pyNext it) (λr s1=>match r with
   |none=>R (.ok .next) s1
   |some v=>wpAny (model prog w) A (letOwnedTupleGo target it v) (λ_ s2=>wpAny (model prog w) A (assign target env v) (λ_ s3=>wpAny (model prog w) A (isTrue cnd env (eval cnd env)) (λb sA=>if b=true then wpAny (model prog w) A (eval elt env)
     (λx s4=>wpAny (model prog w) A (call (.builtin "list.append") [acc,x]) (λ_ s5=>∃m,m<n/\I m s5) (λ_ _=>False) s4) (λ_ _=>False) sA else ∃m,m<n/\I m sA) (λ_ _=>False) s3) (λ_ _=>False) s2) (λ_ _=>False) s1) (λ_ _=>False) s)
  (n:Nat)(h:I n s):codeAny (model prog w) A (.compLoop (.ListComp elt [⟨target,iter,[cnd],0⟩] sc pos) 0 it acc env) R s:=by
 refine codeAny_loop rfl I (λn s hI=>?_) n h;refine wpAny_noted ?_;rw[compTurn_list];refine ag (qd (ag ?_));refine gv (turn n s hI) (λr s1 h1=>?_) λ_ _ z=>z.elim;cases r with
 |none=>exact ao h1
 |some v=>
  refine ag (gv h1 (λ_ s2 h2=>?_) λ_ _ z=>z.elim);refine ag (gv h2 (λ_ s3 h3=>?_) λ_ _ z=>z.elim);refine ag (wpAny_tests_one (gv h3 (λok sA hA=>?_) λ_ _ z=>z.elim));cases ok with
  |true=>
   rw[if_pos rfl]at hA⊢;refine ag (ag (gv hA (λx s4 h4=>?_) λ_ _ z=>z.elim));refine ag (gv h4 (λ_ s5 h5=>?_) λ_ _ z=>z.elim);exact ao (ao ⟨rfl,h5⟩)
  |false=>
   rw[if_neg jx]at hA⊢;exact ag (ao (ao ⟨rfl,hA⟩))
end
section
variable{X:Cx}{sc:Scope}{own:List Str}{cap:List (Nat×Str)}{BP:List (Addr×Obj)}{σ:St}{H:Hp}{s:aa}{elt target iter cnd:ah}{pos pos':ai}{wi:TI}{g:TG}{tc:TT}{te:TE}{Q:VK}
theorem V6{use:Option (Value->Sem Unit)}{Qf:Value->aa->Prop}(k:iH X sc own cap)(hi:PI X target iter wi)(hc:X.calm=true)
  (hg:∀C BQ BR ex,PG (eU X sc (cN own cap) C BQ BR ex) target g)(ht:∀C BQ BR ex,PT (eU X sc (cN own cap) C BQ BR ex) cnd tc)(he:∀C BQ BR ex,PE (eU X sc (cN own cap) C BQ BR ex) elt te)(I:aG X BP σ H s)(h:My own cap wi g tc te σ H Q)
  (fin:∀D C s' H' m,aG X BP σ H' s'->fZ X BP H' C->s'.heap.Ns C m->Q (.ref D) H'->compPost 1#g X.A X.xe use Qf (.ref D) C (.ok .next) s')
  (hs:∀x,foldedSetIterable iter X.env x=pure x):
  wpAny 1#g X.A (comprehension (.ListComp elt [⟨target,iter,[cnd],0⟩] sc pos) sc X.env pos' (newList []) false (eval iter X.env) use) Qf X.xe s:=by
 refine xv (use:=use) rfl hs (Ah (k.has I.ok)) k.kind k.names ?_;refine aY (hi BP s σ H _ I h) λv s1 h1=>aY h1 λitv s2 h2=>?_;obtain⟨it,fp,tn,J,H2,e,I2,T,st2,f2,hW⟩:=h2;subst e;refine ju (j5 k.nocell (λy hy=>nomatch hy) (λh4 hns hsb=>?_) k.kind);have I3:aG X BP σ (aM H2 s2.heap.objs.size (.lst [])) {s2 with heap:=s2.heap.push {cls:=.type "list",data:=.seq ([]:BF).toArray},toks:=s2.toks}:=I2.lnew (ys:=[]) (its:=[]) .nil (dq _);have hD:H2 s2.heap.objs.size=none:=I2.fresh;have ltf:∀b∈fp,b<s2.heap.objs.size:=λb hb=>by
  obtain⟨o,ho,_⟩:=T.obj _ _ st2 b hb;exact bi ho
 have f3:∀b∈fp,fZ X BP (aM H2 s2.heap.objs.size (.lst [])) b:=λb hb=>⟨by rw[bK (de (ltf b hb))];exact(f2 b hb).1,(f2 b hb).2⟩;have un:Un (fP X.stack) fp H2 (aM H2 s2.heap.objs.size (.lst [])) s2.heap (s2.heap.push {cls:=.type "list",data:=.seq ([]:BF).toArray}):=Un.laid (λb u q=>ar _ q) (aj _) hD;have kp:=λb o q=>hsb.extBut b o (de (bi q)) (ar _ q);have J0:=I3.cmp (t':=s2.toks+([]:List (Str×Value)).length) k f3 (λb hb=>du (ltf b hb) (by rw[jo];exact nv _)) hns kp;have stat:∀{H':Hp},(∀b∈fp,H' b=none)->∀b∈fp,fZ 1#f [] H' b:=λhn b hb=>
  ⟨hn b hb,(J0.ok.exf b hb).1,J0.ok.exfs b hb,.inl hb,(J0.ok.exf b hb).2,λp hp=>absurd (show p∈([]:List (Addr×Obj)) from hp) 1#d⟩
 have st4:tn 0 h4:=T.keep _ _ _ st2 λb hb o q=>kp b o (ar _ q);have fr0:∀b∈fp,(aM H2 s2.heap.objs.size (.lst [])) b=none:=λb hb=>(f3 b hb).1;have loop:codeAny 1#g X.A (.compLoop (.ListComp elt [⟨target,iter,[cnd],0⟩] sc pos) 0 (.ref it) (.ref s2.heap.objs.size) (compEnvC sc (hJ X.env sc.names []) (s2.heap.push {cls:=.type "list",data:=.seq ([]:BF).toArray}).objs.size X.env))
   (compPost 1#g X.A X.xe use Qf (.ref s2.heap.objs.size) (s2.heap.push {cls:=.type "list",data:=.seq ([]:BF).toArray}).objs.size) {s2 with heap:=h4,toks:=s2.toks+([]:List (Str×Value)).length}:=by
  obtain⟨W,⟨m0,w0⟩,turn⟩:=hW s2.heap.objs.size hD;refine U6 (λn s'=>∃i σ' H' ys,aG 1#f [] σ' H' s'/\tn i s'.heap/\(∀b∈fp,H' b=none)/\W i n σ' H' ys) ?_ m0
   ⟨0,_,_,[],J0,st4,fr0,w0⟩
  rintro n s5 ⟨i,σ5,H5,ys,I5,st5,fr5,w5⟩
  obtain⟨hD5,w5⟩:=turn i n σ5 H5 ys w5;rcases w5 with⟨stop,qn⟩|⟨go,hlt,step⟩
  .refine aY (T.done 1#f rfl rfl rfl hc i [] s5 σ5 H5 _ I5 (stat fr5) st5 stop) ?_
   rintro r s6 ⟨hr,I6⟩
   subst hr;obtain⟨m,hn,_⟩:=id I6.loc;exact fin _ _ s6 H5 m (I2.uncmp (s3:={s2 with heap:=s2.heap.push {cls:=.type "list",data:=.seq ([]:BF).toArray},toks:=s2.toks}) f2 un rfl I6) (I3.fpOk (aj _) I6.free) hn qn
  .refine aY (T.item 1#f rfl rfl rfl hc i [] s5 σ5 H5 _ I5 (stat fr5) st5 go) ?_
   rintro r s6 ⟨u,hr,h6⟩
   subst hr;refine aY h6 ?_
   rintro _ s7 ⟨x,H7,I7,r7,y7,st7,fr7⟩
   have I7':=I7.pinned (stat fr7) (T.obj _ _ st7);refine aY (hg _ _ _ _ _ s7 σ5 H7 x u _ I7' r7 (step x H7 y7)) ?_
   rintro _ s8 ⟨σ8,H8,I8,q8⟩
   refine aY (ht _ _ _ _ _ s8 σ8 H8 _ I8 q8) ?_
   rintro bb sA ⟨HA,IA,qA⟩
   cases bb with
   |true=>
    rw[if_pos rfl];rw[if_pos rfl]at qA;refine aY (he _ _ _ _ _ sA σ8 HA _ IA qA) ?_
    rintro v9 s9 ⟨y,H9,I9,r9,hD9,m',hm,w9⟩
    refine aY (rS _ s9 σ8 H9 (.ref s2.heap.objs.size) [y] (.ref s2.heap.objs.size) [v9] (λ_ H'=>H'=aM H9 s2.heap.objs.size (.lst (ys++[y]))) I9 rfl (.cons r9 .nil) ⟨_,ys,y,rfl,rfl,hD9,hlt,rfl⟩) ?_
    rintro _ s10 ⟨_,H10,I10,_,q10⟩
    subst q10;refine⟨m',hm,i+1,σ8,_,_,I10.unpinned,T.keep _ _ _ st7 λb hb o q=>(I10.pin (b,o) (dg _ (dg _ (mG hb q)))).1,λb hb=>?_,w9⟩;obtain⟨o,q,d⟩:=T.obj _ _ st7 b hb;exact(I10.pin (b,o) (dg _ (dg _ (mG hb q)))).2.1
   |false=>
    rw[if_neg jx];rw[if_neg jx]at qA;obtain⟨m',hm,w9⟩:=qA;refine⟨m',hm,i+1,σ8,_,_,IA.unpinned,T.keep _ _ _ st7 λb hb o q=>(IA.pin (b,o) (dg _ (dg _ (mG hb q)))).1,λb hb=>?_,w9⟩;obtain⟨o,q,d⟩:=T.obj _ _ st7 b hb;exact(IA.pin (b,o) (dg _ (dg _ (mG hb q)))).2.1
 exact xw loop (T.self _ 0 _ _ _ st4 loop)
theorem aaT(k:iH X sc own cap)(hi:PI X target iter wi)(hc:X.calm=true)
  (hg:∀C BQ BR ex,PG (eU X sc (cN own cap) C BQ BR ex) target g)(ht:∀C BQ BR ex,PT (eU X sc (cN own cap) C BQ BR ex) cnd tc)(he:∀C BQ BR ex,PE (eU X sc (cN own cap) C BQ BR ex) elt te)
  (hs:autoParam (∀x,foldedSetIterable iter X.env x=pure x) Zqz):PE X (.ListComp elt [⟨target,iter,[cnd],0⟩] sc pos) (My own cap wi g tc te):=by
 intro BP s σ H Q I h;refine V6 k hi hc hg ht he I h (λD C s' H' m I' fC hn q=>?_) hs;refine⟨m,hn,λh' sb=>⟨.ref D,H',?_,rfl,q⟩⟩;obtain⟨f0,f1,f2,f3,f4,f5⟩:=fC;exact I'.turned (λb o hb e=>(sb.2 b hb).trans e) f0 f1 f3 f4 f5
end
end L2
namespace L2.Pp
open PySem PySem.Spec PyProof.Rows Bn
open Classical in
def eQ(G:Gd)(g:GM)(mc:MT)(me:ME):BK->cR->aF->bQ BK
 |[],_,S=>if iQ G S then .ok [] S else .fail
 |x::r,ρ,S=>if iQ G S then(match g x ρ with
  |none=>.fail
  |some ρ1=>match mc ρ1 S with
   |.ok true S0=>(match me ρ1 S0 with
    |.ok (.pv y) S1=>match eQ G g mc me r ρ1 S1 with
     |.ok ys S2=>.ok (y::ys) S2
     |_=>.fail
    |_=>.fail)
   |.ok false S0=>eQ G g mc me r ρ1 S0
   |_=>.fail)else .fail
theorem mE :eQ [] g mc me [] ρ S=.ok [] S:=by
 unfold eQ;rw[if_pos (kB S)]
theorem nI :eQ [] g mc me (x::r) ρ S=(match g x ρ with
  |none=>.fail
  |some ρ1=>match mc ρ1 S with
   |.ok true S0=>(match me ρ1 S0 with
    |.ok (.pv y) S1=>match eQ [] g mc me r ρ1 S1 with
     |.ok ys S2=>.ok (y::ys) S2
     |_=>.fail
    |_=>.fail)
   |.ok false S0=>eQ [] g mc me r ρ1 S0
   |_=>.fail):=by
 rw[eQ,if_pos (kB S)]
def gZ(own:List Str)(cap:List (Nat×Str))(mi:MI)(g:GM)(mc:MT)(me:ME):ME:=λρ S=>(mi ρ S).bind λxs S1=>(eQ xs.2 g mc me xs.1 (cC own cap ρ) S1).bind λys S2=>.ok (.pv (.lst ys)) S2
theorem Im {mc:MT}{me:ME}:∀(xs:BK)(ρ:cR)(S:aF)(n:Str)(S':aF),eQ G g mc me xs ρ S≠.exc n S'
 |[],_,_,_,_,e=>by
  unfold eQ at e;split at e<;>cases e
 |x::r,ρ,S,n,S',e=>by
  unfold eQ at e;split at e
  .split at e
   .cases e
   .split at e
    .split at e
     .split at e<;>cases e
     .cases e
    .exact Im r _ _ _ _ e
    .cases e
  .cases e
theorem Ae {ρ:cR}{S S':aF}(e:eQ G g mc me xs ρ S=.ok zs S'):iQ G S:=by
 cases xs with
 |nil=>
  unfold eQ at e<;>grind
 |cons x r=>
  unfold eQ at e;split at e
  .assumption
  grind
theorem aa2 {g:TG}{tc:TT}{te:TE}{BT:St}{H1:Hp}{D:Addr}{Q:VK}(n:Nat)(hn:n<=sizeLine)(Pv:Nat->St->Hp->List V->Prop)(h0:Pv 0 BT (aM H1 D (.lst [])) [])
  (hl:∀i σ H ys,Pv i σ H ys->ys.length<=i/\H D=some (.lst ys))(hgo:∀i σ H ys,i<n->Pv i σ H ys->J.go i H)
  (hs:∀i σ H ys x H2,i<n->Pv i σ H ys->J.yld i H x H2->g x σ H2 λσ3 H3=>tc σ3 H3 λb HA=>if b=true then te σ3 HA λy H4=>H4 D=some (.lst ys)/\∃m',m'<n-i/\(m'=n-(i+1)/\i+1<=n/\Pv (i+1) σ3 (aM H4 D (.lst (ys++[y]))) (ys++[y]))else ∃m',m'<n-i/\(m'=n-(i+1)/\i+1<=n/\Pv (i+1) σ3 HA ys))
  (hd:∀σ H ys,Pv n σ H ys->J.stop n H/\Q (.ref D) H):Oa J g tc te BT H1 D Q:=by
 refine⟨λi m σ H ys=>m=n-i/\i<=n/\Pv i σ H ys,⟨n,rfl,dq _,h0⟩,?_⟩
 rintro i m σ H ys ⟨rfl,hi,p⟩
 obtain⟨l1,l2⟩:=hl i σ H ys p;refine⟨l2,?_⟩
 by_cases hlt:i<n
 .exact .inr ⟨hgo i σ H ys hlt p,by omega,λx H2 y=>hs i σ H ys x H2 hlt p y⟩
 .have e:i=n:=by omega
  subst e;exact .inl (hd σ H ys p)
theorem n1{n i:Nat}{P:Prop}(h:i<n)(p:P):∃m',m'<n-i/\(m'=n-(i+1)/\i+1<=n/\P):=⟨n-(i+1),by omega,rfl,h,p⟩
section
variable{K:ae}{cl:Str->Addr}{E:XK}{X:Cx}{p q:Ph}{H H':Hp}{S:aF}{sc:Scope}{own:List Str}{cap:List (Nat×Str)}{elt target iter cnd:ah}{pos:ai}{mi:MI}{g:GM}{mc:MT}{me:ME}
theorem S6{σ:St}{ρ:cR}{xs zs:BK}{G:Gd}{J:It}{Q:VK}{D:Addr}{S2:aF}(sm:aQ K p S H)(ev:dL K p H ρ σ)(it:iP K p H (xs,G) J)(z:eQ G g mc me xs (cC own cap ρ) S=.ok zs S2)(hD:H D=none)
  (k:∀q H' vs,bP p H q H'->aQ K q S2 H'->aQ K (q.hold D) S2 H'->q.w D->D∉q.f->H' D=some (.lst vs)->vs.length<=sizeLine->aR K q.c H' zs vs->Q (.ref D) H'):
  Oa J (gP K g) (tP K cl E0 RB mc) (tP K cl E0 (cS K) me) (jC own cap σ) H D Q:=by
 obtain⟨st0,sm0⟩:=sm.res (D:=D) (o:=.lst []) hD trivial;have sh0:=sm.resHold (D:=D) (o:=.lst []) hD trivial;have nf0:D∉p.f:=λh=>sm.notin hD (sm.wc D (sm.sub D h));refine aa2 xs.length it.1 (λi σ1 H1 ys=>ys.length<=i/\i<=xs.length/\H1 D=some (.lst ys)/\∃p1 S1 ρ1 us ws,(aQ K p1 S1 H1/\aQ K (p1.hold D) S1 H1)/\bP p H p1 H1/\p1.w D/\D∉p1.f/\dL K p1 H1 ρ1 σ1/\iP K p1 H1 (xs,G) J/\iQ G S1/\aR K p1.c H1 us ys/\zs=us++ws/\eQ G g mc me (xs.drop i) ρ1 S1=.ok ws S2) ?_ ?_ ?_ ?_ ?_
 .refine⟨aj _,dq _,eC,p.res D,S,cC own cap ρ,[],zs,⟨sm0,sh0⟩,st0,.inr rfl,nf0,Qs (st0.repE ev),it.step st0,?_,.nil,rfl,by simpa using z⟩
  exact Ae z
 .rintro i σ1 H1 ys ⟨h1,_,h2,_⟩
  exact⟨h1,h2⟩
 .rintro i σ1 H1 ys hi ⟨_,_,_,p1,S1,ρ1,us,ws,⟨sm1,sh1⟩,st1,w1,f1,ev1,it1,g1,_⟩
  exact((it1.2 p1 H1 S1 sm1.step sm1 g1).1 i xs[i] (ay hi)).1
 .rintro i σ1 H1 ys x H2 hi ⟨hl,_,hH,p1,S1,ρ1,us,ws,⟨sm1,sh1⟩,st1,w1,f1,ev1,it1,g1,r1,e1,c1⟩ hy
  obtain⟨same,rx⟩:=((it1.2 p1 H1 S1 sm1.step sm1 g1).1 i xs[i] (ay hi)).2 x H2 hy;rw[qs hi]at c1;unfold eQ at c1;rw[if_pos g1]at c1;split at c1
  .cases c1
  .rename_i ρ2 gz
   have st2:=sm1.same same;have sm2:=sm1.ofSame same;have smh:=sh1.ofSame same;have hD2:H2 D=some (.lst ys):=same _ _ hH;have go:∀(q:Ph)(H4:Hp)(S3:aF)(σ3:St),dL K p1 H2 ρ2 σ3->bP (p1.hold D) H2 q H4->aQ K q S3 H4->H4 D=some (.lst ys)/\∃q2:Ph,bP p1 H1 q2 H4/\aQ K q2 S3 H4/\aQ K (q2.hold D) S3 H4/\q2.w D/\D∉q2.f/\dL K q2 H4 ρ2 σ3/\q2.c=q.c:=λq H4 S3 σ3 ev3 st4 sm4=>by
    have hD4:H4 D=some (.lst ys):=st4.keep D _ hD2 λz=>z.2 rfl;have fq:D∉q.f:=λh=>by
     have:=st4.nf D h f1;rw[hD2]at this;cases this
    have stU:=bP.unhold w1 st4 sm2;have nq:¬q.w D:=λz=>by
     have:=st4.nw D z λy=>y.2 rfl;rw[hD2]at this;cases this
    have smU:aQ K ⟨q.f,λa=>q.w a\/a=D,q.c⟩ S3 H4:=⟨sm4.nd,sm4.len,λa h=>.inl (sm4.sub a h),λa h=>h.elim (sm4.wc a) λz=>z▸st4.mono D (sm2.wc D w1),sm4.mu,λk a o e1 e2=>
     (sm4.obj k a o e1 e2).mono (λ_ e=>e) (λb w f=>⟨⟨.inl w,f⟩,λ_ e=>e⟩) λ_ _ r=>r⟩
    have shU:aQ K (Ph.hold ⟨q.f,λa=>q.w a\/a=D,q.c⟩ D) S3 H4:=⟨sm4.nd,sm4.len,λa h=>⟨.inl (sm4.sub a h),λz=>nq (z▸sm4.sub a h)⟩,λa h=>smU.wc a h.1,sm4.mu,λk a o e1 e2=>
     (sm4.obj k a o e1 e2).mono (λ_ e=>e) (λb w f=>⟨⟨⟨.inl w,λz=>nq (z▸w)⟩,f⟩,λ_ e=>e⟩) λ_ _ r=>r⟩
    exact⟨hD4,_,st2.trans stU,smU,shU,.inr rfl,fq,stU.repE ev3,rfl⟩
   split at c1
   .rename_i SA mz
    split at c1
    .rename_i y S3 ez
     split at c1
     .rename_i vs S4 cz
      cases c1;refine⟨p1,S1,ρ1,xs[i],ρ2,sm2,st2.repE ev1,rx,gz,λσ3 ev3=>⟨p1.hold D,S1,ρ2,smh,⟨ev3.len,ev3.at_⟩,?_⟩⟩;rw[mz];intro q HA b stA smA rb;cases rb;rw[if_pos rfl];refine⟨q,SA,ρ2,smA,stA.repE (p:=p1.hold D) ⟨ev3.len,ev3.at_⟩,?_⟩;rw[ez];intro q4 H4 y' st4 sm4 ry;obtain⟨hD4,q2,stQ,smQ,shQ,wQ,fQ,evQ,cQ⟩:=go q4 H4 S3 σ3 ev3 (stA.trans st4) sm4;obtain⟨stG,smG,shG⟩:=smQ.grow (ys:=ys) (D:=D) (o:=.lst (ys++[y'])) shQ wQ fQ trivial;have stB:=stQ.trans stG;have ry:bD K q4.c H4 y y':=ry;rw[<-cQ]at ry;refine⟨hD4,n1 hi ⟨by rw[ax];exact g7 hl,hi,eC,q2,S3,ρ2,us++[y],vs,⟨smG,shG⟩,st1.trans stB,wQ,fQ,stG.repE evQ,it1.step stB,Ae cz,?_,by rw[e1,jp];rfl,cz⟩⟩;exact(stB.reps r1).append (.cons (stG.rep ry) .nil)
     .cases c1
    .cases c1
   .rename_i SA mz
    refine⟨p1,S1,ρ1,xs[i],ρ2,sm2,st2.repE ev1,rx,gz,λσ3 ev3=>⟨p1.hold D,S1,ρ2,smh,⟨ev3.len,ev3.at_⟩,?_⟩⟩;rw[mz];intro q HA b stA smA rb;cases rb;rw[if_neg jx];obtain⟨hD4,q2,stQ,smQ,shQ,wQ,fQ,evQ,cQ⟩:=go q HA SA σ3 ev3 stA smA;exact n1 hi ⟨yk hl,hi,hD4,q2,SA,ρ2,us,ws,⟨smQ,shQ⟩,st1.trans stQ,wQ,fQ,evQ,it1.step stQ,Ae c1,stQ.reps r1,e1,c1⟩
   .cases c1
 .rintro σ1 H1 ys ⟨hl,_,hH,p1,S1,ρ1,us,ws,⟨sm1,sh1⟩,st1,w1,f1,ev1,it1,g1,r1,e1,c1⟩
  rw[uf]at c1;unfold eQ at c1;rw[if_pos g1]at c1;cases c1;refine⟨(it1.2 p1 H1 _ sm1.step sm1 g1).2,?_⟩;rw[jb]at e1;subst e1;exact k p1 H1 ys st1 sm1 sh1 w1 f1 hH (fx hl it.1) r1
theorem W7 {ρ:cR}{xs:BK×Gd}{J:It}{Q:VK}{D:Addr}(sm:aQ K p S H)(ev:dL K p H ρ σ)(it:iP K p H xs J)(k:bY K cl (cS K) p H ((eQ xs.2 g mc me xs.1 (cC own cap ρ) S).bind λys S2=>.ok (.pv (.lst ys)) S2) Q E)(hD:H D=none):
  Oa J (gP K g) (tP K cl E0 RB mc) (tP K cl E0 (cS K) me) (jC own cap σ) H D Q:=by
 cases z:eQ _ g _ _ _ _ S with
 |fail=>rw[z]at k;exact k.elim
 |exc n S'=>exact absurd z (Im _ _ _ _ _)
 |ok zs S2=>
  rw[z]at k;have k:=k;refine S6 sm ev it z hD λq H' vs st1 sm1 sh1 w1 f1 hH l1 r1=>?_;refine k _ _ _ (st1.toLess hD) sh1.toLess ?_;exact⟨D,vs,rfl,.inl ⟨hH,λz=>z.2 rfl⟩,l1,oH (λa h=>h.1) r1⟩
theorem aaP(k:iH X sc own cap)(hi:PIp K cl E X target iter mi)(hc:X.calm=true)(hg:∀C BQ BR ex,nC K (eU X sc (cN own cap) C BQ BR ex) target g)(ht:∀C BQ BR ex,fH K cl E0 (eU X sc (cN own cap) C BQ BR ex) cnd mc)(he:∀C BQ BR ex,aL K cl E0 (eU X sc (cN own cap) C BQ BR ex) elt me)
  (hs:autoParam (∀x,foldedSetIterable iter X.env x=pure x) Zqz):aL K cl E X (.ListComp elt [⟨target,iter,[cnd],0⟩] sc pos) (gZ own cap mi g mc me):=by
 intro hK;refine PE.imp (aaT k (hi hK) hc (λC BQ BR ex=>hg C _ _ _ hK) (λC BQ BR ex=>ht C _ _ _ hK) (λC BQ BR ex=>he C _ _ _ hK) hs) ?_
 rintro σ H Q ⟨p,S,ρ,s,ev,h⟩
 exact bZ s ev h λq H' xs J S' dD sm ev it kk D hD=>W7 sm ev it kk hD
end
end L2.Pp
namespace L2
open PySem PySem.Spec PyProof.Rows Bn
open L2.Pp
section
variable{X:Cx}{BP:List (Addr×Obj)}{σ:St}{H:Hp}{s:aa}{c:Addr->Prop}{a b:Addr}{n:Bool}{k:gA n}{ks:BK}{us:BF}
theorem Bq:∀{l:BC}{vs:List V},aR X.K c H (l.map PV.int) vs->vs=l.map V.int
 |[],vs,h=>h
 |i::l,vs,h=>by
  obtain⟨v,r,rfl,h1,h2⟩:=h;rw[h1,Bq h2];rfl
theorem Vv(I:aG X BP σ H s){l:BC}(r:bD X.K c H (.tup (l.map PV.int)) (.ref b)):gF s.heap l b:=by
 obtain⟨a,vs,e,sq,_,r⟩:=r;cases e;obtain⟨its,rv,⟨o,ho,hc,m,hd⟩,_⟩:=I.tuple sq;rw[Bq r]at rv;exact⟨o,its.toArray,m,ho,hc,hd,by simp_all ⟩
theorem Vd(I:aG X BP σ H s):∀{l:BD}{vs:List V}{its:BF},aR X.K c H (l.map λr:BC=>PV.tup (r.map PV.int)) vs->aV vs its->ff (λk v=>∃b,v=cx b/\gF s.heap k b) l its
 |[],vs,its,h,rv=>by
  subst h;cases rv;exact .nil
 |i::l,vs,its,h,rv=>by
  obtain⟨v,r,rfl,h1,h2⟩:=h;cases rv with
  |cons e t=>
   have h1':=h1;obtain⟨a,ws,rfl,_⟩:=h1';cases e;exact .cons ⟨_,rfl,Vv I h1⟩ (Vd I h2 t)
theorem Ka(I:aG X BP σ H s):∀{n:Bool}{k:gA n}{b:Addr},bD X.K c H (cM n k) (.ref b)->(kG X.prog X.w n).is s.heap k b
 |false,k,b,r=>gF.key (Vv I r)
 |true,k,b,r=>by
  obtain⟨a,vs,e,sq,_,r⟩:=r;cases e;obtain⟨its,rv,⟨o,ho,hc,m,hd⟩,_⟩:=I.tuple sq;exact⟨o,its.toArray,m,ho,hc,hd,by simpa using Vd I r rv⟩
theorem zF:∀{l m:BC},l.map PV.int=m.map PV.int->l=m
 |[],[],_=>rfl
 |[],_::_,h=>by cases h
 |_::_,[],h=>by cases h
 |i::l,j::m,h=>by
  injection h with h1 h2;injection h1 with h1;rw[h1,zF h2]
theorem mJ:∀{n:Bool}{k k':gA n},cM n k=cM n k'->k=k'
 |false,k,k',h=>by
  injection h with h;exact zF h
 |true,k,k',h=>by
  injection h with h;have go:∀{l m:List (List _)},l.map (λr=>PV.tup (r.map PV.int))=m.map (λr=>PV.tup (r.map PV.int))->l=m:=by
   intro l
   induction l with
   |nil=>
    simp_all
   |cons x l ih=>
    intro m h;cases m with
    |nil=>cases h
    |cons y m=>
     injection h with h1 h2;injection h1 with h1;rw[zF h1,ih h2]
  exact go h
theorem zN:∀{ps:BK}{vs:List V}{i:Nat}{v:V},aR X.K c H ps vs->vs[i]?=some v->∃p,ps[i]?=some p/\bD X.K c H p v:=λ{ps vs i v} r e=>by
 have hi:i<ps.length:=by
  rw[r.length];exact(cf.mp e).1
 obtain⟨u,e1,e2⟩:=r.get (ay hi)
 simp_all
theorem wG (I:aG X BP σ H s)(h:H a=some (dO a es ep)):s.heap.get? a=some (oD es ep):=(I.hok a _ h).1
theorem aaB :(oD es ep).ExactDict:=⟨rfl,rfl,rfl⟩
theorem Oi(I:aG X BP σ H s){xs:List (gA n×Addr×Value)}{ep:Nat}(h:H a=some (dO a (xs.map (jH n)).toArray ep))(nd:(xs.map (·.1)).Nodup)(r:aR X.K c H (xs.map λx=>cM n x.1) (xs.map λx=>V.ref x.2.1)):
  s.heap.DictOfH (kG X.prog X.w n) a xs:=by
 refine⟨_,_,ep,wG I h,aaB,rfl,?_,λx hx=>?_,nd⟩
 .have:jH n=entryOfKey (kG X.prog X.w n):=by
   funext x
   unfold jH entryOfKey;rw[Fd]
  simp_all
 .obtain⟨i,hi,e⟩:=td.mp hx
  obtain⟨p,e1,e2⟩:=zN r (by rw[aw,ay hi,e];rfl);rw[aw,ay hi,e]at e1;cases e1;exact Ka I e2
theorem zE (nd:(xs.map (·.1)).Nodup):
  (∃(i:Nat)(p:Addr×Value),xs[i]?=some (k,p)/\atKey xs k=some p)\/((∀i:Nat,(xs.map λx=>cM n x.1)[i]?≠some (cM n k))/\atKey xs k=none):=by
 by_cases h:∃(i:Nat)(p:Addr×Value),xs[i]?=some (k,p)
 .obtain⟨i,p,h⟩:=h
  exact .inl ⟨i,p,h,atKey_of_get nd h⟩
 .refine .inr ⟨λi e=>?_,qu λj p e=>h ⟨j,p,e⟩⟩
  rw[aw]at e;cases z:xs[i]? with
  |none=>simp_all
  |some x=>
   rw[z]at e;have e:=cq e;exact h ⟨i,x.2,by rw[z,<-mJ e]⟩
def pQ(K:ae)(H:Hp)(a b:Addr)(vs:List V)(Q:V->Prop)(N:Prop):Prop:=
 ∃(c:Addr->Prop)(n:Bool)(k:gA n)(ks:BK)(us:BF),pN K c H a n ks us/\aV vs us/\bD K c H (cM n k) (.ref b)/\(∀(i:Nat)(v:V),ks[i]?=some (cM n k)->vs[i]?=some v->Q v)/\((∀i:Nat,ks[i]?≠some (cM n k))->N)
theorem Aw(I:aG X BP σ H s){vs:List V}{Q:V->Prop}{N:Prop}(g:pQ X.K H a b vs Q N):∃(n:Bool)(k:gA n)(xs:List (gA n×Addr×Value)),(a==sysModules)=false/\s.heap.DictOfH (kG X.prog X.w n) a xs/\(kG X.prog X.w n).is s.heap k b/\
  ((∃p v,atKey xs k=some p/\bS v p.2/\Q v)\/(atKey xs k=none/\N)):=by
 obtain⟨c,n,k,ks,us,⟨xs,ep,e,z,l,nd,rfl,r,rfl⟩,rv,rk,q1,q2⟩:=g;refine⟨n,k,xs,z,Oi I e nd r,Ka I rk,?_⟩;rcases zE nd with⟨i,p,hx,ha⟩|⟨hn,ha⟩
 .have hi:=(cf.mp hx).1
  have hv:i<vs.length:=by
   rw[rv.length,ak];exact hi
  obtain⟨u,e1,e2⟩:=rv.get (ay _);rw[aw,hx]at e1;cases e1;exact .inl ⟨p,_,ha,e2,q1 i _ (by rw[aw,hx];rfl) (ay hv)⟩
 .exact .inr ⟨ha,q2 hn⟩
def ael(K:ae):V->List V->Hp->VK->Prop:=λx xs H Q=>∃a b z vs,x=.ref a/\xs=[.ref b,z]/\pQ K H a b vs (λv=>Q v H) (Q z H)
theorem aaX(hu:X.A.units+2<cLine):Xb X "dict.get" (ael X.K):=by
 intro BP s σ H x xs v us Q I rx rv h;obtain⟨a,b,z,vs,rfl,rfl,g⟩:=h;cases rx;obtain⟨u1,u2,rfl,r1,r2⟩:=rv.two;cases r1;obtain⟨n,k,xs,hd,dd,hk,o⟩:=Aw I g;refine call_meetsIn u6 dd.typeIs PySem.F.entry_dict_get (PySem.F.args_dict_get_3 _ _ _) (meetsH_dict_get_default _ a b hd u2) ⟨xW hu n,k,xs,hk,dd,?_⟩;rcases o with⟨p,v,e,rv,q⟩|⟨e,q⟩
 .rw[e]
  exact⟨v,H,I.tok _,rv,q⟩
 .rw[e]
  exact⟨z,H,I.tok _,r2,q⟩
def ahq(K:ae):R2:=λx y H Q=>∃a b vs,x=.ref a/\y=.ref b/\pQ K H a b vs (λv=>Q v H) False
theorem Hw(hu:X.A.units+2<cLine):nF X (ahq X.K):=by
 intro value slice BP s σ H x y v u Q I rx ry h hs;obtain⟨a,b,vs,rfl,rfl,g⟩:=h;cases rx;cases ry;obtain⟨n,k,xs,hd,dd,hk,o⟩:=Aw I g;rcases o with⟨p,v,e,rv,q⟩|⟨e,q⟩
 .refine ag ?_
  refine ag (wpAny_specialOf dd.typeIs PySem.F.slot_dict_getitem.lookup ?_);have fin:wpAny 1#g X.A (subscripted slice false (.ref a) (.ref b)) (λr s₃=>wpAny 1#g X.A (letTemporaryGo value (.ref a) r >>= λ_=>pure r) (EP X BP σ Q) X.xe s₃) X.xe s:=by
   rw[hs];exact wpAny_operating (wpAny_getItem_heap (xW hu n) hk dd e (ag (wpAny_letTemporaryGo (ao ⟨v,H,I.tok _,rv,q⟩))))
  first
   |exact ao (ag fin)
   |grind
   |grind
 .exact q.elim
def jY(H:Hp)(a:Addr)(n:Bool)(ks:BK)(rs:List V)(us:BF):Prop:=
 ∃(xs:List (gA n×Addr×Value))(ep:Nat),H a=some (dO a (xs.map (jH n)).toArray ep)/\(a==sysModules)=false/\xs.length<=sizeLine/\(xs.map (·.1)).Nodup/\ks=xs.map (λx=>cM n x.1)/\rs=xs.map (λx=>V.ref x.2.1)/\us=xs.map (·.2.2)
theorem vW{K:ae}(d:pN K c H a n ks us):∃rs,jY H a n ks rs us/\aR K c H ks rs:=by
 obtain⟨xs,ep,e,z,l,nd,ek,r,eu⟩:=d;exact⟨_,⟨xs,ep,e,z,l,nd,ek,rfl,eu⟩,r⟩
theorem jY.at_{K:ae}{rs:List V}(d:jY H a n ks rs us)(r:aR K c H ks rs):pN K c H a n ks us:=by
 obtain⟨xs,ep,e,z,l,nd,ek,er,eu⟩:=d;subst er;exact⟨xs,ep,e,z,l,nd,ek,r,eu⟩
def DPt(H:Hp)(a:Addr)(n:Bool)(ks:BK)(rs:List V)(us:BF)(k:gA n)(b:Addr)(u:Value)(H':Hp):Prop:=
 ∃es ep,H'=aM H a (dO a es ep)/\((∃i:Nat,ks[i]?=some (cM n k)/\jY H' a n ks rs (us.set i u))\/((∀i:Nat,ks[i]?≠some (cM n k))/\jY H' a n (ks++[cM n k]) (rs++[.ref b]) (us++[u])))
theorem abX{xs:List (gA n×Addr×Value)}{i:Nat}{p:Addr×Value}{u:Value}(nd:(xs.map (·.1)).Nodup)(hx:xs[i]?=some (k,p)):(xs.map (putAt k u)).map (·.2.2)=(xs.map (·.2.2)).set i u:=by
 refine jg λj=>?_;have hi:=(cf.mp hx).1;rw[ui,ak,aw,aw,aw]
 by_cases h:i=j
 .subst h
  rw[if_pos hi,hx];simp[putAt]
 .rw[if_neg h]
  cases z:xs[j]? with
  |none=>rfl
  |some x=>
   have:x.1≠k:=λe=>h (qv nd hx (by rw[z,<-e]));simp[putAt,this]
theorem abG{xs:List (gA n×Addr×Value)}{u:Value}:(xs.map (putAt k u)).map (λx=>V.ref x.2.1)=xs.map (λx=>V.ref x.2.1):=by
 rw[cj];refine dy λx _=>?_;simp only[u7,putAt];split<;>rfl
theorem ab4{xs:List (gA n×Addr×Value)}{u:Value}:(xs.map (putAt k u)).map (λx=>cM n x.1)=xs.map (λx=>cM n x.1):=by
 rw[cj];refine dy λx _=>?_;simp only[u7,putAt];split<;>rfl
def ag5(K:ae):Qb:=λo i v H Q=>∃(a b:Addr)(c:Addr->Prop)(n:Bool)(k:gA n)(ks:BK)(rs:List V)(us:BF),o=.ref a/\i=.ref b/\jY H a n ks rs us/\aR K c H ks rs/\bD K c H (cM n k) (.ref b)/\us.length<sizeLine/\
 ∀u H',bS v u->DPt H a n ks rs us k b u H'->Q H'
theorem abv(hu:X.A.units+2<cLine):Hk X (ag5 X.K):=by
 intro BP s σ H o i v ov iv u Q I ro ri rv h;obtain⟨a,b,c,n,k,ks,rs,us,rfl,rfl,d,r,rk,hl,q⟩:=h;cases ro;cases ri;obtain⟨xs,ep,e,z,l,nd,rfl,rfl,rfl⟩:=d;have dd:=Oi I e nd r;rw[ak]at hl;refine wpAny_setItem_heap (xW hu n) (Ka I rk) dd λh' dd' hs=>?_;obtain⟨ob,es,ep',ho,hex,hd,he,_,hnd⟩:=dd';have eob:ob=oD es ep':=by
  obtain⟨e1,e2,e3⟩:=hex;cases ob;subst e1 e2 e3 hd;rfl
 subst eob;have een:jH n=entryOfKey (kG X.prog X.w n):=by
  funext x
  unfold jH entryOfKey;rw[Fd]
 have ees:es=((storedH xs k b u).map (jH n)).toArray:=by
  rw[een,<-he]
 have I':aG X BP σ (aM H a (dO a es ep')) {s with heap:=h',toks:=s.toks+(kG X.prog X.w n).draws k}:=
  I.write (by rw[e];exact trivial) (.inl rfl) (λb' q' hb z'=>(hs.2 b' hb).trans z') ⟨_,ho⟩ ⟨ho,⟨_,ho⟩,λh1 h2 p kk=>kk _ p⟩
 refine⟨_,I',q u _ rv ⟨es,ep',rfl,?_⟩⟩;have hat:(aM H a (dO a es ep')) a=some (dO a ((storedH xs k b u).map (jH n)).toArray ep'):=by rw[eC,ees]
 rcases zE nd with⟨i,p,hx,ha⟩|⟨hn,ha⟩
 .refine .inl ⟨i,by rw[aw,hx];rfl,storedH xs k b u,ep',hat,z,?_,hnd,?_,?_,?_⟩
  .rw[uj ha,ak]
   exact l
  .rw[uj ha,ab4]
  .rw[uj ha,abG]
  .rw[uj ha,abX nd hx]
 .refine .inr ⟨hn,storedH xs k b u,ep',hat,z,?_,hnd,?_,?_,?_⟩
  .rw[jq ha,ax]
   exact hl
  .rw[jq ha,cw]<;>rfl
  .rw[jq ha,cw]<;>rfl
  .rw[jq ha,cw]<;>rfl
def E7(x:V)(H:Hp):Prop:=∃a es ep,x=.ref a/\H a=some (dO a es ep)
theorem Jy {es:List ah}{to:TE}{t:TA}{name:Str}{apos cpos:ai}{id:String}{r:V->List V->Hp->VK->Prop}(slot:Slot "dict" name id)(hty:typeOf (.builtin id)=pure (.type "method_descriptor"))(hm:Xb X id r)(ho:PE X o to)(ha:PA X (e::es) t)
  (hbase:autoParam (attributeBase o name X.env (eval o X.env)=eval o X.env) Zqq)
  (hfew:((backTo cpos (starEach (e::es) X.env)).all (λx=>!x.1)&&(backToKw cpos (keywordEach [] X.env)).all (λx=>x.1.isSome)
   &&decide ((e::es).length+([]:List ia).length+(if([]:List ia).isEmpty then 0 else 1)<30))=true:=by rfl)
  (hline:autoParam ((apos.endLine==cpos.line)=true) Zqq)(hs:autoParam (starEach (e::es) X.env=(false,eval e X.env)::starEach es X.env) Zqq)(hplain:autoParam ((backTo cpos (starEach es X.env)).any (·.1)=false) Zqq):
  PE X (.Call (.Attribute o name apos) (e::es) [] cpos) (λσ H Q=>to σ H λx H1=>E7 x H1/\t σ H1 λxs H2=>r x xs H2 Q):=by
 intro BP s σ H Q I h;refine f7 hbase hfew hline rfl (aY (ho _ s _ H _ I h) λv s1 hq=>?_);rcases hq with⟨x,H1,I1,r1,⟨a,ds,ep,ex,hH⟩,q1⟩;subst ex;cases r1;have hg:=wG I1 hH;refine⟨"dict",id,PySem.F.plainAttrs_dict,slot,hty,⟨_,hg,rfl⟩,λb eb=>?_,?_⟩
 .cases eb
  exact⟨_,hg,rfl⟩
 have hA:=ha cpos _ _ _ _ _ I1 q1;rw[hs]at hA⊢;refine f9 (by show(false||(backTo _ _).any _)=false;rw[hplain]<;>rfl) (xh ?_);exact aY hA λus s2 ⟨vs,H2,I2,r2,q2⟩=>hm _ _ _ _ (.ref a) _ _ us Q I2 rfl r2 q2
theorem acG(I:aG X BP σ H s):sysModules<s.heap.objs.size:=by
 have h:=(I.mod.glob.keeps I.bk).lt;exact xq 1#b h
theorem Vs:PE X (.Dict [] [] pos) (λ_ H Q=>∀p,H p=none->(p==sysModules)=false->Q (.ref p) (aM H p (dO p #[] 0))):=λBP s σ H Q I h=>
 wpAny_Dict_empty ⟨.ref _,_,I.laid (o:=dO _ _ 0) (λ_ _ q=>ar _ q) (aj _) ⟨cy _ rfl,⟨_,cy _ rfl⟩,λh1 h2 p kk=>kk _ p⟩,rfl,
  h _ (I.hok.fresh (aj _)) (beq_eq_false_iff_ne.mpr (iz (de (acG I))))⟩
end
end L2
namespace L2.Pp
section
open PySem PySem.Spec PyProof.Rows Bn
open Classical in
def iT{α:Type}(kvs:List (PV×α))(k:PV):Option Nat:=kvs.findIdx? λkv=>decide (kv.1=k)
def gX (kvs:List (PV×α))(k:PV):Option α:=match iT kvs k with
 |some i=>kvs[i]?.map (·.2)
 |none=>none
def lO (kvs:List (PV×α))(k:PV)(v:α):List (PV×α):=match iT kvs k with
 |some i=>kvs.set i (k,v)
 |none=>kvs++[(k,v)]
def jT(n:Bool)(k:PV):Prop:=∃k',k=cM n k'
theorem mH {i:Nat}(h:iT kvs k=some i):∃v,kvs[i]?=some (k,v):=by
 obtain⟨hi,e,_⟩:=List.findIdx?_eq_some_iff_getElem.mp h;have e:=by simpa using e
 refine⟨kvs[i].2,?_⟩;rw[ay hi];congr 1;exact wv e rfl
theorem aba {kvs:List (PV×α)}{k:PV}(h:iT kvs k=none)(i:Nat):(kvs.map (·.1))[i]?≠some k:=by
 unfold iT at h;rw[List.findIdx?_eq_none_iff]at h;intro e;rw[aw]at e;cases z:kvs[i]? with
 |none=>simp_all
 |some x=>
  have:=h x (dh z)
  simp_all
theorem vS {kvs:List (PV×α)}{k:PV}{i:Nat}(h:(kvs.map (·.1))[i]?=some k):∃j,iT kvs k=some j:=by
 cases z:iT _ k with
 |some j=>exact⟨j,rfl⟩
 |none=>exact absurd h (aba z i)
def pD(n:Bool):ME:=λ_ S=>.ok (.ref S.length) (S++[.dic n []])
open Classical in
def kI(d k:AV)(S:aF)(z:BN):bQ AV:=match d,k with
 |.ref j,.pv k=>match S[j]? with
  |some (.dic n kvs)=>if jT n k then(match gX kvs k,z with
   |some v,_=>.ok (.pv v) S
   |none,some z=>.ok z S
   |none,none=>.fail)else .fail
  |_=>.fail
 |_,_=>.fail
def jV(md mk:ME):ME:=λρ S=>(md ρ S).bind λd S1=>(mk ρ S1).bind λk S2=>kI d k S2 none
def tH (d:AV)(S:aF)(f:bQ α):bQ α:=match d with
 |.ref j=>(match S[j]? with
  |some (.dic _ _)=>f
  |_=>.fail)
 |_=>.fail
def tJ(md:ME)(ms:MA):ME:=λρ S=>(md ρ S).bind λd S1=>tH d S1 ((ms ρ S1).bind λks S2=>match ks with
 |[k,z]=>kI d k S2 (some z)
 |_=>.fail)
open Classical in
def tM(d k v:AV)(S:aF):bQ AV:=match d,k,v with
 |.ref j,.pv k,.pv v=>match S[j]? with
  |some (.dic n kvs)=>if jT n k/\kvs.length<16777216 then .ok (.pv .non) (S.set j (.dic n (lO kvs k v)))else .fail
  |_=>.fail
 |_,_,_=>.fail
def tE(md mk mv:ME):MS:=λρ S=>cO.of (mv ρ S) λv S1=>cO.of (md ρ S1) λd S2=>cO.of (mk ρ S2) λk S3=>cO.of (tM d k v S3) λ_ S4=>.nx ρ S4
section
variable{K:ae}{cl:Str->Addr}{E:XK}{X:Cx}{p q:Ph}{H H':Hp}{S:aF}{a b e o i v:ah}{es:List ah}{md mk mv:ME}{ms:MA}{pos:ai}
theorem acL(n:Bool):aL K cl E X (.Dict [] [] pos) (pD n):=by
 intro hK;subst hK;refine PE.imp Vs ?_
 rintro σ H Q ⟨p,S,ρ,s,ev,h⟩ t ht hs
 have ob:nZ X.K ⟨p.f++[t],λa=>p.w a\/a=t,λa=>p.c a\/a=t⟩ (aM H t _) t (.dic n []):=
  ⟨[],[],⟨[],0,eC,hs,dq _,kn,rfl,.nil,rfl⟩,.nil,.nil⟩
 obtain⟨st,sm⟩:=s.pushO ht (show Mb (dO t _ 0) from trivial) ob;exact h _ _ _ st sm ⟨t,by rw[<-s.len,ee (aj _),ie];rfl,rfl⟩
theorem Xy(s:aQ K p S H){j:Nat}{a:Addr}{n:Bool}{kvs:List (PV×PV)}{k:PV}{y:V}{Q:V->Prop}{N:Prop}(ej:p.f[j]?=some a)(z:S[j]?=some (.dic n kvs))(hk:jT n k)(ry:bD K p.c H k y)
  (q:∀v x,gX kvs k=some v->bD K p.c H v x->Q x)(qn:gX kvs k=none->N):∃b vs,y=.ref b/\pQ K H a b vs Q N:=by
 obtain⟨k',rfl⟩:=hk;obtain⟨us,vs,d,rv,r⟩:=s.obj j a _ ej z;have ey:∃b,y=.ref b:=by
  cases n with
  |false=>
   have ry:=ry;unfold bD at ry;obtain⟨b,_,e,_⟩:=ry;exact⟨b,e⟩
  |true=>
   have ry:=ry;unfold bD at ry;obtain⟨b,_,e,_⟩:=ry;exact⟨b,e⟩
 obtain⟨b,rfl⟩:=ey;have nd:∀i j:Nat,(kvs.map (·.1))[i]?=some (cM n k')->(kvs.map (·.1))[j]?=some (cM n k')->i=j:=by
  obtain⟨xs,ep,_,_,_,nd,ek,_⟩:=d;intro i j h1 h2;rw[ek,aw]at h1 h2;cases z1:xs[i]? with
  |none=>rw[z1]at h1;cases h1
  |some x=>
   cases z2:xs[j]? with
   |none=>rw[z2]at h2;cases h2
   |some y=>
    rw[z1]at h1;rw[z2]at h2;have e1:=mJ (cq h1);have e2:=mJ (cq h2);exact qv nd (p:=x.2) (q:=y.2) (k:=k') (by rw[z1,<-e1]) (by rw[z2,<-e2])
 refine⟨b,vs,rfl,p.c,n,k',_,us,d,rv,ry,λi x h1 h2=>?_,λhn=>qn ?_⟩
 .obtain⟨j',hj⟩:=vS h1
  obtain⟨v,hv⟩:=mH hj;have ei:j'=i:=nd j' i (by rw[aw,hv];rfl) h1;subst ei;obtain⟨x',e1,e2⟩:=r.get (i:=j') (p:=v) (by rw[aw,hv];rfl);rw[h2]at e1;cases e1;exact q v x (by unfold gX;rw[hj];simp[hv]) e2
 .cases z:iT kvs (cM n k')with
  |none=>unfold gX;rw[z]
  |some i=>
   obtain⟨v,hv⟩:=mH z;exact absurd (by rw[aw,hv];rfl) (hn i)
theorem Rq {z:BN}{x y:V}{Q:VK}(s:aQ K p S H)(rd:cS K p H d x)(rk:cS K p H k y)(h:bY K cl (cS K) p H (kI d k S z) Q E):
  ∃a b vs,x=.ref a/\y=.ref b/\pQ K H a b vs (λv=>Q v H) (∃w,z=some w/\∀u,cS K p H w u->Q u H):=by
 cases d with
 |pv _=>cases k<;>exact h.elim
 |ref j=>
  cases k with
  |ref _=>exact h.elim
  |pv k=>
   obtain⟨a,ej,rfl⟩:=rd;unfold kI at h;dsimp only at h;split at h
   .rename_i n kvs hS
    split at h
    .rename_i hk
     obtain⟨b,vs,e,g⟩:=Xy (N:=∃w,z=some w/\∀u,cS K p H w u->Q u H) s ej hS hk rk (λv x e r=>by
      rw[e]at h;exact bY.ret (R:=cS K) h s r) (λe=>by
      rw[e]at h;cases z with
      |none=>exact h.elim
      |some w=>exact⟨w,rfl,λu r=>bY.ret h s r⟩)
     exact⟨a,b,vs,rfl,e,g⟩
    .exact h.elim
   .exact h.elim
theorem Fw{a b:Addr}{vs:List V}{Q Q':V->Prop}{N N':Prop}(g:pQ K H a b vs Q N)(f:∀v,Q v->Q' v)(f':N->N'):pQ K H a b vs Q' N':=by
 obtain⟨c,n,k,ks,us,d,rv,rk,q1,q2⟩:=g;exact⟨c,n,k,ks,us,d,rv,rk,λi v h1 h2=>f v (q1 i v h1 h2),λh=>f' (q2 h)⟩
theorem aee(hu:X.A.units+8<cLine)(ha:aL K cl E X a md)(hb:aL K cl E X b mk)(hs:autoParam (vC b) Zwx):aL K cl E X (.Subscript a b pos) (jV md mk):=by
 intro hK;subst hK;refine PE.imp (Ta (Hw 1#a) (ha rfl) (hb rfl) hs) ?_
 rintro σ H Q ⟨p,S,ρ,s,ev,h⟩
 refine bZ s ev h λq H1 d x S1 st s1 e1 r1 h1=>bZ s1 e1 h1 λq2 H2 k y S2 st2 s2 e2 r2 h2=>?_;obtain⟨a,b,vs,ex,ey,g⟩:=Rq s2 (st2.repA r1) r2 h2;exact⟨a,b,vs,ex,ey,Fw g (λ_ h=>h) (by grind)⟩
theorem aab {d:AV}{x:V}{f:bQ α}{Q:β->Hp->Prop}(s:aQ K p S H)(rd:cS K p H d x)(h:bY K cl R p H (tH d S f) Q E):E7 x H/\bY K cl R p H f Q E:=by
 cases d with
 |pv _=>exact h.elim
 |ref j=>
  obtain⟨a,ej,rfl⟩:=rd;unfold tH at h;dsimp only at h;split at h
  .rename_i n kvs hS
   obtain⟨us,vs,⟨xs,ep,e,_⟩,_⟩:=s.obj j a _ ej hS;exact⟨⟨a,_,_,rfl,e⟩,h⟩
  .exact h.elim
theorem acn{apos cpos:ai}{f:ah}(hu:X.A.units+8<cLine)(ho:aL K cl E X o md)(ha:eR K cl E X [e,f] ms)(hbase:autoParam (attributeBase o "get" X.env (eval o X.env)=eval o X.env) Zqq)
  (hfew:autoParam (((backTo cpos (starEach [e,f] X.env)).all (λx=>!x.1)&&(backToKw cpos (keywordEach [] X.env)).all (λx=>x.1.isSome)&&decide (([e,f]:List ah).length+([]:List ia).length+(if([]:List ia).isEmpty then 0 else 1)<30))=true) Zqq)
  (hline:autoParam ((apos.endLine==cpos.line)=true) Zqq)(hs:autoParam (starEach [e,f] X.env=(false,eval e X.env)::starEach [f] X.env) Zqq)(hplain:autoParam ((backTo cpos (starEach [f] X.env)).any (·.1)=false) Zqq):aL K cl E X (.Call (.Attribute o "get" apos) [e,f] [] cpos) (tJ md ms):=by
 intro hK;subst hK;refine PE.imp (Jy u6 PySem.F.type_dict_get (aaX 1#a) (ho rfl) (ha rfl) hbase hfew hline hs hplain) ?_
 rintro σ H Q ⟨p,S,ρ,s,ev,h⟩
 refine bZ s ev h λq H1 d x S1 st s1 e1 r1 h1=>?_;obtain⟨hd,h1⟩:=aab s1 r1 h1;refine⟨hd,bZ s1 e1 h1 λq2 H2 ks ys S2 st2 s2 e2 r2 h2=>?_⟩;cases r2 with
 |nil=>exact h2.elim
 |cons r3 rr=>
  cases rr with
  |nil=>exact h2.elim
  |cons r4 rs=>
   cases rs with
   |nil=>
    obtain⟨a,b,vs,ex,ey,g⟩:=Rq s2 (st2.repA r1) r3 h2;exact⟨a,b,_,vs,ex,by rw[ey],Fw g (λ_ h=>h) λ⟨w',e,q'⟩=>by cases e;exact q' _ r4⟩
   |cons _ _=>exact h2.elim
theorem aQ.writeO(s:aQ K p S H){D:Addr}{k:Nat}{o:SO}{ho:HO}(h:p.f[k]?=some D)(hk:k<S.length)(mo:Mb ho)(ob:bP p H p (aM H D ho)->nZ K p (aM H D ho) D o):bP p H p (aM H D ho)/\aQ K p (S.set k o) (aM H D ho):=by
 have w:=s.sub D (dh h);have st:bP p H p (aM H D ho):=⟨s.wc,s.mu,jl,λ_ h=>h,λ_ h=>h,λ_ h g=>absurd h g,λ_ h g=>absurd h g,λ_ h g=>absurd h g,λa u e nw=>by
  rw[bK (λz=>nw (by rw[z];exact w))];exact e⟩
 refine⟨st,s.nd,by rw[ij];exact s.len,s.sub,s.wc,λa x=>?_,λj a u e1 e2=>?_⟩
 .by_cases z:a=D
  .rw[z,eC]
   exact⟨ho,rfl,mo⟩
  .rw[bK z]
   exact s.mu a x
 .by_cases hj:k=j
  .simp_all
  .rw[fu hj]at e2
   have ne:a≠D:=λz=>hj (nodup_idx s.nd h (by rw[z]at e1;exact e1));exact(s.obj j a u e1 e2).mono (λvs e=>by rw[bK ne];exact e) (λb w f=>⟨⟨w,f⟩,λvs e=>by rw[bK (λz:b=D=>f (z▸dh h))];exact e⟩) λ_ _ r=>st.reps r
theorem aV.setI (r:aV vs us)(rx:bS x u):∀i,aV (vs.set i x) (us.set i u):=λi=>r.set rx i
theorem adw{tpos:ai}(hu:X.A.units+8<cLine)(hv:aL K cl E X v mv)(ho:aL K cl E X o md)(hi:aL K cl E X i mk)
  (ha:∀v,assign (.Subscript o i tpos) X.env v=(do
   let ov <-holding [v] (eval o X.env)
   let iv <-holding [v,ov] (eval i X.env)
   standAt tpos
   holding [v,ov,iv] (setItem ov iv v)
   release [v,ov,iv] []):=by intro _;rfl)
  (hs:autoParam (swapsWithSole [.Subscript o i tpos] v pos.line X.env=pure false) Zqq)(hw:autoParam (swappedStores [.Subscript o i tpos] v X.env=pure none) Zqq)
  (h1:autoParam ((assignEach [.Subscript o i tpos] X.env).map (·.2)=[assign (.Subscript o i tpos) X.env]) Zqq):eZ K cl E X (.Assign [.Subscript o i tpos] v pos) (tE md mk mv):=by
 intro hK;subst hK;refine PS.imp (Ai (hv rfl) (Gh (ho rfl) (hi rfl) (abv 1#a) ha) hs hw h1) ?_
 rintro D σ H ⟨p,S,ρ,s,ev,h⟩
 refine jM s ev h λq H1 v x S1 st s1 e1 r1 h1=>?_;refine jM s1 e1 h1 λq2 H2 d y S2 st2 s2 e2 r2 h2=>?_;refine jM s2 e2 h2 λq3 H3 k z S3 dR s3 e3 r3 h3=>?_;have r2:=dR.repA r2;have r1:=dR.repA (st2.repA r1);cases d with
 |pv _=>cases k<;>cases v<;>exact h3.elim
 |ref j=>
  cases k with
  |ref _=>cases v<;>exact h3.elim
  |pv k=>
   cases v with
   |ref _=>exact h3.elim
   |pv v=>
    obtain⟨a,ej,rfl⟩:=r2;have h3:=h3;unfold tM at h3;dsimp only at h3;cases hS:S3[j]? with
    |none=>simp only[hS]at h3;exact h3.elim
    |some o=>
     cases o with
     |lst _=>simp only[hS]at h3;exact h3.elim
     |lol _=>simp only[hS]at h3;exact h3.elim
     |dol _ _=>simp only[hS]at h3;exact h3.elim
     |dic n kvs=>
      simp only[hS]at h3
      by_cases hc:jT n k/\kvs.length<16777216
      .rw[if_pos hc]at h3
       obtain⟨⟨k',rfl⟩,hl⟩:=hc;obtain⟨us,vs,d,rv,r⟩:=s3.obj j a _ ej hS;have rk:bD X.K q3.c H3 (cM n k') z:=r3;have ez:∃b,z=.ref b:=by
        obtain⟨b,_,e,_⟩:=Xy (Q:=λ_=>True) (N:=True) s3 ej hS ⟨k',rfl⟩ rk (λ_ _ _ _=>trivial) λ_=>trivial;exact⟨b,e⟩
       obtain⟨b,rfl⟩:=ez;obtain⟨rs,dw,rr⟩:=vW d;have lu:us.length=kvs.length:=by
        rw[<-rv.length,<-r.length,ak]
       refine⟨a,b,q3.c,n,k',_,rs,us,rfl,rfl,dw,rr,rk,by rw[lu,jI];exact hl,λu H' ru hp=>?_⟩;obtain⟨es,ep,rfl,hp⟩:=hp;have hj:=(cf.mp hS).1;obtain⟨st4,sm4⟩:=s3.writeO (o:=.dic n (lO kvs (cM n k') v)) ej hj (show Mb (dO a es ep) from trivial) λst4=>by
        rcases hp with⟨i,hi,dw'⟩|⟨hn,dw'⟩
        .obtain⟨i',hi'⟩:=vS hi
         obtain⟨w,hw'⟩:=mH hi';have ei:i'=i:=by
          obtain⟨xs,_,_,_,_,nd,ek,_⟩:=dw;have g1:(kvs.map (·.1))[i']?=some (cM n k'):=by rw[aw,hw'];rfl
          rw[ek,aw]at g1 hi;cases z1:xs[i']? with
          |none=>rw[z1]at g1;cases g1
          |some x1=>
           cases z2:xs[i]? with
           |none=>rw[z2]at hi;cases hi
           |some x2=>
            rw[z1]at g1;rw[z2]at hi;have e1:x1.1=k':=mJ (cq g1);have e2:x2.1=k':=mJ (cq hi);exact qv nd (p:=x1.2) (q:=x2.2) (k:=k') (by rw[z1,<-e1]) (by rw[z2,<-e2])
         subst ei;have ek:lO kvs (cM n k') v=kvs.set i' (cM n k',v):=by unfold lO;rw[hi']
         refine⟨us.set i' u,vs.set i' x,?_,aV.setI rv ru i',?_⟩
         .rw[ek]
          have e1:(kvs.set i' (cM n k',v)).map (·.1)=kvs.map (·.1):=by
           rw[uk];refine jg λt=>?_;rw[ui];split
           .rename_i ht
            subst ht;rw[if_pos (by rw[ak];exact(cf.mp hw').1),aw,hw'];rfl
           .rfl
          rw[e1];exact dw'.at_ (st4.reps rr)
         .rw[ek,uk]
          exact aR.set (st4.rep r1) i' (st4.reps r)
        .have ei:iT kvs (cM n k')=none:=by
          cases z0:iT kvs (cM n k')with
          |none=>rfl
          |some i=>
           obtain⟨w,hw'⟩:=mH z0;exact absurd (by rw[aw,hw'];rfl) (hn i)
         have ek:lO kvs (cM n k') v=kvs++[(cM n k',v)]:=by unfold lO;rw[ei]
         refine⟨us++[u],vs++[x],?_,aV.append rv (.cons ru .nil),?_⟩
         .rw[ek,cw]
          exact dw'.at_ ((st4.reps rr).append (.cons (st4.rep rk) .nil))
         .rw[ek,cw]
          exact(st4.reps r).append (.cons (st4.rep r1) .nil)
       exact h3 _ _ _ st4 sm4 (st4.repE e3)
      .rw[if_neg hc]at h3
       exact h3.elim
end
end
end L2.Pp
namespace L2
open PySem PySem.Spec PyProof.Rows Bn L2.Pp
section
variable{prog:Program}{w:am}{A:aq}{E:Value->aa->Prop}{s:aa}{it d i ep:Nat}{es:Array DictEntry}
theorem ada{h:i<es.size}:(if(i:Int)<0 then none else es[(i:Int).toNat]?)=some es[i]:=by
 simp_all
theorem adv{h:¬i<es.size}:(if(i:Int)<0 then none else es[(i:Int).toNat]?)=none:=by
 simp_all
theorem aef{Q:BG->aa->Prop}{h1:Heap}(hh:A.handled=none)(sb:qr it s.heap h1)(q:∀h',qr it s.heap h'->Q none {s with heap:=h'}):
  wpAny (model prog w) A.in1 (newExc (.type "StopIteration") [] >>= raiseNew (α:=ul)) (λ_ _=>False) (λe s'=>wpAny (model prog w) A (isInstance e (.type "StopIteration")) (λb s2=>b=true/\Q none s2) E s') {s with heap:=h1}:=by
 refine ag ?_;simp only[newExc,newTuple];refine ag (m:=firstArgMember _ _) (tw (a:=dk) (by first |rfl |(simp only[firstArgMember];rfl)) ?_)
 refine ju ?_ (by size_fits);simp only[raiseNew];refine ag (wpAny_handled ?_);rw[show A.in1.handled=none from hh];refine ag (ao (wpAny_throw ?_));exact yb (T:="StopIteration") (b:=true) ⟨_,cy _ rfl,rfl⟩ isSubtype_stop ⟨rfl,q _ ((sb.push _).push _)⟩
theorem Cw{Q:ul->aa->Prop}{E':Value->aa->Prop}(hit:s.heap.IsKeyIter it d i es.size ep)(hd:s.heap.get? d=some (oD es ep))
  (q1:∀h:i<es.size,∀h',h'.IsKeyIter it d (i+1) es.size ep->ja it s.heap h'->Q (.done (.ret es[i].key)) {s with heap:=h'})
  (q2:¬i<es.size->∀h',ja it s.heap h'->wpAny (model prog w) A.in1 (newExc (.type "StopIteration") [] >>= raiseNew (α:=ul)) Q E' {s with heap:=h'}):
  wpAny (model prog w) A.in1 (Builtin.«dict_keyiterator.__next__» ⟨[.ref it],[]⟩) Q E' s:=by
 obtain⟨o,ho,hc,hf⟩:=id hit;have nm:∀{s':aa}{R:Nat->aa->Prop},s'.TypeIs (.ref it) "dict_keyiterator"->R 0 s'->wpAny (model prog w) A.in1 (do let t <-typeNameOfWhole (.ref it);pure (if u8 t then 2 else 0)) R E' s':=λhT r=>
  ag (wpAny_typeNameOfWhole_keyiter hT (ao (by rw[show u8 "dict_keyiterator"=false by decide];exact r)))
 refine ag (ao (ag (ag (nm hit.typeIs (ag (wpAny_fieldsOf ho hf ?_))))));show wpAny _ _ (if(cx d==dk)=true then _ else _) _ _ s;rw[if_neg (show ¬((cx d==dk)=true) from jx)];refine ag (ao (ag (yn hd rfl ?_)));rw[if_neg 1#d];refine ag (ao (ag (wpAny_dictEpoch hd rfl ?_)));rw[if_neg 1#d];refine ao ?_
 by_cases h:i<es.size
 .simp only[ada (h:=h)]
  refine ag (nm hit.typeIs (ag (u9 hit.typeIs ?_)));show wpAny _ _ (setField (.ref it) 1 (rawInt ((i:Int)+1)) >>= _) _ _ s;refine ag (tm ho hf 1#d ?_);have hit':(s.heap.update it (Obj.mapFields (·.setIfInBounds 1 (rawInt ((i:Int)+1))))).IsKeyIter it d (i+1) es.size ep:=
   ⟨_,sj _ ho (j8 (tq hf _)),(j9 ..).trans hc,by rw[tq hf];simp[rawInt]⟩
  have tt:Shared.TypeIs {s with heap:=s.heap.update it (Obj.mapFields (·.setIfInBounds 1 (rawInt ((i:Int)+1))))} (.ref it) "dict_keyiterator":=hit'.typeIs;exact ag (ke (ag (u9 tt (ao (ao (q1 h _ hit' (my ..)))))))
 .simp only[adv (h:=h)]
  refine ag (nm hit.typeIs ?_);exact ag (tm ho hf 1#d (q2 h _ (my ..)))
theorem ad1 (hit:s.heap.IsKeyIter it d i es.size ep)(hd:s.heap.get? d=some (oD es ep))(h:i<es.size)
  (q:∀h',h'.IsKeyIter it d (i+1) es.size ep->ja it s.heap h'->Q (some es[i].key) {s with heap:=h'}):wpAny (model prog w) A (pyNext (.ref it)) Q E s:=by
 exact ag (ua (mn hit.typeIs qw (ki qw hit.typeIs v7
  (Cw hit hd (λ_ h' a b=>⟨_,rfl,ao (q _ a b)⟩) λn=>absurd h n) (v8 _))))
theorem aeD{Q:BG->aa->Prop}(hh:A.handled=none)(hit:s.heap.IsKeyIter it d i es.size ep)(hd:s.heap.get? d=some (oD es ep))(h:¬i<es.size)
  (q:∀h',qr it s.heap h'->Q none {s with heap:=h'}):wpAny (model prog w) A (pyNext (.ref it)) Q E s:=by
 unfold pyNext;exact ag (ua (mn (name:=fh "__next__") hit.typeIs qw (ki qw hit.typeIs v7
  (Cw hit hd (λn=>absurd n h) λ_ h' sb=>gv (aef (E:=E) hh sb.extBut q) (λ_ _ z=>z.elim) λe s2 z=>ag (aY z λb s3 ⟨hb,q3⟩=>by subst hb;exact ao q3)) (v8 _))))
theorem abW(hh:A.handled=none)(I d:Addr)(hne:d≠I)(es:Array DictEntry)(ep:Nat):
  Walks prog w A I [I,d] [I] es.size (λi v=>∃h:i<es.size,v=es[i].key) (λi h=>h.IsKeyIter I d i es.size ep/\h.get? d=some (oD es ep)) where
 sub:=λb hb=>by simp at hb;simp[hb]
 frame:=λ_ _ _ st hk=>⟨st.1.at λo e=>hk I 1#d o e,hk d 1#d _ st.2⟩
 item:=λi s Q E hi st hQ=>ad1 st.1 st.2 hi λh' hit' sb=>hQ _ h' s.toks ⟨hi,rfl⟩ ⟨hit',(sb.2 d hne).trans st.2⟩ λb o hb e=>sb.extBut b o (λz=>hb (by simp[z])) e
 done:=λs Q E st hQ=>aeD hh st.1 st.2 (ji _) λh' eb=>hQ h' s.toks λb o hb e=>eb b o (λz=>hb (by simp[z])) e
 self:=λ_ _ _ _ st hQ=>wpAny_pyIter_keyiter st.1 hQ
theorem afo (ns:(d==sysModules)=false)(hd:s.heap.get? d=some (oD es ep))
  (q:Q (.ref s.heap.objs.size) {s with heap:=s.heap.push {cls:=.type "dict_keyiterator",data:=.fields #[.ref d,.int 0 0,.int es.size 0,.int ep 0]}}):wpAny (model prog w) A (pyIter (.ref d)) Q E s:=by
 have hT:s.TypeIs (.ref d) "dict":=⟨_,hd,rfl⟩;refine wpAny_pyIter_slot hT w8 (ki w8 hT F.entry_dict_iter ?_ (F.args_dict_iter_1 _));refine ag (ag (AA hT (ao ?_)));show wpAny _ _ (AC d >>= _) _ _ s;unfold AC;rw[if_neg (by rw[ns];exact jx)];refine ag (ao (ag (yn hd rfl (ag (wpAny_dictEpoch hd rfl ?_)))));exact ag (ju (ao ⟨_,rfl,"dict_keyiterator",_,⟨_,cy _ rfl,rfl⟩,qw.lookup,q⟩))
theorem Tj(ns:(d==sysModules)=false):PySem.W.KdlSrc prog w "dict" d d es.size (λi v=>∃h:i<es.size,v=es[i].key) (λh=>h.get? d=some (oD es ep)) where
 type:=λ_ hm=>⟨_,hm,rfl⟩
 there:=λ_ hm=>⟨bi hm,bi hm⟩
 keep:=λ_ _ hm hk=>hk d (.inl rfl) _ hm
 notList:=rfl
 notTuple:=rfl
 hint:=λ_ _ _ _ hm hq=>PySem.W.kdl_hint_dict ⟨_,hm,rfl⟩ hq
 iter:=λ_ _ hh hm=>⟨_,_,λ_ _ hq=>afo ns hm hq,abW hh _ d (de (bi hm)) _ _,⟨⟨_,cy _ rfl,rfl,rfl⟩,ar _ hm⟩⟩
end
section
variable{X:Cx}
theorem Q2(hc:X.calm=true):iM X (.type "list") (λxs H Q=>∃(a:Addr)(n:Bool)(ks:BK)(rs:List V)(us:BF),xs=[.ref a]/\jY H a n ks rs us/\∀l,H l=none->Q (.ref l) (aM H l (.lst rs))):=by
 intro BP s σ H xs us Q I r h;obtain⟨a,n,ks,rs,us',rfl,d,q⟩:=h;obtain⟨u,rfl,ru⟩:=jR r;cases ru;obtain⟨ys,ep,e,z,l,nd,rfl,rfl,rfl⟩:=d;refine PySem.W.kdl_call (Tj z) (I.ok.hd hc) (wG I e) (by simpa using l) λh' tk acc c hk hl hi=>?_;have ev:aV (ys.map λx=>V.ref x.2.1) acc.toList:=by
  have e1:acc.toList=ys.map λx=>cx x.2.1:=by
   refine jg λj=>?_;have hz:acc.size=ys.length:=by simpa using hi.1
   by_cases hj:j<ys.length
   .obtain⟨_,ej⟩:=hi.2 j acc[j] (by simp[hz,hj])
    rw[aw,ay hj,yo,yp 1#a,ej];simp[jH]
   .rw[om (by simp;omega),om (by simp;omega)]
  rw[e1];clear e1 hi e q l nd
  induction ys with
  |nil=>exact .nil
  |cons y ys ih=>exact .cons rfl ih
 refine⟨.ref s.heap.objs.size,_,I.laid (t':=tk) (o:=.lst (ys.map λx=>V.ref x.2.1)) hk (aj _) ⟨by rw[ak];exact l,acc.toList,c,ev,hl⟩,rfl,q _ (I.hok.fresh (aj _))⟩
end
end L2
namespace L2.Pp
open PySem PySem.Spec PyProof.Rows Bn
def sQ(d:AV)(S:aF):bQ AV:=match d with
 |.ref j=>(match S[j]? with
  |some (.dic _ kvs)=>.ok (.pv (.lst (kvs.map (·.1)))) S
  |_=>.fail)
 |_=>.fail
def pF(ms:MA):ME:=λρ S=>(ms ρ S).bind λds S1=>match ds with
 |[d]=>sQ d S1
 |_=>.fail
section
variable{K:ae}{cl:Str->Addr}{E:XK}{X:Cx}{p:Ph}{H:Hp}{S:aF}{a e:ah}{ms:MA}{pos:ai}
theorem acQ{x:Str}{px:ai}(hc:X.calm=true)(hg:Gl X x)(hm:X.mg x=none)(hv:bootBuiltins x=some (.type "list"))(ha:eR K cl E X [e] ms)(hn:autoParam (x≠"__name__") Zqw)(hdb:autoParam ((x==("__debug__":Str))=false) Zqw)
  (he:autoParam (starEach [e] X.env=(false,eval e X.env)::starEach [] X.env) Zqq)(hpl:autoParam ((backTo pos (starEach [] X.env)).any (·.1)=false) Zqq):aL K cl E X (.Call (.Name x px) [e] [] pos) (pF ms):=by
 intro hK;subst hK;refine PE.imp (yG (Q2 hc) hg hm hv (ha rfl) hn hdb he hpl) ?_
 rintro σ H Q ⟨p,S,ρ,s,ev,h⟩
 refine bZ s ev h λq H1 ds xs S1 st s1 e1 r1 h1=>?_;rcases r1 with _ |⟨rj,_ |⟨_,_⟩⟩
 .exact h1.elim
 .rename_i d _
  rcases d with _ |j
  .exact h1.elim
  obtain⟨a,ej,er⟩:=rj;subst er;have h1:=h1;unfold sQ at h1;dsimp only at h1;split at h1
  .rename_i n kvs hS
   obtain⟨us,vs,d,rv,r⟩:=s1.obj j a _ ej hS;obtain⟨rs,dw,rr⟩:=vW d;refine⟨a,n,_,rs,us,rfl,dw,λl hl=>?_⟩;have hz:rs.length<=sizeLine:=by
    obtain⟨ys,_,_,_,lz,_,_,er,_⟩:=dw;rw[er,ak];exact lz
   exact bY.same h1 s1 (gL hl) (lI s1 rr hz hl)
  .exact h1.elim
 .exact h1.elim
end
section
mutual
def kO:PV->Bool
 |.lst _=>false
 |.tup xs=>iN xs
 |_=>true
def iN:BK->Bool
 |[]=>true
 |x::r=>kO x&&iN r
end
def nQ(f:FM)(ms:MA):ME:=λρ S=>(ms ρ S).bind λxs S1=>match hU S1 xs with
 |some vs=>(match f (vs.map .pv) []with
  |.ok (.pv v) _=>if kO v=true then .ok (.pv v) S1 else .fail
  |_=>.fail)
 |none=>.fail
section
variable{K:ae}{p:Ph}{H:Hp}{a e v:ah}
mutual
theorem Wg{c c':Addr->Prop}:∀{v:PV}{x:V},bD K c H v x->kO v=true->bD K c' H v x
 |.non,_,h,_=>by unfold bD at h⊢;exact h
 |.bl _,_,h,_=>by unfold bD at h⊢;exact h
 |.int _,_,h,_=>by unfold bD at h⊢;exact h
 |.str _,_,h,_=>by unfold bD at h⊢;exact h
 |.lst _,_,_,n=>by unfold kO at n;cases n
 |.tup xs,_,h,n=>by
  unfold kO at n;unfold bD at h⊢;obtain⟨a,vs,e,t,z,r⟩:=h;exact⟨a,vs,e,t,z,Zt r n⟩
theorem Zt{c c':Addr->Prop}:∀{v:BK}{x:List V},aR K c H v x->iN v=true->aR K c' H v x
 |[],_,h,_=>by unfold aR at h⊢;exact h
 |p::ps,_,h,n=>by
  unfold iN at n;unfold aR at h⊢;obtain⟨v,r,e,h1,h2⟩:=h;have n:=yq.mp n;exact⟨v,r,e,Wg h1 n.1,Zt h2 n.2⟩
end
def Ph.none:Ph:=⟨[],λ_=>False,λ_=>False⟩
theorem Er:aQ K Ph.none [] H:=⟨kn,rfl,λ_ h=>(nomatch h),λ_ h=>h,λ_ h=>h.elim,λk a o e=>nomatch e ⟩
theorem Io:∀{vs:BK}{xs:List V},Zi K p H vs xs->iI K Ph.none H (vs.map .pv) xs
 |_,_,.nil=>.nil
 |_,_,.cons h t=>by
  refine .cons ?_ (Io t);show bD K _ H _ _;rcases h with h |⟨xs,a,vs,rfl,rfl,h,z,r⟩
  .exact Sn (λ_ h=>h.elim) h
  .exact⟨a,vs,rfl,.inl ⟨h,λz=>z⟩,z,oH (λ_ h=>h.elim) r⟩
theorem agh{g:FM}{k k0:Nat}{ps:List Str}{x:Str}{px:ai}(C:xE X.prog X.w X.K X.mg X.base cl x k ps g)(hr:dP k0 X.A)(hk:k<=k0)(hg:Gl X x)(ha:eR X.K cl E X (e::es) ms)(hdb:autoParam ((x==("__debug__":Str))=false) Zqw)(he:autoParam (starEach (e::es) X.env=(false,eval e X.env)::starEach es X.env) Zqq)(hpl:autoParam ((backTo pos (starEach es X.env)).any (·.1)=false) Zqq):
  aL X.K cl E X (.Call (.Name x px) (e::es) [] pos) (nQ g ms):=by
 obtain⟨a,d,G,b,kk,n⟩:=C;intro hK;refine PE.imp (uX G (hr.mono hk) hg n kk b .nil wA (ha rfl) hdb he hpl) ?_
 rintro σ H Q ⟨p,S,ρ,s,ev,h⟩
 refine bZ s ev h λq H1 as xs S1 st sm ev r k=>?_;cases z:hU S1 as with
 |none=>simp only[z]at k;exact k.elim
 |some vs=>
  simp only[z]at k;have rr:=Io (yD sm r z);have e0:=jb xs;refine⟨Ph.none,[],vs.map .pv,Er,by first |exact rr |(rw[e0];exact rr),?_⟩
  cases y:g (vs.map .pv) []with
  |fail=>simp only[y]at k;exact k.elim
  |exc n S'=>simp only[y]at k;exact k.elim
  |ok w S'=>
   cases w with
   |ref j=>simp only[y]at k;exact k.elim
   |pv w=>
    simp only[y]at k
    by_cases hn:kO w=true
    .rw[if_pos hn]at k
     intro q' H' x' st' sm' r';have same:dI H1 H':=λa o e=>st'.keep a o e λz=>z;exact bY.same k sm same (Wg r' hn)
    .rw[if_neg hn]at k
     exact k.elim
end
end
section
variable{P:Program}{w:am}{K:ae}{mg:Str->BG}{base:Heap}{cl:Str->Addr}{x qual:Str}{f:Addr}{N ps:List Str}{k n:Nat}{b:MS}
variable{so sc sc1:Scope}{own own1:List Str}{cap cap1:List (Nat×Str)}{cd:Value}{A:aq}{outer:List bn}{s:aa}{H:Hp}{E:XK}{C:Addr}{BQ:aa}{BR:Hp}{ex:List Addr}
theorem Uj(a:autoParam (sc.kind=.function) Zqq)(b:autoParam (∀y∈sc.names,y.2=.local->sc.names.lookup y.1=some .local) Zqx)(c:autoParam (∀y∈sc.names,y.2≠.cell) Zqx)(d:autoParam (∀y∈sc.names,y.2=.free->so.names.lookup y.1=some .cell) Zqx)(e:autoParam (∀p∈cap,N[p.1]?=some p.2) Zqx)(g:autoParam (∀p∈cap,sc.names.lookup p.2=some .free) Zqx):iH (fF fR P w K mg base N qual so f cd A outer s H E).nox sc own cap:=Uy so N rfl rfl a b c d e g
theorem afI(a:autoParam (sc.kind=.function) Zqq)(b:autoParam (∀y∈sc.names,y.2=.local->sc.names.lookup y.1=some .local) Zqx)(c:autoParam (∀y∈sc.names,y.2=.cell->sc.names.lookup y.1=some .cell) Zqx)(d:autoParam (∀y∈sc.names,y.2=.free->so.names.lookup y.1=some .cell) Zqx)(e:autoParam (∀p∈cap,N[p.1]?=some p.2) Zqx)(g:autoParam (∀p∈cap,sc.names.lookup p.2=some .free) Zqx):oV (fF fR P w K mg base N qual so f cd A outer s H E).nox sc own cap:=acs so N rfl rfl a b c d e g
theorem Jh(a:autoParam (sc.kind=.function) Zqq)(b:autoParam (∀y∈sc.names,y.2=.local->sc.names.lookup y.1=some .local) Zqx)(c:autoParam (∀y∈sc.names,y.2≠.cell) Zqx)(d:autoParam (∀y∈sc.names,y.2=.free->sc1.names.lookup y.1=some .free/\so.names.lookup y.1=some .cell) Zqx)(e:autoParam (∀p∈cap,(cN own1 cap1)[p.1]?=some p.2) Zqx)(g:autoParam (∀p∈cap,sc.names.lookup p.2=some .free) Zqx)(hk:autoParam (so.kind=.function) Zqq):iH (eU (fF fR P w K mg base N qual so f cd A outer s H E).nox sc1 (cN own1 cap1) C BQ BR ex) sc own cap:=acz so rfl hk a b c d e g
theorem Vh(a:autoParam (sc.kind=.function) Zqq)(b:autoParam (∀y∈sc.names,y.2=.local->sc.names.lookup y.1=some .local) Zqx)(c:autoParam (∀y∈sc.names,y.2≠.cell) Zqx)(d:autoParam (∀y∈sc.names,y.2=.free->sc1.names.lookup y.1=some .cell\/(sc1.names.lookup y.1=some .free/\so.names.lookup y.1=some .cell)) Zqx)(e:autoParam (∀p∈cap,(cN own1 cap1)[p.1]?=some p.2) Zqx)(g:autoParam (∀p∈cap,sc.names.lookup p.2=some .free) Zqx)(hk:autoParam (so.kind=.function) Zqq):iH (kC (fF fR P w K mg base N qual so f cd A outer s H E).nox sc1 (cN own1 cap1) C BQ BR ex) sc own cap:=adT so rfl hk a b c d e g
theorem bX{N ps:List Str}{sc:Scope}(a:autoParam (sc.kind=.function) Zqq)(b:autoParam (sc.isCoroutine=false) Zqq)(c:autoParam (sc.isGenerator=false) Zqq)(d:autoParam N.Nodup Zqx)(e:autoParam (N.take ps.length=ps) Zqq)(f:autoParam (∀x∈ps,sc.names.lookup x=some .local\/sc.names.lookup x=some .cell) Zqx)(g:autoParam (∀y∈sc.names,y.2≠.free) Zqx):iZ N ps sc:=⟨a,b,c,d,e,f,g⟩
def Gk(P:Program)(w:am)(K:ae)(mg:Str->BG)(base:Heap)(cl:Str->Addr)(x:Str)(k:Nat)(ps:List Str)(g:FM):Prop:=∃(a:Addr)(d:cg),eO P w K mg base (iR P w) k a d ps (lV K cl g)/\eO P w K mg base fR k a d ps (kN K cl g)/\kJ K d ps []/\gw K (.ref a)=true/\mg x=some (.ref a)
theorem Bk {a:Addr}{d:cg}(G:eO P w K mg base (iR P w) k a d ps (lV K cl g))(b:kJ K d ps [])(kp:gw K (.ref a)=true)(n:mg x=some (.ref a)):Gk P w K mg base cl x k ps g:=⟨_,_,G,x0 G,b,kp,n⟩
theorem agD {pos p:ai}{k0:Nat}{g:FM}(C:Gk X.prog X.w X.K X.mg X.base cl x k ps g)(hr:dP k0 X.A)(hk:k<=k0)(hg:Gl X x)(ha:eR X.K cl E0 X (e::es) ms)(hdb:autoParam ((x==("__debug__":Str))=false) Zqw)(he:autoParam (starEach (e::es) X.env=(false,eval e X.env)::starEach es X.env) Zqq)(hpl:autoParam ((backTo pos (starEach es X.env)).any (·.1)=false) Zqq):
  aL X.K cl E0 X (.Call (.Name x p) (e::es) [] pos) (jQ g [] ms):=by
 obtain⟨a,d,_,G,b,kk,n⟩:=C;exact adX G (hr.mono hk) hg n kk b .nil Dv.nil ha hdb he hpl
end
structure Bx where
 P:Program
 w:am
 K:ae
 mg:Str->BG
 base:Heap
 cl:Str->Addr
abbrev cD(B:Bx)(x:Str)(k:Nat)(ps:List Str)(g:FM):Prop:=xE B.P B.w B.K B.mg B.base B.cl x k ps g
abbrev xC(B:Bx)(x:Str)(k:Nat)(ps:List Str)(g:FM):Prop:=Gk B.P B.w B.K B.mg B.base B.cl x k ps g
def HF(K:ae)(x:Str)(st:Stmt):Prop:=∃(f:Addr)(fd:cg),dr K mainGlobals x=some (some (.ref f))/\jG K x x st f fd
def XG(K:ae)(mg:Str->BG):Prop:=∃h:Heap,K.In h/\h.Ns mainGlobals mg
section
variable{B:Bx}{x:Str}{st:Stmt}{f:Addr}{fd:cg}{N ps:List Str}{k np n:Nat}{b:MS}
theorem Kh(X:XG B.K B.mg)(q:HF B.K x st):∃f fd,jG B.K x x st f fd/\gw B.K (.ref f)=true/\B.mg x=some (.ref f):=by
 obtain⟨f,fd,a,F⟩:=q;obtain⟨h,X,G⟩:=X;exact⟨f,fd,F,F.kp,jz X G a⟩
theorem agG{K:ae}{oc:Value}{od an:BI}{osl:Array BG}{kV doc pm cdv ct:Value}(a:dr K mainGlobals x=some (some (.ref f)))(l:K.lookup f=some ⟨oc,od,.func (fj x x (gY st) (eN st) (cL st) .none kV doc pm an cdv ct),osl⟩)
  (c:jw K cdv x=true)(k:gw K (.ref f)=true):HF K x st:=⟨_,_,a,Mz l c k⟩
theorem Nk(F:jG B.K x x st f fd)(h:∀(kV doc pm:Value)(an:BI)(cdv ct:Value)(us:BF),us.length=ps.length->bindArgs (fj x x (gY st) (eN st) (cL st) .none kV doc pm an cdv ct) ⟨us,[]⟩=pure (ps.zip us)):kJ B.K fd ps []:=F.binds λkV doc pm an cdv ct us hl=>h _ _ _ _ _ _ _ hl
theorem cG(X:XG B.K B.mg)(q:HF B.K x st)(S:iZ N ps (cL st))(hb:N.Nodup->∀(f:Addr)(cdv:Value)(A:aq)(outer:List bn)(s:aa)(H:Hp)(E:XK),dP k (A.deeper (envOfC x (cL st) s.heap.objs.size f cdv))->fO B.K B.cl E0 (fF fR B.P B.w B.K B.mg B.base N x (cL st) f cdv A outer s H E).nox (eN st) b)(hnp:autoParam (ps.length=np) Zqq)(hn:autoParam (N.length=n) Zqq)
  (h:autoParam (∀(kV doc pm:Value)(an:BI)(cdv ct:Value)(us:BF),us.length=ps.length->bindArgs (fj x x (gY st) (eN st) (cL st) .none kV doc pm an cdv ct) ⟨us,[]⟩=pure (ps.zip us)) Zzq):cD B x (k+1) ps (aI np n b):=by
 obtain⟨f,fd,F,kp,m⟩:=Kh X q;exact⟨f,fd,J5 F S hnp hn λcdv A outer s H E hr=>hb S.nd f _ A _ s H E hr,Nk F h,kp,m⟩
theorem mkL(X:XG B.K B.mg)(q:HF B.K x st)(S:iZ N ps (cL st))(hb:N.Nodup->∀(f:Addr)(cdv:Value)(A:aq)(outer:List bn)(s:aa)(H:Hp)(E:XK),dP k (A.deeper (envOfC x (cL st) s.heap.objs.size f cdv))->fO B.K B.cl E0 (fF fR B.P B.w B.K B.mg B.base N x (cL st) f cdv A outer s H E).nox (eN st) b)(hnp:autoParam (ps.length=np) Zqq)(hn:autoParam (N.length=n) Zqq)
  (h:autoParam (∀(kV doc pm:Value)(an:BI)(cdv ct:Value)(us:BF),us.length=ps.length->bindArgs (fj x x (gY st) (eN st) (cL st) .none kV doc pm an cdv ct) ⟨us,[]⟩=pure (ps.zip us)) Zzq):cD B x (k+1) ps (rG np n b):=by
 obtain⟨f,fd,F,kp,m⟩:=Kh X q;exact⟨f,fd,okL F S hnp hn λcdv A outer s H E hr=>hb S.nd f _ A _ s H E hr,Nk F h,kp,m⟩
theorem J3(X:XG B.K B.mg)(q:HF B.K x st)(S:iZ N ps (cL st))(hb:N.Nodup->∀(f:Addr)(cdv:Value)(A:aq)(outer:List bn)(s:aa)(H:Hp)(E:XK),dP k (A.deeper (envOfC x (cL st) s.heap.objs.size f cdv))->fO B.K B.cl E (fF (iR B.P B.w) B.P B.w B.K B.mg B.base N x (cL st) f cdv A outer s H E) (eN st) b)(hnp:autoParam (ps.length=np) Zqq)(hn:autoParam (N.length=n) Zqq)
  (h:autoParam (∀(kV doc pm:Value)(an:BI)(cdv ct:Value)(us:BF),us.length=ps.length->bindArgs (fj x x (gY st) (eN st) (cL st) .none kV doc pm an cdv ct) ⟨us,[]⟩=pure (ps.zip us)) Zzq):xC B x (k+1) ps (aI np n b):=by
 obtain⟨f,fd,F,kp,m⟩:=Kh X q;exact Bk (okX F S hnp hn λcdv A outer s H E hr=>hb S.nd f _ A _ s H E hr) (Nk F h) kp m
theorem mkR(F:jG B.K x x st f fd)(S:iZ N ps (cL st))(hb:N.Nodup->∀(f:Addr)(cdv:Value)(A:aq)(outer:List bn)(s:aa)(H:Hp)(E:XK),dP k (A.deeper (envOfC x (cL st) s.heap.objs.size f cdv))->fO B.K B.cl E0 (fF fR B.P B.w B.K B.mg B.base N x (cL st) f cdv A outer s H E).nox (eN st) b)(hnp:autoParam (ps.length=np) Zqq)(hn:autoParam (N.length=n) Zqq):eO B.P B.w B.K B.mg B.base fR (k+1) f fd ps (kN B.K B.cl (aI np n b)):=J5 F S hnp hn λcdv A outer s H E hr=>hb S.nd f _ A _ s H E hr
theorem G6 (F:nX B.K x x st f fd dsv)(S:iZ N ps (cL st))(hb:N.Nodup->∀(f:Addr)(cdv:Value)(A:aq)(outer:List bn)(s:aa)(H:Hp)(E:XK),dP k (A.deeper (envOfC x (cL st) s.heap.objs.size f cdv))->fO B.K B.cl E (fF (iR B.P B.w) B.P B.w B.K B.mg B.base N x (cL st) f cdv A outer s H E) (eN st) b)(hnp:autoParam (ps.length=np) Zqq)(hn:autoParam (N.length=n) Zqq):eO B.P B.w B.K B.mg B.base (iR B.P B.w) (k+1) f fd ps (lV B.K B.cl (aI np n b)):=ahK F S hnp hn λcdv A outer s H E hr=>hb S.nd f _ A _ s H E hr
section
variable{P:Program}{w:am}{K:ae}{mg:Str->BG}{base:Heap}{qual:Str}{so sc:Scope}{own:List Str}{cap:List (Nat×Str)}{cd:Value}{A:aq}{outer:List bn}{s:aa}{H:Hp}{E:XK}
theorem Qi(a:autoParam (sc.kind=.function) Zqq)(b:autoParam (∀y∈sc.names,y.2=.local->sc.names.lookup y.1=some .local) Zqx)(c:autoParam (∀y∈sc.names,y.2≠.cell) Zqx)(d:autoParam (∀y∈sc.names,y.2=.free->so.names.lookup y.1=some .cell) Zqx)(e:autoParam (∀p∈cap,N[p.1]?=some p.2) Zqx)(g:autoParam (∀p∈cap,sc.names.lookup p.2=some .free) Zqx):iH (fF (iR P w) P w K mg base N qual so f cd A outer s H E) sc own cap:=Uy so N rfl rfl a b c d e g
end
end
end L2.Pp
namespace L2
open PySem PySem.Spec PyProof.Rows Bn
section
open PySem.W (KasT kas_sort kas_asc kas_desc kas_rev kas_tail3 kas_descPart kas_count kas_place kas_bin)
def jU (lt:Nat->Nat->Bool)(n:Nat):KasT α->(α->Prop)->Prop
 |.ret a,Q=>Q a
 |.ask i j k,Q=>i<n/\j<n/\jU lt n (k (lt i j)) Q
section
variable{lt:Nat->Nat->Bool}{n:Nat}
theorem rR {f:α->KasT β}{Q:β->Prop}:∀(t:KasT α),jU lt n t (λa=>jU lt n (f a) Q)->jU lt n (t.bind f) Q
 |.ret _,h=>h
 |.ask i j k,h=>⟨h.1,h.2.1,rR _ h.2.2⟩
theorem oK {Q Q':α->Prop}(f:∀a,Q a->Q' a):∀(t:KasT α),jU lt n t Q->jU lt n t Q'
 |.ret a,h=>f a h
 |.ask i j k,h=>⟨h.1,h.2.1,oK f _ h.2.2⟩
theorem Ix {cmp:Nat->Nat->(Bool->aa->Prop)->aa->Prop}{s:aa}(hc:∀i j(C:Bool->aa->Prop),i<n->j<n->C (lt i j) s->cmp i j C s){Q:α->aa->Prop}:∀(t:KasT α),jU lt n t (λa=>Q a s)->t.kasWp cmp Q s
 |.ret _,h=>h
 |.ask i j k,h=>hc i j _ h.1 h.2.1 (Ix hc _ h.2.2)
structure lR(lt:Nat->Nat->Bool)(n:Nat):Prop where
 tr:∀i j k,i<n->j<n->k<n->lt i j=true->lt j k=true->lt i k=true
 tot:∀i j,i<n->j<n->i≠j->lt i j=true\/lt j i=true
def gI(n:Nat)(p:Array Nat):Prop:=p.toList.Perm (ck n)
def Up(lt:Nat->Nat->Bool)(p:Array Nat)(m:Nat):Prop:=∀i j,i<j->j<m->lt (p.getD i 0) (p.getD j 0)=true
def Dn(lt:Nat->Nat->Bool)(p:Array Nat)(m:Nat):Prop:=∀i j,i<j->j<m->lt (p.getD j 0) (p.getD i 0)=true
theorem gI.size (h:gI n p):p.size=n:=by
 have:=List.Perm.length_eq h;simpa using this
theorem gD{p:Array Nat}{k:Nat}(h:k<p.size):p.getD k 0=p[k]:=by simp_all
theorem gD?{p:Array Nat}{k:Nat}:p.getD k 0=(p[k]?).getD 0:=by simp_all
theorem gI.bd{p:Array Nat}(h:gI n p){k:Nat}(hk:k<n):p.getD k 0<n:=by
 have hs:k<p.size:=by rw[h.size];exact hk
 rw[gD hs];have:p[k]∈ck n:=List.Perm.subset h 1#d;simpa using this
theorem gI.ne{p:Array Nat}(h:gI n p){i j:Nat}(hi:i<n)(hj:j<n)(ne:i≠j):p.getD i 0≠p.getD j 0:=by
 have hi':i<p.size:=by rw[h.size];exact hi
 have hj':j<p.size:=by rw[h.size];exact hj
 rw[gD hi',gD hj'];intro e;have nd:p.toList.Nodup:=(List.Perm.nodup_iff h).mpr List.nodup_range;refine ne (Pp.nodup_idx nd (a:=p[i]) (by simp[hi']) ?_);rw[e];simp[hj']
theorem Pi(S:lR lt n){p:Array Nat}(hp:gI n p):∀f m,1<=m->m+f=n->Up lt p m->jU lt n (kas_asc p f m) (λr=>m<=r/\r<=n/\Up lt p r/\(r=n\/lt (p.getD r 0) (p.getD (r-1) 0)=true))
 |0,m,h1,h2,h3=>⟨aj _,by omega,h3,.inl 1#a⟩
 |f+1,m,h1,h2,h3=>by
  refine⟨hp.bd 1#a,hp.bd 1#a,?_⟩;cases z:lt (p.getD m 0) _ with
  |true=>exact⟨aj _,by omega,h3,.inr z⟩
  |false=>
   refine oK (λr ⟨a,b,c,d⟩=>⟨by omega,b,c,d⟩) _ (Pi S hp f (m+1) 1#a 1#a λi j hij hj=>?_)
   by_cases hjm:j<m
   .exact h3 i j hij hjm
   .have e:j=m:=by omega
    subst e;have l1:lt (p.getD (j-1) 0) (p.getD j 0)=true:=by
     rcases S.tot _ _ (hp.bd (show j-1<n by omega)) (hp.bd (show j<n by omega)) (hp.ne 1#a 1#a 1#a)with h |h
     .exact h
     .rw[z]at h;cases h
    by_cases hi:i=j-1
    .rw[hi];exact l1
    .exact S.tr _ _ _ (hp.bd 1#a) (hp.bd 1#a) (hp.bd 1#a) (h3 i (j-1) 1#a 1#a) l1
theorem Vw(S:lR lt n){p:Array Nat}(hp:gI n p):∀f m,2<=m->m+f=n->Dn lt p m->jU lt n (kas_desc f p m 0) (λr=>r.1=p/\r.2.2=0/\2<=r.2.1/\r.2.1<=n/\Dn lt p r.2.1)
 |0,m,h1,h2,h3=>⟨rfl,rfl,h1,by show m<=n;omega,h3⟩
 |f+1,m,h1,h2,h3=>by
  refine⟨hp.bd 1#a,hp.bd 1#a,?_⟩;cases z:lt (p.getD m 0) (p.getD (m-1) 0)with
  |true=>
   refine Vw S hp f (m+1) 1#a 1#a λi j hij hj=>?_
   by_cases hjm:j<m
   .exact h3 i j hij hjm
   .have e:j=m:=by omega
    subst e
    by_cases hi:i=j-1
    .rw[hi];exact z
    .exact S.tr _ _ _ (hp.bd 1#a) (hp.bd 1#a) (hp.bd 1#a) z (h3 i (j-1) 1#a 1#a)
  |false=>
   have l1:lt (p.getD (m-1) 0) (p.getD m 0)=true:=by
    rcases S.tot _ _ (hp.bd (show m-1<n by omega)) (hp.bd (show m<n by omega)) (hp.ne 1#a 1#a 1#a)with h |h
    .exact h
    .rw[z]at h;cases h
   refine⟨hp.bd 1#a,hp.bd 1#a,?_⟩;rw[l1];exact⟨rfl,rfl,h1,by show m<=n;omega,h3⟩
theorem gI.of (h:gI n p)(e:q.Perm p):gI n q:=(Array.Perm.toList e).trans h
theorem Gz {m k:Nat}(hm:m<=p.size)(hk:k<m):(kas_rev p 0 m).getD k 0=p.getD (m-1-k) 0:=by
 unfold kas_rev;rw[gD?,gD?,getElem?_mirror_all hm,if_pos ⟨dq _,hk⟩,Nat.zero_add]
theorem ace(S:lR lt n){p:Array Nat}(hp:gI n p){m:Nat}(h1:1<=m)(h2:m<=n)(h3:Dn lt p m):jU lt n (kas_tail3 m n p) (λr=>1<=r.1/\r.1<=n/\gI n r.2/\Up lt r.2 r.1):=by
 have hq:gI n (kas_rev p 0 m):=hp.of (mirror_perm _ _ _ _);refine rR _ (oK (λr ⟨a,b,c,d⟩=>⟨by show 1<=r;omega,b,hq,c⟩) _ (Pi S hq _ m h1 1#a λi j hij hj=>?_));have hs:m<=p.size:=by rw[hp.size];exact h2
 rw[Gz hs 1#a,Gz hs hj];exact h3 _ _ 1#a 1#a
theorem ab5(S:lR lt n)(h2:2<=n){p:Array Nat}(hp:gI n p):jU lt n (kas_count n p) (λr=>1<=r.1/\r.1<=n/\gI n r.2/\Up lt r.2 r.1):=by
 refine rR _ (oK (λr hq=>?_) _ (Pi S hp (n-1) 1 (aj _) 1#a λi j hij hj=>by omega));rcases hq with⟨a,b,c,d⟩
 by_cases e:(r==n)=true
 .rw[if_pos e]
  exact⟨a,b,hp,c⟩
 .rw[if_neg e]
  have e:r≠n:=by simpa using e
  by_cases h:r>1
  .rw[if_pos h]
   have l:=c 0 (r-1) 1#a 1#a;refine⟨hp.bd 1#a,hp.bd 1#a,?_⟩;rw[l];exact⟨a,b,hp,c⟩
  .rw[if_neg h]
   have e1:r=1:=by omega
   subst e1;rcases d with d |d
   .exact absurd d e
   .refine rR _ (oK (λr ⟨q1,q2,q3,q4,q5⟩=>?_) _ (Vw S hp (n-(1+1)) (1+1) (aj _) 1#a λi j hij hj=>?_))
    .have e1:i=0:=by omega
     have e2:j=1:=by omega
     rw[e1,e2];exact d
    .rw[if_neg (by rw[q2];exact ji 0),q1]
     exact ace S hp 1#a q4 q5
theorem Ve(S:lR lt n){p:Array Nat}(hp:gI n p){k:Nat}(hk:k<n)(u:Up lt p k):∀f l r,l<=r->r<=k->r-l<=f->(∀i,i<l->lt (p.getD i 0) (p.getD k 0)=true)->(∀i,r<=i->i<k->lt (p.getD k 0) (p.getD i 0)=true)->
  jU lt n (kas_place p k f l r) (λx=>x<=k/\(∀i,i<x->lt (p.getD i 0) (p.getD k 0)=true)/\∀i,x<=i->i<k->lt (p.getD k 0) (p.getD i 0)=true)
 |0,l,r,h1,h2,h3,h4,h5=>⟨by omega,h4,λi a b=>h5 i 1#a b⟩
 |f+1,l,r,h1,h2,h3,h4,h5=>by
  unfold kas_place
  by_cases h:l>=r
  .rw[if_pos h]
   exact⟨by omega,h4,λi a b=>h5 i 1#a b⟩
  .rw[if_neg h]
   refine⟨hp.bd hk,hp.bd 1#a,?_⟩;cases z:lt _ _ with
   |true=>
    refine Ve S hp hk u f l _ 1#a 1#a 1#a h4 λi a b=>?_
    by_cases e:i=(l+r)/2
    .rw[e];exact z
    .exact S.tr _ _ _ (hp.bd hk) (hp.bd 1#a) (hp.bd 1#a) z (u _ i 1#a b)
   |false=>
    have l1:lt (p.getD ((l+r)/2) 0) (p.getD k 0)=true:=by
     rcases S.tot _ _ (hp.bd (show(l+r)/2<n by omega)) (hp.bd hk) (hp.ne 1#a hk 1#a)with h |h
     .exact h
     .rw[z]at h;cases h
    refine Ve S hp hk u f _ r 1#a h2 1#a (λi a=>?_) h5
    by_cases e:i=(l+r)/2
    .rw[e];exact l1
    .exact S.tr _ _ _ (hp.bd 1#a) (hp.bd 1#a) (hp.bd hk) (u i _ 1#a 1#a) l1
theorem Yx {k l:Nat}(hk:k<p.size)(hl:l<=k)(j:Nat):(bubble p k (k-l)).getD j 0=if j=l then p.getD k 0 else if l<j/\j<=k then p.getD (j-1) 0 else p.getD j 0:=by
 have e:k-(k-l)=l:=by omega
 simp only[gD?];rw[getElem?_bubble hk _ 1#a,e]
 repeat' split
 all_goals rfl
theorem Zy(S:lR lt n):∀f(p:Array Nat) k,gI n p->k+f=n->Up lt p k->jU lt n (kas_bin f p k) (λq=>gI n q/\Up lt q n)
 |0,p,k,hp,h2,u=>by
  have e:k=n:=by omega
  subst e;exact⟨hp,u⟩
 |f+1,p,k,hp,h2,u=>by
  have hk:k<n:=by omega
  refine rR _ (oK (λl hq=>?_) _ (Ve S hp hk u k 0 k (dq _) (aj _) 1#a (λi h=>by omega) λi h g=>by omega));rcases hq with⟨a,b,c⟩;refine Zy S f _ (k+1) (hp.of (bubble_perm _ _ _)) 1#a λi j hij hj=>?_;have hs:k<p.size:=by rw[hp.size];exact hk
  rw[Yx hs a,Yx hs a]
  by_cases ei:i=l
  .grind
  .rw[if_neg ei]
   by_cases ej:j=l
   .rw[if_pos ej,if_neg 1#a]
    exact b i 1#a
   .rw[if_neg ej]
    by_cases gi:l<i/\i<=k
    .rw[if_pos gi,if_pos 1#a]
     exact u _ _ 1#a 1#a
    .rw[if_neg gi]
     by_cases gj:l<j/\j<=k
     .rw[if_pos gj]
      exact u _ _ 1#a 1#a
     .rw[if_neg gj]
      exact u _ _ 1#a 1#a
theorem adl(S:lR lt n)(h2:2<=n):jU lt n (kas_sort n) (λq=>gI n q/\Up lt q n):=by
 refine rR _ (oK (λr hq=>?_) _ (ab5 S h2 (List.Perm.refl _)));rcases hq with⟨a,b,c,d⟩
 by_cases h:r.1<n
 .rw[if_pos h]
  have e:max r.1 1=r.1:=by omega
  rw[e];exact Zy S _ _ _ c 1#a d
 .rw[if_neg h]
  have e:r.1=n:=by omega
  exact⟨c,by simp_all ⟩
end
section
variable{α:Type}{lt:α->α->Bool}
def ins(lt:α->α->Bool)(x:α):List α->List α
 |[]=>[x]
 |y::r=>if lt x y then x::y::r else y::ins lt x r
def dA(lt:α->α->Bool):List α->List α
 |[]=>[]
 |x::r=>ins lt x (dA lt r)
structure lU(lt:α->α->Bool):Prop where
 irr:∀x,lt x x=false
 tr:∀x y z,lt x y=true->lt y z=true->lt x z=true
 tot:∀x y,x≠y->lt x y=true\/lt y x=true
theorem Hf(x:α):∀l,(ins lt x l).Perm (x::l)
 |[]=>.refl _
 |y::r=>by
  unfold ins;split
  .rfl
  .exact((Hf x r).cons y).trans (.swap x y r)
theorem jJ:∀l,(dA lt l).Perm l
 |[]=>.refl _
 |x::r=>(Hf x _).trans ((jJ r).cons x)
theorem Zx(O:lU lt)(x:α):∀l,x∉l->l.Pairwise (λa b=>lt a b=true)->(ins lt x l).Pairwise (λa b=>lt a b=true)
 |[],_,_=>by simp[ins]
 |y::r,nx,h=>by
  unfold ins;split
  .rename_i z
   refine um.mpr ⟨λa ha=>?_,h⟩;rcases br.mp ha with rfl |ha
   .exact z
   .exact O.tr _ _ _ z ((um.mp h).1 a ha)
  .obtain⟨h1,h2⟩:=um.mp h
   refine um.mpr ⟨λa ha=>?_,Zx O x r (λm=>nx (bh _ m)) h2⟩;rcases br.mp ((Hf x r).subset ha)with rfl |ha
   .rcases O.tot a y (by grind)with q |q
    .simp_all
    .exact q
   .simp_all
theorem sI(O:lU lt):∀l:List α,l.Nodup->(dA lt l).Pairwise (λa b=>lt a b=true)
 |[],_=>.nil
 |x::r,h=>by
  obtain⟨h1,h2⟩:=jc.mp h;exact Zx O x _ (λm=>h1 ((jJ r).subset m)) (sI O r h2)
theorem zV(O:lU lt){A B:List α}(hp:A.Perm B)(ha:A.Pairwise (λa b=>lt a b=true))(hb:B.Pairwise (λa b=>lt a b=true)):A=B:=
 hp.eq_of_pairwise λu v _ _ h g=>by
  have:=O.tr _ _ _ h g;rw[O.irr]at this;grind ha hb
theorem P8(O:lU lt){A B:List α}(hp:A.Perm B)(h:B.Nodup):dA lt A=dA lt B:=
 zV O ((jJ A).trans (hp.trans (jJ B).symm)) (sI O A (hp.nodup_iff.mpr h)) (sI O B h)
end
theorem uZ:lU HT.lexLt:=⟨zL,pV,λx y h=>(vD x y).elim (λe=>absurd e h) id⟩
end
section
open PySem.W (KasT kas_sort kas_ask KatTups kat_run kat_kind kas_item kat_snds KdlSrc kdl_extend)
section
variable{prog:Program}{w:am}{A:aq}{E:Value->aa->Prop}{s:aa}
def K4(prog:Program)(w:am)(A:aq)(κ:uo)(lt:Nat->Nat->Bool)(vs:BF)(s:aa)(a:Addr):Prop:=∀(h':Heap)(tk:cv)(E:Value->aa->Prop),(∀b o,b≠a->s.heap.get? b=some o->h'.get? b=some o)->
 (∀Q:uo->aa->Prop,Q κ {s with heap:=h',toks:=tk}->wpAny (model prog w) A (keyKind' vs.toArray) Q E {s with heap:=h',toks:=tk})/\
 ∀i j(C:Bool->aa->Prop),i<vs.length->j<vs.length->C (lt i j) {s with heap:=h',toks:=tk}->kas_ask prog w A κ vs i j C {s with heap:=h',toks:=tk}
def iS(lt:Nat->Nat->Bool)(p:List Nat):Prop:=p.Pairwise λi j=>lt i j=true
theorem adN {p:Array Nat}{n:Nat}(hp:gI n p)(u:Up lt p n):iS lt p.toList:=by
 unfold iS;rw[AD];intro i j hi hj hij;have hs:=hp.size;rw[wy]at hi hj;have:=u i j hij 1#a
 simp_all
theorem M6z:∀(vs:BF),vs.length<2->Array.map (λx=>x.2) (vs.toArray.zip vs.toArray)=ko ((ck vs.length).map λi=>vs.getD i dk)
 |[],_=>by simp
 |[v],_=>by simp
 |_::_::_,h=>absurd h (Nat.not_lt.mpr (Nat.le_add_left 2 _))
theorem M6{a:Addr}{vs:BF}{lt:Nat->Nat->Bool}{κ:uo}{n:Nat}{P:ul->aa->Prop}(ho:s.heap.get? a=some (seqObj "list" vs.toArray n))(h64:vs.length<64)(hS:lR lt vs.length)(hk:2<=vs.length->K4 prog w A κ lt vs s a)
  (h:∀p:List Nat,p.Perm (ck vs.length)->iS lt p->P (.done (.ret .none)) {s with heap:=sortedHeap s.heap a vs (ko (p.map λi=>vs.getD i dk))}):
  wpAny (model prog w) A (Builtin.«list.sort» ⟨[.ref a],[]⟩) P E s:=by
 have ha:a<s.heap.objs.size:=bi ho;obtain⟨e1,ho1⟩:∃e1,(s.heap.update a (kx λ_=>(#[]:Array Value))).get? a=some (seqObj "list" #[] e1):=⟨_,yr ho λ_=>#[]⟩;have kp:∀b o,b≠a->s.heap.get? b=some o->(((s.heap.update a (kx λ_=>(#[]:Array Value))).push (seqObj "tuple" vs.toArray 0)).push (seqObj "list" #[] 0)).get? b=some o:=λb o hb e=>
  ar _ (ar _ ((yt _ _ _ _ hb).trans e))
 have na:(((s.heap.update a (kx λ_=>(#[]:Array Value))).push (seqObj "tuple" vs.toArray 0)).push (seqObj "list" #[] 0)).get? a=some (seqObj "list" #[] e1):=ar _ (ar _ ho1);rw[list_sort_plain];refine ag (listItems_at ho rfl ?_);refine ag (yu ho rfl ?_ (by rw[bj,kg];omega) (dq _));refine ag (yw ho1 rfl ?_);refine ag (wpAny_newTuple ?_ (by show vs.length<=_;rw[kg];omega));refine ag (wpAny_newList ?_ (dq _));refine ke ?_;dsimp only
 by_cases hn2:vs.toArray.size<2
 .rw[if_pos hn2,if_pos hn2]
  refine ag (ao ?_);rw[StateT.run_pure];refine ag (ao ?_);dsimp only;refine ag (yw na rfl ?_);have hl2:vs.length<2:=by simpa using hn2
  have eo:(arrOf (SortSt.mk' general' (vs.toArray.zip vs.toArray) #[] 7 none)).map (·.2)=ko ((ck vs.length).map λi=>vs.getD i dk):=by
   exact M6z vs hl2
  rw[eo];refine ag (yu na rfl ?_ (dq _) (by rw[bj,ak,lc,kg];omega));simp only[bne_self_eq_false,AE,if_false];refine ao (h _ (.refl _) ?_);unfold iS;rw[AD];intro i j hi hj hij;rw[lc]at hi hj;omega
 rw[if_neg hn2,if_neg hn2];have h2:2<=vs.length:=by simpa using hn2
 obtain⟨hkk,hc⟩:=hk h2 _ s.toks E kp;refine ag (hkk _ ?_);obtain⟨_,hc⟩:=hk h2 _ s.toks E kp;refine ag (gv (kat_run (Q:=λst' s'=>∃p:Array Nat,p.size=vs.length/\arrOf st'=p.map (kas_item (vs.toArray.zip vs.toArray))/\failedOf st'=none/\(gI vs.length p/\Up lt p vs.length)/\s'={s with heap:=((s.heap.update a (kx λ_=>(#[]:Array Value))).push (seqObj "tuple" vs.toArray 0)).push (seqObj "list" #[] 0)})
  
  rfl h2 h64 (λp' st' s' a1 a2 a3 a4=>⟨p',a1,a2,a3,a4⟩) ?_) ?_ λ_ _ e=>e)
 .exact Ix (λi j C hi hj hC=>hc i j C hi hj hC) _ (oK (λp hp=>⟨hp,rfl⟩) _ (adl hS h2))
 rintro⟨⟨⟩,st'⟩ s' ⟨p,hp,har,hf,hpl,rfl⟩
 dsimp only;have hout:=kat_snds rfl har;have hsz:(ko (p.toList.map λi=>vs.getD i dk)).size=vs.length:=by rw[bj,ak,wy,hp]
 rw[hout];refine ag (yw na rfl ?_);refine ag (yu na rfl ?_ (dq _) (fx (Nat.le_of_eq hsz) (by rw[kg];omega)));rw[hf];simp only[bne_self_eq_false,AE,if_false];exact ao (h _ hpl.1 (adN hpl.1 hpl.2))
theorem Cn {T : String} {r d : Addr} {n : Nat} {P : Nat → Value → Prop} {OK : Heap → Prop} {Q : BF → aa → Prop} (K : KdlSrc prog w T r d n P OK) (hh : A.handled = none) (hok : OK s.heap) (hn : n ≤ sizeLine)
    (hQ : ∀ h' tk acc, (∀ b o, s.heap.get? b = some o → h'.get? b = some o) → ItemsOf P acc n → Q acc.toList { s with heap := h', toks := tk }) : wpAny (model prog w) A (collect (.ref r)) Q E s := by
  obtain ⟨l1, l2⟩ := K.there _ hok;unfold collect;refine ag (wpAny_runValue (codeAny_builtin F.entry_proto_collect ?_));refine ag (ju ?_);refine ao ⟨plainId_quiet F.plain_list_iadd _, codeAny_builtin u4 ?_⟩;have hS : (s.heap.push _).get? s.heap.objs.size = some { cls := .type "list", data := .seq #[] 0 } := cy _ rfl;refine gv (kdl_extend (A := A) (R := λr s' => r = .ok (.ret (.ref s.heap.objs.size)) ∧ ∃ h' tk acc c, s' = { s with heap := h', toks := tk } ∧ (∀ b o, b ≠ s.heap.objs.size → (s.heap.push _).get? b = some o → h'.get? b = some o) ∧ h'.get? s.heap.objs.size = some { cls := .type "list", dict := none, data := .seq acc c, slots := #[] } ∧ ItemsOf P acc n)
     K hh (K.keep _ _ hok λb _ o e => ar _ e) s.heap.objs.size (kr l1) (kr l2) _ 0 hS (λh' tk acc c k1 k2 k3 => ⟨rfl, h', tk, acc, c, rfl, k1, k2, k3⟩) hn) (λfin s' h => ?_) (λe s' h => ?_)
  · have fin' : ∀ s', (∃ h' tk acc c, s' = { s with heap := h', toks := tk } ∧ (∀ b o, b ≠ s.heap.objs.size → (s.heap.push { cls := .type "list", data := .seq ([] : BF).toArray }).get? b = some o → h'.get? b = some o) ∧ h'.get? s.heap.objs.size = some { cls := .type "list", dict := none, data := .seq acc c, slots := #[] } ∧ ItemsOf P acc n) → wpAny (model prog w) A (match cx s.heap.objs.size with
      | cx a => do
        match (← load a).data with
          | Data.seq xs _ => pure xs.toList
          | _ => unsupported "internal:collect"
      | _ => unsupported "internal:collect") Q E s' := by
      rintro s' ⟨h', tk, acc, c, rfl, k1, k2, k3⟩
      refine ag (wpAny_load k2 ?_);refine ao (hQ h' tk acc (λb o hb => k1 b o (de (bi hb)) (ar _ hb)) k3)
    cases fin with
    | done f =>
      obtain ⟨e, h⟩ := h;cases e;exact fin' s' h
    | again c' => exact ⟨h.1, qj h.2 λr s'' hr => by obtain ⟨rfl, h⟩ := hr; exact fin' s'' h⟩
  · exact absurd h.1 1#d
theorem So {vs:BF}{lt:Nat->Nat->Bool}{κ:uo}{Q:Value->aa->Prop}(h64:vs.length<64)(hS:lR lt vs.length)(hk:∀h1 tk a,(∀b o',s.heap.get? b=some o'->h1.get? b=some o')->s.heap.get? a=none->2<=vs.length->K4 prog w A.in1.in1 κ lt vs {s with heap:=h1,toks:=tk} a)
  (hcol:∀(Q':BF->aa->Prop)(E':Value->aa->Prop),(∀h1 tk,(∀b o',s.heap.get? b=some o'->h1.get? b=some o')->Q' vs {s with heap:=h1,toks:=tk})->wpAny (model prog w) A.in1 (collect (.ref l)) Q' E' s)
  (h:∀(h1 h':Heap)(c:Nat)(tk:cv)(p:List Nat),p.Perm (ck vs.length)->iS lt p->(∀b o',s.heap.get? b=some o'->h1.get? b=some o')->(∀b o',h1.get? b=some o'->h'.get? b=some o')->h'.get? h1.objs.size=some (seqObj "list" (ko (p.map λi=>vs.getD i dk)) c)->Q (.ref h1.objs.size) {s with heap:=h',toks:=tk}):
  wpAny (model prog w) A (call (.builtin "sorted") [.ref l]) Q E s:=by
 refine PySem.Calls.call_function_entry kind_sorted plain_sorted entry_sorted (args_sorted1 _) ?_;refine ag (ao ?_);refine ag (hcol _ _ λh1 tk k1=>?_);refine ag (wpAny_newList ?_ (by rw[kg];omega));have hoL:(h1.push (seqObj "list" vs.toArray 0)).get? _=some _:=cy _ rfl;refine ag (ke (ki slot_list_sort ⟨_,hoL,rfl⟩ entry_list_sort ?body (args_list_sort _)))
 case body=>
  have nn:s.heap.get? h1.objs.size=none:=by
   cases z:s.heap.get? _ with
   |none=>rfl
   |some o=>exact absurd (bi (k1 _ _ z)) (ji _)
  refine M6 hoL h64 hS (hk _ tk _ (λb o hb=>ar _ (k1 b o hb)) nn) λp hp hu=>⟨_,rfl,ao ⟨_,rfl,?_⟩⟩;obtain⟨e1,ho1⟩:∃e1,((h1.push (seqObj "list" vs.toArray 0)).update _ _).get? _=some (seqObj "list" #[] e1):=⟨_,yr hoL λ_=>#[]⟩;have ho2:=ar (seqObj "list" #[] 0) (ar (seqObj "tuple" vs.toArray 0) ho1);obtain⟨e2,ho3⟩:∃e2,(sortedHeap (h1.push (seqObj "list" vs.toArray 0)) h1.objs.size vs (ko (p.map λi=>vs.getD i dk))).get? h1.objs.size=some _:=⟨_,yr ho2 _ ⟩;refine h h1 _ e2 tk p hp hu k1 (λb o' hb1=>?_) ho3;have hne:=de (bi hb1);exact(yt _ _ _ _ hne).trans (ar _ (ar _ ((yt _ _ _ _ hne).trans (ar _ hb1))))
end
end
open L2.Pp
def qZ(uss:BD)(i j:Nat):Bool:=HT.lexLt (uss.getD i []) (uss.getD j [])
theorem adh (nd:uss.Nodup):lR (qZ uss) uss.length:=by
 refine⟨λi j k _ _ _ h g=>pV _ _ _ h g,λi j hi hj ne=>?_⟩;rcases vD (uss.getD i _) (uss.getD j _)with e |e |e
 .refine absurd (Pp.nodup_idx nd (a:=uss[i]) (by simp[hi]) ?_) ne
  simp_all
 .exact .inl e
 .exact .inr e
section
variable{X:Cx}{BP:List (Addr×Obj)}{σ:St}{H:Hp}{s:aa}
theorem Qe {its:BF}(rv:aV ts its):∀ps:List Nat,aV (ps.map λi=>ts.getD i .non) (ps.map λi=>its.getD i dk)
 |[]=>.nil
 |i::ps=>by
  have hlen:=rv.length;refine .cons ?_ (Qe rv _)
  by_cases hi:i<ts.length
  .obtain⟨v,e2,rr⟩:=rv.get (ay hi)
   have q1:ts.getD i .non=ts[i]:=by simp[dj,hi]
   simp_all
  .have q1:ts.getD i .non=.non:=by simp[dj,hi]
   have q2:its.getD i dk=dk:=by grind
   show bS (ts.getD i _) (its.getD i _);rw[q1,q2];rfl
theorem Tf(I:aG X BP σ H s){l:Addr}{ts:List V}{uss:BD}{its:BF}{Q:VK}(rv:aV ts its)(hr:tK X.K H ts uss)(h64:ts.length<64)(nd:uss.Nodup)
  (hcol:∀(Q':BF->aa->Prop)(E':Value->aa->Prop),(∀h1 tk,(∀b o',s.heap.get? b=some o'->h1.get? b=some o')->Q' its {s with heap:=h1,toks:=tk})->wpAny 1#g X.A.in1 (collect (.ref l)) Q' E' s)
  (q:∀l p,H l=none->p.Perm (ck ts.length)->iS (qZ uss) p->Q (.ref l) (aM H l (.lst (p.map λi=>ts.getD i .non)))):
  wpAny 1#g X.A (call (.builtin "sorted") [.ref l]) (EP X BP σ Q) X.xe s:=by
 obtain⟨hl,ht⟩:=hr;have hlen:=rv.length;have hi:its.length=uss.length:=by omega
 have tu:∀i,i<its.length->wF s.heap (its.getD i dk) (uss.getD i [])/\uss.getD i []≠[]:=λi hi=>by
  have hi':i<ts.length:=by omega
  obtain⟨b,e1,sq,ne⟩:=ht i ts[i] (ay hi');obtain⟨v,e2,rel⟩:=rv.get (ay hi');rw[e1]at rel;cases rel;obtain⟨jts,rj,⟨o2,ho2,hc2,m,hd2⟩,_⟩:=I.tuple sq;refine⟨⟨b,o2,jts,m,?_,ho2,hc2,hd2,rj⟩,ne⟩;rw[dj,e2];rfl
 refine So (κ:=tuples' true) 1#a (by rw[hi];exact adh nd) (λh1 tk a k1 ha h2=>?_) hcol λh1 h' c tk p hp hu k1 k2 e=>?_
 .intro h' tk2 E kp
  have tu2:∀i,i<its.length->wF h' (its.getD i dk) (uss.getD i [])/\uss.getD i []≠[]:=λi hi=>by
   obtain⟨⟨b,o,jts,m,e,hb,hc,hd,r⟩,ne⟩:=tu i hi;refine⟨⟨b,o,jts,m,e,kp b o (λz=>?_) (k1 b o hb),hc,hd,r⟩,ne⟩;rw[z,ha]at hb;cases hb
  refine⟨λQ q=>?_,λi j C hi hj hC=>afi (tu2 i hi).1 (tu2 j hj).1 hC⟩;obtain⟨fs,kt,lf,qf⟩:=Ho (s:={s with heap:=h',toks:=tk2}) its uss hi tu2;refine AF (T:=.type "int") kt 1#a (λv hv=>?_) rfl ?_
  .obtain⟨i,t,rfl⟩:=qf v hv
   exact .now
  .exact q
 .have I1:aG X BP σ H {s with heap:=h1,toks:=tk}:=I.kept k1
  have hz2:(p.map λi=>ts.getD i .non).length<=sizeLine:=by
   rw[ak,hp.length_eq,lc,kg];omega
  refine⟨.ref h1.objs.size,_,I1.laid (t':=tk) k2 (aj _) ?_,rfl,q _ p (I1.hok.fresh (aj _)) (by rw[hlen];exact hp) hu⟩;exact⟨hz2,_,c,Qe rv p,e⟩
theorem T9:iM X (.builtin "sorted") (λxs H Q=>∃(a:Addr)(ts:List V)(uss:BD),xs=[.ref a]/\(bV X.K H a ts\/dB X.K H a ts)/\tK X.K H ts uss/\ts.length<64/\uss.Nodup/\
  ∀l p,H l=none->p.Perm (ck ts.length)->iS (qZ uss) p->Q (.ref l) (aM H l (.lst (p.map λi=>ts.getD i .non)))):=by
 intro BP s σ H xs us Q I r h;obtain⟨a,ts,uss,rfl,hq,hr,h64,nd,q⟩:=h;obtain⟨u,rfl,ru⟩:=jR r;cases ru;rcases hq with hq |hq
 .obtain⟨its,rv,pl,hz⟩:=I.list hq
  obtain⟨o,ho,hc,n,hd⟩:=pl.isList;exact Tf I rv hr h64 nd (λQ' E' h=>uq a (.inl rfl) ho hc hd (λh1 k1=>h _ _ k1) (by rw[bj,<-rv.length];exact hz)) q
 .obtain⟨its,rv,⟨o,ho,hc,n,hd⟩,hz⟩:=I.tuple hq
  exact Tf I rv hr h64 nd (λQ' E' h=>uq a (.inr rfl) ho hc hd (λh1 k1=>h _ _ k1) (by rw[bj,<-rv.length];exact hz)) q
theorem Q3(hc:X.calm=true):iM X (.builtin "sorted") (λxs H Q=>∃(a:Addr)(n:Bool)(ks:BK)(rs:List V)(us:BF)(uss:BD),xs=[.ref a]/\jY H a n ks rs us/\tK X.K H rs uss/\rs.length<64/\uss.Nodup/\
  ∀l p,H l=none->p.Perm (ck rs.length)->iS (qZ uss) p->Q (.ref l) (aM H l (.lst (p.map λi=>rs.getD i .non)))):=by
 intro BP s σ H xs us Q I r h;obtain⟨a,n,ks,rs,us',uss,rfl,d,hr,h64,nd,q⟩:=h;obtain⟨u,rfl,ru⟩:=jR r;cases ru;obtain⟨ys,ep,e,z,l,nd2,rfl,rfl,rfl⟩:=d;have ev:aV (ys.map λx=>V.ref x.2.1) (ys.map λx=>cx x.2.1):=by
  clear q hr h64 e l nd2
  induction ys with
  |nil=>exact .nil
  |cons y ys ih=>exact .cons rfl ih
 refine Tf I ev hr h64 nd (λQ' E' h=>?_) q;refine Cn (Tj z) (show X.A.in1.handled=none from I.ok.hd hc) (wG I e) (by simpa using l) λh' tk acc k1 hi=>?_;have e1:acc.toList=ys.map λx=>cx x.2.1:=by
  refine jg λj=>?_;have hz:acc.size=ys.length:=by simpa using hi.1
  by_cases hj:j<ys.length
  .obtain⟨_,ej⟩:=hi.2 j acc[j] (by simp[hz,hj])
   rw[aw,ay hj,yo,yp 1#a,ej];simp[jH]
  .rw[om (by simp;omega),om (by simp;omega)]
 rw[e1];exact h h' tk k1
end
end L2
namespace L2.Pp
section
open PySem PySem.Spec PyProof.Rows Bn
def qW(u:BC):PV:=.tup (u.map .int)
open Classical in
def jA(xs:BK):BM:=match iV xs with
 |some uss=>if uss.length<64/\uss.Nodup/\[]∉uss then some (.lst ((dA HT.lexLt uss).map qW))else none
 |none=>none
def mS:BK->BM
 |[.lst xs]=>jA xs
 |[.tup xs]=>jA xs
 |_=>none
theorem Tv:∀{xs:BK}{is:BC},kD xs=some is->xs=is.map .int
 |[],is,e=>by cases e;rfl
 |.int i::r,is,e=>by
  unfold kD at e;split at e
  .rename_i js h
   cases e;rw[Tv h];rfl
  .cases e
 |.non::_,_,e=>by cases e
 |.bl _::_,_,e=>by cases e
 |.tup _::_,_,e=>by cases e
 |.str _::_,_,e=>by cases e
 |.lst _::_,_,e=>by cases e
theorem zK:∀{xs:BK}{uss:BD},iV xs=some uss->xs=uss.map qW
 |[],uss,e=>by cases e;rfl
 |.tup _::r,uss,e=>by
  unfold iV at e;split at e
  .rename_i is uss' h1 h2
   cases e;rw[zK h2,Tv h1];rfl
  .cases e
 |.non::_,_,e=>by cases e
 |.bl _::_,_,e=>by cases e
 |.int _::_,_,e=>by cases e
 |.str _::_,_,e=>by cases e
 |.lst _::_,_,e=>by cases e
theorem Wx (hp:p.Perm (ck uss.length))(hu:iS (qZ uss) p)(nd:uss.Nodup):(dA HT.lexLt uss).map qW=p.map λi=>(uss.map qW).getD i .non:=by
 have e0:p.map (λi=>(uss.map qW).getD i .non)=(p.map λi=>uss.getD i []).map qW:=by
  rw[cj];refine dy λi hi=>?_;have:=by
   have:=hp.subset hi;simpa using this
  simp[dj,this]
 rw[e0];congr 1;have e1:(ck uss.length).map (λi=>uss.getD i [])=uss:=by
  refine uc 1#d λi h1 h2=>?_;simp[dj,h2]
 have pm:=by
  have:=hp.map (λi=>uss.getD i []);rw[e1]at this;exact this
 refine zV uZ ((jJ _).trans pm.symm) (sI uZ _ nd) ?_;rw[yx];exact hu
section
variable{K:ae}
theorem As {xs:BK}{vs:List V}{uss:BD}(hu:iV xs=some uss)(r:aR K c H xs vs)(ne:[]∉uss):tK K H vs uss:=by
 have l1:=zD hu;have l2:=r.length;refine⟨by omega,λi t h=>?_⟩;obtain⟨b,e1,e2⟩:=Nw hu r i t h;have hi:i<uss.length:=by
  grind
 refine⟨b,e1,e2,?_⟩;rw[dj,ay hi];exact λz=>ne (z▸jf _)
theorem ad4:lF K (λxs H Q=>∃(a:Addr)(ts:List V)(uss:BD),xs=[.ref a]/\(bV K H a ts\/dB K H a ts)/\tK K H ts uss/\ts.length<64/\uss.Nodup/\
  ∀l p,H l=none->p.Perm (ck ts.length)->iS (qZ uss) p->Q (.ref l) (aM H l (.lst (p.map λi=>ts.getD i .non)))) mS:=λ{p S H as c xs Q} s ra e k=>by
 have key:∀zs a vs,jA zs=some c->(bV K H a vs\/dB K H a vs)->aR K p.c H zs vs->∃(a':Addr)(ts:List V)(uss:BD),[V.ref a]=[.ref a']/\(bV K H a' ts\/dB K H a' ts)/\tK K H ts uss/\ts.length<64/\uss.Nodup/\
   ∀l p,H l=none->p.Perm (ck ts.length)->iS (qZ uss) p->Q (.ref l) (aM H l (.lst (p.map λi=>ts.getD i .non))):=λzs a vs e sq r=>by
  unfold jA at e;split at e
  .rename_i uss hu
   split at e
   .rename_i hc
    cases e;obtain⟨c1,c2,c3⟩:=hc;have l1:=zD hu;have l2:=r.length;refine⟨a,vs,uss,rfl,sq,As hu r c3,by omega,c2,λl ps hl hp hup=>?_⟩;refine k _ _ (gL hl) ?_;rw[Wx (by rw[<-l1,l2];exact hp) hup c2,<-zK hu];refine lI s (uL r _) ?_ hl;rw[ak,hp.length_eq,lc,jI];omega
   .cases e
  .cases e
 unfold mS at e;split at e
 .rename_i zs
  cases ra with
  |cons h t=>
   cases t;obtain⟨a,vs,rfl,l,z,r⟩:=h.lst;exact key zs a vs e (.inl l) r
 .rename_i zs
  cases ra with
  |cons h t=>
   cases t;obtain⟨a,vs,rfl,l,z,r⟩:=h.tup;exact key zs a vs e (.inr l) r
 .cases e
end
def Mj(d:AV)(S:aF):bQ AV:=match d with
 |.ref j=>(match S[j]? with
  |some (.dol _ kvs)=>iC (jA (kvs.map (·.1))) S
  |_=>.fail)
 |_=>.fail
def Fa(ms:MA):ME:=λρ S=>(ms ρ S).bind λds S1=>match ds with
 |[d]=>Mj d S1
 |_=>.fail
section
variable{K:ae}{cl:Str->Addr}{E:XK}{X:Cx}{p:Ph}{H:Hp}{S:aF}{a e:ah}{ms:MA}{pos:ai}
theorem abJ{x:Str}{px:ai}(hc:X.calm=true)(hg:Gl X x)(hm:X.mg x=none)(hv:bootBuiltins x=some (.builtin "sorted"))(ha:eR K cl E X [e] ms)(hn:autoParam (x≠"__name__") Zqw)(hdb:autoParam ((x==("__debug__":Str))=false) Zqw)
  (he:autoParam (starEach [e] X.env=(false,eval e X.env)::starEach [] X.env) Zqq)(hpl:autoParam ((backTo pos (starEach [] X.env)).any (·.1)=false) Zqq):aL K cl E X (.Call (.Name x px) [e] [] pos) (Fa ms):=by
 intro hK;subst hK;refine PE.imp (yT (Q3 hc) hg hm hv (ha rfl) hn hdb he hpl) ?_
 rintro σ H Q ⟨p,S,ρ,s,ev,h⟩
 refine bZ s ev h λq H1 ds xs S1 st s1 e1 r1 h1=>?_;cases r1 with
 |nil=>exact h1.elim
 |cons r1 rr=>
  cases rr with
  |cons _ _=>exact h1.elim
  |nil=>
   rename_i d x;cases d with
   |pv _=>exact h1.elim
   |ref j=>
    obtain⟨a,ej,rfl⟩:=r1;have h1:=h1;unfold Mj at h1;dsimp only at h1;split at h1
    .rename_i n kvs hS
     obtain⟨bs,d,_⟩:=s1.obj j a _ ej hS;obtain⟨rs,dw,rr⟩:=vW d;obtain⟨c,ec,k⟩:=oS s1 h1;unfold jA at ec;split at ec
     .rename_i uss hu
      split at ec
      .rename_i hcc
       cases ec;obtain⟨c1,c2,c3⟩:=hcc;have l1:=zD hu;have l2:=rr.length;refine⟨a,n,_,rs,_,uss,rfl,dw,As hu rr c3,by omega,c2,λl ps hl hp hup=>?_⟩;refine k _ _ (gL hl) ?_;rw[Wx (by rw[<-l1,l2];exact hp) hup c2,<-zK hu];refine lI s1 (uL rr _) ?_ hl;rw[ak,hp.length_eq,lc,jI];omega
      .cases ec
     .cases ec
    .exact h1.elim
end
end
end L2.Pp
namespace L2
open PySem PySem.Spec PyProof.Rows Bn
open L2.Pp
section
variable{prog:Program}{w:am}{K:Type}[DecidableEq K]{knd:HeapKind prog w K}{A:aq}{E:Value->aa->Prop}{s:aa}{d a:Addr}{k:K}{xs:List (K×Addr×Value)}
theorem Q1{dflt:Value}{Q:Value->aa->Prop}(hu:knd.room A)(hkey:knd.is s.heap k a)(hm:s.heap.DictOfH knd d xs)
  (h1:∀p,atKey xs k=some p->Q p.2 {s with toks:=s.toks+knd.draws k})
  (h2:atKey xs k=none->∀h',h'.DictOfH knd d (storedH xs k a dflt)->ja d s.heap h'->Q dflt {s with heap:=h',toks:=s.toks+knd.draws k})
  (hsz:xs.length<=sizeLine):wpAny (model prog w) A (dictSetDefault d (.ref a) dflt) Q E s:=by
 obtain⟨o,es,ep,ho,hc,hd,he,his,hn⟩:=hm;unfold dictSetDefault
 try with_reducible refine ke ?_
 refine ag (knd.pyHash hu hkey ?_);refine ag (wpAny_dictFind_heap hu hkey ho hd he his hn ?_ ?_)
 .intro hno
  have hnot:k∉xs.map (·.1):=not_mem_keys_of_get hno;refine ag (lr (ag (wpAny_updateDictKeys (hz:=by have e:=size_of_entries he;omega) ho hd (ao (h2 (qu hno) _ ⟨_,_,ep+1,sj _ ho (Obj.isFreed_of_dict (AG hd _)),
   hc.mapDictKeys _,AG hd _,?_,?_,?_⟩ (my ..))))))
  .rw[jq (qu hno)]
   simp[he,entryOfKey]
  .rw[jq (qu hno)]
   intro x hx;rcases ce.mp hx with hx |hx
   .exact knd.keeps (his x hx) ho hd (my ..)
   .simp only[yy]at hx
    subst hx;exact knd.keeps hkey ho hd (my ..)
  .rw[jq (qu hno)]
   rw[cw,ng];refine⟨hn,by simp,?_⟩;intro x hx y hy;simp only[au,da,yy]at hy;subst hy;exact λe=>hnot (e▸hx)
 .intro j p hj
  refine ag (yn ho hd ?_);have e:es[j]?=some (entryOfKey knd (k,p)):=by rw[entry_at he j,hj];rfl
  rw[e];exact ag (lr (ao (h1 p (atKey_of_get hn hj))))
theorem K7(hd:(d==sysModules)=false)(dflt:Value):
  MeetsIn prog w (Builtin.«dict.setdefault» ⟨[.ref d,.ref a,dflt],[]⟩) (λA R s=>knd.room A.in1/\∃k xs,knd.is s.heap k a/\s.heap.DictOfH knd d xs/\xs.length<=sizeLine/\
   (∀p,atKey xs k=some p->R (.ok (.ret p.2)) {s with toks:=s.toks+knd.draws k})/\
   (atKey xs k=none->∀h',h'.DictOfH knd d (storedH xs k a dflt)->ja d s.heap h'->R (.ok (.ret dflt)) {s with heap:=h',toks:=s.toks+knd.draws k})):=
 .of_wp λA R s ⟨hu,k,xs,hkey,hm,hz,h1,h2⟩=>by
  refine ag ?_;refine ag (AA hm.typeIs ?_);refine ao ?_;show wpAny _ _ (if(d==sysModules)=true then _ else(dictSetDefault d (.ref a) dflt >>= _)) _ _ s;rw[if_neg (by rw[hd];exact jx)];exact ag (Q1 hu hkey hm (λv hv=>ao ⟨_,rfl,h1 v hv⟩) (λhn h' hm' hs'=>ao ⟨dflt,rfl,h2 hn h' hm' hs'⟩) hz)
end
section
variable{X:Cx}{BP:List (Addr×Obj)}{σ:St}{H:Hp}{s:aa}
def ahH(K:ae):V->List V->Hp->VK->Prop:=λx xs H Q=>∃(a b t:Addr)(c:Addr->Prop)(n:Bool)(k:gA n)(ks:BK)(rs:List V)(bs:List Addr),x=.ref a/\xs=[.ref b,.ref t]/\jY H a n ks rs (bs.map cx)/\aR K c H ks rs/\bD K c H (cM n k) (.ref b)/\bs.length<sizeLine/\
 (∀(i:Nat)(l:Addr),ks[i]?=some (cM n k)->bs[i]?=some l->Q (.ref l) H)/\
 ∀es ep,(∀i:Nat,ks[i]?≠some (cM n k))->jY (aM H a (dO a es ep)) a n (ks++[cM n k]) (rs++[.ref b]) ((bs++[t]).map cx)->Q (.ref t) (aM H a (dO a es ep))
theorem Y7(hu:X.A.units+2<cLine):Xb X "dict.setdefault" (ahH X.K):=by
 intro BP s σ H x xs v us Q I rx rv h;obtain⟨a,b,t,c,n,k,ks,rs,bs,rfl,rfl,d,r,rk,hl,q1,q2⟩:=h;cases rx;obtain⟨u1,u2,rfl,r1,r2⟩:=rv.two;cases r1;cases r2;obtain⟨ys,ep,e,z,l,nd,rfl,rfl,eu⟩:=d;have dd:=Oi I e nd r;have ly:bs.length=ys.length:=by
  have:=congrArg qk eu;simpa using this
 refine call_meetsIn AH dd.typeIs PySem.F.entry_dict_setdefault (PySem.F.args_dict_setdefault_3 _ _ _) (K7 (knd:=kG X.prog X.w n) z (.ref t)) ⟨xW hu n,k,ys,Ka I rk,dd,l,λp hp=>?_,λhn h' dd' hs=>?_⟩
 .rcases zE (k:=k) nd with⟨i,p',hx,ha⟩|⟨_,ha⟩
  .rw[ha]at hp
   cases hp;have hi:=(cf.mp hx).1;have hb:i<bs.length:=by omega
   have ev:p.2=cx bs[i]:=by
    have:=congrArg (λl:BF=>l[i]?) eu;simp only[aw,hx,ay hb,AI]at this;exact(cq this).symm
   rw[ev];exact⟨.ref bs[i],H,I.tok _,rfl,q1 i _ (by rw[aw,hx];rfl) (ay hb)⟩
  .rw[ha]at hp
   cases hp
 .obtain⟨ob,es,ep',ho,hex,hd,he,_,hnd⟩:=dd'
  have eob:ob=oD es ep':=by
   obtain⟨e1,e2,e3⟩:=hex;cases ob;simp only at e1 e2 e3 hd;subst e1 e2 e3 hd;rfl
  subst eob;have een:jH n=entryOfKey (kG X.prog X.w n):=by
   funext x
   unfold jH entryOfKey;rw[Fd]
  have ees:es=((storedH ys k b (.ref t)).map (jH n)).toArray:=by
   rw[een,<-he]
  have I':aG X BP σ (aM H a (dO a es ep')) {s with heap:=h',toks:=s.toks+(kG X.prog X.w n).draws k}:=
   I.write (x:=a) (e:=a) (by rw[e];exact trivial) (.inl rfl) (λb' q' hb z'=>(hs.2 b' hb).trans z') ⟨_,ho⟩ ⟨ho,⟨_,ho⟩,λh1 h2 p kk=>kk _ p⟩
  rcases zE (k:=k) nd with⟨i,p',hx,ha⟩|⟨hno,ha⟩
  .rw[ha]at hn
   cases hn
  .refine⟨.ref t,_,I',rfl,q2 es ep' hno ⟨storedH ys k b (.ref t),ep',by rw[eC,ees],z,?_,hnd,?_,?_,?_⟩⟩
   .rw[jq ha,ax]
    show ys.length+1<=sizeLine;omega
   .rw[jq ha,cw]<;>rfl
   .rw[jq ha,cw]<;>rfl
   .rw[jq ha,cw,cw,eu]<;>rfl
end
end L2
namespace L2.Pp
section
open PySem PySem.Spec PyProof.Rows Bn
def qM(n:Bool):ME:=λ_ S=>.ok (.ref S.length) (S++[.dol n []])
def nA(kvs:List (PV×BK))(k v:PV):List (PV×BK):=match iT kvs k with
 |some i=>kvs.set i (k,((kvs[i]?).map (·.2)).getD []++[v])
 |none=>kvs++[(k,[v])]
open Classical in
def pO(k v:PV)(S:aF):bQ AV:=match S with
 |[.dol n kvs]=>if jT n k/\kvs.length<16777216/\∀kv∈kvs,kv.2.length<16777216 then .ok (.pv .non) [.dol n (nA kvs k v)] else .fail
 |_=>.fail
def kZ(i j l:Nat):ME:=λρ S=>match ρ[i]?,ρ[j]?,ρ[l]? with
 |some (some (.ref 0)),some (some (.pv k)),some (some (.pv v))=>pO k v S
 |_,_,_=>.fail
section
variable{K:ae}{cl:Str->Addr}{E:XK}{X:Cx}{p q:Ph}{H:Hp}{S:aF}{e:ah}{es:List ah}{pos:ai}
theorem abK(n:Bool):aL K cl E X (.Dict [] [] pos) (qM n):=by
 intro hK;subst hK;refine PE.imp Vs ?_
 rintro σ H Q ⟨p,S,ρ,s,ev,h⟩ t ht hs
 have ob:nZ X.K ⟨p.f++[t],λa=>p.w a\/a=t,λa=>p.c a\/a=t⟩ (aM H t (dO t #[] 0)) t (.dol n []):=
  ⟨[],⟨[],0,eC,hs,dq _,kn,rfl,.nil,rfl⟩,kn,λ_ h=>(nomatch h),rfl,λi xs b e=>nomatch e ⟩
 obtain⟨st,sm⟩:=s.pushO ht (show Mb (dO t _ 0) from trivial) ob;exact h _ _ _ st sm ⟨t,by rw[<-s.len,ee (aj _),ie];rfl,rfl⟩
theorem Xf {n:Bool}{k:gA n}{y:V}(ry:bD K c H (cM n k) y):∃b,y=.ref b:=by
 cases n with
 |false=>
  have ry:=ry;obtain⟨b,_,e,_⟩:=ry;exact⟨b,e⟩
 |true=>
  have ry:=ry;obtain⟨b,_,e,_⟩:=ry;exact⟨b,e⟩
theorem aeS{i j l:Nat}{x y z:Str}{px py pz pl a1 c1 a2 c2:ai}(hu:X.A.units+8<cLine)(hN1:X.N[i]?=some x)(hN2:X.N[j]?=some y)(hN3:X.N[l]?=some z)
  (hv1:autoParam (lW X.env.scope x) Zww)(hv2:autoParam (lW X.env.scope y) Zww)(hv3:autoParam (lW X.env.scope z) Zww)
  (hd1:autoParam ((x==("__debug__":Str))=false) Zqw)(hc1:autoParam ((x==("__classdict__":Str))=false) Zqw)(hd2:autoParam ((y==("__debug__":Str))=false) Zqw)(hc2:autoParam ((y==("__classdict__":Str))=false) Zqw)(hd3:autoParam ((z==("__debug__":Str))=false) Zqw)(hc3:autoParam ((z==("__classdict__":Str))=false) Zqw)
  (hb1:autoParam (attributeBase (.Name x px) "setdefault" X.env (eval (.Name x px) X.env)=eval (.Name x px) X.env) Zqq)
  (hf1:autoParam (((backTo c1 (starEach [.Name y py,.List [] pl] X.env)).all (λx=>!x.1)&&(backToKw c1 (keywordEach [] X.env)).all (λx=>x.1.isSome)&&decide (([.Name y py,.List [] pl]:List ah).length+([]:List ia).length+(if([]:List ia).isEmpty then 0 else 1)<30))=true) Zqq)
  (hl1:autoParam ((a1.endLine==c1.line)=true) Zqq)(hs1:autoParam (starEach [.Name y py,.List [] pl] X.env=(false,eval (.Name y py) X.env)::starEach [.List [] pl] X.env) Zqq)(hp1:autoParam ((backTo c1 (starEach [.List [] pl] X.env)).any (·.1)=false) Zqq)
  (hs0:autoParam (starEach [.List [] pl] X.env=(false,eval (.List [] pl) X.env)::starEach [] X.env) Zqq)
  (hb2:autoParam (attributeBase (.Call (.Attribute (.Name x px) "setdefault" a1) [.Name y py,.List [] pl] [] c1) "append" X.env (eval (.Call (.Attribute (.Name x px) "setdefault" a1) [.Name y py,.List [] pl] [] c1) X.env)=eval (.Call (.Attribute (.Name x px) "setdefault" a1) [.Name y py,.List [] pl] [] c1) X.env) Zqq)
  (hf2:autoParam (((backTo c2 (starEach [.Name z pz] X.env)).all (λx=>!x.1)&&(backToKw c2 (keywordEach [] X.env)).all (λx=>x.1.isSome)&&decide (([.Name z pz]:List ah).length+([]:List ia).length+(if([]:List ia).isEmpty then 0 else 1)<30))=true) Zqq)
  (hl2:autoParam ((a2.endLine==c2.line)=true) Zqq)(hs2:autoParam (starEach [.Name z pz] X.env=(false,eval (.Name z pz) X.env)::starEach [] X.env) Zqq):
  aL K cl E X (.Call (.Attribute (.Call (.Attribute (.Name x px) "setdefault" a1) [.Name y py,.List [] pl] [] c1) "append" a2) [.Name z pz] [] c2) (kZ i j l):=by
 intro hK;subst hK;refine PE.imp (Ua uh sk yg rS (Jy AH PySem.F.type_dict_setdefault (Y7 1#a) (mP hN1 hv1 hd1 hc1) (mL (mP hN2 hv2 hd2 hc2) (mL (zX nS) nS hs0) hs1) hb1 hf1 hl1 hs1 hp1) (mL (mP hN3 hv3 hd3 hc3) nS hs2) hb2 hf2 hl2 hs2 rfl) ?_
 rintro σ H Q ⟨p,S,ρ,s,ev,h⟩
 unfold kZ at h;split at h
 .rename_i k v q1 q2 q3
  unfold pO at h;split at h
  .rename_i n kvs
   split at h
   .rename_i hc
    obtain⟨⟨k',rfl⟩,hl,hll⟩:=hc;obtain⟨x1,ex,rx⟩:=ev.at_ i _ q1;obtain⟨x2,ey,rk⟩:=ev.at_ j _ q2;obtain⟨x3,ez,rv⟩:=ev.at_ l _ q3;obtain⟨a,ea,rfl⟩:=rx;have rk:bD X.K p.c H (cM n k') x2:=rk;have rv:bD X.K p.c H v x3:=rv;obtain⟨b,rfl⟩:=Xf rk;obtain⟨bs,d,nd,wf,lz,lat⟩:=s.obj 0 a _ ea rfl;obtain⟨rs,dw,rr⟩:=vW d;have hz:=jI;have lb:bs.length=kvs.length:=by rw[<-lz,ak]
    have mA:a∈p.f:=dh ea;have fl:p.f=[a]:=by
     have:=s.len
     match e:p.f,this with
     |[u],_=>
      rw[e]at ea;cases ea;rfl
    have wa:p.w a:=s.sub a mA;refine⟨_,ex,by obtain⟨ys,ep,e,_⟩:=dw;exact⟨a,_,_,rfl,e⟩,_,ey,?_⟩;refine⟨by show 0<=sizeLine;exact dq _,λt ht=>?_⟩;have na:a≠t:=λz=>by
     obtain⟨ys,ep,e,_⟩:=dw;rw[z,ht]at e;cases e
    have sm1:dI H (aM H t (.lst [])):=gL ht;have dw1:jY (aM H t (.lst [])) a n (kvs.map (·.1)) rs (bs.map cx):=by
     obtain⟨ys,ep,e,z⟩:=dw;exact⟨ys,ep,sm1 _ _ e,z⟩
    have st1:bP p H p (aM H t (.lst [])):=s.same sm1;refine⟨a,b,t,p.c,n,k',_,rs,bs,rfl,rfl,dw1,st1.reps rr,st1.rep rk,by omega,λi' l' hi hl'=>?_,λes ep hno dw2=>?_⟩
    ·--there already
     have wl:=wf l' (dh hl');obtain⟨i2,hi2⟩:=vS hi;obtain⟨w,hw⟩:=mH hi2;have ei:i2=i':=by
      obtain⟨xs,_,_,_,_,ndx,ek,_⟩:=dw;have g1:(kvs.map (·.1))[i2]?=some (cM n k'):=by rw[aw,hw];rfl
      rw[ek,aw]at g1 hi;cases z1:xs[i2]? with
      |none=>rw[z1]at g1;cases g1
      |some x1=>
       cases z2:xs[i']? with
       |none=>rw[z2]at hi;cases hi
       |some x2=>
        rw[z1]at g1;rw[z2]at hi;have e1:x1.1=k':=mJ (cq g1);have e2:x2.1=k':=mJ (cq hi);exact qv ndx (p:=x1.2) (q:=x2.2) (k:=k') (by rw[z1,<-e1]) (by rw[z2,<-e2])
     subst ei;obtain⟨ws,g1,g2,g3⟩:=lat i2 w l' (by rw[aw,hw];rfl) hl';have hwl:w.length<16777216:=hll _ (dh hw);have nt:l'≠t:=λz=>by rw[z,ht]at g1;cases g1
     have g1':aM H t (.lst []) l'=some (.lst ws):=by rw[bK nt];exact g1
     refine⟨.inl ⟨rfl,ws,bV.of g1'⟩,_,ez,l',ws,x3,rfl,rfl,g1',by rw[<-g3.length];omega,?_⟩;have st2:bP p H p (aM (aM H t (.lst [])) l' (.lst (ws++[x3]))):=⟨s.wc,s.mu,jl,λ_ h=>h,λ_ h=>h,λ_ h g=>absurd h g,λ_ h g=>absurd h g,λ_ h g=>absurd h g,λc o e nw=>by
      rw[bK (λz:c=l'=>nw (z▸wl.1))];exact sm1 c o e⟩
     have nal:a≠l':=λz=>wl.2 (z▸mA);have ek:nA kvs (cM n k') v=kvs.set i2 (cM n k',w++[v]):=by unfold nA;rw[hi2];simp[hw]
     have hik:i2<kvs.length:=(cf.mp hw).1;have e1:(kvs.set i2 (cM n k',w++[v])).map (·.1)=kvs.map (·.1):=by
      rw[uk];refine jg λt=>?_;rw[ui];split
      .rename_i ht
       subst ht;rw[if_pos (by rw[ak];exact hik),aw,hw];rfl
      .rfl
     refine h p _ .non st2 ⟨s.nd,s.len,s.sub,s.wc,λc hc=>?_,λk2 c o f1 f2=>?_⟩ (by unfold cS bD;rfl)
     .by_cases z:c=l'
      .rw[z,eC]
       exact⟨_,rfl,trivial⟩
      .rw[bK z]
       obtain⟨o,ho,mo⟩:=s.mu c hc;exact⟨o,sm1 c o ho,mo⟩
     .have ek2:k2=0:=by
       have:=(cf.mp f2).1;simpa using this
      subst ek2;rw[ea]at f1;cases f1;cases f2;rw[ek];refine⟨bs,?_,nd,wf,by rw[ak,ij];exact lb.symm,λi3 xs c f1 f2=>?_⟩
      .rw[e1]
       obtain⟨ys,ep,e,z1,z2,z3,z4,z5,z6⟩:=dw1;exact jY.at_ (rs:=rs) ⟨ys,ep,by rw[bK nal];exact e,z1,z2,z3,z4,z5,z6⟩ (st2.reps rr)
      .rw[aw]at f1
       by_cases h3:i2=i3
       .subst h3
        rw[fz hik]at f1;cases f1;rw[hl']at f2;cases f2;exact⟨ws++[x3],eC,by rw[ax,<-g3.length];show w.length+1<=sizeLine;omega,(st2.reps g3).append (.cons (st2.rep rv) .nil)⟩
       .rw[fu h3,<-aw]at f1
        obtain⟨us,j1,j2,j3⟩:=lat i3 xs c f1 f2;have ncl:c≠l':=λz=>h3 (nodup_idx nd hl' (z▸f2));exact⟨us,by rw[bK ncl];exact sm1 _ _ j1,j2,st2.reps j3⟩
    ·--new
     have gt:aM (aM H t (.lst [])) a (dO a es ep) t=some (.lst []):=by rw[bK (iz na),eC]
     refine⟨.inl ⟨rfl,[],bV.of gt⟩,_,ez,t,[],x3,rfl,rfl,gt,by show 0<sizeLine;omega,?_⟩;have nct:¬p.c t:=λc=>s.notin ht c;have nwt:¬p.w t:=λc=>nct (s.wc t c);have nft:t∉p.f:=λc=>nwt (s.sub t c);have ei:iT kvs (cM n k')=none:=by
      cases z0:iT kvs (cM n k')with
      |none=>rfl
      |some i=>
       obtain⟨w,hw'⟩:=mH z0;exact absurd (by rw[aw,hw'];rfl) (hno i)
     have ek:nA kvs (cM n k') v=kvs++[(cM n k',[v])]:=by unfold nA;rw[ei]
     have st2:bP p H (p.res t) (aM (aM (aM H t (.lst [])) a (dO a es ep)) t (.lst ([]++[x3]))):=by
      refine⟨s.wc,s.mu,jl,λ_ h=>.inl h,λ_ h=>.inl h,λ_ h g=>absurd h g,λc h g=>?_,λc h g=>?_,λc o e nw=>?_⟩
      .rcases h with h |h
       .exact absurd h g
       .rw[h];exact ht
      .rcases h with h |h
       .exact absurd h g
       .rw[h];exact ht
      .rw[bK (gJ e ht),bK (λz:c=a=>nw (z▸wa))]
       exact sm1 c o e
     refine h (p.res t) _ .non st2 ⟨s.nd,s.len,λc hc=>.inl (s.sub c hc),λc hc=>hc.elim (λz=>.inl (s.wc c z)) .inr,λc hc=>?_,λk2 c o f1 f2=>?_⟩ (by unfold cS bD;rfl)
     .by_cases z:c=t
      .rw[z,eC]
       exact⟨_,rfl,trivial⟩
      .rw[bK z]
       rcases hc with hc |hc
       .by_cases z2:c=a
        .rw[z2,eC]
         exact⟨_,rfl,trivial⟩
        .rw[bK z2]
         obtain⟨o,ho,mo⟩:=s.mu c hc;exact⟨o,sm1 c o ho,mo⟩
       .exact absurd hc z
     .have ek2:k2=0:=by
       have:=(cf.mp f2).1;simpa using this
      subst ek2;have f1:p.f[0]?=some c:=f1;rw[ea]at f1;cases f1;cases f2;rw[ek];have nb:∀b∈bs,b≠t:=λb hb z=>nwt (z▸(wf b hb).1);refine⟨bs++[t],?_,?_,λc hc=>?_,by rw[ak,ax,ax,lb];rfl,λi3 xs c f1 f2=>?_⟩
      .rw[cw]
       obtain⟨ys,ep',e,z1,z2,z3,z4,z5,z6⟩:=dw2;exact jY.at_ (rs:=rs++[.ref b]) ⟨ys,ep',by rw[bK na];exact e,z1,z2,z3,z4,z5,z6⟩ ((st2.reps rr).append (.cons (st2.rep rk) .nil))
      .rw[ng]
       exact⟨nd,by simp,λx hx y hy z=>nb x hx (by rw[z];simpa using hy)⟩
      .rcases ce.mp hc with z |z
       .exact⟨.inl (wf c z).1,(wf c z).2⟩
       .have:c=t:=by simpa using z
        subst this;exact⟨.inr rfl,nft⟩
      .rw[cw]at f1
       by_cases hi:i3<bs.length
       .rw[fw hi]at f2
        rw[fw (by rw[ak];omega)]at f1;obtain⟨us,j1,j2,j3⟩:=lat i3 xs c f1 f2;have mc:=dh f2;exact⟨us,by rw[bK (nb c mc),bK (λz:c=a=>(wf c mc).2 (z▸mA))];exact sm1 _ _ j1,j2,st2.reps j3⟩
       .have hi':i3=bs.length:=by
         have:=(cf.mp f2).1;rw[ax]at this;have:i3<bs.length+1:=this;omega
        subst hi';rw[ee (aj _),ie]at f2;have e0:(kvs.map (·.2)).length=bs.length:=lz;rw[<-e0,ee (aj _),ie]at f1;cases f1;cases f2;exact⟨[]++[x3],eC,by show 1<=sizeLine;omega,.cons (st2.rep rv) .nil⟩
   .exact h.elim
  .exact h.elim
 .exact h.elim
end
end
open PySem PySem.Spec PyProof.Rows Bn
open Classical in
def qJ(d k:AV)(S:aF):Option BK:=match d,k with
 |.ref j,.pv k=>(match S[j]? with
  |some (.dol n kvs)=>if jT n k then gX kvs k else none
  |_=>none)
 |_,_=>none
def oR(f:FM)(md mk:ME):ME:=λρ S=>(md ρ S).bind λd S1=>(mk ρ S1).bind λk S2=>match qJ d k S2 with
 |some xs=>(match f [.pv (.lst xs)] []with
  |.ok (.pv v) _=>if kO v=true then .ok (.pv v) S2 else .fail
  |_=>.fail)
 |none=>.fail
section
variable{K:ae}{cl:Str->Addr}{E:XK}{X:Cx}{p q:Ph}{H H':Hp}{S:aF}{a b e o i v:ah}{md mk:ME}{pos:ai}
theorem Vq:∀bs:List Addr,aV (bs.map V.ref) (bs.map cx)
 |[]=>.nil
 |_::r=>.cons rfl (Vq r)
theorem ac4(s:aQ K p S H){j:Nat}{a:Addr}{n:Bool}{kvs:List (PV×BK)}{k:PV}{y:V}{Q:V->Prop}{N:Prop}(ej:p.f[j]?=some a)(z:S[j]?=some (.dol n kvs))(hk:jT n k)(ry:bD K p.c H k y)
  (q:∀xs b ws,gX kvs k=some xs->H b=some (.lst ws)->ws.length<=sizeLine->aR K p.c H xs ws->Q (.ref b))(qn:gX kvs k=none->N):∃b vs,y=.ref b/\pQ K H a b vs Q N:=by
 obtain⟨k',rfl⟩:=hk;obtain⟨bs,d,ndb,wf,lz,lat⟩:=s.obj j a _ ej z;obtain⟨b,rfl⟩:=Xf ry;have nd:∀i j:Nat,(kvs.map (·.1))[i]?=some (cM n k')->(kvs.map (·.1))[j]?=some (cM n k')->i=j:=by
  obtain⟨xs,ep,_,_,_,nd,ek,_⟩:=d;intro i j h1 h2;rw[ek,aw]at h1 h2;cases z1:xs[i]? with
  |none=>rw[z1]at h1;cases h1
  |some x=>
   cases z2:xs[j]? with
   |none=>rw[z2]at h2;cases h2
   |some y=>
    rw[z1]at h1;rw[z2]at h2;have e1:x.1=k':=mJ (cq h1);have e2:y.1=k':=mJ (cq h2);exact qv nd (p:=x.2) (q:=y.2) (k:=k') (by rw[z1,<-e1]) (by rw[z2,<-e2])
 refine⟨b,bs.map V.ref,rfl,p.c,n,k',_,_,d,Vq bs,ry,λi x h1 h2=>?_,λhn=>qn ?_⟩
 .obtain⟨j',hj⟩:=vS h1
  obtain⟨v,hv⟩:=mH hj;have ei:j'=i:=nd j' i (by rw[aw,hv];rfl) h1;subst ei;rw[aw]at h2;cases hb:bs[j']? with
  |none=>rw[hb]at h2;cases h2
  |some b'=>
   rw[hb]at h2;cases h2;obtain⟨ws,g1,g2,g3⟩:=lat j' v b' (by rw[aw,hv];rfl) hb;exact q v b' ws (by unfold gX;rw[hj];simp[hv]) g1 g2 g3
 .cases z:iT kvs (cM n k')with
  |none=>unfold gX;rw[z]
  |some i=>
   obtain⟨v,hv⟩:=mH z;exact absurd (by rw[aw,hv];rfl) (hn i)
theorem aed{g:FM}{k k0:Nat}{ps:List Str}{x:Str}{px p2:ai}(hu:X.A.units+8<cLine)(C:xE X.prog X.w X.K X.mg X.base cl x k ps g)(hr:dP k0 X.A)(hk:k<=k0)(hg:Gl X x)(ha:aL X.K cl E X a md)(hb:aL X.K cl E X b mk)(hs:autoParam (vC b) Zwx)(hdb:autoParam ((x==("__debug__":Str))=false) Zqw)(he:autoParam (starEach [.Subscript a b p2] X.env=(false,eval (.Subscript a b p2) X.env)::starEach [] X.env) Zqq)(hpl:autoParam ((backTo pos (starEach [] X.env)).any (·.1)=false) Zqq):
  aL X.K cl E X (.Call (.Name x px) [.Subscript a b p2] [] pos) (oR g md mk):=by
 obtain⟨fa,d,G,bd,kk,n⟩:=C;intro hK;refine PE.imp (uX G (hr.mono hk) hg n kk bd .nil wA (mL (Ta (Hw 1#a) (ha rfl) (hb rfl) hs) nS he) hdb he hpl) ?_
 rintro σ H Q ⟨p,S,ρ,s,ev,h⟩
 refine bZ s ev h λq H1 dd x S1 st s1 e1 r1 h1=>bZ s1 e1 h1 λq2 H2 kv y S2 st2 s2 e2 r2 h2=>?_;have r1:=st2.repA r1;cases z:qJ dd kv S2 with
 |none=>simp only[z]at h2;exact h2.elim
 |some xs=>
  simp only[z]at h2;cases dd with
  |pv _=>cases kv<;>cases z
  |ref j=>
   cases kv with
   |ref _=>cases z
   |pv kp=>
    obtain⟨a,ej,rfl⟩:=r1;unfold qJ at z;dsimp only at z;split at z
    .rename_i nn kvs hS
     split at z
     .rename_i hkk
      have key:∀b ws,H2 b=some (.lst ws)->ws.length<=sizeLine->aR X.K q2.c H2 xs ws->kN X.K cl g [V.ref b] H2 Q E0:=λb ws g1 g2 g3=>by
       refine⟨Ph.none,[],[.pv (.lst xs)],Er,.cons ?_ .nil,?_⟩
       .exact⟨b,ws,rfl,.inl ⟨g1,λz=>z⟩,g2,oH (λ_ h=>h.elim) g3⟩
       .cases y:g [.pv (.lst xs)] []with
        |fail=>simp only[y]at h2;exact h2.elim
        |exc n S'=>simp only[y]at h2;exact h2.elim
        |ok w S'=>
         cases w with
         |ref j=>simp only[y]at h2;exact h2.elim
         |pv w=>
          simp only[y]at h2
          by_cases hn:kO w=true
          .rw[if_pos hn]at h2
           intro q' H' x' st' sm' r';have same:dI H2 H':=λa o e=>st'.keep a o e λz=>z;exact bY.same (R:=cS X.K) h2 s2 same (Wg r' hn)
          .rw[if_neg hn]at h2
           exact h2.elim
      obtain⟨b,vs,ey,gg⟩:=ac4 (Q:=λv=>kN X.K cl g [v] H2 Q E0) (N:=False) s2 ej hS hkk r2 (λxs' b ws e g1 g2 g3=>by
       rw[z]at e;cases e;exact key b ws g1 g2 g3) (λe=>by rw[z]at e;cases e)
      exact⟨a,b,vs,rfl,ey,gg⟩
     .cases z
    .cases z
end
end L2.Pp
namespace L2
open PySem PySem.Spec PyProof.Rows Bn
open L2.Pp
open PySem.W (KatLex KatTups)
def cT:BD->BD->Bool
 |[],[]=>false
 |[],_::_=>true
 |_::_,[]=>false
 |x::xs,y::ys=>if x=y then cT xs ys else HT.lexLt x y
theorem Wt:∀u:BD,cT u u=false
 |[]=>rfl
 |x::u=>by
  unfold cT;rw[if_pos rfl,Wt u]
theorem Bu:∀u v:BD,u≠v->cT u v=true\/cT v u=true
 |[],[],h=>absurd rfl h
 |[],_::_,_=>.inl rfl
 |_::_,[],_=>.inr rfl
 |x::u,y::v,h=>by
  unfold cT
  by_cases e:x=y
  .subst e
   rw[if_pos rfl,if_pos rfl];exact Bu u v λz=>h (by rw[z])
  .rw[if_neg e,if_neg λz=>e z.symm]
   exact uZ.tot x y e
theorem Wn:∀u v w:BD,cT u v=true->cT v w=true->cT u w=true
 |[],[],_,h,_=>by cases h
 |[],_::_,[],_,h=>by cases h
 |[],_::_,_::_,_,_=>rfl
 |_::_,[],_,h,_=>by cases h
 |_::_,_::_,[],_,h=>by cases h
 |x::u,y::v,z::w,h1,h2=>by
  unfold cT at h1 h2⊢
  by_cases e1:x=y
  .subst e1
   rw[if_pos rfl]at h1
   by_cases e2:x=z
   .rw[if_pos e2]at h2⊢
    exact Wn u v w h1 h2
   .simp_all
  .rw[if_neg e1]at h1
   by_cases e2:y=z
   .simp_all
   .rw[if_neg e2]at h2
    have h3:=pV x y z h1 h2;rw[if_neg λe=>by rw[e,zL]at h3;cases h3];exact h3
theorem yQ:lU cT:=⟨Wt,Wn,Bu⟩
def xA(h:Heap)(k:BC)(v:Value):Prop:=∃b,v=cx b/\gF h k b
section
variable{prog:Program}{w:am}{A:aq}{s:aa}
theorem Qt(hu:A.units<cLine){Q:Bool->aa->Prop}:∀(ks ls:BD)(its jts:BF)(i:Nat)(fin:Bool),ff (xA s.heap) ks its->ff (xA s.heap) ls jts->fin=decide (ks.length<ls.length)->Q (cT ks ls) s->KatLex prog w A false fin Q (its.zip jts) i s
 |[],ls,its,jts,i,fin,h1,h2,hf,hQ=>by
  cases h1;cases ls with
  |nil=>
   subst hf;exact oj hQ
  |cons v vs=>
   have e:fin=true:=by rw[hf];simp
   subst e;exact oj hQ
 |u::us,[],its,jts,i,fin,h1,h2,hf,hQ=>by
  cases h2;have e:fin=false:=by rw[hf];simp
  subst e;rw[wj];exact oj hQ
 |u::us,v::vs,its,jts,i,fin,h1,h2,hf,hQ=>by
  cases h1 with
  |cons r1 t1=>
   cases h2 with
   |cons r2 t2=>
    obtain⟨b1,rfl,k1⟩:=r1;obtain⟨b2,rfl,k2⟩:=r2;refine q0 ((kG prog w false).eqBool (x:=u) (y:=v) hu (gF.key k1) (gF.key k2) ?_);unfold cT at hQ
    by_cases e:u=v
    .rw[if_pos e]at hQ
     have b:(decide (u=v))=true:=by simpa using e
     show AJ prog w A false fin Q _ _ _ _ (decide (u=v)) s;rw[b];exact q9 (Qt hu us vs _ _ (i+1) fin t1 t2 (by rw[hf];simp) hQ)
    .rw[if_neg e]at hQ
     have b:(decide (u=v))=false:=by simpa using e
     show AJ prog w A false fin Q _ _ _ _ (decide (u=v)) s;rw[b];refine t5 (PySem.W.kat_one _ _ ?_);obtain⟨o1,i1,n1,g1,c1,d1,v1⟩:=k1;obtain⟨o2,i2,n2,g2,c2,d2,v2⟩:=k2;exact HT.lt_tupInts ⟨o1,g1,c1,n1,d1⟩ ⟨o2,g2,c2,n2,d2⟩ (Wo v1) (Wo v2) hu hQ
end
def qP(kss:BE)(i j:Nat):Bool:=cT (kss.getD i []) (kss.getD j [])
theorem aeN {lt:α->α->Bool}(O:lU lt){uss:List α}(z:α)(nd:uss.Nodup):lR (λi j=>lt (uss.getD i z) (uss.getD j z)) uss.length:=by
 refine⟨λi j k _ _ _ h g=>O.tr _ _ _ h g,λi j hi hj ne=>O.tot _ _ λe=>?_⟩;refine absurd (Pp.nodup_idx nd (a:=uss[i]) (by simp[hi]) ?_) ne
 simp_all
section
variable{X:Cx}{BP:List (Addr×Obj)}{σ:St}{H:Hp}{s:aa}
def sV(K:ae)(H:Hp)(ts:List V)(kss:BE):Prop:=ts.length=kss.length/\∀i t,ts[i]?=some t->∃a c,t=.ref a/\bD K c H (cM true (kss.getD i [])) (.ref a)/\kss.getD i []≠[]
theorem afM(I:aG X BP σ H s){c:Addr->Prop}{ks:BD}{b:Addr}(r:bD X.K c H (cM true ks) (.ref b)):∃o its n,s.heap.get? b=some o/\o.cls=.type "tuple"/\o.data=.seq (ko its) n/\ff (xA s.heap) ks its:=by
 obtain⟨a,vs,e,sq,_,r⟩:=r;cases e;obtain⟨its,rv,⟨o,ho,hc,m,hd⟩,_⟩:=I.tuple sq;exact⟨o,its,m,ho,hc,hd,Vd I r rv⟩
theorem Qd :∀{l:List α}{m:List β},ff R l m->l.length=m.length
 |_,_,.nil=>rfl
 |_,_,.cons _ t=>by rw[cu,cu,Qd t]
theorem Pn {R R':α->β->Prop}(f:∀a b,R a b->R' a b):∀{l:List α}{m:List β},ff R l m->ff R' l m
 |_,_,.nil=>.nil
 |_,_,.cons h t=>.cons (f _ _ h) (Pn f t)
theorem Zd(I:aG X BP σ H s)(hu:X.A.units+8<cLine){l:Addr}{ts:List V}{kss:BE}{its:BF}{Q:VK}(rv:aV ts its)(hr:sV X.K H ts kss)(h64:ts.length<64)(nd:kss.Nodup)
  (hcol:∀(Q':BF->aa->Prop)(E':Value->aa->Prop),(∀h1 tk,(∀b o',s.heap.get? b=some o'->h1.get? b=some o')->Q' its {s with heap:=h1,toks:=tk})->wpAny 1#g X.A.in1 (collect (.ref l)) Q' E' s)
  (q:∀l p,H l=none->p.Perm (ck ts.length)->iS (qP kss) p->Q (.ref l) (aM H l (.lst (p.map λi=>ts.getD i .non)))):
  wpAny 1#g X.A (call (.builtin "sorted") [.ref l]) (EP X BP σ Q) X.xe s:=by
 obtain⟨hl,ht⟩:=hr;have hlen:=rv.length;have hi:its.length=kss.length:=by omega
 have tu:∀i,i<its.length->∃b o jts n,its.getD i dk=.ref b/\s.heap.get? b=some o/\o.cls=.type "tuple"/\o.data=.seq (ko jts) n/\ff (xA s.heap) (kss.getD i []) jts/\kss.getD i []≠[]:=λi hi=>by
  have hi':i<ts.length:=by omega
  obtain⟨b,c,e1,rp,ne⟩:=ht i ts[i] (ay hi');obtain⟨v,e2,rel⟩:=rv.get (ay hi');rw[e1]at rel;cases rel;obtain⟨o2,jts,m,ho2,hc2,hd2,pr⟩:=afM I rp;refine⟨b,o2,jts,m,?_,ho2,hc2,hd2,pr,ne⟩;rw[dj,e2];rfl
 refine So (κ:=tuples' false) (lt:=qP kss) 1#a (by rw[hi];exact aeN yQ [] nd) (λh1 tk a k1 ha h2=>?_) hcol λh1 h' c tk p hp hup k1 k2 e=>?_
 .intro h' tk2 E kp
  have kp2:=λb o hb=>kp b o (λz=>by
   rw[z,ha]at hb;cases hb) (k1 b o hb)
  have tu2:∀i,i<its.length->∃b o jts n,its.getD i dk=.ref b/\h'.get? b=some o/\o.cls=.type "tuple"/\o.data=.seq (ko jts) n/\ff (xA h') (kss.getD i []) jts/\kss.getD i []≠[]:=λi hi=>by
   obtain⟨b,o,jts,n,e,ho,hc,hd,pr,ne⟩:=tu i hi;refine⟨b,o,jts,n,e,kp2 b o ho,hc,hd,Pn (λk v ⟨b',e',o',i',n',g1,g2,g3,g4⟩=>⟨b',e',o',i',n',kp2 _ _ g1,g2,g3,g4⟩) pr,ne⟩
  refine⟨λQ q=>?_,λi j C hi hj hC=>?_⟩
  .have go:∀(vs:BF)(o:Nat),vs=its.drop o->∃fs,KatTups h' vs fs/\fs.length=vs.length/\∀v∈fs,∃b oo,v=cx b/\h'.get? b=some oo/\oo.cls=.type "tuple":=by
    intro vs
    induction vs with
    |nil=>exact λ_ _=>⟨[],trivial,rfl,λ_ h=>absurd h fm⟩
    |cons v vs ih=>
     intro o eo;have lo:o<its.length:=by
      have:=congrArg qk eo;rw[sf,cu]at this;omega
     rw[qs lo]at eo;injection eo with ev er;obtain⟨fs,k,l,z⟩:=ih (o+1) er;obtain⟨b,oo,jts,n,e,ho,hc,hd,pr,ne⟩:=tu2 o lo;have e:its[o]=.ref b:=by simpa[dj,lo]using e
     rw[ev,e];cases hk:kss.getD o []with
     |nil=>exact absurd hk ne
     |cons x xs=>
      rw[hk]at pr;cases pr with
      |cons r1 t1=>
       obtain⟨b',e',oo',i',n',g1,g2,g3,g4⟩:=r1;subst e';refine⟨.ref b'::fs,t6 ho hc hd 1#d k,by simp[l],λy hy=>?_⟩;rcases br.mp hy with rfl |hy
       .exact⟨b',oo',rfl,g1,g2⟩
       .exact z y hy
   obtain⟨fs,kt,lf,qf⟩:=go its 0 rfl;refine AF (T:=.type "tuple") kt 1#a (λv hv=>?_) rfl ?_
   .obtain⟨b,oo,rfl,g1,g2⟩:=qf v hv
    exact λA Q E s' k q=>wz (T:="tuple") ⟨oo,k _ _ g1,g2⟩ q
   .exact q
  .obtain⟨b,o,jts,n,e,ho,hc,hd,pr,_⟩:=tu2 i hi
   obtain⟨b2,o2,jts2,n2,e2,ho2,hc2,hd2,pr2,_⟩:=tu2 j hj;show wpAny _ _ _ C _ _;rw[e,e2];refine PySem.W.kat_lt ho hd ho2 hd2 ?_;refine Qt (show X.A.units+2<cLine by omega) (kss.getD i []) (kss.getD j []) jts jts2 0 _ pr pr2 ?_ hC;rw[bj,bj,Qd pr,Qd pr2]
 .have I1:aG X BP σ H {s with heap:=h1,toks:=tk}:=I.kept k1
  have hz2:(p.map λi=>ts.getD i .non).length<=sizeLine:=by
   rw[ak,hp.length_eq,lc,kg];omega
  refine⟨.ref h1.objs.size,_,I1.laid (t':=tk) k2 (aj _) ?_,rfl,q _ p (I1.hok.fresh (aj _)) (by rw[hlen];exact hp) hup⟩;exact⟨hz2,_,c,Qe rv p,e⟩
theorem U9(hu:X.A.units+8<cLine):iM X (.builtin "sorted") (λxs H Q=>∃(a:Addr)(ts:List V)(kss:BE),xs=[.ref a]/\(bV X.K H a ts\/dB X.K H a ts)/\sV X.K H ts kss/\ts.length<64/\kss.Nodup/\
  ∀l p,H l=none->p.Perm (ck ts.length)->iS (qP kss) p->Q (.ref l) (aM H l (.lst (p.map λi=>ts.getD i .non)))):=by
 intro BP s σ H xs us Q I r h;obtain⟨a,ts,uss,rfl,hq,hr,h64,nd,q⟩:=h;obtain⟨u,rfl,ru⟩:=jR r;cases ru;rcases hq with hq |hq
 .obtain⟨its,rv,pl,hz⟩:=I.list hq
  obtain⟨o,ho,hc,n,hd⟩:=pl.isList;exact Zd I hu rv hr h64 nd (λQ' E' h=>uq a (.inl rfl) ho hc hd (λh1 k1=>h _ _ k1) (by rw[bj,<-rv.length];exact hz)) q
 .obtain⟨its,rv,⟨o,ho,hc,n,hd⟩,hz⟩:=I.tuple hq
  exact Zd I hu rv hr h64 nd (λQ' E' h=>uq a (.inr rfl) ho hc hd (λh1 k1=>h _ _ k1) (by rw[bj,<-rv.length];exact hz)) q
theorem O4(hu:X.A.units+8<cLine)(hc:X.calm=true):iM X (.builtin "sorted") (λxs H Q=>∃(a:Addr)(n:Bool)(ks:BK)(rs:List V)(us:BF)(kss:BE),xs=[.ref a]/\jY H a n ks rs us/\sV X.K H rs kss/\rs.length<64/\kss.Nodup/\
  ∀l p,H l=none->p.Perm (ck rs.length)->iS (qP kss) p->Q (.ref l) (aM H l (.lst (p.map λi=>rs.getD i .non)))):=by
 intro BP s σ H xs us Q I r h;obtain⟨a,n,ks,rs,us',uss,rfl,d,hr,h64,nd,q⟩:=h;obtain⟨u,rfl,ru⟩:=jR r;cases ru;obtain⟨ys,ep,e,z,l,nd2,rfl,rfl,rfl⟩:=d;have ev:aV (ys.map λx=>V.ref x.2.1) (ys.map λx=>cx x.2.1):=by
  clear q hr h64 e l nd2
  induction ys with
  |nil=>exact .nil
  |cons y ys ih=>exact .cons rfl ih
 refine Zd I hu ev hr h64 nd (λQ' E' h=>?_) q;refine Cn (Tj z) (show X.A.in1.handled=none from I.ok.hd hc) (wG I e) (by simpa using l) λh' tk acc k1 hi=>?_;have e1:acc.toList=ys.map λx=>cx x.2.1:=by
  refine jg λj=>?_;have hz:acc.size=ys.length:=by simpa using hi.1
  by_cases hj:j<ys.length
  .obtain⟨_,ej⟩:=hi.2 j acc[j] (by simp[hz,hj])
   rw[aw,ay hj,yo,yp 1#a,ej];simp[jH]
  .rw[om (by simp;omega),om (by simp;omega)]
 rw[e1];exact h h' tk k1
end
end L2
namespace L2.Pp
section
open PySem PySem.Spec PyProof.Rows Bn
def qY(k:BD):PV:=.tup (k.map qW)
def nO:BK->Option BE
 |[]=>some []
 |.tup us::r=>match iV us,nO r with
  |some k,some ks=>some (k::ks)
  |_,_=>none
 |_::_=>none
open Classical in
def mV(xs:BK):BM:=match nO xs with
 |some kss=>if kss.length<64/\kss.Nodup/\[]∉kss then some (.lst ((dA cT kss).map qY))else none
 |none=>none
def vP:BK->BM
 |[.lst xs]=>mV xs
 |[.tup xs]=>mV xs
 |_=>none
theorem uP:∀{xs:BK}{kss:BE},nO xs=some kss->xs=kss.map qY
 |[],kss,e=>by cases e;rfl
 |.tup _::r,kss,e=>by
  unfold nO at e;split at e
  .rename_i k ks h1 h2
   cases e;rw[uP h2,zK h1];rfl
  .cases e
 |.non::_,_,e=>by cases e
 |.bl _::_,_,e=>by cases e
 |.int _::_,_,e=>by cases e
 |.str _::_,_,e=>by cases e
 |.lst _::_,_,e=>by cases e
theorem Zq (h:nO xs=some kss):xs.length=kss.length:=by
 rw[uP h,ak]
theorem Tu (hp:p.Perm (ck kss.length))(hu:iS (qP kss) p)(nd:kss.Nodup):(dA cT kss).map qY=p.map λi=>(kss.map qY).getD i .non:=by
 have e0:p.map (λi=>(kss.map qY).getD i .non)=(p.map λi=>kss.getD i []).map qY:=by
  rw[cj];refine dy λi hi=>?_;have:=by
   have:=hp.subset hi;simpa using this
  simp[dj,this]
 rw[e0];congr 1;have e1:(ck kss.length).map (λi=>kss.getD i [])=kss:=by
  refine uc 1#d λi h1 h2=>?_;simp[dj,h2]
 have pm:=by
  have:=hp.map (λi=>kss.getD i []);rw[e1]at this;exact this
 refine zV yQ ((jJ kss).trans pm.symm) (sI yQ kss nd) ?_;rw[yx];exact hu
section
variable{K:ae}
theorem Iq {xs:BK}{vs:List V}{kss:BE}(hu:nO xs=some kss)(r:aR K c H xs vs)(ne:[]∉kss):sV K H vs kss:=by
 have ex:=uP hu;subst ex;have l2:=r.length;rw[ak]at l2;refine⟨l2.symm,λi t h=>?_⟩;obtain⟨p,e1,e2⟩:∃p,(kss.map _)[i]?=some p/\bD K c H p t:=by
  have hi:i<(kss.map qY).length:=by
   rw[ak,l2];exact(cf.mp h).1
  obtain⟨u,e1,e2⟩:=r.get (ay _);rw[h]at e1;cases e1;exact⟨_,ay hi,e2⟩
 have hi:i<kss.length:=by
  rw[l2];exact(cf.mp h).1
 rw[aw,ay hi]at e1;cases e1;have eg:kss.getD i []=kss[i]:=by simp[dj,hi]
 have e2:bD K c H (cM true _) t:=e2;obtain⟨b,rfl⟩:=Xf e2;rw[eg];exact⟨b,c,rfl,e2,λz=>ne (z▸jf _)⟩
theorem ac5:lF K (λxs H Q=>∃(a:Addr)(ts:List V)(kss:BE),xs=[.ref a]/\(bV K H a ts\/dB K H a ts)/\sV K H ts kss/\ts.length<64/\kss.Nodup/\
  ∀l p,H l=none->p.Perm (ck ts.length)->iS (qP kss) p->Q (.ref l) (aM H l (.lst (p.map λi=>ts.getD i .non)))) vP:=λ{p S H as c xs Q} s ra e k=>by
 have key:∀zs a vs,mV zs=some c->(bV K H a vs\/dB K H a vs)->aR K p.c H zs vs->∃(a':Addr)(ts:List V)(kss:List _),[V.ref a]=[.ref a']/\(bV K H a' ts\/dB K H a' ts)/\sV K H ts kss/\ts.length<64/\kss.Nodup/\
   ∀l p,H l=none->p.Perm (ck ts.length)->iS (qP kss) p->Q (.ref l) (aM H l (.lst (p.map λi=>ts.getD i .non))):=λzs a vs e sq r=>by
  unfold mV at e;split at e
  .rename_i uss hu
   split at e
   .rename_i hc
    cases e;obtain⟨c1,c2,c3⟩:=hc;have l1:=Zq hu;have l2:=r.length;refine⟨a,vs,uss,rfl,sq,Iq hu r c3,by omega,c2,λl ps hl hp hup=>?_⟩;refine k _ _ (gL hl) ?_;rw[Tu (by rw[<-l1,l2];exact hp) hup c2,<-uP hu];refine lI s (uL r _) ?_ hl;rw[ak,hp.length_eq,lc,jI];omega
   .cases e
  .cases e
 unfold vP at e;split at e
 .rename_i zs
  cases ra with
  |cons h t=>
   cases t;obtain⟨a,vs,rfl,l,z,r⟩:=h.lst;exact key zs a vs e (.inl l) r
 .rename_i zs
  cases ra with
  |cons h t=>
   cases t;obtain⟨a,vs,rfl,l,z,r⟩:=h.tup;exact key zs a vs e (.inr l) r
 .cases e
end
def Xh(d:AV)(S:aF):bQ AV:=match d with
 |.ref j=>(match S[j]? with
  |some (.dol _ kvs)=>iC (mV (kvs.map (·.1))) S
  |_=>.fail)
 |_=>.fail
def Da(ms:MA):ME:=λρ S=>(ms ρ S).bind λds S1=>match ds with
 |[d]=>Xh d S1
 |_=>.fail
section
variable{K:ae}{cl:Str->Addr}{E:XK}{X:Cx}{e:ah}{ms:MA}{pos:ai}
theorem ab6{x:Str}{px:ai}(kQ:X.A.units+8<cLine)(hc:X.calm=true)(hg:Gl X x)(hm:X.mg x=none)(hv:bootBuiltins x=some (.builtin "sorted"))(ha:eR K cl E X [e] ms)(hn:autoParam (x≠"__name__") Zqw)(hdb:autoParam ((x==("__debug__":Str))=false) Zqw)
  (he:autoParam (starEach [e] X.env=(false,eval e X.env)::starEach [] X.env) Zqq)(hpl:autoParam ((backTo pos (starEach [] X.env)).any (·.1)=false) Zqq):aL K cl E X (.Call (.Name x px) [e] [] pos) (Da ms):=by
 intro hK;subst hK;refine PE.imp (yT (O4 kQ hc) hg hm hv (ha rfl) hn hdb he hpl) ?_
 rintro σ H Q ⟨p,S,ρ,s,ev,h⟩
 refine bZ s ev h λq H1 ds xs S1 st s1 e1 r1 h1=>?_;cases r1 with
 |nil=>exact h1.elim
 |cons r1 rr=>
  cases rr with
  |cons _ _=>exact h1.elim
  |nil=>
   rename_i d x;cases d with
   |pv _=>exact h1.elim
   |ref j=>
    obtain⟨a,ej,rfl⟩:=r1;have h1:=h1;unfold Xh at h1;dsimp only at h1;split at h1
    .rename_i n kvs hS
     obtain⟨bs,d,_⟩:=s1.obj j a _ ej hS;obtain⟨rs,dw,rr⟩:=vW d;obtain⟨c,ec,k⟩:=oS s1 h1;unfold mV at ec;split at ec
     .rename_i uss hu
      split at ec
      .rename_i hcc
       cases ec;obtain⟨c1,c2,c3⟩:=hcc;have l1:=Zq hu;have l2:=rr.length;refine⟨a,n,_,rs,_,uss,rfl,dw,Iq hu rr c3,by omega,c2,λl ps hl hp hup=>?_⟩;refine k _ _ (gL hl) ?_;rw[Tu (by rw[<-l1,l2];exact hp) hup c2,<-uP hu];refine lI s1 (uL rr _) ?_ hl;rw[ak,hp.length_eq,lc,jI];omega
      .cases ec
     .cases ec
    .exact h1.elim
end
end
open PySem PySem.Spec PyProof.Rows Bn
end L2.Pp
namespace L2.Pp
open PySem PySem.Spec PyProof.Rows Bn
def nB(a b:MS):MS:=λρ S=>match a ρ S with
 |.fail=>b ρ S
 |r=>r
section
variable{K:ae}{cl:Str->Addr}{E:XK}{X:Cx}{sts:List Stmt}{a b:MS}
theorem afu(h1:fO K cl E X sts a)(h2:fO K cl E X sts b):fO K cl E X sts (nB a b):=by
 intro hK BP s σ H D I h;obtain⟨p,S,ρ,sm,ev,h⟩:=h;unfold nB at h;cases z:a _ S with
 |fail=>
  rw[z]at h;exact h2 hK _ s _ H D I ⟨p,S,ρ,sm,ev,h⟩
 |_=>
  refine h1 hK _ s _ H D I ⟨p,S,ρ,sm,ev,?_⟩;rw[z]at h⊢;exact h
end
theorem vY {xs:BO}{S S':aF}{v:AV}(h:aI np n a xs S=.ok v S'):aI np n (nB a b) xs S=.ok v S':=by
 unfold aI at h⊢;split
 .rename_i hl
  rw[if_pos hl]at h;unfold nB;cases z:a _ S with
  |fail=>rw[z]at h;cases h
  |_=>rw[z]at h;exact h
 simp_all
theorem Qh{np n:Nat}{a b:MS}{xs:BO}{S:aF}(h:a (gW n xs) S=.fail):aI np n (nB a b) xs S=aI np n b xs S:=by
 unfold aI nB;rw[h]
theorem aei:bootBuiltins "len"=some (.builtin "len"):=by decide+kernel
theorem afA:bootBuiltins "abs"=some (.builtin "abs"):=by decide+kernel
theorem afp:bootBuiltins "all"=some (.builtin "all"):=by decide+kernel
theorem aeh:bootBuiltins "sum"=some (.builtin "sum"):=by decide+kernel
theorem yN:bootBuiltins "sorted"=some (.builtin "sorted"):=by decide+kernel
theorem Xx:bootBuiltins "int"=some (.type "int"):=by decide+kernel
theorem ac1:bootBuiltins "bool"=some (.type "bool"):=by decide+kernel
theorem Uu:bootBuiltins "list"=some (.type "list"):=by decide+kernel
theorem Fs:bootBuiltins "tuple"=some (.type "tuple"):=by decide+kernel
end L2.Pp
set_option Elab.async false
set_option compiler.extract_closed false
set_option bootstrap.genMatcherCode false
set_option maxRecDepth 100000
set_option maxHeartbeats 4000000
namespace Sc
section
open PySem L2 Bn L2.Pp
abbrev Gy:Stmt:=aN 7
abbrev Xo:Stmt:=aN 8
abbrev Wq:Stmt:=aN 9
abbrev Mm:Stmt:=aN 10
abbrev uJ:Stmt:=aN 11
abbrev Vz:Stmt:=aN 12
abbrev Zw:Stmt:=aN 13
abbrev vB:Stmt:=aN 15
abbrev Lv:Stmt:=aN 16
abbrev Ys:Stmt:=aN 18
abbrev Ko:Stmt:=aN 17
abbrev Xl:Stmt:=aN 19
abbrev A4:Stmt:=aN 20
abbrev Mt:Stmt:=aN 21
abbrev Tl:Stmt:=aN 22
abbrev Rx:Stmt:=aN 23
abbrev Ar:Stmt:=aN 27
abbrev Uw:Stmt:=aN 28
abbrev Dz:Stmt:=aN 30
abbrev Dp:Stmt:=aN 31
abbrev Ul:Stmt:=aN 32
abbrev Jx:Stmt:=aN 33
abbrev Mu:Stmt:=aN 35
abbrev Hx:Stmt:=aN 37
abbrev Jm:Stmt:=aN 38
abbrev Yl:Stmt:=aN 39
abbrev Mr:Stmt:=aN 40
abbrev Um:Stmt:=aN 41
abbrev Gn:Stmt:=aN 42
abbrev Sm:Stmt:=aN 43
abbrev Xm:Stmt:=aN 44
abbrev Xz:Stmt:=aN 46
abbrev Lx:Stmt:=aN 47
abbrev Nz:Stmt:=aN 48
abbrev Kq:Stmt:=aN 49
abbrev Zs:Stmt:=aN 50
abbrev Lq:Stmt:=aN 51
abbrev Zu:Stmt:=aN 52
abbrev Lz:Stmt:=aN 53
abbrev Uq:Stmt:=aN 54
abbrev Vy:Stmt:=aN 55
abbrev Sr:Stmt:=aN 56
abbrev Ky:Stmt:=aN 57
abbrev Vu:Stmt:=aN 58
abbrev Wy:Stmt:=aN 59
abbrev Vn:Stmt:=aN 60
abbrev Nl:Stmt:=aN 61
abbrev Al:Stmt:=aN 62
abbrev Dm:Stmt:=aN 63
abbrev Rm:Stmt:=aN 65
abbrev Ly:Stmt:=aN 64
abbrev Yu:Stmt:=aN 66
abbrev Zm:Stmt:=aN 67
abbrev Ay:Stmt:=aN 68
abbrev Rn:Stmt:=aN 69
abbrev Uv:Stmt:=aN 70
abbrev Bw:Stmt:=aN 71
abbrev Cp:Stmt:=aN 72
abbrev Fo:Stmt:=aN 73
abbrev Hm:Stmt:=aN 74
abbrev Qm:Stmt:=aN 75
abbrev Ll:Stmt:=aN 76
abbrev Hl:Stmt:=aN 77
abbrev Km:Stmt:=aN 78
abbrev Qr:Stmt:=aN 79
abbrev pA:Stmt:=aN 80
def Fi:MS:=(aH (bW (aO (aC fS (aA 0) 1#e)) (aT 1#c) cP)
 (aH (bW (aO (aC kS (aA 0) 1#e)) (aT (bG cF 1#c)) cP)
 (aT 1#e)))
def oZ:FM:=aI 1 1 Fi
def Ke:MS:=(aH (nP (aO (aC eA (aA 1) 1#e)) (aH (aP 2 (aC gB (aA 0) (aA 1)))
 (aH (aP 0 (aA 1))
 (aP 1 (aA 2)))))
 (aT (mR pJ (aB (aA 0) aD))))
def rT:FM:=aI 2 3 Ke
def Be:MS:=(aH (aP 1 1#e)
 (aH (cB (aX (aA 0)) (gN 2) (aP 1 (aJ rT [] (aB (aA 1) (aB (aA 2) aD)))))
 (aT (bA ["number"] [(1,"common")] (aX (aA 0)) (gN 0) (aC hV (aA 0) (aA 1))))))
def uM:FM:=aI 1 3 Be
def Oc:MS:=(aH (aP 1 (aC aE (gZ ["number"] [] (aX (aA 0)) (gN 0) (aO (aC eA (aA 0) 1#e)) (aA 0)) 1#e))
 (aT (mR fX (aB (bA ["number"] [(1,"first")] (aX (aJ uM [] (aB (aA 0) aD))) (gN 0) (aC aU (aJ oZ [] (aB (aA 1) aD)) (aA 0))) aD))))
def rM:FM:=aI 1 2 Oc
def Xd:MS:=(aH (bW (aO (aC cY (aA 1) 1#e)) (sX "NoNumber") cP)
 (aH (aP 2 (aC aU (aJ oZ [] (aB (aA 1) aD)) (aJ rT [] (aB (aA 0) (aB (aA 1) aD)))))
 (aT (mN eF (aB (aC hV (aA 0) (aA 2)) (aB (aC hV (aA 1) (aA 2)) aD))))))
def oJ:FM:=aI 2 3 Xd
def Li:MS:=(aT (jQ oJ [] (aB (aC bF (aC aU (aC aE (aA 0) 1#e) (aC aE (aA 1) 1#c)) (aC aU (aC aE (aA 1) 1#e) (aC aE (aA 0) 1#c))) (aB (aC aU (aC aE (aA 0) 1#c) (aC aE (aA 1) 1#c)) aD))))
def sW:FM:=aI 2 2 Li
def Eg:MS:=(aH (nP (aO (aC fS (mR cE (aB (aA 0) aD)) 1#c)) (aH (aP 1 (bA ["one","other"] [] (iB (aB (rD (aA 0) dF dF (2)) (aB (rD (aA 0) (dN 1#c) dF (2)) aD))) (gT 2 (aZ (gN 0) (aZ (gN 1) cJ))) (aJ sW [] (aB (aA 0) (aB (aA 1) aD)))))
 (aP 0 (aC bF (aA 1) (dW (aA 0) (dN (aC aU (mC (.int 2)) (mR cE (aB (aA 1) aD)))) dF)))))
 (aT (uA (wR (aA 0)) (aC aE (aA 0) 1#e) (mN eF (aB 1#e (aB 1#c aD))))))
def pY:FM:=aI 1 2 Eg
def Pg:MS:=(aH (bW (aO (aC cY (aA 1) 1#e)) (sX "NoPoint") cP)
 (aT (mR fX (aB (bA ["number"] [(1,"bottom")] (aX (aJ uM [] (aB (aC bF (mR gM (aB (aA 0) aD)) (mN fG (aB (aA 1) aD))) aD))) (gN 0) (aC aU (aJ oZ [] (aB (aA 1) aD)) (aA 0))) aD))))
def uY:FM:=aI 2 2 Pg
def Lg:MS:=(aH (aP 2 (bA ["one","other"] [(1,"q"),(0,"p")] (iB (aB (dW (aA 0) dF (dN (bG cF 1#c))) (aB (dW (aA 1) dF (dN (bG cF 1#c))) aD))) (gT 2 (aZ (gN 0) (aZ (gN 1) cJ))) (aC bF (aC aU (aA 0) (aC aE (aA 2) (bG cF 1#c))) (aC aU (aA 1) (aC aE (aA 3) (bG cF 1#c))))))
 (aT (jQ uY [] (aB (aA 2) (aB (aC aU (aC aE (aA 0) (bG cF 1#c)) (aC aE (aA 1) (bG cF 1#c))) aD)))))
def uV:FM:=aI 2 3 Lg
def Jf:MS:=(aT (mR fX (aB (aC bF (bA ["number"] [] (aX (dW (aA 0) dF (dN (bG cF 1#c)))) (gN 0) (bG cF (aA 0))) (mN fG (aB (aC aE (aA 0) (bG cF 1#c)) aD))) aD)))
def zA:FM:=aI 1 1 Jf
def Kd:MS:=(aT (aJ uV [] (aB (aA 0) (aB (aJ zA [] (aB (aA 1) aD)) aD))))
def xV:FM:=aI 2 2 Kd
def Gc:MS:=(aT (bA ["near","far"] [(0,"start"),(1,"end")] (iB (aB (dW (aA 0) dF (dN (bG cF 1#c))) (aB (dW (aA 1) dF (dN (bG cF 1#c))) aD))) (gT 2 (aZ (gN 0) (aZ (gN 1) cJ))) (aC dY (aC aU (aA 1) (aC aE (aA 2) (bG cF 1#c))) (aC aU (aA 0) (aC aE (aA 3) (bG cF 1#c))))))
def oF:FM:=aI 2 2 Gc
def Xi:MS:=(aT (mR rE (aB (bA ["one","other"] [] (iB (aB (aA 0) (aB (aA 1) aD))) (gT 2 (aZ (gN 0) (aZ (gN 1) cJ))) (aC aU (aA 0) (aA 1))) aD)))
def Sa:FM:=aI 2 2 Xi
def zB:MS:=(aH (aP 1 (aC aE (aA 0) 1#e))
 (aH (bW (aO (aC cY (mR cE (aB (aA 0) aD)) 1#c)) (aT (mN fG (aB (bG cF (aC aE (aA 1) 1#c)) (aB (aC aE (aA 1) 1#e) aD)))) cP)
 (aH (aP 2 (aC aE (aA 0) 1#c))
 (aT (mN fG (aB (aC dY (aC aU (aC aE (aA 1) 1#c) (aC aE (aA 2) (mC (.int 2)))) (aC aU (aC aE (aA 1) (mC (.int 2))) (aC aE (aA 2) 1#c))) (aB (aC dY (aC aU (aC aE (aA 1) (mC (.int 2))) (aC aE (aA 2) 1#e)) (aC aU (aC aE (aA 1) 1#e) (aC aE (aA 2) (mC (.int 2))))) (aB (aC dY (aC aU (aC aE (aA 1) 1#e) (aC aE (aA 2) 1#c)) (aC aU (aC aE (aA 1) 1#c) (aC aE (aA 2) 1#e))) aD))))))))
def pW:FM:=aI 1 3 zB
def xM:MS:=(aH (aP 1 (bA ["p"] [(0,"points")] (aX (dW (aA 0) (dN 1#c) dF)) (gN 0) (aJ oF [] (aB (aC aE (aA 1) 1#e) (aB (aA 0) aD)))))
 (aT (aJ Sa [] (aB (aJ pW [] (aB (dW (aA 1) dF (dN (bG cF 1#c))) aD)) (aB (aC aE (aA 1) (bG cF 1#c)) aD)))))
def rL:FM:=aI 1 2 xM
def zY:MS:=(aT (aJ oZ [] (aB (aJ rL [] (aB (aA 0) aD)) aD)))
def qG:FM:=aI 1 1 zY
def yJ:MS:=(aH (aP 1 (mR mS (aB (aA 0) aD)))
 (aH (aP 2 (aJ qG [] (aB (aA 1) aD)))
 (aH (bW (aO (aC cY (aA 2) 1#e)) (sX "Flat") cP)
 (aH (bW (aO (aC kS (aA 2) 1#e)) (aP 1 (aC bF (dW (aA 1) dF (dN (bG cF (mC (.int 2))))) (mN fG (aB (aC aE (aA 1) (bG cF 1#c)) (aB (aC aE (aA 1) (bG cF (mC (.int 2)))) aD))))) cP)
 (aT (mR fX (aB (aA 1) aD)))))))
def rX:FM:=aI 1 3 yJ
def Hg:MS:=(aH (aP 1 (uA (aO (aC cY (mR cE (aB (aA 0) aD)) (mC (.int 3)))) (mC (.tup [.tup [.int 0,.int 1],.tup [.int 1,.int 2],.tup [.int 2,.int 0]])) (mC (.tup [.tup [.int 1,.int 2,.int 3],.tup [.int 0,.int 3,.int 2],.tup [.int 0,.int 1,.int 3],.tup [.int 0,.int 2,.int 1]]))))
 (aT (bA ["wall"] [(0,"piece")] (aX (aA 1)) (gN 0) (mR fX (aB (bA ["k"] [(1,"piece")] (aX (aA 0)) (gN 0) (aC aE (aA 1) (aA 0))) aD)))))
def qB:FM:=aI 1 2 Hg
def Di:MS:=(aH (bW (iA (aO (aC eA (aA 0) 1#c)) (aO (aC eA (aA 0) (bG cF 1#c)))) (sX "NoMove") cP)
 (aT (mN eF (aB (aA 0) (aB (aA 1) aD)))))
def vN:FM:=aI 2 2 Di
def Le:MS:=(aT (aC cY (aC aE (aA 0) 1#e) 1#c))
def yM:FM:=aI 1 1 Le
def Kc:MS:=(aH (bW (aO (aJ yM [] (aB (aA 1) aD))) (aT (aJ uV [] (aB (aA 0) (aB (aC aE (aA 1) 1#c) aD)))) cP)
 (aT (aJ xV [] (aB (aC aE (aA 1) 1#c) (aB (aA 0) aD)))))
def oG:FM:=aI 2 2 Kc
def Bg:MS:=(aT (mR fX (aB (bA ["piece"] [(1,"move")] (aX (aA 0)) (gN 0) (jQ rX [] (aB (bA ["p"] [(1,"move")] (aX (aA 0)) (gN 0) (aJ oG [] (aB (aA 0) (aB (aA 1) aD)))) aD))) aD)))
def vE:FM:=aI 2 2 Bg
def Rg:MS:=(aH (bW (aO (aC cY (mR cE (aB (aA 0) aD)) (mC (.int 2)))) (aT (mN fG (aB (aA 0) aD))) cP)
 (aT (bA ["k"] [(0,"wall")] (dG (aB (mR cE (aB (aA 0) aD)) aD)) (gN 0) (mN eF (aB (aC aE (aA 1) (aC dY (aA 0) 1#c)) (aB (aC aE (aA 1) (aA 0)) aD))))))
def uT:FM:=aI 1 1 Rg
def zM:MS:=(aH (aP 2 (aJ rM [] (aB (aA 0) aD)))
 (aH (aP 3 (aC aE (gZ ["k"] [(2,"way")] (dG (aB (mR cE (aB (aA 2) aD)) aD)) (gN 0) (aO (aC eA (aC aE (aA 1) (aA 0)) 1#e)) (aA 0)) 1#e))
 (aT (mN eF (aB (aA 2) (aB (jQ oJ [] (aB (aC aE (aA 0) (aA 3)) (aB (aC aU (aC aE (aA 2) (aA 3)) (aA 1)) aD))) aD))))))
def pZ:FM:=aI 2 4 zM
def xN:MS:=(aT (aJ pZ [] (aB (aJ oF [] (aB (aA 0) (aB (aA 1) aD))) (aB (aC aU (aC aE (aA 0) (bG cF 1#c)) (aC aE (aA 1) (bG cF 1#c))) aD))))
def lG:FM:=aI 2 2 xN
def Mc:MS:=(aH (aP 1 (aC aE (aA 0) 1#e))
 (aH (aP 2 (aJ pW [] (aB (bA ["p"] [(1,"first")] (aX (dW (aA 0) (dN 1#c) dF)) (gN 0) (aJ oF [] (aB (aA 1) (aB (aA 0) aD)))) aD)))
 (aT (aJ pZ [] (aB (aA 2) (aB (aC aU (aC aU (aC aU (aC aU (mC (.int 2)) (aC aE (aA 1) (bG cF 1#c))) (aC aE (aA 1) (bG cF 1#c))) (aC aE (aC aE (aA 0) 1#c) (bG cF 1#c))) (aC aE (aC aE (aA 0) (mC (.int 2))) (bG cF 1#c))) aD))))))
def nG:FM:=aI 1 3 Mc
def xY:MS:=(aH (aP 1 (qM false))
 (aH (cB (aX (aA 0)) (gT 2 (aZ (gN 2) (aZ (gN 3) cJ))) (dC (kZ 1 2 3)))
 (aH (aP 4 (bA ["key"] [(1,"parts")] (aX (Fa (aB (aA 1) aD))) (gN 0) (mN eF (aB (aA 0) (aB (oR pY (aA 1) (aA 0)) aD)))))
 (aT (mR fX (aB (gZ ["row"] [] (aX (aA 4)) (gN 0) (aO (aC eA (aC aE (aA 0) 1#c) (mN eF (aB 1#e (aB 1#c aD))))) (aA 0)) aD))))))
def To:FM:=aI 1 5 xY
def Hd:MS:=(aH (aP 1 (qM true))
 (aH (cB (aX (aA 0)) (gT 2 (aZ (gN 2) (aZ (gN 3) cJ))) (dC (kZ 1 2 3)))
 (aH (aP 4 (bA ["key"] [(1,"parts")] (aX (Da (aB (aA 1) aD))) (gN 0) (mN eF (aB (aA 0) (aB (oR pY (aA 1) (aA 0)) aD)))))
 (aT (mR fX (aB (gZ ["row"] [] (aX (aA 4)) (gN 0) (aO (aC eA (aC aE (aA 0) 1#c) (mN eF (aB 1#e (aB 1#c aD))))) (aA 0)) aD))))))
def Tn:FM:=aI 1 5 Hd
def Nt:MS:=nB xY Hd
def pX:FM:=aI 1 5 Nt
def Uc:MS:=(aH (aP 1 (fV aD))
 (aH (cB (aX (aA 0)) (gN 2) (pG 1 (aJ qB [] (aB (aA 2) aD))))
 (aT (aA 1))))
def oI:FM:=aI 1 3 Uc
def Yc:MS:=(aT (nQ pX (aB (bA ["start","end"] [] (aX (aJ oI [] (aB (aA 0) aD))) (gT 2 (aZ (gN 0) (aZ (gN 1) cJ))) (aJ lG [] (aB (aA 0) (aB (aA 1) aD)))) aD)))
def xT:FM:=aI 1 1 Yc
def Vc:MS:=(aT (nQ pX (aB (bA ["wall"] [] (aX (aJ oI [] (aB (aA 0) aD))) (gN 0) (aJ nG [] (aB (aA 0) aD))) aD)))
def xS:FM:=aI 1 1 Vc
def Tc:MS:=(aH (aP 1 (fV aD))
 (aH (cB (aX (aJ oI [] (aB (aA 0) aD))) (gN 2) (aH (aP 3 (aC aE (aJ nG [] (aB (aA 2) aD)) 1#e))
 (cB (aX (aJ uT [] (aB (aA 2) aD))) (gT 2 (aZ (gN 4) (aZ (gN 5) cJ))) (aH (aP 6 (aJ lG [] (aB (aA 4) (aB (aA 5) aD))))
 (dC (dQ (aA 1) (aB (mN eF (aB (mN eF (aB (aA 3) (aB (aC aE (aA 6) 1#e) aD))) (aB (aC aE (aA 6) 1#c) aD))) aD)))))))
 (aT (nQ pX (aB (aA 1) aD)))))
def xP:FM:=aI 1 7 Tc
def Hh:MS:=(aH (aP 1 (fV aD))
 (aH (cB (Wa (aB (dW (aA 0) dF (dN (mC (.int 63)))) aD)) (gT 2 (aZ (gN 2) (aZ (gN 3) cJ))) (bW (aO (aC uB (aA 3) (aC iO (mC (.int 10)) (mC (.int 18))))) (dC (dQ (aA 1) (aB (aC dY (aA 3) (aC iO (mC (.int 10)) (mC (.int 18)))) aD))) (aH (aP 4 (aC gB (aC aU (aC bF (aC bF (aC bF (aA 3) (aC aU (aC aU (mC (.int 7)) (aA 2)) (aA 2))) (aC aU (mC (.int 13)) (aA 2))) (mC (.int 5))) (mC (.int 48271))) (mC (.int 2147483647))))
 (aH (aP 5 (aC gB (aC aU (aC bF (aC bF (aC bF (aA 3) (aC aU (aC aU (mC (.int 11)) (aA 2)) (aA 2))) (aC aU (mC (.int 17)) (aA 2))) (mC (.int 3))) (mC (.int 40692))) (mC (.int 2147483399))))
 (aH (aP 6 (aC gB (aC aU (aC bF (aC bF (aC bF (aA 3) (aC aU (aC aU (mC (.int 5)) (aA 2)) (aA 2))) (aC aU (mC (.int 29)) (aA 2))) (mC (.int 8))) (mC (.int 39373))) (mC (.int 2147483587))))
 (aH (aP 4 (aC gB (aC aU (aA 4) (mC (.int 52021))) (mC (.int 1000000007))))
 (aH (aP 5 (aC gB (aC aU (aA 5) (mC (.int 30011))) (mC (.int 998244353))))
 (aH (aP 6 (aC gB (aC aU (aA 6) (mC (.int 45989))) (mC (.int 1000000009))))
 (dC (dQ (aA 1) (aB (aC bF (aC aU (aC bF (aC aU (aA 4) (mC (.int 998244353))) (aA 5)) (mC (.int 1000000009))) (aA 6)) aD)))))))))))
 (aT (aA 1))))
def sR:FM:=aI 1 7 Hh
def zS:MS:=(aH (nP (iA (aO (aC fS (mR cE (aB (aA 0) aD)) 1#e)) (aO (aC cY (aC aE (aA 0) 1#e) 1#e))) (dC (pI (aA 0) (aB 1#e aD))))
 (aH (bW (aO (aC cY (mR cE (aB (aA 0) aD)) 1#e)) (aT 1#e) cP)
 (aH (aP 2 (aC gB (aC aE (aA 0) 1#e) (aA 1)))
 (aH (qI (aA 0) 1#e (aC hV (aC aE (aA 0) 1#e) (aA 1)))
 (aT (aA 2))))))
def dX:FM:=aI 2 3 zS
def Oh:MS:=(aH (aP 0 (mR pJ (aB (aA 0) aD)))
 (aH (aP 1 (mR pJ (aB (aA 1) aD)))
 (aH (nP (aO (aC fS (aA 1) 1#e)) (wT 0 1 (aB (aA 1) (aB (aC gB (aA 0) (aA 1)) aD))))
 (aT (aA 0)))))
def vK:FM:=aI 2 2 Oh
def yF:MS:=(aH (aP 1 1#e)
 (aH (cB (aX (aA 0)) (gN 2) (aP 1 (aJ vK [] (aB (aA 1) (aB (aA 2) aD)))))
 (aH (bW (aO (aC cY (aA 1) 1#e)) (aT (mR fX (aB (aA 0) aD))) cP)
 (aT (mR fX (aB (bA ["_law_number"] [(1,"_law_by")] (aX (aA 0)) (gN 0) (aC hV (aA 0) (aA 1))) aD))))))
def lH:FM:=aI 1 3 yF
def Ff:MS:=(aT (tI (bG (eY "int") (aA 0)) (bG wV (bG (eY "bool") (aA 0)))))
def uO:FM:=aI 1 1 Ff
def Ee:MS:=(aH (bW (gC (fM (aO (bG (eY "tuple") (aA 0)))) (aO (aC eA (mR cE (aB (aA 0) aD)) (aA 1)))) (aT (mC (.bl false))) cP)
 (aT (mR mW (aB (bA ["_law_number"] [] (aX (aA 0)) (gN 0) (aJ uO [] (aB (aA 0) aD))) aD))))
def iL:FM:=aI 2 2 Ee
def Ng:MS:=(aH (bW (aO (aC kS (aA 1) 1#e)) (aT (aJ lH [] (aB (mN fG (aB (aC dY 1#e (aA 0)) (aB (aC dY 1#e (aA 1)) aD))) aD))) cP)
 (aT (aJ lH [] (aB (mN fG (aB (aA 0) (aB (aA 1) aD))) aD))))
def sG:FM:=aI 2 2 Ng
def Gi:MS:=(aT (aJ sG [] (aB (aC bF (aC aU (aC aE (aA 0) 1#e) (aC aE (aA 1) 1#c)) (aC aU (aC aE (aA 1) 1#e) (aC aE (aA 0) 1#c))) (aB (aC aU (aC aE (aA 0) 1#c) (aC aE (aA 1) 1#c)) aD))))
def vI:FM:=aI 2 2 Gi
def Me:MS:=(aH (aP 3 (bA ["_law_k"] [(2,"_law_way"),(1,"_law_q"),(0,"_law_p")] (dG (aB (aC dY (mR cE (aB (aA 0) aD)) 1#c) aD)) (gN 0) (aC bF (aC aU (aC aU (aA 1) (aC aE (aA 3) (aA 0))) (aC aE (aA 2) (bG cF 1#c))) (aC aU (aC aE (aA 2) (aA 0)) (aC aE (aA 3) (bG cF 1#c))))))
 (aT (aJ lH [] (aB (aC bF (aA 3) (mN fG (aB (aC aU (aC aE (aA 0) (bG cF 1#c)) (aC aE (aA 1) (bG cF 1#c))) aD))) aD))))
def oM:FM:=aI 3 4 Me
def Nh:MS:=(aT (bA ["_law_k"] [(1,"_law_q"),(0,"_law_p")] (dG (aB (aC dY (mR cE (aB (aA 0) aD)) 1#c) aD)) (gN 0) (aC dY (aC aU (aC aE (aA 1) (aA 0)) (aC aE (aA 2) (bG cF 1#c))) (aC aU (aC aE (aA 2) (aA 0)) (aC aE (aA 1) (bG cF 1#c))))))
def sY:FM:=aI 2 2 Nh
def Te:MS:=(aH (aP 2 (aC dY (aC aU (aC aE (aA 0) 1#c) (aC aE (aA 1) (mC (.int 2)))) (aC aU (aC aE (aA 0) (mC (.int 2))) (aC aE (aA 1) 1#c))))
 (aH (aP 3 (aC dY (aC aU (aC aE (aA 0) (mC (.int 2))) (aC aE (aA 1) 1#e)) (aC aU (aC aE (aA 0) 1#e) (aC aE (aA 1) (mC (.int 2))))))
 (aH (aP 4 (aC dY (aC aU (aC aE (aA 0) 1#e) (aC aE (aA 1) 1#c)) (aC aU (aC aE (aA 0) 1#c) (aC aE (aA 1) 1#e))))
 (aT (mN fG (aB (aA 2) (aB (aA 3) (aB (aA 4) aD))))))))
def yU:FM:=aI 2 5 Te
def Lh:MS:=(aT (mR rE (aB (bA ["_law_one","_law_other"] [] (iB (aB (aA 0) (aB (aA 1) aD))) (gT 2 (aZ (gN 0) (aZ (gN 1) cJ))) (aC aU (aA 0) (aA 1))) aD)))
def Ea:FM:=aI 2 2 Lh
def sL:MS:=(aH (bW (aO (aC cY (mR cE (aB (aA 0) aD)) (mC (.int 2)))) (aT (aC dY (aC aU (aC aE (aC aE (aA 0) 1#e) 1#e) (aC aE (aC aE (aA 0) 1#c) 1#c)) (aC aU (aC aE (aC aE (aA 0) 1#e) 1#c) (aC aE (aC aE (aA 0) 1#c) 1#e)))) cP)
 (aT (aJ Ea [] (aB (aJ yU [] (aB (aC aE (aA 0) 1#e) (aB (aC aE (aA 0) 1#c) aD))) (aB (aC aE (aA 0) (mC (.int 2))) aD)))))
def lJ:FM:=aI 1 1 sL
def Ha:MS:=(aT (aJ lJ [] (aB (bA ["_law_p"] [(0,"_law_points")] (aX (dW (aA 0) (dN 1#c) dF)) (gN 0) (aJ sY [] (aB (aC aE (aA 1) 1#e) (aB (aA 0) aD)))) aD)))
def oW:FM:=aI 1 1 Ha
def xX:MS:=(aH (aP 1 (mR mS (aB (aA 0) aD)))
 (aH (bW (aO (aC kS (aJ oW [] (aB (aA 1) aD)) 1#e)) (aP 1 (aC bF (dW (aA 1) dF (dN (bG cF (mC (.int 2))))) (mN fG (aB (aC aE (aA 1) (bG cF 1#c)) (aB (aC aE (aA 1) (bG cF (mC (.int 2)))) aD))))) cP)
 (aT (mR fX (aB (aA 1) aD)))))
def pT:FM:=aI 1 2 xX
def Jc:MS:=(aH (bW (gC (fM (aO (aJ iL [] (aB (aA 0) (aB (aC bF (aA 1) 1#c) aD))))) (aO (aC kS (aC aE (aA 0) (bG cF 1#c)) 1#c))) (aT (mC (.bl false))) cP)
 (aT (aC cY (aJ lH [] (aB (aA 0) aD)) (aA 0))))
def uE:FM:=aI 2 2 Jc
def Ec:MS:=(aH (bW (gC (fM (aO (bG (eY "tuple") (aA 0)))) (aO (aC eA (mR cE (aB (aA 0) aD)) (aC bF (aA 1) 1#c)))) (aT (mC (.bl false))) cP)
 (aH (bW (fM (aO (mR mW (aB (bA ["_law_p"] [(1,"_law_many")] (aX (aA 0)) (gN 0) (aJ uE [] (aB (aA 0) (aB (aA 1) aD)))) aD)))) (aT (mC (.bl false))) cP)
 (aT (tI (aC eA (aJ oW [] (aB (aA 0) aD)) 1#e) (aC cY (aJ pT [] (aB (aA 0) aD)) (aA 0))))))
def uD:FM:=aI 2 2 Ec
def Lc:MS:=(aH (bW (fM (aO (bG (eY "tuple") (aA 0)))) (aT (mC (.bl false))) cP)
 (aT (mR mW (aB (bA ["_law_points"] [(1,"_law_many")] (aX (aA 0)) (gN 0) (aJ uD [] (aB (aA 0) (aB (aA 1) aD)))) aD))))
def uG:FM:=aI 2 2 Lc
def xQ:MS:=(aT (aJ lJ [] (aB (bA ["_law_corner"] [(0,"_law_corners")] (aX (dW (aA 0) (dN 1#c) dF)) (gN 0) (bA ["_law_b","_law_c"] [] (iB (aB (aC aE (aA 1) 1#e) (aB (aA 0) aD))) (gT 2 (aZ (gN 0) (aZ (gN 1) cJ))) (aC dY (aA 1) (aA 0)))) aD)))
def pR:FM:=aI 1 1 xQ
def Uh:MS:=(aH (aP 3 (fV aD))
 (aH (cB (dG (aB (aC bF (aA 1) 1#c) aD)) (gN 4) (dC (dQ (aA 3) (aB (bA ["_law_m"] [(0,"_law_row_here"),(2,"_law_wide")] (dG (aB (aA 1) aD)) (gN 0) (aJ dX [] (aB (aA 1) (aB (aC bF (aA 2) 1#c) aD)))) aD))))
 (aH (bW (aO (aC eA (aJ pR [] (aB (aA 3) aD)) 1#e)) (aT (aA 3)) cP)
 (aT (bA ["_law_k"] [(1,"_law_dims")] (sK (aB (bG cF 1#c) (aB (aA 1) aD))) (gN 0) (bA ["_law_m"] [(0,"_law_k")] (dG (aB (aA 1) aD)) (gN 0) (mR kY (aB (aC cY (aA 0) (aA 1)) aD))))))))
def mO:FM:=aI 3 5 Uh
def zR:MS:=(aH (aP 1 (fV (aB 1#e (aB 1#c (aB (mC (.int 2)) aD)))))
 (aH (aP 2 (fV (aB 1#e (aB 1#e (aB 1#e aD)))))
 (aH (aP 3 (wW (aB (aA 2) aD)))
 (aH (cB (dG (aB (mC (.int 3)) aD)) (gN 4) (aH (qI (aA 2) (pI (aA 1) (aB (aJ dX [] (aB (aA 0) (aB (mR cE (aB (aA 1) aD)) aD))) aD)) 1#c)
 (dC (wI (aA 3) (aB (aA 2) aD)))))
 (aH (cB (dG (aB (mC (.int 3)) aD)) (gN 5) (bW (aO (aC cY (aJ dX [] (aB (aA 0) (aB (mC (.int 4)) aD))) (mC (.int 3)))) (qQ 3 2 5) cP))
 (aT (aA 3)))))))
def sJ:FM:=rG 1 6 zR
def Xc:MS:=(aH (aP 3 (fV aD))
 (aH (cB (dG (aB (aJ dX [] (aB (aA 0) (aB (aC bF (aA 2) 1#c) aD))) aD)) (gN 4) (aH (aP 5 (aJ dX [] (aB (aA 0) (aB (mC (.int 6)) aD))))
 (bW (iA (aO (aC cY (aA 5) (mC (.int 5)))) (aO (aC fS (mR cE (aB (aA 3) aD)) 1#e))) (dC (dQ (aA 3) (aB (aC aE (aA 3) (bG cF 1#c)) aD))) (bW (aO (aC cY (aA 1) (mC (.int 2)))) (dC (dQ (aA 3) (aB (aJ mO [] (aB (aA 0) (aB (mC (.int 2)) (aB (aC bF 1#c (mR kY (aB (aC cY (aA 5) (mC (.int 4))) aD))) aD)))) aD))) (bW (aO (aC fS (aA 5) (mC (.int 3)))) (dC (dQ (aA 3) (aB (aJ mO [] (aB (aA 0) (aB (mC (.int 3)) (aB 1#c aD)))) aD))) (dC (dQ (aA 3) (aB (aJ sJ [] (aB (aA 0) aD)) aD))))))))
 (aT (aA 3))))
def rP:FM:=aI 3 6 Xc
def Eh:MS:=(aH (aP 2 (aJ dX [] (aB (aA 0) (aB (mC (.int 4)) aD))))
 (aH (aP 3 (aC aE (mN fG (aB 1#e (aB (mC (.int 3)) (aB (mC (.int 9)) (aB (aC iO (mC (.int 10)) (mC (.int 12))) aD))))) (aA 2)))
 (aH (aP 4 (aC bF 1#c (aC aU (aJ dX [] (aB (aA 0) (aB (mC (.int 9)) aD))) (aC hV (aA 2) (mC (.int 2))))))
 (aH (aP 5 (bA ["_law_k"] [(3,"_law_wide"),(0,"_law_row_here")] (dG (aB (aA 1) aD)) (gN 0) (aC dY (aJ dX [] (aB (aA 2) (aB (aC bF (aC aU (mC (.int 2)) (aA 1)) 1#c) aD))) (aA 1))))
 (aT (aJ lH [] (aB (aC bF (aA 5) (mN fG (aB (aA 4) aD))) aD)))))))
def lK:FM:=aI 2 6 Eh
def Md:MS:=(aH (aP 2 (fV aD))
 (aH (cB (dG (aB (aA 1) aD)) (gN 3) (aH (aP 4 (aJ dX [] (aB (aA 0) (aB (mC (.int 3)) aD))))
 (dC (dQ (aA 2) (aB (aJ sG [] (aB (aC bF 1#c (aJ dX [] (aB (aA 0) (aB (aC aE (mN fG (aB 1#c (aB (mC (.int 7)) (aB (aC iO (mC (.int 10)) (mC (.int 9))) aD)))) (aA 4)) aD)))) (aB (aC bF 1#c (aJ dX [] (aB (aA 0) (aB (aC aE (mN fG (aB 1#c (aB (mC (.int 7)) (aB (aC iO (mC (.int 10)) (mC (.int 6))) aD)))) (aA 4)) aD)))) aD))) aD)))))
 (aT (aA 2))))
def xU:FM:=aI 2 5 Md
def zU:MS:=(aH (aP 2 1#c)
 (aH (cB (aX (aA 1)) (gN 3) (aP 2 (aC aU (aA 2) (aC aE (aA 3) 1#c))))
 (aH (aP 4 (bA ["_law_number","_law_part"] [(2,"_law_under")] (iB (aB (aA 0) (aB (aA 1) aD))) (gT 2 (aZ (gN 0) (aZ (gN 1) cJ))) (aC aU (aC aU (aA 0) (aC aE (aA 1) 1#e)) (aC hV (aA 2) (aC aE (aA 1) 1#c)))))
 (aT (aJ lH [] (aB (aC bF (aA 4) (mN fG (aB (aA 2) aD))) aD))))))
def qC:FM:=aI 2 5 zU
def Qg:MS:=(aH (aP 3 (fV aD))
 (aH (cB (aX (aA 1)) (gN 4) (aH (aP 5 (aJ lK [] (aB (aA 0) (aB (mR cE (aB (aA 2) aD)) aD))))
 (dC (dQ (aA 3) (aB (aJ pT [] (aB (bA ["_law_corner"] [(5,"_law_far_here"),(2,"_law_stretch_here")] (aX (aA 4)) (gN 0) (aJ oM [] (aB (aJ qC [] (aB (aA 0) (aB (aA 2) aD))) (aB (aA 1) (aB 1#c aD))))) aD)) aD)))))
 (aT (aA 3))))
def zQ:FM:=aI 3 6 Qg
def yE:MS:=(aH (bW (aO (aC cY (aJ dX [] (aB (aA 0) (aB (mC (.int 2)) aD))) 1#c)) (aT (mR fX (aB (aA 1) aD))) cP)
 (aT (mR gM (aB (aA 1) aD))))
def pU:FM:=aI 2 2 yE
def uI:MS:=(tE (aA 0) (aA 1) (aJ vI [] (aB (tJ (aA 0) (aB (aA 1) (aB (mN eF (aB 1#e (aB 1#c aD))) aD))) (aB (aA 2) aD))))
def mF:FM:=aI 3 3 uI
def rJ:MS:=(aT (mR fX (aB (gZ ["_law_key"] [(0,"_law_table")] (aX (mR mS (aB (pF (aB (aA 0) aD)) aD))) (gN 0) (aO (aC eA (aC aE (jV (aA 1) (aA 0)) 1#e) 1#e)) (mN eF (aB (aA 0) (aB (jV (aA 1) (aA 0)) aD)))) aD)))
def Cl:FM:=aI 1 1 rJ
def xK:MS:=(aT (mR fX (aB (gZ ["_law_key"] [(0,"_law_table")] (aX (mR vP (aB (pF (aB (aA 0) aD)) aD))) (gN 0) (aO (aC eA (aC aE (jV (aA 1) (aA 0)) 1#e) 1#e)) (mN eF (aB (aA 0) (aB (jV (aA 1) (aA 0)) aD)))) aD)))
def Fl:FM:=aI 1 1 xK
def Om:MS:=nB rJ xK
def uF:FM:=aI 1 1 Om
def rO:MS:=(aH (bW (aO (aC cY (mR cE (aB (aA 1) aD)) 1#e)) (aT (mN fG aD)) cP)
 (aT (aJ zQ [] (aB (aA 0) (aB (aA 1) (aB (aJ xU [] (aB (aA 0) (aB (aC dY (mR cE (aB (aC aE (aA 1) 1#e) aD)) 1#c) aD))) aD))))))
def lZ:FM:=aI 2 2 rO
def xJ:MS:=(aH (aP 2 (pD false))
 (aH (cB (aX (aC bF (mR gM (aB (aA 0) aD)) (mR gM (aB (aA 1) aD)))) (gT 2 (aZ (gN 3) (aZ (gN 4) cJ))) (dC (aJ mF [] (aB (aA 2) (aB (aA 3) (aB (aA 4) aD))))))
 (aT (aJ uF [] (aB (aA 2) aD)))))
def L1:FM:=aI 2 5 xJ
def Dc:MS:=(aH (aP 2 (pD true))
 (aH (cB (aX (aC bF (mR gM (aB (aA 0) aD)) (mR gM (aB (aA 1) aD)))) (gT 2 (aZ (gN 3) (aZ (gN 4) cJ))) (dC (aJ mF [] (aB (aA 2) (aB (aA 3) (aB (aA 4) aD))))))
 (aT (aJ uF [] (aB (aA 2) aD)))))
def L5:FM:=aI 2 5 Dc
def Ol:MS:=nB xJ Dc
def rK:FM:=aI 2 5 Ol
def Fc:MS:=(aT (mR fX (aB (bA ["_law_key","_law_part"] [] (aX (aA 0)) (gT 2 (aZ (gN 0) (aZ (gN 1) cJ))) (mN eF (aB (aA 0) (aB (mN eF (aB (aC dY 1#e (aC aE (aA 1) 1#e)) (aB (aC aE (aA 1) 1#c) aD))) aD)))) aD)))
def oE:FM:=aI 1 1 Fc
def Nm:MS:=(aH (bW (fM (aO (bG (eY "tuple") (aA 0)))) (aT (mC (.bl false))) cP)
 (aH (cB (aX (aA 0)) (gN 2) (aH (bW (gC (fM (aO (bG (eY "tuple") (aA 2)))) (gC (aO (aC eA (mR cE (aB (aA 2) aD)) (mC (.int 2)))) (fM (aO (aJ iL [] (aB (aC aE (aA 2) 1#c) (aB (mC (.int 2)) aD))))))) (aT (mC (.bl false))) cP)
 (aH (bW (iA (aO (aC kS (aA 1) (mC (.int 6)))) (fM (aO (aJ iL [] (aB (aC aE (aA 2) 1#e) (aB (aA 1) aD)))))) (aT (mC (.bl false))) cP)
 (bW (aO (aC cY (aA 1) (mC (.int 6)))) (aH (bW (gC (fM (aO (bG (eY "tuple") (aC aE (aA 2) 1#e)))) (aO (aC eA (mR cE (aB (aC aE (aA 2) 1#e) aD)) (mC (.int 2))))) (aT (mC (.bl false))) cP)
 (bW (gC (fM (aO (aJ iL [] (aB (aC aE (aC aE (aA 2) 1#e) 1#e) (aB (mC (.int 3)) aD))))) (fM (aO (aJ iL [] (aB (aC aE (aC aE (aA 2) 1#e) 1#c) (aB (mC (.int 3)) aD)))))) (aT (mC (.bl false))) cP)) cP))))
 (aT (mC (.bl true)))))
def rN:FM:=aI 2 3 Nm
def uQ:MS:=(aH (bW (aO (aC cY (aA 1) (mC (.int 2)))) (aH (aP 3 (aJ xT [] (aB (aA 0) aD)))
 (aP 4 (mC (.int 2)))) (bW (aO (aC cY (aA 2) 1#e)) (aH (aP 3 (aJ xS [] (aB (aA 0) aD)))
 (aP 4 (mC (.int 3)))) (aH (aP 3 (aJ xP [] (aB (aA 0) aD)))
 (aP 4 (mC (.int 6))))))
 (aH (bW (fM (aO (aJ rN [] (aB (aA 3) (aB (aA 4) aD))))) (aT (mC .non)) cP)
 (aT (aA 3))))
def iU:FM:=aI 3 5 uQ
def Ui:MS:=(aH (aP 1 (qN sR [] (aB (aA 0) aD)))
 (aH (aP 2 (aC bF (mC (.int 2)) (aJ dX [] (aB (aA 1) (aB (mC (.int 2)) aD)))))
 (aH (aP 3 (mR fX (aB (aJ lZ [] (aB (aA 1) (aB (aJ rP [] (aB (aA 1) (aB (aA 2) (aB (mC (.int 4)) aD)))) aD))) aD)))
 (aH (aP 4 (aC aE (mN fG (aB 1#c (aB (bG cF 1#c) aD))) (aJ dX [] (aB (aA 1) (aB (mC (.int 2)) aD)))))
 (aH (aP 5 (aJ vE [] (aB (aJ pU [] (aB (aA 1) (aB (aA 3) aD))) (aB (jQ vN [] (aB (aA 4) (aB (aJ lK [] (aB (aA 1) (aB (aA 2) aD))) aD))) aD))))
 (aH (bW (fM (aO (aJ uG [] (aB (aA 5) (aB (aA 2) aD))))) (aT (mC (.bl false))) cP)
 (aH (cB (dG (aB (aC dY (aA 2) 1#c) aD)) (gN 6) (aH (aP 7 (aJ iU [] (aB (aA 3) (aB (aA 2) (aB (aA 6) aD)))))
 (aH (aP 8 (aJ iU [] (aB (aA 5) (aB (aA 2) (aB (aA 6) aD)))))
 (aH (aP 9 (aJ iU [] (aB (aC sZ (aA 3) (aA 5)) (aB (aA 2) (aB (aA 6) aD)))))
 (aH (bW (gC (aO (bG lP (aA 7))) (gC (aO (bG lP (aA 8))) (aO (bG lP (aA 9))))) (aT (mC (.bl false))) cP)
 (aH (aP 10 (aA 7))
 (aH (bW (iA (aO (aC cY (aA 4) (bG cF 1#c))) (aO (aC cY (aA 6) 1#e))) (aP 10 (aJ oE [] (aB (aA 7) aD))) cP)
 (bW (gC (aO (aC eA (aA 8) (aA 10))) (aO (aC eA (aA 9) (aJ rK [] (aB (aA 7) (aB (aA 8) aD)))))) (aT (mC (.bl false))) cP))))))))
 (aT (mC (.bl true))))))))))
def Lj:FM:=aI 1 11 Ui
abbrev vG(B:Bx):=cD B "sign" 1 ["number"] oZ
abbrev Td(B:Bx):=cD B "divisor" 1 ["one","other"] rT
abbrev Ld(B:Bx):=cD B "reduced" 2 ["numbers"] uM
abbrev Sl(B:Bx):=cD B "lowest_way" 3 ["numbers"] rM
abbrev Zc(B:Bx):=xC B "fraction" 2 ["top","bottom"] oJ
abbrev Lw(B:Bx):=cD B "plus" 3 ["one","other"] sW
abbrev Js(B:Bx):=cD B "total" 4 ["parts"] pY
abbrev Fr(B:Bx):=xC B "point" 3 ["numbers","bottom"] uY
abbrev Sf(B:Bx):=cD B "added" 4 ["p","q"] uV
abbrev Mq(B:Bx):=cD B "turned" 1 ["p"] zA
abbrev Hn(B:Bx):=cD B "lessened" 5 ["p","q"] xV
abbrev xL(B:Bx):=cD B "whole_arrow" 1 ["start","end"] oF
abbrev By(B:Bx):=cD B "dot" 1 ["u","v"] Sa
abbrev Ie(B:Bx):=cD B "normal" 1 ["arrows"] pW
abbrev El(B:Bx):=cD B "determinant" 2 ["points"] rL
abbrev Ew(B:Bx):=cD B "side" 3 ["points"] qG
abbrev Go(B:Bx):=xC B "simplex" 4 ["points"] rX
abbrev Du(B:Bx):=cD B "walls" 1 ["piece"] qB
abbrev Cv(B:Bx):=xC B "move" 1 ["way","arrow"] vN
abbrev Eo(B:Bx):=cD B "is_push" 1 ["move"] yM
abbrev Kl(B:Bx):=cD B "moved_point" 6 ["p","move"] oG
abbrev Gr(B:Bx):=cD B "moved" 7 ["heap","move"] vE
abbrev Os(B:Bx):=cD B "sides" 1 ["wall"] uT
abbrev Se(B:Bx):=cD B "along" 4 ["numbers","bottom"] pZ
abbrev Hc(B:Bx):=cD B "side_share" 5 ["start","end"] lG
abbrev Ic(B:Bx):=cD B "wall_share" 5 ["wall"] nG
abbrev yL(B:Bx):=cD B "summed" 5 ["rows"] pX
abbrev xO(B:Bx):=cD B "all_walls" 2 ["heap"] oI
abbrev Zl(B:Bx):=cD B "side_sums" 6 ["heap"] xT
abbrev Fm(B:Bx):=cD B "wall_sums" 6 ["heap"] xS
abbrev Em(B:Bx):=cD B "edge_sums" 6 ["heap"] xP
abbrev Jv(B:Bx):=cD B "_law_row" 1 ["_law_script"] sR
abbrev oP(B:Bx):=cD B "_law_take" 1 ["_law_row_here","_law_many"] dX
abbrev Ku(B:Bx):=cD B "_law_gcd" 1 ["_law_one","_law_other"] vK
abbrev rQ(B:Bx):=cD B "_law_lowest" 2 ["_law_numbers"] lH
abbrev Bp(B:Bx):=cD B "_law_whole" 1 ["_law_number"] uO
abbrev Jd(B:Bx):=cD B "_law_wholes" 2 ["_law_told","_law_many"] iL
abbrev Lf(B:Bx):=cD B "_law_frac" 3 ["_law_top","_law_bottom"] sG
abbrev Nu(B:Bx):=cD B "_law_sum" 4 ["_law_one","_law_other"] vI
abbrev Ao(B:Bx):=cD B "_law_joined" 3 ["_law_p","_law_q","_law_way"] oM
abbrev Xw(B:Bx):=cD B "_law_gap" 1 ["_law_p","_law_q"] sY
abbrev Oq(B:Bx):=cD B "_law_cross" 1 ["_law_u","_law_v"] yU
abbrev Fx(B:Bx):=cD B "_law_dot" 1 ["_law_u","_law_v"] Ea
abbrev Ef(B:Bx):=cD B "_law_turn" 2 ["_law_ways"] lJ
abbrev Vf(B:Bx):=cD B "_law_det" 3 ["_law_points"] oW
abbrev Cd(B:Bx):=cD B "_law_simplex" 4 ["_law_points"] pT
abbrev Dl(B:Bx):=cD B "_law_point_form" 3 ["_law_p","_law_many"] uE
abbrev Zk(B:Bx):=cD B "_law_simplex_form" 5 ["_law_points","_law_many"] uD
abbrev Rl(B:Bx):=cD B "_law_heap_form" 6 ["_law_heap","_law_many"] uG
abbrev Lm(B:Bx):=cD B "_law_raw_turn" 3 ["_law_corners"] pR
abbrev Kx(B:Bx):=cD B "_law_raw" 4 ["_law_row_here","_law_dims","_law_wide"] mO
abbrev Ps(B:Bx):=cD B "_law_kuhn" 2 ["_law_row_here"] sJ
abbrev Cm(B:Bx):=cD B "_law_raw_heap" 5 ["_law_row_here","_law_dims","_law_many"] rP
abbrev Bh(B:Bx):=cD B "_law_far" 3 ["_law_row_here","_law_dims"] lK
abbrev Jn(B:Bx):=cD B "_law_stretch" 4 ["_law_row_here","_law_dims"] xU
abbrev Ds(B:Bx):=cD B "_law_spot" 3 ["_law_corner","_law_stretch_here"] qC
abbrev Vr(B:Bx):=cD B "_law_laid" 5 ["_law_row_here","_law_heap","_law_stretch_here"] zQ
abbrev No(B:Bx):=cD B "_law_handed" 2 ["_law_row_here","_law_rows"] pU
abbrev Pm(B:Bx):=cD B "_law_put_sum" 5 ["_law_table","_law_key","_law_part"] mF
abbrev Ml(B:Bx):=cD B "_law_told_sums" 1 ["_law_table"] uF
abbrev Gm(B:Bx):=cD B "_law_wide_far" 6 ["_law_row_here","_law_heap"] lZ
abbrev Il(B:Bx):=cD B "_law_added_sums" 6 ["_law_first","_law_second"] rK
abbrev Bl(B:Bx):=cD B "_law_turned_sums" 1 ["_law_told"] oE
abbrev Ql(B:Bx):=cD B "_law_sums_form" 3 ["_law_told","_law_many"] rN
abbrev Fp(B:Bx):=cD B "_law_asked" 7 ["_law_heap","_law_dims","_law_at"] iU
structure Mg(mg:Str->BG):Prop where
 m_abs:mg "abs"=none
 m_all:mg "all"=none
 m_bool:mg "bool"=none
 m_enumerate:mg "enumerate"=none
 m_int:mg "int"=none
 m_isinstance:mg "isinstance"=none
 m_len:mg "len"=none
 m_list:mg "list"=none
 m_range:mg "range"=none
 m_sorted:mg "sorted"=none
 m_sum:mg "sum"=none
 m_tuple:mg "tuple"=none
 m_zip:mg "zip"=none
set_option hygiene false
local macro_rules | `(tactic|trivial)=> `(tactic|(first
 |(with_reducible show aL _ _ _ _ _ (kZ _ _ _));exact aeS (kQ hr) rfl rfl rfl
 |(with_reducible show aL _ _ _ _ _ (qM _));exact abK _
 |(with_reducible show aL _ _ _ _ _ (Fa _));refine abJ rfl rfl m.m_sorted yN ?_
 |(with_reducible show aL _ _ _ _ _ (Da _));refine ab6 (kQ hr) rfl rfl m.m_sorted yN ?_
 |(with_reducible show aL _ _ _ _ _ (mR vP _));refine sF (U9 (kQ hr)) ac5 rfl m.m_sorted yN ?_
 |(with_reducible show aL _ _ _ _ _ (oR _ _ _));refine aed (kQ hr) (by assumption) hr (by decide) rfl ?_ ?_
 |(with_reducible show aL _ _ _ _ _ (mR mS _));refine sF T9 ad4 rfl m.m_sorted yN ?_
 |(with_reducible show eR _ _ _ _ _ aD);exact acV
 |(with_reducible show eR _ _ _ _ _ (aB _ _));refine abV ?_ ?_
 |(with_reducible show aL _ _ _ _ _ (aA _));exact ae0 _
 |(with_reducible show aL _ _ _ _ _ (mC (.int _)));(first |exact ae1 |exact Gw rfl (by assumption))
 |(with_reducible show aL _ _ _ _ _ (mC (.bl _)));exact agx
 |(with_reducible show aL _ _ _ _ _ (mC .non));exact ae3
 |(with_reducible show aL _ _ _ _ _ (mC (.tup _)));exact Gw rfl (by assumption)
 |(with_reducible show aL _ _ _ _ _ (bG cF _));refine agZ Fz agj ?_
 |(with_reducible show aL _ _ _ _ _ (bG wV _));refine aeL ?_
 |(with_reducible show aL _ _ _ _ _ (aC sZ _ _));refine qR acT ae5 ?_ ?_
 |(with_reducible show aL _ _ _ _ _ (aC bF _ _));refine qR ac3 agp ?_ ?_
 |(with_reducible show aL _ _ _ _ _ (aC dY _ _));refine qR Uz agt ?_ ?_
 |(with_reducible show aL _ _ _ _ _ (aC aU _ _));refine qR acw af2 ?_ ?_
 |(with_reducible show aL _ _ _ _ _ (aC hV _ _));refine qR abF aeE ?_ ?_
 |(with_reducible show aL _ _ _ _ _ (aC gB _ _));refine qR ack afS ?_ ?_
 |(with_reducible show aL _ _ _ _ _ (aC iO _ _));refine qR aeR af4 ?_ ?_
 |(with_reducible show aL _ _ _ _ _ (aC aE _ _));refine agb ?_ ?_
 |(with_reducible show aL _ _ _ _ _ (aC cY _ _));refine vV (Jz (kQ hr)) G7 ?_ ?_ (mQ _)
 |(with_reducible show aL _ _ _ _ _ (aC eA _ _));refine vV (Ez (kQ hr)) G3 ?_ ?_ (mQ _)
 |(with_reducible show aL _ _ _ _ _ (aC kS _ _));refine vV A3 E9 ?_ ?_ (mQ _)
 |(with_reducible show aL _ _ _ _ _ (aC fS _ _));refine vV A8 E5 ?_ ?_ (mQ _)
 |(with_reducible show aL _ _ _ _ _ (aC uB _ _));refine vV D7 F0 ?_ ?_ (mQ _)
 |(with_reducible show fH _ _ _ _ _ (aO (aC cY _ _)));refine vF (Jz (kQ hr)) G7 ?_ ?_ (mQ _)
 |(with_reducible show fH _ _ _ _ _ (aO (aC eA _ _)));refine vF (Ez (kQ hr)) G3 ?_ ?_ (mQ _)
 |(with_reducible show fH _ _ _ _ _ (aO (aC kS _ _)));refine vF A3 E9 ?_ ?_ (mQ _)
 |(with_reducible show fH _ _ _ _ _ (aO (aC fS _ _)));refine vF A8 E5 ?_ ?_ (mQ _)
 |(with_reducible show fH _ _ _ _ _ (aO (aC uB _ _)));refine vF D7 F0 ?_ ?_ (mQ _)
 |(with_reducible show fH _ _ _ _ _ (aO (bG lP _)));refine aeZ ?_
 |(with_reducible show fH _ _ _ _ _ (aO _));refine adb ?_
 |(with_reducible show fH _ _ _ _ _ (wR _));refine ad3 ?_
 |(with_reducible show fH _ _ _ _ _ (fM _));refine acI ?_
 |(with_reducible show fH _ _ _ _ _ (iA _ _));refine kP.pt ?_
 |(with_reducible show fH _ _ _ _ _ (gC _ _));refine kP.pt ?_
 |(with_reducible show kP _ _ _ _ _ (iA _ _));refine acZ ?_ ?_
 |(with_reducible show kP _ _ _ _ _ (gC _ _));refine aeu ?_ ?_
 |(with_reducible show kP _ _ _ _ _ _);(first |refine ab8 ?_ |refine adE ?_)
 |(with_reducible show aL _ _ _ _ _ (tI _ _));refine aek ?_ ?_
 |(with_reducible show aL _ _ _ _ _ (uA _ _ _));refine ag1 ?_ ?_ ?_
 |(with_reducible show aL _ _ _ _ _ (mN eF _));refine aeF ?_
 |(with_reducible show aL _ _ _ _ _ (mN fG _));refine aeV ?_
 |(with_reducible show aL _ _ _ _ _ (fV _));refine aec ?_
 |(with_reducible show aL _ _ _ _ _ (rD _ _ _ _));(first |refine Mx ?_ ?_ ?_ ad7 (by decide) |refine Mx ?_ ?_ ?_ ae4 (by decide))
 |(with_reducible show aL _ _ _ _ _ (dW _ _ _));refine agM ?_ ?_ ?_
 |(with_reducible show pK _ _ _ _ _ dF);exact abH
 |(with_reducible show pK _ _ _ _ _ (dN _));refine abq ?_
 |(with_reducible show aL _ _ _ _ _ (tJ _ _));refine acn (kQ hr) ?_ ?_
 |(with_reducible show aL _ _ _ _ _ (jV _ _));refine aee (kQ hr) ?_ ?_
 |(with_reducible show aL _ _ _ _ _ (pD _));exact acL _
 |(with_reducible show aL _ _ _ _ _ (pF _));refine acQ rfl rfl m.m_list Uu ?_
 |(with_reducible show aL _ _ _ _ _ (wI _ _));refine ad9 rfl rfl m.m_list ?_ ?_
 |(with_reducible show aL _ _ _ _ _ (wW _));refine afB rfl rfl m.m_list ?_
 |(with_reducible show aL _ _ _ _ _ (dQ _ _));refine aas ?_ ?_
 |(with_reducible show aL _ _ _ _ _ (pI _ _));refine aes ?_ ?_
 |(with_reducible show aL _ _ _ _ _ (nQ _ _));refine agh (by assumption) hr (by decide) rfl ?_
 |(with_reducible show aL _ _ _ _ _ (jQ _ [] _));refine agD (by assumption) hr (by decide) rfl ?_
 |(with_reducible show aL _ _ _ _ _ (aJ _ [] _));refine af0 (by assumption) hr (by decide) rfl ?_
 |(with_reducible show aL _ _ _ _ _ (qN _ [] _));refine af1 (by assumption) hr (by decide) rfl ?_
 |(with_reducible show aL _ _ _ _ _ (bG (eY "int") _));refine Ti (n:="int") rfl m.m_isinstance rfl m.m_int Xx ?_
 |(with_reducible show aL _ _ _ _ _ (bG (eY "bool") _));refine Ti (n:="bool") rfl m.m_isinstance rfl m.m_bool ac1 ?_
 |(with_reducible show aL _ _ _ _ _ (bG (eY "tuple") _));refine Ti (n:="tuple") rfl m.m_isinstance rfl m.m_tuple Fs ?_
 |(with_reducible show aL _ _ _ _ _ (mR cE _));refine sF P5 agW rfl m.m_len aei ?_
 |(with_reducible show aL _ _ _ _ _ (mR pJ _));refine sF ach age rfl m.m_abs afA ?_
 |(with_reducible show aL _ _ _ _ _ (mR mW _));refine sF (abj rfl) af9 rfl m.m_all afp ?_
 |(with_reducible show aL _ _ _ _ _ (mR fX _));refine De N7 adY rfl m.m_tuple Fs ?_
 |(with_reducible show aL _ _ _ _ _ (mR gM _));refine De Nc adC rfl m.m_list Uu ?_
 |(with_reducible show aL _ _ _ _ _ (mR kY _));refine De aal agY rfl m.m_int Xx ?_
 |(with_reducible show aL _ _ _ _ _ (mR rE _));refine sF (aak rfl) aga rfl m.m_sum aeh ?_
 |(with_reducible show aL _ _ _ _ _ (bA _ _ _ _ _));(first |refine adF (by first |exact Uj |exact Qi |exact Jh |exact Vh) ?_ rfl (λ_ _ _ _=> ?_) (λ_ _ _ _=> ?_) |refine aa1 afI ?_ rfl (λ_ _ _ _=> ?_) (λ_ _ _ _=> ?_))
 |(with_reducible show aL _ _ _ _ _ (gZ _ _ _ _ _ _));refine aaP (by first |exact Uj |exact Qi |exact Jh |exact Vh) ?_ rfl (λ_ _ _ _=> ?_) (λ_ _ _ _=> ?_) (λ_ _ _ _=> ?_)
 |(with_reducible show PIp _ _ _ _ _ _ (iB _));refine acR rfl m.m_zip ?_
 |(with_reducible show PIp _ _ _ _ _ _ (Wa _));refine aaS rfl m.m_enumerate ?_
 |(with_reducible show PIp _ _ _ _ _ _ (dG _));refine S7 rfl m.m_range ?_
 |(with_reducible show PIp _ _ _ _ _ _ (sK _));refine R7 rfl m.m_range ?_
 |(with_reducible show PIp _ _ _ _ _ _ (aX _));refine adW ?_
 |(with_reducible show nC _ _ _ (gN _));exact aaR (by first |exact nd |(show(cN _ _).Nodup;decide+kernel)) rfl (by first |exact ft rfl |exact eh rfl)
 |(with_reducible show nC _ _ _ (gT _ _));refine adU rfl ?_
 |(with_reducible show tT _ _ _ cJ);exact aaW
 |(with_reducible show tT _ _ _ (aZ _ _));refine Y6 ?_ ?_
 |(with_reducible show fO _ _ _ _ _ (nB _ _));refine afu ?_ ?_
 |(with_reducible show fO _ _ _ _ _ cP);exact abc
 |(with_reducible show fO _ _ _ _ _ (aH _ _));refine X9 ?_ ?_
 |(with_reducible show fO _ _ _ _ _ _);refine aa5 ?_
 |(with_reducible show eZ _ _ _ _ _ (aT _));refine acW ?_
 |(with_reducible show eZ _ _ _ _ _ (bW _ _ _));refine afl ?_ ?_ ?_
 |(with_reducible show eZ _ _ _ _ _ (dC _));refine abp ?_
 |(with_reducible show eZ _ _ _ _ _ (sX _));exact aaj rfl (by assumption) (by assumption)
 |(with_reducible show eZ _ _ _ _ _ (aP _ (bA _ _ _ _ _)));(first |refine abC nd rfl (by first |exact ft rfl |exact eh rfl) (by first |exact Uj |exact Qi |exact Jh |exact Vh) ?_ rfl (λ_ _ _ _=> ?_) (λ_ _ _ _=> ?_) |refine Hv nd rfl (by first |exact ft rfl |exact eh rfl) ?_)
 |(with_reducible show eZ _ _ _ _ _ (aP _ _));refine Hv nd rfl (by first |exact ft rfl |exact eh rfl) ?_
 |(with_reducible show eZ _ _ _ _ _ (wT _ _ _));refine ad0 rfl nd rfl rfl (by decide) rfl rfl ?_ rfl
 |(with_reducible show eZ _ _ _ _ _ (tE _ _ _));refine adw (kQ hr) ?_ ?_ ?_
 |(with_reducible show eZ _ _ _ _ _ (qI _ _ _));refine X7 ?_ ?_ ?_
 |(with_reducible show eZ _ _ _ _ _ (pG _ _));refine abY nd rfl (by first |exact ft rfl |exact eh rfl) ?_
 |(with_reducible show eZ _ _ _ _ _ (nP _ _));refine Y5 (by first |exact yz |exact za) ?_ ?_
 |(with_reducible show eZ _ _ _ _ _ (qQ _ _ _));exact acM (by first |exact yz |exact za) rfl nd rfl rfl rfl (by first |exact ft rfl |exact eh (ft rfl)) (by first |exact ft rfl |exact eh rfl) (by first |exact ft rfl |exact eh (ft rfl)) (by decide) (by decide)
 |(with_reducible show eZ _ _ _ _ _ (cB _ _ _));refine acO (by first |exact yz |exact za) rfl ?_ ?_ ?_)<;>trivial)
set_option hygiene true
section
variable{B:Bx}(X:XG B.K B.mg)(m:Mg B.mg)
include X m
theorem adc(h:HF B.K "sign" Gy):vG B:=cG (N:=["number"]) X h bX λnd _ _ _ _ _ _ _ hr=>by unfold Fi;trivial
theorem T7(h:HF B.K "divisor" Xo):Td B:=cG (N:=["one","other","rest"]) X h bX λnd _ _ _ _ _ _ _ hr=>by unfold Ke;trivial
theorem W8(h:HF B.K "reduced" Wq)(C_divisor:Td B):Ld B:=cG (N:=["numbers","common","number"]) X h bX λnd _ _ _ _ _ _ _ hr=>by unfold Be;trivial
theorem O0(h:HF B.K "lowest_way" Mm)(C_reduced:Ld B)(C_sign:vG B):Sl B:=cG (N:=["numbers","first"]) X h bX λnd _ _ _ _ _ _ _ hr=>by unfold Oc;trivial
theorem Q6{f:Addr}{fd:cg}{dsv:Array Value}(F:nX B.K "fraction" "fraction" uJ f fd dsv)(C_sign:vG B)(C_divisor:Td B)(q_NoNumber:B.mg "NoNumber"=some (.ref (B.cl "NoNumber")))(x_NoNumber:io B.K (B.cl "NoNumber") jN "ValueError.__new__"=true):eO B.P B.w B.K B.mg B.base (iR B.P B.w) 2 f fd ["top","bottom"] (lV B.K B.cl oJ):=G6 (N:=["top","bottom","common"]) F bX λnd _ _ _ _ _ _ _ hr=>by unfold Xd;trivial
theorem acE(h:HF B.K "plus" Vz)(H_fraction:Zc B):Lw B:=cG (N:=["one","other"]) X h bX λnd _ _ _ _ _ _ _ hr=>by unfold Li;trivial
theorem abS(h:HF B.K "total" Zw)(C_plus:Lw B):Js B:=cG (N:=["parts","pairs"]) X h bX λnd _ _ _ _ _ _ _ hr=>by unfold Eg;trivial
theorem aa9{f:Addr}{fd:cg}{dsv:Array Value}(F:nX B.K "point" "point" vB f fd dsv)(C_reduced:Ld B)(C_sign:vG B)(q_NoPoint:B.mg "NoPoint"=some (.ref (B.cl "NoPoint")))(x_NoPoint:io B.K (B.cl "NoPoint") jN "ValueError.__new__"=true):eO B.P B.w B.K B.mg B.base (iR B.P B.w) 3 f fd ["numbers","bottom"] (lV B.K B.cl uY):=G6 (N:=["numbers","bottom"]) F bX λnd _ _ _ _ _ _ _ hr=>by unfold Pg;trivial
theorem aa7(h:HF B.K "added" Lv)(H_point:Fr B):Sf B:=cG (N:=["p","q","numbers"]) X h bX λnd _ _ _ _ _ _ _ hr=>by unfold Lg;trivial
theorem Z6(h:HF B.K "turned" Ys):Mq B:=cG (N:=["p"]) X h bX λnd _ _ _ _ _ _ _ hr=>by unfold Jf;trivial
theorem Q0(h:HF B.K "lessened" Ko)(C_added:Sf B)(C_turned:Mq B):Hn B:=cG (N:=["p","q"]) X h bX λnd _ _ _ _ _ _ _ hr=>by unfold Kd;trivial
theorem L6(h:HF B.K "whole_arrow" Xl):xL B:=cG (N:=["start","end"]) X h bX λnd _ _ _ _ _ _ _ hr=>by unfold Gc;trivial
theorem afF(h:HF B.K "dot" A4):By B:=cG (N:=["u","v"]) X h bX λnd _ _ _ _ _ _ _ hr=>by unfold Xi;trivial
theorem aaa(h:HF B.K "normal" Mt):Ie B:=cG (N:=["arrows","u","v"]) X h bX λnd _ _ _ _ _ _ _ hr=>by unfold zB;trivial
theorem M5(h:HF B.K "determinant" Tl)(C_whole_arrow:xL B)(C_dot:By B)(C_normal:Ie B):El B:=cG (N:=["points","rows"]) X h bX λnd _ _ _ _ _ _ _ hr=>by unfold xM;trivial
theorem acN(h:HF B.K "side" Rx)(C_sign:vG B)(C_determinant:El B):Ew B:=cG (N:=["points"]) X h bX λnd _ _ _ _ _ _ _ hr=>by unfold zY;trivial
theorem S5(h:HF B.K "simplex" Ar)(C_side:Ew B)(q_Flat:B.mg "Flat"=some (.ref (B.cl "Flat")))(x_Flat:io B.K (B.cl "Flat") jN "ValueError.__new__"=true):Go B:=J3 (N:=["points","corners","turn"]) X h bX λnd _ _ _ _ _ _ _ hr=>by unfold yJ;trivial
theorem aaY(h:HF B.K "walls" Uw)(gt_FLAT_WALLS:xF B.K B.mg "FLAT_WALLS" (.tup [.tup [.int 0,.int 1],.tup [.int 1,.int 2],.tup [.int 2,.int 0]]))(gt_SPACE_WALLS:xF B.K B.mg "SPACE_WALLS" (.tup [.tup [.int 1,.int 2,.int 3],.tup [.int 0,.int 3,.int 2],.tup [.int 0,.int 1,.int 3],.tup [.int 0,.int 2,.int 1]])):Du B:=cG (N:=["piece","order"]) X h bX λnd _ _ _ _ _ _ _ hr=>by unfold Hg;trivial
theorem ac9(h:HF B.K "move" Dz)(q_NoMove:B.mg "NoMove"=some (.ref (B.cl "NoMove")))(x_NoMove:io B.K (B.cl "NoMove") jN "ValueError.__new__"=true):Cv B:=J3 (N:=["way","arrow"]) X h bX λnd _ _ _ _ _ _ _ hr=>by unfold Di;trivial
theorem W6(h:HF B.K "is_push" Dp):Eo B:=cG (N:=["move"]) X h bX λnd _ _ _ _ _ _ _ hr=>by unfold Le;trivial
theorem L7(h:HF B.K "moved_point" Ul)(C_is_push:Eo B)(C_added:Sf B)(C_lessened:Hn B):Kl B:=cG (N:=["p","move"]) X h bX λnd _ _ _ _ _ _ _ hr=>by unfold Kc;trivial
theorem ab3(h:HF B.K "moved" Jx)(H_simplex:Go B)(C_moved_point:Kl B):Gr B:=cG (N:=["heap","move"]) X h bX λnd _ _ _ _ _ _ _ hr=>by unfold Bg;trivial
theorem aaF(h:HF B.K "sides" Mu):Os B:=cG (N:=["wall"]) X h bX λnd _ _ _ _ _ _ _ hr=>by unfold Rg;trivial
theorem abE(h:HF B.K "along" Hx)(C_lowest_way:Sl B)(H_fraction:Zc B):Se B:=cG (N:=["numbers","bottom","way","place"]) X h bX λnd _ _ _ _ _ _ _ hr=>by unfold zM;trivial
theorem N5(h:HF B.K "side_share" Jm)(C_along:Se B)(C_whole_arrow:xL B):Hc B:=cG (N:=["start","end"]) X h bX λnd _ _ _ _ _ _ _ hr=>by unfold xN;trivial
theorem N9(h:HF B.K "wall_share" Yl)(C_normal:Ie B)(C_whole_arrow:xL B)(C_along:Se B):Ic B:=cG (N:=["wall","first","arrow"]) X h bX λnd _ _ _ _ _ _ _ hr=>by unfold Mc;trivial
theorem Z5(h:HF B.K "summed" Mr)(C_total:Js B):yL B:=cG (N:=["rows","parts","key","share","sums"]) X h bX λnd _ _ _ _ _ _ _ hr=>by unfold Nt xY Hd;trivial
theorem P0(h:HF B.K "all_walls" Um)(C_walls:Du B):xO B:=cG (N:=["heap","found","piece"]) X h bX λnd _ _ _ _ _ _ _ hr=>by unfold Uc;trivial
theorem P6(h:HF B.K "side_sums" Gn)(C_summed:yL B)(C_all_walls:xO B)(C_side_share:Hc B):Zl B:=cG (N:=["heap"]) X h bX λnd _ _ _ _ _ _ _ hr=>by unfold Yc;trivial
theorem O8(h:HF B.K "wall_sums" Sm)(C_summed:yL B)(C_all_walls:xO B)(C_wall_share:Ic B):Fm B:=cG (N:=["heap"]) X h bX λnd _ _ _ _ _ _ _ hr=>by unfold Vc;trivial
theorem O9(h:HF B.K "edge_sums" Xm)(C_all_walls:xO B)(C_wall_share:Ic B)(C_sides:Os B)(C_side_share:Hc B)(C_summed:yL B):Em B:=cG (N:=["heap","rows","wall","plane","start","end","found"]) X h bX λnd _ _ _ _ _ _ _ hr=>by unfold Tc;trivial
theorem adu(h:HF B.K "_law_row" Xz):Jv B:=cG (N:=["_law_script","_law_row_here","_law_k","_law_cell","_law_one","_law_two","_law_three"]) X h bX λnd _ _ _ _ _ _ _ hr=>by unfold Hh;trivial
theorem abr(h:HF B.K "_law_take" Lx):oP B:=cG (N:=["_law_row_here","_law_many","_law_found"]) X h bX λnd _ _ _ _ _ _ _ hr=>by unfold zS;trivial
theorem acp(h:HF B.K "_law_gcd" Nz):Ku B:=cG (N:=["_law_one","_law_other"]) X h bX λnd _ _ _ _ _ _ _ hr=>by unfold Oh;trivial
theorem U8(h:HF B.K "_law_lowest" Kq)(C_wgcd:Ku B):rQ B:=cG (N:=["_law_numbers","_law_by","_law_number"]) X h bX λnd _ _ _ _ _ _ _ hr=>by unfold yF;trivial
theorem W9(h:HF B.K "_law_whole" Zs):Bp B:=cG (N:=["_law_number"]) X h bX λnd _ _ _ _ _ _ _ hr=>by unfold Ff;trivial
theorem T5(h:HF B.K "_law_wholes" Lq)(C_wwhole:Bp B):Jd B:=cG (N:=["_law_told","_law_many"]) X h bX λnd _ _ _ _ _ _ _ hr=>by unfold Ee;trivial
theorem aaI(h:HF B.K "_law_frac" Zu)(C_wlowest:rQ B):Lf B:=cG (N:=["_law_top","_law_bottom"]) X h bX λnd _ _ _ _ _ _ _ hr=>by unfold Ng;trivial
theorem adn(h:HF B.K "_law_sum" Lz)(C_wfrac:Lf B):Nu B:=cG (N:=["_law_one","_law_other"]) X h bX λnd _ _ _ _ _ _ _ hr=>by unfold Gi;trivial
theorem R9(h:HF B.K "_law_joined" Uq)(C_wlowest:rQ B):Ao B:=cG (N:=["_law_p","_law_q","_law_way","_law_far_here"]) X h bX λnd _ _ _ _ _ _ _ hr=>by unfold Me;trivial
theorem adM(h:HF B.K "_law_gap" Vy):Xw B:=cG (N:=["_law_p","_law_q"]) X h bX λnd _ _ _ _ _ _ _ hr=>by unfold Nh;trivial
theorem X6(h:HF B.K "_law_cross" Sr):Oq B:=cG (N:=["_law_u","_law_v","_law_x","_law_y","_law_z"]) X h bX λnd _ _ _ _ _ _ _ hr=>by unfold Te;trivial
theorem acP(h:HF B.K "_law_dot" Ky):Fx B:=cG (N:=["_law_u","_law_v"]) X h bX λnd _ _ _ _ _ _ _ hr=>by unfold Lh;trivial
theorem abu(h:HF B.K "_law_turn" Vu)(C_wdot:Fx B)(C_wcross:Oq B):Ef B:=cG (N:=["_law_ways"]) X h bX λnd _ _ _ _ _ _ _ hr=>by unfold sL;trivial
theorem adQ(h:HF B.K "_law_det" Wy)(C_wturn:Ef B)(C_wgap:Xw B):Vf B:=cG (N:=["_law_points"]) X h bX λnd _ _ _ _ _ _ _ hr=>by unfold Ha;trivial
theorem R3(h:HF B.K "_law_simplex" Vn)(C_wdet:Vf B):Cd B:=cG (N:=["_law_points","_law_told"]) X h bX λnd _ _ _ _ _ _ _ hr=>by unfold xX;trivial
theorem L8(h:HF B.K "_law_point_form" Nl)(C_wwholes:Jd B)(C_wlowest:rQ B):Dl B:=cG (N:=["_law_p","_law_many"]) X h bX λnd _ _ _ _ _ _ _ hr=>by unfold Jc;trivial
theorem K9(h:HF B.K "_law_simplex_form" Al)(C_wpoint_form:Dl B)(C_wdet:Vf B)(C_wsimplex:Cd B):Zk B:=cG (N:=["_law_points","_law_many"]) X h bX λnd _ _ _ _ _ _ _ hr=>by unfold Ec;trivial
theorem N4(h:HF B.K "_law_heap_form" Dm)(C_wsimplex_form:Zk B):Rl B:=cG (N:=["_law_heap","_law_many"]) X h bX λnd _ _ _ _ _ _ _ hr=>by unfold Lc;trivial
theorem O5(h:HF B.K "_law_raw_turn" Rm)(C_wturn:Ef B):Lm B:=cG (N:=["_law_corners"]) X h bX λnd _ _ _ _ _ _ _ hr=>by unfold xQ;trivial
theorem adr(h:HF B.K "_law_raw" Ly)(C_wtake:oP B)(C_wraw_turn:Lm B):Kx B:=cG (N:=["_law_row_here","_law_dims","_law_wide","_law_corners","_law_k"]) X h bX λnd _ _ _ _ _ _ _ hr=>by unfold Uh;trivial
theorem ab9(h:HF B.K "_law_kuhn" Yu)(C_wtake:oP B):Ps B:=mkL (N:=["_law_row_here","_law_rest","_law_corner","_law_corners","_law_k","_law_m"]) X h bX λnd _ _ _ _ _ _ _ hr=>by unfold zR;trivial
theorem O7(h:HF B.K "_law_raw_heap" Zm)(C_wtake:oP B)(C_wraw:Kx B)(C_wkuhn:Ps B):Cm B:=cG (N:=["_law_row_here","_law_dims","_law_many","_law_heap","_law_k","_law_kind"]) X h bX λnd _ _ _ _ _ _ _ hr=>by unfold Xc;trivial
theorem adt(h:HF B.K "_law_far" Ay)(C_wtake:oP B)(C_wlowest:rQ B):Bh B:=cG (N:=["_law_row_here","_law_dims","_law_kind","_law_wide","_law_under","_law_far_here"]) X h bX λnd _ _ _ _ _ _ _ hr=>by unfold Eh;trivial
theorem R6(h:HF B.K "_law_stretch" Rn)(C_wtake:oP B)(C_wfrac:Lf B):Jn B:=cG (N:=["_law_row_here","_law_dims","_law_told","_law_k","_law_kind"]) X h bX λnd _ _ _ _ _ _ _ hr=>by unfold Md;trivial
theorem aaG(h:HF B.K "_law_spot" Uv)(C_wlowest:rQ B):Ds B:=cG (N:=["_law_corner","_law_stretch_here","_law_under","_law_part","_law_far_here"]) X h bX λnd _ _ _ _ _ _ _ hr=>by unfold zU;trivial
theorem aaK(h:HF B.K "_law_laid" Bw)(C_wfar:Bh B)(C_wsimplex:Cd B)(C_wjoined:Ao B)(C_wspot:Ds B):Vr B:=cG (N:=["_law_row_here","_law_heap","_law_stretch_here","_law_told","_law_corners","_law_far_here"]) X h bX λnd _ _ _ _ _ _ _ hr=>by unfold Qg;trivial
theorem T6(h:HF B.K "_law_handed" Cp)(C_wtake:oP B):No B:=cG (N:=["_law_row_here","_law_rows"]) X h bX λnd _ _ _ _ _ _ _ hr=>by unfold yE;trivial
theorem Q7(h:HF B.K "_law_put_sum" Fo)(C_wsum:Nu B):Pm B:=cG (N:=["_law_table","_law_key","_law_part"]) X h bX λnd _ _ _ _ _ _ _ hr=>by unfold uI;trivial
theorem M7(h:HF B.K "_law_told_sums" Hm):Ml B:=cG (N:=["_law_table"]) X h bX λnd _ _ _ _ _ _ _ hr=>by unfold Om rJ xK;trivial
theorem P7(h:HF B.K "_law_wide_far" Qm)(C_wlaid:Vr B)(C_wstretch:Jn B):Gm B:=cG (N:=["_law_row_here","_law_heap"]) X h bX λnd _ _ _ _ _ _ _ hr=>by unfold rO;trivial
theorem M3(h:HF B.K "_law_added_sums" Ll)(C_wput_sum:Pm B)(C_wtold_sums:Ml B):Il B:=cG (N:=["_law_first","_law_second","_law_table","_law_key","_law_part"]) X h bX λnd _ _ _ _ _ _ _ hr=>by unfold Ol xJ Dc;trivial
theorem L4(h:HF B.K "_law_turned_sums" Hl):Bl B:=cG (N:=["_law_told"]) X h bX λnd _ _ _ _ _ _ _ hr=>by unfold Fc;trivial
theorem N8(h:HF B.K "_law_sums_form" Km)(C_wwholes:Jd B):Ql B:=cG (N:=["_law_told","_law_many","_law_row_here"]) X h bX λnd _ _ _ _ _ _ _ hr=>by unfold Nm;trivial
theorem aar(h:HF B.K "_law_asked" Qr)(C_side_sums:Zl B)(C_wall_sums:Fm B)(C_edge_sums:Em B)(C_wsums_form:Ql B):Fp B:=cG (N:=["_law_heap","_law_dims","_law_at","_law_told","_law_many"]) X h bX λnd _ _ _ _ _ _ _ hr=>by unfold uQ;trivial
theorem aen{f:Addr}{fd:cg}(F:jG B.K "law" "law" pA f fd)(C_wrow:Jv B)(C_wtake:oP B)(C_wwide_far:Gm B)(C_wraw_heap:Cm B)(C_moved:Gr B)(H_move:Cv B)(C_wfar:Bh B)(C_whanded:No B)(C_wheap_form:Rl B)(C_wasked:Fp B)(C_wturned_sums:Bl B)(C_wadded_sums:Il B):eO B.P B.w B.K B.mg B.base fR 8 f fd ["_law_script"] (kN B.K B.cl Lj):=mkR (N:=["_law_script","_law_row_here","_law_dims","_law_heap","_law_way","_law_other","_law_at","_law_told","_law_found","_law_both","_law_due"]) F bX λnd _ _ _ _ _ _ _ hr=>by unfold Ui;trivial
end
theorem Qz(i j:Int):fLe (.int i) (.int j)=some (.bl (decide (i<=j))):=rfl
theorem Qx(i j:Int):kS (.int i) (.int j)=some (.bl (decide (i<j))):=rfl
theorem Ig(i j:Int):dY (.int i) (.int j)=some (.int (i-j)):=rfl
theorem Ny(i j:Int):fS (.int i) (.int j)=some (.bl (decide (j<i))):=rfl
theorem Sy(i j:Int):uB (.int i) (.int j)=some (.bl (decide (j<=i))):=rfl
theorem aeC(n:Nat)(a b:Int):bC n (.int a) (.int b)=some (a==b):=by cases n<;>rfl
local macro_rules
 | `(tactic|simp! [$l,*] $[$loc:location]?)=>`(tactic|simp[gW,aH,bW,aO,fM,iA,gC,tI,G5,uA,aC,bG,mR,mN,aB,aA,mC,aD,bQ.bind,tQ,kX,nU,Qa,hU,rd,nW,iC,cE,eF,fG,cF,wV,lA,cO.of,aT,B4,cP,dC,aP,nR,jB,aJ,jQ,qN,pJ,fX,gM,cY,eA,frz,jO,Qz,Qx,Ig,Ny,Sy,bF,aeC,$l,*] $[$loc]?)
 | `(tactic|dsimp! [$l,*] $[$loc:location]?)=>`(tactic|simp[gW,aH,bW,aO,fM,iA,gC,tI,G5,uA,aC,bG,mR,mN,aB,aA,mC,aD,bQ.bind,tQ,kX,nU,Qa,hU,rd,nW,iC,cE,eF,fG,cF,wV,lA,cO.of,aT,B4,cP,dC,aP,nR,jB,aJ,jQ,qN,pJ,fX,gM,cY,eA,frz,jO,Qz,Qx,Ig,Ny,Sy,bF,aE,bC,gH,gG,$(⟨l.elemsAndSeps⟩),*] $[$loc]?)
theorem Bs(S:aF)(k:Nat)(o:SO):(S.set k o).take S.length=S.set k o:=ur 1#d
def fI(S:aF)(k:Nat)(ns:BC):Prop:=S[k]?=some (.lst (ns.map .int))
theorem fI.lt (h:fI S k ns):k<S.length:=(cf.mp h).1
theorem fI.set (h:fI S k ns)(ms:BC):fI (S.set k (.lst (ms.map .int))) k ms:=fz h.lt
theorem Po{r:cR}{k:Nat}{m:AV}:∀(ns:BC)(S:aF),fI S k ns->∃n ns',eX (iA (aO (aC fS (mR cE (aB (aA 0) aD)) 1#e)) (aO (aC cY (aC aE (aA 0) 1#e) 1#e))) (dC (pI (aA 0) (aB 1#e aD))) n (some (.ref k)::some m::r) S=.nx (some (.ref k)::some m::r) (S.set k (.lst (ns'.map .int)))/\ns'.length<=ns.length/\(ns'=[]\/∃i t,ns'=i::t/\i≠0)
 |[],S,h=>by
  refine⟨1,[],?_,aj _,.inl rfl⟩;have h':S[k]?=some (.lst []):=h;have e:S.set k (.lst (([]:BC).map .int))=S:=jg λi=>by
   by_cases q:k=i
   .subst q;rw[fz h.lt,h'];rfl
   .rw[fu q]
  rw[e];simp[eX,iA,aO,aC,mR,aB,aA,mC,aD,bQ.bind,nU,hU,rd,h',iC,cE,kX,fS,i2,lA,cO.of]
 |i::t,S,h=>by
  have h':S[k]?=some (.lst (.int i::t.map .int)):=h
  by_cases hi:i=0
  .subst hi
   have hr:fI (S.set k (.lst (t.map .int))) k t:=h.set t;obtain⟨n,ns',e,l,q⟩:=Po (r:=r) (m:=m) t _ hr;refine⟨n+1,ns',?_,by simp;omega,q⟩;rw[oq]at e;rw[<-e];have hl:(0:Int)<(t.length:Int)+1:=by omega
   simp[eX,iA,aO,aC,mR,aB,aA,mC,aD,bQ.bind,nU,hU,rd,h',iC,cE,kX,fS,i2,lA,cO.of,aE,gH,gG,cY,bC,dC,pI,fY,tD,seqIndex?,hl]
  .refine⟨1,i::t,?_,aj _,.inr ⟨i,t,rfl,hi⟩⟩
   have e:S.set k (.lst ((i::t).map .int))=S:=jg λj=>by
    by_cases q:k=j
    .subst q;rw[fz h.lt,h'];rfl
    .rw[fu q]
   rw[e];have hl:(0:Int)<(t.length:Int)+1:=by omega
   simp[eX,iA,aO,aC,mR,aB,aA,mC,aD,bQ.bind,nU,hU,rd,h',iC,cE,kX,fS,i2,lA,cO.of,aE,gH,gG,cY,bC,hl,hi]
theorem jL{S:aF}{k:Nat}{ns:BC}{m:Int}(h:fI S k ns)(hm:0<m)(b:Bd 8000 m):∃(v:Int)(ns':BC),dX [.ref k,.pv (.int m)] S=.ok (.pv (.int v)) (S.set k (.lst (ns'.map .int)))/\0<=v/\v<m/\ns'.length<=ns.length:=by
 obtain⟨n,ns',e,l,q⟩:=Po (r:=[none]) (m:=.pv (.int m)) ns S h;have hr:=h.set ns';have hl1:(S.set k (.lst (ns'.map .int))).length=S.length:=by simp
 have hss:∀x,(S.set k (.lst (ns'.map .int))).set k x=S.set k x:=λx=>oq ..;generalize hS1:S.set k (.lst (ns'.map .int))=S1 at e hr hl1 hss;have w:=yI e 1#d;rcases q with rfl |⟨i,t,rfl,hi⟩
 .refine⟨0,[],?_,ss 0,hm,dq _⟩
  rw[hS1];have hr':S1[k]?=some (.lst []):=hr;have tk:List.take S.length S1=S1:=ur 1#a;unfold dX aI zS;simp[gW,aH,w,bW,aO,aC,mR,aB,aA,mC,aD,bQ.bind,nU,hU,rd,hr',iC,cE,kX,cY,bC,lA,cO.of,aT,nR,jB,tk]
 .have hr':S1[k]?=some (.lst (.int i::t.map .int)):=hr
  refine⟨i.fmod m,i.fdiv m::t,?_,AK i hm,Int.fmod_lt_of_pos i hm,l⟩;rw[<-hss];have tk:∀x,List.take S.length (S1.set k x)=S1.set k x:=λx=>ur (by simp;omega);have hl:¬((t.length:Int)+1=0):=by omega
  have hq:qT i m:=⟨by omega,b⟩;have hm0:m≠0:=by omega
  unfold dX aI zS;simp[gW,aH,w,bW,aO,aC,mR,aB,aA,mC,aD,bQ.bind,nU,hU,rd,hr',iC,cE,kX,cY,bC,lA,cO.of,aT,nR,jB,tk,cP,hl,aP,gB,hV,i2,cI,aE,gH,gG,hm0,hq,qI,fY,wK]
theorem mM (h:qS i j):aU (.int i) (.int j)=some (.int (i*j)):=by
 simp[aU,i2,cI,h]
theorem nK (h:qT i j):hV (.int i) (.int j)=some (.int (i.fdiv j)):=by
 simp[hV,i2,cI,h]
theorem oQ{i j:Int}(h:j≠0):gB (.int i) (.int j)=some (.int (i.fmod j)):=by
 simp[gB,i2,cI,h]
theorem zT (h:Lb i j):iO (.int i) (.int j)=some (.int (i^j.toNat)):=by
 simp[iO,i2,cI,h]
theorem zP(n:Int)(S:aF):oZ [.pv (.int n)] S=.ok (.pv (.int (sg n))) S:=by
 unfold oZ aI Fi sg
 by_cases h1:0<n
 .simp[gW,aH,bW,aO,aC,aA,mC,bQ.bind,kX,rd,iC,fS,i2,lA,cO.of,aT,nR,jB,h1]
 .by_cases h2:n<0
  .simp[gW,aH,bW,aO,aC,aA,mC,bQ.bind,kX,rd,iC,fS,kS,i2,lA,cO.of,aT,nR,jB,h1,h2,cP,bG,tQ,cF]
  .simp[gW,aH,bW,aO,aC,aA,mC,bQ.bind,kX,rd,iC,fS,kS,i2,lA,cO.of,aT,nR,jB,h1,h2,cP,bG,tQ,cF]
theorem Wl(S:aF):∀(m:Nat)(a b:Int)(x:BN),b.natAbs<=m->∃(n:Nat)(g:Int)(x':BN),eX (aO (aC eA (aA 1) 1#e)) (aH (aP 2 (aC gB (aA 0) (aA 1))) (aH (aP 0 (aA 1)) (aP 1 (aA 2)))) n [some (.pv (.int a)),some (.pv (.int b)),x] S=.nx [some (.pv (.int g)),some (.pv (.int 0)),x'] S/\g.natAbs=ci a b
 |0,a,b,x,h=>by
  have hb:b=0:=by omega
  subst hb;refine⟨1,a,x,?_,by simp⟩;dsimp! [eX]
 |m+1,a,b,x,h=>by
  by_cases hb:b=0
  .subst hb
   refine⟨1,a,x,?_,by simp⟩;dsimp! [eX]
  .have hl:=Kp a hb
   obtain⟨n,g,x',e,q⟩:=Wl S m b (a.fmod b) (some (.pv (.int (a.fmod b)))) 1#a;refine⟨n+1,g,x',?_,by rw[q,Nr]⟩;rw[<-e];dsimp! [eX,oQ hb,hb]
theorem Qn(a b:Int)(S:aF):rT [.pv (.int a),.pv (.int b)] S=.ok (.pv (.int (ci a b:Nat))) S:=by
 obtain⟨n,g,x',e,q⟩:=Wl S b.natAbs a b none (aj _);have w:=yI e 1#d;unfold rT aI Ke;have hg:(if g<0 then-g else g)=((ci a b:Nat):Int):=by rw[<-q];exact Ni g
 dsimp! [w,hg]
theorem Ip(S:aF):∀(m:Nat)(a b:Int),0<=a->0<=b->b.natAbs<=m->∃(n:Nat),eX (aO (aC fS (aA 1) 1#e)) (wT 0 1 (aB (aA 1) (aB (aC gB (aA 0) (aA 1)) aD))) n [some (.pv (.int a)),some (.pv (.int b))] S=.nx [some (.pv (.int (ci a b:Nat))),some (.pv (.int 0))] S
 |0,a,b,ha,hb,h=>by
  have hb:b=0:=by omega
  subst hb;have ea:((ci a 0:Nat):Int)=a:=by simp;omega
  refine⟨1,?_⟩;rw[ea];dsimp! [eX]
 |m+1,a,b,ha,hb,h=>by
  by_cases h0:b=0
  .subst h0
   have ea:((ci a 0:Nat):Int)=a:=by simp;omega
   refine⟨1,?_⟩;rw[ea];dsimp! [eX]
  .have hl:=Kp a h0
   have hp:0<b:=by omega
   obtain⟨n,e⟩:=Ip S m b (a.fmod b) hb (AK a hp) 1#a;refine⟨n+1,?_⟩;rw[<-Nr,<-e];dsimp! [eX,oQ h0,hp,wT]
theorem aeg(a b:Int)(S:aF):vK [.pv (.int a),.pv (.int b)] S=.ok (.pv (.int (ci a b:Nat))) S:=by
 have ha:0<=(if a<0 then-a else a):=by grind
 have hb:0<=(if b<0 then-b else b):=by grind
 obtain⟨n,e⟩:=Ip S _ _ _ ha hb (aj _);have w:=yI e 1#d;have eg:ci (if a<0 then-a else a) (if b<0 then-b else b)=ci a b:=by
  rw[Ni,Ni];simp[ci]
 rw[eg]at w;unfold vK aI Oh;dsimp! [w]
theorem Pf(S:aF)(v2:BN):∀(ns:BC)(g:Int)(a:AV),∃v',dH [] (gN 2) (aP 1 (aJ vK [] (aB (aA 1) (aB (aA 2) aD)))) (ns.map .int) [some a,some (.pv (.int g)),v2] S=.nx [some a,some (.pv (.int (gl ns g))),v'] S
 |[],g,a=>⟨v2,gK⟩
 |n::ns,g,a=>by
  obtain⟨v',e⟩:=Pf S _ ns _ a;refine⟨v',?_⟩;show dH [] _ _ (.int n::ns.map .int) _ S=_;rw[eW];dsimp! [gN,aeg];exact e
theorem yS(S:aF)(g:Int)(hg:g≠0)(b:Bd 8000 g):∀(ns:BC)(x:BN),cH [] (gN 0) (aC hV (aA 0) (aA 1)) (ns.map .int) [x,some (.pv (.int g))] S=.ok ((ns.map λn=>n.fdiv g).map .int) S
 |[],x=>eG
 |n::ns,x=>by
  have ih:=yS S g hg b ns (some (.pv (.int n)));show cH [] _ _ (.int n::ns.map .int) _ S=_;rw[eM];dsimp! [gN,nK (show qT n g from⟨hg,b⟩),ih]
theorem rW(ns:BC)(S:aF)(hb:∀n∈ns,Bd 8000 n):lH [.pv (.lst (ns.map .int))] S=.ok (.pv (.tup ((low ns).map .int))) S:=by
 obtain⟨v',e⟩:=Pf S none ns 0 (.pv (.lst (ns.map .int)));unfold lH aI yF
 by_cases h:gl ns 0=0
 .have el:low ns=ns:=by unfold low;rw[if_pos h]
  dsimp! [cB,aX,bT,e,h,el]
 .have el:low ns=ns.map λn=>n.fdiv (gl ns 0):=by
   unfold low;rw[if_neg h];exact dy λn hn=>(qq ((kF ns 0).2 n hn)).symm
  have bg:Bd 8000 (gl ns 0):=Za (Bd.of (n:=0) 1#d (uu 8000)) hb;have ec:=yS S (gl ns 0) h bg ns none;dsimp! [cB,aX,bT,e,h,el,bA,cC,ec]
theorem abL(n:Int)(S:aF):uO [.pv (.int n)] S=.ok (.pv (.bl true)) S:=by
 unfold uO aI Ff;dsimp! [eY]
theorem En(S:aF):∀(ns:BC)(x:BN),cH [] (gN 0) (aJ uO [] (aB (aA 0) aD)) (ns.map .int) [x] S=.ok (ns.map λ_=>.bl true) S
 |[],x=>eG
 |n::ns,x=>by
  have ih:=En S ns (some (.pv (.int n)));show cH _ _ _ (.int n::ns.map _) _ S=_;rw[eM];dsimp! [gN,abL,ih]
theorem Hu:∀(ns:BC),mT (ns.map λ_=>PV.bl true)=some (ns.map λ_=>true)
 |[]=>rfl
 |n::ns=>by
  show mT (.bl _::ns.map _)=_;unfold mT;rw[Hu _];rfl
theorem Op(ns:BC)(S:aF):iL [.pv (.tup (ns.map .int)),.pv (.int ns.length)] S=.ok (.pv (.bl true)) S:=by
 unfold iL aI Ee;have e:=En S ns none;dsimp! [eY,bA,aX,bT,cC,e,mW,Hu]
theorem Qu:∀(n:Nat)(ns:BC),iW (cr (bC n) (ns.map .int) (ns.map .int))=some (ns.map λ_=>true)
 |n,[]=>rfl
 |n,m::ns=>by
  have ih:=Qu n ns;simp only[au,qx];have e:bC n (.int m) (.int m)=some true:=by cases n<;>simp[bC]
  rw[e];unfold iW;rw[ih]
theorem Zv(n:Nat)(ns:BC):bC (n+1) (.tup (ns.map .int)) (.tup (ns.map .int))=some true:=by
 rw[bC,Qu];simp
theorem U7(ns:BC)(S:aF)(hb:∀n∈ns,Bd 8000 n):lH [.pv (.tup (ns.map .int))] S=.ok (.pv (.tup ((low ns).map .int))) S:=by
 obtain⟨v',e⟩:=Pf S none ns 0 (.pv (.tup (ns.map .int)));unfold lH aI yF
 by_cases h:gl ns 0=0
 .have el:low ns=ns:=by unfold low;rw[if_pos h]
  dsimp! [cB,aX,bT,e,h,el]
 .have el:low ns=ns.map λn=>n.fdiv (gl ns 0):=by
   unfold low;rw[if_neg h];exact dy λn hn=>(qq ((kF ns 0).2 n hn)).symm
  have bg:Bd 8000 (gl ns 0):=Za (Bd.of (n:=0) 1#d (uu 8000)) hb;have ec:=yS S (gl ns 0) h bg ns none;dsimp! [cB,aX,bT,e,h,el,bA,cC,ec]
theorem nV(i:Int){j:Int}(h1:-(2^64)<j)(h2:j<2^64):aU (.int i) (.int j)=some (.int (i*j)):=mM (.inl (.inr ⟨h1,h2⟩))
theorem J9:iO (.int 10) (.int 18)=some (.int 1000000000000000000):=zT ⟨by decide,by decide,by decide⟩
theorem Af{k:Nat}{a:AV}:∀(cs:BC)(n:Nat)(acc:BC)(S:aF)(v2 v3 v4 v5 v6:BN),fI S k acc->acc.length+cs.length<=63->n+cs.length<=63->∃(acc':BC)(w2 w3 w4 w5 w6:BN),dH [] (gT 2 (aZ (gN 2) (aZ (gN 3) cJ))) ((bW (aO (aC uB (aA 3) (aC iO (mC (.int 10)) (mC (.int 18))))) (dC (dQ (aA 1) (aB (aC dY (aA 3) (aC iO (mC (.int 10)) (mC (.int 18)))) aD))) (aH (aP 4 (aC gB (aC aU (aC bF (aC bF (aC bF (aA 3) (aC aU (aC aU (mC (.int 7)) (aA 2)) (aA 2))) (aC aU (mC (.int 13)) (aA 2))) (mC (.int 5))) (mC (.int 48271))) (mC (.int 2147483647))))
 (aH (aP 5 (aC gB (aC aU (aC bF (aC bF (aC bF (aA 3) (aC aU (aC aU (mC (.int 11)) (aA 2)) (aA 2))) (aC aU (mC (.int 17)) (aA 2))) (mC (.int 3))) (mC (.int 40692))) (mC (.int 2147483399))))
 (aH (aP 6 (aC gB (aC aU (aC bF (aC bF (aC bF (aA 3) (aC aU (aC aU (mC (.int 5)) (aA 2)) (aA 2))) (aC aU (mC (.int 29)) (aA 2))) (mC (.int 8))) (mC (.int 39373))) (mC (.int 2147483587))))
 (aH (aP 4 (aC gB (aC aU (aA 4) (mC (.int 52021))) (mC (.int 1000000007))))
 (aH (aP 5 (aC gB (aC aU (aA 5) (mC (.int 30011))) (mC (.int 998244353))))
 (aH (aP 6 (aC gB (aC aU (aA 6) (mC (.int 45989))) (mC (.int 1000000009))))
 (dC (dQ (aA 1) (aB (aC bF (aC aU (aC bF (aC aU (aA 4) (mC (.int 998244353))) (aA 5)) (mC (.int 1000000009))) (aA 6)) aD))))))))))) (kK n (cs.map .int)) [some a,some (.ref k),v2,v3,v4,v5,v6] S=.nx [some a,some (.ref k),w2,w3,w4,w5,w6] (S.set k (.lst (acc'.map .int)))/\acc'.length<=63
 |[],n,acc,S,v2,v3,v4,v5,v6,h,hl,_=>by
  refine⟨acc,v2,v3,v4,v5,v6,?_,by simpa using hl⟩;have e:S.set k (.lst (acc.map .int))=S:=jg λj=>by
   by_cases q:k=j
   .subst q;rw[fz h.lt];exact h.symm
   .rw[fu q]
  rw[e];exact gK
 |x::cs,n,acc,S,v2,v3,v4,v5,v6,h,hl,hn=>by
  simp only[cu]at hl hn;have h':S[k]?=some (.lst (acc.map .int)):=h;have hlen:acc.length<16777216:=by omega
  have hk1:-(2^64)<(n:Int):=by omega
  have hk2:(n:Int)<2^64:=by omega
  by_cases c:(1000000000000000000:Int)<=x
  .obtain⟨acc',w2,w3,w4,w5,w6,e,q⟩:=Af (k:=k) (a:=a) cs (n+1) (acc++[x-1000000000000000000]) (S.set k (.lst ((acc++[x-1000000000000000000]).map .int))) (some (.pv (.int n))) (some (.pv (.int x))) v4 v5 v6 (h.set _) (by simp;omega) 1#a
   refine⟨acc',w2,w3,w4,w5,w6,?_,q⟩;rw[oq]at e;rw[<-e];show dH [] _ _ (.tup [.int n,.int x]::kK (n+1) (cs.map .int)) _ S=_;rw[eW];dsimp! [gT,aZ,cJ,gN,J9,c,dQ,fY,jP,h',hlen]
  .obtain⟨acc',w2,w3,w4,w5,w6,e,q⟩:=Af (k:=k) (a:=a) cs (n+1) (acc++[((((x+7*n*n+13*n+5)*48271).fmod 2147483647*52021).fmod 1000000007*998244353+(((x+11*n*n+17*n+3)*40692).fmod 2147483399*30011).fmod 998244353)*1000000009+(((x+5*n*n+29*n+8)*39373).fmod 2147483587*45989).fmod 1000000009]) _ (some (.pv (.int n))) (some (.pv (.int x))) (some (.pv (.int ((((x+7*n*n+13*n+5)*48271).fmod 2147483647*52021).fmod 1000000007)))) (some (.pv (.int ((((x+11*n*n+17*n+3)*40692).fmod 2147483399*30011).fmod 998244353)))) (some (.pv (.int ((((x+5*n*n+29*n+8)*39373).fmod 2147483587*45989).fmod 1000000009)))) (h.set _) (by simp;omega) 1#a
   refine⟨acc',w2,w3,w4,w5,w6,?_,q⟩;rw[oq]at e;rw[<-e];show dH [] _ _ (.tup [.int n,.int x]::kK (n+1) (cs.map .int)) _ S=_;rw[eW];dsimp! [gT,aZ,cJ,gN,J9,c,dQ,fY,jP,h',hlen,nV _ hk1 hk2,nV _ (show-(2^64)<(48271:Int) by decide) 1#b,nV _ (show-(2^64)<(40692:Int) by decide) 1#b,nV _ (show-(2^64)<(39373:Int) by decide) 1#b,nV _ (show-(2^64)<(52021:Int) by decide) 1#b,nV _ (show-(2^64)<(30011:Int) by decide) 1#b,nV _ (show-(2^64)<(45989:Int) by decide) 1#b,nV _ (show-(2^64)<(998244353:Int) by decide) 1#b,nV _ (show-(2^64)<(1000000009:Int) by decide) 1#b,oQ (show(2147483647:Int)≠0 by decide),oQ (show(2147483399:Int)≠0 by decide),oQ (show(2147483587:Int)≠0 by decide),oQ (show(1000000007:Int)≠0 by decide),oQ (show(998244353:Int)≠0 by decide),oQ (show(1000000009:Int)≠0 by decide)]
theorem afN(ns:BC)(S:aF)(h:ns.length<=63):∃ms:BC,sR [.pv (.lst (ns.map .int))] S=.ok (.ref S.length) (S++[.lst (ms.map .int)])/\ms.length<=63:=by
 have hr:fI (S++[.lst []]) S.length []:=by unfold fI;simp
 obtain⟨ms,w2,w3,w4,w5,w6,e,q⟩:=Af (a:=.pv (.lst (ns.map .int))) ns 0 [] (S++[.lst []]) none none none none none hr (by simpa using h) (by simpa using h);have ec:mX (ns.map .int) none (some 63)=ns.map .int:=by
  unfold mX;have e1:HT.sIx (ns.map PV.int).length 0 none=0:=rfl;have e2:HT.sIx (ns.map PV.int).length (ns.map PV.int).length (some 63)=(ns.map PV.int).length:=by
   have:=HT.sIx_nat (ns.map PV.int).length (ns.map PV.int).length 63;rw[show((63:Nat):Int)=63 from rfl]at this;rw[this,ak];omega
  rw[e1,e2,List.drop_zero,Nat.sub_zero,yi]
 refine⟨ms,?_,q⟩;have es:(S++[SO.lst []]).set S.length (.lst (ms.map .int))=S++[.lst (ms.map .int)]:=by simp
 rw[es]at e;unfold sR aI Hh;dsimp! [cB,fV,lM,Wa,dW,dF,dN,gO,lC,Mi,ec,e]
theorem acA (h:gl L 0≠0):(low L).map (gl L 0*·)=L:=by
 unfold low;rw[if_neg h,cj]
 conv=>rhs;rw[<-List.map_id L]
 refine dy λn hn=>?_;exact Int.mul_ediv_cancel' ((kF L 0).2 n hn)
theorem ads (h:gl L 0=1):low L=L:=by
 unfold low
 simp_all
def PT(L:BC)(b:Int):BC:=(low (L++[b])).map (sg b*·)
theorem ahG {b:Int}(hb:b≠0):gl (L++[b]) 0≠0:=tO (nJ L b) hb
theorem afb {b:Int}(hb:0<b):PT L b=low (L++[b]):=by
 unfold PT sg
 simp_all
theorem Us(S:aF)(v2:BN):∀(ns:BC)(g:Int)(a:AV),∃v',dH [] (gN 2) (aP 1 (aJ rT [] (aB (aA 1) (aB (aA 2) aD)))) (ns.map .int) [some a,some (.pv (.int g)),v2] S=.nx [some a,some (.pv (.int (gl ns g))),v'] S
 |[],g,a=>⟨v2,gK⟩
 |n::ns,g,a=>by
  obtain⟨v',e⟩:=Us S _ _ _ a;refine⟨v',?_⟩;show dH _ _ _ (.int n::ns.map _) _ S=_;rw[eW];dsimp! [gN,Qn];exact e
theorem Qo(ns:BC)(S:aF)(hb:∀n∈ns,Bd 8000 n)(h:gl ns 0≠0):uM [.pv (.lst (ns.map .int))] S=.ok (.pv (.lst ((low ns).map .int))) S:=by
 obtain⟨v',e⟩:=Us S none ns 0 (.pv (.lst (ns.map .int)));have el:low ns=ns.map λn=>n.fdiv (gl ns 0):=by
  unfold low;rw[if_neg h];exact dy λn hn=>(qq ((kF ns 0).2 n hn)).symm
 have bg:Bd 8000 (gl ns 0):=Za (Bd.of 1#d (uu 8000)) hb;have ec:=yS S (gl ns 0) h bg ns none;unfold uM aI Be;dsimp! [cB,aX,bT,e,h,el,bA,cC,ec]
theorem Ye(S:aF)(b:Int):∀(ns:BC)(x:BN),cH [] (gN 0) (aC aU (aJ oZ [] (aB (aA 1) aD)) (aA 0)) (ns.map .int) [x,some (.pv (.int b))] S=.ok ((ns.map (sg b*·)).map .int) S
 |[],x=>eG
 |n::ns,x=>by
  have ih:=Ye S b ns (some (.pv (.int n)));have hm:aU _ (.int n)=some _:=mM (.inl (.inl (aaL b)));show cH _ _ _ (.int n::ns.map _) _ S=_;rw[eM];dsimp! [gN,zP,hm,ih]
theorem ab2 (L:BC)(b:Int)(S:aF)(hw:w=.lst (L.map .int)\/w=.tup (L.map .int))(hL:∀n∈L,Bd 8000 n)(bb:Bd 8000 b)(hb:b≠0)(hl:L.length<=100):uY [.pv w,.pv (.int b)] S=.ok (.pv (.tup ((PT L b).map .int))) S:=by
 have e1:=Qo (L++[b]) S (λn hn=>by
  grind) (ahG hb)
 have e2:=Ye S b (low (L++[b])) none;have hz:L.length+1<=16777216:=by omega
 simp only[cw,au,da]at e1;unfold PT uY aI Pg;rcases hw with rfl |rfl<;>dsimp! [hb,hz,e1,aX,bT,bA,cC,e2]
theorem abf(zs:BC)(z:Int):mX ((zs++[z]).map .int) none (some (-1))=zs.map .int:=by
 unfold mX;have e1:HT.sIx ((zs++[z]).map PV.int).length 0 none=0:=rfl;have e2:HT.sIx ((zs++[z]).map PV.int).length ((zs++[z]).map PV.int).length (some (-1))=zs.length:=by
  rw[ak,ax];exact Bf _ _
 rw[e1,e2];simp
theorem X8(zs:BC)(z:Int):¬(HT.sIx ((zs++[z]).map PV.int).length 0 none=0/\HT.sIx ((zs++[z]).map PV.int).length ((zs++[z]).map PV.int).length (some (-1))=((zs++[z]).map PV.int).length):=by
 rintro⟨_,e⟩
 have e2:HT.sIx ((zs++[z]).map PV.int).length ((zs++[z]).map PV.int).length (some (-1))=zs.length:=by
  rw[ak,ax];exact Bf _ _
 rw[e2,ak]at e;simp at e
theorem uR(zs:BC)(z:Int):lC (.tup ((zs++[z]).map .int)) none (some (-1))=some (.tup (zs.map .int)):=by
 unfold lC;dsimp only;rw[if_neg (X8 _ z),abf]
theorem mK(zs:BC)(z:Int):aE (.tup ((zs++[z]).map .int)) (.int (-1))=some (.int z):=by
 rw[cw];exact aaM _ _
theorem lE (h0:0<=m)(h:m<1024):Bd 8000 m:=Bd.of 1#a (du (show 1023<2^10 by decide) (sr 1#b 1#b))
theorem mB (h:Bd 2000 a)(g:Bd 2000 b):aU (.int a) (.int b)=some (.int (a*b)):=mM (.inr ⟨h.mono 1#b,g.mono 1#b⟩)
structure Pt(n:Nat)(xs:BC)(w:Int):Prop where
 len:xs.length=n
 pos:0<w
 low:low (xs++[w])=xs++[w]
 bx:∀x∈xs,Bd 300 x
 bw:Bd 300 w
theorem Ls(S:aF)(PL QL:BK)(w v:Int)(hp:aE (.tup PL) (.int (-1))=some (.int w))(hq:aE (.tup QL) (.int (-1))=some (.int v))(bw:Bd 2000 w)(bv:Bd 2000 v):∀(xs ys:BC)(x y:BN),xs.length=ys.length->(∀x∈xs,Bd 2000 x)->(∀y∈ys,Bd 2000 y)->
  cH [] (gT 2 (aZ (gN 0) (aZ (gN 1) cJ))) (aC bF (aC aU (aA 0) (aC aE (aA 2) (bG cF 1#c))) (aC aU (aA 1) (aC aE (aA 3) (bG cF 1#c)))) (gR (xs.map .int) (ys.map .int)) [x,y,some (.pv (.tup QL)),some (.pv (.tup PL))] S=.ok ((sm xs w ys v).map .int) S
 |[],ys,x,y,hl,_,_=>by
  exact eG
 |a::xs,[],x,y,hl,_,_=>by cases hl
 |a::xs,b::ys,x,y,hl,hx,hy=>by
  have ih:=Ls S PL QL w v hp hq bw bv xs ys (some (.pv (.int a))) (some (.pv (.int b))) (by simpa using hl) (λm hm=>hx m (bh _ hm)) (λm hm=>hy m (bh _ hm));have m1:=mB (hx a av) bv;have m2:=mB (hy b av) bw;show cH [] _ _ (.tup _::gR _ _) _ S=_;rw[eM];simp! [gT,aZ,cJ,gN,hp,hq,m1,m2,ih,sm]
theorem agL {k:Nat}(hx:∀x∈xs,Bd k x)(hy:∀y∈ys,Bd k y)(hw:Bd k w)(hv:Bd k v):∀n∈sm xs w ys v,Bd (k+k+1) n:=λn hn=>by
 unfold sm at hn;obtain⟨i,hi,e⟩:=oh hn;rw[zb]at e;rw[<-e];exact((hx _ (jf _)).mul hv).add ((hy _ (jf _)).mul hw)
theorem Ft {w v:Int}(S:aF)(hl:xs.length=ys.length)(h9:xs.length<=9)(hw:0<w)(hv:0<v)(hx:∀x∈xs,Bd 2000 x)(hy:∀y∈ys,Bd 2000 y)(bw:Bd 2000 w)(bv:Bd 2000 v):
  uV [.pv (.tup ((xs++[w]).map .int)),.pv (.tup ((ys++[v]).map .int))] S=.ok (.pv (.tup ((low (sm xs w ys v++[w*v])).map .int))) S:=by
 have ip:=mK xs w;have iq:=mK ys v;have sp:=uR xs w;have sq:=uR ys v;have ec:=Ls S _ _ w v ip iq bw bv xs ys none none hl hx hy;have mm:=mB bw bv;have hp:=bf hw hv;have ep:=ab2 (sm xs w ys v) (w*v) S (.inl rfl) (λn hn=>(agL hx hy bw bv n hn).mono 1#b) ((bw.mul bv).mono 1#b) 1#a (by rw[aeT hl];omega);rw[afb hp]at ep;generalize (xs++[w]).map PV.int=PL at ip sp ec;generalize (ys++[v]).map PV.int=QL at iq sq ec;unfold uV aI Lg;simp! [bA,iB,lN,bT,dW,dF,dN,gO,sp,sq,cC,ec,ip,iq,mm,ep]
theorem Et(S:aF):∀(ns:BC)(x:BN),cH [] (gN 0) (bG cF (aA 0)) (ns.map .int) [x] S=.ok ((ns.map (- ·)).map .int) S
 |[],x=>eG
 |n::ns,x=>by
  have ih:=Et S ns (some (.pv (.int n)));show cH _ _ _ (.int n::ns.map _) _ S=_;rw[eM];dsimp! [gN,ih]
theorem aau(xs:BC)(w:Int)(S:aF)(h9:xs.length<=9):zA [.pv (.tup ((xs++[w]).map .int))] S=.ok (.pv (.tup ((xs.map (- ·)++[w]).map .int))) S:=by
 have ip:=mK xs w;have sp:=uR xs w;have ec:=Et S xs none;have hz:xs.length+1<=16777216:=by omega
 generalize (xs++[w]).map PV.int=PL at ip sp;unfold zA aI Jf;simp! [bA,aX,bT,dW,dF,dN,gO,sp,cC,ec,ip,hz]
theorem Q4 {w v:Int}(S:aF)(hl:xs.length=ys.length)(h9:xs.length<=9)(hw:0<w)(hv:0<v)(hx:∀x∈xs,Bd 2000 x)(hy:∀y∈ys,Bd 2000 y)(bw:Bd 2000 w)(bv:Bd 2000 v):
  xV [.pv (.tup ((xs++[w]).map .int)),.pv (.tup ((ys++[v]).map .int))] S=.ok (.pv (.tup ((low (sm xs w (ys.map (- ·)) v++[w*v])).map .int))) S:=by
 have e1:=aau ys v S 1#a;have e2:=Ft (ys:=ys.map _) S (by simp_all) h9 hw hv hx (λn hn=>by
  obtain⟨m,hm,rfl⟩:=ca.mp hn;exact(hy m hm).neg) bw bv
 generalize (xs++[w]).map _=PL at e2;generalize (ys++[v]).map _=QL at e1;generalize (ys.map _++[v]).map _=RL at e1 e2;unfold xV aI Kd;dsimp! [e1,e2]
theorem Rv(way:Int)(a:PV)(S:aF):yM [.pv (.tup [.int way,a])] S=.ok (.pv (.bl (way==1))) S:=by
 unfold yM aI Le;dsimp! [bF]
def mv(way:Int)(xs:BC)(w:Int)(ys:BC)(v:Int):BC:=if way=1 then low (sm xs w ys v++[w*v])else low (sm ys v (xs.map (- ·)) w++[v*w])
theorem aaH {w v:Int}(way:Int)(S:aF)(hl:xs.length=ys.length)(h9:xs.length<=9)(hw:0<w)(hv:0<v)(hx:∀x∈xs,Bd 2000 x)(hy:∀y∈ys,Bd 2000 y)(bw:Bd 2000 w)(bv:Bd 2000 v):
  oG [.pv (.tup ((xs++[w]).map .int)),.pv (.tup [.int way,.tup ((ys++[v]).map .int)])] S=.ok (.pv (.tup ((mv way xs w ys v).map .int))) S:=by
 have e1:=Ft S hl h9 hw hv hx hy bw bv;have e2:=Q4 S hl.symm 1#a hv hw hy hx bv bw;generalize (xs++[w]).map PV.int=PL at e1 e2;generalize (ys++[v]).map PV.int=QL at e1 e2;unfold mv oG aI Kc
 by_cases h:way=1
 .dsimp! [Rv,h,e1]
 .dsimp! [Rv,h,e2]
theorem Ga(zs:BC)(z:Int)(j:Nat)(h:j<zs.length):aE (.tup ((zs++[z]).map .int)) (.int (j:Nat))=some (.int (zs.getD j 0)):=by
 refine jK ?_;rw[aw,fw h]
 simp_all
theorem Kw(S:aF)(PL QL:BK)(xs ys:BC)(w v way:Int)(hp:aE (.tup PL) (.int (-1))=some (.int w))(hq:aE (.tup QL) (.int (-1))=some (.int v))(hpj:∀j:Nat,j<xs.length->aE (.tup PL) (.int (j:Nat))=some (.int (xs.getD j 0)))(hqj:∀j:Nat,j<xs.length->aE (.tup QL) (.int (j:Nat))=some (.int (ys.getD j 0)))
  (hway:way=1\/way=-1)(bw:Bd 1000 w)(bv:Bd 1000 v)(hx:∀j,Bd 1000 (xs.getD j 0))(hy:∀j,Bd 1000 (ys.getD j 0)):∀(js:List Nat)(x:BN),(∀j∈js,j<xs.length)->
  cH [] (gN 0) (aC bF (aC aU (aC aU (aA 1) (aC aE (aA 3) (aA 0))) (aC aE (aA 2) (bG cF 1#c))) (aC aU (aC aE (aA 2) (aA 0)) (aC aE (aA 3) (bG cF 1#c)))) (js.map λj=>.int (0+(j:Nat))) [x,some (.pv (.int way)),some (.pv (.tup QL)),some (.pv (.tup PL))] S=.ok ((js.map λj=>way*xs.getD j 0*v+ys.getD j 0*w).map .int) S
 |[],x,_=>eG
 |j::js,x,h=>by
  have ih:=Kw S PL QL xs ys w v way hp hq hpj hqj hway bw bv hx hy js (some (.pv (.int (0+j)))) λi hi=>h i (bh _ hi);have e1:=hpj j (h j av);have e2:=hqj j (h j av);have b1:Bd 2 way:=by rcases hway with rfl |rfl<;>exact Bd.of (n:=1) 1#b 1#b
  have m0:=mB (b1.mono (show 2<=2000 by decide)) ((hx j).mono (show 1000<=2000 by decide));have m1:=mB ((b1.mul (hx j)).mono 1#b) (bv.mono (show 1000<=2000 by decide));have m2:=mB ((hy j).mono (show 1000<=2000 by decide)) (bw.mono (show 1000<=2000 by decide));show cH [] _ _ (.int (0+j)::js.map _) _ S=_;rw[eM];simp only[Int.zero_add]at ih⊢;generalize hX:xs.getD j 0=X at e1 m0 m1;generalize hY:ys.getD j 0=Y at e2 m2;simp! [gN,e1,e2,hp,hq,m0,m1,m2,ih];simp only[AL]at hX hY;rw[hX,hY]
theorem zO{xs:BC}{k:Nat}(h:∀x∈xs,Bd k x)(j:Nat):Bd k (xs.getD j 0):=by
 by_cases hj:j<xs.length
 .simp_all
 .have e:xs.getD j 0=0:=by simp_all
  rw[e];exact Bd.of 1#b (uu k)
theorem Dq (hl:xs.length=ys.length)(f:Int->Int->Int):(ck xs.length).map (λj=>f (xs.getD j 0) (ys.getD j 0))=cr f xs ys:=by
 refine uc (by simp[hl]) λi h1 h2=>?_;have hi:=by simpa using h1
 simp_all
theorem Z7{xs ys:BC}{w v way:Int}(S:aF)(hl:xs.length=ys.length)(h9:xs.length<=9)(hway:way=1\/way=-1)(hx:∀x∈xs,Bd 1000 x)(hy:∀y∈ys,Bd 1000 y)(bw:Bd 1000 w)(bv:Bd 1000 v):
  oM [.pv (.tup ((xs++[w]).map .int)),.pv (.tup ((ys++[v]).map .int)),.pv (.int way)] S=.ok (.pv (.tup ((low (cr (λx y=>way*x*v+y*w) xs ys++[w*v])).map .int))) S:=by
 have ip:=mK xs w;have iq:=mK ys v;have ec:=Kw S _ _ xs ys w v way ip iq (λj h=>Ga xs w j h) (λj h=>Ga ys v j 1#a) hway bw bv (zO hx) (zO hy) (ck xs.length) none λj hj=>by simpa using hj
 have er:=Dq hl λx y=>way*x*v+y*w;rw[er]at ec;have mm:=mB (bw.mono (show 1000<=2000 by decide)) (bv.mono (show 1000<=2000 by decide));have b1:Bd 2 way:=by rcases hway with rfl |rfl<;>exact Bd.of (n:=1) 1#b 1#b
 have el:=rW (cr (λx y=>way*x*v+y*w) xs ys++[w*v]) S (λn hn=>by
  rcases ce.mp hn with z |z
  .obtain⟨i,hi,e⟩:=oh z
   rw[zb]at e;rw[<-e];exact((((b1.mul (hx _ (jf _))).mul bv).mono (show 2+1000+1000<=3000 by decide)).add (((hy _ (jf _)).mul bw).mono (show 1000+1000<=3000 by decide))).mono 1#b
  .have:n=w*v:=by simpa using z
   rw[this];exact(bw.mul bv).mono 1#b)
 have hlen:((xs++[w]).map PV.int).length=xs.length+1:=by simp
 have hz:xs.length+1<=16777216:=by omega
 have hr:iX [.pv (.int (((xs.length+1:Nat):Int)-1))] S=.ok ((ck xs.length).map λj=>.int (0+(j:Nat)),[]) S:=by
  unfold iX;dsimp only;rw[if_pos ⟨by omega,by omega⟩];have:(((xs.length+1:Nat):Int)-1).toNat=xs.length:=by omega
  rw[this];rfl
 have hzl:(cr (λx y=>way*x*v+y*w) xs ys).length+1<=16777216:=by rw[la];omega
 simp only[cw,au,da]at el;generalize hZ:(cr (λx y=>way*x*v+y*w) xs ys).map PV.int=ZL at ec el;have hzl2:ZL.length+1<=16777216:=by rw[<-hZ,ak];exact hzl
 generalize (ck xs.length).map (λj=>PV.int (0+(j:Nat)))=RL at ec hr;generalize hP:(xs++[w]).map PV.int=PL at ip ec hlen;generalize (ys++[v]).map PV.int=QL at iq ec;unfold oM aI Me;have hr2:=hr;rw[<-hlen]at hr2;simp! [bA,dG,hr2,cC,ec,ip,iq,mm,hzl2,el]
theorem Kt{k:Nat}{W:Int}(W0:0<=W)(W1:W<=1000000000000):∀(is:BK)(S:aF)(ns:BC)(x:BN),fI S k ns->∃(xs ns':BC),cH [] (gN 0) (aC dY (aJ dX [] (aB (aA 2) (aB (aC bF (aC aU (mC (.int 2)) (aA 1)) 1#c) aD))) (aA 1)) is [x,some (.pv (.int W)),some (.ref k)] S=.ok (xs.map .int) (S.set k (.lst (ns'.map .int)))/\xs.length=is.length/\∀n∈xs,Bd 50 n
 |[],S,ns,x,h=>by
  refine⟨[],ns,?_,rfl,λ_ h=>absurd h fm⟩;have e:S.set k (.lst (ns.map .int))=S:=jg λj=>by
   by_cases q:k=j
   .subst q;rw[fz h.lt];exact h.symm
   .rw[fu q]
  rw[e];exact eG
 |i::is,S,ns,x,h=>by
  obtain⟨t,n1,e1,t0,t1,_⟩:=jL (m:=2*W+1) h 1#a ((Bd.of (k:=50) (n:=2000000000001) 1#a 1#b).mono 1#b);obtain⟨xs,n2,e2,l2,b2⟩:=Kt W0 W1 is _ n1 (some (.pv i)) (h.set n1);have m2:aU (.int 2) (.int W)=some (.int (2*W)):=mM (.inl (.inl ⟨by decide,by decide⟩));refine⟨(t-W)::xs,n2,?_,by simp[l2],λn hn=>?_⟩
  .rw[eM]
   dsimp! [gN,m2,e1,e2]
  .rcases br.mp hn with rfl |hn
   .exact Bd.of (n:=1000000000000) 1#a 1#b
   .exact b2 n hn
theorem af8 (h0:0<=v)(h1:v<4):∃M:Int,aE (.lst [.int 0,.int 3,.int 9,.int 1000000000000]) (.int v)=some (.int M)/\0<=M/\M<=1000000000000:=by
 have c:v=0\/v=1\/v=2\/v=3:=by omega
 rcases c with rfl |rfl |rfl |rfl
 .exact⟨0,rfl,by decide,by decide⟩
 .exact⟨3,rfl,by decide,by decide⟩
 .exact⟨9,rfl,by decide,by decide⟩
 .exact⟨1000000000000,rfl,by decide,by decide⟩
theorem p12:iO (.int 10) (.int 12)=some (.int 1000000000000):=zT ⟨by decide,by decide,by decide⟩
theorem agu{v:Int}(h0:0<=v)(h1:v<4):0<=v.fdiv 2/\v.fdiv 2<=1:=by grind
theorem afO {L:BC}{b:Int}(hb:0<b)(hl:L.length=n)(hk:k<=300)(hL:∀x∈L,Bd k x)(bb:Bd k b):∃(zs:BC)(z:Int),low (L++[b])=zs++[z]/\Pt n zs z/\(∀x∈zs,Bd k x)/\Bd k z:=by
 obtain⟨zs,z,g,e,hg,hz,_,_,hzl⟩:=Ma L hb;have hbd:=Na (ns:=L++[b]) λm hm=>by
  rcases ce.mp hm with y |y
  .exact hL m y
  .have:=by simpa using y
   rw[this];exact bb
 have hlow:=Og L hb;rw[e]at hbd hlow;have b1:=λx hx=>hbd x (lj _ hx);have b2:=hbd z (nJ _ z);exact⟨zs,z,e,⟨hzl.trans hl,hz,hlow,λx hx=>(b1 x hx).mono hk,b2.mono hk⟩,b1,b2⟩
theorem afc{S:aF}{k:Nat}{ns:BC}(n:Nat)(hn:n=2\/n=3)(h:fI S k ns):∃(xs:BC)(w:Int)(ns':BC),lK [.ref k,.pv (.int n)] S=.ok (.pv (.tup ((xs++[w]).map .int))) (S.set k (.lst (ns'.map .int)))/\Pt n xs w/\(∀x∈xs,Bd 100 x)/\Bd 100 w:=by
 obtain⟨c,n1,e1,c0,c1,_⟩:=jL (m:=4) h 1#b (lE 1#b 1#b);obtain⟨M,em,M0,M1⟩:=af8 c0 c1;obtain⟨t,n2,e2,t0,t1,_⟩:=jL (m:=9) (h.set n1) 1#b (lE 1#b 1#b);rw[oq]at e2;obtain⟨xs,n3,e3,l3,b3⟩:=Kt M0 M1 (dS 0 n) _ n2 none (h.set n2);rw[oq]at e3;have hc:=agu c0 c1;have mt:aU (.int t) (.int (c.fdiv 2))=some (.int (t*c.fdiv 2)):=mM (.inl (.inl ⟨by omega,by omega⟩));have qt:hV (.int c) (.int 2)=some (.int (c.fdiv 2)):=nK ⟨by decide,lE 1#b 1#b⟩;have hm:0<=t*c.fdiv 2/\t*c.fdiv 2<=8:=by
  grind
 have lx:xs.length=n:=by rw[l3];unfold dS;simp
 generalize t*c.fdiv 2=tc at mt hm;obtain⟨zs,z,ez,P,b1,b2⟩:=afO (n:=n) (k:=100) (L:=xs) (b:=1+tc) 1#a lx 1#b (λx hx=>(b3 x hx).mono 1#b) (Bd.of (n:=9) 1#a 1#b);have el:=rW (xs++[1+tc]) (S.set k (.lst (n3.map .int))) (λm hm=>by
  rcases ce.mp hm with y |y
  .exact(b3 m y).mono 1#b
  .have:m=1+tc:=by simpa using y
   rw[this];exact(Bd.of (k:=4) (n:=9) 1#a 1#b).mono 1#b)
 rw[ez]at el;refine⟨zs,z,n3,?_,P,b1,b2⟩;have tk3:=Bs S k (.lst (n3.map .int));have hz:xs.length+1<=16777216:=by omega
 generalize S.set k (.lst (n2.map .int))=S2 at e2 e3;have hr:iX [.pv (.int (n:Int))] S2=.ok (dS 0 n,[]) S2:=by
  unfold iX;dsimp only;rw[if_pos ⟨by omega,by omega⟩];rfl
 conv at el=>lhs;rw[cw]
 simp only[au,da]at el;generalize (zs++[z]).map PV.int=ZL at el;unfold lK aI Eh;simp! [p12,e1,em,e2,mt,qt,bA,dG,hr,cC,e3,hz,el,tk3]
theorem Zo (h:way=1\/way=-1)(xs:BC)(w:Int)(ys:BC)(v:Int):low (cr (λx y=>way*x*v+y*w) xs ys++[w*v])=mv way xs w ys v:=by
 unfold mv;rcases h with rfl |rfl
 .rw[if_pos rfl,V9]
 .rw[if_neg 1#b,R4,fe w v]
structure Pq(n k:Nat)(xs:BC)(w:Int):Prop where
 len:xs.length=n
 pos:0<w
 low:low (xs++[w])=xs++[w]
 bx:∀x∈xs,Bd k x
 bw:Bd k w
def Vl(n:Nat)(xs:BC)(w:Int)(N:Nat->Int)(D:Int):Prop:=∀j,j<n->xs.getD j 0*D=N j*w
theorem Vl.self(n:Nat)(xs:BC)(w:Int):Vl n xs w (λj=>xs.getD j 0) w:=λ_ _=>rfl
theorem zZ{a b c:Int}(h:0<c)(e:a*c=b*c):a=b:=AM 1#a e
theorem acm {f:Int->Int->Int}{j:Nat}(h1:j<xs.length)(h2:j<ys.length):(cr f xs ys).getD j 0=f (xs.getD j 0) (ys.getD j 0):=by
 have:j<(cr f xs ys).length:=by grind
 simp_all
theorem af6{n k l:Nat}{way:Int}{xs ys:BC}{w v:Int}(hway:way=1\/way=-1)(P:Pq n k xs w)(Q:Pq n l ys v):∃(zs:BC)(z:Int),mv way xs w ys v=zs++[z]/\Pq n (k+l+1) zs z/\
  ∀(N M:Nat->Int)(D E:Int),Vl n xs w N D->Vl n ys v M E->0<D->0<E->Vl n zs z (λj=>way*N j*E+M j*D) (D*E):=by
 rw[<-Zo hway];have hb:=bf P.pos Q.pos;have hl:(cr (λx y=>way*x*v+y*w) xs ys).length=n:=by rw[la,P.len,Q.len];omega
 obtain⟨zs,z,g,e,hg,hz,g1,g2,hzl⟩:=Ma (cr (λx y=>way*x*v+y*w) xs ys) hb;have hlow:=Og (cr (λx y=>way*x*v+y*w) xs ys) hb;have hbd:=Na (k:=k+l+1) (ns:=cr (λx y=>way*x*v+y*w) xs ys++[w*v]) λm hm=>by
  rcases ce.mp hm with y |y
  .obtain⟨i,hi,e⟩:=oh y
   rw[zb]at e;rw[<-e];have b1:=(P.bx _ (jf (l:=xs) (n:=i) (by rw[la]at hi;omega))).mul Q.bw;have b2:=(Q.bx _ (jf (l:=ys) (n:=i) (by rw[la]at hi;omega))).mul P.bw;have b3:Bd (k+l) (way*xs[i]'(by rw[la]at hi;omega)*v):=by
    rcases hway with rfl |rfl
    .rw[gh];exact b1
    .have:(-1:Int)*xs[i]'(by rw[la]at hi;omega)*v=-(xs[i]'(by rw[la]at hi;omega)*v):=by rw[kz,gh,kz]
     rw[this];exact b1.neg
   exact b3.add (b2.mono 1#a)
  .have:m=w*v:=by simpa using y
   rw[this];exact(P.bw.mul Q.bw).mono 1#a
 rw[e]at hbd hlow;refine⟨zs,z,e,⟨hzl.trans hl,hz,hlow,λx hx=>hbd x (lj _ hx),hbd z (nJ zs z)⟩,λN M D E a b hD hE j hj=>?_⟩;have h1:(cr (λx y=>way*x*v+y*w) xs ys).getD j 0=g*zs.getD j 0:=by
  rw[g1];have:j<zs.length:=by rw[hzl,hl];exact hj
  simp[dj,this]
 rw[acm (by rw[P.len];exact hj) (by rw[Q.len];exact hj)]at h1;have a1:=a j hj;have b1:=b j hj;refine zZ (c:=g*(w*v)) (bf hg hb) ?_;grind
theorem Pt.pq {xs:BC}{w:Int}(P:Pt n xs w)(b:∀x∈xs,Bd k x)(bw:Bd k w):Pq n k xs w:=⟨P.len,P.pos,P.low,b,bw⟩
theorem Pq.mono {xs:BC}{w:Int}(P:Pq n k xs w)(h:k<=l):Pq n l xs w:=⟨P.len,P.pos,P.low,λx hx=>(P.bx x hx).mono h,P.bw.mono h⟩
theorem acf {n k:Nat}(S:aF)(hk:k<=2000)(h:Pq n k xs w):uE [.pv (.tup ((xs++[w]).map .int)),.pv (.int n)] S=.ok (.pv (.bl true)) S:=by
 have e1:=Op (xs++[w]) S;have hl:((xs++[w]).length:Int)=n+1:=by simp[h.len]
 rw[hl]at e1;have ip:=mK xs w;have el:=U7 (xs++[w]) S (λm hm=>by
  rcases ce.mp hm with z |z
  .exact(h.bx m z).mono 1#a
  .have:=by simpa using z
   rw[this];exact h.bw.mono 1#a)
 rw[h.low]at el;have q:bC 8 (.tup ((xs++[w]).map .int)) _=some true:=Zv 7 _;have hw:¬w<1:=by have:=h.pos;omega
 generalize (xs++[w]).map _=PL at e1 ip el q;unfold uE aI Jc;simp! [e1,ip,hw,el,q]
theorem afe {xs ys:BC}{w v:Int}(S:aF)(hn:n=2\/n=3)(P:Pq n k xs w)(Q:Pq n l ys v)(hk:k<=2000)(hl:l<=2000):oG [.pv (.tup ((xs++[w]).map .int)),.pv (.tup [.int way,.tup ((ys++[v]).map .int)])] S=.ok (.pv (.tup ((mv way xs w ys v).map .int))) S:=
 aaH _ S (P.len.trans Q.len.symm) (by rw[P.len];omega) P.pos Q.pos (λx hx=>(P.bx x hx).mono hk) (λx hx=>(Q.bx x hx).mono hl) (P.bw.mono hk) (Q.bw.mono hl)
theorem adJ {way:Int}{xs ys:BC}{w v:Int}(S:aF)(hn:n=2\/n=3)(hway:way=1\/way=-1)(P:Pq n k xs w)(Q:Pq n l ys v)(hk:k<=1000)(hl:l<=1000):oM [.pv (.tup ((xs++[w]).map .int)),.pv (.tup ((ys++[v]).map .int)),.pv (.int way)] S=.ok (.pv (.tup ((mv way xs w ys v).map .int))) S:=by
 have e:=Z7 S (P.len.trans Q.len.symm) (by rw[P.len];omega) hway (λx hx=>(P.bx x hx).mono hk) (λx hx=>(Q.bx x hx).mono hl) (P.bw.mono hk) (Q.bw.mono hl);rw[Zo hway]at e;exact e
theorem hrg(S:aF):iX [.pv (.int 3)] S=.ok ([.int 0,.int 1,.int 2],[]) S:=by
 have h:dS 0 (3:Int).toNat=[.int 0,.int 1,.int 2]:=rfl;rw[<-h];unfold iX;grind
theorem Ow(t b:Int)(S:aF)(ht:Bd 8000 t)(hb:Bd 8000 b):sG [.pv (.int t),.pv (.int b)] S=.ok (.pv (.tup ((fr t b).map .int))) S:=by
 unfold sG aI Ng fr;have e1:=rW [0-t,0-b] S (by
  intro n hn;rcases br.mp hn with rfl |hn
  .rw[kl];exact ht.neg
  .have:n=0-b:=by simpa using hn
   rw[this,kl];exact hb.neg)
 have e2:=rW [t,b] S (by
  simp_all)
 by_cases h:b<0
 .simp only[au,da,kl]at e1
  dsimp! [h,e1]
 .simp only[au,da]at e2
  dsimp! [h,e2]
theorem Rc(t b:Int)(S:aF)(ht:Bd 7000 t)(hb:Bd 7000 b)(h:b≠0):oJ [.pv (.int t),.pv (.int b)] S=.ok (.pv (.tup ((fr t b).map .int))) S:=by
 have gb:=ht.gcd hb;have sb:Bd 2 (sg b):=by
  unfold sg;split
  .unfold Bd;simp
  .split<;>(unfold Bd;simp)
 have mb:qS (sg b) (ci t b:Nat):=.inr ⟨sb.mono 1#b,gb.mono 1#b⟩;have nz:sg b*(ci t b:Nat)≠0:=by
  have gp:=vU (jS t b) h;rw[qE]at gp;rcases Eu h with⟨_,s⟩|⟨_,s⟩<;>rw[s]<;>omega
 have qb:∀x,qT x (sg b*(ci t b:Nat)):=λx=>⟨nz,(sb.mul gb).mono 1#b⟩;rw[<-Y8 h];unfold oJ aI Xd;dsimp! [h,zP,Qn,mM mb,nK (qb t),nK (qb b)]
theorem Ud:∀is:BC,kD (is.map .int)=some is
 |[]=>rfl
 |i::is=>by
  have ih:=Ud is;show(match kD _ with |some _=>some _ |none=>none)=_
  rw[ih]
theorem Tq(is:BC):rE [.lst (is.map .int)]=some (.int is.sum):=by
 simp only[rE,Ud,AI]
def wa(xs:BC)(w:Int)(ys:BC)(v:Int):BC:=cr (λx y=>y*w-x*v) xs ys
theorem Ou(S:aF)(PL QL:BK)(w v:Int)(hp:aE (.tup PL) (.int (-1))=some (.int w))(hq:aE (.tup QL) (.int (-1))=some (.int v))(bw:Bd 2000 w)(bv:Bd 2000 v):∀(xs ys:BC)(x y:BN),xs.length=ys.length->(∀x∈xs,Bd 2000 x)->(∀y∈ys,Bd 2000 y)->
  cH [] (gT 2 (aZ (gN 0) (aZ (gN 1) cJ))) (aC dY (aC aU (aA 1) (aC aE (aA 2) (bG cF 1#c))) (aC aU (aA 0) (aC aE (aA 3) (bG cF 1#c)))) (gR (xs.map .int) (ys.map .int)) [x,y,some (.pv (.tup PL)),some (.pv (.tup QL))] S=.ok ((wa xs w ys v).map .int) S
 |[],ys,x,y,hl,_,_=>by
  exact eG
 |a::xs,[],x,y,hl,_,_=>by cases hl
 |a::xs,b::ys,x,y,hl,hx,hy=>by
  have ih:=Ou S PL QL w v hp hq bw bv xs ys (some (.pv (.int a))) (some (.pv (.int b))) (by simpa using hl) (λm hm=>hx m (bh _ hm)) (λm hm=>hy m (bh _ hm));have m1:=mB (hx a av) bv;have m2:=mB (hy b av) bw;show cH [] _ _ (.tup _::gR _ _) _ S=_;rw[eM];simp! [gT,aZ,cJ,gN,hp,hq,m1,m2,ih,wa]
theorem Vt (S:aF)(hl:xs.length=ys.length)(hx:∀x∈xs,Bd 2000 x)(hy:∀y∈ys,Bd 2000 y)(bw:Bd 2000 w)(bv:Bd 2000 v):
  oF [.pv (.tup ((xs++[w]).map .int)),.pv (.tup ((ys++[v]).map .int))] S=.ok (.pv (.lst ((wa xs w ys v).map .int))) S:=by
 have ip:=mK xs w;have iq:=mK ys v;have sp:=uR xs w;have sq:=uR ys v;have ec:=Ou S _ _ w v ip iq bw bv xs ys none none hl hx hy;generalize (xs++[w]).map _=PL at ip sp ec;generalize (ys++[v]).map _=QL at iq sq ec;unfold oF aI Gc;simp! [bA,iB,lN,bT,dW,dF,dN,gO,sp,sq,cC,ec]
theorem Mf(S:aF):∀(us vs:BC)(x y:BN),(∀x∈us,Bd 100000 x)->(∀y∈vs,Bd 100000 y)->
  cH [] (gT 2 (aZ (gN 0) (aZ (gN 1) cJ))) (aC aU (aA 0) (aA 1)) (gR (us.map .int) (vs.map .int)) [x,y] S=.ok ((cr (·*·) us vs).map .int) S
 |[],vs,x,y,_,_=>by
  exact eG
 |a::us,[],x,y,_,_=>by
  exact eG
 |a::us,b::vs,x,y,hx,hy=>by
  have ih:=Mf S us vs (some (.pv (.int a))) (some (.pv (.int b))) (λm hm=>hx m (bh _ hm)) (λm hm=>hy m (bh _ hm));have m1:=mM (.inr ⟨(hx a av).mono 1#b,(hy b av).mono 1#b⟩);show cH [] _ _ (.tup _::gR _ _) _ S=_;rw[eM];simp! [gT,aZ,cJ,gN,m1,ih]
def dt(us vs:BC):Int:=(cr (·*·) us vs).sum
def Sq(A:PV)(us:BC):Prop:=A=.lst (us.map .int)\/A=.tup (us.map .int)
theorem Hy {us vs:BC}(S:aF)(hA:Sq A us)(hB:Sq B vs)(hx:∀x∈us,Bd 100000 x)(hy:∀y∈vs,Bd 100000 y):Sa [.pv A,.pv B] S=.ok (.pv (.int (dt us vs))) S:=by
 have ec:=Mf S us vs none none hx hy;have es:=Tq (cr (·*·) us vs);unfold dt;generalize (cr (·*·) us vs).map PV.int=ZL at ec es;unfold Sa aI Xi;rcases hA with rfl |rfl<;>rcases hB with rfl |rfl<;>
  (simp! [bA,iB,lN,bT,cC,ec,es])
theorem Iv {us vs:BC}(S:aF)(hA:Sq A us)(hB:Sq B vs)(hx:∀x∈us,Bd 100000 x)(hy:∀y∈vs,Bd 100000 y):Ea [.pv A,.pv B] S=.ok (.pv (.int (dt us vs))) S:=by
 have ec:=Mf S us vs none none hx hy;have es:=Tq (cr (·*·) us vs);unfold dt;generalize (cr (·*·) us vs).map PV.int=ZL at ec es;unfold Ea aI Lh;rcases hA with rfl |rfl<;>rcases hB with rfl |rfl<;>
  (simp! [bA,iB,lN,bT,cC,ec,es])
theorem fD {a b:Int}(h:Bd k a)(g:Bd l b)(hk:autoParam (k<=1000000) Zqw)(hl:autoParam (l<=1000000) Zqw):aU (.int a) (.int b)=some (.int (a*b)):=mM (.inr ⟨h.mono hk,g.mono hl⟩)
theorem acF(a b:Int)(S:aF):pW [.pv (.lst [.lst [.int a,.int b]])] S=.ok (.pv (.lst [.int (-b),.int a])) S:=by
 unfold pW aI zB;dsimp! [bF]
theorem Yw (S:aF)(ha:Bd 10000 a)(hb:Bd 10000 b)(hc:Bd 10000 c)(hd:Bd 10000 d)(he:Bd 10000 e)(hf:Bd 10000 f):pW [.pv (.lst [.lst [.int a,.int b,.int c],.lst [.int d,.int e,.int f]])] S=.ok (.pv (.lst [.int (b*f-c*e),.int (c*d-a*f),.int (a*e-b*d)])) S:=by
 have m1:=fD hb hf;have m2:=fD hc he;have m3:=fD hc hd;have m4:=fD ha hf;have m5:=fD ha he;have m6:=fD hb hd;unfold pW aI zB;dsimp! [m1,m2,m3,m4,m5,m6]
theorem Jr{A B:PV}{a b c d e f:Int}(S:aF)(hA:A=.lst [.int a,.int b,.int c])(hB:B=.lst [.int d,.int e,.int f])(ha:Bd 10000 a)(hb:Bd 10000 b)(hc:Bd 10000 c)(hd:Bd 10000 d)(he:Bd 10000 e)(hf:Bd 10000 f):yU [.pv A,.pv B] S=.ok (.pv (.lst [.int (b*f-c*e),.int (c*d-a*f),.int (a*e-b*d)])) S:=by
 have m1:=fD hb hf;have m2:=fD hc he;have m3:=fD hc hd;have m4:=fD ha hf;have m5:=fD ha he;have m6:=fD hb hd;unfold yU aI Te;subst hA hB;dsimp! [m1,m2,m3,m4,m5,m6]
structure P2(x y w:Int):Prop where
 bx:Bd 1000 x
 by_:Bd 1000 y
 bw:Bd 1000 w
 pos:0<w
structure P3(x y z w:Int):Prop where
 bx:Bd 1000 x
 by_:Bd 1000 y
 bz:Bd 1000 z
 bw:Bd 1000 w
 pos:0<w
abbrev v2(x y w:Int):PV:=.tup [.int x,.int y,.int w]
abbrev v3(x y z w:Int):PV:=.tup [.int x,.int y,.int z,.int w]
def Sv(A:PV)(L:BK):Prop:=A=.lst L\/A=.tup L
theorem G8(p:PV)(L:BK):mX (p::L) (some 1) none=L:=by
 show((p::L).drop 1).take ((p::L).length-1)=L;simp
theorem tL(p:PV)(L:BK):lC (.lst (p::L)) (some 1) none=some (.lst L):=by
 unfold lC;dsimp only;rw[G8]
theorem wN(p:PV)(L:BK):lC (.tup (p::L)) (some 1) none=some (.tup L):=by
 unfold lC;dsimp only;have e1:HT.sIx (p::L).length 0 (some 1)=1:=rfl;rw[if_neg (by simp_all),G8]
theorem Py(L:BK)(p:PV):lC (.lst (L++[p])) none (some (-1))=some (.lst L):=by
 unfold lC;dsimp only;unfold mX;have e1:HT.sIx (L++[p]).length (L++[p]).length (some (-1))=L.length:=by
  rw[ax];exact Bf _ _
 rw[e1];show some (PV.lst ((L++[p].drop 0).take (L.length-0)))=_;simp
theorem Hi{x0 y0 w0 x1 y1 w1:Int}(S:aF)(p:P2 x0 y0 w0)(q:P2 x1 y1 w1):oF [.pv (v2 x0 y0 w0),.pv (v2 x1 y1 w1)] S=.ok (.pv (.lst [.int (x1*w0-x0*w1),.int (y1*w0-y0*w1)])) S:=by
 have e:=Vt (xs:=[x0,y0]) (ys:=[x1,y1]) S rfl (by simp;exact⟨p.bx.mono 1#b,p.by_.mono 1#b⟩) (by simp;exact⟨q.bx.mono 1#b,q.by_.mono 1#b⟩) (p.bw.mono 1#b) (q.bw.mono 1#b);exact e
theorem sO{x0 y0 z0 w0 x1 y1 z1 w1:Int}(S:aF)(p:P3 x0 y0 z0 w0)(q:P3 x1 y1 z1 w1):oF [.pv (v3 x0 y0 z0 w0),.pv (v3 x1 y1 z1 w1)] S=.ok (.pv (.lst [.int (x1*w0-x0*w1),.int (y1*w0-y0*w1),.int (z1*w0-z0*w1)])) S:=by
 have e:=Vt (xs:=[x0,y0,z0]) (ys:=[x1,y1,z1]) S rfl (by simp;exact⟨p.bx.mono 1#b,p.by_.mono 1#b,p.bz.mono 1#b⟩) (by simp;exact⟨q.bx.mono 1#b,q.by_.mono 1#b,q.bz.mono 1#b⟩) (p.bw.mono 1#b) (q.bw.mono 1#b);exact e
theorem sb{x0 w0 x1 w1:Int}(a:Bd 1000 x0)(b:Bd 1000 w0)(c:Bd 1000 x1)(d:Bd 1000 w1):Bd 2001 (x1*w0-x0*w1):=((c.mul b).mono 1#b).sub ((a.mul d).mono 1#b)
theorem cb (h1:Bd 2001 a)(h2:Bd 2001 b)(h3:Bd 2001 c)(h4:Bd 2001 d):Bd 4003 (a*b-c*d):=((h1.mul h2).mono 1#b).sub ((h3.mul h4).mono 1#b)
def D2(x0 y0 w0 x1 y1 w1 x2 y2 w2:Int):Int:=w0*(x1*y2-y1*x2)-w1*(x0*y2-y0*x2)+w2*(x0*y1-y0*x1)
def D3(x0 y0 z0 w0 x1 y1 z1 w1 x2 y2 z2 w2 x3 y3 z3 w3:Int):Int:=
 w0*((y1*z2-z1*y2)*x3+(z1*x2-x1*z2)*y3+(x1*y2-y1*x2)*z3)-w1*((y0*z2-z0*y2)*x3+(z0*x2-x0*z2)*y3+(x0*y2-y0*x2)*z3)
 +w2*((y0*z1-z0*y1)*x3+(z0*x1-x0*z1)*y3+(x0*y1-y0*x1)*z3)-w3*((y0*z1-z0*y1)*x2+(z0*x1-x0*z1)*y2+(x0*y1-y0*x1)*z2)
theorem agJ(x0 y0 w0 x1 y1 w1 x2 y2 w2:Int):dt [-(y1*w0-y0*w1),x1*w0-x0*w1] [x2*w0-x0*w2,y2*w0-y0*w2]=w0*D2 x0 y0 w0 x1 y1 w1 x2 y2 w2:=by
 simp only[dt,D2,qx,zc,zd,ze];grind
theorem B6(x0 y0 z0 w0 x1 y1 z1 w1 x2 y2 z2 w2 x3 y3 z3 w3:Int):dt [(y1*w0-y0*w1)*(z2*w0-z0*w2)-(z1*w0-z0*w1)*(y2*w0-y0*w2),(z1*w0-z0*w1)*(x2*w0-x0*w2)-(x1*w0-x0*w1)*(z2*w0-z0*w2),(x1*w0-x0*w1)*(y2*w0-y0*w2)-(y1*w0-y0*w1)*(x2*w0-x0*w2)] [x3*w0-x0*w3,y3*w0-y0*w3,z3*w0-z0*w3]=w0*w0*D3 x0 y0 z0 w0 x1 y1 z1 w1 x2 y2 z2 w2 x3 y3 z3 w3:=by
 simp only[dt,D3,qx,zc,zd,ze];grind
theorem vX (h:0<w):sg (w*d)=sg d:=by
 unfold sg
 by_cases h1:0<d
 .rw[if_pos (bf h h1),if_pos h1]
 .by_cases h2:d<0
  .have:=i8 h h2
   rw[if_neg 1#a,if_pos this,if_neg h1,if_pos h2]
  .have:d=0:=by omega
   simp_all
theorem acY{A:PV}{x0 y0 w0 x1 y1 w1 x2 y2 w2:Int}(S:aF)(hA:Sv A [v2 x0 y0 w0,v2 x1 y1 w1,v2 x2 y2 w2])(p:P2 x0 y0 w0)(q:P2 x1 y1 w1)(r:P2 x2 y2 w2):rL [.pv A] S=.ok (.pv (.int (w0*D2 x0 y0 w0 x1 y1 w1 x2 y2 w2))) S:=by
 have a1:=Hi S p q;have a2:=Hi S p r;have bu:=sb p.bx p.bw q.bx q.bw;have bv:=sb p.by_ p.bw q.by_ q.bw;have bu2:=sb p.bx p.bw r.bx r.bw;have bv2:=sb p.by_ p.bw r.by_ r.bw;have id:=agJ x0 y0 w0 x1 y1 w1 x2 y2 w2;generalize y2*w0-y0*w2=V1,x2*w0-x0*w2=V0,y1*w0-y0*w1=U1,x1*w0-x0*w1=U0,w0*D2 x0 y0 w0 x1 y1 w1 x2 y2 w2=D at *;have en:=acF U0 U1 S;have ed:=Hy (A:=.lst [.int (-U1),.int U0]) (B:=.lst [.int V0,.int V1]) (us:=[-U1,U0]) (vs:=[V0,V1]) S (.inl rfl) (.inl rfl) (by simp;exact⟨bv.neg.mono 1#b,bu.mono 1#b⟩) (by simp;exact⟨bu2.mono 1#b,bv2.mono 1#b⟩);rw[id]at ed;have pre:=Py [.lst [.int U0,.int U1]] (.lst [.int V0,.int V1]);simp only[lg,iw]at pre;generalize v2 x2 y2 w2=R,v2 x1 y1 w1=Q,v2 x0 y0 w0=P at *;unfold rL aI xM;rcases hA with rfl |rfl
 .have s1:=tL P [Q,R]
  dsimp! [bA,aX,bT,dW,dF,dN,gO,s1,cC,eM,eG,gN,a1,a2,pre,en,ed]
 .have s1:=wN P [Q,R]
  dsimp! [bA,aX,bT,dW,dF,dN,gO,s1,cC,eM,eG,gN,a1,a2,pre,en,ed]
theorem acv{A:PV}{x0 y0 z0 w0 x1 y1 z1 w1 x2 y2 z2 w2 x3 y3 z3 w3:Int}(S:aF)(hA:Sv A [v3 x0 y0 z0 w0,v3 x1 y1 z1 w1,v3 x2 y2 z2 w2,v3 x3 y3 z3 w3])(p:P3 x0 y0 z0 w0)(q:P3 x1 y1 z1 w1)(r:P3 x2 y2 z2 w2)(s:P3 x3 y3 z3 w3):rL [.pv A] S=.ok (.pv (.int (w0*w0*D3 x0 y0 z0 w0 x1 y1 z1 w1 x2 y2 z2 w2 x3 y3 z3 w3))) S:=by
 have a1:=sO S p q;have a2:=sO S p r;have a3:=sO S p s;have b1:=sb p.bx p.bw q.bx q.bw;have b2:=sb p.by_ p.bw q.by_ q.bw;have b3:=sb p.bz p.bw q.bz q.bw;have b4:=sb p.bx p.bw r.bx r.bw;have b5:=sb p.by_ p.bw r.by_ r.bw;have b6:=sb p.bz p.bw r.bz r.bw;have b7:=sb p.bx p.bw s.bx s.bw;have b8:=sb p.by_ p.bw s.by_ s.bw;have b9:=sb p.bz p.bw s.bz s.bw;have id:=B6 x0 y0 z0 w0 x1 y1 z1 w1 x2 y2 z2 w2 x3 y3 z3 w3;generalize z3*w0-z0*w3=T2,y3*w0-y0*w3=T1,x3*w0-x0*w3=T0,z2*w0-z0*w2=V2,y2*w0-y0*w2=V1,x2*w0-x0*w2=V0,z1*w0-z0*w1=U2,y1*w0-y0*w1=U1,x1*w0-x0*w1=U0,w0*w0*D3 x0 y0 z0 w0 x1 y1 z1 w1 x2 y2 z2 w2 x3 y3 z3 w3=D at *;have h:∀{a:Int},Bd 2001 a->Bd 10000 a:=λh=>h.mono 1#b;have h4:∀{a:Int},Bd 4003 a->Bd 100000 a:=λh=>h.mono 1#b;have h2:∀{a:Int},Bd 2001 a->Bd 100000 a:=λh=>h.mono 1#b;have en:=Yw S (h b1) (h b2) (h b3) (h b4) (h b5) (h b6);have c1:=cb b2 b6 b3 b5;have c2:=cb b3 b4 b1 b6;have c3:=cb b1 b5 b2 b4;have ed:=Hy (A:=.lst [.int (U1*V2-U2*V1),.int (U2*V0-U0*V2),.int (U0*V1-U1*V0)]) (B:=.lst [.int T0,.int T1,.int T2]) (us:=[U1*V2-U2*V1,U2*V0-U0*V2,U0*V1-U1*V0]) (vs:=[T0,T1,T2]) S (.inl rfl) (.inl rfl) (by simp;exact⟨h4 c1,h4 c2,h4 c3⟩) (by simp;exact⟨h2 b7,h2 b8,h2 b9⟩);rw[id]at ed;have pre:=Py [.lst [.int U0,.int U1,.int U2],.lst [.int V0,.int V1,.int V2]] (.lst [.int T0,.int T1,.int T2]);simp only[lg,iw]at pre;generalize v3 x3 y3 z3 w3=T,v3 x2 y2 z2 w2=R,v3 x1 y1 z1 w1=Q,v3 x0 y0 z0 w0=P at *;unfold rL aI xM;rcases hA with rfl |rfl
 .have s1:=tL P [Q,R,T]
  dsimp! [bA,aX,bT,dW,dF,dN,gO,s1,cC,eM,eG,gN,a1,a2,a3,pre,en,ed]
 .have s1:=wN P [Q,R,T]
  dsimp! [bA,aX,bT,dW,dF,dN,gO,s1,cC,eM,eG,gN,a1,a2,a3,pre,en,ed]
theorem aa3 {x0 y0 w0 x1 y1 w1 x2 y2 w2:Int}(S:aF)(hA:Sv A [v2 x0 y0 w0,v2 x1 y1 w1,v2 x2 y2 w2])(p:P2 x0 y0 w0)(q:P2 x1 y1 w1)(r:P2 x2 y2 w2):qG [.pv A] S=.ok (.pv (.int (sg (D2 x0 y0 w0 x1 y1 w1 x2 y2 w2)))) S:=by
 have e1:=acY S hA p q r;have e2:=zP (w0*D2 x0 y0 w0 x1 y1 w1 x2 y2 w2) S;rw[vX p.pos]at e2;unfold qG aI zY;dsimp! [e1,e2]
theorem abM {x0 y0 z0 w0 x1 y1 z1 w1 x2 y2 z2 w2 x3 y3 z3 w3:Int}(S:aF)(hA:Sv A [v3 x0 y0 z0 w0,v3 x1 y1 z1 w1,v3 x2 y2 z2 w2,v3 x3 y3 z3 w3])(p:P3 x0 y0 z0 w0)(q:P3 x1 y1 z1 w1)(r:P3 x2 y2 z2 w2)(s:P3 x3 y3 z3 w3):qG [.pv A] S=.ok (.pv (.int (sg (D3 x0 y0 z0 w0 x1 y1 z1 w1 x2 y2 z2 w2 x3 y3 z3 w3)))) S:=by
 have e1:=acv S hA p q r s;have e2:=zP (w0*w0*D3 x0 y0 z0 w0 x1 y1 z1 w1 x2 y2 z2 w2 x3 y3 z3 w3) S;rw[vX (bf p.pos p.pos)]at e2;unfold qG aI zY;dsimp! [e1,e2]
def Gp(n k:Nat)(v:PV):Prop:=∃xs w,v=.tup ((xs++[w]).map .int)/\Pq n k xs w
theorem Gp.two (h:Gp 2 1000 v):∃x y w,v=v2 x y w/\P2 x y w:=by
 obtain⟨xs,w,rfl,P⟩:=h
 obtain⟨x,y,rfl⟩:=len2 P.len;exact⟨x,y,w,rfl,P.bx x 1#d,P.bx y 1#d,P.bw,P.pos⟩
theorem Gp.three (h:Gp 3 1000 v):∃x y z w,v=v3 x y z w/\P3 x y z w:=by
 obtain⟨xs,w,rfl,P⟩:=h
 obtain⟨x,y,z,rfl⟩:=len3 P.len;exact⟨x,y,z,w,rfl,P.bx x 1#d,P.bx y 1#d,P.bx z 1#d,P.bw,P.pos⟩
theorem afD {v:PV}(h:Gp n k v):bC (m+1) v v=some true:=by
 obtain⟨xs,w,rfl,_⟩:=h;exact Zv m _
theorem Uo:∀L:BK,∀m,(∀v∈L,bC m v v=some true)->iW (cr (bC m) L L)=some (L.map λ_=>true)
 |[],m,_=>rfl
 |v::L,m,h=>by
  rw[qx,h v av,iW,Uo L m λu hu=>h u (bh _ hu)];rfl
theorem oO {L:BK}(h:∀v∈L,bC m v v=some true):bC (m+1) (.tup L) (.tup L)=some true:=by
 rw[bC,Uo L m h];simp
theorem At(S:aF)(PL QL:BK)(xs ys:BC)(w v:Int)(hp:aE (.tup PL) (.int (-1))=some (.int w))(hq:aE (.tup QL) (.int (-1))=some (.int v))(hpj:∀j:Nat,j<xs.length->aE (.tup PL) (.int (j:Nat))=some (.int (xs.getD j 0)))(hqj:∀j:Nat,j<xs.length->aE (.tup QL) (.int (j:Nat))=some (.int (ys.getD j 0)))
  (bw:Bd 1000 w)(bv:Bd 1000 v)(hx:∀j,Bd 1000 (xs.getD j 0))(hy:∀j,Bd 1000 (ys.getD j 0)):∀(js:List Nat)(x:BN),(∀j∈js,j<xs.length)->
  cH [] (gN 0) (aC dY (aC aU (aC aE (aA 1) (aA 0)) (aC aE (aA 2) (bG cF 1#c))) (aC aU (aC aE (aA 2) (aA 0)) (aC aE (aA 1) (bG cF 1#c)))) (js.map λj=>.int (0+(j:Nat))) [x,some (.pv (.tup QL)),some (.pv (.tup PL))] S=.ok ((js.map λj=>ys.getD j 0*w-xs.getD j 0*v).map .int) S
 |[],x,_=>eG
 |j::js,x,h=>by
  have ih:=At S PL QL xs ys w v hp hq hpj hqj bw bv hx hy js (some (.pv (.int (0+j)))) λi hi=>h i (bh _ hi);have e1:=hpj j (h j av);have e2:=hqj j (h j av);have m1:=mB ((hx j).mono (show 1000<=2000 by decide)) (bv.mono (show 1000<=2000 by decide));have m2:=mB ((hy j).mono (show 1000<=2000 by decide)) (bw.mono (show 1000<=2000 by decide));show cH [] _ _ (.int (0+j)::js.map _) _ S=_;rw[eM];simp only[Int.zero_add]at ih⊢;generalize hX:xs.getD j 0=X at e1 m1;generalize hY:ys.getD j 0=Y at e2 m2;simp! [gN,e1,e2,hp,hq,m1,m2,ih];simp only[AL]at hX hY;rw[hX,hY]
theorem Vx (S:aF)(hl:xs.length=ys.length)(h9:xs.length<=9)(hx:∀x∈xs,Bd 1000 x)(hy:∀y∈ys,Bd 1000 y)(bw:Bd 1000 w)(bv:Bd 1000 v):
  sY [.pv (.tup ((xs++[w]).map .int)),.pv (.tup ((ys++[v]).map .int))] S=.ok (.pv (.lst ((wa xs w ys v).map .int))) S:=by
 have ip:=mK xs w;have iq:=mK ys v;have ec:=At S _ _ xs ys w v ip iq (λj h=>Ga xs w j h) (λj h=>Ga ys v j 1#a) bw bv (zO hx) (zO hy) (ck xs.length) none λj hj=>by simpa using hj
 have er:(ck xs.length).map _=wa xs w ys v:=Dq hl λx y=>y*w-x*v;rw[er]at ec;have hlen:((xs++[w]).map PV.int).length=xs.length+1:=by simp
 have hr:iX [.pv (.int (((xs.length+1:Nat):Int)-1))] S=.ok ((ck xs.length).map λj=>.int (0+(j:Nat)),[]) S:=by
  unfold iX;dsimp only;rw[if_pos ⟨by omega,by omega⟩];have:(((xs.length+1:Nat):Int)-1).toNat=xs.length:=by omega
  rw[this];rfl
 generalize (ck xs.length).map _=RL at ec hr;generalize hP:(xs++[w]).map PV.int=PL at ip ec hlen;generalize (ys++[v]).map PV.int=QL at iq ec;unfold sY aI Nh;have hr2:=hr;rw[<-hlen]at hr2;simp! [bA,dG,hr2,cC,ec]
theorem G0{x0 y0 w0 x1 y1 w1:Int}(S:aF)(p:P2 x0 y0 w0)(q:P2 x1 y1 w1):sY [.pv (v2 x0 y0 w0),.pv (v2 x1 y1 w1)] S=.ok (.pv (.lst [.int (x1*w0-x0*w1),.int (y1*w0-y0*w1)])) S:=by
 have e:=Vx (xs:=[x0,y0]) (ys:=[x1,y1]) S rfl 1#d (by simp;exact⟨p.bx,p.by_⟩) (by simp;exact⟨q.bx,q.by_⟩) p.bw q.bw;exact e
theorem Hb{x0 y0 z0 w0 x1 y1 z1 w1:Int}(S:aF)(p:P3 x0 y0 z0 w0)(q:P3 x1 y1 z1 w1):sY [.pv (v3 x0 y0 z0 w0),.pv (v3 x1 y1 z1 w1)] S=.ok (.pv (.lst [.int (x1*w0-x0*w1),.int (y1*w0-y0*w1),.int (z1*w0-z0*w1)])) S:=by
 have e:=Vx (xs:=[x0,y0,z0]) (ys:=[x1,y1,z1]) S rfl 1#d (by simp;exact⟨p.bx,p.by_,p.bz⟩) (by simp;exact⟨q.bx,q.by_,q.bz⟩) p.bw q.bw;exact e
theorem abO{A:PV}{x0 y0 w0 x1 y1 w1 x2 y2 w2:Int}(S:aF)(hA:Sv A [v2 x0 y0 w0,v2 x1 y1 w1,v2 x2 y2 w2])(p:P2 x0 y0 w0)(q:P2 x1 y1 w1)(r:P2 x2 y2 w2):oW [.pv A] S=.ok (.pv (.int (w0*D2 x0 y0 w0 x1 y1 w1 x2 y2 w2))) S:=by
 have a1:=G0 S p q;have a2:=G0 S p r;have bu:=sb p.bx p.bw q.bx q.bw;have bv:=sb p.by_ p.bw q.by_ q.bw;have bu2:=sb p.bx p.bw r.bx r.bw;have bv2:=sb p.by_ p.bw r.by_ r.bw;have id:(x1*w0-x0*w1)*(y2*w0-y0*w2)-(y1*w0-y0*w1)*(x2*w0-x0*w2)=w0*D2 x0 y0 w0 x1 y1 w1 x2 y2 w2:=by
  unfold D2;grind
 generalize y2*w0-y0*w2=V1,x2*w0-x0*w2=V0,y1*w0-y0*w1=U1,x1*w0-x0*w1=U0,w0*D2 x0 y0 w0 x1 y1 w1 x2 y2 w2=D at *;have m1:=fD bu bv2;have m2:=fD bv bu2;generalize v2 x2 y2 w2=R,v2 x1 y1 w1=Q,v2 x0 y0 w0=P at *;have et:lJ [.pv (.lst [.lst [.int U0,.int U1],.lst [.int V0,.int V1]])] S=.ok (.pv (.int D)) S:=by
  unfold lJ aI sL;dsimp! [m1,m2,id]
 unfold oW aI Ha;rcases hA with rfl |rfl
 .have s1:=tL P [Q,R]
  dsimp! [bA,aX,bT,dW,dF,dN,gO,s1,cC,eM,eG,gN,a1,a2,et]
 .have s1:=wN P [Q,R]
  dsimp! [bA,aX,bT,dW,dF,dN,gO,s1,cC,eM,eG,gN,a1,a2,et]
theorem abh{A:PV}{x0 y0 z0 w0 x1 y1 z1 w1 x2 y2 z2 w2 x3 y3 z3 w3:Int}(S:aF)(hA:Sv A [v3 x0 y0 z0 w0,v3 x1 y1 z1 w1,v3 x2 y2 z2 w2,v3 x3 y3 z3 w3])(p:P3 x0 y0 z0 w0)(q:P3 x1 y1 z1 w1)(r:P3 x2 y2 z2 w2)(s:P3 x3 y3 z3 w3):oW [.pv A] S=.ok (.pv (.int (w0*w0*D3 x0 y0 z0 w0 x1 y1 z1 w1 x2 y2 z2 w2 x3 y3 z3 w3))) S:=by
 have a1:=Hb S p q;have a2:=Hb S p r;have a3:=Hb S p s;have b1:=sb p.bx p.bw q.bx q.bw;have b2:=sb p.by_ p.bw q.by_ q.bw;have b3:=sb p.bz p.bw q.bz q.bw;have b4:=sb p.bx p.bw r.bx r.bw;have b5:=sb p.by_ p.bw r.by_ r.bw;have b6:=sb p.bz p.bw r.bz r.bw;have b7:=sb p.bx p.bw s.bx s.bw;have b8:=sb p.by_ p.bw s.by_ s.bw;have b9:=sb p.bz p.bw s.bz s.bw;have id:=B6 x0 y0 z0 w0 x1 y1 z1 w1 x2 y2 z2 w2 x3 y3 z3 w3;generalize z3*w0-z0*w3=T2,y3*w0-y0*w3=T1,x3*w0-x0*w3=T0,z2*w0-z0*w2=V2,y2*w0-y0*w2=V1,x2*w0-x0*w2=V0,z1*w0-z0*w1=U2,y1*w0-y0*w1=U1,x1*w0-x0*w1=U0,w0*w0*D3 x0 y0 z0 w0 x1 y1 z1 w1 x2 y2 z2 w2 x3 y3 z3 w3=D at *;have h:∀{a:Int},Bd 2001 a->Bd 10000 a:=λh=>h.mono 1#b;have h4:∀{a:Int},Bd 4003 a->Bd 100000 a:=λh=>h.mono 1#b;have h2:∀{a:Int},Bd 2001 a->Bd 100000 a:=λh=>h.mono 1#b;have en:=Jr (A:=.lst [.int U0,.int U1,.int U2]) (B:=.lst [.int V0,.int V1,.int V2]) S rfl rfl (h b1) (h b2) (h b3) (h b4) (h b5) (h b6);have c1:=cb b2 b6 b3 b5;have c2:=cb b3 b4 b1 b6;have c3:=cb b1 b5 b2 b4;have ed:=Iv (A:=.lst [.int (U1*V2-U2*V1),.int (U2*V0-U0*V2),.int (U0*V1-U1*V0)]) (B:=.lst [.int T0,.int T1,.int T2]) (us:=[U1*V2-U2*V1,U2*V0-U0*V2,U0*V1-U1*V0]) (vs:=[T0,T1,T2]) S (.inl rfl) (.inl rfl) (by simp;exact⟨h4 c1,h4 c2,h4 c3⟩) (by simp;exact⟨h2 b7,h2 b8,h2 b9⟩);rw[id]at ed;generalize v3 x3 y3 z3 w3=T,v3 x2 y2 z2 w2=R,v3 x1 y1 z1 w1=Q,v3 x0 y0 z0 w0=P,U0*V1-U1*V0=N2,U2*V0-U0*V2=N1,U1*V2-U2*V1=N0 at *;have et:lJ [.pv (.lst [.lst [.int U0,.int U1,.int U2],.lst [.int V0,.int V1,.int V2],.lst [.int T0,.int T1,.int T2]])] S=.ok (.pv (.int D)) S:=by
  unfold lJ aI sL;dsimp! [en,ed]
 unfold oW aI Ha;rcases hA with rfl |rfl
 .have s1:=tL P [Q,R,T]
  dsimp! [bA,aX,bT,dW,dF,dN,gO,s1,cC,eM,eG,gN,a1,a2,a3,et]
 .have s1:=wN P [Q,R,T]
  dsimp! [bA,aX,bT,dW,dF,dN,gO,s1,cC,eM,eG,gN,a1,a2,a3,et]
theorem E4 (n:Nat)(hn:n=2\/n=3)(h:fI S k ns):∃(v:PV)(ns':BC),lK [.ref k,.pv (.int n)] S=.ok (.pv v) (S.set k (.lst (ns'.map .int)))/\Gp n 100 v:=by
 obtain⟨xs,w,n1,e1,P,b1,b2⟩:=afc n hn h;exact⟨_,n1,e1,xs,w,rfl,P.pq b1 b2⟩
theorem adP(ns:BC):∃g:Int,0<g/\ns=(low ns).map (g*·):=by
 by_cases h:gl ns 0=0
 .refine⟨1,by decide,?_⟩
  unfold low
  simp_all
 .have:=Jj ns 0 (ss 0)
  exact⟨gl _ 0,by omega,(acA h).symm⟩
theorem aaN(ns:BC):low (ns.map (- ·))=(low ns).map (- ·):=by
 have e:gl (ns.map (- ·)) 0=gl ns 0:=by
  rw[<-acj ns];grind
 unfold low;rw[e];split
 .rfl
 .rw[cj,cj]
  refine dy λx hx=>?_;exact Int.neg_ediv_of_dvd ((kF _ 0).2 x hx)
def B2(x0 y0 w0 x1 y1 w1:Int):BC:=[-(y1*w0-y0*w1),x1*w0-x0*w1,x0*y1-y0*x1]
def N3(x0 y0 z0 w0 x1 y1 z1 w1 x2 y2 z2 w2:Int):BC:=[(y1*w0-y0*w1)*(z2*w0-z0*w2)-(z1*w0-z0*w1)*(y2*w0-y0*w2),(z1*w0-z0*w1)*(x2*w0-x0*w2)-(x1*w0-x0*w1)*(z2*w0-z0*w2),(x1*w0-x0*w1)*(y2*w0-y0*w2)-(y1*w0-y0*w1)*(x2*w0-x0*w2)]
theorem adO {S:aF}(h:iQ G S):cH G g me (x::r) ρ S=(match g x ρ with
  |none=>.fail
  |some ρ1=>match me ρ1 S with
   |.ok (.pv y) S1=>match cH G g me r ρ1 S1 with
    |.ok ys S2=>.ok (y::ys) S2
    |_=>.fail
   |_=>.fail):=by
 rw[cH,if_pos h]
theorem aaU {S:aF}(h:iQ G S):cH G g me [] ρ S=.ok [] S:=by
 rw[cH,if_pos h]
theorem Lr(a b c x0 y0 w0 x1 y1 w1 x2 y2 w2:Int):D2 (a*x0) (a*y0) (a*w0) (b*x1) (b*y1) (b*w1) (c*x2) (c*y2) (c*w2)=a*b*c*D2 x0 y0 w0 x1 y1 w1 x2 y2 w2:=by
 unfold D2;grind
theorem Ct(a b c d x0 y0 z0 w0 x1 y1 z1 w1 x2 y2 z2 w2 x3 y3 z3 w3:Int):D3 (a*x0) (a*y0) (a*z0) (a*w0) (b*x1) (b*y1) (b*z1) (b*w1) (c*x2) (c*y2) (c*z2) (c*w2) (d*x3) (d*y3) (d*z3) (d*w3)=a*b*c*d*D3 x0 y0 z0 w0 x1 y1 z1 w1 x2 y2 z2 w2 x3 y3 z3 w3:=by
 unfold D3;grind
structure R2(x y w X Y D:Int):Prop where
 pos:0<w
 dos:0<D
 ex:x*D=X*w
 ey:y*D=Y*w
theorem Pq.p2 (P:Pq 2 k [x,y] w)(h:k<=1000):P2 x y w:=⟨(P.bx x 1#d).mono h,(P.bx y 1#d).mono h,P.bw.mono h,P.pos⟩
theorem Pq.p3 {x y z w:Int}(P:Pq 3 k [x,y,z] w)(h:k<=1000):P3 x y z w:=⟨(P.bx x 1#d).mono h,(P.bx y 1#d).mono h,(P.bx z 1#d).mono h,P.bw.mono h,P.pos⟩
def jF:BK->Int
 |[.tup [.int x0,.int y0,.int w0],.tup [.int x1,.int y1,.int w1],.tup [.int x2,.int y2,.int w2]]=>sg (D2 x0 y0 w0 x1 y1 w1 x2 y2 w2)
 |[.tup [.int x0,.int y0,.int z0,.int w0],.tup [.int x1,.int y1,.int z1,.int w1],.tup [.int x2,.int y2,.int z2,.int w2],.tup [.int x3,.int y3,.int z3,.int w3]]=>sg (D3 x0 y0 z0 w0 x1 y1 z1 w1 x2 y2 z2 w2 x3 y3 z3 w3)
 |_=>0
theorem acB (hn:n=2\/n=3){A:PV}{L:BK}(S:aF)(hl:L.length=n+1)(hg:∀v∈L,Gp n 1000 v)(hA:Sv A L):qG [.pv A] S=.ok (.pv (.int (jF L))) S:=by
 rcases hn with rfl |rfl
 .obtain⟨P,Q,R,rfl⟩:=len3 hl
  obtain⟨x0,y0,w0,rfl,p⟩:=(hg P 1#d).two;obtain⟨x1,y1,w1,rfl,q⟩:=(hg Q 1#d).two;obtain⟨x2,y2,w2,rfl,r⟩:=(hg R 1#d).two;exact aa3 S hA p q r
 .obtain⟨P,Q,R,T,rfl⟩:=len4 hl
  obtain⟨x0,y0,z0,w0,rfl,p⟩:=(hg P 1#d).three;obtain⟨x1,y1,z1,w1,rfl,q⟩:=(hg Q 1#d).three;obtain⟨x2,y2,z2,w2,rfl,r⟩:=(hg R 1#d).three;obtain⟨x3,y3,z3,w3,rfl,s⟩:=(hg T 1#d).three;exact abM S hA p q r s
theorem Wz(D:Int):sg (-D)=-sg D:=by
 unfold sg;grind
abbrev tv(us:BC):PV:=.tup (us.map .int)
def Gu(n k:Nat)(us:BC):Prop:=∃xs w,us=xs++[w]/\Pq n k xs w
theorem Gu.gp (h:Gu n k us):Gp n k (tv us):=by
 obtain⟨xs,w,rfl,P⟩:=h;exact⟨xs,w,rfl,P⟩
theorem Gu.ne (h:Gu n k us):us≠[]:=by
 obtain⟨xs,w,rfl,P⟩:=h;simp
theorem Yk {uss:BD}(h:∀us∈uss,Gu n k us):∀v∈uss.map tv,Gp n k v:=λv hv=>by
 obtain⟨us,hu,rfl⟩:=ca.mp hv;exact(h _ hu).gp
theorem Ln:∀uss:BD,iV (uss.map tv)=some uss
 |[]=>rfl
 |us::uss=>by
  have ih:=Ln uss;show(match kD _,iV _ with |some _,some _=>some _ |_,_=>none)=_
  rw[ih,Ud]
def fA(uss:BD):BD:=dA HT.lexLt uss
theorem sC{uss:BD}(h:uss.length=3\/uss.length=4):(fA uss).Perm uss/\True:=⟨jJ _,trivial⟩
theorem Sw(x y:BC):∀l,ins HT.lexLt x (ins HT.lexLt y l)=ins HT.lexLt y (ins HT.lexLt x l)
 |[]=>by
  simp only[ins];have:=vD x y;have:=@yV x y;have:=@yV y x;grind
 |z::l=>by
  have ih:=Sw x y l;have:=vD x y;have:=@yV x y;have:=@yV y x;have:=pV x y z;have:=pV y x z;simp only[ins];split<;>split<;>simp only[ins]<;>grind
theorem Q5{A B:BD}(hp:A.Perm B)(h:B.length=3\/B.length=4):fA A=fA B:=by
 clear h;unfold fA
 induction hp with
 |nil=>rfl
 |cons x _ ih=>simp only[dA,ih]
 |swap x y l=>exact Sw _ _ _
 |trans _ _ i1 i2=>exact i1.trans i2
def rH{α:Type}:List α->List α
 |[a,b,c]=>[a,c,b]
 |[a,b,c,d]=>[a,b,d,c]
 |l=>l
theorem Ex (f:α->β)(l:List α):(rH l).map f=rH (l.map f):=by
 rcases l with _ |⟨a,_ |⟨b,_ |⟨c,_ |⟨d,_ |⟨e,l⟩⟩⟩⟩⟩<;>rfl
theorem aaC (l:List α):(rH l).Perm l:=by
 unfold rH;split
 .exact .cons _ (.swap _ _ _)
 .exact .cons _ (.cons _ (.swap _ _ _))
 .simp_all
def dU:BD->Int
 |[[x0,y0,w0],[x1,y1,w1],[x2,y2,w2]]=>D2 x0 y0 w0 x1 y1 w1 x2 y2 w2
 |[[x0,y0,z0,w0],[x1,y1,z1,w1],[x2,y2,z2,w2],[x3,y3,z3,w3]]=>D3 x0 y0 z0 w0 x1 y1 z1 w1 x2 y2 z2 w2 x3 y3 z3 w3
 |_=>0
theorem Gu.two (h:Gu 2 k us)(hk:k<=1000):∃x y w,us=[x,y,w]/\P2 x y w:=by
 obtain⟨xs,w,rfl,P⟩:=h
 obtain⟨x,y,rfl⟩:=len2 P.len;exact⟨x,y,w,rfl,P.p2 hk⟩
theorem Gu.three (h:Gu 3 k us)(hk:k<=1000):∃x y z w,us=[x,y,z,w]/\P3 x y z w:=by
 obtain⟨xs,w,rfl,P⟩:=h
 obtain⟨x,y,z,rfl⟩:=len3 P.len;exact⟨x,y,z,w,rfl,P.p3 hk⟩
theorem qK (hn:n=2\/n=3)(hk:k<=1000){uss:BD}(hl:uss.length=n+1)(hg:∀us∈uss,Gu n k us):jF (uss.map tv)=sg (dU uss):=by
 rcases hn with rfl |rfl
 .obtain⟨a,b,c,rfl⟩:=len3 hl
  obtain⟨x0,y0,w0,rfl,_⟩:=(hg a 1#d).two hk;obtain⟨x1,y1,w1,rfl,_⟩:=(hg b 1#d).two hk;obtain⟨x2,y2,w2,rfl,_⟩:=(hg c 1#d).two hk;rfl
 .obtain⟨a,b,c,d,rfl⟩:=len4 hl
  obtain⟨x0,y0,z0,w0,rfl,_⟩:=(hg a 1#d).three hk;obtain⟨x1,y1,z1,w1,rfl,_⟩:=(hg b 1#d).three hk;obtain⟨x2,y2,z2,w2,rfl,_⟩:=(hg c 1#d).three hk;obtain⟨x3,y3,z3,w3,rfl,_⟩:=(hg d 1#d).three hk;rfl
def Pw(n:Nat)(us:BC):Prop:=∃xs w,us=xs++[w]/\xs.length=n/\0<w
theorem Pw.two (h:Pw 2 us):∃x y w,us=[x,y,w]/\0<w:=by
 obtain⟨xs,w,rfl,l,p⟩:=h
 obtain⟨x,y,rfl⟩:=len2 l;exact⟨x,y,w,rfl,p⟩
theorem Pw.three (h:Pw 3 us):∃x y z w,us=[x,y,z,w]/\0<w:=by
 obtain⟨xs,w,rfl,l,p⟩:=h
 obtain⟨x,y,z,rfl⟩:=len3 l;exact⟨x,y,z,w,rfl,p⟩
theorem Gu.pt (h:Gu n k us):Pw n us:=by
 obtain⟨xs,w,e,P⟩:=h;exact⟨xs,w,e,P.len,P.pos⟩
theorem dU2{x0 y0 w0 x1 y1 w1 x2 y2 w2:Int}:dU [[x0,y0,w0],[x1,y1,w1],[x2,y2,w2]]=D2 x0 y0 w0 x1 y1 w1 x2 y2 w2:=rfl
theorem I0{x0 y0 z0 w0 x1 y1 z1 w1 x2 y2 z2 w2 x3 y3 z3 w3:Int}:dU [[x0,y0,z0,w0],[x1,y1,z1,w1],[x2,y2,z2,w2],[x3,y3,z3,w3]]=D3 x0 y0 z0 w0 x1 y1 z1 w1 x2 y2 z2 w2 x3 y3 z3 w3:=rfl
theorem ac7{n:Nat}(hn:n=2\/n=3){pre l:BD}{x y:BC}(hl:(pre++y::x::l).length=n+1)(hp:∀u∈pre++y::x::l,Pw n u):dU (pre++x::y::l)=-dU (pre++y::x::l):=by
 have hx:=hp x 1#d;have hy:=hp y 1#d;rcases hn with rfl |rfl
 .obtain⟨x0,y0,w0,rfl,_⟩:=hx.two
  obtain⟨x1,y1,w1,rfl,_⟩:=hy.two;have fin:∀c∈pre++l,∃x y w,c=[x,y,w]:=λc hc=>by
   obtain⟨x,y,w,e,_⟩:=(hp c (by simp at hc⊢;rcases hc with h |h<;>simp[h])).two;exact⟨x,y,w,e⟩
  match pre,l,hl,fin with
  |[],[c],_,fin |[c],[],_,fin=>
   obtain⟨x2,y2,w2,rfl⟩:=fin c 1#d;simp only[iw,lg,dU2,D2];grind
  |[],[],h,_=>simp at h
  |[],_::_::_,h,_=>simp at h
  |_::_::_,_,h,_=>simp at h;omega
  |[_],_::_,h,_=>simp at h
 .obtain⟨x0,y0,z0,w0,rfl,_⟩:=hx.three
  obtain⟨x1,y1,z1,w1,rfl,_⟩:=hy.three;have fin:∀c∈pre++l,∃x y z w,c=[x,y,z,w]:=λc hc=>by
   obtain⟨x,y,z,w,e,_⟩:=(hp c (by simp at hc⊢;rcases hc with h |h<;>simp[h])).three;exact⟨x,y,z,w,e⟩
  match pre,l,hl,fin with
  |[],[c,d],_,fin |[c],[d],_,fin |[c,d],[],_,fin=>
   obtain⟨x2,y2,z2,w2,rfl⟩:=fin c 1#d;obtain⟨x3,y3,z3,w3,rfl⟩:=fin d 1#d;simp only[iw,lg,I0,D3];grind
  |[],[],h,_=>simp at h
  |[],[_],h,_=>simp at h
  |[],_::_::_::_,h,_=>simp at h
  |[_],[],h,_=>simp at h
  |[_],_::_::_,h,_=>simp at h
  |[_,_],_::_,h,_=>simp at h
  |_::_::_::_,_,h,_=>simp at h;omega
theorem aco (hn:n=2\/n=3){A B:BD}(h:A.Perm B):∀pre:BD,(pre++A).length=n+1->(∀u∈pre++A,Pw n u)->dU (pre++B)=dU (pre++A)\/dU (pre++B)=-dU (pre++A):=by
 induction h with
 |nil=>exact λpre _ _=>.inl rfl
 |cons x _ ih=>
  intro pre hl hp;have:=ih (pre++[x]) (by simpa using hl) (by simpa using hp);simpa using this
 |swap x y l=>exact λpre hl hp=>.inr (ac7 hn hl hp)
 |trans h1 h2 ih1 ih2=>
  intro pre hl hp;have q1:=ih1 pre hl hp;have q2:=ih2 pre (by rw[<-(h1.append_left pre).length_eq];exact hl) λu hu=>hp u ((h1.append_left pre).mem_iff.mpr hu);omega
theorem Jw{n k:Nat}(hn:n=2\/n=3)(hk:k<=1000){uss:BD}(hl:uss.length=n+1)(hg:∀us∈uss,Gu n k us):dU (fA uss)=dU uss\/dU (fA uss)=-dU uss:=
 aco hn (sC 1#a).1.symm [] hl λu hu=>(hg u hu).pt
theorem wB (hn:n=2\/n=3){uss:BD}(hl:uss.length=n+1):uss.length=3\/uss.length=4:=by
 simp_all
theorem abR{n:Nat}(hn:n=2\/n=3){uss:BD}(hl:uss.length=n+1)(hg:∀us∈uss,Gu n 1000 us):jF ((fA uss).map tv)=jF (uss.map tv)\/jF ((fA uss).map tv)=-jF (uss.map tv):=by
 have hp:=(sC (wB hn hl)).1;rw[qK hn (aj 1000) (by rw[hp.length_eq,hl]) (λus hu=>hg us (hp.subset hu)),qK hn (aj 1000) hl hg];rcases Jw hn (aj 1000) hl hg with e |e
 .exact .inl (by rw[e])
 .exact .inr (by rw[e,Wz])
theorem Qv (hn:n=2\/n=3){A:PV}{L:BK}(S:aF)(hl:L.length=n+1)(hg:∀v∈L,Gp n 1000 v)(hA:Sv A L):∃d:Int,oW [.pv A] S=.ok (.pv (.int d)) S/\sg d=jF L:=by
 rcases hn with rfl |rfl
 .obtain⟨P,Q,R,rfl⟩:=len3 hl
  obtain⟨x0,y0,w0,rfl,p⟩:=(hg P 1#d).two;obtain⟨x1,y1,w1,rfl,q⟩:=(hg Q 1#d).two;obtain⟨x2,y2,w2,rfl,r⟩:=(hg R 1#d).two;exact⟨_,abO S hA p q r,vX p.pos⟩
 .obtain⟨P,Q,R,T,rfl⟩:=len4 hl
  obtain⟨x0,y0,z0,w0,rfl,p⟩:=(hg P 1#d).three;obtain⟨x1,y1,z1,w1,rfl,q⟩:=(hg Q 1#d).three;obtain⟨x2,y2,z2,w2,rfl,r⟩:=(hg R 1#d).three;obtain⟨x3,y3,z3,w3,rfl,s⟩:=(hg T 1#d).three;exact⟨_,abh S hA p q r s,vX (bf p.pos p.pos)⟩
def gU(uss:BD):BD:=if jF ((fA uss).map tv)<0 then rH (fA uss)else fA uss
theorem C5 (hn:n=2\/n=3){L:BK}(hl:L.length=n+1):∃a b M,lC (.lst L) none (some (-2))=some (.lst M)/\aE (.lst L) (.int (-1))=some a/\aE (.lst L) (.int (-2))=some b/\bF (.lst M) (.lst [a,b])=some (.lst (rH L)):=by
 rcases hn with rfl |rfl
 .obtain⟨P,Q,R,rfl⟩:=len3 hl;exact⟨R,Q,[P],rfl,rfl,rfl,rfl⟩
 .obtain⟨P,Q,R,T,rfl⟩:=len4 hl;exact⟨T,R,[P,Q],rfl,rfl,rfl,rfl⟩
theorem E2{n k:Nat}(hn:n=2\/n=3)(hk:k<=1000){uss:BD}(hl:uss.length=n+1)(hg:∀us∈uss,Gu n k us)(nz:dU uss≠0):uss.Nodup:=by
 rcases hn with rfl |rfl
 .obtain⟨a,b,c,rfl⟩:=len3 hl
  obtain⟨x0,y0,w0,rfl,_⟩:=(hg a 1#d).two hk;obtain⟨x1,y1,w1,rfl,_⟩:=(hg b 1#d).two hk;obtain⟨x2,y2,w2,rfl,_⟩:=(hg c 1#d).two hk;have nz:D2 x0 y0 w0 x1 y1 w1 x2 y2 w2≠0:=nz;unfold D2 at nz;clear hg;simp only[jc,br,fm,AN];grind
 .obtain⟨a,b,c,d,rfl⟩:=len4 hl
  obtain⟨x0,y0,z0,w0,rfl,_⟩:=(hg a 1#d).three hk;obtain⟨x1,y1,z1,w1,rfl,_⟩:=(hg b 1#d).three hk;obtain⟨x2,y2,z2,w2,rfl,_⟩:=(hg c 1#d).three hk;obtain⟨x3,y3,z3,w3,rfl,_⟩:=(hg d 1#d).three hk;have nz:D3 x0 y0 z0 w0 x1 y1 z1 w1 x2 y2 z2 w2 x3 y3 z3 w3≠0:=nz;unfold D3 at nz;clear hg;simp only[jc,br,fm,AN];grind
theorem Mo{A:PV}{uss:BD}(hl:uss.length=3\/uss.length=4)(hA:Sv A (uss.map tv))(hne:∀us∈uss,us≠[])(nd:uss.Nodup):mS [A]=some (.lst ((fA uss).map tv)):=by
 have e:jA (uss.map tv)=some (.lst ((fA uss).map tv)):=by
  unfold jA;rw[Ln];dsimp only;rw[if_pos ⟨by omega,nd,λh=>hne _ h rfl⟩];rfl
 rcases hA with rfl |rfl<;>exact e
theorem Vm{n:Nat}(hn:n=2\/n=3){A:PV}{uss:BD}(S:aF)(hl:uss.length=n+1)(hg:∀us∈uss,Gu n 1000 us)(hA:Sv A (uss.map tv))(nz:dU uss≠0):pT [.pv A] S=.ok (.pv (.tup ((gU uss).map tv))) S:=by
 have h34:uss.length=3\/uss.length=4:=by omega
 have e1:=Mo h34 hA (λus hu=>(hg us hu).ne) (E2 hn (aj 1000) hl hg nz);obtain⟨pm,_⟩:=sC h34;have hl2:((fA uss).map tv).length=n+1:=by rw[ak,pm.length_eq];exact hl
 have hg2:∀v∈(fA uss).map tv,Gp n 1000 v:=Yk λus hu=>hg us (pm.subset hu);obtain⟨d,e2,hd⟩:=Qv (A:=.lst ((fA uss).map tv)) hn S hl2 hg2 (.inl rfl);obtain⟨a,b,M,t1,t2,t3,t4⟩:=C5 hn hl2;unfold gU;have hlt:d<0↔jF ((fA uss).map tv)<0:=by
  rw[<-hd];unfold sg;split
  .omega
  .split<;>omega
 by_cases h:d<0
 .rw[if_pos (hlt.mp h),Ex]
  generalize (fA uss).map tv=L at *;unfold pT aI xX;simp! [-bF,e1,e2,h,dW,dF,dN,gO,t1,t2,t3,t4]
 .rw[if_neg (λz=>h (hlt.mpr z))]
  generalize (fA uss).map tv=L at *;unfold pT aI xX;simp! [-bF,e1,e2,h]
theorem V4{n:Nat}(hn:n=2\/n=3){A:PV}{uss:BD}(S:aF)(hl:uss.length=n+1)(hg:∀us∈uss,Gu n 1000 us)(hA:Sv A (uss.map tv))(h0:jF (uss.map tv)≠0):rX [.pv A] S=.ok (.pv (.tup ((gU uss).map tv))) S:=by
 have h34:uss.length=3\/uss.length=4:=by omega
 have e1:=Mo h34 hA (λus hu=>(hg us hu).ne) (E2 hn (aj 1000) hl hg (λz=>h0 (by rw[qK hn (aj 1000) hl hg,z];rfl)));obtain⟨pm,_⟩:=sC h34;have hl2:((fA uss).map tv).length=n+1:=by rw[ak,pm.length_eq];exact hl
 have hg2:∀v∈(fA uss).map tv,Gp n 1000 v:=Yk λus hu=>hg us (pm.subset hu);have e2:=acB (A:=.lst ((fA uss).map tv)) hn S hl2 hg2 (.inl rfl);have h1:jF ((fA uss).map tv)≠0:=by rcases abR hn hl hg with e |e<;>omega
 obtain⟨a,b,M,t1,t2,t3,t4⟩:=C5 hn hl2;unfold gU
 by_cases h:jF ((fA uss).map tv)<0
 .rw[if_pos h,Ex]
  generalize (fA uss).map tv=L at *;generalize jF L=D at *;unfold rX aI yJ;simp! [-bF,e1,e2,h,h1,dW,dF,dN,gO,t1,t2,t3,t4]
 .rw[if_neg h]
  generalize (fA uss).map tv=L at *;generalize jF L=D at *;unfold rX aI yJ;simp! [-bF,e1,e2,h,h1]
theorem Df{uss:BD}(h:uss.length=3\/uss.length=4):(gU uss).Perm uss:=by
 obtain⟨pm,_⟩:=sC h;unfold gU;split
 .exact(aaC _).trans pm
 .exact pm
theorem ad8{uss:BD}(h:uss.length=3\/uss.length=4):gU (gU uss)=gU uss:=by
 have e:=Q5 (Df h) h;unfold gU at e⊢;rw[e]
theorem afn {k j:Nat}{xs:BK}{v:PV}(hS:S[k]?=some (.lst xs))(hv:xs[j]?=some v)(hj:j<1000):tD k [.pv (.int (j:Int))] S=.ok (.pv v) (S.set k (.lst (xs.eraseIdx j))):=by
 have hl:=(cf.mp hv).1;have e:seqIndex? j xs.length=some j:=by
  unfold seqIndex?;have h1:¬((j:Int)<0):=by omega
  have h2:(decide (0<=(j:Int))&&decide (j<(xs.length:Int)))=true:=by
   grind
  simp only[h1,if_false];rw[if_pos h2,tj]
 unfold tD;dsimp only;rw[if_pos ⟨by omega,by omega⟩,hS];dsimp only;rw[e];dsimp only;rw[hv]
def wU:BD->Int
 |[]=>1
 |us::r=>us.getLastD 0*wU r
theorem Gu.mono {us:BC}(h:Gu n k us)(hl:k<=l):Gu n l us:=by
 obtain⟨xs,w,e,P⟩:=h;exact⟨xs,w,e,P.mono hl⟩
theorem Wu:sg d=0↔d=0:=by
 unfold sg;grind
theorem B5:sg d<0↔d<0:=by
 unfold sg;grind
theorem afg (hn:n=2\/n=3)(hk:k<=1000){uss:BD}(hl:uss.length=n+1)(hg:∀us∈uss,Gu n k us):dU (rH uss)=-dU uss:=by
 rcases hn with rfl |rfl
 .obtain⟨a,b,c,rfl⟩:=len3 hl
  obtain⟨x0,y0,w0,rfl,_⟩:=(hg a 1#d).two hk;obtain⟨x1,y1,w1,rfl,_⟩:=(hg b 1#d).two hk;obtain⟨x2,y2,w2,rfl,_⟩:=(hg c 1#d).two hk;show D2 x0 y0 w0 x2 y2 w2 x1 y1 w1=-(D2 x0 y0 w0 x1 y1 w1 x2 y2 w2);unfold D2;grind
 .obtain⟨a,b,c,d,rfl⟩:=len4 hl
  obtain⟨x0,y0,z0,w0,rfl,_⟩:=(hg a 1#d).three hk;obtain⟨x1,y1,z1,w1,rfl,_⟩:=(hg b 1#d).three hk;obtain⟨x2,y2,z2,w2,rfl,_⟩:=(hg c 1#d).three hk;obtain⟨x3,y3,z3,w3,rfl,_⟩:=(hg d 1#d).three hk;show D3 x0 y0 z0 w0 x1 y1 z1 w1 x3 y3 z3 w3 x2 y2 z2 w2=-(D3 x0 y0 z0 w0 x1 y1 z1 w1 x2 y2 z2 w2 x3 y3 z3 w3);unfold D3;grind
theorem Fh{n k:Nat}(hn:n=2\/n=3)(hk:k<=1000){uss:BD}(hl:uss.length=n+1)(hg:∀us∈uss,Gu n k us):dU (gU uss)=((dU uss).natAbs:Int):=by
 have hp:=(sC (wB hn hl)).1;have gs:∀us∈fA uss,Gu n k us:=λus hu=>hg us (hp.subset hu);have ls:(fA uss).length=n+1:=by rw[hp.length_eq,hl]
 have e:=Jw hn hk hl hg;have s:=afg hn hk ls gs;have q:=qK hn hk ls gs;unfold gU;split
 .rename_i h
  rw[q,B5]at h;rw[s];omega
 .rename_i h
  rw[q,B5]at h;omega
theorem qO:∀{uss:BD},(∀us∈uss,Gu n k us)->0<wU uss
 |[],_=>by decide
 |us::r,h=>by
  obtain⟨xs,w,rfl,P⟩:=h _ av;refine bf ?_ (qO λu hu=>h u (bh _ hu));rw[show(xs++[w]).getLastD 0=w by simp];exact P.pos
structure Sx(n k:Nat)(uss:BD):Prop where
 len:uss.length=n+1
 gu:∀us∈uss,Gu n k us
 nz:dU uss≠0
 cn:gU uss=uss
abbrev px(uss:BD):PV:=.tup (uss.map tv)
theorem A2 (hn:n=2\/n=3)(hk:k<=1000){uss:BD}(hl:uss.length=n+1)(hg:∀us∈uss,Gu n k us)(nz:dU uss≠0):Sx n k (gU uss):=by
 have hp:=Df (wB hn hl);refine⟨by rw[hp.length_eq,hl],λus hu=>hg _ (hp.subset hu),?_,ad8 (wB hn hl)⟩;rw[Fh hn hk hl hg];omega
def kL(n:Nat)(A C:Nat->Int)(E:Int)(us us':BC):Prop:=∃xs w xs' w',us=xs++[w]/\us'=xs'++[w']/\xs.length=n/\xs'.length=n/\0<w/\0<w'/\∀j,j<n->xs'.getD j 0*(E*w)=(A j*xs.getD j 0+C j*w)*w'
theorem kL.two {us us':BC}(h:kL 2 A C E us us'):∃x y w x' y' w',us=[x,y,w]/\us'=[x',y',w']/\x'*(E*w)=(A 0*x+C 0*w)*w'/\y'*(E*w)=(A 1*y+C 1*w)*w':=by
 obtain⟨xs,w,xs',w',rfl,rfl,l,l',_,_,h⟩:=h
 obtain⟨x,y,rfl⟩:=len2 l;obtain⟨x',y',rfl⟩:=len2 l';exact⟨x,y,w,x',y',w',rfl,rfl,h 0 1#b,h 1 1#b⟩
theorem kL.three {us us':BC}(h:kL 3 A C E us us'):∃x y z w x' y' z' w',us=[x,y,z,w]/\us'=[x',y',z',w']/\x'*(E*w)=(A 0*x+C 0*w)*w'/\y'*(E*w)=(A 1*y+C 1*w)*w'/\z'*(E*w)=(A 2*z+C 2*w)*w':=by
 obtain⟨xs,w,xs',w',rfl,rfl,l,l',_,_,h⟩:=h
 obtain⟨x,y,z,rfl⟩:=len3 l;obtain⟨x',y',z',rfl⟩:=len3 l';exact⟨x,y,z,w,x',y',z',w',rfl,rfl,h 0 1#b,h 1 1#b,h 2 1#b⟩
theorem agf(a b c d E x0 y0 w0 x1 y1 w1 x2 y2 w2:Int):D2 (a*x0+c*w0) (b*y0+d*w0) (E*w0) (a*x1+c*w1) (b*y1+d*w1) (E*w1) (a*x2+c*w2) (b*y2+d*w2) (E*w2)=a*b*E*D2 x0 y0 w0 x1 y1 w1 x2 y2 w2:=by
 unfold D2;grind
theorem afY(a b p c d e E x0 y0 z0 w0 x1 y1 z1 w1 x2 y2 z2 w2 x3 y3 z3 w3:Int):D3 (a*x0+c*w0) (b*y0+d*w0) (p*z0+e*w0) (E*w0) (a*x1+c*w1) (b*y1+d*w1) (p*z1+e*w1) (E*w1) (a*x2+c*w2) (b*y2+d*w2) (p*z2+e*w2) (E*w2) (a*x3+c*w3) (b*y3+d*w3) (p*z3+e*w3) (E*w3)=a*b*p*E*D3 x0 y0 z0 w0 x1 y1 z1 w1 x2 y2 z2 w2 x3 y3 z3 w3:=by
 unfold D3;grind
theorem cm(a b:Int){c:Int}(h:a*b=c):b*a=c:=by rw[fe];exact h
theorem Ak {P Q R P' Q' R':BC}(h0:kL 2 A C E P P')(h1:kL 2 A C E Q Q')(h2:kL 2 A C E R R'):dU [P',Q',R']*(E*E*E*wU [P,Q,R])=A 0*A 1*E*dU [P,Q,R]*wU [P',Q',R']:=by
 obtain⟨x0,y0,w0,X0,Y0,W0,rfl,rfl,p,q⟩:=h0.two;obtain⟨x1,y1,w1,X1,Y1,W1,rfl,rfl,p1,q1⟩:=h1.two;obtain⟨x2,y2,w2,X2,Y2,W2,rfl,rfl,p2,q2⟩:=h2.two;have e:=Lr (E*w0) (E*w1) (E*w2) X0 Y0 W0 X1 Y1 W1 X2 Y2 W2;have f:=Lr W0 W1 W2 (A 0*x0+C 0*w0) (A 1*y0+C 1*w0) (E*w0) (A 0*x1+C 0*w1) (A 1*y1+C 1*w1) (E*w1) (A 0*x2+C 0*w2) (A 1*y2+C 1*w2) (E*w2);rw[agf]at f;rw[cm _ _ p,cm _ _ q,cm _ _ p1,cm _ _ q1,cm _ _ p2,cm _ _ q2,fe _ W0,fe _ W0,fe _ W0,fe _ W1,fe _ W1,fe _ W1,fe _ W2,fe _ W2,fe _ W2]at e;have g:=e.symm.trans f;show D2 X0 Y0 W0 X1 Y1 W1 X2 Y2 W2*(E*E*E*(w0*(w1*(w2*1))))=A 0*A 1*E*D2 x0 y0 w0 x1 y1 w1 x2 y2 w2*(W0*(W1*(W2*1)));clear e f p q p1 q1 p2 q2 h0 h1 h2;grind
theorem Yj{A C:Nat->Int}{E:Int}{P Q R T P' Q' R' T':BC}(h0:kL 3 A C E P P')(h1:kL 3 A C E Q Q')(h2:kL 3 A C E R R')(h3:kL 3 A C E T T'):dU [P',Q',R',T']*(E*E*E*E*wU [P,Q,R,T])=A 0*A 1*A 2*E*dU [P,Q,R,T]*wU [P',Q',R',T']:=by
 obtain⟨x0,y0,z0,w0,X0,Y0,Z0,W0,rfl,rfl,p,q,r⟩:=h0.three;obtain⟨x1,y1,z1,w1,X1,Y1,Z1,W1,rfl,rfl,p1,q1,r1⟩:=h1.three;obtain⟨x2,y2,z2,w2,X2,Y2,Z2,W2,rfl,rfl,p2,q2,r2⟩:=h2.three;obtain⟨x3,y3,z3,w3,X3,Y3,Z3,W3,rfl,rfl,p3,q3,r3⟩:=h3.three;have e:=Ct (E*w0) (E*w1) (E*w2) (E*w3) X0 Y0 Z0 W0 X1 Y1 Z1 W1 X2 Y2 Z2 W2 X3 Y3 Z3 W3;have f:=Ct W0 W1 W2 W3 (A 0*x0+C 0*w0) (A 1*y0+C 1*w0) (A 2*z0+C 2*w0) (E*w0) (A 0*x1+C 0*w1) (A 1*y1+C 1*w1) (A 2*z1+C 2*w1) (E*w1) (A 0*x2+C 0*w2) (A 1*y2+C 1*w2) (A 2*z2+C 2*w2) (E*w2) (A 0*x3+C 0*w3) (A 1*y3+C 1*w3) (A 2*z3+C 2*w3) (E*w3);rw[afY]at f;rw[cm _ _ p,cm _ _ q,cm _ _ r,cm _ _ p1,cm _ _ q1,cm _ _ r1,cm _ _ p2,cm _ _ q2,cm _ _ r2,cm _ _ p3,cm _ _ q3,cm _ _ r3]at e;have cW:∀a W:Int,a*W=W*a:=fe;rw[cW _ W0,cW _ W0,cW _ W0,cW _ W0,cW _ W1,cW _ W1,cW _ W1,cW _ W1,cW _ W2,cW _ W2,cW _ W2,cW _ W2,cW _ W3,cW _ W3,cW _ W3,cW _ W3]at e;have g:=e.symm.trans f;show D3 X0 Y0 Z0 W0 X1 Y1 Z1 W1 X2 Y2 Z2 W2 X3 Y3 Z3 W3*(E*E*E*E*(w0*(w1*(w2*(w3*1)))))=A 0*A 1*A 2*E*D3 x0 y0 z0 w0 x1 y1 z1 w1 x2 y2 z2 w2 x3 y3 z3 w3*(W0*(W1*(W2*(W3*1))));generalize D3 X0 Y0 Z0 W0 X1 Y1 Z1 W1 X2 Y2 Z2 W2 X3 Y3 Z3 W3=d at g⊢;generalize D3 x0 y0 z0 w0 x1 y1 z1 w1 x2 y2 z2 w2 x3 y3 z3 w3=d' at g⊢;clear e f p q r p1 q1 r1 p2 q2 r2 p3 q3 r3 h0 h1 h2 h3 cW;grind
def bJ(way:Int)(f us:BC):BC:=mv way us.dropLast (us.getLastD 0) f.dropLast (f.getLastD 0)
theorem Ih(way:Int)(xs:BC)(w:Int)(ys:BC)(v:Int):bJ way (ys++[v]) (xs++[w])=mv way xs w ys v:=by
 unfold bJ;simp
theorem iF {way:Int}{us f:BC}(hway:way=1\/way=-1)(h:Gu n k us)(g:Gu n l f):Gu n (k+l+1) (bJ way f us)/\kL n (λ_=>way*f.getLastD 0) (λj=>f.getD j 0) (f.getLastD 0) us (bJ way f us):=by
 obtain⟨xs,w,rfl,P⟩:=h;obtain⟨ys,v,rfl,Q⟩:=g;rw[Ih];obtain⟨zs,z,e,Z,hv⟩:=af6 hway P Q;rw[e];refine⟨⟨zs,z,rfl,Z⟩,xs,w,zs,z,rfl,rfl,P.len,Z.len,P.pos,Z.pos,λj hj=>?_⟩;have a:=hv _ _ _ _ (Vl.self n xs w) (Vl.self n ys v) P.pos Q.pos j hj;rw[show(ys++[v]).getLastD 0=v by simp];have eg:(ys++[v]).getD j 0=ys.getD j 0:=by
  have:j<ys.length:=by rw[Q.len];exact hj
  simp[dj,fw this]
 dsimp only at a⊢;rw[eg];generalize ys.getD j 0=y at a⊢;rw[fe v w,a];grind
theorem aeo {us f:BC}(S:aF)(hn:n=2\/n=3)(h:Gu n k us)(g:Gu n l f)(hk:k<=2000)(hl:l<=2000):oG [.pv (tv us),.pv (.tup [.int way,tv f])] S=.ok (.pv (tv (bJ way f us))) S:=by
 obtain⟨xs,w,rfl,P⟩:=h;obtain⟨ys,v,rfl,Q⟩:=g;rw[Ih];exact afe S hn P Q hk hl
theorem aeb {way:Int}{us f:BC}(S:aF)(hn:n=2\/n=3)(hway:way=1\/way=-1)(h:Gu n k us)(g:Gu n l f)(hk:k<=1000)(hl:l<=1000):oM [.pv (tv us),.pv (tv f),.pv (.int way)] S=.ok (.pv (tv (bJ way f us))) S:=by
 obtain⟨xs,w,rfl,P⟩:=h;obtain⟨ys,v,rfl,Q⟩:=g;rw[Ih];exact adJ S hn hway P Q hk hl
theorem aad{a b w v:Int}(hw:0<w)(hv:0<v)(h:a*w=b*v\/a*w=-(b*v)):(a.natAbs:Int)*w=(b.natAbs:Int)*v:=by
 have e:(a*w).natAbs=(b*v).natAbs:=by
  rcases h with h |h
  .rw[h]
  .simp_all
 rw[ql,ql]at e;have e1:(w.natAbs:Nat)=w:=by omega
 have e2:(v.natAbs:Int)=v:=by omega
 have e3:(a.natAbs*w.natAbs:Nat)=((b.natAbs*v.natAbs:Nat):Int):=by rw[e]
 rw[AO,AO,e1,e2]at e3;exact e3
theorem F9{v d d' w w':Int}{way:Int}(hv:0<v)(hway:way=1\/way=-1)(h:d'*(v*v*v*w)=way*v*(way*v)*v*d*w'):d'*w=d*w':=by
 have e:d'*w*(v*v*v)=d*w'*(v*v*v):=by rcases hway with rfl |rfl<;>grind
 exact zZ (bf (bf hv hv) hv) e
theorem ahd{v d d' w w':Int}{way:Int}(hv:0<v)(hway:way=1\/way=-1)(h:d'*(v*v*v*v*w)=way*v*(way*v)*(way*v)*v*d*w'):d'*w=d*w'\/d'*w=-(d*w'):=by
 have p:=bf (bf (bf hv hv) hv) hv;rcases hway with rfl |rfl
 .left
  have e:d'*w*(v*v*v*v)=d*w'*(v*v*v*v):=by grind
  exact zZ p e
 .right
  have e:d'*w*(v*v*v*v)=(-(d*w'))*(v*v*v*v):=by grind
  exact zZ p e
theorem oX {way:Int}{f:BC}{uss:BD}(hway:way=1\/way=-1)(hg:∀us∈uss,Gu n k us)(g:Gu n l f):∀us∈uss.map (bJ way f),Gu n (k+l+1) us:=λus hu=>by
 obtain⟨u,hm,rfl⟩:=ca.mp hu;exact(iF hway (hg u hm) g).1
theorem Gu.lastpos (h:Gu n k f):0<f.getLastD 0:=by
 obtain⟨xs,w,rfl,P⟩:=h;rw[show(xs++[w]).getLastD 0=w by simp];exact P.pos
theorem aem (hn:n=2\/n=3){way:Int}{f:BC}{uss:BD}(hway:way=1\/way=-1)(hl:uss.length=n+1)(hg:∀us∈uss,Gu n k us)(g:Gu n l f):((dU (uss.map (bJ way f))).natAbs:Int)*wU uss=((dU uss).natAbs:Int)*wU (uss.map (bJ way f)):=by
 have hv:=g.lastpos;have p1:=qO hg;have p2:=qO (oX hway hg g);refine aad p1 p2 ?_;rcases hn with rfl |rfl
 .obtain⟨a,b,c,rfl⟩:=len3 hl
  have e:=Ak (iF hway (hg a 1#d) g).2 (iF hway (hg b 1#d) g).2 (iF hway (hg c 1#d) g).2;exact .inl (F9 hv hway e)
 .obtain⟨a,b,c,d,rfl⟩:=len4 hl
  have e:=Yj (iF hway (hg a 1#d) g).2 (iF hway (hg b 1#d) g).2 (iF hway (hg c 1#d) g).2 (iF hway (hg d 1#d) g).2;exact ahd hv hway e
theorem Ab (hn:n=2\/n=3){way:Int}{f:BC}{uss:BD}(hway:way=1\/way=-1)(hl:uss.length=n+1)(hg:∀us∈uss,Gu n k us)(g:Gu n l f)(h:dU uss≠0):dU (uss.map (bJ way f))≠0:=λz=>by
 have e:=aem hn hway hl hg g;have p2:=qO (oX hway hg g);have:(dU uss).natAbs*wU _≠0:=di 1#a (df p2)
 simp_all
theorem oN (hG:iQ G S){me:ME}{tail:cR}{α:Type}(A B:α->PV):∀(L:List α)(x:BN),(∀v∈L,me (some (.pv (A v))::tail) S=.ok (.pv (B v)) S)->cH G (gN 0) me (L.map A) (x::tail) S=.ok (L.map B) S
 |[],x,_=>aaU hG
 |v::L,x,h=>by
  have e:=h v av;have e':=oN hG A B L (some (.pv (A v))) λu hu=>h u (bh _ hu);rw[au,adO hG];simp[gN,e,e']
def cV(way:Int)(f:BC)(uss:BD):BD:=gU (uss.map (bJ way f))
theorem Bi (hn:n=2\/n=3){way:Int}{f:BC}{uss:BD}(hway:way=1\/way=-1)(h:Sx n k uss)(g:Gu n l f)(hk:k+l+1<=1000):Sx n (k+l+1) (cV way f uss):=
 A2 hn hk (by rw[ak];exact h.len) (oX hway h.gu g) (Ab hn hway h.len h.gu g h.nz)
theorem aft (hn:n=2\/n=3){way:Int}{f:BC}(S:aF)(hway:way=1\/way=-1){uss:BD}(h:Sx n k uss)(g:Gu n l f)(hk:k+l+1<=1000):cH [] (gN 0) (aJ oG [] (aB (aA 0) (aB (aA 1) aD))) (uss.map tv) [none,some (.pv (.tup [.int way,tv f]))] S=.ok ((uss.map (bJ way f)).map tv) S:=by
 rw[cj];refine oN (kB S) _ _ _ _ λus hu=>?_;have e:=aeo (way:=way) S hn (h.gu _ hu) g 1#a 1#a;dsimp! [e]
theorem T8{n k l:Nat}(hn:n=2\/n=3){way:Int}{f:BC}(S:aF)(hway:way=1\/way=-1){hs:BE}{A:PV}(hA:Sv A (hs.map px))(h:∀uss∈hs,Sx n k uss)(g:Gu n l f)(hk:k+l+1<=1000):vE [.pv A,.pv (.tup [.int way,tv f])] S=.ok (.pv (.tup ((hs.map (cV way f)).map px))) S:=by
 have e:cH [] (gN 0) (jQ rX [] (aB (bA ["p"] [(1,"move")] (aX (aA 0)) (gN 0) (aJ oG [] (aB (aA 0) (aB (aA 1) aD)))) aD)) (hs.map px) [none,some (.pv (.tup [.int way,tv f]))] S=.ok (hs.map λuss=>px (cV way f uss)) S:=by
  refine oN (kB S) px (λuss=>px (cV way f uss)) hs none λuss hu=>?_;have s:=h uss hu;have e1:=aft hn S hway s g hk;have e2:=V4 hn S (by rw[ak];exact s.len) (λus hu=>(oX hway s.gu g us hu).mono hk) (.inl rfl) (by
   rw[qK hn (k:=k+l+1) hk (by rw[ak];exact s.len) (oX hway s.gu g)];exact λz=>Ab hn hway s.len s.gu g s.nz (Wu.mp z))
  rw[cj]at e1 e2;dsimp! [bA,cC,aX,bT,e1,e2,cV]
 unfold vE aI Bg;rcases hA with rfl |rfl<;>dsimp! [bA,cC,aX,bT,e,cj,Function.comp_def]
theorem Gu.two' (h:Gu 2 k us):∃x y w,us=[x,y,w]/\0<w/\Bd k x/\Bd k y/\Bd k w:=by
 obtain⟨xs,w,rfl,P⟩:=h
 obtain⟨x,y,rfl⟩:=len2 P.len;exact⟨x,y,w,rfl,P.pos,P.bx x 1#d,P.bx y 1#d,P.bw⟩
theorem Gu.three' (h:Gu 3 k us):∃x y z w,us=[x,y,z,w]/\0<w/\Bd k x/\Bd k y/\Bd k z/\Bd k w:=by
 obtain⟨xs,w,rfl,P⟩:=h
 obtain⟨x,y,z,rfl⟩:=len3 P.len;exact⟨x,y,z,w,rfl,P.pos,P.bx x 1#d,P.bx y 1#d,P.bx z 1#d,P.bw⟩
def sh(n:Nat):Int:=if n=2 then 2 else 6
theorem mk {a b:Int}(h:Bd k a)(g:Bd l b)(hk:k<=100000)(hl:l<=100000):aU (.int a) (.int b)=some (.int (a*b)):=mM (.inr ⟨h.mono 1#a,g.mono 1#a⟩)
theorem sq {S S':aF}{r:cO}(h:a ρ S=.nx ρ' S')(g:b ρ' S'=r):aH a b ρ S=r:=by
 rw[aH,h];exact g
theorem pB {b:MS}{xs:BO}{S S':aF}{v:AV}{r:bQ AV}(hl:xs.length=np)(h:b (gW n xs) S=.rt v S')(hc:jB S.length v S'=r):aI np n b xs S=r:=by
 unfold aI;rw[if_pos hl,h];exact hc
theorem yH {me:ME}{α:Type}(A B C:α->PV):∀(L:List α)(x y:BN),(∀v∈L,me [some (.pv (A v)),some (.pv (B v))] S=.ok (.pv (C v)) S)->cH [] (gT 2 (aZ (gN 0) (aZ (gN 1) cJ))) me (L.map λv=>.tup [A v,B v]) [x,y] S=.ok (L.map C) S
 |[],x,y,_=>eG
 |v::L,x,y,h=>by
  have e:=h v av;have e':=yH A B C L (some (.pv (A v))) (some (.pv (B v))) λu hu=>h u (bh _ hu);rw[au,eM];simp[gN,gT,aZ,cJ,e,e']
theorem aho(L:BK){a:Nat}(h:a<=L.length):lC (.lst L) (some (a:Int)) none=some (.lst (L.drop a)):=by
 show some (PV.lst ((L.drop (min a _)).take (L.length-min a _)))=_;rw[ym h,ur (by simp_all)]
abbrev fv(u:Int×Int):PV:=.tup [.int u.1,.int u.2]
def pl(u v:Int×Int):Int×Int:=((fr (u.1*v.2+v.1*u.2) (u.2*v.2)).getD 0 0,(fr (u.1*v.2+v.1*u.2) (u.2*v.2)).getD 1 0)
structure Fq(k:Nat)(u:Int×Int):Prop where
 pos:0<u.2
 b1:Bd k u.1
 b2:Bd k u.2
 lo:ci u.1 u.2=1
theorem Fq.mono {u:Int×Int}(h:Fq k u)(hl:k<=l):Fq l u:=⟨h.pos,h.b1.mono hl,h.b2.mono hl,h.lo⟩
theorem Aj {u v:Int×Int}(h:Fq k u)(g:Fq k v):fr (u.1*v.2+v.1*u.2) (u.2*v.2)=[(pl u v).1,(pl u v).2]/\Fq (2*k+1) (pl u v)/\(pl u v).1*(u.2*v.2)=(u.1*v.2+v.1*u.2)*(pl u v).2:=by
 have nz:=df (bf h.pos g.pos);obtain⟨p,q,e,hq,c⟩:=wE nz;have bt:Bd (2*k+1) (u.1*v.2+v.1*u.2):=by
  have:=(h.b1.mul g.b2).add (g.b1.mul h.b2);grind
 have bb:Bd (2*k+1) _:=(h.b2.mul g.b2).mono 1#a;obtain⟨b3,b4⟩:=wM bt bb e;have ep:pl u v=(p,q):=by unfold pl;rw[e];rfl
 rw[ep];exact⟨e,⟨hq,b3,b4,yA nz e⟩,c⟩
theorem ad5{k:Nat}{u v:Int×Int}(S:aF)(h:Fq k u)(g:Fq k v)(hk:2*k+1<=7000):sW [.pv (fv u),.pv (fv v)] S=.ok (.pv (fv (pl u v))) S:=by
 have nz:u.2*v.2≠0:=df (bf h.pos g.pos);have bt:Bd 7000 (u.1*v.2+v.1*u.2):=by
  have:=(h.b1.mul g.b2).add (g.b1.mul h.b2);exact this.mono 1#a
 have e:=Rc (u.1*v.2+v.1*u.2) (u.2*v.2) S bt ((h.b2.mul g.b2).mono 1#a) nz;rw[(Aj h g).1]at e;have m1:=mk h.b1 g.b2 1#a 1#a;have m2:=mk g.b1 h.b2 1#a 1#a;have m3:=mk h.b2 g.b2 1#a 1#a;unfold sW aI Li;dsimp! [m1,m2,m3,e]
def dD:List 1#h->List 1#h
 |a::b::L=>pl a b::dD L
 |L=>L
abbrev Nb:MS:=(aH (aP 1 (bA ["one","other"] [] (iB (aB (rD (aA 0) dF dF (2)) (aB (rD (aA 0) (dN 1#c) dF (2)) aD))) (gT 2 (aZ (gN 0) (aZ (gN 1) cJ))) (aJ sW [] (aB (aA 0) (aB (aA 1) aD)))))
 (aP 0 (aC bF (aA 1) (dW (aA 0) (dN (aC aU (mC (.int 2)) (mR cE (aB (aA 1) aD)))) dF))))
def ev{α:Type}:List α->List α
 |a::_::L=>a::ev L
 |L=>L
def od{α:Type}:List α->List α
 |_::b::L=>b::od L
 |_=>[]
def fJ:List 1#h->List (1#h×1#h)
 |a::b::L=>(a,b)::fJ L
 |_=>[]
theorem D8:∀L:List α,(ck ((L.length+1)/2)).filterMap (λk=>L[2*k]?)=ev L
 |[]=>by simp[ev]
 |[a]=>by simp[ev]
 |a::b::L=>by
  have h:((a::b::L).length+1)/2=(L.length+1)/2+1:=by grind
  have ih:=D8 L;rw[h,AQ,kd,uv];show a::_=a::ev L;rw[<-ih];rfl
theorem B7:∀L:List α,(ck (L.length/2)).filterMap (λk=>L[2*k+1]?)=od L
 |[]=>by simp[od]
 |[a]=>by simp[od]
 |a::b::L=>by
  have h:(a::b::L).length/2=L.length/2+1:=by grind
  have ih:=B7 L;rw[h,AQ,kd,uv];show b::_=b::od L;rw[<-ih];rfl
theorem agS (L:List α):kH L none none 2=ev L:=by
 rw[<-D8];unfold kH sliceBounds sliceRange;simp only[yh];have h:(if(2:Int)>0 then if(if(2:Int)>0 then 0 else(L.length:Int)-1)<(if(2:Int)>0 then(L.length:Int)else-1)then((if(2:Int)>0 then(L.length:Int)else-1)-(if(2:Int)>0 then 0 else(L.length:Int)-1)+2-1)/2 else 0 else if(if(2:Int)>0 then 0 else(L.length:Int)-1)>(if(2:Int)>0 then(L.length:Int)else-1)then((if(2:Int)>0 then 0 else(L.length:Int)-1)-(if(2:Int)>0 then(L.length:Int)else-1)-2-1)/ -2 else 0).toNat=(L.length+1)/2:=by
  grind
 rw[h,uv];congr 1
 funext k
 show L[((if(2:Int)>0 then 0 else(L.length:Int)-1)+2*k).toNat]?=L[2*k]?;grind
theorem ag2{α:Type}(L:List α)(hl:0<L.length):kH L (some 1) none 2=od L:=by
 rw[<-B7];unfold kH sliceBounds sliceRange;have m:max (0:Int) (min 1 (L.length:Int))=1:=by omega
 simp only[yh,gt_iff_lt,Int.reduceLT,↓reduceIte,m];have h:(if(1:Int)<(L.length:Int)then((L.length:Int)-1+2-1)/2 else 0).toNat=L.length/2:=by
  split<;>omega
 rw[h,uv];congr 1
 funext k
 show L[(1+2*(k:Int)).toNat]?=L[2*k+1]?;congr 1;omega
theorem Yy (f:α->β):∀L:List α,ev (L.map f)=(ev L).map f
 |[]=>rfl
 |[_]=>rfl
 |a::b::L=>by
  show f a::ev _=f a::(ev L).map f;rw[Yy f L]
theorem Oz (f:α->β):∀L:List α,od (L.map f)=(od L).map f
 |[]=>rfl
 |[_]=>rfl
 |a::b::L=>by
  show f b::od _=f b::(od L).map f;rw[Oz f L]
theorem Yz:∀L:List 1#h,gR ((ev L).map fv) ((od L).map fv)=(fJ L).map λw=>PV.tup [fv w.1,fv w.2]
 |[]=>rfl
 |[_]=>rfl
 |a::b::L=>by
  show PV.tup _::gR _ _=PV.tup [fv a,fv b]::(fJ L).map _;rw[Yz L]
theorem Px:∀L:List 1#h,dD L=((fJ L).map λw=>pl w.1 w.2)++L.drop (2*(fJ L).length)/\2*(fJ L).length<=L.length/\∀w∈fJ L,w.1∈L/\w.2∈L
 |[]=>⟨rfl,aj _,λ_ h=>nomatch h⟩
 |[_]=>⟨rfl,by simp[fJ],λ_ h=>nomatch h⟩
 |a::b::L=>by
  obtain⟨h1,h2,h3⟩:=Px L;refine⟨?_,by simp only[fJ,cu];omega,λw hw=>?_⟩
  .show pl a b::dD L=pl a b::(((fJ L).map _)++(a::b::L).drop _)
   rw[h1];rfl
  .rcases br.mp hw with rfl |hw
   .exact⟨by simp,by simp⟩
   .exact⟨by simp[(h3 w hw).1],by simp[(h3 w hw).2]⟩
theorem abe{k:Nat}(S:aF)(x:BN)(hk:2*k+1<=7000)(L:List 1#h)(h2:2<=L.length)(hl:L.length<=1000)(h:∀u∈L,Fq k u):∃y,Nb [some (.pv (.lst (L.map fv))),x] S=.nx [some (.pv (.lst ((dD L).map fv))),y] S:=by
 obtain⟨s1,s2,s3⟩:=Px L;have e1:=agS (L.map fv);rw[Yy]at e1;have e2:=ag2 (L.map fv) (by rw[ak];omega);rw[Oz]at e2;have e3:=Yz L;have e4:cH [] (gT 2 (aZ (gN 0) (aZ (gN 1) cJ))) (aJ sW [] (aB (aA 0) (aB (aA 1) aD))) ((fJ L).map λw=>PV.tup [fv w.1,fv w.2]) [none,none] S=.ok ((fJ L).map λw=>fv (pl w.1 w.2)) S:=by
  refine yH (λw:1#h×1#h=>fv w.1) (λw=>fv w.2) (λw=>fv (pl w.1 w.2)) (fJ L) none none λw hw=>?_;have p:=ad5 S (h _ (s3 w hw).1) (h _ (s3 w hw).2) hk;dsimp! [p]
 have e5:=aho (L.map fv) (a:=2*(fJ L).length) (by rw[ak];exact s2);have e7:((fJ L).map λw=>fv (pl w.1 w.2)).length=(fJ L).length:=ak ..;have e6:aU (.int 2) (.int ((((fJ L).map λw=>fv (pl w.1 w.2)).length:Nat):Int))=some (.int ((2*(fJ L).length:Nat):Int)):=by
  rw[e7];exact mM (.inl (.inl ⟨by decide,by omega⟩))
 have e8:((fJ L).map λw=>fv (pl w.1 w.2)).length+((L.map fv).drop (2*(fJ L).length)).length<=16777216:=by simp;omega
 have e9:(dD L).map fv=((fJ L).map λw=>fv (pl w.1 w.2))++(L.map fv).drop (2*(fJ L).length):=by
  rw[s1,cw,cj,List.map_drop];rfl
 rw[e9];generalize 2*(fJ L).length=c2,L.map fv=LL,(od L).map fv=OL,(ev L).map fv=EL,(L.map fv).drop (2*(fJ L).length)=DL,(((fJ L).map λw=>fv (pl w.1 w.2)):BK)=PL,(((fJ L).map λw=>PV.tup [fv w.1,fv w.2]):BK)=ZL at *;refine⟨some (.pv (.lst PL)),?_⟩;unfold Nb;refine sq (ρ':=[some (.pv (.lst LL)),some (.pv (.lst PL))]) (S':=S) ?_ ?_
 .dsimp! [bA,cC,iB,lN,rD,F8,dF,dN,gO,bT,e1,e2,e3,e4]
 .dsimp! [dW,dF,dN,gO,e5,e6,e8]
theorem Fg:∀(L:List 1#h),(dD L).length=(L.length+1)/2
 |[]=>rfl
 |[_]=>by simp[dD]
 |a::b::L=>by
  unfold dD;rw[cu,cu,cu,Fg L]<;>grind
theorem Ki:∀(L:List 1#h),(∀u∈L,Fq k u)->∀u∈dD L,Fq (2*k+1) u
 |[],h,u,hu=>by cases hu
 |[a],h,u,hu=>(h u hu).mono 1#a
 |a::b::L,h,u,hu=>by
  rcases br.mp hu with rfl |hu
  .exact(Aj (h a 1#d) (h b 1#d)).2.1
  .exact Ki L (λv hv=>h v (bh _ (bh _ hv))) u hu
def fW:Nat->List 1#h->List 1#h
 |0,L=>L
 |m+1,L=>if L.length<=1 then L else fW m (dD L)
abbrev wS:MT:=aO (aC fS (mR cE (aB (aA 0) aD)) 1#c)
theorem Yp(S:aF):∀(m k:Nat)(L:List 1#h)(x:BN),L.length<=1000->L.length<=2^m->2^m*(k+1)<=7000->(∀u∈L,Fq k u)->∃n y,eX wS Nb n [some (.pv (.lst (L.map fv))),x] S=.nx [some (.pv (.lst ((fW m L).map fv))),y] S/\(fW m L).length<=1
 |m,k,L,x,h10,hm,hk,h=>by
  by_cases h1:L.length<=1
  .refine⟨1,x,?_,?_⟩
   .have c:wS [some (.pv (.lst (L.map fv))),x] S=.ok false S:=by
     unfold wS;have:decide ((1:Int)<(L.length:Int))=false:=by simp;omega
     dsimp! [this]
    have er:fW m L=L:=by
     cases m with
     |zero=>rfl
     |succ m=>unfold fW;rw[if_pos h1]
    unfold eX;rw[c,er];rfl
   .cases m with
    |zero=>exact h1
    |succ m=>unfold fW;rw[if_pos h1];exact h1
  .match m,hm,hk with
   |0,hm,_=>exact absurd hm (by simpa using h1)
   |m+1,hm,hk=>
    have hk2:2*k+1<=7000:=by
     have:2<=2^(m+1):=by
      grind
     have:=ot (k+1) this;omega
    obtain⟨y,e⟩:=abe S x hk2 L 1#a h10 h;have hl:=Fg L;obtain⟨n,z,e2,l2⟩:=Yp S m (2*k+1) (dD L) y 1#a 1#a (by
     grind) (Ki L h)
    have er:fW (m+1) L=fW m (dD L):=by
     show(if L.length<=1 then L else fW m (dD L))=_;rw[if_neg h1]
    refine⟨n+1,z,?_,by rw[er];exact l2⟩;have c:wS [some (.pv (.lst (L.map fv))),x] S=.ok true S:=by
     unfold wS;have:decide ((1:Int)<(L.length:Int))=true:=by simp;omega
     dsimp! [this]
    unfold eX;rw[c,er];show(match Nb _ S with |.nx ρ2 S2=>_ |.ct ρ2 S2=>_ |.bk ρ2 S2=>_ |.rt v S2=>_ |.exc n S2=>_ |.fail=>_)=_
    rw[e];exact e2
def rC(L:List 1#h):Int×Int:=match fW 5 L with
 |[]=>(0,1)
 |u::_=>u
theorem Wr(S:aF){m k:Nat}{L:List 1#h}(h10:L.length<=1000)(hm:L.length<=2^m)(m4:m<=5)(hk:2^m*(k+1)<=7000)(h:∀u∈L,Fq k u):pY [.pv (.lst (L.map fv))] S=.ok (.pv (fv (rC L))) S:=by
 obtain⟨n,y,e,l⟩:=Yp S m k L none h10 hm hk h;have w:=yI e 1#d;have er:∀(i j:Nat) L,i<=j->(fW i L).length<=1->fW j L=fW i L:=by
  intro i
  induction i with
  |zero=>
   intro j L _ hl;cases j with
   |zero=>rfl
   |succ j=>
    show(if L.length<=1 then L else _)=L;have hl:L.length<=1:=hl;rw[if_pos hl]
  |succ i ih=>
   intro j L hij hl;cases j with
   |zero=>omega
   |succ j=>
    show(if L.length<=1 then L else fW j (dD L))=(if L.length<=1 then L else fW i (dD L))
    .have hl:(if L.length<=1 then L else fW i (dD L)).length<=1:=hl
     grind
 have e4:=er m 5 L m4 l;unfold rC;rw[e4];generalize fW m L=R at w l;unfold pY aI Eg
 match R,l with
 |[],_=>
  dsimp! [w,wR,Xa]
 |[u],_=>
  dsimp! [w,wR,Xa]
theorem Co (S:aF):∀(L:BK)(x:BN),(∀v∈L,Gp n 1000 v)->cH [] (gN 0) (aJ uE [] (aB (aA 0) (aB (aA 1) aD))) L [x,some (.pv (.int n))] S=.ok (L.map λ_=>.bl true) S
 |[],x,_=>eG
 |v::L,x,h=>by
  have ih:=Co S L (some (.pv v)) λu hu=>h u (bh _ hu);obtain⟨xs,w,rfl,P⟩:=h v av;have e:=acf S 1#b P;rw[eM];generalize n=N,(xs++[w]).map _=XL at *;dsimp! [gN,e,ih]
theorem Ap:∀L:BK,mW [.lst (L.map λ_=>.bl true)]=some (.bl true):=λL=>by
 have e:mT (L.map λ_=>PV.bl true)=some (L.map λ_=>true):=by
  induction L with
  |nil=>rfl
  |cons v L ih=>
   show(match mT _ with |some _=>some _ |none=>none)=_
   rw[ih];rfl
 simp only[mW,e];simp
theorem aaZ{n:Nat}(hn:n=2\/n=3){uss:BD}(S:aF)(hl:uss.length=n+1)(hg:∀us∈uss,Gu n 1000 us)(h0:jF (uss.map tv)≠0)(hc:gU uss=uss):uD [.pv (.tup (uss.map tv)),.pv (.int n)] S=.ok (.pv (.bl true)) S:=by
 have gp:=Yk hg;have hl2:(uss.map tv).length=n+1:=by rw[ak];exact hl
 have ec:=Co S (uss.map tv) none gp;have ea:=Ap (uss.map tv);obtain⟨d,e2,hd⟩:=Qv (A:=.tup (uss.map tv)) hn S hl2 gp (.inr rfl);have hd0:d≠0:=λz=>h0 (by rw[<-hd,z];rfl);have hdb:(d==0)=false:=by simpa using hd0
 have e3:=Vm (A:=.tup (uss.map tv)) hn S hl hg (.inr rfl) (λz=>h0 (by rw[qK hn (aj 1000) hl hg,z];rfl));rw[hc]at e3;have q:bC 8 (.tup (uss.map tv)) (.tup (uss.map tv))=some true:=oO λv hv=>afD (m:=6) (gp v hv);have a3:bF (.int (n:Int)) (.int 1)=some (.int ((uss.map tv).length:Nat)):=by rw[bF,hl2];rfl
 generalize uss.map tv=L at *;generalize L.map (λ_=>PV.bl true)=BL at *;unfold uD aI Ec;generalize (n:Int)=N at *;simp! [-bF,eY,a3,bA,aX,bT,cC,ec,ea,e2,hdb,e3,q]
theorem aap (hn:n=2\/n=3)(S:aF){hs:BE}(h:∀uss∈hs,Sx n k uss)(hk:k<=1000):uG [.pv (.tup (hs.map px)),.pv (.int n)] S=.ok (.pv (.bl true)) S:=by
 have e:cH [] (gN 0) (aJ uD [] (aB (aA 0) (aB (aA 1) aD))) (hs.map px) [none,some (.pv (.int n))] S=.ok (hs.map λ_=>.bl true) S:=by
  refine oN (kB S) px _ hs none λuss hu=>?_;have s:=h uss hu;have e1:=aaZ hn S s.len (λus hu=>(s.gu us hu).mono hk) (by rw[qK hn hk s.len s.gu];exact λz=>s.nz (Wu.mp z)) s.cn;dsimp! [e1]
 have ea:mW [.lst (hs.map λ_=>PV.bl true)]=some (.bl true):=by
  have:=Ap (hs.map px);rw[cj]at this;exact this
 unfold uG aI Lc;dsimp! [eY,bA,cC,aX,bT,e,ea]
abbrev li(xs:BC):BK:=xs.map .int
abbrev lv(xs:BC):PV:=.lst (li xs)
abbrev cK(xss:BD):PV:=.lst (xss.map lv)
structure Rw(n:Nat)(xss:BD):Prop where
 len:xss.length=n+1
 l:∀xs∈xss,xs.length=n
 b:∀xs∈xss,∀x∈xs,-8<x/\x<8
 nz:dU (xss.map (·++[1]))≠0
theorem Nq{α β:Type}(f:α->β):∀(R:List α)(j:Nat),(R.map f).eraseIdx j=(R.eraseIdx j).map f
 |[],j=>rfl
 |a::R,0=>rfl
 |a::R,j+1=>by simp[Nq f R j]
theorem ix3:∀v<3,gG 3 ((v:Nat):Int)=some v:=by decide
abbrev xD:MS:=(aH (qI (aA 2) (pI (aA 1) (aB (aJ dX [] (aB (aA 0) (aB (mR cE (aB (aA 1) aD)) aD))) aD)) 1#c)
 (dC (wI (aA 3) (aB (aA 2) aD))))
abbrev Rb:MS:=(bW (aO (aC cY (aJ dX [] (aB (aA 0) (aB (mC (.int 4)) aD))) (mC (.int 3)))) (qQ 3 2 5) cP)
theorem Vi(ns:BC)(hl:BK)(R C:BC)(L:BD)(x4 x5:BN)(hR0:0<R.length)(hR3:R.length<=3)(hv:∀v∈R,0<=v/\v<3)(hC:C.length=3)(hL:L.length<=9):
  ∃(j v:Nat)(ns':BC),j<R.length/\R[j]?=some (v:Int)/\xD [some (.ref 0),some (.ref 2),some (.ref 3),some (.ref 4),x4,x5] [.lst (li ns),.lst hl,.lst (li R),.lst (li C),.lol (L.map li)]
   = .nx [some (.ref 0),some (.ref 2),some (.ref 3),some (.ref 4),x4,x5] [.lst (li ns'),.lst hl,.lst (li (R.eraseIdx j)),.lst (li (C.set v 1)),.lol ((L++[C.set v 1]).map li)]:=by
 have hr:fI [.lst (li ns),.lst hl,.lst (li R),.lst (li C),.lol (L.map li)] 0 ns:=rfl;obtain⟨t,n1,e1,t0,t1,_⟩:=jL (m:=(R.length:Int)) hr 1#a (lE 1#a 1#a);simp only[ix]at e1;obtain⟨j,rfl⟩:∃j:Nat,t=(j:Int):=⟨t.toNat,by omega⟩;have hj:j<R.length:=by omega
 obtain⟨v,ev⟩:∃v:Nat,R[j]=(v:Int):=⟨R[j].toNat,by have:=hv _ (jf hj);omega⟩;have hv3:v<3:=by have:=hv _ (jf hj);omega
 have hq:R[j]?=some (v:Int):=by rw[ay hj,ev]
 have ep:=afn (S:=[.lst (li n1),.lst hl,.lst (li R),.lst (li C),.lol (L.map li)]) (k:=2) (j:=j) (xs:=li R) (v:=.int v) rfl (by rw[aw,hq];rfl) 1#a;simp only[jr,ix]at ep;have er:(li R).eraseIdx j=li (R.eraseIdx j):=Nq _ _ _;rw[er]at ep;have ei:gG (li C).length (v:Int)=some v:=by
  rw[ak,hC];exact ix3 v hv3
 have ec:(li C).set v (.int 1)=li (C.set v 1):=by simp[li,uk]
 refine⟨j,v,n1,hj,hq,?_⟩;have e1':dX [.ref 0,.pv (.int ((li R).length:Int))] [.lst (li ns),.lst hl,.lst (li R),.lst (li C),.lol (L.map li)]=.ok (.pv (.int (j:Int))) [.lst (li n1),.lst hl,.lst (li R),.lst (li C),.lol (L.map li)]:=by
  rw[ak];exact e1
 have el:(L++[C.set v 1]).map li=L.map li++[li (C.set v 1)]:=by simp
 rw[el];have lz:(L.map li).length<16777216:=by rw[ak];omega
 generalize li n1=NL1,li ns=NL,(j:Int)=J,li R=RL,li (R.eraseIdx j)=RE,li C=CL,li (C.set v 1)=CS,L.map li=LL at *;unfold xD;simp! [qI,wK,pI,wI,wX,fY,e1',ep,ei,ec,lz]
def k6:BE:=[[[0,0,0],[1,0,0],[1,1,0],[1,1,1]],[[0,0,0],[1,0,0],[1,0,1],[1,1,1]],[[0,0,0],[0,1,0],[1,1,0],[1,1,1]],[[0,0,0],[0,1,0],[0,1,1],[1,1,1]],[[0,0,0],[0,0,1],[1,0,1],[1,1,1]],[[0,0,0],[0,0,1],[0,1,1],[1,1,1]]]
theorem aha {j v:Nat}{a b c:Int}(h:R=[a,b,c])(hj:j<R.length)(e:R[j]?=some (v:Int)):(j=0/\(v:Int)=a)\/(j=1/\(v:Int)=b)\/(j=2/\(v:Int)=c):=by
 subst h
 match j,hj,e with
 |0,_,e=>simp at e;exact .inl ⟨rfl,e.symm⟩
 |1,_,e=>simp at e;exact .inr (.inl ⟨rfl,e.symm⟩)
 |2,_,e=>simp at e;exact .inr (.inr ⟨rfl,e.symm⟩)
theorem ahf {j v:Nat}{a b:Int}(h:R=[a,b])(hj:j<R.length)(e:R[j]?=some (v:Int)):(j=0/\(v:Int)=a)\/(j=1/\(v:Int)=b):=by
 subst h
 match j,hj,e with
 |0,_,e=>simp at e;exact .inl ⟨rfl,e.symm⟩
 |1,_,e=>simp at e;exact .inr ⟨rfl,e.symm⟩
theorem ahm {j v:Nat}{a:Int}(h:R=[a])(hj:j<R.length)(e:R[j]?=some (v:Int)):j=0/\(v:Int)=a:=by
 simp_all
theorem k3(ns:BC)(hl:BK)(R C:BC)(A:BD)(a b c:Nat)(x4 x5:BN)(hR:R=[(c:Int)])(hc:c<3)(hC:C.length=3)(hA:A.length<=9)(ks:BE)(hk:A++[C.set c 1]∈ks):
  ∃(xss:BD)(ns':BC)(C':BC),xss∈ks/\dH [] (gN 4) xD [.int 2] [some (.ref 0),some (.ref 2),some (.ref 3),some (.ref 4),x4,x5] [.lst (li ns),.lst hl,.lst (li R),.lst (li C),.lol (A.map li)]
   = .nx [some (.ref 0),some (.ref 2),some (.ref 3),some (.ref 4),some (.pv (.int 2)),x5] [.lst (li ns'),.lst hl,.lst [],.lst (li C'),.lol (xss.map li)]:=by
 obtain⟨j,v,n1,hj,e,h⟩:=Vi ns hl R C A (some (.pv (.int 2))) x5 (by simp_all) (by simp_all) (by rw[hR];simp;omega) hC hA;obtain⟨rfl,ev⟩:=ahm hR hj e;have:v=c:=by omega
 subst this;subst hR;refine⟨_,n1,C.set v 1,hk,?_⟩;rw[eW];simp only[gN,jr,ix];rw[h];exact gK
theorem k2(ns:BC)(hl:BK)(R C:BC)(A:BD)(b c:Nat)(x4 x5:BN)(hR:R=[(b:Int),(c:Int)])(hb:b<3)(hc:c<3)(hC:C.length=3)(hA:A.length<=8)(ks:BE)(h1:A++[C.set b 1]++[(C.set b 1).set c 1]∈ks)(h2:A++[C.set c 1]++[(C.set c 1).set b 1]∈ks):
  ∃(xss:BD)(ns':BC)(C':BC),xss∈ks/\dH [] (gN 4) xD [.int 1,.int 2] [some (.ref 0),some (.ref 2),some (.ref 3),some (.ref 4),x4,x5] [.lst (li ns),.lst hl,.lst (li R),.lst (li C),.lol (A.map li)]
   = .nx [some (.ref 0),some (.ref 2),some (.ref 3),some (.ref 4),some (.pv (.int 2)),x5] [.lst (li ns'),.lst hl,.lst [],.lst (li C'),.lol (xss.map li)]:=by
 obtain⟨j,v,n1,hj,e,h⟩:=Vi ns hl R C A _ x5 (by rw[hR];simp) (by rw[hR];simp) (by rw[hR];simp;omega) hC 1#a;rw[eW];simp only[gN,jr,ix];rw[h];rcases ahf hR hj e with⟨rfl,ev⟩|⟨rfl,ev⟩
 .have:v=b:=by omega
  subst this;subst hR;exact k3 n1 hl _ (C.set v 1) _ 0 0 c _ x5 rfl hc (by rw[ij];exact hC) (by simp;omega) ks h1
 .have:v=c:=by omega
  subst this;subst hR;exact k3 n1 hl _ (C.set v 1) _ 0 0 b _ x5 rfl hb (by rw[ij];exact hC) (by simp;omega) ks h2
theorem k1(ns:BC)(hl:BK)(x4 x5:BN):
  ∃(xss:BD)(ns':BC)(C':BC),xss∈k6/\dH [] (gN 4) xD [.int 0,.int 1,.int 2] [some (.ref 0),some (.ref 2),some (.ref 3),some (.ref 4),x4,x5] [.lst (li ns),.lst hl,.lst (li [0,1,2]),.lst (li [0,0,0]),.lol ([[0,0,0]].map li)]
   = .nx [some (.ref 0),some (.ref 2),some (.ref 3),some (.ref 4),some (.pv (.int 2)),x5] [.lst (li ns'),.lst hl,.lst [],.lst (li C'),.lol (xss.map li)]:=by
 obtain⟨j,v,n1,hj,e,h⟩:=Vi ns hl [0,1,2] [0,0,0] [[0,0,0]] (some (.pv (.int 0))) x5 1#b 1#b 1#b rfl 1#b;rw[eW];simp only[gN,jr,ix];rw[h];rcases aha rfl hj e with⟨rfl,ev⟩|⟨rfl,ev⟩|⟨rfl,ev⟩
 .have:v=0:=by omega
  subst this;exact k2 n1 hl _ [1,0,0] _ 1 2 _ x5 rfl 1#b 1#b rfl 1#b k6 1#b 1#b
 .have:v=1:=by omega
  subst this;exact k2 n1 hl _ [0,1,0] _ 0 2 _ x5 rfl 1#b 1#b rfl 1#b k6 1#b 1#b
 .have:v=2:=by omega
  subst this;exact k2 n1 hl _ [0,0,1] _ 0 1 _ x5 rfl 1#b 1#b rfl 1#b k6 1#b 1#b
def tZ(m:Nat)(xs:BC):BC:=xs.set m (1-xs.getD m 0)
theorem ab0{m:Nat}{xs:BC}(h:xs.length=3)(hm:m<3):Pa (m:Int) (li xs)=some (li (tZ m xs)):=by
 match xs,h,m,hm with
 |[a,b,c],_,0,_=>rfl
 |[a,b,c],_,1,_=>rfl
 |[a,b,c],_,2,_=>rfl
theorem Ot{m:Nat}(hm:m<3):∀{L:BD},(∀xs∈L,xs.length=3)->tG (m:Int) (L.map li)=some ((L.map (tZ m)).map li)
 |[],_=>rfl
 |xs::L,h=>by
  have e1:=ab0 (h _ av) hm;have e2:=Ot hm λys hy=>h _ (bh _ hy);simp only[au];unfold tG;rw[e1,e2]
theorem agi {L:List BK}:Ub 4 [.lst a,.lst b,.lst c,.lst d,.lol L]:=λj o e n=>by
 match j,e with
 |0,e=>cases e;exact⟨_,rfl⟩
 |1,e=>cases e;exact⟨_,rfl⟩
 |2,e=>cases e;exact⟨_,rfl⟩
 |3,e=>cases e;exact⟨_,rfl⟩
 |4,e=>simp_all
 |j+5,e=>simp at e
def lQ(b:Bool)(m:Nat)(L:BD):BD:=if b then L.map (tZ m)else L
theorem Gj(m:Nat)(hm:m<3)(ns:BC)(a b c:BK)(L:BD)(hL:∀xs∈L,xs.length=3)(x2 x4:BN):
  ∃(f:Bool)(ns':BC)(y2:BN),Rb [some (.ref 0),some (.ref 2),x2,some (.ref 4),x4,some (.pv (.int (m:Int)))] [.lst (li ns),.lst a,.lst b,.lst c,.lol (L.map li)]
   = .nx [some (.ref 0),some (.ref 2),y2,some (.ref 4),x4,some (.pv (.int (m:Int)))] [.lst (li ns'),.lst a,.lst b,.lst c,.lol ((lQ f m L).map li)]:=by
 have hr:fI [.lst (li ns),.lst a,.lst b,.lst c,.lol (L.map li)] 0 ns:=rfl;obtain⟨t,n1,e1,t0,t1,_⟩:=jL (m:=4) hr 1#b (lE 1#b 1#b);have e1:=e1;have ef:=Ot hm hL
 by_cases h:t=3
 .refine⟨true,n1,none,?_⟩
  have hf:qQ 3 2 5 [some (.ref 0),some (.ref 2),x2,some (.ref 4),x4,some (.pv (.int (m:Int)))] [.lst (li n1),.lst a,.lst b,.lst c,.lol (L.map li)]=.nx [some (.ref 0),some (.ref 2),none,some (.ref 4),x4,some (.pv (.int (m:Int)))] [.lst (li n1),.lst a,.lst b,.lst c,.lol ((L.map (tZ m)).map li)]:=by
   unfold qQ;dsimp only[zf,zg];rw[if_pos ⟨agi,by simp⟩,ef];rfl
  unfold Rb;have:lQ true m L=L.map (tZ m):=rfl;rw[this];dsimp! [e1,h,hf]
 .refine⟨false,n1,x2,?_⟩
  unfold Rb;have:lQ false m L=L:=rfl;rw[this];dsimp! [e1,h]
theorem Tg {L:BD}(h:∀xs∈L,xs.length=3):∀xs∈lQ b m L,xs.length=3:=by
 unfold lQ;split
 .intro xs hx
  obtain⟨ys,hy,rfl⟩:=ca.mp hx;unfold tZ;rw[ij];exact h _ hy
 .exact h
def Pk(xss:BD):Bool:=decide (xss.length=4)&&xss.all (λxs=>decide (xs.length=3)&&xs.all λx=>decide (-8<x)&&decide (x<8))&&decide (dU (xss.map (·++[1]))≠0)
theorem aeX (h:Pk xss=true):Rw 3 xss:=by
 unfold Pk at h;simp only[sx,decide_eq_true_eq,mq]at h;exact⟨h.1.1,λxs hx=>(h.1.2 _ hx).1,λxs hx x hh=>(h.1.2 _ hx).2 x hh,h.2⟩
theorem k48:∀xss∈k6,∀a b c:Bool,Pk (lQ c 2 (lQ b 1 (lQ a 0 xss)))=true:=by decide+kernel
theorem afP:∀xss∈k6,∀xs∈xss,xs.length=3:=by decide
theorem K3:Pl [.lst a,.lst b]:=λj o e=>by
 match j,e with
 |0,e=>cases e;exact⟨_,rfl⟩
 |1,e=>cases e;exact⟨_,rfl⟩
 |j+2,e=>simp at e
theorem adi(ns:BC)(hl:BK):∃(xss:BD)(ns':BC),sJ [.ref 0] [.lst (li ns),.lst hl]=.ok (.pv (cK xss)) [.lst (li ns'),.lst hl]/\Rw 3 xss:=by
 obtain⟨L,n1,C,hm,e1⟩:=k1 ns hl none none;have l0:=afP L hm;obtain⟨fa,n2,y2,e2⟩:=Gj 0 1#b n1 hl [] (li C) L l0 (some (.ref 3)) (some (.pv (.int 2)));obtain⟨fb,n3,y3,e3⟩:=Gj 1 1#b n2 hl [] (li C) _ (Tg l0) y2 (some (.pv (.int 2)));obtain⟨fc,n4,y4,e4⟩:=Gj 2 1#b n3 hl [] (li C) _ (Tg (Tg l0)) y3 (some (.pv (.int 2)));have c0:((0:Nat):Int)=0:=rfl;have c1:((1:Nat):Int)=1:=rfl;have c2:((2:Nat):Int)=2:=rfl;rw[c0]at e2;rw[c1]at e3;rw[c2]at e4;have hw:=k48 L hm fa fb fc;generalize lQ fc 2 (lQ fb 1 (lQ fa 0 L))=X at hw e4;refine⟨X,n4,?_,aeX hw⟩;have ex:(X.map li).map PV.lst=X.map lv:=by rw[cj];rfl
 have e5:dH [] (gN 5) Rb [.int 0,.int 1,.int 2] [some (.ref 0),some (.ref 2),some (.ref 3),some (.ref 4),some (.pv (.int 2)),none] [.lst (li n1),.lst hl,.lst [],.lst (li C),.lol (L.map li)]
   = .nx [some (.ref 0),some (.ref 2),y4,some (.ref 4),some (.pv (.int 2)),some (.pv (.int 2))] [.lst (li n4),.lst hl,.lst [],.lst (li C),.lol (X.map li)]:=by
  rw[eW];simp only[gN,jr,ix];rw[e2];dsimp only;rw[eW];simp only[gN,jr,ix];rw[e3];dsimp only;rw[eW];simp only[gN,jr,ix];rw[e4];exact gK
 unfold sJ rG;rw[if_pos ⟨rfl,K3⟩];have eb:zR (gW 6 [.ref 0]) [.lst (li ns),.lst hl]=.rt (.ref 4) [.lst (li n4),.lst hl,.lst [],.lst (li C),.lol (X.map li)]:=by
  simp only[li,au,da]at e1;have hb:zR=(aH _
   (aH _
   (aH (aP 3 (wW (aB (aA 2) aD)))
   (aH _
   (aH _
   (aT (aA 3))))))):=rfl
  rw[hb];dsimp! [fV,lM,wW,Yi,cB,dG,hrg,e1,e5]
 rw[eb];unfold Ba;simp[K3,ex]
theorem aah(L:BK)(p:PV)(h:L≠[]):∃v∈L,aE (.lst L) (.int (-1))=some v:=by
 have hl:=List.length_pos_iff.mpr h;refine⟨L[L.length-1]'(by omega),jf _,?_⟩;show gH L _=_;unfold gH;have e:gG L.length (-1)=some (L.length-1):=by
  unfold gG;grind
 simp_all
theorem wY (h:-1000<x)(g:x<1000):Bd 10 x:=by
 unfold Bd;omega
theorem oA(S:aF){n:Nat}(h:n<=9):iX [.pv (.int (n:Int))] S=.ok (dS 0 n,[]) S:=by
 have e:iX [.pv (.int n)] S=@ite _ _ (ue _) _ _:=rfl;rw[e,if_pos (by grind),tj]
theorem abm (h:fI S k ns):S.set k (.lst (ns.map .int))=S:=jg λj=>by
 by_cases q:k=j
 .subst q
  rw[fz h.lt];exact h.symm
 .rw[fu q]
theorem Pr {W:Int}(W0:0<=W)(W1:W<=2):∀(is:BK)(S:aF)(ns:BC)(x:BN),fI S k ns->∃(xs ns':BC),cH [] (gN 0) (aJ dX [] (aB (aA 1) (aB (aC bF (aA 2) 1#c) aD))) is [x,some (.ref k),some (.pv (.int W))] S=.ok (li xs) (S.set k (.lst (li ns')))/\xs.length=is.length/\∀n∈xs,0<=n/\n<=2
 |[],S,ns,x,h=>by
  refine⟨[],ns,?_,rfl,λ_ h=>absurd h fm⟩;rw[show S.set k (.lst (li ns))=S from abm h];exact eG
 |i::is,S,ns,x,h=>by
  obtain⟨t,n1,e1,t0,t1,_⟩:=jL (m:=W+1) h 1#a (lE 1#a 1#a);obtain⟨xs,n2,e2,l2,b2⟩:=Pr W0 W1 is _ n1 (some (.pv i)) (h.set n1);refine⟨t::xs,n2,?_,by simp[l2],λn hn=>?_⟩
  .rw[eM]
   dsimp! [gN,e1,e2]
  .grind
abbrev rB:MS:=(dC (dQ (aA 3) (aB (bA ["_law_m"] [(0,"_law_row_here"),(2,"_law_wide")] (dG (aB (aA 1) aD)) (gN 0) (aJ dX [] (aB (aA 1) (aB (aC bF (aA 2) 1#c) aD)))) aD)))
theorem Rt{n:Nat}(hn:n<=9){W:Int}(W0:0<=W)(W1:W<=2)(hl:BK):∀(is:BK)(L:BD)(ns:BC)(x4:BN),L.length+is.length<=99->∃(L':BD)(ns':BC)(y4:BN),
  dH [] (gN 4) rB is [some (.ref 0),some (.pv (.int (n:Int))),some (.pv (.int W)),some (.ref 2),x4] [.lst (li ns),.lst hl,.lst (L.map lv)]=.nx [some (.ref 0),some (.pv (.int (n:Int))),some (.pv (.int W)),some (.ref 2),y4] [.lst (li ns'),.lst hl,.lst ((L++L').map lv)]
   /\L'.length=is.length/\∀xs∈L',xs.length=n/\∀x∈xs,0<=x/\x<=2
 |[],L,ns,x4,h9=>⟨[],ns,x4,by rw[jb];exact gK,rfl,λ_ h=>absurd h fm⟩
 |i::is,L,ns,x4,h9=>by
  have hr:fI [.lst (li ns),.lst hl,.lst (L.map lv)] 0 ns:=rfl;obtain⟨xs,n1,e1,l1,b1⟩:=Pr W0 W1 (dS 0 n) _ ns none hr;obtain⟨L',n2,y4,e2,l2,b2⟩:=Rt hn W0 W1 hl is (L++[xs]) n1 (some (.pv i)) (by grind);refine⟨xs::L',n2,y4,?_,by simp[l2],λys hy=>?_⟩
  .rw[eW]
   have es:rB [some (.ref 0),some (.pv (.int (n:Int))),some (.pv (.int W)),some (.ref 2),some (.pv i)] [.lst (li ns),.lst hl,.lst (L.map lv)]=.nx [some (.ref 0),some (.pv (.int (n:Int))),some (.pv (.int W)),some (.ref 2),some (.pv i)] [.lst (li n1),.lst hl,.lst ((L++[xs]).map lv)]:=by
    have el:(L++[xs]).map lv=L.map lv++[lv xs]:=by simp
    rw[el];have lz:(L.map lv).length<16777216:=by rw[ak];omega
    have rg:=oA [.lst (li ns),.lst hl,.lst (L.map lv)] hn;unfold rB;generalize (n:Int)=N,dS 0 n=IP,li ns=NL,L.map lv=LL at *;dsimp! [dQ,fY,jP,bA,cC,dG,rg,e1,lz]
   simp only[gN,jr,ix];rw[es];dsimp only;rw[e2,jp];rfl
  .rcases br.mp hy with rfl |hy
   .exact⟨by rw[l1];unfold dS;simp,b1⟩
   .exact b2 ys hy
theorem afq{S:aF}{ti:Nat}{a b c d e f:Int}(h:S[ti]?=some (.lst [lv [a,b],lv [c,d],lv [e,f]]))(ha:0<=a/\a<=2)(hb:0<=b/\b<=2)(hc:0<=c/\c<=2)(hd:0<=d/\d<=2)(he:0<=e/\e<=2)(hf:0<=f/\f<=2):pR [.ref ti] S=.ok (.pv (.int (D2 a b 1 c d 1 e f 1))) S:=by
 have id:(c-a)*(f-b)-(d-b)*(e-a)=D2 a b 1 c d 1 e f 1:=by
  unfold D2;grind
 have b1:Bd 10 (c-a):=wY 1#a 1#a;have b2:Bd 10 (d-b):=wY 1#a 1#a;have b3:Bd 10 (e-a):=wY 1#a 1#a;have b4:Bd 10 (f-b):=wY 1#a 1#a;have m1:=fD b1 b4;have m2:=fD b2 b3;generalize D2 a b 1 c d 1 e f 1=D at *;have s1:=tL (lv [a,b]) [lv [c,d],lv [e,f]];have et:lJ [.pv (.lst [.lst [.int (c-a),.int (d-b)],.lst [.int (e-a),.int (f-b)]])] S=.ok (.pv (.int D)) S:=by
  unfold lJ aI sL;dsimp! [m1,m2,id]
 unfold pR aI xQ;dsimp! [bA,aX,bT,dW,dF,dN,gO,h,s1,cC,eM,eG,gN,gT,aZ,cJ,iB,lN,gR,et]
theorem aeP{S:aF}{ti:Nat}{x0 y0 z0 x1 y1 z1 x2 y2 z2 x3 y3 z3:Int}(h:S[ti]?=some (.lst [lv [x0,y0,z0],lv [x1,y1,z1],lv [x2,y2,z2],lv [x3,y3,z3]]))(hb:∀x∈[x0,y0,z0,x1,y1,z1,x2,y2,z2,x3,y3,z3],0<=x/\x<=2):pR [.ref ti] S=.ok (.pv (.int (D3 x0 y0 z0 1 x1 y1 z1 1 x2 y2 z2 1 x3 y3 z3 1))) S:=by
 have id:dt [(y1-y0)*(z2-z0)-(z1-z0)*(y2-y0),(z1-z0)*(x2-x0)-(x1-x0)*(z2-z0),(x1-x0)*(y2-y0)-(y1-y0)*(x2-x0)] [x3-x0,y3-y0,z3-z0]=D3 x0 y0 z0 1 x1 y1 z1 1 x2 y2 z2 1 x3 y3 z3 1:=by
  simp only[dt,D3,qx,zc,zd,ze];grind
 simp only[br,fm,or_false,forall_eq_or_imp,forall_eq]at hb;have q:∀{a b:Int},(0<=a/\a<=2)->(0<=b/\b<=2)->Bd 10 (a-b):=λh g=>wY 1#a 1#a;obtain⟨hx0,hy0,hz0,hx1,hy1,hz1,hx2,hy2,hz2,hx3,hy3,hz3⟩:=hb;have b1:=q hx1 hx0;have b2:=q hy1 hy0;have b3:=q hz1 hz0;have b4:=q hx2 hx0;have b5:=q hy2 hy0;have b6:=q hz2 hz0;have b7:=q hx3 hx0;have b8:=q hy3 hy0;have b9:=q hz3 hz0;clear hx0 hy0 hz0 hx1 hy1 hz1 hx2 hy2 hz2 hx3 hy3 hz3 q;generalize D3 x0 y0 z0 1 x1 y1 z1 1 x2 y2 z2 1 x3 y3 z3 1=D at *;have s1:=tL (lv [x0,y0,z0]) [lv [x1,y1,z1],lv [x2,y2,z2],lv [x3,y3,z3]];have et:lJ [.pv (.lst [.lst [.int (x1-x0),.int (y1-y0),.int (z1-z0)],.lst [.int (x2-x0),.int (y2-y0),.int (z2-z0)],.lst [.int (x3-x0),.int (y3-y0),.int (z3-z0)]])] S=.ok (.pv (.int D)) S:=by
  generalize z3-z0=T2,y3-y0=T1,x3-x0=T0,z2-z0=V2,y2-y0=V1,x2-x0=V0,z1-z0=U2,y1-y0=U1,x1-x0=U0 at *;have u:∀{a:Int},Bd 10 a->Bd 10000 a:=λh=>h.mono 1#b;have u2:∀{a:Int},Bd 10 a->Bd 100000 a:=λh=>h.mono 1#b;have cc:∀{a b c d:Int},Bd 10 a->Bd 10 b->Bd 10 c->Bd 10 d->Bd 100000 (a*b-c*d):=λh1 h2 h3 h4=>(((h1.mul h2).mono (show 10+10<=20 by decide)).sub ((h3.mul h4).mono (show 10+10<=20 by decide))).mono 1#b;have en:=Jr (A:=.lst [.int U0,.int U1,.int U2]) (B:=.lst [.int V0,.int V1,.int V2]) S rfl rfl (u b1) (u b2) (u b3) (u b4) (u b5) (u b6);have ed:=Iv (A:=.lst [.int (U1*V2-U2*V1),.int (U2*V0-U0*V2),.int (U0*V1-U1*V0)]) (B:=.lst [.int T0,.int T1,.int T2]) (us:=[U1*V2-U2*V1,U2*V0-U0*V2,U0*V1-U1*V0]) (vs:=[T0,T1,T2]) S (.inl rfl) (.inl rfl) (by simp;exact⟨cc b2 b6 b3 b5,cc b3 b4 b1 b6,cc b1 b5 b2 b4⟩) (by simp;exact⟨u2 b7,u2 b8,u2 b9⟩);rw[id]at ed;generalize U0*V1-U1*V0=N2,U2*V0-U0*V2=N1,U1*V2-U2*V1=N0 at *;unfold lJ aI sL;dsimp! [en,ed]
 unfold pR aI xQ;simp only[lv,li,au,da]at h s1;dsimp! [bA,aX,bT,dW,dF,dN,gO,h,s1,cC,eM,eG,gN,gT,aZ,cJ,iB,lN,gR,et]
theorem agN{n:Nat}(hn:n=2\/n=3){S:aF}{ti:Nat}{L:BD}(h:S[ti]?=some (.lst (L.map lv)))(hl:L.length=n+1)(hb:∀xs∈L,xs.length=n/\∀x∈xs,0<=x/\x<=2):pR [.ref ti] S=.ok (.pv (.int (dU (L.map (·++[1]))))) S:=by
 rcases hn with rfl |rfl
 .obtain⟨A,B,C,rfl⟩:=len3 hl
  have ga:=hb A 1#d;have gb:=hb B 1#d;have gc:=hb C 1#d;clear hb
  match A,ga.1,B,gb.1,C,gc.1 with
  |[a,b],_,[c,d],_,[e,f],_=>exact afq h (ga.2 a 1#d) (ga.2 b 1#d) (gb.2 c 1#d) (gb.2 d 1#d) (gc.2 e 1#d) (gc.2 f 1#d)
 .obtain⟨A,B,C,D,rfl⟩:=len4 hl
  have ga:=hb A 1#d;have gb:=hb B 1#d;have gc:=hb C 1#d;have gd:=hb D 1#d;clear hb
  match A,ga.1,B,gb.1,C,gc.1,D,gd.1 with
  |[x0,y0,z0],_,[x1,y1,z1],_,[x2,y2,z2],_,[x3,y3,z3],_=>
   refine aeP h λx hx=>?_;rw[show[x0,y0,z0,x1,y1,z1,x2,y2,z2,x3,y3,z3]=[x0,y0,z0]++([x1,y1,z1]++([x2,y2,z2]++[x3,y3,z3])) from rfl]at hx;rcases ce.mp hx with z |z
   .exact ga.2 x z
   .rcases ce.mp z with z |z
    .exact gb.2 x z
    .rcases ce.mp z with z |z
     .exact gc.2 x z
     .exact gd.2 x z
def xB(n:Nat):BD:=if n=2 then[[0,0],[1,0],[0,1]] else[[0,0,0],[1,0,0],[0,1,0],[0,0,1]]
theorem afk (hn:n=2\/n=3):Rw n (xB n):=by
 rcases hn with rfl |rfl
 .exact⟨rfl,by decide,by decide,by decide⟩
 .exact⟨rfl,by decide,by decide,by decide⟩
theorem rgm(S:aF){n:Nat}(h:n<=9):Gb [.pv (.int (-1)),.pv (.int (n:Int))] S=.ok (dS (-1) (n+1),[]) S:=by
 have e:Gb [.pv (.int (-1)),.pv (.int n)] S=@ite _ _ (ue _) _ _:=rfl;grind
theorem Bc :jO (.ok a S)=.ok a S:=rfl
theorem Cc :frz n (.ok (.pv v) S)=.ok (.pv v) S:=rfl
theorem aea{n:Nat}(hn:n=2\/n=3)(S:aF)(x0 x2 x3 x4:BN):bA ["_law_k"] [(1,"_law_dims")] (sK (aB (bG cF 1#c) (aB (aA 1) aD))) (gN 0) (bA ["_law_m"] [(0,"_law_k")] (dG (aB (aA 1) aD)) (gN 0) (mR kY (aB (aC cY (aA 0) (aA 1)) aD))) [x0,some (.pv (.int (n:Int))),x2,x3,x4] S=.ok (.pv (cK (xB n))) S:=by
 have r1:=λS=>oA S (n:=n) 1#a;have r2:=λS=>rgm S (n:=n) 1#a;rcases hn with rfl |rfl
 .have c2:((2:Nat):Int)=2:=rfl
  rw[c2]at r1 r2⊢;have i1:dS 0 2=[.int 0,.int 1]:=rfl;have i2:dS (-1) (2+1)=[.int (-1),.int 0,.int 1]:=rfl;rw[i1]at r1;rw[i2]at r2;dsimp! [bA,cC,dG,sK,r1,r2,eM,eG,gN,kY,xB]
 .have c2:((3:Nat):Int)=3:=rfl
  rw[c2]at r1 r2⊢;have i1:dS 0 3=[.int 0,.int 1,.int 2]:=rfl;have i2:dS (-1) (3+1)=[.int (-1),.int 0,.int 1,.int 2]:=rfl;rw[i1]at r1;rw[i2]at r2;dsimp! [bA,cC,dG,sK,r1,r2,eM,eG,gN,kY,xB]
theorem Ux{n:Nat}(hn:n=2\/n=3){W:Int}(W0:0<=W)(W1:W<=2)(ns:BC)(hl:BK):∃(xss:BD)(ns':BC),frz 2 (jO (mO [.ref 0,.pv (.int (n:Int)),.pv (.int W)] [.lst (li ns),.lst hl]))=.ok (.pv (cK xss)) [.lst (li ns'),.lst hl]/\Rw n xss:=by
 obtain⟨L,n1,y4,e1,l1,b1⟩:=Rt (n:=n) 1#a W0 W1 hl (dS 0 (n+1)) [] ns none (by unfold dS;simp;omega);have hi:(dS 0 (n+1)).length=n+1:=by unfold dS;simp
 rw[hi]at l1;simp only[iw,da]at e1;have et:=agN (ti:=2) (S:=[.lst (li n1),.lst hl,.lst (L.map lv)]) hn rfl l1 b1;have rg:=oA [.lst (li ns),.lst hl,.lst []] (n:=n+1) 1#a;have cn:((n+1:Nat):Int)=(n:Int)+1:=by omega
 rw[cn]at rg;have ed:=aea hn [.lst (li n1),.lst hl,.lst (L.map lv)] (some (.ref 0)) (some (.pv (.int W))) (some (.ref 2)) y4;have hb:Uh=(aH (aP 3 (fV aD))
  (aH (cB (dG (aB (aC bF (aA 1) 1#c) aD)) (gN 4) rB)
  _)):=rfl
 generalize rB=RB at e1 hb
 by_cases hd:dU (L.map (·++[1]))=0
 .refine⟨xB n,n1,?_,afk hn⟩
  rw[hd]at et;unfold mO aI;rw[hb];dsimp! [fV,lM,cB,dG,rg,e1,et,ed]
 .refine⟨L,n1,?_,⟨l1,λxs hx=>(b1 xs hx).1,λxs hx x hh=>by have:=(b1 xs hx).2 x hh;omega,hd⟩⟩
  unfold mO aI;rw[hb];have hv:cK L=.lst (L.map lv):=rfl;rw[hv];dsimp! [fV,lM,cB,dG,rg,e1,et,hd]
abbrev hB:MS:=(aH (aP 5 (aJ dX [] (aB (aA 0) (aB (mC (.int 6)) aD))))
 (bW (iA (aO (aC cY (aA 5) (mC (.int 5)))) (aO (aC fS (mR cE (aB (aA 3) aD)) 1#e))) (dC (dQ (aA 3) (aB (aC aE (aA 3) (bG cF 1#c)) aD))) (bW (aO (aC cY (aA 1) (mC (.int 2)))) (dC (dQ (aA 3) (aB (aJ mO [] (aB (aA 0) (aB (mC (.int 2)) (aB (aC bF 1#c (mR kY (aB (aC cY (aA 5) (mC (.int 4))) aD))) aD)))) aD))) (bW (aO (aC fS (aA 5) (mC (.int 3)))) (dC (dQ (aA 3) (aB (aJ mO [] (aB (aA 0) (aB (mC (.int 3)) (aB 1#c aD)))) aD))) (dC (dQ (aA 3) (aB (aJ sJ [] (aB (aA 0) aD)) aD)))))))
theorem agR{n:Nat}(hn:n=2\/n=3)(ns:BC)(hs:BE)(hw:∀xss∈hs,Rw n xss)(hl:hs.length<=99)(x2 x4 x5:BN):∃(xss:BD)(ns':BC)(y5:BN),hB [some (.ref 0),some (.pv (.int (n:Int))),x2,some (.ref 1),x4,x5] [.lst (li ns),.lst (hs.map cK)]=.nx [some (.ref 0),some (.pv (.int (n:Int))),x2,some (.ref 1),x4,y5] [.lst (li ns'),.lst ((hs++[xss]).map cK)]/\Rw n xss:=by
 have hr:fI [.lst (li ns),.lst (hs.map cK)] 0 ns:=rfl;obtain⟨t,n1,e1,t0,t1,_⟩:=jL (m:=6) hr 1#b (lE 1#b 1#b);simp only[ix]at e1;have e1:dX [.ref 0,.pv (.int 6)] [.lst (li ns),.lst (hs.map cK)]=.ok (.pv (.int t)) [.lst (li n1),.lst (hs.map cK)]:=e1;have lz:(hs.map cK).length<16777216:=by rw[ak];omega
 have lz':hs.length<16777216:=by omega
 have el:∀xss,(hs++[xss]).map cK=hs.map cK++[cK xss]:=λxss=>by simp
 by_cases c1:t=5/\0<hs.length
 .obtain⟨v,hv,e2⟩:=aah (hs.map cK) .non (by
   intro z;have:=congrArg qk z;simp at this;rw[this]at c1;simp at c1)
  obtain⟨xss,hx,rfl⟩:=ca.mp hv;refine⟨xss,n1,some (.pv (.int t)),?_,hw xss hx⟩;rw[el];obtain⟨c1,c2⟩:=c1;subst c1;have c3:hs.map cK≠[]:=λz=>by
   have:=congrArg qk z;simp at this;rw[this]at c2;simp at c2
  generalize hs.map cK=HL,cK xss=RV at *;unfold hB;simp! [-frz,-jO,e1,dQ,fY,jP,e2,lz,c3]
 .have c1':t=5->hs.map cK=[]:=λz=>by
   have:hs.length=0:=by
    by_cases y:0<hs.length
    .exact absurd ⟨z,y⟩ c1
    .omega
   rw[t9.mp this];rfl
  have cA:∀(S:aF)(ρ:cR),ρ[5]?=some (some (.pv (.int t)))->ρ[3]?=some (some (.ref 1))->S[1]?=some (.lst (hs.map cK))->iA (aO (aC cY (aA 5) (mC (.int 5)))) (aO (aC fS (mR cE (aB (aA 3) aD)) 1#e)) ρ S=.ok false S:=λS ρ h5 h3 hS=>by
   cases z:t==5 with
   |false=>simp! [-frz,-jO,h5,z]
   |true=>
    rw[c1' (by simpa using z)]at hS;simp! [-frz,-jO,h5,h3,hS,z]
  generalize hA:iA (aO (aC cY (aA 5) (mC (.int 5)))) (aO (aC fS (mR cE (aB (aA 3) aD)) 1#e))=MA at cA;have hBe:hB=(aH (aP 5 (aJ dX [] (aB (aA 0) (aB (mC (.int 6)) aD))))
   (bW MA (dC (dQ (aA 3) (aB (aC aE (aA 3) (bG cF 1#c)) aD))) (bW (aO (aC cY (aA 1) (mC (.int 2)))) (dC (dQ (aA 3) (aB (aJ mO [] (aB (aA 0) (aB (mC (.int 2)) (aB (aC bF 1#c (mR kY (aB (aC cY (aA 5) (mC (.int 4))) aD))) aD)))) aD))) (bW (aO (aC fS (aA 5) (mC (.int 3)))) (dC (dQ (aA 3) (aB (aJ mO [] (aB (aA 0) (aB (mC (.int 3)) (aB 1#c aD)))) aD))) (dC (dQ (aA 3) (aB (aJ sJ [] (aB (aA 0) aD)) aD))))))):=by rw[<-hA]
  rw[hBe];rcases hn with rfl |rfl
  .obtain⟨xss,n2,e2,hw2⟩:=Ux (n:=2) (.inl rfl) (W:=1+(if t=4 then 1 else 0)) (by split<;>decide) (by split<;>decide) n1 (hs.map cK)
   refine⟨xss,n2,some (.pv (.int t)),?_,hw2⟩;rw[el];have c2:((2:Nat):Int)=2:=rfl;rw[c2]at e2⊢;have cA':=cA [.lst (li n1),.lst (hs.map cK)] [some (.ref 0),some (.pv (.int 2)),x2,some (.ref 1),x4,some (.pv (.int t))] rfl rfl rfl;generalize hs.map cK=HL,cK xss=RV at*
   by_cases z:t=4
   .subst z
    simp! [-frz,-jO,e1,cA',dQ,fY,jP,kY,Bc,Cc,lz]at e2⊢;simp[e2,lz,bQ.bind,cO.of]
   .rw[if_neg z]at e2
    have z':(t==4)=false:=by simpa using z
    simp! [-frz,-jO,e1,cA',dQ,fY,jP,kY,Bc,Cc,lz,z']at e2⊢;simp[e2,lz,bQ.bind,cO.of]
  .have c3:((3:Nat):Int)=3:=rfl
   rw[c3];have cA':=cA [.lst (li n1),.lst (hs.map cK)] [some (.ref 0),some (.pv (.int 3)),x2,some (.ref 1),x4,some (.pv (.int t))] rfl rfl rfl
   by_cases z:3<t
   .obtain⟨xss,n2,e2,hw2⟩:=Ux (n:=3) (.inr rfl) (W:=1) 1#b 1#b n1 (hs.map cK)
    refine⟨xss,n2,some (.pv (.int t)),?_,hw2⟩;rw[el];rw[c3]at e2;generalize hs.map cK=HL,cK xss=RV at *;simp! [-frz,-jO,e1,cA',dQ,fY,jP,Bc,Cc,z];simp[e2,lz,bQ.bind,cO.of]
   .obtain⟨xss,n2,e2,hw2⟩:=adi n1 (hs.map cK)
    refine⟨xss,n2,some (.pv (.int t)),?_,hw2⟩;rw[el];generalize hs.map cK=HL,cK xss=RV at *;simp! [-frz,-jO,e1,cA',dQ,fY,jP,Bc,Cc,z,e2,lz]
theorem B9 (hn:n=2\/n=3)(x2:BN):∀(is:BK)(hs:BE)(ns:BC)(x4 x5:BN),(∀xss∈hs,Rw n xss)->hs.length+is.length<=99->∃(hs':BE)(ns':BC)(y4 y5:BN),
  dH [] (gN 4) hB is [some (.ref 0),some (.pv (.int (n:Int))),x2,some (.ref 1),x4,x5] [.lst (li ns),.lst (hs.map cK)]=.nx [some (.ref 0),some (.pv (.int (n:Int))),x2,some (.ref 1),y4,y5] [.lst (li ns'),.lst (hs'.map cK)]/\hs'.length=hs.length+is.length/\∀xss∈hs',Rw n xss
 |[],hs,ns,x4,x5,hw,_=>⟨hs,ns,x4,x5,gK,rfl,hw⟩
 |i::is,hs,ns,x4,x5,hw,h9=>by
  have h9:hs.length+(is.length+1)<=99:=h9;obtain⟨xss,n1,y5,e1,r1⟩:=agR hn ns hs hw 1#a x2 _ x5;obtain⟨hs',n2,z4,z5,e2,l2,r2⟩:=B9 hn x2 is (hs++[xss]) _ _ y5 (λy hy=>by
   rcases ce.mp hy with z |z
   .exact hw y z
   .have:=by simpa using z
    rw[this];exact r1) (by rw[ax,nh];omega)
  refine⟨hs',n2,z4,z5,?_,by rw[l2,ax,nh];grind,r2⟩;rw[eW];simp only[gN,jr,ix];rw[e1];exact e2
theorem R1{n M:Nat}(hn:n=2\/n=3)(hM:M<=8)(ns:BC):∃(hs:BE)(ns':BC),rP [.ref 0,.pv (.int (n:Int)),.pv (.int (M:Int))] [.lst (li ns)]=.ok (.ref 1) [.lst (li ns'),.lst (hs.map cK)]/\hs.length<=M/\∀xss∈hs,Rw n xss:=by
 have hr:fI [.lst (li ns),.lst []] 0 ns:=rfl;obtain⟨t,n1,e1,t0,t1,_⟩:=jL (m:=(M:Int)+1) hr 1#a (lE 1#a 1#a);have e1:=e1;obtain⟨m,rfl⟩:∃m:Nat,t=(m:Int):=⟨t.toNat,by omega⟩;have rg:=oA [.lst (li n1),.lst []] (n:=m) 1#a;have hi:(dS 0 m).length=m:=by unfold dS;simp
 obtain⟨hs,n2,y4,y5,e2,l2,r2⟩:=B9 hn (some (.pv (.int (M:Int)))) (dS 0 m) [] n1 none none (λ_ h=>absurd h fm) (by grind);rw[hi]at l2;refine⟨hs,n2,?_,by grind,r2⟩;simp only[da]at e2;have hb:Xc=(aH (aP 3 (fV aD))
  _):=rfl
 unfold rP aI;rw[hb];dsimp! [fV,lM,cB,dG,e1,rg,e2]
theorem Tz {L:BC}{b:Int}(hb:0<b)(hl:L.length=n)(hL:∀x∈L,Bd k x)(bb:Bd k b):∃(zs:BC)(z:Int),low (L++[b])=zs++[z]/\Pq n k zs z/\∀j,j<n->zs.getD j 0*b=L.getD j 0*z:=by
 obtain⟨zs,z,g,e,hg,hz,g1,g2,hzl⟩:=Ma L hb;have hlow:=Og L hb;have hbd:=Na (ns:=L++[b]) λm hm=>by
  rcases ce.mp hm with y |y
  .exact hL m y
  .have:=by simpa using y
   rw[this];exact bb
 rw[e]at hlow hbd;refine⟨zs,z,e,⟨hzl.trans hl,hz,hlow,λx hx=>hbd x (lj _ hx),hbd z (nJ zs z)⟩,λj hj=>?_⟩;have hj':j<zs.length:=by omega
 have e1:L.getD j 0=g*zs.getD j 0:=by
  rw[g1];simp[dj,hj']
 rw[e1,g2];grind
structure Sp(u:Int×Int):Prop where
 p:0<u.1
 q:0<u.2
 bp:Bd 30 u.1
 bq:Bd 30 u.2
theorem p9:iO (.int 10) (.int 9)=some (.int 1000000000):=zT ⟨by decide,by decide,by decide⟩
theorem p6:iO (.int 10) (.int 6)=some (.int 1000000):=zT ⟨by decide,by decide,by decide⟩
theorem dR (h0:0<=v)(h1:v<3):∃M N:Int,aE (.lst [.int 1,.int 7,.int 1000000000]) (.int v)=some (.int M)/\aE (.lst [.int 1,.int 7,.int 1000000]) (.int v)=some (.int N)/\0<M/\M<=1000000000/\0<N/\N<=1000000:=by
 have:v=0\/v=1\/v=2:=by omega
 rcases this with rfl |rfl |rfl
 .exact⟨1,1,rfl,rfl,by decide,by decide,by decide,by decide⟩
 .exact⟨7,7,rfl,rfl,by decide,by decide,by decide,by decide⟩
 .exact⟨1000000000,1000000,rfl,rfl,by decide,by decide,by decide,by decide⟩
abbrev sB:MS:=(aH (aP 4 (aJ dX [] (aB (aA 0) (aB (mC (.int 3)) aD))))
 (dC (dQ (aA 2) (aB (aJ sG [] (aB (aC bF 1#c (aJ dX [] (aB (aA 0) (aB (aC aE (mN fG (aB 1#c (aB (mC (.int 7)) (aB (aC iO (mC (.int 10)) (mC (.int 9))) aD)))) (aA 4)) aD)))) (aB (aC bF 1#c (aJ dX [] (aB (aA 0) (aB (aC aE (mN fG (aB 1#c (aB (mC (.int 7)) (aB (aC iO (mC (.int 10)) (mC (.int 6))) aD)))) (aA 4)) aD)))) aD))) aD))))
theorem agk(ns:BC)(fs:List 1#h)(hl:fs.length<=9)(x1 x3 x4:BN):∃(u:Int×Int)(ns':BC)(y4:BN),sB [some (.ref 0),x1,some (.ref 1),x3,x4] [.lst (li ns),.lst (fs.map fv)]=.nx [some (.ref 0),x1,some (.ref 1),x3,y4] [.lst (li ns'),.lst ((fs++[u]).map fv)]/\Sp u:=by
 have hr:∀ms,fI [.lst (li ms),.lst (fs.map fv)] 0 ms:=λ_=>rfl;obtain⟨c,n1,e1,c0,c1,_⟩:=jL (m:=3) (hr ns) 1#b (lE 1#b 1#b);obtain⟨M,N,em,en,M0,M1,N0,N1⟩:=dR c0 c1;have bM:Bd 8000 M:=(Bd.of (k:=30) (n:=1000000000) 1#a 1#b).mono 1#b;have bN:Bd 8000 N:=(Bd.of (k:=30) (n:=1000000000) 1#a 1#b).mono 1#b;obtain⟨t,n2,e2,t0,t1,_⟩:=jL (m:=M) (hr n1) M0 bM;obtain⟨v,n3,e3,v0,v1,_⟩:=jL (m:=N) (hr n2) N0 bN;simp only[ix]at e1 e2 e3;have bt:Bd 30 (1+t):=Bd.of (n:=1000000000) 1#a 1#b;have bv:Bd 30 (1+v):=Bd.of (n:=1000000000) 1#a 1#b;have nz:1+v≠0:=by omega
 have e4:=Ow (1+t) (1+v) [.lst (li n3),.lst (fs.map fv)] (bt.mono 1#b) (bv.mono 1#b);obtain⟨p,q,ef,hq,hpq⟩:=wE (t:=1+t) nz;obtain⟨b1,b2⟩:=wM bt bv ef;have hp:0<p:=by
  have h1:0<(1+t)*q:=bf 1#a hq;rw[<-hpq]at h1;exact su h1 1#a
 rw[ef]at e4;simp only[au,da]at e4;refine⟨(p,q),n3,some (.pv (.int c)),?_,⟨hp,hq,b1,b2⟩⟩;have el:(fs++[(p,q)]).map fv=fs.map fv++[.tup [.int p,.int q]]:=by simp
 rw[el];have lz:(fs.map fv).length<16777216:=by rw[ak];omega
 have e1:=e1;have e2:=e2;have e3:=e3;generalize fs.map fv=FL at *;unfold sB;simp! [e1,p9,p6,em,en,e2,e3,e4,dQ,fY,jP,lz]
theorem A6(x1:BN):∀(is:BK)(fs:List 1#h)(ns:BC)(x3 x4:BN),(∀u∈fs,Sp u)->fs.length+is.length<=9->∃(fs':List 1#h)(ns':BC)(y3 y4:BN),
  dH [] (gN 3) sB is [some (.ref 0),x1,some (.ref 1),x3,x4] [.lst (li ns),.lst (fs.map fv)]=.nx [some (.ref 0),x1,some (.ref 1),y3,y4] [.lst (li ns'),.lst (fs'.map fv)]/\fs'.length=fs.length+is.length/\∀u∈fs',Sp u
 |[],fs,ns,x3,x4,hw,_=>⟨fs,ns,x3,x4,gK,rfl,hw⟩
 |i::is,fs,ns,x3,x4,hw,h9=>by
  have h9:fs.length+(is.length+1)<=9:=h9;obtain⟨u,n1,y4,e1,r1⟩:=agk ns fs 1#a x1 _ x4;obtain⟨fs',n2,z3,z4,e2,l2,r2⟩:=A6 x1 is (fs++[u]) n1 _ y4 (λy hy=>by
   rcases ce.mp hy with z |z
   .exact hw y z
   .have:=by simpa using z
    rw[this];exact r1) (by rw[ax,nh];omega)
  refine⟨fs',n2,z3,z4,?_,by rw[l2,ax,nh];grind,r2⟩;rw[eW];simp only[gN,jr,ix];rw[e1];exact e2
theorem Oo{n:Nat}(hn:n=2\/n=3)(ns:BC):∃(fs:List 1#h)(ns':BC),xU [.ref 0,.pv (.int (n:Int))] [.lst (li ns)]=.ok (.ref 1) [.lst (li ns'),.lst (fs.map fv)]/\fs.length=n/\∀u∈fs,Sp u:=by
 have hi:(dS 0 n).length=n:=by unfold dS;simp
 have rg:=oA [.lst (li ns),.lst []] (n:=n) 1#a;obtain⟨fs,n2,y3,y4,e2,l2,r2⟩:=A6 (some (.pv (.int n))) (dS 0 n) [] ns none none (λ_ h=>absurd h fm) (by grind);rw[hi]at l2;refine⟨fs,n2,?_,by grind,r2⟩;simp only[da]at e2;have hb:Md=(aH _ (aH (cB _ (gN 3) sB) _)):=rfl;unfold xU aI;rw[hb];dsimp! [fV,lM,cB,dG,rg,e2]
def eV:List 1#h->BC->BC
 |[u,v],[a,b]=>low ([a*u.1*v.2,b*v.1*u.2]++[1*u.2*v.2])
 |[u,v,t],[a,b,c]=>low ([a*u.1*(v.2*t.2),b*v.1*(u.2*t.2),c*t.1*(u.2*v.2)]++[1*u.2*v.2*t.2])
 |_,_=>[]
def J1:List 1#h->Nat->Int
 |[u,v],0=>u.1*v.2
 |[u,v],1=>v.1*u.2
 |[u,v,t],0=>u.1*(v.2*t.2)
 |[u,v,t],1=>v.1*(u.2*t.2)
 |[u,v,t],2=>t.1*(u.2*v.2)
 |_,_=>1
def J7:List 1#h->Int
 |[u,v]=>1*u.2*v.2
 |[u,v,t]=>1*u.2*v.2*t.2
 |_=>1
theorem Vg{n:Nat}(hn:n=2\/n=3)(S:aF){fs:List 1#h}{xs:BC}(hf:fs.length=n)(h:∀u∈fs,Sp u)(hx:xs.length=n)(hb:∀x∈xs,-8<x/\x<8):qC [.pv (lv xs),.pv (.lst (fs.map fv))] S=.ok (.pv (tv (eV fs xs))) S/\Gu n 100 (eV fs xs)/\kL n (J1 fs) (λ_=>0) (J7 fs) (xs++[1]) (eV fs xs):=by
 have b3:∀{x:Int},-8<x/\x<8->Bd 3 x:=λh=>by
  unfold Bd;have:(2:Nat)^3=8:=rfl;omega
 have o1:Bd 1 (1:Int):=by unfold Bd;decide
 rcases hn with rfl |rfl
 .obtain⟨u,v,rfl⟩:=len2 hf;obtain⟨a,b,rfl⟩:=len2 hx
  have hu:=h u 1#d;have hv:=h v 1#d;have ba:=b3 (hb a 1#d);have bb:=b3 (hb b 1#d);have m1:=mk o1 hu.bq 1#b 1#b;have m2:=mk (o1.mul hu.bq) hv.bq 1#b 1#b;have d1:(1*u.2*v.2).fdiv u.2=v.2:=by rw[gh];exact pS (by have:=hu.q;omega)
  have d2:(1*u.2*v.2).fdiv v.2=u.2:=by rw[gh,fe];exact pS (by have:=hv.q;omega)
  have q1:hV (.int (1*u.2*v.2)) (.int u.2)=some (.int v.2):=by
   have e:=nK (i:=1*u.2*v.2) (j:=u.2) ⟨by have:=hu.q;omega,hu.bq.mono 1#b⟩;rw[d1]at e;exact e
  have q2:hV (.int (1*u.2*v.2)) (.int v.2)=some (.int u.2):=by
   have e:=nK (i:=1*u.2*v.2) (j:=v.2) ⟨by have:=hv.q;omega,hv.bq.mono 1#b⟩;rw[d2]at e;exact e
  have m3:=mk ba hu.bp 1#b 1#b;have m4:=mk (ba.mul hu.bp) hv.bq 1#b 1#b;have m5:=mk bb hv.bp 1#b 1#b;have m6:=mk (bb.mul hv.bp) hu.bq 1#b 1#b;have pE:0<1*u.2*v.2:=bf (bf 1#b hu.q) hv.q;have bL:∀x∈[a*u.1*v.2,b*v.1*u.2],Bd 100 x:=by
   simp;exact⟨((ba.mul hu.bp).mul hv.bq).mono 1#b,((bb.mul hv.bp).mul hu.bq).mono 1#b⟩
  have bE:Bd 100 (1*u.2*v.2):=((o1.mul hu.bq).mul hv.bq).mono 1#b;obtain⟨zs,z,el,Z,rel⟩:=Tz (n:=2) pE rfl bL bE;have ew:=rW ([a*u.1*v.2,b*v.1*u.2]++[1*u.2*v.2]) S (by
   intro x hx;rcases ce.mp hx with y |y
   .exact(bL x y).mono 1#b
   .have:x=1*u.2*v.2:=by simpa using y
    rw[this];exact bE.mono 1#b)
  have es:eV [u,v] [a,b]=zs++[z]:=el;refine⟨?_,by rw[es];exact⟨zs,z,rfl,Z⟩,[a,b],1,zs,z,rfl,es,rfl,Z.len,by decide,Z.pos,λj hj=>?_⟩
  .rw[el]at ew
   rw[es];simp only[au,da,lg,iw]at ew;generalize hQ:1*u.2*v.2=Q at *;generalize hA:a*u.1*v.2=A at *;generalize hB:b*v.1*u.2=B at *;unfold qC aI zU;simp only[lv,li,au,da];simp only[tv];generalize (zs++[z]).map PV.int=ZL at *;simp only[gh]at m1 m2 hQ;dsimp! [cB,aX,bT,eW,gK,gN,m1,m2,bA,cC,iB,lN,gR,eM,eG,gT,aZ,cJ,m3,m4,m5,m6,q1,q2,ew]
  .have r:=rel j hj
   match j,hj with
   |0,_=>
    have r:zs.getD 0 0*(1*u.2*v.2)=a*u.1*v.2*z:=r;show zs.getD 0 0*(1*u.2*v.2*1)=(u.1*v.2*a+0*1)*z;rw[mj,r];grind
   |1,_=>
    have r:zs.getD 1 0*(1*u.2*v.2)=b*v.1*u.2*z:=r;show zs.getD 1 0*(1*u.2*v.2*1)=(v.1*u.2*b+0*1)*z;rw[mj,r];grind
 .obtain⟨u,v,t,rfl⟩:=len3 hf;obtain⟨a,b,c,rfl⟩:=len3 hx
  have hu:=h u 1#d;have hv:=h v 1#d;have ht:=h t 1#d;have ba:=b3 (hb a 1#d);have bb:=b3 (hb b 1#d);have bc:=b3 (hb c 1#d);have m1:=mk o1 hu.bq 1#b 1#b;have m2:=mk (o1.mul hu.bq) hv.bq 1#b 1#b;have m2':=mk ((o1.mul hu.bq).mul hv.bq) ht.bq 1#b 1#b;have d1:(1*u.2*v.2*t.2).fdiv u.2=v.2*t.2:=by rw[gh,kj];exact pS (by have:=hu.q;omega)
  have d2:(1*u.2*v.2*t.2).fdiv v.2=u.2*t.2:=by rw[show 1*u.2*v.2*t.2=v.2*(u.2*t.2) by grind];exact pS (by have:=hv.q;omega)
  have d3:(1*u.2*v.2*t.2).fdiv t.2=u.2*v.2:=by rw[show 1*u.2*v.2*t.2=t.2*(u.2*v.2) by grind];exact pS (by have:=ht.q;omega)
  have q1:hV (.int (1*u.2*v.2*t.2)) (.int u.2)=some (.int (v.2*t.2)):=by
   have e:=nK (i:=1*u.2*v.2*t.2) (j:=u.2) ⟨by have:=hu.q;omega,hu.bq.mono 1#b⟩;rw[d1]at e;exact e
  have q2:hV (.int (1*u.2*v.2*t.2)) (.int v.2)=some (.int (u.2*t.2)):=by
   have e:=nK (i:=1*u.2*v.2*t.2) (j:=v.2) ⟨by have:=hv.q;omega,hv.bq.mono 1#b⟩;rw[d2]at e;exact e
  have q3:hV (.int (1*u.2*v.2*t.2)) (.int t.2)=some (.int (u.2*v.2)):=by
   have e:=nK (i:=1*u.2*v.2*t.2) (j:=t.2) ⟨by have:=ht.q;omega,ht.bq.mono 1#b⟩;rw[d3]at e;exact e
  have m3:=mk ba hu.bp 1#b 1#b;have m4:=mk (ba.mul hu.bp) (hv.bq.mul ht.bq) 1#b 1#b;have m5:=mk bb hv.bp 1#b 1#b;have m6:=mk (bb.mul hv.bp) (hu.bq.mul ht.bq) 1#b 1#b;have m7:=mk bc ht.bp 1#b 1#b;have m8:=mk (bc.mul ht.bp) (hu.bq.mul hv.bq) 1#b 1#b;have pE:0<1*u.2*v.2*t.2:=bf (bf (bf 1#b hu.q) hv.q) ht.q;have bL:∀x∈[a*u.1*(v.2*t.2),b*v.1*(u.2*t.2),c*t.1*(u.2*v.2)],Bd 100 x:=by
   simp;exact⟨((ba.mul hu.bp).mul (hv.bq.mul ht.bq)).mono 1#b,((bb.mul hv.bp).mul (hu.bq.mul ht.bq)).mono 1#b,((bc.mul ht.bp).mul (hu.bq.mul hv.bq)).mono 1#b⟩
  have bE:Bd 100 (1*u.2*v.2*t.2):=(((o1.mul hu.bq).mul hv.bq).mul ht.bq).mono 1#b;obtain⟨zs,z,el,Z,rel⟩:=Tz (n:=3) pE rfl bL bE;have ew:=rW ([a*u.1*(v.2*t.2),b*v.1*(u.2*t.2),c*t.1*(u.2*v.2)]++[1*u.2*v.2*t.2]) S (by
   intro x hx;rcases ce.mp hx with y |y
   .exact(bL x y).mono 1#b
   .have:x=1*u.2*v.2*t.2:=by simpa using y
    rw[this];exact bE.mono 1#b)
  have es:eV [u,v,t] [a,b,c]=zs++[z]:=el;refine⟨?_,by rw[es];exact⟨zs,z,rfl,Z⟩,[a,b,c],1,zs,z,rfl,es,rfl,Z.len,by decide,Z.pos,λj hj=>?_⟩
  .rw[el]at ew
   rw[es];simp only[au,da,lg,iw]at ew;generalize hQ:1*u.2*v.2*t.2=Q at *;generalize hA:a*u.1*(v.2*t.2)=A at *;generalize hB:b*v.1*(u.2*t.2)=B at *;generalize hC:c*t.1*(u.2*v.2)=C at *;unfold qC aI zU;simp only[lv,li,au,da];simp only[tv];generalize (zs++[z]).map PV.int=ZL at *;simp only[gh]at m1 m2 m2' hQ;dsimp! [cB,aX,bT,eW,gK,gN,m1,m2,m2',bA,cC,iB,lN,gR,eM,eG,gT,aZ,cJ,m3,m4,m5,m6,m7,m8,q1,q2,q3,ew]
  .have r:=rel j hj
   match j,hj with
   |0,_=>
    have r:zs.getD 0 0*(1*u.2*v.2*t.2)=a*u.1*(v.2*t.2)*z:=r;show zs.getD 0 0*(1*u.2*v.2*t.2*1)=(u.1*(v.2*t.2)*a+0*1)*z;rw[mj,r];grind
   |1,_=>
    have r:zs.getD 1 0*(1*u.2*v.2*t.2)=b*v.1*(u.2*t.2)*z:=r;show zs.getD 1 0*(1*u.2*v.2*t.2*1)=(v.1*(u.2*t.2)*b+0*1)*z;rw[mj,r];grind
   |2,_=>
    have r:zs.getD 2 0*(1*u.2*v.2*t.2)=c*t.1*(u.2*v.2)*z:=r;show zs.getD 2 0*(1*u.2*v.2*t.2*1)=(t.1*(u.2*v.2)*c+0*1)*z;rw[mj,r];grind
theorem ad6 (hn:n=2\/n=3){fs:List 1#h}(hf:fs.length=n)(h:∀u∈fs,Sp u):0<J7 fs/\∀j,j<n->0<J1 fs j:=by
 rcases hn with rfl |rfl
 .obtain⟨u,v,rfl⟩:=len2 hf
  have hu:=h u 1#d;have hv:=h v 1#d;refine⟨bf (bf 1#b hu.q) hv.q,λj hj=>?_⟩
  match j,hj with
  |0,_=>exact bf hu.p hv.q
  |1,_=>exact bf hv.p hu.q
 .obtain⟨u,v,t,rfl⟩:=len3 hf
  have hu:=h u 1#d;have hv:=h v 1#d;have ht:=h t 1#d;refine⟨bf (bf (bf 1#b hu.q) hv.q) ht.q,λj hj=>?_⟩
  match j,hj with
  |0,_=>exact bf hu.p (bf hv.q ht.q)
  |1,_=>exact bf hv.p (bf hu.q ht.q)
  |2,_=>exact bf ht.p (bf hu.q hv.q)
theorem abN{n:Nat}(hn:n=2\/n=3){fs:List 1#h}(hf:fs.length=n)(h:∀u∈fs,Sp u){xss:BD}(w:Rw n xss):dU (xss.map (eV fs))≠0:=λz=>by
 have af:=λxs hx=>(Vg hn [] hf h (w.l xs hx) (w.b xs hx)).2.2;have gu:∀us∈xss.map (eV fs),Gu n 100 us:=λus hu=>by
  obtain⟨xs,hx,rfl⟩:=ca.mp hu;exact(Vg hn [] hf h (w.l xs hx) (w.b xs hx)).2.1
 have p2:=qO gu;obtain⟨pe,pa⟩:=ad6 hn hf h;have nz:=w.nz;have wl:=w.len;clear w;rcases hn with rfl |rfl
 .obtain⟨a,b,c,rfl⟩:=len3 wl
  have e:=Ak (af a 1#d) (af b 1#d) (af c 1#d);have z:dU [eV fs a,eV fs b,eV fs c]=0:=z;rw[z,ou]at e;exact di (di (df (bf (bf (pa 0 1#b) (pa 1 1#b)) pe)) nz) (df p2) e.symm
 .obtain⟨a,b,c,d,rfl⟩:=len4 wl
  have e:=Yj (af a 1#d) (af b 1#d) (af c 1#d) (af d 1#d);have z:dU [eV fs a,eV fs b,eV fs c,eV fs d]=0:=z;rw[z,ou]at e;exact di (di (df (bf (bf (bf (pa 0 1#b) (pa 1 1#b)) (pa 2 1#b)) pe)) nz) (df p2) e.symm
abbrev lB:MS:=(aH (aP 5 (aJ lK [] (aB (aA 0) (aB (mR cE (aB (aA 2) aD)) aD))))
 (dC (dQ (aA 3) (aB (aJ pT [] (aB (bA ["_law_corner"] [(5,"_law_far_here"),(2,"_law_stretch_here")] (aX (aA 4)) (gN 0) (aJ oM [] (aB (aJ qC [] (aB (aA 0) (aB (aA 2) aD))) (aB (aA 1) (aB 1#c aD))))) aD)) aD))))
theorem agw{n:Nat}(hn:n=2\/n=3)(ns:BC){fs:List 1#h}(hf:fs.length=n)(h:∀u∈fs,Sp u)(gs:BE)(hg:gs.length<=99){xss:BD}(w:Rw n xss)(x1 x5:BN):∃(uss:BD)(ns':BC)(y5:BN),lB [some (.ref 0),x1,some (.pv (.lst (fs.map fv))),some (.ref 1),some (.pv (cK xss)),x5] [.lst (li ns),.lst (gs.map px)]=.nx [some (.ref 0),x1,some (.pv (.lst (fs.map fv))),some (.ref 1),some (.pv (cK xss)),y5] [.lst (li ns'),.lst ((gs++[uss]).map px)]/\Sx n 201 uss:=by
 have hr:fI [.lst (li ns),.lst (gs.map px)] 0 ns:=rfl;obtain⟨v,n1,e1,G⟩:=E4 n hn hr;simp only[ix]at e1;have e1:lK [.ref 0,.pv (.int (n:Int))] [.lst (li ns),.lst (gs.map px)]=.ok (.pv v) [.lst (li n1),.lst (gs.map px)]:=e1;obtain⟨ys,y,rfl,P⟩:=G;have Gf:Gu n 100 (ys++[y]):=⟨ys,y,rfl,P⟩;generalize ys++[y]=f at *;have sp:=λS xs (hx:xs∈xss)=>Vg hn S hf h (w.l xs hx) (w.b xs hx);have gu:∀us∈xss.map (eV fs),Gu n 100 us:=λus hu=>by
  obtain⟨xs,hx,rfl⟩:=ca.mp hu;exact(sp [] xs hx).2.1
 have hl:(xss.map (eV fs)).length=n+1:=by rw[ak];exact w.len
 have nz:=abN hn hf h w;have fE:=Ab hn (way:=1) (.inl rfl) hl gu Gf nz;have gu2:=oX (way:=1) (.inl rfl) gu Gf;have l2:((xss.map (eV fs)).map (bJ 1 f)).length=n+1:=by rw[ak];exact hl
 have S1:=A2 hn (k:=100+100+1) 1#b l2 gu2 fE;refine⟨_,n1,some (.pv (tv f)),?_,S1⟩;have el:(gs++[gU ((xss.map (eV fs)).map (bJ 1 f))]).map px=gs.map px++[px (gU ((xss.map (eV fs)).map (bJ 1 f)))]:=by simp
 rw[el];have lz:(gs.map px).length<16777216:=by rw[ak];omega
 have ln:((fs.map fv).length:Int)=(n:Int):=by rw[ak,hf]
 have ec:cH [] (gN 0) (aJ oM [] (aB (aJ qC [] (aB (aA 0) (aB (aA 2) aD))) (aB (aA 1) (aB 1#c aD)))) (xss.map lv) [none,some (.pv (tv f)),some (.pv (.lst (fs.map fv)))] [.lst (li n1),.lst (gs.map px)]=.ok (xss.map λxs=>tv (bJ 1 f (eV fs xs))) [.lst (li n1),.lst (gs.map px)]:=by
  refine oN (kB _) lv (λxs=>tv (bJ 1 f (eV fs xs))) xss none λxs hx=>?_;have a1:=(sp [.lst (li n1),.lst (gs.map px)] xs hx).1;have a2:=aeb (way:=1) [.lst (li n1),.lst (gs.map px)] hn (.inl rfl) (sp [] xs hx).2.1 Gf 1#b 1#b;generalize gs.map px=GL,fs.map fv=FL,tv f=T4,lv xs=T3,tv (eV fs xs)=T2,tv (bJ 1 f (eV fs xs))=T1 at *;dsimp! [a1,a2]
 have es:=Vm (uss:=(xss.map (eV fs)).map (bJ 1 f)) (A:=.lst (((xss.map (eV fs)).map (bJ 1 f)).map tv)) hn [.lst (li n1),.lst (gs.map px)] l2 (λus hu=>(gu2 us hu).mono 1#b) (.inl rfl) fE;have em:((xss.map (eV fs)).map (bJ 1 f)).map tv=xss.map λxs=>tv (bJ 1 f (eV fs xs)):=by rw[cj,cj];rfl
 rw[em]at es;have hv:cK xss=.lst (xss.map lv):=rfl;have hp:∀L:BD,px L=.tup (L.map tv):=λ_=>rfl;rw[hv,hp];clear S1 fE gu2 l2 nz hl gu sp;generalize (n:Int)=N,gs.map px=GL,fs.map fv=FL,xss.map lv=XL,(xss.map λxs=>tv (bJ 1 f (eV fs xs)))=TL,(gU ((xss.map (eV fs)).map (bJ 1 f))).map tv=PX at *;have e1:lK [.ref 0,.pv (.int N)] [.lst (li ns),.lst GL]=.ok (.pv (tv f)) [.lst (li n1),.lst GL]:=e1;generalize tv f=TF at *;unfold lB;dsimp! [ln,e1,dQ,fY,jP,bA,cC,aX,bT,ec,es,lz]
theorem A9 (hn:n=2\/n=3){fs:List 1#h}(hf:fs.length=n)(h:∀u∈fs,Sp u)(x1:BN):∀(hs:BE)(gs:BE)(ns:BC)(x4 x5:BN),(∀xss∈hs,Rw n xss)->(∀uss∈gs,Sx n 201 uss)->gs.length+hs.length<=99->∃(gs':BE)(ns':BC)(y4 y5:BN),
  dH [] (gN 4) lB (hs.map cK) [some (.ref 0),x1,some (.pv (.lst (fs.map fv))),some (.ref 1),x4,x5] [.lst (li ns),.lst (gs.map px)]=.nx [some (.ref 0),x1,some (.pv (.lst (fs.map fv))),some (.ref 1),y4,y5] [.lst (li ns'),.lst (gs'.map px)]/\gs'.length=gs.length+hs.length/\∀uss∈gs',Sx n 201 uss
 |[],gs,ns,x4,x5,_,hg,_=>⟨gs,ns,x4,x5,gK,rfl,hg⟩
 |xss::hs,gs,ns,x4,x5,hw,hg,h9=>by
  have h9:gs.length+(hs.length+1)<=99:=h9;obtain⟨uss,n1,y5,e1,r1⟩:=agw hn ns hf h gs 1#a (hw xss av) x1 x5;obtain⟨gs',n2,z4,z5,e2,l2,r2⟩:=A9 hn hf h x1 hs (gs++[uss]) n1 _ y5 (λy hy=>hw y (bh _ hy)) (λy hy=>by
   rcases ce.mp hy with z |z
   .exact hg y z
   .have:=by simpa using z
    rw[this];exact r1) (by grind)
  refine⟨gs',n2,z4,z5,?_,by grind,r2⟩;rw[au,eW];simp only[gN,jr,ix];rw[e1];exact e2
theorem Lu (hn:n=2\/n=3)(ns:BC){fs:List 1#h}(hf:fs.length=n)(h:∀u∈fs,Sp u){hs:BE}(hw:∀xss∈hs,Rw n xss)(h9:hs.length<=90):∃(gs:BE)(ns':BC),zQ [.ref 0,.pv (.lst (hs.map cK)),.pv (.lst (fs.map fv))] [.lst (li ns)]=.ok (.ref 1) [.lst (li ns'),.lst (gs.map px)]/\gs.length=hs.length/\∀uss∈gs,Sx n 201 uss:=by
 obtain⟨gs,n2,y4,y5,e2,l2,r2⟩:=A9 hn hf h (some (.pv (.lst (hs.map cK)))) hs [] ns none none hw (λ_ h=>absurd h fm) (by grind);refine⟨gs,n2,?_,by grind,r2⟩;simp only[da]at e2;have hb:Qg=(aH _ (aH (cB (aX (aA 1)) (gN 4) lB) _)):=rfl;unfold zQ aI;rw[hb];dsimp! [fV,lM,cB,aX,bT,e2]
def bd(p:List Nat):List Nat:=if p.head?=some 45 then p.tail else p
def kE(k:BD):PV:=.tup (k.map λr:BC=>PV.tup (r.map PV.int))
abbrev Jk:Type:=BD×Int
def jD:BC->Int
 |[]=>0
 |n::r=>if n=0 then jD r else sg n
def aS(ns:BC):BC:=(low ns).map (jD ns*·)
theorem Mp(S:aF):∀(ns:BC)(x:BN),eQ [] (gN 0) (aO (aC eA (aA 0) 1#e)) (aA 0) (ns.map .int) [x] S=.ok ((ns.filter (λx=>!decide (x=0))).map .int) S
 |[],x=>mE
 |n::ns,x=>by
  have ih:=Mp S ns (some (.pv (.int n)));show eQ [] _ _ _ (.int n::ns.map .int) _ S=_;rw[nI]
  by_cases h:n=0
  .subst h
   dsimp! [gN,ih]
  .have hb:(!n==0)=true:=by simpa using h
   dsimp! [gN,hb,ih,h]
theorem Xq:∀{ns:BC},(∃n∈ns,n≠0)->∃m L,ns.filter (λx=>!decide (x=0))=m::L/\sg m=jD ns
 |[],h=>by
  simp_all
 |n::ns,h=>by
  by_cases e:n=0
  .subst e
   obtain⟨m,L,e1,e2⟩:=Xq (ns:=ns) (by
    simp_all)
   exact⟨m,L,by simpa using e1,by rw[e2];simp[jD]⟩
  .exact⟨n,ns.filter (λx=>!decide (x=0)),by simp[e],by simp[jD,e]⟩
theorem agA (h:∃n∈ns,n≠0):gl ns 0≠0:=λe=>by
 obtain⟨n,hn,z⟩:=h;obtain⟨m,hm⟩:=(kF _ 0).2 n hn
 simp_all
theorem Mw(ns:BC)(S:aF)(hb:∀n∈ns,Bd 8000 n)(nz:∃n∈ns,n≠0):rM [.pv (.lst (ns.map .int))] S=.ok (.pv (tv (aS ns))) S:=by
 obtain⟨m,L,e1,e2⟩:=Xq nz;have ef:=Mp S ns none;rw[e1]at ef;have er:=Qo ns S hb (agA nz);have ec:=Ye S m (low ns) none;rw[e2]at ec;have i0:aE (.lst ((m::L).map .int)) (.int 0)=some (.int m):=jK rfl;unfold rM aI Oc aS;generalize (m::L).map PV.int=ML at *;simp! [gZ,aX,bT,cC,ef,i0,er,bA,ec]
theorem zI:aS (ns.map (- ·))=aS ns:=by
 unfold aS;have hf:∀l ,jD (l.map (- ·))=-jD l:=λl=>by
  induction l with
  |nil=>rfl
  |cons n l ih=>
   rw[au];unfold jD
   by_cases h:n=0
   .simp_all
   .rw[if_neg h,if_neg 1#a,Wz]
 rw[aaN,hf,cj];refine dy λn _=>?_;simp[i9]
def cX:BC->BC->BC
 |[x0,y0,w0],[x1,y1,w1]=>[x1*w0-x0*w1,y1*w0-y0*w1]
 |[x0,y0,z0,w0],[x1,y1,z1,w1]=>[x1*w0-x0*w1,y1*w0-y0*w1,z1*w0-z0*w1]
 |_,_=>[]
theorem mY{x0 y0 w0 x1 y1 w1:Int}:cX [x0,y0,w0] [x1,y1,w1]=[x1*w0-x0*w1,y1*w0-y0*w1]:=rfl
theorem mZ{x0 y0 z0 w0 x1 y1 z1 w1:Int}:cX [x0,y0,z0,w0] [x1,y1,z1,w1]=[x1*w0-x0*w1,y1*w0-y0*w1,z1*w0-z0*w1]:=rfl
def Kk:BC->BC->BC
 |[a,b,c],[d,e,f]=>[b*f-c*e,c*d-a*f,a*e-b*d]
 |_,_=>[]
theorem rA:Kk [a,b,c] [d,e,f]=[b*f-c*e,c*d-a*f,a*e-b*d]:=rfl
def bR:BD->BC
 |[p,q]=>(match cX p q with
  |[a,b]=>[-b,a]
  |_=>[])
 |[p,q,r]=>Kk (cX p q) (cX p r)
 |_=>[]
theorem qX:bR [p,q]=(match cX p q with |[a,b]=>[-b,a] |_=>[]):=rfl
theorem qV:bR [p,q,r]=Kk (cX p q) (cX p r):=rfl
def sd(pi s e:BC)(n:Int):List Jk:=[([pi,aS (cX s e),s],n),([pi,aS (cX s e),e],-n)]
def iJ:BD->List (BC×BC)
 |[p,q]=>[(p,q)]
 |[a,b,c]=>[(c,a),(a,b),(b,c)]
 |_=>[]
def cW(w:BD)(n:Int):List Jk:=(iJ w).flatMap λx=>sd (aS (bR w)) x.1 x.2 n
theorem aci (h:w.length=2\/w.length=3)(S:aF):uT [.pv (.tup (w.map tv))] S=.ok (.pv (.lst ((iJ w).map λx=>.tup [tv x.1,tv x.2]))) S:=by
 have rg:iX [.pv (.int 3)] S=.ok ([.int 0,.int 1,.int 2],[]) S:=by
  unfold iX;dsimp only;rw[if_pos 1#b];rfl
 unfold uT aI Rg;rcases h with h |h
 .obtain⟨a,b,rfl⟩:=len2 h
  generalize hA:tv a=TA;generalize hB:tv b=TB;dsimp! [iJ,hA,hB]
 .obtain⟨a,b,c,rfl⟩:=len3 h
  generalize hA:tv a=TA;generalize hB:tv b=TB;generalize hC:tv c=TC;dsimp! [iJ,hA,hB,hC,bA,cC,dG,rg,eM,eG,gN]
def dE:BD->BE
 |[a,b,c]=>[[a,b],[b,c],[c,a]]
 |[a,b,c,d]=>[[b,c,d],[a,d,c],[a,b,d],[a,c,b]]
 |_=>[]
theorem aaA{uss:BD}(h:uss.length=3\/uss.length=4)(S:aF):qB [.pv (px uss)] S=.ok (.pv (.lst ((dE uss).map λw=>.tup (w.map tv)))) S:=by
 unfold qB aI Hg;rcases h with h |h
 .obtain⟨a,b,c,rfl⟩:=len3 h
  generalize hA:tv a=TA;generalize hB:tv b=TB;generalize hC:tv c=TC;dsimp! [dE,hA,hB,hC,bA,cC,aX,bT,eM,eG,gN]
 .obtain⟨a,b,c,d,rfl⟩:=len4 h
  generalize hA:tv a=TA;generalize hB:tv b=TB;generalize hC:tv c=TC;generalize hD:tv d=TD;dsimp! [dE,hA,hB,hC,hD,bA,cC,aX,bT,eM,eG,gN]
theorem Wh{x0 y0 z0 w0 x1 y1 z1 w1 x2 y2 z2 w2 x3 y3 z3 w3:Int}(p0:0<w0)(d:D3 x0 y0 z0 w0 x1 y1 z1 w1 x2 y2 z2 w2 x3 y3 z3 w3≠0):∃n∈bR [[x0,y0,z0,w0],[x1,y1,z1,w1],[x2,y2,z2,w2]],n≠0:=by
 apply AR;intro h;have hz:=λn hn=>AR λc=>h ⟨n,hn,c⟩;have h1:(y1*w0-y0*w1)*(z2*w0-z0*w2)-(z1*w0-z0*w1)*(y2*w0-y0*w2)=0:=hz _ (by simp[qX,qV,rA,mY,mZ]);have h2:(z1*w0-z0*w1)*(x2*w0-x0*w2)-(x1*w0-x0*w1)*(z2*w0-z0*w2)=0:=hz _ (by simp[qX,qV,rA,mY,mZ]);have h3:(x1*w0-x0*w1)*(y2*w0-y0*w2)-(y1*w0-y0*w1)*(x2*w0-x0*w2)=0:=hz _ (by simp[qX,qV,rA,mY,mZ]);have e:w0*w0*D3 x0 y0 z0 w0 x1 y1 z1 w1 x2 y2 z2 w2 x3 y3 z3 w3=((y1*w0-y0*w1)*(z2*w0-z0*w2)-(z1*w0-z0*w1)*(y2*w0-y0*w2))*(x3*w0-x0*w3)+((z1*w0-z0*w1)*(x2*w0-x0*w2)-(x1*w0-x0*w1)*(z2*w0-z0*w2))*(y3*w0-y0*w3)+((x1*w0-x0*w1)*(y2*w0-y0*w2)-(y1*w0-y0*w1)*(x2*w0-x0*w2))*(z3*w0-z0*w3):=by
  unfold D3;grind
 rw[h1,h2,h3,ou,ou,ou]at e;rcases kq.mp e with g |g
 .rcases kq.mp g with g |g<;>omega
 .exact d g
theorem Sx.mono {u:BD}(h:Sx n k u)(hl:k<=l):Sx n l u:=⟨h.len,λus hu=>(h.gu _ hu).mono hl,h.nz,h.cn⟩
theorem ag0 (h:k≠0):sg k*sg k=1:=by
 unfold sg;grind
theorem Hs (hk:0<k)(l:BC):aS (l.map (k*·))=aS l:=by
 by_cases z:gl l 0=0
 .have e:l.map (k*·)=l:=by
   have h:=Ag z;clear z
   induction l with
   |nil=>rfl
   |cons n l ih=>rw[au,ih λm hm=>h m (bh _ hm),h n (av ..),qo]
  rw[e]
 .have hf:∀l ,jD (l.map (k*·))=jD l:=λl=>by
   induction l with
   |nil=>rfl
   |cons n l ih=>
    rw[au];unfold jD
    by_cases h:n=0
    .subst h
     simpa using ih
    .rw[if_neg h,if_neg (di 1#a h),vX hk]
  unfold aS;rw[uK hk l z,hf]
theorem Ur (hk:k≠0)(l:BC):aS (l.map (k*·))=aS l:=by
 by_cases h:0<k
 .exact Hs h l
 .have e:l.map (k*·)=(l.map (-k*·)).map (- ·):=by
   rw[cj];refine dy λn _=>?_;show k*n=-(-k*n);rw[kz,Int.neg_neg]
  rw[e,zI,Hs 1#a l]
theorem Of {a b:Int}(ha:a≠0)(hb:b≠0)(h:u.map (a*·)=v.map (b*·)):aS u=aS v:=by
 rw[<-Ur ha,h,Ur hb]
theorem rY(ns:BC):∃g:Int,ns=(aS ns).map (g*·):=by
 by_cases z:gl ns 0=0
 .have h:=Ag z
  refine⟨0,?_⟩;have hl:(aS ns).length=ns.length:=by unfold aS;rw[ak,Su]
  generalize aS ns=D at hl;clear z
  induction ns generalizing D with
  |nil=>cases D with
   |nil=>rfl
   |cons a D=>simp at hl
  |cons n ns ih=>
   cases D with
   |nil=>simp at hl
   |cons a D=>
    rw[au,<-ih (λm hm=>h m (bh _ hm)) D (by simpa using hl),h n (av ..),ou]
 .obtain⟨g,_,e⟩:=adP ns
  have hf:=by
   have:∀l:BC,gl l 0≠0->jD l*jD l=1:=λl=>by
    induction l with
    |nil=>intro h;exact absurd rfl h
    |cons n l ih=>
     intro h;unfold jD
     by_cases e:n=0
     .subst e
      exact ih (by simpa[gl]using h)
     .rw[if_neg e]
      exact ag0 e
   exact this ns z
  refine⟨g*jD ns,?_⟩;unfold aS;rw[cj];refine e.trans ?_;refine dy λn _=>?_;grind
theorem Ws (h:aS [a,b,c]=aS [d,e,f]):b*f=c*e/\c*d=a*f/\a*e=b*d:=by
 obtain⟨g,hg⟩:=rY _;obtain⟨i,hi⟩:=rY _;rw[<-h]at hi
 match hD:aS _,hg,hi with
 |[x,y,z],hg,hi=>
  simp at hg hi;obtain⟨h1,h2,h3⟩:=hg;obtain⟨h4,h5,h6⟩:=hi;subst h1 h2 h3 h4 h5 h6;refine⟨?_,?_,?_⟩<;>grind
 |[],hg,hi=>simp at hg
 |[_],hg,hi=>simp at hg
 |[_,_],hg,hi=>simp at hg
 |_::_::_::_::_,hg,hi=>simp at hg
theorem aao (h:aS [a,b]=aS [d,e]):a*e=b*d:=by
 obtain⟨g,hg⟩:=rY _;obtain⟨i,hi⟩:=rY _;rw[<-h]at hi
 match hD:aS _,hg,hi with
 |[x,y],hg,hi=>
  simp at hg hi;obtain⟨h1,h2⟩:=hg;obtain⟨h4,h5⟩:=hi;subst h1 h2 h4 h5<;>grind
 |[],hg,hi=>simp at hg
 |[_],hg,hi=>simp at hg
 |_::_::_::_,hg,hi=>simp at hg
theorem zJ (hn:n=2\/n=3){p q:BC}(hp:Pw n p)(hq:Pw n q):cX q p=(cX p q).map (- ·):=by
 rcases hn with rfl |rfl
 .obtain⟨x0,y0,w0,rfl,_⟩:=hp.two
  obtain⟨x1,y1,w1,rfl,_⟩:=hq.two;simp[mY,Int.neg_sub]
 .obtain⟨x0,y0,z0,w0,rfl,_⟩:=hp.three
  obtain⟨x1,y1,z1,w1,rfl,_⟩:=hq.three;simp[mZ,Int.neg_sub]
theorem l3{a b c d e f:Int}(h:a=d)(g:b=e)(i:c=f):[a,b,c]=[d,e,f]:=by simp_all
theorem wD (hp:Pw 3 p)(hq:Pw 3 q)(hr:Pw 3 r):aS (bR [q,p,r])=aS (bR [p,q,r]):=by
 obtain⟨x0,y0,z0,w0,rfl,p0⟩:=hp.three;obtain⟨x1,y1,z1,w1,rfl,p1⟩:=hq.three;obtain⟨x2,y2,z2,w2,rfl,p2⟩:=hr.three;refine Of (a:=w0) (b:=-w1) 1#a 1#a ?_;refine l3 ?_ ?_ ?_<;>grind
theorem lL (hp:Pw 3 p)(hq:Pw 3 q)(hr:Pw 3 r):aS (bR [p,r,q])=aS (bR [p,q,r]):=by
 obtain⟨x0,y0,z0,w0,rfl,p0⟩:=hp.three;obtain⟨x1,y1,z1,w1,rfl,p1⟩:=hq.three;obtain⟨x2,y2,z2,w2,rfl,p2⟩:=hr.three;refine Of (a:=1) (b:=-1) 1#a 1#a ?_;refine l3 ?_ ?_ ?_<;>grind
theorem agQ{u1 u2 u3 v1 v2 v3 q1 q2 q3:Int}(h1:v2*u3=v3*u2)(h2:v3*u1=v1*u3)(h3:v1*u2=v2*u1):(u2*v3-u3*v2)*q1+(u3*v1-u1*v3)*q2+(u1*v2-u2*v1)*q3=0:=by grind
theorem agq{u1 u2 u3 v1 v2 v3 q1 q2 q3:Int}(h1:(u3*q1-u1*q3)*(u1*v2-u2*v1)=(u1*q2-u2*q1)*(u3*v1-u1*v3))(h2:(u1*q2-u2*q1)*(u2*v3-u3*v2)=(u2*q3-u3*q2)*(u1*v2-u2*v1))(h3:(u2*q3-u3*q2)*(u3*v1-u1*v3)=(u3*q1-u1*q3)*(u2*v3-u3*v2)):(u2*v3-u3*v2)*q1+(u3*v1-u1*v3)*q2+(u1*v2-u2*v1)*q3=0:=by
 have e1:u1*((u2*v3-u3*v2)*q1+(u3*v1-u1*v3)*q2+(u1*v2-u2*v1)*q3)=0:=by grind
 have e2:u2*((u2*v3-u3*v2)*q1+(u3*v1-u1*v3)*q2+(u1*v2-u2*v1)*q3)=0:=by grind
 have e3:u3*((u2*v3-u3*v2)*q1+(u3*v1-u1*v3)*q2+(u1*v2-u2*v1)*q3)=0:=by grind
 generalize hd:(u2*v3-u3*v2)*q1+(u3*v1-u1*v3)*q2+(u1*v2-u2*v1)*q3=d at *;rcases kq.mp e1 with g1 |g1
 .rcases kq.mp e2 with g2 |g2
  .rcases kq.mp e3 with g3 |g3
   .rw[<-hd,g1,g2,g3]
    simp
   .exact g3
  .exact g2
 .exact g1
theorem i0{i:Int}(h:i≠0):(i:Rat)≠0:=λz=>h (AS.mp (z.trans rfl))
theorem m0{a b:Rat}(ha:a≠0)(hb:b≠0):a*b≠0:=λz=>by
 rcases Rat.mul_eq_zero.mp z with z |z
 .exact ha z
 .exact hb z
def rs:List 1#h->Rat
 |[]=>0
 |u::L=>(u.1:Rat)/(u.2:Rat)+rs L
theorem B1 {u v:Int×Int}(h:Fq k u)(g:Fq k v):((pl u v).1:Rat)/((pl u v).2:Rat)=(u.1:Rat)/u.2+(v.1:Rat)/v.2:=by
 obtain⟨_,f,e⟩:=Aj h g;have r:=congrArg (λi:Int=>(i:Rat)) e;simp only[qy,Rat.intCast_add]at r;have n1:=i0 (df h.pos);have n2:=i0 (df g.pos);have n3:=i0 (df f.pos);grind
theorem Sz:∀(L:List 1#h),(∀u∈L,Fq k u)->rs (dD L)=rs L
 |[],_=>rfl
 |[_],_=>rfl
 |a::b::L,h=>by
  show(pl a b).1/(pl a b).2+rs _=a.1/a.2+(b.1/b.2+rs L);rw[Sz L λu hu=>h u (by simp[hu]),B1 (h a 1#d) (h b 1#d)]<;>grind
theorem Dy:∀(m k:Nat)(L:List 1#h),(∀u∈L,Fq k u)->rs (fW m L)=rs L/\∃l,∀u∈fW m L,Fq l u
 |0,k,L,h=>⟨rfl,k,h⟩
 |m+1,k,L,h=>by
  unfold fW;split
  .exact⟨rfl,k,h⟩
  .obtain⟨a,b⟩:=Dy m _ _ (Ki L h)
   exact⟨a.trans (Sz L h),b⟩
theorem Qw:∀(m:Nat)(L:List 1#h),L.length<=2^m->(fW m L).length<=1
 |0,L,h=>h
 |m+1,L,h=>by
  unfold fW;split
  .assumption
  .refine Qw m _ ?_
   rw[Fg]<;>grind
theorem aer {L:List 1#h}(hl:L.length<=32)(h:∀u∈L,Fq k u):((rC L).1:Rat)/((rC L).2:Rat)=rs L/\∃l,Fq l (rC L):=by
 obtain⟨e,l,f⟩:=Dy 5 k L h;have z:=Qw 5 L hl;unfold rC;rw[<-e]
 match fW 5 L,z,f with
 |[],_,_=>exact⟨by simp only[rs];grind,1,by decide,by unfold Bd;decide,by unfold Bd;decide,by decide⟩
 |[u],_,f=>exact⟨by simp only[rs];grind,l,f u 1#d⟩
theorem wO {u v:Int×Int}(h:Fq k u)(g:Fq l v)(e:(u.1:Rat)/u.2=(v.1:Rat)/v.2):u=v:=by
 have n1:=i0 (df h.pos);have n2:=i0 (df g.pos);have c:(u.1:Rat)*v.2=v.1*u.2:=by grind
 rw[<-qy,<-qy]at c;have c:=yW (df h.pos) (df g.pos) (AS.mp c);have s:∀{p q:Int},0<q->ci p q=1->fr p q=[p,q]:=λ{p q} hq hg=>by
  unfold fr;rw[if_neg 1#a];refine ads ?_;show((ci _ q:Nat):Int)=1;rw[qp];exact congrArg _ hg
 rw[s h.pos h.lo,s g.pos g.lo]at c;injection c with c1 c2;injection c2 with c2;exact wv c1 c2
theorem Ii{κ α:Type}{enc:κ->PV}(inj:∀a b,enc a=enc b->a=b)(f:κ->α){k:κ}{ks:List κ}(h:k∈ks):∃i,iT (ks.map λj=>(enc j,f j)) (enc k)=some i/\ks[i]?=some k:=by
 obtain⟨i,hi,e⟩:=td.mp h;obtain⟨j,hj⟩:=vS (kvs:=ks.map λj=>(enc j,f j)) (k:=enc k) (i:=i) (by simp_all);refine⟨j,hj,?_⟩;obtain⟨v,hv⟩:=mH hj;rw[aw]at hv;cases z:ks[j]? with
 |none=>simp_all
 |some x=>
  rw[z]at hv;have:=congrArg uw (cq hv);rw[inj _ _ this]
theorem Zg{κ α:Type}{enc:κ->PV}(inj:∀a b,enc a=enc b->a=b)(f:κ->α){k:κ}{ks:List κ}(h:k∉ks):iT (ks.map λj=>(enc j,f j)) (enc k)=none:=by
 cases z:iT _ _ with
 |none=>rfl
 |some i=>
  obtain⟨v,hv⟩:=mH z;rw[aw]at hv;cases y:ks[i]? with
  |none=>simp_all
  |some x=>
   rw[y]at hv;have:=congrArg uw (cq hv);exact absurd (inj _ _ this▸dh y) h
theorem vA{κ α:Type}{enc:κ->PV}(inj:∀a b,enc a=enc b->a=b)(f:κ->α){k:κ}{ks:List κ}(h:k∈ks):gX (ks.map λj=>(enc j,f j)) (enc k)=some (f k):=by
 obtain⟨i,e,g⟩:=Ii inj f h;unfold gX
 simp_all
theorem abz{κ α:Type}{enc:κ->PV}(inj:∀a b,enc a=enc b->a=b)(f:κ->α){k:κ}{ks:List κ}(h:k∉ks):gX (ks.map λj=>(enc j,f j)) (enc k)=none:=by
 unfold gX;rw[Zg inj f h]
theorem Iw{κ α:Type}[DecidableEq κ]{enc:κ->PV}(f:κ->α){k:κ}{ks:List κ}(nd:ks.Nodup){i:Nat}(g:ks[i]?=some k)(v:α):(ks.map λj=>(enc j,f j)).set i (enc k,v)=ks.map λj=>(enc j,if j=k then v else f j):=by
 refine jg λj=>?_;have hi:=(cf.mp g).1;rw[ui,aw,aw]
 by_cases e:i=j
 .subst e
  simp_all
 .rw[if_neg e]
  cases y:ks[j]? with
  |none=>rfl
  |some x=>
   have:x≠k:=λz=>e (nodup_idx nd g (z▸y))
   simp_all
theorem acr{κ α:Type}[DecidableEq κ]{enc:κ->PV}(inj:∀a b,enc a=enc b->a=b)(f:κ->α){k:κ}{ks:List κ}(nd:ks.Nodup)(h:k∈ks)(v:α):lO (ks.map λj=>(enc j,f j)) (enc k) v=ks.map λj=>(enc j,if j=k then v else f j):=by
 obtain⟨i,e,g⟩:=Ii inj f h;unfold lO;rw[e];exact Iw f nd g v
theorem abt{κ α:Type}[DecidableEq κ]{enc:κ->PV}(inj:∀a b,enc a=enc b->a=b)(f:κ->α){k:κ}{ks:List κ}(h:k∉ks)(v:α):lO (ks.map λj=>(enc j,f j)) (enc k) v=(ks++[k]).map λj=>(enc j,if j=k then v else f j):=by
 unfold lO;rw[Zg inj f h,cw];have e:ks.map _=ks.map λj=>(enc j,if j=k then v else f j):=dy λj hj=>by
  rw[if_neg λz:j=k=>h (z▸hj)]
 rw[<-e];simp
theorem acq{κ:Type}[DecidableEq κ]{enc:κ->PV}(inj:∀a b,enc a=enc b->a=b)(f:κ->BK){k:κ}{ks:List κ}(nd:ks.Nodup)(h:k∈ks)(v:PV):nA (ks.map λj=>(enc j,f j)) (enc k) v=ks.map λj=>(enc j,if j=k then f j++[v] else f j):=by
 obtain⟨i,e,g⟩:=Ii inj f h;unfold nA;rw[e];have:((ks.map λj=>(enc j,f j))[i]?.map (·.2)).getD []=f k:=by simp[g]
 dsimp only;rw[this,Iw f nd g]
 simp_all
theorem abn{κ:Type}[DecidableEq κ]{enc:κ->PV}(inj:∀a b,enc a=enc b->a=b)(f:κ->BK){k:κ}{ks:List κ}(h:k∉ks)(hf:f k=[])(v:PV):nA (ks.map λj=>(enc j,f j)) (enc k) v=(ks++[k]).map λj=>(enc j,if j=k then f j++[v] else f j):=by
 unfold nA;rw[Zg inj f h,cw];have e:ks.map _=ks.map λj=>(enc j,if j=k then f j++[v] else f j):=dy λj hj=>by
  rw[if_neg λz:j=k=>h (z▸hj)]
 rw[<-e];simp[hf]
def aK{κ β:Type}[DecidableEq κ](R:List (κ×β))(k:κ):List β:=(R.filter λr=>decide (r.1=k)).map (·.2)
def bB{κ β:Type}[DecidableEq κ](R:List (κ×β)):List κ:=R.foldl (λks r=>if r.1∈ks then ks else ks++[r.1]) []
theorem Yv [DecidableEq κ](R:List (κ×β))(k:κ)(u:β)(j:κ):aK (R++[(k,u)]) j=if j=k then aK R j++[u] else aK R j:=by
 unfold aK
 by_cases h:j=k
 .subst h
  simp
 .have:¬k=j:=λz=>h z.symm
  simp_all
theorem Wf [DecidableEq κ](R:List (κ×β))(r:κ×β):bB (R++[r])=if r.1∈bB R then bB R else bB R++[r.1]:=by
 unfold bB
 simp_all
theorem fT{κ β:Type}[DecidableEq κ](R:List (κ×β)):(bB R).Nodup/\∀k,k∈bB R↔∃r∈R,r.1=k:=by
 have go:∀(R':List (κ×β))(ks:List κ),ks.Nodup->(R'.foldl (λks r=>if r.1∈ks then ks else ks++[r.1]) ks).Nodup/\∀k,k∈R'.foldl (λks r=>if r.1∈ks then ks else ks++[r.1]) ks↔k∈ks\/∃r∈R',r.1=k:=by
  intro R'
  induction R' with
  |nil=>exact λks nd=>⟨nd,λk=>by simp⟩
  |cons r R' ih=>
   intro ks nd;rw[AT]
   by_cases h:r.1∈ks
   .rw[if_pos h]
    obtain⟨a,b⟩:=ih ks nd;refine⟨a,λk=>(b k).trans ?_⟩;constructor
    .rintro(z |⟨x,hx,z⟩)
     .exact .inl z
     .exact .inr ⟨x,bh _ hx,z⟩
    .rintro(z |⟨x,hx,z⟩)
     .exact .inl z
     .rcases br.mp hx with rfl |hx
      .exact .inl (z▸h)
      .exact .inr ⟨x,hx,z⟩
   .rw[if_neg h]
    obtain⟨a,b⟩:=ih (ks++[r.1]) (by
     rw[ng];refine⟨nd,by simp,λx hx y hy z=>h ?_⟩;have:y=r.1:=by simpa using hy
     rw[<-this,<-z];exact hx)
    refine⟨a,λk=>(b k).trans ?_⟩;rw[ce,yy];constructor
    .rintro((z |z) |⟨x,hx,z⟩)
     .exact .inl z
     .exact .inr ⟨r,av,z.symm⟩
     .exact .inr ⟨x,bh _ hx,z⟩
    .rintro(z |⟨x,hx,z⟩)
     .exact .inl (.inl z)
     .rcases br.mp hx with rfl |hx
      .exact .inl (.inr z.symm)
      .exact .inr ⟨x,hx,z⟩
 obtain⟨a,b⟩:=go R [] kn;exact⟨a,λk=>(b k).trans 1#d⟩
theorem kW [DecidableEq κ](R:List (κ×β)):(bB R).length<=R.length:=by
 have go:∀(R':List (κ×β)) ks,(R'.foldl (λks r=>if r.1∈ks then ks else ks++[r.1]) ks).length<=ks.length+R'.length:=by
  intro R'
  induction R' with
  |nil=>exact λks=>aj _
  |cons r R' ih=>
   grind
 have:=go R [];simpa[bB]using this
theorem Ja [DecidableEq κ]{R:List (κ×β)}{k:κ}(h:k∉bB R):aK R k=[]:=by
 unfold aK;rw[AU,AW];intro r hr z;exact h (((fT R).2 k).mpr ⟨r,hr,by simpa using z⟩)
def cZ [DecidableEq κ](enc:κ->PV)(R:List (κ×1#h)):List (PV×BK):=(bB R).map λk=>(enc k,(aK R k).map fv)
def aW(L:List 1#h):Int×Int:=L.foldl pl (0,1)
def bU [DecidableEq κ](enc:κ->PV)(R:List (κ×1#h)):List (PV×PV):=(bB R).map λk=>(enc k,fv (aW (aK R k)))
theorem Xr [DecidableEq κ]{enc:κ->PV}(inj:∀a b,enc a=enc b->a=b)(R:List (κ×1#h))(k:κ)(u:Int×Int):nA (cZ enc R) (enc k) (fv u)=cZ enc (R++[(k,u)]):=by
 unfold cZ;have e:∀ks:List _,(ks.map λj=>(enc j,(aK (R++[(k,u)]) j).map fv))=ks.map λj=>(enc j,if j=k then(aK R j).map fv++[fv u] else(aK R j).map fv):=λks=>dy λj _=>by
  rw[Yv];split<;>simp
 rw[e,Wf]
 by_cases h:k∈bB R
 .rw[if_pos h]
  exact acq inj _ (fT R).1 h _
 .rw[if_neg h]
  exact abn inj _ h (by simp[Ja h]) _
theorem Yr [DecidableEq κ]{enc:κ->PV}(inj:∀a b,enc a=enc b->a=b)(R:List (κ×1#h))(k:κ):(gX (bU enc R) (enc k)=some (fv (aW (aK R k)))/\k∈bB R)\/(gX (bU enc R) (enc k)=none/\fv (aW (aK R k))=fv (0,1)):=by
 by_cases h:k∈bB R
 .exact .inl ⟨vA inj _ h,h⟩
 .exact .inr ⟨abz inj _ h,by rw[Ja h];rfl⟩
theorem Zr [DecidableEq κ]{enc:κ->PV}(inj:∀a b,enc a=enc b->a=b)(R:List (κ×1#h))(k:κ)(u:Int×Int):lO (bU enc R) (enc k) (fv (pl (aW (aK R k)) u))=bU enc (R++[(k,u)]):=by
 unfold bU;have e:∀ks:List _,(ks.map λj=>(enc j,fv (aW (aK (R++[(k,u)]) j))))=ks.map λj=>(enc j,if j=k then fv (pl (aW (aK R k)) u)else fv _):=λks=>dy λj _=>by
  rw[Yv];split
  .rename_i z
   subst z;simp[aW]
  rfl
 rw[e,Wf]
 by_cases h:k∈bB R
 .rw[if_pos h]
  exact acr inj _ (fT R).1 h _
 .rw[if_neg h]
  exact abt inj _ h _
theorem K6 {u v:Int×Int}(h:Fq k u)(g:Fq l v):fr (u.1*v.2+v.1*u.2) (u.2*v.2)=[(pl u v).1,(pl u v).2]/\Fq (k+l+1) (pl u v)/\(pl u v).1*(u.2*v.2)=(u.1*v.2+v.1*u.2)*(pl u v).2:=by
 have nz:=df (bf h.pos g.pos);obtain⟨p,q,e,hq,c⟩:=wE nz;have bt:Bd (k+l+1) _:=((h.b1.mul g.b2).add ((g.b1.mul h.b2).mono 1#a)).mono 1#a;have bb:Bd (k+l+1) _:=(h.b2.mul g.b2).mono 1#a;obtain⟨b3,b4⟩:=wM bt bb e;have ep:pl u v=(p,q):=by unfold pl;rw[e];rfl
 rw[ep];exact⟨e,⟨hq,b3,b4,yA nz e⟩,c⟩
theorem aeW {u v:Int×Int}(h:Fq k u)(g:Fq l v):((pl u v).1:Rat)/((pl u v).2:Rat)=(u.1:Rat)/u.2+(v.1:Rat)/v.2:=B1 (k:=k+l) (h.mono 1#a) (g.mono 1#a)
theorem Av{k l:Nat}{u v:Int×Int}(S:aF)(h:Fq k u)(g:Fq l v)(hk:k+l+1<=7000):vI [.pv (fv u),.pv (fv v)] S=.ok (.pv (fv (pl u v))) S:=by
 have e:=(K6 h g).1;have bt:Bd 8000 (u.1*v.2+v.1*u.2):=((h.b1.mul g.b2).add ((g.b1.mul h.b2).mono 1#a)).mono 1#a;have bb:Bd 8000 (u.2*v.2):=(h.b2.mul g.b2).mono 1#a;have f:=Ow (u.1*v.2+v.1*u.2) (u.2*v.2) S bt bb;rw[e]at f;have m1:=fD h.b1 g.b2 1#a 1#a;have m2:=fD g.b1 h.b2 1#a 1#a;have m3:=fD h.b2 g.b2 1#a 1#a;simp only[au,da]at f;show vI [.pv (.tup [.int u.1,.int u.2]),.pv (.tup [.int v.1,.int v.2])] S=.ok (.pv (.tup [.int (pl u v).1,.int (pl u v).2])) S;unfold vI aI Gi;dsimp! [m1,m2,m3,f]
theorem aht:Fq 1 ((0,1):Int×Int):=⟨by decide,by unfold Bd;decide,by unfold Bd;decide,rfl ⟩
theorem iG{k:Nat}(L:List 1#h)(h:∀u∈L,Fq k u):Fq (1+L.length*(k+1)) (aW L)/\((aW L).1:Rat)/((aW L).2:Rat)=rs L:=by
 have go:∀(L:List 1#h)(l:Nat)(w:Int×Int),(∀u∈L,Fq k u)->Fq l w->Fq (l+L.length*(k+1)) (L.foldl pl w)/\((L.foldl pl w).1:Rat)/((L.foldl pl w).2:Rat)=(w.1:Rat)/(w.2:Rat)+rs L:=by
  intro L
  induction L with
  |nil=>
   intro l w _ hw;refine⟨hw.mono 1#a,?_⟩;show(w.1:Rat)/(w.2:Rat)=(w.1:Rat)/(w.2:Rat)+0;rw[Rat.add_zero]
  |cons u L ih=>
   intro l w h hw;have hu:=h u av;obtain⟨a,b⟩:=ih (l+k+1) (pl w u) (λv hv=>h v (bh _ hv)) (K6 hw hu).2.1;rw[AT];refine⟨a.mono ?_,?_⟩
   .rw[cu,Nat.add_mul]
    omega
   .rw[b,aeW hw hu]
    show _=(w.1:Rat)/(w.2:Rat)+((u.1:Rat)/(u.2:Rat)+rs L);rw[zh]
 obtain⟨a,b⟩:=go L 1 (0,1) h aht;refine⟨a,b.trans ?_⟩;show((0:Int):Rat)/((1:Int):Rat)+rs L=rs L;have:((0:Int):Rat)/((1:Int):Rat)=0:=by grind
 rw[this,Rat.zero_add]
theorem ade (h:L.Perm M):rs L=rs M:=by
 induction h with
 |nil=>rfl
 |cons x _ ih=>unfold rs;rw[ih]
 |swap x y l=>
  show y.1/y.2+(x.1/x.2+rs l)=x.1/x.2+(y.1/y.2+rs l);rw[<-zh,<-zh,Rat.add_comm (y.1/y.2)]
 |trans _ _ a b=>exact a.trans b
theorem Ev {L:List 1#h}(hl:L.length<=32)(h:∀u∈L,Fq k u):rC L=aW L:=by
 obtain⟨a,b⟩:=iG L h;obtain⟨c,l,d⟩:=aer hl h;exact wO d a (c.trans b.symm)
theorem aby {L M:List 1#h}(p:L.Perm M)(h:∀u∈M,Fq k u):aW L=aW M:=by
 obtain⟨a,b⟩:=iG L λu hu=>h u (p.subset hu);obtain⟨c,d⟩:=iG M h;exact wO a c (b.trans ((ade p).trans d.symm))
theorem Yd (h:Fq k u):u.1=0↔u=(0,1):=by
 constructor
 .intro z
  have l:=h.lo;rw[z,qp]at l;have p:=h.pos<;>grind
 .intro z
  rw[z]
def bI [DecidableEq κ](lt:κ->κ->Bool)(R:List (κ×1#h)):List (κ×1#h):=((dA lt (bB R)).map λk=>(k,aW (aK R k))).filter λx=>!decide (x.2.1=0)
theorem aam [DecidableEq κ]{lt:κ->κ->Bool}(O:lU lt){k:Nat}{R R':List (κ×1#h)}(p:R.Perm R')(h:∀r∈R',Fq k r.2):bI lt R=bI lt R':=by
 unfold bI;have e1:dA lt (bB R)=dA lt (bB R'):=by
  refine P8 O ?_ (fT _).1;rw[AX (fT R).1 (fT _).1];intro j;rw[(fT R).2,(fT _).2];exact⟨λ⟨r,hr,z⟩=>⟨r,p.subset hr,z⟩,λ⟨r,hr,z⟩=>⟨r,p.symm.subset hr,z⟩⟩
 rw[e1];congr 1;refine dy λj _=>?_;have:aW (aK R j)=aW (aK _ j):=aby (by exact(p.filter _).map _) λu hu=>by
  obtain⟨r,hr,rfl⟩:=ca.mp hu;exact h r (iy.mp hr).1
 rw[this]
def gf(ns:BC):Int:=Classical.choose (rY ns)
theorem qU(ns:BC):ns=(aS ns).map (gf ns*·):=Classical.choose_spec (rY _)
def eS(t b:Int):Int×Int:=((fr t b).getD 0 0,(fr t b).getD 1 0)
theorem vL {t b:Int}(hb:b≠0)(bt:Bd k t)(bb:Bd k b):fr t b=[(eS t b).1,(eS t b).2]/\Fq k (eS t b):=by
 obtain⟨p,q,e,hq,_⟩:=wE hb;have ep:eS t b=(p,q):=by unfold eS;rw[e];rfl
 rw[ep];exact⟨e,hq,(wM bt bb e).1,(wM bt bb e).2,yA hb e⟩
theorem kU(ns:BC):(aS ns).length=ns.length:=by
 unfold aS;rw[ak,Su]
theorem yY (nz:∃n∈ns,n≠0):∃d∈aS ns,d≠0:=by
 obtain⟨n,hn,z⟩:=nz;rw[qU ns]at hn;obtain⟨d,hd,rfl⟩:=ca.mp hn;exact⟨d,hd,λe=>z (by simp_all)⟩
theorem wH {ns:BC}(hb:∀n∈ns,Bd k n)(nz:∃n∈ns,n≠0):Bd k (gf ns)/\∀d∈aS ns,Bd k d:=by
 have g0:gf ns≠0:=λe=>by
  obtain⟨n,hn,z⟩:=nz;rw[qU ns]at hn
  simp_all
 have ml:=λd hd=>hb _ (by
  have:gf ns*d∈(aS ns).map _:=List.mem_map_of_mem hd
  rwa[<-qU _]at this)
 have le:∀a b:Int,b≠0->a.natAbs<=(a*b).natAbs:=λa b h=>by
  rw[ql];exact Nat.le_mul_of_pos_right _ (Int.natAbs_pos.mpr h)
 constructor
 .obtain⟨d,hd,z⟩:=yY nz
  exact qm (le _ d z) (ml d hd)
 .intro d hd
  have:=ml d hd;rw[fe]at this;exact qm (le d _ g0) this
abbrev lS:MT:=aO (aC eA (aC aE (aA 1) (aA 0)) 1#e)
theorem aeq(S:aF){a b:Int}(nz:∃d∈[a,b],d≠0):∃(p d:Int)(L:BK),eQ [] (gN 0) lS (aA 0) (dS 0 2) [none,some (.pv (tv [a,b]))] S=.ok (.int p::L) S/\aE (tv [a,b]) (.int p)=some (.int d)/\d≠0/\d∈[a,b]/\∀g:Int,aE (.lst ([a,b].map (g*·) |>.map .int)) (.int p)=some (.int (g*d)):=by
 have i1:dS 0 2=[.int 0,.int 1]:=rfl;have f0:aE (tv [a,b]) (.int 0)=some (.int a):=rfl;have f1:aE (tv [a,b]) (.int 1)=some (.int b):=rfl;rw[i1]
 by_cases ha:a=0
 .have hb:b≠0:=λe=>by
   obtain⟨d,hd,z⟩:=nz;simp[ha,e]at hd;exact z hd
  have qb:(b==0)=false:=by simpa using hb
  refine⟨1,b,[],?_,f1,hb,by simp,λg=>rfl⟩;subst ha;generalize tv [0,b]=T at *;simp! [nI,mE,lS,gN,f0,f1,qb]
 .have qa:(a==0)=false:=by simpa using ha
  by_cases hb:b=0
  .refine⟨0,a,[],?_,f0,ha,by simp,λg=>rfl⟩
   subst hb;generalize tv [a,0]=T at *;simp! [nI,mE,lS,gN,f0,f1,qa]
  .have qb:(b==0)=false:=by simpa using hb
   refine⟨0,a,[.int 1],?_,f0,ha,by simp,λg=>rfl⟩;generalize tv [a,b]=T at *;simp! [nI,mE,lS,gN,f0,f1,qa,qb]
theorem aeJ{k:Nat}(hk:k<=1700){x y b:Int}(S:aF)(hx:Bd k x)(hy:Bd k y)(nz:∃n∈[x,y],n≠0)(hb:Bd k b)(b0:0<b):pZ [.pv (.lst [.int x,.int y]),.pv (.int b)] S=.ok (.pv (.tup [tv (aS [x,y]),fv (eS (gf [x,y]) b)])) S:=by
 have bd:∀n∈[x,y],Bd k n:=λn hn=>by
  simp only[br,fm,or_false]at hn;rcases hn with rfl |rfl
  .exact hx
  .exact hy
 obtain⟨gb,db⟩:=wH bd nz;have e1:=Mw [x,y] S (λn hn=>(bd n hn).mono 1#a) nz;obtain⟨a,c,ed⟩:∃a c,aS [x,y]=[a,c]:=by
  have:=kU [x,y]
  match e:aS [x,y],this with
  |[a,c],_=>exact⟨a,c,rfl⟩
 have gi:=qU [x,y];have fE:=yY nz;rw[ed]at e1 gi db fE⊢;obtain⟨p,d,L,e2,f1,d0,dm,f2⟩:=aeq S fE;have f2:=f2 (gf [x,y]);rw[<-gi]at f2;have m1:=fD (db d dm) hb 1#a 1#a;have bb:Bd (2*k) (d*b):=((db d dm).mul hb).mono 1#a;have nb:d*b≠0:=di d0 1#a;have e3:=Rc (gf [x,y]*d) (d*b) S ((gb.mul (db d dm)).mono 1#a) (bb.mono 1#a) nb;have e4:fr (gf [x,y]*d) (d*b)=fr (gf [x,y]) b:=yW nb 1#a (by grind);rw[e4,(vL 1#a gb hb).1]at e3;have rg:=oA S (n:=2) 1#b;have l2:(((tv [a,c]:PV)):PV)=.tup [.int a,.int c]:=rfl;have i0:aE (.lst (.int p::L)) (.int 0)=some (.int p):=jK (j:=0) rfl;have eL:cE [tv [a,c]]=some (.int 2):=rfl;have hB:zM=(aH (aP 2 (aJ rM [] (aB (aA 0) aD))) (aH (aP 3 (aC aE (gZ ["k"] [(2,"way")] (dG (aB (mR cE (aB (aA 2) aD)) aD)) (gN 0) lS (aA 0)) 1#e)) (aT (mN eF (aB (aA 2) (aB (jQ oJ [] (aB (aC aE (aA 0) (aA 3)) (aB (aC aU (aC aE (aA 2) (aA 3)) (aA 1)) aD))) aD)))))):=rfl;unfold pZ aI;rw[hB];show _=bQ.ok (AV.pv (.tup [tv [a,c],.tup [.int (eS (gf [x,y]) b).1,.int (eS (gf [x,y]) b).2]])) S;simp only[au,da]at f2 e3 e1;generalize gf [x,y]=G,(eS (gf [x,y]) b).2=P2,(eS (gf [x,y]) b).1=P1 at *;clear l2 ed gi db fE;generalize dS 0 2=IP,tv [a,c]=T at *;have c2:((2:Nat):Int)=2:=rfl;rw[c2]at rg;generalize lS=C1 at *;simp! [-cE,e1,gZ,dG,cC,eL,rg,e2,i0,f1,f2,m1,e3]
theorem afm(S:aF){a b c:Int}(nz:∃d∈[a,b,c],d≠0):∃(p d:Int)(L:BK),eQ [] (gN 0) lS (aA 0) (dS 0 3) [none,some (.pv (tv [a,b,c]))] S=.ok (.int p::L) S/\aE (tv [a,b,c]) (.int p)=some (.int d)/\d≠0/\d∈[a,b,c]/\∀g:Int,aE (.lst ([a,b,c].map (g*·) |>.map .int)) (.int p)=some (.int (g*d)):=by
 have i1:dS 0 3=[.int 0,.int 1,.int 2]:=rfl;have f0:aE (tv [a,b,c]) (.int 0)=some (.int a):=rfl;have f1:aE (tv [a,b,c]) (.int 1)=some (.int b):=rfl;have f2:aE (tv [a,b,c]) (.int 2)=some (.int c):=rfl;rw[i1];have key:∀(qa qb qc:Bool),(a==0)=qa->(b==0)=qb->(c==0)=qc->eQ [] (gN 0) lS (aA 0) [.int 0,.int 1,.int 2] [none,some (.pv (tv [a,b,c]))] S=.ok ((if qa then[] else[.int 0])++((if qb then[] else[.int 1])++(if qc then[] else[.int 2]))) S:=λqa qb qc ha hb hc=>by
  generalize tv [a,b,c]=T at *;cases qa<;>cases qb<;>cases qc<;>simp! [nI,mE,lS,gN,f0,f1,f2,ha,hb,hc]
 by_cases ha:a=0
 .have qa:(a==0)=true:=by simpa using ha
  by_cases hb:b=0
  .have qb:(b==0)=true:=by simpa using hb
   have hc:c≠0:=λe=>by
    obtain⟨d,hd,z⟩:=nz;simp[ha,hb,e]at hd;exact z hd
   have qc:(c==0)=false:=by simpa using hc
   exact⟨2,c,[],key _ _ _ qa qb qc,f2,hc,by simp,λg=>rfl⟩
  .have qb:(b==0)=false:=by simpa using hb
   exact⟨1,b,_,key _ _ _ qa qb rfl,f1,hb,by simp,λg=>rfl⟩
 .have qa:(a==0)=false:=by simpa using ha
  exact⟨0,a,_,key _ _ _ qa rfl rfl,f0,ha,by simp,λg=>rfl⟩
theorem Az{k:Nat}(hk:k<=1700){x y z b:Int}(S:aF)(hx:Bd k x)(hy:Bd k y)(hz:Bd k z)(nz:∃n∈[x,y,z],n≠0)(hb:Bd k b)(b0:0<b):pZ [.pv (.lst [.int x,.int y,.int z]),.pv (.int b)] S=.ok (.pv (.tup [tv (aS [x,y,z]),fv (eS (gf [x,y,z]) b)])) S:=by
 have bd:∀n∈[x,y,z],Bd k n:=λn hn=>by
  simp only[br,fm,or_false]at hn;rcases hn with rfl |rfl |rfl
  .exact hx
  .exact hy
  .exact hz
 obtain⟨gb,db⟩:=wH bd nz;have e1:=Mw [x,y,z] S (λn hn=>(bd n hn).mono 1#a) nz;obtain⟨a,c,e0,ed⟩:∃a c e0,aS [x,y,z]=[a,c,e0]:=by
  have:=kU [x,y,z]
  match e:aS [x,y,z],this with
  |[a,c,e0],_=>exact⟨a,c,e0,rfl⟩
 have gi:=qU [x,y,z];have fE:=yY nz;rw[ed]at e1 gi db fE⊢;obtain⟨p,d,L,e2,f1,d0,dm,f2⟩:=afm S fE;have f2:=f2 (gf [x,y,z]);rw[<-gi]at f2;have m1:=fD (db d dm) hb 1#a 1#a;have bb:Bd (2*k) (d*b):=((db d dm).mul hb).mono 1#a;have nb:d*b≠0:=di d0 1#a;have e3:=Rc (gf [x,y,z]*d) (d*b) S ((gb.mul (db d dm)).mono 1#a) (bb.mono 1#a) nb;have e4:fr (gf [x,y,z]*d) (d*b)=fr (gf [x,y,z]) b:=yW nb 1#a (by grind);rw[e4,(vL 1#a gb hb).1]at e3;have rg:=oA S (n:=3) 1#b;have l2:(((tv [a,c,e0]:PV)):PV)=.tup [.int a,.int c,.int e0]:=rfl;have i0:aE (.lst (.int p::L)) (.int 0)=some (.int p):=jK (j:=0) rfl;have eL:cE [tv [a,c,e0]]=some (.int 3):=rfl;have hB:zM=(aH (aP 2 (aJ rM [] (aB (aA 0) aD))) (aH (aP 3 (aC aE (gZ ["k"] [(2,"way")] (dG (aB (mR cE (aB (aA 2) aD)) aD)) (gN 0) lS (aA 0)) 1#e)) (aT (mN eF (aB (aA 2) (aB (jQ oJ [] (aB (aC aE (aA 0) (aA 3)) (aB (aC aU (aC aE (aA 2) (aA 3)) (aA 1)) aD))) aD)))))):=rfl;unfold pZ aI;rw[hB];show _=bQ.ok (AV.pv (.tup [tv [a,c,e0],.tup [.int (eS (gf [x,y,z]) b).1,.int (eS (gf [x,y,z]) b).2]])) S;simp only[au,da]at f2 e3 e1;generalize gf [x,y,z]=G,(eS (gf [x,y,z]) b).2=P2,(eS (gf [x,y,z]) b).1=P1 at *;clear l2 ed gi db fE;generalize dS 0 3=IP,tv [a,c,e0]=T at *;have c2:((3:Nat):Int)=3:=rfl;rw[c2]at rg;generalize lS=C1 at *;simp! [-cE,e1,gZ,dG,cC,eL,rg,e2,i0,f1,f2,m1,e3]
abbrev bO(x:BC×1#h):PV:=.tup [tv x.1,fv x.2]
theorem vJ:∀a b:BC,tv a=tv b->a=b:=λa b h=>zF (PV.tup.inj h)
theorem sN(k:BC):jT false (tv k):=⟨k,rfl⟩
theorem Bv:∀k:BC,kD (k.map .int)=some k
 |[]=>rfl
 |i::k=>by
  rw[au];unfold kD;rw[Bv k]
theorem Dh:∀ks:BD,iV (ks.map tv)=some ks
 |[]=>rfl
 |k::ks=>by
  show iV (.tup _::ks.map _)=_;unfold iV;rw[Dh _,Bv k]
theorem Nf (hl:ks.length<64)(nd:ks.Nodup)(ne:[]∉ks):jA (ks.map tv)=some (.lst ((dA HT.lexLt ks).map tv)):=by
 unfold jA;rw[Dh];dsimp only;rw[if_pos ⟨hl,nd,ne⟩];rfl
theorem Wv(x0 x4:BN):∀(L R:List (BC×1#h))(x2 x3:BN),(R++L).length<16777216->∃y2 y3,dH [] (gT 2 (aZ (gN 2) (aZ (gN 3) cJ))) (dC (kZ 1 2 3)) (L.map bO) [x0,some (.ref 0),x2,x3,x4] [.dol false (cZ tv R)]=.nx [x0,some (.ref 0),y2,y3,x4] [.dol false (cZ tv (R++L))]
 |[],R,x2,x3,_=>⟨x2,x3,by rw[jb];exact gK⟩
 |r::L,R,x2,x3,hl=>by
  obtain⟨y2,y3,ih⟩:=Wv x0 x4 L (R++[r]) (some (.pv (tv r.1))) (some (.pv (fv r.2))) (by simpa using hl);refine⟨y2,y3,?_⟩;rw[jp]at ih;have ih:dH [] _ (dC (kZ 1 2 3)) (L.map bO) _ [.dol false (cZ tv (R++[r]))]=.nx [x0,some (.ref 0),y2,y3,x4] [.dol false (cZ tv (R++r::L))]:=ih;have ea:=Xr vJ R r.1 r.2;have hc:jT false (tv r.1)/\(cZ tv R).length<16777216/\∀kv∈cZ tv R,kv.2.length<16777216:=by
   have:=kW R;have l2:R.length<16777216:=by rw[ax]at hl;omega
   refine⟨sN _,by unfold cZ;rw[ak];omega,λkv hkv=>?_⟩;obtain⟨j,_,rfl⟩:=ca.mp hkv;have:(aK R j).length<=R.length:=by
    unfold aK;rw[ak];exact qz _ _
   rw[ak];omega
  have es:pO (tv r.1) (fv r.2) [.dol false (cZ tv R)]=.ok (.pv .non) [.dol false (cZ tv (R++[r]))]:=by
   unfold pO;dsimp only;rw[if_pos hc,ea]
  rw[au,eW];rw[show bO r=PV.tup [tv r.1,fv r.2] from rfl];clear hc ea hl;generalize cZ tv R=D0,cZ tv (R++[r])=D1,cZ tv (R++r::L)=D2,L.map bO=LL,fv r.2=T2,tv r.1=T1 at *;simp[gT,aZ,cJ,gN,dC,cO.of,kZ,es,ih]
theorem aa8 {R:List (BC×1#h)}(hm:∀j,(aK R j).length<=2^m)(m5:m<=5)(hk:2^m*(k+1)<=7000)(h:∀r∈R,Fq k r.2):∀(ks:BD)(x:BN),(∀j∈ks,j∈bB R)->
  cH [] (gN 0) (mN eF (aB (aA 0) (aB (oR pY (aA 1) (aA 0)) aD))) (ks.map tv) [x,some (.ref 0)] [.dol false (cZ tv R)]=.ok (ks.map λj=>bO (j,aW (aK R j))) [.dol false (cZ tv R)]:=by
 intro ks x hks;refine oN (kB _) tv _ ks x λj hj=>?_;have fq:∀u∈aK R j,Fq k u:=λu hu=>by
  obtain⟨r,hr,rfl⟩:=ca.mp hu;exact h r (iy.mp hr).1
 have p5:=by
  have:=sr (show 0<2 by decide) m5;omega
 have et:=Wr [] (by grind) (hm j) m5 hk fq;rw[Ev (by grind) fq]at et;have eg:qJ (.ref 0) (.pv (tv j)) [.dol false (cZ tv R)]=some ((aK R j).map fv):=by
  unfold qJ;have:gX (cZ tv R) (tv j)=some _:=vA vJ _ (hks j hj);simp[sN,this]
 have en:kO (fv (aW (aK R j)))=true:=rfl;dsimp! [oR,eg,et,en]
theorem Zp (S:aF):∀(L:List (BC×1#h))(x:BN),(∀r∈L,Fq k r.2)->eQ [] (gN 0) (aO (aC eA (aC aE (aA 0) 1#c) (mN eF (aB 1#e (aB 1#c aD))))) (aA 0) (L.map bO) [x] S=.ok ((L.filter λx=>!decide (x.2.1=0)).map bO) S
 |[],x,_=>mE
 |r::L,x,h=>by
  have ih:=Zp S L (some (.pv (bO r))) λr hr=>h r (bh _ hr);have f:=h r av;have i1:aE (bO r) (.int 1)=some (fv r.2):=rfl;have eq:bC 8 (fv r.2) (.tup [.int 0,.int 1])=some (decide (r.2.1=0)):=by
   by_cases z:r.2.1=0
   .have:=(Yd f).mp z
    rw[this];rfl
   .have z':(r.2.1==0)=false:=by simpa using z
    simp[bC,iW,z',z]
  rw[au,nI,uz];generalize hT:bO r=T at*
  by_cases z:r.2.1=0
  .rw[decide_eq_true z]at eq⊢
   simp! [gN,i1,eq,ih]
  .rw[decide_eq_false z]at eq⊢
   simp! [gN,i1,eq,ih,hT]
theorem afz {R:List (BC×1#h)}(h:∀r∈R,Fq k r.2)(j:BC):Fq (1+R.length*(k+1)) (aW (aK R j)):=by
 refine(iG (k:=k) _ λu hu=>?_).1.mono ?_
 .obtain⟨r,hr,rfl⟩:=ca.mp hu
  exact h r (iy.mp hr).1
 .have:(aK R j).length<=R.length:=by
   unfold aK;rw[ak];exact qz _ _
  have:=ot (k+1) this<;>grind
theorem zC :∀x,x∈dA lt l->x∈l:=λ_ h=>(jJ l).subset h
theorem He{m k:Nat}{R:List (BC×1#h)}(hl:R.length<16777216)(h64:(bB R).length<64)(ne:[]∉bB R)(hm:∀j,(aK R j).length<=2^m)(m5:m<=5)(hk:2^m*(k+1)<=7000)(h:∀r∈R,Fq k r.2):
  To [.pv (.lst (R.map bO))] []=.ok (.pv (.tup ((bI HT.lexLt R).map bO))) []:=by
 obtain⟨y2,y3,e1⟩:=Wv (some (.pv (.lst (R.map bO)))) none R [] none none (by simpa using hl);have e2:jA ((cZ tv R).map (·.1))=some (.lst ((dA HT.lexLt (bB R)).map tv)):=by
  have:(cZ tv R).map (·.1)=(bB R).map tv:=by
   unfold cZ;rw[cj];rfl
  rw[this];exact Nf h64 (fT R).1 ne
 have e3:=aa8 hm m5 hk h (dA HT.lexLt (bB R)) none zC;have e4:=Zp [.dol false (cZ tv R)] ((dA HT.lexLt (bB R)).map λj=>(j,aW (aK R j))) none λr hr=>by
  obtain⟨j,_,rfl⟩:=ca.mp hr;exact afz h j
 have e5:((dA HT.lexLt (bB R)).map λj=>(j,aW (aK R j))).map bO=(dA HT.lexLt (bB R)).map λj=>bO (j,aW (aK R j)):=cj ..;have e6:bI HT.lexLt R=((dA HT.lexLt (bB R)).map λk=>(k,aW (aK R k))).filter λx=>!decide (x.2.1=0):=rfl;rw[<-e6]at e4;rw[<-e5]at e3;have p0:cZ tv []=[]:=rfl;rw[p0,iw]at e1;clear e5 e6;generalize R.map bO=RL,cZ tv R=D0,(dA HT.lexLt (bB R)).map tv=KL,((dA HT.lexLt (bB R)).map λj=>(j,aW (aK R j))).map bO=ML,(bI HT.lexLt R).map bO=TL at *;refine pB (v:=.pv (.tup TL)) (S':=[.dol false D0]) rfl ?_ rfl;apply sq;simp! [qM];exact⟨rfl,rfl⟩;apply sq;simp! [cB,aX,bT,e1];exact⟨rfl,rfl⟩;apply sq;simp! [bA,cC,aX,Fa,Mj,e2,bT,e3];exact⟨rfl,rfl⟩;simp! [gZ,cC,aX,bT,e4]
theorem Qp{k:Nat}(A:SO){R:List (BC×1#h)}(h:∀r∈R,Fq k r.2):∀(ks:BD)(x:BN),(∀j∈ks,j∈bB R)->
  eQ [] (gN 0) (aO (aC eA (aC aE (jV (aA 1) (aA 0)) 1#e) 1#e)) (mN eF (aB (aA 0) (aB (jV (aA 1) (aA 0)) aD))) (ks.map tv) [x,some (.ref 1)] [A,.dic false (bU tv R)]=.ok (((ks.map λj=>(j,aW (aK R j))).filter λx=>!decide (x.2.1=0)).map bO) [A,.dic false (bU tv R)]
 |[],x,_=>mE
 |j::ks,x,hks=>by
  have ih:=Qp A h ks (some (.pv (tv j))) λi hi=>hks i (bh _ hi);have eg:kI (.ref 1) (.pv (tv j)) [A,.dic false (bU tv R)] none=.ok (.pv (fv (aW (aK R j)))) [A,.dic false (bU tv R)]:=by
   have:gX (bU tv R) (tv j)=some (fv (aW (aK R j))):=vA vJ (λk=>fv (aW (aK R k))) (hks j av);unfold kI;simp[sN,this]
  have i0:aE (fv (aW (aK R j))) (.int 0)=some (.int (aW (aK R j)).1):=rfl;rw[au,nI,au,uz];have ed:∀b,(if b=true then((j,aW (aK R j))::(ks.map λj=>(j,aW (aK R j))).filter λx=>!decide (x.2.1=0))else(ks.map λj=>(j,aW (aK R j))).filter λx=>!decide (x.2.1=0)).map bO=if b=true then PV.tup [tv j,fv (aW (aK R j))]::((ks.map λj=>(j,aW (aK R j))).filter λx=>!decide (x.2.1=0)).map bO else((ks.map λj=>(j,aW (aK R j))).filter λx=>!decide (x.2.1=0)).map bO:=λb=>by
   cases b<;>rfl
  rw[ed];generalize (aW (aK R j)).1=c at*
  by_cases z:c=0
  .subst z
   simp! [gN,jV,eg,i0,ih]
  .have z':(c==0)=false:=by simpa using z
   simp! [gN,jV,eg,i0,ih,z',z]
theorem adq (A:SO){R:List (BC×1#h)}(h64:(bB R).length<64)(ne:[]∉bB R)(h:∀r∈R,Fq k r.2):Cl [.ref 1] [A,.dic false (bU tv R)]=.ok (.pv (.tup ((bI HT.lexLt R).map bO))) [A,.dic false (bU tv R)]:=by
 have e2:jA ((bU tv R).map (·.1))=some (.lst ((dA HT.lexLt (bB R)).map tv)):=by
  have:(bU tv R).map (·.1)=(bB R).map tv:=by
   unfold bU;rw[cj];rfl
  rw[this];exact Nf h64 (fT R).1 ne
 have e3:=Qp A h (dA HT.lexLt (bB R)) none zC;have e6:bI _ R=((dA HT.lexLt (bB R)).map _).filter _:=rfl;rw[<-e6]at e3;unfold Cl aI rJ;generalize bU tv R=D0,(dA _ (bB R)).map tv=KL,(bI _ R).map bO=TL at *;simp! [gZ,cC,aX,mS,pF,sQ,e2,bT,e3]
theorem aev (A:SO){R:List (BC×1#h)}(hl:R.length<90000)(h:∀r∈R,Fq k r.2){j:BC}{u:Int×Int}(hm:(aK R j).length<=l)(hu:Fq k u)(hk:1+l*(k+1)+k+1<=7000):mF [.ref 1,.pv (tv j),.pv (fv u)] [A,.dic false (bU tv R)]=.ok (.pv .non) [A,.dic false (bU tv (R++[(j,u)]))]:=by
 have fc:Fq (1+l*(k+1)) (aW (aK R j)):=(iG (k:=k) (aK R j) λu hu=>by
  obtain⟨r,hr,rfl⟩:=ca.mp hu;exact h r (iy.mp hr).1).1.mono (by
   have:=ot (k+1) hm;omega)
 have es:=Av [A,.dic false (bU tv R)] fc hu hk;have ea:=Zr vJ R j u;have eg:kI (.ref 1) (.pv (tv j)) [A,.dic false (bU tv R)] (some (.pv (fv (0,1))))=.ok (.pv (fv (aW (aK R j)))) [A,.dic false (bU tv R)]:=by
  unfold kI;rcases Yr vJ R j with⟨e,_⟩|⟨e,f⟩
  .simp[sN,e]
  .rw[f]
   simp[sN,e]
 have ep:tM (.ref 1) (.pv (tv j)) (.pv (fv (pl (aW (aK R j)) u))) [A,.dic false (bU tv R)]=.ok (.pv .non) [A,.dic false (bU tv (R++[(j,u)]))]:=by
  have hc:jT false (tv j)/\(bU tv R).length<16777216:=⟨sN j,by
   unfold bU;have:=kW R;rw[ak];omega⟩
  unfold tM;simp only[zf,zg];rw[if_pos hc,ea];rfl
 have eg:=eg;unfold mF aI uI;clear ea fc hu h;simp! [tE,tJ,tH,eg,es,ep]
abbrev bH(x:BD×1#h):PV:=.tup [kE x.1,fv x.2]
theorem vO:∀a b:BD,kE a=kE b->a=b:=λa b h=>mJ (show cM true a=cM true b from h)
theorem Ut:∀ks:BE,nO (ks.map kE)=some ks
 |[]=>rfl
 |k::ks=>by
  show nO (.tup (k.map tv)::ks.map _)=_;unfold nO;rw[Ut _,Dh k]
theorem sM(k:BD):jT true (kE k):=⟨k,rfl⟩
theorem Jt (hl:ks.length<64)(nd:ks.Nodup)(ne:[]∉ks):mV (ks.map kE)=some (.lst ((dA cT ks).map kE)):=by
 unfold mV;rw[Ut];dsimp only;rw[if_pos ⟨hl,nd,ne⟩];rfl
theorem Dt(x0 x4:BN):∀(L R:List (BD×1#h))(x2 x3:BN),(R++L).length<16777216->∃y2 y3,dH [] (gT 2 (aZ (gN 2) (aZ (gN 3) cJ))) (dC (kZ 1 2 3)) (L.map bH) [x0,some (.ref 0),x2,x3,x4] [.dol true (cZ kE R)]=.nx [x0,some (.ref 0),y2,y3,x4] [.dol true (cZ kE (R++L))]
 |[],R,x2,x3,_=>⟨x2,x3,by rw[jb];exact gK⟩
 |r::L,R,x2,x3,hl=>by
  obtain⟨y2,y3,ih⟩:=Dt x0 x4 L (R++[r]) (some (.pv (kE r.1))) (some (.pv (fv r.2))) (by simpa using hl);refine⟨y2,y3,?_⟩;rw[jp]at ih;have ih:dH [] _ (dC (kZ 1 2 3)) (L.map bH) _ _=.nx _ [.dol true (cZ kE (R++r::L))]:=ih;have ea:=Xr vO R r.1 r.2;have hc:jT true (kE r.1)/\(cZ kE R).length<16777216/\∀kv∈cZ kE R,kv.2.length<16777216:=by
   have:=kW R;have l2:R.length<16777216:=by rw[ax]at hl;omega
   refine⟨sM _,by unfold cZ;rw[ak];omega,λkv hkv=>?_⟩;obtain⟨j,_,rfl⟩:=ca.mp hkv;have:(aK R j).length<=R.length:=by
    unfold aK;rw[ak];exact qz _ _
   rw[ak];omega
  have es:pO (kE r.1) (fv r.2) [.dol true (cZ kE R)]=.ok (.pv .non) [.dol true (cZ kE (R++[r]))]:=by
   unfold pO;dsimp only;rw[if_pos hc,ea]
  rw[au,eW];rw[show bH r=PV.tup [kE r.1,fv r.2] from rfl];generalize cZ kE R=D0,cZ kE (R++[r])=D1,cZ kE (R++r::L)=D2,L.map bH=LL,fv r.2=T2,kE r.1=T1 at *;simp[gT,aZ,cJ,gN,dC,cO.of,kZ,es,ih]
theorem aai {R:List (BD×1#h)}(hm:∀j,(aK R j).length<=2^m)(m5:m<=5)(hk:2^m*(k+1)<=7000)(h:∀r∈R,Fq k r.2):∀(ks:BE)(x:BN),(∀j∈ks,j∈bB R)->
  cH [] (gN 0) (mN eF (aB (aA 0) (aB (oR pY (aA 1) (aA 0)) aD))) (ks.map kE) [x,some (.ref 0)] [.dol true (cZ kE R)]=.ok (ks.map λj=>bH (j,aW (aK R j))) [.dol true (cZ kE R)]:=by
 intro ks x hks;refine oN (kB _) kE _ ks x λj hj=>?_;have fq:∀u∈aK R j,Fq k u:=λu hu=>by
  obtain⟨r,hr,rfl⟩:=ca.mp hu;exact h r (iy.mp hr).1
 have p5:=by
  have:=sr (show 0<2 by decide) m5;omega
 have et:=Wr [] (by grind) (hm j) m5 hk fq;rw[Ev (by grind) fq]at et;have eg:qJ (.ref 0) (.pv (kE j)) [.dol true (cZ kE R)]=some ((aK R j).map fv):=by
  unfold qJ;have:gX (cZ kE R) (kE j)=some _:=vA vO _ (hks j hj);simp[sM,this]
 have en:kO (fv (aW (aK R j)))=true:=rfl;dsimp! [oR,eg,et,en]
theorem On (S:aF):∀(L:List (BD×1#h))(x:BN),(∀r∈L,Fq k r.2)->eQ [] (gN 0) (aO (aC eA (aC aE (aA 0) 1#c) (mN eF (aB 1#e (aB 1#c aD))))) (aA 0) (L.map bH) [x] S=.ok ((L.filter λx=>!decide (x.2.1=0)).map bH) S
 |[],x,_=>mE
 |r::L,x,h=>by
  have ih:=On S L (some (.pv (bH r))) λr hr=>h r (bh _ hr);have f:=h r av;have i1:aE (bH r) (.int 1)=some (fv r.2):=rfl;have eq:bC 8 (fv r.2) (.tup [.int 0,.int 1])=some (decide (r.2.1=0)):=by
   by_cases z:r.2.1=0
   .have:=(Yd f).mp z
    rw[this];rfl
   .have z':(r.2.1==0)=false:=by simpa using z
    simp[bC,iW,z',z]
  rw[au,nI,uz];generalize hT:bH r=T at*
  by_cases z:r.2.1=0
  .rw[decide_eq_true z]at eq⊢
   simp! [gN,i1,eq,ih]
  .rw[decide_eq_false z]at eq⊢
   simp! [gN,i1,eq,ih,hT]
theorem adp {R:List (BD×1#h)}(h:∀r∈R,Fq k r.2)(j:BD):Fq (1+R.length*(k+1)) (aW (aK R j)):=by
 refine(iG (k:=k) _ λu hu=>?_).1.mono ?_
 .obtain⟨r,hr,rfl⟩:=ca.mp hu
  exact h r (iy.mp hr).1
 .have:(aK R j).length<=R.length:=by
   unfold aK;rw[ak];exact qz _ _
  have:=ot (k+1) this<;>grind
theorem Jo {R:List (BD×1#h)}(hl:R.length<16777216)(h64:(bB R).length<64)(ne:[]∉bB R)(hm:∀j,(aK R j).length<=2^m)(m5:m<=5)(hk:2^m*(k+1)<=7000)(h:∀r∈R,Fq k r.2):
  Tn [.pv (.lst (R.map bH))] []=.ok (.pv (.tup ((bI cT R).map bH))) []:=by
 obtain⟨y2,y3,e1⟩:=Dt (some (.pv (.lst (R.map bH)))) none R [] none none (by simpa using hl);have e2:mV ((cZ kE R).map (·.1))=some (.lst ((dA cT (bB R)).map kE)):=by
  have:(cZ kE R).map (·.1)=(bB R).map kE:=by
   unfold cZ;rw[cj];rfl
  rw[this];exact Jt h64 (fT R).1 ne
 have e3:=aai hm m5 hk h (dA cT (bB R)) none zC;have e4:=On [.dol true (cZ kE R)] ((dA cT (bB R)).map λj=>(j,aW (aK R j))) none λr hr=>by
  obtain⟨j,_,rfl⟩:=ca.mp hr;exact adp h j
 have e5:((dA cT (bB R)).map λj=>(j,aW (aK R j))).map bH=(dA cT (bB R)).map λj=>bH (j,aW (aK R j)):=cj ..;have e6:bI cT R=((dA cT (bB R)).map λk=>(k,aW (aK R k))).filter λx=>!decide (x.2.1=0):=rfl;rw[<-e6]at e4;rw[<-e5]at e3;have p0:cZ kE []=[]:=rfl;rw[p0,iw]at e1;clear e5 e6;generalize R.map bH=RL,cZ kE R=D0,(dA cT (bB R)).map kE=KL,((dA cT (bB R)).map λj=>(j,aW (aK R j))).map bH=ML,(bI cT R).map bH=TL at *;refine pB (v:=.pv (.tup TL)) (S':=[.dol true D0]) rfl ?_ rfl;apply sq;simp! [qM];exact⟨rfl,rfl⟩;apply sq;simp! [cB,aX,bT,e1];exact⟨rfl,rfl⟩;apply sq;simp! [bA,cC,aX,Da,Xh,e2,bT,e3];exact⟨rfl,rfl⟩;simp! [gZ,cC,aX,bT,e4]
theorem Xn (A:SO){R:List (BD×1#h)}(h:∀r∈R,Fq k r.2):∀(ks:BE)(x:BN),(∀j∈ks,j∈bB R)->
  eQ [] (gN 0) (aO (aC eA (aC aE (jV (aA 1) (aA 0)) 1#e) 1#e)) (mN eF (aB (aA 0) (aB (jV (aA 1) (aA 0)) aD))) (ks.map kE) [x,some (.ref 1)] [A,.dic true (bU kE R)]=.ok (((ks.map λj=>(j,aW (aK R j))).filter λx=>!decide (x.2.1=0)).map bH) [A,.dic true (bU kE R)]
 |[],x,_=>mE
 |j::ks,x,hks=>by
  have ih:=Xn A h ks (some (.pv (kE j))) λi hi=>hks i (bh _ hi);have eg:kI (.ref 1) (.pv (kE j)) [A,.dic true (bU kE R)] none=.ok (.pv (fv (aW (aK R j)))) [A,.dic true (bU kE R)]:=by
   have:gX (bU kE R) (kE j)=some (fv (aW (aK R j))):=vA vO _ (hks j av);unfold kI;simp[sM,this]
  have i0:aE (fv (aW (aK R j))) (.int 0)=some (.int (aW (aK R j)).1):=rfl;rw[au,nI,au,uz];have ed:∀b,(if b=true then((j,aW (aK R j))::(ks.map λj=>(j,aW (aK R j))).filter λx=>!decide (x.2.1=0))else(ks.map λj=>(j,aW (aK R j))).filter λx=>!decide (x.2.1=0)).map bH=if b=true then PV.tup [kE j,fv (aW (aK R j))]::((ks.map λj=>(j,aW (aK R j))).filter _).map bH else((ks.map λj=>(j,aW (aK R j))).filter _).map bH:=λb=>by
   cases b<;>rfl
  rw[ed];generalize (aW (aK R j)).1=c at*
  by_cases z:c=0
  .subst z
   simp! [gN,jV,eg,i0,ih]
  .have z':(c==0)=false:=by simpa using z
   simp! [gN,jV,eg,i0,ih,z',z]
theorem abl (A:SO){R:List (BD×1#h)}(h64:(bB R).length<64)(ne:[]∉bB R)(h:∀r∈R,Fq k r.2):Fl [.ref 1] [A,.dic true (bU kE R)]=.ok (.pv (.tup ((bI cT R).map bH))) [A,.dic true (bU kE R)]:=by
 have e2:mV ((bU kE R).map (·.1))=some (.lst ((dA cT (bB R)).map kE)):=by
  have:(bU kE R).map (·.1)=(bB R).map kE:=by
   unfold bU;rw[cj];rfl
  rw[this];exact Jt h64 (fT R).1 ne
 have e3:=Xn A h (dA cT (bB R)) none zC;have e6:bI cT R=((dA cT (bB R)).map _).filter _:=rfl;rw[<-e6]at e3;unfold Fl aI xK;simp! [gZ,cC,aX,vP,pF,sQ,e2,bT,e3]
theorem adL (A:SO){R:List (BD×1#h)}(hl:R.length<90000)(h:∀r∈R,Fq k r.2){j:BD}{u:Int×Int}(hm:(aK R j).length<=l)(hu:Fq k u)(hk:1+l*(k+1)+k+1<=7000):mF [.ref 1,.pv (kE j),.pv (fv u)] [A,.dic true (bU kE R)]=.ok (.pv .non) [A,.dic true (bU kE (R++[(j,u)]))]:=by
 have fc:Fq (1+l*(k+1)) (aW (aK R j)):=(iG (k:=k) (aK R j) λu hu=>by
  obtain⟨r,hr,rfl⟩:=ca.mp hu;exact h r (iy.mp hr).1).1.mono (by
   have:=ot (k+1) hm;omega)
 have es:=Av [A,.dic true (bU kE R)] fc hu hk;have ea:=Zr vO R j u;have eg:kI (.ref 1) (.pv (kE j)) [A,.dic true (bU kE R)] (some (.pv (fv (0,1))))=.ok (.pv (fv (aW (aK R j)))) [A,.dic true (bU kE R)]:=by
  unfold kI;rcases Yr vO R j with⟨e,_⟩|⟨e,f⟩
  .simp[sM,e]
  .rw[f]
   simp[sM,e]
 have ep:tM (.ref 1) (.pv (kE j)) (.pv (fv (pl (aW (aK R j)) u))) [A,.dic true (bU kE R)]=.ok (.pv .non) [A,.dic true (bU kE (R++[(j,u)]))]:=by
  have hc:jT true (kE j)/\(bU kE R).length<16777216:=⟨sM j,by
   unfold bU;have:=kW R;rw[ak];omega⟩
  unfold tM;simp only[zf,zg];rw[if_pos hc,ea];rfl
 have eg:=eg;unfold mF aI uI;simp! [tE,tJ,tH,eg,es,ep]
theorem Hj {v:AV}(h:To xs S=.ok v S'):pX xs S=.ok v S':=vY h
def lw(p:BC):Int:=p.getLastD 0
def cU(p q:BC):BC×1#h:=(aS (cX p q),eS (gf (cX p q)) (lw p*lw q))
structure xG(k:Nat)(p q:BC):Prop where
 pr:∀S,lG [.pv (tv p),.pv (tv q)] S=.ok (.pv (bO (cU p q))) S
 fq:Fq (2*k+1) (cU p q).2
 ln:(cU p q).1≠[]
theorem Mh{k:Nat}(hk:k<=800){p q:BC}(gp:Gu 2 k p)(gq:Gu 2 k q)(nz:∃n∈cX p q,n≠0):xG k p q:=by
 obtain⟨x0,y0,w0,rfl,W0,bx0,by0,bw0⟩:=gp.two';obtain⟨x1,y1,w1,rfl,W1,bx1,by1,bw1⟩:=gq.two';obtain⟨_,_,_,e,P⟩:=gp.two 1#a;cases e;obtain⟨_,_,_,e,Q⟩:=gq.two 1#a;cases e;have b1:=(((bx1.mul bw0).mono (show k+k<=2*k by omega)).sub ((bx0.mul bw1).mono (show k+k<=2*k by omega)));have b2:=(((by1.mul bw0).mono (show k+k<=2*k by omega)).sub ((by0.mul bw1).mono (show k+k<=2*k by omega)));have bb:Bd (2*k+1) (w0*w1):=(bw0.mul bw1).mono 1#a;have ww:0<w0*w1:=bf W0 W1;have bd:∀n∈[x1*w0-x0*w1,y1*w0-y0*w1],Bd (2*k+1) n:=λn hn=>by
  simp only[br,fm,or_false]at hn;rcases hn with rfl |rfl
  .exact b1
  .exact b2
 have gb:=(wH bd nz).1;have fp:=vL (df ww) gb bb;have es:cU [x0,y0,w0] [x1,y1,w1]=(aS [x1*w0-x0*w1,y1*w0-y0*w1],eS (gf [x1*w0-x0*w1,y1*w0-y0*w1]) (w0*w1)):=rfl;have i0:aE (v2 x0 y0 w0) (.int (-1))=some (.int w0):=rfl;have i1:aE (v2 x1 y1 w1) (.int (-1))=some (.int w1):=rfl;have m1:=fD bw0 bw1 1#a 1#a;refine⟨λS=>?_,by rw[es];exact fp.2,?_⟩
 .rw[es]
  have e1:=Hi S P Q;have e2:=aeJ (k:=2*k+1) 1#a S b1 b2 nz bb ww;show lG [.pv (v2 x0 y0 w0),.pv (v2 x1 y1 w1)] S=.ok _ S;unfold lG aI xN;simp! [e1,i0,i1,m1,e2]
 .rw[es]
  intro z;have:=kU [x1*w0-x0*w1,y1*w0-y0*w1];have z:aS [x1*w0-x0*w1,y1*w0-y0*w1]=[]:=z;rw[z]at this;cases this
theorem oU [DecidableEq κ](A B:List (κ×β))(j:κ):aK (A++B) j=aK A j++aK B j:=by
 unfold aK
 simp_all
theorem Xu [DecidableEq κ]:∀(R:List (κ×β))(j:κ),(R.map (·.1)).Nodup->(aK R j).length<=1
 |[],_,_=>dq _
 |r::R,j,h=>by
  rw[au,jc]at h;have ih:=Xu R j h.2;have e:aK (r::R) j=if r.1=j then r.2::aK R j else aK R j:=by
   unfold aK
   by_cases z:r.1=j
   .simp[z]
   .simp[z]
  rw[e]
  by_cases z:r.1=j
  .rw[if_pos z]
   have:aK R j=[]:=by
    unfold aK;rw[AU,AW];intro x hx q;have q:=by simpa using q
    exact h.1 (ca.mpr ⟨x,hx,q.trans z.symm⟩)
   simp_all
  .simp_all
theorem mI{α κ β:Type}[DecidableEq κ](f:α->List (κ×β)):∀(gs:List α)(j:κ),(∀u∈gs,((f u).map (·.1)).Nodup)->(aK (gs.flatMap f) j).length<=gs.length
 |[],_,_=>aj _
 |u::gs,j,h=>by
  rw[jm,oU,ax];have a:=Xu _ j (h u av);have b:=mI f _ j λv hv=>h v (bh _ hv)<;>grind
def eI:BD->List (BC×1#h)
 |[a,b,c]=>[cU a b,cU b c,cU c a]
 |_=>[]
structure Mk(k:Nat)(u:BD):Prop where
 is:∃a b c,u=[a,b,c]/\xG k a b/\xG k b c/\xG k c a
 nd:((eI u).map (·.1)).Nodup
theorem vT{k:Nat}(hk:k<=800){u:BD}(h:Sx 2 k u):Mk k u:=by
 obtain⟨a,b,c,rfl⟩:=len3 h.len
 have ga:=h.gu a 1#d;have gb:=h.gu b 1#d;have gc:=h.gu c 1#d;have nz:=h.nz;clear h;have key:∃a0 a1 a2 b0 b1 b2 c0 c1 c2:Int,a=[a0,a1,a2]/\b=[b0,b1,b2]/\c=[c0,c1,c2]/\D2 a0 a1 a2 b0 b1 b2 c0 c1 c2≠0/\0<a2/\0<b2/\0<c2:=by
  obtain⟨x0,y0,w0,rfl,W0,_⟩:=ga.two';obtain⟨x1,y1,w1,rfl,W1,_⟩:=gb.two';obtain⟨x2,y2,w2,rfl,W2,_⟩:=gc.two';exact⟨_,_,_,_,_,_,_,_,_,rfl,rfl,rfl,nz,W0,W1,W2⟩
 obtain⟨x0,y0,w0,x1,y1,w1,x2,y2,w2,rfl,rfl,rfl,dz,W0,W1,W2⟩:=key;have c1:(x1*w0-x0*w1)*(y2*w1-y1*w2)-(y1*w0-y0*w1)*(x2*w1-x1*w2)=w1*D2 x0 y0 w0 x1 y1 w1 x2 y2 w2:=by unfold D2;grind
 have c2:(x2*w1-x1*w2)*(y0*w2-y2*w0)-(y2*w1-y1*w2)*(x0*w2-x2*w0)=w2*D2 x0 y0 w0 x1 y1 w1 x2 y2 w2:=by unfold D2;grind
 have c3:(x1*w0-x0*w1)*(y0*w2-y2*w0)-(y1*w0-y0*w1)*(x0*w2-x2*w0)=-(w0*D2 x0 y0 w0 x1 y1 w1 x2 y2 w2):=by unfold D2;grind
 have n1:w1*D2 x0 y0 w0 x1 y1 w1 x2 y2 w2≠0:=di 1#a dz;have n2:w2*D2 x0 y0 w0 x1 y1 w1 x2 y2 w2≠0:=di 1#a dz;have n3:-(w0*D2 x0 y0 w0 x1 y1 w1 x2 y2 w2)≠0:=λz=>di (df W0) dz 1#a;rw[<-c1]at n1;rw[<-c2]at n2;rw[<-c3]at n3;clear c1 c2 c3 dz nz;have ex:∀{a b c d:Int},a*d-b*c≠0->(∃n∈[a,b],n≠0)/\∃n∈[c,d],n≠0:=λ{a b c d} h=>by
  constructor
  .by_cases z:a=0
   .refine⟨b,by simp,λe=>h ?_⟩
    rw[z,e];simp
   .exact⟨a,by simp,z⟩
  .by_cases z:c=0
   .refine⟨d,by simp,λe=>h ?_⟩
    rw[z,e];simp
   .exact⟨c,by simp,z⟩
 have dn:∀{a b c d:Int},a*d-b*c≠0->aS [a,b]≠aS [c,d]:=λ{a b c d} h e=>h (by
  have:=aao e;omega)
 refine⟨⟨_,_,_,rfl,Mh hk ga gb (ex n1).1,Mh hk gb gc (ex n2).1,Mh hk gc ga (ex n3).2⟩,?_⟩;show[aS [x1*w0-x0*w1,y1*w0-y0*w1],aS [x2*w1-x1*w2,y2*w1-y1*w2],aS [x0*w2-x2*w0,y0*w2-y2*w0]].Nodup;simp only[jc,br,fm,or_false,not_or,kn,not_false_eq_true,and_true];exact⟨⟨dn n1,dn n3⟩,dn n2⟩
theorem Wm(S:aF)(x0:BN):∀(gs:BE)(X:BK)(x2:BN),(∀u∈gs,u.length=3\/u.length=4)->X.length+4*gs.length<=1000->∃y2,dH [] (gN 2) (pG 1 (aJ qB [] (aB (aA 2) aD))) (gs.map px) [x0,some (.ref S.length),x2] (S++[.lst X])=.nx [x0,some (.ref S.length),y2] (S++[.lst (X++(gs.flatMap dE).map λw=>.tup (w.map tv))])
 |[],X,x2,_,_=>⟨x2,by simpa using gK⟩
 |u::gs,X,x2,h,hl=>by
  have lw:(dE u).length<=4:=by
   unfold dE;split<;>simp
  have e:=aaA (h u av) (S++[.lst X]);obtain⟨y2,ih⟩:=Wm S x0 gs (X++(dE u).map λw=>.tup (w.map tv)) (some (.pv (px u))) (λv hv=>h v (bh _ hv)) (by
   rw[ax,ak];rw[cu]at hl;omega)
  refine⟨y2,?_⟩;rw[jp,<-cw,<-jm]at ih;have lz:X.length+((dE u).map λw=>PV.tup (w.map tv)).length<=16777216:=by
   rw[ak];omega
  rw[au,eW];generalize gs.map px=GL,px u=P1,(dE u).map (λw=>PV.tup (w.map tv))=W1,(((u::gs).flatMap dE).map λw=>PV.tup (w.map tv))=W2 at *;have st:pG 1 (aJ qB [] (aB (aA 2) aD)) [x0,some (.ref S.length),some (.pv P1)] (S++[.lst X])=.nx [x0,some (.ref S.length),some (.pv P1)] (S++[.lst (X++W1)]):=by
   dsimp! [pG,Ik,e,lz]
  simp[gN,st,ih]
theorem Pc(S:aF){gs:BE}{A:PV}(hA:Sv A (gs.map px))(h:∀u∈gs,u.length=3\/u.length=4)(hl:gs.length<=200):oI [.pv A] S=.ok (.ref S.length) (S++[.lst ((gs.flatMap dE).map λw=>.tup (w.map tv))]):=by
 obtain⟨y2,e⟩:=Wm S (some (.pv A)) gs [] none h (by simp;omega);rw[iw]at e;generalize ((gs.flatMap dE).map λw=>PV.tup (w.map tv))=W at *;have e2:(cB (aX (aA 0)) (gN 2) (pG 1 (aJ qB [] (aB (aA 2) aD)))) [some (.pv A),some (.ref S.length),none] (S++[.lst []])=.nx [some (.pv A),some (.ref S.length),y2] (S++[.lst W]):=by
  rcases hA with rfl |rfl<;>simp! [cB,aX,bT,e]
 unfold oI Uc;refine pB (v:=.ref S.length) (S':=S++[.lst W]) rfl ?_ ?_
 .apply sq;simp! [fV,lM];exact⟨rfl,rfl⟩
  apply sq;exact e2;simp! [bF]
 .simp[jB]
def tY:BD->List (BC×BC)
 |[a,b,c]=>[(a,b),(b,c),(c,a)]
 |_=>[]
theorem Ue:∀L:List (BC×1#h),iN (L.map bO)=true
 |[]=>rfl
 |x::L=>by
  have h:∀k:List _,iN (k.map .int)=true:=λk=>by
   induction k with
   |nil=>rfl
   |cons i k ih=>
    show(true&&iN _)=true;rw[ih];rfl
  show(iN _&&true&&iN _)=true;rw[Ue L,h];rfl
theorem Cf{k:Nat}{gs:BE}(h:∀u∈gs,Mk k u):(gs.flatMap eI).length<=3*gs.length/\(∀r∈gs.flatMap eI,Fq (2*k+1) r.2/\r.1≠[])/\((gs.flatMap dE).map λw=>PV.tup (w.map tv))=(gs.flatMap tY).map (λx=>PV.tup [tv x.1,tv x.2])/\(gs.flatMap eI)=(gs.flatMap tY).map (λx=>cU x.1 x.2)/\∀x∈gs.flatMap tY,xG k x.1 x.2:=by
 induction gs with
 |nil=>exact⟨aj _,λ_ h=>(nomatch h),rfl,rfl,λ_ h=>(nomatch h)⟩
 |cons u gs ih=>
  obtain⟨i1,i2,i3,i4,i5⟩:=ih λv hv=>h v (bh _ hv);obtain⟨a,b,c,rfl,s1,s2,s3⟩:=(h u av).is;simp only[jm,cw,ax,cu];refine⟨?_,λr hr=>?_,by rw[i3];rfl,by rw[i4];rfl,λx hx=>?_⟩
  .show 3+_<=_
   omega
  .rcases ce.mp hr with hr |hr
   .have hr:=by simpa[eI]using hr
    rcases hr with rfl |rfl |rfl
    .exact⟨s1.fq,s1.ln⟩
    .exact⟨s2.fq,s2.ln⟩
    .exact⟨s3.fq,s3.ln⟩
   .exact i2 r hr
  .rcases ce.mp hx with hx |hx
   .have hx:=by simpa[tY]using hx
    rcases hx with rfl |rfl |rfl
    .exact s1
    .exact s2
    .exact s3
   .exact i5 x hx
theorem P9{k:Nat}(hk:8*(2*k+2)<=7000)(S:aF){gs:BE}{A:PV}(hA:Sv A (gs.map px))(h:∀u∈gs,Mk k u)(hl:gs.length<=8):xT [.pv A] S=.ok (.pv (.tup ((bI HT.lexLt (gs.flatMap eI)).map bO))) S:=by
 obtain⟨i1,i2,i3,i4,i5⟩:=Cf h;have e1:=Pc S hA (λu hu=>by
  obtain⟨a,b,c,rfl,_⟩:=(h u hu).is;exact .inl rfl) 1#a
 rw[i3]at e1;have e2:cH [] (gT 2 (aZ (gN 0) (aZ (gN 1) cJ))) (aJ lG [] (aB (aA 0) (aB (aA 1) aD))) ((gs.flatMap tY).map λx=>PV.tup [tv x.1,tv x.2]) [none,none] S=.ok ((gs.flatMap eI).map bO) S:=by
  rw[i4,cj];refine yH (λx=>tv x.1) (λx=>tv x.2) (λx=>bO (cU x.1 x.2)) (gs.flatMap tY) none none λx hx=>?_;have e:=(i5 x hx).pr S;dsimp! [e]
 have e3:=He (m:=3) 1#a (by have:=kW (gs.flatMap eI);omega) (λz=>by
  obtain⟨r,hr,e⟩:=((fT _).2 _).mp z;exact(i2 r hr).2 e) (λj=>by
  have:=mI eI gs j λu hu=>(h u hu).nd;omega) 1#b 1#a λr hr=>(i2 r hr).1
 have e3:=Hj e3;have e4:kO (.tup ((bI HT.lexLt (gs.flatMap eI)).map bO))=true:=Ue _;unfold xT aI Yc;simp! [nQ,bA,cC,aX,e1,bT,e2,e3,e4]
theorem sP (hp:Pw 3 p)(hq:Pw 3 q)(hr:Pw 3 r)(hs:Pw 3 s)(nz:dU [p,q,r,s]≠0):aS (bR [p,q,s])≠aS (bR [p,q,r]):=by
 obtain⟨x0,y0,z0,w0,rfl,p0⟩:=hp.three;obtain⟨x1,y1,z1,w1,rfl,p1⟩:=hq.three;obtain⟨x2,y2,z2,w2,rfl,p2⟩:=hr.three;obtain⟨x3,y3,z3,w3,rfl,p3⟩:=hs.three;have nz:=nz;have e:w0*w0*D3 x0 y0 z0 w0 x1 y1 z1 w1 x2 y2 z2 w2 x3 y3 z3 w3=((y1*w0-y0*w1)*(z2*w0-z0*w2)-(z1*w0-z0*w1)*(y2*w0-y0*w2))*(x3*w0-x0*w3)+((z1*w0-z0*w1)*(x2*w0-x0*w2)-(x1*w0-x0*w1)*(z2*w0-z0*w2))*(y3*w0-y0*w3)+((x1*w0-x0*w1)*(y2*w0-y0*w2)-(y1*w0-y0*w1)*(x2*w0-x0*w2))*(z3*w0-z0*w3):=by
  unfold D3;grind
 have fE:w0*w0*D3 x0 y0 z0 w0 x1 y1 z1 w1 x2 y2 z2 w2 x3 y3 z3 w3≠0:=di (di 1#a 1#a) nz;rw[e]at fE;intro h;obtain⟨h1,h2,h3⟩:=Ws h;exact fE (agq h1 h2 h3)
theorem dJ (hp:Pw 3 p)(hq:Pw 3 q)(hr:Pw 3 r)(hs:Pw 3 s):dU [q,p,r,s]=-dU [p,q,r,s]/\dU [p,r,q,s]=-dU [p,q,r,s]/\dU [p,q,s,r]=-dU [p,q,r,s]:=by
 obtain⟨x0,y0,z0,w0,rfl,p0⟩:=hp.three;obtain⟨x1,y1,z1,w1,rfl,p1⟩:=hq.three;obtain⟨x2,y2,z2,w2,rfl,p2⟩:=hr.three;obtain⟨x3,y3,z3,w3,rfl,p3⟩:=hs.three;refine⟨?_,?_,?_⟩<;>simp only[I0]<;>unfold D3<;>grind
theorem Gs{a b c d:BC}(ha:Pw 3 a)(hb:Pw 3 b)(hc:Pw 3 c)(hd:Pw 3 d)(nz:dU [a,b,c,d]≠0):[aS (bR [b,c,d]),aS (bR [a,d,c]),aS (bR [a,b,d]),aS (bR [a,c,b])].Nodup:=by
 have z:∀{x y:Int},y≠0->x=-y->x≠0:=λh e z=>h 1#a;have d1:dU [a,b,d,c]≠0:=z nz (dJ ha hb hc hd).2.2;have d2:dU [a,c,b,d]≠0:=z nz (dJ ha hb hc hd).2.1;have d3:dU [a,d,b,c]≠0:=z d1 (dJ ha hb hd hc).2.1;have e1:dU [b,a,c,d]≠0:=z nz (dJ ha hb hc hd).1;have e2:dU [b,c,a,d]≠0:=z e1 (dJ hb ha hc hd).2.1;have f1:dU [b,a,d,c]≠0:=z d1 (dJ ha hb hd hc).1;have f2:dU [b,d,a,c]≠0:=z f1 (dJ hb ha hd hc).2.1;have g1:dU [c,a,b,d]≠0:=z d2 (dJ ha hc hb hd).1;have g2:dU [c,a,d,b]≠0:=z g1 (dJ hc ha hb hd).2.2;have g3:dU [c,d,a,b]≠0:=z g2 (dJ hc ha hd hb).2.1;have s1:aS (bR [c,d,b])=aS (bR [b,c,d]):=(lL hc hb hd).trans (wD hb hc hd);have s2:aS (bR [c,d,a])=aS (bR [a,d,c]):=(lL hc ha hd).trans ((wD ha hc hd).trans (lL ha hd hc));have s3:aS (bR [b,d,a])=aS (bR [a,b,d]):=(lL hb ha hd).trans (wD ha hb hd);have s4:aS (bR [b,c,a])=aS (bR [a,c,b]):=(lL hb ha hc).trans ((wD ha hb hc).trans (lL ha hc hb));have n1:aS (bR [b,c,d])≠aS (bR [a,d,c]):=by
  rw[<-s1,<-s2];exact sP hc hd ha hb g3
 have n2:aS (bR [b,c,d])≠aS (bR [a,b,d]):=by
  rw[<-s3,<-lL hb hc hd];exact sP hb hd ha hc f2
 have n3:aS (bR [b,c,d])≠aS (bR [a,c,b]):=by
  rw[<-s4];exact sP hb hc ha hd e2
 have n4:aS (bR [a,d,c])≠aS (bR [a,b,d]):=by
  rw[<-lL ha hb hd];exact sP ha hd hb hc d3
 have n5:aS (bR [a,d,c])≠aS (bR [a,c,b]):=by
  rw[<-lL ha hd hc];exact sP ha hc hb hd d2
 have n6:aS (bR [a,b,d])≠aS (bR [a,c,b]):=by
  rw[lL ha hb hc];exact sP ha hb hc hd nz
 simp only[jc,br,fm,or_false,not_or,kn,not_false_eq_true,and_true];exact⟨⟨n1,n2,n3⟩,⟨n4,n5⟩,n6⟩
def eP(w:BD):BC×1#h:=(aS (bR w),eS (gf (bR w)) (2*lw (w.getD 0 [])*lw (w.getD 0 [])*lw (w.getD 1 [])*lw (w.getD 2 [])))
structure Wd(k:Nat)(w:BD):Prop where
 pr:∀S,nG [.pv (.tup (w.map tv))] S=.ok (.pv (bO (eP w))) S
 fq:Fq (4*k+3) (eP w).2
 ln:(eP w).1≠[]
theorem wJ{k:Nat}(hk:k<=400){p q r:BC}(gp:Gu 3 k p)(gq:Gu 3 k q)(gr:Gu 3 k r)(nz:∃n∈bR [p,q,r],n≠0):Wd k [p,q,r]:=by
 obtain⟨x0,y0,z0,w0,rfl,W0,bx0,by0,bz0,bw0⟩:=gp.three';obtain⟨x1,y1,z1,w1,rfl,W1,bx1,by1,bz1,bw1⟩:=gq.three';obtain⟨x2,y2,z2,w2,rfl,W2,bx2,by2,bz2,bw2⟩:=gr.three';obtain⟨_,_,_,_,e,P⟩:=gp.three 1#a;cases e;obtain⟨_,_,_,_,e,Q⟩:=gq.three 1#a;cases e;obtain⟨_,_,_,_,e,R⟩:=gr.three 1#a;cases e;have sb':∀{u v s t:Int},Bd k u->Bd k v->Bd k s->Bd k t->Bd (2*k+1) (u*v-s*t):=λh1 h2 h3 h4=>((h1.mul h2).mono (show k+k<=2*k by omega)).sub ((h3.mul h4).mono (show k+k<=2*k by omega));have a1:=sb' bx1 bw0 bx0 bw1;have a2:=sb' by1 bw0 by0 bw1;have a3:=sb' bz1 bw0 bz0 bw1;have b1:=sb' bx2 bw0 bx0 bw2;have b2:=sb' by2 bw0 by0 bw2;have b3:=sb' bz2 bw0 bz0 bw2;have cb':∀{u v s t:Int},Bd (2*k+1) u->Bd (2*k+1) v->Bd (2*k+1) s->Bd (2*k+1) t->Bd (4*k+3) (u*v-s*t):=λh1 h2 h3 h4=>(((h1.mul h2).mono (show 2*k+1+(2*k+1)<=4*k+2 by omega)).sub ((h3.mul h4).mono (show 2*k+1+(2*k+1)<=4*k+2 by omega)));have ea:bR [[x0,y0,z0,w0],[x1,y1,z1,w1],[x2,y2,z2,w2]]=[(y1*w0-y0*w1)*(z2*w0-z0*w2)-(z1*w0-z0*w1)*(y2*w0-y0*w2),(z1*w0-z0*w1)*(x2*w0-x0*w2)-(x1*w0-x0*w1)*(z2*w0-z0*w2),(x1*w0-x0*w1)*(y2*w0-y0*w2)-(y1*w0-y0*w1)*(x2*w0-x0*w2)]:=rfl;have es:eP [[x0,y0,z0,w0],[x1,y1,z1,w1],[x2,y2,z2,w2]]=(aS (bR [[x0,y0,z0,w0],[x1,y1,z1,w1],[x2,y2,z2,w2]]),eS (gf (bR [[x0,y0,z0,w0],[x1,y1,z1,w1],[x2,y2,z2,w2]])) (2*w0*w0*w1*w2)):=rfl;rw[ea]at nz es;have c1:=cb' a2 b3 a3 b2;have c2:=cb' a3 b1 a1 b3;have c3:=cb' a1 b2 a2 b1;have e1:=λS=>sO S P Q;have e2:=λS=>sO S P R;have n3:=λS=>Yw S (a1.mono (show 2*k+1<=10000 by omega)) (a2.mono (show 2*k+1<=10000 by omega)) (a3.mono (show 2*k+1<=10000 by omega)) (b1.mono (show 2*k+1<=10000 by omega)) (b2.mono (show 2*k+1<=10000 by omega)) (b3.mono (show 2*k+1<=10000 by omega));clear sb' cb' a1 a2 a3 b1 b2 b3 ea;generalize (x1*w0-x0*w1)*(y2*w0-y0*w2)-(y1*w0-y0*w1)*(x2*w0-x0*w2)=N3,(z1*w0-z0*w1)*(x2*w0-x0*w2)-(x1*w0-x0*w1)*(z2*w0-z0*w2)=N2,(y1*w0-y0*w1)*(z2*w0-z0*w2)-(z1*w0-z0*w1)*(y2*w0-y0*w2)=N1 at *;have t2:Bd 2 (2:Int):=by unfold Bd;decide
 have bb:Bd (4*k+3) (2*w0*w0*w1*w2):=((((t2.mul bw0).mul bw0).mul bw1).mul bw2).mono 1#a;have ww:0<2*w0*w0*w1*w2:=bf (bf (bf (bf 1#b W0) W0) W1) W2;have bd:∀n∈[N1,N2,N3],Bd (4*k+3) n:=λn hn=>by
  simp only[br,fm,or_false]at hn;rcases hn with rfl |rfl |rfl
  .exact c1
  .exact c2
  .exact c3
 have gb:=(wH bd nz).1;have fp:=vL (df ww) gb bb;have m1:=fD t2 bw0 1#b 1#a;have m2:=fD (t2.mul bw0) bw0 1#a 1#a;have m3:=fD ((t2.mul bw0).mul bw0) bw1 1#a 1#a;have m4:=fD (((t2.mul bw0).mul bw0).mul bw1) bw2 1#a 1#a;have i0:aE (v3 x0 y0 z0 w0) (.int (-1))=some (.int w0):=rfl;have i1:aE (v3 x1 y1 z1 w1) (.int (-1))=some (.int w1):=rfl;have i2:aE (v3 x2 y2 z2 w2) (.int (-1))=some (.int w2):=rfl;refine⟨λS=>?_,by rw[es];exact fp.2,?_⟩
 .have e3:=Az (k:=4*k+3) 1#a S c1 c2 c3 nz bb ww
  have e1:=e1 S;have e2:=e2 S;have n3:=n3 S;have sl:=wN (v3 x0 y0 z0 w0) [v3 x1 y1 z1 w1,v3 x2 y2 z2 w2];have k0:aE (.tup [v3 x0 y0 z0 w0,v3 x1 y1 z1 w1,v3 x2 y2 z2 w2]) (.int 0)=some (v3 x0 y0 z0 w0):=rfl;have k1:aE (.tup [v3 x0 y0 z0 w0,v3 x1 y1 z1 w1,v3 x2 y2 z2 w2]) (.int 1)=some (v3 x1 y1 z1 w1):=rfl;have k2:aE (.tup [v3 x0 y0 z0 w0,v3 x1 y1 z1 w1,v3 x2 y2 z2 w2]) (.int 2)=some (v3 x2 y2 z2 w2):=rfl;rw[es];show nG [.pv (.tup [v3 x0 y0 z0 w0,v3 x1 y1 z1 w1,v3 x2 y2 z2 w2])] S=.ok (.pv (.tup [tv (aS [N1,N2,N3]),fv (eS (gf [N1,N2,N3]) (2*w0*w0*w1*w2))])) S;unfold nG aI Mc;clear fp gb bd nz es;generalize v3 x2 y2 z2 w2=C,v3 x1 y1 z1 w1=B,v3 x0 y0 z0 w0=A,PV.lst [.int (x2*w0-x0*w2),.int (y2*w0-y0*w2),.int (z2*w0-z0*w2)]=U2,PV.lst [.int (x1*w0-x0*w1),.int (y1*w0-y0*w1),.int (z1*w0-z0*w1)]=U1,tv (aS [N1,N2,N3])=T1,fv (eS (gf [N1,N2,N3]) (2*w0*w0*w1*w2))=F1 at *;simp! [k0,k1,k2,bA,cC,aX,dW,dF,dN,gO,sl,bT,eM,eG,gN,e1,e2,n3,i0,i1,i2,m1,m2,m3,m4,e3]
 .rw[es]
  intro z;have:=kU [N1,N2,N3];have z:aS [N1,N2,N3]=[]:=z;rw[z]at this;cases this
def eE(u:BD):List (BC×1#h):=(dE u).map eP
structure Ek(k:Nat)(u:BD):Prop where
 is:∃a b c d,u=[a,b,c,d]
 wd:∀w∈dE u,Wd k w
 nd:((eE u).map (·.1)).Nodup
theorem uW{k:Nat}(hk:k<=400){u:BD}(h:Sx 3 k u):Ek k u:=by
 obtain⟨a,b,c,d,rfl⟩:=len4 h.len
 have ga:=h.gu a 1#d;have gb:=h.gu b 1#d;have gc:=h.gu c 1#d;have gd:=h.gu d 1#d;have nz:=h.nz;have nn:∀{p q r s:BC},Pw 3 p->Pw 3 q->Pw 3 r->Pw 3 s->dU [p,q,r,s]≠0->∃n∈bR [p,q,r],n≠0:=λhp hq hr hs z=>by
  obtain⟨x0,y0,z0,w0,rfl,p0⟩:=hp.three;obtain⟨x1,y1,z1,w1,rfl,p1⟩:=hq.three;obtain⟨x2,y2,z2,w2,rfl,p2⟩:=hr.three;obtain⟨x3,y3,z3,w3,rfl,p3⟩:=hs.three;exact Wh p0 (x3:=x3) (y3:=y3) (z3:=z3) (w3:=w3) z
 have pa:=ga.pt;have pb:=gb.pt;have pc:=gc.pt;have pd:=gd.pt;have z:∀{x y:Int},y≠0->x=-y->x≠0:=λh e z=>h 1#a;have d1:dU [a,b,d,c]≠0:=z nz (dJ pa pb pc pd).2.2;have d2:dU [a,c,b,d]≠0:=z nz (dJ pa pb pc pd).2.1;have d3:dU [a,d,b,c]≠0:=z d1 (dJ pa pb pd pc).2.1;have d4:dU [a,d,c,b]≠0:=z d3 (dJ pa pd pb pc).2.2;have e1:dU [b,a,c,d]≠0:=z nz (dJ pa pb pc pd).1;have e2:dU [b,c,a,d]≠0:=z e1 (dJ pb pa pc pd).2.1;have e3:dU [b,c,d,a]≠0:=z e2 (dJ pb pc pa pd).2.2;refine⟨⟨a,b,c,d,rfl⟩,λw hw=>?_,Gs pa pb pc pd nz⟩;have hw:w=[b,c,d]\/w=[a,d,c]\/w=[a,b,d]\/w=[a,c,b]:=by simpa[dE]using hw
 rcases hw with rfl |rfl |rfl |rfl
 .exact wJ hk gb gc gd (nn pb pc pd pa e3)
 .exact wJ hk ga gd gc (nn pa pd pc pb d4)
 .exact wJ hk ga gb gd (nn pa pb pd pc d1)
 .exact wJ hk ga gc gb (nn pa pc pb pd d2)
theorem Fe {gs:BE}(h:∀u∈gs,Ek k u):(gs.flatMap eE).length=4*gs.length/\(∀r∈gs.flatMap eE,Fq (4*k+3) r.2/\r.1≠[])/\gs.flatMap eE=(gs.flatMap dE).map eP/\∀w∈gs.flatMap dE,Wd k w:=by
 have e:gs.flatMap eE=(gs.flatMap dE).map eP:=by
  rw[AY];rfl
 have w:∀w∈gs.flatMap _,Wd k w:=λw hw=>by
  obtain⟨u,hu,hw⟩:=ni.mp hw;exact(h u hu).wd w hw
 refine⟨?_,λr hr=>?_,e,w⟩
 .clear e w
  induction gs with
  |nil=>rfl
  |cons u gs ih=>
   obtain⟨a,b,c,d,rfl⟩:=(h u av).is;rw[jm,ax,ih λv hv=>h v (bh _ hv),cu];show 4+_=_;omega
 .rw[e]at hr
  obtain⟨x,hx,rfl⟩:=ca.mp hr;exact⟨(w x hx).fq,(w x hx).ln⟩
theorem O1{k K:Nat}(hk:8*(K+1)<=7000)(S:aF){gs:BE}{A:PV}(hq:∀r∈gs.flatMap eE,Fq K r.2)(hA:Sv A (gs.map px))(h:∀u∈gs,Ek k u)(hl:gs.length<=8):xS [.pv A] S=.ok (.pv (.tup ((bI HT.lexLt (gs.flatMap eE)).map bO))) S:=by
 obtain⟨i1,i2,i4,i5⟩:=Fe h;have e1:=Pc S hA (λu hu=>by
  obtain⟨a,b,c,d,rfl⟩:=(h u hu).is;exact .inr rfl) 1#a
 have e2:cH [] (gN 0) (aJ nG [] (aB (aA 0) aD)) ((gs.flatMap dE).map λw=>PV.tup (w.map tv)) [none] S=.ok ((gs.flatMap eE).map bO) S:=by
  rw[i4,cj];refine oN (kB S) _ (λw=>bO (eP w)) (gs.flatMap dE) none λw hw=>?_;have e:=(i5 w hw).pr S;dsimp! [e]
 have e3:=He (m:=3) (k:=K) 1#a (by have:=kW (gs.flatMap eE);omega) (λz=>by
  obtain⟨r,hr,e⟩:=((fT _).2 _).mp z;exact(i2 r hr).2 e) (λj=>by
  have:=mI eE gs j λu hu=>(h u hu).nd;omega) 1#b 1#a hq
 have e3:=Hj e3;have e4:kO (.tup ((bI HT.lexLt (gs.flatMap eE)).map bO))=true:=Ue _;unfold xS aI Vc;simp! [nQ,bA,cC,aX,e1,bT,e2,e3,e4]
theorem Ru (h:k≠[]):¬jT false (kE k):=by
 rintro⟨j,e⟩
 cases k with
 |nil=>exact h rfl
 |cons a k=>
  match show List _ from j,e with
  |[],e=>cases e
  |i::j,e=>
   cases e
theorem agT{R:List (BD×1#h)}(ne:∀r∈R,r.1≠[]){S:aF}{v:PV}(h:Tn [.pv (.lst (R.map bH))] []=.ok (.pv v) S):pX [.pv (.lst (R.map bH))] []=.ok (.pv v) S:=by
 cases R with
 |nil=>
  have a:=He (m:=0) (k:=0) (R:=[]) 1#b 1#b (nomatch ·) (λ_=>dq _) 1#b 1#b (λ_ h=>nomatch h);have b:=Jo (m:=0) (k:=0) (R:=[]) 1#b 1#b (nomatch ·) (λ_=>dq _) 1#b 1#b (λ_ h=>nomatch h);have e:=h.symm.trans b;cases e;exact Hj a
 |cons r R=>
  refine(Qh ?_).trans h;have z:=Ru (ne r av);have f:pO (kE r.1) (fv r.2) [.dol false []]=.fail:=by
   unfold pO;simp[z]
  unfold xY;simp! [qM,cB,aX,bT,eW,gT,aZ,cJ,gN,kZ,f]
theorem Ei (hp:Pw 3 p)(hq:Pw 3 q)(hr:Pw 3 r)(hs:Pw 3 s)(nz:dU [p,q,r,s]≠0):aS (cX p r)≠aS (cX p q):=by
 obtain⟨x0,y0,z0,w0,rfl,p0⟩:=hp.three;obtain⟨x1,y1,z1,w1,rfl,p1⟩:=hq.three;obtain⟨x2,y2,z2,w2,rfl,p2⟩:=hr.three;obtain⟨x3,y3,z3,w3,rfl,p3⟩:=hs.three;have nz:=nz;have e:w0*w0*D3 x0 y0 z0 w0 x1 y1 z1 w1 x2 y2 z2 w2 x3 y3 z3 w3=((y1*w0-y0*w1)*(z2*w0-z0*w2)-(z1*w0-z0*w1)*(y2*w0-y0*w2))*(x3*w0-x0*w3)+((z1*w0-z0*w1)*(x2*w0-x0*w2)-(x1*w0-x0*w1)*(z2*w0-z0*w2))*(y3*w0-y0*w3)+((x1*w0-x0*w1)*(y2*w0-y0*w2)-(y1*w0-y0*w1)*(x2*w0-x0*w2))*(z3*w0-z0*w3):=by
  unfold D3;grind
 have fE:w0*w0*D3 x0 y0 z0 w0 x1 y1 z1 w1 x2 y2 z2 w2 x3 y3 z3 w3≠0:=di (di 1#a 1#a) nz;rw[e]at fE;intro h;obtain⟨h1,h2,h3⟩:=Ws h;exact fE (agQ h1 h2 h3)
theorem acJ (hp:Pw 3 p)(hq:Pw 3 q)(hr:Pw 3 r)(hs:Pw 3 s)(nz:dU [p,q,r,s]≠0):[aS (cX r p),aS (cX p q),aS (cX q r)].Nodup:=by
 have z:∀{x y:Int},y≠0->x=-y->x≠0:=(by grind);have d1:=z nz (dJ hp hq hr hs).1;have d2:=z d1 (dJ hq hp hr hs).2.1;have d3:=z d2 (dJ hq hr hp hs).1;have s1:aS (cX r p)=aS (cX p r):=by rw[zJ (.inr rfl) hp hr,zI]
 have s2:aS (cX q r)=aS (cX r q):=by rw[zJ (.inr rfl) hr hq,zI]
 have s3:aS (cX p q)=aS (cX q p):=by rw[zJ (.inr rfl) hq hp,zI]
 have n1:aS (cX r p)≠aS (cX p q):=by
  rw[s1];exact Ei hp hq hr hs nz
 have n2:aS (cX r p)≠aS (cX q r):=by
  rw[s2];exact Ei hr hq hp hs d3
 have n3:aS (cX p q)≠aS (cX q r):=by
  rw[s3];exact Ei hq hr hp hs d2
 simp_all
def jE(m p q:BC):BD×1#h:=([m,(cU p q).1],(cU p q).2)
structure Sd(k:Nat)(p q:BC):Prop where
 pr:∀S,lG [.pv (tv p),.pv (tv q)] S=.ok (.pv (.tup [tv (cU p q).1,fv (cU p q).2])) S
 fq:Fq (2*k+1) (cU p q).2
theorem Qj{k:Nat}(hk:k<=800){p q:BC}(gp:Gu 3 k p)(gq:Gu 3 k q)(nz:∃n∈cX p q,n≠0):Sd k p q:=by
 obtain⟨x0,y0,z0,w0,rfl,W0,bx0,by0,bz0,bw0⟩:=gp.three';obtain⟨x1,y1,z1,w1,rfl,W1,bx1,by1,bz1,bw1⟩:=gq.three';obtain⟨_,_,_,_,e,P⟩:=gp.three 1#a;cases e;obtain⟨_,_,_,_,e,Q⟩:=gq.three 1#a;cases e;have ea:cX [x0,y0,z0,w0] [x1,y1,z1,w1]=[x1*w0-x0*w1,y1*w0-y0*w1,z1*w0-z0*w1]:=rfl;rw[ea]at nz;have sb':∀{u v s t:Int},Bd k u->Bd k v->Bd k s->Bd k t->Bd (2*k+1) (u*v-s*t):=λh1 h2 h3 h4=>((h1.mul h2).mono (show k+k<=2*k by omega)).sub ((h3.mul h4).mono (show k+k<=2*k by omega));have b1:=sb' bx1 bw0 bx0 bw1;have b2:=sb' by1 bw0 by0 bw1;have b3:=sb' bz1 bw0 bz0 bw1;have bb:Bd (2*k+1) (w0*w1):=(bw0.mul bw1).mono 1#a;have ww:0<w0*w1:=bf W0 W1;have e1:=λS=>sO S P Q;have g1:=λS=>Hb S P Q;have es:cU [x0,y0,z0,w0] [x1,y1,z1,w1]=(aS [x1*w0-x0*w1,y1*w0-y0*w1,z1*w0-z0*w1],eS (gf [x1*w0-x0*w1,y1*w0-y0*w1,z1*w0-z0*w1]) (w0*w1)):=rfl;have em:∀m,jE m [x0,y0,z0,w0] [x1,y1,z1,w1]=([m,aS [x1*w0-x0*w1,y1*w0-y0*w1,z1*w0-z0*w1]],eS (gf [x1*w0-x0*w1,y1*w0-y0*w1,z1*w0-z0*w1]) (w0*w1)):=λ_=>rfl;have i0:aE (v3 x0 y0 z0 w0) (.int (-1))=some (.int w0):=rfl;have i1:aE (v3 x1 y1 z1 w1) (.int (-1))=some (.int w1):=rfl;have m1:=fD bw0 bw1 1#a 1#a;clear sb' ea;generalize z1*w0-z0*w1=N3,y1*w0-y0*w1=N2,x1*w0-x0*w1=N1 at *;have bd:∀n∈[N1,N2,N3],Bd (2*k+1) n:=λn hn=>by
  simp only[br,fm,or_false]at hn;rcases hn with rfl |rfl |rfl
  .exact b1
  .exact b2
  .exact b3
 have gb:=(wH bd nz).1;have fp:=vL (df ww) gb bb;refine⟨λS=>?_,by rw[es];exact fp.2⟩
 .rw[es]
  have e1:=e1 S;have e2:=Az (k:=2*k+1) 1#a S b1 b2 b3 nz bb ww;show lG [.pv (v3 x0 y0 z0 w0),.pv (v3 x1 y1 z1 w1)] S=.ok (.pv (.tup [tv (aS [N1,N2,N3]),fv (eS (gf [N1,N2,N3]) (w0*w1))])) S;unfold lG aI xN;generalize v3 x1 y1 z1 w1=B,v3 x0 y0 z0 w0=A,tv (aS [N1,N2,N3])=T1,fv (eS (gf [N1,N2,N3]) (w0*w1))=F1 at *;simp! [e1,i0,i1,m1,e2]
def dM(w:BD):List (BD×1#h):=(iJ w).map λx=>jE (aS (bR w)) x.1 x.2
def eD(u:BD):List (BD×1#h):=(dE u).flatMap dM
structure We(k:Nat)(w:BD):Prop where
 wd:Wd k w
 ln:∃p q r,w=[p,q,r]
 sd:∀x∈iJ w,Sd k x.1 x.2
structure Uk(k:Nat)(u:BD):Prop where
 is:∃a b c d,u=[a,b,c,d]
 we:∀w∈dE u,We k w
 nd:((eD u).map (·.1)).Nodup
theorem Ra{k:Nat}(hk:k<=400){p q r s:BC}(gp:Gu 3 k p)(gq:Gu 3 k q)(gr:Gu 3 k r)(gs:Gu 3 k s)(nz:dU [p,q,r,s]≠0):We k [p,q,r]/\((dM [p,q,r]).map (·.1)).Nodup:=by
 have hp:=gp.pt;have hq:=gq.pt;have hr:=gr.pt;have hs:=gs.pt;have nn:∃n∈bR [p,q,r],n≠0:=by
  obtain⟨x0,y0,z0,w0,rfl,p0⟩:=hp.three;obtain⟨x1,y1,z1,w1,rfl,p1⟩:=hq.three;obtain⟨x2,y2,z2,w2,rfl,p2⟩:=hr.three;obtain⟨x3,y3,z3,w3,rfl,p3⟩:=hs.three;exact Wh p0 (x3:=x3) (y3:=y3) (z3:=z3) (w3:=w3) nz
 have wn:=acJ hp hq hr hs nz;have az:∀{p q r s:BC},Pw 3 p->Pw 3 q->Pw 3 r->Pw 3 s->dU [p,q,r,s]≠0->∃n∈cX p q,n≠0:=λhp hq hr hs nz=>by
  obtain⟨x0,y0,z0,w0,rfl,p0⟩:=hp.three;obtain⟨x1,y1,z1,w1,rfl,p1⟩:=hq.three;obtain⟨x2,y2,z2,w2,rfl,p2⟩:=hr.three;obtain⟨x3,y3,z3,w3,rfl,p3⟩:=hs.three;have nz:D3 x0 y0 z0 w0 x1 y1 z1 w1 x2 y2 z2 w2 x3 y3 z3 w3≠0:=nz;have e:w0*w0*D3 x0 y0 z0 w0 x1 y1 z1 w1 x2 y2 z2 w2 x3 y3 z3 w3=((y1*w0-y0*w1)*(z2*w0-z0*w2)-(z1*w0-z0*w1)*(y2*w0-y0*w2))*(x3*w0-x0*w3)+((z1*w0-z0*w1)*(x2*w0-x0*w2)-(x1*w0-x0*w1)*(z2*w0-z0*w2))*(y3*w0-y0*w3)+((x1*w0-x0*w1)*(y2*w0-y0*w2)-(y1*w0-y0*w1)*(x2*w0-x0*w2))*(z3*w0-z0*w3):=by
   unfold D3;grind
  have fE:w0*w0*D3 x0 y0 z0 w0 x1 y1 z1 w1 x2 y2 z2 w2 x3 y3 z3 w3≠0:=di (di 1#a 1#a) nz;rw[e]at fE;clear e nz;show ∃n∈[x1*w0-x0*w1,y1*w0-y0*w1,z1*w0-z0*w1],n≠0;generalize z1*w0-z0*w1=u3,y1*w0-y0*w1=u2,x1*w0-x0*w1=u1 at*
  by_cases h1:u1=0
  .by_cases h2:u2=0
   .refine⟨u3,by simp,λh3=>fE ?_⟩
    rw[h1,h2,h3];simp
   .exact⟨u2,by simp,h2⟩
  .exact⟨u1,by simp,h1⟩
 have z:∀{x y:Int},y≠0->x=-y->x≠0:=λh e z=>h 1#a;have d1:dU [q,p,r,s]≠0:=z nz (dJ hp hq hr hs).1;have d2:dU [q,r,p,s]≠0:=z d1 (dJ hq hp hr hs).2.1;have d3:dU [p,r,q,s]≠0:=z nz (dJ hp hq hr hs).2.1;have d4:dU [r,p,q,s]≠0:=z d3 (dJ hp hr hq hs).1;refine⟨⟨wJ hk gp gq gr nn,⟨p,q,r,rfl⟩,λx hx=>?_⟩,?_⟩
 .have hx:x=(r,p)\/x=(p,q)\/x=(q,r):=by simpa[iJ]using hx
  rcases hx with rfl |rfl |rfl
  .exact Qj 1#a gr gp (az hr hp hq hs d4)
  .exact Qj 1#a gp gq (az hp hq hr hs nz)
  .exact Qj 1#a gq gr (az hq hr hp hs d2)
 .have e:(dM [p,q,r]).map (·.1)=[aS (cX r p),aS (cX p q),aS (cX q r)].map λy=>[aS (bR [p,q,r]),y]:=rfl
  rw[e];refine List.Pairwise.map _ (λa b h e=>h ?_) wn;injection e with _ e;injection e
theorem vR{k:Nat}(hk:k<=400){u:BD}(h:Sx 3 k u):Uk k u:=by
 obtain⟨a,b,c,d,rfl⟩:=len4 h.len
 have ga:=h.gu a 1#d;have gb:=h.gu b 1#d;have gc:=h.gu c 1#d;have gd:=h.gu d 1#d;have nz:=h.nz;have pa:=ga.pt;have pb:=gb.pt;have pc:=gc.pt;have pd:=gd.pt;have z:∀{x y:Int},y≠0->x=-y->x≠0:=λh e z=>h 1#a;have d1:dU [a,b,d,c]≠0:=z nz (dJ pa pb pc pd).2.2;have d2:dU [a,c,b,d]≠0:=z nz (dJ pa pb pc pd).2.1;have d3:dU [a,d,b,c]≠0:=z d1 (dJ pa pb pd pc).2.1;have d4:dU [a,d,c,b]≠0:=z d3 (dJ pa pd pb pc).2.2;have e1:dU [b,a,c,d]≠0:=z nz (dJ pa pb pc pd).1;have e2:dU [b,c,a,d]≠0:=z e1 (dJ pb pa pc pd).2.1;have e3:dU [b,c,d,a]≠0:=z e2 (dJ pb pc pa pd).2.2;have al:∀w∈dE [a,b,c,d],We k w/\((dM w).map (·.1)).Nodup:=λw hw=>by
  have hw:=by simpa[dE]using hw
  rcases hw with rfl |rfl |rfl |rfl
  .exact Ra hk gb gc gd ga e3
  .exact Ra hk ga gd gc gb d4
  .exact Ra hk ga gb gd gc d1
  .exact Ra hk ga gc gb gd d2
 refine⟨⟨a,b,c,d,rfl⟩,λw hw=>(al w hw).1,?_⟩;have wn:((dE [a,b,c,d]).map λw=>aS (bR w)).Nodup:=Gs pa pb pc pd nz;show(((dE [a,b,c,d]).flatMap dM).map (·.1)).Nodup;rw[AY];unfold List.Nodup;rw[List.pairwise_flatMap];refine⟨λw hw=>(al w hw).2,?_⟩;unfold List.Nodup at wn;rw[yx]at wn;refine wn.imp λ{w w'} hne x hx y hy e=>hne ?_;have hd:∀{w:BD}{x:BD},x∈(dM w).map (·.1)->x.getD 0 []=aS (bR w):=λ{w x} hx=>by
  obtain⟨r,hr,rfl⟩:=ca.mp hx;obtain⟨y,_,rfl⟩:=ca.mp hr;rfl
 rw[<-hd hx,<-hd hy,e]
theorem Rp:∀L:List (BD×1#h),iN (L.map bH)=true
 |[]=>rfl
 |x::L=>by
  have h:∀k:List _,iN (k.map .int)=true:=λk=>by
   induction k with
   |nil=>rfl
   |cons i k ih=>
    show(true&&iN _)=true
    simp_all
  have h2:∀k:List _,iN (k.map tv)=true:=λk=>by
   induction k with
   |nil=>rfl
   |cons i k ih=>
    show(iN _&&iN _)=true
    simp_all
  show(iN _&&true&&iN _)=true;rw[Rp L,h2];rfl
abbrev eB:MS:=(aH (aP 6 (aJ lG [] (aB (aA 4) (aB (aA 5) aD)))) (dC (dQ (aA 1) (aB (mN eF (aB (mN eF (aB (aA 3) (aB (aC aE (aA 6) 1#e) aD))) (aB (aC aE (aA 6) 1#c) aD))) aD))))
theorem F5{k:Nat}(S:aF)(m:BC)(x0 x2:BN):∀(L:List (BC×BC))(X:BK)(x4 x5 x6:BN),(∀x∈L,Sd k x.1 x.2)->X.length+L.length<=100000->∃y4 y5 y6,dH [] (gT 2 (aZ (gN 4) (aZ (gN 5) cJ))) eB (L.map λx=>PV.tup [tv x.1,tv x.2]) [x0,some (.ref S.length),x2,some (.pv (tv m)),x4,x5,x6] (S++[.lst X])=.nx [x0,some (.ref S.length),x2,some (.pv (tv m)),y4,y5,y6] (S++[.lst (X++L.map λx=>bH (jE m x.1 x.2))])
 |[],X,x4,x5,x6,_,_=>⟨x4,x5,x6,by simpa using gK⟩
 |x::L,X,x4,x5,x6,h,hl=>by
  rw[cu]at hl;have e:=(h x av).pr (S++[.lst X]);obtain⟨y4,y5,y6,ih⟩:=F5 S m x0 x2 L (X++[bH (jE m x.1 x.2)]) (some (.pv (tv x.1))) (some (.pv (tv x.2))) (some (.pv (.tup [tv (cU x.1 x.2).1,fv (cU x.1 x.2).2]))) (λv hv=>h v (bh _ hv)) (by rw[ax];show _+1+_<=_;omega);refine⟨y4,y5,y6,?_⟩;have er:bH (jE m x.1 x.2)=.tup [.tup [tv m,tv (cU x.1 x.2).1],fv (cU x.1 x.2).2]:=rfl;have lz:X.length<16777216:=by omega
  rw[jp]at ih;have ih:dH [] (gT 2 (aZ (gN 4) (aZ (gN 5) cJ))) eB (L.map λx=>PV.tup [tv x.1,tv x.2]) [x0,some (.ref S.length),x2,some (.pv (tv m)),some (.pv (tv x.1)),some (.pv (tv x.2)),some (.pv (.tup [tv (cU x.1 x.2).1,fv (cU x.1 x.2).2]))] (S++[.lst (X++[bH (jE m x.1 x.2)])])=.nx [x0,some (.ref S.length),x2,some (.pv (tv m)),y4,y5,y6] (S++[.lst (X++(x::L).map λx=>bH (jE m x.1 x.2))]):=ih;rw[er]at ih;rw[au,eW];generalize tv m=M1,tv x.2=T2,tv x.1=T1,tv (cU x.1 x.2).1=K1,fv (cU x.1 x.2).2=F1,(L.map λx=>PV.tup [tv x.1,tv x.2])=LL,((x::L).map λx=>bH (jE m x.1 x.2))=W2 at *;have i0:aE (.tup [K1,F1]) (.int 0)=some K1:=rfl;have i1:aE (.tup [K1,F1]) (.int 1)=some F1:=rfl;have st:eB [x0,some (.ref S.length),x2,some (.pv M1),some (.pv T1),some (.pv T2),x6] (S++[.lst X])=.nx [x0,some (.ref S.length),x2,some (.pv M1),some (.pv T1),some (.pv T2),some (.pv (.tup [K1,F1]))] (S++[.lst (X++[.tup [.tup [M1,K1],F1]])]):=by
   unfold eB;apply sq;simp! [e];exact⟨rfl,rfl⟩;simp! [i0,i1,dQ,fY,jP,lz]
  generalize eB=EB at *;simp[gT,aZ,cJ,gN,st,ih]
abbrev uC:MS:=(aH (aP 3 (aC aE (aJ nG [] (aB (aA 2) aD)) 1#e)) (cB (aX (aJ uT [] (aB (aA 2) aD))) (gT 2 (aZ (gN 4) (aZ (gN 5) cJ))) eB))
theorem A0{k:Nat}(S:aF)(x0:BN):∀(W:BE)(X:BK)(x2 x3 x4 x5 x6:BN),(∀w∈W,We k w)->X.length+3*W.length<=90000->∃y2 y3 y4 y5 y6,dH [] (gN 2) uC (W.map λw=>PV.tup (w.map tv)) [x0,some (.ref S.length),x2,x3,x4,x5,x6] (S++[.lst X])=.nx [x0,some (.ref S.length),y2,y3,y4,y5,y6] (S++[.lst (X++(W.flatMap dM).map bH)])
 |[],X,x2,x3,x4,x5,x6,_,_=>⟨x2,x3,x4,x5,x6,by simpa using gK⟩
 |w::W,X,x2,x3,x4,x5,x6,h,hl=>by
  rw[cu]at hl;have t:=h w av;have e1:=t.wd.pr (S++[.lst X]);have l3:(iJ w).length=3:=by
   obtain⟨p,q,r,rfl⟩:=t.ln;rfl
  have e2:=aci (w:=w) (by
   obtain⟨p,q,r,rfl⟩:=t.ln;exact .inr rfl) (S++[.lst X])
  obtain⟨y4,y5,y6,e3⟩:=F5 S (aS (bR w)) x0 (some (.pv (.tup (w.map tv)))) (iJ w) X x4 x5 x6 t.sd 1#a;have er:((iJ w).map λx=>bH (jE (aS (bR w)) x.1 x.2))=(dM w).map bH:=by
   unfold dM;rw[cj];rfl
  rw[er]at e3;obtain⟨z2,z3,z4,z5,z6,ih⟩:=A0 S x0 W (X++(dM w).map bH) (some (.pv (.tup (w.map tv)))) (some (.pv (tv (aS (bR w))))) y4 y5 y6 (λv hv=>h v (bh _ hv)) (by
   rw[ax,ak];show _+((iJ w).map _).length+_<=_;rw[ak,l3];omega)
  refine⟨z2,z3,z4,z5,z6,?_⟩;rw[jp,<-cw,<-jm]at ih;have e1:nG [.pv (.tup (w.map tv))] (S++[.lst X])=.ok (.pv (.tup [tv (aS (bR w)),fv (eP w).2])) (S++[.lst X]):=e1;rw[au,eW];generalize (W.map λw=>PV.tup (w.map tv))=WL,PV.tup (w.map tv)=P1,((iJ w).map λx=>PV.tup [tv x.1,tv x.2])=SL,tv (aS (bR w))=M1,fv (eP w).2=F1,(dM w).map bH=W1,((w::W).flatMap dM).map bH=W2 at *;have i0:aE (.tup [M1,F1]) (.int 0)=some M1:=rfl;have st:uC [x0,some (.ref S.length),some (.pv P1),x3,x4,x5,x6] (S++[.lst X])=.nx [x0,some (.ref S.length),some (.pv P1),some (.pv M1),y4,y5,y6] (S++[.lst (X++W1)]):=by
   unfold uC;generalize eB=EB at *;apply sq;simp! [e1,i0];exact⟨rfl,rfl⟩;simp! [cB,aX,e2,bT,e3]
  generalize uC=EB at *;simp[gN,st,ih]
theorem Uf {gs:BE}(h:∀u∈gs,Uk k u):(gs.flatMap eD).length=12*gs.length/\(∀r∈gs.flatMap eD,Fq (2*k+1) r.2/\r.1≠[])/\gs.flatMap eD=(gs.flatMap dE).flatMap dM/\(∀w∈gs.flatMap dE,We k w)/\(gs.flatMap dE).length=4*gs.length:=by
 have e:gs.flatMap eD=(gs.flatMap dE).flatMap dM:=by
  rw[List.flatMap_assoc];rfl
 have w:∀w∈gs.flatMap _,We k w:=λw hw=>by
  obtain⟨u,hu,hw⟩:=ni.mp hw;exact(h u hu).we w hw
 refine⟨?_,λr hr=>?_,e,w,?_⟩
 .clear e w
  induction gs with
  |nil=>rfl
  |cons u gs ih=>
   obtain⟨a,b,c,d,rfl⟩:=(h u av).is;rw[jm,ax,ih λv hv=>h v (bh _ hv),cu];show 12+_=_;omega
 .rw[e]at hr
  obtain⟨x,hx,hr⟩:=ni.mp hr;obtain⟨y,hy,rfl⟩:=ca.mp hr;exact⟨((w x hx).sd y hy).fq,λz=>by cases z⟩
 .clear e w
  induction gs with
  |nil=>rfl
  |cons u gs ih=>
   obtain⟨a,b,c,d,rfl⟩:=(h u av).is;rw[jm,ax,ih λv hv=>h v (bh _ hv),cu];show 4+_=_;omega
theorem O6{k:Nat}(hk:8*(2*k+2)<=7000)(S:aF){gs:BE}{A:PV}(hA:Sv A (gs.map px))(h:∀u∈gs,Uk k u)(hl:gs.length<=8)(h64:(bB (gs.flatMap eD)).length<64):xP [.pv A] S=.ok (.pv (.tup ((bI cT (gs.flatMap eD)).map bH))) S:=by
 obtain⟨i1,i2,i4,i5,i6⟩:=Uf h;have e1:=Pc (S++[.lst []]) hA (λu hu=>by
  obtain⟨a,b,c,d,rfl⟩:=(h u hu).is;exact .inr rfl) 1#a
 obtain⟨y2,y3,y4,y5,y6,e2⟩:=A0 S (some (.pv A)) (gs.flatMap dE) [] none none none none none i5 (by show 0+3*_<=_;rw[i6];omega);rw[<-i4,iw]at e2;have e3:=Jo (m:=3) (k:=2*k+1) (R:=gs.flatMap eD) 1#a h64 (λz=>by
  obtain⟨r,hr,e⟩:=((fT _).2 _).mp z;exact(i2 r hr).2 e) (λj=>by
  have:=mI eD gs j λu hu=>(h u hu).nd;omega) 1#b 1#a λr hr=>(i2 r hr).1
 have e3:=agT (λr hr=>(i2 r hr).2) e3;have e4:kO (.tup ((bI cT (gs.flatMap eD)).map bH))=true:=Rp _;clear i1 i2 i4 i5 i6 hA h;have hb:Tc=(aH (aP 1 (fV aD)) (aH (cB (aX (aJ oI [] (aB (aA 0) aD))) (gN 2) uC) (aT (nQ pX (aB (aA 1) aD))))):=rfl;unfold xP;rw[hb];generalize uC=EB,((gs.flatMap dE).map λw=>PV.tup (w.map tv))=SL,(gs.flatMap eD).map bH=RL,(bI cT (gs.flatMap eD)).map bH=TL at *;have st2:(cB (aX (aJ oI [] (aB (aA 0) aD))) (gN 2) EB) [some (.pv A),some (.ref S.length),none,none,none,none,none] (S++[.lst []])=.nx [some (.pv A),some (.ref S.length),y2,y3,y4,y5,y6] (S++[.lst RL]):=by
  rw[<-e2];generalize S++[SO.lst []]=S2 at *;simp! [cB,aX,e1,bT]
 refine pB (v:=.pv (.tup TL)) (S':=S++[.lst RL]) rfl ?_ (by simp[jB]);apply sq;simp! [fV,lM];exact⟨rfl,rfl⟩;apply sq;exact st2;simp! [nQ,e3,e4]
abbrev sm{κ:Type}(s:Int)(r:κ×1#h):κ×1#h:=(r.1,(s*r.2.1,r.2.2))
theorem rZ [DecidableEq κ]{lt:κ->κ->Bool}(R:List (κ×1#h)):bI lt R=((dA lt (bB R)).filter λk=>!decide ((aW (aK R k)).1=0)).map λk=>(k,aW (aK R k)):=by
 unfold bI;rw[AZ];rfl
theorem abD [DecidableEq κ]{lt:κ->κ->Bool}(O:lU lt){R R':List (κ×1#h)}(h:∀k,aW (aK R k)=aW (aK R' k)):bI lt R=bI lt R':=by
 have m:∀Q k,k∈(dA lt _).filter (λk=>!decide ((aW (aK Q k)).1=0))↔(aW _).1≠0:=λQ k=>by
  rw[iy];constructor
  .intro z
   simpa using z.2
  .intro z
   refine⟨(jJ _).symm.subset ?_,by simpa using z⟩
   by_cases hk:k∈bB Q
   .exact hk
   .rw[Ja hk]at z
    exact absurd rfl z
 have s:∀Q,((dA _ _).filter λk=>!decide ((aW (aK Q k)).1=0)).Pairwise _:=λQ=>(sI O _ (fT Q).1).filter _;have nd:∀Q,((dA lt _).filter λk=>!decide ((aW (aK Q k)).1=0)).Nodup:=λQ=>((jJ _).nodup_iff.mpr (fT Q).1).filter _;have e:=by
  refine zV O ((AX (nd R) (nd R')).mpr λk=>?_) (s R) (s R');rw[m,m,h]
 rw[rZ,rZ,e]
 simp_all
theorem Cu [DecidableEq κ]{lt:κ->κ->Bool}{R:List (κ×1#h)}{x:κ×1#h}(h:x∈bI lt R):x.1∈bB R/\x.2=aW (aK R x.1):=by
 rw[rZ]at h;obtain⟨k,hk,rfl⟩:=ca.mp h;exact⟨(jJ _).subset (iy.mp hk).1,rfl⟩
theorem Es{κ:Type}[DecidableEq κ]{lt:κ->κ->Bool}(R:List (κ×1#h))(k:κ):aK (bI lt R) k=if(aW (aK R k)).1=0 then[] else[aW (aK R k)]:=by
 rw[rZ];have nd:(dA lt (bB R)).Nodup:=(jJ _).nodup_iff.mpr (fT R).1;have mk:∀k,k∈dA lt (bB R)↔k∈bB R:=λk=>(jJ _).mem_iff;have e:∀(L:List κ),L.Nodup->aK ((L.filter λk=>!decide ((aW (aK R k)).1=0)).map λk=>(k,aW (aK R k))) k=if k∈L/\(aW (aK R k)).1≠0 then[aW (aK R k)] else[]:=by
  intro L
  induction L with
  |nil=>intro _;rfl
  |cons a L ih=>
   intro n;obtain⟨n1,n2⟩:=jc.mp n;have ih:=ih n2
   by_cases z:(aW (aK R a)).1=0
   .rw[List.filter_cons_of_neg (by simpa using z),ih]
    by_cases ka:k=a
    .subst ka
     simp[n1,z]
    .simp[ka]
   .rw[List.filter_cons_of_pos (by simpa using z),au]
    have c:∀Q ,aK ((a,aW (aK R a))::Q) k=if a=k then aW (aK R a)::aK Q k else aK Q k:=λQ=>by
     unfold aK
     by_cases w:a=k
     .simp[w]
     .simp[w]
    rw[c,ih]
    by_cases ka:a=k
    .subst ka
     simp[n1,z]
    .have kb:¬k=a:=λz=>ka z.symm
     simp[ka,kb]
 rw[e _ nd]
 by_cases z:(aW (aK R k)).1=0
 .simp[z]
 .have:k∈bB R:=by
   by_cases hk:k∈bB R
   .exact hk
   .rw[Ja hk]at z
    exact absurd rfl z
  simp[z,mk,this]
theorem acx (h:Fq k u):aW [u]=u:=by
 obtain⟨a,b⟩:=iG [u] (by simpa using h);exact wO a h (by rw[b];unfold rs rs;grind)
theorem ac6 {A B:List 1#h}(hA:∀u∈A,Fq k u)(hB:∀u∈B,Fq k u){C D:List 1#h}(hC:∀u∈C,Fq l u)(hD:∀u∈D,Fq l u)(e:aW A=aW C)(g:aW B=aW D):aW (A++B)=aW (C++D):=by
 have ap:∀X Y ,rs (X++Y)=rs X+rs Y:=λX Y=>by
  induction X with
  |nil=>unfold rs;grind
  |cons x X ih=>
   show(x.1:Rat)/(x.2:Rat)+rs (X++Y)=(x.1:Rat)/(x.2:Rat)+rs X+rs Y;rw[ih];grind
 obtain⟨a1,a2⟩:=iG A hA;obtain⟨b1,b2⟩:=iG B hB;obtain⟨c1,c2⟩:=iG C hC;obtain⟨d1,d2⟩:=iG D hD;obtain⟨x1,x2⟩:=iG (k:=k) (A++B) λu hu=>(ce.mp hu).elim (hA u) (hB u);obtain⟨y1,y2⟩:=iG (k:=l) (C++D) λu hu=>(ce.mp hu).elim (hC u) (hD u);refine wO x1 y1 ?_;rw[x2,y2,ap,ap,<-a2,<-b2,<-c2,<-d2,e,g]
theorem aan [DecidableEq κ]{lt:κ->κ->Bool}(O:lU lt){k:Nat}{R R':List (κ×1#h)}(h:∀r∈R,Fq k r.2)(h':∀r∈R',Fq k r.2):bI lt (bI lt R++bI lt R')=bI lt (R++R'):=by
 refine abD O λj=>?_;have f:∀{Q:List (κ×1#h)},(∀r∈Q,Fq k r.2)->∀u∈aK Q j,Fq k u:=λ{Q} h u hu=>by
  obtain⟨r,hr,rfl⟩:=ca.mp hu;exact h r (iy.mp hr).1
 have one:∀{Q:List (κ×1#h)},(∀r∈Q,Fq k r.2)->aW (aK (bI lt Q) j)=aW (aK Q j)/\∃l,∀u∈aK (bI lt Q) j,Fq l u:=λ{Q} h=>by
  have c:=(iG _ (f h)).1;rw[Es]
  by_cases z:(aW (aK Q j)).1=0
  .rw[if_pos z]
   exact⟨((Yd c).mp z).symm,0,λ_ h=>nomatch h⟩
  .rw[if_neg z]
   exact⟨acx c,_,λu hu=>by
    have:=by simpa using hu
    rw[this];exact c⟩
 obtain⟨e1,l1,q1⟩:=one h;obtain⟨e2,l2,q2⟩:=one h';rw[oU,oU];exact ac6 (k:=l1+l2) (l:=k) (λu hu=>(q1 u hu).mono 1#a) (λu hu=>(q2 u hu).mono 1#a) (f h) (f h') e1 e2
theorem Wi {s:Int}(hs:s=1\/s=-1){r:κ×1#h}(h:Fq k r.2):Fq k (sm s r).2:=by
 refine⟨h.pos,?_,h.b2,?_⟩
 .rcases hs with rfl |rfl
  .show Bd k (1*r.2.1)
   rw[gh];exact h.b1
  .show Bd k (-1*r.2.1)
   have:=h.b1;unfold Bd;rw[show-1*r.2.1=-r.2.1 by omega,Int.natAbs_neg];exact this
 .rcases hs with rfl |rfl
  .show ci (1*r.2.1) r.2.2=1
   rw[gh];exact h.lo
  .show ci (-1*r.2.1) r.2.2=1
   rw[show-1*r.2.1=-r.2.1 by omega,xp];exact h.lo
theorem adH{κ:Type}[DecidableEq κ]{lt:κ->κ->Bool}{k:Nat}{s:Int}(hs:s=1\/s=-1){R:List (κ×1#h)}(h:∀r∈R,Fq k r.2):bI lt (R.map (sm s))=(bI lt R).map (sm s):=by
 have s0:s≠0:=by omega
 have ks:∀(L:List (κ×1#h))(A:List κ),(L.map (sm s)).foldl (λks r=>if r.1∈ks then ks else ks++[r.1]) A=L.foldl (λks r=>if r.1∈ks then ks else ks++[r.1]) A:=by
  intro L
  induction L with
  |nil=>intro A;rfl
  |cons r L ih=>intro A;exact ih _
 have ks:bB (R.map (sm s))=bB R:=ks R [];have sh:∀j,aK (R.map (sm s)) j=(aK R j).map λu=>(s*u.1,u.2):=λj=>by
  unfold aK;rw[AZ,cj,cj];rfl
 have ch:=λL hL=>by
  obtain⟨a1,a2⟩:=iG L hL;obtain⟨b1,b2⟩:=iG (k:=k) (L.map λu=>(s*u.1,u.2)) λu hu=>by
   obtain⟨v,hv,rfl⟩:=ca.mp hu;exact Wi (κ:=Unit) hs (r:=((),v)) (hL v hv)
  have c:=Wi (κ:=Unit) hs (r:=((),aW L)) a1;refine wO b1 c ?_;rw[b2];show _=((s*(aW L).1:Int):Rat)/((aW L).2:Rat);have r:rs (L.map λu=>(s*u.1,u.2))=(s:Rat)*rs L:=by
   clear a1 a2 b1 b2 c hL
   induction L with
   |nil=>unfold rs;grind
   |cons u L ih=>
    rw[au];unfold rs;rw[ih];rw[qy];grind
  rw[r,<-a2,qy];grind
 have fk:∀j,∀u∈aK R j,Fq k u:=λj u hu=>by
  unfold aK at hu;obtain⟨r,hr,rfl⟩:=ca.mp hu;exact h r (iy.mp hr).1
 have cs:∀j,aW (aK (R.map (sm s)) j)=(s*(aW (aK R j)).1,(aW (aK R j)).2):=λj=>by rw[sh,ch _ (fk j)]
 rw[rZ,rZ,ks,cj];have ef:(λj=>!decide ((aW (aK (R.map (sm s)) j)).1=0))=λj=>!decide ((aW (aK R j)).1=0):=by
  funext j
  rw[cs];have:(s*(aW (aK R j)).1=0)↔((aW (aK R j)).1=0):=by
   constructor
   .intro z
    exact(kq.mp z).resolve_left s0
   .intro z
    rw[z,qo]
  simp[this]
 rw[ef];exact dy λj _=>by
  show(j,aW (aK (R.map (sm s)) j))=_;rw[cs];rfl
def al(ns:BC)(b:Int):BC×1#h:=(aS ns,eS (gf ns) b)
theorem agU{t b t' b' s:Int}(hb:0<b)(hb':0<b')(hs:s=1\/s=-1)(h:t'*b=s*t*b'):eS t' b'=(s*(eS t b).1,(eS t b).2):=by
 obtain⟨p,q,e,hq,j⟩:=wE (t:=t) (df hb);have co:=yA (df hb) e;have e2:fr t' _=fr (s*p) q:=yW (df hb') (df hq) (by
  refine zi (df hb) ?_;grind)
 have e3:fr _ q=[s*p,q]:=adf hq (by
  rcases hs with rfl |rfl
  .rw[gh]
   exact co
  .rw[show-1*p=-p by omega,xp]
   exact co)
 unfold eS;rw[e2,e3,e];rfl
theorem acC {L:BC}(hd:d∈L)(h:L.map (c*·)=L.map (e*·))(d0:d≠0):c=e:=by
 have:=List.map_inj_left.mp h d hd;exact AM d0 this
theorem tN{ns ns':BC}{b b' s:Int}(nz:∃n∈ns,n≠0)(hb:0<b)(hb':0<b')(hs:s=1\/s=-1)(h:ns'.map (b*·)=ns.map (s*b'*·)):al ns' b'=sm s (al ns b):=by
 have s0:s*b'≠0:=di 1#a (df hb');have ed:aS ns'=aS ns:=Of (df hb) s0 h;obtain⟨d,hd,d0⟩:=yY nz;have e1:=qU ns;have e2:=qU ns';rw[ed]at e2;have hg:gf ns'*b=s*gf ns*b':=by
  have mm:∀(L:BC)(G c e:Int),L=(aS ns).map (G*·)->c*G=e->L.map (c*·)=(aS ns).map (e*·):=λL G c e h he=>by
   subst h;rw[cj];exact dy λx _=>by show c*(G*x)=e*x;rw[<-he,kj]
  have c1:s*b'*gf ns=s*gf ns*b':=by rw[kj,fe b',<-kj]
  have this:=(mm ns' _ b _ e2 (fe _ _)).symm.trans (h.trans (mm ns _ (s*b') _ e1 c1));exact acC hd this d0
 unfold al;rw[ed,agU hb hb' hs hg]
def Rs (rows:BD->List (κ×1#h))(A B:BD):Prop:=∃s:Int,(s=1\/s=-1)/\dU B=s*dU A/\(rows B).Perm ((rows A).map (sm s))
theorem A1 (s t:Int)(L:List (κ×1#h)):(L.map (sm s)).map (sm t)=L.map (sm (t*s)):=by
 rw[cj];exact dy λr _=>by
  show(r.1,(t*(s*r.2.1),r.2.2))=_;rw[<-kj]
theorem vM (L:List (κ×1#h)):L.map (sm 1)=L:=by
 have:L.map (sm 1)=L.map _:=dy λr _=>by
  show(r.1,(1*r.2.1,r.2.2))=r
  simp_all
 simp_all
theorem Rs.trans (h:Rs rows A B)(g:Rs rows B C):Rs rows A C:=by
 obtain⟨s,hs,d1,p1⟩:=h;obtain⟨t,ht,d2,p2⟩:=g;refine⟨t*s,by rcases hs with rfl |rfl<;>rcases ht with rfl |rfl<;>decide,by rw[d2,d1,kj],p2.trans ?_⟩;rw[<-A1];exact p1.map _
theorem acy {rows:BD->List (κ×1#h)}{n:Nat}{Pz:BC->Prop}(sw:∀(pre l:BD)(x y:BC),(pre++y::x::l).length=n+1->(∀u∈pre++y::x::l,Pz u)->dU (pre++y::x::l)≠0->Rs rows (pre++y::x::l) (pre++x::y::l)){A B:BD}(h:A.Perm B):
  ∀pre:BD,(pre++A).length=n+1->(∀u∈pre++A,Pz u)->dU (pre++A)≠0->Rs rows (pre++A) (pre++B):=by
 induction h with
 |nil=>exact λpre _ _ _=>⟨1,.inl rfl,by rw[gh],by rw[vM]⟩
 |cons x p ih=>
  intro pre hl hp nz;have:=ih (pre++[x]) (by simpa using hl) (by simpa using hp) (by simpa using nz);simpa using this
 |swap x y l=>exact λpre hl hp nz=>sw pre l x y hl hp nz
 |trans p q ih1 ih2=>
  intro pre hl hp nz;have h1:=ih1 pre hl hp nz;obtain⟨s,hs,d,_⟩:=id h1;refine h1.trans (ih2 pre ?_ (λu hu=>hp u ?_) ?_)
  .rw[ax,<-p.length_eq,<-ax]
   exact hl
  .rcases ce.mp hu with z |z
   .exact lj _ z
   .exact dg _ (p.symm.subset z)
  .grind
theorem mU (h:Pw n p):0<lw p:=by
 obtain⟨xs,w,rfl,_,hw⟩:=h;unfold lw
 simp_all
theorem Iy(p q:BC):cU p q=al (cX p q) (lw p*lw q):=rfl
theorem qF (hn:n=2\/n=3){p q:BC}(hp:Pw n p)(hq:Pw n q)(nz:∃x∈cX p q,x≠0):cU q p=sm (-1) (cU p q):=by
 have b1:=mU hp;have b2:=mU hq;refine tN nz (bf b1 b2) (bf b2 b1) (.inr rfl) ?_;rw[zJ hn hp hq,cj];exact dy λx _=>by show lw p*lw q*-x=-1*(lw q*lw p)*x;grind
theorem fE{a b c d:Int}(h:a*d-b*c≠0):(∃n∈[a,b],n≠0)/\∃n∈[c,d],n≠0:=by
 constructor
 .by_cases z:a=0
  .refine⟨b,by simp,λe=>h ?_⟩
   simp_all
  .exact⟨a,by simp,z⟩
 .by_cases z:c=0
  .refine⟨d,by simp,λe=>h ?_⟩
   simp_all
  .exact⟨c,by simp,z⟩
theorem Ri (ha:Pw 2 a)(hb:Pw 2 b)(hc:Pw 2 c)(nz:dU [a,b,c]≠0):(∃n∈cX a b,n≠0)/\(∃n∈cX b c,n≠0)/\∃n∈cX c a,n≠0:=by
 obtain⟨x0,y0,w0,rfl,W0⟩:=ha.two;obtain⟨x1,y1,w1,rfl,W1⟩:=hb.two;obtain⟨x2,y2,w2,rfl,W2⟩:=hc.two;have dz:=nz;have c1:(x1*w0-x0*w1)*(y2*w1-y1*w2)-(y1*w0-y0*w1)*(x2*w1-x1*w2)=w1*D2 x0 y0 w0 x1 y1 w1 x2 y2 w2:=by unfold D2;grind
 have c2:(x2*w1-x1*w2)*(y0*w2-y2*w0)-(y2*w1-y1*w2)*(x0*w2-x2*w0)=w2*D2 x0 y0 w0 x1 y1 w1 x2 y2 w2:=by unfold D2;grind
 have n1:=fE (by rw[c1];exact di 1#a dz);have n2:=fE (by rw[c2];exact di 1#a dz);exact⟨n1.1,n1.2,n2.2⟩
theorem Cz (ha:Pw 2 a)(hb:Pw 2 b)(hc:Pw 2 c):dU [b,a,c]=-1*dU [a,b,c]/\dU [a,c,b]=-1*dU [a,b,c]:=by
 obtain⟨x0,y0,w0,rfl,_⟩:=ha.two;obtain⟨x1,y1,w1,rfl,_⟩:=hb.two;obtain⟨x2,y2,w2,rfl,_⟩:=hc.two;constructor
 .show D2 _ _ w1 x0 _ w0 _ _ _=-1*D2 x0 _ _ _ _ _ _ _ _
  unfold D2;grind
 .show D2 x0 y0 w0 x2 _ w2 x1 _ w1=-1*D2 x0 y0 w0 x1 y1 w1 x2 y2 w2
  unfold D2;grind
theorem sw2(pre l:BD)(x y:BC)(hl:(pre++y::x::l).length=2+1)(hp:∀u∈pre++y::x::l,Pw 2 u)(nz:dU (pre++y::x::l)≠0):Rs eI (pre++y::x::l) (pre++x::y::l):=by
 match pre,l,hl with
 |[],[z],_=>
  have py:=hp y 1#d;have px':=hp x 1#d;have pz:=hp z 1#d;obtain⟨n1,n2,n3⟩:=Ri py px' pz nz;refine⟨-1,.inr rfl,(Cz py px' pz).1,?_⟩;show[cU x y,cU y z,cU z x].Perm [sm (-1) (cU y x),sm (-1) (cU x z),sm (-1) (cU z y)];rw[<-qF (.inl rfl) py px' n1,<-qF (.inl rfl) px' pz n2,<-qF (.inl rfl) pz py n3];exact BA _ (va _ _ _)
 |[z],[],_=>
  have py:=hp y 1#d;have px':=hp x 1#d;have pz:=hp z 1#d;obtain⟨n1,n2,n3⟩:=Ri pz py px' nz;refine⟨-1,.inr rfl,(Cz pz py px').2,?_⟩;show[cU z x,cU x y,cU y z].Perm [sm (-1) (cU z y),sm (-1) (cU y x),sm (-1) (cU x z)];rw[<-qF (.inl rfl) pz py n1,<-qF (.inl rfl) py px' n2,<-qF (.inl rfl) px' pz n3];exact(List.reverse_perm [cU y z,cU x y,cU z x])
 |_::_::_,_,hl=>
  simp at hl;omega
theorem oY(p q r:BC):eP [p,q,r]=al (bR [p,q,r]) (2*lw p*lw p*lw q*lw r):=rfl
theorem pH (hp:Pw 3 p)(hq:Pw 3 q)(hr:Pw 3 r):0<2*lw p*lw p*lw q*lw r:=bf (bf (bf (bf 1#b (mU hp)) (mU hp)) (mU hq)) (mU hr)
theorem afX (hp:Pw 3 p)(hq:Pw 3 q)(hr:Pw 3 r)(nz:∃x∈bR [p,q,r],x≠0):eP [q,p,r]=sm (-1) (eP [p,q,r]):=by
 have b1:=pH hp hq hr;have b2:=pH hq hp hr;rw[oY,oY];refine tN nz b1 b2 (.inr rfl) ?_;clear nz b1 b2;obtain⟨x0,y0,z0,w0,rfl,p0⟩:=hp.three;obtain⟨x1,y1,z1,w1,rfl,p1⟩:=hq.three;obtain⟨x2,y2,z2,w2,rfl,p2⟩:=hr.three;simp only[qX,qV,mY,mZ,rA,lw,au,da,ow,ox];refine l3 ?_ ?_ ?_<;>grind
theorem af3{p q r:BC}(hp:Pw 3 p)(hq:Pw 3 q)(hr:Pw 3 r)(nz:∃x∈bR [p,q,r],x≠0):eP [p,r,q]=sm (-1) (eP [p,q,r]):=by
 have b1:=pH hp hq hr;have b2:=pH hp hr hq;rw[oY,oY];refine tN nz b1 b2 (.inr rfl) ?_;clear nz b1 b2;obtain⟨x0,y0,z0,w0,rfl,p0⟩:=hp.three;obtain⟨x1,y1,z1,w1,rfl,p1⟩:=hq.three;obtain⟨x2,y2,z2,w2,rfl,p2⟩:=hr.three;simp only[qX,qV,mY,mZ,rA,lw,au,da,ow,ox];refine l3 ?_ ?_ ?_<;>grind
theorem C6{p q r:BC}(hp:Pw 3 p)(hq:Pw 3 q)(hr:Pw 3 r)(nz:∃x∈bR [p,q,r],x≠0):eP [r,q,p]=sm (-1) (eP [p,q,r]):=by
 have b1:=pH hp hq hr;have b2:=pH hr hq hp;rw[oY,oY];refine tN nz b1 b2 (.inr rfl) ?_;clear nz b1 b2;obtain⟨x0,y0,z0,w0,rfl,p0⟩:=hp.three;obtain⟨x1,y1,z1,w1,rfl,p1⟩:=hq.three;obtain⟨x2,y2,z2,w2,rfl,p2⟩:=hr.three;simp only[qX,qV,mY,mZ,rA,lw,au,da,ow,ox];refine l3 ?_ ?_ ?_<;>grind
theorem Rk{a b c:Int}(h:¬(a=0/\b=0/\c=0)):∃n∈[a,b,c],n≠0:=by
 by_cases h1:a=0
 .by_cases h2:b=0
  .exact⟨c,by simp,λz=>h ⟨h1,h2,z⟩⟩
  .exact⟨b,by simp,h2⟩
 .exact⟨a,by simp,h1⟩
theorem Ej{w0 a b c:Int}(w:w0≠0)(ha:w0*a=0)(hb:w0*b=0)(hc:w0*c=0):¬∃n∈[a,b,c],n≠0:=by
 rintro⟨n,hn,z⟩
 simp only[br,fm,or_false]at hn;rcases hn with rfl |rfl |rfl
 .exact z ((kq.mp ha).resolve_left w)
 .exact z ((kq.mp hb).resolve_left w)
 .exact z ((kq.mp hc).resolve_left w)
theorem Ca (hp:Pw 3 p)(hq:Pw 3 q)(hr:Pw 3 r)(nz:∃x∈bR [p,q,r],x≠0):(∃n∈cX p q,n≠0)/\(∃n∈cX q r,n≠0)/\∃n∈cX r p,n≠0:=by
 obtain⟨x0,y0,z0,w0,rfl,p0⟩:=hp.three;obtain⟨x1,y1,z1,w1,rfl,p1⟩:=hq.three;obtain⟨x2,y2,z2,w2,rfl,p2⟩:=hr.three;have n0:w0≠0:=by omega
 have n1:w1≠0:=by omega
 refine⟨Rk λ⟨a,b,c⟩=>?_,Rk λ⟨a,b,c⟩=>?_,Rk λ⟨a,b,c⟩=>?_⟩
 .refine Ej n0 ?_ ?_ ?_ nz<;>grind
 .refine Ej n1 ?_ ?_ ?_ nz<;>grind
 .refine Ej n0 ?_ ?_ ?_ nz<;>grind
theorem vQ{a b c d:BC}(pa:Pw 3 a)(pb:Pw 3 b)(pc:Pw 3 c)(pd:Pw 3 d)(nz:dU [a,b,c,d]≠0):(∃n∈bR [b,c,d],n≠0)/\(∃n∈bR [a,d,c],n≠0)/\(∃n∈bR [a,b,d],n≠0)/\∃n∈bR [a,c,b],n≠0:=by
 have nn:∀{p q r s:BC},Pw 3 p->Pw 3 q->Pw 3 r->Pw 3 s->dU [p,q,r,s]≠0->∃n∈bR [p,q,r],n≠0:=λhp hq hr hs z=>by
  obtain⟨x0,y0,z0,w0,rfl,p0⟩:=hp.three;obtain⟨x1,y1,z1,w1,rfl,p1⟩:=hq.three;obtain⟨x2,y2,z2,w2,rfl,p2⟩:=hr.three;obtain⟨x3,y3,z3,w3,rfl,p3⟩:=hs.three;exact Wh p0 (x3:=x3) (y3:=y3) (z3:=z3) (w3:=w3) z
 have z:∀{x y:Int},y≠0->x=-y->x≠0:=λh e z=>h 1#a;have d1:dU [a,b,d,c]≠0:=z nz (dJ pa pb pc pd).2.2;have d2:dU [a,c,b,d]≠0:=z nz (dJ pa pb pc pd).2.1;have d3:dU [a,d,b,c]≠0:=z d1 (dJ pa pb pd pc).2.1;have d4:dU [a,d,c,b]≠0:=z d3 (dJ pa pd pb pc).2.2;have e1:dU [b,a,c,d]≠0:=z nz (dJ pa pb pc pd).1;have e2:dU [b,c,a,d]≠0:=z e1 (dJ pb pa pc pd).2.1;have e3:dU [b,c,d,a]≠0:=z e2 (dJ pb pc pa pd).2.2;exact⟨nn pb pc pd pa e3,nn pa pd pc pb d4,nn pa pb pd pc d1,nn pa pc pb pd d2⟩
theorem Si (pa:Pw 3 a)(pb:Pw 3 b)(pc:Pw 3 c)(pd:Pw 3 d):dU [b,a,c,d]=-1*dU [a,b,c,d]/\dU [a,c,b,d]=-1*dU [a,b,c,d]/\dU [a,b,d,c]=-1*dU [a,b,c,d]:=by
 obtain⟨h1,h2,h3⟩:=dJ pa pb pc pd;grind
theorem nT (hp:Pw 3 p)(hq:Pw 3 q)(nz:∃x∈cX p q,x≠0)(m:BC):jE m q p=sm (-1) (jE m p q):=by
 unfold jE;rw[qF (.inr rfl) hp hq nz]
theorem Sj{p q r p' q' r':BC}(hd:aS (bR [p',q',r'])=aS (bR [p,q,r])){L:List (BC×BC)}(hL:iJ [p',q',r']=L)(h:(L.map λx=>jE (aS (bR [p,q,r])) x.1 x.2).Perm ((dM [p,q,r]).map (sm (-1)))):(dM [p',q',r']).Perm ((dM [p,q,r]).map (sm (-1))):=by
 unfold dM;rw[hd,hL];exact h
theorem ahA (hp:Pw 3 p)(hq:Pw 3 q)(hr:Pw 3 r)(nz:∃x∈bR [p,q,r],x≠0):(dM [q,p,r]).Perm ((dM [p,q,r]).map (sm (-1))):=by
 obtain⟨n1,n2,n3⟩:=Ca hp hq hr nz;refine Sj (wD hp hq hr) rfl ?_;unfold dM;simp only[iJ,au];generalize aS _=m;rw[<-nT hp hq n1,<-nT hq hr n2,<-nT hr hp n3];exact(zj (l₁:=[jE m r q]) ).trans (List.Perm.trans (va _ _ _) (.refl _))
theorem ag9 (hp:Pw 3 p)(hq:Pw 3 q)(hr:Pw 3 r)(nz:∃x∈bR [p,q,r],x≠0):(dM [p,r,q]).Perm ((dM [p,q,r]).map (sm (-1))):=by
 obtain⟨n1,n2,n3⟩:=Ca hp hq hr nz;refine Sj (lL hp hq hr) rfl ?_;unfold dM;simp only[iJ,au];rw[<-nT hp hq n1,<-nT hq hr n2,<-nT hr hp n3];exact va _ _ _
theorem ahk (hp:Pw 3 p)(hq:Pw 3 q)(hr:Pw 3 r)(nz:∃x∈bR [p,q,r],x≠0):(dM [r,q,p]).Perm ((dM [p,q,r]).map (sm (-1))):=by
 obtain⟨n1,n2,n3⟩:=Ca hp hq hr nz;refine Sj (congrArg uw (C6 hp hq hr nz)) rfl ?_;unfold dM;simp only[iJ,au];rw[<-nT hp hq n1,<-nT hq hr n2,<-nT hr hp n3];exact BA _ (va _ _ _)
theorem G9{κ:Type}{f:BD->List (κ×1#h)}(fa:∀{p q r:BC},Pw 3 p->Pw 3 q->Pw 3 r->(∃x∈bR [p,q,r],x≠0)->(f [q,p,r]).Perm ((f [p,q,r]).map (sm (-1))))(fb:∀{p q r:BC},Pw 3 p->Pw 3 q->Pw 3 r->(∃x∈bR [p,q,r],x≠0)->(f [p,r,q]).Perm ((f [p,q,r]).map (sm (-1))))
  (fc:∀{p q r:BC},Pw 3 p->Pw 3 q->Pw 3 r->(∃x∈bR [p,q,r],x≠0)->(f [r,q,p]).Perm ((f [p,q,r]).map (sm (-1))))(pre l:BD)(x y:BC)(hl:(pre++y::x::l).length=3+1)(hp:∀u∈pre++y::x::l,Pw 3 u)(nz:dU (pre++y::x::l)≠0):
  Rs (λu=>(dE u).flatMap f) (pre++y::x::l) (pre++x::y::l):=by
 have go:∀{A B C D A' B' C' D':List (κ×1#h)},A'.Perm (A.map (sm (-1)))->B'.Perm (B.map (sm (-1)))->C'.Perm (C.map (sm (-1)))->D'.Perm (D.map (sm (-1)))->(A'++(B'++(C'++D'))).Perm ((A++(B++(C++D))).map (sm (-1))):=λa b c d=>by
  simp only[cw];exact a.append (b.append (c.append d))
 have s2:∀{A B C:List (κ×1#h)},(B++(A++C)).Perm (A++(B++C)):=λ{A B C}=>by
  rw[<-jp,<-jp];exact zj.append_right _
 match pre,l,hl with
 |[],[c,d],_=>
  have pa:=hp y 1#d;have pb:=hp x 1#d;have pc:=hp c 1#d;have pd:=hp d 1#d;obtain⟨n1,n2,n3,n4⟩:=vQ pa pb pc pd nz;refine⟨-1,.inr rfl,(Si pa pb pc pd).1,?_⟩;have:=go (fb pb pc pd n1) (fb pa pd pc n2) (fa pa pb pd n3) (fc pa pc pb n4);simp only[dE,jm,zk,jb,iw];exact s2.trans this
 |[a],[d],_=>
  have pa:=hp a 1#d;have pb:=hp y 1#d;have pc:=hp x 1#d;have pd:=hp d 1#d;obtain⟨n1,n2,n3,n4⟩:=vQ pa pb pc pd nz;refine⟨-1,.inr rfl,(Si pa pb pc pd).2.1,?_⟩;have:=go (fa pb pc pd n1) (fb pa pd pc n2) (fb pa pb pd n3) (fb pa pc pb n4);simp only[dE,jm,zk,jb,lg,iw];exact(zl _ s2).trans this
 |[a,b],[],_=>
  have pa:=hp a 1#d;have pb:=hp b 1#d;have pc:=hp y 1#d;have pd:=hp x 1#d;obtain⟨n1,n2,n3,n4⟩:=vQ pa pb pc pd nz;refine⟨-1,.inr rfl,(Si pa pb pc pd).2.2,?_⟩;have:=go (fb pb pc pd n1) (fb pa pd pc n2) (fb pa pb pd n3) (fb pa pc pb n4);simp only[dE,jm,zk,jb,lg,iw];exact(zl _ (zl _ zj)).trans this
 |_::_::_::_,_,hl=>
  simp at hl;omega
theorem swW(pre l:BD)(x y:BC)(hl:(pre++y::x::l).length=3+1)(hp:∀u∈pre++y::x::l,Pw 3 u)(nz:dU (pre++y::x::l)≠0):Rs (λu=>(dE u).flatMap λw=>[eP w]) (pre++y::x::l) (pre++x::y::l):=G9 (λhp hq hr nz=>by rw[afX hp hq hr nz];exact .refl _) (λhp hq hr nz=>by rw[af3 hp hq hr nz];exact .refl _) (λhp hq hr nz=>by rw[C6 hp hq hr nz];exact .refl _) pre l x y hl hp nz
theorem swE(pre l:BD)(x y:BC)(hl:(pre++y::x::l).length=3+1)(hp:∀u∈pre++y::x::l,Pw 3 u)(nz:dU (pre++y::x::l)≠0):Rs eD (pre++y::x::l) (pre++x::y::l):=G9 ahA ag9 ahk _ l x y hl hp nz
theorem lY{v w0 w1 w0' w1' x0 x1 x0' x1' way f:Int}(hv:0<v)(h0:x0'*(v*w0)=(way*v*x0+f*w0)*w0')(h1:x1'*(v*w1)=(way*v*x1+f*w1)*w1'):(w0*w1)*(x1'*w0'-x0'*w1')=way*(w0'*w1')*(x1*w0-x0*w1):=by
 refine zi (df hv) ?_;have e1:v*(w0*w1*(x1'*w0'-x0'*w1'))=w0*w0'*(x1'*(v*w1))-w1*w1'*(x0'*(v*w0)):=by grind
 rw[e1,h0,h1];grind
theorem Wk{a b c d u2 u3 v2 v3 U2 U3 V2 V3 way B B':Int}(hw:way=1\/way=-1)(h2:a*U2=way*c*u2)(h3:a*U3=way*c*u3)(g2:b*V2=way*d*v2)(g3:b*V3=way*d*v3)(hB:B=2*(a*b))(hB':B'=2*(c*d)):B*(U2*V3-U3*V2)=1*B'*(u2*v3-u3*v2):=by
 have ww:way*way=1:=by rcases hw with rfl |rfl<;>decide
 have e:B*(U2*V3-U3*V2)=2*((a*U2)*(b*V3)-(a*U3)*(b*V2)):=by rw[hB];grind
 rw[e,h2,h3,g2,g3,hB'];have e2:2*(way*c*u2*(way*d*v3)-way*c*u3*(way*d*v2))=(way*way)*(2*(c*d)*(u2*v3-u3*v2)):=by grind
 simp_all
theorem H0 {way:Int}{f p:BC}(hway:way=1\/way=-1)(hp:Gu 2 k p)(g:Gu 2 l f):∃v f0 f1 x y w x' y' w',0<v/\p=[x,y,w]/\bJ way f p=[x',y',w']/\f=[f0,f1,v]/\x'*(v*w)=(way*v*x+f0*w)*w'/\y'*(v*w)=(way*v*y+f1*w)*w':=by
 obtain⟨_,xs,w,xs',w',e1,e2,l1,l2,_,_,j⟩:=iF hway hp g;obtain⟨f0,f1,v,rfl,V,_⟩:=g.two'
 obtain⟨x,y,rfl⟩:=len2 l1;obtain⟨x',y',rfl⟩:=len2 l2;exact⟨v,f0,f1,x,y,w,x',y',w',V,e1,e2,rfl,j 0 1#b,j 1 1#b⟩
theorem xH {way:Int}{f p:BC}(hway:way=1\/way=-1)(hp:Gu 3 k p)(g:Gu 3 l f):∃v f0 f1 f2 x y z w x' y' z' w',0<v/\p=[x,y,z,w]/\bJ way f p=[x',y',z',w']/\f=[f0,f1,f2,v]/\x'*(v*w)=(way*v*x+f0*w)*w'/\y'*(v*w)=(way*v*y+f1*w)*w'/\z'*(v*w)=(way*v*z+f2*w)*w':=by
 obtain⟨_,xs,w,xs',w',e1,e2,l1,l2,_,_,j⟩:=iF hway hp g;obtain⟨f0,f1,f2,v,rfl,V,_⟩:=g.three'
 obtain⟨x,y,z,rfl⟩:=len3 l1;obtain⟨x',y',z',rfl⟩:=len3 l2;exact⟨v,f0,f1,f2,x,y,z,w,x',y',z',w',V,e1,e2,rfl,j 0 1#b,j 1 1#b,j 2 1#b⟩
theorem wL {way:Int}{f p:BC}(hway:way=1\/way=-1)(hp:Gu n k p)(g:Gu n l f):Pw n (bJ way f p):=(iF hway hp g).1.pt
theorem sU{n k l:Nat}(hn:n=2\/n=3){way:Int}{f p q:BC}(hway:way=1\/way=-1)(hp:Gu n k p)(hq:Gu n k q)(g:Gu n l f)(nz:∃x∈cX p q,x≠0):cU (bJ way f p) (bJ way f q)=sm way (cU p q):=by
 have b1:=bf (mU hp.pt) (mU hq.pt);have b2:=bf (mU (wL hway hp g)) (mU (wL hway hq g));rw[Iy,Iy];refine tN nz b1 b2 hway ?_;clear nz b1 b2;rcases hn with rfl |rfl
 .obtain⟨v,f0,f1,x,y,w,x',y',w',V,rfl,e,rfl,a1,a2⟩:=H0 hway hp g
  obtain⟨_,_,_,X,Y,U,X',Y',U',_,rfl,e',h,c1,c2⟩:=H0 hway hq g;cases h;rw[e,e'];simp only[mY,mZ,lw,au,da,ow,ox];rw[lY V a1 c1,lY V a2 c2]
 .obtain⟨v,f0,f1,f2,x,y,z,w,x',y',z',w',V,rfl,e,rfl,a1,a2,a3⟩:=xH hway hp g
  obtain⟨_,_,_,_,X,Y,Z,U,X',Y',Z',U',_,rfl,e',h,c1,c2,c3⟩:=xH hway hq g;cases h;rw[e,e'];simp only[mY,mZ,lw,au,da,ow,ox];rw[lY V a1 c1,lY V a2 c2,lY V a3 c3]
theorem vZ{k l:Nat}{way:Int}{f p q r:BC}(hway:way=1\/way=-1)(hp:Gu 3 k p)(hq:Gu 3 k q)(hr:Gu 3 k r)(g:Gu 3 l f)(nz:∃x∈bR [p,q,r],x≠0):eP [bJ way f p,bJ way f q,bJ way f r]=eP [p,q,r]:=by
 have b1:=pH hp.pt hq.pt hr.pt;have b2:=pH (wL hway hp g) (wL hway hq g) (wL hway hr g);have e:eP [bJ way f p,bJ way f q,bJ way f r]=sm 1 (eP [p,q,r]):=by
  rw[oY,oY];refine tN nz b1 b2 (.inl rfl) ?_;clear nz b1 b2;obtain⟨v,f0,f1,f2,x0,y0,z0,w0,x0',y0',z0',w0',V,rfl,e0,rfl,a1,a2,a3⟩:=xH hway hp g;obtain⟨_,_,_,_,x1,y1,z1,w1,x1',y1',z1',w1',_,rfl,e1,h,c1,c2,c3⟩:=xH hway hq g;cases h;obtain⟨_,_,_,_,x2,y2,z2,w2,x2',y2',z2',w2',_,rfl,e2,h,d1,d2,d3⟩:=xH hway hr g;cases h;rw[e0,e1,e2];have p1:=lY V a1 c1;have p2:=lY V a2 c2;have p3:=lY V a3 c3;have q1:=lY V a1 d1;have q2:=lY V a2 d2;have q3:=lY V a3 d3;clear a1 a2 a3 c1 c2 c3 d1 d2 d3 e0 e1 e2;simp only[qX,qV,mY,mZ,rA,lw,au,da,ow,ox];generalize z2'*w0'-z0'*w2'=V3,y2'*w0'-y0'*w2'=V2,x2'*w0'-x0'*w2'=V1,z1'*w0'-z0'*w1'=U3,y1'*w0'-y0'*w1'=U2,x1'*w0'-x0'*w1'=U1 at *;have B:2*w0*w0*w1*w2=2*(w0*w1*(w0*w2)):=by grind
  have B':2*w0'*w0'*w1'*w2'=2*(w0'*w1'*(w0'*w2')):=by grind
  exact l3 (Wk hway p2 p3 q2 q3 B B') (Wk hway p3 p1 q3 q1 B B') (Wk hway p1 p2 q1 q2 B B')
 rw[e];show(_,(1*_,_))=_;rw[gh]
theorem agE{v d d' w w':Int}{way:Int}(hv:0<v)(hway:way=1\/way=-1)(h:d'*(v*v*v*v*w)=way*v*(way*v)*(way*v)*v*d*w'):d'*w=way*(d*w'):=by
 have p:v*v*v*v≠0:=di (di (di 1#a 1#a) 1#a) 1#a;refine zi p ?_;rcases hway with rfl |rfl<;>grind
theorem ae2 (hn:n=2\/n=3)(hk:k<=1000){u:BD}(h:Sx n k u):0<dU u:=by
 have:=Fh hn hk h.len h.gu;rw[h.cn]at this;have:=h.nz;omega
theorem Ox{d d' w w':Int}(h:d'*w=d*w')(hd:0<d)(hw:0<w)(hw':0<w'):0<d':=by
 have:0<d'*w:=by rw[h];exact bf hd hw'
 exact su this hw
theorem Fj{n k l:Nat}(hn:n=2\/n=3)(hk:k<=1000){way:Int}{f:BC}{u:BD}(hway:way=1\/way=-1)(h:Sx n k u)(g:Gu n l f):(n=2->0<dU (u.map (bJ way f)))/\(n=3->0<way*dU (u.map (bJ way f))):=by
 have hv:=g.lastpos;have p1:=qO h.gu;have p2:=qO (oX hway h.gu g);have p0:=ae2 hn hk h;have hl:=h.len;have hg:=h.gu;constructor
 .rintro rfl
  obtain⟨a,b,c,rfl⟩:=len3 hl
  have e:=Ak (iF hway (hg a 1#d) g).2 (iF hway (hg b 1#d) g).2 (iF hway (hg c 1#d) g).2;exact Ox (F9 hv hway e) p0 p1 p2
 .rintro rfl
  obtain⟨a,b,c,d,rfl⟩:=len4 hl
  have e:=Yj (iF hway (hg a 1#d) g).2 (iF hway (hg b 1#d) g).2 (iF hway (hg c 1#d) g).2 (iF hway (hg d 1#d) g).2;have e:=agE hv hway e;refine Ox (d:=dU [a,b,c,d]) (w:=wU [a,b,c,d]) ?_ p0 p1 p2;have e:dU ([a,b,c,d].map (bJ way f))*wU [a,b,c,d]=way*(dU [a,b,c,d]*wU ([a,b,c,d].map (bJ way f))):=e;rw[kj,e,<-kj];have ww:way*way=1:=by rcases hway with rfl |rfl<;>decide
  rw[ww,gh]
theorem Cg{κ:Type}{rows:BD->List (κ×1#h)}{n k l:Nat}(hn:n=2\/n=3)(hk:k+l+1<=1000){way e t:Int}{f:BC}{u:BD}(hway:way=1\/way=-1)(h:Sx n k u)(g:Gu n l f)(sw:∀(pre l:BD)(x y:BC),(pre++y::x::l).length=n+1->(∀u∈pre++y::x::l,Pw n u)->dU (pre++y::x::l)≠0->Rs rows (pre++y::x::l) (pre++x::y::l))
  (hr:rows (u.map (bJ way f))=(rows u).map (sm e))(ht:t=1\/t=-1)(hp:0<t*dU (u.map (bJ way f))):(rows (cV way f u)).Perm ((rows u).map (sm (t*e))):=by
 have hg:=oX hway h.gu g;have hl:(u.map (bJ way f)).length=n+1:=by rw[ak];exact h.len
 have nz:=Ab hn hway h.len h.gu g h.nz;have c:=Fh hn hk hl hg;obtain⟨s,hs,d,p⟩:=acy (n:=n) (Pz:=Pw n) sw (Df (wB hn hl)).symm [] hl (λv hv=>(hg v hv).pt) nz;have d:dU (gU (u.map (bJ way f)))=s*dU (u.map (bJ way f)):=d;have st:s=t:=by
  grind
 subst st;have p:(rows (gU (u.map (bJ way f)))).Perm ((rows (u.map (bJ way f))).map (sm s)):=p;rw[hr,A1]at p;exact p
theorem yK {rows:BD->List (κ×1#h)}{m:BD->BD}{s:Int}:∀(gs:BE),(∀u∈gs,(rows (m u)).Perm ((rows u).map (sm s)))->((gs.map m).flatMap rows).Perm ((gs.flatMap rows).map (sm s))
 |[],_=>.refl _
 |u::gs,h=>by
  rw[au,jm,jm,cw];exact(h u av).append (yK _ λv hv=>h v (bh _ hv))
theorem acK{k l:Nat}(hk:k+l+1<=1000){way:Int}{f:BC}{u:BD}(hway:way=1\/way=-1)(h:Sx 2 k u)(g:Gu 2 l f):(eI (cV way f u)).Perm ((eI u).map (sm way)):=by
 have z:=Cg (rows:=eI) (e:=way) (t:=1) (.inl rfl) hk hway h g sw2 ?_ (.inl rfl) (by rw[gh];exact(Fj (.inl rfl) 1#a hway h g).1 rfl)
 .rw[gh]at z
  exact z
 .obtain⟨a,b,c,rfl⟩:=len3 h.len
  have ga:=h.gu a 1#d;have gb:=h.gu b 1#d;have gc:=h.gu c 1#d;obtain⟨n1,n2,n3⟩:=Ri ga.pt gb.pt gc.pt h.nz;show[cU (bJ way f a) (bJ way f b),cU (bJ way f b) (bJ way f c),cU (bJ way f c) (bJ way f a)]=[sm way (cU a b),sm way (cU b c),sm way (cU c a)];rw[sU (.inl rfl) hway ga gb g n1,sU (.inl rfl) hway gb gc g n2,sU (.inl rfl) hway gc ga g n3]
theorem Nv(u:BD):eE u=(dE u).flatMap λw=>[eP w]:=by
 unfold eE
 induction dE u<;>simp_all
theorem adZ{k l:Nat}(hk:k+l+1<=1000){way:Int}{f:BC}{u:BD}(hway:way=1\/way=-1)(h:Sx 3 k u)(g:Gu 3 l f):(eE (cV way f u)).Perm ((eE u).map (sm way)):=by
 have z:=Cg (e:=1) (t:=way) (.inr rfl) hk hway h g swW ?_ hway ((Fj (.inr rfl) 1#a hway h g).2 rfl)
 .rw[Nv,Nv]
  rw[mj]at z;exact z
 .rw[vM]
  obtain⟨a,b,c,d,rfl⟩:=len4 h.len
  have ga:=h.gu a 1#d;have gb:=h.gu b 1#d;have gc:=h.gu c 1#d;have gd:=h.gu d 1#d;obtain⟨n1,n2,n3,n4⟩:=vQ ga.pt gb.pt gc.pt gd.pt h.nz;show[eP [bJ way f b,bJ way f c,bJ way f d],eP [bJ way f a,bJ way f d,bJ way f c],eP [bJ way f a,bJ way f b,bJ way f d],eP [bJ way f a,bJ way f c,bJ way f b]]=[eP [b,c,d],eP [a,d,c],eP [a,b,d],eP [a,c,b]];rw[vZ hway gb gc gd g n1,vZ hway ga gd gc g n2,vZ hway ga gb gd g n3,vZ hway ga gc gb g n4]
theorem zW {way:Int}{f p q r:BC}(hway:way=1\/way=-1)(hp:Gu 3 k p)(hq:Gu 3 k q)(hr:Gu 3 k r)(g:Gu 3 l f)(nz:∃x∈bR [p,q,r],x≠0):dM [bJ way f p,bJ way f q,bJ way f r]=(dM [p,q,r]).map (sm way):=by
 obtain⟨n1,n2,n3⟩:=Ca hp.pt hq.pt hr.pt nz;have e:aS _=aS _:=congrArg uw (vZ hway hp hq hr g nz);unfold dM;rw[e];simp only[iJ,au,da,jE];rw[sU (.inr rfl) hway hr hp g n3,sU (.inr rfl) hway hp hq g n1,sU (.inr rfl) hway hq hr g n2]
theorem adj{k l:Nat}(hk:k+l+1<=1000){way:Int}{f:BC}{u:BD}(hway:way=1\/way=-1)(h:Sx 3 k u)(g:Gu 3 l f):(eD (cV way f u)).Perm ((eD u).map (sm 1)):=by
 have z:=Cg (rows:=eD) (e:=way) (t:=way) (.inr rfl) hk hway h g swE ?_ hway ((Fj (.inr rfl) 1#a hway h g).2 rfl)
 .have ww:way*way=1:=by rcases hway with rfl |rfl<;>decide
  rw[ww]at z;exact z
 .obtain⟨a,b,c,d,rfl⟩:=len4 h.len
  have ga:=h.gu a 1#d;have gb:=h.gu b 1#d;have gc:=h.gu c 1#d;have gd:=h.gu d 1#d;obtain⟨n1,n2,n3,n4⟩:=vQ ga.pt gb.pt gc.pt gd.pt h.nz;show dM [bJ way f b,bJ way f c,bJ way f d]++(dM [bJ way f a,bJ way f d,bJ way f c]++(dM [bJ way f a,bJ way f b,bJ way f d]++(dM [bJ way f a,bJ way f c,bJ way f b]++[])))=(dM [b,c,d]++(dM [a,d,c]++(dM [a,b,d]++(dM [a,c,b]++[])))).map (sm way);rw[zW hway gb gc gd g n1,zW hway ga gd gc g n2,zW hway ga gb gd g n3,zW hway ga gc gb g n4];simp only[cw,da]
theorem Xe [DecidableEq κ]:∀(R' R:List (κ×β)),(∀r∈R',r.1∈bB R)->bB (R++R')=bB R
 |[],R,_=>by simp_all
 |r::R',R,h=>by
  have e:bB (R++[r])=bB R:=by
   rw[Wf,if_pos (h r av)]
  have:=Xe _ _ λq hq=>by
   rw[e];exact h q (bh _ hq)
  simp_all
def pP:MS:=(aH (bW (gC (fM (aO (bG (eY "tuple") (aA 2)))) (gC (aO (aC eA (mR cE (aB (aA 2) aD)) (mC (.int 2)))) (fM (aO (aJ iL [] (aB (aC aE (aA 2) 1#c) (aB (mC (.int 2)) aD))))))) (aT (mC (.bl false))) cP) (aH (bW (iA (aO (aC kS (aA 1) (mC (.int 6)))) (fM (aO (aJ iL [] (aB (aC aE (aA 2) 1#e) (aB (aA 1) aD)))))) (aT (mC (.bl false))) cP) (bW (aO (aC cY (aA 1) (mC (.int 6)))) (aH (bW (gC (fM (aO (bG (eY "tuple") (aC aE (aA 2) 1#e)))) (aO (aC eA (mR cE (aB (aC aE (aA 2) 1#e) aD)) (mC (.int 2))))) (aT (mC (.bl false))) cP) (bW (gC (fM (aO (aJ iL [] (aB (aC aE (aC aE (aA 2) 1#e) 1#e) (aB (mC (.int 3)) aD))))) (fM (aO (aJ iL [] (aB (aC aE (aC aE (aA 2) 1#e) 1#c) (aB (mC (.int 3)) aD)))))) (aT (mC (.bl false))) cP)) cP)))
theorem wh {n:Nat}(h:ns.length=n)(S:aF):iL [.pv (tv ns),.pv (.int (n:Int))] S=.ok (.pv (.bl true)) S:=by
 rw[<-h];exact Op _ S
theorem Xv{many:Nat}(hm:many=2\/many=3)(S:aF)(x0:BN){r:BC×1#h}(hr:r.1.length=many):pP [x0,some (.pv (.int (many:Int))),some (.pv (bO r))] S=.nx [x0,some (.pv (.int (many:Int))),some (.pv (bO r))] S:=by
 have e1:=wh hr S;have e2:iL [.pv (fv r.2),.pv (.int 2)] S=.ok (.pv (.bl true)) S:=wh (ns:=[r.2.1,r.2.2]) rfl S;have i0:aE (bO r) (.int 0)=some (tv r.1):=jK (j:=0) rfl;have i1:aE (bO r) (.int 1)=some (fv r.2):=jK (j:=1) rfl;have l2:cE [bO r]=some (.int 2):=rfl;have it:eY "tuple" (bO r)=some (.bl true):=rfl;have h6:(many:Int)<6:=by omega
 have n6:((many:Int)==6)=false:=by simp;omega
 unfold pP;simp! [-cE,it,l2,i0,i1,e1,e2,h6,n6]
theorem abI(S:aF)(x0:BN){r:BD×1#h}(hr:∃a b,r.1=[a,b]/\a.length=3/\b.length=3):pP [x0,some (.pv (.int 6)),some (.pv (bH r))] S=.nx [x0,some (.pv (.int 6)),some (.pv (bH r))] S:=by
 obtain⟨k,v⟩:=r;obtain⟨a,b,e,ha,hb⟩:=hr;have e:k=[a,b]:=e;subst e;have e1:iL [.pv (tv a),.pv (.int 3)] S=.ok (.pv (.bl true)) S:=wh ha S;have e3:iL [.pv (tv b),.pv (.int 3)] S=.ok (.pv (.bl true)) S:=wh hb S;have e2:iL [.pv (fv v),.pv (.int 2)] S=.ok (.pv (.bl true)) S:=wh (ns:=[v.1,v.2]) rfl S;have i0:aE (bH ([a,b],v)) (.int 0)=some (kE [a,b]):=jK (j:=0) rfl;have i1:aE (bH ([a,b],v)) (.int 1)=some (fv v):=jK (j:=1) rfl;have j0:aE (kE [a,b]) (.int 0)=some (tv a):=jK (j:=0) rfl;have j1:aE (kE [a,b]) (.int 1)=some (tv b):=jK (j:=1) rfl;have l2:cE [bH ([a,b],v)]=some (.int 2):=rfl;have l3:cE [kE [a,b]]=some (.int 2):=rfl;have it:eY "tuple" (bH ([a,b],v))=some (.bl true):=rfl;have iu:eY "tuple" (kE [a,b])=some (.bl true):=rfl;unfold pP;simp! [-cE,it,iu,l2,l3,i0,i1,j0,j1,e1,e2,e3]
theorem Gx{α:Type}{f:α->PV}{M:PV}(S:aF)(x0:BN):∀(L:List α)(x2:BN),(∀r∈L,pP [x0,some (.pv M),some (.pv (f r))] S=.nx [x0,some (.pv M),some (.pv (f r))] S)->∃y2,dH [] (gN 2) pP (L.map f) [x0,some (.pv M),x2] S=.nx [x0,some (.pv M),y2] S
 |[],x2,_=>⟨x2,gK⟩
 |r::L,x2,h=>by
  obtain⟨y2,ih⟩:=Gx S _ L (some (.pv (f r))) λq hq=>h q (bh _ hq);have e:=h r av;refine⟨y2,?_⟩;rw[au,eW];simp only[gN]
  simp_all
theorem Ij{α:Type}{f:α->PV}{M:PV}(S:aF){L:List α}(h:∀x0,∀r∈L,pP [x0,some (.pv M),some (.pv (f r))] S=.nx [x0,some (.pv M),some (.pv (f r))] S):rN [.pv (.tup (L.map f)),.pv M] S=.ok (.pv (.bl true)) S:=by
 obtain⟨y2,e⟩:=Gx S (some (.pv (.tup (L.map f)))) L none (h _);generalize L.map f=RL at *;have tF:(cB (aX (aA 0)) (gN 2) pP) [some (.pv (.tup RL)),some (.pv M),none] S=.nx [some (.pv (.tup RL)),some (.pv M),y2] S:=by
  simp! [cB,aX,bT,e]
 refine pB (v:=.pv (.bl true)) (S':=S) rfl ?_ (by simp[jB]);apply sq;simp! [eY];exact⟨rfl,rfl⟩;refine sq tF ?_;simp! [bF]
def jW:MS:=(dC (aJ mF [] (aB (aA 2) (aB (aA 3) (aB (aA 4) aD)))))
theorem aex (A:SO){R:List (BC×1#h)}(h64:(bB R).length<64)(ne:[]∉bB R)(h:∀r∈R,Fq k r.2):uF [.ref 1] [A,.dic false (bU tv R)]=.ok (.pv (.tup ((bI HT.lexLt R).map bO))) [A,.dic false (bU tv R)]:=vY (adq A h64 ne h)
theorem Dx{K:Nat}(hK:1+1*(K+1)+K+1<=7000)(A:SO)(x0 x1:BN):∀(L R:List (BC×1#h))(x3 x4:BN),(R++L).length<90000->(∀r∈R++L,Fq K r.2)->(∀j,(aK (R++L) j).length<=2)->∃y3 y4,dH [] (gT 2 (aZ (gN 3) (aZ (gN 4) cJ))) jW (L.map bO) [x0,x1,some (.ref 1),x3,x4] [A,.dic false (bU tv R)]=.nx [x0,x1,some (.ref 1),y3,y4] [A,.dic false (bU tv (R++L))]
 |[],R,x3,x4,_,_,_=>⟨x3,x4,by rw[jb];exact gK⟩
 |r::L,R,x3,x4,hl,h,hm=>by
  have ea:R++r::L=(R++[r])++L:=by simp
  rw[ea]at hl h hm⊢;obtain⟨y3,y4,ih⟩:=Dx hK A x0 x1 L (R++[r]) (some (.pv (tv r.1))) (some (.pv (fv r.2))) hl h hm;have h1:(aK R r.1).length<=1:=by
   have:=hm r.1;rw[oU,oU,ax,ax]at this;have e:aK [r] r.1=[r.2]:=by unfold aK;simp
   rw[e,nh]at this;omega
  have e:=aev (l:=1) (k:=K) A (R:=R) (by simp at hl;omega) (λq hq=>h q (by simp[hq])) h1 (h r 1#d) hK;refine⟨y3,y4,?_⟩;rw[au,eW];have er:(r.1,r.2)=r:=rfl;rw[er]at e;generalize bU tv ((R++[r])++L)=D2,bU tv R=D0,bU tv (R++[r])=D1 at *;have g:(gT 2 (aZ (gN 3) (aZ (gN 4) cJ))) (bO r) [x0,x1,some (.ref 1),x3,x4]=some [x0,x1,some (.ref 1),some (.pv (tv r.1)),some (.pv (fv r.2))]:=by simp[gT,aZ,cJ,gN]
  rw[g];generalize fv r.2=F1,tv r.1=T1 at *;have s:jW [x0,x1,some (.ref 1),some (.pv T1),some (.pv F1)] [A,.dic false D0]=.nx [x0,x1,some (.ref 1),some (.pv T1),some (.pv F1)] [A,.dic false D1]:=by
   unfold jW;simp! [e]
  simp[s,ih]
theorem Fy{K:Nat}(hK:1+1*(K+1)+K+1<=7000)(A:SO){L M:List (BC×1#h)}(hl:(L++M).length<60000)(h:∀r∈L++M,Fq K r.2)(hm:∀j,(aK (L++M) j).length<=2)(h64:(bB (L++M)).length<64)(ne:[]∉bB (L++M)):L1 [.pv (.tup (L.map bO)),.pv (.tup (M.map bO))] [A]=.ok (.pv (.tup ((bI HT.lexLt (L++M)).map bO))) [A]:=by
 obtain⟨y3,y4,e1⟩:=Dx hK A (some (.pv (.tup (L.map bO)))) (some (.pv (.tup (M.map bO)))) (L++M) [] none none (by simpa using(show(L++M).length<90000 by omega)) (by simpa using h) (by simpa using hm);rw[cw]at e1;have e1:dH [] _ jW (L.map bO++M.map bO) _ [A,.dic false []]=.nx _ [A,.dic false (bU tv (L++M))]:=e1;have e2:=aex A h64 ne h;have lz:(L.map bO).length+(M.map bO).length<=16777216:=by
  rw[ak,ak];rw[ax]at hl;omega
 generalize M.map bO=ML,L.map bO=LL,bU tv (L++M)=D1,(bI HT.lexLt (L++M)).map bO=TL at *;have tF:(cB (aX (aC bF (mR gM (aB (aA 0) aD)) (mR gM (aB (aA 1) aD)))) (gT 2 (aZ (gN 3) (aZ (gN 4) cJ))) jW) [some (.pv (.tup LL)),some (.pv (.tup ML)),some (.ref 1),none,none] [A,.dic false []]=.nx [some (.pv (.tup LL)),some (.pv (.tup ML)),some (.ref 1),y3,y4] [A,.dic false D1]:=by
  simp! [cB,aX,bT,gM,lz,e1]
 refine pB (v:=.pv (.tup TL)) (S':=[A,.dic false D1]) rfl ?_ (by simp[jB]);apply sq;simp! [gW,pD];exact⟨rfl,rfl⟩;refine sq tF ?_;simp! [e2]
theorem aeM{k:Nat}(A:SO){R:List (BD×1#h)}(h64:(bB R).length<64)(ne:[]∉bB R)(h:∀r∈R,Fq k r.2):uF [.ref 1] [A,.dic true (bU kE R)]=.ok (.pv (.tup ((bI cT R).map bH))) [A,.dic true (bU kE R)]:=by
 have e:=abl A h64 ne h;cases z:bB R with
 |nil=>
  have ed:bU kE R=[]:=by unfold bU;rw[z];rfl
  have et:bI cT R=[]:=by unfold bI;rw[z];rfl
  rw[ed,et];have e2:jA []=some (.lst []):=Nf (ks:=[]) 1#b kn (nomatch ·);refine vY ?_;unfold aI rJ;simp! [gZ,cC,aX,mS,pF,sQ,e2,bT,mE]
 |cons k ks=>
  refine(Qh ?_).trans e;have nk:k≠[]:=λw=>ne (by rw[z,w];exact av);have e1:jA ((bU kE R).map (·.1))=none:=by
   have:(bU kE R).map (·.1)=(bB R).map kE:=by
    unfold bU;rw[cj];rfl
   rw[this,z,au];cases k with
   |nil=>exact absurd rfl nk
   |cons a k=>
    have:iV (kE (a::k)::ks.map kE)=none:=rfl;unfold jA;rw[this]
  unfold rJ;generalize bU kE R=D0 at *;simp! [gW,gZ,cC,aX,mS,pF,sQ,e1]
theorem Ss{K:Nat}(hK:1+1*(K+1)+K+1<=7000)(A:SO)(x0 x1:BN):∀(L R:List (BD×1#h))(x3 x4:BN),(R++L).length<90000->(∀r∈R++L,Fq K r.2)->(∀j,(aK (R++L) j).length<=2)->∃y3 y4,dH [] (gT 2 (aZ (gN 3) (aZ (gN 4) cJ))) jW (L.map bH) [x0,x1,some (.ref 1),x3,x4] [A,.dic true (bU kE R)]=.nx [x0,x1,some (.ref 1),y3,y4] [A,.dic true (bU kE (R++L))]
 |[],R,x3,x4,_,_,_=>⟨x3,x4,by rw[jb];exact gK⟩
 |r::L,R,x3,x4,hl,h,hm=>by
  have ea:R++r::L=(R++[r])++L:=by simp
  rw[ea]at hl h hm⊢;obtain⟨y3,y4,ih⟩:=Ss hK A x0 x1 L (R++[r]) (some (.pv (kE r.1))) (some (.pv (fv r.2))) hl h hm;have h1:(aK R r.1).length<=1:=by
   have:=hm r.1;rw[oU,oU,ax,ax]at this;have e:aK [r] r.1=[r.2]:=by unfold aK;simp
   rw[e,nh]at this;omega
  have e:=adL (l:=1) (k:=K) A (R:=R) (by simp at hl;omega) (λq hq=>h q (by simp[hq])) h1 (h r 1#d) hK;refine⟨y3,y4,?_⟩;rw[au,eW];have er:(r.1,r.2)=r:=rfl;rw[er]at e;generalize bU kE ((R++[r])++L)=D2,bU kE R=D0,bU kE (R++[r])=D1 at *;have g:(gT 2 (aZ (gN 3) (aZ (gN 4) cJ))) (bH r) [x0,x1,some (.ref 1),x3,x4]=some [x0,x1,some (.ref 1),some (.pv (kE r.1)),some (.pv (fv r.2))]:=by simp[gT,aZ,cJ,gN]
  rw[g];generalize fv r.2=F1,kE r.1=T1 at *;have s:jW [x0,x1,some (.ref 1),some (.pv T1),some (.pv F1)] [A,.dic true D0]=.nx [x0,x1,some (.ref 1),some (.pv T1),some (.pv F1)] [A,.dic true D1]:=by
   unfold jW;simp! [e]
  simp[s,ih]
theorem ady (hK:1+1*(K+1)+K+1<=7000)(A:SO){L M:List (BD×1#h)}(hl:(L++M).length<60000)(h:∀r∈L++M,Fq K r.2)(hm:∀j,(aK (L++M) j).length<=2)(h64:(bB (L++M)).length<64)(ne:[]∉bB (L++M)):L5 [.pv (.tup (L.map bH)),.pv (.tup (M.map bH))] [A]=.ok (.pv (.tup ((bI cT (L++M)).map bH))) [A]:=by
 obtain⟨y3,y4,e1⟩:=Ss hK A (some (.pv (.tup (L.map bH)))) (some (.pv (.tup (M.map bH)))) (L++M) [] none none (by simpa using(show(L++M).length<90000 by omega)) (by simpa using h) (by simpa using hm);rw[iw,cw]at e1;have e1:dH [] _ jW (L.map bH++M.map bH) _ [A,.dic true []]=.nx _ _:=e1;have e2:=aeM A h64 ne h;have lz:(L.map bH).length+(M.map bH).length<=16777216:=by
  grind
 generalize M.map bH=ML,L.map bH=LL,bU kE (L++M)=D1,(bI cT (L++M)).map bH=TL at *;have tF:(cB (aX (aC bF (mR gM (aB (aA 0) aD)) (mR gM (aB (aA 1) aD)))) (gT 2 (aZ (gN 3) (aZ (gN 4) cJ))) jW) [some (.pv (.tup LL)),some (.pv (.tup ML)),some (.ref 1),none,none] [A,.dic true []]=.nx [some (.pv (.tup LL)),some (.pv (.tup ML)),some (.ref 1),y3,y4] [A,.dic true D1]:=by
  simp! [cB,aX,bT,gM,lz,e1]
 refine pB (v:=.pv (.tup TL)) (S':=[A,.dic true D1]) rfl ?_ (by simp[jB]);apply sq;simp! [gW,pD];exact⟨rfl,rfl⟩;refine sq tF ?_;simp! [e2]
theorem B8 (hK:1+1*(K+1)+K+1<=7000)(A:SO){L M:List (BC×1#h)}(hl:(L++M).length<60000)(h:∀r∈L++M,Fq K r.2)(hm:∀j,(aK (L++M) j).length<=2)(h64:(bB (L++M)).length<64)(ne:[]∉bB (L++M)):rK [.pv (.tup (L.map bO)),.pv (.tup (M.map bO))] [A]=.ok (.pv (.tup ((bI HT.lexLt (L++M)).map bO))) [A]:=vY (Fy hK A hl h hm h64 ne)
theorem afH (nk:k≠[])(A:SO)(u:Int×Int):mF [.ref 1,.pv (kE k),.pv (fv u)] [A,.dic false []]=.fail:=by
 have z:=Ru nk;unfold mF aI uI;simp! [tJ,tH,kI,z,tE]
theorem agP{K:Nat}(hK:1+1*(K+1)+K+1<=7000)(A:SO){L M:List (BD×1#h)}(hl:(L++M).length<60000)(h:∀r∈L++M,Fq K r.2)(hm:∀j,(aK (L++M) j).length<=2)(h64:(bB (L++M)).length<64)(ne:[]∉bB (L++M)):rK [.pv (.tup (L.map bH)),.pv (.tup (M.map bH))] [A]=.ok (.pv (.tup ((bI cT (L++M)).map bH))) [A]:=by
 have e:=ady hK A hl h hm h64 ne;cases z:L++M with
 |nil=>
  obtain⟨rfl,rfl⟩:=List.append_eq_nil_iff.mp z;exact vY (Fy (K:=0) (L:=[]) (M:=[]) 1#b A 1#b (λ_ h=>nomatch h) (λ_=>dq _) 1#b (nomatch ·))
 |cons r Q=>
  rw[<-z];refine(Qh ?_).trans e;have nk:r.1≠[]:=λw=>ne (((fT _).2 _).mpr ⟨r,by rw[z];exact av,w⟩);have p:=afH nk A r.2;have lz:(L.map bH).length+(M.map bH).length<=16777216:=by
   grind
  have ez:L.map bH++M.map bH=bH r::Q.map bH:=by rw[<-cw,z,au]
  clear e z h hm h64 ne hl;have hb:xJ=(aH (aP 2 (pD false)) (aH (cB _ (gT 2 (aZ (gN 3) (aZ (gN 4) cJ))) jW) _)):=rfl;rw[hb];have lp:dH [] (gT 2 (aZ (gN 3) (aZ (gN 4) cJ))) jW (bH r::Q.map bH) [some (.pv (.tup (L.map bH))),some (.pv (.tup (M.map bH))),some (.ref 1),none,none] [A,.dic false []]=.fail:=by
   generalize Q.map bH=QL,M.map bH=ML,L.map bH=LL at *;rw[eW];have g:(gT 2 (aZ (gN 3) (aZ (gN 4) cJ))) (bH r) [some (.pv (.tup LL)),some (.pv (.tup ML)),some (.ref 1),none,none]=some [some (.pv (.tup LL)),some (.pv (.tup ML)),some (.ref 1),some (.pv (kE r.1)),some (.pv (fv r.2))]:=by simp[gT,aZ,cJ,gN]
   rw[g];unfold jW;simp! [p]
  rw[<-ez]at lp;generalize jW=AB,M.map bH=ML,L.map bH=LL at *;simp! [aH,gW,pD,cB,aX,bT,gM,lz,lp]
theorem sH (hn:n=2\/n=3){p q:BC}(hp:Pw n p)(hq:Pw n q):(cX p q).length=n:=by
 rcases hn with rfl |rfl
 .obtain⟨x0,y0,w0,rfl,_⟩:=hp.two
  obtain⟨x1,y1,w1,rfl,_⟩:=hq.two;rfl
 .obtain⟨x0,y0,z0,w0,rfl,_⟩:=hp.three
  obtain⟨x1,y1,z1,w1,rfl,_⟩:=hq.three;rfl
theorem Mv (hp:Pw 3 p)(hq:Pw 3 q)(hr:Pw 3 r):(bR [p,q,r]).length=3:=by
 obtain⟨x0,y0,z0,w0,rfl,_⟩:=hp.three;obtain⟨x1,y1,z1,w1,rfl,_⟩:=hq.three;obtain⟨x2,y2,z2,w2,rfl,_⟩:=hr.three;rfl
theorem aaD {u:BD}(h:Sx 2 k u):∀r∈eI u,r.1.length=2:=by
 obtain⟨a,b,c,rfl⟩:=len3 h.len
 have pa:=(h.gu a 1#d).pt;have pb:=(h.gu b 1#d).pt;have pc:=(h.gu c 1#d).pt;intro r hr;have hr:=by simpa[eI]using hr
 rcases hr with rfl |rfl |rfl
 .exact(kU _).trans (sH (.inl rfl) pa pb)
 .exact(kU _).trans (sH (.inl rfl) pb pc)
 .exact(kU _).trans (sH (.inl rfl) pc pa)
theorem Fu {u:BD}(h:Sx 3 k u):∀w∈dE u,∃p q r,w=[p,q,r]/\Pw 3 p/\Pw 3 q/\Pw 3 r:=by
 obtain⟨a,b,c,d,rfl⟩:=len4 h.len
 have pa:=(h.gu a 1#d).pt;have pb:=(h.gu b 1#d).pt;have pc:=(h.gu c 1#d).pt;have pd:=(h.gu d 1#d).pt;intro w hw;have hw:=by simpa[dE]using hw
 rcases hw with rfl |rfl |rfl |rfl
 .exact⟨_,_,_,rfl,pb,pc,pd⟩
 .exact⟨_,_,_,rfl,pa,pd,pc⟩
 .exact⟨_,_,_,rfl,pa,pb,pd⟩
 .exact⟨_,_,_,rfl,pa,pc,pb⟩
theorem aa0 (h:Sx 3 k u):∀r∈eE u,r.1.length=3:=λr hr=>by
 obtain⟨w,hw,rfl⟩:=ca.mp hr;obtain⟨p,q,s,rfl,hp,hq,hs⟩:=Fu h w hw;exact(kU _).trans (Mv hp hq hs)
theorem abb {u:BD}(h:Sx 3 k u):∀r∈eD u,∃a b,r.1=[a,b]/\a.length=3/\b.length=3:=λr hr=>by
 obtain⟨w,hw,hr⟩:=ni.mp hr;obtain⟨p,q,s,rfl,hp,hq,hs⟩:=Fu h w hw;have hr:=by simpa[dM,iJ]using hr
 have l:=(kU _).trans (Mv hp hq hs);rcases hr with rfl |rfl |rfl
 .exact⟨_,_,rfl,l,(kU _).trans (sH (.inr rfl) hs hp)⟩
 .exact⟨_,_,rfl,l,(kU _).trans (sH (.inr rfl) hp hq)⟩
 .exact⟨_,_,rfl,l,(kU _).trans (sH (.inr rfl) hq hs)⟩
theorem uS [DecidableEq κ]{lt:κ->κ->Bool}{R:List (κ×1#h)}{P:κ->Prop}(h:∀r∈R,P r.1):∀x∈bI lt R,P x.1:=λx hx=>by
 obtain⟨r,hr,e⟩:=((fT R).2 _).mp (Cu hx).1;rw[<-e];exact h r hr
theorem Dw(S:aF)(L:List (BC×1#h)):oE [.pv (.tup (L.map bO))] S=.ok (.pv (.tup ((L.map (sm (-1))).map bO))) S:=by
 have ec:cH [] (gT 2 (aZ (gN 0) (aZ (gN 1) cJ))) (mN eF (aB (aA 0) (aB (mN eF (aB (aC dY 1#e (aC aE (aA 1) 1#e)) (aB (aC aE (aA 1) 1#c) aD))) aD))) (L.map bO) [none,none] S=.ok (L.map λx=>bO (sm (-1) x)) S:=by
  refine yH (λx=>tv x.1) _ _ L none none λx hx=>?_;have e:dY (.int 0) (.int x.2.1)=some (.int (-1*x.2.1)):=by
   rw[Ig];congr 2;omega
  show _=bQ.ok (AV.pv (.tup _)) S;have i0:aE (fv x.2) (.int 0)=some (.int x.2.1):=jK rfl;have i1:aE (fv x.2) (.int 1)=some (.int x.2.2):=jK rfl;simp! [-bF,i0,i1,e]
 rw[cj];show _=bQ.ok (AV.pv (.tup (L.map λx=>bO (sm (-1) x)))) S;unfold oE aI Fc;simp! [-bF,bA,cC,aX,bT,ec]
theorem Ci{k:Nat}(hk:k<=400)(S:aF)(at_:Int){gs:BE}(h:∀u∈gs,Sx 2 k u)(hl:gs.length<=8):iU [.pv (.tup (gs.map px)),.pv (.int 2),.pv (.int at_)] S=.ok (.pv (.tup ((bI HT.lexLt (gs.flatMap eI)).map bO))) S:=by
 have e1:=P9 (k:=k) 1#a S (.inr rfl) (λu hu=>vT 1#a (h u hu)) hl;have e2:rN [.pv (.tup ((bI HT.lexLt (gs.flatMap eI)).map bO)),.pv (.int 2)] S=.ok (.pv (.bl true)) S:=Ij S λx0 r hr=>Xv (many:=2) (.inl rfl) S x0 (uS (P:=λx=>x.length=2) (λq hq=>by
  obtain⟨u,hu,hq⟩:=ni.mp hq;exact aaD (h u hu) q hq) r hr)
 unfold iU aI uQ;simp! [e1,e2]
theorem Yh (hk:k<=400)(hK:8*(K+1)<=7000)(S:aF){gs:BE}(h:∀u∈gs,Sx 3 k u)(hq:∀r∈gs.flatMap eE,Fq K r.2)(hl:gs.length<=8):iU [.pv (.tup (gs.map px)),.pv (.int 3),.pv (.int 0)] S=.ok (.pv (.tup ((bI HT.lexLt (gs.flatMap eE)).map bO))) S:=by
 have e1:=O1 (k:=k) hK S hq (.inr rfl) (λu hu=>uW hk (h u hu)) hl;have e2:rN [.pv (.tup ((bI HT.lexLt (gs.flatMap eE)).map bO)),.pv (.int 3)] S=.ok (.pv (.bl true)) S:=Ij S λx0 r hr=>Xv (.inr rfl) S x0 (uS (P:=λx=>x.length=3) (λq hq=>by
  obtain⟨u,hu,hq⟩:=ni.mp hq;exact aa0 (h u hu) q hq) r hr)
 unfold iU aI uQ;simp! [e1,e2]
theorem Yg{k:Nat}(hk:k<=400)(S:aF){gs:BE}(h:∀u∈gs,Sx 3 k u)(hl:gs.length<=8)(h64:(bB (gs.flatMap eD)).length<64):iU [.pv (.tup (gs.map px)),.pv (.int 3),.pv (.int 1)] S=.ok (.pv (.tup ((bI cT (gs.flatMap eD)).map bH))) S:=by
 have e1:=O6 (k:=k) 1#a S (.inr rfl) (λu hu=>vR hk (h u hu)) hl h64;have e2:rN [.pv (.tup ((bI cT (gs.flatMap eD)).map bH)),.pv (.int 6)] S=.ok (.pv (.bl true)) S:=Ij S λx0 r hr=>abI S x0 (uS (P:=λx=>∃a b,x=[a,b]/\a.length=3/\b.length=3) (λq hq=>by
  obtain⟨u,hu,hq⟩:=ni.mp hq;exact abb (h u hu) q hq) r hr)
 unfold iU aI uQ;simp! [e1,e2]
structure Bt{κ:Type}[DecidableEq κ](lt:κ->κ->Bool)(s:Int)(R R':List (κ×1#h)):Prop where
 mv:bI lt R'=(bI lt R).map (sm s)
 bo:bI lt (R++R')=bI lt (bI lt R++bI lt R')
 ky:bB (R++R')=bB R
theorem Pj [DecidableEq κ]{lt:κ->κ->Bool}(O:lU lt){K:Nat}{s:Int}(hs:s=1\/s=-1){R R':List (κ×1#h)}(p:R'.Perm (R.map (sm s)))(h:∀r∈R,Fq K r.2):Bt lt s R R'/\∀r∈R',Fq K r.2:=by
 have hm:∀r∈R.map (sm s),Fq K _:=λr hr=>by
  obtain⟨q,hq,rfl⟩:=ca.mp hr;exact Wi hs (h q hq)
 have h':=λr hr=>hm r (p.subset hr);refine⟨⟨?_,(aan O h h').symm,Xe _ _ λr hr=>?_⟩,h'⟩
 .rw[aam O p hm,adH hs h]
 .obtain⟨q,hq,rfl⟩:=ca.mp (p.subset hr)
  exact((fT R).2 _).mpr ⟨q,hq,rfl⟩
structure Ad{κ:Type}[DecidableEq κ](K:Nat)(L:List (κ×1#h)):Prop where
 fq:∀r∈L,Fq K r.2
 two:∀j,(aK L j).length<=2
theorem Oj [DecidableEq κ]{lt:κ->κ->Bool}{K m:Nat}{R R':List (κ×1#h)}(h:∀r∈R,Fq K r.2)(h':∀r∈R',Fq K r.2)(hm:∀j,(aK R j).length<=m)(hm':∀j,(aK R' j).length<=m):Ad (1+m*(K+1)) (bI lt R++bI lt R'):=by
 have f:∀{Q:List _},(∀r∈Q,Fq K _)->(∀j,(aK Q j).length<=m)->∀r∈bI lt Q,Fq _ r.2:=λ{Q} h hm r hr=>by
  rw[(Cu hr).2];have c:=(iG (aK Q r.1) λu hu=>by
   obtain⟨q,hq,rfl⟩:=ca.mp hu;exact h q (iy.mp hq).1).1
  exact c.mono (Nat.add_le_add_left (ot _ (hm _)) _)
 have o:∀Q j,(aK (bI lt Q) j).length<=1:=λQ j=>by
  rw[Es];split<;>simp
 refine⟨λr hr=>(ce.mp hr).elim (f h hm r) (f h' hm' r),λj=>?_⟩;rw[oU,ax];grind
theorem Ze [DecidableEq κ]{lt:κ->κ->Bool}{R R':List (κ×1#h)}{P:κ->Prop}(h:∀r∈R,P r.1)(h':∀r∈R',P r.1):∀j∈bB (bI lt R++bI lt R'),P j:=λj hj=>by
 obtain⟨r,hr,rfl⟩:=((fT _).2 _).mp hj;exact(ce.mp hr).elim (uS h r) (uS h' r)
theorem sD [DecidableEq κ](lt:κ->κ->Bool)(R:List (κ×1#h)):(bI lt R).length<=R.length:=by
 refine fx (qz _ _) ?_;rw[ak,(jJ _).length_eq];exact kW R
def oB:MS:=(aH (aP 7 (aJ iU [] (aB (aA 3) (aB (aA 2) (aB (aA 6) aD))))) (aH (aP 8 (aJ iU [] (aB (aA 5) (aB (aA 2) (aB (aA 6) aD))))) (aH (aP 9 (aJ iU [] (aB (aC sZ (aA 3) (aA 5)) (aB (aA 2) (aB (aA 6) aD))))) (aH (bW (gC (aO (bG lP (aA 7))) (gC (aO (bG lP (aA 8))) (aO (bG lP (aA 9))))) (aT (mC (.bl false))) cP) (aH (aP 10 (aA 7)) (aH (bW (iA (aO (aC cY (aA 4) (bG cF 1#c))) (aO (aC cY (aA 6) 1#e))) (aP 10 (aJ oE [] (aB (aA 7) aD))) cP) (bW (gC (aO (aC eA (aA 8) (aA 10))) (aO (aC eA (aA 9) (aJ rK [] (aB (aA 7) (aB (aA 8) aD)))))) (aT (mC (.bl false))) cP)))))))
theorem agn(ns:BC){hs:BE}(hw:∀xss∈hs,Rw 2 xss)(h9:hs.length<=4):∃(gs:BE)(ns':BC),lZ [.ref 0,.pv (.lst (hs.map cK))] [.lst (li ns)]=.ok (.pv (.lst (gs.map px))) [.lst (li ns')]/\gs.length<=4/\∀u∈gs,Sx 2 201 u:=by
 cases hs with
 |nil=>
  refine⟨[],ns,?_,by decide,λ_ h=>(nomatch h)⟩;unfold lZ aI rO;dsimp! [-cE,cE.eq_1]
 |cons x hs=>
  obtain⟨fs,n2,e2,l2,r2⟩:=Oo (n:=2) (.inl rfl) ns;obtain⟨gs,n3,e3,l3,r3⟩:=Lu (n:=2) (.inl rfl) n2 l2 r2 hw 1#a;have i0:aE (.lst ((x::hs).map cK)) (.int 0)=some (cK x):=jK (j:=0) rfl;have el:cE [cK x]=some (.int 3):=by
   show some (PV.int (((x.map lv).length:Nat):Int))=_;rw[ak,(hw x av).len];rfl
  have c2:((2:Nat):Int)=2:=rfl;rw[c2]at e2;have ez:(((((x::hs).map cK).length:Nat):Int)==0)=false:=by simp;omega
  refine⟨gs,n3,?_,by omega,r3⟩;unfold lZ aI rO;generalize gs.map px=GL,fs.map fv=FL,(x::hs).map cK=HL,cK x=X1 at *;simp! [-cE,cE.eq_1,ez,i0,el,e2,e3]
theorem agy(ns:BC){hs:BE}(hw:∀xss∈hs,Rw 3 xss)(h9:hs.length<=4):∃(gs:BE)(ns':BC),lZ [.ref 0,.pv (.lst (hs.map cK))] [.lst (li ns)]=.ok (.pv (.lst (gs.map px))) [.lst (li ns')]/\gs.length<=4/\∀u∈gs,Sx 3 201 u:=by
 cases hs with
 |nil=>
  refine⟨[],ns,?_,by decide,λ_ h=>(nomatch h)⟩;unfold lZ aI rO;dsimp! [-cE,cE.eq_1]
 |cons x hs=>
  obtain⟨fs,n2,e2,l2,r2⟩:=Oo (n:=3) (.inr rfl) ns;obtain⟨gs,n3,e3,l3,r3⟩:=Lu (n:=3) (.inr rfl) n2 l2 r2 hw 1#a;have i0:aE (.lst ((x::hs).map cK)) (.int 0)=some (cK x):=jK (j:=0) rfl;have el:cE [cK x]=some (.int 4):=by
   show some (PV.int (((x.map lv).length:Nat):Int))=_;rw[ak,(hw x av).len];rfl
  have c2:((3:Nat):Int)=3:=rfl;rw[c2]at e2;have ez:(((((x::hs).map cK).length:Nat):Int)==0)=false:=by simp;omega
  refine⟨gs,n3,?_,by omega,r3⟩;unfold lZ aI rO;generalize gs.map px=GL,fs.map fv=FL,(x::hs).map cK=HL,cK x=X1 at *;simp! [-cE,cE.eq_1,ez,i0,el,e2,e3]
theorem abP {ns:BC}{L:BK}(h:fI S k ns):∃(A:PV)(ns':BC),pU [.ref k,.pv (.tup L)] S=.ok (.pv A) (S.set k (.lst (ns'.map .int)))/\Sv A L:=by
 obtain⟨t,n1,e1,t0,t1,_⟩:=jL (m:=2) h 1#b (lE 1#b 1#b);have tk:=Bs S k (.lst (n1.map .int));generalize hS:S.set k (.lst (n1.map .int))=S1 at e1 tk
 by_cases ht:t=1
 .subst ht
  refine⟨.tup L,n1,?_,.inr rfl⟩;rw[hS];unfold pU aI yE;dsimp! [e1,tk]
 .refine⟨.lst L,n1,?_,.inl rfl⟩
  rw[hS];unfold pU aI yE;dsimp! [e1,tk,ht]
theorem yZ(L:List (BC×1#h)):bC 8 (.tup (L.map bO)) (.tup (L.map bO))=some true:=oO λv hv=>by
 obtain⟨r,_,rfl⟩:=ca.mp hv;refine oO λv hv=>?_;have i:∀m u,bC (m+2) (tv u) _=some _:=λm u=>oO λv hv=>by
  obtain⟨i,_,rfl⟩:=ca.mp hv;unfold bC;simp
 rcases br.mp hv with rfl |hv
 .exact i 4 _
 .rcases br.mp hv with rfl |hv
  .exact i 4 [r.2.1,r.2.2]
  simp_all
theorem Gq(L:List (BD×1#h)):bC 8 (.tup (L.map bH)) (.tup (L.map bH))=some true:=oO λv hv=>by
 obtain⟨r,_,rfl⟩:=ca.mp hv;refine oO λv hv=>?_;have i:∀m u,bC (m+2) (tv u) _=some _:=λm u=>oO λv hv=>by
  obtain⟨i,_,rfl⟩:=ca.mp hv;unfold bC;simp
 rcases br.mp hv with rfl |hv
 .exact oO λv hv=>by
   obtain⟨u,_,rfl⟩:=ca.mp hv;exact i 3 u
 .rcases br.mp hv with rfl |hv
  .exact i 4 [r.2.1,r.2.2]
  simp_all
abbrev rq(x0:BN)(N way:Int)(HP OT:PV)(x6 x7 x8 x9 x10:BN):cR:=[x0,some (.ref 0),some (.pv (.int N)),some (.pv HP),some (.pv (.int way)),some (.pv OT),x6,x7,x8,x9,x10]
theorem Ji{S:aF}{N way at_:Int}{HP OT BH:PV}{TL FL BL:BK}(hw:way=1\/way=-1)(e1:iU [.pv HP,.pv (.int N),.pv (.int at_)] S=.ok (.pv (.tup TL)) S)(e2:iU [.pv OT,.pv (.int N),.pv (.int at_)] S=.ok (.pv (.tup FL)) S)(ea:sZ HP OT=some BH)(e3:iU [.pv BH,.pv (.int N),.pv (.int at_)] S=.ok (.pv (.tup BL)) S)
  (e4:rK [.pv (.tup TL),.pv (.tup FL)] S=.ok (.pv (.tup BL)) S)(q1:bC 8 (.tup FL) (.tup FL)=some true)(q2:bC 8 (.tup BL) (.tup BL)=some true)(hd:(way=-1/\at_=0/\oE [.pv (.tup TL)] S=.ok (.pv (.tup FL)) S)\/(¬(way=-1/\at_=0)/\FL=TL))(x0 x7 x8 x9 x10:BN):
  ∃y7 y8 y9 y10,oB (rq x0 N way HP OT (some (.pv (.int at_))) x7 x8 x9 x10) S=.nx (rq x0 N way HP OT (some (.pv (.int at_))) y7 y8 y9 y10) S:=by
 unfold rq oB;rcases hd with⟨rfl,rfl,et⟩|⟨nd,rfl⟩
 .refine⟨some (.pv (.tup TL)),some (.pv (.tup FL)),some (.pv (.tup BL)),some (.pv (.tup FL)),?_⟩
  apply sq;simp! [e1];exact⟨rfl,rfl⟩;apply sq;simp! [e2];exact⟨rfl,rfl⟩;apply sq;simp! [ea,e3];exact⟨rfl,rfl⟩;apply sq;simp! [lP];exact⟨rfl,rfl⟩;apply sq;simp! [bF];exact⟨rfl,rfl⟩;apply sq;simp! [et];exact⟨rfl,rfl⟩;simp! [q1,e4,q2]
 .refine⟨some (.pv (.tup FL)),some (.pv (.tup FL)),some (.pv (.tup BL)),some (.pv (.tup FL)),?_⟩
  apply sq;simp! [e1];exact⟨rfl,rfl⟩;apply sq;simp! [e2];exact⟨rfl,rfl⟩;apply sq;simp! [ea,e3];exact⟨rfl,rfl⟩;apply sq;simp! [lP];exact⟨rfl,rfl⟩;apply sq;simp! [bF];exact⟨rfl,rfl⟩;rcases hw with rfl |rfl
  .apply sq;simp! [bF];exact⟨rfl,rfl⟩
   simp! [q1,e4,q2]
  .have n0:¬at_=0:=λz=>nd ⟨rfl,z⟩
   apply sq;simp! [n0];exact⟨rfl,rfl⟩;simp! [q1,e4,q2]
theorem Rz{gs os:BE}(h1:gs.length<=8)(h2:os.length<=8):sZ (.tup (gs.map px)) (.tup (os.map px))=some (.tup ((gs++os).map px)):=by
 rw[cw];exact if_pos (by grind)
theorem ahc{S0:SO}{way:Int}(hw:way=1\/way=-1){f:BC}{gs:BE}(h:∀u∈gs,Sx 2 201 u)(hl:gs.length<=4)(g:Gu 2 100 f)(x0 x6 x7 x8 x9 x10:BN):∃y6 y7 y8 y9 y10,(cB (dG (aB (aC dY (aA 2) 1#c) aD)) (gN 6) oB) (rq x0 2 way (.tup (gs.map px)) (.tup ((gs.map (cV way f)).map px)) x6 x7 x8 x9 x10) [S0]=.nx (rq x0 2 way (.tup (gs.map px)) (.tup ((gs.map (cV way f)).map px)) y6 y7 y8 y9 y10) [S0]:=by
 have hm:∀u∈gs.map (cV way f),Sx 2 302 u:=λu hu=>by
  obtain⟨v,hv,rfl⟩:=ca.mp hu;exact Bi (.inl rfl) hw (h v hv) g 1#b
 have hb:∀u∈gs++gs.map (cV way f),Sx 2 302 u:=λu hu=>(ce.mp hu).elim (λz=>Sx.mono (h u z) 1#b) (hm u);have lm:(gs.map (cV way f)).length<=4:=by rw[ak];exact hl
 have lb:(gs++gs.map (cV way f)).length<=8:=by rw[ax];omega
 have p:((gs.map (cV way f)).flatMap eI).Perm ((gs.flatMap eI).map (sm way)):=yK gs λu hu=>acK 1#b hw (h u hu) g;have t:=Cf λu hu=>vT (k:=201) 1#b (h u hu);obtain⟨B,f'⟩:=Pj (K:=403) uZ hw p λr hr=>(t.2.1 r hr).1;have sh:∀j,(aK (gs.flatMap eI) j).length<=4:=λj=>by
  have:=mI eI gs j λu hu=>(vT (k:=201) 1#b (h u hu)).nd;omega
 have sh':∀j,(aK ((gs.map (cV way f)).flatMap eI) j).length<=4:=λj=>by
  have:=mI eI (gs.map (cV way f)) j λu hu=>(vT (k:=302) 1#b (hm u hu)).nd;omega
 have A:=Oj (lt:=HT.lexLt) (λr hr=>(t.2.1 r hr).1) f' sh sh';have t':=Cf λu hu=>vT (k:=302) 1#b (hm u hu);have l1:=sD HT.lexLt (gs.flatMap eI);have l2:=sD HT.lexLt ((gs.map (cV way f)).flatMap eI);have e4:=B8 1#b S0 (by rw[ax];have:=t.1;have:=t'.1;omega) A.fq A.two (by have:=kW (bI HT.lexLt (gs.flatMap eI)++bI HT.lexLt ((gs.map (cV way f)).flatMap eI));rw[ax]at this;have:=t.1;have:=t'.1;omega) λz=>Ze (P:=λj=>j≠[]) (λr hr=>(t.2.1 r hr).2) (λr hr=>(t'.2.1 r hr).2) [] z rfl;rw[<-B.bo]at e4;have e1:=Ci 1#b [S0] 0 h 1#a;have e2:=Ci 1#b [S0] 0 hm 1#a;have e3:=Ci 1#b [S0] 0 hb lb;rw[re]at e3;have ea:=Rz (gs:=gs) (os:=gs.map (cV way f)) 1#a 1#a;have hd:(way=-1/\(0:Int)=0/\oE [.pv (.tup ((bI HT.lexLt (gs.flatMap eI)).map bO))] [S0]=.ok (.pv (.tup ((bI HT.lexLt ((gs.map (cV way f)).flatMap eI)).map bO))) [S0])\/(¬(way=-1/\(0:Int)=0)/\(bI HT.lexLt ((gs.map (cV way f)).flatMap eI)).map bO=(bI HT.lexLt (gs.flatMap eI)).map bO):=by
  rw[B.mv];rcases hw with rfl |rfl
  .exact .inr ⟨λz=>by have:=z.1;omega,by rw[vM]⟩
  .exact .inl ⟨rfl,rfl,Dw _ _⟩
 obtain⟨y7,y8,y9,y10,r⟩:=Ji hw e1 e2 ea e3 e4 (yZ _) (yZ _) hd x0 x7 x8 x9 x10;clear e1 e2 e3 e4 ea hd A B p t t' h hm hb sh sh' f' l1 l2 g;refine⟨some (.pv (.int 0)),y7,y8,y9,y10,?_⟩;have r0:iX [.pv (.int 1)] [S0]=.ok ([.int 0],[]) [S0]:=oA [S0] (n:=1) 1#b;generalize PV.tup ((gs.map (cV way f)).map px)=G2,PV.tup (gs.map px)=G1 at *;unfold rq at r⊢;generalize oB=LB at *;simp! [cB,dG,r0,eW,gK,gN,r]
theorem ahI{S0:SO}{way:Int}(hw:way=1\/way=-1){f:BC}{gs:BE}(h:∀u∈gs,Sx 3 201 u)(hl:gs.length<=4)(g:Gu 3 100 f)(x0 x6 x7 x8 x9 x10:BN):∃y6 y7 y8 y9 y10,(cB (dG (aB (aC dY (aA 2) 1#c) aD)) (gN 6) oB) (rq x0 3 way (.tup (gs.map px)) (.tup ((gs.map (cV way f)).map px)) x6 x7 x8 x9 x10) [S0]=.nx (rq x0 3 way (.tup (gs.map px)) (.tup ((gs.map (cV way f)).map px)) y6 y7 y8 y9 y10) [S0]:=by
 have hm:∀u∈gs.map (cV way f),Sx 3 302 u:=λu hu=>by
  obtain⟨v,hv,rfl⟩:=ca.mp hu;exact Bi (.inr rfl) hw (h v hv) g 1#b
 have hb:∀u∈gs++gs.map (cV way f),Sx 3 302 u:=λu hu=>(ce.mp hu).elim (λz=>Sx.mono (h u z) 1#b) (hm u);have lm:(gs.map (cV way f)).length<=4:=by rw[ak];exact hl
 have lb:(gs++gs.map (cV way f)).length<=8:=by rw[ax];omega
 have ea:=Rz (gs:=gs) (os:=gs.map (cV way f)) 1#a 1#a;have p:((gs.map (cV way f)).flatMap eE).Perm ((gs.flatMap eE).map (sm way)):=yK gs λu hu=>adZ 1#b hw (h u hu) g;have t:=Fe λu hu=>uW (k:=201) 1#b (h u hu);have t':=Fe λu hu=>uW (k:=302) 1#b (hm u hu);obtain⟨B,f'⟩:=Pj (K:=807) uZ hw p λr hr=>(t.2.1 r hr).1;have sh:∀j,(aK (gs.flatMap eE) j).length<=4:=λj=>by
  have:=mI eE gs j λu hu=>(uW (k:=201) 1#b (h u hu)).nd;omega
 have sh':∀j,(aK ((gs.map (cV way f)).flatMap eE) j).length<=4:=λj=>by
  have:=mI eE (gs.map (cV way f)) j λu hu=>(uW (k:=302) 1#b (hm u hu)).nd;omega
 have A:=Oj (lt:=HT.lexLt) (λr hr=>(t.2.1 r hr).1) f' sh sh';have l1:=sD HT.lexLt (gs.flatMap eE);have l2:=sD HT.lexLt ((gs.map (cV way f)).flatMap eE);have e4:=B8 1#b S0 (by rw[ax];have:=t.1;have:=t'.1;omega) A.fq A.two (by have:=kW (bI HT.lexLt (gs.flatMap eE)++bI HT.lexLt ((gs.map (cV way f)).flatMap eE));rw[ax]at this;have:=t.1;have:=t'.1;omega) λz=>Ze (P:=λj=>j≠[]) (λr hr=>(t.2.1 r hr).2) (λr hr=>(t'.2.1 r hr).2) [] z rfl;rw[<-B.bo]at e4;have e1:=Yh (K:=807) 1#b 1#b [S0] h (λr hr=>(t.2.1 r hr).1) 1#a;have e2:=Yh (K:=807) 1#b 1#b [S0] hm f' 1#a;have e3:=Yh (K:=807) 1#b 1#b [S0] hb (λr hr=>by
  rw[re]at hr;exact(ce.mp hr).elim (λz=>(t.2.1 r z).1) (f' r)) lb
 rw[re]at e3;have hd:(way=-1/\(0:Int)=0/\oE [.pv (.tup ((bI HT.lexLt (gs.flatMap eE)).map bO))] [S0]=.ok (.pv (.tup ((bI HT.lexLt ((gs.map (cV way f)).flatMap eE)).map bO))) [S0])\/(¬(way=-1/\(0:Int)=0)/\(bI HT.lexLt ((gs.map (cV way f)).flatMap eE)).map bO=(bI HT.lexLt (gs.flatMap eE)).map bO):=by
  rw[B.mv];rcases hw with rfl |rfl
  .exact .inr ⟨λz=>by have:=z.1;omega,by rw[vM]⟩
  .exact .inl ⟨rfl,rfl,Dw _ _⟩
 obtain⟨y7,y8,y9,y10,r⟩:=Ji hw e1 e2 ea e3 e4 (yZ _) (yZ _) hd x0 x7 x8 x9 x10;clear e1 e2 e3 e4 hd A B p t t' sh sh' f' l1 l2;have p:((gs.map (cV way f)).flatMap eD).Perm ((gs.flatMap eD).map (sm 1)):=yK gs λu hu=>adj 1#b hw (h u hu) g;have t:=Uf λu hu=>vR (k:=201) 1#b (h u hu);have t':=Uf λu hu=>vR (k:=302) 1#b (hm u hu);obtain⟨B,f'⟩:=Pj (K:=403) yQ (.inl rfl) p λr hr=>(t.2.1 r hr).1;have sh:∀j,(aK (gs.flatMap eD) j).length<=4:=λj=>by
  have:=mI eD gs j λu hu=>(vR (k:=201) 1#b (h u hu)).nd;omega
 have sh':∀j,(aK ((gs.map (cV way f)).flatMap eD) j).length<=4:=λj=>by
  have:=mI eD (gs.map (cV way f)) j λu hu=>(vR (k:=302) 1#b (hm u hu)).nd;omega
 have A:=Oj (lt:=cT) (λr hr=>(t.2.1 r hr).1) f' sh sh';have l1:=sD cT (gs.flatMap eD);have l2:=sD cT ((gs.map (cV way f)).flatMap eD);have mv:=B.mv;rw[vM]at mv;have k1:=kW (gs.flatMap eD);have k2:=kW ((gs.map (cV way f)).flatMap eD);have kt:(bB (bI cT (gs.flatMap eD)++bI cT ((gs.map (cV way f)).flatMap eD))).length<64:=by
  rw[mv,Xe _ _ λr hr=>((fT _).2 _).mpr ⟨r,hr,rfl⟩];have:=kW (bI cT (gs.flatMap eD));have:=t.1;omega
 have e4:=agP 1#b S0 (by rw[ax];have:=t.1;have:=t'.1;omega) A.fq A.two kt λz=>Ze (P:=λj=>j≠[]) (λr hr=>(t.2.1 r hr).2) (λr hr=>(t'.2.1 r hr).2) [] z rfl;rw[<-B.bo]at e4;have e1:=Yg 1#b [S0] h 1#a (by have:=t.1;omega);have e2:=Yg 1#b [S0] hm 1#a (by have:=t'.1;omega);have e3:=Yg 1#b [S0] hb lb (by rw[re,B.ky];have:=t.1;omega);rw[re]at e3;obtain⟨z7,z8,z9,z10,r'⟩:=Ji hw e1 e2 ea e3 e4 (Gq _) (Gq _) (.inr ⟨λz=>by have:=z.2;omega,by rw[mv]⟩) x0 y7 y8 y9 y10;clear e1 e2 e3 e4 ea A B p t t' h hm hb sh sh' f' l1 l2 g k1 k2 kt mv;refine⟨some (.pv (.int 1)),z7,z8,z9,z10,?_⟩;have r0:iX [.pv (.int 2)] [S0]=.ok ([.int 0,.int 1],[]) [S0]:=oA [S0] (n:=2) 1#b;generalize PV.tup ((gs.map (cV way f)).map px)=G2,PV.tup (gs.map px)=G1 at *;unfold rq at r r'⊢;generalize oB=LB at *;simp! [cB,dG,r0,eW,gK,gN,r,r']
theorem adg (hn:n=2\/n=3){way:Int}(hw:way=1\/way=-1){f:BC}{gs:BE}(h:∀u∈gs,Sx n 201 u)(hl:gs.length<=4)(g:Gu n 100 f)(S0:SO)(x0 x6 x7 x8 x9 x10:BN):∃y6 y7 y8 y9 y10,(cB (dG (aB (aC dY (aA 2) 1#c) aD)) (gN 6) oB) (rq x0 n way (.tup (gs.map px)) (.tup ((gs.map (cV way f)).map px)) x6 x7 x8 x9 x10) [S0]=.nx (rq x0 n way (.tup (gs.map px)) (.tup ((gs.map (cV way f)).map px)) y6 y7 y8 y9 y10) [S0]:=by
 rcases hn with rfl |rfl
 .exact ahc hw h hl g _ _ _ _ _ _
 .exact ahI hw h hl g _ _ _ _ _ _
theorem ae7 (hn:n=2\/n=3)(ns:BC){hs:BE}(hw:∀xss∈hs,Rw n xss)(h9:hs.length<=4):∃(gs:BE)(ns':BC),lZ [.ref 0,.pv (.lst (hs.map cK))] [.lst (li ns)]=.ok (.pv (.lst (gs.map px))) [.lst (li ns')]/\gs.length<=4/\∀u∈gs,Sx n 201 u:=by
 rcases hn with rfl |rfl
 .exact agn _ hw h9
 .exact agy _ hw h9
theorem ae9 (h:way=1\/way=-1)(a:PV)(S:aF):vN [.pv (.int way),.pv a] S=.ok (.pv (.tup [.int way,a])) S:=by
 unfold vN aI Di;rcases h with rfl |rfl<;>dsimp! [bF]
theorem abg(ns:BC)(h:ns.length<=63):∃S,Lj [.pv (.lst (ns.map .int))] []=.ok (.pv (.bl true)) S:=by
 obtain⟨ms,e0,_⟩:=afN ns [] h;have e0:sR [.pv (.lst (ns.map .int))] []=.ok (.ref 0) [.lst (li ms)]:=e0;obtain⟨d,n1,e1,d0,d1,_⟩:=jL (m:=2) (show fI [.lst (li ms)] 0 ms from rfl) 1#b (lE 1#b 1#b);have e1:dX [.ref 0,.pv (.int 2)] [.lst (li ms)]=.ok (.pv (.int d)) [.lst (li n1)]:=e1;obtain⟨n,en,hn⟩:∃n:Nat,2+d=(n:Int)/\(n=2\/n=3):=⟨(2+d).toNat,by omega,by omega⟩;have a2:bF (.int 2) (.int d)=some (.int n):=by rw[bF,en]
 obtain⟨hs,n2,e2,l2,w2⟩:=R1 hn (M:=4) 1#b n1;have e2:rP [.ref 0,.pv (.int (n:Int)),.pv (.int 4)] [.lst (li n1)]=.ok (.ref 1) [.lst (li n2),.lst (hs.map cK)]:=e2;obtain⟨gs,n3,e3,l3,r3⟩:=ae7 hn n2 w2 l2;obtain⟨t,n4,e4,t0,t1,_⟩:=jL (m:=2) (show fI [.lst (li n3)] 0 n3 from rfl) 1#b (lE 1#b 1#b);have e4:dX [.ref 0,.pv (.int 2)] [.lst (li n3)]=.ok (.pv (.int t)) [.lst (li n4)]:=e4;obtain⟨way,hw,ew⟩:∃way:Int,(way=1\/way=-1)/\aE (.lst [.int 1,.int (-1)]) (.int t)=some (.int way):=by
  have c:t=0\/t=1:=by omega
  rcases c with rfl |rfl
  .exact⟨1,.inl rfl,rfl⟩
  .exact⟨-1,.inr rfl,rfl⟩
 obtain⟨A,n5,e5,hA⟩:=abP (S:=[.lst (li n4)]) (k:=0) (ns:=n4) (L:=gs.map px) rfl;have e5:pU [.ref 0,.pv (.tup (gs.map px))] [.lst (li n4)]=.ok (.pv A) [.lst (li n5)]:=e5;obtain⟨f,n6,e6,gf'⟩:∃(f:BC)(n6:BC),lK [.ref 0,.pv (.int (n:Int))] [.lst (li n5)]=.ok (.pv (tv f)) [.lst (li n6)]/\Gu n 100 f:=by
  obtain⟨v,n6,e,G⟩:=E4 (S:=[.lst (li n5)]) (k:=0) (ns:=n5) n hn rfl;obtain⟨xs,w,rfl,P⟩:=G;exact⟨xs++[w],n6,e,xs,w,rfl,P⟩
 have e7:=ae9 hw (tv f) [.lst (li n6)];have e8:=T8 (n:=n) hn [.lst (li n6)] hw hA r3 gf' 1#b;have sm':∀u∈gs.map (cV way f),Sx n 302 u:=λu hu=>by
  obtain⟨v,hv,rfl⟩:=ca.mp hu;exact Bi hn hw (r3 v hv) gf' 1#b
 have e9:=aap (n:=n) hn [.lst (li n6)] sm' 1#b;obtain⟨y6,y7,y8,y9,y10,el⟩:=adg hn hw r3 l3 gf' (.lst (li n6)) (some (.pv (.lst (ns.map .int)))) none none none none none;unfold rq at el;clear sm' r3 w2 hA l2 l3 gf';refine⟨[],?_⟩;have hb:Ui=(aH (aP 1 (qN sR [] (aB (aA 0) aD))) (aH (aP 2 (aC bF (mC (.int 2)) (aJ dX [] (aB (aA 1) (aB (mC (.int 2)) aD))))) (aH (aP 3 (mR fX (aB (aJ lZ [] (aB (aA 1) (aB (aJ rP [] (aB (aA 1) (aB (aA 2) (aB (mC (.int 4)) aD)))) aD))) aD))) (aH (aP 4 (aC aE (mN fG (aB 1#c (aB (bG cF 1#c) aD))) (aJ dX [] (aB (aA 1) (aB (mC (.int 2)) aD))))) (aH (aP 5 (aJ vE [] (aB (aJ pU [] (aB (aA 1) (aB (aA 3) aD))) (aB (jQ vN [] (aB (aA 4) (aB (aJ lK [] (aB (aA 1) (aB (aA 2) aD))) aD))) aD)))) (aH (bW (fM (aO (aJ uG [] (aB (aA 5) (aB (aA 2) aD))))) (aT (mC (.bl false))) cP) (aH (cB (dG (aB (aC dY (aA 2) 1#c) aD)) (gN 6) oB) (aT (mC (.bl true)))))))))):=rfl;unfold Lj;rw[hb];generalize (n:Int)=N,tv f=TF,ns.map PV.int=NL,hs.map cK=HL,gs.map px=GL,(gs.map (cV way f)).map px=OL at *;generalize hTF:(cB (dG (aB (aC dY (aA 2) 1#c) aD)) (gN 6) oB)=SF at *;apply pB rfl;apply sq;simp! [gW,e0];exact⟨rfl,rfl⟩;apply sq;simp! [-bF,e1,a2];exact⟨rfl,rfl⟩;apply sq;simp! [e2,e3];exact⟨rfl,rfl⟩;apply sq;simp! [e4,ew];exact⟨rfl,rfl⟩;apply sq;simp! [e5,e6,e7,e8];exact⟨rfl,rfl⟩;apply sq;simp! [e9];exact⟨rfl,rfl⟩;refine sq el ?_;simp! [bF];exact⟨rfl,rfl⟩;simp[jB]
theorem hF_k {st:Stmt}{f:Addr}{oc:Value}{od an:BI}{osl:Array BG}{kV doc pm cdv ct:Value}(a:autoParam (dr K mainGlobals x=some (some (.ref f))) Zwz)(l:autoParam (K.lookup f=some ⟨oc,od,.func (fj x x (gY st) (eN st) (cL st) .none kV doc pm an cdv ct),osl⟩) Zwz)(c:autoParam (jw K cdv x=true) Zwz)(k:autoParam (gw K (.ref f)=true) Zwz):HF K x st:=agG a l c k
theorem all_mk{l:ny}{w:am}{K:ae}{h:Heap}{mg:Str->BG}{fa:Addr}(X:K.In h)(G:h.Ns mainGlobals mg)(hfa:mg "law"=some (.ref fa))
  (h46:HF K "_law_row" Xz)
  (h47:HF K "_law_take" Lx)
  (h48:HF K "_law_gcd" Nz)
  (h49:HF K "_law_lowest" Kq)
  (h68:HF K "_law_far" Ay)
  (h57:HF K "_law_dot" Ky)
  (h56:HF K "_law_cross" Sr)
  (h58:HF K "_law_turn" Vu)
  (h55:HF K "_law_gap" Vy)
  (h59:HF K "_law_det" Wy)
  (h60:HF K "_law_simplex" Vn)
  (h54:HF K "_law_joined" Uq)
  (h70:HF K "_law_spot" Uv)
  (h71:HF K "_law_laid" Bw)
  (h52:HF K "_law_frac" Zu)
  (h69:HF K "_law_stretch" Rn)
  (h75:HF K "_law_wide_far" Qm)
  (h65:HF K "_law_raw_turn" Rm)
  (h64:HF K "_law_raw" Ly)
  (h66:HF K "_law_kuhn" Yu)
  (h67:HF K "_law_raw_heap" Zm)
  (h7:HF K "sign" Gy)
  (h19:HF K "whole_arrow" Xl)
  (h20:HF K "dot" A4)
  (h21:HF K "normal" Mt)
  (h22:HF K "determinant" Tl)
  (h23:HF K "side" Rx)
  (h27:HF K "simplex" Ar)
  (h31:HF K "is_push" Dp)
  (h8:HF K "divisor" Xo)
  (h9:HF K "reduced" Wq)
  (h16:HF K "added" Lv)
  (h18:HF K "turned" Ys)
  (h17:HF K "lessened" Ko)
  (h32:HF K "moved_point" Ul)
  (h33:HF K "moved" Jx)
  (h30:HF K "move" Dz)
  (h72:HF K "_law_handed" Cp)
  (h50:HF K "_law_whole" Zs)
  (h51:HF K "_law_wholes" Lq)
  (h61:HF K "_law_point_form" Nl)
  (h62:HF K "_law_simplex_form" Al)
  (h63:HF K "_law_heap_form" Dm)
  (h12:HF K "plus" Vz)
  (h13:HF K "total" Zw)
  (h40:HF K "summed" Mr)
  (h28:HF K "walls" Uw)
  (h41:HF K "all_walls" Um)
  (h10:HF K "lowest_way" Mm)
  (h37:HF K "along" Hx)
  (h38:HF K "side_share" Jm)
  (h42:HF K "side_sums" Gn)
  (h39:HF K "wall_share" Yl)
  (h43:HF K "wall_sums" Sm)
  (h35:HF K "sides" Mu)
  (h44:HF K "edge_sums" Xm)
  (h78:HF K "_law_sums_form" Km)
  (h79:HF K "_law_asked" Qr)
  (h77:HF K "_law_turned_sums" Hl)
  (h53:HF K "_law_sum" Lz)
  (h73:HF K "_law_put_sum" Fo)
  (h74:HF K "_law_told_sums" Hm)
  (h76:HF K "_law_added_sums" Ll)
  {f15:Addr}{od15 an15:BI}{sl15:Array BG}{oc15 kV15 dc15 pm15 cd15 ct15:Value}
  {T15:Addr}{tc15:Value}{td15:BI}{tl15:Array BG}{tn15:Nat}{tt15:cv}
  (a15:dr K mainGlobals "point"=some (some (.ref f15)))(l15:K.lookup f15=some ⟨oc15,od15,.func (fj "point" "point" (gY vB) (eN vB) (cL vB) (.ref T15) kV15 dc15 pm15 an15 cd15 ct15),sl15⟩)(c15:jw K cd15 "point"=true)(k15:gw K (.ref f15)=true)
  (t15:K.lookup T15=some ⟨tc15,td15,.seq #[.int 1 tt15] tn15,tl15⟩)
  {f11:Addr}{od11 an11:BI}{sl11:Array BG}{oc11 kV11 dc11 pm11 cd11 ct11:Value}
  {T11:Addr}{tc11:Value}{td11:BI}{tl11:Array BG}{tn11:Nat}{tt11:cv}
  (a11:dr K mainGlobals "fraction"=some (some (.ref f11)))(l11:K.lookup f11=some ⟨oc11,od11,.func (fj "fraction" "fraction" (gY uJ) (eN uJ) (cL uJ) (.ref T11) kV11 dc11 pm11 an11 cd11 ct11),sl11⟩)(c11:jw K cd11 "fraction"=true)(k11:gw K (.ref f11)=true)
  (t11:K.lookup T11=some ⟨tc11,td11,.seq #[.int 1 tt11] tn11,tl11⟩)
  {f80:Addr}{od80 an80:BI}{sl80:Array BG}{oc80 kV80 dc80 pm80 cd80 ct80:Value}
  (a80:dr K mainGlobals "law"=some (some (.ref f80)))(l80:K.lookup f80=some ⟨oc80,od80,.func (fj "law" "law" (gY pA) (eN pA) (cL pA) .none kV80 dc80 pm80 an80 cd80 ct80),sl80⟩)(c80:jw K cd80 "law"=true)(k80:gw K (.ref f80)=true)
  (z1:dr K mainGlobals "abs"=some none)
  (z2:dr K mainGlobals "all"=some none)
  (z3:dr K mainGlobals "bool"=some none)
  (z4:dr K mainGlobals "enumerate"=some none)
  (z5:dr K mainGlobals "int"=some none)
  (z6:dr K mainGlobals "isinstance"=some none)
  (z7:dr K mainGlobals "len"=some none)
  (z8:dr K mainGlobals "list"=some none)
  (z9:dr K mainGlobals "range"=some none)
  (z10:dr K mainGlobals "sorted"=some none)
  (z11:dr K mainGlobals "sum"=some none)
  (z12:dr K mainGlobals "tuple"=some none)
  (z13:dr K mainGlobals "zip"=some none)
  {C1 C2 C3 C4:Addr}
  (y1:dr K mainGlobals "Flat"=some (some (.ref C1)))(x1:io K C1 jN "ValueError.__new__"=true)
  (y2:dr K mainGlobals "NoMove"=some (some (.ref C2)))(x2:io K C2 jN "ValueError.__new__"=true)
  (y3:dr K mainGlobals "NoNumber"=some (some (.ref C3)))(x3:io K C3 jN "ValueError.__new__"=true)
  (y4:dr K mainGlobals "NoPoint"=some (some (.ref C4)))(x4:io K C4 jN "ValueError.__new__"=true)
  {gk1:cv}
  {gk2:cv}
  {GA2:Addr}{gn2:Nat}{gs2:Array BG}
  {gk3:cv}
  {gk4:cv}
  {GA3:Addr}{gn3:Nat}{gs3:Array BG}
  {gk5:cv}
  {gk6:cv}
  {GA4:Addr}{gn4:Nat}{gs4:Array BG}
  {GA1:Addr}{gn1:Nat}{gs1:Array BG}
  {gk7:cv}
  {gk8:cv}
  {gk9:cv}
  {GA6:Addr}{gn6:Nat}{gs6:Array BG}
  {gk10:cv}
  {gk11:cv}
  {gk12:cv}
  {GA7:Addr}{gn7:Nat}{gs7:Array BG}
  {gk13:cv}
  {gk14:cv}
  {gk15:cv}
  {GA8:Addr}{gn8:Nat}{gs8:Array BG}
  {gk16:cv}
  {gk17:cv}
  {gk18:cv}
  {GA9:Addr}{gn9:Nat}{gs9:Array BG}
  {GA5:Addr}{gn5:Nat}{gs5:Array BG}
  (v1:dr K mainGlobals "FLAT_WALLS"=some (some (.ref GA1)))
  (v2:dr K mainGlobals "SPACE_WALLS"=some (some (.ref GA5)))
  (vl1:K.lookup GA1=some ⟨.type "tuple",none,.seq #[.ref GA2,.ref GA3,.ref GA4] gn1,gs1⟩)
  (vl2:K.lookup GA2=some ⟨.type "tuple",none,.seq #[.int 0 gk1,.int 1 gk2] gn2,gs2⟩)
  (vl3:K.lookup GA3=some ⟨.type "tuple",none,.seq #[.int 1 gk3,.int 2 gk4] gn3,gs3⟩)
  (vl4:K.lookup GA4=some ⟨.type "tuple",none,.seq #[.int 2 gk5,.int 0 gk6] gn4,gs4⟩)
  (vl5:K.lookup GA5=some ⟨.type "tuple",none,.seq #[.ref GA6,.ref GA7,.ref GA8,.ref GA9] gn5,gs5⟩)
  (vl6:K.lookup GA6=some ⟨.type "tuple",none,.seq #[.int 1 gk7,.int 2 gk8,.int 3 gk9] gn6,gs6⟩)
  (vl7:K.lookup GA7=some ⟨.type "tuple",none,.seq #[.int 0 gk10,.int 3 gk11,.int 2 gk12] gn7,gs7⟩)
  (vl8:K.lookup GA8=some ⟨.type "tuple",none,.seq #[.int 0 gk13,.int 1 gk14,.int 3 gk15] gn8,gs8⟩)
  (vl9:K.lookup GA9=some ⟨.type "tuple",none,.seq #[.int 0 gk16,.int 2 gk17,.int 1 gk18] gn9,gs9⟩)
  :∃fd:cg,(∀(s:aa)(v:Value),nu s fd ⟨[v],[]⟩ [("_law_script",v)])/\∀base:Heap,K.In base->base.Ns mainGlobals mg->eO l.prog w K mg base fR 8 fa fd ["_law_script"] (Nj K):=by
 let cl:Str->Addr:=λn=>if n="Flat" then C1 else if n="NoMove" then C2 else if n="NoNumber" then C3 else if n="NoPoint" then C4 else 0
 have e:=hfa.symm.trans (jz X G a80);cases e;have F15:=Fv (st:=vB) l15 c15 k15 t15 rfl;have b15:=F15.binds (ps:=["numbers","bottom"]) (dd:=[]) λ_ _ _ _ _ _ _ us hl=>match us,hl with |[_,_],_=>⟨_,rfl,rfl⟩
 have n15:=jz X G a15;have F11:=Fv (st:=uJ) l11 c11 k11 t11 rfl;have b11:=F11.binds (ps:=["top","bottom"]) (dd:=[]) λ_ _ _ _ _ _ _ us hl=>match us,hl with |[_,_],_=>⟨_,rfl,rfl⟩
 have n11:=jz X G a11;have F80:=Mz (st:=pA) l80 c80 k80;have m:Mg mg:=⟨jh X G z1,jh X G z2,jh X G z3,jh X G z4,jh X G z5,jh X G z6,jh X G z7,jh X G z8,jh X G z9,jh X G z10,jh X G z11,jh X G z12,jh X G z13⟩;have gt_FLAT_WALLS:xF K mg "FLAT_WALLS" (.tup [.tup [.int 0,.int 1],.tup [.int 1,.int 2],.tup [.int 2,.int 0]]):=⟨_,.ref GA1,jz X G v1,rfl,(nN (vs:=[.ref GA2,.ref GA3,.ref GA4]) vl1 (by show 3<=gm;decide) (.cons rfl (.cons rfl (.cons rfl .nil))) (by show 3<=gm;decide) (fK (nN (vs:=[.int 0,.int 1]) vl2 (by show 2<=gm;decide) (.cons ⟨_,rfl⟩ (.cons ⟨_,rfl⟩ .nil)) (by show 2<=gm;decide) (fK iE (fK iE nM))) (fK (nN (vs:=[.int 1,.int 2]) vl3 (by show 2<=gm;decide) (.cons ⟨_,rfl⟩ (.cons ⟨_,rfl⟩ .nil)) (by show 2<=gm;decide) (fK iE (fK iE nM))) (fK (nN (vs:=[.int 2,.int 0]) vl4 (by show 2<=gm;decide) (.cons ⟨_,rfl⟩ (.cons ⟨_,rfl⟩ .nil)) (by show 2<=gm;decide) (fK iE (fK iE nM))) nM))))⟩;have gt_SPACE_WALLS:xF K mg "SPACE_WALLS" (.tup [.tup [.int 1,.int 2,.int 3],.tup [.int 0,.int 3,.int 2],.tup [.int 0,.int 1,.int 3],.tup [.int 0,.int 2,.int 1]]):=⟨_,.ref GA5,jz X G v2,rfl,(nN (vs:=[.ref GA6,.ref GA7,.ref GA8,.ref GA9]) vl5 (by show 4<=gm;decide) (.cons rfl (.cons rfl (.cons rfl (.cons rfl .nil)))) (by show 4<=gm;decide) (fK (nN (vs:=[.int 1,.int 2,.int 3]) vl6 (by show 3<=gm;decide) (.cons ⟨_,rfl⟩ (.cons ⟨_,rfl⟩ (.cons ⟨_,rfl⟩ .nil))) (by show 3<=gm;decide) (fK iE (fK iE (fK iE nM)))) (fK (nN (vs:=[.int 0,.int 3,.int 2]) vl7 (by show 3<=gm;decide) (.cons ⟨_,rfl⟩ (.cons ⟨_,rfl⟩ (.cons ⟨_,rfl⟩ .nil))) (by show 3<=gm;decide) (fK iE (fK iE (fK iE nM)))) (fK (nN (vs:=[.int 0,.int 1,.int 3]) vl8 (by show 3<=gm;decide) (.cons ⟨_,rfl⟩ (.cons ⟨_,rfl⟩ (.cons ⟨_,rfl⟩ .nil))) (by show 3<=gm;decide) (fK iE (fK iE (fK iE nM)))) (fK (nN (vs:=[.int 0,.int 2,.int 1]) vl9 (by show 3<=gm;decide) (.cons ⟨_,rfl⟩ (.cons ⟨_,rfl⟩ (.cons ⟨_,rfl⟩ .nil))) (by show 3<=gm;decide) (fK iE (fK iE (fK iE nM)))) nM)))))⟩;refine⟨fj "law" "law" (gY pA) (eN pA) (cL pA) .none kV80 dc80 pm80 an80 cd80 ct80,λs v=>.of_eq rfl,λbase _ _=>?_⟩
 let B:Bx:=⟨l.prog,w,K,mg,base,cl⟩
 have Xg:XG B.K B.mg:=⟨h,X,G⟩;have m:Mg B.mg:=m;have q_Flat:B.mg "Flat"=some (.ref (B.cl "Flat")):=jz X G y1;have x_Flat:io B.K (B.cl "Flat") jN "ValueError.__new__"=true:=x1;have q_NoMove:B.mg "NoMove"=some (.ref (B.cl "NoMove")):=jz X G y2;have x_NoMove:io B.K (B.cl "NoMove") jN "ValueError.__new__"=true:=x2;have q_NoNumber:B.mg "NoNumber"=some (.ref (B.cl "NoNumber")):=jz X G y3;have x_NoNumber:io B.K (B.cl "NoNumber") jN "ValueError.__new__"=true:=x3;have q_NoPoint:B.mg "NoPoint"=some (.ref (B.cl "NoPoint")):=jz X G y4;have x_NoPoint:io B.K (B.cl "NoPoint") jN "ValueError.__new__"=true:=x4;have C46:=adu Xg m h46;have C47:=abr Xg m h47;have C48:=acp Xg m h48;have C49:=U8 Xg m h49 C48;have C68:=adt Xg m h68 C47 C49;have C57:=acP Xg m h57;have C56:=X6 Xg m h56;have C58:=abu Xg m h58 C57 C56;have C55:=adM Xg m h55;have C59:=adQ Xg m h59 C58 C55;have C60:=R3 Xg m h60 C59;have C54:=R9 Xg m h54 C49;have C70:=aaG Xg m h70 C49;have C71:=aaK Xg m h71 C68 C60 C54 C70;have C52:=aaI Xg m h52 C49;have C69:=R6 Xg m h69 C47 C52;have C75:=P7 Xg m h75 C71 C69;have C65:=O5 Xg m h65 C58;have C64:=adr Xg m h64 C47 C65;have C66:=ab9 Xg m h66 C47;have C67:=O7 Xg m h67 C47 C64 C66;have C7:=adc Xg m h7;have C19:=L6 Xg m h19;have C20:=afF Xg m h20;have C21:=aaa Xg m h21;have C22:=M5 Xg m h22 C19 C20 C21;have C23:=acN Xg m h23 C7 C22;have H27:=S5 Xg m h27 C23 q_Flat x_Flat;have C31:=W6 Xg m h31;have C8:=T7 Xg m h8;have C9:=W8 Xg m h9 C8;have G15:=aa9 Xg m F15 C9 C7 q_NoPoint x_NoPoint;have H15:Fr B:=Bk G15 b15 k15 n15;have C16:=aa7 Xg m h16 H15;have C18:=Z6 Xg m h18;have C17:=Q0 Xg m h17 C16 C18;have C32:=L7 Xg m h32 C31 C16 C17;have C33:=ab3 Xg m h33 H27 C32;have H30:=ac9 Xg m h30 q_NoMove x_NoMove;have C72:=T6 Xg m h72 C47;have C50:=W9 Xg m h50;have C51:=T5 Xg m h51 C50;have C61:=L8 Xg m h61 C51 C49;have C62:=K9 Xg m h62 C61 C59 C60;have C63:=N4 Xg m h63 C62;have G11:=Q6 Xg m F11 C7 C8 q_NoNumber x_NoNumber;have H11:Zc B:=Bk G11 b11 k11 n11;have C12:=acE Xg m h12 H11;have C13:=abS Xg m h13 C12;have C40:=Z5 Xg m h40 C13;have C28:=aaY Xg m h28 gt_FLAT_WALLS gt_SPACE_WALLS;have C41:=P0 Xg m h41 C28;have C10:=O0 Xg m h10 C9 C7;have C37:=abE Xg m h37 C10 H11;have C38:=N5 Xg m h38 C37 C19;have C42:=P6 Xg m h42 C40 C41 C38;have C39:=N9 Xg m h39 C21 C19 C37;have C43:=O8 Xg m h43 C40 C41 C39;have C35:=aaF Xg m h35;have C44:=O9 Xg m h44 C41 C39 C35 C38 C40;have C78:=N8 Xg m h78 C51;have C79:=aar Xg m h79 C42 C43 C44 C78;have C77:=L4 Xg m h77;have C53:=adn Xg m h53 C52;have C73:=Q7 Xg m h73 C53;have C74:=M7 Xg m h74;have C76:=M3 Xg m h76 C73 C74;exact(aen Xg m F80 C46 C47 C75 C67 C33 H30 C68 C72 C63 C79 C77 C76).imp λvs H Q E h=>ac2 abg h
theorem walk{l:ny}{q:Program}{loose:List Str}{XP:(Str->BG)->Heap->Prop}{YP:am->Heap->Prop}{d:DefRec}{K:oy->ae}(hn:l.most=some 63)(hdf:d.params.defaults=[])
  (hY:∀(w:am)(h:Heap),YP w h->(K w.params).In h)
  (F:∀(w:am)(mg:Str->BG)(fa:Addr)(h:Heap),(K w.params).In h->h.Ns mainGlobals mg->mg d.name=some (.ref fa)->
   ∃fd:cg,(∀(s:aa)(u:Value),nu s fd ⟨[u],[]⟩ [("_law_script",u)])/\∀base:Heap,(K w.params).In base->base.Ns mainGlobals mg->eO l.prog w (K w.params) mg base fR 8 fa fd ["_law_script"] (Nj (K w.params))):
  PySem.W.WalkO q loose XP YP l.row.toRowW d [] (λf vs=>xk f vs):=
 L2.walk_of hn 1#b hdf ⟨rfl,by decide,by decide⟩ hY F (λ_ _ a ns hl _ hS=>⟨a,ns,rfl,hS,hl,λ_=>rfl⟩) (by grind)
end
end Sc
open PySem PySem.W PyProof.Rows
set_option maxRecDepth 100000 in
set_option maxHeartbeats 0 in
theorem PySem.Challenge.cw_scissorhall_k48_sums_moved_holds : PySem.Challenge.rw_scissorhall_k48_sums_moved.Holds := by
 w_on; refine holds_law Sc.wsaid λsaid=>?_
 refine holds_open (q:=Sc.VW) (loose:=[fh "fraction",fh "point"]) (Xt:=λs=>xlAt Sc.VW [] s && recOk (ve (vf (vg oz))) s) (XP:=XL Sc.VW []) (Yf:=vb (kHook Sc.KK Sc.KA Sc.KE)) (Ya:=vd (kHook Sc.KK Sc.KA Sc.KE)) (YP:=Hook.says (kHook Sc.KK Sc.KA Sc.KE)) (N:=6246) Sc.left (Hook.of (kHook Sc.KK Sc.KA Sc.KE)) (Hook.keeps (kHook Sc.KK Sc.KA Sc.KE)) (λs e=>xl_of s (yq.mp e).1) XL.keeps (by rfl) (by rfl) (by rfl) (λs e=>recFacts_of (yq.mp e).2) (by rfl) (by first | assumption | decide +kernel) (by decide +kernel) ⟨rfl,rfl,rfl,rfl,rfl,by decide +kernel⟩ ?hw ?hc
 case hw=>w_witness2
 k_fill
 refine Sc.walk (l:=oz) rfl rfl (λw h Y=>PySem.W.kIn_of Y) ?F
 case F =>
  intro w mg fa h KX G hmg;refine' Sc.all_mk KX G hmg Sc.hF_k Sc.hF_k Sc.hF_k Sc.hF_k Sc.hF_k Sc.hF_k Sc.hF_k Sc.hF_k Sc.hF_k Sc.hF_k Sc.hF_k Sc.hF_k Sc.hF_k Sc.hF_k Sc.hF_k Sc.hF_k Sc.hF_k Sc.hF_k Sc.hF_k Sc.hF_k Sc.hF_k Sc.hF_k Sc.hF_k Sc.hF_k Sc.hF_k Sc.hF_k Sc.hF_k Sc.hF_k Sc.hF_k Sc.hF_k Sc.hF_k Sc.hF_k Sc.hF_k Sc.hF_k Sc.hF_k Sc.hF_k Sc.hF_k Sc.hF_k Sc.hF_k Sc.hF_k Sc.hF_k Sc.hF_k Sc.hF_k Sc.hF_k Sc.hF_k Sc.hF_k Sc.hF_k Sc.hF_k Sc.hF_k Sc.hF_k Sc.hF_k Sc.hF_k Sc.hF_k Sc.hF_k Sc.hF_k Sc.hF_k Sc.hF_k Sc.hF_k Sc.hF_k Sc.hF_k Sc.hF_k Sc.hF_k Sc.hF_k ?a15 ?l15 ?c15 ?k15 ?t15 ?a11 ?l11 ?c11 ?k11 ?t11 ?a80 ?l80 ?c80 ?k80 ?z1 ?z2 ?z3 ?z4 ?z5 ?z6 ?z7 ?z8 ?z9 ?z10 ?z11 ?z12 ?z13 ?y1 ?x1 ?y2 ?x2 ?y3 ?x3 ?y4 ?x4 ?v1 ?v2 ?vl1 ?vl2 ?vl3 ?vl4 ?vl5 ?vl6 ?vl7 ?vl8 ?vl9
  (case a15 | l15 | c15 | k15 | t15 | a11 | l11 | c11 | k11 | t11 | a80 | l80 | c80 | k80 | z1 | z2 | z3 | z4 | z5 | z6 | z7 | z8 | z9 | z10 | z11 | z12 | z13 | y1=>k_is)
  (case x1=>k_exc)
  (case y2=>k_is)
  (case x2=>k_exc)
  (case y3=>k_is)
  (case x3=>k_exc)
  (case y4=>k_is)
  (case x4=>k_exc)
  (case v1 | v2 | vl1 | vl2 | vl3 | vl4 | vl5 | vl6 | vl7 | vl8 | vl9=>k_is)
#print axioms PySem.Challenge.cw_scissorhall_k48_sums_moved_holds
