import PyProof.Rows.All
import KE.KFromBytes
import KE.KIsAll
import PyProof.EqAt
import PyProof.EqKinds
import PyProof.TupleCall
import PyProof.ZipIter
import PyProof.Draws
import PyProof.CompFree
import PyProof.NeKinds
import PyProof.NsDelKeeps
import PyProof.ExcArgsOwn
import PyProof.ExcAttrAll.ValueError
import KE.KSortTup
import PyProof.DictRoadsH
import Wide.Seal
import KE.KIntText
import PyProof.FitsReplace
import PyProof.StrWalks
import PyProof.CompMap
import KE.KDictList
import KE.RegKIsAll
import PyProof.ExcInit
import PyProof.ExcClass2
import PySem.Challenge.RW_scissorhall_k35_long_box_told
set_option Elab.async false
set_option compiler.extract_closed false
set_option bootstrap.genMatcherCode false
set_option maxRecDepth 100000
set_option maxHeartbeats 0
open Array renaming length_toList->jy,toList->si,append_assoc->wm,find?_toList->wr,forIn_toList->zd
open Bool renaming and_eq_true->dm,false_ne_true->kb,false_eq_true->mf,eq_iff_iff->um,not_eq_true'->ur,and_false->yw,and_eq_true_iff->d6
open False renaming elim->de
open ForInStep renaming yield->ul
open Int renaming gcd->aw,zero_sub->fe,zero_mul->fv,mul_eq_zero->il,mul_ediv_cancel_left->jl,mul_pos->jr,mul_ne_zero->kl,fdiv_eq_ediv_of_dvd->kn,one_mul->ko,toNat_natCast->nv,mul_comm->om,mul_neg->oq,gcd_zero_left->ot,neg_mul->uf,le_refl->ug,mul_zero->uh,gcd_dvd_left->ui,gcd_dvd_right->uj,natAbs_mul->xu,natCast_nonneg->xx,gcd_mul_left->xy,natAbs_natCast->ya,pos_of_mul_pos_left->yb,fdiv_eq_ediv_of_nonneg->yc,fmod_nonneg_of_pos->d0
open List renaming size_toArray->am,range->aq,getElem?_eq_getElem->ax,length_map->az,getD->ba,mem_cons->bh,mem_cons_self->bi,length_cons->cg,mem_cons_of_mem->cj,getElem?_eq_some_iff->ck,zipWith->cu,map_cons->cw,mem_append_right->cy,length_append->da,toArray->db,mem_append->du,getElem?_map->dz,mem_of_getElem?->fj,lookup_cons->ft,getElem?_set_self->fx,getElem?_append_right->fy,getElem?_append_left->gf,length_set->gh,all_eq_true->gq,getElem?_set_ne->ib,map_congr_left->ie,getElem_mem->ig,nodup_cons->io,map_nil->iu,mem_append_left->jc,lookup->je,not_mem_nil->jn,map->jp,set_set->jq,set_cons_zero->jt,mem_filterMap->ke,map_map->km,prefix_rfl->ku,length_range->kx,set_cons_succ->lh,append_nil->lr,zip_cons_cons->lu,mem_map->lx,length_take->nr,length_nil->nu,map_append->ou,forIn_cons->ow,append_assoc->qd,ext_getElem->qk,drop_eq_getElem_cons->qm,pairwise_cons->qq,zipWith_cons_cons->qu,mem_filter->rn,mem_range->rq,filterMap_cons->se,of_mem_zip->tf,zip_nil_right->tq,length_drop->tz,map_id->uk,sum_cons->vg,drop_length->vj,getElem?_take->vk,getElem_of_mem->vm,pairwise_iff_getElem->vo,mem_singleton->vq,nil_append->vt,take_of_length_le->vz,ext_getElem?->wb,take->wd,replicate->wy,getElem?_replicate->xa,length_singleton->xq,mem_iff_getElem->yh,zipIdx_cons->ym,zipIdx_nil->yn,forIn_nil->yo,getElem?_eq_none->zf,nodup_append->zh,getElem?_zipWith->zi,getElem_toArray->zj,take_length->zt,zipWith_nil_left->d4,cons_append->d5
open Nat renaming le_refl->ak,lt_of_lt_of_le->bn,ne_of_lt->cf,zero_le->dh,le_trans->di,lt_irrefl->dq,ne_of_gt->kd,pow_le_pow_right->kj,sub_self->ky,le_succ->lw,le_of_eq->oi,lt_of_le_of_lt->oj,two_pow_pos->qt,zero_add->qv,le_of_lt->sd,add_assoc->vh,le_of_not_lt->xt,eq_zero_or_pos->xw,lt_of_succ_lt->zc,exists_eq_add_of_le->ze,lt_succ_self->zg
open Ne renaming symm->fw
open Option renaming isSome_iff_exists->tj,bind_some->wg,getD_none->xn,map_some->d3
open Option.some renaming inj->bj
open Or renaming inl->fm,inr->gw
open Prod renaming ext->gr
open Prod.mk renaming inj->wl
open PyProof.Rows renaming AllBare->fh,IntsAre->fk,IsTup->jb,boot_isinstance->la,get?_update_seq->lg,listUpdate_at->mj,seqEpoch_at->mm,callWith_type1->nh,slot_tuple_getitem->oa,SortKind->qr,assignInOrder_cons->sk,subscriptTail_builtinR->xm
open PyProof.Rows.IsTup renaming new->my
open PySem renaming wpAny_bind->aa,Expr->af,Pos->ag,World->ah,Around->ai,wpAny_pure->aj,FuncData->ay,wpAny_mono->cn,Paired->cp,IsPair->cq,wpAny_field->dg,wpAny_holding->dj,sizeLine_eq->dk,IsZip->dn,Model->fi,NameKind->gv,Draws->ia,wpAny_newObj_type->ic,wpAny_seqItems->ij,CmpOp->im,IsPart->ir,Params->iy,wpAny_passesOwn->jd,Result->jg,codeAny_mono->jh,Keyword->ji,mem_of_lookup->jj,wpAny_call_entry->jk,wpAny_truthy_bool->jx,wpAny_execs_nil->jz,wpAny_standAt->ka,BindsTo->kg,wpAny_Call_Name_kw->kh,wpAny_setField_rec->kq,wpAny_rule->lp,wpAny_callSpecial?_slot->lv,PassesOwn->ng,wpAny_call->ni,wpAny_pyIter_list->oy,wpAny_setField->pf,wpAny_letGo->pk,wpAny_onRaise->pw,wpAny_attempt->qa,codeAny_call_builtin->qg,wpAny_loadPart->qh,wpAny_newList->qo,Within->rh,wpAny_Name->sf,wpAny_execs_cons->sj,concat_meets->tw,wpAny_typeOf->ua,seqIndex_of->ub,seqIndex_neg->uc,call->ue,wpAny_updateSeq_pair->uo,wpAny_newTuple->uq,ExcAttrFacts->uw,Fin->uz,wpAny_loadPart_at->va,wpAny_collect_seq->vn,passOn->vp,wpAny_isTrue_Compare1->wq,wpAny_Tuple_spliced->wx,wpAny_newFunctionEnv->yf,codeAny_compStart_list->yg,wpAny_pyIter_tuple->yt,sizeLine->b0
open PySem.Around renaming under->sx
open PySem.Builtin renaming sorted->zz
open PySem.Builtin.Int renaming intBits->yd
open PySem.Builtin.ObjectAttr renaming find->d8,dataDescriptor?->f6,getOf->f7,bindTo->f9,storeInOwnDict->g5
open PySem.Builtin.Slice renaming slicePlaces->ny,sliceAdjust->tx,sliceApplied->xk
open PySem.Builtin.SmallTypes renaming nextOf->iw,ownedTupleIsFree->pq,ownedTupleHandOut->yp
open PySem.Builtin.Tuple renaming tupleExact->og,tupleHashOf->vd,tupleItemsOf->xl
open PySem.Calls renaming spliced_cons->td,Name_function_global->wo,spliced_nil->ww,evalArgs_plain->xo,call_function_entry->zy
open PySem.Challenge renaming pw_scissorhall_k35_long_box_told->cv,rw_scissorhall_k35_long_box_told->lm
open PySem.Code renaming isFrame->sy,quiet_builtin->uv
open PySem.F renaming excAttr_ValueError->jo,slot_tuple_iterator_next->pe,slot_zip_next->qc,excBase_ValueError->uu,slot_tuple_add->xh,entry_tuple_add->xi,args_tuple_add_2->xj,slot_list_append->xp,entry_tuple_iterator_next->yi,args_tuple_iterator_next_1->yj,entry_zip_next->yq,args_zip_next_1->yr,plainAttrs_list->zq
open PySem.Heap renaming get?_push_of_some->al,lt_size->ao,get?_push_size->cm,SameBut->dw,get?_update_ne->ix,size_push->jm,get?_none_of_le->mx,get?_update_self->oh,HeldW->qp,get?_update_other->ud,MadeExcOf->yx,get?_push_at->yy
open PySem.Heap.SameBut renaming update->yk
open PySem.NameKind renaming free->gm,cell->ye
open PySem.Obj renaming mapSeq->cr,data_mapFields->ph,isFreed_of_fields->yl
open PySem.PassesOwn renaming never->a8,leaving->a9
open PySem.PyData renaming keyHash->we
open PySem.SeqAt renaming EqAt->gg,RcAt->kz
open PySem.SeqAt.EqAt renaming same->ql,int_int->tm,of_refs->vf
open PySem.SeqAt.RcAt renaming tuples->ve,none_none->zk,bool_bool->zl,int_int->zm,str_str->zn,lists->zo,lists_lengths->zp
open PySem.Str renaming ofString->bf
open PySem.Value renaming none->au,ref->bc,int->ju,bool->jw,builtin->ly,str->mq,float->rf
open PySem.W renaming Frag->ae,nsIn->ar,kitOne->bo,excIn->br,fnOf->cc,keepIn->ce,kia_one->df,findIn->dy,mg_none_of->ee,codeIn->eh,kas_sort->fg,mg_of->fu,KasT->ik,OpenLaw->ki,looks_findIn->kr,kat_nil->lc,mroIn->lq,kHook->mn,callWith_K->nj,looks_mroIn->qe,any_some->qi,kitAny->qs,instObj->rg,methodObj->rk,hideAll->rl,hideAll_get->rm,lookIn->sr,hasDictIn->ss,specialIn->su,takesIn->sv,kitx_list->sw,isNs_of_in->ut,looks_clsIn->vb,isFn->vc,clsIn->vw,xlAt->wj,recOk->wk,of_hideAll->wn,plainGet->wt,kitx_tuple->wu,kitx_dict->wv,cellsFrom_some->wz,tail_of_in->yu,tailIn->za,nsOkIn->zb,kat_cons->zu,kat_yes->zv,kat_no->zw,KatGo->a7
open PySem.W.Hook renaming obs->qw,val->qx
open PySem.W.KatTups renaming cons->zx
open PySem.W.Looks renaming here->qj
open PySem.W.OpenLaw renaming row->re,wellSaid->d7
open PySem.W.OpenRow renaming toRowW->qz
open PySem.W.RowW renaming records->qy
open PySem.Within renaming cons->yz
open Sum renaming inl->iz,inr->ja
open True renaming intro->jf
abbrev AA:=List Int
abbrev AC:=List AA
abbrev AD:=List AC
abbrev AE:=List PySem.Value
abbrev AF:=Option PySem.Value
abbrev AG:=Option PySem.Addr
abbrev AH:=Option Int
namespace L2
open PySem
def dG(s:Stmt):Arguments:=match s with
 |.FunctionDef _ a _ _ _ _ _ _ _ _=>a
 |_=>{posonlyargs:=[],args:=[],vararg:=none,kwonlyargs:=[],kw_defaults:=[],kwarg:=none,defaults:=[]}
def cG(s:Stmt):List Stmt:=match s with
 |.FunctionDef _ _ b _ _ _ _ _ _ _=>b
 |_=>[]
def bK(s:Stmt):Scope:=match s with
 |.FunctionDef _ _ _ _ _ _ sc _ _ _=>sc
 |_=>{kind:=.function,names:=[],isGenerator:=false,isCoroutine:=false}
end L2
namespace Sc
noncomputable section
open PySem L2
def aY(i:Nat):Stmt:=cv.main.body.getD i (.Pass ⟨0,0,0,0⟩)
abbrev vs(s:String)(t:Nat):Value:=.str (bf s) t
abbrev vi(i:Int):Value:=.int i 0
abbrev vr(a:Nat):Value:=.ref a
abbrev fo(n:String)(i:Nat)(dV dc pm cd ct:Value):Obj:=⟨.type "function",none,.func (cc (bf n) (bf n) (dG (aY i)) (cG (aY i)) (bK (aY i)) dV .none dc pm none cd ct),#[]⟩
def dN(i j:Nat):Stmt:=match aY i with
 |.ClassDef _ _ _ b _ _ _ _ _ _ _=>b.getD j (.Pass ⟨0,0,0,0⟩)
 |_=>.Pass ⟨0,0,0,0⟩
abbrev yT(n q:String)(i j:Nat)(pm cd ct:Value):Obj:=⟨.type "function",none,.func (cc (bf n) (bf q) (dG (dN i j)) (cG (dN i j)) (bK (dN i j)) .none .none .none pm none cd ct),#[]⟩
abbrev fc(l:AE):Obj:=⟨.type "code",none,.fields l.toArray,#[]⟩
abbrev Tk(n:String)(t l a r g:Nat)(x:AE):Obj:=fc (vs n t::vs n (t+1)::vs "/claim/cut.py" (t+2)::vi l::vi a::vi 0::vi 0::vi 3::vr r:: .bool true::vi g::vr (r+1):: .none::x)
abbrev eD(n:String)(t l a r g u:Nat):Obj:=Tk n t l a r g [vr (r+2),vr (r+3),vr (r+4),vi u,vi l,vs "/claim/cut.py" (u+1)]
abbrev fW(n:String)(t l a r g:Nat):Obj:=Tk n t l a r g [.none,.none,vr (r+2),vi (t+3),vi l,vs "/claim/cut.py" (t+4)]
abbrev fd(P:iy)(n:Nat)(l:List (String×Nat×Value)):Obj:=⟨.type "dict",none,.dict (l.map λe=>⟨we P (bf e.1),.str (bf e.1) e.2.1,e.2.2⟩).toArray n,#[]⟩
abbrev vLq:Value:=vs "law_scissorhall_k35_long_box_told" 674
abbrev fzq (n:String)(i:Nat)(m:Value)(r:Nat):Obj:=fo n i .none .none m (vr r) .none
abbrev v0q:Value:=vs "scissorhall.points" 606
abbrev v1q:Value:=vs "scissorhall.lowest" 556
noncomputable def KK(P:iy):ae:=
 (nat_lit 3,fd P 68 [("__name__",165,vs "law_scissorhall_k35_long_box_told" 674),("__doc__",166,.none),("__package__",167,.none),("__loader__",168,(.builtin "__main__.__loader__#opaque")),("__spec__",169,.none),("__annotations__",170,vr 6),("__builtins__",171,vr 4),("__file__",173,vs "/claim/cut.py" 172),("__cached__",174,.none),("HallError",206,vr 24),("NoNumber",222,vr 37),("NoPoint",238,vr 49),("Flat",254,vr 61),("NoBlade",270,vr 73),("NoMove",286,vr 85),("OnSide",302,vr 97),("NotSame",318,vr 109),("OtherSize",334,vr 121),("Backward",350,vr 133),("NoBox",366,vr 145),("NoText",382,vr 157),("TooGreat",398,vr 169),("NoRow",414,vr 181),("NoName",430,vr 193),("NoUndo",446,vr 205),("NoAgain",462,vr 217),("OtherKind",478,vr 229),("OtherSum",503,vr 248),("TooWide",530,vr 267),("TooSteep",555,vr 286),("sign",564,vr 295),("divisor",573,vr 302),("reduced",579,vr 307),("fraction",589,vr 315),("divided",597,vr 322),("ranked",605,vr 329),("point",614,vr 335),("point_at",620,vr 340),("whole_arrow",626,vr 345),("dot",632,vr 350),("normal",641,vr 357),("determinant",647,vr 362),("side",654,vr 369),("simplex",665,vr 376),("long_box",673,vr 381),("_law_row",688,vr 388),("_law_take",697,vr 395),("_law_gcd",705,vr 402),("_law_lowest",711,vr 407),("_law_whole",718,vr 414),("_law_wholes",724,vr 419),("_law_frac",732,vr 426),("_law_gap",738,vr 431),("_law_cross",749,vr 438),("_law_dot",755,vr 443),("_law_turn",762,vr 450),("_law_det",768,vr 455),("_law_simplex",776,vr 462),("_law_point_form",784,vr 469),("_law_simplex_form",790,vr 474),("_law_heap_form",796,vr 479),("_law_part",805,vr 486),("_law_spot_of",813,vr 493),("_law_due",826,vr 500),("_law_asked",837,vr 507),("_law_kinds",845,vr 514),("_law_apart",851,vr 519),("law",864,vr 526)])::
 (nat_lit 23,fd P 3 [("__module__",196,vs "scissorhall.errors" 187),("__firstlineno__",200,(.int 2 199)),("__static_attributes__",201,vr 22),("__weakref__",203,vr 25),("__doc__",204,.none)])::
 (nat_lit 24,⟨(.type "type"),none,.cls {name:="HallError",bases:=[(.type "ValueError")],mro:=[vr 24,(.type "ValueError"),(.type "Exception"),(.type "BaseException"),(.type "object")],ns:=23,qualname:="HallError",hasDict:=true,subclasses:=[vr 37,vr 49,vr 61,vr 73,vr 85,vr 97,vr 109,vr 121,vr 133,vr 145,vr 157,vr 169,vr 181,vr 193,vr 205,vr 217,vr 229,vr 248,vr 267,vr 286]},#[some (vr 15),none,some (vs "HallError" 189),some (vs "HallError" 197),some (.builtin "ValueError.__new__"),some (.bool true)]⟩)::
 (nat_lit 36,fd P 2 [("__module__",214,vs "scissorhall.errors" 187),("__firstlineno__",218,(.int 4 217)),("__static_attributes__",219,vr 35),("__doc__",220,.none)])::
 (nat_lit 37,⟨(.type "type"),none,.cls {name:="NoNumber",bases:=[vr 24],mro:=[vr 37,vr 24,(.type "ValueError"),(.type "Exception"),(.type "BaseException"),(.type "object")],ns:=36,qualname:="NoNumber",hasDict:=true,subclasses:=[]},#[some (vr 28),none,some (vs "NoNumber" 207),some (vs "NoNumber" 215),some (.builtin "ValueError.__new__"),some (.bool true)]⟩)::
 (nat_lit 48,fd P 2 [("__module__",230,vs "scissorhall.errors" 187),("__firstlineno__",234,(.int 6 233)),("__static_attributes__",235,vr 47),("__doc__",236,.none)])::
 (nat_lit 49,⟨(.type "type"),none,.cls {name:="NoPoint",bases:=[vr 24],mro:=[vr 49,vr 24,(.type "ValueError"),(.type "Exception"),(.type "BaseException"),(.type "object")],ns:=48,qualname:="NoPoint",hasDict:=true,subclasses:=[]},#[some (vr 40),none,some (vs "NoPoint" 223),some (vs "NoPoint" 231),some (.builtin "ValueError.__new__"),some (.bool true)]⟩)::
 (nat_lit 60,fd P 2 [("__module__",246,vs "scissorhall.errors" 187),("__firstlineno__",250,(.int 8 249)),("__static_attributes__",251,vr 59),("__doc__",252,.none)])::
 (nat_lit 61,⟨(.type "type"),none,.cls {name:="Flat",bases:=[vr 24],mro:=[vr 61,vr 24,(.type "ValueError"),(.type "Exception"),(.type "BaseException"),(.type "object")],ns:=60,qualname:="Flat",hasDict:=true,subclasses:=[]},#[some (vr 52),none,some (vs "Flat" 239),some (vs "Flat" 247),some (.builtin "ValueError.__new__"),some (.bool true)]⟩)::
 (nat_lit 72,fd P 2 [("__module__",262,vs "scissorhall.errors" 187),("__firstlineno__",266,(.int 10 265)),("__static_attributes__",267,vr 71),("__doc__",268,.none)])::
 (nat_lit 73,⟨(.type "type"),none,.cls {name:="NoBlade",bases:=[vr 24],mro:=[vr 73,vr 24,(.type "ValueError"),(.type "Exception"),(.type "BaseException"),(.type "object")],ns:=72,qualname:="NoBlade",hasDict:=true,subclasses:=[]},#[some (vr 64),none,some (vs "NoBlade" 255),some (vs "NoBlade" 263),some (.builtin "ValueError.__new__"),some (.bool true)]⟩)::
 (nat_lit 84,fd P 2 [("__module__",278,vs "scissorhall.errors" 187),("__firstlineno__",282,(.int 12 281)),("__static_attributes__",283,vr 83),("__doc__",284,.none)])::
 (nat_lit 85,⟨(.type "type"),none,.cls {name:="NoMove",bases:=[vr 24],mro:=[vr 85,vr 24,(.type "ValueError"),(.type "Exception"),(.type "BaseException"),(.type "object")],ns:=84,qualname:="NoMove",hasDict:=true,subclasses:=[]},#[some (vr 76),none,some (vs "NoMove" 271),some (vs "NoMove" 279),some (.builtin "ValueError.__new__"),some (.bool true)]⟩)::
 (nat_lit 96,fd P 2 [("__module__",294,vs "scissorhall.errors" 187),("__firstlineno__",298,(.int 14 297)),("__static_attributes__",299,vr 95),("__doc__",300,.none)])::
 (nat_lit 97,⟨(.type "type"),none,.cls {name:="OnSide",bases:=[vr 24],mro:=[vr 97,vr 24,(.type "ValueError"),(.type "Exception"),(.type "BaseException"),(.type "object")],ns:=96,qualname:="OnSide",hasDict:=true,subclasses:=[]},#[some (vr 88),none,some (vs "OnSide" 287),some (vs "OnSide" 295),some (.builtin "ValueError.__new__"),some (.bool true)]⟩)::
 (nat_lit 108,fd P 2 [("__module__",310,vs "scissorhall.errors" 187),("__firstlineno__",314,(.int 16 313)),("__static_attributes__",315,vr 107),("__doc__",316,.none)])::
 (nat_lit 109,⟨(.type "type"),none,.cls {name:="NotSame",bases:=[vr 24],mro:=[vr 109,vr 24,(.type "ValueError"),(.type "Exception"),(.type "BaseException"),(.type "object")],ns:=108,qualname:="NotSame",hasDict:=true,subclasses:=[]},#[some (vr 100),none,some (vs "NotSame" 303),some (vs "NotSame" 311),some (.builtin "ValueError.__new__"),some (.bool true)]⟩)::
 (nat_lit 120,fd P 2 [("__module__",326,vs "scissorhall.errors" 187),("__firstlineno__",330,(.int 18 329)),("__static_attributes__",331,vr 119),("__doc__",332,.none)])::
 (nat_lit 121,⟨(.type "type"),none,.cls {name:="OtherSize",bases:=[vr 24],mro:=[vr 121,vr 24,(.type "ValueError"),(.type "Exception"),(.type "BaseException"),(.type "object")],ns:=120,qualname:="OtherSize",hasDict:=true,subclasses:=[]},#[some (vr 112),none,some (vs "OtherSize" 319),some (vs "OtherSize" 327),some (.builtin "ValueError.__new__"),some (.bool true)]⟩)::
 (nat_lit 132,fd P 2 [("__module__",342,vs "scissorhall.errors" 187),("__firstlineno__",346,(.int 20 345)),("__static_attributes__",347,vr 131),("__doc__",348,.none)])::
 (nat_lit 133,⟨(.type "type"),none,.cls {name:="Backward",bases:=[vr 24],mro:=[vr 133,vr 24,(.type "ValueError"),(.type "Exception"),(.type "BaseException"),(.type "object")],ns:=132,qualname:="Backward",hasDict:=true,subclasses:=[]},#[some (vr 124),none,some (vs "Backward" 335),some (vs "Backward" 343),some (.builtin "ValueError.__new__"),some (.bool true)]⟩)::
 (nat_lit 144,fd P 2 [("__module__",358,vs "scissorhall.errors" 187),("__firstlineno__",362,(.int 22 361)),("__static_attributes__",363,vr 143),("__doc__",364,.none)])::
 (nat_lit 145,⟨(.type "type"),none,.cls {name:="NoBox",bases:=[vr 24],mro:=[vr 145,vr 24,(.type "ValueError"),(.type "Exception"),(.type "BaseException"),(.type "object")],ns:=144,qualname:="NoBox",hasDict:=true,subclasses:=[]},#[some (vr 136),none,some (vs "NoBox" 351),some (vs "NoBox" 359),some (.builtin "ValueError.__new__"),some (.bool true)]⟩)::
 (nat_lit 156,fd P 2 [("__module__",374,vs "scissorhall.errors" 187),("__firstlineno__",378,(.int 24 377)),("__static_attributes__",379,vr 155),("__doc__",380,.none)])::
 (nat_lit 157,⟨(.type "type"),none,.cls {name:="NoText",bases:=[vr 24],mro:=[vr 157,vr 24,(.type "ValueError"),(.type "Exception"),(.type "BaseException"),(.type "object")],ns:=156,qualname:="NoText",hasDict:=true,subclasses:=[]},#[some (vr 148),none,some (vs "NoText" 367),some (vs "NoText" 375),some (.builtin "ValueError.__new__"),some (.bool true)]⟩)::
 (nat_lit 168,fd P 2 [("__module__",390,vs "scissorhall.errors" 187),("__firstlineno__",394,(.int 26 393)),("__static_attributes__",395,vr 167),("__doc__",396,.none)])::
 (nat_lit 169,⟨(.type "type"),none,.cls {name:="TooGreat",bases:=[vr 24],mro:=[vr 169,vr 24,(.type "ValueError"),(.type "Exception"),(.type "BaseException"),(.type "object")],ns:=168,qualname:="TooGreat",hasDict:=true,subclasses:=[]},#[some (vr 160),none,some (vs "TooGreat" 383),some (vs "TooGreat" 391),some (.builtin "ValueError.__new__"),some (.bool true)]⟩)::
 (nat_lit 180,fd P 2 [("__module__",406,vs "scissorhall.errors" 187),("__firstlineno__",410,(.int 28 409)),("__static_attributes__",411,vr 179),("__doc__",412,.none)])::
 (nat_lit 181,⟨(.type "type"),none,.cls {name:="NoRow",bases:=[vr 24],mro:=[vr 181,vr 24,(.type "ValueError"),(.type "Exception"),(.type "BaseException"),(.type "object")],ns:=180,qualname:="NoRow",hasDict:=true,subclasses:=[]},#[some (vr 172),none,some (vs "NoRow" 399),some (vs "NoRow" 407),some (.builtin "ValueError.__new__"),some (.bool true)]⟩)::
 (nat_lit 192,fd P 2 [("__module__",422,vs "scissorhall.errors" 187),("__firstlineno__",426,(.int 30 425)),("__static_attributes__",427,vr 191),("__doc__",428,.none)])::
 (nat_lit 193,⟨(.type "type"),none,.cls {name:="NoName",bases:=[vr 24],mro:=[vr 193,vr 24,(.type "ValueError"),(.type "Exception"),(.type "BaseException"),(.type "object")],ns:=192,qualname:="NoName",hasDict:=true,subclasses:=[]},#[some (vr 184),none,some (vs "NoName" 415),some (vs "NoName" 423),some (.builtin "ValueError.__new__"),some (.bool true)]⟩)::
 (nat_lit 204,fd P 2 [("__module__",438,vs "scissorhall.errors" 187),("__firstlineno__",442,(.int 32 441)),("__static_attributes__",443,vr 203),("__doc__",444,.none)])::
 (nat_lit 205,⟨(.type "type"),none,.cls {name:="NoUndo",bases:=[vr 24],mro:=[vr 205,vr 24,(.type "ValueError"),(.type "Exception"),(.type "BaseException"),(.type "object")],ns:=204,qualname:="NoUndo",hasDict:=true,subclasses:=[]},#[some (vr 196),none,some (vs "NoUndo" 431),some (vs "NoUndo" 439),some (.builtin "ValueError.__new__"),some (.bool true)]⟩)::
 (nat_lit 216,fd P 2 [("__module__",454,vs "scissorhall.errors" 187),("__firstlineno__",458,(.int 34 457)),("__static_attributes__",459,vr 215),("__doc__",460,.none)])::
 (nat_lit 217,⟨(.type "type"),none,.cls {name:="NoAgain",bases:=[vr 24],mro:=[vr 217,vr 24,(.type "ValueError"),(.type "Exception"),(.type "BaseException"),(.type "object")],ns:=216,qualname:="NoAgain",hasDict:=true,subclasses:=[]},#[some (vr 208),none,some (vs "NoAgain" 447),some (vs "NoAgain" 455),some (.builtin "ValueError.__new__"),some (.bool true)]⟩)::
 (nat_lit 228,fd P 2 [("__module__",470,vs "scissorhall.errors" 187),("__firstlineno__",474,(.int 36 473)),("__static_attributes__",475,vr 227),("__doc__",476,.none)])::
 (nat_lit 229,⟨(.type "type"),none,.cls {name:="OtherKind",bases:=[vr 24],mro:=[vr 229,vr 24,(.type "ValueError"),(.type "Exception"),(.type "BaseException"),(.type "object")],ns:=228,qualname:="OtherKind",hasDict:=true,subclasses:=[]},#[some (vr 220),none,some (vs "OtherKind" 463),some (vs "OtherKind" 471),some (.builtin "ValueError.__new__"),some (.bool true)]⟩)::
 (nat_lit 244,fc [vs "__init__" 491,vs "OtherSum.__init__" 492,vs "/claim/cut.py" 493,vi 40,vi 2,vi 0,vi 0,vi 3,vr 239,(.bool true),vi 181,vr 240,.none,vr 241,vr 242,vr 243,vi 496,vi 40,vs "/claim/cut.py" 497])::
 (nat_lit 245,yT "__init__" "OtherSum.__init__" 19 0 (vs "scissorhall.errors" 187) (vr 244) .none)::
 (nat_lit 247,fd P 2 [("__module__",486,vs "scissorhall.errors" 187),("__firstlineno__",490,(.int 38 489)),("__init__",498,vr 245),("__static_attributes__",500,vr 246),("__doc__",501,.none)])::
 (nat_lit 248,⟨(.type "type"),none,.cls {name:="OtherSum",bases:=[vr 24],mro:=[vr 248,vr 24,(.type "ValueError"),(.type "Exception"),(.type "BaseException"),(.type "object")],ns:=247,qualname:="OtherSum",hasDict:=true,subclasses:=[]},#[some (vr 232),none,some (vs "OtherSum" 479),some (vs "OtherSum" 487),some (.builtin "ValueError.__new__"),some (.bool true)]⟩)::
 (nat_lit 263,fc [vs "__init__" 516,vs "TooWide.__init__" 517,vs "/claim/cut.py" 518,vi 44,vi 3,vi 0,vi 0,vi 3,vr 258,(.bool true),vi 181,vr 259,.none,vr 260,vr 261,vr 262,vi 522,vi 44,vs "/claim/cut.py" 523])::
 (nat_lit 264,yT "__init__" "TooWide.__init__" 20 0 (vs "scissorhall.errors" 187) (vr 263) .none)::
 (nat_lit 266,fd P 2 [("__module__",511,vs "scissorhall.errors" 187),("__firstlineno__",515,(.int 42 514)),("__init__",524,vr 264),("__static_attributes__",527,vr 265),("__doc__",528,.none)])::
 (nat_lit 267,⟨(.type "type"),none,.cls {name:="TooWide",bases:=[vr 24],mro:=[vr 267,vr 24,(.type "ValueError"),(.type "Exception"),(.type "BaseException"),(.type "object")],ns:=266,qualname:="TooWide",hasDict:=true,subclasses:=[]},#[some (vr 251),none,some (vs "TooWide" 504),some (vs "TooWide" 512),some (.builtin "ValueError.__new__"),some (.bool true)]⟩)::
 (nat_lit 282,fc [vs "__init__" 543,vs "TooSteep.__init__" 544,vs "/claim/cut.py" 545,vi 49,vi 2,vi 0,vi 0,vi 3,vr 277,(.bool true),vi 181,vr 278,.none,vr 279,vr 280,vr 281,vi 548,vi 49,vs "/claim/cut.py" 549])::
 (nat_lit 283,yT "__init__" "TooSteep.__init__" 21 0 (vs "scissorhall.errors" 187) (vr 282) .none)::
 (nat_lit 285,fd P 2 [("__module__",538,vs "scissorhall.errors" 187),("__firstlineno__",542,(.int 47 541)),("__init__",550,vr 283),("__static_attributes__",552,vr 284),("__doc__",553,.none)])::
 (nat_lit 286,⟨(.type "type"),none,.cls {name:="TooSteep",bases:=[vr 24],mro:=[vr 286,vr 24,(.type "ValueError"),(.type "Exception"),(.type "BaseException"),(.type "object")],ns:=285,qualname:="TooSteep",hasDict:=true,subclasses:=[]},#[some (vr 270),none,some (vs "TooSteep" 531),some (vs "TooSteep" 539),some (.builtin "ValueError.__new__"),some (.bool true)]⟩)::
 (nat_lit 294,eD "sign" 558 52 1 289 181 562)::
 (nat_lit 295,fzq "sign" 23 v1q 294)::
 (nat_lit 301,eD "divisor" 565 58 2 296 181 571)::
 (nat_lit 302,fzq "divisor" 24 v1q 301)::
 (nat_lit 306,fW "reduced" 574 64 1 303 181)::
 (nat_lit 307,fzq "reduced" 25 v1q 306)::
 (nat_lit 308,⟨.type "tuple",none,.seq #[(.int 1 580)] 0,#[]⟩)::
 (nat_lit 314,eD "fraction" 581 69 2 309 181 587)::
 (nat_lit 315,fo "fraction" 26 (vr 308) .none v1q (vr 314) .none)::
 (nat_lit 321,eD "divided" 590 74 2 316 181 595)::
 (nat_lit 322,fzq "divided" 27 v1q 321)::
 (nat_lit 328,eD "ranked" 598 76 2 323 181 603)::
 (nat_lit 329,fzq "ranked" 28 v1q 328)::
 (nat_lit 330,⟨.type "tuple",none,.seq #[(.int 1 608)] 0,#[]⟩)::
 (nat_lit 334,fW "point" 609 79 2 331 181)::
 (nat_lit 335,fo "point" 30 (vr 330) .none v0q (vr 334) .none)::
 (nat_lit 339,fW "point_at" 615 83 1 336 181)::
 (nat_lit 340,fzq "point_at" 31 v0q 339)::
 (nat_lit 344,fW "whole_arrow" 621 88 2 341 181)::
 (nat_lit 345,fzq "whole_arrow" 32 v0q 344)::
 (nat_lit 349,fW "dot" 627 90 2 346 181)::
 (nat_lit 350,fzq "dot" 33 v0q 349)::
 (nat_lit 356,eD "normal" 633 92 1 351 181 639)::
 (nat_lit 357,fzq "normal" 34 v0q 356)::
 (nat_lit 361,fW "determinant" 642 98 1 358 181)::
 (nat_lit 362,fzq "determinant" 35 v0q 361)::
 (nat_lit 368,eD "side" 648 101 1 363 181 652)::
 (nat_lit 369,fzq "side" 36 v0q 368)::
 (nat_lit 375,eD "simplex" 657 104 1 370 181 663)::
 (nat_lit 376,fzq "simplex" 38 (vs "scissorhall.simplexes" 655) 375)::
 (nat_lit 380,fW "long_box" 668 113 2 377 181)::
 (nat_lit 381,fzq "long_box" 40 (vs "scissorhall.boxed" 666) 380)::
 (nat_lit 387,eD "_law_row" 676 124 1 382 181 686)::
 (nat_lit 388,fzq "_law_row" 42 vLq 387)::
 (nat_lit 394,eD "_law_take" 689 138 2 389 181 695)::
 (nat_lit 395,fzq "_law_take" 43 vLq 394)::
 (nat_lit 401,eD "_law_gcd" 698 146 2 396 181 703)::
 (nat_lit 402,fzq "_law_gcd" 44 vLq 401)::
 (nat_lit 406,fW "_law_lowest" 706 152 1 403 181)::
 (nat_lit 407,fzq "_law_lowest" 45 vLq 406)::
 (nat_lit 413,eD "_law_whole" 712 159 1 408 181 716)::
 (nat_lit 414,fzq "_law_whole" 46 vLq 413)::
 (nat_lit 418,fW "_law_wholes" 719 161 2 415 181)::
 (nat_lit 419,fzq "_law_wholes" 47 vLq 418)::
 (nat_lit 425,eD "_law_frac" 725 165 2 420 181 730)::
 (nat_lit 426,fzq "_law_frac" 48 vLq 425)::
 (nat_lit 430,fW "_law_gap" 733 169 2 427 181)::
 (nat_lit 431,fzq "_law_gap" 49 vLq 430)::
 (nat_lit 437,eD "_law_cross" 739 171 2 432 181 747)::
 (nat_lit 438,fzq "_law_cross" 50 vLq 437)::
 (nat_lit 442,fW "_law_dot" 750 176 2 439 181)::
 (nat_lit 443,fzq "_law_dot" 51 vLq 442)::
 (nat_lit 449,eD "_law_turn" 756 178 1 444 181 760)::
 (nat_lit 450,fzq "_law_turn" 52 vLq 449)::
 (nat_lit 454,fW "_law_det" 763 182 1 451 181)::
 (nat_lit 455,fzq "_law_det" 53 vLq 454)::
 (nat_lit 461,eD "_law_simplex" 769 184 1 456 181 774)::
 (nat_lit 462,fzq "_law_simplex" 54 vLq 461)::
 (nat_lit 468,eD "_law_point_form" 777 189 2 463 181 782)::
 (nat_lit 469,fzq "_law_point_form" 55 vLq 468)::
 (nat_lit 473,fW "_law_simplex_form" 785 193 2 470 181)::
 (nat_lit 474,fzq "_law_simplex_form" 56 vLq 473)::
 (nat_lit 478,fW "_law_heap_form" 791 199 2 475 181)::
 (nat_lit 479,fzq "_law_heap_form" 57 vLq 478)::
 (nat_lit 485,eD "_law_part" 797 203 1 480 181 803)::
 (nat_lit 486,fzq "_law_part" 58 vLq 485)::
 (nat_lit 492,eD "_law_spot_of" 806 209 2 487 181 811)::
 (nat_lit 493,fzq "_law_spot_of" 59 vLq 492)::
 (nat_lit 499,eD "_law_due" 814 211 2 494 181 824)::
 (nat_lit 500,fzq "_law_due" 60 vLq 499)::
 (nat_lit 506,eD "_law_asked" 827 222 2 501 181 835)::
 (nat_lit 507,fzq "_law_asked" 61 vLq 506)::
 (nat_lit 513,eD "_law_kinds" 838 230 1 508 181 843)::
 (nat_lit 514,fzq "_law_kinds" 62 vLq 513)::
 (nat_lit 518,fW "_law_apart" 846 237 1 515 181)::
 (nat_lit 519,fzq "_law_apart" 63 vLq 518)::
 (nat_lit 525,eD "law" 852 247 1 520 181 862)::
 (nat_lit 526,fzq "law" 64 vLq 525)::[]
def KA:List Nat:=[3,23,24,36,37,48,49,60,61,72,73,84,85,96,97,108,109,120,121,132,133,144,145,156,157,168,169,180,181,192,193,204,205,216,217,228,229,244,245,247,248,263,264,266,267,282,283,285,286,294,295,301,302,306,307,308,314,315,321,322,328,329,330,334,335,339,340,344,345,349,350,356,357,361,362,368,369,375,376,380,381,387,388,394,395,401,402,406,407,413,414,418,419,425,426,430,431,437,438,442,443,449,450,454,455,461,462,468,469,473,474,478,479,485,486,492,493,499,500,506,507,513,514,518,519,525,526]
def VW:Program:={cv with main:={cv.main with body:=[aY 1,aY 2,aY 3,aY 4,aY 5,aY 6,aY 7,aY 8,aY 9,aY 10,aY 11,aY 12,aY 13,aY 14,aY 15,aY 16,aY 17,aY 18,aY 19,aY 20,aY 21,aY 23,aY 24,aY 25,aY 27,aY 28,aY 31,aY 32,aY 33,aY 34,aY 35,aY 36,aY 38,aY 40,aY 42,aY 43,aY 44,aY 45,aY 46,aY 47,aY 48,aY 49,aY 50,aY 51,aY 52,aY 53,aY 54,aY 55,aY 56,aY 57,aY 58,aY 59,aY 60,aY 61,aY 62,aY 63,aY 64]}}
theorem KE:∀P,KA=(KK P).map (·.1):=λ_=>by kernel_rfl
theorem wsaid:d7 lm=true:=by kernel_rfl
open PySem.W PyProof.Rows PySem.Spec
def gK(w:ah):Shared:=(fencedOpening treeTable cv w 11536).getD {}
theorem N3:∀w,fencedOpening treeTable cv w 11536=some (gK w):=by
 intro w;have e:(fencedOpening treeTable cv w 11536).isSome=true:=by kernel_rfl
 unfold gK;cases z:fencedOpening treeTable cv w 11536 with
 |none=>rw[z]at e;cases e
 |some s=>rfl
theorem jJ:∀w,((gK w).heap.isNs mainGlobals&&(gK w).gens.size==0)=true:=by
 intro w
 kernel_rfl
def nW(w:ah)(a:Nat):Obj:=(gK w).heap.objs.getD a default
abbrev bX(P:iy)(n:Nat)(l:List (String×Nat×Value)):Data:=.dict (l.map λe=>⟨we P (bf e.1),.str (bf e.1) e.2.1,e.2.2⟩).toArray n
def sX(tb:String->Option Builtin)(p:Program)(w:ah)(n0:Nat)(ann:AF):Nat->Shared->Thread->Option (Shared×Thread)
 |0,s,t=>some (s,t)
 |n+1,s,t=>match through t with
  |true=>none
  |false=>match stepOk n0 ann t with
   |false=>none
   |true=>match step (denote tb) p w s t with
    |.go s1 t1=>sX tb p w n0 ann n s1 t1
    |.halt _ _=>none
theorem vX{tb:String->Option Builtin}{p:Program}{w:ah}{n0:Nat}{ann:AF}:∀(k n:Nat){s t s1 t1},sX tb p w n0 ann k s t=some (s1,t1)->topRun tb p w n0 ann (k+n) s t=topRun tb p w n0 ann n s1 t1
 |0,n,s,t,s1,t1,h=>by
  cases h;rw[qv]
 |k+1,n,s,t,s1,t1,h=>by
  rw[Nat.succ_add];unfold sX at h
  conv=>lhs;unfold topRun
  cases a:through t with
  |true=>rw[a]at h;cases h
  |false=>
   rw[a]at h;dsimp only at h⊢;cases b:stepOk n0 ann t with
   |false=>rw[b]at h;cases h
   |true=>
    rw[b]at h;dsimp only at h⊢;cases c:step (denote tb) p w s t with
    |halt _ _=>rw[c]at h;cases h
    |go s2 t2=>
     rw[c]at h;exact vX k n h
abbrev Kk(w:ah):=(gK w).heap.nsMap mainGlobals "__annotations__"
abbrev yP(w:ah)(k:Nat):=sX treeTable cv w (gK w).heap.objs.size (Kk w) k
def M7(w:ah):Thread:=match yP w 12 (gK w) (topStub cv)with
 |some x=>x.2
 |none=>topStub cv
def Sk:Env:={scope:=cv.main.scope,locals:=3,globals:=3,cells:=[],code:=.ref 13,frame:=some 14}
abbrev tQ(w:ah)(n:Nat)(p:ag):Thread:={M7 w with cur:=(do return .done (<-(execs ((behindTheImports cv).drop n) Sk).onRaise (leaving Sk))),pos:=p}
abbrev oA(w:ah)(l:List Obj)(n:Nat):Shared:={gK w with heap:={ (gK w).heap with objs:=l.toArray},toks:=n}
def yQ (w : ah) : List Obj := [nW w 0,
 ⟨(.type "dict"), none, bX w.params 2 [("builtins", 162, vr 4), ("__main__", 163, vr 5)], #[]⟩,
 ⟨.none, none, bX w.params 0 [], #[]⟩,
 ⟨(.type "dict"), none, bX w.params 23 [("__name__", 165, vs "scissorhall.errors" 187), ("__doc__", 166, .none), ("__package__", 167, .none), ("__loader__", 168, (.builtin "__main__.__loader__#opaque")), ("__spec__", 169, .none), ("__annotations__", 170, vr 6), ("__builtins__", 171, vr 4), ("__file__", 173, vs "/claim/cut.py" 172), ("__cached__", 174, .none), ("HallError", 206, vr 24), ("NoNumber", 222, vr 37), ("NoPoint", 238, vr 49), ("Flat", 254, vr 61), ("NoBlade", 270, vr 73), ("NoMove", 286, vr 85), ("OnSide", 302, vr 97), ("NotSame", 318, vr 109), ("OtherSize", 334, vr 121), ("Backward", 350, vr 133), ("NoBox", 366, vr 145), ("NoText", 382, vr 157), ("TooGreat", 398, vr 169), ("NoRow", 414, vr 181)], #[]⟩,
 ⟨(.type "module"), (some 0), .plain, #[]⟩,
 ⟨(.type "module"), (some 3), .plain, #[]⟩,
 ⟨(.type "dict"), none, bX w.params 0 [], #[]⟩,
 ⟨(.type "tuple"), none, .seq #[] 0, #[]⟩,
 ⟨.none, none, .fields #[], #[]⟩,
 ⟨(.type "code"), none, .fields #[vs "<module>" 176, vs "<module>" 177, vs "/claim/cut.py" 178, vi 1, vi 0, vi 0, vi 0, vi 0, vr 7, (.bool false), vi 175, vr 8, .none, .none, .none, .none, vi 179, vi 1, vs "/claim/cut.py" 180], #[]⟩,
 ⟨(.type "frame"), none, .plain, #[some (vr 9), some (vr 3), some (vr 3), none, some (vs "__main__" 164), none, some (vr 0)]⟩,
 ⟨(.type "tuple"), none, .seq #[] 0, #[]⟩,
 ⟨.none, none, .fields #[vi 2, vi 0, vr 20, vi 4, vi 0, vr 33, vi 6, vi 0, vr 45, vi 8, vi 0, vr 57, vi 10, vi 0, vr 69, vi 12, vi 0, vr 81, vi 14, vi 0, vr 93, vi 16, vi 0, vr 105, vi 18, vi 0, vr 117, vi 20, vi 0, vr 129, vi 22, vi 0, vr 141, vi 24, vi 0, vr 153, vi 26, vi 0, vr 165, vi 28, vi 0, vr 177], #[]⟩,
 ⟨(.type "code"), none, .fields #[vs "<module>" 182, vs "<module>" 183, vs "/claim/cut.py" 184, vi 1, vi 0, vi 0, vi 0, vi 0, vr 11, (.bool false), vi 181, vr 12, .none, .none, .none, .none, vi 185, vi 1, vs "/claim/cut.py" 186], #[]⟩,
 ⟨(.type "frame"), none, .plain, #[some (vr 13), some (vr 3), some (vr 3), none, some (vs "__main__" 164), none, some (vr 0)]⟩,
 ⟨(.type "tuple"), none, .seq #[(.type "ValueError")] 0, #[]⟩,
 ⟨(.type "builtin_function_or_method"), none, .fields #[(.builtin "type.__prepare__"), (.type "type")], #[]⟩,
 ⟨(.type "dict"), none, bX w.params 4 [("__module__", 196, vs "scissorhall.errors" 187), ("__qualname__", 198, vs "HallError" 197), ("__firstlineno__", 200, (.int 2 199)), ("__static_attributes__", 201, vr 22)], #[]⟩,
 ⟨(.type "tuple"), none, .seq #[] 0, #[]⟩,
 ⟨.none, none, .fields #[], #[]⟩,
 ⟨(.type "code"), none, .fields #[vs "HallError" 191, vs "HallError" 192, vs "/claim/cut.py" 193, vi 2, vi 0, vi 0, vi 0, vi 0, vr 18, (.bool false), vi 181, vr 19, .none, .none, .none, .none, vi 194, vi 2, vs "/claim/cut.py" 195], #[]⟩,
 ⟨(.type "frame"), none, .plain, #[some (vr 20), some (vr 3), some (vr 17), none, some (vs "scissorhall.errors" 187), none, some (vr 0)]⟩,
 ⟨(.type "tuple"), none, .seq #[] 0, #[]⟩,
 ⟨(.type "dict"), none, bX w.params 3 [("__module__", 196, vs "scissorhall.errors" 187), ("__firstlineno__", 200, (.int 2 199)), ("__static_attributes__", 201, vr 22), ("__weakref__", 203, vr 25), ("__doc__", 204, .none)], #[]⟩,
 ⟨(.type "type"), none, .cls { name := "HallError", bases := [(.type "ValueError")], mro := [vr 24, (.type "ValueError"), (.type "Exception"), (.type "BaseException"), (.type "object")], ns := 23, qualname := "HallError", hasDict := true, subclasses := [vr 37, vr 49, vr 61, vr 73, vr 85, vr 97, vr 109, vr 121, vr 133, vr 145, vr 157, vr 169, vr 181] }, #[some (vr 15), none, some (vs "HallError" 189), some (vs "HallError" 197), some (.builtin "ValueError.__new__"), some (.bool true)]⟩,
 ⟨(.type "getset_descriptor"), none, .fields #[vs "__weakref__" 202, vr 24, (.builtin "ExceptionGroup.__weakref__"), .none], #[]⟩,
 ⟨(.type "super"), none, .fields #[vr 24, vr 24, vr 24], #[]⟩,
 ⟨(.type "builtin_function_or_method"), none, .fields #[(.builtin "object.__init_subclass__"), vr 24], #[]⟩,
 ⟨(.type "tuple"), none, .seq #[vr 24] 0, #[]⟩,
 ⟨(.type "builtin_function_or_method"), none, .fields #[(.builtin "type.__prepare__"), (.type "type")], #[]⟩,
 ⟨(.type "dict"), none, bX w.params 4 [("__module__", 214, vs "scissorhall.errors" 187), ("__qualname__", 216, vs "NoNumber" 215), ("__firstlineno__", 218, (.int 4 217)), ("__static_attributes__", 219, vr 35)], #[]⟩,
 ⟨(.type "tuple"), none, .seq #[] 0, #[]⟩,
 ⟨.none, none, .fields #[], #[]⟩,
 ⟨(.type "code"), none, .fields #[vs "NoNumber" 209, vs "NoNumber" 210, vs "/claim/cut.py" 211, vi 4, vi 0, vi 0, vi 0, vi 0, vr 31, (.bool false), vi 181, vr 32, .none, .none, .none, .none, vi 212, vi 4, vs "/claim/cut.py" 213], #[]⟩,
 ⟨(.type "frame"), none, .plain, #[some (vr 33), some (vr 3), some (vr 30), none, some (vs "scissorhall.errors" 187), none, some (vr 0)]⟩,
 ⟨(.type "tuple"), none, .seq #[] 0, #[]⟩,
 ⟨(.type "dict"), none, bX w.params 2 [("__module__", 214, vs "scissorhall.errors" 187), ("__firstlineno__", 218, (.int 4 217)), ("__static_attributes__", 219, vr 35), ("__doc__", 220, .none)], #[]⟩,
 ⟨(.type "type"), none, .cls { name := "NoNumber", bases := [vr 24], mro := [vr 37, vr 24, (.type "ValueError"), (.type "Exception"), (.type "BaseException"), (.type "object")], ns := 36, qualname := "NoNumber", hasDict := true, subclasses := [] }, #[some (vr 28), none, some (vs "NoNumber" 207), some (vs "NoNumber" 215), some (.builtin "ValueError.__new__"), some (.bool true)]⟩,
 ⟨(.type "super"), none, .fields #[vr 37, vr 37, vr 37], #[]⟩,
 ⟨(.type "builtin_function_or_method"), none, .fields #[(.builtin "object.__init_subclass__"), vr 37], #[]⟩,
 ⟨(.type "tuple"), none, .seq #[vr 24] 0, #[]⟩,
 ⟨(.type "builtin_function_or_method"), none, .fields #[(.builtin "type.__prepare__"), (.type "type")], #[]⟩,
 ⟨(.type "dict"), none, bX w.params 4 [("__module__", 230, vs "scissorhall.errors" 187), ("__qualname__", 232, vs "NoPoint" 231), ("__firstlineno__", 234, (.int 6 233)), ("__static_attributes__", 235, vr 47)], #[]⟩,
 ⟨(.type "tuple"), none, .seq #[] 0, #[]⟩,
 ⟨.none, none, .fields #[], #[]⟩,
 ⟨(.type "code"), none, .fields #[vs "NoPoint" 225, vs "NoPoint" 226, vs "/claim/cut.py" 227, vi 6, vi 0, vi 0, vi 0, vi 0, vr 43, (.bool false), vi 181, vr 44, .none, .none, .none, .none, vi 228, vi 6, vs "/claim/cut.py" 229], #[]⟩,
 ⟨(.type "frame"), none, .plain, #[some (vr 45), some (vr 3), some (vr 42), none, some (vs "scissorhall.errors" 187), none, some (vr 0)]⟩,
 ⟨(.type "tuple"), none, .seq #[] 0, #[]⟩,
 ⟨(.type "dict"), none, bX w.params 2 [("__module__", 230, vs "scissorhall.errors" 187), ("__firstlineno__", 234, (.int 6 233)), ("__static_attributes__", 235, vr 47), ("__doc__", 236, .none)], #[]⟩,
 ⟨(.type "type"), none, .cls { name := "NoPoint", bases := [vr 24], mro := [vr 49, vr 24, (.type "ValueError"), (.type "Exception"), (.type "BaseException"), (.type "object")], ns := 48, qualname := "NoPoint", hasDict := true, subclasses := [] }, #[some (vr 40), none, some (vs "NoPoint" 223), some (vs "NoPoint" 231), some (.builtin "ValueError.__new__"), some (.bool true)]⟩,
 ⟨(.type "super"), none, .fields #[vr 49, vr 49, vr 49], #[]⟩,
 ⟨(.type "builtin_function_or_method"), none, .fields #[(.builtin "object.__init_subclass__"), vr 49], #[]⟩,
 ⟨(.type "tuple"), none, .seq #[vr 24] 0, #[]⟩,
 ⟨(.type "builtin_function_or_method"), none, .fields #[(.builtin "type.__prepare__"), (.type "type")], #[]⟩,
 ⟨(.type "dict"), none, bX w.params 4 [("__module__", 246, vs "scissorhall.errors" 187), ("__qualname__", 248, vs "Flat" 247), ("__firstlineno__", 250, (.int 8 249)), ("__static_attributes__", 251, vr 59)], #[]⟩,
 ⟨(.type "tuple"), none, .seq #[] 0, #[]⟩,
 ⟨.none, none, .fields #[], #[]⟩,
 ⟨(.type "code"), none, .fields #[vs "Flat" 241, vs "Flat" 242, vs "/claim/cut.py" 243, vi 8, vi 0, vi 0, vi 0, vi 0, vr 55, (.bool false), vi 181, vr 56, .none, .none, .none, .none, vi 244, vi 8, vs "/claim/cut.py" 245], #[]⟩,
 ⟨(.type "frame"), none, .plain, #[some (vr 57), some (vr 3), some (vr 54), none, some (vs "scissorhall.errors" 187), none, some (vr 0)]⟩,
 ⟨(.type "tuple"), none, .seq #[] 0, #[]⟩,
 ⟨(.type "dict"), none, bX w.params 2 [("__module__", 246, vs "scissorhall.errors" 187), ("__firstlineno__", 250, (.int 8 249)), ("__static_attributes__", 251, vr 59), ("__doc__", 252, .none)], #[]⟩,
 ⟨(.type "type"), none, .cls { name := "Flat", bases := [vr 24], mro := [vr 61, vr 24, (.type "ValueError"), (.type "Exception"), (.type "BaseException"), (.type "object")], ns := 60, qualname := "Flat", hasDict := true, subclasses := [] }, #[some (vr 52), none, some (vs "Flat" 239), some (vs "Flat" 247), some (.builtin "ValueError.__new__"), some (.bool true)]⟩,
 ⟨(.type "super"), none, .fields #[vr 61, vr 61, vr 61], #[]⟩,
 ⟨(.type "builtin_function_or_method"), none, .fields #[(.builtin "object.__init_subclass__"), vr 61], #[]⟩,
 ⟨(.type "tuple"), none, .seq #[vr 24] 0, #[]⟩,
 ⟨(.type "builtin_function_or_method"), none, .fields #[(.builtin "type.__prepare__"), (.type "type")], #[]⟩,
 ⟨(.type "dict"), none, bX w.params 4 [("__module__", 262, vs "scissorhall.errors" 187), ("__qualname__", 264, vs "NoBlade" 263), ("__firstlineno__", 266, (.int 10 265)), ("__static_attributes__", 267, vr 71)], #[]⟩,
 ⟨(.type "tuple"), none, .seq #[] 0, #[]⟩,
 ⟨.none, none, .fields #[], #[]⟩,
 ⟨(.type "code"), none, .fields #[vs "NoBlade" 257, vs "NoBlade" 258, vs "/claim/cut.py" 259, vi 10, vi 0, vi 0, vi 0, vi 0, vr 67, (.bool false), vi 181, vr 68, .none, .none, .none, .none, vi 260, vi 10, vs "/claim/cut.py" 261], #[]⟩,
 ⟨(.type "frame"), none, .plain, #[some (vr 69), some (vr 3), some (vr 66), none, some (vs "scissorhall.errors" 187), none, some (vr 0)]⟩,
 ⟨(.type "tuple"), none, .seq #[] 0, #[]⟩,
 ⟨(.type "dict"), none, bX w.params 2 [("__module__", 262, vs "scissorhall.errors" 187), ("__firstlineno__", 266, (.int 10 265)), ("__static_attributes__", 267, vr 71), ("__doc__", 268, .none)], #[]⟩,
 ⟨(.type "type"), none, .cls { name := "NoBlade", bases := [vr 24], mro := [vr 73, vr 24, (.type "ValueError"), (.type "Exception"), (.type "BaseException"), (.type "object")], ns := 72, qualname := "NoBlade", hasDict := true, subclasses := [] }, #[some (vr 64), none, some (vs "NoBlade" 255), some (vs "NoBlade" 263), some (.builtin "ValueError.__new__"), some (.bool true)]⟩,
 ⟨(.type "super"), none, .fields #[vr 73, vr 73, vr 73], #[]⟩,
 ⟨(.type "builtin_function_or_method"), none, .fields #[(.builtin "object.__init_subclass__"), vr 73], #[]⟩,
 ⟨(.type "tuple"), none, .seq #[vr 24] 0, #[]⟩,
 ⟨(.type "builtin_function_or_method"), none, .fields #[(.builtin "type.__prepare__"), (.type "type")], #[]⟩,
 ⟨(.type "dict"), none, bX w.params 4 [("__module__", 278, vs "scissorhall.errors" 187), ("__qualname__", 280, vs "NoMove" 279), ("__firstlineno__", 282, (.int 12 281)), ("__static_attributes__", 283, vr 83)], #[]⟩,
 ⟨(.type "tuple"), none, .seq #[] 0, #[]⟩,
 ⟨.none, none, .fields #[], #[]⟩,
 ⟨(.type "code"), none, .fields #[vs "NoMove" 273, vs "NoMove" 274, vs "/claim/cut.py" 275, vi 12, vi 0, vi 0, vi 0, vi 0, vr 79, (.bool false), vi 181, vr 80, .none, .none, .none, .none, vi 276, vi 12, vs "/claim/cut.py" 277], #[]⟩,
 ⟨(.type "frame"), none, .plain, #[some (vr 81), some (vr 3), some (vr 78), none, some (vs "scissorhall.errors" 187), none, some (vr 0)]⟩,
 ⟨(.type "tuple"), none, .seq #[] 0, #[]⟩,
 ⟨(.type "dict"), none, bX w.params 2 [("__module__", 278, vs "scissorhall.errors" 187), ("__firstlineno__", 282, (.int 12 281)), ("__static_attributes__", 283, vr 83), ("__doc__", 284, .none)], #[]⟩,
 ⟨(.type "type"), none, .cls { name := "NoMove", bases := [vr 24], mro := [vr 85, vr 24, (.type "ValueError"), (.type "Exception"), (.type "BaseException"), (.type "object")], ns := 84, qualname := "NoMove", hasDict := true, subclasses := [] }, #[some (vr 76), none, some (vs "NoMove" 271), some (vs "NoMove" 279), some (.builtin "ValueError.__new__"), some (.bool true)]⟩,
 ⟨(.type "super"), none, .fields #[vr 85, vr 85, vr 85], #[]⟩,
 ⟨(.type "builtin_function_or_method"), none, .fields #[(.builtin "object.__init_subclass__"), vr 85], #[]⟩,
 ⟨(.type "tuple"), none, .seq #[vr 24] 0, #[]⟩,
 ⟨(.type "builtin_function_or_method"), none, .fields #[(.builtin "type.__prepare__"), (.type "type")], #[]⟩,
 ⟨(.type "dict"), none, bX w.params 4 [("__module__", 294, vs "scissorhall.errors" 187), ("__qualname__", 296, vs "OnSide" 295), ("__firstlineno__", 298, (.int 14 297)), ("__static_attributes__", 299, vr 95)], #[]⟩,
 ⟨(.type "tuple"), none, .seq #[] 0, #[]⟩,
 ⟨.none, none, .fields #[], #[]⟩,
 ⟨(.type "code"), none, .fields #[vs "OnSide" 289, vs "OnSide" 290, vs "/claim/cut.py" 291, vi 14, vi 0, vi 0, vi 0, vi 0, vr 91, (.bool false), vi 181, vr 92, .none, .none, .none, .none, vi 292, vi 14, vs "/claim/cut.py" 293], #[]⟩,
 ⟨(.type "frame"), none, .plain, #[some (vr 93), some (vr 3), some (vr 90), none, some (vs "scissorhall.errors" 187), none, some (vr 0)]⟩,
 ⟨(.type "tuple"), none, .seq #[] 0, #[]⟩,
 ⟨(.type "dict"), none, bX w.params 2 [("__module__", 294, vs "scissorhall.errors" 187), ("__firstlineno__", 298, (.int 14 297)), ("__static_attributes__", 299, vr 95), ("__doc__", 300, .none)], #[]⟩,
 ⟨(.type "type"), none, .cls { name := "OnSide", bases := [vr 24], mro := [vr 97, vr 24, (.type "ValueError"), (.type "Exception"), (.type "BaseException"), (.type "object")], ns := 96, qualname := "OnSide", hasDict := true, subclasses := [] }, #[some (vr 88), none, some (vs "OnSide" 287), some (vs "OnSide" 295), some (.builtin "ValueError.__new__"), some (.bool true)]⟩,
 ⟨(.type "super"), none, .fields #[vr 97, vr 97, vr 97], #[]⟩,
 ⟨(.type "builtin_function_or_method"), none, .fields #[(.builtin "object.__init_subclass__"), vr 97], #[]⟩,
 ⟨(.type "tuple"), none, .seq #[vr 24] 0, #[]⟩,
 ⟨(.type "builtin_function_or_method"), none, .fields #[(.builtin "type.__prepare__"), (.type "type")], #[]⟩,
 ⟨(.type "dict"), none, bX w.params 4 [("__module__", 310, vs "scissorhall.errors" 187), ("__qualname__", 312, vs "NotSame" 311), ("__firstlineno__", 314, (.int 16 313)), ("__static_attributes__", 315, vr 107)], #[]⟩,
 ⟨(.type "tuple"), none, .seq #[] 0, #[]⟩,
 ⟨.none, none, .fields #[], #[]⟩,
 ⟨(.type "code"), none, .fields #[vs "NotSame" 305, vs "NotSame" 306, vs "/claim/cut.py" 307, vi 16, vi 0, vi 0, vi 0, vi 0, vr 103, (.bool false), vi 181, vr 104, .none, .none, .none, .none, vi 308, vi 16, vs "/claim/cut.py" 309], #[]⟩,
 ⟨(.type "frame"), none, .plain, #[some (vr 105), some (vr 3), some (vr 102), none, some (vs "scissorhall.errors" 187), none, some (vr 0)]⟩,
 ⟨(.type "tuple"), none, .seq #[] 0, #[]⟩,
 ⟨(.type "dict"), none, bX w.params 2 [("__module__", 310, vs "scissorhall.errors" 187), ("__firstlineno__", 314, (.int 16 313)), ("__static_attributes__", 315, vr 107), ("__doc__", 316, .none)], #[]⟩,
 ⟨(.type "type"), none, .cls { name := "NotSame", bases := [vr 24], mro := [vr 109, vr 24, (.type "ValueError"), (.type "Exception"), (.type "BaseException"), (.type "object")], ns := 108, qualname := "NotSame", hasDict := true, subclasses := [] }, #[some (vr 100), none, some (vs "NotSame" 303), some (vs "NotSame" 311), some (.builtin "ValueError.__new__"), some (.bool true)]⟩,
 ⟨(.type "super"), none, .fields #[vr 109, vr 109, vr 109], #[]⟩,
 ⟨(.type "builtin_function_or_method"), none, .fields #[(.builtin "object.__init_subclass__"), vr 109], #[]⟩,
 ⟨(.type "tuple"), none, .seq #[vr 24] 0, #[]⟩,
 ⟨(.type "builtin_function_or_method"), none, .fields #[(.builtin "type.__prepare__"), (.type "type")], #[]⟩,
 ⟨(.type "dict"), none, bX w.params 4 [("__module__", 326, vs "scissorhall.errors" 187), ("__qualname__", 328, vs "OtherSize" 327), ("__firstlineno__", 330, (.int 18 329)), ("__static_attributes__", 331, vr 119)], #[]⟩,
 ⟨(.type "tuple"), none, .seq #[] 0, #[]⟩,
 ⟨.none, none, .fields #[], #[]⟩,
 ⟨(.type "code"), none, .fields #[vs "OtherSize" 321, vs "OtherSize" 322, vs "/claim/cut.py" 323, vi 18, vi 0, vi 0, vi 0, vi 0, vr 115, (.bool false), vi 181, vr 116, .none, .none, .none, .none, vi 324, vi 18, vs "/claim/cut.py" 325], #[]⟩,
 ⟨(.type "frame"), none, .plain, #[some (vr 117), some (vr 3), some (vr 114), none, some (vs "scissorhall.errors" 187), none, some (vr 0)]⟩,
 ⟨(.type "tuple"), none, .seq #[] 0, #[]⟩,
 ⟨(.type "dict"), none, bX w.params 2 [("__module__", 326, vs "scissorhall.errors" 187), ("__firstlineno__", 330, (.int 18 329)), ("__static_attributes__", 331, vr 119), ("__doc__", 332, .none)], #[]⟩,
 ⟨(.type "type"), none, .cls { name := "OtherSize", bases := [vr 24], mro := [vr 121, vr 24, (.type "ValueError"), (.type "Exception"), (.type "BaseException"), (.type "object")], ns := 120, qualname := "OtherSize", hasDict := true, subclasses := [] }, #[some (vr 112), none, some (vs "OtherSize" 319), some (vs "OtherSize" 327), some (.builtin "ValueError.__new__"), some (.bool true)]⟩,
 ⟨(.type "super"), none, .fields #[vr 121, vr 121, vr 121], #[]⟩,
 ⟨(.type "builtin_function_or_method"), none, .fields #[(.builtin "object.__init_subclass__"), vr 121], #[]⟩,
 ⟨(.type "tuple"), none, .seq #[vr 24] 0, #[]⟩,
 ⟨(.type "builtin_function_or_method"), none, .fields #[(.builtin "type.__prepare__"), (.type "type")], #[]⟩,
 ⟨(.type "dict"), none, bX w.params 4 [("__module__", 342, vs "scissorhall.errors" 187), ("__qualname__", 344, vs "Backward" 343), ("__firstlineno__", 346, (.int 20 345)), ("__static_attributes__", 347, vr 131)], #[]⟩,
 ⟨(.type "tuple"), none, .seq #[] 0, #[]⟩,
 ⟨.none, none, .fields #[], #[]⟩,
 ⟨(.type "code"), none, .fields #[vs "Backward" 337, vs "Backward" 338, vs "/claim/cut.py" 339, vi 20, vi 0, vi 0, vi 0, vi 0, vr 127, (.bool false), vi 181, vr 128, .none, .none, .none, .none, vi 340, vi 20, vs "/claim/cut.py" 341], #[]⟩,
 ⟨(.type "frame"), none, .plain, #[some (vr 129), some (vr 3), some (vr 126), none, some (vs "scissorhall.errors" 187), none, some (vr 0)]⟩,
 ⟨(.type "tuple"), none, .seq #[] 0, #[]⟩,
 ⟨(.type "dict"), none, bX w.params 2 [("__module__", 342, vs "scissorhall.errors" 187), ("__firstlineno__", 346, (.int 20 345)), ("__static_attributes__", 347, vr 131), ("__doc__", 348, .none)], #[]⟩,
 ⟨(.type "type"), none, .cls { name := "Backward", bases := [vr 24], mro := [vr 133, vr 24, (.type "ValueError"), (.type "Exception"), (.type "BaseException"), (.type "object")], ns := 132, qualname := "Backward", hasDict := true, subclasses := [] }, #[some (vr 124), none, some (vs "Backward" 335), some (vs "Backward" 343), some (.builtin "ValueError.__new__"), some (.bool true)]⟩,
 ⟨(.type "super"), none, .fields #[vr 133, vr 133, vr 133], #[]⟩,
 ⟨(.type "builtin_function_or_method"), none, .fields #[(.builtin "object.__init_subclass__"), vr 133], #[]⟩,
 ⟨(.type "tuple"), none, .seq #[vr 24] 0, #[]⟩,
 ⟨(.type "builtin_function_or_method"), none, .fields #[(.builtin "type.__prepare__"), (.type "type")], #[]⟩,
 ⟨(.type "dict"), none, bX w.params 4 [("__module__", 358, vs "scissorhall.errors" 187), ("__qualname__", 360, vs "NoBox" 359), ("__firstlineno__", 362, (.int 22 361)), ("__static_attributes__", 363, vr 143)], #[]⟩,
 ⟨(.type "tuple"), none, .seq #[] 0, #[]⟩,
 ⟨.none, none, .fields #[], #[]⟩,
 ⟨(.type "code"), none, .fields #[vs "NoBox" 353, vs "NoBox" 354, vs "/claim/cut.py" 355, vi 22, vi 0, vi 0, vi 0, vi 0, vr 139, (.bool false), vi 181, vr 140, .none, .none, .none, .none, vi 356, vi 22, vs "/claim/cut.py" 357], #[]⟩,
 ⟨(.type "frame"), none, .plain, #[some (vr 141), some (vr 3), some (vr 138), none, some (vs "scissorhall.errors" 187), none, some (vr 0)]⟩,
 ⟨(.type "tuple"), none, .seq #[] 0, #[]⟩,
 ⟨(.type "dict"), none, bX w.params 2 [("__module__", 358, vs "scissorhall.errors" 187), ("__firstlineno__", 362, (.int 22 361)), ("__static_attributes__", 363, vr 143), ("__doc__", 364, .none)], #[]⟩,
 ⟨(.type "type"), none, .cls { name := "NoBox", bases := [vr 24], mro := [vr 145, vr 24, (.type "ValueError"), (.type "Exception"), (.type "BaseException"), (.type "object")], ns := 144, qualname := "NoBox", hasDict := true, subclasses := [] }, #[some (vr 136), none, some (vs "NoBox" 351), some (vs "NoBox" 359), some (.builtin "ValueError.__new__"), some (.bool true)]⟩,
 ⟨(.type "super"), none, .fields #[vr 145, vr 145, vr 145], #[]⟩,
 ⟨(.type "builtin_function_or_method"), none, .fields #[(.builtin "object.__init_subclass__"), vr 145], #[]⟩,
 ⟨(.type "tuple"), none, .seq #[vr 24] 0, #[]⟩,
 ⟨(.type "builtin_function_or_method"), none, .fields #[(.builtin "type.__prepare__"), (.type "type")], #[]⟩,
 ⟨(.type "dict"), none, bX w.params 4 [("__module__", 374, vs "scissorhall.errors" 187), ("__qualname__", 376, vs "NoText" 375), ("__firstlineno__", 378, (.int 24 377)), ("__static_attributes__", 379, vr 155)], #[]⟩,
 ⟨(.type "tuple"), none, .seq #[] 0, #[]⟩,
 ⟨.none, none, .fields #[], #[]⟩,
 ⟨(.type "code"), none, .fields #[vs "NoText" 369, vs "NoText" 370, vs "/claim/cut.py" 371, vi 24, vi 0, vi 0, vi 0, vi 0, vr 151, (.bool false), vi 181, vr 152, .none, .none, .none, .none, vi 372, vi 24, vs "/claim/cut.py" 373], #[]⟩,
 ⟨(.type "frame"), none, .plain, #[some (vr 153), some (vr 3), some (vr 150), none, some (vs "scissorhall.errors" 187), none, some (vr 0)]⟩,
 ⟨(.type "tuple"), none, .seq #[] 0, #[]⟩,
 ⟨(.type "dict"), none, bX w.params 2 [("__module__", 374, vs "scissorhall.errors" 187), ("__firstlineno__", 378, (.int 24 377)), ("__static_attributes__", 379, vr 155), ("__doc__", 380, .none)], #[]⟩,
 ⟨(.type "type"), none, .cls { name := "NoText", bases := [vr 24], mro := [vr 157, vr 24, (.type "ValueError"), (.type "Exception"), (.type "BaseException"), (.type "object")], ns := 156, qualname := "NoText", hasDict := true, subclasses := [] }, #[some (vr 148), none, some (vs "NoText" 367), some (vs "NoText" 375), some (.builtin "ValueError.__new__"), some (.bool true)]⟩,
 ⟨(.type "super"), none, .fields #[vr 157, vr 157, vr 157], #[]⟩,
 ⟨(.type "builtin_function_or_method"), none, .fields #[(.builtin "object.__init_subclass__"), vr 157], #[]⟩,
 ⟨(.type "tuple"), none, .seq #[vr 24] 0, #[]⟩,
 ⟨(.type "builtin_function_or_method"), none, .fields #[(.builtin "type.__prepare__"), (.type "type")], #[]⟩,
 ⟨(.type "dict"), none, bX w.params 4 [("__module__", 390, vs "scissorhall.errors" 187), ("__qualname__", 392, vs "TooGreat" 391), ("__firstlineno__", 394, (.int 26 393)), ("__static_attributes__", 395, vr 167)], #[]⟩,
 ⟨(.type "tuple"), none, .seq #[] 0, #[]⟩,
 ⟨.none, none, .fields #[], #[]⟩,
 ⟨(.type "code"), none, .fields #[vs "TooGreat" 385, vs "TooGreat" 386, vs "/claim/cut.py" 387, vi 26, vi 0, vi 0, vi 0, vi 0, vr 163, (.bool false), vi 181, vr 164, .none, .none, .none, .none, vi 388, vi 26, vs "/claim/cut.py" 389], #[]⟩,
 ⟨(.type "frame"), none, .plain, #[some (vr 165), some (vr 3), some (vr 162), none, some (vs "scissorhall.errors" 187), none, some (vr 0)]⟩,
 ⟨(.type "tuple"), none, .seq #[] 0, #[]⟩,
 ⟨(.type "dict"), none, bX w.params 2 [("__module__", 390, vs "scissorhall.errors" 187), ("__firstlineno__", 394, (.int 26 393)), ("__static_attributes__", 395, vr 167), ("__doc__", 396, .none)], #[]⟩,
 ⟨(.type "type"), none, .cls { name := "TooGreat", bases := [vr 24], mro := [vr 169, vr 24, (.type "ValueError"), (.type "Exception"), (.type "BaseException"), (.type "object")], ns := 168, qualname := "TooGreat", hasDict := true, subclasses := [] }, #[some (vr 160), none, some (vs "TooGreat" 383), some (vs "TooGreat" 391), some (.builtin "ValueError.__new__"), some (.bool true)]⟩,
 ⟨(.type "super"), none, .fields #[vr 169, vr 169, vr 169], #[]⟩,
 ⟨(.type "builtin_function_or_method"), none, .fields #[(.builtin "object.__init_subclass__"), vr 169], #[]⟩,
 ⟨(.type "tuple"), none, .seq #[vr 24] 0, #[]⟩,
 ⟨(.type "builtin_function_or_method"), none, .fields #[(.builtin "type.__prepare__"), (.type "type")], #[]⟩,
 ⟨(.type "dict"), none, bX w.params 4 [("__module__", 406, vs "scissorhall.errors" 187), ("__qualname__", 408, vs "NoRow" 407), ("__firstlineno__", 410, (.int 28 409)), ("__static_attributes__", 411, vr 179)], #[]⟩,
 ⟨(.type "tuple"), none, .seq #[] 0, #[]⟩,
 ⟨.none, none, .fields #[], #[]⟩,
 ⟨(.type "code"), none, .fields #[vs "NoRow" 401, vs "NoRow" 402, vs "/claim/cut.py" 403, vi 28, vi 0, vi 0, vi 0, vi 0, vr 175, (.bool false), vi 181, vr 176, .none, .none, .none, .none, vi 404, vi 28, vs "/claim/cut.py" 405], #[]⟩,
 ⟨(.type "frame"), none, .plain, #[some (vr 177), some (vr 3), some (vr 174), none, some (vs "scissorhall.errors" 187), none, some (vr 0)]⟩,
 ⟨(.type "tuple"), none, .seq #[] 0, #[]⟩,
 ⟨(.type "dict"), none, bX w.params 2 [("__module__", 406, vs "scissorhall.errors" 187), ("__firstlineno__", 410, (.int 28 409)), ("__static_attributes__", 411, vr 179), ("__doc__", 412, .none)], #[]⟩,
 ⟨(.type "type"), none, .cls { name := "NoRow", bases := [vr 24], mro := [vr 181, vr 24, (.type "ValueError"), (.type "Exception"), (.type "BaseException"), (.type "object")], ns := 180, qualname := "NoRow", hasDict := true, subclasses := [] }, #[some (vr 172), none, some (vs "NoRow" 399), some (vs "NoRow" 407), some (.builtin "ValueError.__new__"), some (.bool true)]⟩,
 ⟨(.type "super"), none, .fields #[vr 181, vr 181, vr 181], #[]⟩,
 ⟨(.type "builtin_function_or_method"), none, .fields #[(.builtin "object.__init_subclass__"), vr 181], #[]⟩]
def aF(w:ah)(a:Nat):Obj:=(yQ w).getD a default
theorem A2:∀w,yP w 2976 (gK w) (topStub cv)=some ((oA w (yQ w) 415),(tQ w 15 ⟨28,0,29,8⟩)):=by
 intro w
 kernel_rfl
def yY (w : ah) : List Obj := [nW w 0,
 aF w 1,
 aF w 2,
 ⟨(.type "dict"), none, bX w.params 29 [("__name__", 165, vs "scissorhall.errors" 187), ("__doc__", 166, .none), ("__package__", 167, .none), ("__loader__", 168, (.builtin "__main__.__loader__#opaque")), ("__spec__", 169, .none), ("__annotations__", 170, vr 6), ("__builtins__", 171, vr 4), ("__file__", 173, vs "/claim/cut.py" 172), ("__cached__", 174, .none), ("HallError", 206, vr 24), ("NoNumber", 222, vr 37), ("NoPoint", 238, vr 49), ("Flat", 254, vr 61), ("NoBlade", 270, vr 73), ("NoMove", 286, vr 85), ("OnSide", 302, vr 97), ("NotSame", 318, vr 109), ("OtherSize", 334, vr 121), ("Backward", 350, vr 133), ("NoBox", 366, vr 145), ("NoText", 382, vr 157), ("TooGreat", 398, vr 169), ("NoRow", 414, vr 181), ("NoName", 430, vr 193), ("NoUndo", 446, vr 205), ("NoAgain", 462, vr 217), ("OtherKind", 478, vr 229), ("OtherSum", 503, vr 248), ("TooWide", 530, vr 267)], #[]⟩,
 aF w 4,
 aF w 5,
 aF w 6,
 aF w 7,
 aF w 8,
 aF w 9,
 aF w 10,
 aF w 11,
 ⟨.none, none, .fields #[vi 2, vi 0, vr 20, vi 4, vi 0, vr 33, vi 6, vi 0, vr 45, vi 8, vi 0, vr 57, vi 10, vi 0, vr 69, vi 12, vi 0, vr 81, vi 14, vi 0, vr 93, vi 16, vi 0, vr 105, vi 18, vi 0, vr 117, vi 20, vi 0, vr 129, vi 22, vi 0, vr 141, vi 24, vi 0, vr 153, vi 26, vi 0, vr 165, vi 28, vi 0, vr 177, vi 30, vi 0, vr 189, vi 32, vi 0, vr 201, vi 34, vi 0, vr 213, vi 36, vi 0, vr 225, vi 38, vi 0, vr 237, vi 42, vi 0, vr 256], #[]⟩,
 aF w 13,
 aF w 14,
 aF w 15,
 aF w 16,
 aF w 17,
 aF w 18,
 aF w 19,
 aF w 20,
 aF w 21,
 aF w 22,
 aF w 23,
 ⟨(.type "type"), none, .cls { name := "HallError", bases := [(.type "ValueError")], mro := [vr 24, (.type "ValueError"), (.type "Exception"), (.type "BaseException"), (.type "object")], ns := 23, qualname := "HallError", hasDict := true, subclasses := [vr 37, vr 49, vr 61, vr 73, vr 85, vr 97, vr 109, vr 121, vr 133, vr 145, vr 157, vr 169, vr 181, vr 193, vr 205, vr 217, vr 229, vr 248, vr 267] }, #[some (vr 15), none, some (vs "HallError" 189), some (vs "HallError" 197), some (.builtin "ValueError.__new__"), some (.bool true)]⟩,
 aF w 25,
 aF w 26,
 aF w 27,
 aF w 28,
 aF w 29,
 aF w 30,
 aF w 31,
 aF w 32,
 aF w 33,
 aF w 34,
 aF w 35,
 aF w 36,
 aF w 37,
 aF w 38,
 aF w 39,
 aF w 40,
 aF w 41,
 aF w 42,
 aF w 43,
 aF w 44,
 aF w 45,
 aF w 46,
 aF w 47,
 aF w 48,
 aF w 49,
 aF w 50,
 aF w 51,
 aF w 52,
 aF w 53,
 aF w 54,
 aF w 55,
 aF w 56,
 aF w 57,
 aF w 58,
 aF w 59,
 aF w 60,
 aF w 61,
 aF w 62,
 aF w 63,
 aF w 64,
 aF w 65,
 aF w 66,
 aF w 67,
 aF w 68,
 aF w 69,
 aF w 70,
 aF w 71,
 aF w 72,
 aF w 73,
 aF w 74,
 aF w 75,
 aF w 76,
 aF w 77,
 aF w 78,
 aF w 79,
 aF w 80,
 aF w 81,
 aF w 82,
 aF w 83,
 aF w 84,
 aF w 85,
 aF w 86,
 aF w 87,
 aF w 88,
 aF w 89,
 aF w 90,
 aF w 91,
 aF w 92,
 aF w 93,
 aF w 94,
 aF w 95,
 aF w 96,
 aF w 97,
 aF w 98,
 aF w 99,
 aF w 100,
 aF w 101,
 aF w 102,
 aF w 103,
 aF w 104,
 aF w 105,
 aF w 106,
 aF w 107,
 aF w 108,
 aF w 109,
 aF w 110,
 aF w 111,
 aF w 112,
 aF w 113,
 aF w 114,
 aF w 115,
 aF w 116,
 aF w 117,
 aF w 118,
 aF w 119,
 aF w 120,
 aF w 121,
 aF w 122,
 aF w 123,
 aF w 124,
 aF w 125,
 aF w 126,
 aF w 127,
 aF w 128,
 aF w 129,
 aF w 130,
 aF w 131,
 aF w 132,
 aF w 133,
 aF w 134,
 aF w 135,
 aF w 136,
 aF w 137,
 aF w 138,
 aF w 139,
 aF w 140,
 aF w 141,
 aF w 142,
 aF w 143,
 aF w 144,
 aF w 145,
 aF w 146,
 aF w 147,
 aF w 148,
 aF w 149,
 aF w 150,
 aF w 151,
 aF w 152,
 aF w 153,
 aF w 154,
 aF w 155,
 aF w 156,
 aF w 157,
 aF w 158,
 aF w 159,
 aF w 160,
 aF w 161,
 aF w 162,
 aF w 163,
 aF w 164,
 aF w 165,
 aF w 166,
 aF w 167,
 aF w 168,
 aF w 169,
 aF w 170,
 aF w 171,
 aF w 172,
 aF w 173,
 aF w 174,
 aF w 175,
 aF w 176,
 aF w 177,
 aF w 178,
 aF w 179,
 aF w 180,
 aF w 181,
 aF w 182,
 aF w 183,
 ⟨(.type "tuple"), none, .seq #[vr 24] 0, #[]⟩,
 ⟨(.type "builtin_function_or_method"), none, .fields #[(.builtin "type.__prepare__"), (.type "type")], #[]⟩,
 ⟨(.type "dict"), none, bX w.params 4 [("__module__", 422, vs "scissorhall.errors" 187), ("__qualname__", 424, vs "NoName" 423), ("__firstlineno__", 426, (.int 30 425)), ("__static_attributes__", 427, vr 191)], #[]⟩,
 ⟨(.type "tuple"), none, .seq #[] 0, #[]⟩,
 ⟨.none, none, .fields #[], #[]⟩,
 ⟨(.type "code"), none, .fields #[vs "NoName" 417, vs "NoName" 418, vs "/claim/cut.py" 419, vi 30, vi 0, vi 0, vi 0, vi 0, vr 187, (.bool false), vi 181, vr 188, .none, .none, .none, .none, vi 420, vi 30, vs "/claim/cut.py" 421], #[]⟩,
 ⟨(.type "frame"), none, .plain, #[some (vr 189), some (vr 3), some (vr 186), none, some (vs "scissorhall.errors" 187), none, some (vr 0)]⟩,
 ⟨(.type "tuple"), none, .seq #[] 0, #[]⟩,
 ⟨(.type "dict"), none, bX w.params 2 [("__module__", 422, vs "scissorhall.errors" 187), ("__firstlineno__", 426, (.int 30 425)), ("__static_attributes__", 427, vr 191), ("__doc__", 428, .none)], #[]⟩,
 ⟨(.type "type"), none, .cls { name := "NoName", bases := [vr 24], mro := [vr 193, vr 24, (.type "ValueError"), (.type "Exception"), (.type "BaseException"), (.type "object")], ns := 192, qualname := "NoName", hasDict := true, subclasses := [] }, #[some (vr 184), none, some (vs "NoName" 415), some (vs "NoName" 423), some (.builtin "ValueError.__new__"), some (.bool true)]⟩,
 ⟨(.type "super"), none, .fields #[vr 193, vr 193, vr 193], #[]⟩,
 ⟨(.type "builtin_function_or_method"), none, .fields #[(.builtin "object.__init_subclass__"), vr 193], #[]⟩,
 ⟨(.type "tuple"), none, .seq #[vr 24] 0, #[]⟩,
 ⟨(.type "builtin_function_or_method"), none, .fields #[(.builtin "type.__prepare__"), (.type "type")], #[]⟩,
 ⟨(.type "dict"), none, bX w.params 4 [("__module__", 438, vs "scissorhall.errors" 187), ("__qualname__", 440, vs "NoUndo" 439), ("__firstlineno__", 442, (.int 32 441)), ("__static_attributes__", 443, vr 203)], #[]⟩,
 ⟨(.type "tuple"), none, .seq #[] 0, #[]⟩,
 ⟨.none, none, .fields #[], #[]⟩,
 ⟨(.type "code"), none, .fields #[vs "NoUndo" 433, vs "NoUndo" 434, vs "/claim/cut.py" 435, vi 32, vi 0, vi 0, vi 0, vi 0, vr 199, (.bool false), vi 181, vr 200, .none, .none, .none, .none, vi 436, vi 32, vs "/claim/cut.py" 437], #[]⟩,
 ⟨(.type "frame"), none, .plain, #[some (vr 201), some (vr 3), some (vr 198), none, some (vs "scissorhall.errors" 187), none, some (vr 0)]⟩,
 ⟨(.type "tuple"), none, .seq #[] 0, #[]⟩,
 ⟨(.type "dict"), none, bX w.params 2 [("__module__", 438, vs "scissorhall.errors" 187), ("__firstlineno__", 442, (.int 32 441)), ("__static_attributes__", 443, vr 203), ("__doc__", 444, .none)], #[]⟩,
 ⟨(.type "type"), none, .cls { name := "NoUndo", bases := [vr 24], mro := [vr 205, vr 24, (.type "ValueError"), (.type "Exception"), (.type "BaseException"), (.type "object")], ns := 204, qualname := "NoUndo", hasDict := true, subclasses := [] }, #[some (vr 196), none, some (vs "NoUndo" 431), some (vs "NoUndo" 439), some (.builtin "ValueError.__new__"), some (.bool true)]⟩,
 ⟨(.type "super"), none, .fields #[vr 205, vr 205, vr 205], #[]⟩,
 ⟨(.type "builtin_function_or_method"), none, .fields #[(.builtin "object.__init_subclass__"), vr 205], #[]⟩,
 ⟨(.type "tuple"), none, .seq #[vr 24] 0, #[]⟩,
 ⟨(.type "builtin_function_or_method"), none, .fields #[(.builtin "type.__prepare__"), (.type "type")], #[]⟩,
 ⟨(.type "dict"), none, bX w.params 4 [("__module__", 454, vs "scissorhall.errors" 187), ("__qualname__", 456, vs "NoAgain" 455), ("__firstlineno__", 458, (.int 34 457)), ("__static_attributes__", 459, vr 215)], #[]⟩,
 ⟨(.type "tuple"), none, .seq #[] 0, #[]⟩,
 ⟨.none, none, .fields #[], #[]⟩,
 ⟨(.type "code"), none, .fields #[vs "NoAgain" 449, vs "NoAgain" 450, vs "/claim/cut.py" 451, vi 34, vi 0, vi 0, vi 0, vi 0, vr 211, (.bool false), vi 181, vr 212, .none, .none, .none, .none, vi 452, vi 34, vs "/claim/cut.py" 453], #[]⟩,
 ⟨(.type "frame"), none, .plain, #[some (vr 213), some (vr 3), some (vr 210), none, some (vs "scissorhall.errors" 187), none, some (vr 0)]⟩,
 ⟨(.type "tuple"), none, .seq #[] 0, #[]⟩,
 ⟨(.type "dict"), none, bX w.params 2 [("__module__", 454, vs "scissorhall.errors" 187), ("__firstlineno__", 458, (.int 34 457)), ("__static_attributes__", 459, vr 215), ("__doc__", 460, .none)], #[]⟩,
 ⟨(.type "type"), none, .cls { name := "NoAgain", bases := [vr 24], mro := [vr 217, vr 24, (.type "ValueError"), (.type "Exception"), (.type "BaseException"), (.type "object")], ns := 216, qualname := "NoAgain", hasDict := true, subclasses := [] }, #[some (vr 208), none, some (vs "NoAgain" 447), some (vs "NoAgain" 455), some (.builtin "ValueError.__new__"), some (.bool true)]⟩,
 ⟨(.type "super"), none, .fields #[vr 217, vr 217, vr 217], #[]⟩,
 ⟨(.type "builtin_function_or_method"), none, .fields #[(.builtin "object.__init_subclass__"), vr 217], #[]⟩,
 ⟨(.type "tuple"), none, .seq #[vr 24] 0, #[]⟩,
 ⟨(.type "builtin_function_or_method"), none, .fields #[(.builtin "type.__prepare__"), (.type "type")], #[]⟩,
 ⟨(.type "dict"), none, bX w.params 4 [("__module__", 470, vs "scissorhall.errors" 187), ("__qualname__", 472, vs "OtherKind" 471), ("__firstlineno__", 474, (.int 36 473)), ("__static_attributes__", 475, vr 227)], #[]⟩,
 ⟨(.type "tuple"), none, .seq #[] 0, #[]⟩,
 ⟨.none, none, .fields #[], #[]⟩,
 ⟨(.type "code"), none, .fields #[vs "OtherKind" 465, vs "OtherKind" 466, vs "/claim/cut.py" 467, vi 36, vi 0, vi 0, vi 0, vi 0, vr 223, (.bool false), vi 181, vr 224, .none, .none, .none, .none, vi 468, vi 36, vs "/claim/cut.py" 469], #[]⟩,
 ⟨(.type "frame"), none, .plain, #[some (vr 225), some (vr 3), some (vr 222), none, some (vs "scissorhall.errors" 187), none, some (vr 0)]⟩,
 ⟨(.type "tuple"), none, .seq #[] 0, #[]⟩,
 ⟨(.type "dict"), none, bX w.params 2 [("__module__", 470, vs "scissorhall.errors" 187), ("__firstlineno__", 474, (.int 36 473)), ("__static_attributes__", 475, vr 227), ("__doc__", 476, .none)], #[]⟩,
 ⟨(.type "type"), none, .cls { name := "OtherKind", bases := [vr 24], mro := [vr 229, vr 24, (.type "ValueError"), (.type "Exception"), (.type "BaseException"), (.type "object")], ns := 228, qualname := "OtherKind", hasDict := true, subclasses := [] }, #[some (vr 220), none, some (vs "OtherKind" 463), some (vs "OtherKind" 471), some (.builtin "ValueError.__new__"), some (.bool true)]⟩,
 ⟨(.type "super"), none, .fields #[vr 229, vr 229, vr 229], #[]⟩,
 ⟨(.type "builtin_function_or_method"), none, .fields #[(.builtin "object.__init_subclass__"), vr 229], #[]⟩,
 ⟨(.type "tuple"), none, .seq #[vr 24] 0, #[]⟩,
 ⟨(.type "builtin_function_or_method"), none, .fields #[(.builtin "type.__prepare__"), (.type "type")], #[]⟩,
 ⟨(.type "dict"), none, bX w.params 5 [("__module__", 486, vs "scissorhall.errors" 187), ("__qualname__", 488, vs "OtherSum" 487), ("__firstlineno__", 490, (.int 38 489)), ("__init__", 498, vr 245), ("__static_attributes__", 500, vr 246)], #[]⟩,
 ⟨(.type "tuple"), none, .seq #[] 0, #[]⟩,
 ⟨.none, none, .fields #[vi 40, vi 4, vr 244], #[]⟩,
 ⟨(.type "code"), none, .fields #[vs "OtherSum" 481, vs "OtherSum" 482, vs "/claim/cut.py" 483, vi 38, vi 0, vi 0, vi 0, vi 0, vr 235, (.bool false), vi 181, vr 236, .none, .none, .none, .none, vi 484, vi 38, vs "/claim/cut.py" 485], #[]⟩,
 ⟨(.type "frame"), none, .plain, #[some (vr 237), some (vr 3), some (vr 234), none, some (vs "scissorhall.errors" 187), none, some (vr 0)]⟩,
 ⟨(.type "tuple"), none, .seq #[] 0, #[]⟩,
 ⟨.none, none, .fields #[], #[]⟩,
 ⟨(.type "tuple"), none, .seq #[vs "self" 494, vs "key" 495] 0, #[]⟩,
 ⟨(.type "tuple"), none, .seq #[] 0, #[]⟩,
 ⟨.none, none, .func ({ cc (bf "__init__") (bf "OtherSum.__init__") (dG (dN 19 0)) (cG (dN 19 0)) (bK (dN 19 0)) .none .none .none .none none .none .none with globals := 0 }), #[]⟩,
 ⟨(.type "code"), none, .fields #[vs "__init__" 491, vs "OtherSum.__init__" 492, vs "/claim/cut.py" 493, vi 40, vi 2, vi 0, vi 0, vi 3, vr 239, (.bool true), vi 181, vr 240, .none, vr 241, vr 242, vr 243, vi 496, vi 40, vs "/claim/cut.py" 497], #[]⟩,
 ⟨(.type "function"), none, .func (cc (bf "__init__") (bf "OtherSum.__init__") (dG (dN 19 0)) (cG (dN 19 0)) (bK (dN 19 0)) .none .none .none (vs "scissorhall.errors" 187) none (vr 244) .none), #[]⟩,
 ⟨(.type "tuple"), none, .seq #[vs "key" 499] 0, #[]⟩,
 ⟨(.type "dict"), none, bX w.params 2 [("__module__", 486, vs "scissorhall.errors" 187), ("__firstlineno__", 490, (.int 38 489)), ("__init__", 498, vr 245), ("__static_attributes__", 500, vr 246), ("__doc__", 501, .none)], #[]⟩,
 ⟨(.type "type"), none, .cls { name := "OtherSum", bases := [vr 24], mro := [vr 248, vr 24, (.type "ValueError"), (.type "Exception"), (.type "BaseException"), (.type "object")], ns := 247, qualname := "OtherSum", hasDict := true, subclasses := [] }, #[some (vr 232), none, some (vs "OtherSum" 479), some (vs "OtherSum" 487), some (.builtin "ValueError.__new__"), some (.bool true)]⟩,
 ⟨(.type "super"), none, .fields #[vr 248, vr 248, vr 248], #[]⟩,
 ⟨(.type "builtin_function_or_method"), none, .fields #[(.builtin "object.__init_subclass__"), vr 248], #[]⟩,
 ⟨(.type "tuple"), none, .seq #[vr 24] 0, #[]⟩,
 ⟨(.type "builtin_function_or_method"), none, .fields #[(.builtin "type.__prepare__"), (.type "type")], #[]⟩,
 ⟨(.type "dict"), none, bX w.params 5 [("__module__", 511, vs "scissorhall.errors" 187), ("__qualname__", 513, vs "TooWide" 512), ("__firstlineno__", 515, (.int 42 514)), ("__init__", 524, vr 264), ("__static_attributes__", 527, vr 265)], #[]⟩,
 ⟨(.type "tuple"), none, .seq #[] 0, #[]⟩,
 ⟨.none, none, .fields #[vi 44, vi 4, vr 263], #[]⟩,
 ⟨(.type "code"), none, .fields #[vs "TooWide" 506, vs "TooWide" 507, vs "/claim/cut.py" 508, vi 42, vi 0, vi 0, vi 0, vi 0, vr 254, (.bool false), vi 181, vr 255, .none, .none, .none, .none, vi 509, vi 42, vs "/claim/cut.py" 510], #[]⟩,
 ⟨(.type "frame"), none, .plain, #[some (vr 256), some (vr 3), some (vr 253), none, some (vs "scissorhall.errors" 187), none, some (vr 0)]⟩,
 ⟨(.type "tuple"), none, .seq #[] 0, #[]⟩,
 ⟨.none, none, .fields #[], #[]⟩,
 ⟨(.type "tuple"), none, .seq #[vs "self" 519, vs "lines" 520, vs "cells" 521] 0, #[]⟩,
 ⟨(.type "tuple"), none, .seq #[] 0, #[]⟩,
 ⟨.none, none, .func ({ cc (bf "__init__") (bf "TooWide.__init__") (dG (dN 20 0)) (cG (dN 20 0)) (bK (dN 20 0)) .none .none .none .none none .none .none with globals := 0 }), #[]⟩,
 ⟨(.type "code"), none, .fields #[vs "__init__" 516, vs "TooWide.__init__" 517, vs "/claim/cut.py" 518, vi 44, vi 3, vi 0, vi 0, vi 3, vr 258, (.bool true), vi 181, vr 259, .none, vr 260, vr 261, vr 262, vi 522, vi 44, vs "/claim/cut.py" 523], #[]⟩,
 ⟨(.type "function"), none, .func (cc (bf "__init__") (bf "TooWide.__init__") (dG (dN 20 0)) (cG (dN 20 0)) (bK (dN 20 0)) .none .none .none (vs "scissorhall.errors" 187) none (vr 263) .none), #[]⟩,
 ⟨(.type "tuple"), none, .seq #[vs "cells" 525, vs "lines" 526] 0, #[]⟩,
 ⟨(.type "dict"), none, bX w.params 2 [("__module__", 511, vs "scissorhall.errors" 187), ("__firstlineno__", 515, (.int 42 514)), ("__init__", 524, vr 264), ("__static_attributes__", 527, vr 265), ("__doc__", 528, .none)], #[]⟩,
 ⟨(.type "type"), none, .cls { name := "TooWide", bases := [vr 24], mro := [vr 267, vr 24, (.type "ValueError"), (.type "Exception"), (.type "BaseException"), (.type "object")], ns := 266, qualname := "TooWide", hasDict := true, subclasses := [] }, #[some (vr 251), none, some (vs "TooWide" 504), some (vs "TooWide" 512), some (.builtin "ValueError.__new__"), some (.bool true)]⟩,
 ⟨(.type "super"), none, .fields #[vr 267, vr 267, vr 267], #[]⟩,
 ⟨(.type "builtin_function_or_method"), none, .fields #[(.builtin "object.__init_subclass__"), vr 267], #[]⟩]
def dL(w:ah)(a:Nat):Obj:=(yY w).getD a default
theorem Lz:∀w,yP w 1344 (oA w (yQ w) 415) (tQ w 15 ⟨28,0,29,8⟩)=some ((oA w (yY w) 531),(tQ w 21 ⟨42,0,46,26⟩)):=by
 intro w
 kernel_rfl
abbrev RN(w:ah):Option Shared:=(topRun treeTable cv w (gK w).heap.objs.size (Kk w) (11536-4320) (oA w (yY w) 531) (tQ w 21 ⟨42,0,46,26⟩)).bind λs1=>match staticsOk (importedModules cv.main.body) (gK w).heap s1.heap&&namesBound cv s1.heap&&gensDone s1&&laidKept (gK w).heap s1.heap with
 |true=>some s1
 |false=>none
theorem xY{A:Option Shared}{f g:Shared->Option Shared}(h:∀s,f s=g s):A.bind f=A.bind g:=by
 cases A with
 |none=>rfl
 |some s=>exact h s
theorem L7:∀w,openEnds treeTable cv w 11536=RN w:=by
 intro w;unfold openEnds;rw[N3 w,wg];unfold topFrom;rw[jJ w];dsimp only;rw[show 11536=2976+(1344+(11536-4320)) by rfl,vX _ _ (A2 w),vX _ _ (Lz w)];refine xY λs1=>?_;generalize (staticsOk _ _ s1.heap&&namesBound _ s1.heap&&gensDone s1&&laidKept _ s1.heap)=b;cases b<;>rfl
abbrev LW:=looseW VW [bf "fraction",bf "point"]
theorem Xz:∀w,(RN w).map (λs=>qw (mn KK KA KE) s)=some (qx (mn KK KA KE) w):=by
 intro w
 kernel_rfl
theorem A6:∀w,(RN w).map (λs=>seen ((recsOf VW).map (·.name)) (ownsOf VW) [] {s with gens:=#[]})=some (expectedOf VW):=by
 intro w
 kernel_rfl
theorem Jz:∀w,(RN w).map (λs=>s.heap.bltView)=some (bltViewBooted):=by
 intro w
 kernel_rfl
theorem E5:∀w,(RN w).map (λs=>s.heap.keysOk LW ((recsOf VW).map (·.name)) ((litsOf VW).map (·.1)) ((clssOf VW LW).map (·.name)))=some (true):=by
 intro w
 kernel_rfl
theorem A8:∀w,(RN w).map (λs=>s.heap.accountedOkI (importedModules cv.main.body)&&(s.heap.isNs mainGlobals&&s.heap.isNs builtinsNs&&tablesOk VW s.heap)&&((λs=>wj VW [] s&&wk (qy (qz (re lm))) s) s&&(s.gens.size==0)))=some (true):=by
 intro w
 kernel_rfl
theorem D4:∀w,(RN w).map (λs=>tabsOk VW s)=some (true):=by
 intro w
 kernel_rfl
theorem G7:∀w,(RN w).map (λs=>(pinSeenD VW (drecsOf VW) s,plainSeenD VW [bf "fraction",bf "point"] s,clsSeenW VW [bf "fraction",bf "point"] s))=some (pinGoodD (drecsOf VW),plainGoodD VW [bf "fraction",bf "point"],clsGoodW VW [bf "fraction",bf "point"]):=by
 intro w
 kernel_rfl
theorem D9:∀w,(RN w).map (λs=>plainSeenE VW LW s)=some (plainGoodE VW LW):=by
 intro w
 kernel_rfl
theorem Qz:∀w,(RN w).map (λs=>wideSeen VW s)=some (wideGood VW):=by
 intro w
 kernel_rfl
theorem bz{k a n m t x g:Bool}(h:k=true)(h2:(a&&(n&&m&&t)&&(x&&g))=true):(k&&a&&n&&m&&t&&x&&g)=true:=by
 revert h h2
 cases k<;>cases a<;>cases n<;>cases m<;>cases t<;>cases x<;>cases g<;>decide
theorem K1{A B C P Q R T V Y:Type}{o:Option Shared}{y:Y}{G:Shared->Y}{k a n m t x g f:Shared->Bool}{b:Shared->B}{c:Shared->C}{p:Shared->P}{q:Shared->Q}{r:Shared->R}{u:Shared->T}{v:Shared->V}{b':B}{c':C}{p':P}{q':Q}{r':R}{u':T}{v':V}(hA:o.map G=some y)(hB:o.map b=some b')(hC:o.map c=some c')(hD:o.map k=some true)(hE:o.map (λs=>a s&&(n s&&m s&&t s)&&(x s&&g s))=some true)(hF:o.map f=some true)
  (hG:o.map (λs=>(p s,q s,r s))=some (p',q',r'))(hH:o.map u=some u')(hI:o.map v=some v'):o.map (λs=>((b s,c s,(k s&&a s&&n s&&m s&&t s&&x s&&g s),f s,p s,u s,q s,v s,r s),G s))=some ((b',c',true,true,p',u',q',v',r'),y):=by
 cases o with
 |none=>cases hA
 |some s=>
  have G1:=wl (bj hG);have G2:=wl G1.2;exact congrArg some (gr (gr (bj hB) (gr (bj hC) (gr (bz (bj hD) (bj hE)) (gr (bj hF) (gr G1.1 (gr (bj hH) (gr G2.1 (gr (bj hI) G2.2)))))))) (bj hA))
theorem left:LeftO cv VW [bf "fraction",bf "point"] (λs=>wj VW [] s&&wk (qy (qz (re lm))) s) (qw (mn KK KA KE)) (qx (mn KK KA KE)) 11536:=λw=>(congrArg (Option.map _) (L7 w)).trans (K1 (A:=Nat) (Xz w) (A6 w) (Jz w) (E5 w) (A8 w) (D4 w) (G7 w) (D9 w) (Qz w))
end
end Sc
set_option maxHeartbeats 200000
set_option Elab.async false
set_option compiler.extract_closed false
set_option bootstrap.genMatcherCode false
set_option linter.all false
set_option maxRecDepth 100000
namespace L2
open PySem PySem.Spec PyProof.Rows
abbrev fD:=Sum Int Str
def Bj:fD->Value->Bool
 |.inl k,v=>Value.isInt k v
 |.inr x,v=>Value.isStrOf x v
def K8(w:ah):fD->Int
 |.inl k=>hashInt k
 |.inr x=>hashStr w x
theorem jL:∀{k:fD}{v:Value},Bj k v=true->(∃i t,k=iz i/\v=ju i t)\/(∃x t,k=ja x/\v=mq x t)
 |.inl i,v,h=>by
  obtain⟨t,e⟩:=Value.isInt_shape (k:=i) (v:=v) h;exact .inl ⟨i,t,rfl,e⟩
 |.inr x,v,h=>by
  obtain⟨t,e⟩:=Value.isStrOf_shape (x:=x) (v:=v) h;exact .inr ⟨x,t,rfl,e⟩
theorem Zy(a b:Int):decide ((iz a:fD)=iz b)=(a==b):=by
 by_cases e:a=b
 .subst e;simp
 .have h:¬(iz a:fD)=iz b:=λq=>e (Sum.inl.inj q)
  rw[decide_eq_false h];exact(beq_eq_false_iff_ne.mpr e).symm
theorem Ox(a b:Str):decide ((ja a:fD)=ja b)=decide (a=b):=by
 by_cases e:a=b
 .subst e;simp
 .have h:¬(ja a:fD)=ja b:=λq=>e (Sum.inr.inj q)
  rw[decide_eq_false h,decide_eq_false e]
theorem Dz(a:Int)(b:Str):decide ((iz a:fD)=ja b)=false:=decide_eq_false (λq=>nomatch q)
theorem Jx(a:Str)(b:Int):decide ((ja a:fD)=iz b)=false:=decide_eq_false (λq=>nomatch q)
def Ig(prog:Program)(w:ah):PySem.KeyKind prog w fD where
 is:=Bj
 hash:=K8 w
 inj:=λv a b ha hb=>by
  rcases jL ha with⟨i,t,rfl,rfl⟩|⟨x,t,rfl,rfl⟩
  .rcases jL hb with⟨j,u,rfl,e⟩|⟨y,u,rfl,e⟩
   .injection e with e1 _;rw[e1]
   .exact nomatch e
  .rcases jL hb with⟨j,u,rfl,e⟩|⟨y,u,rfl,e⟩
   .exact nomatch e
   .injection e with e1 _;rw[e1]
 byValue:=λk v h=>by
  rcases jL h with⟨i,t,rfl,rfl⟩|⟨x,t,rfl,rfl⟩<;>rfl
 pyHash:=λhv h=>by
  rcases jL hv with⟨i,t,rfl,rfl⟩|⟨x,t,rfl,rfl⟩
  .exact wpAny_pyHash_int h
  .exact wpAny_pyHash_str h
 eqBool:=λhu hv h=>by
  rcases jL hu with⟨i,t,rfl,rfl⟩|⟨x,t,rfl,rfl⟩
  .rcases jL hv with⟨j,u,rfl,rfl⟩|⟨y,u,rfl,rfl⟩
   .rw[Zy]at h;exact wpAny_eqBool_int h
   .rw[Dz]at h;exact SeqAt.EqAt.int_str i t y u _ _ _ _ h
  .rcases jL hv with⟨j,u,rfl,rfl⟩|⟨y,u,rfl,rfl⟩
   .rw[Jx]at h;exact SeqAt.EqAt.str_int x t j u _ _ _ _ h
   .rw[Ox]at h;exact wpAny_eqBool_str h
 «strs»:=λk x t v h=>by
  rcases jL h with⟨i,u,rfl,e⟩|⟨y,u,rfl,e⟩
  .exact nomatch e
  .injection e with e1 _
   subst e1;cases v<;>rfl
inductive V where
 |non |bl (b:Bool) |int (i:Int) |str (x:Str) |byt (b:Array UInt8) |flt (b:UInt64) |ref (a:Addr) |ty (n:String)
 deriving DecidableEq
def bO:V->Value->Prop
 |.non,u=>u=au
 |.bl b,u=>u=jw b
 |.int i,u=>∃t,u=ju i t
 |.str x,u=>∃t,u=mq x t
 |.byt b,u=>∃t,u=Value.bytes b t
 |.flt b,u=>∃t,u=rf b t
 |.ref a,u=>u=bc a
 |.ty n,u=>u=Value.type n
abbrev bA:List V->AE->Prop:=cp bO
theorem bA.length{xs:List V}{us:AE}(r:bA xs us):xs.length=us.length:=Paired.length r
theorem bA.get:∀{xs:List V}{us:AE}{i:Nat}{x:V},bA xs us->xs[i]?=some x->∃u,us[i]?=some u/\bO x u
 |_,_,_,_,.nil,e=>by simp at e
 |_,_,0,_,.cons r _,e=>by simp at e;subst e;exact⟨_,rfl,r⟩
 |_,_,i+1,x,.cons _ t,e=>by
  obtain⟨u,h1,h2⟩:=bA.get (i:=i) (x:=x) t (by simpa using e);exact⟨u,by simpa using h1,h2⟩
theorem bA.set{x:V}{u:Value}(r:bO x u):∀{xs:List V}{us:AE}(i:Nat),bA xs us->bA (xs.set i x) (us.set i u)
 |_,_,_,.nil=>.nil
 |_,_,0,.cons _ t=>.cons r t
 |_,_,i+1,.cons q t=>.cons q (bA.set r i t)
theorem bA.append:∀{xs ys:List V}{us ws:AE},bA xs us->bA ys ws->bA (xs++ys) (us++ws)
 |_,_,_,_,.nil,s=>s
 |_,_,_,_,.cons r t,s=>.cons r (bA.append t s)
theorem bA.take:∀{xs:List V}{us:AE}(n:Nat),bA xs us->bA (xs.take n) (us.take n)
 |_,_,0,_=>.nil
 |_,_,_+1,.nil=>.nil
 |_,_,n+1,.cons r t=>.cons r (bA.take n t)
theorem bA.drop:∀{xs:List V}{us:AE}(n:Nat),bA xs us->bA (xs.drop n) (us.drop n)
 |_,_,0,r=>r
 |_,_,_+1,.nil=>.nil
 |_,_,n+1,.cons _ t=>bA.drop n t
def iN:Option V->AF->Prop
 |some v,some u=>bO v u
 |none,none=>True
 |_,_=>False
def KV{κ:Type}:List (κ×V)->List (κ×Value)->Prop:=cp λ(p:κ×V) (q:κ×Value)=>p.1=q.1/\bO p.2 q.2
def kV:fD->V
 |.inl i=>.int i
 |.inr x=>.str x
inductive HO where
 /--a list -/
 |lst (xs:List V)
 /--a tuple (never changes) -/
 |tup (xs:List V)
 /--a dict whose keys are ints and texts;one whose keys are tuples of ints and texts (the empty one is both) -/
 |dK (kvs:List (fD×V)) |dT (kvs:List (List fD×V))
 /--a set of ints:its members,its size -/
 |set (S:Int->Bool) (n:Nat)
 /--an instance of the class at C,its dict at dx,its attributes -/
 |ins (C dx:Addr) (fs:List (Str×V))
 /--the dict of the instance at x -/
 |own (x:Addr)
 /--the dict of an exception -/
 |xd (fs:List (Str×V))
 /--a bound method,f of x -/
 |met (f x:Addr)
 /--a range object lo,lo+1,.. below hi -/
 |rng (lo hi:Int)
 /--a thing that is known to the object (the script;a dict while a loop walks it):read,never written while it is so -/
 |frz (o:Obj) (u:HO)
 /--a code object's table -/
 |tbl (ps:Array Value)
 /--any other thing,by what is true of its one object (a def of one's own:SetO a S n:=HO.ext λh=>..) -/
 |ext (φ:Heap->Prop)
abbrev Hp:=Addr->Option HO
def aM(H:Hp)(a:Addr)(o:HO):Hp:=λb=>if b=a then some o else H b
theorem dX{H:Hp}{a:Addr}{o:HO}:aM H a o a=some o:=by unfold aM;rw[if_pos rfl]
theorem bP{H:Hp}{a b:Addr}{o:HO}(h:b≠a):aM H a o b=H b:=by unfold aM;rw[if_neg h]
theorem dW{H:Hp}{a b:Addr}{o:HO}(h:H a=some o)(h':H b=none):a≠b:=by
 intro e;subst e;rw[h]at h';cases h'
section
variable(P:Program)(w:ah)
def dH(H:Hp)(h:Heap)(a:Addr):HO->Prop
 |.lst xs=>xs.length<=sizeLine/\∃(its:AE)(n:Nat),bA xs its/\h.get? a=some {cls:=.type "list",data:=.seq its.toArray n}
 |.tup xs=>(xs.length<=sizeLine/\∃o,h.get? a=some o/\o.dict=none)/\∃its:AE,bA xs its/\jb h a its.toArray
 |.dK kvs=>kvs.length<=sizeLine/\(a==sysModules)=false/\∃vs,KV kvs vs/\h.DictOf (Ig P w) a vs
 |.dT kvs=>kvs.length<=sizeLine/\(a==sysModules)=false/\∃xs:List (List fD×Addr×Value),
   cp (λ(p:List fD×V) (q:List fD×Addr×Value)=>p.1=q.1/\H q.2.1=some (.tup (p.1.map kV))/\bO p.2 q.2.2) kvs xs/\
   ∃o es ep,h.get? a=some o/\o.ExactDict/\o.data=.dict es ep/\es.toList=xs.map (entryOfKey (tupleKind (Ig P w)))/\(xs.map (·.1)).Nodup
 |.set S n=>h.SetOf (intKind P w) a S n
 |.ins C dx fs=>H dx=some (.own a)/\fs.length<=1000/\dx≠a/\h.get? a=some (rg C dx)/\
   ∃mA,h.Ns1 dx mA/\(∀f,iN (fs.lookup f) (mA f))/\rh mA (fs.map (·.1))
 |.own _=>∃o,h.get? a=some o
 |.xd fs=>∃mA,h.Ns1 a mA/\∀f,iN (fs.lookup f) (mA f)
 |.rng lo hi=>∃t u v,h.get? a=some {cls:=.type "range",data:=.fields #[.int lo t,.int hi u,.int 1 v]}
 |.frz o u=>h.get? a=some o/\dH H h a u
 |.tbl ps=>h.get? a=some {cls:=.none,data:=.fields ps}
 |.met f x=>h.get? a=some (rk (.ref f) (.ref x))
 |.ext φ=>φ h/\(∃o,h.get? a=some o)/\∀h1 h2:Heap,φ h1->(∀o,h1.get? a=some o->h2.get? a=some o)->φ h2
def dF(H:Hp)(h:Heap):Prop:=∀a o,H a=some o->dH P w H h a o
end
section
variable{P:Program}{w:ah}{H H':Hp}{h h':Heap}{a:Addr}{o:HO}
theorem dH.lt(x:dH P w H h a o):a<h.objs.size:=by
 cases o with
 |lst xs=>obtain⟨_,_,_,_,e⟩:=x;exact ao e
 |tup xs=>obtain⟨_,_,_,p⟩:=x;exact p.lt
 |dK kvs=>obtain⟨_,_,_,_,o,_,_,e,_⟩:=x;exact ao e
 |dT kvs=>obtain⟨_,_,_,_,o,_,_,e,_⟩:=x;exact ao e
 |set S n=>obtain⟨o,_,_,_,e,_⟩:=x;exact ao e
 |ins C dx fs=>obtain⟨_,_,_,e,_⟩:=x;exact ao e
 |own y=>obtain⟨_,e⟩:=x;exact ao e
 |xd fs=>obtain⟨_,⟨_,_,_,e,_⟩,_⟩:=x;exact ao e
 |rng lo hi=>obtain⟨_,_,_,e⟩:=x;exact ao e
 |frz ob u=>obtain⟨e,_⟩:=x;exact ao e
 |tbl ps=>exact ao (show h.get? a=some _ from x)
 |met f y=>exact ao (show h.get? a=some _ from x)
 |ext φ=>obtain⟨_,⟨_,e⟩,_⟩:=x;exact ao e
theorem Paired.mapP{α β:Type}{F G:α->β->Prop}:∀{l₁:List α}{l₂:List β},cp F l₁ l₂->(∀a b,F a b->G a b)->cp G l₁ l₂
 |_,_,.nil,_=>.nil
 |_,_,.cons r t,f=>.cons (f _ _ r) (Paired.mapP t f)
theorem dH.stay(x:dH P w H h a o)(k:∀b u,(b=a\/H b=some (.own a))->h.get? b=some u->h'.get? b=some u)
  (ho:∀b,H b=some (.own a)->H' b=some (.own a))(ht:∀b xs,H b=some (.tup xs)->H' b=some (.tup xs)):dH P w H' h' a o:=by
 induction o with
 |lst xs=>obtain⟨z,its,n,r,e⟩:=x;exact⟨z,its,n,r,k _ _ (.inl rfl) e⟩
 |tup xs=>obtain⟨⟨z,o9,e9,d9⟩,its,r,ob,e,c⟩:=x;exact⟨⟨z,o9,k _ _ (.inl rfl) e9,d9⟩,its,r,ob,k _ _ (.inl rfl) e,c⟩
 |dK kvs=>obtain⟨z,y,vs,r,ob,es,ep,e,c⟩:=x;exact⟨z,y,vs,r,ob,es,ep,k _ _ (.inl rfl) e,c⟩
 |dT kvs=>
  obtain⟨z,y,xs,r,ob,es,ep,e,c⟩:=x;exact⟨z,y,xs,Paired.mapP r λp q z=>⟨z.1,ht _ _ z.2.1,z.2.2⟩,ob,es,ep,k _ _ (.inl rfl) e,c⟩
 |set S n=>obtain⟨ob,es,ep,t,e,c⟩:=x;exact⟨ob,es,ep,t,k _ _ (.inl rfl) e,c⟩
 |ins C dx fs=>
  obtain⟨d,z,ne,e,mA,⟨od,es,ep,e2,c⟩,r⟩:=x;exact⟨ho _ d,z,ne,k _ _ (.inl rfl) e,mA,⟨od,es,ep,k _ _ (.inr d) e2,c⟩,r⟩
 |own y=>obtain⟨ob,e⟩:=x;exact⟨ob,k _ _ (.inl rfl) e⟩
 |xd fs=>obtain⟨mA,⟨od,es,ep,e,c⟩,r⟩:=x;exact⟨mA,⟨od,es,ep,k _ _ (.inl rfl) e,c⟩,r⟩
 |rng lo hi=>obtain⟨t,u,v,e⟩:=x;exact⟨t,u,v,k _ _ (.inl rfl) e⟩
 |frz ob u ih=>obtain⟨e,q⟩:=x;exact⟨k _ _ (.inl rfl) e,ih q⟩
 |tbl ps=>
  have e:h.get? a=some {cls:=.none,data:=.fields ps}:=x;show h'.get? a=some {cls:=.none,data:=.fields ps};exact k a _ (.inl rfl) e
 |met f y=>
  have e:h.get? a=some (rk (.ref f) (.ref y)):=x;show h'.get? a=some (rk (.ref f) (.ref y));exact k a _ (.inl rfl) e
 |ext φ=>obtain⟨p,⟨o,e⟩,st⟩:=x;exact⟨st _ _ p λo q=>k _ _ (.inl rfl) q,⟨o,k _ _ (.inl rfl) e⟩,st⟩
theorem dF.lt(x:dF P w H h)(e:H a=some o):a<h.objs.size:=(x a o e).lt
theorem dF.fresh(x:dF P w H h)(e:h.objs.size<=a):H a=none:=by
 cases q:H a with
 |none=>rfl
 |some u=>exact absurd (bn (x.lt q) e) (dq _)
theorem dF.kept(x:dF P w H h)(k:∀b u,h.get? b=some u->h'.get? b=some u):dF P w H h':=λa o e=>
 (x a o e).stay (λb u _ q=>k b u q) (λ_ q=>q) λ_ _ q=>q
theorem dF.laid(x:dF P w H h)(k:∀b u,h.get? b=some u->h'.get? b=some u)(hp:h.objs.size<=a)(new:dH P w (aM H a o) h' a o):dF P w (aM H a o) h':=λb u e=>by
 have hn:=x.fresh hp
 by_cases hb:b=a
 .subst hb;rw[dX]at e;cases e;exact new
 .rw[bP hb]at e
  exact(x b u e).stay (λc v _ q=>k c v q) (λc q=>by rw[bP (dW q hn)];exact q) λc xs q=>by rw[bP (dW q hn)];exact q
end
def Rd(H:Hp)(a:Addr)(u:HO):Prop:=H a=some u\/∃o,H a=some (.frz o u)
theorem Rd.ok{P:Program}{w:ah}{H:Hp}{h:Heap}{a:Addr}{u:HO}(r:Rd H a u)(x:dF P w H h):dH P w H h a u:=by
 rcases r with r |⟨o,r⟩
 .exact x a u r
 .obtain⟨_,q⟩:=x a _ r
  exact q
def tY:Option HO->Prop
 |some (.lst _)=>True
 |some (.dK _)=>True
 |some (.dT _)=>True
 |some (.set _ _)=>True
 |some (.ins _ _ _)=>True
 |some (.ext _)=>True
 |_=>False
section
variable{P:Program}{w:ah}{H:Hp}{h h':Heap}{x e:Addr}{o':HO}
theorem dF.write(ok:dF P w H h)(mu:tY (H x))(he:e=x\/H e=some (.own x))(k:∀b u,b≠e->h.get? b=some u->h'.get? b=some u)(heo:∃u,h'.get? e=some u)
  (new:dH P w (aM H x o') h' x o'):dF P w (aM H x o') h':=λb u q=>by
 have nown:∀c y,H c=some (.own y)->c≠x:=λc y r z=>by subst z;rw[r]at mu;exact mu
 have ntup:∀c xs,H c=some (.tup xs)->c≠x:=λc xs r z=>by subst z;rw[r]at mu;exact mu
 by_cases hb:b=x
 .subst hb;rw[dX]at q;cases q;exact new
 .rw[bP hb]at q
  by_cases hbe:b=e
  .have q':H b=some (.own x):=by
    rcases he with z |z
    .exact absurd (hbe.trans z) hb
    .rw[hbe];exact z
   rw[q]at q';cases q';obtain⟨v,hv⟩:=heo;exact⟨v,by rw[hbe];exact hv⟩
  .refine(ok b u q).stay (λc v hc r=>k c v ?_ r) (λc r=>by rw[bP (nown c b r)];exact r) λc xs r=>by rw[bP (ntup c xs r)];exact r
   rcases hc with rfl |hc
   .exact hbe
   .rintro rfl
    rcases he with z |z
    .exact nown c b hc z
    .rw[hc]at z;cases z;exact hb rfl
end
structure Un(fs ex:List Addr)(H H':Hp)(h h':Heap):Prop where
 keep:∀b o,h.get? b=some o->H b=none->b∉fs->b∉ex->h'.get? b=some o
 slot:∀b o,h.get? b=some o->H b=none->b∈fs->b∉ex->∃sl,h'.get? b=some {o with slots:=sl}
 free:∀b o,h.get? b=some o->H b=none->b∉ex->H' b=none
 there:∀b o,h.get? b=some o->b∉ex->∃o',h'.get? b=some o'
 tups:∀b xs,H b=some (.tup xs)->H' b=some (.tup xs)
 frzs:∀b o u,H b=some (.frz o u)->H' b=some (.frz o u)
 tbls:∀b ps,H b=some (.tbl ps)->∃more,H' b=some (.tbl (ps++more))
section
variable{fs fs' ex ex':List Addr}{H H1 H2:Hp}{h h1 h2 h':Heap}{a x e:Addr}{o:HO}
theorem Un.any(u:Un fs ex H H1 h h1){b:Addr}{ob:Obj}(q:h.get? b=some ob)(n:H b=none)(hx:b∉ex):∃sl,h1.get? b=some {ob with slots:=sl}:=by
 by_cases hb:b∈fs
 .exact u.slot b ob q n hb hx
 .exact⟨ob.slots,u.keep b ob q n hb hx⟩
theorem Un.trans(a:Un fs ex H H1 h h1)(b:Un fs ex H1 H2 h1 h2):Un fs ex H H2 h h2 where
 keep:=λc ob q n hc hx=>b.keep c ob (a.keep c ob q n hc hx) (a.free c ob q n hx) hc hx
 slot:=λc ob q n hc hx=>by
  obtain⟨sl,e1⟩:=a.slot c ob q n hc hx;obtain⟨sl',e2⟩:=b.slot c _ e1 (a.free c ob q n hx) hc hx;exact⟨sl',e2⟩
 free:=λc ob q n hx=>by
  obtain⟨o',e1⟩:=a.there c ob q hx;exact b.free c o' e1 (a.free c ob q n hx) hx
 there:=λc ob q hx=>by
  obtain⟨o',e1⟩:=a.there c ob q hx;exact b.there c o' e1 hx
 tups:=λc xs q=>b.tups c xs (a.tups c xs q)
 frzs:=λc ob xs q=>b.frzs c ob xs (a.frzs c ob xs q)
 tbls:=λc ps q=>by
  obtain⟨m1,e1⟩:=a.tbls c ps q;obtain⟨m2,e2⟩:=b.tbls c _ e1;exact⟨m1++m2,by rw[e2,wm]⟩
theorem Un.kept(k:∀b u,h.get? b=some u->h'.get? b=some u):Un fs ex H H h h':=
 ⟨λb ob q _ _ _=>k b ob q,λb ob q _ _ _=>⟨ob.slots,k b ob q⟩,λ_ _ _ n _=>n,λb ob q _=>⟨ob,k b ob q⟩,λ_ _ q=>q,λ_ _ _ q=>q,λ_ ps q=>⟨#[],by rw[q];simp⟩⟩
theorem Un.refl:Un fs ex H H h h:=Un.kept λ_ _ q=>q
theorem Un.laid(k:∀b u,h.get? b=some u->h'.get? b=some u)(hp:h.objs.size<=a)(hn:H a=none):Un fs ex H (aM H a o) h h' where
 keep:=λb u q _ _ _=>k b u q
 slot:=λb u q _ _ _=>⟨u.slots,k b u q⟩
 free:=λb u q n _=>by rw[bP (cf (bn (ao q) hp))];exact n
 there:=λb u q _=>⟨u,k b u q⟩
 tups:=λb xs q=>by rw[bP (dW q hn)];exact q
 frzs:=λb u xs q=>by rw[bP (dW q hn)];exact q
 tbls:=λb ps q=>⟨#[],by rw[bP (dW q hn),q];simp⟩
theorem Un.write(mu:tY (H x))(he:e=x\/H e=some (.own x))(k:∀b u,b≠e->h.get? b=some u->h'.get? b=some u)(heo:∃u,h'.get? e=some u):Un fs ex H (aM H x o) h h':=by
 have hx:∀b,H b=none->b≠x:=λb n z=>by subst z;rw[n]at mu;exact mu
 have hb:∀b,H b=none->b≠e:=λb n z=>by
  subst z;rcases he with r |r
  .exact hx b n r
  .rw[n]at r;cases r
 have hm:∀b u,H b=some u->¬tY (some u)->b≠x:=λb u q nm z=>by subst z;rw[q]at mu;exact nm mu
 refine⟨λb u q n _ _=>k b u (hb b n) q,λb u q n _ _=>⟨u.slots,k b u (hb b n) q⟩,λb u q n _=>by rw[bP (hx b n)];exact n,λb u q _=>?_,
  λb xs q=>by rw[bP (hm b _ q λz=>z)];exact q,λb u xs q=>by rw[bP (hm b _ q λz=>z)];exact q,λb ps q=>⟨#[],by rw[bP (hm b _ q λz=>z),q];simp⟩⟩
 by_cases hbe:b=e
 .subst hbe;exact heo
 .exact⟨u,k b u hbe q⟩
end
def tM(h:Heap)(H:Hp):List Addr:=(aq h.objs.size).filter λa=>(H a).isSome
def jW(h:Heap)(H:Hp):Heap:=rl h (tM h H)
theorem To(h:Heap)(H:Hp):(jW h H).objs.size=h.objs.size:=PySem.W.hideAll_size _ _
theorem Ks{h:Heap}{H:Hp}{b:Addr}{o:Obj}(e:h.get? b=some o)(n:H b=none):(jW h H).get? b=some o:=
 rm _ e λhm=>by
  have q:(H b).isSome=true:=(rn.mp hm).2;rw[n]at q;simp at q
theorem Xv{h:Heap}{H:Hp}{b:Addr}{o:Obj}(e:(jW h H).get? b=some o):h.get? b=some o/\H b=none:=by
 have e':h.get? b=some o:=wn (tM h H) e;refine⟨e',?_⟩;cases q:H b with
 |none=>rfl
 |some x=>
  have hm:b∈tM h H:=rn.mpr ⟨rq.mpr (ao e'),by simp[q]⟩;have z:(jW h H).get? b=none:=PySem.W.hideAll_none (tM h H) hm;rw[z]at e;cases e
def Cv(g h:Heap)(L:Addr):List (Addr×Obj):=(aq h.objs.size).filterMap λa=>if a=L\/(g.get? a).isSome=true then none else(h.get? a).map λo=>(a,o)
def dQ(g h:Heap)(L d:Addr):List (Addr×Obj):=(Cv g h L).filter λp=>decide (p.1≠d)
structure Mod(K:ae)(mg:Str->AF)(base:Heap):Prop where
 kin:K.In base
 glob:base.Ns mainGlobals mg
 blt:∃mb,base.Ns builtinsNs mb/\∀x:Str,x≠"__name__"->mb x=bootBuiltins x
 nolimit:base.NoLimit
structure Cx where
 prog:Program
 w:ah
 K:ae
 mg:Str->AF
 base:Heap
 A:ai
 N:List Str
 AN:Shared
 AO:Hp
 env:Env
 outer:List Env
 stack:List Env
 ex:List Addr
 fn:Str->Bool
 calm:Bool
 pn:List (Addr×Obj)
 xe:Value->Shared->Prop
def bV(l:List Env):List Addr:=l.filterMap (·.frame)
abbrev Cx.fs(X:Cx):List Addr:=bV X.outer
def tV(sc:Scope)(x:Str):Prop:=sc.names.lookup x=some .local\/sc.names.lookup x=some .cell\/sc.names.lookup x=some .free
def jG(sc:Scope)(x:Str):Prop:=sc.names.lookup x=some .local\/sc.names.lookup x=some .cell
def K0(env:Env)(h:Heap)(m:Str->AF)(x:Str)(u:Value):Prop:=
 (env.kindOf x=some .local/\m x=some u)\/((env.kindOf x=some .cell\/env.kindOf x=some .free)/\∃c,env.cells.lookup x=some c/\h.IsCell c (some u))
structure Cx.Ok(X:Cx):Prop where
 mod:Mod X.K X.mg X.base
 kind:X.env.scope.kind=.function
 glob:X.env.globals=mainGlobals
 blt:X.env.builtins=builtinsNs
 above:X.AN.heap.objs.size<=X.env.locals
 inj:∀x y c,X.env.cells.lookup x=some c->X.env.cells.lookup y=some c->x=y
 has:∀x,(X.env.kindOf x=some .cell\/X.env.kindOf x=some .free)->∃c,X.env.cells.lookup x=some c
 cab:∀x c,X.fn x=true->X.env.cells.lookup x=some c->X.AN.heap.objs.size<=c
 hd:X.calm=true->X.A.handled=none
 frames:X.A.frames=some X.stack
 stk:X.stack=X.outer\/(X.stack=X.env::X.outer/\X.env.frame=some X.env.locals)
 exf:∀b∈X.ex,b≠X.env.locals/\∀x c,X.env.cells.lookup x=some c->c≠b
 bs:∀b o,X.base.get? b=some o->X.AN.heap.get? b=some o/\X.AO b=none
 bsz:X.base.objs.size<=X.AN.heap.objs.size
 noex:∀b o,X.base.get? b=some o->b∉X.ex
 exfs:∀b∈X.ex,b∉X.fs
 funs:X.AN.heap.FunFrames X.base X.outer
 frf:∀b∈X.fs,X.AO b=none
structure aD(X:Cx)(AM:List (Addr×Obj))(σ:List (Option V))(H:Hp)(s:Shared):Prop where
 ok:X.Ok
 os:s.os=X.AN.os
 bare:fh s.gens
 base:Un X.fs X.ex X.AO H X.AN.heap s.heap
 loc:∃m,s.heap.Ns X.env.locals m/\∀(i:Nat)(x:Str)(v:V),X.N[i]?=some x->σ[i]?=some (some v)->tV X.env.scope x->∃u,bO v u/\K0 X.env s.heap m x u
 cell:∀x c,X.env.cells.lookup x=some c->∃v,s.heap.IsCell c v
 free:H X.env.locals=none
 freeC:∀x c,X.env.cells.lookup x=some c->H c=none
 pin:∀p∈X.pn++AM,s.heap.get? p.1=some p.2/\H p.1=none/\p.1≠X.env.locals/\p.1∉X.fs/\∀v,p.2.data≠.cell v
 hok:dF X.prog X.w H s.heap
 len:σ.length=X.N.length
section
variable{X:Cx}{AM:List (Addr×Obj)}{σ:List (Option V)}{H H':Hp}{s:Shared}{h':Heap}
theorem Cx.Ok.nofr(ok:X.Ok){b:Addr}{o:Obj}(e:X.base.get? b=some o):b∉X.fs:=λhb=>by
 have:=(ok.funs.mem hb).1;rw[e]at this;cases this
theorem aD.bs(I:aD X AM σ H s):∀b o,X.base.get? b=some o->s.heap.get? b=some o/\H b=none:=λb o e=>
 ⟨I.base.keep b o (I.ok.bs b o e).1 (I.ok.bs b o e).2 (I.ok.nofr e) (I.ok.noex b o e),I.base.free b o (I.ok.bs b o e).1 (I.ok.bs b o e).2 (I.ok.noex b o e)⟩
theorem aD.bk(I:aD X AM σ H s):∀b o,X.base.get? b=some o->s.heap.get? b=some o:=λb o e=>(I.bs b o e).1
theorem aD.mod(I:aD X AM σ H s):Mod X.K X.mg X.base:=I.ok.mod
theorem aD.kIn(I:aD X AM σ H s):X.K.In s.heap:=I.ok.mod.kin.keeps I.bk
theorem aD.lt(I:aD X AM σ H s):X.env.locals<s.heap.objs.size:=let⟨_,hn,_⟩:=I.loc;hn.lt
theorem aD.sz(I:aD X AM σ H s):X.AN.heap.objs.size<=s.heap.objs.size:=di I.ok.above (sd I.lt)
theorem aD.nofs(I:aD X AM σ H s){a:Addr}(h:s.heap.objs.size<=a):a∉X.fs:=λhb=>by
 obtain⟨_,o,ho,_⟩:=I.ok.funs.mem hb;exact absurd (bn (ao ho) (di I.sz h)) (dq _)
theorem aD.cne(I:aD X AM σ H s):∀x c,X.env.cells.lookup x=some c->c≠X.env.locals:=λx c e z=>by
 obtain⟨v,o,ho,hd⟩:=I.cell x c e;obtain⟨m,⟨o',es,ep,ho',hd',_⟩,_⟩:=I.loc;rw[z,ho']at ho;cases ho;rw[hd']at hd;cases hd
theorem aD.funs(I:aD X AM σ H s):s.heap.FunFrames X.base X.outer:=by
 have all:∀(l:List Env),(∀b∈bV l,b∈X.fs)->X.AN.heap.FunFrames X.base l->s.heap.FunFrames X.base l:=by
  intro l
  induction l with
  |nil=>intro _ _;trivial
  |cons env r ih=>
   intro hs hl;obtain⟨hk,⟨L,o,hf,hn,ho,hd⟩,hr⟩:=hl;have hL:L∈X.fs:=hs L (by unfold bV;rw[se,hf];exact bi);obtain⟨sl,e⟩:=I.base.slot L o ho (I.ok.frf L hL) hL λz=>I.ok.exfs L z hL;exact⟨hk,⟨L,_,hf,hn,e,hd⟩,ih (λb hb=>hs b (by unfold bV;rw[se,hf];exact cj _ hb)) hr⟩
 exact all X.outer (λ_ hb=>hb) I.ok.funs
theorem aD.stack(I:aD X AM σ H s):s.heap.FunFrames X.base X.stack:=by
 rcases I.ok.stk with e |⟨e,hf⟩
 .rw[e];exact I.funs
 .rw[e]
  obtain⟨m,hn,_⟩:=I.loc;refine .cons (by rw[I.ok.kind];decide) hf hn ?_ I.funs;exact mx (di I.ok.bsz I.ok.above)
theorem aD.stkSub(I:aD X AM σ H s):∀b∈bV X.stack,b∈X.env.locals::X.fs:=λb hb=>by
 rcases I.ok.stk with e |⟨e,hf⟩
 .rw[e]at hb;exact cj _ hb
 .rw[e]at hb
  unfold bV at hb;rw[se,hf]at hb;exact hb
theorem aD.stkFree(I:aD X AM σ H s):∀b∈bV X.stack,H b=none:=λb hb=>by
 rcases bh.mp (I.stkSub b hb)with e |hb
 .rw[e];exact I.free
 .obtain⟨_,o,ho,_⟩:=I.ok.funs.mem hb
  exact I.base.free b o ho (I.ok.frf b hb) λz=>I.ok.exfs b z hb
theorem aD.step{g':Array GenState}{t':Nat}{d':Drawn}{ch:List Addr}(I:aD X AM σ H s)
  (hch:∀b∈ch,(b∈X.ex\/X.AN.heap.objs.size<=b)/\b≠X.env.locals/\(∀x c,X.env.cells.lookup x=some c->c≠b)/\∀p∈X.pn++AM,p.1≠b)
  (keep:∀b o,b≠X.env.locals->b∉X.fs->b∉ch->s.heap.get? b=some o->H b=none->h'.get? b=some o)
  (slot:∀b o,b≠X.env.locals->b∈X.fs->b∉ch->s.heap.get? b=some o->H b=none->∃sl,h'.get? b=some {o with slots:=sl})(free:∀b o,b∉ch->s.heap.get? b=some o->H b=none->H' b=none)
  (there:∀b o,b∉ch->s.heap.get? b=some o->∃o',h'.get? b=some o')
  (tups:∀b xs,H b=some (.tup xs)->H' b=some (.tup xs))(frzs:∀b o u,H b=some (.frz o u)->H' b=some (.frz o u))(tbls:∀b ps,H b=some (.tbl ps)->∃more,H' b=some (.tbl (ps++more)))
  (ns:∀m,s.heap.Ns X.env.locals m->h'.Ns X.env.locals m)(hok:dF X.prog X.w H' h')(hg:fh g'):
  aD X AM σ H' {s with heap:=h',gens:=g',drawn:=d',toks:=t'}:=by
 have neL:∀b o,X.AN.heap.get? b=some o->b≠X.env.locals:=λb o e=>cf (bn (ao e) I.ok.above);have neC:∀b o,X.AN.heap.get? b=some o->b∉X.ex->b∉ch:=λb o e hx hb=>by
  rcases(hch b hb).1 with z |z
  .exact hx z
  .exact absurd (bn (ao e) z) (dq _)
 have cellK:∀x c,X.env.cells.lookup x=some c->∀v,s.heap.IsCell c v->h'.IsCell c v:=λx c e v ⟨o,ho,hd⟩=>by
  have nch:c∉ch:=λz=>(hch c z).2.2.1 x c e rfl
  by_cases hc:c∈X.fs
  .obtain⟨sl,q⟩:=slot c o (I.cne x c e) hc nch ho (I.freeC x c e)
   exact⟨_,q,hd⟩
  .exact⟨o,keep c o (I.cne x c e) hc nch ho (I.freeC x c e),hd⟩
 refine⟨I.ok,I.os,hg,⟨λb o e n hb hx=>?_,λb o e n hb hx=>?_,λb o e n hx=>?_,λb o e hx=>?_,λb xs e=>tups b xs (I.base.tups b xs e),λb o xs e=>frzs b o xs (I.base.frzs b o xs e),λb ps e=>?_⟩,?_,λx c e=>?_,?_,λx c e=>?_,λp hp=>?_,hok,I.len⟩
 .exact keep b o (neL b o e) hb (neC b o e hx) (I.base.keep b o e n hb hx) (I.base.free b o e n hx)
 .obtain⟨sl,e1⟩:=I.base.slot b o e n hb hx
  obtain⟨sl',e2⟩:=slot b _ (neL b o e) hb (neC b o e hx) e1 (I.base.free b o e n hx);exact⟨sl',e2⟩
 .obtain⟨o',e1⟩:=I.base.there b o e hx
  exact free b o' (neC b o e hx) e1 (I.base.free b o e n hx)
 .obtain⟨o',e1⟩:=I.base.there b o e hx
  exact there b o' (neC b o e hx) e1
 .obtain⟨m1,e1⟩:=I.base.tbls b ps e
  obtain⟨m2,e2⟩:=tbls b _ e1;exact⟨m1++m2,by rw[e2,wm]⟩
 .obtain⟨m,hn,hl⟩:=I.loc
  refine⟨m,ns m hn,λi x v e1 e2 e3=>?_⟩;obtain⟨u,r,l⟩:=hl i x v e1 e2 e3;refine⟨u,r,?_⟩;rcases l with l |⟨k,c,e,z⟩
  .exact .inl l
  .exact .inr ⟨k,c,e,cellK x c e _ z⟩
 .obtain⟨v,z⟩:=I.cell x c e
  exact⟨v,cellK x c e v z⟩
 .obtain⟨m,⟨o,_,_,ho,_⟩,_⟩:=I.loc
  exact free _ o (λz=>(hch _ z).2.1 rfl) ho I.free
 .obtain⟨v,o,ho,hd⟩:=I.cell x c e
  exact free c o (λz=>(hch c z).2.2.1 x c e rfl) ho (I.freeC x c e)
 .obtain⟨e,n,ne,nf,d⟩:=I.pin p hp
  have nch:p.1∉ch:=λz=>(hch p.1 z).2.2.2 p hp rfl;exact⟨keep p.1 p.2 ne nf nch e n,free p.1 p.2 nch e n,ne,nf,d⟩
theorem aD.un{t':Nat}(I:aD X AM σ H s)(u:Un X.fs [] H H' s.heap h')(hok:dF X.prog X.w H' h'):aD X AM σ H' {s with heap:=h',toks:=t'}:=by
 obtain⟨m,⟨o,es,ep,ho,r⟩,_⟩:=id I.loc;obtain⟨sl,hL⟩:=u.any ho I.free (by simp);exact I.step (g':=s.gens) (d':=s.drawn) (ch:=[]) (λ_ z=>nomatch z) (λb o _ hb _ e n=>u.keep b o e n hb (by simp)) (λb o _ hb _ e n=>u.slot b o e n hb (by simp)) (λb o _ e n=>u.free b o e n (by simp)) (λb o _ e=>u.there b o e (by simp)) u.tups u.frzs u.tbls (λm' hm=>by
  obtain⟨o',es',ep',ho',r'⟩:=hm;rw[ho]at ho';cases ho';exact⟨_,es',ep',hL,r'⟩) hok I.bare
theorem aD.call{g':Array GenState}{t':Nat}{d':Drawn}{ch:List Addr}(I:aD X AM σ H s)(u:Un (bV X.stack) ch H H' s.heap h')(hok:dF X.prog X.w H' h')(hg:fh g')
  (hch:∀b∈ch,(b∈X.ex\/X.AN.heap.objs.size<=b)/\b≠X.env.locals/\(∀x c,X.env.cells.lookup x=some c->c≠b)/\∀p∈X.pn++AM,p.1≠b):
  aD X AM σ H' {s with heap:=h',gens:=g',drawn:=d',toks:=t'}:=by
 obtain⟨m,⟨o,es,ep,ho,r⟩,_⟩:=id I.loc;obtain⟨sl,hL⟩:=u.any ho I.free λz=>(hch _ z).2.1 rfl;exact I.step (ch:=ch) hch (λb o hL hb hc e n=>u.keep b o e n (λz=>(bh.mp (I.stkSub b z)).elim hL hb) hc) (λb o _ _ hc e n=>u.any e n hc) (λb o hc e n=>u.free b o e n hc) (λb o hc e=>u.there b o e hc) u.tups u.frzs u.tbls (λm' hm=>by
  obtain⟨o',es',ep',ho',r'⟩:=hm;rw[ho]at ho';cases ho';exact⟨_,es',ep',hL,r'⟩) hok hg
theorem aD.turned{t':Nat}{it:Addr}(I:aD X AM σ H s)(k:∀b o,b≠it->s.heap.get? b=some o->h'.get? b=some o)(hn:H it=none)(hL:it≠X.env.locals)
  (h1:it∈X.ex\/X.AN.heap.objs.size<=it)(h2:∀x c,X.env.cells.lookup x=some c->c≠it)(h3:∀p∈X.pn++AM,p.1≠it):aD X AM σ H {s with heap:=h',toks:=t'}:=by
 have nit:∀b u,H b=some u->b≠it:=λb u e z=>by rw[z,hn]at e;cases e
 refine I.step (g':=s.gens) (d':=s.drawn) (ch:=[it]) (λb hb=>?_) (λb o _ _ hc e _=>k b o (λz=>hc (by simp[z])) e) (λb o _ _ hc e _=>⟨o.slots,k b o (λz=>hc (by simp[z])) e⟩) (λ_ _ _ _ n=>n)
  (λb o hc e=>⟨o,k b o (λz=>hc (by simp[z])) e⟩) (λ_ _ e=>e) (λ_ _ _ e=>e) (λb ps e=>⟨#[],by rw[e];simp⟩) (λm hm=>?_) (λb u e=>?_) I.bare
 .have e:b=it:=by simpa using hb
  subst e;exact⟨h1,hL,h2,h3⟩
 .obtain⟨o,es,ep,ho,r⟩:=hm
  exact⟨o,es,ep,k _ o (fw hL) ho,r⟩
 .refine(I.hok b u e).stay (λc v hc q=>k c v ?_ q) (λ_ q=>q) λ_ _ q=>q
  rcases hc with z |z
  .rw[z];exact nit b u e
  .exact nit c _ z
theorem aD.tok(I:aD X AM σ H s)(t:Nat):aD X AM σ H {s with toks:=t}:=I.un (h':=s.heap) (t':=t) Un.refl I.hok
theorem aD.kept{t':Nat}(I:aD X AM σ H s)(k:∀b u,s.heap.get? b=some u->h'.get? b=some u):aD X AM σ H {s with heap:=h',toks:=t'}:=I.un (Un.kept k) (I.hok.kept k)
theorem aD.laid{a:Addr}{o:HO}{t':Nat}(I:aD X AM σ H s)(k:∀b u,s.heap.get? b=some u->h'.get? b=some u)(hp:s.heap.objs.size<=a)(new:dH X.prog X.w (aM H a o) h' a o):
  aD X AM σ (aM H a o) {s with heap:=h',toks:=t'}:=I.un (Un.laid k hp (I.hok.fresh hp)) (I.hok.laid k hp new)
theorem aD.write{x e:Addr}{o:HO}{t':Nat}(I:aD X AM σ H s)(mu:tY (H x))(he:e=x\/H e=some (.own x))(k:∀b u,b≠e->s.heap.get? b=some u->h'.get? b=some u)(heo:∃u,h'.get? e=some u)
  (new:dH X.prog X.w (aM H x o) h' x o):aD X AM σ (aM H x o) {s with heap:=h',toks:=t'}:=I.un (Un.write mu he k heo) (I.hok.write mu he k heo new)
theorem aD.pins_of{pins':List (Addr×Obj)}(I:aD X AM σ H s)(h:∀p∈pins',s.heap.get? p.1=some p.2/\H p.1=none/\p.1≠X.env.locals/\p.1∉X.fs/\∀v,p.2.data≠.cell v):aD X pins' σ H s:=
 ⟨I.ok,I.os,I.bare,I.base,I.loc,I.cell,I.free,I.freeC,λp hp=>(du.mp hp).elim (λz=>I.pin p (jc _ z)) (h p),I.hok,I.len⟩
theorem vW{N:List Str}(hN:N.Nodup){i j:Nat}{x:Str}(a:N[i]?=some x)(b:N[j]?=some x):i=j:=by
 obtain⟨h1,e1⟩:=ck.mp a;obtain⟨h2,e2⟩:=ck.mp b;exact(List.getElem_inj hN).mp (e1.trans e2.symm)
theorem Co{M:fi}{A:ai}{E:Value->Shared->Prop}{i:Nat}{x:Str}{v:V}{u:Value}{Q:Unit->Shared->Prop}(I:aD X AM σ H s)(hN:X.N.Nodup)(hi:X.N[i]?=some x)(hx:jG X.env.scope x)(r:bO v u)
  (h:∀s',aD X AM (σ.set i (some v)) H s'->(∃a,dw a s.heap s'.heap/\(a=X.env.locals\/X.env.cells.lookup x=some a))->Q () s')(hf:X.fn x=true\/X.env.scope.names.lookup x=some .local:=by first |exact .inl rfl |exact .inr rfl |assumption):wpAny M A (storeName X.env x u) Q E s:=by
 obtain⟨m,hn,hl⟩:=id I.loc;have hcls:(X.env.scope.kind== .class||(X.env.scope.kind== .module&&X.env.locals !=X.env.globals))=false:=by rw[I.ok.kind];rfl
 have hiσ:i<σ.length:=by rw[I.len];exact(ck.mp hi).1
 have cne:=I.cne;have tracked:∀{a:Addr}{h':Heap},(∃o,s.heap.get? a=some o/\H a=none)->dw a s.heap h'->dF X.prog X.w H h':=λ{a h'} ha hs b ob e=>by
  obtain⟨_,_,hfree⟩:=ha;refine(I.hok b ob e).stay (λc w' hc q=>(hs.2 c ?_).trans q) (λ_ q=>q) λ_ _ q=>q
  rintro rfl
  rcases hc with rfl |hc
  .rw[hfree]at e;cases e
  .rw[hfree]at hc;cases hc
 rcases hx with hk |hk
 .refine wpAny_storeName_local hk hn (λh' hn' hs=>?_) hcls
  obtain⟨oL,_,_,hoL,_⟩:=id hn;refine h _ ⟨I.ok,I.os,I.bare,⟨λb o e n hb hx=>?_,λb o e n hb hx=>?_,I.base.free,λb o e hx=>?_,I.base.tups,I.base.frzs,I.base.tbls⟩,⟨_,hn',λj y v' e1 e2 e3=>?_⟩,λy c e=>?_,I.free,I.freeC,λp hp=>?_,tracked ⟨oL,hoL,I.free⟩ hs,by simpa using I.len⟩ ⟨_,hs,.inl rfl⟩
  .exact(hs.2 b (cf (bn (ao e) I.ok.above))).trans (I.base.keep b o e n hb hx)
  .obtain⟨sl,e1⟩:=I.base.slot b o e n hb hx
   exact⟨sl,(hs.2 b (cf (bn (ao e) I.ok.above))).trans e1⟩
  .obtain⟨o',e1⟩:=I.base.there b o e hx
   exact⟨o',(hs.2 b (cf (bn (ao e) I.ok.above))).trans e1⟩
  .by_cases hj:j=i
   .subst hj
    rw[hi]at e1;cases e1;rw[fx hiσ]at e2;cases e2;exact⟨u,r,.inl ⟨hk,by simp⟩⟩
   .rw[ib (fw hj)]at e2
    obtain⟨u',r',q⟩:=hl j y v' e1 e2 e3;refine⟨u',r',?_⟩;rcases q with⟨k,e⟩|⟨k,c,e,z⟩
    .refine .inl ⟨k,?_⟩
     have:y≠x:=λe=>hj (vW hN e1 (e▸hi));simp[this,e]
    .exact .inr ⟨k,c,e,z.sameBut hs (cne y c e)⟩
  .obtain⟨w',z⟩:=I.cell y c e
   exact⟨w',z.sameBut hs (cne y c e)⟩
  .obtain⟨e,n,ne,nf,d⟩:=I.pin p hp
   exact⟨(hs.2 p.1 ne).trans e,n,ne,nf,d⟩
 .have hfn:X.fn x=true:=by
   rcases hf with z |z
   .exact z
   .rw[z]at hk;cases hk
  obtain⟨c,hc⟩:=I.ok.has x (.inl hk);obtain⟨w',z⟩:=I.cell x c hc;refine wpAny_storeName_cell I.ok.kind hk hc z (λh' hc' hs=>?_);obtain⟨oc,hoc,hocd⟩:=id z;refine h {s with heap:=h'} ⟨I.ok,I.os,I.bare,⟨λb o e n hb hx=>?_,λb o e n hb hx=>?_,I.base.free,λb o e hx=>?_,I.base.tups,I.base.frzs,I.base.tbls⟩,⟨m,hn.sameBut hs (fw (cne x c hc)),λj y v' e1 e2 e3=>?_⟩,λy c' e=>?_,I.free,I.freeC,λp hp=>?_,tracked ⟨oc,hoc,I.freeC x c hc⟩ hs,by simpa using I.len⟩ ⟨c,hs,.inr hc⟩
  .exact(hs.2 b (cf (bn (ao e) (I.ok.cab x c hfn hc)))).trans (I.base.keep b o e n hb hx)
  .obtain⟨sl,e1⟩:=I.base.slot b o e n hb hx
   exact⟨sl,(hs.2 b (cf (bn (ao e) (I.ok.cab x c hfn hc)))).trans e1⟩
  .obtain⟨o',e1⟩:=I.base.there b o e hx
   exact⟨o',(hs.2 b (cf (bn (ao e) (I.ok.cab x c hfn hc)))).trans e1⟩
  .by_cases hj:j=i
   .subst hj
    rw[hi]at e1;cases e1;rw[fx hiσ]at e2;cases e2;exact⟨u,r,.inr ⟨.inl hk,c,hc,hc'⟩⟩
   .rw[ib (fw hj)]at e2
    obtain⟨u',r',q⟩:=hl j y v' e1 e2 e3;refine⟨u',r',?_⟩;rcases q with q |⟨k,c',e,z'⟩
    .exact .inl q
    .refine .inr ⟨k,c',e,z'.sameBut hs ?_⟩
     rintro rfl
     exact hj (vW hN e1 (I.ok.inj _ _ _ e hc▸hi))
  .by_cases hcc:c'=c
   .subst hcc;exact⟨_,hc'⟩
   .obtain⟨w2,z2⟩:=I.cell y c' e
    exact⟨w2,z2.sameBut hs hcc⟩
  .obtain⟨e,n,ne,nf,d⟩:=I.pin p hp
   refine⟨(hs.2 p.1 ?_).trans e,n,ne,nf,d⟩;intro q;rw[q,hoc]at e;have q':oc=p.2:=bj e;exact d w' (by rw[<-q'];exact hocd)
theorem lL{M:fi}{A:ai}{E:Value->Shared->Prop}{i:Nat}{x:Str}{v:V}{u:Value}{Q:Unit->Shared->Prop}(I:aD X AM σ H s)(hN:X.N.Nodup)(hi:X.N[i]?=some x)(hx:jG X.env.scope x)(r:bO v u)
  (h:∀s',aD X AM (σ.set i (some v)) H s'->Q () s')(hf:X.fn x=true\/X.env.scope.names.lookup x=some .local:=by first |exact .inl rfl |exact .inr rfl |assumption):wpAny M A (storeName X.env x u) Q E s:=
 Co I hN hi hx r (λs' I' _=>h s' I') hf
theorem aD.call'{s':Shared}{ch:List Addr}(I:aD X AM σ H s)(ho:s'.os=s.os)(u:Un (bV X.stack) ch H H' s.heap s'.heap)(hok:dF X.prog X.w H' s'.heap)(hg:fh s'.gens)
  (hch:∀b∈ch,(b∈X.ex\/X.AN.heap.objs.size<=b)/\b≠X.env.locals/\(∀x c,X.env.cells.lookup x=some c->c≠b)/\∀p∈X.pn++AM,p.1≠b):aD X AM σ H' s':=by
 obtain⟨h',g',d',t',o'⟩:=s';have e:o'=s.os:=ho;subst e;exact I.call (g':=g') (t':=t') (d':=d') u hok hg hch
end
abbrev XK:=Value->AG->Hp->Prop
abbrev St:=List (Option V)
abbrev VK:=V->Hp->Prop
abbrev TE:=St->Hp->VK->Prop
abbrev TT:=St->Hp->(Bool->Hp->Prop)->Prop
abbrev TA:=St->Hp->(List V->Hp->Prop)->Prop
structure jD where
 nx:St->Hp->Prop
 rt:VK
 bk:St->Hp->Prop:=λ_ _=>False
 ct:St->Hp->Prop:=λ_ _=>False
abbrev TS:=jD->St->Hp->Prop
def EP(X:Cx)(AM:List (Addr×Obj))(σ:St)(Q:VK)(u:Value)(s':Shared):Prop:=∃v H',aD X AM σ H' s'/\bO v u/\Q v H'
def TP(X:Cx)(AM:List (Addr×Obj))(σ:St)(Q:Bool->Hp->Prop)(b:Bool)(s':Shared):Prop:=∃H',aD X AM σ H' s'/\Q b H'
def AP(X:Cx)(AM:List (Addr×Obj))(σ:St)(Q:List V->Hp->Prop)(us:AE)(s':Shared):Prop:=∃vs H',aD X AM σ H' s'/\bA vs us/\Q vs H'
def SP(X:Cx)(AM:List (Addr×Obj))(D:jD)(f:Flow)(s':Shared):Prop:=
 match f with
 |.next=>∃σ' H',aD X AM σ' H' s'/\D.nx σ' H'
 |.brk=>∃σ' H',aD X AM σ' H' s'/\D.bk σ' H'
 |.cont=>∃σ' H',aD X AM σ' H' s'/\D.ct σ' H'
 |.ret u=>∃v σ' H',aD X AM σ' H' s'/\bO v u/\D.rt v H'
def PE(X:Cx)(e:af)(t:TE):Prop:=
 ∀(AM:List (Addr×Obj))(s:Shared)(σ:St)(H:Hp)(Q:VK),aD X AM σ H s->t σ H Q->wpAny (model X.prog X.w) X.A (eval e X.env) (EP X AM σ Q) X.xe s
def PT(X:Cx)(e:af)(t:TT):Prop:=
 ∀(AM:List (Addr×Obj))(s:Shared)(σ:St)(H:Hp)(Q:Bool->Hp->Prop),aD X AM σ H s->t σ H Q->wpAny (model X.prog X.w) X.A (isTrue e X.env (eval e X.env)) (TP X AM σ Q) X.xe s
def PW(X:Cx)(e:af)(t:TT):Prop:=
 ∀(whole:Sem Value)(AM:List (Addr×Obj))(s:Shared)(σ:St)(H:Hp)(Q:Bool->Hp->Prop),aD X AM σ H s->t σ H Q->wpAny (model X.prog X.w) X.A (isTrue e X.env whole) (TP X AM σ Q) X.xe s
theorem PW.pt{X:Cx}{e:af}{t:TT}(h:PW X e t):PT X e t:=h _
def PA(X:Cx)(es:List af)(t:TA):Prop:=
 ∀(pos:ag)(AM:List (Addr×Obj))(s:Shared)(σ:St)(H:Hp)(Q:List V->Hp->Prop),aD X AM σ H s->t σ H Q->wpAny (model X.prog X.w) X.A (spliced (backTo pos (starEach es X.env))) (AP X AM σ Q) X.xe s
def PS(X:Cx)(st:Stmt)(t:TS):Prop:=
 ∀(AM:List (Addr×Obj))(s:Shared)(σ:St)(H:Hp)(D:jD),aD X AM σ H s->t D σ H->wpAny (model X.prog X.w) X.A (exec st X.env) (SP X AM D) X.xe s
def eA(X:Cx)(st:List Stmt)(t:TS):Prop:=
 ∀(AM:List (Addr×Obj))(s:Shared)(σ:St)(H:Hp)(D:jD),aD X AM σ H s->t D σ H->wpAny (model X.prog X.w) X.A (execs st X.env) (SP X AM D) X.xe s
theorem bB{α:Type}{t:Sem α}{Q Q':α->Shared->Prop}{M:fi}{A:ai}{E:Value->Shared->Prop}{s:Shared}(h:wpAny M A t Q E s)(hQ:∀a s,Q a s->Q' a s):wpAny M A t Q' E s:=cn h hQ λ_ _ x=>x
section
variable{X:Cx}
theorem O7{a b:af}{ta tb:TE}(ha:PE X a ta)(hb:PE X b tb){AM:List (Addr×Obj)}{s:Shared}{σ:St}{H:Hp}{R:V->V->Hp->Prop}(I:aD X AM σ H s)(h:ta σ H λx H1=>tb σ H1 λy H2=>R x y H2)
  {α:Type}{Q:α->Shared->Prop}{f:Value->Value->Sem α}
  (hf:∀v u s2 x y H2,aD X AM σ H2 s2->bO x v->bO y u->R x y H2->wpAny (model X.prog X.w) X.A (f v u) Q X.xe s2):
  wpAny (model X.prog X.w) X.A (eval a X.env) (λv AQ=>wpAny (model X.prog X.w) X.A (eval b X.env) (λu AT=>wpAny (model X.prog X.w) X.A (f v u) Q X.xe AT) X.xe AQ) X.xe s:=by
 refine bB (ha AM s σ H _ I h) ?_
 rintro v s1 ⟨x,H1,I1,r1,q1⟩
 refine bB (hb AM s1 σ H1 _ I1 q1) ?_
 rintro u s2 ⟨y,H2,I2,r2,q2⟩
 exact hf v u s2 x y H2 I2 r1 r2 q2
def Zj(i:Nat):TE:=λσ H Q=>∃v,σ[i]?=some (some v)/\Q v H
def tC(v:V):TE:=λ_ H Q=>Q v H
theorem Th{i:Nat}{x:Str}{pos:ag}(hN:X.N[i]?=some x)(hv:tV X.env.scope x)(hd:(x==("__debug__":Str))=false:=by decide)(hcd:(x==("__classdict__":Str))=false:=by decide):PE X (.Name x pos) (Zj i):=by
 intro AM s σ H Q I h;obtain⟨v,e,h⟩:=h;obtain⟨m,hn,hl⟩:=I.loc;obtain⟨u,r,l⟩:=hl i x v hN e hv;have fin:EP X AM σ Q u s:=⟨v,H,I,r,h⟩;rcases l with⟨hk,hm⟩|⟨hk,c,hc,hcell⟩
 .exact sf (wpAny_loadName_local I.ok.kind hk hn hm fin) hd
 .rcases hk with hk |hk
  .exact sf (wpAny_loadName_cell I.ok.kind hk hc hcell fin) hd
  .exact sf (wpAny_loadName_free I.ok.kind hk hc hcell fin hcd) hd
theorem Qh{i j pos}:PE X (.Constant (.int i) j pos) (tC (.int i)):=λ_ _ _ H _ I h=>wpAny_Constant_int ⟨.int i,H,I.tok _,⟨_,rfl⟩,h⟩
theorem B7{b j pos}:PE X (.Constant (.bool b) j pos) (tC (.bl b)):=λ_ _ _ H _ I h=>Constant_bool ⟨.bl b,H,I,rfl,h⟩
theorem Ly{j pos}:PE X (.Constant .none j pos) (tC .non):=λ_ _ _ H _ I h=>Constant_none ⟨.non,H,I,rfl,h⟩
theorem Qg{x j pos}:PE X (.Constant (.str x) j pos) (tC (.str x)):=λ_ _ _ H _ I h=>Calls.Constant_str ⟨.str x,H,I.tok _,⟨_,rfl⟩,h⟩
def Gl(X:Cx)(x:Str):Prop:=X.env.kindOf x=some .globalImplicit
theorem lN{E:Value->Shared->Prop}{AM:List (Addr×Obj)}{s:Shared}{σ:St}{H:Hp}{x:Str}{u:Value}{pos:ag}{Q:Value->Shared->Prop}(I:aD X AM σ H s)(hg:Gl X x)(hm:X.mg x=some u)(h:Q u s)
  (hd:(x==("__debug__":Str))=false:=by decide):wpAny (model X.prog X.w) X.A (eval (.Name x pos) X.env) Q E s:=
 wo I.ok.kind hg (Calls.loadGlobal_global (by rw[I.ok.glob];exact I.mod.glob.keeps I.bk) hm h) hd
theorem nC{E:Value->Shared->Prop}{AM:List (Addr×Obj)}{s:Shared}{σ:St}{H:Hp}{x:Str}{u:Value}{pos:ag}{Q:Value->Shared->Prop}(I:aD X AM σ H s)(hg:Gl X x)(hm:X.mg x=none)(hv:bootBuiltins x=some u)(h:Q u s)
  (hn:x≠"__name__":=by decide)(hd:(x==("__debug__":Str))=false:=by decide):wpAny (model X.prog X.w) X.A (eval (.Name x pos) X.env) Q E s:=by
 obtain⟨mb,h1,h2⟩:=I.mod.blt;exact wo I.ok.kind hg (Calls.loadGlobal_builtin (by rw[I.ok.glob];exact I.mod.glob.keeps I.bk) hm (by rw[I.ok.blt];exact h1.keeps I.bk) ((h2 x hn).trans hv) h) hd
theorem mS{x:Str}{v:V}{u:Value}{pos:ag}(hg:Gl X x)(hm:X.mg x=some u)(r:bO v u)(hd:(x==("__debug__":Str))=false:=by decide):PE X (.Name x pos) (tC v):=
 λ_ _ _ H _ I h=>lN I hg hm ⟨v,H,I,r,h⟩ hd
theorem wE{x:Str}{v:V}{u:Value}{pos:ag}(hg:Gl X x)(hm:X.mg x=none)(hv:bootBuiltins x=some u)(r:bO v u)(hn:x≠"__name__":=by decide)(hd:(x==("__debug__":Str))=false:=by decide):PE X (.Name x pos) (tC v):=
 λ_ _ _ H _ I h=>nC I hg hm hv ⟨v,H,I,r,h⟩ hn hd
variable{a b:af}{ta tb:TE}{pos:ag}
def PC(X:Cx)(op:im)(a b:af)(t:TE):Prop:=
 ∀(AM:List (Addr×Obj))(s:Shared)(σ:St)(H:Hp)(Q:VK),aD X AM σ H s->t σ H Q->
  wpAny (model X.prog X.w) X.A (eval a X.env) (λv AQ=>wpAny (model X.prog X.w) X.A (eval b X.env) (λu AT=>wpAny (model X.prog X.w) X.A (compareOp op v u) (EP X AM σ Q) X.xe AT) X.xe AQ) X.xe s
theorem Tq(b:af){op:im}(h:op≠.In)(h2:op≠.NotIn):behindInMarks op b=false:=by
 have e1:(op==CmpOp.In)=false:=by cases op<;>first |rfl |exact absurd rfl h
 have e2:(op==CmpOp.NotIn)=false:=by cases op<;>first |rfl |exact absurd rfl h2
 cases b<;>simp[behindInMarks,e1,e2]
def tB(t:TE):TT:=λσ H Q=>t σ H λx H1=>∃c,x=.bl c/\Q c H1
theorem O5{op:im}{t:TE}(h:PC X op a b t)(h1:behindInMarks op b=false:=by first |exact Tq _ (by decide) (by decide) |rfl):PT X (.Compare a [op] [b] pos) (tB t):=by
 intro AM s σ H Q I hw;refine wq (bB (h AM s σ H _ I hw) λv s1 h1=>bB h1 λu s2 h2=>bB h2 λc s3 hq=>?_) h1;rcases hq with⟨x,H1,I1,r1,q1⟩;obtain⟨d,rfl,q⟩:=q1;cases r1;exact jx ⟨H1,I1,q⟩
theorem Mw{e:af}{t:TE}(h:PE X e t)(he:∀whole,isTrue e X.env whole=(do let v <-whole;standAt e.pos;holding [v] (truthy v)):=by intro _;rfl):PT X e (tB t):=by
 intro AM s σ H Q I hw;refine isTrue_plain (bB (h AM s σ H _ I hw) λv s1 hq=>?_) (he _);rcases hq with⟨x,H1,I1,r1,q1⟩;obtain⟨d,rfl,q⟩:=q1;cases r1;exact jx ⟨H1,I1,q⟩
variable{tA tB':TT}{dQ:List af}
def K3(t u:TT):TT:=λσ H Q=>t σ H λc H1=>if c=true then u σ H1 Q else Q false H1
def O1(t u:TT):TT:=λσ H Q=>t σ H λc H1=>if c=true then Q true H1 else u σ H1 Q
def K4(t:TT):TT:=λσ H Q=>t σ H λc H1=>Q (!c) H1
theorem Aw(ha:PT X a tA):PW X (.BoolOp .And [a] pos) tA:=by
 intro wh AM s σ H Q I h;refine isTrue_and (bB (ha AM s σ H Q I h) λc s1 e=>?_);cases c with
 |true=>exact isTrue_and_nil e
 |false=>exact e
theorem Ky(ha:PT X a tA):PW X (.BoolOp .Or [a] pos) tA:=by
 intro wh AM s σ H Q I h;refine isTrue_or (bB (ha AM s σ H Q I h) λc s1 e=>?_);cases c with
 |false=>exact isTrue_or_nil e
 |true=>exact e
theorem Az(ha:PT X a tA)(hb:PW X (.BoolOp .And (b::dQ) pos) tB'):PW X (.BoolOp .And (a::b::dQ) pos) (K3 tA tB'):=by
 intro wh AM s σ H Q I h;refine isTrue_and (bB (ha AM s σ H _ I h) λc s1 hq=>?_);rcases hq with⟨H1,I1,q1⟩;cases c with
 |true=>exact hb wh AM s1 σ H1 Q I1 q1
 |false=>exact⟨H1,I1,q1⟩
theorem E9(ha:PT X a tA)(hb:PW X (.BoolOp .Or (b::dQ) pos) tB'):PW X (.BoolOp .Or (a::b::dQ) pos) (O1 tA tB'):=by
 intro wh AM s σ H Q I h;refine isTrue_or (bB (ha AM s σ H _ I h) λc s1 hq=>?_);rcases hq with⟨H1,I1,q1⟩;cases c with
 |true=>exact⟨H1,I1,q1⟩
 |false=>exact hb wh AM s1 σ H1 Q I1 q1
theorem Kx(ha:PT X a tA):PT X (.UnaryOp .Not a pos) (K4 tA):=by
 intro AM s σ H Q I h;exact isTrue_not (ha AM s σ H (λc H1=>Q (!c) H1) I h)
def A9(ta tb:TE):TE:=λσ H Q=>ta σ H λx H1=>∃c,x=.bl c/\if c=true then tb σ H1 Q else Q (.bl false) H1
def B4(ta:TE):TE:=λσ H Q=>ta σ H λx H1=>∃c,x=.bl c/\Q (.bl (!c)) H1
theorem Mx{op}{t:TE}(h:PE X a t):PE X (.BoolOp op [a] pos) t:=λAM s σ H Q I hw=>BoolOp_one (h AM s σ H Q I hw)
theorem xC(ha:PE X a ta)(hb:PE X (.BoolOp .And (b::dQ) pos) tb):PE X (.BoolOp .And (a::b::dQ) pos) (A9 ta tb):=by
 intro AM s σ H Q I h;refine BoolOp_and (bB (ha AM s σ H _ I h) λv s1 hq=>?_);rcases hq with⟨x,H1,I1,r1,q1⟩;obtain⟨c,rfl,q1⟩:=q1;cases r1;refine jx ?_;cases c with
 |true=>exact hb AM s1 σ H1 Q I1 q1
 |false=>exact⟨.bl false,H1,I1,rfl,q1⟩
theorem Yh(ha:PE X a ta):PE X (.UnaryOp .Not a pos) (B4 ta):=by
 intro AM s σ H Q I h;refine UnaryOp_ (bB (ha AM s σ H _ I h) λv s1 hq=>?_);rcases hq with⟨x,H1,I1,r1,q1⟩;obtain⟨c,rfl,q1⟩:=q1;cases r1;exact not_of (jx ⟨.bl (!c),H1,I1,rfl,q1⟩)
end
def bS(K:ae)(H:Hp)(a:Addr)(xs:List V):Prop:=
 Rd H a (.lst xs)\/
  ∃(o:Obj)(its:Array Value)(n:Nat),K.lookup a=some o/\o.cls=.type "list"/\o.dict=none/\o.data=.seq its n/\its.size<=sizeLine/\bA xs its.toList
def bZ(K:ae)(H:Hp)(a:Addr)(xs:List V):Prop:=
 Rd H a (.tup xs)\/
  ∃(o:Obj)(its:Array Value)(n:Nat),K.lookup a=some o/\(o.cls=.type "tuple"/\o.dict=none)/\o.data=.seq its n/\its.size<=sizeLine/\bA xs its.toList
def K9:Value->Option V
 |.none=>some .non
 |.bool b=>some (.bl b)
 |.int i _=>some (.int i)
 |.str x _=>some (.str x)
 |.bytes b _=>some (.byt b)
 |.float b _=>some (.flt b)
 |.ref a=>some (.ref a)
 |.type n=>some (.ty n)
 |_=>none
theorem bO.abs{x:V}{u:Value}(r:bO x u):K9 u=some x:=by
 cases x with
 |non=>cases r;rfl
 |bl _=>cases r;rfl
 |int _=>obtain⟨t,rfl⟩:=r;rfl
 |str _=>obtain⟨t,rfl⟩:=r;rfl
 |byt _=>obtain⟨t,rfl⟩:=r;rfl
 |flt _=>obtain⟨t,rfl⟩:=r;rfl
 |ref _=>cases r;rfl
 |ty _=>cases r;rfl
theorem bO.inj{x y:V}{u:Value}(r:bO x u)(q:bO y u):x=y:=bj (r.abs.symm.trans q.abs)
theorem bA.inj:∀{xs ys:List V}{us:AE},bA xs us->bA ys us->xs=ys
 |_,_,_,.nil,.nil=>rfl
 |_,_,_,.cons r t,.cons r' t'=>by rw[r.inj r',bA.inj t t']
section
variable{X:Cx}{AM:List (Addr×Obj)}{σ:St}{H:Hp}{s:Shared}{a:Addr}{xs ys:List V}
theorem bS.of{K:ae}(h:H a=some (.lst xs)):bS K H a xs:=.inl (.inl h)
theorem bZ.of{K:ae}(h:H a=some (.tup xs)):bZ K H a xs:=.inl (.inl h)
theorem aD.list(I:aD X AM σ H s)(h:bS X.K H a xs):∃its:AE,bA xs its/\PlainL s.heap a its.toArray/\xs.length<=sizeLine:=by
 rcases h with h |⟨o,its,n,hk,hc,hd,hs,hz,r⟩
 .obtain⟨z,its,n,r,e⟩:=h.ok I.hok
  exact⟨its,r,⟨_,n,e,rfl,rfl,rfl⟩,z⟩
 .refine⟨its.toList,r,⟨o,n,I.kIn a o hk,hc,hd,by simpa using hs⟩,?_⟩
  have e:=r.length;simp only[jy]at e;omega
theorem aD.tuple(I:aD X AM σ H s)(h:bZ X.K H a xs):∃its:AE,bA xs its/\jb s.heap a its.toArray/\xs.length<=sizeLine:=by
 rcases h with h |⟨o,its,n,hk,hc,hs,hz,r⟩
 .obtain⟨z,its,r,p⟩:=h.ok I.hok
  exact⟨its,r,p,z.1⟩
 .refine⟨its.toList,r,⟨o,I.kIn a o hk,hc.1,n,by simpa using hs⟩,?_⟩
  have e:=r.length;simp only[jy]at e;omega
theorem aD.list_inj(I:aD X AM σ H s)(h:bS X.K H a xs)(h':bS X.K H a ys):xs=ys:=by
 obtain⟨its,r,⟨o,n,e,_,_,d⟩,_⟩:=I.list h;obtain⟨its',r',⟨o',n',e',_,_,d'⟩,_⟩:=I.list h';rw[e]at e';cases e';rw[d]at d';injection d' with d1 _;have:its=its':=by simpa using congrArg si d1
 subst this;exact r.inj r'
theorem aD.tuple_inj(I:aD X AM σ H s)(h:bZ X.K H a xs)(h':bZ X.K H a ys):xs=ys:=by
 obtain⟨its,r,⟨o,e,_,n,d⟩,_⟩:=I.tuple h;obtain⟨its',r',⟨o',e',_,n',d'⟩,_⟩:=I.tuple h';rw[e]at e';cases e';rw[d]at d';injection d' with d1 _;have:its=its':=by simpa using congrArg si d1
 subst this;exact r.inj r'
end
abbrev Cx.wish(X:Cx)(E:Value->Shared->Prop):Cx:={X with xe:=E}
abbrev Cx.nox(X:Cx):Cx:=X.wish λ_ _=>False
theorem Cx.Ok.wish{X:Cx}(ok:X.Ok)(E:Value->Shared->Prop):(X.wish E).Ok:=
 ⟨ok.mod,ok.kind,ok.glob,ok.blt,ok.above,ok.inj,ok.has,ok.cab,ok.hd,ok.frames,ok.stk,ok.exf,ok.bs,ok.bsz,ok.noex,ok.exfs,ok.funs,ok.frf⟩
theorem Cx.Ok.unwish{X:Cx}{E:Value->Shared->Prop}(ok:(X.wish E).Ok):X.Ok:=
 ⟨ok.mod,ok.kind,ok.glob,ok.blt,ok.above,ok.inj,ok.has,ok.cab,ok.hd,ok.frames,ok.stk,ok.exf,ok.bs,ok.bsz,ok.noex,ok.exfs,ok.funs,ok.frf⟩
section
variable{X:Cx}{AM:List (Addr×Obj)}{σ:St}{H:Hp}{s:Shared}{E:Value->Shared->Prop}
theorem aD.wish(I:aD X AM σ H s)(E:Value->Shared->Prop):aD (X.wish E) AM σ H s:=⟨I.ok.wish E,I.os,I.bare,I.base,I.loc,I.cell,I.free,I.freeC,I.pin,I.hok,I.len⟩
theorem aD.unwish(I:aD (X.wish E) AM σ H s):aD X AM σ H s:=⟨I.ok.unwish,I.os,I.bare,I.base,I.loc,I.cell,I.free,I.freeC,I.pin,I.hok,I.len⟩
theorem SP.unwish{D:jD}{f:Flow}{s':Shared}(h:SP (X.wish E) AM D f s'):SP X AM D f s':=by
 cases f with
 |next=>obtain⟨σ',H',I,q⟩:=h;exact⟨σ',H',I.unwish,q⟩
 |brk=>obtain⟨σ',H',I,q⟩:=h;exact⟨σ',H',I.unwish,q⟩
 |cont=>obtain⟨σ',H',I,q⟩:=h;exact⟨σ',H',I.unwish,q⟩
 |ret u=>obtain⟨v,σ',H',I,r,q⟩:=h;exact⟨v,σ',H',I.unwish,r,q⟩
theorem eA.nox{st:List Stmt}{t:TS}(h:eA X.nox st t):eA X st t:=λAM s σ H D I hw=>
 cn (h AM s σ H D (I.wish _) hw) (λ_ _ q=>q.unwish) λ_ _ z=>de z
end
section
variable{X:Cx}{st:Stmt}{dQ:List Stmt}{t u:TS}{e:af}{te:TE}{pos:ag}
def Zz:TS:=λD σ H=>D.nx σ H
def J7(t u:TS):TS:=λD σ H=>t {D with nx:=u D} σ H
theorem Hv:eA X [] Zz:=λ_ _ σ H _ I h=>jz ⟨σ,H,I,h⟩
theorem vN(h1:PS X st t)(h2:eA X dQ u):eA X (st::dQ) (J7 t u):=by
 intro AM s σ H D I h;refine sj (bB (h1 AM s σ H {D with nx:=u D} I h) λf s1 q=>?_);cases f with
 |next=>
  obtain⟨σ',H',I',q⟩:=q;exact h2 AM s1 σ' H' D I' q
 |ret v=>exact q
 |brk=>exact q
 |cont=>exact q
theorem rV(h1:PS X st t):eA X [st] t:=by
 intro AM s σ H D I h;refine sj (bB (h1 AM s σ H D I h) λf s1 q=>?_);cases f with
 |next=>exact jz q
 |ret v=>exact q
 |brk=>exact q
 |cont=>exact q
theorem aD.quiet{AM:List (Addr×Obj)}{σ:St}{H:Hp}{s:Shared}(I:aD X AM σ H s):interactive X.env=false:=by simp[interactive,I.ok.kind]
def F0(te:TE):TS:=λD σ H=>te σ H λ_ H1=>D.nx σ H1
theorem Qu(he:PE X e te)(hs:swapsWith e none pos.line X.env=pure false:=by rfl):PS X (.Expr e pos) (F0 te):=by
 intro AM s σ H D I h;exact wpAny_Expr_any (bB (he AM s σ H _ I h) λv s1 ⟨x,H1,I1,r1,q1⟩=>⟨σ,H1,I1,q1⟩) I.quiet hs
def G8(te:TE):TS:=λD σ H=>te σ H D.rt
theorem Iy(he:PE X e te):PS X (.Return (some e) pos) (G8 te):=by
 intro AM s σ H D I h;exact wpAny_Return_some (bB (he AM s σ H _ I h) λv s1 ⟨x,H1,I1,r1,q1⟩=>⟨x,σ,H1,I1,r1,q1⟩)
def K2(c:TT)(t u:TS):TS:=λD σ H=>c σ H λb H1=>if b=true then t D σ H1 else u D σ H1
theorem G4{c:af}{a b:List Stmt}{tc:TT}(hc:PT X c tc)(ha:eA X a t)(hb:eA X b u):PS X (.If c a b pos) (K2 tc t u):=by
 intro AM s σ H D I h;refine wpAny_If (bB (hc AM s σ H _ I h) λd s1 hq=>?_);rcases hq with⟨H1,I1,q1⟩;cases d with
 |true=>exact ha AM s1 σ H1 D I1 q1
 |false=>exact hb AM s1 σ H1 D I1 q1
end
abbrev TG:=V->St->Hp->(St->Hp->Prop)->Prop
abbrev kB:=List V->St->Hp->(St->Hp->Prop)->Prop
def PG(X:Cx)(target:af)(t:TG):Prop:=
 ∀(AM:List (Addr×Obj))(s:Shared)(σ:St)(H:Hp)(v:V)(u:Value)(Q:St->Hp->Prop),aD X AM σ H s->bO v u->t v σ H Q->
  wpAny (model X.prog X.w) X.A (assign target X.env u) (λ_ s'=>∃σ' H',aD X AM σ' H' s'/\Q σ' H') X.xe s
def jF(X:Cx)(ts:List af)(t:kB):Prop:=
 ∀(AM:List (Addr×Obj))(s:Shared)(σ:St)(H:Hp)(vs:List V)(us:AE)(Q:St->Hp->Prop),aD X AM σ H s->bA vs us->t vs σ H Q->
  wpAny (model X.prog X.w) X.A (assignInOrder ((assignEach ts X.env).map (·.2)) us) (λ_ s'=>∃σ' H',aD X AM σ' H' s'/\Q σ' H') X.xe s
abbrev yE:=V->V->V->Hp->(Hp->Prop)->Prop
def Yj(X:Cx)(t:yE):Prop:=
 ∀(AM:List (Addr×Obj))(s:Shared)(σ:St)(H:Hp)(o i v:V)(ov iv u:Value)(Q:Hp->Prop),aD X AM σ H s->bO o ov->bO i iv->bO v u->t o i v H Q->
  wpAny (model X.prog X.w) X.A (setItem ov iv u) (λ_ s'=>∃H',aD X AM σ H' s'/\Q H') X.xe s
abbrev N8:=V->V->Hp->VK->Prop
def hV(X:Cx)(op:Operator)(t:N8):Prop:=
 ∀(AM:List (Addr×Obj))(s:Shared)(σ:St)(H:Hp)(x y:V)(v u:Value)(Q:VK),aD X AM σ H s->bO x v->bO y u->t x y H Q->
  wpAny (model X.prog X.w) X.A (inplaceOp op v u) (EP X AM σ Q) X.xe s
section
variable{X:Cx}{pos:ag}
def xS(i:Nat):TG:=λv σ H Q=>Q (σ.set i (some v)) H
theorem Gv{i:Nat}{x:Str}(hN:X.N.Nodup)(hi:X.N[i]?=some x)(hx:jG X.env.scope x)(hf:X.fn x=true\/X.env.scope.names.lookup x=some .local:=by first |exact .inl rfl |exact .inr rfl |assumption):PG X (.Name x pos) (xS i):=by
 intro AM s σ H v u Q I r h;exact wpAny_assign_Name (lL I hN hi hx r (λs' I'=>⟨_,H,I',h⟩) hf)
def M2:kB:=λvs σ H Q=>vs=[]/\Q σ H
def E8(t:TG)(u:kB):kB:=λvs σ H Q=>∃v r,vs=v::r/\t v σ H λσ' H'=>u r σ' H' Q
theorem Yu:jF X [] M2:=by
 intro AM s σ H vs us Q I r h;obtain⟨e,h⟩:=h;subst e;cases r;exact assignInOrder_nil ⟨σ,H,I,h⟩
theorem Cq{e:af}{es:List af}{t:TG}{u:kB}(h1:PG X e t)(h2:jF X es u)
  (hs:(assignEach (e::es) X.env).map (·.2)=assign e X.env::(assignEach es X.env).map (·.2):=by rfl):jF X (e::es) (E8 t u):=by
 intro AM s σ H vs us Q I r h;obtain⟨v,vr,e1,h⟩:=h;subst e1;cases r with
 |cons r rr=>
  rw[hs];refine sk (bB (h1 AM s σ H _ _ _ I r h) λ_ s1 hq=>?_);rcases hq with⟨σ1,H1,I1,q1⟩;exact h2 AM s1 σ1 H1 _ _ Q I1 rr q1
def K6(K:ae)(n:Nat)(t:kB):TG:=λv σ H Q=>∃a xs,v=.ref a/\bZ K H a xs/\xs.length=n/\t xs σ H Q
theorem Jy{es:List af}{k:Nat}{t:kB}{n:Nat}(hc:X.calm=true)(h:jF X es t)
  (hn:(assignEach es X.env).length=n:=by rfl)(hst:(assignEach es X.env).findIdx? (·.1)=none:=by rfl):PG X (.Tuple es k pos) (K6 X.K n t):=by
 intro AM s σ H v u Q I r hw;obtain⟨a,xs,e1,hq,hl,hw⟩:=hw;subst e1;cases r;obtain⟨its,rv,ht,hz⟩:=I.tuple hq;refine assign_Tuple_tuple (I.ok.hd hc) ht (by simp[hn,<-hl,rv.length]) hst λh' hx=>?_;have I1:aD X AM σ H {s with heap:=h'}:=I.kept (t':=s.toks) λb o e=>hx b o (cf (ao e)) e;exact h AM _ σ H xs _ Q I1 (by simpa using rv) hw
def I0(to ti:TE)(t:yE):TG:=λv σ H Q=>to σ H λo H1=>ti σ H1 λi H2=>t o i v H2 λH3=>Q σ H3
theorem Gx{o i:af}{to ti:TE}{t:yE}(ho:PE X o to)(hi:PE X i ti)(hs:Yj X t)
  (ha:∀v,assign (.Subscript o i pos) X.env v=(do
   let ov <-holding [v] (eval o X.env)
   let iv <-holding [v,ov] (eval i X.env)
   standAt pos
   holding [v,ov,iv] (setItem ov iv v)
   release [v,ov,iv] []):=by intro _;rfl):PG X (.Subscript o i pos) (I0 to ti t):=by
 intro AM s σ H v u Q I r h;rw[ha];refine aa (dj (bB (ho AM s σ H _ I h) λov s1 hq=>?_));rcases hq with⟨x,H1,I1,r1,q1⟩;refine aa (dj (bB (hi AM s1 σ H1 _ I1 q1) λiv s2 hq=>?_));rcases hq with⟨y,H2,I2,r2,q2⟩;refine aa (ka (aa (dj (bB (hs AM s2 σ H2 x y v ov iv u _ I2 r1 r2 r q2) λ_ s3 hq=>?_))));rcases hq with⟨H3,I3,q3⟩;exact wpAny_release ⟨σ,H3,I3,q3⟩
def yK(te:TE)(g:TG):TS:=λD σ H=>te σ H λx H1=>g x σ H1 D.nx
theorem Xy{tg e:af}{te:TE}{g:TG}(he:PE X e te)(hg:PG X tg g)(hs:swapsWithSole [tg] e pos.line X.env=pure false:=by rfl)(hw:swappedStores [tg] e X.env=pure none:=by rfl)
  (h1:(assignEach [tg] X.env).map (·.2)=[assign tg X.env]:=by rfl):PS X (.Assign [tg] e pos) (yK te g):=by
 intro AM s σ H D I h;refine wpAny_Assign_stores (bB (he AM s σ H _ I h) λv s1 hq=>?_) hs hw;rcases hq with⟨x,H1,I1,r1,q1⟩;rw[h1];exact bB (hg AM s1 σ H1 x v _ I1 r1 q1) λ_ s2 q=>q
theorem wW{i:Nat}{x:Str}{e:af}{te:TE}{pos':ag}(hN:X.N.Nodup)(hi:X.N[i]?=some x)(hx:jG X.env.scope x)(he:PE X e te)(hs:swapsWith e (some (.Name x pos')) pos.line X.env=pure false:=by rfl)(hf:X.fn x=true\/X.env.scope.names.lookup x=some .local:=by first |exact .inl rfl |exact .inr rfl |assumption):
  PS X (.Assign [.Name x pos'] e pos) (yK te (xS i)):=by
 intro AM s σ H D I h;refine wpAny_Assign_Name (bB (he AM s σ H _ I h) λv s1 hq=>?_) hs;rcases hq with⟨y,H1,I1,r1,q1⟩;exact lL I1 hN hi hx r1 (λs2 I2=>⟨_,H1,I2,q1⟩) hf
def L6(i j:Nat)(ta:TA):TS:=λD σ H=>ta σ H λvs H1=>∃v w,vs=[v,w]/\D.nx ((σ.set i (some v)).set j (some w)) H1
theorem Tx{i j:Nat}{x y:Str}{a b:af}{ta:TA}{px py pt:ag}{kt k2 pt2}(hc:X.calm=true)(hN:X.N.Nodup)(hi:X.N[i]?=some x)(hj:X.N[j]?=some y)(hij:i≠j)
  (hx:X.env.scope.names.lookup x=some .local)(hy:X.env.scope.names.lookup y=some .local)(ha:PA X [a,b] ta)
  (hw:swappedStores [.Tuple [.Name x px,.Name y py] kt pt] (.Tuple [a,b] k2 pt2) X.env=pure (some [x,y]))
  (hs:swapsWithSole [.Tuple [.Name x px,.Name y py] kt pt] (.Tuple [a,b] k2 pt2) pos.line X.env=pure false:=by rfl):
  PS X (.Assign [.Tuple [.Name x px,.Name y py] kt pt] (.Tuple [a,b] k2 pt2) pos) (L6 i j ta):=by
 intro AM s σ H D I h;rw[exec_Assign_arm];refine aa (ka ?_);rw[hs];refine aa (aj ?_);rw[if_neg (by decide)];refine aa (Tuple_ (bB (ha _ AM s σ H _ I h) λus s1 hq=>?_));rcases hq with⟨vs,H1,I1,r1,q1⟩;obtain⟨v,w,e1,q1⟩:=q1;subst e1;obtain⟨u1,u2,rfl,rv,rw'⟩:∃u1 u2,us=[u1,u2]/\bO v u1/\bO w u2:=by
  cases r1 with
  |cons p q=>
   cases q with
   |cons p' q'=>
    cases q';exact⟨_,_,rfl,p,p'⟩
 refine ic ?_ (by show 2<=sizeLine;decide);have I2:aD X AM σ H1 {s1 with heap:=s1.heap.push {cls:=.type "tuple",data:=.seq [u1,u2].toArray}}:=I1.kept (t':=s1.toks) λb o e=>al _ e;rw[hw];refine aa (aj ?_);show wpAny (model X.prog X.w) X.A (do rule "assign.swapped-stores";let items <-unpackItems (.ref s1.heap.objs.size) 2 none;assignInOrder [λv=>bindName X.env y v,λv=>bindName X.env x v] items.reverse;pure Flow.next) _ _ _
 refine aa (lp (aa (unpackItems_tuple (items:=#[u1,u2]) (I.ok.hd hc) (my s1.heap _) λh' hx'=>?_)));have I3:=I2.kept (h':=h') (t':=s1.toks) λb o e=>hx' b o (cf (ao e)) e;show wpAny _ _ (assignInOrder [λv=>bindName X.env y v,λv=>bindName X.env x v] [u2,u1] >>= λ_=>pure Flow.next) _ _ _
 refine aa (sk (wpAny_bindName (lL I3 hN hj (.inl hy) rw' (λs2 I4=>?_) (.inr hy))));refine sk (wpAny_bindName (lL I4 hN hi (.inl hx) rv (λs3 I5=>assignInOrder_nil (aj ?_)) (.inr hx)));rw[List.set_comm _ _ (fw hij)]at I5;exact⟨_,H1,I5,q1⟩
end
section
variable{X:Cx}{pos:ag}
def Cy(c:TT)(tb:TS):TS:=λD σ H=>∃W:Nat->St->Hp->Prop,(∃m,W m σ H)/\∀m σ H,W m σ H->
 c σ H λb H1=>if b=true then ∃N:St->Hp->Prop,(∀σ' H',N σ' H'->∃m',m'<m/\W m' σ' H')/\tb {D with nx:=N,ct:=N,bk:=D.nx} σ H1 else D.nx σ H1
theorem Lq{c:af}{body:List Stmt}{tc:TT}{tb:TS}(hp:ng (model X.prog X.w) X.A X.env X.xe)(hc:PT X c tc)(hb:eA X body tb):PS X (.While c body [] pos) (Cy tc tb):=by
 intro AM s σ H D I h;obtain⟨W,⟨m0,w0⟩,turn⟩:=h;refine wpAny_While (codeAny_whileLoop (λn s'=>∃σ' H',aD X AM σ' H' s'/\W n σ' H') ?_ m0 ⟨σ,H,I,w0⟩)
 rintro n s1 ⟨σ1,H1,I1,w1⟩
 refine jd hp (bB (hc AM s1 σ1 H1 _ I1 (turn n σ1 H1 w1)) λb s2 hq=>?_);rcases hq with⟨H2,I2,q2⟩;cases b with
 |true=>
  obtain⟨N,hN,q2⟩:=q2;rw[if_pos rfl];refine jd hp (bB (hb AM s2 σ1 H2 _ I2 q2) λf s3 q3=>?_);cases f with
  |next=>
   obtain⟨σ3,H3,I3,n3⟩:=q3;obtain⟨m',hm,w3⟩:=hN σ3 H3 n3;exact⟨m',hm,σ3,H3,I3,w3⟩
  |cont=>
   obtain⟨σ3,H3,I3,n3⟩:=q3;obtain⟨m',hm,w3⟩:=hN σ3 H3 n3;exact⟨m',hm,σ3,H3,I3,w3⟩
  |brk=>exact q3
  |ret v=>exact q3
 |false=>
  rw[if_neg kb];exact jz ⟨σ1,H2,I2,q2⟩
end
structure It where
 go:Nat->Hp->Prop
 yld:Nat->Hp->V->Hp->Prop
 stop:Nat->Hp->Prop
def eF(X:Cx)(AM:List (Addr×Obj))(H:Hp)(b:Addr):Prop:=
 H b=none/\b≠X.env.locals/\b∉X.fs/\(b∈X.ex\/X.AN.heap.objs.size<=b)/\(∀x c,X.env.cells.lookup x=some c->c≠b)/\∀p∈X.pn++AM,p.1≠b
theorem aD.fpOk{X:Cx}{AM:List (Addr×Obj)}{σ:St}{H H':Hp}{s:Shared}{b:Addr}(I:aD X AM σ H s)(hb:s.heap.objs.size<=b)(hn:H' b=none):eF X AM H' b:=by
 refine⟨hn,kd (bn I.lt hb),I.nofs hb,.inr (di I.sz hb),λx c e z=>?_,λp hp z=>?_⟩
 .obtain⟨v,q⟩:=I.cell x c e
  exact absurd (bn q.lt (by rw[z];exact hb)) (dq _)
 .exact absurd (bn (ao (I.pin p hp).1) (by rw[z];exact hb)) (dq _)
structure nP(P:Program)(w:ah)(K:ae)(tg:af)(J:It)(fp:List Addr)(it:Addr)(tn:Nat->Heap->Prop):Prop where
 mem:it∈fp
 obj:∀i h,tn i h->∀b∈fp,∃o,h.get? b=some o/\∀v,o.data≠.cell v
 keep:∀i h h',tn i h->(∀b∈fp,∀o,h.get? b=some o->h'.get? b=some o)->tn i h'
 item:∀(X:Cx),X.prog=P->X.w=w->X.K=K->X.calm=true->∀(i:Nat)(AM:List (Addr×Obj))(s:Shared)(σ:St)(H:Hp)(E:Value->Shared->Prop),aD X AM σ H s->(∀b∈fp,eF X AM H b)->tn i s.heap->J.go i H->
  wpAny (model P w) X.A (pyNext (.ref it)) (λr s1=>∃u,r=some u/\
   wpAny (model P w) X.A (letOwnedTupleGo tg (.ref it) u) (λ_ s2=>∃x H',aD X AM σ H' s2/\bO x u/\J.yld i H x H'/\tn (i+1) s2.heap/\∀b∈fp,H' b=none) E s1) E s
 done:∀(X:Cx),X.prog=P->X.w=w->X.K=K->X.calm=true->∀(i:Nat)(AM:List (Addr×Obj))(s:Shared)(σ:St)(H:Hp)(E:Value->Shared->Prop),aD X AM σ H s->(∀b∈fp,eF X AM H b)->tn i s.heap->J.stop i H->
  wpAny (model P w) X.A (pyNext (.ref it)) (λr s1=>r=none/\aD X AM σ H s1) E s
 self:∀(A:ai)(i:Nat)(s:Shared)(Q:Value->Shared->Prop)(E:Value->Shared->Prop),tn i s.heap->Q (.ref it) s->wpAny (model P w) A (pyIter (.ref it)) Q E s
abbrev TI:=St->Hp->(It->Hp->Prop)->Prop
def Ik(X:Cx)(AM:List (Addr×Obj))(σ:St)(tg:af)(R:It->Hp->Prop)(itv:Value)(s2:Shared):Prop:=
 ∃(it:Addr)(fp:List Addr)(tn:Nat->Heap->Prop)(J:It)(H':Hp),itv=.ref it/\aD X AM σ H' s2/\nP X.prog X.w X.K tg J fp it tn/\tn 0 s2.heap/\(∀b∈fp,eF X AM H' b)/\R J H'
def PI(X:Cx)(tg iter:af)(wi:TI):Prop:=
 ∀(AM:List (Addr×Obj))(s:Shared)(σ:St)(H:Hp)(R:It->Hp->Prop),aD X AM σ H s->wi σ H R->
  wpAny (model X.prog X.w) X.A (eval iter X.env) (λv s1=>wpAny (model X.prog X.w) X.A (pyIter v) (Ik X AM σ tg R) X.xe s1) X.xe s
theorem xQ {M : fi} {A : ai} {E : Value → Shared → Prop} {s : Shared} {tg : af} {it : Addr} {u : Value} {o : Obj} {n : String} {vs : Array Value} {Q : Unit → Shared → Prop} (ho : s.heap.get? it = some o) (hc : o.cls = .type n) (hd : o.data = .fields vs)
    (hn : ["enumerate", "zip", "dict_itemiterator", "dict_reverseitemiterator", "odict_iterator", "itertools.zip_longest", "itertools.pairwise"].contains n = false) (hQ : Q () s) : wpAny M A (letOwnedTupleGo tg (.ref it) u) Q E s := by
  unfold letOwnedTupleGo;cases tg <;> first
    | exact aj hQ
    | (cases u <;> first
        | exact aj hQ
        | (refine aa (wpAny_load ho ?_)
           rw [hc, hd];show wpAny M A (if (["enumerate", "zip", "dict_itemiterator", "dict_reverseitemiterator", "odict_iterator", "itertools.zip_longest", "itertools.pairwise"].contains n && vs[0]? == some (rawInt _)) = true then _ else _) Q E s;rw [if_neg (by intro h; rw [hn, Bool.false_and] at h; cases h)];exact aj hQ))
def tJ(K:ae)(a:Addr):It:=
 ⟨λi H=>∃xs x,bS K H a xs/\xs[i]?=some x,λi H x H'=>H'=H/\∀xs,bS K H a xs->xs[i]?=some x,λi H=>∃xs,bS K H a xs/\xs.length<=i⟩
def yS(K:ae)(a:Addr):It:=
 ⟨λi H=>∃xs x,bZ K H a xs/\xs[i]?=some x,λi H x H'=>H'=H/\∀xs,bZ K H a xs->xs[i]?=some x,λi H=>∃xs,bZ K H a xs/\xs.length<=i⟩
def tW(lo:Int)(n:Nat):It:=⟨λi _=>i<n,λi H x H'=>H'=H/\x=.int (lo+i),λi _=>n<=i⟩
theorem So{P:Program}{w:ah}{K:ae}{tg:af}(a it:Addr):nP P w K tg (tJ K a) [it] it (λi h=>h.IsListIter it a i) where
 mem:=by simp
 obj:=λi h st b hb=>by
  have e:b=it:=by simpa using hb
  subst e;obtain⟨o,e,c,d⟩:=st;exact⟨o,e,λv z=>by rw[d]at z;cases z⟩
 keep:=λi h h' st k=>st.at λo e=>k it (by simp) o e
 item:=by
  intro X hP hw hK hc i AM s σ H E I hf st hg;subst hP hw hK;obtain⟨xs,x,hq,hx⟩:=hg;obtain⟨its,rv,p,hz⟩:=I.list hq;obtain⟨u,hu,ru⟩:=rv.get hx;obtain⟨f0,f1,f2,f3,f4,f5⟩:=hf it (by simp);refine wpAny_pyNext_list_item st p.isList (x:=u) (by simpa using hu) λh' st' sb=>?_;have I1:aD X AM σ H {s with heap:=h'}:=I.turned (t':=s.toks) (λb o hb e=>(sb.2 b hb).trans e) f0 f1 f3 f4 f5;obtain⟨o,e,c,d⟩:=id st';exact⟨u,rfl,xQ (s:={s with heap:=h'}) e c d (by decide) ⟨x,H,I1,ru,⟨rfl,λys hy=>by rw[I.list_inj hy hq];exact hx⟩,st',λb hb=>(hf b hb).1⟩⟩
 done:=by
  intro X hP hw hK hc i AM s σ H E I hf st hg;subst hP hw hK;obtain⟨xs,hq,hx⟩:=hg;obtain⟨its,rv,p,hz⟩:=I.list hq;obtain⟨f0,f1,f2,f3,f4,f5⟩:=hf it (by simp);have hl:=rv.length;exact wpAny_pyNext_list_end (I.ok.hd hc) st p.isList (by simp;omega) λh' eb=>⟨rfl,I.turned (t':=s.toks) (λb o hb e=>eb b o hb e) f0 f1 f3 f4 f5⟩
 self:=λ_ _ _ _ _ st h=>wpAny_pyIter_listiter st h
theorem Gn{P:Program}{w:ah}{K:ae}{tg:af}(a it:Addr):nP P w K tg (yS K a) [it] it (λi h=>h.IsTupleIter it a i) where
 mem:=by simp
 obj:=λi h st b hb=>by
  have e:b=it:=by simpa using hb
  subst e;obtain⟨o,e,c,d⟩:=st;exact⟨o,e,λv z=>by rw[d]at z;cases z⟩
 keep:=λi h h' st k=>st.at λo e=>k it (by simp) o e
 item:=by
  intro X hP hw hK hc i AM s σ H E I hf st hg;subst hP hw hK;obtain⟨xs,x,hq,hx⟩:=hg;obtain⟨its,rv,p,hz⟩:=I.tuple hq;obtain⟨u,hu,ru⟩:=rv.get hx;obtain⟨f0,f1,f2,f3,f4,f5⟩:=hf it (by simp);refine wpAny_pyNext_tuple_item st (show s.heap.IsTuple a its.toArray from p) (x:=u) (by simpa using hu) λh' st' sb=>?_;have I1:aD X AM σ H {s with heap:=h'}:=I.turned (t':=s.toks) (λb o hb e=>(sb.2 b hb).trans e) f0 f1 f3 f4 f5;obtain⟨o,e,c,d⟩:=id st';exact⟨u,rfl,xQ (s:={s with heap:=h'}) e c d (by decide) ⟨x,H,I1,ru,⟨rfl,λys hy=>by rw[I.tuple_inj hy hq];exact hx⟩,st',λb hb=>(hf b hb).1⟩⟩
 done:=by
  intro X hP hw hK hc i AM s σ H E I hf st hg;subst hP hw hK;obtain⟨xs,hq,hx⟩:=hg;obtain⟨its,rv,p,hz⟩:=I.tuple hq;obtain⟨f0,f1,f2,f3,f4,f5⟩:=hf it (by simp);have hl:=rv.length;exact wpAny_pyNext_tuple_end (I.ok.hd hc) st (show s.heap.IsTuple a its.toArray from p) (by simp;omega) λh' eb=>⟨rfl,I.turned (t':=s.toks) (λb o hb e=>eb b o hb e) f0 f1 f3 f4 f5⟩
 self:=λ_ _ _ _ _ st h=>wpAny_pyIter_tupleiter st h
theorem Sm{P:Program}{w:ah}{K:ae}{tg:af}(it:Addr)(lo:Int)(n:Nat):nP P w K tg (tW lo n) [it] it (λi h=>IsRangeIter h it (lo+(i:Nat)*1) ((n:Int)-(i:Nat)) 1) where
 mem:=by simp
 obj:=λi h st b hb=>by
  have e:b=it:=by simpa using hb
  subst e;exact⟨_,st,λv z=>by
   have z':Data.fields _=Data.cell v:=z;cases z'⟩
 keep:=λi h h' st k=>k it (by simp) _ st
 item:=by
  intro X hP hw hK hc i AM s σ H E I hf st hg;subst hP hw hK;obtain⟨f0,f1,f2,f3,f4,f5⟩:=hf it (by simp);have W:=Walks.range (prog:=X.prog) (w:=X.w) (I.ok.hd hc) it lo 1 n;refine W.item i s _ _ hg st λv h' tk hv st' kk=>?_;obtain⟨t,rfl⟩:=hv;have I1:aD X AM σ H {s with heap:=h',toks:=tk}:=I.turned (λb o hb e=>kk b o (by simpa using hb) e) f0 f1 f3 f4 f5;refine⟨_,rfl,xQ (s:={s with heap:=h',toks:=tk}) (n:="range_iterator") st' rfl rfl (by decide) ⟨.int (lo+i),H,I1,⟨t,?_⟩,⟨rfl,rfl⟩,st',λb hb=>(hf b hb).1⟩⟩;rw[Int.mul_one]
 done:=by
  intro X hP hw hK hc i AM s σ H E I hf st hg;subst hP hw hK;obtain⟨f0,f1,f2,f3,f4,f5⟩:=hf it (by simp);exact wpAny_pyNext_range_end (I.ok.hd hc) st (by have:n<=i:=hg;omega) λh' eb=>⟨rfl,I.turned (t':=s.toks) (λb o hb e=>eb b o hb e) f0 f1 f3 f4 f5⟩
 self:=λ_ _ _ _ _ st h=>wpAny_pyIter_rangeiter st h
section
variable{X:Cx}{tg:af}
theorem Dr{AM:List (Addr×Obj)}{σ:St}{H:Hp}{s:Shared}{R:It->Hp->Prop}{E:Value->Shared->Prop}{lo hi:Int}{t u v:Tok}{tk:Nat}(I:aD X AM σ H s)(h1:-(2^62)<=lo)(h2:lo<2^62)(h3:-(2^62)<=hi)(h4:hi<2^62)
  (q:R (tW lo (hi-lo).toNat) H):wpAny (model X.prog X.w) X.A (pyIter (.ref s.heap.objs.size)) (Ik X AM σ tg R) E {s with heap:=s.heap.push {cls:=.type "range",data:=.fields #[.int lo t,.int hi u,.int 1 v]},toks:=tk}:=by
 refine wpAny_pyIter_range (IsRange.new ..) (small_one h1 h2 h3 h4) ?_;have I1:aD X AM σ H {s with heap:=s.heap.push {cls:=.type "range",data:=.fields #[.int lo t,.int hi u,.int 1 v]},toks:=tk}:=I.kept λb o e=>al _ e;refine⟨(s.heap.push {cls:=.type "range",data:=.fields #[.int lo t,.int hi u,.int 1 v]}).objs.size,[(s.heap.push {cls:=.type "range",data:=.fields #[.int lo t,.int hi u,.int 1 v]}).objs.size],_,_,H,rfl,
  I1.kept (t':=tk) λb o e=>al _ e,Sm _ lo (hi-lo).toNat,?_,λb hb=>?_,q⟩
 .have e1:lo+((0:Nat):Int)*1=lo:=by simp
  have e2:(((hi-lo).toNat:Nat):Int)-((0:Nat):Int)=Builtin.Range.rangeSize lo hi 1:=by rw[rangeSize_one];split<;>omega
  show IsRangeIter _ _ (lo+((0:Nat):Int)*1) ((((hi-lo).toNat:Nat):Int)-((0:Nat):Int)) 1;rw[e1,e2];exact cm _ rfl
 .have e:b=(s.heap.push {cls:=.type "range",data:=.fields #[.int lo t,.int hi u,.int 1 v]}).objs.size:=by simpa using hb
  subst e;exact I1.fpOk (ak _) (I1.hok.fresh (ak _))
def Kz(ta:TA):TI:=λσ H R=>ta σ H λvs H1=>∃j:Int,vs=[.int j]/\-(2^62)<=j/\j<2^62/\R (tW 0 j.toNat) H1
theorem Jp{a:af}{ta:TA}{p pos:ag}(hg:Gl X "range")(hm:X.mg "range"=none)(ha:PA X [a] ta)(hs:starEach [a] X.env=[(false,eval a X.env)]:=by rfl):PI X tg (.Call (.Name "range" p) [a] [] pos) (Kz ta):=by
 intro AM s σ H R I h;refine Call_ (nC I hg hm boot_range (nh (bB (ha pos AM s σ H _ I h) λus s1 hq=>?_) hs rfl));rcases hq with⟨vs,H1,I1,r1,q1⟩;obtain⟨j,e,q1,q2,q⟩:=q1;subst e;cases r1 with
 |cons r rr=>
  cases rr;obtain⟨t,rfl⟩:=r;exact call_range_1 (Dr I1 (by omega) (by omega) q1 q2 (by simpa using q))
def J8(wi:TI)(g:TG)(tb:TS):TS:=λD σ H=>wi σ H λJ H1=>∃W:Nat->Nat->St->Hp->Prop,(∃m,W 0 m σ H1)/\∀i m σ H,W i m σ H->
 (J.stop i H/\D.nx σ H)\/(J.go i H/\∃N:St->Hp->Prop,(∀σ' H',N σ' H'->∃m',m'<m/\W (i+1) m' σ' H')/\∀x H',J.yld i H x H'->g x σ H' λσ2 H2=>tb {D with nx:=N,ct:=N,bk:=D.nx} σ2 H2)
def rZ(fp:List Addr)(h:Heap):List (Addr×Obj):=fp.filterMap λb=>(h.get? b).map λo=>(b,o)
theorem mI{fp:List Addr}{h:Heap}{b:Addr}{o:Obj}(hb:b∈fp)(e:h.get? b=some o):(b,o)∈rZ fp h:=ke.mpr ⟨b,hb,by rw[e];rfl⟩
theorem Lo{fp:List Addr}{h:Heap}{p:Addr×Obj}(hp:p∈rZ fp h):p.1∈fp/\h.get? p.1=some p.2:=by
 obtain⟨b,hb,e⟩:=ke.mp hp;cases q:h.get? b with
 |none=>rw[q]at e;cases e
 |some o=>
  rw[q]at e;have e':(b,o)=p:=bj e;subst e';exact⟨hb,q⟩
theorem aD.pinned{AM:List (Addr×Obj)}{σ:St}{H:Hp}{s:Shared}{fp:List Addr}(I:aD X AM σ H s)(hf:∀b∈fp,eF X AM H b)(ho:∀b∈fp,∃o,s.heap.get? b=some o/\∀v,o.data≠.cell v):aD X (AM++rZ fp s.heap) σ H s:=
 I.pins_of λp hp=>(du.mp hp).elim (λz=>I.pin p (cy _ z)) λz=>by
  obtain⟨hb,e⟩:=Lo z;obtain⟨f0,f1,f2,_⟩:=hf p.1 hb;obtain⟨o,e',d⟩:=ho p.1 hb;rw[e]at e';cases e';exact⟨e,f0,f1,f2,d⟩
theorem aD.unpinned{AM pl:List (Addr×Obj)}{σ:St}{H:Hp}{s:Shared}(I:aD X (AM++pl) σ H s):aD X AM σ H s:=I.pins_of λp hp=>I.pin p (cy _ (jc _ hp))
theorem Hy{iter:af}{body:List Stmt}{wi:TI}{g:TG}{tb:TS}{pos:ag}(hp:ng (model X.prog X.w) X.A X.env X.xe)(hc:X.calm=true)(hi:PI X tg iter wi)(hg:PG X tg g)(hb:eA X body tb)
  (hs:∀x,foldedSetIterable iter X.env x=pure x:=by intro _;rfl):PS X (.For tg iter body [] pos) (J8 wi g tb):=by
 intro AM s σ H D I h;refine wpAny_For (bB (hi AM s σ H _ I h) λv s1 h1=>bB h1 λitv s2 h2=>?_) hs;obtain⟨it,fp,tn,J,H2,e,I2,T,st2,f2,W,⟨m0,w0⟩,turn⟩:=h2;subst e
 --what stays true of the iterator's objects through the loop
 have stat:∀{H':Hp},(∀b∈fp,H' b=none)->∀b∈fp,eF X AM H' b:=λhn b hb=>⟨hn b hb,(f2 b hb).2⟩;refine codeAny_forLoop_any (λn s'=>∃i σ' H',aD X AM σ' H' s'/\tn i s'.heap/\(∀b∈fp,H' b=none)/\W i n σ' H') ?_ m0 ⟨0,σ,H2,I2,st2,λb hb=>(f2 b hb).1,w0⟩
 rintro n s3 ⟨i,σ3,H3,I3,st3,fr3,w3⟩
 rcases turn i n σ3 H3 w3 with⟨stop,qn⟩|⟨go,N,hN,step⟩
 .refine jd hp (bB (T.done X rfl rfl rfl hc i AM s3 σ3 H3 X.xe I3 (stat fr3) st3 stop) λr s4 hq=>?_)
  rcases hq with⟨hr,I4⟩;subst hr;exact jz ⟨σ3,H3,I4,qn⟩
 .refine jd hp (bB (T.item X rfl rfl rfl hc i AM s3 σ3 H3 X.xe I3 (stat fr3) st3 go) λr s4 hq=>?_)
  rcases hq with⟨u,hr,h4⟩;subst hr;refine jd hp (bB h4 λ_ s5 hq=>?_);rcases hq with⟨x,H5,I5,r5,y5,st5,fr5⟩;have I5':=I5.pinned (stat fr5) (T.obj _ _ st5);refine jd hp (bB (hg _ s5 σ3 H5 x u _ I5' r5 (step x H5 y5)) λ_ s6 hq=>?_);rcases hq with⟨σ6,H6,I6,q6⟩;refine jd hp (bB (hb _ s6 σ6 H6 _ I6 q6) λf s7 q7=>?_);have again:∀{σ7:St}{H7:Hp},aD X (AM++rZ fp s5.heap) σ7 H7 s7->N σ7 H7->∃m,m<n/\∃i σ' H',aD X AM σ' H' s7/\tn i s7.heap/\(∀b∈fp,H' b=none)/\W i m σ' H':=λ{σ7 H7} I7 n7=>by
   obtain⟨m',hm,w7⟩:=hN σ7 H7 n7;refine⟨m',hm,i+1,σ7,H7,I7.unpinned,T.keep _ _ _ st5 λb hb o e=>(I7.pin (b,o) (cy _ (cy _ (mI hb e)))).1,λb hb=>?_,w7⟩;obtain⟨o,e,d⟩:=T.obj _ _ st5 b hb;exact(I7.pin (b,o) (cy _ (cy _ (mI hb e)))).2.1
  cases f with
  |next=>obtain⟨σ7,H7,I7,n7⟩:=q7;exact again I7 n7
  |cont=>obtain⟨σ7,H7,I7,n7⟩:=q7;exact again I7 n7
  |brk=>obtain⟨σ7,H7,I7,q7⟩:=q7;exact⟨σ7,H7,I7.unpinned,q7⟩
  |ret v=>obtain⟨x7,σ7,H7,I7,r7,q7⟩:=q7;exact⟨x7,σ7,H7,I7.unpinned,r7,q7⟩
end
abbrev R2:=V->V->Hp->VK->Prop
def dE(X:Cx)(f:Value->Value->Sem Value)(r:R2):Prop:=
 ∀(AM:List (Addr×Obj))(s:Shared)(σ:St)(H:Hp)(x y:V)(v u:Value)(Q:VK),aD X AM σ H s->bO x v->bO y u->r x y H Q->
  wpAny (model X.prog X.w) X.A (f v u) (EP X AM σ Q) X.xe s
def tR(X:Cx)(f:Value->Sem Value)(r:V->Hp->VK->Prop):Prop:=
 ∀(AM:List (Addr×Obj))(s:Shared)(σ:St)(H:Hp)(x:V)(v:Value)(Q:VK),aD X AM σ H s->bO x v->r x H Q->
  wpAny (model X.prog X.w) X.A (f v) (EP X AM σ Q) X.xe s
def fH(X:Cx)(f:Value)(r:List V->Hp->VK->Prop):Prop:=
 ∀(AM:List (Addr×Obj))(s:Shared)(σ:St)(H:Hp)(xs:List V)(us:AE)(Q:VK),aD X AM σ H s->bA xs us->r xs H Q->
  wpAny (model X.prog X.w) X.A (call f us) (EP X AM σ Q) X.xe s
def tT(r:R2)(ta tb:TE):TE:=λσ H Q=>ta σ H λx H1=>tb σ H1 λy H2=>r x y H2 Q
def N7(r:V->Hp->VK->Prop)(ta:TE):TE:=λσ H Q=>ta σ H λx H1=>r x H1 Q
def rI(C:Int->Int->Prop)(g:Int->Int->V):R2:=λx y H Q=>∃i j,x=.int i/\y=.int j/\C i j/\Q (g i j) H
def fT(g:Int->Int->V):R2:=λx y H Q=>∃i j,x=.int i/\y=.int j/\Q (g i j) H
def rU(g:Int->V):V->Hp->VK->Prop:=λx H Q=>∃i,x=.int i/\Q (g i) H
section
variable{X:Cx}{a b c:af}{ta tb tc:TE}{pos:ag}
theorem yF(ha:PE X a ta)(hb:PE X b tb){AM:List (Addr×Obj)}{s:Shared}{σ:St}{H:Hp}{R:V->V->Hp->Prop}(I:aD X AM σ H s)
  (h:ta σ H λx H1=>tb σ H1 λy H2=>R x y H2){Q:Value->Shared->Prop}{f:Value->Value->Sem Value}
  (hf:∀v u s2 x y H2,aD X AM σ H2 s2->bO x v->bO y u->R x y H2->wpAny (model X.prog X.w) X.A (f v u) Q X.xe s2):
  wpAny (model X.prog X.w) X.A (eval a X.env) (λv AQ=>wpAny (model X.prog X.w) X.A (eval b X.env) (λu AT=>wpAny (model X.prog X.w) X.A (f v u) Q X.xe AT) X.xe AQ) X.xe s:=by
 refine bB (ha AM s σ H _ I h) ?_
 rintro v s1 ⟨x,H1,I1,r1,q1⟩
 refine bB (hb AM s1 σ H1 _ I1 q1) ?_
 rintro u s2 ⟨y,H2,I2,r2,q2⟩
 exact hf v u s2 x y H2 I2 r1 r2 q2
theorem B8{op:Operator}{r:R2}(ho:dE X (binaryOp op) r)(ha:PE X a ta)(hb:PE X b tb):PE X (.BinOp a op b pos) (tT r ta tb):=by
 intro AM s σ H Q I h;exact wpAny_BinOp (yF ha hb I h λv u s2 x y H2 I2 rx ry q=>ho AM s2 σ H2 x y v u Q I2 rx ry q)
theorem Yz{op:UnaryOp}{r:V->Hp->VK->Prop}(ho:tR X (unaryOp op) r)(ha:PE X a ta):PE X (.UnaryOp op a pos) (N7 r ta):=by
 intro AM s σ H Q I h;exact UnaryOp_ (bB (ha AM s σ H _ I h) λv s1 ⟨x,H1,I1,r1,q1⟩=>ho AM s1 σ H1 x v Q I1 r1 q1)
theorem tL{f:Value->Value->Sem Value}{C:Int->Int->Prop}{g:Int->Int->Int}
  (rule:∀(i j:Int)(t u:Tok)(s:Shared)(Q:Value->Shared->Prop)(E:Value->Shared->Prop),C i j->Q (.int (g i j) s.toks) {s with toks:=s.toks+1}->wpAny (model X.prog X.w) X.A (f (.int i t) (.int j u)) Q E s):
  dE X f (rI C λi j=>.int (g i j)):=by
 intro AM s σ H x y v u Q I rx ry h;obtain⟨i,j,rfl,rfl,hc,q⟩:=h;obtain⟨t,rfl⟩:=rx;obtain⟨t',rfl⟩:=ry;exact rule i j t t' s _ _ hc ⟨.int (g i j),H,I.tok _,⟨_,rfl⟩,q⟩
theorem Nj{f:Value->Value->Sem Value}{g:Int->Int->Int}
  (rule:∀(i j:Int)(t u:Tok)(s:Shared)(Q:Value->Shared->Prop)(E:Value->Shared->Prop),Q (.int (g i j) s.toks) {s with toks:=s.toks+1}->wpAny (model X.prog X.w) X.A (f (.int i t) (.int j u)) Q E s):
  dE X f (fT λi j=>.int (g i j)):=by
 intro AM s σ H x y v u Q I rx ry h;obtain⟨i,j,rfl,rfl,q⟩:=h;obtain⟨t,rfl⟩:=rx;obtain⟨t',rfl⟩:=ry;exact rule i j t t' s _ _ ⟨.int (g i j),H,I.tok _,⟨_,rfl⟩,q⟩
theorem sU{f:Value->Value->Sem Value}{g:Int->Int->Bool}
  (rule:∀(i j:Int)(t u:Tok)(s:Shared)(Q:Value->Shared->Prop)(E:Value->Shared->Prop),Q (.bool (g i j)) s->wpAny (model X.prog X.w) X.A (f (.int i t) (.int j u)) Q E s):
  dE X f (fT λi j=>.bl (g i j)):=by
 intro AM s σ H x y v u Q I rx ry h;obtain⟨i,j,rfl,rfl,q⟩:=h;obtain⟨t,rfl⟩:=rx;obtain⟨t',rfl⟩:=ry;exact rule i j t t' s _ _ ⟨.bl (g i j),H,I,rfl,q⟩
def sZ(i j:Int):Prop:=0<=j/\j<=1000000/\i.natAbs<2^64
def yJ(i j:Int):Prop:=(-(2^64)<i/\i<2^64)\/(-(2^64)<j/\j<2^64)
theorem yJ.ok{i j:Int}(h:yJ i j):IntMulOk i j:=by
 rcases h with⟨h1,h2⟩|⟨h1,h2⟩
 .exact .of_left (intBits_le_64 h1 h2)
 .exact .of_right (intBits_le_64 h1 h2)
theorem Rx:dE X (binaryOp .Add) (fT λi j=>.int (i+j)):=Nj λ_ _ _ _ _ _ _ q=>add_int q
theorem Zw:dE X (binaryOp .Sub) (fT λi j=>.int (i-j)):=Nj λ_ _ _ _ _ _ _ q=>sub_int q
theorem Ct:dE X (binaryOp .Mod) (rI (λ_ j=>j≠0) λi j=>.int (i.fmod j)):=tL λ_ _ _ _ _ _ _ hc q=>mod_int' hc q
theorem Ux:dE X (binaryOp .Pow) (rI sZ λi j=>.int (i^j.toNat)):=tL λ_ _ _ _ _ _ _ hc q=>pow_int_small hc.1 hc.2.1 hc.2.2 q
theorem N4{f:Value->Sem Value}{g:Int->Int}
  (rule:∀(i:Int)(t:Tok)(s:Shared)(Q:Value->Shared->Prop)(E:Value->Shared->Prop),Q (.int (g i) s.toks) {s with toks:=s.toks+1}->wpAny (model X.prog X.w) X.A (f (.int i t)) Q E s):
  tR X f (rU λi=>.int (g i)):=by
 intro AM s σ H x v Q I rx h;obtain⟨i,rfl,q⟩:=h;obtain⟨t,rfl⟩:=rx;exact rule i t s _ _ ⟨.int (g i),H,I.tok _,⟨_,rfl⟩,q⟩
theorem Ix:tR X (unaryOp .USub) (rU λi=>.int (-i)):=N4 λ_ _ _ _ _ q=>neg_int q
end
section
variable{X:Cx}{a b c:af}{ta tb tc:TE}{pos:ag}
theorem Pi:dE X (compareOp .Lt) (fT λi j=>.bl (decide (i<j))):=sU λ_ _ _ _ _ _ _ q=>lt_int q
theorem Jj:dE X (compareOp .LtE) (fT λi j=>.bl (decide (i<=j))):=sU λ_ _ _ _ _ _ _ q=>le_int q
theorem Ui:dE X (compareOp .Gt) (fT λi j=>.bl (decide (j<i))):=sU λ_ _ _ _ _ _ _ q=>gt_int q
theorem Mi:dE X (compareOp .GtE) (fT λi j=>.bl (decide (j<=i))):=sU λ_ _ _ _ _ _ _ q=>ge_int q
theorem dE.or{f:Value->Value->Sem Value}{r r':R2}(h:dE X f r)(h':dE X f r'):dE X f (λx y H Q=>r x y H Q\/r' x y H Q):=by
 intro AM s σ H x y v u Q I rx ry q;rcases q with q |q
 .exact h AM s σ H x y v u Q I rx ry q
 .exact h' AM s σ H x y v u Q I rx ry q
theorem iB(b:af){op:im}(h:op≠.In:=by decide)(h2:op≠.NotIn:=by decide):behindInMarks op b=false:=by
 have e1:(op==CmpOp.In)=false:=by cases op<;>first |rfl |exact absurd rfl h
 have e2:(op==CmpOp.NotIn)=false:=by cases op<;>first |rfl |exact absurd rfl h2
 cases b<;>simp[behindInMarks,e1,e2]
theorem Fv{op:im}{r:R2}(ho:dE X (compareOp op) r)(ha:PE X a ta)(hb:PE X b tb)(hm:behindInMarks op b=false):PE X (.Compare a [op] [b] pos) (tT r ta tb):=by
 intro AM s σ H Q I h;exact wpAny_Compare1 (yF ha hb I h λv u s2 x y H2 I2 rx ry q=>ho AM s2 σ H2 x y v u Q I2 rx ry q) hm
def Mz(t:TE):TT:=λσ H Q=>t σ H λx H'=>∃k,x=.bl k/\Q k H'
theorem Mt{op:im}{r:R2}(ho:dE X (compareOp op) r)(ha:PE X a ta)(hb:PE X b tb)(hm:behindInMarks op b=false):PT X (.Compare a [op] [b] pos) (Mz (tT r ta tb)):=by
 intro AM s σ H Q I h;refine wq (bB (ha AM s σ H _ I h) λv s1 ⟨x,H1,I1,r1,q1⟩=>bB (hb AM s1 σ H1 _ I1 q1) λu s2 ⟨y,H2,I2,r2,q2⟩=>
  bB (ho AM s2 σ H2 x y v u _ I2 r1 r2 q2) λc s3 ⟨z,H3,I3,r3,k,e,q3⟩=>?_) hm
 subst e;cases r3;exact jx ⟨H3,I3,q3⟩
theorem pP:(sizeLine:Nat)<2^63:=by rw[dk];decide
theorem jR{x:V}{us:AE}(r:bA [x] us):∃u,us=[u]/\bO x u:=by
 cases r with
 |cons r1 r2=>cases r2;exact⟨_,rfl,r1⟩
theorem pY{x y:V}{us:AE}(r:bA [x,y] us):∃u w',us=[u,w']/\bO x u/\bO y w':=by
 cases r with
 |cons r1 r2=>
  cases r2 with
  |cons r3 r4=>cases r4;exact⟨_,_,rfl,r1,r3⟩
theorem Nr:fH X (.builtin "abs") (λxs H Q=>∃i,xs=[.int i]/\Q (.int (if i<0 then-i else i)) H):=by
 intro AM s σ H xs us Q I r h;obtain⟨i,rfl,q⟩:=h;obtain⟨u,rfl,t,rfl⟩:=jR r;exact call_abs_int λu tk=>⟨.int (if i<0 then-i else i),H,I.tok _,⟨_,rfl⟩,q⟩
end
structure yI(h:Heap)(x dx C:Addr)(mA:Str->AF):Prop where
 obj:h.get? x=some (rg C dx)
 ns:h.Ns1 dx mA
 ne:dx≠x
theorem vA{h:Heap}{dx:Addr}{mA:Str->AF}(n:h.Ns1 dx mA):∃od,h.get? dx=some od/\∀name,sr name od=some (mA name):=by
 obtain⟨o,es,ep,ho,hd,hk,_,hm⟩:=n;refine⟨o,ho,λname=>?_⟩;have e:=hm name;unfold nsFind findBy at e;rw[<-wr]at e;unfold sr;rw[hd];dsimp only;split
 .rename_i y q
  rw[q]at e;exact congrArg some e
 .rename_i q
  rw[q]at e;have a:es.toList.any (·.refKey)=false:=by
   rw[List.any_eq_false];intro y hy;obtain⟨z,t,hkey⟩:=hk y (Array.mem_toList_iff.mp hy);simp[DictEntry.refKey,hkey]
  have a':¬es.toList.any (·.refKey)=true:=by rw[a];exact kb
  rw[if_neg a'];exact congrArg some e
theorem yI.look{h:Heap}{x dx C:Addr}{mA:Str->AF}(I:yI h x dx C mA):∃od,PySem.W.InstAt h x (rg C dx) C (some od)/\∀name,sr name od=some (mA name):=
 let⟨od,ho,hl⟩:=vA I.ns
 ⟨od,⟨I.obj,rfl,rfl,ho⟩,hl⟩
section
variable{prog:Program}{w:ah}{A:ai}{E:Value->Shared->Prop}{s:Shared}{K:ae}{x dx C f:Addr}{mA:Str->AF}{name:Str}{v:Value}
end
def jS(f:Str)(v:V):List (Str×V)->List (Str×V)
 |[]=>[(f,v)]
 |(g,x)::r=>if g=f then(g,v)::r else(g,x)::jS f v r
theorem zX(f g:Str)(v:V):∀fs:List (Str×V),(jS f v fs).lookup g=if g=f then some v else fs.lookup g
 |[]=>by
  show je g [(f,v)]=_
  by_cases h:g=f
  .have hb:(g==f)=true:=beq_iff_eq.mpr h
   simp only[je,hb,if_pos h]
  .have hb:(g==f)=false:=beq_eq_false_iff_ne.mpr h
   simp only[je,hb,if_neg h]
 |(k,x)::r=>by
  have ih:=zX f g v r;rw[show jS f v ((k,x)::r)=(if k=f then(k,v)::r else(k,x)::jS f v r) from rfl]
  by_cases hk:k=f
  .rw[if_pos hk]
   by_cases h:g=k
   .have hb:(g==k)=true:=beq_iff_eq.mpr h
    simp only[je,hb,if_pos (h.trans hk)]
   .have hb:(g==k)=false:=beq_eq_false_iff_ne.mpr h
    simp only[je,hb,if_neg (λe:g=f=>h (e.trans hk.symm))]
  .rw[if_neg hk]
   by_cases h:g=k
   .have hb:(g==k)=true:=beq_iff_eq.mpr h
    simp only[je,hb,if_neg (λe:g=f=>hk (h.symm.trans e))]
   .have hb:(g==k)=false:=beq_eq_false_iff_ne.mpr h
    simp only[je,hb];exact ih
theorem iN.some_of{v:V}{o:AF}(r:iN (some v) o):∃u,o=some u/\bO v u:=by
 cases o with
 |none=>exact(show False from r).elim
 |some u=>exact⟨u,rfl,r⟩
theorem iN.none_of{o:AF}(r:iN none o):o=none:=by
 cases o with
 |none=>rfl
 |some u=>exact(show False from r).elim
theorem Fo{v:V}{u:Value}(r:bO v u):PySem.W.handedIn u=true:=by
 cases v with
 |non=>cases(show u=au from r);rfl
 |bl b=>cases(show u=jw b from r);rfl
 |int i=>obtain⟨t,e⟩:=(show ∃t,u=ju i t from r);cases e;rfl
 |str x=>obtain⟨t,e⟩:=(show ∃t,u=mq x t from r);cases e;rfl
 |byt b=>obtain⟨t,e⟩:=(show ∃t,u=Value.bytes b t from r);cases e;rfl
 |flt b=>obtain⟨t,e⟩:=(show ∃t,u=rf b t from r);cases e;rfl
 |ref a=>cases(show u=bc a from r);rfl
 |ty n=>cases(show u=Value.type n from r);rfl
section
variable{P:Program}{w:ah}{H H':Hp}{h h':Heap}{a C dx:Addr}{fs fs':List (Str×V)}
theorem Hu(hok:dF P w H h)(e:H a=some (.ins C dx fs)):∃mA,yI h a dx C mA/\(∀f,iN (fs.lookup f) (mA f))/\rh mA (fs.map (·.1))/\fs.length<=1000/\H dx=some (.own a):=by
 obtain⟨d,z,ne,ob,mA,n,r,q⟩:=(show dH P w H h a (.ins C dx fs) from hok a _ e);exact⟨mA,⟨ob,n,ne⟩,r,q,z,d⟩
end
structure kC(K:ae)(C:Addr):Prop where
 pg:wt K C Str.empty=true
 hd:ss K C=true
 po:PySem.W.plainOver K C=true
 sa:dy K (.ref C) "__setattr__"=some (some (.builtin "object.__setattr__"))
theorem kC.get{K:ae}{C:Addr}(c:kC K C)(f:Str):wt K C f=true:=c.pg
def sB(K:ae)(C:Addr)(f:Str):Prop:=dy K (.ref C) f=some none
section
variable{X:Cx}{AM:List (Addr×Obj)}{σ:St}{H:Hp}{s:Shared}{a C dx:Addr}{fs:List (Str×V)}{f:Str}{v:V}{A:ai}{E:Value->Shared->Prop}
theorem Tt{prog:Program}{w:ah}{env:Env}{e:af}{f:Str}{pos:ag}{s:Shared}{Q:Value->Shared->Prop}(hb:attributeBase e f env (eval e env)=eval e env)
  (h:wpAny (model prog w) A (eval e env) (λo AQ=>wpAny (model prog w) A (getAttr o f true) Q E AQ) E s):wpAny (model prog w) A (eval (.Attribute e f pos) env) Q E s:=
 Attribute_any_ h (by rw[arm_eval_Attribute,hb])
end
section
variable{X:Cx}{o e value:af}{f:Str}{pos pos' tpos:ag}{ta tv:TE}
end
section
variable{X:Cx}{AM:List (Addr×Obj)}{σ:St}{H:Hp}{s:Shared}{A:ai}{E:Value->Shared->Prop}{Q:Value->Shared->Prop}{c:Value}{b:Bool}
inductive gY(K:ae)(H:Hp):V->Value->Prop where
 |non:gY K H .non (.type "NoneType")
 |bl (x:Bool):gY K H (.bl x) (.type "bool")
 |int (i:Int):gY K H (.int i) (.type "int")
 |str (x:Str):gY K H (.str x) (.type "str")
 |flt (x:UInt64):gY K H (.flt x) (.type "float")
 |lst {a:Addr} {xs:List V} (e:H a=some (.lst xs)):gY K H (.ref a) (.type "list")
 |frz {a:Addr} {o:Obj} {xs:List V} (e:H a=some (.frz o (.lst xs))):gY K H (.ref a) (.type "list")
 |tup {a:Addr} {xs:List V} (e:H a=some (.tup xs)):gY K H (.ref a) (.type "tuple")
 |dK {a:Addr} {kvs:List (fD×V)} (e:H a=some (.dK kvs)):gY K H (.ref a) (.type "dict")
 |dT {a:Addr} {kvs:List (List fD×V)} (e:H a=some (.dT kvs)):gY K H (.ref a) (.type "dict")
 |ins {a C dx:Addr} {fs:List (Str×V)} (e:H a=some (.ins C dx fs)) (cl:kC K C) (ha:dy K (.ref C) "__class__"=some (some (.builtin "object.__class__")))
   (hn:su K (.builtin "object.__class__") "__get__"=some (some (.builtin "getset_descriptor.__get__"))) (htk:sv K (.builtin "object.__class__")=some true)
   (hm:lq K C (.type "object")=some true):gY K H (.ref a) (.ref C)
theorem Rn{x:V}{u t:Value}(I:aD X AM σ H s)(rx:bO x u)(ty:gY X.K H x t)(e:bo X.K t c=some b)(h:∀tk,Q (.bool b) {s with toks:=tk}):
  wpAny (model X.prog X.w) A (call (.builtin "isinstance") [u,c]) Q E s:=by
 cases ty with
 |non=>cases(show u=au from rx);exact df PySem.W.kitx_none I.kIn jf e (λz=>nomatch z) h
 |bl y=>cases(show u=jw y from rx);exact df PySem.W.kitx_bool I.kIn jf e (λz=>nomatch z) h
 |int i=>obtain⟨t,q⟩:=(show ∃t,u=ju i t from rx);cases q;exact df PySem.W.kitx_int I.kIn jf e (λz=>nomatch z) h
 |str y=>obtain⟨t,q⟩:=(show ∃t,u=mq y t from rx);cases q;exact df PySem.W.kitx_str I.kIn jf e (λz=>nomatch z) h
 |flt y=>obtain⟨t,q⟩:=(show ∃t,u=rf y t from rx);cases q;exact df PySem.W.kitx_float I.kIn jf e (λz=>nomatch z) h
 |@lst a xs ea=>
  cases(show u=bc a from rx);obtain⟨_,_,n,_,h1⟩:=(show dH X.prog X.w H s.heap a (.lst xs) from I.hok a _ ea);exact df sw I.kIn ⟨_,h1,rfl⟩ e (λz=>nomatch z) h
 |@frz a ob xs ea=>
  cases(show u=bc a from rx);obtain⟨_,_,_,n,_,h1⟩:=(show dH X.prog X.w H s.heap a (.frz ob (.lst xs)) from I.hok a _ ea);exact df sw I.kIn ⟨_,h1,rfl⟩ e (λz=>nomatch z) h
 |@tup a xs ea=>
  cases(show u=bc a from rx);obtain⟨_,_,_,p⟩:=(show dH X.prog X.w H s.heap a (.tup xs) from I.hok a _ ea);obtain⟨o,h1,h2,_⟩:=p;exact df wu I.kIn ⟨o,h1,h2⟩ e (λz=>nomatch z) h
 |@dK a kvs ea=>
  cases(show u=bc a from rx);obtain⟨_,_,vs,_,p⟩:=(show dH X.prog X.w H s.heap a (.dK kvs) from I.hok a _ ea);obtain⟨o,es,ep,h1,h2,_⟩:=p;exact df wv I.kIn ⟨o,h1,h2.1⟩ e (λz=>nomatch z) h
 |@dT a kvs ea=>
  cases(show u=bc a from rx);obtain⟨_,_,xs,_,o,es,ep,h1,h2,_⟩:=(show dH X.prog X.w H s.heap a (.dT kvs) from I.hok a _ ea);exact df wv I.kIn ⟨o,h1,h2.1⟩ e (λz=>nomatch z) h
 |@ins a C dx fs ea cl ha hn htk hm=>
  cases(show u=bc a from rx);obtain⟨mA,O,_⟩:=Hu I.hok ea;obtain⟨od,J,_⟩:=O.look;exact df (PySem.W.kitx_own (cl.get _) cl.hd ha hn htk hm) I.kIn J e (λz=>nomatch z) h
end
structure bW(k:Nat)(A:ai):Prop where
 hd:A.handled=none
 dp:A.depth+3*k+5<recursionLimit
 un:A.units+16*k+200<cLine
theorem bW.mono{j k:Nat}{A:ai}(r:bW k A)(h:j<=k):bW j A:=⟨r.hd,by have:=r.dp;omega,by have:=r.un;omega⟩
theorem bW.deeper{k:Nat}{A:ai}(r:bW (k+1) A)(env:Env):bW k (A.deeper env):=
 ⟨r.hd,by have:=r.dp;show A.depth+1+3*k+5<_;omega,by have:=r.un;show A.units+3+16*k+200<_;omega⟩
theorem Ln{A:ai}{C:Addr}{us:AE}{kw:List (Str×Value)}:(A.under (.builtin "type.__call__" ⟨.ref C::us,kw⟩)).depth=A.depth+1:=by
 first |rfl |simp[sx,Code.weight,Code.isCreation,Code.isGuard,Code.isCaller,Code.frames,sy,guardIds]
theorem Xm{A:ai}{C:Addr}{us:AE}{kw:List (Str×Value)}:(A.under (.builtin "type.__call__" ⟨.ref C::us,kw⟩)).units=A.units+1:=by
 first |rfl |simp[sx,Code.cUnits,Code.frames,sy]
theorem bW.make{k:Nat}{A:ai}(r:bW (k+1) A)(C:Addr)(us:AE)(kw:List (Str×Value)):bW k (A.under (.builtin "type.__call__" ⟨.ref C::us,kw⟩)):=
 ⟨r.hd,by have:=r.dp;rw[Ln];omega,by have:=r.un;rw[Xm];omega⟩
theorem bW.depth{k:Nat}{A:ai}(r:bW k A):A.depth<recursionLimit:=by have:=r.dp;omega
theorem bW.units{k:Nat}{A:ai}(r:bW k A):A.units+64<cLine:=by have:=r.un;omega
def L9:TA:=λ_ H Q=>Q [] H
def F8(ta:TE)(tr:TA):TA:=λσ H Q=>ta σ H λx H1=>tr σ H1 λxs H2=>Q (x::xs) H2
section
variable{X:Cx}{e:af}{es:List af}{te:TE}{t:TA}{pos:ag}
theorem jA:PA X [] L9:=λ_ _ _ _ H Q I h=>ww ⟨[],H,I,.nil,h⟩
theorem eR(ha:PE X e te)(hr:PA X es t)(hs:starEach (e::es) X.env=(false,eval e X.env)::starEach es X.env:=by rfl):PA X (e::es) (F8 te t):=by
 intro pos AM s σ H Q I h;rw[hs];show wpAny _ _ (spliced ((false,eval e X.env)::backTo pos (starEach es X.env))) _ _ s;refine td (bB (ha AM s σ H _ I h) λu s1 hq=>?_);rcases hq with⟨x,H1,I1,r1,q1⟩;exact bB (hr pos AM s1 σ H1 _ I1 q1) λus s2 ⟨xs,H2,I2,r2,q2⟩=>⟨x::xs,H2,I2,.cons r1 r2,q2⟩
def L3(t:TA):TE:=λσ H Q=>t σ H λxs H1=>xs.length<=sizeLine/\∀p,H1 p=none->Q (.ref p) (aM H1 p (.tup xs))
def L8(t:TA):TE:=λσ H Q=>t σ H λxs H1=>xs.length<=sizeLine/\∀p,H1 p=none->Q (.ref p) (aM H1 p (.lst xs))
theorem xH{x1}(h:PA X es t):PE X (.Tuple es x1 pos) (L3 t):=by
 intro AM s σ H Q I hq;refine wx (bB (h pos AM s σ H _ I hq) λus s1 ⟨xs,H1,I1,r,z,q⟩=>⟨by rw[<-r.length];exact z,?_⟩);have hf:H1 s1.heap.objs.size=none:=I1.hok.fresh (ak _);refine⟨.ref s1.heap.objs.size,aM H1 s1.heap.objs.size (.tup xs),I1.laid (t':=s1.toks) (λb u e=>al _ e) (ak _) ?_,rfl,q _ hf⟩;exact⟨⟨z,_,cm _ rfl,rfl⟩,us,r,⟨_,cm _ rfl,rfl,_,rfl⟩⟩
theorem Tg(h:PA X es t):PE X (.List es pos) (L8 t):=by
 intro AM s σ H Q I hq;refine wpAny_List_spliced (bB (h pos AM s σ H _ I hq) λus s1 ⟨xs,H1,I1,r,z,q⟩=>⟨by rw[<-r.length];exact z,?_⟩);have hf:H1 s1.heap.objs.size=none:=I1.hok.fresh (ak _);refine⟨.ref s1.heap.objs.size,aM H1 s1.heap.objs.size (.lst xs),I1.laid (t':=s1.toks) (λb u e=>al _ e) (ak _) ?_,rfl,q _ hf⟩;exact⟨z,us,0,r,cm _ rfl⟩
end
abbrev Sp:=List V->Hp->VK->XK->Prop
abbrev fU:=List Env->Hp->Shared->XK->Value->Shared->Prop
structure lY(P:Program)(w:ah)(K:ae)(mg:Str->AF)(base:Heap)(A:ai)(outer:List Env)(s:Shared)(H:Hp):Prop where
 frames:A.frames=some outer
 mod:Mod K mg base
 bs:∀b o,base.get? b=some o->s.heap.get? b=some o/\H b=none
 bsz:base.objs.size<=s.heap.objs.size
 funs:s.heap.FunFrames base outer
 frf:∀b∈bV outer,H b=none
 hok:dF P w H s.heap
 bare:fh s.gens
def CE(outer:List Env)(P:Program)(w:ah)(H:Hp)(s:Shared)(Q:VK)(u:Value)(s':Shared):Prop:=
 ∃v H',s'.os=s.os/\fh s'.gens/\Un (bV outer) [] H H' s.heap s'.heap/\dF P w H' s'.heap/\bO v u/\Q v H'
def CR(CX:fU)(outer:List Env)(P:Program)(w:ah)(H:Hp)(s:Shared)(Q:VK)(E:XK)(r:jg)(s':Shared):Prop:=
 match r with
 |.ok (.ret u)=>CE outer P w H s Q u s'
 |.ok _=>False
 |.error e=>CX outer H s E e s'
structure cK(P:Program)(w:ah)(K:ae)(mg:Str->AF)(base:Heap)(CX:fU)(k:Nat)(f:Addr)(fd:ay)(ps:List Str)(sp:Sp):Prop where
 len:∀vs H Q E,sp vs H Q E->vs.length=ps.length
 run:∀(A:ai)(outer:List Env)(s:Shared)(H:Hp)(args:Args)(us:AE)(vs:List V)(Q:VK)(E:XK),bW k A->lY P w K mg base A outer s H->kg s fd args (ps.zip us)->bA vs us->sp vs H Q E->
  codeAny (model P w) A (.call (.ref f) args) (CR CX outer P w H s Q E) s
theorem cK.imp{P:Program}{w:ah}{K:ae}{mg:Str->AF}{base:Heap}{CX:fU}{k:Nat}{f:Addr}{fd:ay}{ps:List Str}{sp sp':Sp}(F:cK P w K mg base CX k f fd ps sp)
  (h:∀vs H Q E,sp' vs H Q E->sp vs H Q E):cK P w K mg base CX k f fd ps sp':=
 ⟨λvs H Q E q=>F.len vs H Q E (h _ _ _ _ q),λA outer s H args us vs Q E hr he hb hv hs=>F.run A outer s H args us vs Q E hr he hb hv (h _ _ _ _ hs)⟩
theorem lY.make{P:Program}{w:ah}{K:ae}{mg:Str->AF}{base:Heap}{A:ai}{outer:List Env}{s:Shared}{H:Hp}(e:lY P w K mg base A outer s H)(C:Addr)(us:AE)(kw:List (Str×Value)):
  lY P w K mg base (A.under (.builtin "type.__call__" ⟨.ref C::us,kw⟩)) outer s H:=⟨by first |exact e.frames |(simpa[sx,Code.envs,sy,pushEnvs]using e.frames),e.mod,e.bs,e.bsz,e.funs,e.frf,e.hok,e.bare⟩
section
variable{X:Cx}{AM:List (Addr×Obj)}{σ:St}{H:Hp}{s s':Shared}
theorem aD.env0(I:aD X AM σ H s):lY X.prog X.w X.K X.mg X.base X.A X.stack s H:=
 ⟨I.ok.frames,I.ok.mod,I.bs,di I.ok.bsz I.sz,I.stack,I.stkFree,I.hok,I.bare⟩
theorem aD.after{Q:VK}{u:Value}(I:aD X AM σ H s)(h:CE X.stack X.prog X.w H s Q u s'):EP X AM σ Q u s':=by
 obtain⟨v,H',os,bare,un,hok,r,q⟩:=h;obtain⟨hh,g,d,t,os'⟩:=s';obtain rfl:os'=s.os:=os;exact⟨v,H',I.call (h':=hh) (g':=g) (d':=d) (t':=t) (ch:=[]) un hok bare (λb z=>absurd z (by simp)),r,q⟩
end
def Rz(sp:Sp)(dvs:List V)(E:XK)(t:TA):TE:=λσ H Q=>t σ H λvs H1=>sp (vs++dvs) H1 Q E
def eM(K:ae)(fd:ay)(ps:List Str)(ds:AE):Prop:=
 ∀(s:Shared)(us:AE),K.In s.heap->(us++ds).length=ps.length->kg s fd ⟨us,[]⟩ (ps.zip (us++ds))
theorem eM.all{K:ae}{fd:ay}{ps:List Str}(h:∀us:AE,us.length=ps.length->bindArgs fd ⟨us,[]⟩=pure (ps.zip us)):eM K fd ps []:=λs us _ hl=>by
 rw[lr]at hl⊢;exact .of_eq (h us hl)
def iH(CX:fU)(X:Cx)(E:XK):Prop:=∀(AM:List (Addr×Obj))(σ:St)(H:Hp)(s:Shared)(e:Value)(s':Shared),aD X AM σ H s->CX X.stack H s E e s'->X.xe e s'
section
variable{X:Cx}{CX:fU}{k:Nat}{f C:Addr}{fd:ay}{ps:List Str}{sp:Sp}{dvs:List V}{ds:AE}{E:XK}{x m:Str}{p pos apos:ag}{e o:af}{es:List af}{ta:TE}{t:TA}
theorem Fy{AM:List (Addr×Obj)}{σ:St}{H:Hp}{s:Shared}{Q:VK}{us:AE}{vs:List V}(F:cK X.prog X.w X.K X.mg X.base CX k f fd ps sp)(hr:bW k X.A)(hb:eM X.K fd ps ds)(hd:bA dvs ds)(hx:iH CX X E)
  (I:aD X AM σ H s)(r:bA vs us)(h:sp (vs++dvs) H Q E):wpAny (model X.prog X.w) X.A (call (.ref f) us) (EP X AM σ Q) X.xe s:=by
 have r2:bA (vs++dvs) (us++ds):=r.append hd;have hl:(us++ds).length=ps.length:=by rw[<-r2.length];exact F.len _ _ _ _ h
 refine ni (jh (F.run X.A X.stack s H ⟨us,[]⟩ (us++ds) (vs++dvs) Q E hr I.env0 (hb s us I.kIn hl) r2 h) λr s' hq=>?_);cases r with
 |error e=>exact hx AM σ H s e s' I hq
 |ok fl=>
  cases fl with
  |ret u=>exact I.after hq
  |next=>exact de hq
  |brk=>exact de hq
  |cont=>exact de hq
theorem rT(F:cK X.prog X.w X.K X.mg X.base CX k f fd ps sp)(hr:bW k X.A)(hg:Gl X x)(hm:X.mg x=some (.ref f))(hk:ce X.K (.ref f)=true)(hb:eM X.K fd ps ds)(hd:bA dvs ds)(hx:iH CX X E)
  (ha:PA X (e::es) t)(hdb:(x==("__debug__":Str))=false:=by decide)(he:starEach (e::es) X.env=(false,eval e X.env)::starEach es X.env:=by rfl)(hpl:(backTo pos (starEach es X.env)).any (·.1)=false:=by rfl):
  PE X (.Call (.Name x p) (e::es) [] pos) (Rz sp dvs E t):=by
 intro AM s σ H Q I h;refine kh (lN I hg hm ?_ hdb);refine nj (h₀:=X.base) I.ok.mod.kin hk (bB (ha pos AM s σ H _ I h) λus s1 ⟨vs,H1,I1,r,q⟩=>⟨I1.kIn,?_⟩) he hpl;exact Fy F hr hb hd hx I1 r q
end
section
variable{X:Cx}{CX:fU}{k:Nat}{f C:Addr}{fd:ay}{ps ks:List Str}{sp:Sp}{E:XK}{x m:Str}{p pos apos kpos:ag}{e o:af}{es:List af}{kws:List ji}{te ta:TE}{t tk:TA}{nm:Option Str}
variable{g:AE->AE->AE}{gV:List V->List V->List V}
end
structure fQ(N P:List Str)(sc:Scope):Prop where
 kind:sc.kind=.function
 co:sc.isCoroutine=false
 gen:sc.isGenerator=false
 nd:N.Nodup
 pre:N.take P.length=P
 par:∀x∈P,sc.names.lookup x=some .local\/sc.names.lookup x=some .cell
 nofree:∀y∈sc.names,y.2≠.free
theorem Vb{kindOf:Str->Option gv}{x:Str}:∀{binds:List (Str×Value)}{m:Str->AF},(∀v,(x,v)∉binds)->bindL kindOf binds m x=m x
 |[],_,_=>rfl
 |(n,v)::r,m,h=>by
  unfold bindL;rw[Vb λw hw=>h w (cj _ hw)];split
  .have:x≠n:=by rintro rfl;exact h v bi
   simp[this]
  .rfl
theorem Ib{kindOf:Str->Option gv}{x:Str}:∀{binds:List (Str×Value)}{m:Str->AF},(∀v,(x,v)∉binds)->bindC kindOf binds m x=m x
 |[],_,_=>rfl
 |(n,v)::r,m,h=>by
  unfold bindC;rw[Ib λw hw=>h w (cj _ hw)];split
  .rfl
  .have:x≠n:=by rintro rfl;exact h v bi
   simp[this]
theorem Dc{kindOf:Str->Option gv}{x:Str}{v:Value}:∀{P:List Str}{vs:AE}{i:Nat}{m:Str->AF},P.Nodup->P[i]?=some x->vs[i]?=some v->kindOf x=some .local->
  bindL kindOf (P.zip vs) m x=some v
 |[],_,_,_,_,h,_,_=>by simp at h
 |_::_,[],_,_,_,_,h,_=>by simp at h
 |p::P,w::vs,0,m,nd,h1,h2,hk=>by
  simp at h1 h2;subst h1;subst h2;show bindL kindOf ((p,w)::P.zip vs) m p=_;unfold bindL;rw[Vb λv hv=>(io.mp nd).1 (tf hv).1,if_pos hk];simp
 |p::P,w::vs,i+1,m,nd,h1,h2,hk=>by
  show bindL kindOf ((p,w)::P.zip vs) m x=_;unfold bindL;exact Dc (i:=i) (io.mp nd).2 (by simpa using h1) (by simpa using h2) hk
theorem Sb{kindOf:Str->Option gv}{x:Str}{v:Value}:∀{P:List Str}{vs:AE}{i:Nat}{m:Str->AF},P.Nodup->P[i]?=some x->vs[i]?=some v->kindOf x≠some .local->
  bindC kindOf (P.zip vs) m x=some v
 |[],_,_,_,_,h,_,_=>by simp at h
 |_::_,[],_,_,_,_,h,_=>by simp at h
 |p::P,w::vs,0,m,nd,h1,h2,hk=>by
  simp at h1 h2;subst h1;subst h2;show bindC kindOf ((p,w)::P.zip vs) m p=_;unfold bindC;rw[Ib λv hv=>(io.mp nd).1 (tf hv).1,if_neg hk];simp
 |p::P,w::vs,i+1,m,nd,h1,h2,hk=>by
  show bindC kindOf ((p,w)::P.zip vs) m x=_;unfold bindC;exact Sb (i:=i) (io.mp nd).2 (by simpa using h1) (by simpa using h2) hk
def start(N:List Str)(vs:List V):St:=vs.map some++wy (N.length-vs.length) none
def aR(CX:fU)(P:Program)(w:ah)(K:ae)(mg:Str->AF)(base:Heap)(N:List Str)(qual:Str)(scope:Scope)(f:Addr)(cd:Value)(A:ai)(outer:List Env)(s:Shared)(H:Hp)(E:XK):Cx where
 prog:=P
 w:=w
 K:=K
 mg:=mg
 base:=base
 A:=A.deeper (envOfC qual scope s.heap.objs.size f cd)
 N:=N
 AN:=s
 AO:=H
 env:=envOfC qual scope s.heap.objs.size f cd
 outer:=outer
 stack:=envOfC qual scope s.heap.objs.size f cd::outer
 ex:=[]
 calm:=true
 fn:=λ_=>true
 pn:=[]
 xe:=λe s'=>wpAny (model P w) (A.deeper (envOfC qual scope s.heap.objs.size f cd)) (leaving (envOfC qual scope s.heap.objs.size f cd) e) (λ_ s''=>CX outer H s E e s'') (λe' s''=>CX outer H s E e' s'') s'
theorem Nd{sc:Scope}{n:Nat}{x:Str}(h:sc.names.lookup x=some .cell):∃c,(cellsFrom n sc.names []).lookup x=some c:=by
 have q:=wz sc.names n [] (.inl h);exact tj.mp q
theorem Io{CX:fU}{P:Program}{w:ah}{K:ae}{mg:Str->AF}{base:Heap}{N ps:List Str}{qual:Str}{scope:Scope}{f:Addr}{cd:Value}{A:ai}{outer:List Env}{s s1:Shared}{H:Hp}{E:XK}{us:AE}{vs:List V}
  (S:fQ N ps scope)(hd:A.handled=none)(e0:lY P w K mg base A outer s H)(hl:vs.length=ps.length)(r:bA vs us)
  (x:InCallC s s.heap.objs.size (bindL (envOfC qual scope s.heap.objs.size f cd).kindOf (ps.zip us) λ_=>none) (cellsFrom (s.heap.objs.size+1) scope.names []) (bindC (envOfC qual scope s.heap.objs.size f cd).kindOf (ps.zip us) λ_=>none) s1):
  aD (aR CX P w K mg base N qual scope f cd A outer s H E) [] (start N vs) H s1:=by
 have hpl:ps.length<=N.length:=by have:=congrArg List.length S.pre;rw[nr]at this;omega
 obtain⟨h1,tk,rfl,hk⟩:=x.done;have noA:∀b:Addr,b∉(aR CX P w K mg base N qual scope f cd A outer s H E).ex:=λb z=>absurd (show b∈([]:List Addr) from z) (by simp);refine⟨⟨e0.mod,S.kind,rfl,rfl,ak _,λy z c h1 h2=>?_,λy hy=>?_,λy c _ h=>?_,λ_=>hd,Around.frames_deeper e0.frames,.inr ⟨rfl,rfl⟩,λb z=>absurd z (noA b),e0.bs,e0.bsz,λb _ _=>noA b,λb z=>absurd z (noA b),e0.funs,e0.frf⟩,
  rfl,e0.bare,Un.kept hk,⟨_,x.toInCall.ns,λi y v h1 h2 h3=>?_⟩,λy c h=>⟨_,x.cell y c h⟩,e0.hok.fresh (ak _),λy c h=>?_,λp hp=>absurd (show p∈([]:List (Addr×Obj)) from hp) (by simp),e0.hok.kept hk,?_⟩
 .exact name_of_addr x.apart (jj h1) (jj h2)
 .have hy:scope.names.lookup y=some .cell\/scope.names.lookup y=some .free:=hy
  rcases hy with hy |hy
  .exact Nd hy
  .exact absurd rfl (S.nofree _ (jj hy))
 .exact sd (x.above y c (jj h))
 .have hi:i<vs.length:=by
   unfold start at h2
   by_cases hi:i<vs.length
   .exact hi
   .rw[fy (by simpa using hi)]at h2
    rw[xa]at h2;split at h2<;>cases h2
  have ha:vs[i]?=some v:=by
   unfold start at h2;rw[gf (by simpa using hi),dz]at h2;cases e:vs[i]? with
   |none=>rw[e]at h2;cases h2
   |some a=>rw[e]at h2;cases h2;rfl
  obtain⟨u,hu,rv⟩:=r.get ha;have hp:ps[i]?=some y:=by
   rw[<-S.pre,List.getElem?_take_of_lt (by omega)];exact h1
  have ndP:ps.Nodup:=by rw[<-S.pre];exact S.nd.sublist (List.take_sublist _ _)
  refine⟨u,rv,?_⟩;rcases S.par y (fj hp)with k |k
  .exact .inl ⟨k,Dc ndP hp hu k⟩
  .obtain⟨c,e⟩:=Nd (n:=s.heap.objs.size+1) k
   refine .inr ⟨.inl k,c,e,?_⟩;have q:=x.cell y c e;rw[Sb ndP hp hu (by show scope.names.lookup y≠_;rw[k];decide)]at q;exact q
 .exact e0.hok.fresh (sd (x.above y c (jj h)))
 .unfold start
  show _=N.length;rw[da,az,List.length_replicate];omega
theorem yB{CX:fU}{P:Program}{w:ah}{K:ae}{mg:Str->AF}{base:Heap}{k:Nat}{f:Addr}{name qual:Str}{params:Arguments}{body:List Stmt}{scope:Scope}{dV kV doc pm cdv ct oc:Value}{an od:AG}
  {osl:Array AF}{N ps:List Str}{sp:Sp}(lk:K.lookup f=some ⟨oc,od,.func (cc name qual params body scope dV kV doc pm an cdv ct),osl⟩)(hcd:eh K cdv qual=true)(S:fQ N ps scope)
  (len:∀vs H Q E,sp vs H Q E->vs.length=ps.length)
  (hbody:∀(A:ai)(outer:List Env)(s:Shared)(H:Hp)(vs:List V)(Q:VK)(E:XK),bW k (A.deeper (envOfC qual scope s.heap.objs.size f cdv))->sp vs H Q E->
   ∃t,eA (aR CX P w K mg base N qual scope f cdv A outer s H E) body t/\t {nx:=λ_ H'=>Q .non H',rt:=Q} (start N vs) H):
  cK P w K mg base CX (k+1) f (cc name qual params body scope dV kV doc pm an cdv ct) ps sp:=by
 refine⟨len,λA outer s H args us vs Q E hr e0 hb r hsp=>?_⟩;have hl:=len _ _ _ _ hsp;have KX:K.In s.heap:=e0.mod.kin.keeps λb o e=>(e0.bs b o e).1;have lim:s.heap.NoLimit:=e0.mod.nolimit.keeps λb o e=>(e0.bs b o e).1;have hkind:∀y∈ps.zip us,scope.names.lookup y.1=some .local\/(scope.names.lookup y.1=some .cell/\((cellsFrom (s.heap.objs.size+1) scope.names []).lookup y.1).isSome=true):=λ⟨n,v⟩ hy=>by
  rcases S.par n (tf hy).1 with q |q
  .exact .inl q
  .exact .inr ⟨q,wz _ _ _ (.inl q)⟩
 refine codeAny_call_function hr.depth (KX _ _ lk) rfl S.co S.gen rfl (PySem.W.codeRec_of KX hcd) (hb _ _ _ _ ?_);refine wpAny_newFunctionEnv_cells S.kind hkind λenv he s1 x=>?_;subst he;refine⟨lim.keeps x.toInCall.keep,codeAny_func ?_⟩;obtain⟨t,ht,hq⟩:=hbody A outer s H vs Q E (hr.deeper _) hsp;have I:aD (aR CX P w K mg base N qual scope f cdv A outer s H E) [] (start N vs) H s1:=Io S hr.hd e0 hl r x;refine cn (ht [] s1 (start N vs) H _ I hq) (λfl s' hs=>?_) λe s' hs=>hs;have fin:∀{σ':St}{H':Hp}{v:V}{u:Value},aD (aR CX P w K mg base N qual scope f cdv A outer s H E) [] σ' H' s'->bO v u->Q v H'->CE outer P w H s Q u s':=
  λ{σ' H' v u} J rv q=>⟨v,H',J.os,J.bare,J.base,J.hok,rv,q⟩
 cases fl with
 |ret u=>
  obtain⟨v,σ',H',J,rv,q⟩:=hs;exact fin J rv q
 |next=>
  obtain⟨σ',H',J,q⟩:=hs;exact fin (v:=V.non) (u:=au) J rfl q
 |brk=>
  obtain⟨_,_,_,q⟩:=hs;exact de q
 |cont=>
  obtain⟨_,_,_,q⟩:=hs;exact de q
section
variable{X:Cx}{x:Str}{p pos:ag}{e:af}{es:List af}{t:TA}{id T:String}{r:List V->Hp->VK->Prop}
def Uk(r:List V->Hp->VK->Prop)(t:TA):TE:=λσ H Q=>t σ H λvs H1=>r vs H1 Q
theorem lJ(hc:fH X (.builtin id) r)(hg:Gl X x)(hm:X.mg x=none)(hv:bootBuiltins x=some (.builtin id))(ha:PA X (e::es) t)(hn:x≠"__name__":=by decide)(hdb:(x==("__debug__":Str))=false:=by decide)
  (he:starEach (e::es) X.env=(false,eval e X.env)::starEach es X.env:=by rfl)(hpl:(backTo pos (starEach es X.env)).any (·.1)=false:=by rfl):PE X (.Call (.Name x p) (e::es) [] pos) (Uk r t):=by
 intro AM s σ H Q I h;refine kh (nC I hg hm hv ?_ hn hdb);exact PyProof.Rows.callWith_builtin1 (bB (ha pos AM s σ H _ I h) λus s1 ⟨vs,H1,I1,r1,q1⟩=>hc AM s1 σ H1 vs us Q I1 r1 q1) he hpl
theorem Xn(hc:fH X (.type T) r)(hg:Gl X x)(hm:X.mg x=none)(hv:bootBuiltins x=some (.type T))(ha:PA X (e::es) t)(hn:x≠"__name__":=by decide)(hdb:(x==("__debug__":Str))=false:=by decide)
  (he:starEach (e::es) X.env=(false,eval e X.env)::starEach es X.env:=by rfl)(hpl:(backTo pos (starEach es X.env)).any (·.1)=false:=by rfl):PE X (.Call (.Name x p) (e::es) [] pos) (Uk r t):=by
 intro AM s σ H Q I h;refine kh (nC I hg hm hv ?_ hn hdb);exact nh (bB (ha pos AM s σ H _ I h) λus s1 ⟨vs,H1,I1,r1,q1⟩=>hc AM s1 σ H1 vs us Q I1 r1 q1) he hpl
end
end L2
namespace HT
open PySem PyProof.Rows
def lexLt:AA->AA->Bool
 |[],[]=>false
 |[],_::_=>true
 |_::_,[]=>false
 |x::xs,y::ys=>if x=y then lexLt xs ys else decide (x<y)
theorem lexLt_cons(x y:Int)(xs ys:AA):lexLt (x::xs) (y::ys)=if x=y then lexLt xs ys else decide (x<y):=rfl
theorem Jl:lexLt [] []=false:=rfl
theorem El(y:Int)(ys:AA):lexLt [] (y::ys)=true:=rfl
theorem Il(x:Int)(xs:AA):lexLt (x::xs) []=false:=rfl
theorem Gq(A:ai)(s:Shared)(a:Int)(t:Tok)(c:Int)(u:Tok):∃e,gg A s (.int a t) (.int c u) e/\(e=true↔a=c):=
 ⟨(a==c),tm a t c u,by simp⟩
theorem Ir(A:ai)(s:Shared)(a:Int)(t:Tok)(c:Int)(u:Tok)(prog:Program)(w:ah)(E:Value->Shared->Prop)(Q:Value->Shared->Prop)(h:Q (.bool (decide (a<c))) s):
  wpAny (model prog w) A (richCompare .Lt (.int a t) (.int c u)) Q E s:=
 (PyProof.Rows.lt_int h:wpAny (model prog w) A (compareOp .Lt (.int a t) (.int c u)) Q E s)
section
open PySem.SeqAt
open PySem.AutoSeq1 (wpAny_loadPart')
open PySem.MeetsSeq PySem.MeetsSeq2 PySem.MeetsSeq3
theorem Ll(l b:Addr)(items items2:Array Value)(n n2:Nat)(dd dd2:AG)(sl sl2:Array AF)(ns ms:AA)(hi:fk items.toList ns)(hj:fk items2.toList ms):
  Meets (Builtin.«tuple.__lt__» ⟨[.ref l,.ref b],[]⟩)
   (λ_ R s=>s.heap.get? l=some {cls:=.type "tuple",dict:=dd,data:=.seq items n,slots:=sl}/\s.heap.get? b=some {cls:=.type "tuple",dict:=dd2,data:=.seq items2 n2,slots:=sl2}/\
    R (.ok (.ret (.bool (lexLt ns ms)))) s):=
 .of_wp λprog w A R s h=>by
  obtain⟨hp,g,d,tk,os⟩:=s;obtain⟨hl,hb,h⟩:=h;have f2:=AutoSeq1.sub_tuple_tuple;have z1:items.size=ns.length:=by rw[<-hi.length];simp
  have z2:items2.size=ms.length:=by rw[<-hj.length];simp
  wp_walk using wpAny_loadPart' hl,wpAny_loadPart' hb,wpAny_forIn_list _ (λdQ b s'=>b.1=none/\s'=⟨hp,g,d,tk,os⟩/\∃(vs ws:AE)(ns' ms':AA),dQ=vs.zip ws/\
   fk vs ns'/\fk ws ms'/\ns'.length+items2.size=ms'.length+items.size/\R (.ok (.ret (.bool (lexLt ns' ms')))) ⟨hp,g,d,tk,os⟩) _
  case turn=>
   rintro⟨y,x⟩ dQ b s' ⟨hb',rfl,vs,ws,ns',ms',hz,hvi,hwi,hlen,hR⟩
   cases hvi with
   |nil=>rw[List.zip_nil_left]at hz;cases hz
   |cons a t hvi'=>
    cases hwi with
    |nil=>rw[tq]at hz;cases hz
    |cons c u hwi'=>
     rw[lu]at hz;injection hz with hyx hrest;injection hyx with hy hx;subst hy hx;rw[lexLt_cons]at hR;simp only[cg]at hlen;obtain⟨e,he,hiff⟩:=Gq A.in1 ⟨hp,g,d,tk,os⟩ a t c u;refine aa (he prog w _ _ ?_);cases e with
     |true=>
      rw[if_pos (hiff.mp rfl)]at hR
      wp_walk
      exact⟨rfl,rfl,_,_,_,_,hrest,hvi',hwi',by omega,hR⟩
     |false=>
      rw[if_neg (λq=>absurd (hiff.mpr q) kb)]at hR;have hri:=Ir A.in1 ⟨hp,g,d,tk,os⟩ a t c u prog w
      wp_walk using hri
      exact⟨_,rfl,by simpa using hR⟩
  case fin=>
   rintro⟨b1,b2⟩ s' ⟨hb',rfl,vs,ws,ns',ms',hz,hvi,hwi,hlen,hR⟩
   simp only at hb';subst hb';have hv:lexLt ns' ms'=decide (items.size<items2.size):=by
    cases hvi with
    |nil=>
     cases hwi with
     |nil=>
      simp only[nu]at hlen;rw[Jl];exact(decide_eq_false (by omega)).symm
     |cons c u hw=>
      simp only[nu,cg]at hlen;rw[El];exact(decide_eq_true (by omega)).symm
    |cons a t hv=>
     cases hwi with
     |nil=>
      simp only[nu,cg]at hlen;rw[Il];exact(decide_eq_false (by omega)).symm
     |cons c u hw=>
      rw[lu]at hz;cases hz
   rw[hv]at hR
   wp_walk
   exact⟨_,rfl,by simpa[Builtin.Tuple.tupleCompareSizes]using hR⟩
  case h=>
   exact⟨rfl,rfl,items.toList,items2.toList,ns,ms,rfl,hi,hj,by omega,h⟩
end
section
variable{prog:Program}{w:ah}{A:ai}{E:Value->Shared->Prop}{s:Shared}
theorem lt_tupInts{l b:Addr}{items items2:Array Value}{ns ms:AA}{Q:Value->Shared->Prop}(hl:jb s.heap l items)(hb:jb s.heap b items2)(hi:fk items.toList ns)(hj:fk items2.toList ms)
  (hu:A.units<cLine)(h:Q (.bool (lexLt ns ms)) s):wpAny (model prog w) A (compareOp .Lt (.ref l) (.ref b)) Q E s:=by
 obtain⟨⟨cls,dd,data,sl⟩,ho,hc,n,hd⟩:=id hl;obtain⟨⟨cls2,dd2,data2,sl2⟩,dL,hc2,n2,hd2⟩:=id hb;simp only at hc hd hc2 hd2;subst hc hd hc2 hd2;exact richCompare_meets_room (op:=.Lt) ⟨_,ho,rfl⟩ ⟨_,dL,rfl⟩ PySem.F.slot_tuple_lt PySem.F.entry_tuple_lt (PySem.F.args_tuple_lt_2 _ _) (Ll l b items items2 n n2 dd dd2 sl sl2 ns ms hi hj)
  ⟨ho,dL,show jw (lexLt ns ms)≠Value.notImplemented/\Q (.bool (lexLt ns ms)) s from⟨(λx=>nomatch x),h⟩⟩ hu
theorem cat_tup{t b:Addr}{vs ws:AE}{Q:Value->Shared->Prop}(ht:jb s.heap t vs.toArray)(hb:jb s.heap b ws.toArray)(hv:vs≠[])
  (h1:ws=[]->Q (.ref t) s)(h2:ws≠[]->Q (.ref s.heap.objs.size) {s with heap:=s.heap.push {cls:=.type "tuple",data:=.seq (vs++ws).toArray}})
  (hsz:vs.length+ws.length<=sizeLine):wpAny (model prog w) A (binaryOp .Add (.ref t) (.ref b)) Q E s:=by
 obtain⟨⟨cls,dd,data,sl⟩,ho,hc,n,hd⟩:=id ht;obtain⟨⟨cls2,dd2,data2,sl2⟩,dL,hc2,n2,hd2⟩:=id hb;simp only at hc hd hc2 hd2;subst hc hd hc2 hd2;have e:vs.toArray++ws.toArray=(vs++ws).toArray:=by simp
 by_cases hw:ws=[]
 .exact tw ⟨_,ho,rfl⟩ ⟨_,dL,rfl⟩ noFill_tuple_add seq_tuple_add xh xi (xj _ _)
   (tuple_addW1 t b vs.toArray ws.toArray n n2 dd dd2 sl sl2 (by simpa using hv) (by simp[hw])) ⟨ho,dL,h1 hw⟩
 .refine tw ⟨_,ho,rfl⟩ ⟨_,dL,rfl⟩ noFill_tuple_add seq_tuple_add xh xi (xj _ _)
   (tuple_addW2 t b vs.toArray ws.toArray n n2 dd dd2 sl sl2 (by simpa using hv) (by simpa using hw) (by rw[am,am];exact hsz)) ⟨ho,dL,?_⟩
  rw[e];exact h2 hw
def sIx(n d:Nat):AH->Nat
 |none=>d
 |some v=>if v<0 then(v+(n:Int)).toNat else min v.toNat n
theorem sIx_nat(n d k:Nat):sIx n d (some (k:Int))=min k n:=by
 show(if(k:Int)<0 then((k:Int)+(n:Int)).toNat else min (k:Int).toNat n)=min k n;rw[if_neg (by omega),nv]
theorem Pw(n d:Nat)(hd:d<=n)(o:AH):sIx n d o<=n:=by
 cases o with
 |none=>exact hd
 |some v=>
  show(if v<0 then(v+(n:Int)).toNat else min v.toNat n)<=n
  by_cases hv:v<0
  .rw[if_pos hv];omega
  .rw[if_neg hv];exact Nat.min_le_right _ _
theorem Tf(v:Int)(n d:Nat):(if v<0 then max (v+(n:Int)) 0 else min v (n:Int))=((sIx n d (some v):Nat):Int):=by
 show(if v<0 then max (v+(n:Int)) 0 else min v (n:Int))=(((if v<0 then(v+(n:Int)).toNat else min v.toNat n):Nat):Int)
 by_cases hv:v<0
 .simp only[if_pos hv];omega
 .simp only[if_neg hv];omega
theorem Um(lo hi:AH)(n:Nat):tx lo hi 1 (n:Int)=(((sIx n 0 lo:Nat):Int),((sIx n n hi:Nat):Int)):=by
 have h1:¬((1:Int)<0):=by omega
 unfold tx;simp only[h1,if_false];refine gr ?_ ?_
 .cases lo with
  |none=>rfl
  |some v=>exact Tf v n 0
 .cases hi with
  |none=>rfl
  |some v=>exact Tf v n n
theorem Ym(i j:Nat):ny (i:Int) (j:Int) 1=j-i:=by
 unfold ny;have h1:(1:Int)>0:=by omega
 simp only[h1,if_true,Int.ediv_one];split<;>omega
theorem Ba{v:Value}{o:AH}{Q:AH->Shared->Prop}(p:ir v o)(h:Q o s):wpAny (model prog w) A (Builtin.Slice.slicePartIndex v) Q E s:=by
 cases p with
 |none=>exact slicePart_none h
 |int i t=>exact slicePart_int h
theorem Xk{sl:Addr}{vl vu:Value}{lo hi:AH}{n:Nat}{Q:Int×Int×Nat->Shared->Prop}(hs:s.heap.IsSliceOf sl vl vu .none)(pl:ir vl lo)(pu:ir vu hi)
  (h:Q (((sIx n 0 lo:Nat):Int),1,sIx n n hi-sIx n 0 lo) s):wpAny (model prog w) A (xk (.ref sl) (pure (n:Int))) Q E s:=by
 obtain⟨os,hos,hcs,hds⟩:=id hs;unfold xk Builtin.Slice.sliceFields;refine aa (aa (dg hos hds (x:=vl) rfl (aa (dg hos hds (x:=vu) rfl (aa (dg hos hds (x:=.none) rfl (aj ?_)))))));refine aa (slicePart_none ?_);show wpAny _ _ (if((1:Int)==0)=true then _ else _) _ _ s;rw[if_neg (by decide)];refine aa (Ba pl (aa (Ba pu (aa (aj ?_)))));show wpAny _ _ (match tx lo hi 1 (n:Int)with |(lo,hi)=>pure (lo,(1:Int),ny lo hi 1)) _ _ s
 rw[Um lo hi n];show wpAny _ _ (pure (((sIx n 0 lo:Nat):Int),(1:Int),ny ((sIx n 0 lo:Nat):Int) ((sIx n n hi:Nat):Int) 1)) _ _ s;rw[Ym];exact aj h
theorem Wp(xs:Array Value)(i k:Nat):((aq k).filterMap λ(m:Nat)=>xs[((i:Int)+(m:Int)*1).toNat]?).toArray=((xs.toList.drop i).take k).toArray:=by
 have e:(λ(m:Nat)=>xs[((i:Int)+(m:Int)*1).toNat]?)=λm=>xs[i+m]?:=by
  funext m
  have:((i:Int)+(m:Int)*1).toNat=i+m:=by omega
  rw[this]
 rw[e];have:=pick_run xs i k;rw[List.filterMap_map]at this;have e2:((λx=>xs[x]?)∘λx=>i+x)=λm=>xs[i+m]?:=rfl;rw[e2]at this;rw[this]
theorem getItem_tuple_cut{t sl:Addr}{items:Array Value}{vl vu:Value}{lo hi:AH}{Q:Value->Shared->Prop}(ht:jb s.heap t items)(hs:s.heap.IsSliceOf sl vl vu .none)(pl:ir vl lo)(pu:ir vu hi)
  (hw:¬(sIx items.size 0 lo=0/\sIx items.size items.size hi=items.size))
  (h:Q (.ref s.heap.objs.size) {s with heap:=s.heap.push {cls:=.type "tuple",data:=.seq ((items.toList.drop (sIx items.size 0 lo)).take (sIx items.size items.size hi-sIx items.size 0 lo)).toArray}})
  (hsz:items.size<=sizeLine):wpAny (model prog w) A (getItem (.ref t) (.ref sl)) Q E s:=by
 have htake:sizeOk (.seq ((items.toList.drop (sIx items.size 0 lo)).take (sIx items.size items.size hi-sIx items.size 0 lo)).toArray):=by
  show((items.toList.drop (sIx items.size 0 lo)).take (sIx items.size items.size hi-sIx items.size 0 lo)).toArray.size<=sizeLine;rw[am,nr,tz,jy];omega
 have hj:sIx items.size items.size hi<=items.size:=Pw _ _ (ak _) hi;obtain⟨os,hos,hcs,hds⟩:=id hs;have hTs:s.TypeIs (.ref sl) "slice":=⟨os,hos,hcs⟩;unfold getItem
 try with_reducible refine dj ?_
 first |refine aa (aj ?_) |skip
 refine aa (wpAny_sequenceKey ht.typeIs (by decide) ?_);refine aa (lv (name:=bf "__getitem__") ht.typeIs oa
  (jk oa ht.typeIs entry_tuple_getitem ?_ (args_tuple_getitem _ _)))
 show wpAny _ _ (xl (.ref t) >>= _) _ _ s;refine aa (tupleItemsOf_ ht ?_);refine aa (ua hTs ?_);rw[if_pos (by decide)];refine aa (Xk hs pl pu ?_);have hno:¬((((sIx items.size 0 lo:Nat):Int)==0&&(1:Int)==1&&(sIx items.size items.size hi-sIx items.size 0 lo)==items.size)=true):=by
  intro q;rw[dm,dm]at q;have q1:((sIx items.size 0 lo:Nat):Int)=0:=eq_of_beq q.1.1;have q2:sIx items.size items.size hi-sIx items.size 0 lo=items.size:=eq_of_beq q.2;exact hw ⟨by omega,by omega⟩
 show wpAny _ _ (if(((sIx items.size 0 lo:Nat):Int)==0&&(1:Int)==1&&(sIx items.size items.size hi-sIx items.size 0 lo)==items.size)=true then _ else _) _ _ s;rw[if_neg hno,Wp]
 first
  |exact aa (m:=og _) (ic (aj ⟨_,rfl,aj h⟩) htake)
  |exact aa (m:=og _) (ic (aa (aj (aj ⟨_,rfl,aj h⟩))) htake)
  |exact aa (aa (m:=og _) (ic (aj (aj ⟨_,rfl,aj h⟩)) htake))
  |exact aa (aa (m:=og _) (ic (aj ⟨_,rfl,aj h⟩) htake))
end
end HT
namespace L2
open PySem PySem.Spec PyProof.Rows
abbrev TO:=St->Hp->(AH->Hp->Prop)->Prop
def PO(X:Cx)(e:Option af)(t:TO):Prop:=
 ∀(AM:List (Addr×Obj))(s:Shared)(σ:St)(H:Hp)(Q:AH->Hp->Prop),aD X AM σ H s->t σ H Q->
  wpAny (model X.prog X.w) X.A (evalPart e X.env) (λu s'=>∃o H',aD X AM σ H' s'/\ir u o/\Q o H') X.xe s
def Ru:TO:=λ_ H Q=>Q none H
def B6(t:TE):TO:=λσ H Q=>t σ H λx H1=>∃i,x=.int i/\Q (some i) H1
theorem Da{ns:AA}:∀{us:AE},bA (ns.map V.int) us->fk us ns:=by
 induction ns with
 |nil=>intro us r;rw[iu]at r;cases r;exact .nil
 |cons n ns ih=>
  intro us r;rw[cw]at r;cases r with
  |cons r1 r2=>
   obtain⟨t,e⟩:=r1;subst e;exact .cons n t (ih r2)
section
variable{X:Cx}{e:af}{te:TE}{lo hi:Option af}{tl th:TO}{pos p2:ag}
theorem Cw:PO X none Ru:=by
 intro AM s σ H Q I h;rw[evalPart_none];exact aj ⟨none,H,I,.none,h⟩
theorem Tu(h:PE X e te):PO X (some e) (B6 te):=by
 intro AM s σ H Q I hw;rw[evalPart_some];refine bB (h AM s σ H _ I hw) ?_
 rintro u s1 ⟨x,H1,I1,r1,q1⟩
 obtain⟨i,rfl,q⟩:=q1;obtain⟨t,rfl⟩:=r1;exact⟨some i,H1,I1,.int i t,q⟩
def lE(X:Cx)(r:V->AH->AH->Hp->VK->Prop):Prop:=
 ∀(AM:List (Addr×Obj))(s:Shared)(σ:St)(H:Hp)(x:V)(v vl vu:Value)(lo hi:AH)(sl:Addr)(Q:VK),aD X AM σ H s->bO x v->s.heap.IsSliceOf sl vl vu .none->ir vl lo->ir vu hi->r x lo hi H Q->
  ∃T id,typeLookup (.type T) "__getitem__"=pure (some (.builtin id))/\s.TypeIs v T/\wpAny (model X.prog X.w) X.A (getItem v (.ref sl)) (EP X AM σ Q) X.xe s
theorem lE.or{r r':V->AH->AH->Hp->VK->Prop}(h:lE X r)(h':lE X r'):lE X (λx lo hi H Q=>r x lo hi H Q\/r' x lo hi H Q):=by
 intro AM s σ H x v vl vu lo hi sl Q I rx hs pl pu q;rcases q with q |q
 .exact h AM s σ H x v vl vu lo hi sl Q I rx hs pl pu q
 .exact h' AM s σ H x v vl vu lo hi sl Q I rx hs pl pu q
def O3(r:V->AH->AH->Hp->VK->Prop)(te:TE)(tl th:TO):TE:=λσ H Q=>te σ H λx H1=>tl σ H1 λl H2=>th σ H2 λu H3=>r x l u H3 Q
theorem Uq{r:V->AH->AH->Hp->VK->Prop}(hr:lE X r)(he:PE X e te)(hl:PO X lo tl)(hu:PO X hi th):PE X (.Subscript e (.Slice lo hi none p2) pos) (O3 r te tl th):=by
 intro AM s σ H Q I h;refine Subscript_ (bB (he AM s σ H _ I h) λv s1 hq=>?_);rcases hq with⟨x,H1,I1,r1,q1⟩;refine wpAny_Slice (bB (hl AM s1 σ H1 _ I1 q1) λvl s2 ⟨l,H2,I2,pl,q2⟩=>bB (hu AM s2 σ H2 _ I2 q2) λvu s3 hq=>?_);rcases hq with⟨u,H3,I3,pu,q3⟩;rw[evalPart_none];refine aj ?_;have I4:aD X AM σ H3 {s3 with heap:=s3.heap.push {cls:=.type "slice",data:=.fields #[vl,vu,.none]}}:=I3.kept (t':=s3.toks) λb ob q=>al _ q;obtain⟨T,id,hT,ht,hg⟩:=hr AM {s3 with heap:=s3.heap.push {cls:=.type "slice",data:=.fields #[vl,vu,.none]}} σ H3 x v vl vu l u s3.heap.objs.size Q I4 r1 (Heap.IsSliceOf.new ..) pl pu q3;show wpAny (model X.prog X.w) X.A (subscriptTail e (.Slice lo hi none p2) v (.ref s3.heap.objs.size)) (EP X AM σ Q) X.xe {s3 with heap:=s3.heap.push {cls:=.type "slice",data:=.fields #[vl,vu,.none]}};exact tail_any (ops:=[.ref s3.heap.objs.size,v]) ht hT hg (by with_unfolding_all rfl)
def kX(xs:List V)(lo hi:AH):List V:=(xs.drop (HT.sIx xs.length 0 lo)).take (HT.sIx xs.length xs.length hi-HT.sIx xs.length 0 lo)
theorem qR(xs:List V)(lo hi:AH):(kX xs lo hi).length<=xs.length:=by
 unfold kX;rw[nr,tz];omega
def G9(K:ae):V->AH->AH->Hp->VK->Prop:=λx lo hi H Q=>∃a xs,x=.ref a/\bZ K H a xs/\
 ¬(HT.sIx xs.length 0 lo=0/\HT.sIx xs.length xs.length hi=xs.length)/\∀p,H p=none->Q (.ref p) (aM H p (.tup (kX xs lo hi)))
theorem Hw:lE X (G9 X.K):=by
 intro AM s σ H x v vl vu lo hi sl Q I rx hs pl pu h;obtain⟨a,xs,rfl,hx,hw,q⟩:=h;cases rx;obtain⟨its,r,ht,hz⟩:=I.tuple hx;have hlen:its.toArray.size=xs.length:=by rw[am];exact r.length.symm
 refine⟨"tuple",_,oa.lookup,ht.typeIs,?_⟩;refine HT.getItem_tuple_cut ht hs pl pu (by rw[hlen];exact hw) ?_ (by rw[hlen];exact hz);rw[hlen];refine⟨.ref s.heap.objs.size,_,I.laid (t':=s.toks) (o:=.tup (kX xs lo hi)) (λb ob q=>al _ q) (ak _) ?_,rfl,q _ (I.hok.fresh (ak _))⟩;exact⟨⟨di (qR xs lo hi) hz,_,cm _ rfl,rfl⟩,_,(r.drop (HT.sIx xs.length 0 lo)).take (HT.sIx xs.length xs.length hi-HT.sIx xs.length 0 lo),my _ _⟩
def Ji(K:ae):R2:=λx y H Q=>∃a b xs ys,x=.ref a/\y=.ref b/\bZ K H a xs/\bZ K H b ys/\xs≠[]/\xs.length+ys.length<=sizeLine/\
 (ys=[]->Q (.ref a) H)/\(ys≠[]->∀p,H p=none->Q (.ref p) (aM H p (.tup (xs++ys))))
theorem bA.nil_iff{xs:List V}{us:AE}(r:bA xs us):us=[]↔xs=[]:=by
 cases r with
 |nil=>simp
 |cons _ _=>simp
theorem Uu:dE X (binaryOp .Add) (Ji X.K):=by
 intro AM s σ H x y v u Q I rx ry h;obtain⟨a,b,xs,ys,rfl,rfl,ha,hb,hx,hz,q1,q2⟩:=h;cases rx;cases ry;obtain⟨its,r1,p1,_⟩:=I.tuple ha;obtain⟨its2,r2,p2,_⟩:=I.tuple hb;refine HT.cat_tup p1 p2 (λz=>hx (r1.nil_iff.mp z)) (λz=>⟨.ref a,H,I,rfl,q1 (r2.nil_iff.mp z)⟩) (λz=>?_) (by rw[<-r1.length,<-r2.length];exact hz);refine⟨.ref s.heap.objs.size,_,I.laid (t':=s.toks) (o:=.tup (xs++ys)) (λb ob q=>al _ q) (ak _) ?_,rfl,q2 (λw=>z (r2.nil_iff.mpr w)) _ (I.hok.fresh (ak _))⟩;exact⟨⟨by rw[da];exact hz,_,cm _ rfl,rfl⟩,_,r1.append r2,my _ _⟩
end
def bD(n:Nat)(i:Int):Option Nat:=if 0<=i then(if i<n then some i.toNat else none)else if-(n:Int)<=i then some (i+n).toNat else none
def bC{α:Type}(xs:List α)(i:Int):Option α:=(bD xs.length i).bind λj=>xs[j]?
theorem Ng{n:Nat}{i:Int}{j:Nat}(h:bD n i=some j):seqIndex? i n=some j/\j<n/\-(n:Int)<=i/\i<n:=by
 unfold bD at h
 by_cases h0:0<=i
 .rw[if_pos h0]at h
  by_cases h1:i<n
  .rw[if_pos h1]at h
   have e:i.toNat=j:=bj h;exact⟨by rw[ub h0 h1,e],by omega,by omega,h1⟩
  .rw[if_neg h1]at h;cases h
 .rw[if_neg h0]at h
  by_cases h1:-(n:Int)<=i
  .rw[if_pos h1]at h
   have e:(i+n).toNat=j:=bj h;exact⟨by rw[uc (by omega) h1,e],by omega,h1,by omega⟩
  .rw[if_neg h1]at h;cases h
theorem wG{α:Type}{xs:List α}{i:Int}{v:α}(h:bC xs i=some v):∃j,seqIndex? i xs.length=some j/\xs[j]?=some v/\j<xs.length/\-(xs.length:Int)<=i/\i<xs.length:=by
 unfold bC at h;cases e:bD xs.length i with
 |none=>rw[e]at h;cases h
 |some j=>
  rw[e]at h;obtain⟨h1,h2,h3,h4⟩:=Ng e;exact⟨j,h1,h,h2,h3,h4⟩
theorem wQ{α:Type}{xs:List α}{j:Nat}{v:α}(h:xs[j]?=some v):bC xs (j:Int)=some v:=by
 have hj:j<xs.length:=(ck.mp h).1;have e:bD xs.length (j:Int)=some j:=by
  unfold bD;rw[if_pos (by omega),if_pos (by omega)];simp
 unfold bC;rw[e];exact h
theorem Os{α:Type}(xs:List α)(v:α):bC (xs++[v]) (-1)=some v:=by
 have hl:(xs++[v]).length=xs.length+1:=by simp
 have e:bD (xs++[v]).length (-1)=some xs.length:=by
  unfold bD;rw[hl,if_neg (by decide),if_pos (by omega)];congr 1;omega
 unfold bC;rw[e];show(xs++[v])[xs.length]?=some v;simp
def Eg(b:af):Prop:=∀o i,subscripted b false o i=operate [o,i] (getItem o i)
def jZ(X:Cx)(r:R2):Prop:=
 ∀(value slice:af)(AM:List (Addr×Obj))(s:Shared)(σ:St)(H:Hp)(x y:V)(v u:Value)(Q:VK),aD X AM σ H s->bO x v->bO y u->r x y H Q->
  subscripted slice false v u=operate [v,u] (getItem v u)->wpAny (model X.prog X.w) X.A (subscriptTail value slice v u) (EP X AM σ Q) X.xe s
def O2(X:Cx)(id:String)(r:V->List V->Hp->VK->Prop):Prop:=
 ∀(AM:List (Addr×Obj))(s:Shared)(σ:St)(H:Hp)(x:V)(xs:List V)(v:Value)(us:AE)(Q:VK),aD X AM σ H s->bO x v->bA xs us->r x xs H Q->
  wpAny (model X.prog X.w) X.A (call (.builtin id) (v::us)) (EP X AM σ Q) X.xe s
section
variable{X:Cx}{a b:af}{ta tb:TE}{pos:ag}
theorem jZ.or{r r':R2}(h:jZ X r)(h':jZ X r'):jZ X (λx y H Q=>r x y H Q\/r' x y H Q):=by
 intro value slice AM s σ H x y v u Q I rx ry q hs;rcases q with q |q
 .exact h value slice AM s σ H x y v u Q I rx ry q hs
 .exact h' value slice AM s σ H x y v u Q I rx ry q hs
theorem E6{r:R2}(hr:jZ X r)(ha:PE X a ta)(hb:PE X b tb)(hs:Eg b):PE X (.Subscript a b pos) (tT r ta tb):=by
 intro AM s σ H Q I h;exact Subscript_ (yF ha hb I h λv u s2 x y H2 I2 rx ry q=>hr a b AM s2 σ H2 x y v u Q I2 rx ry q (hs _ _))
def Sj(K:ae):R2:=λx y H Q=>∃p xs i v,x=.ref p/\y=.int i/\bS K H p xs/\bC xs i=some v/\Q v H
def Uj(K:ae):R2:=λx y H Q=>∃p xs i v,x=.ref p/\y=.int i/\bZ K H p xs/\bC xs i=some v/\Q v H
def Ak:R2:=λx y H Q=>∃z i c,x=.str z/\y=.int i/\z.length<=sizeLine/\bC z.cps.toList i=some c/\Q (.str ⟨#[c]⟩) H
theorem Zs:jZ X (Sj X.K):=by
 intro value slice AM s σ H x y v u Q I rx ry h hs;obtain⟨p,xs,i,z,rfl,rfl,hq,he,q⟩:=h;cases rx;obtain⟨t,rfl⟩:=ry;obtain⟨its,r,pl,hz⟩:=I.list hq;obtain⟨j,h1,h2,h3,h4,h5⟩:=wG he;obtain⟨w,ew,rw'⟩:=r.get h2;have hl:=r.length;have hn:=pP;have fin:EP X AM σ Q w s:=⟨z,H,I,rw',q⟩
 by_cases h0:0<=i
 .have hj:i.toNat=j:=by
   rw[ub h0 h5]at h1;exact bj h1
  exact item_listR pl.isList h0 (by omega) (by rw[hj];simpa using ew) fin hs
 .have hj:(i+(its.toArray.size:Int)).toNat=j:=by
   rw[uc (by omega) h4]at h1;rw[am,<-hl];exact bj h1
  exact xm (x:=w) pl.isList.typeIs slot_list_getitem.lookup
   (wpAny_getItem_list_neg (Q:=λr s'=>r=w/\EP X AM σ Q r s') pl.isList (by omega) (by rw[am]<;>omega) (by omega) (by rw[hj];simpa using ew) ⟨rfl,fin⟩) hs
theorem Ry:jZ X (Uj X.K):=by
 intro value slice AM s σ H x y v u Q I rx ry h hs;obtain⟨p,xs,i,z,rfl,rfl,hq,he,q⟩:=h;cases rx;obtain⟨t,rfl⟩:=ry;obtain⟨its,r,pl,hz⟩:=I.tuple hq;obtain⟨j,h1,h2,h3,h4,h5⟩:=wG he;obtain⟨w,ew,rw'⟩:=r.get h2;have hl:=r.length;have hn:=pP;have fin:EP X AM σ Q w s:=⟨z,H,I,rw',q⟩;exact xm (x:=w) pl.typeIs oa.lookup
  (getItem_tuple (j:=j) (Q:=λr s'=>r=w/\EP X AM σ Q r s') pl (by omega) (by omega) (by rw[am,<-hl];exact h1) (by simpa using ew) ⟨rfl,fin⟩) hs
theorem Zx:jZ X Ak:=by
 intro value slice AM s σ H x y v u Q I rx ry h hs;obtain⟨z,i,c,rfl,rfl,hz,he,q⟩:=h;obtain⟨t,rfl⟩:=rx;obtain⟨t',rfl⟩:=ry;obtain⟨j,h1,h2,h3,h4,h5⟩:=wG he;have hl:z.cps.toList.length=z.length:=by simp[Str.length]
 rw[hl]at h1 h4 h5;have hn:=pP;exact tail_any (typeIs_str s z t) slot_str_getitem.lookup (getItem_str (c:=c) (by
  have e1:decide (i< -(2^63:Int))=false:=decide_eq_false (by omega);have e2:decide (i>=2^63)=false:=decide_eq_false (by omega);rw[e1,e2,Bool.or_false]) (by rw[h1];simpa using h2) ⟨.str ⟨#[c]⟩,H,I.tok _,⟨_,rfl⟩,q⟩) hs
def Nk(K:ae):R2:=λx y H Q=>Sj K x y H Q\/Uj K x y H Q\/Ak x y H Q
theorem Oy:jZ X (Nk X.K):=Zs.or (Ry.or Zx)
theorem Qm(its:AE)(n j:Nat)(u:Value):cr (·.setIfInBounds j u) {cls:=.type "list",data:=.seq its.toArray n}={cls:=.type "list",data:=.seq (its.set j u).toArray n}:=by
 simp[cr]
theorem aD.lst{AM:List (Addr×Obj)}{σ:St}{H:Hp}{s:Shared}{p:Addr}{xs:List V}(I:aD X AM σ H s)(h:H p=some (.lst xs)):
  ∃(its:AE)(n:Nat),bA xs its/\s.heap.get? p=some {cls:=.type "list",data:=.seq its.toArray n}/\xs.length<=sizeLine:=by
 obtain⟨z,its,n,r,e⟩:=I.hok p _ h;exact⟨its,n,r,e,z⟩
theorem aD.lstUpd{AM:List (Addr×Obj)}{σ:St}{H:Hp}{s:Shared}{p:Addr}{xs ys:List V}{its its':AE}{n n':Nat}{f:Obj->Obj}(I:aD X AM σ H s)(h:H p=some (.lst xs))
  (ho:s.heap.get? p=some {cls:=.type "list",data:=.seq its.toArray n})(hf:f {cls:=.type "list",data:=.seq its.toArray n}={cls:=.type "list",data:=.seq its'.toArray n'})(r:bA ys its')(hz:ys.length<=sizeLine)(t:Nat):
  aD X AM σ (aM H p (.lst ys)) {s with heap:=s.heap.update p f,toks:=t}:=by
 have e:(s.heap.update p f).get? p=some {cls:=.type "list",data:=.seq its'.toArray n'}:=by
  rw[oh f ho (by rw[hf]<;>rfl),hf]
 refine I.write (x:=p) (e:=p) (by rw[h];trivial) (.inl rfl) (λb u hb q=>(ud _ _ (fw hb)).trans q) ⟨_,e⟩ ?_;exact⟨hz,its',n',r,e⟩
def A1:V->V->V->Hp->(Hp->Prop)->Prop:=λo i v H Q=>∃p xs k j,o=.ref p/\i=.int k/\H p=some (.lst xs)/\bD xs.length k=some j/\Q (aM H p (.lst (xs.set j v)))
theorem Vp:Yj X A1:=by
 intro AM s σ H o i v ov iv u Q I ro ri rv h;obtain⟨p,xs,k,j,rfl,rfl,hp,hj,q⟩:=h;cases ro;obtain⟨t,rfl⟩:=ri;obtain⟨its,n,r,ho,hz⟩:=I.lst hp;obtain⟨h1,h2,h3,h4⟩:=Ng hj;have hl:=r.length;have hn:=pP;have I':aD X AM σ (aM H p (.lst (xs.set j v))) {s with heap:=s.heap.update p (cr (·.setIfInBounds j u))}:=
  I.lstUpd hp ho (Qm its n j u) (r.set rv j) (by rw[gh];exact hz) s.toks
 by_cases h0:0<=k
 .have hk:k.toNat=j:=by
   rw[ub h0 h4]at h1;exact bj h1
  exact PySem.W.ki_setAt ho h0 (by omega) (by rw[am,<-hl];exact h4) (by rw[hk];exact⟨_,I',q⟩)
 .have hk:(k+(its.toArray.size:Int)).toNat=j:=by
   rw[uc (by omega) h3]at h1;rw[am,<-hl];exact bj h1
  exact PySem.W.ki_setBack ho (by omega) (by rw[am,<-hl];exact h3) (by omega) (by rw[hk];exact⟨_,I',q⟩)
theorem Sl(lo hi:AH)(n:Nat):(sliceBounds lo hi none n).1=((HT.sIx n 0 lo:Nat):Int)/\(sliceBounds lo hi none n).2.1=((HT.sIx n n hi:Nat):Int)/\(sliceBounds lo hi none n).2.2=1:=by
 refine⟨?_,?_,rfl⟩
 .cases lo with
  |none=>simp[sliceBounds,HT.sIx]
  |some i=>
   simp only[sliceBounds,HT.sIx,xn,show(1:Int)>0 by decide,if_true]
   by_cases h:i<0
   .simp only[h,if_true]<;>omega
   .simp only[h,if_false]<;>omega
 .cases hi with
  |none=>simp[sliceBounds,HT.sIx]
  |some i=>
   simp only[sliceBounds,HT.sIx,xn,show(1:Int)>0 by decide,if_true]
   by_cases h:i<0
   .simp only[h,if_true]<;>omega
   .simp only[h,if_false]<;>omega
theorem Nl(its:AE)(lo hi:AH):slicePick its.toArray lo hi none=((its.drop (HT.sIx its.length 0 lo)).take (HT.sIx its.length its.length hi-HT.sIx its.length 0 lo)).toArray:=by
 obtain⟨h1,h2,h3⟩:=Sl lo hi its.toArray.size;unfold slicePick;rw[h1,h2,h3];simp only[sliceRange_one,pick_run,am]<;>rfl
def L4(K:ae):V->AH->AH->Hp->VK->Prop:=λx lo hi H Q=>∃a xs,x=.ref a/\bS K H a xs/\∀p,H p=none->Q (.ref p) (aM H p (.lst (kX xs lo hi)))
theorem Jt:lE X (L4 X.K):=by
 intro AM s σ H x v vl vu lo hi sl Q I rx hs pl pu h;obtain⟨a,xs,rfl,hx,q⟩:=h;cases rx;obtain⟨its,r,ht,hz⟩:=I.list hx;have hlen:=r.length;refine⟨"list",_,slot_list_getitem.lookup,ht.isList.typeIs,?_⟩;refine wpAny_getItem_list_slice ht.isList hs pl pu .none (by simp) ?_ (by rw[am]<;>omega);rw[Nl,<-hlen];refine⟨.ref s.heap.objs.size,_,I.laid (t':=s.toks) (o:=.lst (kX xs lo hi)) (λb ob q=>al _ q) (ak _) ?_,rfl,q _ (I.hok.fresh (ak _))⟩;exact⟨di (qR xs lo hi) hz,_,0,(r.drop (HT.sIx xs.length 0 lo)).take (HT.sIx xs.length xs.length hi-HT.sIx xs.length 0 lo),cm _ rfl⟩
theorem Vl:fH X (.builtin "len") (λxs H Q=>∃p ys,xs=[.ref p]/\(bS X.K H p ys\/bZ X.K H p ys)/\Q (.int ys.length) H):=by
 intro AM s σ H xs us Q I r h;obtain⟨p,ys,rfl,hq,q⟩:=h;obtain⟨u,rfl,rx⟩:=jR r;cases rx;have hn:=pP;rcases hq with hq |hq
 .obtain⟨its,r',pl,hz⟩:=I.list hq
  have hlen:=r'.length;exact Calls.call_len_list pl.isList (by simp only[am]<;>omega) ⟨.int ys.length,H,I.tok _,⟨s.toks+1,by rw[am,hlen]⟩,q⟩
 .obtain⟨its,r',pl,hz⟩:=I.tuple hq
  have hlen:=r'.length;exact len_tuple pl (by simp only[am]<;>omega) ⟨.int ys.length,H,I.tok _,⟨s.toks+1,by rw[am,hlen]⟩,q⟩
theorem Ul:fH X (.type "list") (λxs H Q=>∃p ys,xs=[.ref p]/\(bS X.K H p ys\/bZ X.K H p ys)/\∀l,H l=none->Q (.ref l) (aM H l (.lst ys))):=by
 intro AM s σ H xs us Q I r h;obtain⟨p,ys,rfl,hq,q⟩:=h;obtain⟨u,rfl,rx⟩:=jR r;cases rx;have fin:∀(its:AE),bA ys its->ys.length<=sizeLine->∀(h':Heap)(c':Nat),(∀b o',s.heap.get? b=some o'->h'.get? b=some o')->
   h'.get? s.heap.objs.size=some {cls:=.type "list",dict:=none,data:=.seq its.toArray c',slots:=#[]}->EP X AM σ Q (.ref s.heap.objs.size) {s with heap:=h'}:=λits r' hz h' c' kp e=>
  ⟨.ref s.heap.objs.size,_,I.laid (t':=s.toks) kp (ak _) (show dH X.prog X.w _ h' _ (.lst ys) from⟨hz,its,c',r',e⟩),rfl,q _ (I.hok.fresh (ak _))⟩
 rcases hq with hq |hq
 .obtain⟨its,r',pl,hz⟩:=I.list hq
  have hlen:=r'.length;obtain⟨o,ho,hc,n,hd⟩:=pl.isList;exact call_list_seq p (.inl rfl) ho hc hd (λh' c' kp e=>fin its r' hz h' c' kp e) (by simp only[am]<;>omega)
 .obtain⟨its,r',pl,hz⟩:=I.tuple hq
  have hlen:=r'.length;obtain⟨o,ho,hc,n,hd⟩:=pl;exact call_list_seq p (.inr rfl) ho hc hd (λh' c' kp e=>fin its r' hz h' c' kp e) (by simp only[am]<;>omega)
theorem Ql:fH X (.type "tuple") (λxs H Q=>∃p ys,xs=[.ref p]/\((bS X.K H p ys/\∀l,H l=none->Q (.ref l) (aM H l (.tup ys)))\/(bZ X.K H p ys/\Q (.ref p) H))):=by
 intro AM s σ H xs us Q I r h;obtain⟨p,ys,rfl,h⟩:=h;obtain⟨u,rfl,rx⟩:=jR r;cases rx;rcases h with⟨hq,q⟩|⟨hq,q⟩
 .obtain⟨its,r',pl,hz⟩:=I.list hq
  have hlen:=r'.length;refine call_tuple_list pl.isList (λh' kp=>?_) (by simp only[am]<;>omega);have I1:aD X AM σ H {s with heap:=h'}:=I.kept (t':=s.toks) kp;have I2:aD X AM σ (aM H h'.objs.size (.tup ys)) {s with heap:=h'.push {cls:=.type "tuple",data:=.seq its.toArray}}:=
   I1.laid (t':=s.toks) (λb o e=>al _ e) (ak _) (show dH X.prog X.w _ _ _ (.tup ys) from⟨⟨hz,_,cm _ rfl,rfl⟩,its,r',my _ _⟩)
  exact⟨.ref h'.objs.size,_,I2,rfl,q _ (I1.hok.fresh (ak _))⟩
 .obtain⟨its,r',pl,hz⟩:=I.tuple hq
  exact call_tuple_same pl ⟨.ref p,H,I,rfl,q⟩
def yW(K:ae)(T:String)(x:V)(H:Hp):Prop:=match x with
 |.str _=>T="str"
 |.int _=>T="int"
 |.ref p=>(T="list"/\∃xs,bS K H p xs)\/(T="tuple"/\∃o,K.lookup p=some o/\o.cls=.type "tuple"/\o.dict=none)\/
   (T="dict"/\((∃kvs,H p=some (.dK kvs))\/∃kvs,H p=some (.dT kvs)))\/(T="set"/\∃S n,H p=some (.set S n))
 |_=>False
theorem Ay{AM:List (Addr×Obj)}{σ:St}{H:Hp}{s:Shared}{T:String}{x:V}{v:Value}(I:aD X AM σ H s)(r:bO x v)(ty:yW X.K T x H):
  s.TypeIs v T/\∀a,v=.ref a->∃ob,s.heap.get? a=some ob/\ob.dict=none:=by
 cases x with
 |str z=>
  obtain⟨t,rfl⟩:=r;cases(show T="str" from ty);exact⟨typeIs_str s z t,λ_ e=>nomatch e⟩
 |int i=>
  obtain⟨t,rfl⟩:=r;cases(show T="int" from ty);exact⟨typeIs_int s i t,λ_ e=>nomatch e⟩
 |ref p=>
  cases r;rcases ty with⟨rfl,xs,hq⟩|⟨rfl,o,hk,hc,hd⟩|⟨rfl,hk⟩|⟨rfl,S,n,hk⟩
  .obtain⟨its,_,pl,_⟩:=I.list hq
   refine⟨pl.isList.typeIs,λa e=>?_⟩;cases e;obtain⟨o,n,e,c,hd,_⟩:=pl;exact⟨o,e,hd⟩
  .refine⟨⟨o,I.kIn p o hk,hc⟩,λa e=>?_⟩
   cases e;exact⟨o,I.kIn _ o hk,hd⟩
  .have z:∃o,s.heap.get? p=some o/\o.ExactDict:=by
    rcases hk with⟨kvs,hk⟩|⟨kvs,hk⟩
    .obtain⟨_,_,_,_,o,_,_,e,ex,_⟩:=I.hok p _ hk
     exact⟨o,e,ex⟩
    .obtain⟨_,_,_,_,o,_,_,e,ex,_⟩:=I.hok p _ hk
     exact⟨o,e,ex⟩
   obtain⟨o,e,ex⟩:=z;refine⟨⟨o,e,ex.1⟩,λa e2=>?_⟩;cases e2;exact⟨o,e,ex.2.1⟩
  .obtain⟨o,_,_,_,e,ex,_⟩:=I.hok p _ hk
   refine⟨⟨o,e,ex.1⟩,λa e2=>?_⟩;cases e2;exact⟨o,e,ex.2.1⟩
 |_=>exact de ty
def O4(K:ae)(T:String)(r:V->List V->Hp->VK->Prop)(to:TE)(t:TA):TE:=λσ H Q=>to σ H λx H1=>yW K T x H1/\t σ H1 λxs H2=>r x xs H2 Q
variable{o e:af}{es:List af}{to:TE}{t:TA}{name:Str}{apos cpos:ag}{T id:String}{r:V->List V->Hp->VK->Prop}
theorem Qi(pa:PlainAttrs T)(slot:Slot T name id)(hty:typeOf (.builtin id)=pure (.type "method_descriptor"))(hm:O2 X id r)(ho:PE X o to)(ha:PA X (e::es) t)
  (hbase:attributeBase o name X.env (eval o X.env)=eval o X.env:=by rfl)
  (hfew:((backTo cpos (starEach (e::es) X.env)).all (λx=>!x.1)&&(backToKw cpos (keywordEach [] X.env)).all (λx=>x.1.isSome)
   &&decide ((e::es).length+([]:List ji).length+(if([]:List ji).isEmpty then 0 else 1)<30))=true:=by rfl)
  (hline:(apos.endLine==cpos.line)=true:=by rfl)(hs:starEach (e::es) X.env=(false,eval e X.env)::starEach es X.env:=by rfl)(hplain:(backTo cpos (starEach es X.env)).any (·.1)=false:=by rfl):
  PE X (.Call (.Attribute o name apos) (e::es) [] cpos) (O4 X.K T r to t):=by
 intro AM s σ H Q I h;refine wpAny_Call_method_late hbase hfew hline rfl (bB (ho AM s σ H _ I h) λv s1 hq=>?_);rcases hq with⟨x,H1,I1,r1,ty,q1⟩;obtain⟨h1,h2⟩:=Ay I1 r1 ty;refine⟨T,id,pa,slot,hty,h1,h2,?_⟩;have hA:=ha cpos AM s1 σ H1 _ I1 q1;rw[hs]at hA⊢;refine Calls.callWith_builtin (by show(false||(backTo cpos (starEach es X.env)).any (·.1))=false;rw[hplain]<;>rfl) (xo ?_);exact bB hA λus s2 ⟨vs,H2,I2,r2,q2⟩=>hm AM s2 σ H2 x vs v us Q I2 r1 r2 q2
end
def Rk(X:Cx)(id:String)(r:V->List V->Hp->VK->Prop):Prop:=
 ∀(AM:List (Addr×Obj))(s:Shared)(σ:St)(H:Hp)(x:V)(xs:List V)(v:Value)(us:AE)(Q:VK),aD X AM σ H s->bO x v->bA xs us->r x xs H Q->
  wpAny (model X.prog X.w) X.A (call (.builtin id) (v::us)) (EP X AM σ Q) X.xe s
theorem bA.one:∀{x:V}{us:AE},bA [x] us->∃u,us=[u]/\bO x u:=by
 rintro _ _ (_ |⟨r,_ |_⟩)
 exact⟨_,rfl,r⟩
theorem bA.eraseIdx:∀{xs:List V}{us:AE}(i:Nat),bA xs us->bA (xs.eraseIdx i) (us.eraseIdx i)
 |_,_,_,.nil=>.nil
 |_,_,0,.cons _ t=>t
 |_,_,i+1,.cons r t=>.cons r (bA.eraseIdx i t)
theorem vC{α:Type}:∀(l:List α)(i:Nat),(l.eraseIdx i).length<=l.length
 |[],_=>ak _
 |_::_,0=>lw _
 |_::r,i+1=>Nat.succ_le_succ (vC r i)
section
variable{X:Cx}{AM:List (Addr×Obj)}{σ:St}{H:Hp}{s:Shared}{l b:Addr}{xs ys zs:List V}
theorem aD.lset{its its':AE}{n:Nat}{f:Array Value->Array Value}{t':Nat}(I:aD X AM σ H s)(hH:H l=some (.lst xs))
  (e:s.heap.get? l=some {cls:=.type "list",data:=.seq its.toArray n})(hf:f its.toArray=its'.toArray)(hv:bA ys its')(hz:ys.length<=sizeLine):
  aD X AM σ (aM H l (.lst ys)) {s with heap:=s.heap.update l (cr f),toks:=t'}:=by
 have q:=PySem.IsL.update e f;rw[hf]at q;refine I.write (x:=l) (e:=l) (by rw[hH];exact trivial) (.inl rfl) (λb' u hb hu=>(ud s.heap (cr f) (fw hb)).trans hu) ⟨_,q⟩ ?_;exact⟨hz,its',_,hv,q⟩
theorem aD.lnew{its:AE}{t':Nat}(I:aD X AM σ H s)(hv:bA ys its)(hz:ys.length<=sizeLine):
  aD X AM σ (aM H s.heap.objs.size (.lst ys)) {s with heap:=s.heap.push {cls:=.type "list",data:=.seq its.toArray},toks:=t'}:=
 I.laid (λ_ _ q=>al _ q) (ak _) ⟨hz,its,0,hv,cm _ rfl⟩
theorem aD.fresh(I:aD X AM σ H s):H s.heap.objs.size=none:=I.hok.fresh (ak _)
theorem aD.lstM(I:aD X AM σ H s)(hH:H l=some (.lst xs)):xs.length<=sizeLine/\∃(its:AE)(n:Nat),bA xs its/\xs.length=its.length/\s.heap.get? l=some {cls:=.type "list",data:=.seq its.toArray n}:=by
 obtain⟨z,its,n,r,e⟩:=I.hok l _ hH;exact⟨z,its,n,r,r.length,e⟩
end
section
variable{X:Cx}
def Wv:V->List V->Hp->VK->Prop:=λx vs H Q=>∃l xs y,x=.ref l/\vs=[y]/\H l=some (.lst xs)/\xs.length<sizeLine/\Q .non (aM H l (.lst (xs++[y])))
theorem vB:Rk X "list.append" Wv:=by
 intro AM s σ H x vs v us Q I rx rv h;obtain⟨l,xs,y,rfl,rfl,hH,hz,q⟩:=h;cases rx;obtain⟨u,rfl,ru⟩:=rv.one;obtain⟨z,its,n,r,hl,e⟩:=I.lstM hH;refine call_meets xp ⟨_,e,rfl⟩ F.entry_list_append (F.args_list_append_2 _ _) (PySem.list_append l its.toArray n u (by rw[am];omega)) ⟨e,?_⟩;refine⟨.non,_,I.lset (its':=its++[u]) hH e (by simp) (r.append (.cons ru .nil)) ?_,rfl,q⟩;rw[da,xq];omega
def Nw:V->List V->Hp->VK->Prop:=λx vs H Q=>∃l xs i k y,x=.ref l/\vs=[.int i]/\H l=some (.lst xs)/\-(2^63)<=i/\i<2^63/\seqIndex? i xs.length=some k/\xs[k]?=some y/\Q y (aM H l (.lst (xs.eraseIdx k)))
theorem Br:Rk X "list.pop" Nw:=by
 intro AM s σ H x vs v us Q I rx rv h;obtain⟨l,xs,i,k,y,rfl,rfl,hH,h1,h2,hk,hy,q⟩:=h;cases rx;obtain⟨u,rfl,ru⟩:=rv.one;obtain⟨t,rfl⟩:=ru;obtain⟨z,its,n,r,hl,e⟩:=I.lstM hH;obtain⟨w,hw,rw'⟩:=r.get hy;refine call_meets F.slot_list_pop ⟨_,e,rfl⟩ F.entry_list_pop (F.args_list_pop_2 _ _)
  (MeetsSeq.list_pop_at l its.toArray n i t k w (fitsIndex_both h1 h2) (by rw[am,<-hl];exact hk) (by rw[<-Array.getElem?_toList];exact hw) (by rw[am];omega)) ⟨e,?_⟩
 refine⟨y,_,I.lset (its':=its.eraseIdx k) hH e ?_ (r.eraseIdx k) ?_,rw',q⟩
 .show its.toArray.eraseIdxIfInBounds k=(its.eraseIdx k).toArray
  rw[List.eraseIdxIfInBounds_toArray]
 .have:=vC xs k
  omega
end
section
variable{prog:Program}{w:ah}{A:ai}{E:Value->Shared->Prop}{s:Shared}
end
section
variable{X:Cx}
end
end L2
namespace Att
open PySem PySem.W PySem.Calls PyProof.Rows
theorem Zk{P:iy}{h:Heap}:∀(ns:AA)(vs:AE),WellAll P h vs (ns.map WData.int)->fk vs ns:=by
 intro ns
 induction ns with
 |nil=>
  intro vs w;rw[iu]at w;cases w;exact .nil
 |cons n ns ih=>
  intro vs w;rw[cw]at w;cases w with
  |cons a b=>
   cases a;exact .cons _ _ (ih _ b)
theorem Yo{l:ki}{n:Nat}(hn:l.most=some n){P:iy}{h:Heap}{args:List WData}{vals:AE}
  (hpre:l.row.toRowW.claim.pre args=true)(hwl:WellAll P h vals args):
  ∃a vs ns,vals=[bc a]/\args=[WData.list (ns.map WData.int)]/\h.get? a=some {cls:=.type "list",data:=.seq vs.toArray}/\fk vs ns/\ns.length<=n:=by
 have oA:WShape.hasAll [] args [.list .int]=true:=(pre_splitW hpre).1;have hc:l.pre.holds [] {args:=args}=true:=(pre_splitW hpre).2;obtain⟨d,r,rfl,h1,h2⟩:=hasAllW_cons oA;obtain rfl:=hasAllW_nil h2;obtain⟨xs,rfl,h3⟩:=hasW_list h1;obtain⟨ns,rfl⟩:=items_int h3;have hlen:ns.length<=n:=by
  unfold OpenLaw.pre at hc;have h4:(WTm.not (.lt (.lit (.int (n:Int))) (.len (.arg 0)))).holds [] {args:=[.list (ns.map .int)]}=true:=by
   have h4:=(holds_andW hc).1;rw[hn]at h4;exact h4
  have h5:=condW_of h4 (w_not (w_lt w_lit (w_len_list (w_arg rfl))));rw[az]at h5;refine xt λq=>?_;have q':(n:Int)<((ns.length:Nat):Int):=by omega
  first
   |(rw[decide_eq_true q']at h5;exact absurd h5 (by decide))
   |(simp at h5;omega)
 cases hwl with
 |cons w1 w2=>
  cases w2;cases w1 with
  |list ho hall=>exact⟨_,_,ns,rfl,rfl,ho,Zk ns _ hall,hlen⟩
theorem Po(l:ki)(args:List WData):l.row.toRowW.claim.post args (.bool true) args=true:=
 postW_of (r:=l.row.toRowW) (X:=(true==true))
  (show WShape.has [] (.bool true) .bool=true by first |rfl |decide |simp[WShape.has,WShape.arms,WShape.armsAll])
  (show(WTm.eq .res (.lit (.bool true))).value [] {args:=args,res:=some (.bool true),after:=args}=some (.bool (true==true)) from w_eq_bool (w_res rfl) w_lit) rfl
theorem attach_call{l:ki}{n:Nat}{q:Program}{loose:List Str}{XP:(Str->AF)->Heap->Prop}{YP:ah->Heap->Prop}{d:DefRec}
  (hn:l.most=some n)(hdf:d.params.defaults=[])
  (call:∀(w:ah)(AN AQ:Shared)(mg mb:Str->AF)(fa:Addr)(o:Obj)(pm cd doc:Value)(a:Addr)(vs:AE)(ns:AA),
   Ground q loose [] XP w AN mg mb AQ.heap->YP w AQ.heap->
   AQ.heap.get? fa=some o->o.data=.func (docDef d.name d.params d.body d.scope pm cd doc)->AQ.heap.CodeRec cd d.name->mg d.name=some (.ref fa)->
   AQ.heap.get? a=some {cls:=.type "list",data:=.seq vs.toArray}->fk vs ns->ns.length<=n->AQ.gens=#[]->
   codeAny (model l.prog w) callerA (.call (.ref fa) ⟨[.ref a],[]⟩) (λr s'=>r=.ok (.ret (.bool true))/\OldK AQ.heap s'.heap/\s'.os=AQ.os/\fh s'.gens) AQ):
  WalkO q loose XP YP l.row.toRowW d [] (λf vs=>ue f vs):=by
 intro w AN AQ mg mb G Y fa o pm cd doc dV kV ho hd hcd hD hmg hg args vals as hpre hlay hrd hwl hlo;obtain rfl:dV=.none:=Dflts.none hD hdf;obtain rfl:kV=.none:=Dflts.noKw hD;obtain⟨a,vs,ns,rfl,rfl,hobj,hints,hlen⟩:=Yo hn hpre hwl;refine enter_call (jh (call w AN AQ mg mb fa o pm cd doc a vs ns G Y ho (fd_plain hd) hcd hmg hobj hints hlen hg) λr s' hq=>?_);obtain⟨rfl,h2,h3,h4⟩:=hq;exact⟨.inl ⟨.bool true,.bool true,[],rfl,λ_=>rfl,.bool true,Po l _,λ_=>⟨List.Pairwise.nil,λ_ hm=>(nomatch hm)⟩⟩,h2,h3,h4⟩
section
variable{prog:Program}{w:ah}{A:ai}{E:Value->Shared->Prop}{s:Shared}{K:Frag}
end
end Att
namespace L2
open PySem PySem.Spec PyProof.Rows
theorem Db:∀{vs:AE}{ns:AA},fk vs ns->bA (ns.map V.int) vs
 |_,_,.nil=>.nil
 |_,_,.cons n t h=>.cons ⟨t,rfl⟩ (Db h)
def yD(H:Hp):Prop:=∀b,H b=none\/∃o xs,H b=some (.frz o (.lst xs))
theorem Kq{P:Program}{w:ah}{K:ae}{mg mb:Str->AF}{CX:fU}{k:Nat}{fa a:Addr}{fd:ay}{x:Str}{sp:Sp}{AQ:Shared}{vs:AE}{ns:AA}
  (KX:K.In AQ.heap)(jJ:AQ.heap.Ns mainGlobals mg)(hb:AQ.heap.Ns builtinsNs mb)(hbb:∀x:Str,x≠"__name__"->mb x=bootBuiltins x)(hlim:AQ.heap.NoLimit)(hg:AQ.gens=#[])
  (ha:AQ.heap.get? a=some {cls:=.type "list",data:=.seq vs.toArray})(hi:fk vs ns)(hl:ns.length<=sizeLine)(hr:bW k callerA)
  (F:∀base:Heap,K.In base->base.Ns mainGlobals mg->cK P w K mg base CX k fa fd [x] sp)(xY:∀(s:Shared)(u:Value),kg s fd ⟨[u],[]⟩ [(x,u)])
  (hsp:∀H:Hp,yD H->bS K H a (ns.map V.int)->sp [.ref a] H (λv _=>v=.bl true) λ_ _ _=>False)
  (hCX:∀H e s',CX [] H AQ (λ_ _ _=>False) e s'->False):
  codeAny (model P w) callerA (.call (.ref fa) ⟨[.ref a],[]⟩) (λr s'=>r=.ok (.ret (.bool true))/\OldK AQ.heap s'.heap/\s'.os=AQ.os/\fh s'.gens) AQ:=by
 have rv:=Db hi;have lenV:=hi.length
 --from an abstract heap in which nothing but the script may be tracked
 have core:∀H:Hp,yD H->bS K H a (ns.map V.int)->dF P w H AQ.heap->(∀b,H b≠none->b=a)->(H a≠none->K.lookup a=none)->
   codeAny (model P w) callerA (.call (.ref fa) ⟨[.ref a],[]⟩) (λr s'=>r=.ok (.ret (.bool true))/\OldK AQ.heap s'.heap/\s'.os=AQ.os/\fh s'.gens) AQ:=by
  intro H hO hS hok hA hK;have base_of:∀{b:Addr}{o:Obj},AQ.heap.get? b=some o->H b=none->(jW AQ.heap H).get? b=some o:=λe n=>Ks e n;have noA:∀{b:Addr}{o:Obj}{es:Array DictEntry}{ep:Nat},AQ.heap.get? b=some o->o.data=.dict es ep->H b=none:=λ{b o es ep} e d=>by
   cases q:H b with
   |none=>rfl
   |some u=>
    have e':b=a:=hA b (by rw[q];simp);subst e';rw[ha]at e;cases e;have d':Data.seq vs.toArray _=Data.dict es ep:=d;cases d'
  have nsK:∀{b:Addr}{m:Str->AF},AQ.heap.Ns b m->(jW AQ.heap H).Ns b m:=λ{b m} ⟨o,es,ep,e,d,r⟩=>⟨o,es,ep,base_of e (noA e d),d,r⟩;have hKb:K.In (jW AQ.heap H):=λb o e=>base_of (KX b o e) (by
   cases q:H b with
   |none=>rfl
   |some u=>
    have e':b=a:=hA b (by rw[q];simp);subst e';rw[hK (by rw[q];simp)]at e;cases e)
  have hM:Mod K mg (jW AQ.heap H):=⟨hKb,nsK jJ,⟨mb,nsK hb,hbb⟩,let⟨mc,h1,h2⟩:=hlim;⟨mc,nsK h1,h2⟩⟩;have e0:lY P w K mg (jW AQ.heap H) callerA [] AQ H:=⟨rfl,hM,λb o e=>Xv e,oi (To _ _),trivial,λb hb=>absurd (show b∈([]:List Addr) from hb) (by simp),hok,.of_eq hg⟩;refine jh ((F _ hKb (nsK jJ)).run callerA [] AQ H ⟨[.ref a],[]⟩ [.ref a] [.ref a] _ _ hr e0 (xY AQ (.ref a)) (.cons rfl .nil) (hsp H hO hS)) λr s' h=>?_;cases r with
  |error e=>exact(hCX H e s' h).elim
  |ok fl=>
   cases fl with
   |next=>exact de h
   |brk=>exact de h
   |cont=>exact de h
   |ret u=>
    obtain⟨v,H',os,bare,un,hok',r',q⟩:=h;have q':v=.bl true:=q;subst q';obtain rfl:u=jw true:=r';refine⟨rfl,OldK.of_keep λb o e=>?_,os,bare⟩;cases q:H b with
    |none=>exact un.keep b o e q (by intro z;exact absurd (show b∈([]:List Addr) from z) (by simp)) (by simp)
    |some u=>
     rcases hO b with z |⟨ob,xs,z⟩
     .rw[q]at z;cases z
     .have z2:=un.frzs b ob _ z
      obtain⟨e1,_⟩:=hok b _ z;obtain⟨e2,_⟩:=hok' b _ z2;rw[e]at e1;cases e1;exact e2
 cases hk:K.lookup a with
 |some o=>
  --the script is one of the module's own objects
  have e:=KX a o hk;rw[ha]at e;cases e;refine core (λ_=>none) (λ_=>.inl rfl) (.inr ⟨_,vs.toArray,_,hk,rfl,rfl,rfl,by rw[am,lenV];exact hl,by simpa using rv⟩) (λb u z=>by have z':(none:Option HO)=some u:=z;cases z') (λb z=>absurd rfl z) λz=>absurd rfl z
 |none=>
  refine core (λb=>if b=a then some (.frz {cls:=.type "list",data:=.seq vs.toArray} (.lst (ns.map V.int)))else none) (λb=>?_) (.inl (.inr ⟨{cls:=.type "list",data:=.seq vs.toArray},if_pos rfl⟩)) (λb u z=>?_) (λb z=>?_) λ_=>hk
  .by_cases hb:b=a
   .exact .inr ⟨_,_,if_pos hb⟩
   .exact .inl (if_neg hb)
  .by_cases hb:b=a
   .have z':=(if_pos hb).symm.trans z
    cases z';subst hb;exact⟨ha,by rw[az];exact hl,vs,_,rv,ha⟩
   .have z':=(if_neg hb).symm.trans z
    cases z'
  .by_cases hb:b=a
   .exact hb
   .exact absurd (if_neg hb) z
theorem walk_of{l:ki}{n k:Nat}{q:Program}{loose:List Str}{XP:(Str->AF)->Heap->Prop}{YP:ah->Heap->Prop}{d:DefRec}{K:iy->ae}{CX:ah->fU}{sp:ah->Sp}{x:Str}
  (hn:l.most=some n)(hn2:n<=sizeLine)(hdf:d.params.defaults=[])(hr:bW k callerA)
  (hY:∀(w:ah)(h:Heap),YP w h->(K w.params).In h)
  (F:∀(w:ah)(mg:Str->AF)(fa:Addr)(h:Heap),(K w.params).In h->h.Ns mainGlobals mg->mg d.name=some (.ref fa)->
   ∃fd:ay,(∀(s:Shared)(u:Value),kg s fd ⟨[u],[]⟩ [(x,u)])/\
    ∀base:Heap,(K w.params).In base->base.Ns mainGlobals mg->cK l.prog w (K w.params) mg base (CX w) k fa fd [x] (sp w))
  (hsp:∀(w:ah)(H:Hp)(a:Addr)(ns:AA),ns.length<=n->yD H->bS (K w.params) H a (ns.map V.int)->sp w [.ref a] H (λv _=>v=.bl true) λ_ _ _=>False)
  (hCX:∀(w:ah)(H:Hp)(s:Shared)(e:Value)(s':Shared),CX w [] H s (λ_ _ _=>False) e s'->False):
  PySem.W.WalkO q loose XP YP l.row.toRowW d [] (λf vs=>ue f vs):=by
 refine Att.attach_call hn hdf λw AN AQ mg mb fa o pm cd doc a vs ns G Y ho hd hcd hmg hobj hints hlen hg=>?_;have KX:=hY w _ Y;obtain⟨fd,hb,hF⟩:=F w mg fa _ KX G.T.g hmg;exact Kq KX G.T.g G.T.b G.T.builtins G.T.nolimit hg hobj hints (di hlen hn2) hr hF hb (λH hO hS=>hsp w H a ns hlen hO hS) λH e s'=>hCX w H AQ e s'
abbrev eT:fU:=λ_ _ _ _ _ _=>False
abbrev E0:XK:=λ_ _ _=>False
theorem yC{X:Cx}:iH eT X E0:=λ_ _ _ _ _ _ _ h=>h.elim
structure fO(K:ae)(x qual:Str)(st:Stmt)(f:Addr)(fd:ay):Prop where
 ex:∃(oc:Value)(od:AG)(kV doc pm:Value)(an:AG)(cdv ct:Value)(osl:Array AF),
  fd=cc x qual (dG st) (cG st) (bK st) .none kV doc pm an cdv ct/\K.lookup f=some ⟨oc,od,.func fd,osl⟩/\eh K cdv qual=true
 kp:ce K (.ref f)=true
section
variable{P:Program}{w:ah}{K:ae}{mg:Str->AF}{base:Heap}
theorem fO.ok{x qual:Str}{st:Stmt}{f:Addr}{fd:ay}{N ps:List Str}{k:Nat}{sp:Sp}(F:fO K x qual st f fd)(S:fQ N ps (bK st))(len:∀vs H Q E,sp vs H Q E->vs.length=ps.length)
  (hbody:∀(cdv:Value)(A:ai)(outer:List Env)(s:Shared)(H:Hp)(vs:List V)(Q:VK)(E:XK),bW k (A.deeper (envOfC qual (bK st) s.heap.objs.size f cdv))->sp vs H Q E->
   ∃t,eA (aR eT P w K mg base N qual (bK st) f cdv A outer s H E).nox (cG st) t/\t {nx:=λ_ H'=>Q .non H',rt:=Q} (start N vs) H):cK P w K mg base eT (k+1) f fd ps sp:=by
 obtain⟨oc,od,kV,doc,pm,an,cdv,ct,osl,rfl,lk,hcd⟩:=F.ex;refine yB lk hcd S len λA outer s H vs Q E hr hsp=>?_;obtain⟨t,h,q⟩:=hbody cdv A outer s H vs Q E hr hsp;exact⟨t,h.nox,q⟩
theorem fO.binds{x qual:Str}{st:Stmt}{f:Addr}{fd:ay}{ps:List Str}(F:fO K x qual st f fd)
  (h:∀(kV doc pm:Value)(an:AG)(cdv ct:Value)(us:AE),us.length=ps.length->bindArgs (cc x qual (dG st) (cG st) (bK st) .none kV doc pm an cdv ct) ⟨us,[]⟩=pure (ps.zip us)):eM K fd ps []:=by
 obtain⟨oc,od,kV,doc,pm,an,cdv,ct,osl,rfl,lk,hcd⟩:=F.ex;exact .all (h kV doc pm an cdv ct)
theorem pO{x qual:Str}{st:Stmt}{f:Addr}{oc:Value}{od an:AG}{osl:Array AF}{kV doc pm cdv ct:Value}(l:K.lookup f=some ⟨oc,od,.func (cc x qual (dG st) (cG st) (bK st) .none kV doc pm an cdv ct),osl⟩)
  (c:eh K cdv qual=true)(k:ce K (.ref f)=true):fO K x qual st f (cc x qual (dG st) (cG st) (bK st) .none kV doc pm an cdv ct):=⟨⟨oc,od,kV,doc,pm,an,cdv,ct,osl,rfl,l,c⟩,k⟩
end
section
variable{X:Cx}
theorem pv(i:Nat){x:Str}{pos:ag}(hN:X.N[i]?=some x:=by rfl)(hv:tV X.env.scope x:=by first |exact fm rfl |exact gw (fm rfl) |exact gw (gw rfl))(hd:(x==("__debug__":Str))=false:=by decide)
  (hcd:(x==("__classdict__":Str))=false:=by decide):PE X (.Name x pos) (Zj i):=Th hN hv hd hcd
end
theorem Mj{A B:Prop}(h:A):if true=true then A else B:=by
 rw[if_pos rfl];exact h
def cE(H H':Hp):Prop:=∀b o,H b=some o->H' b=some o
theorem cE.refl(H:Hp):cE H H:=λ_ _ h=>h
theorem cE.trans{H H1 H2:Hp}(a:cE H H1)(b:cE H1 H2):cE H H2:=λc o h=>b c o (a c o h)
end L2
namespace Bn
def Bd(k:Nat)(i:Int):Prop:=i.natAbs<2^k
theorem Bd.mono{j k:Nat}{i:Int}(h:Bd j i)(l:j<=k):Bd k i:=bn h (kj (by decide) l)
theorem Bd.mul{j k:Nat}{a b:Int}(h:Bd j a)(g:Bd k b):Bd (j+k) (a*b):=by
 unfold Bd at *;rw[xu,Nat.pow_add];exact Nat.mul_lt_mul'' h g
theorem Bd.add{k:Nat}{a b:Int}(h:Bd k a)(g:Bd k b):Bd (k+1) (a+b):=by
 unfold Bd at *;rw[Nat.pow_succ];have:=Int.natAbs_add_le a b;omega
theorem Bd.neg{k:Nat}{a:Int}(h:Bd k a):Bd k (-a):=by
 unfold Bd at *;rw[Int.natAbs_neg];exact h
theorem Bd.sub{k:Nat}{a b:Int}(h:Bd k a)(g:Bd k b):Bd (k+1) (a-b):=by
 rw[Int.sub_eq_add_neg];exact h.add g.neg
theorem Bd.le{k:Nat}{a b:Int}(h:Bd k b)(l:a.natAbs<=b.natAbs):Bd k a:=oj l h
theorem Bd.of{k n:Nat}{a:Int}(l:a.natAbs<=n)(h:n<2^k):Bd k a:=oj l h
theorem Bd.log{k:Nat}{a:Int}(h:Bd k a)(hk:0<k):a.natAbs.log2<k:=by
 rcases xw a.natAbs with z |z
 .rw[z]
  exact oj (oi (by decide)) hk
 .exact(Nat.log2_lt (kd z)).mpr h
theorem Cb(a:Int){b:Int}(h:b≠0):(a.fmod b).natAbs<b.natAbs:=by
 rw[Int.fmod_eq_emod];have h1:=Int.emod_nonneg a h;have h2:a%b<(b.natAbs:Int):=Int.emod_lt a h
 by_cases c:0<=b\/b∣a
 .rw[if_pos c]
  omega
 .rw[if_neg c]
  have hb:b<0:=by omega
  have h3:a%b≠0:=λz=>c (.inr (Int.dvd_of_emod_eq_zero z));have h4:b.natAbs=(-b).toNat:=by omega
  omega
theorem Pd(a b:Int):aw b (a.fmod b)=aw a b:=by
 rw[Int.fmod_def,om,Int.gcd_sub_mul_right_right,Int.gcd_comm]
theorem wU(x:Int):(if x<0 then-x else x)=(x.natAbs:Int):=by
 split<;>omega
def gl:AA->Int->Int
 |[],g=>g
 |n::r,g=>gl r (aw g n:Nat)
def low(ns:AA):AA:=if gl ns 0=0 then ns else ns.map (· /gl ns 0)
theorem Yi:∀(ns:AA)(g:Int),0<=g->0<=gl ns g
 |[],_,h=>h
 |_::r,_,_=>Yi r _ (xx _)
theorem Bi(k:Int):∀(ns:AA)(g:Int),0<=g->gl (ns.map (k*·)) ((k.natAbs:Int)*g)=(k.natAbs:Int)*gl ns g
 |[],_,_=>rfl
 |n::r,g,h=>by
  show gl (r.map (k*·)) ((aw ((k.natAbs:Int)*g) (k*n):Nat):Int)=(k.natAbs:Int)*gl r _;have e:((aw ((k.natAbs:Int)*g) (k*n):Nat):Int)=(k.natAbs:Int)*((aw g n:Nat):Int):=by
   rcases Int.natAbs_eq k with q |q
   .rw[<-q,xy]
    have:(k.natAbs:Int)=k:=q.symm
    push_cast
    rw[this]
   .have e2:k*n=(k.natAbs:Int)*(-n):=by rw[oq,<-uf,<-q]
    rw[e2,xy,Int.gcd_neg]
    push_cast
    simp
  rw[e];exact Bi k r _ (xx _)
theorem vL(k:Int)(ns:AA):gl (ns.map (k*·)) 0=(k.natAbs:Int)*gl ns 0:=by
 have:=Bi k ns 0 (ug 0)
 rwa[uh]at this
theorem Bc{k:Int}(h:0<k)(ns:AA):gl ns 0≠0->low (ns.map (k*·))=low ns:=λz=>by
 have hk:(k.natAbs:Int)=k:=by omega
 have e:=vL k ns;rw[hk]at e;have nz:k*gl ns 0≠0:=kl (by omega) z;unfold low;rw[e,if_neg nz,if_neg z,km];refine ie λn _=>?_;show k*n/(k*gl ns 0)=n/gl ns 0;exact Int.mul_ediv_mul_of_pos _ _ h
theorem iZ:∀(ns:AA)(g:Int),gl ns g∣g/\∀n∈ns,gl ns g∣n
 |[],g=>⟨Int.dvd_refl g,λ_ h=>nomatch h⟩
 |m::r,g=>by
  obtain⟨h1,h2⟩:=iZ r ((aw g m:Nat):Int);refine⟨Int.dvd_trans h1 (ui ..),λn hn=>?_⟩;rcases bh.mp hn with q |q
  .subst q
   exact Int.dvd_trans h1 (uj ..)
  .exact h2 n q
theorem Kv{ns:AA}(h:gl ns 0=0):∀n∈ns,n=0:=λn hn=>by
 have:=(iZ ns 0).2 n hn;rw[h]at this;exact Int.zero_dvd.mp this
theorem sH{ns:AA}{n:Int}(hn:n∈ns)(h:n≠0):gl ns 0≠0:=λz=>h (Kv z n hn)
theorem pG{ns:AA}{n:Int}(hn:n∈ns)(h:n≠0):0<gl ns 0:=by
 have h1:=Yi ns 0 (ug 0);have h2:=sH hn h;omega
theorem pH{ns:AA}{n:Int}(hn:n∈ns)(h:n≠0):low ns=ns.map (· /gl ns 0):=by
 unfold low;rw[if_neg (sH hn h)]
theorem Bd.gcd{k:Nat}{a b:Int}(h:Bd k a)(g:Bd k b):Bd k (aw a b:Nat):=by
 unfold Bd at *;rw[ya];rcases xw a.natAbs with z |z
 .have:a=0:=by omega
  subst this;rw[ot];exact g
 .exact oj (Nat.gcd_le_left _ z) h
theorem sN{k:Nat}:∀{ns:AA}{g:Int},Bd k g->(∀n∈ns,Bd k n)->Bd k (gl ns g)
 |[],_,h,_=>h
 |n::r,g,h,hn=>by
  show Bd k (gl r _);exact sN (ns:=r) (h.gcd (hn n bi)) λm hm=>hn m (cj _ hm)
theorem Oh{k:Nat}{ns:AA}(h:∀n∈ns,Bd k n):∀n∈low ns,Bd k n:=λn hn=>by
 unfold low at hn
 by_cases c:gl ns 0=0
 .rw[if_pos c]at hn
  exact h n hn
 .rw[if_neg c]at hn
  obtain⟨m,hm,rfl⟩:=lx.mp hn;refine(h m hm).le ?_;have d:=(iZ ns 0).2 m hm;obtain⟨q,e⟩:=d;rw[e,jl _ c,xu];exact Nat.le_mul_of_pos_left _ (by omega)
def fr(t b:Int):AA:=if b<0 then low [0-t,0-b] else low [t,b]
theorem iO(a b:Int):b∈[a,b]:=cj _ bi
theorem Ni{t b:Int}(h:b≠0):∃p q:Int,fr t b=[p,q]/\0<q/\p*b=t*q:=by
 have go:∀{t b:Int},0<b->∃p q:Int,low [t,b]=[p,q]/\0<q/\p*b=t*q:=λ{t b} hb=>by
  have nz:b≠0:=by omega
  have gp:=pG (iO t b) nz;refine⟨t/gl [t,b] 0,b/gl [t,b] 0,pH (iO t b) nz,?_,?_⟩
  .obtain⟨m,e⟩:=(iZ [t,b] 0).2 b (iO t b)
   have:b/gl [t,b] 0=m:=by
    conv=>lhs;lhs;rw[e]
    exact jl _ (by omega)
   rw[this];have hm:0<m*gl [t,b] 0:=by rw[om,<-e];exact hb
   exact yb hm gp
  .obtain⟨m,e⟩:=(iZ [t,b] 0).2 b (iO t b)
   obtain⟨n,f⟩:=(iZ [t,b] 0).2 t bi;have e1:b/gl [t,b] 0=m:=by
    conv=>lhs;lhs;rw[e]
    exact jl _ (by omega)
   have e2:t/gl [t,b] 0=n:=by
    conv=>lhs;lhs;rw[f]
    exact jl _ (by omega)
   rw[e1,e2]
   conv=>lhs;rhs;rw[e]
   conv=>rhs;lhs;rw[f]
   rw[Int.mul_left_comm,Int.mul_assoc]
 unfold fr
 by_cases c:b<0
 .rw[if_pos c]
  obtain⟨p,q,e1,e2,e3⟩:=go (t:=0-t) (b:=0-b) (by omega);refine⟨p,q,e1,e2,?_⟩;rw[fe,fe,oq,uf]at e3;omega
 .rw[if_neg c]
  exact go (by omega)
def sg(n:Int):Int:=if 0<n then 1 else if n<0 then-1 else 0
theorem Qe{b:Int}(h:b≠0):(0<b/\sg b=1)\/(b<0/\sg b=-1):=by
 unfold sg
 by_cases c:0<b
 .exact .inl ⟨c,if_pos c⟩
 .have d:b<0:=by omega
  exact .inr ⟨d,by rw[if_neg c,if_pos d]⟩
theorem Ar(b:Int):-(2^64)<sg b/\sg b<2^64:=by
 unfold sg;split
 .decide
 .split<;>decide
theorem mZ(t b:Int):gl [t,b] 0=(aw t b:Nat):=by
 show((aw ((aw 0 t:Nat):Int) b:Nat):Int)=_;rw[ot];congr 1
theorem Ma{g n:Int}(h:g≠0):(g*n).fdiv g=n:=by
 rw[kn ⟨n,rfl⟩,jl _ h]
theorem zE{g n:Int}(h:g≠0):(g*n).fdiv (-1*g)=-n:=by
 have e:g*n=(-1*g)*(-n):=by
  rw[uf,ko,Int.neg_mul_neg]
 rw[e];exact Ma (by omega)
theorem Qn{t b:Int}(h:b≠0):[t.fdiv (sg b*(aw t b:Nat)),b.fdiv (sg b*(aw t b:Nat))]=fr t b:=by
 have gp:=pG (iO t b) h;rw[mZ]at gp;have gn:((aw t b:Nat):Int)≠0:=by omega
 obtain⟨n,en⟩:=ui (a:=t) (b:=b);obtain⟨m,em⟩:=uj (a:=t) (b:=b);have ht:t=((aw t b:Nat):Int)*n:=en;have hb:b=((aw t b:Nat):Int)*m:=em;generalize hg:((aw t b:Nat):Int)=g at *;rcases Qe h with⟨c,s⟩|⟨c,s⟩
 .rw[s,ko]
  have e1:fr t b=[t/g,b/g]:=by
   unfold fr;rw[if_neg (by omega),pH (iO t b) h,mZ,hg];rfl
  have e2:t.fdiv g=t/g:=kn ⟨n,ht⟩;have e3:b.fdiv g=b/g:=kn ⟨m,hb⟩;rw[e1,e2,e3]
 .rw[s]
  have e1:fr t b=[(0-t)/g,(0-b)/g]:=by
   unfold fr;rw[if_pos c,pH (iO (0-t) (0-b)) (by omega),mZ,fe,fe,Int.neg_gcd,Int.gcd_neg,hg];rfl
  have e2:t.fdiv (-1*g)=-n:=by
   conv=>lhs;lhs;rw[ht]
   exact zE gn
  have e3:b.fdiv (-1*g)=-m:=by
   conv=>lhs;lhs;rw[hb]
   exact zE gn
  have e4:(0-t)/g=-n:=by
   rw[ht,fe,<-oq,jl _ gn]
  have e5:(0-b)/g=-m:=by
   rw[hb,fe,<-oq,jl _ gn]
  rw[e1,e2,e3,e4,e5]
theorem Gf(n:Int):∀(l:AA)(g:Int),gl (l++[n]) g=(aw (gl l g) n:Nat)
 |[],g=>rfl
 |m::r,g=>Gf n r _
theorem Li{k:Nat}{t b p q:Int}(ht:Bd k t)(hb:Bd k b)(e:fr t b=[p,q]):Bd k p/\Bd k q:=by
 have go:∀{x y:Int},Bd k x->Bd k y->low [x,y]=[p,q]->Bd k p/\Bd k q:=λ{x y} hx hy e=>by
  have h:=Oh (k:=k) (ns:=[x,y]) λn hn=>by
   rcases bh.mp hn with z |z
   .rw[z];exact hx
   .have z':n=y:=by simpa using z
    rw[z'];exact hy
  rw[e]at h;exact⟨h p bi,h q (iO _ _)⟩
 unfold fr at e;split at e
 .exact go (by rw[fe];exact ht.neg) (by rw[fe];exact hb.neg) e
 .exact go ht hb e
theorem Mn{t b p q:Int}(h:b≠0)(e:fr t b=[p,q]):aw p q=1:=by
 have go:∀{x y:Int},y≠0->low [x,y]=[p,q]->aw p q=1:=λ{x y} hy e=>by
  rw[pH (iO x y) hy,mZ]at e;have gp:=pG (iO x y) hy;rw[mZ]at gp;have e1:x/((aw x y:Nat):Int)=p:=by injection e
  have e2:y/((aw x y:Nat):Int)=q:=by
   injection e with _ e;injection e
  rw[<-e1,<-e2,Int.gcd_ediv (ui ..) (uj ..),ya];exact Nat.div_self (by omega)
 unfold fr at e;split at e
 .exact go (by omega) e
 .exact go h e
theorem Fq{k m:Int}(hk:0<k)(hm:0<m){A B:AA}(hA:gl A 0≠0)(e:A.map (k*·)=B.map (m*·)):low A=low B:=by
 have hB:gl B 0≠0:=λz=>by
  have h:=vL k A;rw[e,vL m B,z,uh]at h;have:(k.natAbs:Int)*gl A 0≠0:=kl (by omega) hA;exact this h.symm
 rw[<-Bc hk A hA,e,Bc hm B hB]
theorem Ci(b:Int):∀(ns:AA)(g:Int),gl ns (aw g b:Nat)=(aw (gl ns g) b:Nat)
 |[],_=>rfl
 |n::r,g=>by
  show gl r ((aw ((aw g b:Nat):Int) n:Nat):Int)=((aw (gl r _) b:Nat):Int);rw[<-Ci b r,Int.gcd_assoc,Int.gcd_comm b n,<-Int.gcd_assoc]
theorem wR{ns:AA}{b:Int}(hb:0<b):gl (ns++[b]) 0=gl ns b:=by
 rw[Gf,<-Ci,ot];congr 1;omega
theorem lK(ns:AA)(b:Int):b∈ns++[b]:=cy _ bi
theorem Vx{ns:AA}{b:Int}(hb:0<b):low (ns++[b])=(ns.map λn=>n.fdiv (gl ns b))++[b.fdiv (gl ns b)]/\0<gl ns b:=by
 have gp:=pG (lK ns b) (by omega);rw[wR hb]at gp;refine⟨?_,gp⟩;rw[pH (lK ns b) (by omega),wR hb,ou];have e:∀n:Int,n/gl ns b=n.fdiv (gl ns b):=λn=>(yc n (Int.le_of_lt gp)).symm;simp only[e,cw,iu]
theorem Eh(ns:AA){b:Int}(hb:0<b):∃(zs:AA)(z g:Int),low (ns++[b])=zs++[z]/\0<g/\0<z/\ns=zs.map (g*·)/\b=g*z/\zs.length=ns.length:=by
 obtain⟨e,gp⟩:=Vx (ns:=ns) hb;have dv:=iZ (ns++[b]) 0;rw[wR hb]at dv;have ex:∀n∈ns++[b],gl ns b*n.fdiv (gl ns b)=n:=λn hn=>by
  obtain⟨q,e⟩:=dv.2 n hn
  conv=>lhs;rhs;rw[e]
  rw[Ma (by omega)];exact e.symm
 refine⟨_,_,gl ns b,e,gp,?_,?_,(ex b (lK ns b)).symm,az _⟩
 .have h:=ex b (lK ns b)
  have:0<b.fdiv (gl ns b)*gl ns b:=by rw[om,h];exact hb
  exact yb this gp
 .rw[km]
  conv=>lhs;rw[<-uk ns]
  refine ie λn hn=>?_;exact(ex n (jc _ hn)).symm
theorem Us(ns:AA){b:Int}(hb:0<b):low (low (ns++[b]))=low (ns++[b]):=by
 obtain⟨zs,z,g,e,hg,hz,e1,e2,_⟩:=Eh ns hb;rw[e];refine Fq (k:=g) (m:=1) hg (by decide) (sH (lK zs z) (by omega)) ?_ |>.trans e;rw[ou,<-e1];show ns++[g*z]=(ns++[b]).map (1*·);rw[<-e2]
 conv=>lhs;rw[<-uk (ns++[b])]
 refine ie λn _=>?_;exact(ko n).symm
def sm(xs:AA)(w:Int)(ys:AA)(v:Int):AA:=cu (λx y=>x*v+y*w) xs ys
end Bn
namespace L2
open PySem PySem.Spec PyProof.Rows Bn
section
variable{X:Cx}
theorem Cf{k:Nat}{i:Int}(h:Bd k i):yd i<=k:=by
 unfold yd;split
 .exact dh _
 .rename_i c
  have z:i.natAbs≠0:=by
   intro q;have:i=0:=by omega
   subst this;exact c rfl
  have:=(Nat.log2_lt z).mpr h;omega
def lS(_ j:Int):Prop:=j≠0/\Bd 8000 j
theorem Np:dE X (binaryOp .FloorDiv) (rI lS λi j=>.int (i.fdiv j)):=
 tL λ_ _ _ _ _ _ _ hc q=>floordiv_int hc.1 q (.inl (PyProof.noPylong_of_log2 (Nat.lt_trans (hc.2.log (by decide)) (by decide))))
theorem PS.imp{st:Stmt}{t t':TS}(h:PS X st t)(i:∀D σ H,t' D σ H->t D σ H):PS X st t':=λAM s σ H D I q=>h AM s σ H D I (i D σ H q)
theorem eA.imp{st:List Stmt}{t t':TS}(h:eA X st t)(i:∀D σ H,t' D σ H->t D σ H):eA X st t':=λAM s σ H D I q=>h AM s σ H D I (i D σ H q)
theorem PE.imp{e:af}{t t':TE}(h:PE X e t)(i:∀σ H Q,t' σ H Q->t σ H Q):PE X e t':=λAM s σ H Q I q=>h AM s σ H Q I (i σ H Q q)
theorem PT.imp{e:af}{t t':TT}(h:PT X e t)(i:∀σ H Q,t' σ H Q->t σ H Q):PT X e t':=λAM s σ H Q I q=>h AM s σ H Q I (i σ H Q q)
theorem aD.turnedNew{AM:List (Addr×Obj)}{σ:St}{H:Hp}{s:Shared}{h':Heap}{t':Nat}{ch:List Addr}{a:Addr}{o:HO}(I:aD X AM σ H s)(hf:∀b∈ch,eF X AM H b)
  (k:∀b u,b∉ch->s.heap.get? b=some u->h'.get? b=some u)(hp:s.heap.objs.size<=a)(new:dH X.prog X.w (aM H a o) h' a o):
  aD X AM σ (aM H a o) {s with heap:=h',toks:=t'}:=by
 have hn:H a=none:=I.hok.fresh hp;have nch:∀b u,H b=some u->b∉ch:=λb u e z=>by
  rw[(hf b z).1]at e;cases e
 have nea:∀b u,H b=some u->b≠a:=λb u e=>dW e hn;refine I.step (g':=s.gens) (d':=s.drawn) (ch:=ch) (λb hb=>?_) (λb u _ _ hc e _=>k b u hc e) (λb u _ _ hc e _=>⟨u.slots,k b u hc e⟩) (λb u _ e n=>?_)
  (λb u hc e=>⟨u,k b u hc e⟩) (λb xs e=>?_) (λb u v e=>?_) (λb ps e=>⟨#[],?_⟩) (λm hm=>?_) (λb u e=>?_) I.bare
 .obtain⟨_,f1,_,f3,f4,f5⟩:=hf b hb
  exact⟨f3,f1,f4,f5⟩
 .rw[bP (cf (bn (ao e) hp))]
  exact n
 .rw[bP (nea b _ e)]
  exact e
 .rw[bP (nea b _ e)]
  exact e
 .rw[bP (nea b _ e),e]
  simp
 .obtain⟨ob,es,ep,ho,r⟩:=hm
  exact⟨ob,es,ep,k _ ob (λz=>(hf _ z).2.1 rfl) ho,r⟩
 .by_cases hb:b=a
  .subst hb
   rw[dX]at e;cases e;exact new
  .rw[bP hb]at e
   refine(I.hok b u e).stay (λc v hc q=>k c v ?_ q) (λc q=>?_) λc xs q=>?_
   .rcases hc with z |z
    .rw[z]
     exact nch b u e
    .exact nch c _ z
   .rw[bP (nea c _ q)]
    exact q
   .rw[bP (nea c _ q)]
    exact q
theorem aD.turnedL{AM:List (Addr×Obj)}{σ:St}{H:Hp}{s:Shared}{h':Heap}{t':Nat}{ch:List Addr}(I:aD X AM σ H s)(hf:∀b∈ch,eF X AM H b)
  (k:∀b u,b∉ch->s.heap.get? b=some u->h'.get? b=some u):aD X AM σ H {s with heap:=h',toks:=t'}:=by
 have nch:∀b u,H b=some u->b∉ch:=λb u e z=>by
  rw[(hf b z).1]at e;cases e
 refine I.step (g':=s.gens) (d':=s.drawn) (ch:=ch) (λb hb=>?_) (λb u _ _ hc e _=>k b u hc e) (λb u _ _ hc e _=>⟨u.slots,k b u hc e⟩) (λb u _ e n=>n)
  (λb u hc e=>⟨u,k b u hc e⟩) (λb xs e=>e) (λb u v e=>e) (λb ps e=>⟨#[],?_⟩) (λm hm=>?_) (λb u e=>?_) I.bare
 .obtain⟨_,f1,_,f3,f4,f5⟩:=hf b hb
  exact⟨f3,f1,f4,f5⟩
 .rw[e]
  simp
 .obtain⟨ob,es,ep,ho,r⟩:=hm
  exact⟨ob,es,ep,k _ ob (λz=>(hf _ z).2.1 rfl) ho,r⟩
 .refine(I.hok b u e).stay (λc v hc q=>k c v ?_ q) (λc q=>q) λc xs q=>q
  rcases hc with z |z
  .rw[z]
   exact nch b u e
  .exact nch c _ z
end
def yZ (K : ae) (a : Addr) : It :=
  ⟨λi H => ∃ xs x, bS K H a xs ∧ xs[i]? = some x,
   λi H x H' => ∃ p y, H p = none ∧ x = .ref p ∧ H' = aM H p (.tup [.int i, y]) ∧ ∀ xs, bS K H a xs → xs[i]? = some y,
   λi H => ∃ xs, bS K H a xs ∧ xs.length ≤ i⟩
theorem Wo{P:Program}{w:ah}{K:ae}{elts:List af}{x1:Nat}{tp:ag}(a e it:Addr)(hne:e≠it):
  nP P w K (.Tuple elts x1 tp) (yZ K a) [e,it] e (λi h=>(∃old,IsEnum h e it (i:Int) old)/\h.IsListIter it a i) where
 mem:=by simp
 obj:=λi h st b hb=>by
  obtain⟨⟨old,q⟩,o,e1,c,d⟩:=st;rcases bh.mp hb with z |z
  .subst z
   exact⟨_,q,λv z=>nomatch z⟩
  .have z':b=it:=by simpa using z
   subst z';exact⟨o,e1,λv z=>by rw[d]at z;cases z⟩
 keep:=λi h h' st k=>⟨let⟨old,q⟩:=st.1;⟨old,k e (by simp) _ q⟩,st.2.at λo q=>k it (by simp) o q⟩
 item:=by
  intro X hP hw hK hc i AM s σ H E I hf st hg;subst hP hw hK;obtain⟨xs,x,hq,hx⟩:=hg;obtain⟨its,rv,pl,hz⟩:=I.list hq;obtain⟨u,hu,ru⟩:=rv.get hx;obtain⟨⟨old,he⟩,hit⟩:=st;refine wpAny_pyNext_enum_item he hit pl.isList (x:=u) (by simpa using hu) hne λh1 aF hit1 ht1 hs1 hk1=>⟨_,rfl,?_⟩;have lt1:e<s.heap.objs.size:=ao he;refine wpAny_letOwnedTupleGo_enum (s:={s with heap:=h1,toks:=s.toks+1}) aF λh2 he2 sb2=>?_;have ht2:h2.get? s.heap.objs.size=some {cls:=.type "tuple",data:=.seq #[.int i s.toks,u]}:=(sb2.2 _ (kd lt1)).trans ht1;have I2:aD X AM σ (aM H s.heap.objs.size (.tup [.int i,x])) {s with heap:=h2,toks:=s.toks+1}:=
   I.turnedNew hf (λb o hb q=>(sb2.2 b (λz=>hb (by simp[z]))).trans (hk1 b o (λz=>hb (by simp[z])) (λz=>hb (by simp[z])) q)) (ak _)
    ⟨⟨by show 2<=sizeLine;decide,_,ht2,rfl⟩,[.int i s.toks,u],.cons ⟨_,rfl⟩ (.cons ru .nil),⟨_,ht2,rfl,_,rfl⟩⟩
  refine⟨.ref s.heap.objs.size,_,I2,rfl,⟨_,x,I.hok.fresh (ak _),rfl,rfl,λys hy=>by rw[I.list_inj hy hq];exact hx⟩,⟨⟨_,by simpa using he2⟩,hit1.at λo q=>(sb2.2 it hne.symm).trans q⟩,λb hb=>?_⟩;have hb':=(hf b hb).1;have lt:b≠s.heap.objs.size:=by
   rcases bh.mp hb with z |z
   .subst z
    exact cf lt1
   .have z':b=it:=by simpa using z
    subst z';obtain⟨o,q,_⟩:=hit;exact cf (ao q)
  rw[bP lt];exact hb'
 done:=by
  intro X hP hw hK hc i AM s σ H E I hf st hg;subst hP hw hK;obtain⟨xs,hq,hx⟩:=hg;obtain⟨its,rv,pl,hz⟩:=I.list hq;obtain⟨⟨old,he⟩,hit⟩:=st;have hl:=rv.length;exact wpAny_pyNext_enum_end (I.ok.hd hc) he hit pl.isList (by simp;omega) λh' eb=>⟨rfl,I.turnedL (t':=s.toks) hf λb o hb q=>eb b o (λz=>hb (by simp[z])) q⟩
 self:=λ_ _ _ _ _ st h=>let⟨_,q⟩:=st.1;wpAny_pyIter_enum q h
section
variable{X:Cx}{elts:List af}{x1:Nat}{tp:ag}
def D8(K:ae)(tl:TA):TI:=λσ H R=>tl σ H λvs H1=>∃a,vs=[.ref a]/\(∃xs,bS K H1 a xs)/\R (yZ K a) H1
theorem Ew{l:af}{tl:TA}{p pos:ag}(hg:Gl X "enumerate")(hm:X.mg "enumerate"=none)(hl:PA X [l] tl)(hs:starEach [l] X.env=[(false,eval l X.env)]:=by rfl):
  PI X (.Tuple elts x1 tp) (.Call (.Name "enumerate" p) [l] [] pos) (D8 X.K tl):=by
 intro AM s σ H R I h;refine Call_ (nC I hg hm boot_enumerate (nh (bB (hl pos AM s σ H _ I h) λus s1 hq=>?_) hs rfl));rcases hq with⟨vs,H1,I1,r1,q1⟩;obtain⟨a,rfl,⟨xs,hq⟩,q⟩:=q1;obtain⟨u,rfl,ru⟩:=jR r1;cases ru;obtain⟨its,rv,pl,hz⟩:=I1.list hq;refine call_enumerate_list pl.isList λh' he hit hsz k=>?_;have I2:aD X AM σ H1 {s1 with heap:=h'}:=I1.kept (t':=s1.toks) k;refine wpAny_pyIter_enum (s:={s1 with heap:=h'}) he ?_;refine⟨s1.heap.objs.size+1,[s1.heap.objs.size+1,s1.heap.objs.size],_,_,H1,rfl,I2,Wo a _ _ (Nat.succ_ne_self _),⟨⟨_,he⟩,hit⟩,λb hb=>?_,q⟩;have hb':s1.heap.objs.size<=b:=by
  rcases bh.mp hb with z |z
  .rw[z]
   exact lw _
  .have z':b=s1.heap.objs.size:=by simpa using z
   rw[z'];exact ak _
 exact I1.fpOk hb' (I1.hok.fresh hb')
end
def gX(env:Env):List (Str×gv)->List (Str×Addr)->List (Str×Addr)
 |[],acc=>acc
 |p::r,acc=>if(p.2== .free)=true then gX env r ((p.1,(env.cells.lookup p.1).getD 0)::acc)else gX env r acc
theorem Mf{sc:Scope}{env:Env}(h:∀p∈sc.names,p.2=.free->∃c,env.cells.lookup p.1=some c):closureFor sc env=pure (gX env sc.names []):=by
 unfold closureFor;have go:∀(l:List (Str×gv))(acc:List (Str×Addr)),(∀p∈l,p.2=.free->∃c,env.cells.lookup p.1=some c)->
   (forIn l acc (λx r=>if(x.2==gm)=true then do let a <-cellOf env x.1;pure (ul ((x.1,a)::r))else pure (ul r)):Sem _)=pure (gX env l acc):=by
  intro l
  induction l with
  |nil=>intro acc _;rfl
  |cons p r ih=>
   intro acc hp;rw[ow];have hr:=λacc'=>ih acc' λq hq=>hp q (cj _ hq)
   by_cases c:(p.2==gm)=true
   .obtain⟨a,ea⟩:=hp p bi (by simpa using c)
    have e1:cellOf env p.1=pure a:=by unfold cellOf;rw[ea]
    rw[if_pos c,e1];simp only[pure_bind];rw[hr];show _=pure (if(p.2== .free)=true then _ else _);rw[if_pos c,ea];rfl
   .rw[if_neg c]
    simp only[pure_bind];rw[hr];show _=pure (if(p.2== .free)=true then _ else _);rw[if_neg c]
 have e:=go sc.names [] h;show(forIn sc.names [] _ >>= λr=>pure r)=_;rw[bind_pure];exact e
theorem uO{env:Env}:∀(l:List (Str×gv))(acc:List (Str×Addr)),(∀p∈l,p.2=.free->∃c,env.cells.lookup p.1=some c)->
  ∀y c,(gX env l acc).lookup y=some c->acc.lookup y=some c\/env.cells.lookup y=some c
 |[],acc,_,y,c,e=>.inl e
 |p::r,acc,h,y,c,e=>by
  have hr:∀q∈r,q.2=.free->∃c,env.cells.lookup q.1=some c:=λq hq=>h q (cj _ hq);unfold gX at e
  by_cases k:(p.2==gm)=true
  .rw[if_pos k]at e
   obtain⟨a,ea⟩:=h p bi (by simpa using k);rcases uO r _ hr y c e with z |z
   .rw[ft]at z
    cases w:y==p.1 with
    |true=>
     rw[w,ea]at z;have hy:y=p.1:=by simpa using w
     rw[hy,ea];exact .inr z
    |false=>
     rw[w]at z;exact .inl z
   .exact .inr z
  .rw[if_neg k]at e
   exact uO r acc hr y c e
theorem rA{env:Env}:∀(l:List (Str×gv))(acc:List (Str×Addr))(y:Str),((∃c,acc.lookup y=some c)\/(y,gm)∈l)->∃c,(gX env l acc).lookup y=some c
 |[],acc,y,h=>by
  rcases h with h |h
  .exact h
  .cases h
 |p::r,acc,y,h=>by
  unfold gX
  by_cases k:(p.2==gm)=true
  .rw[if_pos k]
   refine rA r _ y ?_;cases w:y==p.1 with
   |true=>exact .inl ⟨_,by rw[ft,w]⟩
   |false=>
    rcases h with⟨c,h⟩|h
    .exact .inl ⟨c,by rw[ft,w];exact h⟩
    .rcases bh.mp h with z |z
     .rw[<-z]at w
      simp at w
     .exact .inr z
  .rw[if_neg k]
   refine rA r _ y ?_;rcases h with h |h
   .exact .inl h
   .rcases bh.mp h with z |z
    .rw[<-z]at k
     simp at k
    .exact .inr z
theorem zM{env:Env}:∀{names:List (Str×gv)}{x:Str},(∀y∈names,y.2≠.cell)->
  (let l:=(names.map λ(n,k)=>if(k==gm&&env.scope.kind== .function&&env.kindOf n==some .cell)then(n,ye)else(n,k)).lookup x;l=some .cell\/l=some .free)->(x,gm)∈names
 |[],x,_,h=>by
  rcases h with h |h<;>cases h
 |(n,k)::r,x,hc,h=>by
  dsimp only at h;rw[cw]at h;have ih:=@zM env r x λy hy=>hc y (cj _ hy);have nk:k≠.cell:=hc (n,k) bi
  by_cases c:(k==gm&&env.scope.kind== .function&&env.kindOf n==some .cell)=true
  .have kf:k=.free:=by
    simp only[dm,beq_iff_eq]at c;exact c.1.1
   dsimp only at h;rw[if_pos c,ft]at h;cases w:x==n with
   |true=>
    have hx:x=n:=by simpa using w
    rw[hx,<-kf];exact bi
   |false=>
    rw[w]at h;exact cj _ (ih h)
  .dsimp only at h
   rw[if_neg c,ft]at h;cases w:x==n with
   |true=>
    rw[w]at h;have hx:x=n:=by simpa using w
    have kf:k=.free:=by
     rcases h with h |h
     .exact absurd (bj h) nk
     .exact bj h
    rw[hx,<-kf];exact bi
   |false=>
    rw[w]at h;exact cj _ (ih h)
def cU(X:Cx)(sc:Scope)(N:List Str)(C:Addr)(AN:Shared)(AO:Hp)(ex:List Addr):Cx where
 prog:=X.prog
 w:=X.w
 K:=X.K
 mg:=X.mg
 base:=X.base
 A:=X.A
 N:=N
 AN:=AN
 AO:=AO
 env:=compEnvC sc (gX X.env sc.names []) C X.env
 outer:=X.stack
 stack:=X.stack
 ex:=ex
 fn:=λ_=>false
 calm:=X.calm
 pn:=[]
 xe:=λ_ _=>False
def iM(own:List Str)(cap:List (Nat×Str))(σ:St):St:=own.map (λ_=>none)++cap.map λp=>(σ[p.1]?).join
def cV(own:List Str)(cap:List (Nat×Str)):List Str:=own++cap.map (·.2)
def nT(J:It)(g:TG)(te:TE)(AR:St)(H1:Hp)(D:Addr)(Q:VK):Prop:=
 ∃W:Nat->Nat->St->Hp->List V->Prop,(∃m,W 0 m AR (aM H1 D (.lst [])) [])/\∀i m σ H ys,W i m σ H ys->H D=some (.lst ys)/\
  ((J.stop i H/\Q (.ref D) H)\/(J.go i H/\ys.length<sizeLine/\∀x H2,J.yld i H x H2->g x σ H2 λσ3 H3=>te σ3 H3 λy H4=>H4 D=some (.lst ys)/\∃m',m'<m/\W (i+1) m' σ3 (aM H4 D (.lst (ys++[y]))) (ys++[y])))
def pU(own:List Str)(cap:List (Nat×Str))(wi:TI)(g:TG)(te:TE):TE:=λσ H Q=>wi σ H λJ H1=>∀D,H1 D=none->nT J g te (iM own cap σ) H1 D Q
def Nx(n:Nat)(Pv:Nat->St->Hp->List V->Prop)(D:Addr)(i:Nat)(ys:List V)(σ:St)(y:V)(H:Hp):Prop:=
 H D=some (.lst ys)/\∃m,m<n-i/\(m=n-(i+1)/\i+1<=n/\Pv (i+1) σ (aM H D (.lst (ys++[y]))) (ys++[y]))
theorem Ki{n:Nat}{Pv:Nat->St->Hp->List V->Prop}{D:Addr}{i:Nat}{ys:List V}{σ:St}{y:V}{H:Hp}(h:i<n)(hD:H D=some (.lst ys))(p:Pv (i+1) σ (aM H D (.lst (ys++[y]))) (ys++[y])):Nx n Pv D i ys σ y H:=
 ⟨hD,n-(i+1),by omega,rfl,h,p⟩
theorem Bf{J:It}{g:TG}{te:TE}{AR:St}{H1:Hp}{D:Addr}{Q:VK}(n:Nat)(hn:n<=sizeLine)(Pv:Nat->St->Hp->List V->Prop)(h0:Pv 0 AR (aM H1 D (.lst [])) [])
  (hl:∀i σ H ys,Pv i σ H ys->ys.length=i/\H D=some (.lst ys))(hgo:∀i σ H ys,i<n->Pv i σ H ys->J.go i H)
  (hs:∀i σ H ys x H2,i<n->Pv i σ H ys->J.yld i H x H2->g x σ H2 λσ3 H3=>te σ3 H3 λy H4=>Nx n Pv D i ys σ3 y H4)
  (hd:∀σ H ys,Pv n σ H ys->J.stop n H/\Q (.ref D) H):nT J g te AR H1 D Q:=by
 refine⟨λi m σ H ys=>m=n-i/\i<=n/\Pv i σ H ys,⟨n,rfl,dh _,h0⟩,?_⟩
 rintro i m σ H ys ⟨rfl,hi,p⟩
 obtain⟨l1,l2⟩:=hl i σ H ys p;refine⟨l2,?_⟩
 by_cases hlt:i<n
 .exact .inr ⟨hgo i σ H ys hlt p,by omega,λx H2 y=>hs i σ H ys x H2 hlt p y⟩
 .have e:i=n:=by omega
  subst e;exact .inl (hd σ H ys p)
section
variable{prog:Program}{w:ah}{A:ai}{R:jg->Shared->Prop}{s:Shared}
theorem Ip{elt target iter:af}{sc:Scope}{pos:ag}{it acc:Value}{env:Env}(I:Nat->Shared->Prop)
  (turn:∀n s,I n s->wpAny (model prog w) A (pyNext it) (λr s1=>match r with
   |none=>R (.ok .next) s1
   |some v=>wpAny (model prog w) A (letOwnedTupleGo target it v) (λ_ s2=>wpAny (model prog w) A (assign target env v) (λ_ s3=>wpAny (model prog w) A (eval elt env)
     (λx s4=>wpAny (model prog w) A (call (.builtin "list.append") [acc,x]) (λ_ s5=>∃m,m<n/\I m s5) (λ_ _=>False) s4) (λ_ _=>False) s3) (λ_ _=>False) s2) (λ_ _=>False) s1) (λ_ _=>False) s)
  (n:Nat)(h:I n s):codeAny (model prog w) A (.compLoop (.ListComp elt [⟨target,iter,[],0⟩] sc pos) 0 it acc env) R s:=by
 refine codeAny_loop rfl I (λn s hI=>?_) n h;show wpAny _ _ ((compTurn (.ListComp elt [⟨target,iter,[],0⟩] sc pos) 0 it acc env).onRaise (λx=>do noteFrame x env;theTreesLotGoes x)) _ _ s;refine wpAny_noted ?_;rw[compTurn_list1];refine aa (ka (aa ?_));refine cn (turn n s hI) (λr s1 h1=>?_) λ_ _ z=>z.elim;cases r with
 |none=>exact aj h1
 |some v=>
  refine aa (cn h1 (λ_ s2 h2=>?_) λ_ _ z=>z.elim);refine aa (cn h2 (λ_ s3 h3=>?_) λ_ _ z=>z.elim);refine aa (aa (cn h3 (λx s4 h4=>?_) λ_ _ z=>z.elim));refine aa (cn h4 (λ_ s5 h5=>?_) λ_ _ z=>z.elim);exact aj (aj ⟨rfl,h5⟩)
end
structure gG(X:Cx)(sc:Scope)(own:List Str)(cap:List (Nat×Str)):Prop where
 kind:sc.kind=.function
 names:∀y∈sc.names,y.2=.local->sc.names.lookup y.1=some .local
 nocell:∀y∈sc.names,y.2≠.cell
 free:∀y∈sc.names,y.2=.free->X.env.kindOf y.1=some .cell
 at':∀p∈cap,X.N[p.1]?=some p.2
 cap:∀p∈cap,sc.names.lookup p.2=some .free
section
variable{X:Cx}{sc:Scope}{own:List Str}{cap:List (Nat×Str)}{AM:List (Addr×Obj)}{σ:St}{H:Hp}{s:Shared}
theorem gG.has(k:gG X sc own cap)(ok:X.Ok):∀p∈sc.names,p.2=.free->∃c,X.env.cells.lookup p.1=some c:=λp hp e=>ok.has p.1 (.inl (k.free p hp e))
theorem zS{env:Env}:∀{names:List (Str×gv)}{x:Str},env.scope.kind=.function->names.lookup x=some .free->env.kindOf x=some .cell->
  (names.map λ(n,k)=>if(k==gm&&env.scope.kind== .function&&env.kindOf n==some .cell)then(n,ye)else(n,k)).lookup x=some .cell
 |[],x,_,h,_=>by cases h
 |(n,k)::r,x,hk,h,hx=>by
  rw[cw];dsimp only;rw[ft]at h;cases w:x==n with
  |true=>
   rw[w]at h;have e:x=n:=by simpa using w
   have kf:k=.free:=bj h;have c:(k==gm&&env.scope.kind== .function&&env.kindOf n==some .cell)=true:=by
    rw[kf,hk,<-e,hx];decide
   rw[if_pos c,ft,w]
  |false=>
   rw[w]at h;have ih:=@zS env r x hk h hx
   by_cases c:(k==gm&&env.scope.kind== .function&&env.kindOf n==some .cell)=true
   .rw[if_pos c,ft,w]
    exact ih
   .rw[if_neg c,ft,w]
    exact ih
theorem aD.cmp(k:gG X sc own cap){h4:Heap}{fp:List Addr}{m:Str->AF}{t':Nat}(I:aD X AM σ H s)(hf:∀b∈fp,eF X AM H b)(hlt:∀b∈fp,b<s.heap.objs.size)(jJ:h4.Ns s.heap.objs.size m)
  (kp:∀b o,s.heap.get? b=some o->h4.get? b=some o):aD (cU X sc (cV own cap) s.heap.objs.size s H fp) [] (iM own cap σ) H {s with heap:=h4,toks:=t'}:=by
 have hcl:∀y c,(gX X.env sc.names []).lookup y=some c->X.env.cells.lookup y=some c:=λy c e=>by
  rcases uO sc.names [] (k.has I.ok) y c e with z |z
  .cases z
  .exact z
 have nst:∀b∈fp,b∉bV X.stack:=λb hb z=>by
  rcases bh.mp (I.stkSub b z)with e |e
  .exact(hf b hb).2.1 e
  .exact(hf b hb).2.2.1 e
 refine⟨⟨I.ok.mod,k.kind,I.ok.glob,I.ok.blt,ak _,λx y c h1 h2=>I.ok.inj x y c (hcl x c h1) (hcl y c h2),λx hx=>?_,λx c e=>(nomatch e),I.ok.hd,I.ok.frames,.inl rfl,λb hb=>⟨cf (hlt b hb),λx c e=>(hf b hb).2.2.2.2.1 x c (hcl x c e)⟩,
  I.bs,di I.ok.bsz I.sz,λb o e hb=>?_,nst,I.stack,I.stkFree⟩,rfl,I.bare,Un.kept kp,⟨m,jJ,λi x v h1 h2 h3=>?_⟩,λx c e=>?_,I.hok.fresh (ak _),λx c e=>I.freeC x c (hcl x c e),λp hp=>absurd (show p∈([]:List (Addr×Obj)) from hp) (by simp),I.hok.kept kp,?_⟩
 .exact rA sc.names [] x (.inr (zM k.nocell hx))
 .rcases(hf b hb).2.2.2.1 with z |z
  .exact I.ok.noex b o e z
  .exact absurd (bn (ao (I.ok.bs b o e).1) z) (dq _)
 .have hN:(cV own cap)[i]?=some x:=h1
  unfold cV at hN;unfold iM at h2
  by_cases hi:i<own.length
  .rw[gf (by simpa using hi),dz]at h2
   cases e:own[i]? with
   |none=>rw[e]at h2;cases h2
   |some z=>rw[e]at h2;cases h2
  .rw[fy (by simpa using hi),dz,az]at h2
   rw[fy (by omega),dz]at hN;cases e:cap[i-own.length]? with
   |none=>rw[e]at h2;cases h2
   |some p=>
    rw[e]at h2 hN;have hp:p∈cap:=fj e;have hx:p.2=x:=bj hN;have hv:(σ[p.1]?).join=some v:=bj h2;have hv':σ[p.1]?=some (some v):=by
     cases e2:σ[p.1]? with
     |none=>rw[e2]at hv;cases hv
     |some z=>rw[e2]at hv;exact congrArg some hv
    have fr:=k.cap p hp;have kc:X.env.kindOf p.2=some .cell:=k.free (p.2,.free) (jj fr) rfl;obtain⟨m0,_,hl⟩:=I.loc;obtain⟨u,ru,lk⟩:=hl p.1 p.2 v (k.at' p hp) hv' (.inr (.inl kc));refine⟨u,ru,?_⟩;rcases lk with⟨k1,_⟩|⟨_,c,ec,cell⟩
    .rw[kc]at k1
     cases k1
    .rw[<-hx]
     obtain⟨c',ec'⟩:=rA (env:=X.env) sc.names [] p.2 (.inr (jj fr));have:=(hcl _ _ ec').symm.trans ec;cases this;obtain⟨o,ho,hd⟩:=cell;exact .inr ⟨.inl (zS I.ok.kind fr kc),c,ec',o,kp c o ho,hd⟩
 .obtain⟨v,o,ho,hd⟩:=I.cell x c (hcl x c e)
  exact⟨v,o,kp c o ho,hd⟩
 .unfold iM
  show _=(cV own cap).length;unfold cV;rw[da,da,az,az,az]
theorem aD.uncmp{s3 s':Shared}{H3 H':Hp}{N:List Str}{σ':St}{C:Addr}{fp:List Addr}{pl:List (Addr×Obj)}(I:aD X AM σ H s)(hf:∀b∈fp,eF X AM H b)(u:Un (bV X.stack) fp H H3 s.heap s3.heap)(os:s3.os=s.os)
  (J:aD (cU X sc N C s3 H3 fp) pl σ' H' s'):aD X AM σ H' s':=by
 have os':s'.os=s.os:=(show s'.os=s3.os from J.os).trans os;refine I.call' (ch:=fp) os' (u.trans J.base) J.hok J.bare λb hb=>?_;obtain⟨_,f1,_,f3,f4,f5⟩:=hf b hb;exact⟨f3,f1,f4,f5⟩
end
section
variable{X:Cx}{sc:Scope}{own:List Str}{cap:List (Nat×Str)}{AM:List (Addr×Obj)}{σ:St}{H:Hp}{s:Shared}{elt target iter:af}{pos pos':ag}{wi:TI}{g:TG}{te:TE}{Q:VK}
theorem Ob{use:Option (Value->Sem Unit)}{Qf:Value->Shared->Prop}(k:gG X sc own cap)(hi:PI X target iter wi)(hc:X.calm=true)
  (hg:∀C AN AO ex,PG (cU X sc (cV own cap) C AN AO ex) target g)(he:∀C AN AO ex,PE (cU X sc (cV own cap) C AN AO ex) elt te)(I:aD X AM σ H s)(h:pU own cap wi g te σ H Q)
  (fin:∀D C s' H' m,aD X AM σ H' s'->eF X AM H' C->s'.heap.Ns C m->Q (.ref D) H'->compPost (model X.prog X.w) X.A X.xe use Qf (.ref D) C (.ok .next) s')
  (hs:∀x,foldedSetIterable iter X.env x=pure x):
  wpAny (model X.prog X.w) X.A (comprehension (.ListComp elt [⟨target,iter,[],0⟩] sc pos) sc X.env pos' (newList []) false (eval iter X.env) use) Qf X.xe s:=by
 refine wpAny_comprehension_free (use:=use) rfl hs (Mf (k.has I.ok)) k.kind k.names ?_;refine bB (hi AM s σ H _ I h) λv s1 h1=>bB h1 λitv s2 h2=>?_;obtain⟨it,fp,tn,J,H2,e,I2,T,st2,f2,hW⟩:=h2;subst e;refine ic (yf k.nocell (λy hy=>nomatch hy) (λh4 jJ hsb=>?_) k.kind);have I3:aD X AM σ (aM H2 s2.heap.objs.size (.lst [])) {s2 with heap:=s2.heap.push {cls:=.type "list",data:=.seq ([]:AE).toArray},toks:=s2.toks}:=I2.lnew (ys:=[]) (its:=[]) .nil (dh _);have hD:H2 s2.heap.objs.size=none:=I2.fresh;have ltf:∀b∈fp,b<s2.heap.objs.size:=λb hb=>by
  obtain⟨o,ho,_⟩:=T.obj _ _ st2 b hb;exact ao ho
 have f3:∀b∈fp,eF X AM (aM H2 s2.heap.objs.size (.lst [])) b:=λb hb=>⟨by rw[bP (cf (ltf b hb))];exact(f2 b hb).1,(f2 b hb).2⟩;have un:Un (bV X.stack) fp H2 (aM H2 s2.heap.objs.size (.lst [])) s2.heap (s2.heap.push {cls:=.type "list",data:=.seq ([]:AE).toArray}):=Un.laid (λb u q=>al _ q) (ak _) hD;have kp:∀b o,(s2.heap.push {cls:=.type "list",data:=.seq ([]:AE).toArray}).get? b=some o->h4.get? b=some o:=λb o q=>hsb.extBut b o (cf (ao q)) (al _ q);have J0:=I3.cmp (t':=s2.toks+([]:List (Str×Value)).length) k f3 (λb hb=>bn (ltf b hb) (by rw[jm];exact lw _)) jJ kp;have stat:∀{H':Hp},(∀b∈fp,H' b=none)->∀b∈fp,eF (cU X sc (cV own cap) (s2.heap.push {cls:=.type "list",data:=.seq ([]:AE).toArray}).objs.size {s2 with heap:=s2.heap.push {cls:=.type "list",data:=.seq ([]:AE).toArray},toks:=s2.toks} (aM H2 s2.heap.objs.size (.lst [])) fp) [] H' b:=λhn b hb=>
  ⟨hn b hb,(J0.ok.exf b hb).1,J0.ok.exfs b hb,.inl hb,(J0.ok.exf b hb).2,λp hp=>absurd (show p∈([]:List (Addr×Obj)) from hp) (by simp)⟩
 have st4:tn 0 h4:=T.keep _ _ _ st2 λb hb o q=>kp b o (al _ q);have fr0:∀b∈fp,(aM H2 s2.heap.objs.size (.lst [])) b=none:=λb hb=>(f3 b hb).1;have loop:codeAny (model X.prog X.w) X.A (.compLoop (.ListComp elt [⟨target,iter,[],0⟩] sc pos) 0 (.ref it) (.ref s2.heap.objs.size) (compEnvC sc (gX X.env sc.names []) (s2.heap.push {cls:=.type "list",data:=.seq ([]:AE).toArray}).objs.size X.env))
   (compPost (model X.prog X.w) X.A X.xe use Qf (.ref s2.heap.objs.size) (s2.heap.push {cls:=.type "list",data:=.seq ([]:AE).toArray}).objs.size) {s2 with heap:=h4,toks:=s2.toks+([]:List (Str×Value)).length}:=by
  obtain⟨W,⟨m0,w0⟩,turn⟩:=hW s2.heap.objs.size hD;refine Ip (λn s'=>∃i σ' H' ys,aD (cU X sc (cV own cap) (s2.heap.push {cls:=.type "list",data:=.seq ([]:AE).toArray}).objs.size {s2 with heap:=s2.heap.push {cls:=.type "list",data:=.seq ([]:AE).toArray},toks:=s2.toks} (aM H2 s2.heap.objs.size (.lst [])) fp) [] σ' H' s'/\tn i s'.heap/\(∀b∈fp,H' b=none)/\W i n σ' H' ys) ?_ m0
   ⟨0,_,_,[],J0,st4,fr0,w0⟩
  rintro n s5 ⟨i,σ5,H5,ys,I5,st5,fr5,w5⟩
  obtain⟨hD5,w5⟩:=turn i n σ5 H5 ys w5;rcases w5 with⟨stop,qn⟩|⟨go,hlt,step⟩
  .refine bB (T.done (cU X sc (cV own cap) (s2.heap.push {cls:=.type "list",data:=.seq ([]:AE).toArray}).objs.size {s2 with heap:=s2.heap.push {cls:=.type "list",data:=.seq ([]:AE).toArray},toks:=s2.toks} (aM H2 s2.heap.objs.size (.lst [])) fp) rfl rfl rfl hc i [] s5 σ5 H5 _ I5 (stat fr5) st5 stop) ?_
   rintro r s6 ⟨hr,I6⟩
   subst hr;obtain⟨m,hn,_⟩:=id I6.loc;exact fin _ _ s6 H5 m (I2.uncmp (s3:={s2 with heap:=s2.heap.push {cls:=.type "list",data:=.seq ([]:AE).toArray},toks:=s2.toks}) f2 un rfl I6) (I3.fpOk (ak _) I6.free) hn qn
  .refine bB (T.item (cU X sc (cV own cap) (s2.heap.push {cls:=.type "list",data:=.seq ([]:AE).toArray}).objs.size {s2 with heap:=s2.heap.push {cls:=.type "list",data:=.seq ([]:AE).toArray},toks:=s2.toks} (aM H2 s2.heap.objs.size (.lst [])) fp) rfl rfl rfl hc i [] s5 σ5 H5 _ I5 (stat fr5) st5 go) ?_
   rintro r s6 ⟨u,hr,h6⟩
   subst hr;refine bB h6 ?_
   rintro _ s7 ⟨x,H7,I7,r7,y7,st7,fr7⟩
   have I7':=I7.pinned (stat fr7) (T.obj _ _ st7);refine bB (hg _ _ _ _ _ s7 σ5 H7 x u _ I7' r7 (step x H7 y7)) ?_
   rintro _ s8 ⟨σ8,H8,I8,q8⟩
   refine bB (he _ _ _ _ _ s8 σ8 H8 _ I8 q8) ?_
   rintro v9 s9 ⟨y,H9,I9,r9,hD9,m',hm,w9⟩
   refine bB (vB _ s9 σ8 H9 (.ref s2.heap.objs.size) [y] (.ref s2.heap.objs.size) [v9] (λ_ H'=>H'=aM H9 s2.heap.objs.size (.lst (ys++[y]))) I9 rfl (.cons r9 .nil) ⟨_,ys,y,rfl,rfl,hD9,hlt,rfl⟩) ?_
   rintro _ s10 ⟨_,H10,I10,_,q10⟩
   subst q10;refine⟨m',hm,i+1,σ8,_,_,I10.unpinned,T.keep _ _ _ st7 λb hb o q=>(I10.pin (b,o) (cy _ (cy _ (mI hb q)))).1,λb hb=>?_,w9⟩;obtain⟨o,q,d⟩:=T.obj _ _ st7 b hb;exact(I10.pin (b,o) (cy _ (cy _ (mI hb q)))).2.1
 exact yg loop (T.self _ 0 _ _ _ st4 loop)
theorem Du(k:gG X sc own cap)(hi:PI X target iter wi)(hc:X.calm=true)
  (hg:∀C AN AO ex,PG (cU X sc (cV own cap) C AN AO ex) target g)(he:∀C AN AO ex,PE (cU X sc (cV own cap) C AN AO ex) elt te)
  (hs:∀x,foldedSetIterable iter X.env x=pure x:=by intro _;rfl):PE X (.ListComp elt [⟨target,iter,[],0⟩] sc pos) (pU own cap wi g te):=by
 intro AM s σ H Q I h;rw[eval_ListComp];refine Ob (use:=none) k hi hc hg he I h (λD C s' H' m I' fC hn q=>?_) hs;refine⟨m,hn,λh' sb=>⟨.ref D,H',?_,rfl,q⟩⟩;obtain⟨f0,f1,f2,f3,f4,f5⟩:=fC;exact I'.turned (t':=s'.toks) (λb o hb e=>(sb.2 b hb).trans e) f0 f1 f3 f4 f5
theorem Ss{i:Nat}{x:Str}{py spos:ag}(hN:X.N.Nodup)(hx:X.N[i]?=some x)(hl:jG X.env.scope x)(k:gG X sc own cap)(hi:PI X target iter wi)(hc:X.calm=true)
  (hg:∀C AN AO ex,PG (cU X sc (cV own cap) C AN AO ex) target g)(he:∀C AN AO ex,PE (cU X sc (cV own cap) C AN AO ex) elt te)
  (hs:∀x,foldedSetIterable iter X.env x=pure x:=by intro _;rfl)(hsw:swapsWith (.ListComp elt [⟨target,iter,[],0⟩] sc pos) (some (.Name x py)) spos.line X.env=pure true:=by rfl)
  (hf:X.fn x=true\/X.env.scope.names.lookup x=some .local:=by first |exact .inl rfl |exact .inr rfl |assumption):
  PS X (.Assign [.Name x py] (.ListComp elt [⟨target,iter,[],0⟩] sc pos) spos) (yK (pU own cap wi g te) (xS i)):=by
 intro AM s σ H D I h;rw[exec_Assign_Name_used _ _ _ _ hsw];refine aa (ka (aa ?_));show wpAny _ X.A (comprehension (.ListComp elt [⟨target,iter,[],0⟩] sc pos) sc X.env _ (newList []) false (eval iter X.env) (some (assign (.Name x py) X.env)) >>= λ_=>pure ()) _ _ s;refine aa (bB (Ob (use:=some (assign (.Name x py) X.env)) (Qf:=λ_ s'=>SP X AM D .next s') k hi hc hg he I h (λB C s' H' m I' fC hn q=>?_) hs) λ_ s' hq=>aj (aj hq))
 show wpAny _ _ (assign (.Name x py) X.env (.ref B)) _ _ s';obtain⟨o,es,ep,ho,hd,r⟩:=hn;obtain⟨f0,f1,f2,f3,f4,f5⟩:=fC;have I'':aD X (AM++[(C,o)]) σ H' s':=I'.pins_of λp hp=>(du.mp hp).elim (λz=>I'.pin p (cy _ z)) λz=>by
  have e:p=(C,o):=by simpa using z
  subst e;exact⟨ho,f0,f1,f2,λv z=>by rw[hd]at z;cases z⟩
 refine wpAny_assign_Name (lL I'' hN hx hl (v:=.ref B) rfl (λs2 I2=>?_) hf);have pC:=I2.pin (C,o) (by simp);refine⟨m,⟨o,es,ep,pC.1,hd,r⟩,λh' sb=>⟨_,H',?_,q⟩⟩;exact(I2.unpinned).turned (t':=s2.toks) (λb o hb e=>(sb.2 b hb).trans e) f0 f1 f3 f4 f5
end
section
variable{X:Cx}
theorem Gr(hc:X.calm=true):fH X (.builtin "all") (λxs H Q=>∃(a:Addr)(bs:List Bool),xs=[.ref a]/\bS X.K H a (bs.map V.bl)/\Q (.bl (bs.all id)) H):=by
 intro AM s σ H xs us Q I r h;obtain⟨a,bs,rfl,hq,q⟩:=h;obtain⟨u,rfl,ru⟩:=jR r;cases ru;obtain⟨its,rv,pl,hz⟩:=I.list hq;have hl:bs.length=its.length:=by
  have:=rv.length
  rwa[az]at this
 refine call_all_walk (oy pl.isList ?_);have ha:a<s.heap.objs.size:=by
  obtain⟨o,ho,_⟩:=pl.isList;exact ao ho
 refine⟨_,_,_,_,_,_,λi=>bs.getD i true,rfl,Walks.list (prog:=X.prog) (w:=X.w) (A:=X.A.in1) (show X.A.in1.handled=none from I.ok.hd hc) s.heap.objs.size a (cf ha) its.toArray,⟨⟨_,cm _ rfl,rfl,rfl⟩,Heap.IsList.at pl.isList λo e=>al _ e⟩,λi v s' Q' E' hv hQ=>?_,λh' tk kp=>?_⟩
 .have hv':its[i]?=some v:=by simpa using hv
  have hi:i<bs.length:=by
   have:=(ck.mp hv').1;omega
  obtain⟨u,hu,ru⟩:=rv.get (i:=i) (x:=.bl bs[i]) (by rw[dz,ax hi];rfl);rw[hv']at hu;cases hu;cases(show v=jw bs[i] from ru);have e:bs.getD i true=bs[i]:=by simp[ba,hi]
  have hQ':Q' (bs.getD i true) s':=hQ;rw[e]at hQ';exact jx hQ'
 .have e:(aq its.toArray.size).all (λi=>bs.getD i true)=bs.all id:=by
   rw[am,<-hl,um,gq,gq];constructor
   .intro z b hb
    obtain⟨i,hi,rfl⟩:=yh.mp hb;have:=z i (by simpa using hi);simpa[ba,hi]using this
   .intro z i hi
    have hi':i<bs.length:=by simpa using hi
    have:=z bs[i] (ig hi');simpa[ba,hi']using this
  show EP X AM σ Q (.bool ((aq its.toArray.size).all λi=>bs.getD i true)) _;rw[e];have I1:aD X AM σ H {s with heap:=s.heap.push {cls:=.type "list_iterator",data:=.fields #[.ref a,.int 0 0]},toks:=s.toks}:=I.kept λb o z=>al _ z;have fp:eF X AM H s.heap.objs.size:=I.fpOk (ak _) (I.hok.fresh (ak _));obtain⟨f0,f1,f2,f3,f4,f5⟩:=fp;exact⟨.bl (bs.all id),H,I1.turned (λb o hb z=>kp b o (by simpa using hb) z) f0 f1 f3 f4 f5,rfl,q⟩
end
section
variable{prog:Program}{w:ah}{A:ai}{E:Value->Shared->Prop}{s:Shared}
theorem Jm{it t:Addr}{i:Nat}{items:Array Value}{x:Value}{Q:Value->Shared->Prop}(git:s.heap.IsTupleIter it t i)(gt:s.heap.IsTuple t items)(gx:items[i]?=some x)
  (gQ:∀h',h'.IsTupleIter it t (i+1)->dw it s.heap h'->Q x {s with heap:=h'}):wpAny (model prog w) A (iw (.ref it)) Q E s:=by
 obtain⟨o,go,gc,gd⟩:=id git;obtain⟨ol,gol,_,nl,gdl⟩:=gt;unfold iw;refine aa (lv (name:=bf "__next__") git.typeIs pe (jk pe git.typeIs yi ?_ (yj _)));show wpAny _ _ (field (.ref it) 0 >>= _) _ _ s;refine aa (dg go gd (x:=.ref t) rfl ?_);show wpAny _ _ (if(bc t==au)=true then _ else _) _ _ s;rw[if_neg (show ¬((bc t==au)=true) from kb)];show wpAny _ _ (field (.ref it) 1 >>= _) _ _ s;refine aa (dg go gd (x:=.int i 0) rfl ?_);show wpAny _ _ (seqItems? (.ref t) >>= _) _ _ s;refine aa (ij gol gdl ?_);simp only[nv,gx];refine aa (pf go gd (by simp) (aj ⟨_,rfl,aj (gQ _ ?_ (yk ..))⟩));refine⟨_,oh _ go (yl (ph gd _)),(Obj.cls_mapFields ..).trans gc,?_⟩;rw[ph gd];simp[rawInt]
theorem Hl{it t:Addr}{i:Nat}{items:Array Value}{Q:Value->Shared->Prop}(hh:A.handled=none)(git:s.heap.IsTupleIter it t i)(gt:s.heap.IsTuple t items)(gx:items[i]?=none)
  (gE:∀h' e,Heap.ExtBut it s.heap h'->(∃o,h'.get? e=some o/\o.cls=.type "StopIteration")->E (.ref e) {s with heap:=h'}):wpAny (model prog w) A (iw (.ref it)) Q E s:=by
 obtain⟨o,go,gc,gd⟩:=id git;obtain⟨ol,gol,_,nl,gdl⟩:=gt;unfold iw;refine aa (lv (name:=bf "__next__") git.typeIs pe (jk pe git.typeIs yi ?_ (yj _)));show wpAny _ _ (field (.ref it) 0 >>= _) _ _ s;refine aa (dg go gd (x:=.ref t) rfl ?_);show wpAny _ _ (if(bc t==au)=true then _ else _) _ _ s;rw[if_neg (show ¬((bc t==au)=true) from kb)];show wpAny _ _ (field (.ref it) 1 >>= _) _ _ s;refine aa (dg go gd (x:=.int i 0) rfl ?_);show wpAny _ _ (seqItems? (.ref t) >>= _) _ _ s;refine aa (ij gol gdl ?_);simp only[nv,gx]
 first
  |refine aa (lp (aa (pf go gd (by simp) (aa (pk ?_)))))
  |refine aa (lp (aa (pf go gd (by simp) ?_)))
 show wpAny _ _ (newExc (.type "StopIteration") [] >>= _) _ _ _;refine aa ?_;simp only[newExc,newTuple];refine aa (ic ?_ (by size_fits));refine aa (m:=firstArgMember _ _) (wpAny_of_eq (a:=au) (by first |rfl |(simp only[firstArgMember];rfl)) ?_)
 refine ic ?_ (by size_fits);simp only[raiseNew];refine aa (wpAny_handled ?_)
 first
  |rw[show A.in1.handled=none from hh]
  |rw[hh]
 refine aa (aj (wpAny_throw ?_));exact gE _ _ (((yk ..).extBut.push _).push _) ⟨_,cm _ rfl,rfl⟩
end
theorem Cr{prog:Program}{w:ah}{A:ai}(hh:A.handled=none)(it t:Addr)(hne:t≠it)(items:Array Value):
  ia prog w A it [it,t] items.size (λi v=>items[i]?=some v) (λi h=>h.IsTupleIter it t i/\h.IsTuple t items) where
 live:=λ_ _ st=>let⟨o,ho,_⟩:=st.1;⟨o,ho⟩
 frame:=λ_ _ _ st hk=>⟨let⟨o,ho,r⟩:=st.1;⟨o,hk it (by simp) o ho,r⟩,let⟨o,ho,r⟩:=st.2;⟨o,hk t (by simp) o ho,r⟩⟩
 item:=λi s Q E hi st hQ=>by
  refine Jm st.1 st.2 (x:=items[i]) (by simp[hi]) λh' hit' hs'=>?_;exact hQ _ h' s.toks (by simp[hi]) ⟨hit',st.2.extBut hs'.extBut hne⟩ hs'
 done:=λs Q E st hE=>Hl hh st.1 st.2 (by simp) hE
structure qJ(z TI TO i1 i2:Addr)(fp1 fp2:List Addr):Prop where
 tiz:TI≠z
 toz:TO≠z
 tito:TI≠TO
 ti1:TI≠i1
 ti2:TI≠i2
 z1:z∉fp1
 z2:z∉fp2
 to1:TO∉fp1
 to2:TO∉fp2
 i12:i1∉fp2
 i21:i2∉fp1
 m1:i1∈fp1
 m2:i2∈fp2
section
variable{prog:Program}{w:ah}{A:ai}{E:Value->Shared->Prop}{s:Shared}{z TI TO i1 i2:Addr}{fp1 fp2:List Addr}{n1 n2 i:Nat}{P1 P2:Nat->Value->Prop}{S1 S2:Nat->Heap->Prop}{a b:Value}
theorem Lp{Q:Value->Shared->Prop}(D1:ia prog w A i1 fp1 n1 P1 S1)(D2:ia prog w A i2 fp2 n2 P2 S2)(ap:qJ z TI TO i1 i2 fp1 fp2)(gz:dn s.heap z TI TO .none)(gTI:cq s.heap TI (.ref i1) (.ref i2))(gTO:cq s.heap TO a b)
  (g1:S1 i s.heap)(g2:S2 i s.heap)(l1:i<n1)(l2:i<n2)
  (gQ:∀h' tk x y,P1 i x->P2 i y->dn h' z TI TO (rawInt s.heap.objs.size)->cq h' TO x y->S1 (i+1) h'->S2 (i+1) h'->cq h' s.heap.objs.size x y->
   (∀c o,c≠z->c≠TO->c≠i1->c≠i2->s.heap.get? c=some o->h'.get? c=some o)->Q (.ref s.heap.objs.size) {s with heap:=h',toks:=tk}):
  wpAny (model prog w) A (Builtin.«zip.__next__» ⟨[.ref z],[]⟩) (λfin s'=>∃v,fin=.done (.ret v)/\Q v s') E s:=by
 have nz1:i1≠z:=λq=>ap.z1 (q▸ap.m1);have nz2:i2≠z:=λq=>ap.z2 (q▸ap.m2);have nt1:TO≠i1:=λq=>ap.to1 (q▸ap.m1);have nt2:TO≠i2:=λq=>ap.to2 (q▸ap.m2);show wpAny _ _ (field (.ref z) 2 >>= _) _ _ _;refine aa (dg gz rfl (x:=.bool false) rfl ?_);show wpAny _ _ (field (.ref z) 3 >>= _) _ _ _;refine aa (dg gz rfl (x:=.ref TI) rfl ?_);refine aa (ij gTI rfl ?_);show wpAny _ _ (pq (.ref z) >>= _) _ _ _;refine aa ?_;unfold pq;refine aa (dg gz rfl (x:=.none) rfl (aj ?_));simp only[if_true];refine aa (lp ?_);refine aa (dg gz rfl (x:=.ref TO) rfl ?_);refine aa (kq gz (by simp) λh1 gz1 s1=>?_)
 replace gz1:dn h1 z TI TO .ellipsis:=gz1
 refine aa ?_;simp only[ym,yn,ow,yo];refine aa (aa (pw ?_));show wpAny _ _ (iw (.ref i1) >>= _) _ _ _;refine aa (D1.item i _ _ _ l1 (D1.frame _ _ _ g1 λc hc o q=>s1.extBut c o (λe=>ap.z1 (e▸hc)) q) λx h2 tk2 px g1' s2=>aj ?_);have gTO2:cq h2 TO a b:=s2.extBut _ _ nt1 (s1.extBut _ _ ap.toz gTO);refine aa (ij gTO2 rfl ?_);refine aa (uo (s:={s with heap:=h2,toks:=tk2}) gTO2 λh3 gTO3 s3=>?_)
 replace gTO3:cq h3 TO x b:=gTO3
 replace s3:dw TO h2 h3:=s3
 refine aa (pk (aj ?_));refine aa (aa (pw ?_));show wpAny _ _ (iw (.ref i2) >>= _) _ _ _;have g2':S2 i h3:=D2.frame _ _ _ g2 λc hc o q=>s3.extBut c o (λe=>ap.to2 (e▸hc)) (s2.extBut c o (λe=>ap.i12 (e▸hc)) (s1.extBut c o (λe=>ap.z2 (e▸hc)) q));refine aa (D2.item i _ _ _ l2 g2' λy h4 tk4 py g2'' s4=>aj ?_)
 replace s4:dw i2 h3 h4:=s4
 have gTO4:cq h4 TO x b:=s4.extBut _ _ nt2 gTO3;refine aa (ij gTO4 rfl ?_);refine aa (uo (s:={s with heap:=h4,toks:=tk4}) gTO4 λh5 gTO5 s5=>?_)
 replace gTO5:cq h5 TO x y:=gTO5
 replace s5:dw TO h4 h5:=s5
 refine aa (pk (aj (aj ?_)));refine aa (ij gTO5 rfl ?_);refine aa (uq ?_);have hsz:h5.objs.size=s.heap.objs.size:=by rw[s5.1,s4.1,s3.1,s2.1,s1.1]
 have gz5:dn h5 z TI TO .ellipsis:=s5.extBut _ _ ap.toz.symm (s4.extBut _ _ nz2.symm (s3.extBut _ _ ap.toz.symm (s2.extBut _ _ nz1.symm gz1)));have k5:∀c o,c≠z->c≠TO->c≠i1->c≠i2->s.heap.get? c=some o->h5.get? c=some o:=λc o c1 c2 c3 c4 q=>s5.extBut _ _ c2 (s4.extBut _ _ c4 (s3.extBut _ _ c2 (s2.extBut _ _ c3 (s1.extBut _ _ c1 q))));have g15:S1 (i+1) h5:=D1.frame _ _ _ g1' λc hc o q=>s5.extBut c o (λe=>ap.to1 (e▸hc)) (s4.extBut c o (λe=>ap.i21 (e▸hc)) (s3.extBut c o (λe=>ap.to1 (e▸hc)) q));have g25:S2 (i+1) h5:=D2.frame _ _ _ g2'' λc hc o q=>s5.extBut c o (λe=>ap.to2 (e▸hc)) q;have zlt:z<h5.objs.size:=ao gz5;show wpAny _ _ (yp (.ref z) (.ref h5.objs.size) >>= _) _ _ _;refine aa ?_;unfold yp;have gz6:dn (h5.push {cls:=.type "tuple",data:=.seq #[x,y]}) z TI TO .ellipsis:=al _ gz5;refine aa (kq gz6 (by simp) λh7 gz7 s7=>?_)
 replace gz7:dn h7 z TI TO (rawInt h5.objs.size):=gz7
 refine kq gz7 (by simp) λh8 gz8 s8=>?_
 replace gz8:dn h8 z TI TO (rawInt h5.objs.size):=gz8
 have up:∀c o,c≠z->h5.get? c=some o->h8.get? c=some o:=λc o c1 q=>s8.extBut _ _ c1 (s7.extBut _ _ c1 (al _ q));have gT8:cq h8 h5.objs.size x y:=s8.extBut _ _ (kd zlt) (s7.extBut _ _ (kd zlt) (cm _ rfl));rw[hsz]at gz8 gT8;refine aj ⟨_,rfl,?_⟩;show Q (.ref h5.objs.size) _;rw[hsz];exact gQ h8 _ x y px py gz8 (up _ _ ap.toz gTO5) (D1.frame _ _ _ g15 λc hc o q=>up c o (λe=>ap.z1 (e▸hc)) q) (D2.frame _ _ _ g25 λc hc o q=>up c o (λe=>ap.z2 (e▸hc)) q) gT8 λc o c1 c2 c3 c4 q=>up c o c1 (k5 c o c1 c2 c3 c4 q)
theorem Ro{Q:Fin->Shared->Prop}(D1:ia prog w A i1 fp1 n1 P1 S1)(D2:ia prog w A i2 fp2 n2 P2 S2)(ap:qJ z TI TO i1 i2 fp1 fp2)(gz:dn s.heap z TI TO .none)(gTI:cq s.heap TI (.ref i1) (.ref i2))(gTO:cq s.heap TO a b)
  (g1:S1 i s.heap)(g2:S2 i s.heap)(fin:i=n1\/(i<n1/\i=n2))
  (gE:∀h' tk e,(∀c o,c≠z->c≠TO->c≠i1->c≠i2->s.heap.get? c=some o->h'.get? c=some o)->(∃o,h'.get? e=some o/\o.cls=.type "StopIteration")->E (.ref e) {s with heap:=h',toks:=tk}):
  wpAny (model prog w) A (Builtin.«zip.__next__» ⟨[.ref z],[]⟩) Q E s:=by
 have nz1:i1≠z:=λq=>ap.z1 (q▸ap.m1);have nz2:i2≠z:=λq=>ap.z2 (q▸ap.m2);have nt1:TO≠i1:=λq=>ap.to1 (q▸ap.m1);have nt2:TO≠i2:=λq=>ap.to2 (q▸ap.m2);show wpAny _ _ (field (.ref z) 2 >>= _) _ _ _;refine aa (dg gz rfl (x:=.bool false) rfl ?_);show wpAny _ _ (field (.ref z) 3 >>= _) _ _ _;refine aa (dg gz rfl (x:=.ref TI) rfl ?_);refine aa (ij gTI rfl ?_);show wpAny _ _ (pq (.ref z) >>= _) _ _ _;refine aa ?_;unfold pq;refine aa (dg gz rfl (x:=.none) rfl (aj ?_));simp only[if_true];refine aa (lp ?_);refine aa (dg gz rfl (x:=.ref TO) rfl ?_);refine aa (kq gz (by simp) λh1 gz1 s1=>?_)
 replace gz1:dn h1 z TI TO .ellipsis:=gz1
 refine aa ?_;simp only[ym,yn,ow,yo];refine aa (aa (pw ?_));show wpAny _ _ (iw (.ref i1) >>= _) _ _ _;have g1':S1 i h1:=D1.frame _ _ _ g1 λc hc o q=>s1.extBut c o (λe=>ap.z1 (e▸hc)) q;rcases fin with e1 |⟨l1,e2⟩
 .subst e1
  refine aa (D1.done _ _ _ g1' λh2 e s2 he=>?_);obtain⟨oe,hoe,hce⟩:=he;have gz2:dn h2 z TI TO .ellipsis:=s2 _ _ nz1.symm gz1;have hez:e≠z:=λq=>by
   subst q;rw[gz2]at hoe;cases hoe;simp at hce
  refine kq (s:={s with heap:=h2}) gz2 (by simp) λh3 _ s3=>?_;exact gE h3 _ e (λc o c1 _ c3 _ q=>s3.extBut _ _ c1 (s2 _ _ c3 (s1.extBut _ _ c1 q))) ⟨oe,s3.extBut _ _ hez hoe,hce⟩
 .subst e2
  refine aa (D1.item i _ _ _ l1 g1' λx h2 tk2 px g1'' s2=>aj ?_);have gTO2:cq h2 TO a b:=s2.extBut _ _ nt1 (s1.extBut _ _ ap.toz gTO);refine aa (ij gTO2 rfl ?_);refine aa (uo (s:={s with heap:=h2,toks:=tk2}) gTO2 λh3 gTO3 s3=>?_)
  replace s3:dw TO h2 h3:=s3
  refine aa (pk (aj ?_));refine aa (aa (pw ?_));show wpAny _ _ (iw (.ref i2) >>= _) _ _ _;have g2':S2 i h3:=D2.frame _ _ _ g2 λc hc o q=>s3.extBut c o (λe=>ap.to2 (e▸hc)) (s2.extBut c o (λe=>ap.i12 (e▸hc)) (s1.extBut c o (λe=>ap.z2 (e▸hc)) q));refine aa (D2.done _ _ _ g2' λh4 e s4 he=>?_)
  replace s4:Heap.ExtBut i2 h3 h4:=s4
  obtain⟨oe,hoe,hce⟩:=he;have gz4:dn h4 z TI TO .ellipsis:=s4 _ _ nz2.symm (s3.extBut _ _ ap.toz.symm (s2.extBut _ _ nz1.symm gz1));have hez:e≠z:=λq=>by
   subst q;rw[gz4]at hoe;cases hoe;simp at hce
  refine kq (s:={s with heap:=h4,toks:=tk2}) gz4 (by simp) λh5 _ s5=>?_;exact gE h5 _ e (λc o c1 c2 c3 c4 q=>s5.extBut _ _ c1 (s4 _ _ c4 (s3.extBut _ _ c2 (s2.extBut _ _ c3 (s1.extBut _ _ c1 q))))) ⟨oe,s5.extBut _ _ hez hoe,hce⟩
theorem Zl{Q:AF->Shared->Prop}(D1:ia prog w A.in1 i1 fp1 n1 P1 S1)(D2:ia prog w A.in1 i2 fp2 n2 P2 S2)(ap:qJ z TI TO i1 i2 fp1 fp2)(gz:dn s.heap z TI TO .none)(gTI:cq s.heap TI (.ref i1) (.ref i2))(gTO:cq s.heap TO a b)
  (g1:S1 i s.heap)(g2:S2 i s.heap)(l1:i<n1)(l2:i<n2)
  (gQ:∀h' tk x y,P1 i x->P2 i y->dn h' z TI TO (rawInt s.heap.objs.size)->cq h' TO x y->S1 (i+1) h'->S2 (i+1) h'->cq h' s.heap.objs.size x y->
   (∀c o,c≠z->c≠TO->c≠i1->c≠i2->s.heap.get? c=some o->h'.get? c=some o)->Q (some (.ref s.heap.objs.size)) {s with heap:=h',toks:=tk}):
  wpAny (model prog w) A (pyNext (.ref z)) Q E s:=by
 have gT:s.TypeIs (.ref z) "zip":=⟨_,gz,rfl⟩;unfold pyNext;refine aa (qa (lv (name:=bf "__next__") gT qc (jk qc gT yq ?_ (yr _))));exact Lp D1 D2 ap gz gTI gTO g1 g2 l1 l2 λh' tk x y p1 p2 e1 e2 e3 e4 e5 e6=>aj (gQ h' tk x y p1 p2 e1 e2 e3 e4 e5 e6)
theorem Al{Q:AF->Shared->Prop}(D1:ia prog w A.in1 i1 fp1 n1 P1 S1)(D2:ia prog w A.in1 i2 fp2 n2 P2 S2)(ap:qJ z TI TO i1 i2 fp1 fp2)(gz:dn s.heap z TI TO .none)(gTI:cq s.heap TI (.ref i1) (.ref i2))(gTO:cq s.heap TO a b)
  (g1:S1 i s.heap)(g2:S2 i s.heap)(fin:i=n1\/(i<n1/\i=n2))
  (gQ:∀h' tk,(∀c o,c≠z->c≠TO->c≠i1->c≠i2->s.heap.get? c=some o->h'.get? c=some o)->Q none {s with heap:=h',toks:=tk}):wpAny (model prog w) A (pyNext (.ref z)) Q E s:=by
 have gT:s.TypeIs (.ref z) "zip":=⟨_,gz,rfl⟩;unfold pyNext;refine aa (qa (lv (name:=bf "__next__") gT qc (jk qc gT yq ?_ (yr _))));refine Ro D1 D2 ap gz gTI gTO g1 g2 fin λh' tk e hk he=>?_;obtain⟨o,ho,hc⟩:=he;refine aa (wpAny_isInstance (T:="StopIteration") (b:=true) ⟨o,ho,hc⟩ isSubtype_stop ?_);exact aj (gQ _ _ hk)
end
abbrev tE(h:Heap)(o1:Obj):Heap:=h.push o1
abbrev sW(h:Heap)(o1 o2:Obj):Heap:=(tE h o1).push o2
abbrev sS(h:Heap)(o1 o2:Obj):Heap:=(sW h o1 o2).push {cls:=.type "tuple",data:=.seq #[.ref h.objs.size,.ref (tE h o1).objs.size]}
abbrev tI(h:Heap)(o1 o2:Obj):Heap:=(sS h o1 o2).push {cls:=.type "tuple",data:=.seq #[.none,.none]}
abbrev nQ(h:Heap)(o1 o2:Obj):Heap:=(tI h o1 o2).push {cls:=.type "zip",data:=.fields #[.none,.bool false,.bool false,.ref (sW h o1 o2).objs.size,.ref (sS h o1 o2).objs.size]}
def qC(l:Addr)(o:Obj)(G:Heap->Prop):Prop:=
 ∀(prog:Program)(w:ah)(A:ai)(E:Value->Shared->Prop)(s:Shared)(Q:Value->Shared->Prop),G s.heap->Q (.ref s.heap.objs.size) {s with heap:=s.heap.push o}->wpAny (model prog w) A (pyIter (.ref l)) Q E s
theorem Pn(l1 l2:Addr)(o1 o2:Obj)(G1 G2:Heap->Prop)(p1:qC l1 o1 G1)(p2:qC l2 o2 G2)(k2:∀h,G2 h->G2 (h.push o1)):
  Meets (Builtin.«zip.__new__» ⟨[.type "zip",.ref l1,.ref l2],[]⟩) (λ_ R s=>G1 s.heap/\G2 s.heap/\R (.ok (.ret (.ref (tI s.heap o1 o2).objs.size))) {s with heap:=nQ s.heap o1 o2}):=
 .of_wp λprog w A R s h=>by
  obtain⟨hp,g,d,tk,os⟩:=s;obtain⟨g1,g2,h⟩:=h;have hsub:=sub_zip;have q1:=λ(A':ai) (E':Value->Shared->Prop) (Q':Value->Shared->Prop)=>p1 prog w A' E' ⟨hp,g,d,tk,os⟩ Q' g1;have q2:=λ(A':ai) (E':Value->Shared->Prop) (Q':Value->Shared->Prop)=>p2 prog w A' E' ⟨hp.push o1,g,d,tk,os⟩ Q' (k2 _ g2)
  wp_walk using q1 _ _ _,q2 _ _ _
  exact⟨_,rfl,h⟩
theorem Tl{prog:Program}{w:ah}{A:ai}{E:Value->Shared->Prop}{s:Shared}{l1 l2:Addr}{o1 o2:Obj}{G1 G2:Heap->Prop}{Q:Value->Shared->Prop}(p1:qC l1 o1 G1)(p2:qC l2 o2 G2)(k2:∀h,G2 h->G2 (h.push o1))(g1:G1 s.heap)(g2:G2 s.heap)
  (f1:o1.isFreed=false)(f2:o2.isFreed=false)
  (h:∀h',dn h' (s.heap.objs.size+4) (s.heap.objs.size+2) (s.heap.objs.size+3) .none->cq h' (s.heap.objs.size+2) (.ref s.heap.objs.size) (.ref (s.heap.objs.size+1))->cq h' (s.heap.objs.size+3) .none .none->
   h'.get? s.heap.objs.size=some o1->h'.get? (s.heap.objs.size+1)=some o2->(∀c o,s.heap.get? c=some o->h'.get? c=some o)->Q (.ref (s.heap.objs.size+4)) {s with heap:=h'}):
  wpAny (model prog w) A (call (.type "zip") [.ref l1,.ref l2]) Q E s:=by
 refine callType_new F.called_zip (by decide) (F.typeCall_zip_2 _ _) (F.newCall_zip_2 _ _) (λobj=>F.args_object_init_3 obj _ _) F.entry_zip_new (Pn l1 l2 o1 o2 G1 G2 p1 p2 k2) ⟨g1,g2,?_⟩;have e1:(tE s.heap o1).objs.size=s.heap.objs.size+1:=jm ..;have e2:(sW s.heap o1 o2).objs.size=s.heap.objs.size+2:=by rw[jm,e1]
 have e3:(sS s.heap o1 o2).objs.size=s.heap.objs.size+3:=by rw[jm,e2]
 have e4:(tI s.heap o1 o2).objs.size=s.heap.objs.size+4:=by rw[jm,e3]
 have r5:(nQ s.heap o1 o2).get? (tI s.heap o1 o2).objs.size=some _:=cm _ rfl;have r4:(nQ s.heap o1 o2).get? (sS s.heap o1 o2).objs.size=some _:=al _ (cm _ rfl);have r3:(nQ s.heap o1 o2).get? (sW s.heap o1 o2).objs.size=some _:=al _ (al _ (cm _ rfl));have r2:(nQ s.heap o1 o2).get? (tE s.heap o1).objs.size=some o2:=al _ (al _ (al _ (cm _ f2)));have r1:(nQ s.heap o1 o2).get? s.heap.objs.size=some o1:=al _ (al _ (al _ (al _ (cm _ f1))));show _/\_;rw[e2,e3,e4]at r5;rw[e1,e2]at r3;rw[e3]at r4;rw[e1]at r2;rw[e4];exact⟨⟨_,r5,rfl⟩,h _ r5 r3 r4 r1 r2 λc o q=>al _ (al _ (al _ (al _ (al _ q))))⟩
def gM(f:Bool)(K:ae)(H:Hp)(a:Addr)(xs:List V):Prop:=match f with
 |true=>bZ K H a xs
 |false=>bS K H a xs
def kD(f:Bool)(it a:Addr)(i:Nat)(h:Heap):Prop:=match f with
 |true=>h.IsTupleIter it a i
 |false=>h.IsListIter it a i
def nS(f:Bool)(a:Addr)(items:Array Value)(h:Heap):Prop:=match f with
 |true=>h.IsTuple a items
 |false=>h.IsList a items
def yU(f:Bool)(a:Addr):Obj:=match f with
 |true=>{cls:=.type "tuple_iterator",data:=.fields #[.ref a,.int 0 0]}
 |false=>{cls:=.type "list_iterator",data:=.fields #[.ref a,.int 0 0]}
section
variable{X:Cx}{AM:List (Addr×Obj)}{σ:St}{H:Hp}{s:Shared}{a:Addr}{xs ys:List V}{f:Bool}
theorem aD.seqF(I:aD X AM σ H s)(h:gM f X.K H a xs):∃its:AE,bA xs its/\nS f a its.toArray s.heap/\xs.length<=sizeLine:=by
 cases f with
 |true=>
  obtain⟨its,r,p,z⟩:=I.tuple h;exact⟨its,r,p,z⟩
 |false=>
  obtain⟨its,r,p,z⟩:=I.list h;exact⟨its,r,p.isList,z⟩
theorem aD.seqF_inj(I:aD X AM σ H s)(h:gM f X.K H a xs)(h':gM f X.K H a ys):xs=ys:=by
 cases f with
 |true=>exact I.tuple_inj h h'
 |false=>exact I.list_inj h h'
theorem aD.apart{b:Addr}(I:aD X AM σ H s)(fb:eF X AM H b)(h:gM f X.K H a xs):a≠b:=by
 have viaK:∀{o:Obj},X.K.lookup a=some o->a≠b:=λ{o} q e=>by
  have hb:X.base.get? b=some o:=e▸I.ok.mod.kin a o q;rcases fb.2.2.2.1 with z |z
  .exact I.ok.noex b o hb z
  .exact absurd (bn (ao (I.ok.bs b o hb).1) z) (dq _)
 cases f with
 |true=>
  rcases h with(h |⟨o,h⟩) |⟨o,_,_,q,_⟩
  .exact dW h fb.1
  .exact dW h fb.1
  .exact viaK q
 |false=>
  rcases h with(h |⟨o,h⟩) |⟨o,_,_,q,_⟩
  .exact dW h fb.1
  .exact dW h fb.1
  .exact viaK q
end
theorem sF{prog:Program}{w:ah}{A:ai}(f:Bool)(hh:A.handled=none)(it a:Addr)(hne:a≠it)(items:Array Value):
  ia prog w A it [it,a] items.size (λi v=>items[i]?=some v) (λi h=>kD f it a i h/\nS f a items h):=by
 cases f with
 |true=>exact Cr hh it a hne items
 |false=>exact Draws.list hh it a hne items
theorem Aj(f:Bool)(a:Addr)(items:Array Value):qC a (yU f a) (nS f a items):=by
 cases f with
 |true=>exact λprog w A E s Q g q=>yt g q
 |false=>exact λprog w A E s Q g q=>oy g q
theorem kD.keep{f:Bool}{it a:Addr}{i:Nat}{h h':Heap}(x:kD f it a i h)(k:∀o,h.get? it=some o->h'.get? it=some o):kD f it a i h':=by
 cases f with
 |true=>obtain⟨o,e,r⟩:=x;exact⟨o,k o e,r⟩
 |false=>obtain⟨o,e,r⟩:=x;exact⟨o,k o e,r⟩
theorem nS.keep{f:Bool}{a:Addr}{items:Array Value}{h h':Heap}(x:nS f a items h)(k:∀o,h.get? a=some o->h'.get? a=some o):nS f a items h':=by
 cases f with
 |true=>obtain⟨o,e,r⟩:=x;exact⟨o,k o e,r⟩
 |false=>obtain⟨o,e,r⟩:=x;exact⟨o,k o e,r⟩
theorem kD.obj{f:Bool}{it a:Addr}{i:Nat}{h:Heap}(x:kD f it a i h):∃o,h.get? it=some o/\∀v,o.data≠.cell v:=by
 cases f with
 |true=>obtain⟨o,e,_,d⟩:=x;exact⟨o,e,λv z=>by rw[d]at z;cases z⟩
 |false=>obtain⟨o,e,_,d⟩:=x;exact⟨o,e,λv z=>by rw[d]at z;cases z⟩
theorem Gc(f:Bool)(a it:Addr){h:Heap}(e:h.get? it=some (yU f a)):kD f it a 0 h:=by
 cases f with
 |true=>exact⟨_,e,rfl,rfl⟩
 |false=>exact⟨_,e,rfl,rfl⟩
theorem Wc(f:Bool)(a:Addr):(yU f a).isFreed=false:=by cases f<;>rfl
def Lk (K : ae) (f1 : Bool) (a : Addr) (f2 : Bool) (b : Addr) : It :=
  ⟨λi H => ∃ xs ys x y, gM f1 K H a xs ∧ gM f2 K H b ys ∧ xs[i]? = some x ∧ ys[i]? = some y,
   λi H v H' => ∃ p x y, H p = none ∧ v = .ref p ∧ H' = aM H p (.tup [x, y]) ∧ (∀ xs, gM f1 K H a xs → xs[i]? = some x) ∧ ∀ ys, gM f2 K H b ys → ys[i]? = some y,
   λi H => ∃ xs ys, gM f1 K H a xs ∧ gM f2 K H b ys ∧ (i = xs.length ∨ (i < xs.length ∧ i = ys.length))⟩
structure sT(z TI TO i1 i2:Addr):Prop where
 tiz:TI≠z
 toz:TO≠z
 i1z:i1≠z
 i2z:i2≠z
 tito:TI≠TO
 ti1:TI≠i1
 ti2:TI≠i2
 to1:TO≠i1
 to2:TO≠i2
 i12:i1≠i2
theorem sT.ap{z TI TO i1 i2 a b:Addr}(r:sT z TI TO i1 i2)(h:∀c∈[z,TI,TO,i1,i2],a≠c)(g:∀c∈[z,TI,TO,i1,i2],b≠c):qJ z TI TO i1 i2 [i1,a] [i2,b] where
 tiz:=r.tiz
 toz:=r.toz
 tito:=r.tito
 ti1:=r.ti1
 ti2:=r.ti2
 z1:=λq=>by simp at q;rcases q with q |q;exact r.i1z q.symm;exact h z (by simp) q.symm
 z2:=λq=>by simp at q;rcases q with q |q;exact r.i2z q.symm;exact g z (by simp) q.symm
 to1:=λq=>by simp at q;rcases q with q |q;exact r.to1 q;exact h TO (by simp) q.symm
 to2:=λq=>by simp at q;rcases q with q |q;exact r.to2 q;exact g TO (by simp) q.symm
 i12:=λq=>by simp at q;rcases q with q |q;exact r.i12 q;exact g i1 (by simp) q.symm
 i21:=λq=>by simp at q;rcases q with q |q;exact r.i12 q.symm;exact h i2 (by simp) q.symm
 m1:=by simp
 m2:=by simp
theorem Is{P:Program}{w:ah}{K:ae}{elts:List af}{x1:Nat}{tp:ag}(f1 f2:Bool)(a b z TI TO i1 i2:Addr)(zr:sT z TI TO i1 i2):
  nP P w K (.Tuple elts x1 tp) (Lk K f1 a f2 b) [z,TI,TO,i1,i2] z (λi h=>dn h z TI TO .none/\cq h TI (.ref i1) (.ref i2)/\(∃u v,cq h TO u v)/\kD f1 i1 a i h/\kD f2 i2 b i h) where
 mem:=by simp
 obj:=λi h st c hc=>by
  obtain⟨e1,e2,⟨u,v,e3⟩,e4,e5⟩:=st;simp at hc;rcases hc with q |q |q |q |q
  .subst q
   exact⟨_,e1,λv z=>nomatch z⟩
  .subst q
   exact⟨_,e2,λv z=>nomatch z⟩
  .subst q
   exact⟨_,e3,λv z=>nomatch z⟩
  .subst q
   exact e4.obj
  .subst q
   exact e5.obj
 keep:=λi h h' st k=>by
  obtain⟨e1,e2,⟨u,v,e3⟩,e4,e5⟩:=st;exact⟨k z (by simp) _ e1,k TI (by simp) _ e2,⟨u,v,k TO (by simp) _ e3⟩,e4.keep λo q=>k i1 (by simp) o q,e5.keep λo q=>k i2 (by simp) o q⟩
 item:=by
  intro X hP hw hK hc i AM s σ H E I hf st hg;subst hP hw hK;obtain⟨xs,ys,x,y,hx,hy,ex,ey⟩:=hg;obtain⟨its,r1,p1,_⟩:=I.seqF hx;obtain⟨jts,r2,p2,_⟩:=I.seqF hy;obtain⟨ux,gx,rx⟩:=r1.get ex;obtain⟨uy,gy,ry⟩:=r2.get ey;obtain⟨e1,e2,⟨u,v,e3⟩,e4,e5⟩:=st;have na:∀c∈[z,TI,TO,i1,i2],a≠c:=λc hc=>I.apart (hf c hc) hx;have nb:∀c∈[z,TI,TO,i1,i2],b≠c:=λc hc=>I.apart (hf c hc) hy;have hd:X.A.in1.handled=none:=I.ok.hd hc;have D1:=sF (prog:=X.prog) (w:=X.w) f1 hd i1 a (na i1 (by simp)) its.toArray;have D2:=sF (prog:=X.prog) (w:=X.w) f2 hd i2 b (nb i2 (by simp)) jts.toArray;refine Zl D1 D2 (zr.ap na nb) e1 e2 e3 ⟨e4,p1⟩ ⟨e5,p2⟩ (ck.mp gx).1 (ck.mp gy).1 λh1 tk vx vy px py q1 q2 q3 q4 q5 k1=>⟨_,rfl,?_⟩;have ex':vx=ux:=by
   have:its[i]?=some vx:=by simpa using px
   rw[gx]at this;exact(bj this).symm
  have ey':vy=uy:=by
   have:jts[i]?=some vy:=by simpa using py
   rw[gy]at this;exact(bj this).symm
  subst ex' ey';have lt:∀c∈[z,TI,TO,i1,i2],c≠s.heap.objs.size:=λc hc=>by
   have:∃o,s.heap.get? c=some o:=by
    simp at hc;rcases hc with q |q |q |q |q
    .exact⟨_,q▸e1⟩
    .exact⟨_,q▸e2⟩
    .exact⟨_,q▸e3⟩
    .obtain⟨o,ho,_⟩:=e4.obj
     exact⟨o,q▸ho⟩
    .obtain⟨o,ho,_⟩:=e5.obj
     exact⟨o,q▸ho⟩
   obtain⟨o,ho⟩:=this;exact cf (ao ho)
  refine wpAny_letOwnedTupleGo_zip (s:={s with heap:=h1,toks:=tk}) q1 λh2 z2 sb2=>?_;have t2:h2.get? s.heap.objs.size=some {cls:=.type "tuple",data:=.seq #[vx,vy]}:=(sb2.2 _ (lt z (by simp)).symm).trans q5;have I2:aD X AM σ (aM H s.heap.objs.size (.tup [x,y])) {s with heap:=h2,toks:=tk}:=
   I.turnedNew hf (λc o hc q=>(sb2.2 c (λe=>hc (by simp[e]))).trans (k1 c o (λe=>hc (by simp[e])) (λe=>hc (by simp[e])) (λe=>hc (by simp[e])) (λe=>hc (by simp[e])) q)) (ak _)
    ⟨⟨by show 2<=sizeLine;decide,_,t2,rfl⟩,[vx,vy],.cons rx (.cons ry .nil),⟨_,t2,rfl,_,rfl⟩⟩
  refine⟨.ref s.heap.objs.size,_,I2,rfl,⟨_,x,y,I.hok.fresh (ak _),rfl,rfl,λzs hz=>by rw[I.seqF_inj hz hx];exact ex,λzs hz=>by rw[I.seqF_inj hz hy];exact ey⟩,
   ⟨z2,(sb2.2 _ zr.tiz).trans (k1 _ _ zr.tiz zr.tito zr.ti1 zr.ti2 e2),⟨_,_,(sb2.2 _ zr.toz).trans q2⟩,q3.1.keep λo q=>(sb2.2 _ zr.i1z).trans q,q4.1.keep λo q=>(sb2.2 _ zr.i2z).trans q⟩,λc hc=>?_⟩
  rw[bP (lt c hc)];exact(hf c hc).1
 done:=by
  intro X hP hw hK hc i AM s σ H E I hf st hg;subst hP hw hK;obtain⟨xs,ys,hx,hy,fin⟩:=hg;obtain⟨its,r1,p1,_⟩:=I.seqF hx;obtain⟨jts,r2,p2,_⟩:=I.seqF hy;have l1:=r1.length;have l2:=r2.length;obtain⟨e1,e2,⟨u,v,e3⟩,e4,e5⟩:=st;have na:∀c∈[z,TI,TO,i1,i2],a≠c:=λc hc=>I.apart (hf c hc) hx;have nb:∀c∈[z,TI,TO,i1,i2],b≠c:=λc hc=>I.apart (hf c hc) hy;have hd:X.A.in1.handled=none:=I.ok.hd hc;have D1:=sF (prog:=X.prog) (w:=X.w) f1 hd i1 a (na i1 (by simp)) its.toArray;have D2:=sF (prog:=X.prog) (w:=X.w) f2 hd i2 b (nb i2 (by simp)) jts.toArray;refine Al D1 D2 (zr.ap na nb) e1 e2 e3 ⟨e4,p1⟩ ⟨e5,p2⟩ (by rw[am,am,<-l1,<-l2];exact fin) λh' tk k=>⟨rfl,?_⟩;exact I.turnedL hf λc o hc q=>k c o (λe=>hc (by simp[e])) (λe=>hc (by simp[e])) (λe=>hc (by simp[e])) (λe=>hc (by simp[e])) q
 self:=λ_ _ _ _ _ st h=>wpAny_pyIter_zip st.1 h
section
variable{X:Cx}{elts:List af}{x1:Nat}{tp:ag}
def L5(K:ae)(tl:TA):TI:=λσ H R=>tl σ H λvs H1=>∃f1 a f2 b xs ys,vs=[.ref a,.ref b]/\gM f1 K H1 a xs/\gM f2 K H1 b ys/\R (Lk K f1 a f2 b) H1
theorem Vy{l r:af}{tl:TA}{p pos:ag}(hg:Gl X "zip")(hm:X.mg "zip"=none)(hl:PA X [l,r] tl)(hs:starEach [l,r] X.env=[(false,eval l X.env),(false,eval r X.env)]:=by rfl)(hs2:starEach [r] X.env=[(false,eval r X.env)]:=by rfl):
  PI X (.Tuple elts x1 tp) (.Call (.Name "zip" p) [l,r] [] pos) (L5 X.K tl):=by
 intro AM s σ H R I h;refine Call_ (nC I hg hm boot_zip (nh (bB (hl pos AM s σ H _ I h) λus s1 hq=>?_) (by rw[hs,hs2]) (by rw[hs2];rfl)));rcases hq with⟨vs,H1,I1,r1,q1⟩;obtain⟨f1,a,f2,b,xs,ys,rfl,hx,hy,q⟩:=q1;obtain⟨u,v,rfl,ru,rv⟩:=pY r1;cases ru;cases rv;obtain⟨its,_,p1,_⟩:=I1.seqF hx;obtain⟨jts,_,p2,_⟩:=I1.seqF hy;refine Tl (Aj f1 a its.toArray) (Aj f2 b jts.toArray) (λh g=>g.keep λo z=>al _ z) p1 p2 (Wc _ _) (Wc _ _) λh' e1 e2 e3 e4 e5 k=>?_;refine wpAny_pyIter_zip (s:={s1 with heap:=h'}) e1 ?_;have zr:sT (s1.heap.objs.size+4) (s1.heap.objs.size+2) (s1.heap.objs.size+3) s1.heap.objs.size (s1.heap.objs.size+1):=by
  generalize s1.heap.objs.size=n;have g:∀i j:Nat,i≠j->((n:Nat)+i:Nat)≠n+j:=λi j h=>by omega
  exact⟨g 2 4 (by decide),g 3 4 (by decide),g 0 4 (by decide),g 1 4 (by decide),g 2 3 (by decide),g 2 0 (by decide),g 2 1 (by decide),g 3 0 (by decide),g 3 1 (by decide),g 0 1 (by decide)⟩
 refine⟨_,[s1.heap.objs.size+4,s1.heap.objs.size+2,s1.heap.objs.size+3,s1.heap.objs.size,s1.heap.objs.size+1],_,_,H1,rfl,I1.kept (t':=s1.toks) k,Is f1 f2 a b _ _ _ _ _ zr,⟨e1,e2,⟨_,_,e3⟩,Gc f1 a _ e4,Gc f2 b _ e5⟩,λc hc=>?_,q⟩;have hb:s1.heap.objs.size<=c:=by
  simp only[bh,jn,or_false]at hc;rcases hc with q |q |q |q |q
  all_goals rw[q]
  all_goals first |exact ak _ |exact Nat.le_add_right _ _
 exact I1.fpOk hb (I1.hok.fresh hb)
end
theorem Ny(K:ae):bo K (.type "int") (.type "bool")=some false:=by
 unfold bo PySem.W.kitCls;rw[if_neg (by decide)];show(if PySem.W.kitMeta "bool"=true then PySem.W.subIn K (.type "int") (.type "bool")else none)=some false;rw[if_pos (by decide+kernel)];show(fastBuiltinMro "int").map (·.contains (.type "bool"))=some false;decide+kernel
structure jX(K:ae)(x qual:Str)(st:Stmt)(f:Addr)(fd:ay)(ds:Array Value):Prop where
 ex:∃(oc:Value)(od:AG)(T:Addr)(oT:Obj)(n:Nat)(kV doc pm:Value)(an:AG)(cdv ct:Value)(osl:Array AF),
  fd=cc x qual (dG st) (cG st) (bK st) (.ref T) kV doc pm an cdv ct/\K.lookup f=some ⟨oc,od,.func fd,osl⟩/\eh K cdv qual=true/\K.lookup T=some oT/\oT.data=.seq ds n
 kp:ce K (.ref f)=true
section
variable{P:Program}{w:ah}{K:ae}{mg:Str->AF}{base:Heap}
theorem jX.binds{x qual:Str}{st:Stmt}{f:Addr}{fd:ay}{ds:Array Value}{ps:List Str}{dd:AE}(F:jX K x qual st f fd ds)
  (h:∀(T:Addr)(kV doc pm:Value)(an:AG)(cdv ct:Value)(us:AE),(us++dd).length=ps.length->
   ∃k,bindArgs (cc x qual (dG st) (cG st) (bK st) (.ref T) kV doc pm an cdv ct) ⟨us,[]⟩=seqItems? (.ref T) >>= k/\k (some ds)=pure (ps.zip (us++dd))):eM K fd ps dd:=by
 obtain⟨oc,od,T,oT,n,kV,doc,pm,an,cdv,ct,osl,rfl,lk,hcd,lT,hT⟩:=F.ex;intro s us hK hl;obtain⟨k,h1,h2⟩:=h T kV doc pm an cdv ct us hl;exact PySem.W.binds_K hK rfl lT hT h1 h2
theorem Bg{x qual:Str}{st:Stmt}{f T:Addr}{oT:Obj}{n:Nat}{ds:Array Value}{oc:Value}{od an:AG}{osl:Array AF}{kV doc pm cdv ct:Value}(l:K.lookup f=some ⟨oc,od,.func (cc x qual (dG st) (cG st) (bK st) (.ref T) kV doc pm an cdv ct),osl⟩)
  (c:eh K cdv qual=true)(k:ce K (.ref f)=true)(lT:K.lookup T=some oT)(hT:oT.data=.seq ds n):jX K x qual st f (cc x qual (dG st) (cG st) (bK st) (.ref T) kV doc pm an cdv ct) ds:=
 ⟨⟨oc,od,T,oT,n,kV,doc,pm,an,cdv,ct,osl,rfl,l,c,lT,hT⟩,k⟩
end
theorem Di{X:Cx}{sc:Scope}{own:List Str}{cap:List (Nat×Str)}(so:Scope)(N:List Str)(hso:X.env.scope=so)(hN:X.N=N)(kind:sc.kind=.function)(names:∀y∈sc.names,y.2=.local->sc.names.lookup y.1=some .local)
  (nocell:∀y∈sc.names,y.2≠.cell)(free:∀y∈sc.names,y.2=.free->so.names.lookup y.1=some .cell)(at':∀p∈cap,N[p.1]?=some p.2)(hcap:∀p∈cap,sc.names.lookup p.2=some .free):gG X sc own cap:=
 ⟨kind,names,nocell,λy hy e=>by show X.env.scope.names.lookup y.1=_;rw[hso];exact free y hy e,λp hp=>by rw[hN];exact at' p hp,hcap⟩
theorem wC(n d:Nat):HT.sIx (n+1) d (some (-1))=n:=by
 unfold HT.sIx;simp;omega
section
variable{X:Cx}
end
theorem dH.has{P:Program}{w:ah}{H:Hp}{h:Heap}{a:Addr}{o:HO}(x:dH P w H h a o):∃u,h.get? a=some u:=by
 cases o with
 |lst xs=>obtain⟨_,_,_,_,e⟩:=x;exact⟨_,e⟩
 |tup xs=>obtain⟨_,_,_,u,e,_⟩:=x;exact⟨u,e⟩
 |dK kvs=>obtain⟨_,_,_,_,o,_,_,e,_⟩:=x;exact⟨_,e⟩
 |dT kvs=>obtain⟨_,_,_,_,o,_,_,e,_⟩:=x;exact⟨_,e⟩
 |set S n=>obtain⟨o,_,_,_,e,_⟩:=x;exact⟨_,e⟩
 |ins C dx fs=>obtain⟨_,_,_,e,_⟩:=x;exact⟨_,e⟩
 |own y=>exact x
 |xd fs=>obtain⟨_,⟨_,_,_,e,_⟩,_⟩:=x;exact⟨_,e⟩
 |rng lo hi=>obtain⟨_,_,_,e⟩:=x;exact⟨_,e⟩
 |frz ob u=>obtain⟨e,_⟩:=x;exact⟨_,e⟩
 |tbl ps=>exact⟨_,show h.get? a=some _ from x⟩
 |met f y=>exact⟨_,show h.get? a=some _ from x⟩
 |ext φ=>exact x.2.1
abbrev cL:AE:=[.type "ValueError",.type "Exception",.type "BaseException",.type "object"]
theorem wF{K:ae}{h:Heap}{C:Addr}{bmB:AE}{newId:String}(X:K.In h)(q:br K C bmB newId=true):
  ∃bm N nm qn bs hdct sn sub ab col dd k0 k1 k2 k3 k5 mN,h.get? C=some (excClassObj nm qn C N bs bm hdct sn sub ab col dd k0 k1 k2 k3 k5 newId)/\h.Ns N mN/\mN "__init__"=none/\OwnTail h bmB bm:=by
 unfold br at q;split at q
 .rename_i dd cd sl ho
  split at q
  .rename_i C' bm k0 k1 k2 k3 n k5 hm hs
   simp only[dm,beq_iff_eq,ur]at q;obtain⟨⟨⟨⟨⟨z1,z2⟩,hdel⟩,ht⟩,hok⟩,hni⟩:=q;subst z1 z2;obtain⟨nm,bs,mro,ns,qn,hd,sn,sub,ab,col,del⟩:=cd;dsimp only at hm hdel hok hni;subst hm hdel;have hsl:sl=#[k0,k1,k2,k3,some (.builtin n),k5]:=by
    obtain⟨l⟩:=sl;simp only at hs;rw[hs]
   subst hsl;refine⟨bm,ns,nm,qn,bs,hd,sn,sub,ab,col,dd,k0,k1,k2,k3,k5,_,X _ _ ho,.of_isNs (ut X hok),PySem.W.nsMap_none_of_in X hok hni,yu X ht⟩
  .cases q
 .cases q
def aN(P:Program)(w:ah):fU:=λouter H s E e s'=>∃(x C t:Addr)(B:Heap)(H':Hp),e=.ref x/\s'.os=s.os/\fh s'.gens/\Un (bV outer) [] H H' s.heap s'.heap/\dF P w H' s'.heap/\
 Heap.FlyingW B outer x (.ref C) (.ref t) s'.heap/\(∀b o,s'.heap.get? b=some o->(∃u,H' b=some u)\/(∃o',s.heap.get? b=some o'/\b∉bV outer)->B.get? b=some o)/\E (.ref C) none H'
theorem Xp{P:Program}{w:ah}{K:ae}{mg:Str->AF}{base:Heap}{N:List Str}{qual:Str}{scope:Scope}{f:Addr}{cd:Value}{A:ai}{outer:List Env}{AN:Shared}{AO:Hp}{E:XK}
  {x:Str}{C:Addr}{txt:Str}{j:Nat}{np p1 cpos pos:ag}(hg:Gl (aR (aN P w) P w K mg base N qual scope f cd A outer AN AO E) x)(hm:mg x=some (.ref C))(hx:br K C cL "ValueError.__new__"=true)
  (hd:(x==("__debug__":Str))=false:=by decide):
  PS (aR (aN P w) P w K mg base N qual scope f cd A outer AN AO E) (.Raise (some (.Call (.Name x np) [.Constant (.str txt) j p1] [] cpos)) none pos) (λ_ _ H=>E (.ref C) none H):=by
 intro AM s σ H D I h;obtain⟨bm,Nn,nm,qn,bs,hdct,sn,sub,ab,col,dd,k0,k1,k2,k3,k5,mN,hC,hN,hni,T⟩:=wF I.ok.mod.kin hx;refine wpAny_Raise_call_subT (C:=C) (nm:=nm) (q:=qn) (N:=Nn) (bs:=bs) (bm:=bm) (hdct:=hdct) (sn:=sn) (sub:=sub) (ab:=ab) (col:=col) (dd:=dd) (k0:=k0) (k1:=k1) (k2:=k2) (k3:=k3) (k5:=k5)
  uu (mN:=mN) (T.hasType (by decide)) (I.ok.hd rfl) rfl hni (lN I hg hm ⟨rfl,?_⟩ hd)
 refine xo (bB ((eR Qg jA) cpos AM s σ H (λvs H1=>vs=[.str txt]/\H1=H) I ⟨rfl,rfl⟩) λus s2 q2=>?_);obtain⟨vs,H2,I2,r2,rfl,rfl⟩:=q2;have l2:=r2.length;refine⟨rfl,by rw[<-l2];show 1<=sizeLine;decide,I2.bk _ _ hC,hN.keeps I2.bk,T.keeps I2.bk,λh' e made=>?_⟩
 --the frame is left
 have stk:(aR (aN P w) P w K mg base N qual scope f cd A outer AN AO E).stack=envOfC qual scope AN.heap.objs.size f cd::outer:=rfl;have nfr:∀{b u},H2 b=some u->b∉bV (envOfC qual scope AN.heap.objs.size f cd::outer):=λ{b u} q z=>by
  rw[I2.stkFree b z]at q;cases q
 have nL:∀{b o},AN.heap.get? b=some o->b∉bV outer->b∉bV (envOfC qual scope AN.heap.objs.size f cd::outer):=λ{b o} q z y=>by
  rcases bh.mp (I2.stkSub b y)with g |g
  .exact absurd (bn (ao q) I2.ok.above) (by rw[g];exact dq _)
  .exact z g
 refine wpAny_leaves_madeW (base:=rl s2.heap (bV (envOfC qual scope AN.heap.objs.size f cd::outer))) (h:=s2.heap) (s:={s2 with heap:=h'}) I2.ok.frames rfl (λb o q=>wn _ q)
  (PySem.W.funFrames_hide I2.stack λenv he b hb=>ke.mpr ⟨env,he,hb⟩) made λh'' t fl tup nb ups=>?_
 have keepB:∀b o,s2.heap.get? b=some o->b∉bV (envOfC qual scope AN.heap.objs.size f cd::outer)->h''.get? b=some o:=λb o q z=>fl.1 b o (rm _ q z);have upS:∀b o,s2.heap.get? b=some o->(∀vs,o.data≠.fields vs)->∃sl,h''.get? b=some {o with slots:=sl}:=λb o q z=>ups b o (made.keeps b o q) z;refine⟨e,C,t,_,H2,rfl,I2.os,I2.bare,⟨λb o q n hb _=>?_,λb o q n hb _=>?_,λb o q n _=>I2.base.free b o q n (by intro z;cases z),λb o q _=>?_,I2.base.tups,I2.base.frzs,I2.base.tbls⟩,λb u q=>?_,fl,λb o q z=>?_,h⟩
 .exact keepB b o (I2.base.keep b o q n hb (by intro z;cases z)) (nL q hb)
 .obtain⟨sl,g⟩:=I2.base.slot b o q n hb (by intro z;cases z)
  obtain⟨_,o',ho',hd'⟩:=I2.ok.funs.mem hb;have eo:o'=o:=by
   have dL:AN.heap.get? b=some o':=ho';rw[q]at dL;exact(bj dL).symm
  subst eo;obtain⟨sl',g'⟩:=upS b _ g hd';exact⟨sl',g'⟩
 .obtain⟨o',g⟩:=I2.base.there b o q (by intro z;cases z)
  by_cases c:b∈bV (envOfC qual scope AN.heap.objs.size f cd::outer)
  .obtain⟨_,o2,dL,hd2⟩:=I2.stack.mem c
   obtain⟨sl,g'⟩:=upS b o2 dL hd2;exact⟨_,g'⟩
  .exact⟨o',keepB b o' g c⟩
 .refine(I2.hok b u q).stay (λc v hc g=>keepB c v g ?_) (λ_ g=>g) λ_ _ g=>g
  rcases hc with z |z
  .rw[z]
   exact nfr q
  .exact nfr z
 .have go:∀{o2},s2.heap.get? b=some o2->b∉bV (envOfC qual scope AN.heap.objs.size f cd::outer)->(rl s2.heap (bV (envOfC qual scope AN.heap.objs.size f cd::outer))).get? b=some o:=λ{o2} g n=>by
   have:=keepB b o2 g n;have q':h''.get? b=some o:=q;rw[q']at this;cases this;exact rm _ g n
  rcases z with⟨u,z⟩|⟨o',z,nz⟩
  .obtain⟨o2,g⟩:=(I2.hok b u z).has
   exact go g (nfr z)
  .obtain⟨o2,g⟩:=I2.base.there b o' z (by intro z;cases z)
   exact go g (nL z nz)
section
variable{X:Cx}{AM:List (Addr×Obj)}{σ:St}{H H':Hp}{s s':Shared}
theorem aD.flown{B h5:Heap}(I:aD X AM σ H s)(os:s'.os=s.os)(bare:fh s'.gens)(un:Un (bV X.stack) [] H H' s.heap s'.heap)(hok:dF X.prog X.w H' s'.heap)
  (cov:∀b o,s'.heap.get? b=some o->(∃u,H' b=some u)\/(∃o',s.heap.get? b=some o'/\b∉bV X.stack)->B.get? b=some o)(fr:∀b∈bV X.stack,H' b=none)
  (st:B.StaysIn h5)(up:s'.heap.UpToSlots h5):aD X AM σ H' {s' with heap:=h5}:=by
 have nofr:∀{b u},H' b=some u->b∉bV X.stack:=λ{b u} q z=>by
  rw[fr b z]at q;cases q
 have frame:∀b∈bV X.stack,∃o sl,s.heap.get? b=some o/\H b=none/\h5.get? b=some {o with slots:=sl}:=λb hb=>by
  obtain⟨_,o,ho,hd⟩:=I.stack.mem hb;have hn:=I.stkFree b hb;obtain⟨sl,g⟩:=un.slot b o ho hn hb (by intro z;cases z);obtain⟨sl',g'⟩:=up b _ g hd;exact⟨o,sl',ho,hn,g'⟩
 refine I.call' (s':={s' with heap:=h5}) (ch:=[]) os ⟨λb o q n hb _=>?_,λb o q n hb _=>?_,un.free,λb o q _=>?_,un.tups,un.frzs,un.tbls⟩ (λb u q=>?_) bare λb z=>nomatch z
 .exact st b o (cov b o (un.keep b o q n hb (by intro z;cases z)) (.inr ⟨o,q,hb⟩))
 .obtain⟨o',sl,g1,_,g2⟩:=frame b hb
  rw[q]at g1;cases g1;exact⟨sl,g2⟩
 .by_cases c:b∈bV X.stack
  .obtain⟨o',sl,_,_,g2⟩:=frame b c
   exact⟨_,g2⟩
  .obtain⟨o',g⟩:=un.there b o q (by intro z;cases z)
   exact⟨o',st b o' (cov b o' g (.inr ⟨o,q,c⟩))⟩
 .refine(hok b u q).stay (λc v hc g=>st c v (cov c v g (.inl ?_))) (λ_ g=>g) λ_ _ g=>g
  rcases hc with z |z
  .exact⟨u,by rw[z];exact q⟩
  .exact⟨_,z⟩
end
section
variable{X:Cx}{k:Nat}{f:Addr}{fd:ay}{ps:List Str}{sp:Sp}{dvs:List V}{ds:AE}{E:XK}{x:Str}{p pos:ag}{e:af}{es:List af}{t:TA}
theorem Bv{AM:List (Addr×Obj)}{σ:St}{H:Hp}{s:Shared}{Q:VK}{us:AE}{vs:List V}{Ex:Value->Shared->Prop}(F:cK X.prog X.w X.K X.mg X.base (aN X.prog X.w) k f fd ps sp)(hr:bW k X.A)(hb:eM X.K fd ps ds)(hd:bA dvs ds)
  (I:aD X AM σ H s)(r:bA vs us)(h:sp (vs++dvs) H Q E)(hx:∀e s',aN X.prog X.w X.stack H s E e s'->Ex e s'):wpAny (model X.prog X.w) X.A (call (.ref f) us) (EP X AM σ Q) Ex s:=by
 have r2:bA (vs++dvs) (us++ds):=r.append hd;have hl:(us++ds).length=ps.length:=by rw[<-r2.length];exact F.len _ _ _ _ h
 refine ni (jh (F.run X.A X.stack s H ⟨us,[]⟩ (us++ds) (vs++dvs) Q E hr I.env0 (hb s us I.kIn hl) r2 h) λrr s' hq=>?_);cases rr with
 |error e=>exact hx e s' hq
 |ok fl=>
  cases fl with
  |ret u=>exact I.after hq
  |next=>exact de hq
  |brk=>exact de hq
  |cont=>exact de hq
theorem Dq{AM:List (Addr×Obj)}{σ:St}{H:Hp}{s:Shared}{Q:VK}{Ex:Value->Shared->Prop}(hxe:X.xe=λ_ _=>False)(F:cK X.prog X.w X.K X.mg X.base (aN X.prog X.w) k f fd ps sp)(hr:bW k X.A)(hg:Gl X x)(hm:X.mg x=some (.ref f))(hk:ce X.K (.ref f)=true)
  (hb:eM X.K fd ps ds)(hd:bA dvs ds)(ha:PA X (e::es) t)(I:aD X AM σ H s)(h:t σ H λvs H1=>sp (vs++dvs) H1 Q E)
  (hx:∀s1 H1 e s',aD X AM σ H1 s1->aN X.prog X.w X.stack H1 s1 E e s'->Ex e s')
  (hdb:(x==("__debug__":Str))=false:=by decide)(he:starEach (e::es) X.env=(false,eval e X.env)::starEach es X.env:=by rfl)(hpl:(backTo pos (starEach es X.env)).any (·.1)=false:=by rfl):
  wpAny (model X.prog X.w) X.A (eval (.Call (.Name x p) (e::es) [] pos) X.env) (EP X AM σ Q) Ex s:=by
 refine kh (lN I hg hm ?_ hdb);refine nj (h₀:=X.base) I.ok.mod.kin hk (cn (ha pos AM s σ H _ I h) (λus s1 q1=>?_) λ_ _ z=>?_) he hpl
 .obtain⟨vs,H1,I1,r,q⟩:=q1
  exact⟨I1.kIn,Bv F hr hb hd I1 r q λe s' c=>hx s1 H1 e s' I1 c⟩
 .rw[hxe]at z
  exact z.elim
end
section
variable{P:Program}{w:ah}{K:ae}{mg:Str->AF}{base:Heap}{CX:fU}
theorem fO.okX{x qual:Str}{st:Stmt}{f:Addr}{fd:ay}{N ps:List Str}{k:Nat}{sp:Sp}(F:fO K x qual st f fd)(S:fQ N ps (bK st))(len:∀vs H Q E,sp vs H Q E->vs.length=ps.length)
  (hbody:∀(cdv:Value)(A:ai)(outer:List Env)(s:Shared)(H:Hp)(vs:List V)(Q:VK)(E:XK),bW k (A.deeper (envOfC qual (bK st) s.heap.objs.size f cdv))->sp vs H Q E->
   ∃t,eA (aR CX P w K mg base N qual (bK st) f cdv A outer s H E) (cG st) t/\t {nx:=λ_ H'=>Q .non H',rt:=Q} (start N vs) H):cK P w K mg base CX (k+1) f fd ps sp:=by
 obtain⟨oc,od,kV,doc,pm,an,cdv,ct,osl,rfl,lk,hcd⟩:=F.ex;exact yB lk hcd S len λA outer s H vs Q E hr hsp=>hbody cdv A outer s H vs Q E hr hsp
theorem jX.okX{x qual:Str}{st:Stmt}{f:Addr}{fd:ay}{ds:Array Value}{N ps:List Str}{k:Nat}{sp:Sp}(F:jX K x qual st f fd ds)(S:fQ N ps (bK st))(len:∀vs H Q E,sp vs H Q E->vs.length=ps.length)
  (hbody:∀(cdv:Value)(A:ai)(outer:List Env)(s:Shared)(H:Hp)(vs:List V)(Q:VK)(E:XK),bW k (A.deeper (envOfC qual (bK st) s.heap.objs.size f cdv))->sp vs H Q E->
   ∃t,eA (aR CX P w K mg base N qual (bK st) f cdv A outer s H E) (cG st) t/\t {nx:=λ_ H'=>Q .non H',rt:=Q} (start N vs) H):cK P w K mg base CX (k+1) f fd ps sp:=by
 obtain⟨oc,od,T,oT,n,kV,doc,pm,an,cdv,ct,osl,rfl,lk,hcd,_,_⟩:=F.ex;exact yB lk hcd S len λA outer s H vs Q E hr hsp=>hbody cdv A outer s H vs Q E hr hsp
end
theorem E2{P:Program}{w:ah}{K:ae}{mg:Str->AF}{base:Heap}{N:List Str}{qual:Str}{scope:Scope}{f:Addr}{cd:Value}{A:ai}{outer:List Env}{AN:Shared}{AO:Hp}{E:XK}:
  iH (aN P w) (aR (aN P w) P w K mg base N qual scope f cd A outer AN AO E) E:=by
 intro AM σ H s e s' I c;obtain⟨x,C,t,B,H',rfl,os,bare,un,hok,fl,cov,hE⟩:=c;have fr:∀b∈bV (aR (aN P w) P w K mg base N qual scope f cd A outer AN AO E).stack,H' b=none:=λb hb=>by
  obtain⟨_,o,ho,hd⟩:=I.stack.mem hb;exact un.free b o ho (I.stkFree b hb) (by intro z;cases z)
 have nL:∀{b o},AN.heap.get? b=some o->b∉bV outer->b∉bV (envOfC qual scope AN.heap.objs.size f cd::outer):=λ{b o} q z y=>by
  rcases bh.mp (I.stkSub b y)with g |g
  .exact absurd (bn (ao q) I.ok.above) (by rw[g];exact dq _)
  .exact z g
 refine wpAny_leaves_onW (base:=B) I.ok.frames rfl fl λh' fl' up=>?_;have I5:=I.flown os bare un hok cov fr fl'.1 up;refine⟨x,C,t,B,H',rfl,os.trans I.os,bare,I5.base,I5.hok,fl',λb o q z=>?_,hE⟩;have go:∀{o2},B.get? b=some o2->B.get? b=some o:=λ{o2} g=>by
  have:=fl'.1 b o2 g;have q':h'.get? b=some o:=q;rw[q']at this;cases this;exact g
 rcases z with⟨u,z⟩|⟨o',z,nz⟩
 .obtain⟨o2,g⟩:=(hok b u z).has
  exact go (cov b o2 g (.inl ⟨u,z⟩))
 .obtain⟨o2,g⟩:=I.base.there b o' z (by intro z;cases z)
  obtain⟨o3,g3⟩:=un.there b o2 g (by intro z;cases z);exact go (cov b o3 g3 (.inr ⟨o2,g,nL z nz⟩))
section
variable{X:Cx}{AM:List (Addr×Obj)}{σ:St}{H:Hp}{s:Shared}
theorem qQ{M:fi}{A:ai}{E:Value->Shared->Prop}{i:Nat}{n:Str}{pos:ag}{Q:Unit->Shared->Prop}(I:aD X AM σ H s)(hN:X.N.Nodup)(hi:X.N[i]?=some n)(hk:X.env.scope.names.lookup n=some .local)
  (h:∀s',aD X AM (σ.set i none) H s'->Q () s'):wpAny M A (do bindName X.env n au;unbindBehindTheSuite X.env n pos) Q E s:=by
 obtain⟨m,hn,hl⟩:=id I.loc;have hcls:(X.env.scope.kind== .class||(X.env.scope.kind== .module&&X.env.locals !=X.env.globals))=false:=by rw[I.ok.kind];rfl
 have hiσ:i<σ.length:=by rw[I.len];exact(ck.mp hi).1
 have cne:=I.cne;refine wpAny_nameGoes_keeps hk hn hcls λh' v hn' hs=>?_;obtain⟨oL,_,_,hoL,_⟩:=id hn;refine h _ ⟨I.ok,I.os,I.bare,⟨λb o e n hb hx=>?_,λb o e n hb hx=>?_,I.base.free,λb o e hx=>?_,I.base.tups,I.base.frzs,I.base.tbls⟩,⟨_,hn',λj y v' e1 e2 e3=>?_⟩,λy c e=>?_,I.free,I.freeC,λp hp=>?_,λb ob e=>?_,by simpa using I.len⟩
 .exact(hs.2 b (cf (bn (ao e) I.ok.above))).trans (I.base.keep b o e n hb hx)
 .obtain⟨sl,e1⟩:=I.base.slot b o e n hb hx
  exact⟨sl,(hs.2 b (cf (bn (ao e) I.ok.above))).trans e1⟩
 .obtain⟨o',e1⟩:=I.base.there b o e hx
  exact⟨o',(hs.2 b (cf (bn (ao e) I.ok.above))).trans e1⟩
 .by_cases hj:j=i
  .subst hj
   rw[fx hiσ]at e2;cases e2
  .rw[ib (fw hj)]at e2
   obtain⟨u',r',q⟩:=hl j y v' e1 e2 e3;refine⟨u',r',?_⟩;rcases q with⟨k,e⟩|⟨k,c,e,z⟩
   .refine .inl ⟨k,?_⟩
    have:y≠n:=λe=>hj (vW hN e1 (e▸hi));simp[this,e]
   .exact .inr ⟨k,c,e,z.sameBut hs (cne y c e)⟩
 .obtain⟨w',z⟩:=I.cell y c e
  exact⟨w',z.sameBut hs (cne y c e)⟩
 .obtain⟨e,n,ne,nf,d⟩:=I.pin p hp
  exact⟨(hs.2 p.1 ne).trans e,n,ne,nf,d⟩
 .refine(I.hok b ob e).stay (λc w' hc q=>(hs.2 c ?_).trans q) (λ_ q=>q) λ_ _ q=>q
  have hfree:=I.free
  rintro rfl
  rcases hc with rfl |hc
  .rw[hfree]at e;cases e
  .rw[hfree]at hc;cases hc
end
abbrev Cx.mk1(X:Cx)(x:Addr)(l:List (Addr×Obj)):Cx:={X with A:=X.A.mark (some (.ref x)),calm:=false,pn:=l++X.pn,xe:=λ_ _=>False}
section
variable{X:Cx}{AM:List (Addr×Obj)}{σ:St}{H:Hp}{s:Shared}
theorem Cx.Ok.mk1(ok:X.Ok)(x:Addr)(l:List (Addr×Obj)):(X.mk1 x l).Ok:=
 ⟨ok.mod,ok.kind,ok.glob,ok.blt,ok.above,ok.inj,ok.has,ok.cab,λz=>(by cases z),ok.frames,ok.stk,ok.exf,ok.bs,ok.bsz,ok.noex,ok.exfs,ok.funs,ok.frf⟩
theorem aD.mk1(I:aD X AM σ H s)(x:Addr)(l:List (Addr×Obj))(h:∀p∈l,s.heap.get? p.1=some p.2/\H p.1=none/\p.1≠X.env.locals/\p.1∉X.fs/\∀v,p.2.data≠.cell v):aD (X.mk1 x l) AM σ H s:=
 ⟨I.ok.mk1 x l,I.os,I.bare,I.base,I.loc,I.cell,I.free,I.freeC,λp hp=>by
  rw[qd]at hp;exact(du.mp hp).elim (h p) (I.pin p),I.hok,I.len⟩
theorem aD.unmk1{x:Addr}{l:List (Addr×Obj)}(ok:X.Ok)(I:aD (X.mk1 x l) AM σ H s):aD X AM σ H s:=
 ⟨ok,I.os,I.bare,I.base,I.loc,I.cell,I.free,I.freeC,λp hp=>I.pin p (by rw[qd];exact cy _ hp),I.hok,I.len⟩
end
theorem Gg{a b c:Heap}(h1:a.UpToSlots b)(h2:b.UpToSlots c):a.UpToSlots c:=λx o q d=>by
 obtain⟨sl,g⟩:=h1 x o q d;obtain⟨sl',g'⟩:=h2 x _ g d;exact⟨sl',g'⟩
section
variable{X:Cx}{k:Nat}{f:Addr}{fd:ay}{ps:List Str}{sp:Sp}{dvs:List V}{ds:AE}{x:Str}{p pos pos1 pos2 pos3 pc:ag}{e:af}{es:List af}{t:TA}{c n:Str}{C:Addr}{i:Nat}{AS:Stmt}{body:List Stmt}{newId:String}
end
open PySem.W PySem.Calls PySem.Builtin PySem.Builtin.Getset_descriptor
section
variable{prog:Program}{w:ah}{A:ai}{E:Value->Shared->Prop}{s:Shared}{K:ae}{x D:Addr}{B:String}{R:jg->Shared->Prop}
def jQ(h:Heap)(x D:Addr):Prop:=∃o,h.get? x=some o/\o.cls=.ref D
theorem jQ.ty{M:fi}{h:Heap}(I:jQ h x D):Looks M h (typeOf (.ref x)) (.ref D):=by
 obtain⟨o,h1,h2⟩:=I;rw[<-h2];exact(Looks.ld h1).andThen .now
structure fF(K:ae)(D:Addr):Prop where
 ga:findIn K (.ref D) "__getattribute__"=some (some (.builtin "BaseException.__getattribute__"))
 gt:findIn K (.ref D) "__getattr__"=some none
 be:mroIn K D (.type "BaseException")=some true
 ob:mroIn K D (.type "object")=some true
 cl:findIn K (.ref D) "__class__"=some (some (.builtin "object.__class__"))
 sp:specialIn K (.builtin "object.__class__") "__get__"=some (some (.builtin "getset_descriptor.__get__"))
 tk:takesIn K (.builtin "object.__class__")=some true
 ci:(clsIn K D).isSome=true
theorem Lr{M:fi}{h:Heap}(Z:fF K D)(X:K.In h):Looks M h (d8 (.ref x) (.ref D) "__class__") (.bind (.builtin "getset_descriptor.__get__") (.builtin "object.__class__")):=by
 have d:Looks M h (f6 (some (.builtin "object.__class__")) (some (.builtin "getset_descriptor.__get__"))) (some (.builtin "getset_descriptor.__get__",.builtin "object.__class__")):=
  (looks_takesIn X Z.tk).andThen .now
 have g:Looks M h (f7 (some (.builtin "object.__class__"))) (some (.builtin "getset_descriptor.__get__")):=looks_specialIn X Z.sp;exact(kr X Z.cl).andThen (g.andThen (d.andThen (Looks.tag .now)))
theorem Nu{tp:Value}(Z:fF K D)(X:K.In s.heap)(I:jQ s.heap x D)(h:R (.ok (.ret (.ref D))) s):
  codeAny (model prog w) A (.call (.builtin "getset_descriptor.__get__") ⟨[.builtin "object.__class__",.ref x,tp],[]⟩) R s:=by
 obtain⟨hh,g,dr,t,os⟩:=s;have l0:=I.ty (M:=model prog w);have l1:=qe (M:=model prog w) X Z.ob;refine qg KF.slot_gs.plain KF.entry_gs
  (KF.slot_gs.check _ _ _ _ _ _ _ _ KF.type_class (KF.args_gs _ _ _) ?_)
 unfold Builtin.«getset_descriptor.__get__» descrGet;rw[dga_obj];refine aa (aj ?_);unfold descrGetter descrCheckInstance descrNameAndClass isInstance;simp only[KF.owner_class];repeat lk
 refine⟨uv _ (by decide+kernel),
  codeAny_builtin KF.entry_class ?_⟩
 unfold Builtin.«object.__class__» shownTypeOf;repeat lk
 exact h
theorem Vw{tk:Tok}(FB:uw B)(Z:fF K D)(X:K.In s.heap)(I:jQ s.heap x D)(h:R (.ok (.ret (.ref D))) s):
  codeAny (model prog w) A (.call (.builtin "BaseException.__getattribute__") ⟨[.ref x,.str "__class__" tk],[]⟩) R s:=by
 obtain⟨hh,g,d,t,os⟩:=s;have l0:=I.ty (M:=model prog w);have lb:=qe (M:=model prog w) X Z.be;have l1:=Lr (M:=model prog w) (x:=x) Z X;refine qg FB.ga.plain F.entry_bexc_ga ?_;have e1:builtinKind "BaseException.__getattribute__"=some .slot:=by decide+kernel
 have e2:splitId "BaseException.__getattribute__"=some ("BaseException","__getattribute__"):=by decide+kernel
 have ha:=F.args_bexc_ga (.ref x) (.str "__class__" tk);simp only[checkBuiltinCall,e1,e2];refine aa ?_;unfold isInstance;refine aa (l0.at (lb.at ?_))
 repeat (any_goals (first |wp_step))
 obtain⟨o,h1,h2⟩:=id I;refine qh h1 (aj ?_);rw[h2];refine aa (l1.at ?_);unfold f9
 repeat (any_goals (first |wp_step))
 exact Nu Z X I (aj h)
theorem Uo{Q:AF->Shared->Prop}(FB:uw B)(Z:fF K D)(X:K.In s.heap)(I:jQ s.heap x D)(h:Q (some (.ref D)) {s with toks:=s.toks+1}):
  wpAny (model prog w) A (getAttr? (.ref x) "__class__") Q E s:=by
 obtain⟨hh,g,d,t,os⟩:=s;have l0:=I.ty (M:=model prog w);have l1:=kr (M:=model prog w) X Z.ga;have l2:=kr (M:=model prog w) X Z.gt;have f3:=FB.ga.bind (.ref x);have e2:(ly "BaseException.__getattribute__"==ly "object.__getattribute__")=false:=by decide+kernel
 unfold getAttr? getAttrBy? getAttrBy;refine aa (wpAny_mkText (aa (qa (dj (aa (l0.at (aa (l1.at ?_))))))));dsimp only;rw[e2];simp only[yw,mf,if_false];unfold getAttrByItsOwn hookBefore onTheHeap;simp only[if_true];refine aa (l2.at ?_)
 repeat (any_goals (first |assumption |wp_step))
 refine Vw (s:=⟨hh,g,d,t+1,os⟩) FB Z X I ?_;exact handed_on rfl (aj h)
theorem oQ(FB:uw B)(Z:fF K D):KitX K (.ref x) (.ref D) (λh=>jQ h x D) where
 ty:=λ_ _ _ I=>I.ty
 it:=λ_ _ X _=>by
  obtain⟨cd,hc⟩:=tj.mp Z.ci;unfold clsIn at hc;split at hc
  .rename_i _ _ _ _ ho
   exact(Looks.ld (X _ _ ho)).andThen .now
  .cases hc
 ne:=λh tp dd its n sl X htp=>by
  obtain⟨cd,hc⟩:=tj.mp Z.ci;cases q:(bc D==bc tp)with
  |false=>rfl
  |true=>
   cases Value.ref.inj (beq_iff_eq.mp q);unfold clsIn at hc;split at hc
   .rename_i _ _ _ _ ho
    cases(X _ _ ho).symm.trans htp
   .cases hc
 ca:=λX I k=>Uo FB Z X I k
end
section
variable{X:Cx}{y D:Addr}{oe:Obj}
theorem Tc(Z:fF X.K D)(hp:(y,oe)∈X.pn)(hc:oe.cls=.ref D):fH X (.builtin "isinstance") (λxs H Q=>∃c b,((∃n,c=V.ty n/\bo X.K (.ref D) (.type n)=some b)\/∃C,c=V.ref C/\bo X.K (.ref D) (.ref C)=some b)/\xs=[.ref y,c]/\Q (.bl b) H):=by
 intro AM s σ H xs us Q I r h;obtain⟨c,b,e,rfl,q⟩:=h;obtain⟨u,c',rfl,rx,rc⟩:=pY r;cases(show u=bc y from rx);have of:jQ s.heap y D:=⟨oe,(I.pin _ (jc _ hp)).1,hc⟩;rcases e with⟨n,rfl,e⟩|⟨C,rfl,e⟩
 .cases(show c'=Value.type n from rc)
  exact df (oQ jo Z) I.kIn of e (by intro q;cases q) λtk=>⟨.bl b,H,I.tok tk,rfl,q⟩
 .cases(show c'=bc C from rc)
  exact df (oQ jo Z) I.kIn of e (by intro q;cases q) λtk=>⟨.bl b,H,I.tok tk,rfl,q⟩
end
section
variable{prog:Program}{w:ah}{A:ai}{E:Value->Shared->Prop}{h:Heap}{g:Array GenState}{d:Drawn}{t:Nat}{os:OsState}{nm q:Str}{C N f:Addr}{bs bm bmB us:AE}{hdct:Bool}{sn:List Str}{sub:AE}{ab:Bool}{col:Option Bool}{dd:AG}{k0 k1 k2 k3 k5:AF}{B newId initId:String}{mN:Str->AF}{fo:Obj}
abbrev yH(C b:Addr):Obj:={cls:=.ref C,data:=.fields #[.ref b,.none,.none,.none,.bool false,.none]}
abbrev Rj(us:AE):Obj:={cls:=.type "tuple",data:=.seq us.toArray}
theorem F9(F:ExcBaseFacts B newId initId bmB)(T:OwnTail h bmB bm){Q:uz->Shared->Prop}(hC:h.get? C=some (excClassObj nm q C N bs bm hdct sn sub ab col dd k0 k1 k2 k3 k5 newId))(hn:h.Ns N mN)(hi:mN "__init__"=some (.ref f))(hf:h.get? f=some fo)(hc:fo.cls=.type "function")
  (hq:∀h' e,yx h h' e (.ref C) us->wpAny (model prog w) A (call (.ref f) (.ref e::us)) (λr s'=>r=.none/\Q (.done (.ret (.ref e))) s') E ⟨h',g,d,t,os⟩)(hu:us.length<=sizeLine):wpAny (model prog w) A (Builtin.«type.__call__» ⟨.ref C::us,[]⟩) Q E ⟨h,g,d,t,os⟩:=by
 have up:∀b o,h.get? b=some o->((h.push (Rj us)).push (yH C h.objs.size)).get? b=some o:=λb o z=>al _ (al _ z);have eg:((h.push (Rj us)).push (yH C h.objs.size)).get? (h.objs.size+1)=some (yH C h.objs.size):=by heap_get
 have T1:=T.keeps up;have n1:=hn.keeps up;have c1:=up _ _ hC;have me:(bc C::bm).contains (.ref C)=true:=by simp
 repeat (first |with_reducible refine va hC ?_ |with_reducible refine wpAny_madeBy_exc hC ?_ |wp_step)
 refine codeAny_call_builtin_code (uv _ F.quiet) (wpAny_check_new_subT F T hC (codeAny_exc_new_subT F T hC ?_ hu));show wpAny _ _ _ _ _ _;unfold isInstance
 repeat (first |with_reducible refine va eg ?_ |(with_reducible refine wpAny_isSubtype_exc c1 ?_;rw[me]) |wp_step)
 show wpAny _ _ (typeLookup (.ref C) _) _ _ _;refine wpAny_typeLookup_tail c1 n1 T1 F.mroIs F.init.lookup ?_;rw[hi];refine dj (aa ?_);unfold bindSpecial;refine aa (ua (T:="function") ⟨_,up _ _ hf,hc⟩ ?_);rw[if_pos (by decide)];refine aj (aa (cn (hq _ (h.objs.size+1) ⟨up,mx (lw _),h.objs.size,eg,mx (ak _),al _ (yy rfl rfl)⟩) (λr s' z=>?_) λ_ _ z=>z));obtain⟨rfl,z⟩:=z
 wp_walk
 exact z
theorem A3(F:ExcBaseFacts B newId initId bmB)(T:OwnTail h bmB bm){Q:Value->Shared->Prop}(hC:h.get? C=some (excClassObj nm q C N bs bm hdct sn sub ab col dd k0 k1 k2 k3 k5 newId))(hn:h.Ns N mN)(hi:mN "__init__"=some (.ref f))(hf:h.get? f=some fo)(hc:fo.cls=.type "function")
  (hq:∀h' e,yx h h' e (.ref C) us->wpAny (model prog w) (A.under (.builtin "type.__call__" ⟨.ref C::us,[]⟩)) (call (.ref f) (.ref e::us)) (λr s'=>r=.none/\Q (.ref e) s') E ⟨h',g,d,t,os⟩)(hu:us.length<=sizeLine):wpAny (model prog w) A (call (.ref C) us) Q E ⟨h,g,d,t,os⟩:=by
 have f1:=tc_lookup;have f2:=tc_bind (.ref C);have ty:(⟨h,g,d,t,os⟩:Shared).TypeIs (.ref C) "type":=⟨_,hC,rfl⟩;refine ni (codeAny_of_tree ?_);show wpAny _ _ (callAny (.ref C) _) _ _ _
 repeat (any_goals (first |assumption |with_reducible refine va hC ?_ |wp_step))
 exact⟨rfl,codeAny_call_builtin_at (uv _ (by decide+kernel)) entry_typeCall (wpAny_check_type_call_sub hC (F9 F T hC hn hi hf hc (λh' e m=>hq h' e m) hu))⟩
end
def xO(a D:Addr)(od:AG):HO:=.ext λh=>∃vs,h.get? a=some {cls:=.ref D,dict:=od,data:=.fields vs}
theorem xO.ok{P:Program}{w:ah}{H:Hp}{h:Heap}{a D:Addr}{od:AG}{vs:Array Value}(e:h.get? a=some {cls:=.ref D,dict:=od,data:=.fields vs}):dH P w H h a (xO a D od):=
 ⟨⟨vs,e⟩,⟨_,e⟩,λ_ _ ⟨us,z⟩ k=>⟨us,k _ z⟩⟩
def pI:AE->Bool
 |.ref _::r=>pI r
 |r=>r==cL
structure lX(K:ae)(D:Addr):Prop where
 sa:findIn K (.ref D) "__setattr__"=some (some (.builtin "object.__setattr__"))
 mr:(clsIn K D).any (λcd=>pI cd.mro)=true
 hd:hasDictIn K D=true
theorem Ce(self:Value):∀{l:AE},pI l=true->refuseLoop self "__setattr__" l=pure ()
 |.ref c::r,e=>by
  rw[refuseLoop_ref];exact Ce self (l:=r) e
 |[],e=>by cases e
 |.type n::r,e=>by
  rw[show Value.type n::r=cL from eq_of_beq e];exact PySem.F.store_ValueError.passes self
 |.none::r,e |.bool _::r,e |.int _ _::r,e |.float _ _::r,e |.str _ _::r,e |.bytes _ _::r,e |.ellipsis::r,e |.notImplemented::r,e |.builtin _::r,e=>by
  have:=eq_of_beq (show(_==cL)=true from e);cases this
theorem Og:∀{l:AE},pI l=true->l.contains (.type "object")=true
 |.ref c::r,e=>by rw[List.contains_cons,Og (l:=r) e,Bool.or_true]
 |[],e=>by cases e
 |.type n::r,e=>by
  rw[show Value.type n::r=cL from eq_of_beq e];decide
 |.none::r,e |.bool _::r,e |.int _ _::r,e |.float _ _::r,e |.str _ _::r,e |.bytes _ _::r,e |.ellipsis::r,e |.notImplemented::r,e |.builtin _::r,e=>by
  have:=eq_of_beq (show(_==cL)=true from e);cases this
section
variable{prog:Program}{w:ah}{A:ai}{E:Value->Shared->Prop}{s:Shared}{K:ae}{x D:Addr}{name:Str}{v:Value}
theorem Wh{ox:Obj}{od:Option Obj}{Q:Unit->Shared->Prop}(X:K.In s.heap)(I:InstAt s.heap x ox D od)(Z:lX K D)(ht:findIn K (.ref D) name=some none)
  (h:∀b,wpAny (model prog w) A.in1 (g5 (.ref x) (.ref D) (.str name s.toks) name v b) (λfin s'=>∃u,fin=.done (.ret u)/\Q () s') (λ_ _=>False) {s with toks:=s.toks+1}):
  wpAny (model prog w) A (setAttr (.ref x) name v) Q E s:=by
 have SF:=PySem.F.store_object;obtain⟨cd,hc,ho⟩:=qi Z.mr;have ne:cd.mro.isEmpty=false:=by
  cases q:cd.mro with
  |nil=>rw[q]at ho;cases ho
  |cons _ _=>rfl
 refine set_plain X I Z.sa ?_;have I1:InstAt ({s with toks:=s.toks+1}:Shared).heap x ox D od:=I;have sub:Looks (model prog w) s.heap (isInstance (.ref x) (.type "object")) true:=I.type.andThen (qe X (by unfold mroIn;rw[hc,wg,if_neg (by rw[ne];decide),Og ho]));refine qg SF.slot.plain SF.entry (@check_slot (model prog w) _ _ {s with toks:=s.toks+1} "object.__setattr__" "object" "__setattr__" (.ref x) [.str name s.toks,v] [] _ SF.kind SF.split sub (SF.args (.ref x) (.str name s.toks) v) ?_);have hm:Looks (model prog w) s.heap (mroOf (.ref D)) cd.mro:=(vb X hc).andThen .now;rw[osa_eq,refuse_eq];refine aa (aa (I1.type.here (aa (qj (s:={s with toks:=s.toks+1}) hm ?_))));rw[Ce _ ho];refine aj (aa (I1.type.here (aa (qj (s:={s with toks:=s.toks+1}) (kr X ht) (aa (aj ?_))))));refine cn (h _) (λfin s' z=>?_) λ_ _ z=>z.elim;obtain⟨u,rfl,z⟩:=z;exact z
theorem Wz{Q:Unit->Shared->Prop}{vs:Array Value}(X:K.In s.heap)(hx:s.heap.get? x=some {cls:=.ref D,dict:=none,data:=.fields vs})(Z:lX K D)(ht:findIn K (.ref D) name=some none)
  (h:∀h',h'.get? x=some {cls:=.ref D,dict:=some s.heap.objs.size,data:=.fields vs}->h'.Ns1 s.heap.objs.size (λy=>if y=name then some v else none)->(∀b o,b≠x->s.heap.get? b=some o->h'.get? b=some o)->Q () {s with heap:=h',toks:=s.toks+2}):wpAny (model prog w) A (setAttr (.ref x) name v) Q E s:=by
 refine Wh (od:=none) X ⟨hx,rfl,rfl,trivial⟩ Z ht λb=>?_;obtain⟨cd,hc,hd'⟩:=qi Z.hd;refine aa (aj (aa (aa (qh hx (aa (qj (s:={s with toks:=s.toks+1}) (vb X hc) ?_))))));rw[hd'];have hx1:(s.heap.push {cls:=.type "dict",data:=.dict #[]}).get? x=some {cls:=.ref D,dict:=none,data:=.fields vs}:=al _ hx;have ne:x≠s.heap.objs.size:=cf (ao hx);have gd:((s.heap.push {cls:=.type "dict",data:=.dict #[]}).update x λo=>{o with dict:=some s.heap.objs.size}).get? s.heap.objs.size=some {cls:=.type "dict",data:=.dict #[]}:=(ix _ _ _ _ ne.symm).trans (yy rfl rfl);show wpAny (model prog w) A.in1 (alloc {cls:=.type "dict",data:=.dict #[]} >>= λd=>update x (λo=>{o with dict:=some d}) >>= λ_=>dictMade (.ref D) x d) _ _ _;refine aa (wpAny_alloc' (aa (wpAny_update' hx1 (aj ?_))));have nd:((s.heap.push {cls:=.type "dict",data:=.dict #[]}).update x λo=>{o with dict:=some s.heap.objs.size}).Ns s.heap.objs.size (λ_=>none):=⟨_,#[],_,gd,rfl,λe he=>absurd he (by simp),λ_=>rfl⟩;refine aa (aj (aa ?_));refine wpAny_nsSet1 (s:={s with heap:=(s.heap.push {cls:=.type "dict",data:=.dict #[]}).update x λo=>{o with dict:=some s.heap.objs.size},toks:=s.toks+1}) (Heap.Ns1.of_empty nd) λh' hn2 hs2=>?_;obtain⟨oD,esD,epD,hoD,hdD,hcD⟩:=hn2.count (yz name v PySem.Within.nil);refine aa (wpAny_lookBehind hoD (by rw[hdD];exact pastItsLine_dict (di hcD (by rw[cg,nu,dk];omega))) ?_);refine aj ⟨_,rfl,h h' ?_ hn2 λb o nb e=>?_⟩
 .exact(hs2.2 x ne).trans (oh _ hx1 rfl)
 .exact(hs2.2 b (cf (ao e))).trans ((ix _ _ _ _ nb).trans (al _ e))
theorem Gz{dx:Addr}{mA:Str->AF}{ns:List Str}{Q:Unit->Shared->Prop}{vs:Array Value}(X:K.In s.heap)(hx:s.heap.get? x=some {cls:=.ref D,dict:=some dx,data:=.fields vs})(ne:dx≠x)(hn:s.heap.Ns1 dx mA)(Z:lX K D)(ht:findIn K (.ref D) name=some none)(hw:rh mA ns)(hz:ns.length<=1000)
  (h:∀h',h'.Ns1 dx (λy=>if y=name then some v else mA y)->dw dx s.heap h'->Q () {s with heap:=h',toks:=s.toks+2}):wpAny (model prog w) A (setAttr (.ref x) name v) Q E s:=by
 obtain⟨oo,ho,_⟩:=vA hn;refine Wh (od:=some oo) X ⟨hx,rfl,rfl,ho⟩ Z ht λb=>?_;obtain⟨cd,hc,hd'⟩:=qi Z.hd;refine aa (aj (aa (aa (qh hx (aa (qj (s:={s with toks:=s.toks+1}) (vb X hc) ?_))))));rw[hd'];refine aj (a:=some dx) (aa (aj (aa ?_)));refine wpAny_nsSet1 (s:={s with toks:=s.toks+1}) hn λh' hn2 hs2=>?_;obtain⟨oD,esD,epD,hoD,hdD,hcD⟩:=hn2.count (yz name v hw);refine aa (wpAny_lookBehind hoD (by rw[hdD];exact pastItsLine_dict (di hcD (by rw[cg,dk];omega))) ?_);exact aj ⟨_,rfl,h h' hn2 hs2⟩
end
section
open PySem.Builtin.Getset_descriptor
variable{prog:Program}{w:ah}{A:ai}{E:Value->Shared->Prop}{s:Shared}{K:ae}{x D:Addr}{name:Str}{v:Value}{ox oo:Obj}
theorem N6{tk:Tok}{R:jg->Shared->Prop}(Z:fF K D)(X:K.In s.heap)(I:InstAt s.heap x ox D (some oo))(hf:findObj K D (some oo) name=some (.value v))(h:R (.ok (.ret v)) s):
  codeAny (model prog w) A (.call (.builtin "BaseException.__getattribute__") ⟨[.ref x,.str name tk],[]⟩) R s:=by
 obtain⟨hh,g,d,t,os⟩:=s;have FB:=jo;have l0:=I.type (M:=model prog w);have lb:=qe (M:=model prog w) X Z.be;have l1:=looks_find (M:=model prog w) X I hf;refine qg FB.ga.plain F.entry_bexc_ga ?_;have e1:builtinKind "BaseException.__getattribute__"=some .slot:=by decide+kernel
 have e2:splitId "BaseException.__getattribute__"=some ("BaseException","__getattribute__"):=by decide+kernel
 have ha:=F.args_bexc_ga (.ref x) (.str name tk);simp only[checkBuiltinCall,e1,e2];refine aa ?_;unfold isInstance;refine aa (l0.at (lb.at ?_))
 repeat (any_goals (first |wp_step))
 refine qh I.at_ (aj ?_);rw[I.cls];refine aa (l1.at ?_);exact aj h
theorem J2{expr:Bool}{Q:Value->Shared->Prop}(Z:fF K D)(X:K.In s.heap)(I:InstAt s.heap x ox D (some oo))(hf:findObj K D (some oo) name=some (.value v))(hv:handedIn v=true)(h:Q v {s with toks:=s.toks+1}):
  wpAny (model prog w) A (getAttr (.ref x) name expr) Q E s:=by
 obtain⟨hh,g,d,t,os⟩:=s;have FB:=jo;have l0:=I.type (M:=model prog w);have l1:=kr (M:=model prog w) X Z.ga;have l2:=kr (M:=model prog w) X Z.gt;have f3:=FB.ga.bind (.ref x);have e2:(ly "BaseException.__getattribute__"==ly "object.__getattribute__")=false:=by decide+kernel
 have e3:(expr&&onTheHeap (ly "BaseException.__getattribute__"))=false:=by cases expr<;>rfl
 unfold getAttr getAttrBy;refine aa (wpAny_mkText (dj (aa (l0.at (aa (l1.at ?_))))));dsimp only;rw[e2];simp only[yw,mf,if_false];unfold getAttrByItsOwn hookBefore onTheHeap;simp only[if_true];refine aa (l2.at ?_)
 repeat (any_goals (first |assumption |wp_step))
 refine N6 (s:=⟨hh,g,d,t+1,os⟩) Z X I hf ?_;exact handed_on hv h
end
def xD(d:Addr)(fs:List (Str×V)):HO:=.ext λh=>∃mA,h.Ns1 d mA/\∀f,iN (fs.lookup f) (mA f)
theorem xD.ok{P:Program}{w:ah}{H:Hp}{h:Heap}{d:Addr}{fs:List (Str×V)}{mA:Str->AF}(n:h.Ns1 d mA)(r:∀f,iN (fs.lookup f) (mA f)):dH P w H h d (xD d fs):=by
 obtain⟨o,es,ep,e,z⟩:=id n;exact⟨⟨mA,n,r⟩,⟨o,e⟩,λh1 h2 ⟨m,⟨o,es,ep,e,z⟩,r⟩ k=>⟨m,⟨o,es,ep,k _ e,z⟩,r⟩⟩
section
variable{fs ex:List Addr}{H:Hp}{h h':Heap}{a x:Addr}{o o2:HO}{P:Program}{w:ah}{X:Cx}{AM:List (Addr×Obj)}{σ:St}{s:Shared}
theorem Un.laidx(k:∀b u,h.get? b=some u->h'.get? b=some u)(hp:h.get? a=none)(hn:H a=none):Un fs ex H (aM H a o) h h' where
 keep:=λb u q _ _ _=>k b u q
 slot:=λb u q _ _ _=>⟨u.slots,k b u q⟩
 free:=λb u q n _=>by rw[bP (λz=>by rw[z,hp]at q;cases q)];exact n
 there:=λb u q _=>⟨u,k b u q⟩
 tups:=λb xs q=>by rw[bP (dW q hn)];exact q
 frzs:=λb u xs q=>by rw[bP (dW q hn)];exact q
 tbls:=λb ps q=>⟨#[],by rw[bP (dW q hn),q];simp⟩
theorem dF.free(ok:dF P w H h)(hp:h.get? a=none):H a=none:=by
 cases q:H a with
 |none=>rfl
 |some u=>
  obtain⟨o,e⟩:=(ok a u q).has;rw[hp]at e;cases e
theorem aD.laidx{t':Nat}(I:aD X AM σ H s)(k:∀b u,s.heap.get? b=some u->h'.get? b=some u)(hp:s.heap.get? a=none)(new:dH X.prog X.w (aM H a o) h' a o):aD X AM σ (aM H a o) {s with heap:=h',toks:=t'}:=by
 have hn:=I.hok.free hp;refine I.un (Un.laidx k hp hn) λb u e=>?_
 by_cases hb:b=a
 .subst hb
  rw[dX]at e;cases e;exact new
 .rw[bP hb]at e
  exact(I.hok b u e).stay (λc v _ q=>k c v q) (λc q=>by rw[bP (dW q hn)];exact q) λc xs q=>by rw[bP (dW q hn)];exact q
theorem aD.write2{φ:Heap->Prop}{t':Nat}(I:aD X AM σ H s)(mu:H x=some (.ext φ))(k:∀b u,b≠x->s.heap.get? b=some u->h'.get? b=some u)(hx:∃u,h'.get? x=some u)(hp:s.heap.get? a=none)(n1:dH X.prog X.w (aM (aM H a o) x o2) h' a o)(n2:dH X.prog X.w (aM (aM H a o) x o2) h' x o2):
  aD X AM σ (aM (aM H a o) x o2) {s with heap:=h',toks:=t'}:=by
 have hn:=I.hok.free hp;have na:∀b u,s.heap.get? b=some u->b≠a:=λb u q z=>by
  rw[z,hp]at q;cases q
 have nx:∀b,H b=none->b≠x:=λb n z=>by
  rw[z,mu]at n;cases n
 have go:∀b u,H b=some u->b≠x->aM (aM H a o) x o2 b=some u:=λb u e n=>by
  rw[bP n,bP (dW e hn)];exact e
 have ne:∀{b u},H b=some u->(∀φ,u≠.ext φ)->b≠x:=λ{b u} e n z=>by
  rw[z,mu]at e;cases e;exact n _ rfl
 refine I.un ⟨λb u q n _ _=>k b u (nx b n) q,λb u q n _ _=>⟨u.slots,k b u (nx b n) q⟩,λb u q n _=>by rw[bP (nx b n),bP (na b u q)];exact n,λb u q _=>?_,λb xs q=>go b _ q (ne q λ_ z=>nomatch z),λb u xs q=>go b _ q (ne q λ_ z=>nomatch z),λb ps q=>⟨#[],by rw[go b _ q (ne q λ_ z=>nomatch z)];simp⟩⟩ λb u e=>?_
 .by_cases z:b=x
  .subst z
   exact hx
  .exact⟨u,k b u z q⟩
 .by_cases z:b=x
  .subst z
   rw[dX]at e;cases e;exact n2
  .rw[bP z]at e
   by_cases y:b=a
   .subst y
    rw[dX]at e;cases e;exact n1
   .rw[bP y]at e
    refine(I.hok b u e).stay (λc v hc q=>k c v ?_ q) (λc q=>go c _ q (ne q λ_ z=>nomatch z)) λc xs q=>go c _ q (ne q λ_ z=>nomatch z);rcases hc with rfl |hc
    .exact z
    .exact ne hc λ_ z=>nomatch z
end
theorem A4{K:ae}{h:Heap}{f:Addr}(X:K.In h)(e:vc K (.ref f)=true):∃o,h.get? f=some o/\o.cls=.type "function":=by
 have z:(K.lookup f).map (·.cls)=some (.type "function"):=eq_of_beq e;cases q:K.lookup f with
 |none=>rw[q]at z;cases z
 |some o=>
  rw[q]at z;exact⟨o,X _ _ q,bj z⟩
theorem E7{K:ae}{h:Heap}{N:Addr}{m:Str->AF}{n:Str}{v:Value}(X:K.In h)(G:h.Ns N m)(e:ar K N n=some (some v)):m n=some v:=by
 obtain⟨o,es,ep,ho,hd,_,hf⟩:=G;rw[<-hf];unfold ar at e;cases q:K.lookup N with
 |none=>rw[q]at e;cases e
 |some u=>
  rw[q]at e;cases ho.symm.trans (X _ _ q);obtain⟨c1,c2,c3,c4⟩:=o;cases hd;dsimp only at e;split at e
  .rename_i en z
   cases e;show(es.find? _).map _=_;rw[<-wr,z];rfl
  .split at e<;>cases e
structure XI(K:ae)(C f:Addr):Prop where
 ex:∃dd nm bs bm ns qn hd sn sub ab col k0 k1 k2 k3 k5,K.lookup C=some (excClassObj nm qn C ns bs bm hd sn sub ab col dd k0 k1 k2 k3 k5 "ValueError.__new__")/\za K cL bm=true/\zb K ns=true/\ar K ns "__init__"=some (some (.ref f))
 fn:vc K (.ref f)=true
 kp:ce K (.ref C)=true
section
variable{X:Cx}{CX:fU}{k:Nat}{f C:Addr}{fd:ay}{ps:List Str}{sp:Sp}{E:XK}{x:Str}{p pos:ag}{e:af}{es:List af}{t:TA}
theorem F6(hx:br X.K C cL "ValueError.__new__"=true)(hk:ce X.K (.ref C)=true)(hg:Gl X x)(hm:X.mg x=some (.ref C))(ha:PA X (e::es) t)(hdb:(x==("__debug__":Str))=false:=by decide)(he:starEach (e::es) X.env=(false,eval e X.env)::starEach es X.env:=by rfl)(hpl:(backTo pos (starEach es X.env)).any (·.1)=false:=by rfl):
  PE X (.Call (.Name x p) (e::es) [] pos) (λσ H Q=>t σ H λvs H1=>vs.length<=sizeLine/\∀a,H1 a=none->Q (.ref a) (aM H1 a (xO a C none))):=by
 intro AM s σ H Q I h;refine kh (lN I hg hm ?_ hdb);refine nj (h₀:=X.base) I.ok.mod.kin hk (bB (ha pos AM s σ H _ I h) λus s1 ⟨vs,H1,I1,r,l,q⟩=>⟨I1.kIn,?_⟩) he hpl;obtain⟨bm,Nn,nm,qn,bs,hdct,sn,sub,ab,col,dd,k0,k1,k2,k3,k5,mN,hC,hN,hni,T⟩:=wF I1.kIn hx;obtain⟨hh,g,d,tk,os⟩:=s1;refine wpAny_call_exc_subT uu T hC hN hni (λh' a m=>?_) (by show us.length<=sizeLine;rw[<-r.length];exact l);obtain⟨b,e1,_,_⟩:=m.there;exact⟨.ref a,_,I1.laidx (o:=xO a C none) m.keeps m.new (xO.ok e1),rfl,q a (I1.hok.free m.new)⟩
theorem A5(M:XI X.K C f)(F:cK X.prog X.w X.K X.mg X.base CX k f fd ps sp)(hr:bW (k+1) X.A)(hg:Gl X x)(hm:X.mg x=some (.ref C))(hb:eM X.K fd ps [])(hx:iH CX X E)(ha:PA X (e::es) t)(hdb:(x==("__debug__":Str))=false:=by decide)
  (he:starEach (e::es) X.env=(false,eval e X.env)::starEach es X.env:=by rfl)(hpl:(backTo pos (starEach es X.env)).any (·.1)=false:=by rfl):
  PE X (.Call (.Name x p) (e::es) [] pos) (λσ H Q=>t σ H λvs H1=>vs.length<=sizeLine/\∀a,H1 a=none->sp (.ref a::vs) (aM H1 a (xO a C none)) (λv H2=>v=.non/\Q (.ref a) H2) E):=by
 intro AM s σ H Q I h;refine kh (lN I hg hm ?_ hdb);refine nj (h₀:=X.base) I.ok.mod.kin M.kp (bB (ha pos AM s σ H _ I h) λus s1 ⟨vs,H1,I1,r,l,q⟩=>⟨I1.kIn,?_⟩) he hpl;obtain⟨dd,nm,bs,bm,ns,qn,hd,sn,sub,ab,col,k0,k1,k2,k3,k5,lk,tl,ok,hi⟩:=M.ex;obtain⟨hh,g,d,tk,os⟩:=s1;have XX:=I1.kIn;obtain⟨fo,hf,hc⟩:=A4 XX M.fn;refine A3 uu (yu XX tl) (XX _ _ lk) (.of_isNs (ut XX ok)) (E7 XX (.of_isNs (ut XX ok)) hi) hf hc (λh' a m=>?_) (by show us.length<=sizeLine;rw[<-r.length];exact l);obtain⟨b,e1,_,_⟩:=m.there;have I2:=I1.laidx (o:=xO a C none) (t':=tk) m.keeps m.new (xO.ok e1);have hq:=q a (I1.hok.free m.new);have r2:bA (V.ref a::vs) (bc a::us):=.cons rfl r;have hl:(bc a::us).length=ps.length:=by
  have e:=r2.length;rw[F.len _ _ _ _ hq]at e;exact e.symm
 refine ni (jh (F.run _ X.stack _ _ ⟨bc a::us,[]⟩ (bc a::us) _ _ E (hr.make C us []) (I2.env0.make C us []) (by have:=hb _ (bc a::us) I2.kIn (by rw[lr];exact hl);rw[lr]at this;exact this) r2 hq) λr s' hq'=>?_);cases r with
 |error e=>exact hx AM σ _ _ e s' I2 hq'
 |ok fl=>
  cases fl with
  |ret u=>
   obtain⟨v,H',I3,rv,ev,q3⟩:=I2.after hq';subst ev;exact⟨rv,⟨V.ref a,H',I3,rfl,q3⟩⟩
  |next=>exact de hq'
  |brk=>exact de hq'
  |cont=>exact de hq'
end
def B3 (K : ae) (ta tv : TE) (f : Str) : TS := λD σ H => tv σ H λy H1 => ta σ H1 λx H2 => ∃ a C, x = .ref a ∧ lX K C ∧ sB K C f ∧
  ((H2 a = some (xO a C none) ∧ ∀ d, H2 d = none → d ≠ a → D.nx σ (aM (aM H2 d (xD d [(f, y)])) a (xO a C (some d)))) ∨
   ∃ d fs, H2 a = some (xO a C (some d)) ∧ d ≠ a ∧ H2 d = some (xD d fs) ∧ fs.length ≤ 1000 ∧ D.nx σ (aM H2 d (xD d (jS f y fs))))
def Sz(K:ae)(ta:TE)(f:Str):TE:=λσ H Q=>ta σ H λx H1=>∃a C d fs v,x=.ref a/\H1 a=some (xO a C (some d))/\H1 d=some (xD d fs)/\fF K C/\lX K C/\sB K C f/\fs.lookup f=some v/\Q v H1
section
variable{X:Cx}{o e value:af}{f:Str}{pos pos':ag}{ta tv:TE}
theorem wP(ha:PE X o ta)(hv:PE X value tv)(hs:swapsWith value (some (.Attribute o f pos')) pos.line X.env=pure false):PS X (.Assign [.Attribute o f pos'] value pos) (B3 X.K ta tv f):=by
 intro AM s σ H D I h;refine plainObj_wpAny_Assign_Attribute (bB (hv AM s σ H _ I h) λu s1 ⟨y,H1,I1,ry,q⟩=>bB (ha AM s1 σ H1 _ I1 q) λov s2 hq=>?_) hs;rcases hq with⟨x,H2,I2,rx,a,C,ex,Z,n,q2⟩;subst ex;obtain rfl:ov=bc a:=rx;rcases q2 with⟨ea,q2⟩|⟨d,fs,ea,ne,ed,l,q2⟩
 .obtain⟨⟨vs,e1⟩,_⟩:=I2.hok a _ ea
  refine Wz I2.kIn e1 Z n λh' g1 g2 g3=>?_;have nd:s2.heap.get? s2.heap.objs.size=none:=mx (ak _);exact⟨σ,_,I2.write2 (o:=xD s2.heap.objs.size [(f,y)]) (o2:=xO a C (some s2.heap.objs.size)) ea g3 ⟨_,g1⟩ nd (xD.ok g2 λg=>by
   by_cases z:g=f
   .subst z
    rw[if_pos rfl,ft,beq_self_eq_true];exact ry
   .rw[if_neg z,ft,show(g==f)=false from beq_eq_false_iff_ne.mpr z]
    exact jf) (xO.ok g1),q2 _ (I2.hok.free nd) (kd (ao e1))⟩
 .obtain⟨⟨vs,e1⟩,_⟩:=I2.hok a _ ea
  obtain⟨⟨mA,n1,r1⟩,_⟩:=I2.hok d _ ed;refine Gz (ns:=fs.map (·.1)) I2.kIn e1 ne n1 Z n (λg hg=>?_) (by rw[az];exact l) λh' g1 g2=>?_
  .cases z:fs.lookup g with
   |none=>
    have:=r1 g;rw[z]at this;exact absurd (iN.none_of this) hg
   |some v=>
    obtain⟨w,hw,e2,_⟩:=List.lookup_eq_some_iff.mp z;rw[e2];simp
  .refine⟨σ,_,I2.write (x:=d) (e:=d) (o:=xD d (jS f y fs)) (by rw[ed];exact jf) (.inl rfl) (λb q hb z=>(g2.2 b hb).trans z) (let⟨o,_,_,e',_⟩:=g1;⟨o,e'⟩) (xD.ok g1 λg=>?_),q2⟩
   rw[zX]
   by_cases q:g=f
   .rw[if_pos q,if_pos q];exact ry
   .rw[if_neg q,if_neg q];exact r1 g
theorem Ts(he:PE X e ta)(hb:attributeBase e f X.env (eval e X.env)=eval e X.env):PE X (.Attribute e f pos) (Sz X.K ta f):=by
 intro AM s σ H Q I h;refine Tt hb (bB (he AM s σ H _ I h) λu s1 hq=>?_);rcases hq with⟨x,H1,I1,rx,a,C,d,fs,v,ex,ea,ed,Z,Y,n,l,q⟩;subst ex;obtain rfl:u=bc a:=rx;obtain⟨⟨vs,e1⟩,_⟩:=I1.hok a _ ea;obtain⟨⟨mA,n1,r1⟩,_⟩:=I1.hok d _ ed;obtain⟨oo,g1,g2⟩:=vA n1;obtain⟨w,hw,rw_⟩:=iN.some_of (v:=v) (o:=mA f) (by rw[<-l];exact r1 f);exact J2 Z I1.kIn (oo:=oo) ⟨e1,rfl,rfl,g1⟩ (PySem.W.findObj_own Y.hd n rfl (by rw[g2,hw])) (Fo rw_) ⟨v,H1,I1.tok _,rw_,q⟩
theorem Ld:fH X (.builtin "isinstance") (λxs H Q=>∃a D od c b,H a=some (xO a D od)/\fF X.K D/\((∃n,c=V.ty n/\bo X.K (.ref D) (.type n)=some b)\/∃C,c=V.ref C/\bo X.K (.ref D) (.ref C)=some b)/\xs=[.ref a,c]/\Q (.bl b) H):=by
 intro AM s σ H xs us Q I r h;obtain⟨a,D,od,c,b,ea,Z,e,rfl,q⟩:=h;obtain⟨u,c',rfl,rx,rc⟩:=pY r;cases(show u=bc a from rx);obtain⟨⟨vs,e1⟩,_⟩:=I.hok a _ ea;have of:jQ s.heap a D:=⟨_,e1,rfl⟩;rcases e with⟨n,rfl,e⟩|⟨C,rfl,e⟩
 .cases(show c'=Value.type n from rc)
  exact df (oQ jo Z) I.kIn of e (by intro q;cases q) λtk=>⟨.bl b,H,I.tok tk,rfl,q⟩
 .cases(show c'=bc C from rc)
  exact df (oQ jo Z) I.kIn of e (by intro q;cases q) λtk=>⟨.bl b,H,I.tok tk,rfl,q⟩
end
def eP(h:Heap)(l:AA)(a:Addr):Prop:=∃o its n,h.get? a=some o/\o.cls=.type "tuple"/\o.data=.seq its n/\bA (l.map V.int) its.toList
def gL(h:Heap)(ks:AC)(a:Addr):Prop:=∃o its n,h.get? a=some o/\o.cls=.type "tuple"/\o.data=.seq its n/\cp (λk v=>∃b,v=bc b/\eP h k b) ks its.toList
def hF(l:AA):Int:=reduceHash (vd (l.map hashInt))
def hN(l:AC):Int:=reduceHash (vd (l.map hF))
abbrev iK(prog:Program)(w:ah):KeyKind prog w Int:=intKind prog w
theorem Dd:∀{l m:AA}{us:AE},bA (l.map V.int) us->bA (m.map V.int) us->l=m
 |[],[],_,_,_=>rfl
 |[],_::_,_,.nil,h=>nomatch h
 |_::_,[],_,.cons _ _,h=>nomatch h
 |i::l,j::m,_,.cons r t,.cons r' t'=>by
  obtain⟨x,e⟩:=r;obtain⟨y,e'⟩:=r';rw[e]at e';injection e' with e1;rw[e1,Dd t t']
section
variable{prog:Program}{w:ah}{A:ai}{E:Value->Shared->Prop}{s:Shared}{h h':Heap}{a b d:Addr}
theorem eP.inj{x y:AA}(hx:eP h x a)(hy:eP h y a):x=y:=by
 obtain⟨o,its,n,e,_,f,r⟩:=hx;obtain⟨o',its',n',e',_,f',r'⟩:=hy;cases bj (e.symm.trans e');cases f.symm.trans f';exact Dd r r'
theorem gL.inj{x y:AC}(hx:gL h x a)(hy:gL h y a):x=y:=by
 obtain⟨o,its,n,e,_,f,r⟩:=hx;obtain⟨o',its',n',e',_,f',r'⟩:=hy;cases bj (e.symm.trans e');cases f.symm.trans f'
 revert r r'
 generalize its.toList=us;intro r
 induction r generalizing y with
 |nil=>intro r';cases r';rfl
 |cons p _ ih=>
  intro r';cases r' with
  |cons p' t'=>
   obtain⟨b,rfl,g⟩:=p;obtain⟨b',eb,g'⟩:=p';cases eb;rw[g.inj g',ih t']
theorem Fi{o o':Obj}{its:Array Value}{n:Nat}{es ep}(e:h.get? a=some o)(f:o.data=.seq its n)(e':h.get? d=some o')(f':o'.data=.dict es ep):a≠d:=λz=>by
 rw[z,e']at e;cases e;rw[f]at f';cases f'
theorem eP.keep{l:AA}{o':Obj}{es ep}(x:eP h l a)(e':h.get? d=some o')(f':o'.data=.dict es ep)(sb:dw d h h'):eP h' l a:=by
 obtain⟨o,its,n,e,c,f,r⟩:=x;exact⟨o,its,n,(sb.2 a (Fi e f e' f')).trans e,c,f,r⟩
theorem gL.keep{l:AC}{o':Obj}{es ep}(x:gL h l a)(e':h.get? d=some o')(f':o'.data=.dict es ep)(sb:dw d h h'):gL h' l a:=by
 obtain⟨o,its,n,e,c,f,r⟩:=x;exact⟨o,its,n,(sb.2 a (Fi e f e' f')).trans e,c,f,Paired.mapP r λ_ _ ⟨b,eb,g⟩=>⟨b,eb,g.keep e' f' sb⟩⟩
theorem uP:∀{l:AA}{us:AE},bA (l.map V.int) us->ItemsAre (iK prog w) l us
 |[],_,.nil=>.nil
 |i::l,_,.cons r t=>by
  obtain⟨t',rfl⟩:=r;exact .cons (by simp[iK,intKind,Value.isInt]) (uP t)
theorem eP.key{l:AA}(x:eP h l a):IsTupleKey (iK prog w) h l a:=by
 obtain⟨o,its,n,e,c,f,r⟩:=x;exact⟨o,its,n,e,c,f,uP r⟩
theorem Gs{α:Type}[DecidableEq α](z:α)(l m:List α):((aq (min l.length m.length)).all (λj=>decide (l.getD j z=m.getD j z))&&l.length==m.length)=decide (l=m):=by
 rw[um,dm,gq,decide_eq_true_iff];constructor
 .rintro⟨h1,h2⟩
  have hl:l.length=m.length:=by simpa using h2
  refine qk hl λi g1 g2=>?_;have:=h1 i (by simp;omega);simpa[ba,g1,g2]using this
 .rintro rfl
  exact⟨λi _=>by simp,by simp⟩
theorem rJ{α β:Type}{R:α->β->Prop}:∀{l:List α}{m:List β},cp R l m->l.length=m.length/\∀(j:Nat)(x:α)(y:β),l[j]?=some x->m[j]?=some y->R x y
 |_,_,.nil=>⟨rfl,λj x y h=>by simp at h⟩
 |_,_,.cons r t=>by
  obtain⟨e,g⟩:=rJ t;refine⟨by rw[cg,cg,e],λj x y h1 h2=>?_⟩;cases j with
  |zero=>
   simp at h1 h2;rw[<-h1,<-h2];exact r
  |succ j=>exact g j x y (by simpa using h1) (by simpa using h2)
theorem Ee{α:Type}[DecidableEq α](z:α){R:α->Value->Prop}{x y:List α}{o o':Obj}{us vs:Array Value}{n n':Nat}(hu:A.units<cLine)(ha:s.heap.get? a=some o)(hc:o.cls=.type "tuple")(hd:o.data=.seq us n)(hb:s.heap.get? b=some o')(hc':o'.cls=.type "tuple")(hd':o'.data=.seq vs n')
  (rx:cp R x us.toList)(ry:cp R y vs.toList)(same:a=b->x=y)(eq:∀k l u v,R k u->R l v->gg A.in1 s u v (decide (k=l))):gg A s (.ref a) (.ref b) (decide (x=y)):=by
 by_cases ab:a=b
 .rw[decide_eq_true (same ab),ab]
  exact ql _
 .obtain⟨m1,g1⟩:=rJ rx
  obtain⟨m2,g2⟩:=rJ ry;have l1:x.length=us.size:=by simpa using m1
  have l2:y.length=vs.size:=by simpa using m2
  have:=ve (A:=A) (s:=s) (l:=a) (b:=b) (items:=us) (items2:=vs) (e:=λj=>decide (x.getD j z=y.getD j z)) ⟨o,ha,hc,n,hd⟩ ⟨o',hb,hc',n',hd'⟩ hu λj h1 h2=>by
   have i1:j<x.length:=by omega
   have i2:j<y.length:=by omega
   have e1:x.getD j z=x[j]:=by simp[ba,i1]
   have e2:y.getD j z=y[j]:=by simp[ba,i2]
   rw[e1,e2];exact eq _ _ _ _ (g1 j _ _ (ax i1) (by simp[h1])) (g2 j _ _ (ax i2) (by simp[h2]))
  rw[<-l1,<-l2,Gs]at this;exact vf ab this
theorem vD:∀{l:AA}{us:AE},bA (l.map V.int) us->cp (λ(i:Int) v=>∃t,v=ju i t) l us
 |[],_,.nil=>.nil
 |_::_,_,.cons r t=>.cons r (vD t)
theorem eP.eq{x y:AA}(hu:A.units<cLine)(hx:eP s.heap x a)(hy:eP s.heap y b):gg A s (.ref a) (.ref b) (decide (x=y)):=by
 have inj:a=b->x=y:=λz=>by subst z;exact hx.inj hy
 obtain⟨o,us,n,e,c,f,r⟩:=hx;obtain⟨o',vs,n',e',c',f',r'⟩:=hy;refine Ee 0 hu e c f e' c' f' (vD r) (vD r') inj ?_
 rintro k l u v ⟨t,eu⟩ ⟨t',ev⟩
 subst eu ev;have:=tm (A:=A.in1) (s:=s) k t l t';have e:(k==l)=decide (k=l):=by by_cases q:k=l<;>simp[q]
 rwa[e]at this
theorem gL.eq{x y:AC}(hu:A.units+1<cLine)(hx:gL s.heap x a)(hy:gL s.heap y b):gg A s (.ref a) (.ref b) (decide (x=y)):=by
 have inj:a=b->x=y:=λz=>by subst z;exact hx.inj hy
 obtain⟨o,us,n,e,c,f,r⟩:=hx;obtain⟨o',vs,n',e',c',f',r'⟩:=hy;refine Ee [] (zc hu) e c f e' c' f' r r' inj ?_
 rintro k l u v ⟨p,eu,g⟩ ⟨q,ev,g'⟩
 subst eu ev;exact g.eq hu g'
theorem Ca{Q:Array Int->Shared->Prop}(hu:A.units<cLine):∀(ks:AC)(vs:AE)(t:Nat)(acc:Array Int),cp (λk v=>∃b,v=bc b/\eP s.heap k b) ks vs->
  (∀acc':Array Int,acc'.toList=acc.toList++ks.map hF->Q acc' {s with toks:=t+(ks.map λk=>k.length+1).sum})->
  wpAny (model prog w) A (forIn vs acc λx r=>do let h <-pyHash x;pure PUnit.unit;pure (ul (r.push h))) Q E {s with toks:=t}
 |[],_,t,acc,.nil,q=>aj (by simpa using q acc (by simp))
 |k::ks,_,t,acc,.cons ⟨b,eb,g⟩ r,q=>by
  subst eb;rw[ow];refine aa (aa (wpAny_pyHash_tuple (knd:=iK prog w) (s:={s with toks:=t}) hu g.key ?_));refine aa (aj (aj ?_));refine Ca hu ks _ (t+(k.length+1)) _ r λacc' e=>?_;have:=q acc' (by rw[e];simp[hF,tupleKeyHash,iK,intKind]);rw[cw,vg]at this;simpa[vh]using this
theorem gL.hash{ks:AC}{Q:Int->Shared->Prop}(hu:A.units+1<cLine)(hk:gL s.heap ks a)(q:Q (hN ks) {s with toks:=s.toks+((ks.map λk=>k.length+1).sum+1)}):wpAny (model prog w) A (pyHash (.ref a)) Q E s:=by
 obtain⟨o,its,n,e,c,f,r⟩:=hk;refine PySem.W.pyHash_slot (T:="tuple") ⟨o,e,c⟩ F.slot_tuple_hash F.entry_tuple_hash (F.args_tuple_hash_1 _) (beq_builtin_none _) (.inr (zc hu)) ?_;show wpAny _ _ (xl (.ref a) >>= _) _ _ s;refine aa (wpAny_tupleItemsOf e f (aa ?_));rw[<-zd];refine Ca hu ks its.toList s.toks #[] r λacc ea=>?_;show wpAny _ _ (retInt (vd acc.toList)) _ _ _;rw[ea];exact aa (wpAny_mkInt (aj ⟨_,_,rfl,by simpa[hN,vh]using q⟩))
theorem zU{n:Nat}{P:Value->Prop}(hP:∀v(Q:Bool->Shared->Prop),P v->Q true s->wpAny (model prog w) A (eqIsQuiet n v) Q E s){o:Obj}{its:Array Value}{m:Nat}{Q:Bool->Shared->Prop}(e:s.heap.get? a=some o)(c:o.cls=.type "tuple")(f:o.data=.seq its m)(r:∀v∈its.toList,P v)(q:Q true s):
  wpAny (model prog w) A (eqIsQuiet (n+1) (.ref a)) Q E s:=by
 have hT:s.TypeIs (.ref a) "tuple":=⟨o,e,c⟩;unfold eqIsQuiet;refine aa (wpAny_specialOf hT F.slot_tuple_eq.lookup (aa (wpAny_isInstance hT isSubtype_tuple_tuple ?_)));rw[if_neg (by simp)];refine aa (ij e f (aa ?_));show wpAny _ _ (forIn its _ _) _ _ s;rw[<-zd];refine wpAny_forIn_list _ (λdQ z s'=>s'=s/\z.1=none/\∀v∈dQ,P v) _ ?_ ?_ _ _ ⟨rfl,rfl,r⟩
 .rintro v dQ z s' ⟨rfl,hz,hr⟩
  refine aa (hP v _ (hr v bi) ?_);rw[if_neg (by simp)];exact aj ⟨rfl,rfl,λu hu=>hr u (cj _ hu)⟩
 .rintro⟨z1,z2⟩ s' ⟨rfl,hz,_⟩
  cases hz;exact aj q
theorem eP.quiet{n:Nat}{l:AA}{Q:Bool->Shared->Prop}(hk:eP s.heap l a)(q:Q true s):wpAny (model prog w) A (eqIsQuiet (n+1) (.ref a)) Q E s:=by
 obtain⟨o,its,m,e,c,f,r⟩:=hk;refine zU (P:=λv=>carriedByValue v=true) (λv Q' hv q'=>?_) e c f (uP (prog:=prog) (w:=w) r).byValue q;rw[eqIsQuiet_byValue _ hv];exact aj q'
theorem gL.quiet{ks:AC}{Q:Bool->Shared->Prop}(hk:gL s.heap ks a)(q:Q true s):wpAny (model prog w) A (eqIsQuiet 8 (.ref a)) Q E s:=by
 obtain⟨o,its,m,e,c,f,r⟩:=hk;refine zU (P:=λv=>∃k b,v=.ref b/\eP s.heap k b) (λv Q' ⟨k,b,ev,g⟩ q'=>by subst ev;exact g.quiet (n:=6) q') e c f (λv hv=>?_) q;obtain⟨l1,g⟩:=rJ r;obtain⟨i,hi,ev⟩:=yh.mp hv;have i1:i<ks.length:=by rw[l1];exact hi
 obtain⟨b,eb,gb⟩:=g i _ v (ax i1) (by rw[ax hi,ev]);exact⟨_,b,eb,gb⟩
end
def Hs(prog:Program)(w:ah):HeapKind prog w AC where
 is:=gL
 hash:=hN
 draws:=λks=>(ks.map λk=>k.length+1).sum+1
 room:=λA=>A.units+1<cLine
 inj:=λhx hy=>hx.inj hy
 keeps:=λx ho hd hs=>x.keep ho hd hs
 pyHash:=λhu hk h=>hk.hash hu h
 eqBool:=λhu hx hy h=>hx.eq hu hy _ _ _ _ h
 quiet:=λhk h=>hk.quiet h
def lA:Bool->Type
 |false=>AA
 |true=>AC
instance decK:(n:Bool)->DecidableEq (lA n)
 |false=>inferInstanceAs (DecidableEq AA)
 |true=>inferInstanceAs (DecidableEq AC)
def B9:(n:Bool)->lA n->Int
 |false=>hF
 |true=>hN
def E4(prog:Program)(w:ah):(n:Bool)->HeapKind prog w (lA n)
 |false=>tupleKind (iK prog w)
 |true=>Hs prog w
end L2
namespace L2.Pp
open PySem PySem.Spec PyProof.Rows Bn
section
inductive PV where
 |non |bl (b:Bool) |int (i:Int) |str (x:Str) |tup (xs:List PV) |lst (xs:List PV) |obj (C:Str) (ns:List Str) (fs:List PV)
abbrev AI:=List PV
abbrev AJ:=Option PV
inductive SO where
 |lst (xs:AI)
 |lol (xss:List AI)
 |dic (n:Bool) (kvs:List (PV×PV))
 |dol (n:Bool) (kvs:List (PV×AI))
abbrev aH:=List SO
inductive AV where
 |pv (v:PV) |ref (k:Nat)
abbrev AK:=Option AV
abbrev AL:=List AV
abbrev bL:=List AK
inductive bQ(α:Type) where
 |ok (a:α) (S:aH) |exc (n:Str) (S:aH) |fail
def bQ.bind{α β:Type}(r:bQ α)(k:α->aH->bQ β):bQ β:=match r with
 |.ok a S=>k a S
 |.exc n S=>.exc n S
 |.fail=>.fail
inductive cC where
 |nx (ρ:bL) (S:aH) |rt (v:AV) (S:aH) |bk (ρ:bL) (S:aH) |ct (ρ:bL) (S:aH) |exc (n:Str) (S:aH) |fail
def iD(K:ae)(c:Addr->Prop)(H:Hp)(a:Addr)(vs:List V):Prop:=
 (H a=some (.lst vs)/\¬c a)\/(∃o,H a=some (.frz o (.lst vs)))\/
  ∃(o:Obj)(its:Array Value)(n:Nat),K.lookup a=some o/\o.cls=.type "list"/\o.dict=none/\o.data=.seq its n/\its.size<=sizeLine/\bA vs its.toList
theorem iD.sq{K:ae}{c:Addr->Prop}{H:Hp}{a:Addr}{vs:List V}(h:iD K c H a vs):bS K H a vs:=by
 rcases h with h |h |h
 .exact .inl (.inl h.1)
 .exact .inl (.inr h)
 .exact .inr h
def oB(c:Addr->Prop)(H:Hp)(a D:Addr)(fs:List (Str×V)):Prop:=∃od,H a=some (xO a D od)/\¬c a/\match od with
 |none=>fs=[]
 |some d=>H d=some (xD d fs)/\¬c d
theorem oB.mono{c c':Addr->Prop}{H H':Hp}{a D:Addr}{fs:List (Str×V)}(hO:∀a φ,H a=some (.ext φ)/\¬c a->H' a=some (.ext φ)/\¬c' a)(h:oB c H a D fs):oB c' H' a D fs:=by
 obtain⟨od,e,n,z⟩:=h;refine⟨od,(hO a _ ⟨e,n⟩).1,(hO a _ ⟨e,n⟩).2,?_⟩;cases od with
 |none=>exact z
 |some d=>exact hO d _ z
mutual
def aK(K:ae)(c:Addr->Prop)(H:Hp):PV->V->Prop
 |.non,x=>x=.non
 |.bl b,x=>x=.bl b
 |.int i,x=>x=.int i
 |.str s,x=>x=.str s
 |.tup xs,x=>∃a vs,x=.ref a/\bZ K H a vs/\vs.length<=sizeLine/\aJ K c H xs vs
 |.lst xs,x=>∃a vs,x=.ref a/\iD K c H a vs/\vs.length<=sizeLine/\aJ K c H xs vs
 |.obj C ns fs,x=>∃a vs D,x=.ref a/\oB c H a D (ns.zip vs)/\ar K mainGlobals C=some (some (.ref D))/\ns.length=vs.length/\aJ K c H fs vs
def aJ(K:ae)(c:Addr->Prop)(H:Hp):AI->List V->Prop
 |[],vs=>vs=[]
 |p::ps,vs=>∃v r,vs=v::r/\aK K c H p v/\aJ K c H ps r
end
section
variable{K:ae}{c c':Addr->Prop}{H H':Hp}
mutual
theorem aK.mono(hT:∀a vs,bZ K H a vs->bZ K H' a vs)(hL:∀a vs,iD K c H a vs->iD K c' H' a vs)(hO:∀a φ,H a=some (.ext φ)/\¬c a->H' a=some (.ext φ)/\¬c' a):∀(v:PV)(x:V),aK K c H v x->aK K c' H' v x
 |.non,x,h=>h
 |.bl b,x,h=>h
 |.int i,x,h=>h
 |.str s,x,h=>h
 |.tup xs,x,h=>by
  unfold aK at h⊢;obtain⟨a,vs,e,t,z,r⟩:=h;exact⟨a,vs,e,hT a vs t,z,aJ.mono hT hL hO xs vs r⟩
 |.lst xs,x,h=>by
  unfold aK at h⊢;obtain⟨a,vs,e,t,z,r⟩:=h;exact⟨a,vs,e,hL a vs t,z,aJ.mono hT hL hO xs vs r⟩
 |.obj C ns fs,x,h=>by
  unfold aK at h⊢;obtain⟨a,vs,D,e,t,n,z,r⟩:=h;exact⟨a,vs,D,e,oB.mono hO t,n,z,aJ.mono hT hL hO fs vs r⟩
theorem aJ.mono(hT:∀a vs,bZ K H a vs->bZ K H' a vs)(hL:∀a vs,iD K c H a vs->iD K c' H' a vs)(hO:∀a φ,H a=some (.ext φ)/\¬c a->H' a=some (.ext φ)/\¬c' a):∀(v:AI)(x:List V),aJ K c H v x->aJ K c' H' v x
 |[],vs,h=>by
  unfold aJ at h⊢;exact h
 |p::ps,vs,h=>by
  unfold aJ at h⊢;obtain⟨v,r,e,h1,h2⟩:=h;exact⟨v,r,e,aK.mono hT hL hO p v h1,aJ.mono hT hL hO ps r h2⟩
end
theorem aJ.length:∀{xs:AI}{vs:List V},aJ K c H xs vs->xs.length=vs.length
 |[],vs,h=>by
  unfold aJ at h;rw[h];rfl
 |p::ps,vs,h=>by
  unfold aJ at h;obtain⟨v,r,rfl,_,h2⟩:=h;rw[cg,cg,aJ.length h2]
theorem aJ.get:∀{xs:AI}{vs:List V}{i:Nat}{p:PV},aJ K c H xs vs->xs[i]?=some p->∃v,vs[i]?=some v/\aK K c H p v
 |[],vs,i,p,h,e=>by simp at e
 |q::ps,vs,0,p,h,e=>by
  unfold aJ at h;obtain⟨v,r,rfl,h1,_⟩:=h;simp at e;subst e;exact⟨v,rfl,h1⟩
 |q::ps,vs,i+1,p,h,e=>by
  unfold aJ at h;obtain⟨v,r,rfl,_,h2⟩:=h;obtain⟨u,e1,e2⟩:=aJ.get (i:=i) h2 (by simpa using e);exact⟨u,by simpa using e1,e2⟩
theorem aJ.nil:aJ K c H [] []:=by
 unfold aJ;rfl
theorem aJ.cons{p:PV}{v:V}{ps:AI}{vs:List V}(h:aK K c H p v)(t:aJ K c H ps vs):aJ K c H (p::ps) (v::vs):=by
 unfold aJ;exact⟨v,vs,rfl,h,t⟩
theorem aJ.append:∀{xs ys:AI}{vs ws:List V},aJ K c H xs vs->aJ K c H ys ws->aJ K c H (xs++ys) (vs++ws)
 |[],ys,vs,ws,h,g=>by
  unfold aJ at h;subst h;exact g
 |p::ps,ys,vs,ws,h,g=>by
  unfold aJ at h;obtain⟨v,r,rfl,h1,h2⟩:=h;exact .cons h1 (h2.append g)
theorem aJ.drop:∀{xs:AI}{vs:List V}(n:Nat),aJ K c H xs vs->aJ K c H (xs.drop n) (vs.drop n)
 |xs,vs,0,h=>by simpa using h
 |[],vs,n+1,h=>by
  unfold aJ at h;subst h;simpa using aJ.nil
 |p::ps,vs,n+1,h=>by
  unfold aJ at h;obtain⟨v,r,rfl,_,h2⟩:=h;simpa using h2.drop n
theorem aJ.take:∀{xs:AI}{vs:List V}(n:Nat),aJ K c H xs vs->aJ K c H (xs.take n) (vs.take n)
 |xs,vs,0,h=>by simpa using aJ.nil
 |[],vs,n+1,h=>by
  unfold aJ at h;subst h;simpa using aJ.nil
 |p::ps,vs,n+1,h=>by
  unfold aJ at h;obtain⟨v,r,rfl,h1,h2⟩:=h;simpa using aJ.cons h1 (h2.take n)
theorem aJ.eraseIdx:∀{xs:AI}{vs:List V}(n:Nat),aJ K c H xs vs->aJ K c H (xs.eraseIdx n) (vs.eraseIdx n)
 |[],vs,n,h=>by
  unfold aJ at h;subst h;simpa using aJ.nil
 |p::ps,vs,0,h=>by
  unfold aJ at h;obtain⟨v,r,rfl,h1,h2⟩:=h;simpa using h2
 |p::ps,vs,n+1,h=>by
  unfold aJ at h;obtain⟨v,r,rfl,h1,h2⟩:=h;simpa using aJ.cons h1 (h2.eraseIdx n)
theorem aJ.set{p:PV}{v:V}(g:aK K c H p v):∀{xs:AI}{vs:List V}(n:Nat),aJ K c H xs vs->aJ K c H (xs.set n p) (vs.set n v)
 |[],vs,n,h=>by
  unfold aJ at h;subst h;simpa using aJ.nil
 |q::ps,vs,0,h=>by
  unfold aJ at h;obtain⟨v,r,rfl,h1,h2⟩:=h;simpa using aJ.cons g h2
 |q::ps,vs,n+1,h=>by
  unfold aJ at h;obtain⟨v,r,rfl,h1,h2⟩:=h;simpa using aJ.cons h1 (aJ.set g n h2)
end
structure Ph where
 f:List Addr
 w:Addr->Prop
 c:Addr->Prop
def sI(K:ae)(c:Addr->Prop)(H:Hp)(xss:List AI)(bs:List Addr):Prop:=
 xss.length=bs.length/\∀(i:Nat)(xs:AI)(b:Addr),xss[i]?=some xs->bs[i]?=some b->∃vs,H b=some (.lst vs)/\vs.length<=sizeLine/\aJ K c H xs vs
def qG:(n:Bool)->lA n->PV
 |false,l=>.tup (jp PV.int l)
 |true,l=>.tup (jp (λr:AA=>PV.tup (r.map PV.int)) l)
def oD(es:Array DictEntry)(ep:Nat):Obj:={cls:=.type "dict",data:=.dict es ep}
def dO(a:Addr)(es:Array DictEntry)(ep:Nat):HO:=.ext λh=>h.get? a=some (oD es ep)
def O0(n:Bool)(x:lA n×Addr×Value):DictEntry:=⟨B9 n x.1,.ref x.2.1,x.2.2⟩
def qI(K:ae)(c:Addr->Prop)(H:Hp)(a:Addr)(n:Bool)(ks:AI)(us:AE):Prop:=
 ∃(xs:List (lA n×Addr×Value))(ep:Nat),H a=some (dO a (xs.map (O0 n)).toArray ep)/\(a==sysModules)=false/\xs.length<=sizeLine/\(xs.map (·.1)).Nodup/\ks=xs.map (λx=>qG n x.1)/\aJ K c H ks (xs.map λx=>V.ref x.2.1)/\us=xs.map (·.2.2)
def tD(K:ae)(p:Ph)(H:Hp)(a:Addr):SO->Prop
 |.lst xs=>∃vs,H a=some (.lst vs)/\vs.length<=sizeLine/\aJ K p.c H xs vs
 |.lol xss=>∃bs:List Addr,H a=some (.lst (bs.map V.ref))/\bs.length<=sizeLine/\bs.Nodup/\(∀b∈bs,p.w b/\b∉p.f)/\sI K p.c H xss bs
 |.dic n kvs=>∃us vs,qI K p.c H a n (kvs.map (·.1)) us/\bA vs us/\aJ K p.c H (kvs.map (·.2)) vs
 |.dol n kvs=>∃bs:List Addr,qI K p.c H a n (kvs.map (·.1)) (bs.map bc)/\bs.Nodup/\(∀b∈bs,p.w b/\b∉p.f)/\sI K p.c H (kvs.map (·.2)) bs
theorem qI.mono{K:ae}{c c':Addr->Prop}{H H':Hp}{a:Addr}{n:Bool}{ks:AI}{us:AE}(h:qI K c H a n ks us)(ha:∀o,H a=some o->H' a=some o)(hR:∀xs vs,aJ K c H xs vs->aJ K c' H' xs vs):qI K c' H' a n ks us:=by
 obtain⟨xs,ep,e,z,l,nd,ek,r,eu⟩:=h;exact⟨xs,ep,ha _ e,z,l,nd,ek,hR _ _ r,eu⟩
theorem tD.mono{K:ae}{p p':Ph}{H H':Hp}{a:Addr}{o:SO}(h:tD K p H a o)(ha:∀o,H a=some o->H' a=some o)
  (hb:∀b,p.w b->b∉p.f->(p'.w b/\b∉p'.f)/\∀vs,H b=some (.lst vs)->H' b=some (.lst vs))(hR:∀xs vs,aJ K p.c H xs vs->aJ K p'.c H' xs vs):tD K p' H' a o:=by
 have lol:∀{xss:List AI}{bs:List Addr},(∀b∈bs,p.w b/\b∉p.f)->sI K p.c H xss bs->sI K p'.c H' xss bs:=λwf ⟨z,at_⟩=>⟨z,λi xs b e1 e2=>by
  obtain⟨vs,g1,g2,g3⟩:=at_ i xs b e1 e2;have m:=wf b (fj e2);exact⟨vs,(hb b m.1 m.2).2 vs g1,g2,hR xs vs g3⟩⟩
 cases o with
 |lst xs=>
  obtain⟨vs,e,l,r⟩:=h;exact⟨vs,ha _ e,l,hR xs vs r⟩
 |lol xss=>
  obtain⟨bs,e,l,nd,wf,z⟩:=h;exact⟨bs,ha _ e,l,nd,λb m=>(hb b (wf b m).1 (wf b m).2).1,lol wf z⟩
 |dic n kvs=>
  obtain⟨us,vs,d,v,r⟩:=h;exact⟨us,vs,d.mono ha hR,v,hR _ _ r⟩
 |dol n kvs=>
  obtain⟨bs,d,nd,wf,z⟩:=h;exact⟨bs,d.mono ha hR,nd,λb m=>(hb b (wf b m).1 (wf b m).2).1,lol wf z⟩
def Mb:HO->Prop
 |.lst _=>True
 |.dK _=>True
 |.dT _=>True
 |.ins _ _ _=>True
 |.ext _=>True
 |_=>False
structure aQ(K:ae)(p:Ph)(S:aH)(H:Hp):Prop where
 nd:p.f.Nodup
 len:p.f.length=S.length
 sub:∀a∈p.f,p.w a
 wc:∀a,p.w a->p.c a
 mu:∀a,p.c a->∃o,H a=some o/\Mb o
 obj:∀(k:Nat)(a:Addr)(o:SO),p.f[k]?=some a->S[k]?=some o->tD K p H a o
structure bJ(p:Ph)(H:Hp)(q:Ph)(H':Hp):Prop where
 wc:∀a,p.w a->p.c a
 mu:∀a,p.c a->∃o,H a=some o/\Mb o
 pre:p.f <+:q.f
 mw:∀a,p.w a->q.w a
 mono:∀a,p.c a->q.c a
 nf:∀a∈q.f,a∉p.f->H a=none
 nw:∀a,q.w a->¬p.w a->H a=none
 nc:∀a,q.c a->¬p.c a->H a=none
 keep:∀a o,H a=some o->¬p.w a->H' a=some o
def bU(K:ae)(p:Ph)(H:Hp):AV->V->Prop
 |.pv v,x=>aK K p.c H v x
 |.ref k,x=>∃a,p.f[k]?=some a/\x=.ref a
abbrev fI(K:ae)(p:Ph)(H:Hp):AL->List V->Prop:=cp (bU K p H)
structure bY(K:ae)(p:Ph)(H:Hp)(ρ:bL)(σ:St):Prop where
 len:ρ.length=σ.length
 at_:∀(i:Nat)(v:AV),ρ[i]?=some (some v)->∃x,σ[i]?=some (some x)/\bU K p H v x
section
variable{K:ae}{p q r:Ph}{H H' H'':Hp}{S:aH}
theorem aQ.step(s:aQ K p S H):bJ p H p H:=⟨s.wc,s.mu,ku,λ_ h=>h,λ_ h=>h,λ_ h g=>absurd h g,λ_ h g=>absurd h g,λ_ h g=>absurd h g,λ_ _ h _=>h⟩
theorem bJ.trans(a:bJ p H q H')(b:bJ q H' r H''):bJ p H r H'':=by
 have back:∀x,H' x=none->¬p.w x->H x=none:=λx h n=>by
  cases e:H x with
  |none=>rfl
  |some o=>rw[a.keep x o e n]at h;cases h
 refine⟨a.wc,a.mu,a.pre.trans b.pre,λx h=>b.mw x (a.mw x h),λx h=>b.mono x (a.mono x h),λx h n=>?_,λx h n=>?_,λx h n=>?_,λx o e n=>?_⟩
 .by_cases m:x∈q.f
  .exact a.nf x m n
  .have hn:=b.nf x h m
   refine back x hn λz=>?_;obtain⟨o,ho,_⟩:=b.mu x (a.mono x (a.wc x z));rw[hn]at ho;cases ho
 .by_cases m:q.w x
  .exact a.nw x m n
  .exact back x (b.nw x h m) n
 .by_cases m:q.c x
  .exact a.nc x m n
  .exact back x (b.nc x h m) λz=>n (a.wc x z)
 .refine b.keep x o (a.keep x o e n) λz=>?_
  rw[a.nw x z n]at e;cases e
theorem bJ.tup(s:bJ p H q H'){a:Addr}{vs:List V}(h:bZ K H a vs):bZ K H' a vs:=by
 have go:∀o,H a=some o->¬Mb o->H' a=some o:=λo e n=>s.keep a o e λz=>by
  obtain⟨u,e',m⟩:=s.mu a (s.wc a z);rw[e]at e';cases e';exact n m
 rcases h with(h |⟨o,h⟩) |h
 .exact .inl (.inl (go _ h (λz=>z)))
 .exact .inl (.inr ⟨o,go _ h (λz=>z)⟩)
 .exact .inr h
theorem bJ.lat(s:bJ p H q H'){a:Addr}{vs:List V}(h:iD K p.c H a vs):iD K q.c H' a vs:=by
 rcases h with⟨h,n⟩|⟨o,h⟩|h
 .refine .inl ⟨s.keep a _ h λz=>n (s.wc a z),λz=>?_⟩
  rw[s.nc a z n]at h;cases h
 .refine .inr (.inl ⟨o,s.keep a _ h λz=>?_⟩)
  obtain⟨u,e',m⟩:=s.mu a (s.wc a z);rw[h]at e';cases e';exact m
 .exact .inr (.inr h)
theorem bJ.oat(s:bJ p H q H'){a:Addr}{φ:Heap->Prop}(h:H a=some (.ext φ)/\¬p.c a):H' a=some (.ext φ)/\¬q.c a:=by
 refine⟨s.keep a _ h.1 λz=>h.2 (s.wc a z),λz=>?_⟩;have e:=s.nc a z h.2;rw[h.1]at e;cases e
theorem bJ.rep(s:bJ p H q H'){v:PV}{x:V}(h:aK K p.c H v x):aK K q.c H' v x:=aK.mono (λ_ _=>s.tup) (λ_ _=>s.lat) (λ_ _=>s.oat) v x h
theorem bJ.reps(s:bJ p H q H'){v:AI}{x:List V}(h:aJ K p.c H v x):aJ K q.c H' v x:=aJ.mono (λ_ _=>s.tup) (λ_ _=>s.lat) (λ_ _=>s.oat) v x h
theorem bJ.at_(s:bJ p H q H'){k:Nat}{a:Addr}(h:p.f[k]?=some a):q.f[k]?=some a:=by
 obtain⟨t,e⟩:=s.pre;rw[<-e,gf (by
  have:=ck.mp h;exact this.1)]
 exact h
theorem bJ.repA(s:bJ p H q H'){v:AV}{x:V}(h:bU K p H v x):bU K q H' v x:=by
 cases v with
 |pv v=>exact s.rep h
 |ref k=>
  obtain⟨a,e,f⟩:=h;exact⟨a,s.at_ e,f⟩
theorem bJ.repE(s:bJ p H q H'){ρ:bL}{σ:St}(h:bY K p H ρ σ):bY K q H' ρ σ:=
 ⟨h.len,λi v e=>let⟨x,e1,e2⟩:=h.at_ i v e;⟨x,e1,s.repA e2⟩⟩
theorem aQ.same(s:aQ K p S H)(h:cE H H'):bJ p H p H':=⟨s.wc,s.mu,ku,λ_ h=>h,λ_ h=>h,λ_ h g=>absurd h g,λ_ h g=>absurd h g,λ_ h g=>absurd h g,λa o e _=>h a o e⟩
theorem aQ.ofSame(s:aQ K p S H)(h:cE H H'):aQ K p S H':=
 ⟨s.nd,s.len,s.sub,s.wc,λa m=>let⟨o,e,m⟩:=s.mu a m;⟨o,h a o e,m⟩,λk a o e1 e2=>by
  exact(s.obj k a o e1 e2).mono (λvs e=>h _ _ e) (λb w f=>⟨⟨w,f⟩,λvs e=>h _ _ e⟩) λxs vs=>(s.same h).reps⟩
theorem dY{a:Addr}{o:HO}(h:H a=none):cE H (aM H a o):=λb u e=>by
 rw[bP (dW e h)];exact e
end
section
variable{α β γ δ:Type}
def bR(K:ae)(cl:Str->Addr)(R:Ph->Hp->α->β->Prop)(p:Ph)(H:Hp)(r:bQ α)(Q:β->Hp->Prop)(E:XK):Prop:=match r with
 |.ok a S=>∀q H' x,bJ p H q H'->aQ K q S H'->R q H' a x->Q x H'
 |.exc n S=>∀q H',bJ p H q H'->aQ K q S H'->E (.ref (cl n)) none H'
 |.fail=>False
def dI(K:ae)(cl:Str->Addr)(p:Ph)(H:Hp)(r:cC)(D:jD)(E:XK):Prop:=match r with
 |.nx ρ S=>∀q H' σ,bJ p H q H'->aQ K q S H'->bY K q H' ρ σ->D.nx σ H'
 |.bk ρ S=>∀q H' σ,bJ p H q H'->aQ K q S H'->bY K q H' ρ σ->D.bk σ H'
 |.ct ρ S=>∀q H' σ,bJ p H q H'->aQ K q S H'->bY K q H' ρ σ->D.ct σ H'
 |.rt v S=>∀q H' x,bJ p H q H'->aQ K q S H'->bU K q H' v x->D.rt x H'
 |.exc n S=>∀q H',bJ p H q H'->aQ K q S H'->E (.ref (cl n)) none H'
 |.fail=>False
variable{K:ae}{cl:Str->Addr}{p q:Ph}{H H':Hp}{S:aH}{E:XK}{R:Ph->Hp->α->β->Prop}{R':Ph->Hp->γ->δ->Prop}
theorem bR.mono{r:bQ α}{Q:β->Hp->Prop}(h:bR K cl R p H r Q E)(s:bJ p H q H'):bR K cl R q H' r Q E:=by
 cases r with
 |ok a S=>exact λq' H'' x s'=>h q' H'' x (s.trans s')
 |exc n S=>exact λq' H'' s'=>h q' H'' (s.trans s')
 |fail=>exact h
theorem dI.mono{r:cC}{D:jD}(h:dI K cl p H r D E)(s:bJ p H q H'):dI K cl q H' r D E:=by
 cases r with
 |nx ρ S=>exact λq' H'' x s'=>h q' H'' x (s.trans s')
 |bk ρ S=>exact λq' H'' x s'=>h q' H'' x (s.trans s')
 |ct ρ S=>exact λq' H'' x s'=>h q' H'' x (s.trans s')
 |rt v S=>exact λq' H'' x s'=>h q' H'' x (s.trans s')
 |exc n S=>exact λq' H'' s'=>h q' H'' (s.trans s')
 |fail=>exact h
theorem bR.ret{a:α}{x:β}{Q:β->Hp->Prop}(h:bR K cl R p H (.ok a S) Q E)(s:aQ K p S H)(r:R p H a x):Q x H:=h p H x s.step s r
theorem bR.same{a:α}{x:β}{Q:β->Hp->Prop}(h:bR K cl R p H (.ok a S) Q E)(s:aQ K p S H)(e:cE H H')(r:R p H' a x):Q x H':=h p H' x (s.same e) (s.ofSame e) r
def tP(K:ae)(cl:Str->Addr)(E:XK)(R:Ph->Hp->α->β->Prop)(m:bL->aH->bQ α)(σ:St)(H:Hp)(Q:β->Hp->Prop):Prop:=
 ∃p S ρ,aQ K p S H/\bY K p H ρ σ/\bR K cl R p H (m ρ S) Q E
def tS(K:ae)(cl:Str->Addr)(E:XK)(m:bL->aH->cC):TS:=λD σ H=>
 ∃p S ρ,aQ K p S H/\bY K p H ρ σ/\dI K cl p H (m ρ S) D E
theorem bT{m:bL->aH->bQ α}{k:α->aH->bQ γ}{ρ:bL}{σ:St}{Q:δ->Hp->Prop}{T:β->Hp->Prop}(s:aQ K p S H)(e:bY K p H ρ σ)(h:bR K cl R' p H ((m ρ S).bind k) Q E)
  (g:∀q H' a b S',bJ p H q H'->aQ K q S' H'->bY K q H' ρ σ->R q H' a b->bR K cl R' q H' (k a S') Q E->T b H'):tP K cl E R m σ H T:=by
 refine⟨p,S,ρ,s,e,?_⟩;cases z:m ρ S with
 |ok a S1=>
  rw[z]at h;exact λq H' b st sm r=>g q H' a b S1 st sm (st.repE e) r (bR.mono (r:=k a S1) h st)
 |exc n S1=>
  rw[z]at h;exact h
 |fail=>
  rw[z]at h;exact h
def cC.of{α:Type}(r:bQ α)(k:α->aH->cC):cC:=match r with
 |.ok a S=>k a S
 |.exc n S=>.exc n S
 |.fail=>.fail
theorem iX{m:bL->aH->bQ α}{k:α->aH->cC}{ρ:bL}{σ:St}{D:jD}{T:β->Hp->Prop}(s:aQ K p S H)(e:bY K p H ρ σ)(h:dI K cl p H (cC.of (m ρ S) k) D E)
  (g:∀q H' a b S',bJ p H q H'->aQ K q S' H'->bY K q H' ρ σ->R q H' a b->dI K cl q H' (k a S') D E->T b H'):tP K cl E R m σ H T:=by
 refine⟨p,S,ρ,s,e,?_⟩;cases z:m ρ S with
 |ok a S1=>
  rw[z]at h;exact λq H' b st sm r=>g q H' a b S1 st sm (st.repE e) r (dI.mono (r:=k a S1) h st)
 |exc n S1=>
  rw[z]at h;exact h
 |fail=>
  rw[z]at h;exact h
end
end
abbrev RB:Ph->Hp->Bool->Bool->Prop:=λ_ _ a b=>a=b
abbrev ME:=bL->aH->bQ AV
abbrev MT:=bL->aH->bQ Bool
abbrev MA:=bL->aH->bQ AL
abbrev MS:=bL->aH->cC
section
variable(K:ae)(cl:Str->Addr)(E:XK)(X:Cx)
def aO(e:af)(m:ME):Prop:=X.K=K->PE X e (tP K cl E (bU K) m)
def eO(e:af)(m:MT):Prop:=X.K=K->PT X e (tP K cl E RB m)
def hU(e:af)(m:MT):Prop:=X.K=K->PW X e (tP K cl E RB m)
def dJ(es:List af)(m:MA):Prop:=X.K=K->PA X es (tP K cl E (fI K) m)
def eC(st:Stmt)(m:MS):Prop:=X.K=K->PS X st (tS K cl E m)
def fB(st:List Stmt)(m:MS):Prop:=X.K=K->eA X st (tS K cl E m)
end
theorem PA.imp{X:Cx}{es:List af}{t t':TA}(h:PA X es t)(i:∀σ H Q,t' σ H Q->t σ H Q):PA X es t':=λpos AM s σ H Q I q=>h pos AM s σ H Q I (i σ H Q q)
theorem PW.imp{X:Cx}{e:af}{t t':TT}(h:PW X e t)(i:∀σ H Q,t' σ H Q->t σ H Q):PW X e t':=λwh AM s σ H Q I q=>h wh AM s σ H Q I (i σ H Q q)
def aA(i:Nat):ME:=λρ S=>match ρ[i]? with
 |some (some v)=>.ok v S
 |_=>.fail
def mC(v:PV):ME:=λ_ S=>.ok (.pv v) S
def rd(S:aH):AV->AJ
 |.pv v=>some v
 |.ref k=>match S[k]? with
  |some (.lst xs)=>some (.lst xs)
  |_=>none
def gW(S:aH):AL->Option AI
 |[]=>some []
 |a::r=>match rd S a with
  |some v=>match gW S r with
   |some vs=>some (v::vs)
   |none=>none
  |none=>none
def fV(o:AJ)(S:aH):bQ AV:=match o with
 |some r=>.ok (.pv r) S
 |none=>.fail
def pZ(f:PV->AJ)(a:AV)(S:aH):bQ AV:=fV ((rd S a).bind f) S
def iJ(f:PV->PV->AJ)(a b:AV)(S:aH):bQ AV:=fV ((rd S a).bind λx=>(rd S b).bind λy=>f x y) S
def bF(f:PV->AJ)(ma:ME):ME:=λρ S=>(ma ρ S).bind λx S1=>pZ f x S1
def aB(f:PV->PV->AJ)(ma mb:ME):ME:=λρ S=>(ma ρ S).bind λx S1=>(mb ρ S1).bind λy S2=>iJ f x y S2
def aE:MA:=λ_ S=>.ok [] S
def aC(ma:ME)(mr:MA):MA:=λρ S=>(ma ρ S).bind λx S1=>(mr ρ S1).bind λxs S2=>.ok (x::xs) S2
def kQ:AL->Option AI
 |[]=>some []
 |.pv v::r=>match kQ r with
  |some vs=>some (v::vs)
  |none=>none
 |.ref _::_=>none
def nK(f:AI->AJ)(xs:AL)(S:aH):bQ AV:=fV ((kQ xs).bind f) S
def kS(f:AI->AJ)(xs:AL)(S:aH):bQ AV:=fV ((gW S xs).bind f) S
def mR(f:AI->AJ)(ma:MA):ME:=λρ S=>(ma ρ S).bind λxs S1=>kS f xs S1
def mN(f:AI->AJ)(ma:MA):ME:=λρ S=>(ma ρ S).bind λxs S1=>nK f xs S1
def dA(vs:AI):AJ:=if vs.length<=16777216 then some (.tup vs)else none
def cX(vs:AI):AJ:=if vs.length<=16777216 then some (.lst vs)else none
def iQ:AV->aH->bQ Bool
 |.pv (.bl b),S=>.ok b S
 |_,_=>.fail
def bG(m:ME):MT:=λρ S=>(m ρ S).bind iQ
def fM(m:MT):MT:=λρ S=>(m ρ S).bind λb S1=>.ok (!b) S1
def iP(m n:MT):MT:=λρ S=>(m ρ S).bind λb S1=>if b=true then n ρ S1 else .ok false S1
def hJ(m n:MT):MT:=λρ S=>(m ρ S).bind λb S1=>if b=true then .ok true S1 else n ρ S1
def kR(m n:ME):ME:=λρ S=>(m ρ S).bind λx S1=>match x with
 |.pv (.bl true)=>n ρ S1
 |.pv (.bl false)=>.ok (.pv (.bl false)) S1
 |_=>.fail
def J1(m n:ME):ME:=λρ S=>(m ρ S).bind λx S1=>match x with
 |.pv (.bl false)=>n ρ S1
 |.pv (.bl true)=>.ok (.pv (.bl true)) S1
 |_=>.fail
def qD:PV->AJ
 |.bl b=>some (.bl (!b))
 |_=>none
def M5(c:MT)(a b:ME):ME:=λρ S=>(c ρ S).bind λt S1=>if t=true then a ρ S1 else b ρ S1
section
variable{K:ae}{cl:Str->Addr}{E:XK}{X:Cx}{a b c e:af}{es:List af}{ma mb mc m:ME}{mt nt:MT}{ms:MA}{pos:ag}
theorem rX(i:Nat){x:Str}(hN:X.N[i]?=some x:=by rfl)(hv:tV X.env.scope x:=by first |exact fm rfl |exact gw (fm rfl) |exact gw (gw rfl))(hd:(x==("__debug__":Str))=false:=by decide)
  (hcd:(x==("__classdict__":Str))=false:=by decide):aO K cl E X (.Name x pos) (aA i):=λ_=>(Th hN hv hd hcd).imp λσ H Q ⟨p,S,ρ,s,e,h⟩=>by
 unfold aA at h;cases z:ρ[i]? with
 |none=>rw[z]at h;exact h.elim
 |some o=>
  cases o with
  |none=>rw[z]at h;exact h.elim
  |some v=>
   rw[z]at h;obtain⟨x,e1,e2⟩:=e.at_ i v z;exact⟨x,e1,bR.ret h s e2⟩
theorem Gi{i:Int}{j}:aO K cl E X (.Constant (.int i) j pos) (mC (.int i)):=λ_=>Qh.imp λσ H Q ⟨p,S,ρ,s,e,h⟩=>bR.ret (R:=bU K) (x:=.int i) h s (by show aK K p.c H (.int i) (.int i);unfold aK;rfl)
theorem D0{i:Bool}{j}:aO K cl E X (.Constant (.bool i) j pos) (mC (.bl i)):=λ_=>B7.imp λσ H Q ⟨p,S,ρ,s,e,h⟩=>bR.ret (R:=bU K) (x:=.bl i) h s (by show aK K p.c H (.bl i) (.bl i);unfold aK;rfl)
theorem Xw{i:Str}{j}:aO K cl E X (.Constant (.str i) j pos) (mC (.str i)):=λ_=>Qg.imp λσ H Q ⟨p,S,ρ,s,e,h⟩=>bR.ret (R:=bU K) (x:=.str i) h s (by show aK K p.c H (.str i) (.str i);unfold aK;rfl)
theorem Uy{j}:aO K cl E X (.Constant .none j pos) (mC .non):=λ_=>Ly.imp λσ H Q ⟨p,S,ρ,s,e,h⟩=>bR.ret (R:=bU K) (x:=.non) h s (by show aK K p.c H .non .non;unfold aK;rfl)
def dR(K:ae)(p:Ph)(H:Hp)(v:PV)(x:V):Prop:=aK K p.c H v x\/∃xs a vs,v=.lst xs/\x=.ref a/\H a=some (.lst vs)/\vs.length<=sizeLine/\aJ K p.c H xs vs
theorem dR.int{p:Ph}{H:Hp}{i:Int}{x:V}(h:dR K p H (.int i) x):x=.int i:=by
 rcases h with h |⟨_,_,_,e,_⟩
 .unfold aK at h;exact h
 .cases e
theorem dR.bl{p:Ph}{H:Hp}{i:Bool}{x:V}(h:dR K p H (.bl i) x):x=.bl i:=by
 rcases h with h |⟨_,_,_,e,_⟩
 .unfold aK at h;exact h
 .cases e
theorem dR.str{p:Ph}{H:Hp}{i:Str}{x:V}(h:dR K p H (.str i) x):x=.str i:=by
 rcases h with h |⟨_,_,_,e,_⟩
 .unfold aK at h;exact h
 .cases e
theorem dR.non{p:Ph}{H:Hp}{x:V}(h:dR K p H .non x):x=.non:=by
 rcases h with h |⟨_,_,_,e,_⟩
 .unfold aK at h;exact h
 .cases e
theorem dR.obj{p:Ph}{H:Hp}{C:Str}{ns:List Str}{fs:AI}{x:V}(h:dR K p H (.obj C ns fs) x):∃a vs D,x=.ref a/\oB p.c H a D (ns.zip vs)/\ar K mainGlobals C=some (some (.ref D))/\ns.length=vs.length/\aJ K p.c H fs vs:=by
 rcases h with h |⟨_,_,_,e,_⟩
 .unfold aK at h;exact h
 .cases e
theorem dR.tup{p:Ph}{H:Hp}{xs:AI}{x:V}(h:dR K p H (.tup xs) x):∃a vs,x=.ref a/\bZ K H a vs/\vs.length<=sizeLine/\aJ K p.c H xs vs:=by
 rcases h with h |⟨_,_,_,e,_⟩
 .unfold aK at h;exact h
 .cases e
theorem dR.lst{p:Ph}{H:Hp}{xs:AI}{x:V}(h:dR K p H (.lst xs) x):∃a vs,x=.ref a/\bS K H a vs/\vs.length<=sizeLine/\aJ K p.c H xs vs:=by
 rcases h with h |⟨ys,a,vs,e,e2,h,z,r⟩
 .unfold aK at h
  obtain⟨a,vs,e,l,z,r⟩:=h;exact⟨a,vs,e,l.sq,z,r⟩
 .cases e
  exact⟨a,vs,e2,bS.of h,z,r⟩
theorem pR{p:Ph}{S:aH}{H:Hp}{a:AV}{v:PV}{x:V}(s:aQ K p S H)(r:bU K p H a x)(e:rd S a=some v):dR K p H v x:=by
 cases a with
 |pv u=>cases e;exact .inl r
 |ref k=>
  obtain⟨a,e1,rfl⟩:=r;unfold rd at e;cases z:S[k]? with
  |none=>simp only[z]at e;cases e
  |some o=>
   cases o with
   |lst xs=>
    simp only[z]at e;cases e;obtain⟨vs,h,l,r⟩:=s.obj k a _ e1 z;exact .inr ⟨xs,a,vs,rfl,rfl,h,l,r⟩
   |lol _=>simp only[z]at e;cases e
   |dic _ _=>simp only[z]at e;cases e
   |dol _ _=>simp only[z]at e;cases e
abbrev Xi(K:ae)(p:Ph)(H:Hp):AI->List V->Prop:=cp (dR K p H)
theorem Rb{p:Ph}{S:aH}{H:Hp}(s:aQ K p S H):∀{as:AL}{vs:AI}{xs:List V},fI K p H as xs->gW S as=some vs->Xi K p H vs xs
 |[],vs,_,.nil,e=>by
  cases e;exact .nil
 |a::r,vs,_,.cons h t,e=>by
  unfold gW at e;cases z:rd S a with
  |none=>simp only[z]at e;cases e
  |some v=>
   simp only[z]at e;cases y:gW S r with
   |none=>simp only[y]at e;cases e
   |some us=>
    simp only[y]at e;cases e;exact .cons (pR s h z) (Rb s t y)
def eW(K:ae)(r:R2)(f:PV->PV->AJ):Prop:=∀{p:Ph}{S:aH}{H:Hp}{a b c:PV}{x y:V}{Q:VK},aQ K p S H->dR K p H a x->dR K p H b y->f a b=some c->
 (∀H' z,cE H H'->aK K p.c H' c z->Q z H')->r x y H Q
def nX(K:ae)(r:V->Hp->VK->Prop)(f:PV->AJ):Prop:=∀{p:Ph}{S:aH}{H:Hp}{a c:PV}{x:V}{Q:VK},aQ K p S H->dR K p H a x->f a=some c->
 (∀H' z,cE H H'->aK K p.c H' c z->Q z H')->r x H Q
def N5(K:ae)(r:List V->Hp->VK->Prop)(f:AI->AJ):Prop:=∀{p:Ph}{S:aH}{H:Hp}{as:AI}{c:PV}{xs:List V}{Q:VK},aQ K p S H->aJ K p.c H as xs->f as=some c->
 (∀H' z,cE H H'->aK K p.c H' c z->Q z H')->r xs H Q
def iS(K:ae)(r:List V->Hp->VK->Prop)(f:AI->AJ):Prop:=∀{p:Ph}{S:aH}{H:Hp}{as:AI}{c:PV}{xs:List V}{Q:VK},aQ K p S H->Xi K p H as xs->f as=some c->
 (∀H' z,cE H H'->aK K p.c H' c z->Q z H')->r xs H Q
theorem oX{p:Ph}{S:aH}{H:Hp}{o:AJ}{Q:VK}(s:aQ K p S H)(h:bR K cl (bU K) p H (fV o S) Q E):∃c,o=some c/\∀H' z,cE H H'->aK K p.c H' c z->Q z H':=by
 cases o with
 |none=>exact h.elim
 |some c=>exact⟨c,rfl,λH' z sm rz=>bR.same (R:=bU K) h s sm rz⟩
theorem qW{r:R2}{f:PV->PV->AJ}(hf:eW K r f){p:Ph}{S:aH}{H:Hp}{a b:AV}{x y:V}{Q:VK}(s:aQ K p S H)(ra:bU K p H a x)(rb:bU K p H b y)(h:bR K cl (bU K) p H (iJ f a b S) Q E):r x y H Q:=by
 obtain⟨c,e,k⟩:=oX s h;cases z:rd S a with
 |none=>rw[z]at e;cases e
 |some v=>
  cases y:rd S b with
  |none=>rw[z,y]at e;cases e
  |some w=>
   rw[z,y]at e;exact hf s (pR s ra z) (pR s rb y) e k
theorem mL{r:V->Hp->VK->Prop}{f:PV->AJ}(hf:nX K r f){p:Ph}{S:aH}{H:Hp}{a:AV}{x:V}{Q:VK}(s:aQ K p S H)(ra:bU K p H a x)(h:bR K cl (bU K) p H (pZ f a S) Q E):r x H Q:=by
 obtain⟨c,e,k⟩:=oX s h;cases z:rd S a with
 |none=>rw[z]at e;cases e
 |some v=>
  rw[z]at e;exact hf s (pR s ra z) e k
theorem Zb{r:List V->Hp->VK->Prop}{f:AI->AJ}(hf:iS K r f){p:Ph}{S:aH}{H:Hp}{as:AL}{xs:List V}{Q:VK}(s:aQ K p S H)(ra:fI K p H as xs)(h:bR K cl (bU K) p H (kS f as S) Q E):r xs H Q:=by
 obtain⟨c,e,k⟩:=oX s h;cases z:gW S as with
 |none=>rw[z]at e;cases e
 |some v=>
  rw[z]at e;exact hf s (Rb s ra z) e k
theorem uM{p:Ph}{H:Hp}:∀{as:AL}{vs:AI}{xs:List V},kQ as=some vs->fI K p H as xs->aJ K p.c H vs xs
 |[],vs,_,e,.nil=>by
  cases e;exact .nil
 |.pv v::r,vs,_,e,.cons h t=>by
  unfold kQ at e;cases z:kQ r with
  |none=>simp only[z]at e;cases e
  |some us=>
   simp only[z]at e;cases e;exact .cons h (uM z t)
 |.ref k::r,vs,_,e,.cons h t=>by
  cases e
theorem oN{r:List V->Hp->VK->Prop}{f:AI->AJ}(hf:N5 K r f){p:Ph}{S:aH}{H:Hp}{as:AL}{xs:List V}{Q:VK}(s:aQ K p S H)(ra:fI K p H as xs)(h:bR K cl (bU K) p H (nK f as S) Q E):r xs H Q:=by
 obtain⟨c,e,k⟩:=oX s h;cases z:kQ as with
 |none=>rw[z]at e;cases e
 |some v=>
  rw[z]at e;exact hf s (uM z ra) e k
theorem nJ{op:Operator}{r:R2}{f:PV->PV->AJ}(ho:dE X (binaryOp op) r)(hf:eW X.K r f)(ha:aO K cl E X a ma)(hb:aO K cl E X b mb):aO K cl E X (.BinOp a op b pos) (aB f ma mb):=by
 intro hK;subst hK;refine(B8 ho (ha rfl) (hb rfl)).imp ?_
 rintro σ H Q ⟨p,S,ρ,s,e,h⟩
 exact bT s e h λq H1 a x S1 st s1 e1 r1 h1=>bT s1 e1 h1 λq2 H2 b y S2 st2 s2 e2 r2 h2=>qW hf s2 (st2.repA r1) r2 h2
theorem C0{op:UnaryOp}{r:V->Hp->VK->Prop}{f:PV->AJ}(ho:tR X (unaryOp op) r)(hf:nX X.K r f)(ha:aO K cl E X a ma):aO K cl E X (.UnaryOp op a pos) (bF f ma):=by
 intro hK;subst hK;refine(Yz ho (ha rfl)).imp ?_
 rintro σ H Q ⟨p,S,ρ,s,e,h⟩
 exact bT s e h λq H1 a x S1 st s1 e1 r1 h1=>mL hf s1 r1 h1
theorem nB{op:im}{r:R2}{f:PV->PV->AJ}(ho:dE X (compareOp op) r)(hf:eW X.K r f)(ha:aO K cl E X a ma)(hb:aO K cl E X b mb)(hm:behindInMarks op b=false):aO K cl E X (.Compare a [op] [b] pos) (aB f ma mb):=by
 intro hK;subst hK;refine(Fv ho (ha rfl) (hb rfl) hm).imp ?_
 rintro σ H Q ⟨p,S,ρ,s,e,h⟩
 exact bT s e h λq H1 a x S1 st s1 e1 r1 h1=>bT s1 e1 h1 λq2 H2 b y S2 st2 s2 e2 r2 h2=>qW hf s2 (st2.repA r1) r2 h2
theorem Si{p:Ph}{H:Hp}{v:AV}{x:V}(r:bU K p H v x){b:Bool}(e:v=.pv (.bl b)):x=.bl b:=by
 subst e;unfold bU aK at r;exact r
theorem De{p:Ph}{S:aH}{H:Hp}{v:AV}{x:V}{Q:Bool->Hp->Prop}(s:aQ K p S H)(r:bU K p H v x)
  (h:bR K cl RB p H (iQ v S) Q E):∃k,x=.bl k/\Q k H:=by
 cases v with
 |ref k=>exact h.elim
 |pv v=>
  cases v with
  |bl b=>exact⟨b,Si r rfl,bR.ret (R:=RB) h s rfl⟩
  |_=>exact h.elim
theorem mU{op:im}{r:R2}{f:PV->PV->AJ}(ho:dE X (compareOp op) r)(hf:eW X.K r f)(ha:aO K cl E X a ma)(hb:aO K cl E X b mb)(hm:behindInMarks op b=false):eO K cl E X (.Compare a [op] [b] pos) (bG (aB f ma mb)):=by
 intro hK;subst hK;refine(Mt ho (ha rfl) (hb rfl) hm).imp ?_
 rintro σ H Q ⟨p,S,ρ,s,e,h⟩
 have z:tP X.K cl E (bU X.K) (aB f ma mb) σ H λx H'=>∃k,x=.bl k/\Q k H':=bT s e h λq H1 a x S1 st s1 e1 r1 h1=>De s1 r1 h1;obtain⟨p',S',ρ',s',e',h'⟩:=z;exact bT s' e' h' λq H1 a x S1 st s1 e1 r1 h1=>bT s1 e1 h1 λq2 H2 b y S2 st2 s2 e2 r2 h2=>qW hf s2 (st2.repA r1) r2 h2
theorem Ht(ha:aO K cl E X a ma)(he:∀whole,isTrue a X.env whole=(do let v <-whole;standAt a.pos;holding [v] (truthy v)):=by intro _;rfl):eO K cl E X a (bG ma):=by
 intro hK;subst hK;refine(Mw (ha rfl) he).imp ?_
 rintro σ H Q ⟨p,S,ρ,s,e,h⟩
 exact bT s e h λq H1 a x S1 st s1 e1 r1 h1=>De s1 r1 h1
theorem Mu(ha:eO K cl E X a mt):eO K cl E X (.UnaryOp .Not a pos) (fM mt):=by
 intro hK;subst hK;refine(Kx (ha rfl)).imp ?_
 rintro σ H Q ⟨p,S,ρ,s,e,h⟩
 exact bT s e h λq H1 a x S1 st s1 e1 r1 h1=>by
  cases r1;exact bR.ret (R:=RB) h1 s1 rfl
theorem Ms(ha:eO K cl E X a mt):hU K cl E X (.BoolOp .And [a] pos) mt:=λhK=>Aw (ha hK)
theorem Au(ha:eO K cl E X a mt):hU K cl E X (.BoolOp .Or [a] pos) mt:=λhK=>Ky (ha hK)
theorem hU.pt(h:hU K cl E X a mt):eO K cl E X a mt:=λhK=>PW.pt (h hK)
theorem Cu{dQ:List af}(ha:eO K cl E X a mt)(hb:hU K cl E X (.BoolOp .And (b::dQ) pos) nt):hU K cl E X (.BoolOp .And (a::b::dQ) pos) (iP mt nt):=by
 intro hK;subst hK;refine PW.imp (Az (ha rfl) (hb rfl)) ?_
 rintro σ H Q ⟨p,S,ρ,s,e,h⟩
 refine bT s e h λq H1 a x S1 st s1 e1 r1 h1=>?_;cases r1;cases a with
 |true=>exact⟨q,S1,ρ,s1,e1,h1⟩
 |false=>exact bR.ret (R:=RB) h1 s1 rfl
theorem Yw{dQ:List af}(ha:eO K cl E X a mt)(hb:hU K cl E X (.BoolOp .Or (b::dQ) pos) nt):hU K cl E X (.BoolOp .Or (a::b::dQ) pos) (hJ mt nt):=by
 intro hK;subst hK;refine PW.imp (E9 (ha rfl) (hb rfl)) ?_
 rintro σ H Q ⟨p,S,ρ,s,e,h⟩
 refine bT s e h λq H1 a x S1 st s1 e1 r1 h1=>?_;cases r1;cases a with
 |true=>exact bR.ret (R:=RB) h1 s1 rfl
 |false=>exact⟨q,S1,ρ,s1,e1,h1⟩
theorem Lx{dQ:List af}(ha:aO K cl E X a ma)(hb:aO K cl E X (.BoolOp .And (b::dQ) pos) mb):aO K cl E X (.BoolOp .And (a::b::dQ) pos) (kR ma mb):=by
 intro hK;subst hK;refine(xC (ha rfl) (hb rfl)).imp ?_
 rintro σ H Q ⟨p,S,ρ,s,e,h⟩
 refine bT s e h λq H1 a x S1 st s1 e1 r1 h1=>?_;cases a with
 |ref k=>exact h1.elim
 |pv v=>
  cases v with
  |bl b=>
   refine⟨b,Si r1 rfl,?_⟩;cases b with
   |true=>exact⟨q,S1,ρ,s1,e1,h1⟩
   |false=>exact bR.ret (R:=bU X.K) h1 s1 (by show aK X.K q.c H1 _ _;unfold aK;rfl)
  |_=>exact h1.elim
theorem Uw(ha:aO K cl E X a ma):aO K cl E X (.UnaryOp .Not a pos) (bF qD ma):=by
 intro hK;subst hK;refine(Yh (ha rfl)).imp ?_
 rintro σ H Q ⟨p,S,ρ,s,e,h⟩
 refine bT s e h λq H1 a x S1 st s1 e1 r1 h1=>?_;refine mL (r:=λx H Q=>∃c,x=.bl c/\Q (.bl (!c)) H) (f:=qD) (λ{p S H a c x Q} s r e k=>?_) s1 r1 h1;cases a with
 |bl b=>
  cases e;exact⟨b,r.bl,k H _ (cE.refl H) (by unfold aK;rfl)⟩
 |_=>cases e
theorem Sf:dJ K cl E X [] aE:=λ_=>(PA.imp jA λσ H Q ⟨p,S,ρ,s,e,h⟩=>bR.ret (R:=fI K) h s .nil)
theorem vS(ha:aO K cl E X e m)(hr:dJ K cl E X es ms)(hs:starEach (e::es) X.env=(false,eval e X.env)::starEach es X.env:=by rfl):dJ K cl E X (e::es) (aC m ms):=by
 intro hK;subst hK;refine PA.imp (eR (ha rfl) (hr rfl) hs) ?_
 rintro σ H Q ⟨p,S,ρ,s,e,h⟩
 exact bT s e h λq H1 a x S1 st s1 e1 r1 h1=>bT s1 e1 h1 λq2 H2 b y S2 st2 s2 e2 r2 h2=>bR.ret (R:=fI X.K) h2 s2 (.cons (st2.repA r1) r2)
theorem kJ{p:Ph}{S:aH}{H:Hp}{vs:AI}{xs:List V}{t:Addr}(s:aQ K p S H)(r:aJ K p.c H vs xs)(z:xs.length<=sizeLine)(ht:H t=none):aK K p.c (aM H t (.tup xs)) (.tup vs) (.ref t):=by
 unfold aK;exact⟨t,xs,rfl,bZ.of dX,z,(s.same (dY ht)).reps r⟩
theorem lO{p:Ph}{S:aH}{H:Hp}{vs:AI}{xs:List V}{t:Addr}(s:aQ K p S H)(r:aJ K p.c H vs xs)(z:xs.length<=sizeLine)(ht:H t=none):aK K p.c (aM H t (.lst xs)) (.lst vs) (.ref t):=by
 unfold aK;refine⟨t,xs,rfl,.inl ⟨dX,λc=>?_⟩,z,(s.same (dY ht)).reps r⟩;obtain⟨o,e,_⟩:=s.mu t c;rw[ht]at e;cases e
theorem gO:sizeLine=16777216:=dk
theorem Qy{x1}(h:dJ K cl E X es ms):aO K cl E X (.Tuple es x1 pos) (mN dA ms):=by
 intro hK;subst hK;refine(xH (h rfl)).imp ?_
 rintro σ H Q ⟨p,S,ρ,s,e,h⟩
 refine bT s e h λq H1 as xs S1 st s1 e1 r1 h1=>?_;refine oN (r:=λxs H Q=>xs.length<=sizeLine/\∀t,H t=none->Q (.ref t) (aM H t (.tup xs))) (f:=dA) (λ{p S H as c xs Q} s r e k=>?_) s1 r1 h1;unfold dA at e;split at e
 .rename_i hl
  cases e;rw[r.length,<-gO]at hl;exact⟨hl,λt ht=>k _ _ (dY ht) (kJ s r hl ht)⟩
 .cases e
theorem Wx(h:dJ K cl E X es ms):aO K cl E X (.List es pos) (mN cX ms):=by
 intro hK;subst hK;refine(Tg (h rfl)).imp ?_
 rintro σ H Q ⟨p,S,ρ,s,e,h⟩
 refine bT s e h λq H1 as xs S1 st s1 e1 r1 h1=>?_;refine oN (r:=λxs H Q=>xs.length<=sizeLine/\∀t,H t=none->Q (.ref t) (aM H t (.lst xs))) (f:=cX) (λ{p S H as c xs Q} s r e k=>?_) s1 r1 h1;unfold cX at e;split at e
 .rename_i hl
  cases e;rw[r.length,<-gO]at hl;exact⟨hl,λt ht=>k _ _ (dY ht) (lO s r hl ht)⟩
 .cases e
end
noncomputable section
open PySem PySem.Spec PyProof.Rows Bn
def cJ:MS:=λρ S=>.nx ρ S
def aP(a b:MS):MS:=λρ S=>match a ρ S with
 |.nx ρ1 S1=>b ρ1 S1
 |r=>r
def iL(m:ME):MS:=λρ S=>cC.of (m ρ S) λ_ S1=>.nx ρ S1
def bH(m:ME):MS:=λρ S=>cC.of (m ρ S) λv S1=>.rt v S1
def Pz:MS:=λ_ S=>.rt (.pv .non) S
def cD(c:MT)(a b:MS):MS:=λρ S=>cC.of (c ρ S) λt S1=>if t=true then a ρ S1 else b ρ S1
def bE(i:Nat)(m:ME):MS:=λρ S=>cC.of (m ρ S) λv S1=>.nx (ρ.set i (some v)) S1
def qE(i j:Nat)(m:MA):MS:=λρ S=>cC.of (m ρ S) λvs S1=>match vs with
 |[v,w]=>.nx ((ρ.set i (some v)).set j (some w)) S1
 |_=>.fail
abbrev GM:=PV->bL->Option bL
abbrev lD:=AI->bL->Option bL
def gN(i:Nat):GM:=λv ρ=>some (ρ.set i (some (.pv v)))
def gU:lD:=λvs ρ=>match vs with
 |[]=>some ρ
 |_=>none
def eL(g:GM)(gs:lD):lD:=λvs ρ=>match vs with
 |[]=>none
 |v::r=>match g v ρ with
  |some ρ1=>gs r ρ1
  |none=>none
def gT(n:Nat)(gs:lD):GM:=λv ρ=>match v with
 |.tup vs=>if vs.length=n then gs vs ρ else none
 |_=>none
abbrev Gd:=List (Nat×AI)
def fZ(G:Gd)(S:aH):Prop:=∀g∈G,S[g.1]?=some (.lst g.2)
theorem rQ(S:aH):fZ [] S:=λ_ h=>nomatch h
abbrev MI:=bL->aH->bQ (AI×Gd)
open Classical in
def dM(G:Gd)(g:GM)(mb:MS):AI->bL->aH->cC
 |[],ρ,S=>if fZ G S then .nx ρ S else .fail
 |x::r,ρ,S=>if fZ G S then(match g x ρ with
  |none=>.fail
  |some ρ1=>match mb ρ1 S with
   |.nx ρ2 S2=>dM G g mb r ρ2 S2
   |.ct ρ2 S2=>dM G g mb r ρ2 S2
   |.bk ρ2 S2=>.nx ρ2 S2
   |.rt v S2=>.rt v S2
   |.exc n S2=>.exc n S2
   |.fail=>.fail)else .fail
def eS(mi:MI)(g:GM)(mb:MS):MS:=λρ S=>cC.of (mi ρ S) λxs S1=>dM xs.2 g mb xs.1 ρ S1
theorem kH{g:GM}{mb:MS}{ρ:bL}{S:aH}:dM [] g mb [] ρ S=.nx ρ S:=by
 unfold dM;rw[if_pos (rQ S)]
theorem iE{g:GM}{mb:MS}{x:PV}{r:AI}{ρ:bL}{S:aH}:dM [] g mb (x::r) ρ S=(match g x ρ with
  |none=>.fail
  |some ρ1=>match mb ρ1 S with
   |.nx ρ2 S2=>dM [] g mb r ρ2 S2
   |.ct ρ2 S2=>dM [] g mb r ρ2 S2
   |.bk ρ2 S2=>.nx ρ2 S2
   |.rt v S2=>.rt v S2
   |.exc n S2=>.exc n S2
   |.fail=>.fail):=by
 rw[dM,if_pos (rQ S)]
def cW(c:MT)(mb:MS):Nat->bL->aH->cC
 |0,_,_=>.fail
 |n+1,ρ,S=>cC.of (c ρ S) λt S1=>if t=true then(match mb ρ S1 with
   |.nx ρ2 S2=>cW c mb n ρ2 S2
   |.ct ρ2 S2=>cW c mb n ρ2 S2
   |.bk ρ2 S2=>.nx ρ2 S2
   |.rt v S2=>.rt v S2
   |.exc n S2=>.exc n S2
   |.fail=>.fail)else .nx ρ S1
open Classical in
def kM(c:MT)(mb:MS):MS:=λρ S=>if h:∃n,cW c mb n ρ S≠.fail then cW c mb h.choose ρ S else .fail
theorem cC.of_ok{α:Type}{r:bQ α}{k k':α->aH->cC}(h:∀a S,k a S≠.fail->k' a S=k a S)(n:cC.of r k≠.fail):cC.of r k'=cC.of r k:=by
 cases r with
 |ok a S=>exact h a S n
 |exc=>rfl
 |fail=>rfl
theorem uD{c:MT}{mb:MS}:∀{n:Nat}{ρ:bL}{S:aH},cW c mb n ρ S≠.fail->cW c mb (n+1) ρ S=cW c mb n ρ S
 |0,_,_,h=>absurd rfl h
 |n+1,ρ,S,h=>by
  unfold cW at h;rw[cW]
  conv=>rhs;rw[cW]
  refine cC.of_ok (λt S1 h1=>?_) h
  by_cases ht:t=true
  .simp only[if_pos ht]at h1⊢
   cases z:mb ρ S1 with
   |nx ρ2 S2=>rw[z]at h1;exact uD h1
   |ct ρ2 S2=>rw[z]at h1;exact uD h1
   |_=>rfl
  .simp only[if_neg ht]at h1⊢
theorem uI{c:MT}{mb:MS}{n:Nat}{ρ:bL}{S:aH}(h:cW c mb n ρ S≠.fail):∀k,cW c mb (n+k) ρ S=cW c mb n ρ S
 |0=>rfl
 |k+1=>by
  have ih:=uI h k;rw[<-vh,uD (by rw[ih];exact h),ih]
theorem vF{c:MT}{mb:MS}{n:Nat}{ρ:bL}{S:aH}{r:cC}(e:cW c mb n ρ S=r)(h:r≠.fail):kM c mb ρ S=r:=by
 have h':∃n,cW c mb n ρ S≠.fail:=⟨n,by rw[e];exact h⟩;unfold kM;rw[dif_pos h'];have e2:=h'.choose_spec;rcases Nat.le_total n h'.choose with l |l
 .obtain⟨k,q⟩:=ze l
  rw[q,uI (by rw[e];exact h),e]
 .obtain⟨k,q⟩:=ze l
  have z:=uI e2 k;rw[<-q,e]at z;exact z.symm
section
variable{K:ae}{cl:Str->Addr}{E:XK}{X:Cx}{a b c e tg:af}{es:List af}{m:ME}{mt:MT}{ms:MA}{b1 b2:MS}{st:Stmt}{sts sts':List Stmt}{pos:ag}
theorem bY.set{p:Ph}{H:Hp}{ρ:bL}{σ:St}{v:AV}{x:V}(h:bY K p H ρ σ)(r:bU K p H v x)(i:Nat):bY K p H (ρ.set i (some v)) (σ.set i (some x)):=by
 refine⟨by rw[gh,gh,h.len],λj u e=>?_⟩
 by_cases q:i=j
 .subst q
  by_cases l:i<ρ.length
  .rw[fx l]at e
   cases e;exact⟨x,fx (by rw[<-h.len];exact l),r⟩
  .rw[zf (by rw[gh];omega)]at e
   cases e
 .rw[ib q]at e⊢
  exact h.at_ j u e
theorem As:fB K cl E X [] cJ:=λ_=>eA.imp Hv λD σ H ⟨p,S,ρ,s,e,h⟩=>h p H σ s.step s e
theorem dI.nxD{p:Ph}{H:Hp}{ρ:bL}{S:aH}{D:jD}(h:dI K cl p H (.nx ρ S) D E){σ:St}(s:aQ K p S H)(e:bY K p H ρ σ):D.nx σ H:=h p H σ s.step s e
theorem vE(h1:eC K cl E X st b1)(h2:fB K cl E X sts b2):fB K cl E X (st::sts) (aP b1 b2):=by
 intro hK;subst hK;refine eA.imp (vN (h1 rfl) (h2 rfl)) λD σ H ⟨p,S,ρ,s,e,h⟩=>⟨p,S,ρ,s,e,?_⟩;unfold aP at h;cases z:b1 ρ S with
 |nx ρ1 S1=>
  rw[z]at h;exact λq H' σ' stp sm ev=>⟨q,S1,ρ1,sm,ev,dI.mono (r:=b2 ρ1 S1) h stp⟩
 |bk ρ1 S1=>rw[z]at h;exact h
 |ct ρ1 S1=>rw[z]at h;exact h
 |rt v S1=>rw[z]at h;exact h
 |exc n S1=>rw[z]at h;exact h
 |fail=>rw[z]at h;exact h
theorem Vd(h1:eC K cl E X st b1):fB K cl E X [st] b1:=λhK=>rV (h1 hK)
theorem Oq(he:aO K cl E X e m)(hs:swapsWith e none pos.line X.env=pure false:=by rfl):eC K cl E X (.Expr e pos) (iL m):=by
 intro hK;subst hK;refine PS.imp (Qu (he rfl) hs) ?_
 rintro D σ H ⟨p,S,ρ,s,e,h⟩
 exact iX s e h λq H' a b S' stp sm ev r k=>dI.nxD k sm ev
theorem Jg(he:aO K cl E X e m):eC K cl E X (.Return (some e) pos) (bH m):=by
 intro hK;subst hK;refine PS.imp (Iy (he rfl)) ?_
 rintro D σ H ⟨p,S,ρ,s,e,h⟩
 exact iX s e h λq H' a b S' stp sm ev r k=>k q H' b sm.step sm r
theorem Dy(hc:eO K cl E X c mt)(ha:fB K cl E X sts b1)(hb:fB K cl E X sts' b2):eC K cl E X (.If c sts sts' pos) (cD mt b1 b2):=by
 intro hK;subst hK;refine PS.imp (G4 (hc rfl) (ha rfl) (hb rfl)) ?_
 rintro D σ H ⟨p,S,ρ,s,e,h⟩
 refine iX s e h λq H' a b S' stp sm ev r k=>?_;cases r;cases a with
 |true=>exact⟨q,S',ρ,sm,ev,k⟩
 |false=>exact⟨q,S',ρ,sm,ev,k⟩
theorem wI{i:Nat}{x:Str}{pos':ag}(hN:X.N.Nodup)(hi:X.N[i]?=some x)(hx:jG X.env.scope x)(he:aO K cl E X e m)(hs:swapsWith e (some (.Name x pos')) pos.line X.env=pure false:=by rfl)
  (hf:X.fn x=true\/X.env.scope.names.lookup x=some .local:=by first |exact .inl rfl |exact .inr rfl |assumption):eC K cl E X (.Assign [.Name x pos'] e pos) (bE i m):=by
 intro hK;subst hK;refine PS.imp (wW hN hi hx (he rfl) hs hf) ?_
 rintro D σ H ⟨p,S,ρ,s,e,h⟩
 exact iX s e h λq H' a b S' stp sm ev r k=>dI.nxD k sm (ev.set r i)
theorem Nt{i j:Nat}{x y:Str}{px py pt:ag}{kt k2 pt2}(hc:X.calm=true)(hN:X.N.Nodup)(hi:X.N[i]?=some x)(hj:X.N[j]?=some y)(hij:i≠j)
  (hx:X.env.scope.names.lookup x=some .local)(hy:X.env.scope.names.lookup y=some .local)(ha:dJ K cl E X [a,b] ms)
  (hw:swappedStores [.Tuple [.Name x px,.Name y py] kt pt] (.Tuple [a,b] k2 pt2) X.env=pure (some [x,y]))
  (hs:swapsWithSole [.Tuple [.Name x px,.Name y py] kt pt] (.Tuple [a,b] k2 pt2) pos.line X.env=pure false:=by rfl):
  eC K cl E X (.Assign [.Tuple [.Name x px,.Name y py] kt pt] (.Tuple [a,b] k2 pt2) pos) (qE i j ms):=by
 intro hK;subst hK;refine PS.imp (Tx hc hN hi hj hij hx hy (ha rfl) hw hs) ?_
 rintro D σ H ⟨p,S,ρ,s,e,h⟩
 refine iX s e h λq H' vs xs S' stp sm ev r k=>?_;cases r with
 |nil=>exact k.elim
 |cons r1 rr=>
  cases rr with
  |nil=>exact k.elim
  |cons r2 rs=>
   cases rs with
   |nil=>exact⟨_,_,rfl,dI.nxD k sm ((ev.set r1 i).set r2 j)⟩
   |cons _ _=>exact k.elim
def gP(K:ae)(g:GM):TG:=λx σ H Q=>∃p S ρ v ρ',aQ K p S H/\bY K p H ρ σ/\aK K p.c H v x/\g v ρ=some ρ'/\∀σ',bY K p H ρ' σ'->Q σ' H
def M3(K:ae)(g:lD):kB:=λxs σ H Q=>∃p S ρ vs ρ',aQ K p S H/\bY K p H ρ σ/\aJ K p.c H vs xs/\g vs ρ=some ρ'/\∀σ',bY K p H ρ' σ'->Q σ' H
variable(K X)
def jY(tg:af)(g:GM):Prop:=X.K=K->PG X tg (gP K g)
def nV(ts:List af)(g:lD):Prop:=X.K=K->jF X ts (M3 K g)
variable{K X}
theorem PG.imp{tg:af}{t t':TG}(h:PG X tg t)(i:∀x σ H Q,t' x σ H Q->t x σ H Q):PG X tg t':=λAM s σ H v u Q I r q=>h AM s σ H v u Q I r (i v σ H Q q)
theorem jF.imp{ts:List af}{t t':kB}(h:jF X ts t)(i:∀x σ H Q,t' x σ H Q->t x σ H Q):jF X ts t':=λAM s σ H v u Q I r q=>h AM s σ H v u Q I r (i v σ H Q q)
theorem Vq{i:Nat}{x:Str}(hN:X.N.Nodup)(hi:X.N[i]?=some x)(hx:jG X.env.scope x)(hf:X.fn x=true\/X.env.scope.names.lookup x=some .local:=by first |exact .inl rfl |exact .inr rfl |assumption):jY K X (.Name x pos) (gN i):=
 λ_=>PG.imp (Gv hN hi hx hf) λx σ H Q ⟨p,S,ρ,v,ρ',s,ev,r,g,k⟩=>by
  cases g;exact k _ (ev.set (v:=.pv v) r i)
theorem Qq:nV K X [] gU:=λ_=>jF.imp Yu λxs σ H Q ⟨p,S,ρ,vs,ρ',s,ev,r,g,k⟩=>by
 cases vs with
 |nil=>
  cases g;unfold aJ at r;exact⟨r,k _ ev⟩
 |cons _ _=>cases g
theorem Oo{g:GM}{gs:lD}(h1:jY K X e g)(h2:nV K X es gs)(hs:(assignEach (e::es) X.env).map (·.2)=assign e X.env::(assignEach es X.env).map (·.2):=by rfl):nV K X (e::es) (eL g gs):=by
 intro hK;subst hK;refine jF.imp (Cq (h1 rfl) (h2 rfl) hs) ?_
 rintro xs σ H Q ⟨p,S,ρ,vs,ρ',s,ev,r,g1,k⟩
 cases vs with
 |nil=>cases g1
 |cons v vr=>
  unfold aJ at r;obtain⟨x,xr,rfl,r1,r2⟩:=r;unfold eL at g1;cases z:g v ρ with
  |none=>simp only[z]at g1;cases g1
  |some ρ1=>
   simp only[z]at g1;exact⟨x,xr,rfl,p,S,ρ,v,ρ1,s,ev,r1,z,λσ' ev'=>⟨p,S,ρ1,vr,ρ',s,ev',r2,g1,k⟩⟩
theorem Iv{k:Nat}{gs:lD}{n:Nat}(hc:X.calm=true)(h:nV K X es gs)(hn:(assignEach es X.env).length=n:=by rfl)(hst:(assignEach es X.env).findIdx? (·.1)=none:=by rfl):jY K X (.Tuple es k pos) (gT n gs):=by
 intro hK;subst hK;refine PG.imp (Jy hc (h rfl) hn hst) ?_
 rintro x σ H Q ⟨p,S,ρ,v,ρ',s,ev,r,g1,k⟩
 cases v with
 |tup vs=>
  unfold aK at r;obtain⟨a,xs,rfl,t,z,r⟩:=r;unfold gT at g1;dsimp only at g1;split at g1
  .rename_i hl
   exact⟨a,xs,rfl,t,r.length.symm.trans hl,p,S,ρ,vs,ρ',s,ev,r,g1,k⟩
  .cases g1
 |_=>cases g1
def dZ(K:ae)(p:Ph)(H:Hp)(xs:AI×Gd)(J:It):Prop:=xs.1.length<=sizeLine/\∀q H1 S1,bJ p H q H1->aQ K q S1 H1->fZ xs.2 S1->
 (∀(i:Nat)(v:PV),xs.1[i]?=some v->J.go i H1/\∀x H2,J.yld i H1 x H2->cE H1 H2/\aK K q.c H2 v x)/\J.stop xs.1.length H1
theorem dZ.step{p q:Ph}{H H':Hp}{xs:AI×Gd}{J:It}(h:dZ K p H xs J)(s:bJ p H q H'):dZ K q H' xs J:=⟨h.1,λr H1 S1 t=>h.2 r H1 S1 (s.trans t)⟩
variable(K cl E X)
def hV(tg iter:af)(m:MI):Prop:=X.K=K->PI X tg iter (tP K cl E (dZ K) m)
variable{K cl E X}
theorem PI.imp{tg iter:af}{t t':TI}(h:PI X tg iter t)(i:∀σ H Q,t' σ H Q->t σ H Q):PI X tg iter t':=λAM s σ H R I q=>h AM s σ H R I (i σ H R q)
def J9(K:ae)(tl:TE):TI:=λσ H R=>tl σ H λx H1=>∃a,x=.ref a/\(((∃xs,bS K H1 a xs)/\R (tJ K a) H1)\/((∃xs,bZ K H1 a xs)/\R (yS K a) H1))
theorem Fx{l:af}{tl:TE}(hl:PE X l tl):PI X tg l (J9 X.K tl):=by
 intro AM s σ H R I h;refine bB (hl AM s σ H _ I h) ?_
 rintro v s1 ⟨x,H1,I1,r1,q1⟩
 obtain⟨a,e,q⟩:=q1;subst e;cases r1;rcases q with⟨⟨xs,hq⟩,q⟩|⟨⟨xs,hq⟩,q⟩
 .obtain⟨its,rv,p,hz⟩:=I1.list hq
  refine oy p.isList ?_;refine⟨s1.heap.objs.size,[s1.heap.objs.size],_,_,H1,rfl,I1.kept (t':=s1.toks) λb o e=>al _ e,So a _,⟨_,cm _ rfl,rfl,rfl⟩,λb hb=>?_,q⟩;have e:b=s1.heap.objs.size:=by simpa using hb
  subst e;exact I1.fpOk (ak _) (I1.hok.fresh (ak _))
 .obtain⟨its,rv,p,hz⟩:=I1.tuple hq
  refine yt (show s1.heap.IsTuple a its.toArray from p) ?_;refine⟨s1.heap.objs.size,[s1.heap.objs.size],_,_,H1,rfl,I1.kept (t':=s1.toks) λb o e=>al _ e,Gn a _,⟨_,cm _ rfl,rfl,rfl⟩,λb hb=>?_,q⟩;have e:b=s1.heap.objs.size:=by simpa using hb
  subst e;exact I1.fpOk (ak _) (I1.hok.fresh (ak _))
def cQ:AV->aH->bQ (AI×Gd)
 |.pv (.lst xs),S=>.ok (xs,[]) S
 |.pv (.tup xs),S=>.ok (xs,[]) S
 |.ref k,S=>match S[k]? with
  |some (.lst xs)=>.ok (xs,[(k,xs)]) S
  |_=>.fail
 |_,_=>.fail
def cR(m:ME):MI:=λρ S=>(m ρ S).bind cQ
theorem Kw{p:Ph}{H:Hp}{xs:AI}{a:Addr}{vs:List V}(l:iD K p.c H a vs)(z:vs.length<=sizeLine)(r:aJ K p.c H xs vs):dZ K p H (xs,[]) (tJ K a):=by
 refine⟨by rw[r.length];exact z,λq H1 S1 st _ _=>⟨λi v e=>?_,?_⟩⟩
 .have l1:=(st.lat l).sq
  obtain⟨x,e1,r1⟩:=(st.reps r).get e;refine⟨⟨vs,x,l1,e1⟩,λy H2 hy=>?_⟩;obtain⟨rfl,hy⟩:=hy;have:=(hy vs l1).symm.trans e1;cases this;exact⟨cE.refl _,r1⟩
 .exact⟨vs,(st.lat l).sq,by rw[r.length];exact ak _⟩
theorem Px{p:Ph}{H:Hp}{xs:AI}{a:Addr}{vs:List V}(l:bZ K H a vs)(z:vs.length<=sizeLine)(r:aJ K p.c H xs vs):dZ K p H (xs,[]) (yS K a):=by
 refine⟨by rw[r.length];exact z,λq H1 S1 st _ _=>⟨λi v e=>?_,?_⟩⟩
 .have l1:=st.tup l
  obtain⟨x,e1,r1⟩:=(st.reps r).get e;refine⟨⟨vs,x,l1,e1⟩,λy H2 hy=>?_⟩;obtain⟨rfl,hy⟩:=hy;have:=(hy vs l1).symm.trans e1;cases this;exact⟨cE.refl _,r1⟩
 .exact⟨vs,st.tup l,by rw[r.length];exact ak _⟩
theorem Yy{p:Ph}{H:Hp}{xs:AI}{a:Addr}{k:Nat}{n:xs.length<=sizeLine}(hf:p.f[k]?=some a):dZ K p H (xs,[(k,xs)]) (tJ K a):=by
 refine⟨n,λq H1 S1 st sm g=>?_⟩;have e0:S1[k]?=some (.lst xs):=g (k,xs) bi;obtain⟨vs,h1,l1,r1⟩:=sm.obj k a _ (st.at_ hf) e0;refine⟨λi v e=>?_,?_⟩
 .obtain⟨x,e1,r2⟩:=r1.get e
  refine⟨⟨vs,x,bS.of h1,e1⟩,λy H2 hy=>?_⟩;obtain⟨rfl,hy⟩:=hy;have:=(hy vs (bS.of h1)).symm.trans e1;cases this;exact⟨cE.refl _,r2⟩
 .exact⟨vs,bS.of h1,by rw[r1.length];exact ak _⟩
theorem Vu(h:aO K cl E X e m):hV K cl E X tg e (cR m):=by
 intro hK;subst hK;refine PI.imp (Fx (h rfl)) ?_
 rintro σ H R ⟨p,S,ρ,s,ev,h⟩
 refine bT s ev h λq H' v x S' stp sm ev r k=>?_;cases v with
 |ref j=>
  obtain⟨a,e,rfl⟩:=r;unfold cQ at k;dsimp only at k;cases z:S'[j]? with
  |none=>rw[z]at k;exact k.elim
  |some o=>
   cases o with
   |lst xs=>
    rw[z]at k;obtain⟨vs,h1,l1,r1⟩:=sm.obj j a _ e z;exact⟨a,rfl,.inl ⟨⟨vs,bS.of h1⟩,bR.ret (R:=dZ X.K) k sm (Yy (n:=by rw[r1.length];exact l1) e)⟩⟩
   |lol _=>rw[z]at k;exact k.elim
   |dic _ _=>rw[z]at k;exact k.elim
   |dol _ _=>rw[z]at k;exact k.elim
 |pv v=>
  cases v with
  |lst xs=>
   have r:aK X.K q.c H' (.lst xs) x:=r;unfold aK at r;obtain⟨a,vs,rfl,l,z,r⟩:=r;exact⟨a,rfl,.inl ⟨⟨vs,l.sq⟩,bR.ret (R:=dZ X.K) k sm (Kw l z r)⟩⟩
  |tup xs=>
   have r:aK X.K q.c H' (.tup xs) x:=r;unfold aK at r;obtain⟨a,vs,rfl,l,z,r⟩:=r;exact⟨a,rfl,.inr ⟨⟨vs,l⟩,bR.ret (R:=dZ X.K) k sm (Px l z r)⟩⟩
  |_=>exact k.elim
def gI(lo:Int)(n:Nat):AI:=(aq n).map λi=>.int (lo+(i:Nat))
def lW:AL->aH->bQ (AI×Gd)
 |[.pv (.int j)],S1=>@ite _ (j<=16777216/\-16777216<=j) (Classical.propDecidable _) (.ok (gI 0 j.toNat,[]) S1) .fail
 |_,_=>.fail
def gR(ms:MA):MI:=λρ S=>(ms ρ S).bind lW
theorem Ax{p:Ph}{H:Hp}{lo:Int}{n:Nat}(h:n<=sizeLine):dZ K p H (gI lo n,[]) (tW lo n):=by
 have hl:(gI lo n).length=n:=by unfold gI;rw[az,kx]
 refine⟨by show(gI lo n).length<=_;rw[hl];exact h,λq H1 S1 st _ _=>⟨λi v e=>?_,?_⟩⟩
 .have hi:i<n:=by
   have:=(ck.mp (show(gI lo n)[i]?=some v from e)).1;omega
  refine⟨hi,λx H2 hy=>?_⟩;obtain⟨rfl,rfl⟩:=hy;have e:(gI lo n)[i]?=some v:=e;unfold gI at e;rw[dz,List.getElem?_range hi]at e;cases e;refine⟨cE.refl _,?_⟩;unfold aK;rfl
 .show n<=(gI lo n).length
  rw[hl];exact ak n
theorem Nm{p:ag}(hg:Gl X "range")(hm:X.mg "range"=none)(ha:dJ K cl E X [a] ms)(hs:starEach [a] X.env=[(false,eval a X.env)]:=by rfl):hV K cl E X tg (.Call (.Name "range" p) [a] [] pos) (gR ms):=by
 intro hK;subst hK;refine PI.imp (Jp hg hm (ha rfl) hs) ?_
 rintro σ H R ⟨p,S,ρ,s,ev,h⟩
 refine bT s ev h λq H' vs xs S' stp sm ev r k=>?_;unfold lW at k;split at k
 .rename_i j
  cases r with
  |cons r1 r2=>
   cases r2;rename_i x;have e:x=.int j:=by
    have r1:aK X.K q.c H' (.int j) x:=r1;unfold aK at r1;exact r1
   subst e;split at k
   .rename_i hj
    have hz:=gO;exact⟨j,rfl,by omega,by omega,bR.ret (R:=dZ X.K) k sm (Ax (by omega))⟩
   .exact k.elim
 .exact k.elim
theorem Vs{mi:MI}{g:GM}(hp:ng (model X.prog X.w) X.A X.env X.xe)(hc:X.calm=true)(hi:hV K cl E X tg e mi)(hg:jY K X tg g)(hb:fB K cl E X sts b1)
  (hs:∀x,foldedSetIterable e X.env x=pure x:=by intro _;rfl):eC K cl E X (.For tg e sts [] pos) (eS mi g b1):=by
 intro hK;subst hK;refine PS.imp (Hy hp hc (hi rfl) (hg rfl) (hb rfl) hs) ?_
 rintro D σ H ⟨p,S,ρ,s,ev,h⟩
 refine iX s ev h λq H' xg J S' stp sm ev it k=>?_;obtain⟨xs,G⟩:=xg;refine⟨λi n σ H=>n=xs.length-i/\i<=xs.length/\∃p S ρ,aQ X.K p S H/\bY X.K p H ρ σ/\dZ X.K p H (xs,G) J/\dI X.K cl p H (dM G g b1 (xs.drop i) ρ S) D E,⟨xs.length,by simp,dh _,q,S',ρ,sm,ev,it,by simpa using k⟩,?_⟩
 rintro i n σ1 H1 ⟨rfl,hi,p1,S1,ρ1,sm1,ev1,it1,k1⟩
 by_cases hlt:i<xs.length
 .have hx:xs[i]?=some xs[i]:=ax hlt
  rw[qm hlt]at k1;unfold dM at k1;split at k1
  .rename_i gk
   obtain⟨g1,y1⟩:=(it1.2 p1 H1 S1 sm1.step sm1 gk).1 i _ hx;cases z:g xs[i] ρ1 with
   |none=>simp only[z]at k1;exact k1.elim
   |some ρ2=>
    simp only[z]at k1;refine .inr ⟨g1,λσ' H'=>i+1<=xs.length/\∃p S ρ,aQ X.K p S H'/\bY X.K p H' ρ σ'/\dZ X.K p H' (xs,G) J/\dI X.K cl p H' (dM G g b1 (xs.drop (i+1)) ρ S) D E,λσ' H' hN=>⟨xs.length-(i+1),by omega,rfl,hN⟩,λx H2 hy=>?_⟩;obtain⟨same,rx⟩:=y1 x H2 hy;have st2:=sm1.same same;have sm2:=sm1.ofSame same;refine⟨p1,S1,ρ1,xs[i],ρ2,sm2,st2.repE ev1,rx,z,λσ3 ev3=>⟨p1,S1,ρ2,sm2,ev3,?_⟩⟩;have it2:=it1.step st2;cases y:b1 ρ2 S1 with
    |nx ρ4 S4=>
     rw[y]at k1;exact λq5 H5 σ5 st5 sm5 ev5=>⟨hlt,q5,S4,ρ4,sm5,ev5,it2.step st5,dI.mono (r:=dM G g b1 (xs.drop (i+1)) ρ4 S4) k1 (st2.trans st5)⟩
    |ct ρ4 S4=>
     rw[y]at k1;exact λq5 H5 σ5 st5 sm5 ev5=>⟨hlt,q5,S4,ρ4,sm5,ev5,it2.step st5,dI.mono (r:=dM G g b1 (xs.drop (i+1)) ρ4 S4) k1 (st2.trans st5)⟩
    |bk ρ4 S4=>rw[y]at k1;exact dI.mono (r:=.nx ρ4 S4) k1 st2
    |rt v S4=>rw[y]at k1;exact dI.mono (r:=.rt v S4) k1 st2
    |exc v S4=>rw[y]at k1;exact dI.mono (r:=.exc v S4) k1 st2
    |fail=>rw[y]at k1;exact k1.elim
  .exact k1.elim
 .have e:i=xs.length:=by omega
  subst e;rw[vj]at k1;unfold dM at k1;split at k1
  .rename_i gk
   exact .inl ⟨(it1.2 p1 H1 S1 sm1.step sm1 gk).2,dI.nxD k1 sm1 ev1⟩
  .exact k1.elim
theorem Kp(hp:ng (model X.prog X.w) X.A X.env X.xe)(hc:eO K cl E X c mt)(hb:fB K cl E X sts b1):eC K cl E X (.While c sts [] pos) (kM mt b1):=by
 intro hK;subst hK;refine PS.imp (Lq hp (hc rfl) (hb rfl)) ?_
 rintro D σ H ⟨p,S,ρ,s,ev,h⟩
 unfold kM at h;split at h
 .rename_i hh
  refine⟨λn σ H=>∃p S ρ,aQ X.K p S H/\bY X.K p H ρ σ/\dI X.K cl p H (cW mt b1 n ρ S) D E,⟨_,p,S,ρ,s,ev,h⟩,?_⟩
  rintro n σ1 H1 ⟨p1,S1,ρ1,sm1,ev1,k1⟩
  cases n with
  |zero=>exact k1.elim
  |succ n=>
   unfold cW at k1;refine iX sm1 ev1 k1 λq H2 t t' S2 stp sm2 ev2 r k2=>?_;cases r;cases t with
   |true=>
    rw[if_pos rfl]at k2⊢;refine⟨λσ' H'=>∃p S ρ,aQ X.K p S H'/\bY X.K p H' ρ σ'/\dI X.K cl p H' (cW mt b1 n ρ S) D E,λσ' H' hN=>⟨n,zg n,hN⟩,q,S2,ρ1,sm2,ev2,?_⟩;cases y:b1 ρ1 S2 with
    |nx ρ4 S4=>
     rw[y]at k2;exact λq5 H5 σ5 st5 sm5 ev5=>⟨q5,S4,ρ4,sm5,ev5,dI.mono (r:=cW mt b1 n ρ4 S4) k2 st5⟩
    |ct ρ4 S4=>
     rw[y]at k2;exact λq5 H5 σ5 st5 sm5 ev5=>⟨q5,S4,ρ4,sm5,ev5,dI.mono (r:=cW mt b1 n ρ4 S4) k2 st5⟩
    |bk ρ4 S4=>rw[y]at k2;exact k2
    |rt v S4=>rw[y]at k2;exact k2
    |exc v S4=>rw[y]at k2;exact k2
    |fail=>rw[y]at k2;exact k2.elim
   |false=>
    rw[if_neg kb]at k2⊢;exact dI.nxD k2 sm2 ev2
 .exact h.elim
end
end
def gS(n:Nat)(xs:AL):bL:=xs.map some++wy (n-xs.length) none
def jB(n:Nat):AV->aH->bQ AV
 |.pv v,S=>.ok (.pv v) (S.take n)
 |.ref k,S=>if k<n then .ok (.ref k) (S.take n)else match S[k]? with
  |some (.lst xs)=>.ok (.ref n) (S.take n++[.lst xs])
  |some (.dic b kvs)=>.ok (.ref n) (S.take n++[.dic b kvs])
  |_=>.fail
def frz(n:Nat):bQ AV->bQ AV
 |.ok (.ref k) S=>if k<n then .ok (.ref k) S else match S[k]? with
  |some (.lst xs)=>.ok (.pv (.lst xs)) (S.take n)
  |_=>.fail
 |r=>r
def kP(n:Nat):cC->bQ AV
 |.rt v S=>jB n v S
 |.nx _ S=>.ok (.pv .non) (S.take n)
 |.exc e S=>.exc e (S.take n)
 |_=>.fail
def aS(np n:Nat)(b:MS)(xs:AL)(S:aH):bQ AV:=if xs.length=np then kP S.length (b (gS n xs) S)else .fail
def nH{α:Type}:bQ α->bQ α
 |.ok a S=>.ok a S
 |_=>.fail
abbrev FM:=AL->aH->bQ AV
def fE(f:FM)(ds:AI)(ms:MA):ME:=λρ S=>(ms ρ S).bind λxs S1=>frz S1.length (f (xs++ds.map .pv) S1)
def bI(f:FM)(ds:AI)(ms:MA):ME:=λρ S=>(ms ρ S).bind λxs S1=>frz S1.length (nH (f (xs++ds.map .pv) S1))
def pL(f:FM)(ds:AI)(ms:MA):ME:=λρ S=>(ms ρ S).bind λxs S1=>nH (f (xs++ds.map .pv) S1)
def hZ(K:ae)(cl:Str->Addr)(f:FM):Sp:=λvs H Q E=>∃p S xs,aQ K p S H/\fI K p H xs vs/\bR K cl (bU K) p H (f xs S) Q E
def jV(K:ae)(cl:Str->Addr)(f:FM):Sp:=λvs H Q _=>hZ K cl f vs H Q E0
section
variable{K:ae}{cl:Str->Addr}{p q:Ph}{H H':Hp}{S S':aH}
theorem Ga{c c':Addr->Prop}(h:∀a,c a->c' a){a:Addr}{vs:List V}(l:iD K c' H a vs):iD K c H a vs:=by
 rcases l with⟨l,n⟩|l |l
 .exact .inl ⟨l,λz=>n (h a z)⟩
 .exact .inr (.inl l)
 .exact .inr (.inr l)
theorem oI{c c':Addr->Prop}(h:∀a,c a->c' a){ps:AI}{vs:List V}(r:aJ K c' H ps vs):aJ K c H ps vs:=aJ.mono (λ_ _ t=>t) (λ_ _ l=>Ga h l) (λ_ _ e=>⟨e.1,λz=>e.2 (h _ z)⟩) ps vs r
theorem Mm{c c':Addr->Prop}(h:∀a,c a->c' a){v:PV}{x:V}(r:aK K c' H v x):aK K c H v x:=aK.mono (λ_ _ t=>t) (λ_ _ l=>Ga h l) (λ_ _ e=>⟨e.1,λz=>e.2 (h _ z)⟩) v x r
theorem Gm{f g:List Addr}(h:f <+:g):g.take f.length=f:=by
 obtain⟨t,e⟩:=h;rw[<-e,List.take_left]
theorem nodup_idx{α:Type}:∀{l:List α}{i j:Nat}{a:α},l.Nodup->l[i]?=some a->l[j]?=some a->i=j
 |[],i,j,a,_,e,_=>by simp at e
 |b::l,0,0,a,_,_,_=>rfl
 |b::l,0,j+1,a,n,e,f=>by
  simp at e f;subst e;exact absurd (fj f) (io.mp n).1
 |b::l,i+1,0,a,n,e,f=>by
  simp at e f;subst f;exact absurd (fj e) (io.mp n).1
 |b::l,i+1,j+1,a,n,e,f=>by
  exact congrArg (·+1) (nodup_idx (l:=l) (a:=a) (io.mp n).2 (by simpa using e) (by simpa using f))
theorem aQ.cutX(D:Addr->Prop)(s:aQ K p S H)(st:bJ p H q H')(s':aQ K q S' H')(hD:∀b,D b->H b=none)(hq:(∀b,D b->b∈q.f)\/∀k o,S'[k]?=some o->k<S.length->∃xs,o=.lst xs):
  let r:Ph:=⟨p.f,λb=>q.w b/\¬D b,λb=>q.c b/\¬D b⟩
  bJ p H r H'/\aQ K r (S'.take S.length) H':=by
 intro r;have nD:∀a,p.c a->¬D a:=λa c d=>by
  obtain⟨o,ho,_⟩:=s.mu a c;rw[hD a d]at ho;cases ho
 have le:S.length<=S'.length:=by
  have:=st.pre.length_le;rw[<-s.len,<-s'.len];exact this
 refine⟨⟨s.wc,s.mu,ku,λa h=>⟨st.mw a h,nD a (s.wc a h)⟩,λa h=>⟨st.mono a h,nD a h⟩,λ_ h g=>absurd h g,λa h=>st.nw a h.1,λa h=>st.nc a h.1,st.keep⟩,s.nd,by rw[s.len,nr];omega,λa h=>⟨st.mw a (s.sub a h),nD a (s.wc a (s.sub a h))⟩,λa h=>⟨s'.wc a h.1,h.2⟩,λa h=>s'.mu a h.1,λk a o e1 e2=>?_⟩;have hk:k<S.length:=by
  have:=(ck.mp e1).1;rw[<-s.len];exact this
 have e2':S'[k]?=some o:=by
  rw[vk,if_pos hk]at e2;exact e2
 have z:=s'.obj k a o (st.at_ e1) e2';have shr:∀xs vs,aJ K q.c H' xs vs->aJ K r.c H' xs vs:=λxs vs=>oI (λb h=>h.1);have sub:∀b,b∉q.f->b∉p.f:=λb n h=>n (st.pre.subset h);rcases hq with hq |hq
 .exact z.mono (λ_ e=>e) (λb w f=>⟨⟨⟨w,λd=>f (hq b d)⟩,sub b f⟩,λ_ e=>e⟩) shr
 .obtain⟨xs,rfl⟩:=hq k o e2' hk
  obtain⟨vs,e,l,g⟩:=z;exact⟨vs,e,l,shr xs vs g⟩
theorem aQ.cut(s:aQ K p S H)(st:bJ p H q H')(s':aQ K q S' H'):bJ p H ⟨p.f,λb=>q.w b/\¬False,λb=>q.c b/\¬False⟩ H'/\aQ K ⟨p.f,λb=>q.w b/\¬False,λb=>q.c b/\¬False⟩ (S'.take S.length) H':=
 s.cutX (λ_=>False) st s' (λ_ h=>h.elim) (.inl λ_ h=>h.elim)
theorem Yb(s:aQ K p S H)(st:bJ p H q H')(sm:aQ K q S' H'){k:Nat}{a:Addr}(e:q.f[k]?=some a)(hk:¬k<S.length):a∉p.f/\H a=none/\¬p.c a:=by
 have na:a∉p.f:=λhm=>by
  obtain⟨j,hj,ej⟩:=vm hm;have e2:q.f[j]?=some a:=st.at_ (by rw[ax hj,ej]);have hjk:j=k:=nodup_idx sm.nd e2 e;rw[s.len]at hj;omega
 have hn:=st.nf a (fj e) na;refine⟨na,hn,λc=>?_⟩;obtain⟨o,ho,_⟩:=s.mu a c;rw[hn]at ho;cases ho
theorem rM{r:bQ AV}{Q:VK}{E:XK}(s:aQ K p S H)(h:bR K cl (bU K) p H (frz S.length r) Q E):bR K cl (bU K) p H r Q E:=by
 cases r with
 |exc n S1=>exact h
 |fail=>exact h
 |ok v S1=>
  cases v with
  |pv v=>exact h
  |ref k=>
   have h:bR K cl (bU K) p H (if k<S.length then .ok (.ref k) S1 else match S1[k]? with
    |some (.lst xs)=>.ok (.pv (.lst xs)) (S1.take S.length)
    |_=>.fail) Q E:=h
   split at h
   .exact h
   .rename_i hk
    cases z:S1[k]? with
    |none=>rw[z]at h;exact h.elim
    |some o=>
     cases o with
     |lol _=>rw[z]at h;exact h.elim
     |dic _ _=>rw[z]at h;exact h.elim
     |dol _ _=>rw[z]at h;exact h.elim
     |lst xs=>
      rw[z]at h;intro q H' x st sm r;obtain⟨a,e,rfl⟩:=r;obtain⟨na,hn,nc⟩:=Yb s st sm e hk;obtain⟨st1,sm1⟩:=s.cutX (λb=>b=a) st sm (λb d=>d▸hn) (.inl λb d=>d▸fj e);obtain⟨vs,h1,l,r⟩:=sm.obj k a _ e z;refine h _ H' (.ref a) st1 sm1 ?_;show aK K (λb=>q.c b/\¬b=a) H' (.lst xs) (.ref a);unfold aK;exact⟨a,vs,rfl,.inl ⟨h1,λd=>d.2 rfl⟩,l,oI (λb h=>h.1) r⟩
theorem uR{r:cC}{Q:VK}{E:XK}(s:aQ K p S H)(h:bR K cl (bU K) p H (kP S.length r) Q E):dI K cl p H r {nx:=λ_ H'=>Q .non H',rt:=Q} E:=by
 cases r with
 |nx ρ S1=>
  intro q H' σ st sm ev;obtain⟨st1,sm1⟩:=s.cut st sm;exact h _ H' .non st1 sm1 (by show aK K (λb=>q.c b/\¬False) H' .non .non;unfold aK;rfl)
 |exc n S1=>
  intro q H' st sm;obtain⟨st1,sm1⟩:=s.cut st sm;exact h _ H' st1 sm1
 |rt v S1=>
  intro q H' x st sm r;obtain⟨st1,sm1⟩:=s.cut st sm;cases v with
  |pv v=>exact h _ H' x st1 sm1 (show aK K (λb=>q.c b/\¬False) H' v x from Mm (λb h=>h.1) r)
  |ref k=>
   obtain⟨a,e,rfl⟩:=r;have h:bR K cl (bU K) p H (if k<S.length then .ok (.ref k) (S1.take S.length)else match S1[k]? with
    |some (.lst xs)=>.ok (.ref S.length) (S1.take S.length++[.lst xs])
    |some (.dic b kvs)=>.ok (.ref S.length) (S1.take S.length++[.dic b kvs])
    |_=>.fail) Q E:=h
   split at h
   .rename_i hk
    refine h _ H' (.ref a) st1 sm1 ⟨a,?_,rfl⟩;show p.f[k]?=some a;have hf:=Gm st.pre;rw[<-hf,vk,if_pos (by rw[s.len];exact hk)];exact e
   .rename_i hk
    have fin:∀o,S1[k]?=some o->bR K cl (bU K) p H (.ok (.ref S.length) (S1.take S.length++[o])) Q E->Q (.ref a) H':=λo z h=>by
     obtain⟨na,hn,nc⟩:=Yb s st sm e hk;have l1:(S1.take S.length).length=S.length:=by rw[<-sm1.len,<-s.len]
     have ma:a∈q.f:=fj e;refine h ⟨p.f++[a],q.w,q.c⟩ H' (.ref a) ⟨s.wc,s.mu,⟨[a],rfl⟩,st.mw,st.mono,λb hb n=>?_,st.nw,st.nc,st.keep⟩ ⟨?_,?_,λb hb=>?_,sm.wc,sm.mu,λj b o e1 e2=>?_⟩ ⟨a,?_,rfl⟩
     .rcases du.mp hb with z |z
      .exact absurd z n
      .have:b=a:=by simpa using z
       rw[this];exact hn
     .show(p.f++[a]).Nodup
      rw[zh];refine⟨s.nd,by simp,λb hb c hc z=>?_⟩;have:c=a:=by simpa using hc
      exact na (this▸z▸hb)
     .show(p.f++[a]).length=_
      rw[da,da,l1,s.len];rfl
     .rcases du.mp hb with z |z
      .exact st.mw b (s.sub b z)
      .have:b=a:=by simpa using z
       rw[this];exact sm.sub a ma
     .by_cases hj:j<S.length
      .have e1':p.f[j]?=some b:=by
        have e1:(p.f++[a])[j]?=some b:=e1
        rwa[gf (by rw[s.len];exact hj)]at e1
       rw[gf (by rw[l1];exact hj),vk,if_pos hj]at e2;refine(sm.obj j b o (st.at_ e1') e2).mono (λ_ e=>e) (λc w f=>⟨⟨w,λm=>?_⟩,λ_ e=>e⟩) λ_ _ r=>r;rcases du.mp m with z |z
       .exact f (st.pre.subset z)
       .have:c=a:=by simpa using z
        exact f (this▸ma)
      .have hj':j=S.length:=by
        have:=(ck.mp e2).1;rw[da,l1]at this;simp at this;omega
       subst hj';rw[fy (by rw[l1];exact ak _),l1,ky]at e2;have e1:(p.f++[a])[S.length]?=some b:=e1;rw[<-s.len,fy (ak _),ky]at e1;cases e1;cases e2;refine(sm.obj k a _ e z).mono (λ_ e=>e) (λc w f=>⟨⟨w,λm=>?_⟩,λ_ e=>e⟩) λ_ _ r=>r;rcases du.mp m with z |z
       .exact f (st.pre.subset z)
       .have:c=a:=by simpa using z
        exact f (this▸ma)
     .show(p.f++[a])[S.length]?=some a
      rw[<-s.len,fy (ak _),ky];rfl
    split at h
    .rename_i z
     exact fin _ z h
    .rename_i z
     exact fin _ z h
    .exact h.elim
 |bk ρ S1=>exact h.elim
 |ct ρ S1=>exact h.elim
 |fail=>exact h.elim
theorem uN{N:List Str}{xs:AL}{vs:List V}(r:fI K p H xs vs):bY K p H (gS N.length xs) (L2.start N vs):=by
 have go:∀{xs:AL}{vs:List V},fI K p H xs vs->xs.length=vs.length:=λ{xs vs} r=>by
  induction r with
  |nil=>rfl
  |cons _ _ ih=>rw[cg,cg,ih]
 have get:∀{xs:AL}{vs:List V},fI K p H xs vs->∀(i:Nat)(v:AV),xs[i]?=some v->∃x,vs[i]?=some x/\bU K p H v x:=λ{xs vs} r=>by
  induction r with
  |nil=>intro i v e;simp at e
  |cons h _ ih=>
   intro i v e;cases i with
   |zero=>
    simp at e;subst e;exact⟨_,rfl,h⟩
   |succ i=>simpa using ih i v (by simpa using e)
 have hl:=go r;refine⟨by unfold gS L2.start;simp[hl],λi v e=>?_⟩;unfold gS at e;unfold L2.start
 by_cases hi:i<xs.length
 .rw[gf (by simpa using hi),dz]at e
  cases z:xs[i]? with
  |none=>rw[z]at e;cases e
  |some u=>
   rw[z]at e;cases e;obtain⟨x,e1,e2⟩:=get r i v z;refine⟨x,?_,e2⟩;rw[gf (by rw[az,<-hl];exact hi),dz,e1];rfl
 .rw[fy (by rw[az];omega),xa]at e
  split at e
  .cases e
  .cases e
end
section
variable{P:Program}{w:ah}{K:ae}{mg:Str->AF}{base:Heap}{cl:Str->Addr}
theorem Vo{K:ae}{p:Ph}{H:Hp}{xs:AL}{vs:List V}(h:fI K p H xs vs):xs.length=vs.length:=by
 induction h with
 |nil=>rfl
 |cons _ _ ih=>rw[cg,cg,ih]
theorem wT{np n:Nat}{b:MS}{vs:List V}{H:Hp}{Q:VK}{E:XK}(h:hZ K cl (aS np n b) vs H Q E):vs.length=np:=by
 obtain⟨p,S,xs,sm,ra,h⟩:=h;unfold aS at h;split at h
 .rename_i e
  rw[<-Vo ra,e]
 .exact h.elim
theorem Qk{x qual:Str}{st:Stmt}{f:Addr}{fd:ay}{N ps:List Str}{k np n:Nat}{b:MS}(F:fO K x qual st f fd)(S:fQ N ps (bK st))(hnp:ps.length=np)(hn:N.length=n)
  (hb:∀(cdv:Value)(A:ai)(outer:List Env)(s:Shared)(H:Hp)(E:XK),bW k (A.deeper (envOfC qual (bK st) s.heap.objs.size f cdv))->fB K cl E0 (aR eT P w K mg base N qual (bK st) f cdv A outer s H E).nox (cG st) b):
  cK P w K mg base eT (k+1) f fd ps (jV K cl (aS np n b)):=by
 subst hnp hn;refine F.ok S (λvs H Q E h=>wT h) λcdv A outer s H vs Q E hr h=>⟨_,hb cdv A outer s H E hr rfl,?_⟩;obtain⟨p,S,xs,sm,ra,h⟩:=h;unfold aS at h;split at h
 .exact⟨p,S,_,sm,uN ra,uR sm h⟩
 .exact h.elim
theorem okX{x qual:Str}{st:Stmt}{f:Addr}{fd:ay}{N ps:List Str}{k np n:Nat}{b:MS}(F:fO K x qual st f fd)(S:fQ N ps (bK st))(hnp:ps.length=np)(hn:N.length=n)
  (hb:∀(cdv:Value)(A:ai)(outer:List Env)(s:Shared)(H:Hp)(E:XK),bW k (A.deeper (envOfC qual (bK st) s.heap.objs.size f cdv))->fB K cl E (aR (aN P w) P w K mg base N qual (bK st) f cdv A outer s H E) (cG st) b):
  cK P w K mg base (aN P w) (k+1) f fd ps (hZ K cl (aS np n b)):=by
 subst hnp hn;refine F.okX S (λvs H Q E h=>wT h) λcdv A outer s H vs Q E hr h=>⟨_,hb cdv A outer s H E hr rfl,?_⟩;obtain⟨p,S,xs,sm,ra,h⟩:=h;unfold aS at h;split at h
 .exact⟨p,S,_,sm,uN ra,uR sm h⟩
 .exact h.elim
theorem K7{x qual:Str}{st:Stmt}{f:Addr}{fd:ay}{ds:Array Value}{N ps:List Str}{k np n:Nat}{b:MS}(F:jX K x qual st f fd ds)(S:fQ N ps (bK st))(hnp:ps.length=np)(hn:N.length=n)
  (hb:∀(cdv:Value)(A:ai)(outer:List Env)(s:Shared)(H:Hp)(E:XK),bW k (A.deeper (envOfC qual (bK st) s.heap.objs.size f cdv))->fB K cl E (aR (aN P w) P w K mg base N qual (bK st) f cdv A outer s H E) (cG st) b):
  cK P w K mg base (aN P w) (k+1) f fd ps (hZ K cl (aS np n b)):=by
 subst hnp hn;refine F.okX S (λvs H Q E h=>wT h) λcdv A outer s H vs Q E hr h=>⟨_,hb cdv A outer s H E hr rfl,?_⟩;obtain⟨p,S,xs,sm,ra,h⟩:=h;unfold aS at h;split at h
 .exact⟨p,S,_,sm,uN ra,uR sm h⟩
 .exact h.elim
theorem x0{f:Addr}{fd:ay}{ps:List Str}{k:Nat}{g:FM}(F:cK P w K mg base (aN P w) k f fd ps (hZ K cl g)):cK P w K mg base eT k f fd ps (jV K cl g):=
 ⟨λvs H Q E h=>F.len vs H Q E0 h,λA outer s H args us vs Q E hr e0 hb hv h=>jh (F.run A outer s H args us vs Q E0 hr e0 hb hv h) λr s' hq=>by
  cases r with
  |error e=>
   obtain⟨_,_,_,_,_,_,_,_,_,_,_,_,z⟩:=hq;exact z
  |ok fl=>
   cases fl with
   |ret u=>exact hq
   |next=>exact hq
   |brk=>exact hq
   |cont=>exact hq⟩
end
section
variable{K:ae}{cl:Str->Addr}{E:XK}{X:Cx}{e:af}{es:List af}{ms:MA}{pos p:ag}{k n:Nat}{f:Addr}{fd:ay}{ps:List Str}{g:FM}{x:Str}{dvs:List V}{ds:AE}{dv:AI}
theorem oH{p:Ph}{H:Hp}{xs ys:AL}{vs ws:List V}(h:fI K p H xs vs)(g:fI K p H ys ws):fI K p H (xs++ys) (vs++ws):=by
 induction h with
 |nil=>exact g
 |cons h _ ih=>exact .cons h ih
def Dv(dv:AI)(dvs:List V):Prop:=∀K p H,fI K p H (dv.map .pv) dvs
theorem Dv.nil:Dv [] []:=λ_ _ _=>.nil
theorem Ia{α β:Type}{R:Ph->Hp->α->β->Prop}{p:Ph}{H:Hp}{r:bQ α}{Q:β->Hp->Prop}(h:bR K cl R p H (nH r) Q E):bR K cl R p H r Q E0:=by
 cases r with
 |ok a S=>exact h
 |exc n S=>exact h.elim
 |fail=>exact h.elim
theorem Qr(F:cK X.prog X.w X.K X.mg X.base eT k f fd ps (jV K cl g))(hr:bW k X.A)(hg:Gl X x)(hm:X.mg x=some (.ref f))(hk:ce X.K (.ref f)=true)(hb:eM X.K fd ps ds)(hd:bA dvs ds)(hv:Dv dv dvs)
  (ha:dJ K cl E X (e::es) ms)(hdb:(x==("__debug__":Str))=false:=by decide)(he:starEach (e::es) X.env=(false,eval e X.env)::starEach es X.env:=by rfl)(hpl:(backTo pos (starEach es X.env)).any (·.1)=false:=by rfl):
  aO K cl E X (.Call (.Name x p) (e::es) [] pos) (bI g dv ms):=by
 intro hK;refine PE.imp (rT F hr hg hm hk hb hd yC (ha hK) hdb he hpl) ?_
 rintro σ H Q ⟨p,S,ρ,s,ev,h⟩
 exact bT s ev h λq H' as xs S' stp sm ev r k=>⟨q,S',_,sm,oH r (hv K q H'),Ia (rM sm k)⟩
theorem Js(F:cK X.prog X.w X.K X.mg X.base eT k f fd ps (jV K cl g))(hr:bW k X.A)(hg:Gl X x)(hm:X.mg x=some (.ref f))(hk:ce X.K (.ref f)=true)(hb:eM X.K fd ps ds)(hd:bA dvs ds)(hv:Dv dv dvs)
  (ha:dJ K cl E X (e::es) ms)(hdb:(x==("__debug__":Str))=false:=by decide)(he:starEach (e::es) X.env=(false,eval e X.env)::starEach es X.env:=by rfl)(hpl:(backTo pos (starEach es X.env)).any (·.1)=false:=by rfl):
  aO K cl E X (.Call (.Name x p) (e::es) [] pos) (pL g dv ms):=by
 intro hK;refine PE.imp (rT F hr hg hm hk hb hd yC (ha hK) hdb he hpl) ?_
 rintro σ H Q ⟨p,S,ρ,s,ev,h⟩
 exact bT s ev h λq H' as xs S' stp sm ev r k=>⟨q,S',_,sm,oH r (hv K q H'),Ia k⟩
theorem Bs{P:Program}{w:ah}{mg:Str->AF}{base:Heap}{N:List Str}{qual:Str}{scope:Scope}{fo:Addr}{cd:Value}{A:ai}{outer:List Env}{AN:Shared}{AO:Hp}
  (F:cK P w K mg base (aN P w) k f fd ps (hZ K cl g))(hr:bW k (aR (aN P w) P w K mg base N qual scope fo cd A outer AN AO E).A)(hg:Gl (aR (aN P w) P w K mg base N qual scope fo cd A outer AN AO E) x)(hm:mg x=some (.ref f))(hk:ce K (.ref f)=true)(hb:eM K fd ps ds)(hd:bA dvs ds)(hv:Dv dv dvs)
  (ha:dJ K cl E (aR (aN P w) P w K mg base N qual scope fo cd A outer AN AO E) (e::es) ms)(hdb:(x==("__debug__":Str))=false:=by decide)
  (he:starEach (e::es) (aR (aN P w) P w K mg base N qual scope fo cd A outer AN AO E).env=(false,eval e (aR (aN P w) P w K mg base N qual scope fo cd A outer AN AO E).env)::starEach es (aR (aN P w) P w K mg base N qual scope fo cd A outer AN AO E).env:=by rfl)
  (hpl:(backTo pos (starEach es (aR (aN P w) P w K mg base N qual scope fo cd A outer AN AO E).env)).any (·.1)=false:=by rfl):
  aO K cl E (aR (aN P w) P w K mg base N qual scope fo cd A outer AN AO E) (.Call (.Name x p) (e::es) [] pos) (fE g dv ms):=by
 intro hK;refine PE.imp (rT F hr hg hm hk hb hd E2 (ha hK) hdb he hpl) ?_
 rintro σ H Q ⟨p,S,ρ,s,ev,h⟩
 exact bT s ev h λq H' as xs S' stp sm ev r k=>⟨q,S',_,sm,oH r (hv K q H'),rM sm k⟩
def kO(n:Str):MS:=λ_ S=>.exc n S
theorem Zn{P:Program}{w:ah}{mg:Str->AF}{base:Heap}{N:List Str}{qual:Str}{scope:Scope}{f:Addr}{cd:Value}{A:ai}{outer:List Env}{AN:Shared}{AO:Hp}
  {txt:Str}{j:Nat}{np p1 cpos:ag}(hg:Gl (aR (aN P w) P w K mg base N qual scope f cd A outer AN AO E) x)(hm:mg x=some (.ref (cl x)))(hx:br K (cl x) cL "ValueError.__new__"=true)
  (hd:(x==("__debug__":Str))=false:=by decide):
  eC K cl E (aR (aN P w) P w K mg base N qual scope f cd A outer AN AO E) (.Raise (some (.Call (.Name x np) [.Constant (.str txt) j p1] [] cpos)) none pos) (kO x):=
 λ_=>PS.imp (Xp hg hm hx hd) λD σ H ⟨p,S,ρ,s,ev,h⟩=>h p H s.step s
end
def cO(own:List Str)(cap:List (Nat×Str))(ρ:bL):bL:=own.map (λ_=>none)++cap.map λp=>(ρ[p.1]?).join
open Classical in
noncomputable def cN(G:Gd)(g:GM)(me:ME):AI->bL->aH->bQ AI
 |[],_,S=>if fZ G S then .ok [] S else .fail
 |x::r,ρ,S=>if fZ G S then(match g x ρ with
  |none=>.fail
  |some ρ1=>match me ρ1 S with
   |.ok (.pv y) S1=>match cN G g me r ρ1 S1 with
    |.ok ys S2=>.ok (y::ys) S2
    |_=>.fail
   |_=>.fail)else .fail
theorem eQ{g:GM}{me:ME}{ρ:bL}{S:aH}:cN [] g me [] ρ S=.ok [] S:=by
 unfold cN;rw[if_pos (rQ S)]
theorem eU{g:GM}{me:ME}{x:PV}{r:AI}{ρ:bL}{S:aH}:cN [] g me (x::r) ρ S=(match g x ρ with
  |none=>.fail
  |some ρ1=>match me ρ1 S with
   |.ok (.pv y) S1=>match cN [] g me r ρ1 S1 with
    |.ok ys S2=>.ok (y::ys) S2
    |_=>.fail
   |_=>.fail):=by
 rw[cN,if_pos (rQ S)]
noncomputable def cA(own:List Str)(cap:List (Nat×Str))(mi:MI)(g:GM)(me:ME):ME:=λρ S=>(mi ρ S).bind λxs S1=>(cN xs.2 g me xs.1 (cO own cap ρ) S1).bind λys S2=>.ok (.pv (.lst ys)) S2
theorem Fm{G:Gd}{g:GM}{me:ME}:∀(xs:AI)(ρ:bL)(S:aH)(n:Str)(S':aH),cN G g me xs ρ S≠.exc n S'
 |[],_,_,_,_,e=>by
  unfold cN at e;split at e<;>cases e
 |x::r,ρ,S,n,S',e=>by
  unfold cN at e;split at e
  .split at e
   .cases e
   .split at e
    .split at e
     .cases e
     .cases e
    .cases e
  .cases e
theorem Se{G:Gd}{g:GM}{me:ME}{xs zs:AI}{ρ:bL}{S S':aH}(e:cN G g me xs ρ S=.ok zs S'):fZ G S:=by
 cases xs with
 |nil=>
  unfold cN at e;split at e
  .assumption
  .cases e
 |cons x r=>
  unfold cN at e;split at e
  .assumption
  .cases e
section
variable{K:ae}{cl:Str->Addr}{E:XK}{X:Cx}{p q:Ph}{H H':Hp}{S:aH}
theorem Re{ρ:bL}{σ:St}{own:List Str}{cap:List (Nat×Str)}(h:bY K p H ρ σ):bY K p H (cO own cap ρ) (iM own cap σ):=by
 refine⟨by unfold cO iM;simp,λi v e=>?_⟩;unfold cO at e;unfold iM
 by_cases hi:i<own.length
 .rw[gf (by simpa using hi),dz,ax hi]at e
  cases e
 .rw[fy (by rw[az];omega),dz,az]at e⊢
  cases z:cap[i-own.length]? with
  |none=>rw[z]at e;cases e
  |some c=>
   rw[z]at e;have e:(ρ[c.1]?).join=some v:=bj e;have e':ρ[c.1]?=some (some v):=by
    cases y:ρ[c.1]? with
    |none=>rw[y]at e;cases e
    |some o=>rw[y]at e;exact congrArg some e
   obtain⟨x,e1,e2⟩:=h.at_ c.1 v e';refine⟨x,?_,e2⟩;show some ((σ[c.1]?).join)=some (some x);rw[e1];rfl
def Ph.res(p:Ph)(D:Addr):Ph:=⟨p.f,λa=>p.w a\/a=D,λa=>p.c a\/a=D⟩
def Ph.hold(p:Ph)(D:Addr):Ph:=⟨p.f,λa=>p.w a/\a≠D,p.c⟩
def Ph.less(p:Ph)(D:Addr):Ph:=⟨p.f,λa=>p.w a/\a≠D,λa=>p.c a/\a≠D⟩
theorem aQ.notin(s:aQ K p S H){D:Addr}(h:H D=none):¬p.c D:=λc=>by
 obtain⟨o,e,_⟩:=s.mu D c;rw[h]at e;cases e
theorem aQ.res(s:aQ K p S H){D:Addr}{o:HO}(h:H D=none)(mo:Mb o):bJ p H (p.res D) (aM H D o)/\aQ K (p.res D) S (aM H D o):=by
 have st:bJ p H (p.res D) (aM H D o):=⟨s.wc,s.mu,ku,λa h=>.inl h,λa h=>.inl h,λa h g=>absurd h g,λa x n=>x.elim (λz=>absurd z n) (λz=>by rw[z];exact h),λa x n=>x.elim (λz=>absurd z n) (λz=>by rw[z];exact h),λa u e _=>by
  rw[bP (dW e h)];exact e⟩
 refine⟨st,s.nd,s.len,λa h=>.inl (s.sub a h),λa x=>x.elim (λz=>.inl (s.wc a z)) .inr,λa x=>?_,λk a u e1 e2=>?_⟩
 .by_cases z:a=D
  .rw[z,dX]
   exact⟨o,rfl,mo⟩
  .rw[bP z]
   exact s.mu a (x.elim id λy=>absurd y z)
 .exact(s.obj k a u e1 e2).mono (λvs e=>by rw[bP (dW e h)];exact e) (λb w f=>⟨⟨.inl w,f⟩,λvs e=>by rw[bP (dW e h)];exact e⟩) λ_ _ r=>st.reps r
theorem aQ.resHold(s:aQ K p S H){D:Addr}{o:HO}(h:H D=none)(mo:Mb o):aQ K ((p.res D).hold D) S (aM H D o):=by
 obtain⟨st,sm⟩:=s.res (o:=o) h mo;have ne:∀a,p.w a->a≠D:=λa w z=>s.notin h (z▸s.wc a w);refine⟨sm.nd,sm.len,λa m=>⟨sm.sub a m,ne a (s.sub a m)⟩,λa x=>sm.wc a x.1,sm.mu,λk a u e1 e2=>?_⟩;exact(s.obj k a u e1 e2).mono (λvs e=>by rw[bP (dW e h)];exact e) (λb w f=>⟨⟨⟨.inl w,ne b w⟩,f⟩,λvs e=>by rw[bP (dW e h)];exact e⟩) λ_ _ r=>st.reps r
theorem bJ.unhold{D:Addr}(h:p.w D)(st:bJ (p.hold D) H q H')(s:aQ K p S H):bJ p H ⟨q.f,λa=>q.w a\/a=D,q.c⟩ H':=
 ⟨s.wc,s.mu,st.pre,λa x=>by
  by_cases z:a=D
  .exact .inr z
  .exact .inl (st.mw a ⟨x,z⟩),st.mono,st.nf,λa x n=>by
  rcases x with x |x
  .exact st.nw a x λz=>n z.1
  .exact absurd (x▸h) n,st.nc,λa o e n=>st.keep a o e λz=>n z.1⟩
theorem aQ.grow{D:Addr}{ys:List V}{o:HO}(s:aQ K p S H)(sh:aQ K (p.hold D) S H)(w:p.w D)(n:D∉p.f)(mo:Mb o):bJ p H p (aM H D o)/\aQ K p S (aM H D o)/\aQ K (p.hold D) S (aM H D o):=by
 have st:bJ p H p (aM H D o):=⟨s.wc,s.mu,ku,λ_ h=>h,λ_ h=>h,λ_ h g=>absurd h g,λ_ h g=>absurd h g,λ_ h g=>absurd h g,λa u e nw=>by
  rw[bP (λz:a=D=>nw (by rw[z];exact w))];exact e⟩
 have hm:∀a,p.c a->∃u,aM H D o a=some u/\Mb u:=λa x=>by
  by_cases z:a=D
  .rw[z,dX]
   exact⟨o,rfl,mo⟩
  .rw[bP z]
   exact s.mu a x
 refine⟨st,⟨s.nd,s.len,s.sub,s.wc,hm,λk a u e1 e2=>?_⟩,⟨sh.nd,sh.len,sh.sub,sh.wc,hm,λk a u e1 e2=>?_⟩⟩
 .have ne:a≠D:=λz=>n (z▸fj e1)
  exact(sh.obj k a u e1 e2).mono (λvs e=>by rw[bP ne];exact e) (λb w f=>⟨⟨w.1,f⟩,λvs e=>by rw[bP w.2];exact e⟩) λ_ _ r=>st.reps r
 .have ne:a≠D:=λz=>n (z▸fj e1)
  exact(sh.obj k a u e1 e2).mono (λvs e=>by rw[bP ne];exact e) (λb w f=>⟨⟨w,f⟩,λvs e=>by rw[bP w.2];exact e⟩) λ_ _ r=>st.reps r
theorem aQ.toLess{D:Addr}(s:aQ K (p.hold D) S H):aQ K (p.less D) S H:=
 ⟨s.nd,s.len,s.sub,λa h=>⟨s.wc a h,h.2⟩,λa h=>s.mu a h.1,λk a o e1 e2=>
  (s.obj k a o e1 e2).mono (λ_ e=>e) (λb w f=>⟨⟨w,f⟩,λ_ e=>e⟩) λ_ _ r=>oI (λa h=>h.1) r⟩
theorem bJ.toLess{D:Addr}(st:bJ p H q H')(h:H D=none):bJ p H (q.less D) H':=by
 have nD:∀a,p.c a->a≠D:=λa c z=>by
  obtain⟨o,e,_⟩:=st.mu a c;rw[z,h]at e;cases e
 exact⟨st.wc,st.mu,st.pre,λa x=>⟨st.mw a x,nD a (st.wc a x)⟩,λa x=>⟨st.mono a x,nD a x⟩,st.nf,λa x=>st.nw a x.1,λa x=>st.nc a x.1,st.keep⟩
variable{sc:Scope}{own:List Str}{cap:List (Nat×Str)}{elt target iter:af}{pos:ag}{mi:MI}{g:GM}{me:ME}
theorem Ep{σ:St}{ρ:bL}{xs zs:AI}{G:Gd}{J:It}{Q:VK}{D:Addr}{S2:aH}(sm:aQ K p S H)(ev:bY K p H ρ σ)(it:dZ K p H (xs,G) J)(z:cN G g me xs (cO own cap ρ) S=.ok zs S2)(hD:H D=none)
  (k:∀q H' vs,bJ p H q H'->aQ K q S2 H'->aQ K (q.hold D) S2 H'->q.w D->D∉q.f->H' D=some (.lst vs)->vs.length<=sizeLine->aJ K q.c H' zs vs->Q (.ref D) H'):
  nT J (gP K g) (tP K cl E0 (bU K) me) (iM own cap σ) H D Q:=by
 obtain⟨st0,sm0⟩:=sm.res (D:=D) (o:=.lst []) hD trivial;have sh0:=sm.resHold (D:=D) (o:=.lst []) hD trivial;have nf0:D∉p.f:=λh=>sm.notin hD (sm.wc D (sm.sub D h));refine Bf xs.length it.1 (λi σ1 H1 ys=>ys.length=i/\i<=xs.length/\H1 D=some (.lst ys)/\∃p1 S1 ρ1 us ws,(aQ K p1 S1 H1/\aQ K (p1.hold D) S1 H1)/\bJ p H p1 H1/\p1.w D/\D∉p1.f/\bY K p1 H1 ρ1 σ1/\dZ K p1 H1 (xs,G) J/\fZ G S1/\aJ K p1.c H1 us ys/\zs=us++ws/\cN G g me (xs.drop i) ρ1 S1=.ok ws S2) ?_ ?_ ?_ ?_ ?_
 .refine⟨rfl,dh _,dX,p.res D,S,cO own cap ρ,[],zs,⟨sm0,sh0⟩,st0,.inr rfl,nf0,Re (st0.repE ev),it.step st0,?_,.nil,rfl,by simpa using z⟩
  exact Se z
 .rintro i σ1 H1 ys ⟨h1,_,h2,_⟩
  exact⟨h1,h2⟩
 .rintro i σ1 H1 ys hi ⟨_,_,_,p1,S1,ρ1,us,ws,⟨sm1,sh1⟩,st1,w1,f1,ev1,it1,g1,_⟩
  exact((it1.2 p1 H1 S1 sm1.step sm1 g1).1 i xs[i] (ax hi)).1
 .rintro i σ1 H1 ys x H2 hi ⟨hl,_,hH,p1,S1,ρ1,us,ws,⟨sm1,sh1⟩,st1,w1,f1,ev1,it1,g1,r1,e1,c1⟩ hy
  obtain⟨same,rx⟩:=((it1.2 p1 H1 S1 sm1.step sm1 g1).1 i xs[i] (ax hi)).2 x H2 hy;rw[qm hi]at c1;unfold cN at c1;rw[if_pos g1]at c1;split at c1
  .cases c1
  .rename_i ρ2 gz
   split at c1
   .rename_i y S3 mz
    split at c1
    .rename_i vs S4 cz
     cases c1;have st2:=sm1.same same;have sm2:=sm1.ofSame same;have smh:=sh1.ofSame same;have stS:bJ p H p1 H2:=st1.trans st2;refine⟨p1,S1,ρ1,xs[i],ρ2,sm2,st2.repE ev1,rx,gz,λσ3 ev3=>⟨p1.hold D,S1,ρ2,smh,⟨ev3.len,ev3.at_⟩,?_⟩⟩;rw[mz];intro q H4 y' st4 sm4 ry;have hD2:H2 D=some (.lst ys):=same _ _ hH;have hD4:H4 D=some (.lst ys):=st4.keep D _ hD2 λz=>z.2 rfl;have fq:D∉q.f:=λh=>by
      have:=st4.nf D h f1;rw[hD2]at this;cases this
     have stU:=bJ.unhold w1 st4 sm2;have nq:¬q.w D:=λz=>by
      have:=st4.nw D z λy=>y.2 rfl;rw[hD2]at this;cases this
     have smU:aQ K ⟨q.f,λa=>q.w a\/a=D,q.c⟩ S3 H4:=⟨sm4.nd,sm4.len,λa h=>.inl (sm4.sub a h),λa h=>h.elim (sm4.wc a) λz=>z▸st4.mono D (sm2.wc D w1),sm4.mu,λk a o e1 e2=>
      (sm4.obj k a o e1 e2).mono (λ_ e=>e) (λb w f=>⟨⟨.inl w,f⟩,λ_ e=>e⟩) λ_ _ r=>r⟩
     have shU:aQ K (Ph.hold ⟨q.f,λa=>q.w a\/a=D,q.c⟩ D) S3 H4:=⟨sm4.nd,sm4.len,λa h=>⟨.inl (sm4.sub a h),λz=>nq (z▸sm4.sub a h)⟩,λa h=>smU.wc a h.1,sm4.mu,λk a o e1 e2=>
      (sm4.obj k a o e1 e2).mono (λ_ e=>e) (λb w f=>⟨⟨⟨.inl w,λz=>nq (z▸w)⟩,f⟩,λ_ e=>e⟩) λ_ _ r=>r⟩
     obtain⟨stG,smG,shG⟩:=smU.grow (ys:=ys) (D:=D) (o:=.lst (ys++[y'])) shU (.inr rfl) fq trivial;have stA:=st2.trans (stU.trans stG);refine Ki hi hD4 ⟨by rw[da,hl];rfl,hi,dX,_,S3,ρ2,us++[y],vs,⟨smG,shG⟩,st1.trans stA,.inr rfl,fq,stG.repE (stU.repE ev3),it1.step stA,Se cz,?_,by rw[e1,qd];rfl,cz⟩;exact(stA.reps r1).append (.cons (stG.rep ry) .nil)
    .cases c1
   .cases c1
 .rintro σ1 H1 ys ⟨hl,_,hH,p1,S1,ρ1,us,ws,⟨sm1,sh1⟩,st1,w1,f1,ev1,it1,g1,r1,e1,c1⟩
  rw[vj]at c1;unfold cN at c1;rw[if_pos g1]at c1;cases c1;refine⟨(it1.2 p1 H1 _ sm1.step sm1 g1).2,?_⟩;rw[lr]at e1;subst e1;exact k p1 H1 ys st1 sm1 sh1 w1 f1 hH (by rw[hl];exact it.1) r1
theorem Cc{σ:St}{ρ:bL}{xs:AI×Gd}{J:It}{Q:VK}{D:Addr}(sm:aQ K p S H)(ev:bY K p H ρ σ)(it:dZ K p H xs J)(k:bR K cl (bU K) p H ((cN xs.2 g me xs.1 (cO own cap ρ) S).bind λys S2=>.ok (.pv (.lst ys)) S2) Q E)(hD:H D=none):
  nT J (gP K g) (tP K cl E0 (bU K) me) (iM own cap σ) H D Q:=by
 cases z:cN xs.2 g me xs.1 (cO own cap ρ) S with
 |fail=>rw[z]at k;exact k.elim
 |exc n S'=>exact absurd z (Fm _ _ _ _ _)
 |ok zs S2=>
  rw[z]at k;have k:∀q H' x,bJ p H q H'->aQ K q S2 H'->aK K q.c H' (.lst zs) x->Q x H':=k;refine Ep sm ev it z hD λq H' vs st1 sm1 sh1 w1 f1 hH l1 r1=>?_;refine k (q.less D) H' (.ref D) (st1.toLess hD) sh1.toLess ?_;unfold aK;exact⟨D,vs,rfl,.inl ⟨hH,λz=>z.2 rfl⟩,l1,oI (λa h=>h.1) r1⟩
theorem Eu(k:gG X sc own cap)(hi:hV K cl E X target iter mi)(hc:X.calm=true)(hg:∀C AN AO ex,jY K (cU X sc (cV own cap) C AN AO ex) target g)(he:∀C AN AO ex,aO K cl E0 (cU X sc (cV own cap) C AN AO ex) elt me)
  (hs:∀x,foldedSetIterable iter X.env x=pure x:=by intro _;rfl):aO K cl E X (.ListComp elt [⟨target,iter,[],0⟩] sc pos) (cA own cap mi g me):=by
 intro hK;refine PE.imp (Du k (hi hK) hc (λC AN AO ex=>hg C AN AO ex hK) (λC AN AO ex=>he C AN AO ex hK) hs) ?_
 rintro σ H Q ⟨p,S,ρ,s,ev,h⟩
 exact bT s ev h λq H' xs J S' stp sm ev it kk D hD=>Cc sm ev it kk hD
theorem Yr{i:Nat}{x:Str}{py spos:ag}(hN:X.N.Nodup)(hx:X.N[i]?=some x)(hl:jG X.env.scope x)(k:gG X sc own cap)(hi:hV K cl E X target iter mi)(hc:X.calm=true)(hg:∀C AN AO ex,jY K (cU X sc (cV own cap) C AN AO ex) target g)(he:∀C AN AO ex,aO K cl E0 (cU X sc (cV own cap) C AN AO ex) elt me)
  (hs:∀x,foldedSetIterable iter X.env x=pure x:=by intro _;rfl)(hsw:swapsWith (.ListComp elt [⟨target,iter,[],0⟩] sc pos) (some (.Name x py)) spos.line X.env=pure true:=by rfl)
  (hf:X.fn x=true\/X.env.scope.names.lookup x=some .local:=by first |exact .inl rfl |exact .inr rfl |assumption):
  eC K cl E X (.Assign [.Name x py] (.ListComp elt [⟨target,iter,[],0⟩] sc pos) spos) (bE i (cA own cap mi g me)):=by
 intro hK;refine PS.imp (Ss hN hx hl k (hi hK) hc (λC AN AO ex=>hg C AN AO ex hK) (λC AN AO ex=>he C AN AO ex hK) hs hsw hf) ?_
 rintro D σ H ⟨p,S,ρ,s,ev,h⟩
 have h2:tP K cl E (bU K) (cA own cap mi g me) σ H λy H1=>D.nx (σ.set i (some y)) H1:=by
  refine⟨p,S,ρ,s,ev,?_⟩;unfold bE at h;cases z:cA own cap mi g me ρ S with
  |ok v S1=>
   rw[z]at h;exact λq H' y st sm r=>h q H' _ st sm ((st.repE ev).set r i)
  |exc n S1=>rw[z]at h;exact h
  |fail=>rw[z]at h;exact h
 obtain⟨p,S,ρ,s,ev,h⟩:=h2;exact bT s ev h λq H' xs J S' stp sm ev it kk B hB=>Cc sm ev it kk hB
end
def eX:List (Option Bool)->Option (List Bool)
 |[]=>some []
 |some b::r=>match eX r with
  |some bs=>some (b::bs)
  |none=>none
 |none::_=>none
theorem Pa:∀{l:List (Option Bool)}{bs:List Bool},eX l=some bs->bs.length=l.length
 |[],_,e=>by cases e;rfl
 |some b::r,bs,e=>by
  unfold eX at e;split at e
  .rename_i cs h
   cases e;rw[cg,cg,Pa h]
  .cases e
 |none::r,_,e=>by cases e
theorem uQ:∀{l:List (Option Bool)}{bs:List Bool}{i:Nat}{o:Option Bool},eX l=some bs->l[i]?=some o->∃b,o=some b/\bs[i]?=some b
 |[],_,i,o,_,h=>by simp at h
 |some b::r,bs,i,o,e,h=>by
  unfold eX at e;split at e
  .rename_i cs h'
   cases e;cases i with
   |zero=>
    simp at h;exact⟨b,h.symm,rfl⟩
   |succ i=>simpa using uQ h' (by simpa using h)
  .cases e
 |none::r,_,_,_,e,_=>by cases e
def aI:Nat->PV->PV->Option Bool
 |_,.non,.non=>some true
 |_,.bl a,.bl b=>some (a==b)
 |_,.int a,.int b=>some (a==b)
 |_,.str a,.str b=>some (a==b)
 |n+1,.tup xs,.tup ys=>match eX (cu (aI n) xs ys)with
  |some bs=>some (bs.all id&&xs.length==ys.length)
  |none=>none
 |n+1,.lst xs,.lst ys=>if xs.length=ys.length then(match eX (cu (aI n) xs ys)with
  |some bs=>some (bs.all id)
  |none=>none)else some false
 |_,_,_=>none
theorem qX(bs:List Bool):((aq bs.length).all λj=>bs.getD j true)=bs.all id:=by
 rw[um,gq,gq];constructor
 .intro h b hb
  obtain⟨j,hj,e⟩:=vm hb;have:=h j (by simpa using hj);simpa[ba,hj,e]using this
 .intro h j hj
  have hj:j<bs.length:=by simpa using hj
  have:=h bs[j] (ig hj);simpa[ba,hj]using this
section
variable{X:Cx}{AM:List (Addr×Obj)}{σ:St}{H:Hp}{s:Shared}{c:Addr->Prop}
theorem rG{n:Nat}{xs ys:AI}{vs ws:List V}{its jts:AE}{bs:List Bool}{A:ai}
  (ih:∀(v w:PV)(x y:V)(u u':Value)(b:Bool),aK X.K c H v x->aK X.K c H w y->bO x u->bO y u'->aI n v w=some b->gg A s u u' b)
  (r1:aJ X.K c H xs vs)(r2:aJ X.K c H ys ws)(q1:bA vs its)(q2:bA ws jts)(e:eX (cu (aI n) xs ys)=some bs):
  ∀j(h1:j<its.toArray.size)(h2:j<jts.toArray.size),gg A s its.toArray[j] jts.toArray[j] (bs.getD j true):=λj h1 h2=>by
 have l1:=r1.length.trans q1.length;have l2:=r2.length.trans q2.length;have g1:j<xs.length:=by rw[l1];simpa using h1
 have g2:j<ys.length:=by rw[l2];simpa using h2
 obtain⟨x,ex,rx⟩:=r1.get (ax g1);obtain⟨y,ey,ry⟩:=r2.get (ax g2);obtain⟨u,eu,ru⟩:=q1.get ex;obtain⟨u',eu',ru'⟩:=q2.get ey;have hz:(cu (aI n) xs ys)[j]?=some (aI n xs[j] ys[j]):=by
  rw[zi,ax g1,ax g2]
 obtain⟨b,eb,eb'⟩:=uQ e hz;have e1:its.toArray[j]=u:=by
  rw[zj];rw[ax (by simpa using h1)]at eu;exact bj eu
 have e2:jts.toArray[j]=u':=by
  rw[zj];rw[ax (by simpa using h2)]at eu';exact bj eu'
 rw[e1,e2];have e3:bs.getD j true=b:=by simp[ba,eb']
 rw[e3];exact ih _ _ _ _ _ _ _ rx ry ru ru' eb
theorem pA{n:Nat}{xs ys:AI}{bs:List Bool}(e:eX (cu (aI n) xs ys)=some bs):bs.length=min xs.length ys.length:=by
 rw[Pa e,List.length_zipWith]
theorem Hb(n:Nat)(v w:PV)(x:V)(b:Bool)(nt:∀xs,v≠.tup xs)(nl:∀xs,v≠.lst xs)(h:aK X.K c H v x)(g:aK X.K c H w x)(e:aI n v w=some b):b=true:=by
 cases v with
 |tup xs=>exact absurd rfl (nt xs)
 |lst xs=>exact absurd rfl (nl xs)
 |obj C ns fs=>cases w<;>(unfold aI at e;simp at e)
 |non=>
  cases w<;>first |(unfold aI at e;simp at e;done) |skip
  unfold aI at e;cases e;rfl
 |bl i=>
  cases w<;>first |(unfold aI at e;simp at e;done) |skip
  unfold aK at h g;subst h;injection g with g';subst g';unfold aI at e;cases e;exact beq_self_eq_true _
 |int i=>
  cases w<;>first |(unfold aI at e;simp at e;done) |skip
  unfold aK at h g;subst h;injection g with g';subst g';unfold aI at e;cases e;exact beq_self_eq_true _
 |str i=>
  cases w<;>first |(unfold aI at e;simp at e;done) |skip
  unfold aK at h g;subst h;injection g with g';subst g';unfold aI at e;cases e;exact beq_self_eq_true _
theorem Le(I:aD X AM σ H s):∀(n:Nat)(v w:PV)(x:V)(b:Bool),aK X.K c H v x->aK X.K c H w x->aI n v w=some b->b=true:=by
 intro n
 induction n with
 |zero=>
  intro v w x b h g e;cases v with
  |tup xs=>unfold aI at e;simp at e
  |lst xs=>unfold aI at e;simp at e
  |_=>exact Hb 0 _ w x b (by intro _ z;cases z) (by intro _ z;cases z) h g e
 |succ n ih=>
  have items:∀(xs ys:AI)(vs:List V)(bs:List Bool),aJ X.K c H xs vs->aJ X.K c H ys vs->eX (cu (aI n) xs ys)=some bs->bs.all id=true/\xs.length=ys.length:=λxs ys vs bs r1 r2 e=>by
   have ll:=r1.length.trans r2.length.symm;refine⟨?_,ll⟩;rw[gq];intro b hb;obtain⟨j,hj,ej⟩:=vm hb;have hj':=hj;rw[pA e]at hj';have g1:j<xs.length:=by omega
   have g2:j<ys.length:=by omega
   obtain⟨x,ex,rx⟩:=r1.get (ax g1);obtain⟨y,ey,ry⟩:=r2.get (ax g2);have:=ex.symm.trans ey;cases this;have hz:(cu (aI n) xs ys)[j]?=some (aI n xs[j] ys[j]):=by
    rw[zi,ax g1,ax g2]
   obtain⟨b',eb,eb'⟩:=uQ e hz;rw[ax hj,ej]at eb';cases eb';exact ih _ _ _ _ rx ry eb
  intro v w x b h g e;cases v with
  |tup xs=>
   cases w with
   |tup ys=>
    unfold aK at h g;obtain⟨a,vs,rfl,t1,_,r1⟩:=h;obtain⟨a',ws,e1,t2,_,r2⟩:=g;cases e1;have:=I.tuple_inj t1 t2;subst this;unfold aI at e;split at e
    .rename_i bs hb
     obtain⟨z1,z2⟩:=items xs ys vs bs r1 r2 hb;rw[z1,z2,beq_self_eq_true]at e;cases e;rfl
    .cases e
   |_=>unfold aI at e;simp at e
  |lst xs=>
   cases w with
   |lst ys=>
    unfold aK at h g;obtain⟨a,vs,rfl,t1,_,r1⟩:=h;obtain⟨a',ws,e1,t2,_,r2⟩:=g;cases e1;have:=I.list_inj t1.sq t2.sq;subst this;unfold aI at e;rw[if_pos (r1.length.trans r2.length.symm)]at e;split at e
    .rename_i bs hb
     obtain⟨z1,z2⟩:=items xs ys vs bs r1 r2 hb;rw[z1]at e;cases e;rfl
    .cases e
   |_=>unfold aI at e;simp at e
  |_=>exact Hb (n+1) _ w x b (by intro _ z;cases z) (by intro _ z;cases z) h g e
theorem Bh(I:aD X AM σ H s):∀(n:Nat)(v w:PV)(x y:V)(u u':Value)(b:Bool)(A:ai),A.units+n<cLine->aK X.K c H v x->aK X.K c H w y->bO x u->bO y u'->aI n v w=some b->kz A s u u' b/\gg A s u u' b:=by
 have flat:∀(n:Nat)(v w:PV)(x y:V)(u u':Value)(b:Bool)(A:ai),(∀xs,v≠.tup xs)->(∀xs,v≠.lst xs)->aK X.K c H v x->aK X.K c H w y->bO x u->bO y u'->aI n v w=some b->kz A s u u' b/\gg A s u u' b:=by
  intro n v w x y u u' b A nt nl h g r r' e;cases v with
  |tup xs=>exact absurd rfl (nt xs)
  |lst xs=>exact absurd rfl (nl xs)
  |obj C ns fs=>cases w<;>(unfold aI at e;simp at e)
  |non=>
   cases w<;>first |(unfold aI at e;simp at e;done) |skip
   unfold aK at h g;subst h g;cases r;cases r';unfold aI at e;cases e;exact⟨zk,ql _⟩
  |bl i=>
   cases w<;>first |(unfold aI at e;simp at e;done) |skip
   unfold aK at h g;subst h g;cases r;cases r';unfold aI at e;cases e;exact⟨zl _ _,SeqAt.EqAt.bool_bool _ _⟩
  |int i=>
   cases w<;>first |(unfold aI at e;simp at e;done) |skip
   unfold aK at h g;subst h g;obtain⟨t,rfl⟩:=r;obtain⟨t',rfl⟩:=r';unfold aI at e;cases e;exact⟨zm _ _ _ _,tm _ _ _ _⟩
  |str i=>
   cases w<;>first |(unfold aI at e;simp at e;done) |skip
   unfold aK at h g;subst h g;obtain⟨t,rfl⟩:=r;obtain⟨t',rfl⟩:=r';unfold aI at e;cases e;exact⟨zn _ _ _ _,SeqAt.EqAt.str_str _ _ _ _⟩
 have main:∀(n:Nat)(v w:PV)(x y:V)(u u':Value)(b:Bool)(A:ai),A.units+n<cLine->aK X.K c H v x->aK X.K c H w y->bO x u->bO y u'->aI n v w=some b->kz A s u u' b/\gg A s u u' b:=by
  intro n
  induction n with
  |zero=>
   intro v w x y u u' b A hu h g r r' e;cases v with
   |tup xs=>unfold aI at e;simp at e
   |lst xs=>unfold aI at e;simp at e
   |_=>exact flat 0 _ w x y u u' b A (by intro _ z;cases z) (by intro _ z;cases z) h g r r' e
  |succ n ih=>
   intro v w x y u u' b A hu h g r r' e;have hin:A.in1.units+n<cLine:=by show A.units+1+n<cLine;omega
   cases v with
   |tup xs=>
    cases w with
    |tup ys=>
     have hs:x=y->b=true:=λz=>Le I (n+1) _ _ x b h (z▸g) e;unfold aK at h g;obtain⟨a,vs,rfl,t1,_,r1⟩:=h;obtain⟨a',ws,rfl,t2,_,r2⟩:=g;cases r;cases r';obtain⟨its,q1,p1,_⟩:=I.tuple t1;obtain⟨jts,q2,p2,_⟩:=I.tuple t2;unfold aI at e;split at e
     .rename_i bs hb
      cases e;have z:=ve (A:=A) (s:=s) (e:=λj=>bs.getD j true) (show s.heap.IsTuple a its.toArray from p1) (show s.heap.IsTuple a' jts.toArray from p2) (by omega)
       (rG (A:=A.in1) (λv w x y u u' b h1 h2 h3 h4 h5=>(ih v w x y u u' b A.in1 hin h1 h2 h3 h4 h5).2) r1 r2 q1 q2 hb)
      have l1:=r1.length.trans q1.length;have l2:=r2.length.trans q2.length;rw[am,am,<-l1,<-l2,<-pA hb,qX]at z;refine⟨z,?_⟩
      by_cases ha:a=a'
      .subst ha
       rw[hs rfl];exact ql _
      .exact vf ha z
     .cases e
    |_=>unfold aI at e;simp at e
   |lst xs=>
    cases w with
    |lst ys=>
     have hs:x=y->b=true:=λz=>Le I (n+1) _ _ x b h (z▸g) e;unfold aK at h g;obtain⟨a,vs,rfl,t1,_,r1⟩:=h;obtain⟨a',ws,rfl,t2,_,r2⟩:=g;cases r;cases r';obtain⟨its,q1,p1,_⟩:=I.list t1.sq;obtain⟨jts,q2,p2,_⟩:=I.list t2.sq;have l1:=r1.length.trans q1.length;have l2:=r2.length.trans q2.length;have fin:kz A s (.ref a) (.ref a') b->kz A s (.ref a) (.ref a') b/\gg A s (.ref a) (.ref a') b:=λz=>by
      refine⟨z,?_⟩
      by_cases ha:a=a'
      .subst ha
       rw[hs rfl];exact ql _
      .exact vf ha z
     unfold aI at e;split at e
     .rename_i hl
      split at e
      .rename_i bs hb
       cases e;have z:=zo (A:=A) (s:=s) (e:=λj=>bs.getD j true) p1.isList p2.isList (by rw[am,am];omega) (by omega)
        (rG (A:=A.in1) (λv w x y u u' b h1 h2 h3 h4 h5=>(ih v w x y u u' b A.in1 hin h1 h2 h3 h4 h5).2) r1 r2 q1 q2 hb)
       have hm:its.length=bs.length:=by rw[pA hb];omega
       rw[am,hm,qX]at z;exact fin z
      .cases e
     .rename_i hl
      cases e;exact fin (zp p1.isList p2.isList (by rw[am,am];simp;omega) (by omega))
    |_=>unfold aI at e;simp at e
   |_=>exact flat (n+1) _ w x y u u' b A (by intro _ z;cases z) (by intro _ z;cases z) h g r r' e
 exact main
end
noncomputable section
open PySem PySem.Spec PyProof.Rows Bn
section
variable{X:Cx}
theorem Fj{AM:List (Addr×Obj)}{σ:St}{H:Hp}{s:Shared}(I:aD X AM σ H s){p:Ph}{v w:PV}{x y:V}{u u':Value}{b:Bool}{A:ai}(hu:A.units+8<cLine)(h:dR X.K p H v x)(g:dR X.K p H w y)(r:bO x u)(r':bO y u')(e:aI 8 v w=some b):
  kz A s u u' b/\SeqAt.RcNeAt A s u u' (!b):=by
 have hin:A.in1.units+7<cLine:=by show A.units+1+7<cLine;omega
 cases v with
 |obj C ns fs=>cases w<;>(unfold aI at e;simp at e)
 |non=>
  cases w<;>first |(unfold aI at e;simp at e;done) |skip
  have h:=h.non;have g:=g.non;subst h g;cases r;cases r';unfold aI at e;cases e;exact⟨zk,SeqAt.RcNeAt.none_none⟩
 |bl i=>
  cases w<;>first |(unfold aI at e;simp at e;done) |skip
  have h:=h.bl;have g:=g.bl;subst h g;cases r;cases r';unfold aI at e;cases e;exact⟨zl _ _,SeqAt.RcNeAt.bool_bool _ _⟩
 |int i=>
  cases w<;>first |(unfold aI at e;simp at e;done) |skip
  have h:=h.int;have g:=g.int;subst h g;obtain⟨t,rfl⟩:=r;obtain⟨t',rfl⟩:=r';unfold aI at e;cases e;exact⟨zm _ _ _ _,SeqAt.RcNeAt.int_int _ _ _ _⟩
 |str i=>
  cases w<;>first |(unfold aI at e;simp at e;done) |skip
  have h:=h.str;have g:=g.str;subst h g;obtain⟨t,rfl⟩:=r;obtain⟨t',rfl⟩:=r';unfold aI at e;cases e;exact⟨zn _ _ _ _,SeqAt.RcNeAt.str_str _ _ _ _⟩
 |tup xs=>
  cases w with
  |tup ys=>
   obtain⟨a,vs,rfl,t1,_,r1⟩:=h.tup;obtain⟨a',ws,rfl,t2,_,r2⟩:=g.tup;cases r;cases r';obtain⟨its,q1,p1,_⟩:=I.tuple t1;obtain⟨jts,q2,p2,_⟩:=I.tuple t2;unfold aI at e;split at e
   .rename_i bs hb
    cases e;have it:=rG (s:=s) (A:=A.in1) (λv w x y u u' b h1 h2 h3 h4 h5=>(Bh I 7 v w x y u u' b A.in1 hin h1 h2 h3 h4 h5).2) r1 r2 q1 q2 hb;have z:=ve (A:=A) (s:=s) (e:=λj=>bs.getD j true) (show s.heap.IsTuple a its.toArray from p1) (show s.heap.IsTuple a' jts.toArray from p2) (by omega) it;have z':=SeqAt.RcNeAt.tuples (A:=A) (s:=s) (e:=λj=>bs.getD j true) (show s.heap.IsTuple a its.toArray from p1) (show s.heap.IsTuple a' jts.toArray from p2) (by omega) it;have l1:=r1.length.trans q1.length;have l2:=r2.length.trans q2.length;rw[am,am,<-l1,<-l2,<-pA hb,qX]at z z';exact⟨z,z'⟩
   .cases e
  |_=>unfold aI at e;simp at e
 |lst xs=>
  cases w with
  |lst ys=>
   obtain⟨a,vs,rfl,t1,_,r1⟩:=h.lst;obtain⟨a',ws,rfl,t2,_,r2⟩:=g.lst;cases r;cases r';obtain⟨its,q1,p1,_⟩:=I.list t1;obtain⟨jts,q2,p2,_⟩:=I.list t2;have l1:=r1.length.trans q1.length;have l2:=r2.length.trans q2.length;unfold aI at e;split at e
   .rename_i hl
    split at e
    .rename_i bs hb
     cases e;have it:=rG (s:=s) (A:=A.in1) (λv w x y u u' b h1 h2 h3 h4 h5=>(Bh I 7 v w x y u u' b A.in1 hin h1 h2 h3 h4 h5).2) r1 r2 q1 q2 hb;have z:=zo (A:=A) (s:=s) (e:=λj=>bs.getD j true) p1.isList p2.isList (by rw[am,am];omega) (by omega) it;have z':=SeqAt.RcNeAt.lists (A:=A) (s:=s) (e:=λj=>bs.getD j true) p1.isList p2.isList (by rw[am,am];omega) (by omega) it;have hm:its.length=bs.length:=by rw[pA hb];omega
     rw[am,hm,qX]at z z';exact⟨z,z'⟩
    .cases e
   .rename_i hl
    cases e;exact⟨zp p1.isList p2.isList (by rw[am,am];simp;omega) (by omega),SeqAt.RcNeAt.lists_lengths p1.isList p2.isList (by rw[am,am];simp;omega) (by omega)⟩
  |_=>unfold aI at e;simp at e
def sV(K:ae)(neg:Bool):R2:=λx y H Q=>∃p v w b,dR K p H v x/\dR K p H w y/\aI 8 v w=some b/\Q (.bl (if neg then !b else b)) H
theorem Ei(hu:X.A.units+8<cLine):dE X (compareOp .Eq) (sV X.K false):=by
 intro AM s σ H x y v u Q I rx ry h;obtain⟨p,a,b,k,h1,h2,e,q⟩:=h;exact(Fj I hu h1 h2 rx ry e).1 X.prog X.w X.xe _ ⟨.bl k,H,I,rfl,q⟩
theorem Rg(hu:X.A.units+8<cLine):dE X (compareOp .NotEq) (sV X.K true):=by
 intro AM s σ H x y v u Q I rx ry h;obtain⟨p,a,b,k,h1,h2,e,q⟩:=h;exact(Fj I hu h1 h2 rx ry e).2 X.prog X.w X.xe _ ⟨.bl (!k),H,I,rfl,q⟩
def cZ(a b:PV):AJ:=(aI 8 a b).map .bl
def fN(a b:PV):AJ:=(aI 8 a b).map λk=>.bl (!k)
theorem Wj{K:ae}:eW K (sV K false) cZ:=λ{p S H a b c x y Q} s ra rb e k=>by
 unfold cZ at e;cases z:aI 8 a b with
 |none=>rw[z]at e;cases e
 |some t=>
  rw[z]at e;cases e;exact⟨p,a,b,t,ra,rb,z,k H _ (cE.refl H) (by unfold aK;rfl)⟩
theorem Vj{K:ae}:eW K (sV K true) fN:=λ{p S H a b c x y Q} s ra rb e k=>by
 unfold fN at e;cases z:aI 8 a b with
 |none=>rw[z]at e;cases e
 |some t=>
  rw[z]at e;cases e;exact⟨p,a,b,t,ra,rb,z,k H _ (cE.refl H) (by unfold aK;rfl)⟩
def i2(f:Int->Int->AJ):PV->PV->AJ
 |.int a,.int b=>f a b
 |_,_=>none
open Classical in
def cI(C:Int->Int->Prop)(g:Int->Int->PV)(a b:Int):AJ:=if C a b then some (g a b)else none
def nZ:PV->V
 |.int i=>.int i
 |.bl b=>.bl b
 |.str s=>.str s
 |_=>.non
def qA:PV->Bool
 |.int _=>true
 |.bl _=>true
 |.str _=>true
 |.non=>true
 |_=>false
theorem iF{K:ae}{c:Addr->Prop}{H:Hp}{v:PV}(h:qA v=true):aK K c H v (nZ v):=by
 cases v with
 |tup _=>cases h
 |lst _=>cases h
 |obj _ _ _=>cases h
 |_=>unfold aK nZ;rfl
theorem tG{K:ae}{C:Int->Int->Prop}{g:Int->Int->PV}{h:Int->Int->V}(fl:∀i j,qA (g i j)=true/\nZ (g i j)=h i j):eW K (rI C h) (i2 (cI C g)):=λ{p S H a b c x y Q} s ra rb e k=>by
 cases a with
 |int i=>
  cases b with
  |int j=>
   unfold i2 cI at e;dsimp only at e;split at e
   .rename_i hc
    cases e;refine⟨i,j,ra.int,rb.int,hc,?_⟩;rw[<-(fl i j).2];exact k H _ (cE.refl H) (iF (fl i j).1)
   .cases e
  |_=>cases e
 |_=>cases e
theorem qB{K:ae}{g:Int->Int->PV}{h:Int->Int->V}(fl:∀i j,qA (g i j)=true/\nZ (g i j)=h i j):eW K (fT h) (i2 λi j=>some (g i j)):=λ{p S H a b c x y Q} s ra rb e k=>by
 cases a with
 |int i=>
  cases b with
  |int j=>
   cases e;refine⟨i,j,ra.int,rb.int,?_⟩;rw[<-(fl i j).2];exact k H _ (cE.refl H) (iF (fl i j).1)
  |_=>cases e
 |_=>cases e
def lU(i j:Int):Prop:=yJ i j\/(Bd 1000000 i/\Bd 1000000 j)
theorem lU.ok{i j:Int}(h:lU i j):IntMulOk i j:=by
 rcases h with h |h
 .exact h.ok
 have h1:=Cf h.1;have h2:=Cf h.2;unfold IntMulOk Builtin.Int.intTooBig bitsLine;intro c;simp only[dm,decide_eq_true_eq]at c;have:=c.2;omega
theorem Yt:dE X (binaryOp .Mult) (rI lU λi j=>.int (i*j)):=tL λ_ _ _ _ _ _ _ hc q=>mul_int q hc.ok
def aZ:=i2 (cI lU λi j=>.int (i*j))
def eY:=i2 (cI lS λi j=>.int (i.fdiv j))
def eE:=i2 (cI (λ_ j=>j≠0) λi j=>.int (i.fmod j))
def iC:=i2 (cI sZ λi j=>.int (i^j.toNat))
def eN:=i2 λi j=>some (.int (i-j))
def gJ:=i2 λi j=>some (.bl (decide (i<j)))
def qO:=i2 λi j=>some (.bl (decide (i<=j)))
def fY:=i2 λi j=>some (.bl (decide (j<i)))
def oF:=i2 λi j=>some (.bl (decide (j<=i)))
theorem D7{K:ae}:eW K (rI lU λi j=>.int (i*j)) aZ:=tG λ_ _=>⟨rfl,rfl⟩
theorem Qx{K:ae}:eW K (rI lS λi j=>.int (i.fdiv j)) eY:=tG λ_ _=>⟨rfl,rfl⟩
theorem B0{K:ae}:eW K (rI (λ_ j=>j≠0) λi j=>.int (i.fmod j)) eE:=tG λ_ _=>⟨rfl,rfl⟩
theorem F2{K:ae}:eW K (rI sZ λi j=>.int (i^j.toNat)) iC:=tG λ_ _=>⟨rfl,rfl⟩
theorem G0{K:ae}:eW K (fT λi j=>.int (i-j)) eN:=qB λ_ _=>⟨rfl,rfl⟩
theorem Lj{K:ae}:eW K (fT λi j=>.bl (decide (i<j))) gJ:=qB λ_ _=>⟨rfl,rfl⟩
theorem Oj{K:ae}:eW K (fT λi j=>.bl (decide (i<=j))) qO:=qB λ_ _=>⟨rfl,rfl⟩
theorem Gk{K:ae}:eW K (fT λi j=>.bl (decide (j<i))) fY:=qB λ_ _=>⟨rfl,rfl⟩
theorem Bk{K:ae}:eW K (fT λi j=>.bl (decide (j<=i))) oF:=qB λ_ _=>⟨rfl,rfl⟩
def dP:PV->AJ
 |.int i=>some (.int (-i))
 |_=>none
theorem E3{K:ae}:nX K (rU λi=>.int (-i)) dP:=λ{p S H a c x Q} s ra e k=>by
 cases a with
 |int i=>
  cases e;exact⟨i,ra.int,k H _ (cE.refl H) (iF (v:=.int (-i)) rfl)⟩
 |_=>cases e
def Wi(K:ae):R2:=λx y H Q=>∃l b xs zs,x=.ref l/\y=.ref b/\bS K H l xs/\bS K H b zs/\xs.length+zs.length<=sizeLine/\∀p,H p=none->Q (.ref p) (aM H p (.lst (xs++zs)))
theorem Ku:dE X (binaryOp .Add) (Wi X.K):=by
 intro AM s σ H x y v u Q I rx ry h;obtain⟨l,b,xs,zs,rfl,rfl,hx,hy,hz,q⟩:=h;cases rx;cases ry;obtain⟨its,r1,p1,_⟩:=I.list hx;obtain⟨jts,r2,p2,_⟩:=I.list hy;obtain⟨⟨cls,dd,data,sl⟩,n,ho,hc,_,hd⟩:=p1;obtain⟨⟨cls2,dd2,data2,sl2⟩,n2,dL,hc2,_,hd2⟩:=p2;simp only at hc hd hc2 hd2;subst hc hd hc2 hd2;have e:its.toArray++jts.toArray=(its++jts).toArray:=by simp
 have l1:=r1.length;have l2:=r2.length;refine tw ⟨_,ho,rfl⟩ ⟨_,dL,rfl⟩ noFill_list_add seq_list_add PySem.F.slot_list_add PySem.F.entry_list_add (PySem.F.args_list_add_2 _ _) (list_addW l b its.toArray jts.toArray n n2 dd dd2 sl sl2 (by rw[am,am];omega)) ⟨ho,dL,?_⟩;rw[e];exact⟨.ref _,_,I.lnew (t':=s.toks) (r1.append r2) (by rw[da];omega),rfl,q _ I.fresh⟩
def aL:PV->PV->AJ
 |.int a,.int b=>some (.int (a+b))
 |.lst xs,.lst ys=>if xs.length+ys.length<=16777216 then some (.lst (xs++ys))else none
 |.tup xs,.tup ys=>if xs.length≠0/\ys.length≠0/\xs.length+ys.length<=16777216 then some (.tup (xs++ys))else none
 |_,_=>none
def Ri(K:ae):R2:=λx y H Q=>(fT λi j=>.int (i+j)) x y H Q\/Wi K x y H Q\/Ji K x y H Q
theorem Nv:dE X (binaryOp .Add) (Ri X.K):=dE.or Rx (dE.or Ku Uu)
theorem Hz{K:ae}:eW K (Ri K) aL:=λ{p S H a b c x y Q} s ra rb e k=>by
 cases a with
 |int i=>
  cases b with
  |int j=>
   cases e;exact .inl ⟨i,j,ra.int,rb.int,k H _ (cE.refl H) (iF (v:=.int (i+j)) rfl)⟩
  |_=>cases e
 |lst xs=>
  cases b with
  |lst ys=>
   have e:(if xs.length+ys.length<=16777216 then some (PV.lst (xs++ys))else none)=some c:=e;split at e
   .rename_i hl
    cases e;obtain⟨a1,vs,rfl,l1,z1,r1⟩:=ra.lst;obtain⟨a2,ws,rfl,l2,z2,r2⟩:=rb.lst;have hz:vs.length+ws.length<=sizeLine:=by rw[<-r1.length,<-r2.length,gO];exact hl
    exact .inr (.inl ⟨a1,a2,vs,ws,rfl,rfl,l1,l2,hz,λt ht=>k _ _ (dY ht) (lO s (r1.append r2) (by rw[da];exact hz) ht)⟩)
   .cases e
  |_=>cases e
 |tup xs=>
  cases b with
  |tup ys=>
   have e:(if xs.length≠0/\ys.length≠0/\xs.length+ys.length<=16777216 then some (PV.tup (xs++ys))else none)=some c:=e;split at e
   .rename_i hl
    cases e;obtain⟨a1,vs,rfl,l1,z1,r1⟩:=ra.tup;obtain⟨a2,ws,rfl,l2,z2,r2⟩:=rb.tup;have hz:vs.length+ws.length<=sizeLine:=by rw[<-r1.length,<-r2.length,gO];exact hl.2.2
    refine .inr (.inr ⟨a1,a2,vs,ws,rfl,rfl,l1,l2,λq=>hl.1 (by rw[r1.length,q];rfl),hz,λq=>absurd (show ys.length=0 by rw[r2.length,q];rfl) hl.2.1,λ_ t ht=>k _ _ (dY ht) (kJ s (r1.append r2) (by rw[da];exact hz) ht)⟩)
   .cases e
  |_=>cases e
 |_=>cases e
end
section
variable{K:ae}{cl:Str->Addr}{E:XK}{X:Cx}{a b e:af}{es:List af}{ma mb m:ME}{ms:MA}{pos p2:ag}
def aG:PV->PV->AJ
 |.lst xs,.int i=>bC xs i
 |.tup xs,.int i=>bC xs i
 |_,_=>none
theorem wM{c:Addr->Prop}{H:Hp}{xs:AI}{vs:List V}{i:Int}{v:PV}(r:aJ K c H xs vs)(e:bC xs i=some v):∃x,bC vs i=some x/\aK K c H v x:=by
 unfold bC at e⊢;rw[<-r.length];cases z:bD xs.length i with
 |none=>rw[z]at e;cases e
 |some j=>
  rw[z]at e;exact r.get e
theorem J6:eW K (Nk K) aG:=λ{p S H a b c x y Q} s ra rb e k=>by
 cases b with
 |int i=>
  cases a with
  |lst xs=>
   obtain⟨a1,vs,rfl,l1,z1,r1⟩:=ra.lst;obtain⟨x,e1,r2⟩:=wM r1 e;exact .inl ⟨a1,vs,i,x,rfl,rb.int,l1,e1,k H x (cE.refl H) r2⟩
  |tup xs=>
   obtain⟨a1,vs,rfl,l1,z1,r1⟩:=ra.tup;obtain⟨x,e1,r2⟩:=wM r1 e;exact .inr (.inl ⟨a1,vs,i,x,rfl,rb.int,l1,e1,k H x (cE.refl H) r2⟩)
  |_=>cases e
 |_=>cases a<;>cases e
theorem Nz(ha:aO K cl E X a ma)(hb:aO K cl E X b mb)(hs:Eg b:=by intro _ _;rfl):aO K cl E X (.Subscript a b pos) (aB aG ma mb):=by
 intro hK;subst hK;refine(E6 Oy (ha rfl) (hb rfl) hs).imp ?_
 rintro σ H Q ⟨p,S,ρ,s,e,h⟩
 exact bT s e h λq H1 a x S1 st s1 e1 r1 h1=>bT s1 e1 h1 λq2 H2 b y S2 st2 s2 e2 r2 h2=>qW J6 s2 (st2.repA r1) r2 h2
abbrev MO:=bL->aH->bQ AH
def eI:MO:=λ_ S=>.ok none S
def gA:AV->aH->bQ AH
 |.pv (.int i),S=>.ok (some i) S
 |_,_=>.fail
def eK(m:ME):MO:=λρ S=>(m ρ S).bind gA
abbrev RO:Ph->Hp->AH->AH->Prop:=λ_ _ a b=>a=b
variable(K cl E X)
def nY(e:Option af)(m:MO):Prop:=X.K=K->PO X e (tP K cl E RO m)
variable{K cl E X}
theorem PO.imp{e:Option af}{t t':TO}(h:PO X e t)(i:∀σ H Q,t' σ H Q->t σ H Q):PO X e t':=λAM s σ H Q I q=>h AM s σ H Q I (i σ H Q q)
theorem Ps:nY K cl E X none eI:=λ_=>PO.imp Cw λσ H Q ⟨p,S,ρ,s,e,h⟩=>bR.ret (R:=RO) h s rfl
theorem Zr(h:aO K cl E X e m):nY K cl E X (some e) (eK m):=by
 intro hK;subst hK;refine PO.imp (Tu (h rfl)) ?_
 rintro σ H Q ⟨p,S,ρ,s,e,h⟩
 refine bT s e h λq H1 a x S1 st s1 e1 r1 h1=>?_;unfold gA at h1;split at h1
 .rename_i i
  exact⟨i,(show dR X.K q H1 (.int i) x from .inl r1).int,bR.ret (R:=RO) h1 s1 rfl⟩
 .exact h1.elim
def gZ(xs:AI)(lo hi:AH):AI:=(xs.drop (HT.sIx xs.length 0 lo)).take (HT.sIx xs.length xs.length hi-HT.sIx xs.length 0 lo)
def iT(v:PV)(lo hi:AH):AJ:=match v with
 |.lst xs=>some (.lst (gZ xs lo hi))
 |.tup xs=>if HT.sIx xs.length 0 lo=0/\HT.sIx xs.length xs.length hi=xs.length then none else some (.tup (gZ xs lo hi))
 |_=>none
def eG(m:ME)(ml mh:MO):ME:=λρ S=>(m ρ S).bind λv S1=>(ml ρ S1).bind λlo S2=>(mh ρ S2).bind λhi S3=>fV ((rd S3 v).bind λx=>iT x lo hi) S3
theorem Qd{c:Addr->Prop}{H:Hp}{xs:AI}{vs:List V}{lo hi:AH}(r:aJ K c H xs vs):aJ K c H (gZ xs lo hi) (kX vs lo hi):=by
 unfold gZ kX;rw[<-r.length];exact(r.drop _).take _
theorem D5{lo hi:Option af}{ml mh:MO}(he:aO K cl E X e m)(hl:nY K cl E X lo ml)(hu:nY K cl E X hi mh):aO K cl E X (.Subscript e (.Slice lo hi none p2) pos) (eG m ml mh):=by
 intro hK;subst hK;refine(Uq (lE.or Jt Hw) (he rfl) (hl rfl) (hu rfl)).imp ?_
 rintro σ H Q ⟨p,S,ρ,s,e,h⟩
 refine bT s e h λq H1 a x S1 st s1 e1 r1 h1=>bT s1 e1 h1 λq2 H2 lo lo' S2 st2 s2 e2 r2 h2=>bT s2 e2 h2 λq3 H3 hi hi' S3 st3 s3 e3 r3 h3=>?_;cases r2;cases r3;have ra:=st3.repA (st2.repA r1);obtain⟨c,ec,k⟩:=oX s3 h3;cases z:rd S3 a with
 |none=>rw[z]at ec;cases ec
 |some v=>
  rw[z]at ec;have rv:=pR s3 ra z;cases v with
  |lst xs=>
   have ec:some (PV.lst (gZ xs lo hi))=some c:=ec;cases ec;obtain⟨a1,vs,rfl,l1,z1,r1⟩:=rv.lst;exact .inl ⟨a1,vs,rfl,l1,λt ht=>k _ _ (dY ht) (lO s3 (Qd r1) (di (qR vs lo hi) z1) ht)⟩
  |tup xs=>
   obtain⟨a1,vs,rfl,l1,z1,r1⟩:=rv.tup;have ec:(if HT.sIx xs.length 0 lo=0/\HT.sIx xs.length xs.length hi=xs.length then none else some (PV.tup (gZ xs lo hi)))=some c:=ec;split at ec
   .cases ec
   .rename_i hw
    cases ec;rw[r1.length]at hw;exact .inr ⟨a1,vs,rfl,l1,hw,λt ht=>k _ _ (dY ht) (kJ s3 (Qd r1) (di (qR vs lo hi) z1) ht)⟩
  |_=>cases ec
theorem mQ{id:String}{r:List V->Hp->VK->Prop}{f:AI->AJ}{x:Str}{p:ag}(hc:fH X (.builtin id) r)(hf:iS X.K r f)(hg:Gl X x)(hm:X.mg x=none)(hv:bootBuiltins x=some (.builtin id))(ha:dJ K cl E X (e::es) ms)(hn:x≠"__name__":=by decide)(hdb:(x==("__debug__":Str))=false:=by decide)
  (he:starEach (e::es) X.env=(false,eval e X.env)::starEach es X.env:=by rfl)(hpl:(backTo pos (starEach es X.env)).any (·.1)=false:=by rfl):aO K cl E X (.Call (.Name x p) (e::es) [] pos) (mR f ms):=by
 intro hK;subst hK;refine PE.imp (lJ hc hg hm hv (ha rfl) hn hdb he hpl) ?_
 rintro σ H Q ⟨p,S,ρ,s,ev,h⟩
 exact bT s ev h λq H' as xs S' stp sm ev r k=>Zb hf sm r k
theorem Wb{T:String}{r:List V->Hp->VK->Prop}{f:AI->AJ}{x:Str}{p:ag}(hc:fH X (.type T) r)(hf:iS X.K r f)(hg:Gl X x)(hm:X.mg x=none)(hv:bootBuiltins x=some (.type T))(ha:dJ K cl E X (e::es) ms)(hn:x≠"__name__":=by decide)(hdb:(x==("__debug__":Str))=false:=by decide)
  (he:starEach (e::es) X.env=(false,eval e X.env)::starEach es X.env:=by rfl)(hpl:(backTo pos (starEach es X.env)).any (·.1)=false:=by rfl):aO K cl E X (.Call (.Name x p) (e::es) [] pos) (mR f ms):=by
 intro hK;subst hK;refine PE.imp (Xn hc hg hm hv (ha rfl) hn hdb he hpl) ?_
 rintro σ H Q ⟨p,S,ρ,s,ev,h⟩
 exact bT s ev h λq H' as xs S' stp sm ev r k=>Zb hf sm r k
def eZ:AI->AJ
 |[.lst xs]=>some (.int xs.length)
 |[.tup xs]=>some (.int xs.length)
 |_=>none
theorem A0:iS K (λxs H Q=>∃p ys,xs=[.ref p]/\(bS K H p ys\/bZ K H p ys)/\Q (.int ys.length) H) eZ:=λ{p S H as c xs Q} s ra e k=>by
 unfold eZ at e;split at e
 .rename_i zs
  cases e;cases ra with
  |cons h t=>
   cases t;obtain⟨a,vs,rfl,l,z,r⟩:=h.lst;refine⟨a,vs,rfl,.inl l,?_⟩;rw[<-r.length];exact k H _ (cE.refl H) (iF (v:=.int zs.length) rfl)
 .rename_i zs
  cases e;cases ra with
  |cons h t=>
   cases t;obtain⟨a,vs,rfl,l,z,r⟩:=h.tup;refine⟨a,vs,rfl,.inr l,?_⟩;rw[<-r.length];exact k H _ (cE.refl H) (iF (v:=.int zs.length) rfl)
 .cases e
def mD:AI->AJ
 |[.int i]=>some (.int (if i<0 then-i else i))
 |_=>none
theorem Iz:iS K (λxs H Q=>∃i,xs=[.int i]/\Q (.int (if i<0 then-i else i)) H) mD:=λ{p S H as c xs Q} s ra e k=>by
 unfold mD at e;split at e
 .rename_i i
  cases e;cases ra with
  |cons h t=>
   cases t;cases h.int;exact⟨i,rfl,k H _ (cE.refl H) (iF (v:=.int _) rfl)⟩
 .cases e
def iG:AI->AJ
 |[.lst xs]=>some (.tup xs)
 |[.tup xs]=>some (.tup xs)
 |_=>none
theorem Zu:iS K (λxs H Q=>∃p ys,xs=[.ref p]/\((bS K H p ys/\∀l,H l=none->Q (.ref l) (aM H l (.tup ys)))\/(bZ K H p ys/\Q (.ref p) H))) iG:=λ{p S H as c xs Q} s ra e k=>by
 unfold iG at e;split at e
 .rename_i zs
  cases e;cases ra with
  |cons h t=>
   cases t;obtain⟨a,vs,rfl,l,z,r⟩:=h.lst;exact⟨a,vs,rfl,.inl ⟨l,λt ht=>k _ _ (dY ht) (kJ s r z ht)⟩⟩
 .rename_i zs
  cases e;cases ra with
  |cons h t=>
   cases t;obtain⟨a,vs,rfl,l,z,r⟩:=h.tup;refine⟨a,vs,rfl,.inr ⟨l,k H _ (cE.refl H) ?_⟩⟩;unfold aK;exact⟨a,vs,rfl,l,z,r⟩
 .cases e
def mX:AI->AJ
 |[.lst xs]=>some (.lst xs)
 |[.tup xs]=>some (.lst xs)
 |_=>none
theorem Vt:iS K (λxs H Q=>∃p ys,xs=[.ref p]/\(bS K H p ys\/bZ K H p ys)/\∀l,H l=none->Q (.ref l) (aM H l (.lst ys))) mX:=λ{p S H as c xs Q} s ra e k=>by
 unfold mX at e;split at e
 .rename_i zs
  cases e;cases ra with
  |cons h t=>
   cases t;obtain⟨a,vs,rfl,l,z,r⟩:=h.lst;exact⟨a,vs,rfl,.inl l,λt ht=>k _ _ (dY ht) (lO s r z ht)⟩
 .rename_i zs
  cases e;cases ra with
  |cons h t=>
   cases t;obtain⟨a,vs,rfl,l,z,r⟩:=h.tup;exact⟨a,vs,rfl,.inr l,λt ht=>k _ _ (dY ht) (lO s r z ht)⟩
 .cases e
def jC:AI->Option (List Bool)
 |[]=>some []
 |.bl b::r=>match jC r with
  |some bs=>some (b::bs)
  |none=>none
 |_::_=>none
def jT:AI->AJ
 |[.lst xs]=>(jC xs).map λbs=>.bl (bs.all id)
 |_=>none
theorem Vc{c:Addr->Prop}{H:Hp}:∀{xs:AI}{bs:List Bool}{vs:List V},jC xs=some bs->aJ K c H xs vs->vs=bs.map V.bl
 |[],bs,vs,e,r=>by
  cases e;unfold aJ at r;exact r
 |.bl b::xs,bs,vs,e,r=>by
  unfold jC at e;split at e
  .rename_i cs h
   cases e;unfold aJ at r;obtain⟨v,w,rfl,r1,r2⟩:=r;unfold aK at r1;rw[r1,Vc h r2];rfl
  .cases e
 |.non::_,_,_,e,_=>by cases e
 |.int _::_,_,_,e,_=>by cases e
 |.str _::_,_,_,e,_=>by cases e
 |.tup _::_,_,_,e,_=>by cases e
 |.lst _::_,_,_,e,_=>by cases e
theorem G3:iS K (λxs H Q=>∃(a:Addr)(bs:List Bool),xs=[.ref a]/\bS K H a (bs.map V.bl)/\Q (.bl (bs.all id)) H) jT:=λ{p S H as c xs Q} s ra e k=>by
 unfold jT at e;split at e
 .rename_i zs
  cases y:jC zs with
  |none=>rw[y]at e;cases e
  |some bs=>
   rw[y]at e;cases e;cases ra with
   |cons h t=>
    cases t;obtain⟨a,vs,rfl,l,z,r⟩:=h.lst;rw[Vc y r]at l;exact⟨a,bs,rfl,l,k H _ (cE.refl H) (iF (v:=.bl _) rfl)⟩
 .cases e
end
end
section
variable{K:ae}{cl:Str->Addr}{E:XK}{X:Cx}{a b c e l tg:af}{es:List af}{m ma mb:ME}{ms:MA}{pos:ag}{p q:Ph}{H H':Hp}{S:aH}
theorem aQ.push(s:aQ K p S H){D:Addr}{ps:AI}{vs:List V}(h:H D=none)(l:vs.length<=sizeLine)(r:aJ K p.c H ps vs):
  let q:Ph:=⟨p.f++[D],λa=>p.w a\/a=D,λa=>p.c a\/a=D⟩
  bJ p H q (aM H D (.lst vs))/\aQ K q (S++[.lst ps]) (aM H D (.lst vs)):=by
 intro q;obtain⟨st0,sm0⟩:=s.res (D:=D) (o:=.lst vs) h trivial;have nf0:D∉p.f:=λz=>s.notin h (s.wc D (s.sub D z));refine⟨⟨st0.wc,st0.mu,⟨[D],rfl⟩,st0.mw,st0.mono,λa x n=>?_,st0.nw,st0.nc,st0.keep⟩,?_,by simp[q,s.len],λa x=>?_,sm0.wc,sm0.mu,λk a o e1 e2=>?_⟩
 .rcases du.mp x with z |z
  .exact absurd z n
  .have:a=D:=by simpa using z
   rw[this];exact h
 .show(p.f++[D]).Nodup
  rw[zh];refine⟨s.nd,by simp,λa ha b hb z=>?_⟩;have:b=D:=by simpa using hb
  exact nf0 (this▸z▸ha)
 .rcases du.mp x with z |z
  .exact .inl (s.sub a z)
  .exact .inr (by simpa using z)
 .by_cases hk:k<S.length
  .have e1':p.f[k]?=some a:=by
    have e1:(p.f++[D])[k]?=some a:=e1
    rwa[gf (by rw[s.len];exact hk)]at e1
   rw[gf hk]at e2;refine(s.obj k a o e1' e2).mono (λvs e=>by rw[bP (dW e h)];exact e) (λb w f=>⟨⟨.inl w,λm=>?_⟩,λvs e=>by rw[bP (dW e h)];exact e⟩) λ_ _ r=>st0.reps r;rcases du.mp m with z |z
   .exact f z
   .have:b=D:=by simpa using z
    exact s.notin h (this▸s.wc b w)
  .have hk':k=S.length:=by
    have:=(ck.mp e2).1;simp at this;omega
   subst hk';rw[fy (ak _),ky]at e2;have e1:(p.f++[D])[S.length]?=some a:=e1;rw[<-s.len,fy (ak _),ky]at e1;cases e1;cases e2;exact⟨vs,dX,l,st0.reps r⟩
theorem aQ.write(s:aQ K p S H){D:Addr}{k:Nat}{ps:AI}{vs:List V}(h:p.f[k]?=some D)(hk:k<S.length)(l:vs.length<=sizeLine)(r:aJ K p.c H ps vs):
  bJ p H p (aM H D (.lst vs))/\aQ K p (S.set k (.lst ps)) (aM H D (.lst vs)):=by
 have w:p.w D:=s.sub D (fj h);have st:bJ p H p (aM H D (.lst vs)):=⟨s.wc,s.mu,ku,λ_ h=>h,λ_ h=>h,λ_ h g=>absurd h g,λ_ h g=>absurd h g,λ_ h g=>absurd h g,λa u e nw=>by
  rw[bP (λz:a=D=>nw (by rw[z];exact w))];exact e⟩
 refine⟨st,s.nd,by rw[gh];exact s.len,s.sub,s.wc,λa x=>?_,λj a o e1 e2=>?_⟩
 .by_cases z:a=D
  .rw[z,dX]
   exact⟨_,rfl,trivial⟩
  .rw[bP z]
   exact s.mu a x
 .by_cases hj:k=j
  .subst hj
   rw[h]at e1;cases e1;rw[fx hk]at e2;cases e2;exact⟨vs,dX,l,st.reps r⟩
  .rw[ib hj]at e2
   have ne:a≠D:=λq=>hj (nodup_idx s.nd h (q▸e1));exact(s.obj j a o e1 e2).mono (λvs e=>by rw[bP ne];exact e) (λb w f=>⟨⟨w,f⟩,λvs e=>by rw[bP (λz:b=D=>f (z▸fj h))];exact e⟩) λ_ _ r=>st.reps r
def xR(xs:AL)(S:aH):bQ AV:=match kQ xs with
 |some vs=>if vs.length<=16777216 then .ok (.ref S.length) (S++[.lst vs])else .fail
 |none=>.fail
def tH(ms:MA):ME:=λρ S=>(ms ρ S).bind xR
theorem Bu(h:dJ K cl E X es ms):aO K cl E X (.List es pos) (tH ms):=by
 intro hK;subst hK;refine(Tg (h rfl)).imp ?_
 rintro σ H Q ⟨p,S,ρ,s,e,h⟩
 refine bT s e h λq H1 as xs S1 st s1 e1 r1 h1=>?_;unfold xR at h1;split at h1
 .rename_i vs hv
  split at h1
  .rename_i hl
   have r:=uM hv r1;rw[r.length,<-gO]at hl;refine⟨hl,λt ht=>?_⟩;obtain⟨st2,sm2⟩:=s1.push ht hl r;exact h1 _ _ (.ref t) st2 sm2 ⟨t,by show(q.f++[t])[S1.length]?=some t;rw[<-s1.len,fy (ak _),ky];rfl,rfl⟩
  .exact h1.elim
 .exact h1.elim
def nG(k:Nat)(ys:AL)(S:aH):bQ AV:=match ys with
 |[.pv y]=>match S[k]? with
  |some (.lst xs)=>if xs.length<16777216 then .ok (.pv .non) (S.set k (.lst (xs++[y])))else .fail
  |_=>.fail
 |_=>.fail
def fS{α:Type}(k:AV)(S:aH)(f:Nat->bQ α):bQ α:=match k with
 |.ref k=>(match S[k]? with
  |some (.dic _ _)=>.fail
  |some (.dol _ _)=>.fail
  |_=>f k)
 |_=>.fail
theorem vT{α:Type}(k:Nat)(S:aH)(f:Nat->bQ α):fS (.ref k) S f=.fail\/(fS (.ref k) S f=f k/\(∀n l,S[k]?≠some (.dic n l))/\∀n l,S[k]?≠some (.dol n l)):=by
 have e:fS (.ref k) S f=(match S[k]? with
  |some (.dic _ _)=>.fail
  |some (.dol _ _)=>.fail
  |_=>f k):=rfl
 rw[e];cases S[k]? with
 |none=>exact .inr ⟨rfl,λ_ _ z=>(nomatch z),λ_ _ z=>(nomatch z)⟩
 |some o=>
  cases o with
  |dic n l=>exact .inl rfl
  |dol n l=>exact .inl rfl
  |lst xs=>exact .inr ⟨rfl,λ_ _ z=>(nomatch z),λ_ _ z=>(nomatch z)⟩
  |lol xs=>exact .inr ⟨rfl,λ_ _ z=>(nomatch z),λ_ _ z=>(nomatch z)⟩
def kZ(m:ME)(ms:MA):ME:=λρ S=>(m ρ S).bind λk S1=>fS k S1 λk=>(ms ρ S1).bind λys S2=>nG k ys S2
theorem Cg{k:Nat}{x:V}(s:aQ K p S H)(r:bU K p H (.ref k) x)(n1:∀n l,S[k]?≠some (.dic n l))(n2:∀n l,S[k]?≠some (.dol n l)):yW K "list" x H:=by
 obtain⟨a,e,rfl⟩:=r;have hk:k<S.length:=by
  have:=(ck.mp e).1;rw[<-s.len];exact this
 have z:=s.obj k a S[k] e (ax hk);cases y:S[k]with
 |lst xs=>
  rw[y]at z;obtain⟨vs,h,_⟩:=z;exact .inl ⟨rfl,vs,bS.of h⟩
 |lol xss=>
  rw[y]at z;obtain⟨bs,h,_⟩:=z;exact .inl ⟨rfl,_,bS.of h⟩
 |dic n l=>exact absurd (by rw[ax hk,y]) (n1 n l)
 |dol n l=>exact absurd (by rw[ax hk,y]) (n2 n l)
theorem Ko{apos cpos:ag}(ho:aO K cl E X a m)(ha:dJ K cl E X [e] ms)(hbase:attributeBase a "append" X.env (eval a X.env)=eval a X.env:=by rfl)
  (hfew:((backTo cpos (starEach [e] X.env)).all (λx=>!x.1)&&(backToKw cpos (keywordEach [] X.env)).all (λx=>x.1.isSome)&&decide (([e]:List af).length+([]:List ji).length+(if([]:List ji).isEmpty then 0 else 1)<30))=true:=by rfl)
  (hline:(apos.endLine==cpos.line)=true:=by rfl)(hs:starEach [e] X.env=[(false,eval e X.env)]:=by rfl):aO K cl E X (.Call (.Attribute a "append" apos) [e] [] cpos) (kZ m ms):=by
 intro hK;subst hK;refine PE.imp (Qi zq xp PySem.F.type_list_append vB (ho rfl) (ha rfl) hbase hfew hline hs rfl) ?_
 rintro σ H Q ⟨p,S,ρ,s,ev,h⟩
 refine bT s ev h λq H1 k x S1 st s1 e1 r1 h1=>?_;cases k with
 |pv v=>exact h1.elim
 |ref k=>
  have h1:bR X.K cl (bU X.K) q H1 (fS (.ref k) S1 λk=>(ms ρ S1).bind λys S2=>nG k ys S2) Q E:=h1;rcases vT k S1 (λk=>(ms ρ S1).bind λys S2=>nG k ys S2)with z |⟨z,n1,n2⟩
  .rw[z]at h1
   exact h1.elim
  rw[z]at h1;refine⟨Cg s1 r1 n1 n2,bT s1 e1 h1 λq2 H2 ys xs S2 st2 s2 e2 r2 h2=>?_⟩;obtain⟨a,ea,rfl⟩:=st2.repA r1;unfold nG at h2;split at h2
  .rename_i y
   cases r2 with
   |cons r3 r4=>
    cases r4;rename_i x;cases z:S2[k]? with
    |none=>rw[z]at h2;exact h2.elim
    |some o=>
     cases o with
     |lol _=>simp only[z]at h2;exact h2.elim
     |dic _ _=>simp only[z]at h2;exact h2.elim
     |dol _ _=>simp only[z]at h2;exact h2.elim
     |lst zs=>
      simp only[z]at h2;obtain⟨vs,h3,l3,r4⟩:=s2.obj k a _ ea z;split at h2
      .rename_i hl
       rw[r4.length]at hl;have hz:=gO;refine⟨a,vs,x,rfl,rfl,h3,by omega,?_⟩;obtain⟨st3,sm3⟩:=s2.write ea (ck.mp z).1 (ps:=zs++[y]) (vs:=vs++[x]) (by rw[da,xq];omega) (r4.append (.cons r3 .nil));exact h2 _ _ .non st3 sm3 (by show aK X.K q2.c (aM H2 a (.lst (vs++[x]))) .non .non;unfold aK;rfl)
      .exact h2.elim
  .exact h2.elim
def lR(k:Nat)(ys:AL)(S:aH):bQ AV:=match ys with
 |[.pv (.int i)]=>if-9223372036854775808<=i/\i<9223372036854775808 then(match S[k]? with
  |some (.lst xs)=>match seqIndex? i xs.length with
   |some j=>match xs[j]? with
    |some v=>.ok (.pv v) (S.set k (.lst (xs.eraseIdx j)))
    |none=>.fail
   |none=>.fail
  |_=>.fail)else .fail
 |_=>.fail
def lZ(m:ME)(ms:MA):ME:=λρ S=>(m ρ S).bind λk S1=>fS k S1 λk=>(ms ρ S1).bind λys S2=>lR k ys S2
theorem Cz{apos cpos:ag}(ho:aO K cl E X a m)(ha:dJ K cl E X [e] ms)(hbase:attributeBase a "pop" X.env (eval a X.env)=eval a X.env:=by rfl)
  (hfew:((backTo cpos (starEach [e] X.env)).all (λx=>!x.1)&&(backToKw cpos (keywordEach [] X.env)).all (λx=>x.1.isSome)&&decide (([e]:List af).length+([]:List ji).length+(if([]:List ji).isEmpty then 0 else 1)<30))=true:=by rfl)
  (hline:(apos.endLine==cpos.line)=true:=by rfl)(hs:starEach [e] X.env=[(false,eval e X.env)]:=by rfl):aO K cl E X (.Call (.Attribute a "pop" apos) [e] [] cpos) (lZ m ms):=by
 intro hK;subst hK;refine PE.imp (Qi zq PySem.F.slot_list_pop PySem.F.type_list_pop Br (ho rfl) (ha rfl) hbase hfew hline hs rfl) ?_
 rintro σ H Q ⟨p,S,ρ,s,ev,h⟩
 refine bT s ev h λq H1 k x S1 st s1 e1 r1 h1=>?_;cases k with
 |pv v=>exact h1.elim
 |ref k=>
  have h1:bR X.K cl (bU X.K) q H1 (fS (.ref k) S1 λk=>(ms ρ S1).bind λys S2=>lR k ys S2) Q E:=h1;rcases vT k S1 (λk=>(ms ρ S1).bind λys S2=>lR k ys S2)with z |⟨z,n1,n2⟩
  .rw[z]at h1
   exact h1.elim
  rw[z]at h1;refine⟨Cg s1 r1 n1 n2,bT s1 e1 h1 λq2 H2 ys xs S2 st2 s2 e2 r2 h2=>?_⟩;obtain⟨a,ea,rfl⟩:=st2.repA r1;unfold lR at h2;split at h2
  .rename_i i
   cases r2 with
   |cons r3 r4=>
    cases r4;rename_i x;have ex:x=.int i:=(show dR X.K q2 H2 (.int i) x from .inl r3).int;subst ex;split at h2
    .rename_i hi
     cases z:S2[k]? with
     |none=>rw[z]at h2;exact h2.elim
     |some o=>
      cases o with
      |lol _=>simp only[z]at h2;exact h2.elim
      |dic _ _=>simp only[z]at h2;exact h2.elim
      |dol _ _=>simp only[z]at h2;exact h2.elim
      |lst zs=>
       simp only[z]at h2;obtain⟨vs,h3,l3,r4⟩:=s2.obj k a _ ea z;cases y:seqIndex? i zs.length with
       |none=>simp only[y]at h2;exact h2.elim
       |some j=>
        simp only[y]at h2;cases yv:zs[j]? with
        |none=>simp only[yv]at h2;exact h2.elim
        |some v=>
         simp only[yv]at h2;obtain⟨u,eu,ru⟩:=r4.get yv;refine⟨a,vs,i,j,u,rfl,rfl,h3,hi.1,hi.2,by rw[<-r4.length];exact y,eu,?_⟩;obtain⟨st3,sm3⟩:=s2.write ea (ck.mp z).1 (ps:=zs.eraseIdx j) (vs:=vs.eraseIdx j) (di (vC vs j) l3) (r4.eraseIdx j);exact h2 _ _ u st3 sm3 (st3.rep ru)
    .exact h2.elim
  .exact h2.elim
def nN(k:Nat)(i:AV)(v:AV)(S:aH):bQ Unit:=match i,v with
 |.pv (.int i),.pv v=>match S[k]? with
  |some (.lst xs)=>match bD xs.length i with
   |some j=>.ok () (S.set k (.lst (xs.set j v)))
   |none=>.fail
  |_=>.fail
 |_,_=>.fail
def nE(mo mi mv:ME):MS:=λρ S=>cC.of (mv ρ S) λv S1=>cC.of (mo ρ S1) λk S2=>cC.of (mi ρ S2) λi S3=>cC.of (fS k S3 λk=>nN k i v S3) λ_ S4=>.nx ρ S4
theorem Mo{o i v:af}{mo mi mv:ME}{tpos:ag}(hv:aO K cl E X v mv)(ho:aO K cl E X o mo)(hi:aO K cl E X i mi)
  (ha:∀v,assign (.Subscript o i tpos) X.env v=(do
   let ov <-holding [v] (eval o X.env)
   let iv <-holding [v,ov] (eval i X.env)
   standAt tpos
   holding [v,ov,iv] (setItem ov iv v)
   release [v,ov,iv] []):=by intro _;rfl)
  (hs:swapsWithSole [.Subscript o i tpos] v pos.line X.env=pure false:=by rfl)(hw:swappedStores [.Subscript o i tpos] v X.env=pure none:=by rfl)
  (h1:(assignEach [.Subscript o i tpos] X.env).map (·.2)=[assign (.Subscript o i tpos) X.env]:=by rfl):eC K cl E X (.Assign [.Subscript o i tpos] v pos) (nE mo mi mv):=by
 intro hK;subst hK;refine PS.imp (Xy (hv rfl) (Gx (ho rfl) (hi rfl) Vp ha) hs hw h1) ?_
 rintro D σ H ⟨p,S,ρ,s,ev,h⟩
 refine iX s ev h λq H1 v x S1 st s1 e1 r1 h1=>?_;refine iX s1 e1 h1 λq2 H2 k y S2 st2 s2 e2 r2 h2=>?_;refine iX s2 e2 h2 λq3 H3 i z S3 st3 s3 e3 r3 h3=>?_;cases k with
 |pv _=>exact h3.elim
 |ref k=>
  obtain⟨a,ea,rfl⟩:=st3.repA r2;have rv:=st3.repA (st2.repA r1);have h3:dI X.K cl q3 H3 (cC.of (fS (.ref k) S3 λk=>nN k i v S3) λ_ S4=>.nx ρ S4) D E:=h3;rcases vT k S3 (λk=>nN k i v S3)with z0 |⟨z0,_,_⟩
  .rw[z0]at h3
   exact h3.elim
  rw[z0]at h3;unfold nN at h3;split at h3
  .rename_i ii vv _
   have ez:z=.int ii:=(show dR X.K q3 H3 (.int ii) z from .inl r3).int;subst ez;cases w:S3[k]? with
   |none=>rw[w]at h3;exact h3.elim
   |some o=>
    cases o with
    |lol _=>simp only[w]at h3;exact h3.elim
    |dic _ _=>simp only[w]at h3;exact h3.elim
    |dol _ _=>simp only[w]at h3;exact h3.elim
    |lst zs=>
     simp only[w]at h3;obtain⟨vs,hh,ll,rr⟩:=s3.obj k a _ ea w;cases y:bD zs.length ii with
     |none=>simp only[y]at h3;exact h3.elim
     |some j=>
      simp only[y]at h3;refine⟨a,vs,ii,j,rfl,rfl,hh,by rw[<-rr.length];exact y,?_⟩;obtain⟨st4,sm4⟩:=s3.write ea (ck.mp w).1 (ps:=zs.set j vv) (vs:=vs.set j x) (by rw[gh];exact ll) (aJ.set rv j rr);exact h3 _ _ _ st4 sm4 (st4.repE e3)
  .exact h3.elim
def fK:AI->AI->AI
 |x::xs,y::ys=>.tup [x,y]::fK xs ys
 |_,_=>[]
theorem vV:∀(xs ys:AI),(fK xs ys).length=min xs.length ys.length
 |[],ys=>by cases ys<;>simp[fK]
 |x::xs,[]=>by simp[fK]
 |x::xs,y::ys=>by
  unfold fK;rw[cg,vV xs ys,cg,cg];omega
theorem Je:∀{xs ys:AI}{i:Nat}{v:PV},(fK xs ys)[i]?=some v->∃x y,xs[i]?=some x/\ys[i]?=some y/\v=.tup [x,y]
 |[],ys,i,v,e=>by cases ys<;>simp[fK]at e
 |x::xs,[],i,v,e=>by simp[fK]at e
 |x::xs,y::ys,0,v,e=>by
  unfold fK at e;simp at e;exact⟨x,y,rfl,rfl,e.symm⟩
 |x::xs,y::ys,i+1,v,e=>by
  unfold fK at e;obtain⟨a,b,h1,h2,h3⟩:=Je (xs:=xs) (ys:=ys) (i:=i) (v:=v) (by simpa using e);exact⟨a,b,by simpa using h1,by simpa using h2,h3⟩
def pT:AL->aH->bQ (AI×Gd)
 |[a,b],S=>match cQ a S with
  |.ok xs _=>match cQ b S with
   |.ok ys _=>.ok (fK xs.1 ys.1,xs.2++ys.2) S
   |_=>.fail
  |_=>.fail
 |_,_=>.fail
def kW(ms:MA):MI:=λρ S=>(ms ρ S).bind pT
theorem Ad{a:AV}{x:V}{xs:AI×Gd}{S':aH}(s:aQ K p S H)(r:bU K p H a x)(e:cQ a S=.ok xs S'):∃f ad vs,x=.ref ad/\gM f K H ad vs/\xs.1.length<=sizeLine/\∀q H1 S1,bJ p H q H1->aQ K q S1 H1->fZ xs.2 S1->∃vs,gM f K H1 ad vs/\aJ K q.c H1 xs.1 vs:=by
 cases a with
 |ref j=>
  obtain⟨a,e1,rfl⟩:=r;unfold cQ at e;dsimp only at e;cases z:S[j]? with
  |none=>rw[z]at e;cases e
  |some o=>
   cases o with
   |lol _=>rw[z]at e;cases e
   |dic _ _=>rw[z]at e;cases e
   |dol _ _=>rw[z]at e;cases e
   |lst ys=>
    rw[z]at e;cases e;obtain⟨vs,h1,l1,r1⟩:=s.obj j a _ e1 z;refine⟨false,a,vs,rfl,bS.of h1,by rw[r1.length];exact l1,λq H1 S1 st sm g=>?_⟩;obtain⟨ws,h2,l2,r2⟩:=sm.obj j a _ (st.at_ e1) (g (j,ys) bi);exact⟨ws,bS.of h2,r2⟩
 |pv v=>
  cases v with
  |lst ys=>
   cases e;have r:aK K p.c H (.lst ys) x:=r;unfold aK at r;obtain⟨a,vs,rfl,l,z,r⟩:=r;exact⟨false,a,vs,rfl,l.sq,by rw[r.length];exact z,λq H1 S1 st sm g=>⟨vs,(st.lat l).sq,st.reps r⟩⟩
  |tup ys=>
   cases e;have r:aK K p.c H (.tup ys) x:=r;unfold aK at r;obtain⟨a,vs,rfl,l,z,r⟩:=r;exact⟨true,a,vs,rfl,l,by rw[r.length];exact z,λq H1 S1 st sm g=>⟨vs,st.tup l,st.reps r⟩⟩
  |_=>cases e
theorem Uv{elts:List af}{x1:Nat}{tp p:ag}(hg:Gl X "zip")(hm:X.mg "zip"=none)(hl:dJ K cl E X [a,b] ms)(hs:starEach [a,b] X.env=[(false,eval a X.env),(false,eval b X.env)]:=by rfl)(hs2:starEach [b] X.env=[(false,eval b X.env)]:=by rfl):
  hV K cl E X (.Tuple elts x1 tp) (.Call (.Name "zip" p) [a,b] [] pos) (kW ms):=by
 intro hK;subst hK;refine PI.imp (Vy hg hm (hl rfl) hs hs2) ?_
 rintro σ H R ⟨p,S,ρ,s,ev,h⟩
 refine bT s ev h λq H' as xs S' stp sm ev r k=>?_;unfold pT at k;split at k
 .rename_i u v
  cases r with
  |cons r1 r2=>
   cases r2 with
   |cons r2 r3=>
    cases r3;split at k
    .rename_i xs1 S1 hx
     split at k
     .rename_i ys1 S2 hy
      obtain⟨f1,a1,vs1,rfl,q1,z1,st1⟩:=Ad sm r1 hx;obtain⟨f2,a2,vs2,rfl,q2,z2,st2⟩:=Ad sm r2 hy;refine⟨f1,a1,f2,a2,vs1,vs2,rfl,q1,q2,bR.ret (R:=dZ X.K) k sm ?_⟩;refine⟨by rw[vV];omega,λq3 H3 S3 st3 sm3 g3=>?_⟩;obtain⟨ws1,w1,rr1⟩:=st1 q3 H3 S3 st3 sm3 λg hg=>g3 g (jc _ hg);obtain⟨ws2,w2,rr2⟩:=st2 q3 H3 S3 st3 sm3 λg hg=>g3 g (cy _ hg);refine⟨λi v e=>?_,?_⟩
      .obtain⟨x,y,ex,ey,rfl⟩:=Je e
       obtain⟨x',ex',rx⟩:=rr1.get ex;obtain⟨y',ey',ry⟩:=rr2.get ey;refine⟨⟨ws1,ws2,x',y',w1,w2,ex',ey'⟩,λz H4 hz=>?_⟩;obtain⟨t,x2,y2,ht,rfl,rfl,g1,g2⟩:=hz;have e1:=(g1 ws1 w1).symm.trans ex';have e2:=(g2 ws2 w2).symm.trans ey';cases e1;cases e2;refine⟨dY ht,kJ sm3 (.cons rx (.cons ry .nil)) (by show 2<=sizeLine;decide) ht⟩
      .refine⟨ws1,ws2,w1,w2,?_⟩
       show(fK xs1.1 ys1.1).length=_\/_;rw[vV,rr1.length,rr2.length];omega
     .exact k.elim
    .exact k.elim
 .exact k.elim
def gH:Nat->AI->AI
 |_,[]=>[]
 |n,x::xs=>.tup [.int n,x]::gH (n+1) xs
theorem uZ:∀(n:Nat)(xs:AI),(gH n xs).length=xs.length
 |_,[]=>rfl
 |n,x::xs=>by
  unfold gH;rw[cg,uZ (n+1) xs,cg]
theorem Fc:∀{n:Nat}{xs:AI}{i:Nat}{v:PV},(gH n xs)[i]?=some v->∃x,xs[i]?=some x/\v=.tup [.int ((n+i:Nat):Int),x]
 |n,[],i,v,e=>by simp[gH]at e
 |n,x::xs,0,v,e=>by
  unfold gH at e;simp at e;exact⟨x,rfl,e.symm⟩
 |n,x::xs,i+1,v,e=>by
  unfold gH at e;obtain⟨y,h1,h2⟩:=Fc (n:=n+1) (xs:=xs) (i:=i) (v:=v) (by simpa using e);refine⟨y,by simpa using h1,?_⟩;rw[h2,show n+1+i=n+(i+1) by omega]
def wY:AL->aH->bQ (AI×Gd)
 |[.pv (.lst xs)],S=>.ok (gH 0 xs,[]) S
 |[.ref k],S=>match cQ (.ref k) S with
  |.ok xs _=>.ok (gH 0 xs.1,xs.2) S
  |_=>.fail
 |_,_=>.fail
def sJ(ms:MA):MI:=λρ S=>(ms ρ S).bind wY
theorem Vg{xs:AI}{G:Gd}{a:Addr}(z:xs.length<=sizeLine)(st1:∀q H1 S1,bJ p H q H1->aQ K q S1 H1->fZ G S1->∃vs,bS K H1 a vs/\aJ K q.c H1 xs vs):dZ K p H (gH 0 xs,G) (yZ K a):=by
 refine⟨by rw[uZ];exact z,λq3 H3 S3 st3 sm3 g3=>?_⟩;obtain⟨ws1,w1,rr1⟩:=st1 q3 H3 S3 st3 sm3 g3;refine⟨λi v e=>?_,?_⟩
 .obtain⟨x,ex,rfl⟩:=Fc e
  obtain⟨x',ex',rx⟩:=rr1.get ex;refine⟨⟨ws1,x',w1,ex'⟩,λz H4 hz=>?_⟩;obtain⟨t,y2,ht,rfl,rfl,g1⟩:=hz;have e1:=(g1 ws1 w1).symm.trans ex';cases e1;refine⟨dY ht,kJ sm3 (.cons ?_ (.cons rx .nil)) (by show 2<=sizeLine;decide) ht⟩;rw[qv];exact iF (v:=.int _) rfl
 .refine⟨ws1,w1,?_⟩
  show _<=(gH 0 xs).length;rw[uZ,rr1.length];exact ak _
theorem Jq{elts:List af}{x1:Nat}{tp p:ag}(hg:Gl X "enumerate")(hm:X.mg "enumerate"=none)(hl:dJ K cl E X [l] ms)(hs:starEach [l] X.env=[(false,eval l X.env)]:=by rfl):
  hV K cl E X (.Tuple elts x1 tp) (.Call (.Name "enumerate" p) [l] [] pos) (sJ ms):=by
 intro hK;subst hK;refine PI.imp (Ew hg hm (hl rfl) hs) ?_
 rintro σ H R ⟨p,S,ρ,s,ev,h⟩
 refine bT s ev h λq H' as xs S' stp sm ev r k=>?_;unfold wY at k;split at k
 .rename_i ys
  cases r with
  |cons r1 r2=>
   cases r2;rename_i x;have r1:aK X.K q.c H' (.lst ys) x:=r1;unfold aK at r1;obtain⟨a,vs,rfl,l,z,r⟩:=r1;exact⟨a,rfl,⟨vs,l.sq⟩,bR.ret (R:=dZ X.K) k sm (Vg (by rw[r.length];exact z) λq H1 S1 st sm g=>⟨vs,(st.lat l).sq,st.reps r⟩)⟩
 .rename_i j
  cases r with
  |cons r1 r2=>
   cases r2;split at k
   .rename_i xs1 S1 hx
    obtain⟨a,e1,rfl⟩:=r1;cases z:S'[j]? with
    |none=>unfold cQ at hx;simp only[z]at hx;cases hx
    |some o=>
     cases o with
     |lol _=>unfold cQ at hx;simp only[z]at hx;cases hx
     |dic _ _=>unfold cQ at hx;simp only[z]at hx;cases hx
     |dol _ _=>unfold cQ at hx;simp only[z]at hx;cases hx
     |lst ys=>
      unfold cQ at hx;simp only[z]at hx;cases hx;obtain⟨vs,h1,l1,r1⟩:=sm.obj j a _ e1 z;refine⟨a,rfl,⟨vs,bS.of h1⟩,bR.ret (R:=dZ X.K) k sm (Vg (by rw[r1.length];exact l1) λq H1 S1 st sm g=>?_)⟩;obtain⟨ws,h2,l2,r2⟩:=sm.obj j a _ (st.at_ e1) (g (j,ys) bi);exact⟨ws,bS.of h2,r2⟩
   .exact k.elim
 .exact k.elim
end
theorem qM{A:ai}{k:Nat}(hr:bW k A):A.units+8<cLine:=by
 have:=hr.units;omega
section
variable{K:ae}{cl:Str->Addr}{E:XK}{X:Cx}{a b c e l tg:af}{es:List af}{m ma mb:ME}{ms:MA}{pos:ag}{p q:Ph}{H H':Hp}{S:aH}
def eV(n:String):PV->AJ
 |.int _=>if n="int" then some (.bl true)else if n="bool" then some (.bl false)else none
 |.tup _=>if n="tuple" then some (.bl true)else none
 |.lst _=>if n="list" then some (.bl true)else none
 |.str _=>if n="str" then some (.bl true)else none
 |.bl _=>if n="bool" then some (.bl true)else none
 |_=>none
theorem oP(K:ae)(n:String):bo K (.type n) (.type n)=some true:=by
 unfold bo;rw[if_pos (beq_self_eq_true _)]
def Fk(K:ae)(n:String):V->Hp->VK->Prop:=λx H Q=>(∃t b,gY K H x t/\bo K t (.type n)=some b/\Q (.bl b) H)\/(n="tuple"/\∃a xs,x=.ref a/\bZ K H a xs/\Q (.bl true) H)\/(n="list"/\∃a xs,x=.ref a/\bS K H a xs/\Q (.bl true) H)
theorem Dp(n:String):fH X (.builtin "isinstance") (λxs H Q=>∃x,xs=[x,.ty n]/\Fk X.K n x H Q):=by
 intro AM s σ H xs us Q I r h;obtain⟨x,rfl,h⟩:=h;obtain⟨u,c,rfl,rx,rc⟩:=pY r;cases(show c=Value.type n from rc);rcases h with⟨t,b,ty,e,q⟩|⟨rfl,a,xs,rfl,t,q⟩|⟨rfl,a,xs,rfl,t,q⟩
 .exact Rn I rx ty e λtk=>⟨.bl b,H,I.tok tk,rfl,q⟩
 .cases rx
  obtain⟨its,_,⟨o,h1,h2,_⟩,_⟩:=I.tuple t;exact df wu I.kIn ⟨o,h1,h2⟩ (oP X.K "tuple") (λz=>nomatch z) λtk=>⟨.bl true,H,I.tok tk,rfl,q⟩
 .cases rx
  obtain⟨its,_,pl,_⟩:=I.list t;obtain⟨o,h1,h2,_⟩:=pl.isList;exact df sw I.kIn ⟨o,h1,h2⟩ (oP X.K "list") (λz=>nomatch z) λtk=>⟨.bl true,H,I.tok tk,rfl,q⟩
theorem Vz(n:String):nX K (Fk K n) (eV n):=λ{p S H a c x Q} s ra e k=>by
 have fin:∀b,c=.bl b->Q (.bl b) H:=λb h=>by
  subst h;exact k H _ (cE.refl H) (by unfold aK;rfl)
 cases a with
 |int i=>
  cases ra.int;unfold eV at e;dsimp only at e;split at e
  .rename_i hn
   cases e;subst hn;exact .inl ⟨_,true,.int i,oP K _,fin _ rfl⟩
  .split at e
   .rename_i hn
    cases e;subst hn;exact .inl ⟨_,false,.int i,Ny K,fin _ rfl⟩
   .cases e
 |bl i=>
  cases ra.bl;unfold eV at e;dsimp only at e;split at e
  .rename_i hn
   cases e;subst hn;exact .inl ⟨_,true,.bl i,oP K _,fin _ rfl⟩
  .cases e
 |str i=>
  cases ra.str;unfold eV at e;dsimp only at e;split at e
  .rename_i hn
   cases e;subst hn;exact .inl ⟨_,true,.str i,oP K _,fin _ rfl⟩
  .cases e
 |tup xs=>
  obtain⟨a,vs,rfl,t,_,_⟩:=ra.tup;unfold eV at e;dsimp only at e;split at e
  .rename_i hn
   cases e;exact .inr (.inl ⟨hn,a,vs,rfl,t,fin _ rfl⟩)
  .cases e
 |lst xs=>
  obtain⟨a,vs,rfl,t,_,_⟩:=ra.lst;unfold eV at e;dsimp only at e;split at e
  .rename_i hn
   cases e;exact .inr (.inr ⟨hn,a,vs,rfl,t,fin _ rfl⟩)
  .cases e
 |non=>cases e
 |obj C ns fs=>cases e
theorem xL{n:String}{t:Str}{p p2:ag}(hg:Gl X "isinstance")(hm:X.mg "isinstance"=none)(hgt:Gl X t)(hmt:X.mg t=none)(hv:bootBuiltins t=some (.type n))(ha:aO K cl E X a m)
  (htn:t≠"__name__":=by decide)(htd:(t==("__debug__":Str))=false:=by decide)
  (he:starEach [a,.Name t p2] X.env=(false,eval a X.env)::starEach [.Name t p2] X.env:=by rfl)(he2:starEach [.Name t p2] X.env=[(false,eval (.Name t p2) X.env)]:=by rfl)(hpl:(backTo pos (starEach [.Name t p2] X.env)).any (·.1)=false:=by rfl):
  aO K cl E X (.Call (.Name "isinstance" p) [a,.Name t p2] [] pos) (bF (eV n) m):=by
 intro hK;subst hK;refine PE.imp (lJ (Dp n) hg hm la (eR (ha rfl) (eR (wE hgt hmt hv (v:=.ty n) rfl htn htd) jA he2) he) (by decide) (by decide) he hpl) ?_
 rintro σ H Q ⟨p,S,ρ,s,ev,h⟩
 exact bT s ev h λq H' as x S' stp sm ev r k=>⟨x,rfl,mL (Vz n) sm r k⟩
def sR(K:ae):Sp:=λvs H Q _=>∃(a:Addr)(ns:AA),vs=[.ref a]/\bS K H a (ns.map V.int)/\ns.length<=63/\∀H',Q (.bl true) H'
theorem Qt{f:FM}(ht:∀ns:AA,ns.length<=63->∃S,f [.pv (.lst (ns.map .int))] []=.ok (.pv (.bl true)) S){vs:List V}{H:Hp}{Q:VK}{E:XK}(h:sR K vs H Q E):jV K cl f vs H Q E:=by
 obtain⟨a,ns,rfl,hS,hl,hQ⟩:=h;obtain⟨S,e⟩:=ht ns hl;have rs:∀(ns:AA),aJ K (λ_=>False) H (ns.map .int) (ns.map V.int):=λns=>by
  induction ns with
  |nil=>exact .nil
  |cons n ns ih=>exact .cons (by unfold aK;rfl) ih
 refine⟨⟨[],λ_=>False,λ_=>False⟩,[],[.pv (.lst (ns.map .int))],⟨List.nodup_nil,rfl,(λ_ h=>absurd h (jn)),(λ_ h=>h),(λ_ h=>h.elim),(λk a o e=>by simp at e)⟩,.cons ?_ .nil,?_⟩
 .show aK K (λ_=>False) H (.lst (ns.map .int)) (.ref a)
  unfold aK;refine⟨a,_,rfl,?_,?_,rs ns⟩
  .rcases hS with(h |h) |h
   .exact .inl ⟨h,λz=>z⟩
   .exact .inr (.inl h)
   .exact .inr (.inr h)
  .rw[az,gO]
   omega
 .rw[e]
  intro q H' x st sm r;have r:aK K q.c H' (.bl true) x:=r;unfold aK at r;rw[r];exact hQ H'
end
section
variable{K:ae}{cl:Str->Addr}{E:XK}{X:Cx}{e:af}{es:List af}{ms:MA}{p q:Ph}{H H':Hp}{S:aH}
theorem bY.forget{ρ:bL}{σ:St}(h:bY K p H ρ σ)(i:Nat)(x:Option V):bY K p H (ρ.set i none) (σ.set i x):=by
 refine⟨by rw[gh,gh,h.len],λj u e=>?_⟩
 by_cases q:i=j
 .subst q
  by_cases l:i<ρ.length
  .rw[fx l]at e
   cases e
  .rw[zf (by rw[gh];omega)]at e
   cases e
 .rw[ib q]at e⊢
  exact h.at_ j u e
theorem bY.setB{ρ:bL}{σ:St}(h:bY K p H ρ σ)(i:Nat)(b:Bool):bY K p H (ρ.set i (some (.pv (.bl b)))) (σ.set i (some (.bl b))):=h.set (v:=.pv (.bl b)) (x:=.bl b) (by show aK K p.c H _ _;unfold aK;rfl) i
variable{k:Nat}{f:Addr}{fd:ay}{ps:List Str}{g:FM}{dvs:List V}{ds:AE}{dv:AI}{x:Str}{pp pos pos1 pos2 pos3 pc:ag}{c n:Str}{i nn:Nat}{AS:Stmt}{body:List Stmt}{newId:String}{up:bL->bL}
end
end L2.Pp
namespace L2
open PySem PySem.Spec PyProof.Rows Bn
section
variable{X:Cx}{k:Nat}{f:Addr}{fd:ay}{ps:List Str}{sp:Sp}{dvs:List V}{ds:AE}{x:Str}{p pos pos1 pos2 pos3 pc:ag}{e:af}{es:List af}{t:TA}{c n:Str}{C:Addr}{i:Nat}{AS:Stmt}{body:List Stmt}{newId:String}
end
end L2
namespace L2.Pp
open PySem PySem.Spec PyProof.Rows Bn
section
variable{K:ae}{cl:Str->Addr}{E:XK}{X:Cx}{e:af}{es:List af}{ms:MA}{p q:Ph}{H H':Hp}{S:aH}
variable{k:Nat}{f:Addr}{fd:ay}{ps:List Str}{g:FM}{dvs:List V}{ds:AE}{dv:AI}{x:Str}{pp pos pos1 pos2 pos3 pc:ag}{c n:Str}{i nn:Nat}{AS:Stmt}{body:List Stmt}{newId:String}{up:bL->bL}
end
section
variable{prog:Program}{w:ah}{A:ai}{E:Value->Shared->Prop}{s:Shared}
end
end L2.Pp
namespace L2
open PySem PyProof.Rows
end L2
namespace L2.Pp
open PySem
end L2.Pp
namespace L2
open PySem PySem.Spec PyProof.Rows Bn
section
variable{X:Cx}
theorem zV(is:AA):∀j,j<=is.length->preSum (λi=>is.getD i 0) j=(is.take j).sum
 |0,_=>by simp[preSum]
 |j+1,h=>by
  have hj:j<is.length:=h;rw[preSum,zV is j (by omega),List.take_add_one,ax hj,Option.toList_some,List.sum_append,List.sum_singleton];simp only[ba,ax hj,Option.getD_some]
theorem Go(hc:X.calm=true):fH X (.builtin "sum") (λxs H Q=>∃(a:Addr)(is:AA),xs=[.ref a]/\bS X.K H a (is.map V.int)/\Q (.int is.sum) H):=by
 intro AM s σ H xs us Q I r h;obtain⟨a,is,rfl,hq,q⟩:=h;obtain⟨u,rfl,ru⟩:=jR r;cases ru;obtain⟨its,rv,pl,hz⟩:=I.list hq;have hl:is.length=its.length:=by
  have:=rv.length
  rwa[az]at this
 refine call_sum_walkG (oy pl.isList ?_);have ha:a<s.heap.objs.size:=by
  obtain⟨o,ho,_⟩:=pl.isList;exact ao ho
 refine⟨_,_,_,_,_,_,λi=>is.getD i 0,rfl,Walks.list (prog:=X.prog) (w:=X.w) (A:=X.A.in1) (show X.A.in1.handled=none from I.ok.hd hc) s.heap.objs.size a (cf ha) its.toArray,⟨⟨_,cm _ rfl,rfl,rfl⟩,Heap.IsList.at pl.isList λo e=>al _ e⟩,λb hb=>?_,λi v hv=>?_,λh' tk t' kp=>?_⟩
 .have hb':b=s.heap.objs.size\/b=a:=by simpa using hb
  rw[jm];rcases hb' with e |e<;>rw[e]
  .exact zg _
  .exact Nat.lt_succ_of_lt ha
 .have hv':its[i]?=some v:=by simpa using hv
  have hi:i<is.length:=by
   have:=(ck.mp hv').1;omega
  obtain⟨u,hu,ru⟩:=rv.get (i:=i) (x:=.int is[i]) (by rw[dz,ax hi];rfl);rw[hv']at hu;cases hu;obtain⟨t,ht⟩:=(show ∃t,v=ju is[i] t from ru);exact⟨t,by rw[ht];simp[ba,hi]⟩
 .have e:preSum (λi=>is.getD i 0) its.toArray.size=is.sum:=by
   rw[am,<-hl,zV is _ (ak _),zt]
  show EP X AM σ Q (.int (preSum (λi=>is.getD i 0) its.toArray.size) t') _;rw[e];have I1:aD X AM σ H {s with heap:=s.heap.push {cls:=.type "list_iterator",data:=.fields #[.ref a,.int 0 0]},toks:=s.toks}:=I.kept λb o z=>al _ z;have fp:eF X AM H s.heap.objs.size:=I.fpOk (ak _) (I.hok.fresh (ak _));obtain⟨f0,f1,f2,f3,f4,f5⟩:=fp;exact⟨.int is.sum,H,I1.turned (λb o hb z=>kp b o (by simpa using hb) z) f0 f1 f3 f4 f5,⟨t',rfl⟩,q⟩
end
end L2
namespace L2.Pp
open PySem PySem.Spec PyProof.Rows Bn
section
variable{K:ae}{cl:Str->Addr}{E:XK}{X:Cx}
def gB:AI->Option AA
 |[]=>some []
 |.int b::r=>match gB r with
  |some bs=>some (b::bs)
  |none=>none
 |_::_=>none
theorem uY{c:Addr->Prop}{H:Hp}:∀{xs:AI}{bs:AA}{vs:List V},gB xs=some bs->aJ K c H xs vs->vs=bs.map V.int
 |[],bs,vs,e,r=>by
  cases e;unfold aJ at r;exact r
 |.int b::xs,bs,vs,e,r=>by
  unfold gB at e;split at e
  .rename_i cs h
   cases e;unfold aJ at r;obtain⟨v,w,rfl,r1,r2⟩:=r;unfold aK at r1;rw[r1,uY h r2];rfl
  .cases e
 |.non::_,_,_,e,_=>by cases e
 |.bl _::_,_,_,e,_=>by cases e
 |.str _::_,_,_,e,_=>by cases e
 |.tup _::_,_,_,e,_=>by cases e
 |.lst _::_,_,_,e,_=>by cases e
def lV:AI->AJ
 |[.lst xs]=>(gB xs).map λbs=>.int bs.sum
 |_=>none
theorem B1:iS K (λxs H Q=>∃(a:Addr)(is:AA),xs=[.ref a]/\bS K H a (is.map V.int)/\Q (.int is.sum) H) lV:=λ{p S H as c xs Q} s ra e k=>by
 unfold lV at e;split at e
 .rename_i zs
  cases y:gB zs with
  |none=>rw[y]at e;cases e
  |some bs=>
   rw[y]at e;cases e;cases ra with
   |cons h t=>
    cases t;obtain⟨a,vs,rfl,l,z,r⟩:=h.lst;rw[uY y r]at l;exact⟨a,bs,rfl,l,k H _ (cE.refl H) (iF (v:=.int _) rfl)⟩
 .cases e
end
section
variable{K:ae}{cl:Str->Addr}{E:XK}{X:Cx}{p q:Ph}{H H':Hp}{S:aH}
variable{sc:Scope}{own:List Str}{cap:List (Nat×Str)}{elt target iter:af}{pos:ag}{mi:MI}{g:GM}{me:ME}
end
section
variable{K:ae}{cl:Str->Addr}{E:XK}{X:Cx}{e:af}{m:ME}{pos p2:ag}
end
section
variable{K:ae}{cl:Str->Addr}{E:XK}{X:Cx}
end
end L2.Pp
namespace L2
open PySem PySem.Spec PyProof.Rows Bn
open PySem.W (KasT kas_sort kas_ask KatLex KatGo KatTups kat_run kat_kind kat_lt kat_one kas_item kat_snds)
def jU{α:Type}(lt:Nat->Nat->Bool):ik α->α
 |.ret a=>a
 |.ask i j k=>jU lt (k (lt i j))
def fR{α:Type}(n:Nat):ik α->Bool
 |.ret _=>true
 |.ask i j k=>decide (i<n)&&decide (j<n)&&fR n (k true)&&fR n (k false)
theorem Od{α:Type}{cmp:Nat->Nat->(Bool->Shared->Prop)->Shared->Prop}{lt:Nat->Nat->Bool}{n:Nat}{s:Shared}(hc:∀i j(C:Bool->Shared->Prop),i<n->j<n->C (lt i j) s->cmp i j C s):∀(t:ik α)(Q:α->Shared->Prop),fR n t=true->Q (jU lt t) s->t.kasWp cmp Q s
 |.ret a,Q,_,h=>h
 |.ask i j k,Q,ok,h=>by
  unfold fR at ok;simp only[dm,decide_eq_true_eq]at ok;obtain⟨⟨⟨hi,hj⟩,h1⟩,h2⟩:=ok;refine hc i j _ hi hj (Od hc (k (lt i j)) Q ?_ h);cases lt i j
  .exact h2
  .exact h1
def nM(h:Heap)(v:Value)(us:AA):Prop:=∃a o its n,v=.ref a/\h.get? a=some o/\o.cls=.type "tuple"/\o.data=.seq (db its) n/\bA (us.map V.int) its
section
variable{prog:Program}{w:ah}{A:ai}{E:Value->Shared->Prop}{s:Shared}
theorem Hf{Q:Bool->Shared->Prop}:∀(us vs:AA)(its jts:AE)(i:Nat)(fin:Bool),bA (us.map V.int) its->bA (vs.map V.int) jts->fin=decide (us.length<vs.length)->Q (HT.lexLt us vs) s->KatLex prog w A true fin Q (its.zip jts) i s
 |[],vs,its,jts,i,fin,h1,h2,hf,hQ=>by
  cases h1;cases vs with
  |nil=>
   subst hf;exact lc hQ
  |cons v vs=>
   have e:fin=true:=by rw[hf];simp
   subst e;exact lc hQ
 |u::us,[],its,jts,i,fin,h1,h2,hf,hQ=>by
  cases h2;have e:fin=false:=by rw[hf];simp
  subst e;rw[tq];exact lc hQ
 |u::us,v::vs,its,jts,i,fin,h1,h2,hf,hQ=>by
  cases h1 with
  |cons r1 t1=>
   cases h2 with
   |cons r2 t2=>
    obtain⟨k1,rfl⟩:=r1;obtain⟨k2,rfl⟩:=r2;rw[lu];refine zu (wpAny_eqBool_int ?_);rw[HT.lexLt_cons]at hQ
    by_cases e:u=v
    .rw[if_pos e]at hQ
     have b:(u==v)=true:=by simpa using e
     rw[b];exact zv (Hf us vs _ _ (i+1) fin t1 t2 (by rw[hf];simp) hQ)
    .rw[if_neg e]at hQ
     have b:(u==v)=false:=by simpa using e
     rw[b];refine zw ?_
     by_cases hi:i=0
     .subst hi
      exact oneLt_int hQ
     .have b2:(true&&i==0)=false:=by simpa using hi
      rw[b2];exact kat_one _ _ (PySem.P.lt_int hQ)
theorem Py{x y:Value}{us vs:AA}{Q:Bool->Shared->Prop}(hx:nM s.heap x us)(hy:nM s.heap y vs)(h:Q (HT.lexLt us vs) s):wpAny (model prog w) A (keyLt' (tuples' true) x y) Q E s:=by
 obtain⟨a,o,its,n,rfl,ho,hc,hd,r⟩:=hx;obtain⟨b,o2,jts,k,rfl,dL,hc2,hd2,r2⟩:=hy;refine kat_lt ho hd dL hd2 ?_;have l1:=r.length;have l2:=r2.length;rw[az]at l1 l2;refine Hf us vs its jts 0 _ r r2 ?_ h;rw[am,am,l1,l2]
theorem Ja:∀(vs:AE)(uss:AC),vs.length=uss.length->(∀i,i<vs.length->nM s.heap (vs.getD i au) (uss.getD i [])/\uss.getD i []≠[])->∃fs,KatTups s.heap vs fs/\fs.length=vs.length/\∀v∈fs,∃i t,v=.int i t
 |[],uss,_,_=>⟨[],trivial,rfl,λ_ h=>absurd h jn⟩
 |v::vs,[],hl,_=>by cases hl
 |v::vs,us::uss,hl,h=>by
  obtain⟨fs,k,l,q⟩:=Ja vs uss (by simpa using hl) λi hi=>by
   have:=h (i+1) (by simp;omega);simpa using this
  obtain⟨⟨a,o,its,n,e,ho,hc,hd,r⟩,ne⟩:=h 0 (by simp);have e:v=.ref a:=e;subst e;cases us with
  |nil=>exact absurd rfl ne
  |cons u us=>
   have r:bA (V.int u::us.map V.int) its:=r;cases r with
   |cons r1 t1=>
    obtain⟨t,rfl⟩:=r1;refine⟨.int u t::fs,zx ho hc hd (by simp) k,by simp[l],λx hx=>?_⟩;rcases bh.mp hx with rfl |hx
    .exact⟨u,t,rfl⟩
    .exact q x hx
def cH(uss:AC):List Nat:=(jU (λi j=>HT.lexLt (uss.getD i []) (uss.getD j [])) (fg uss.length)).toList
theorem Ol{a:Addr}{vs:AE}{uss:AC}{n:Nat}{P:uz->Shared->Prop}(ho:s.heap.get? a=some (seqObj "list" vs.toArray n))(hl:vs.length=uss.length)(h2:2<=vs.length)(h64:vs.length<64)(ok:fR uss.length (fg uss.length)=true)
  (tu:∀i,i<vs.length->nM s.heap (vs.getD i au) (uss.getD i [])/\uss.getD i []≠[])
  (h:P (.done (.ret .none)) {s with heap:=sortedHeap s.heap a vs (db ((cH uss).map λi=>vs.getD i au))}):
  wpAny (model prog w) A (Builtin.«list.sort» ⟨[.ref a],[]⟩) P E s:=by
 have ha:a<s.heap.objs.size:=ao ho;obtain⟨e1,aF⟩:∃e1,(s.heap.update a (cr λ_=>(#[]:Array Value))).get? a=some (seqObj "list" #[] e1):=⟨_,lg ho λ_=>#[]⟩;have kp:∀b o,b≠a->s.heap.get? b=some o->(((s.heap.update a (cr λ_=>(#[]:Array Value))).push (seqObj "tuple" vs.toArray 0)).push (seqObj "list" #[] 0)).get? b=some o:=λb o hb e=>
  al _ (al _ ((ix _ _ _ _ hb).trans e))
 have tu2:∀i,i<vs.length->nM (((s.heap.update a (cr λ_=>(#[]:Array Value))).push (seqObj "tuple" vs.toArray 0)).push (seqObj "list" #[] 0)) (vs.getD i au) (uss.getD i [])/\uss.getD i []≠[]:=λi hi=>by
  obtain⟨⟨b,o,its,m,e,hb,hc,hd,r⟩,ne⟩:=tu i hi;refine⟨⟨b,o,its,m,e,kp b o (λz=>?_) hb,hc,hd,r⟩,ne⟩;subst z;rw[ho]at hb;cases hb;have hc:Value.type "list"=Value.type "tuple":=hc;injection hc with hc;exact absurd hc (by decide)
 have na:(((s.heap.update a (cr λ_=>(#[]:Array Value))).push (seqObj "tuple" vs.toArray 0)).push (seqObj "list" #[] 0)).get? a=some (seqObj "list" #[] e1):=al _ (al _ aF);rw[list_sort_plain];refine aa (listItems_at ho rfl ?_);refine aa (mj ho rfl ?_ (by rw[am,dk];omega) (dh _));refine aa (mm aF rfl ?_);refine aa (uq ?_ (by show vs.length<=_;rw[dk];omega));refine aa (qo ?_ (dh _));refine dj ?_;show wpAny (model prog w) A _ P E {s with heap:=((s.heap.update a (cr λ_=>(#[]:Array Value))).push (seqObj "tuple" vs.toArray 0)).push (seqObj "list" #[] 0)};dsimp only;have hn2:¬vs.toArray.size<2:=by rw[am];omega
 rw[if_neg hn2,if_neg hn2];obtain⟨fs,kt,lf,qf⟩:=Ja (s:={s with heap:=((s.heap.update a (cr λ_=>(#[]:Array Value))).push (seqObj "tuple" vs.toArray 0)).push (seqObj "list" #[] 0)}) vs uss hl tu2;refine aa (kat_kind (T:=.type "int") kt (by omega) (λv hv=>?_) rfl ?_)
 .obtain⟨i,t,rfl⟩:=qf v hv
  exact .now
 have bt:(Value.type "int" !=Value.type "tuple")=true:=by decide
 rw[bt];refine aa (cn (kat_run (Q:=λst' s'=>∃p:Array Nat,p.size=vs.length/\arrOf st'=p.map (kas_item (vs.toArray.zip vs.toArray))/\failedOf st'=none/\p.toList=cH uss/\s'={s with heap:=((s.heap.update a (cr λ_=>(#[]:Array Value))).push (seqObj "tuple" vs.toArray 0)).push (seqObj "list" #[] 0)})
  (G:=λp s'=>p.toList=cH uss/\s'={s with heap:=((s.heap.update a (cr λ_=>(#[]:Array Value))).push (seqObj "tuple" vs.toArray 0)).push (seqObj "list" #[] 0)})
  rfl h2 h64 (λp' st' s' a1 a2 a3 a4=>⟨p',a1,a2,a3,a4⟩) ?_) ?_ λ_ _ e=>e)
 .rw[hl]
  refine Od (lt:=λi j=>HT.lexLt (uss.getD i []) (uss.getD j [])) (n:=uss.length) (λi j C hi hj hC=>?_) _ _ ok ⟨rfl,rfl⟩;exact Py (tu2 i (by omega)).1 (tu2 j (by omega)).1 hC
 rintro⟨⟨⟩,st'⟩ s' ⟨p,hp,har,hf,hpl,rfl⟩
 dsimp only;have hout:=kat_snds rfl har;have hsz:(db (p.toList.map λi=>vs.getD i au)).size=vs.length:=by rw[am,az,jy,hp]
 rw[hout];refine aa (mm na rfl ?_);refine aa (mj na rfl ?_ (dh _) (di (oi hsz) (by rw[dk];omega)));rw[hf];simp only[bne_self_eq_false,mf,if_false];refine aj ?_;rw[hpl];exact h
theorem Kn{l:Addr}{o:Obj}{T:String}{vs:AE}{uss:AC}{n:Nat}{Q:Value->Shared->Prop}(hT:T="list"\/T="tuple")(ho:s.heap.get? l=some o)(hc:o.cls=.type T)(hd:o.data=.seq vs.toArray n)(hl:vs.length=uss.length)(h2:2<=vs.length)(h64:vs.length<64)(ok:fR uss.length (fg uss.length)=true)
  (tu:∀i,i<vs.length->nM s.heap (vs.getD i au) (uss.getD i [])/\uss.getD i []≠[])
  (h:∀(h1 h':Heap)(c:Nat),(∀b o',s.heap.get? b=some o'->h1.get? b=some o')->(∀b o',h1.get? b=some o'->h'.get? b=some o')->h'.get? h1.objs.size=some (seqObj "list" (db ((cH uss).map λi=>vs.getD i au)) c)->Q (.ref h1.objs.size) {s with heap:=h'}):
  wpAny (model prog w) A (call (.builtin "sorted") [.ref l]) Q E s:=by
 refine zy kind_sorted plain_sorted entry_sorted (args_sorted1 _) ?_;unfold zz;refine aa (m:=checkCount "sorted" 1 1 _) (aj ?_);refine aa (vn l hT ho hc hd (λh1 k1=>?_) (by rw[am,dk];omega));refine aa (qo ?_ (by rw[dk];simp;omega));have hoL:(h1.push (seqObj "list" vs.toArray 0)).get? h1.objs.size=some (seqObj "list" vs.toArray 0):=cm _ rfl;show wpAny _ _ _ _ _ {s with heap:=h1.push (seqObj "list" vs.toArray 0)};refine aa (dj (jk slot_list_sort ⟨_,hoL,rfl⟩ entry_list_sort ?body (args_list_sort _)))
 case body=>
  refine Ol (s:={s with heap:=h1.push (seqObj "list" vs.toArray 0)}) hoL hl h2 h64 ok (λi hi=>?_) ⟨_,rfl,aj ⟨_,rfl,?_⟩⟩
  .obtain⟨⟨b,o,its,m,e,hb,hc,hd,r⟩,ne⟩:=tu i hi
   exact⟨⟨b,o,its,m,e,al _ (k1 b o hb),hc,hd,r⟩,ne⟩
  .obtain⟨e1,aF⟩:∃e1,((h1.push (seqObj "list" vs.toArray 0)).update h1.objs.size (cr λ_=>(#[]:Array Value))).get? h1.objs.size=some (seqObj "list" #[] e1):=⟨_,lg hoL λ_=>#[]⟩
   have dL:=al (seqObj "list" #[] 0) (al (seqObj "tuple" vs.toArray 0) aF);obtain⟨e2,ho3⟩:∃e2,(sortedHeap (h1.push (seqObj "list" vs.toArray 0)) h1.objs.size vs (db ((cH uss).map λi=>vs.getD i au))).get? h1.objs.size=some (seqObj "list" (db ((cH uss).map λi=>vs.getD i au)) e2):=⟨_,lg dL λ_=>db ((cH uss).map λi=>vs.getD i au)⟩;refine h h1 _ e2 k1 (λb o' hb1=>?_) ho3;have hne:b≠h1.objs.size:=cf (ao hb1);exact(ix _ _ _ _ hne).trans (al _ (al _ ((ix _ _ _ _ hne).trans (al _ hb1))))
end
def xM(K:ae)(H:Hp)(ts:List V)(uss:AC):Prop:=ts.length=uss.length/\∀i t,ts[i]?=some t->∃a,t=.ref a/\bZ K H a ((uss.getD i []).map V.int)/\uss.getD i []≠[]
theorem Zm{X:Cx}:fH X (.builtin "sorted") (λxs H Q=>∃(a:Addr)(ts:List V)(uss:AC),xs=[.ref a]/\(bS X.K H a ts\/bZ X.K H a ts)/\xM X.K H ts uss/\2<=ts.length/\ts.length<64/\fR uss.length (fg uss.length)=true/\(cH uss).length<=64/\
  ∀l,H l=none->Q (.ref l) (aM H l (.lst ((cH uss).map λi=>ts.getD i .non)))):=by
 intro AM s σ H xs us Q I r h;obtain⟨a,ts,uss,rfl,hq,⟨hl,ht⟩,h2,h64,ok,hpl,q⟩:=h;obtain⟨u,rfl,ru⟩:=jR r;cases ru;have go:∀(its:AE)(T:String)(o:Obj)(n:Nat),bA ts its->(T="list"\/T="tuple")->s.heap.get? a=some o->o.cls=.type T->o.data=.seq its.toArray n->ts.length<=sizeLine->
   wpAny (model X.prog X.w) X.A (call (.builtin "sorted") [.ref a]) (EP X AM σ Q) X.xe s:=λits T o n rv hT ho hc hd hz=>by
  have hlen:=rv.length;refine Kn (uss:=uss) hT ho hc hd (by omega) (by omega) (by omega) ok (λi hi=>?_) λh1 h' c k1 k2 e=>?_
  .have hi':i<ts.length:=by omega
   obtain⟨b,e1,sq,ne⟩:=ht i ts[i] (ax hi');obtain⟨v,e2,rel⟩:=rv.get (ax hi');rw[e1]at rel;cases rel;obtain⟨jts,rj,⟨o2,dL,hc2,m,hd2⟩,_⟩:=I.tuple sq;refine⟨⟨b,o2,jts,m,?_,dL,hc2,hd2,rj⟩,ne⟩;rw[ba,e2];rfl
  .have I1:aD X AM σ H {s with heap:=h1,toks:=s.toks}:=I.kept k1
   have hz2:((cH uss).map λi=>ts.getD i .non).length<=sizeLine:=by
    rw[az,dk];omega
   have rel:∀ps:List Nat,bA (ps.map λi=>ts.getD i .non) (ps.map λi=>its.getD i au):=λps=>by
    induction ps with
    |nil=>exact .nil
    |cons i ps ih=>
     refine .cons ?_ ih
     by_cases hi:i<ts.length
     .obtain⟨v,e2,rr⟩:=rv.get (ax hi)
      have q1:ts.getD i .non=ts[i]:=by simp[ba,hi]
      have q2:its.getD i au=v:=by simp[ba,e2]
      show bO (ts.getD i .non) (its.getD i au);rw[q1,q2];exact rr
     .have q1:ts.getD i .non=.non:=by simp[ba,hi]
      have q2:its.getD i au=au:=by simp[ba,show its.length<=i by omega]
      show bO (ts.getD i .non) (its.getD i au);rw[q1,q2];rfl
   refine⟨.ref h1.objs.size,_,I1.laid (t':=s.toks) (o:=.lst ((cH uss).map λi=>ts.getD i .non)) k2 (ak _) ?_,rfl,q _ (I1.hok.fresh (ak _))⟩;exact⟨hz2,_,c,rel _,e⟩
 rcases hq with hq |hq
 .obtain⟨its,rv,pl,hz⟩:=I.list hq
  obtain⟨o,ho,hc,n,hd⟩:=pl.isList;exact go its "list" o n rv (.inl rfl) ho hc hd hz
 .obtain⟨its,rv,⟨o,ho,hc,n,hd⟩,hz⟩:=I.tuple hq
  exact go its "tuple" o n rv (.inr rfl) ho hc hd hz
end L2
namespace L2.Pp
open PySem PySem.Spec PyProof.Rows Bn
open PySem.W (kas_sort)
section
variable{K:ae}
def gF:AI->Option AC
 |[]=>some []
 |.tup us::r=>match gB us,gF r with
  |some is,some uss=>some (is::uss)
  |_,_=>none
 |_::_=>none
theorem Pe:∀{xs:AI}{uss:AC},gF xs=some uss->xs.length=uss.length
 |[],uss,e=>by cases e;rfl
 |.tup us::r,uss,e=>by
  unfold gF at e;split at e
  .rename_i is uss' h1 h2
   cases e;rw[cg,cg,Pe h2]
  .cases e
 |.non::_,_,e=>by cases e
 |.bl _::_,_,e=>by cases e
 |.int _::_,_,e=>by cases e
 |.str _::_,_,e=>by cases e
 |.lst _::_,_,e=>by cases e
theorem Xe{c:Addr->Prop}{H:Hp}:∀{xs:AI}{uss:AC}{vs:List V},gF xs=some uss->aJ K c H xs vs->∀i t,vs[i]?=some t->∃a,t=.ref a/\bZ K H a ((uss.getD i []).map V.int)
 |[],uss,vs,e,r,i,t,h=>by
  unfold aJ at r;subst r;simp at h
 |.tup us::r,uss,vs,e,rr,i,t,h=>by
  unfold gF at e;split at e
  .rename_i is uss' h1 h2
   cases e;unfold aJ at rr;obtain⟨v,w,rfl,r1,r2⟩:=rr;cases i with
   |zero=>
    cases h;unfold aK at r1;obtain⟨a,ws,rfl,sq,_,r3⟩:=r1;rw[uY h1 r3]at sq;exact⟨a,rfl,sq⟩
   |succ i=>
    have:=Xe h2 r2 i t (by simpa using h);simpa using this
  .cases e
 |.non::_,_,_,e,_,_,_,_=>by cases e
 |.bl _::_,_,_,e,_,_,_,_=>by cases e
 |.int _::_,_,_,e,_,_,_,_=>by cases e
 |.str _::_,_,_,e,_,_,_,_=>by cases e
 |.lst _::_,_,_,e,_,_,_,_=>by cases e
def yA(uss:AC):Prop:=2<=uss.length/\uss.length<64/\fR uss.length (fg uss.length)=true/\(cH uss).length<=64/\∀us∈uss,us≠[]
def xT(xs:AI)(uss:AC):AI:=(cH uss).map λi=>xs.getD i .non
open Classical in
noncomputable def nI(xs:AI):AJ:=match gF xs with
 |some uss=>if yA uss then some (.lst (xT xs uss))else none
 |none=>none
noncomputable def mW:AI->AJ
 |[.lst xs]=>nI xs
 |[.tup xs]=>nI xs
 |_=>none
theorem uX{c:Addr->Prop}{H:Hp}{xs:AI}{vs:List V}(r:aJ K c H xs vs):∀ps:List Nat,aJ K c H (ps.map λi=>xs.getD i .non) (ps.map λi=>vs.getD i .non)
 |[]=>.nil
 |i::ps=>by
  refine .cons ?_ (uX r ps)
  by_cases hi:i<xs.length
  .obtain⟨v,e1,e2⟩:=r.get (ax hi)
   have q1:xs.getD i .non=xs[i]:=by simp[ba,hi]
   have q2:vs.getD i .non=v:=by simp[ba,e1]
   show aK K c H (xs.getD i .non) (vs.getD i .non);rw[q1,q2];exact e2
  .have hl:=r.length
   have q1:xs.getD i .non=.non:=by simp[ba,hi]
   have q2:vs.getD i .non=.non:=by simp[ba,show vs.length<=i by omega]
   show aK K c H (xs.getD i .non) (vs.getD i .non);rw[q1,q2];unfold aK;rfl
theorem Iw:iS K (λxs H Q=>∃(a:Addr)(ts:List V)(uss:AC),xs=[.ref a]/\(bS K H a ts\/bZ K H a ts)/\xM K H ts uss/\2<=ts.length/\ts.length<64/\fR uss.length (fg uss.length)=true/\(cH uss).length<=64/\
  ∀l,H l=none->Q (.ref l) (aM H l (.lst ((cH uss).map λi=>ts.getD i .non)))) mW:=λ{p S H as c xs Q} s ra e k=>by
 have key:∀(zs:AI)(a:Addr)(vs:List V),nI zs=some c->(bS K H a vs\/bZ K H a vs)->aJ K p.c H zs vs->∃(a':Addr)(ts:List V)(uss:AC),[V.ref a]=[.ref a']/\(bS K H a' ts\/bZ K H a' ts)/\xM K H ts uss/\2<=ts.length/\ts.length<64/\fR uss.length (fg uss.length)=true/\(cH uss).length<=64/\
   ∀l,H l=none->Q (.ref l) (aM H l (.lst ((cH uss).map λi=>ts.getD i .non))):=λzs a vs e sq r=>by
  unfold nI at e;split at e
  .rename_i uss hu
   split at e
   .rename_i hc
    cases e;obtain⟨c1,c2,c3,c4,c5⟩:=hc;have l1:=Pe hu;have l2:=r.length;refine⟨a,vs,uss,rfl,sq,⟨by omega,λi t h=>?_⟩,by omega,by omega,c3,c4,λl hl=>?_⟩
    .obtain⟨b,e1,e2⟩:=Xe hu r i t h
     have hi:i<uss.length:=by
      have:=(ck.mp h).1;omega
     refine⟨b,e1,e2,?_⟩;rw[ba,ax hi];exact c5 _ (ig hi)
    .refine k _ _ (dY hl) (lO s (uX r _) ?_ hl)
     rw[az,gO];omega
   .cases e
  .cases e
 unfold mW at e;split at e
 .rename_i zs
  cases ra with
  |cons h t=>
   cases t;obtain⟨a,vs,rfl,l,z,r⟩:=h.lst;exact key zs a vs e (.inl l) r
 .rename_i zs
  cases ra with
  |cons h t=>
   cases t;obtain⟨a,vs,rfl,l,z,r⟩:=h.tup;exact key zs a vs e (.inr l) r
 .cases e
end
end L2.Pp
namespace L2
section
open PySem.W (KasT kas_sort)
theorem Ta{α:Type}{lt lt':Nat->Nat->Bool}{n:Nat}(h:∀i j,i<n->j<n->lt i j=lt' i j):∀t:ik α,fR n t=true->jU lt t=jU lt' t
 |.ret a,_=>rfl
 |.ask i j k,ok=>by
  unfold fR at ok;simp only[dm,decide_eq_true_eq]at ok;obtain⟨⟨⟨hi,hj⟩,h1⟩,h2⟩:=ok;show jU lt (k (lt i j))=jU lt' (k (lt' i j));rw[<-h i j hi hj];refine Ta h (k (lt i j)) ?_;cases lt i j
  .exact h2
  .exact h1
theorem iA:∀u:AA,HT.lexLt u u=false
 |[]=>rfl
 |x::u=>by rw[HT.lexLt_cons,if_pos rfl,iA u]
theorem rR:∀u v:AA,u=v\/HT.lexLt u v=true\/HT.lexLt v u=true
 |[],[]=>.inl rfl
 |[],_::_=>.inr (.inl rfl)
 |_::_,[]=>.inr (.inr rfl)
 |x::u,y::v=>by
  rw[HT.lexLt_cons,HT.lexLt_cons]
  by_cases h:x=y
  .subst h
   rw[if_pos rfl,if_pos rfl];rcases rR u v with h |h |h
   .exact .inl (by rw[h])
   .exact .inr (.inl h)
   .exact .inr (.inr h)
  .rw[if_neg h,if_neg (λz=>h z.symm)]
   by_cases q:x<y
   .exact .inr (.inl (by simpa using q))
   .exact .inr (.inr (by simp;omega))
theorem mM:∀u v w:AA,HT.lexLt u v=true->HT.lexLt v w=true->HT.lexLt u w=true
 |[],[],_,h,_=>by cases h
 |[],_::_,[],_,h=>by cases h
 |[],_::_,_::_,_,_=>rfl
 |_::_,[],_,h,_=>by cases h
 |_::_,_::_,[],_,h=>by cases h
 |x::u,y::v,z::w,h1,h2=>by
  rw[HT.lexLt_cons]at h1 h2⊢
  by_cases e1:x=y
  .subst e1
   rw[if_pos rfl]at h1
   by_cases e2:x=z
   .rw[if_pos e2]at h2⊢
    exact mM u v w h1 h2
   .rw[if_neg e2]at h2⊢
    exact h2
  .rw[if_neg e1]at h1
   have h1:x<y:=by simpa using h1
   by_cases e2:y=z
   .subst e2
    rw[if_neg e1];simpa using h1
   .rw[if_neg e2]at h2
    have h2:y<z:=by simpa using h2
    rw[if_neg (by omega)];simp;omega
theorem Jr{u v:AA}(h:HT.lexLt u v=true):HT.lexLt v u=false:=by
 cases q:HT.lexLt v u with
 |false=>rfl
 |true=>
  have:=mM u v u h q;rw[iA]at this;cases this
theorem Xq{u v:AA}(h:HT.lexLt u v=false)(g:HT.lexLt v u=false):u=v:=by
 rcases rR u v with e |e |e
 .exact e
 .rw[h]at e;cases e
 .rw[g]at e;cases e
def r3(a b c d e f:Bool):Bool:=(!(a&&b)||c)&&(!(d&&e)||f)
def tU(b:Nat->Nat->Bool)(n:Nat):Bool:=(aq n).all λi=>!(b i i)&&(aq n).all λj=>!(b i j&&b j i)&&(aq n).all λk=>(!(b i j&&b j k)||b i k)&&(b i j||b j k|| !(b i k))
def sP(b:Nat->Nat->Bool)(n:Nat)(ps:List (List Nat)):Bool:=let p:=(jU b (fg n)).toList
 ps.contains p&&(aq n).all λi=>(aq n).all λj=>!(decide (i<j))|| !(b (p.getD j 0) (p.getD i 0))
def pJ:List (List Nat):=[[0,1,2],[0,2,1],[1,0,2],[1,2,0],[2,0,1],[2,1,0]]
def pQ:List (List Nat):=[[0,1,2,3],[0,1,3,2],[0,2,1,3],[0,2,3,1],[0,3,1,2],[0,3,2,1],[1,0,2,3],[1,0,3,2],[1,2,0,3],[1,2,3,0],[1,3,0,2],[1,3,2,0],
 [2,0,1,3],[2,0,3,1],[2,1,0,3],[2,1,3,0],[2,3,0,1],[2,3,1,0],[3,0,1,2],[3,0,2,1],[3,1,0,2],[3,1,2,0],[3,2,0,1],[3,2,1,0]]
def yR(b01 b02 b10 b12 b20 b21:Bool)(i j:Nat):Bool:=match i,j with
 |0,1=>b01 |0,2=>b02 |1,0=>b10 |1,2=>b12 |2,0=>b20 |2,1=>b21 |_,_=>false
def yX(b01 b02 b03 b10 b12 b13 b20 b21 b23 b30 b31 b32:Bool)(i j:Nat):Bool:=match i,j with
 |0,1=>b01 |0,2=>b02 |0,3=>b03 |1,0=>b10 |1,2=>b12 |1,3=>b13 |2,0=>b20 |2,1=>b21 |2,3=>b23 |3,0=>b30 |3,1=>b31 |3,2=>b32 |_,_=>false
theorem Ej:fR 3 (fg 3)=true:=by decide+kernel
theorem Hj:fR 4 (fg 4)=true:=by decide+kernel
theorem nU:∀b01 b02 b10 b12 b20 b21:Bool,tU (yR b01 b02 b10 b12 b20 b21) 3=true->sP (yR b01 b02 b10 b12 b20 b21) 3 pJ=true:=by decide+kernel
theorem J4:∀b01 b02 b03 b10 b12 b13 b20 b21 b23 b30 b31 b32:Bool,tU (yX b01 b02 b03 b10 b12 b13 b20 b21 b23 b30 b31 b32) 4=true->sP (yX b01 b02 b03 b10 b12 b13 b20 b21 b23 b30 b31 b32) 4 pQ=true:=by decide+kernel
theorem Xh{b:Nat->Nat->Bool}{n:Nat}{uss:AC}(h:∀i j,i<n->j<n->b i j=HT.lexLt (uss.getD i []) (uss.getD j [])):tU b n=true:=by
 unfold tU;simp only[gq,rq,dm,ur,Bool.or_eq_true,Bool.and_eq_false_imp];intro i hi;refine⟨by rw[h i i hi hi,iA],λj hj=>⟨λq=>?_,λk hk=>⟨?_,?_⟩⟩⟩
 .rw[h i j hi hj]at q
  rw[h j i hj hi,Jr q]
 .rw[h i j hi hj,h j k hj hk,h i k hi hk]
  cases q1:HT.lexLt (uss.getD i []) (uss.getD j [])with
  |false=>exact .inl λz=>by cases z
  |true=>
   cases q2:HT.lexLt (uss.getD j []) (uss.getD k [])with
   |false=>exact .inl λ_=>rfl
   |true=>exact .inr (mM _ _ _ q1 q2)
 .rw[h i j hi hj,h j k hj hk,h i k hi hk]
  cases q1:HT.lexLt (uss.getD i []) (uss.getD j [])with
  |true=>exact .inl (.inl rfl)
  |false=>
   cases q2:HT.lexLt (uss.getD j []) (uss.getD k [])with
   |true=>exact .inl (.inr rfl)
   |false=>
    refine .inr ?_;cases q3:HT.lexLt (uss.getD i []) (uss.getD k [])with
    |false=>rfl
    |true=>
     rcases rR (uss.getD i []) (uss.getD j [])with e |e |e
     .rw[e]at q3;rw[q2]at q3;cases q3
     .rw[q1]at e;cases e
     .have:=mM _ _ _ e q3
      rw[q2]at this;cases this
end
section
open PySem.W (KasT kas_sort)
def cM(uss:AC):AC:=(cH uss).map λi=>uss.getD i []
def mF(u v:AA):Prop:=HT.lexLt v u=false
theorem Bb{uss:AC}{n:Nat}{ps:List (List Nat)}(hl:uss.length=n)(ok:fR n (fg n)=true){b:Nat->Nat->Bool}(hb:∀i j,i<n->j<n->b i j=HT.lexLt (uss.getD i []) (uss.getD j []))(good:sP b n ps=true)(hp:∀p∈ps,p.Perm (aq n)):
  cH uss∈ps/\(cH uss).Perm (aq n)/\(cM uss).Pairwise mF:=by
 have e:cH uss=(jU b (fg n)).toList:=by
  unfold cH;rw[hl];exact congrArg si (Ta (n:=n) (λi j hi hj=>(hb i j hi hj).symm) _ ok)
 unfold sP at good;simp only[dm,gq,rq]at good;rw[<-e]at good;obtain⟨g1,g2⟩:=good;have m:cH uss∈ps:=by simpa using g1
 have pm:=hp _ m;refine⟨m,pm,?_⟩;have ln:(cH uss).length=n:=by rw[pm.length_eq,kx]
 unfold cM;rw[vo];intro i j hi hj hij;rw[az]at hi hj;have q:=g2 i (by omega) j (by omega);have pi:(cH uss).getD i 0=(cH uss)[i]:=by simp[ba,hi]
 have pj:(cH uss).getD j 0=(cH uss)[j]:=by simp[ba,hj]
 rw[pi,pj]at q;have li:(cH uss)[i]<n:=by
  have:=pm.subset (ig hi);simpa using this
 have lj:(cH uss)[j]<n:=by
  have:=pm.subset (ig hj);simpa using this
 rw[hb _ _ lj li]at q;simp only[List.getElem_map];unfold mF;have d:decide (i<j)=true:=by simpa using hij
 rw[d]at q;simpa using q
theorem Iq:∀p∈pJ,p.Perm (aq 3):=by decide
theorem Er:∀p∈pQ,p.Perm (aq 4):=by decide
theorem wO{uss:AC}(h:uss.length=3):cH uss∈pJ/\(cH uss).Perm (aq 3)/\(cM uss).Pairwise mF:=by
 match uss,h with
 |[u0,u1,u2],_=>
  have hb:∀i j,i<3->j<3->yR (HT.lexLt u0 u1) (HT.lexLt u0 u2) (HT.lexLt u1 u0) (HT.lexLt u1 u2) (HT.lexLt u2 u0) (HT.lexLt u2 u1) i j=HT.lexLt (([u0,u1,u2]:AC).getD i []) (([u0,u1,u2]:AC).getD j []):=λi j hi hj=>by
   match i,j,hi,hj with
   |0,0,_,_=>exact(iA u0).symm
   |0,1,_,_=>rfl
   |0,2,_,_=>rfl
   |1,0,_,_=>rfl
   |1,1,_,_=>exact(iA u1).symm
   |1,2,_,_=>rfl
   |2,0,_,_=>rfl
   |2,1,_,_=>rfl
   |2,2,_,_=>exact(iA u2).symm
  exact Bb rfl Ej hb (nU _ _ _ _ _ _ (Xh hb)) Iq
theorem wK{uss:AC}(h:uss.length=4):cH uss∈pQ/\(cH uss).Perm (aq 4)/\(cM uss).Pairwise mF:=by
 match uss,h with
 |[u0,u1,u2,u3],_=>
  have hb:∀i j,i<4->j<4->yX (HT.lexLt u0 u1) (HT.lexLt u0 u2) (HT.lexLt u0 u3) (HT.lexLt u1 u0) (HT.lexLt u1 u2) (HT.lexLt u1 u3) (HT.lexLt u2 u0) (HT.lexLt u2 u1) (HT.lexLt u2 u3) (HT.lexLt u3 u0) (HT.lexLt u3 u1) (HT.lexLt u3 u2) i j=HT.lexLt (([u0,u1,u2,u3]:AC).getD i []) (([u0,u1,u2,u3]:AC).getD j []):=λi j hi hj=>by
   match i,j,hi,hj with
   |0,0,_,_=>exact(iA u0).symm
   |0,1,_,_=>rfl
   |0,2,_,_=>rfl
   |0,3,_,_=>rfl
   |1,0,_,_=>rfl
   |1,1,_,_=>exact(iA u1).symm
   |1,2,_,_=>rfl
   |1,3,_,_=>rfl
   |2,0,_,_=>rfl
   |2,1,_,_=>rfl
   |2,2,_,_=>exact(iA u2).symm
   |2,3,_,_=>rfl
   |3,0,_,_=>rfl
   |3,1,_,_=>rfl
   |3,2,_,_=>rfl
   |3,3,_,_=>exact(iA u3).symm
  exact Bb rfl Hj hb (J4 _ _ _ _ _ _ _ _ _ _ _ _ (Xh hb)) Er
theorem lG{uss:AC}(h:uss.length=3\/uss.length=4):(cM uss).Perm uss/\(cM uss).Pairwise mF:=by
 have key:∀n,uss.length=n->(cH uss).Perm (aq n)->(cM uss).Perm uss:=λn hn hp=>by
  have e:(aq n).map (λi=>uss.getD i [])=uss:=by
   refine qk (by simp[hn]) λi h1 h2=>?_;have hi:i<uss.length:=h2;simp[ba,hi]
  have:=hp.map (λi=>uss.getD i []);rw[e]at this;exact this
 rcases h with h |h
 .obtain⟨_,hp,hs⟩:=wO h
  exact⟨key 3 h hp,hs⟩
 .obtain⟨_,hp,hs⟩:=wK h
  exact⟨key 4 h hp,hs⟩
theorem Kl{A B:AC}(hp:A.Perm B)(ha:A.Pairwise mF)(hb:B.Pairwise mF):A=B:=
 hp.eq_of_pairwise (λu v _ _ h g=>Xq g h) ha hb
theorem zG{A B:AC}(hp:A.Perm B)(h:B.length=3\/B.length=4):cM A=cM B:=by
 obtain⟨p1,s1⟩:=lG (uss:=A) (by rw[hp.length_eq];exact h);obtain⟨p2,s2⟩:=lG h;exact Kl (p1.trans (hp.trans p2.symm)) s1 s2
end
open PySem PySem.Spec PyProof.Rows Bn
section
variable{M:fi}{A:ai}{E:Value->Shared->Prop}{s:Shared}
end
section
variable{X:Cx}{sc:Scope}{own:List Str}{cap:List (Nat×Str)}{AM:List (Addr×Obj)}{σ:St}{H:Hp}{s:Shared}{elt target iter:af}{pos pos':ag}{wi:TI}{g:TG}{te:TE}{Q:VK}
end
end L2
namespace L2.Pp
open PySem PySem.Spec PyProof.Rows Bn
section
variable{K:ae}{cl:Str->Addr}{E:XK}{X:Cx}{p q:Ph}{H H':Hp}{S:aH}
variable{sc:Scope}{own:List Str}{cap:List (Nat×Str)}{elt target iter:af}{pos:ag}{mi:MI}{g:GM}{me:ME}
end
section
variable{K:ae}{cl:Str->Addr}{E:XK}{X:Cx}{a e:af}{m:ME}{ms:MA}{pos:ag}{p q:Ph}{H H':Hp}{S:aH}
def Dk(k:Nat)(ys:AL)(S:aH):bQ AV:=match(gW S ys).bind mX,S[k]? with
 |some (.lst vs),some (.lol xss)=>if xss.length<16777216 then .ok (.pv .non) (S.set k (.lol (xss++[vs])))else .fail
 |_,_=>.fail
def Cj(m:ME)(ms:MA):ME:=λρ S=>(m ρ S).bind λk S1=>fS k S1 λk=>(ms ρ S1).bind λys S2=>Dk k ys S2
end
section
variable{P:Program}{w:ah}{K:ae}{mg:Str->AF}{base:Heap}{cl:Str->Addr}
end
def yO(P:Program)(w:ah)(K:ae)(mg:Str->AF)(base:Heap)(cl:Str->Addr)(x:Str)(k:Nat)(ps:List Str)(g:FM):Prop:=∃(a:Addr)(d:ay),cK P w K mg base eT k a d ps (jV K cl g)/\eM K d ps []/\ce K (.ref a)=true/\mg x=some (.ref a)
section
variable{cl:Str->Addr}{E:XK}{X:Cx}{e:af}{es:List af}{ms:MA}{pos p:ag}{k k0:Nat}{ps:List Str}{g:FM}{x:Str}
theorem F5(C:yO X.prog X.w X.K X.mg X.base cl x k ps g)(hr:bW k0 X.A)(hk:k<=k0)(hg:Gl X x)(ha:dJ X.K cl E X (e::es) ms)(hdb:(x==("__debug__":Str))=false:=by decide)(he:starEach (e::es) X.env=(false,eval e X.env)::starEach es X.env:=by rfl)(hpl:(backTo pos (starEach es X.env)).any (·.1)=false:=by rfl):
  aO X.K cl E X (.Call (.Name x p) (e::es) [] pos) (bI g [] ms):=by
 obtain⟨a,d,G,b,kk,n⟩:=C;exact Qr G (hr.mono hk) hg n kk b .nil Dv.nil ha hdb he hpl
theorem D6(C:yO X.prog X.w X.K X.mg X.base cl x k ps g)(hr:bW k0 X.A)(hk:k<=k0)(hg:Gl X x)(ha:dJ X.K cl E X (e::es) ms)(hdb:(x==("__debug__":Str))=false:=by decide)(he:starEach (e::es) X.env=(false,eval e X.env)::starEach es X.env:=by rfl)(hpl:(backTo pos (starEach es X.env)).any (·.1)=false:=by rfl):
  aO X.K cl E X (.Call (.Name x p) (e::es) [] pos) (pL g [] ms):=by
 obtain⟨a,d,G,b,kk,n⟩:=C;exact Js G (hr.mono hk) hg n kk b .nil Dv.nil ha hdb he hpl
end
section
variable{X:Cx}
end
section
variable{K:ae}{cl:Str->Addr}{E:XK}{X:Cx}{e:af}{m:ME}{pos:ag}
end
section
variable{K:ae}{cl:Str->Addr}{E:XK}{X:Cx}
variable{a e:af}{m:ME}{ms:MA}{pos:ag}
end
section
variable{K:ae}{cl:Str->Addr}{E:XK}{X:Cx}
end
section
variable{K:ae}{cl:Str->Addr}{E:XK}{X:Cx}
end
section
variable{K:ae}{cl:Str->Addr}{E:XK}{X:Cx}
end
section
variable{K:ae}{cl:Str->Addr}{E:XK}{X:Cx}
variable{a e:af}{m:ME}{ms:MA}{pos:ag}
end
section
variable{M:fi}{A:ai}{E:Value->Shared->Prop}{s:Shared}{env:Env}
def vU(M:fi)(A:ai)(E:Value->Shared->Prop)(Q:Value->Shared->Prop)(acc:Value)(c:Env):jg->Shared->Prop
 |.ok _,s'=>∃m,s'.heap.Ns c.locals m/\∀h',dw c.locals s'.heap h'->Q acc {s' with heap:=h'}
 |.error x,s'=>∃m,s'.heap.Ns c.locals m/\∀h',dw c.locals s'.heap h'->wpAny M A (vp "comprehension.variables-let-go" x c:Sem Value) (λ_ _=>False) E {s' with heap:=h'}
theorem Nq{e:af}{sc:Scope}{pos:ag}{newAcc first:Sem Value}{g:Comprehension}{gs:List Comprehension}{cl:List (Str×Addr)}{Q:Value->Shared->Prop}
  (hc:clausesOf e=g::gs)(hs:∀x,foldedSetIterable g.iter env x=pure x)(hcl:closureFor sc env=pure cl)(hk:sc.kind=.function)(hn:∀x∈sc.names,x.2=.local->sc.names.lookup x.1=some .local)
  (h:wpAny M A first (λx s1=>wpAny M A (pyIter x) (λit s2=>wpAny M A newAcc (λacc s3=>wpAny M A (newFunctionEnv sc env.globals cl [] env.qual none .none (some env)) (λc s4=>
    codeAny M A (.compStart e 0 it acc {c with scope:=relabel sc env}) (vU M A E Q acc {c with scope:=relabel sc env}) s4) E s3) E s2) E s1) E s):
  wpAny M A (comprehension e sc env pos newAcc false first none) Q E s:=by
 unfold comprehension;rw[hcl,hc];refine aa (bB h λx s1 h1=>aa (ka (aa (wpAny_of_eq (hs x) (aa (dj (bB h1 λit s2 h2=>?_)))))));refine wpAny_standIf (aa (bB h2 λacc s3 h3=>aa (aj (aa (bB h3 λc s4 h4=>?_)))));dsimp only;have loc:∀x∈(sc.names.filter λx=>(x.2== .local||x.2== .cell)&&x.1 !=(".0":Str)).reverse,x.2=.local->Env.kindOf {c with scope:=relabel sc env} x.1=some .local:=λx hx hl=>
  lookup_relabel_local (hn x (rn.mp (List.mem_reverse.mp hx)).1 hl)
 refine dj (aa (qa (dj (wpAny_run (jh h4 λr s' hr=>?_)))));cases r with
 |ok f=>
  obtain⟨m,hm,hr⟩:=hr;exact aa (dj (wpAny_comp_letGo (cenv:={c with scope:=relabel sc env}) hk _ s' m loc hm λh' _ _ sb=>aj (hr h' sb)))
 |error x=>
  obtain⟨m,hm,hr⟩:=hr;exact aa (dj (wpAny_comp_letGo (cenv:={c with scope:=relabel sc env}) hk _ s' m loc hm λh' _ _ sb=>cn (hr h' sb) (λ_ _ z=>z.elim) λ_ _ y=>y))
end
section
variable{prog:Program}{w:ah}{A:ai}{R:jg->Shared->Prop}{s:Shared}
theorem Wt{elt target iter:af}{sc:Scope}{pos:ag}{it acc:Value}{env:Env}(I:Nat->Shared->Prop)
  (turn:∀n s,I n s->wpAny (model prog w) A (pyNext it) (λr s1=>match r with
   |none=>R (.ok .next) s1
   |some v=>wpAny (model prog w) A (letOwnedTupleGo target it v) (λ_ s2=>wpAny (model prog w) A (assign target env v) (λ_ s3=>wpAny (model prog w) A (eval elt env)
     (λx s4=>wpAny (model prog w) A (call (.builtin "list.append") [acc,x]) (λ_ s5=>∃m,m<n/\I m s5) (λ_ _=>False) s4) (notedBy (model prog w) A env λx s'=>R (.error x) s') s3) (λ_ _=>False) s2) (λ_ _=>False) s1) (λ_ _=>False) s)
  (n:Nat)(h:I n s):codeAny (model prog w) A (.compLoop (.ListComp elt [⟨target,iter,[],0⟩] sc pos) 0 it acc env) R s:=by
 refine codeAny_loop rfl I (λn s hI=>?_) n h;show wpAny _ _ ((compTurn (.ListComp elt [⟨target,iter,[],0⟩] sc pos) 0 it acc env).onRaise (λx=>do noteFrame x env;theTreesLotGoes x)) _ _ s;refine wpAny_noted ?_;rw[compTurn_list1];refine aa (ka (aa ?_));refine cn (turn n s hI) (λr s1 h1=>?_) λ_ _ z=>z.elim;cases r with
 |none=>exact aj h1
 |some v=>
  refine aa (cn h1 (λ_ s2 h2=>?_) λ_ _ z=>z.elim);refine aa (cn h2 (λ_ s3 h3=>?_) λ_ _ z=>z.elim);refine aa (aa (cn h3 (λx s4 h4=>?_) λ_ _ z=>z));refine aa (cn h4 (λ_ s5 h5=>?_) λ_ _ z=>z.elim);exact aj (aj ⟨rfl,h5⟩)
end
def iI(B:Heap)(C:Addr):Heap:={B with objs:=B.objs.setIfInBounds C ⟨.none,none,.freed,#[]⟩}
theorem zQ{B:Heap}{C:Addr}:(iI B C).get? C=none:=by
 unfold iI Heap.get?;dsimp only
 by_cases h:C<B.objs.size
 .rw[Array.getElem?_setIfInBounds_self_of_lt h]
 .rw[Array.getElem?_eq_none (by rw[Array.size_setIfInBounds];exact xt h)]
theorem rD{B:Heap}{C b:Addr}(h:b≠C):(iI B C).get? b=B.get? b:=by
 unfold iI Heap.get?;dsimp only;rw[Array.getElem?_setIfInBounds_ne (fw h)]
theorem uF{B:Heap}{C b:Addr}(h:B.get? b=none):(iI B C).get? b=none:=by
 by_cases z:b=C
 .rw[z];exact zQ
 .rw[rD z];exact h
theorem Dm{B:Heap}{C b:Addr}{o:Obj}(h:(iI B C).get? b=some o):b≠C/\B.get? b=some o:=by
 by_cases z:b=C
 .rw[z,zQ]at h;cases h
 .rw[rD z]at h;exact⟨z,h⟩
theorem Ho{B h h':Heap}{l:List Env}{e L C:Addr}{cls a0:Value}(hC:∃o,B.get? C=some o)(hh:qp B l e cls a0 L h)(sb:dw C h h'):qp (iI B C) l e cls a0 L h':=by
 obtain⟨oC,hC⟩:=hC;have ne:∀{b},B.get? b=none->b≠C:=λ{b} hb z=>by
  rw[z,hC]at hb;cases hb
 obtain⟨k1,k2,k3,k4⟩:=hh;refine⟨λb o hb=>?_,uF k2,?_,?_⟩
 .obtain⟨z,hb⟩:=Dm hb
  rw[sb.2 b z];exact k1 b o hb
 .clear k4
  induction l with
  |nil=>trivial
  |cons env dQ ih=>
   obtain⟨a,⟨L0,o,hf,hn,ho,hd⟩,hr⟩:=k3;exact⟨a,⟨L0,o,hf,uF hn,(sb.2 L0 (ne hn)).trans ho,hd⟩,ih hr⟩
 .obtain⟨oe,vs,T,oT,ts,he,hcls,hd,h1,hnT,hTe,hT,hdT,h3⟩:=k4
  exact⟨oe,vs,T,oT,ts,(sb.2 e (ne k2)).trans he,hcls,hd,h1,uF hnT,hTe,(sb.2 T (ne hnT)).trans hT,hdT,h3⟩
theorem Sn{e:Value}{c env:Env}(h:c.frame=env.frame):noteFrame e c=noteFrame e env:=by
 unfold noteFrame PySem.frameOf;rw[h]
theorem Cp{M:fi}{A:ai}{E:Value->Shared->Prop}{s:Shared}{α:Type}{Q:α->Shared->Prop}{B:Heap}{l:List Env}{e L:Addr}{cls a0:Value}{c:Env}{what:String}(hf:c.frame=some L)(hh:qp B l e cls a0 L s.heap)
  (h:∀h',qp B l e cls a0 L h'->(∀b o,s.heap.get? b=some o->(∀vs,o.data≠.fields vs)->h'.get? b=some o)->E (.ref e) {s with heap:=h'}):wpAny M A (vp what (.ref e) c:Sem α) Q E s:=by
 obtain⟨k1,k2,k3,oe,vs,T,oT,ts,he,hcls,hd,h1,hnT,hTe,hT,hdT,h3⟩:=hh;have hsz3:3<ts.size:=(Array.getElem?_eq_some_iff.mp h3).1;have other:∀b,b≠T->(s.heap.update T (Obj.mapFields (·.setIfInBounds 3 (rawInt L)))).get? b=s.heap.get? b:=λb hb=>ud _ _ (fw hb);have noRec:∀b o,s.heap.get? b=some o->(∀vs,o.data≠.fields vs)->b≠T:=λb o hb hnf q=>by
  rw[q,hT]at hb;injection hb with hb;subst hb;exact hnf ts hdT
 unfold vp;refine aa (dg he hd h1 ?_);rw[if_neg (show ¬((bc T==au)=true) from by simp)];refine aa ?_;unfold setFlight;rw[hf];refine aa (dg he hd h1 ?_);rw[if_pos (show(bc T !=au)=true from by simp)];refine pf hT hdT hsz3 (wpAny_throw (h _ ⟨λb o nW=>(other b λq=>by rw[q,hnT]at nW;cases nW).trans (k1 b o nW),k2,k3.of_keeps λb o hb hnf=>⟨o,(other b (noRec b o hb hnf)).trans hb,rfl⟩,?_⟩ λb o hb hnf=>(other b (noRec b o hb hnf)).trans hb));exact⟨oe,vs,T,_,_,(other e (fw hTe)).trans he,hcls,hd,h1,hnT,hTe,oh _ hT (yl (ph hdT _)),ph hdT _,by simp[hsz3]⟩
end L2.Pp
namespace L2
open PySem PySem.Spec PyProof.Rows Bn
section
variable{X:Cx}{AM:List (Addr×Obj)}{σ:St}{H H':Hp}{s s':Shared}
theorem aD.flownC{B h5:Heap}{C:Addr}(I:aD X AM σ H s)(hC:eF X AM H C)(os:s'.os=s.os)(bare:fh s'.gens)(un:Un (bV X.stack) [] H H' s.heap s'.heap)(hok:dF X.prog X.w H' s'.heap)
  (cov:∀b o,s'.heap.get? b=some o->(∃u,H' b=some u)\/(∃o',s.heap.get? b=some o'/\b∉bV X.stack)->b≠C->B.get? b=some o)(fr:∀b∈bV X.stack,H' b=none)(hn:H' C=none)
  (st:B.StaysIn h5)(up:∀b o,b≠C->s'.heap.get? b=some o->(∀vs,o.data≠.fields vs)->∃sl,h5.get? b=some {o with slots:=sl}):aD X AM σ H' {s' with heap:=h5}:=by
 have one:∀{b},b∉[C]->b≠C:=λ{b} h z=>h (by rw[z];exact vq.mpr rfl);have frame:∀b∈bV X.stack,b≠C->∃o sl,s.heap.get? b=some o/\H b=none/\h5.get? b=some {o with slots:=sl}:=λb hb hx=>by
  obtain⟨_,o,ho,hd⟩:=I.stack.mem hb;have hn:=I.stkFree b hb;obtain⟨sl,g⟩:=un.slot b o ho hn hb (by intro z;cases z);obtain⟨sl',g'⟩:=up b _ hx g hd;exact⟨o,sl',ho,hn,g'⟩
 refine I.call' (s':={s' with heap:=h5}) (ch:=[C]) os ⟨λb o q n hb hx=>?_,λb o q n hb hx=>?_,λb o q n _=>un.free b o q n (by intro z;cases z),λb o q hx=>?_,un.tups,un.frzs,un.tbls⟩ (λb u q=>?_) bare λb z=>?_
 .exact st b o (cov b o (un.keep b o q n hb (by intro z;cases z)) (.inr ⟨o,q,hb⟩) (one hx))
 .obtain⟨o',sl,g1,_,g2⟩:=frame b hb (one hx)
  rw[q]at g1;cases g1;exact⟨sl,g2⟩
 .by_cases c:b∈bV X.stack
  .obtain⟨o',sl,_,_,g2⟩:=frame b c (one hx)
   exact⟨_,g2⟩
  .obtain⟨o',g⟩:=un.there b o q (by intro z;cases z)
   exact⟨o',st b o' (cov b o' g (.inr ⟨o,q,c⟩) (one hx))⟩
 .refine(hok b u q).stay (λc v hc g=>?_) (λ_ g=>g) λ_ _ g=>g
  have nc:∀{y},H' c=some y->c≠C:=λ{y} e z=>by
   rw[z,hn]at e;cases e
  rcases hc with z |z
  .have q':H' c=some u:=by rw[z];exact q
   exact st c v (cov c v g (.inl ⟨u,q'⟩) (nc q'))
  .exact st c v (cov c v g (.inl ⟨_,z⟩) (nc z))
 .have z:b=C:=vq.mp z
  subst z;obtain⟨_,f1,_,f3,f4,f5⟩:=hC;exact⟨f3,f1,f4,f5⟩
end
open L2.Pp
section
variable{P:Program}{w:ah}{K:ae}{mg:Str->AF}{base:Heap}{N:List Str}{qual:Str}{scope:Scope}{f:Addr}{cd:Value}{A:ai}{outer:List Env}{AN:Shared}{AO:Hp}{E:XK}
theorem B5{AM:List (Addr×Obj)}{σ:St}{H2 H3:Hp}{s2 s3:Shared}{sc:Scope}{Nb:List Str}{C:Addr}{fp:List Addr}{Qf:Value->Shared->Prop}{acc:Value}
  (I2:aD (aR (aN P w) P w K mg base N qual scope f cd A outer AN AO E) AM σ H2 s2)(f2:∀b∈fp,eF (aR (aN P w) P w K mg base N qual scope f cd A outer AN AO E) AM H2 b)(un:Un (bV (aR (aN P w) P w K mg base N qual scope f cd A outer AN AO E).stack) fp H2 H3 s2.heap s3.heap)(os3:s3.os=s2.os)
  (hF:∀H:Hp,H C=none->eF (aR (aN P w) P w K mg base N qual scope f cd A outer AN AO E) AM H C)(hCf:C∉bV (aR (aN P w) P w K mg base N qual scope f cd A outer AN AO E).stack)(hC0:∀o,AN.heap.get? C≠some o):
  iH (aN P w) ((cU (aR (aN P w) P w K mg base N qual scope f cd A outer AN AO E) sc Nb C s3 H3 fp).wish (notedBy (model P w) (aR (aN P w) P w K mg base N qual scope f cd A outer AN AO E).A (cU (aR (aN P w) P w K mg base N qual scope f cd A outer AN AO E) sc Nb C s3 H3 fp).env λx s''=>vU (model P w) (aR (aN P w) P w K mg base N qual scope f cd A outer AN AO E).A (aR (aN P w) P w K mg base N qual scope f cd A outer AN AO E).xe Qf acc (cU (aR (aN P w) P w K mg base N qual scope f cd A outer AN AO E) sc Nb C s3 H3 fp).env (.error x) s'')) E:=by
 intro pl σ' H s e s' I c;have J:=I.unwish;obtain⟨x,Cl,t,B,H',rfl,os,bare,un',hok,fl,cov,hE⟩:=c;have fr:∀b∈bV (aR (aN P w) P w K mg base N qual scope f cd A outer AN AO E).stack,H' b=none:=λb hb=>by
  obtain⟨_,o,ho,hd⟩:=J.stack.mem hb;exact un'.free b o ho (J.stkFree b hb) (by intro z;cases z)
 have IX:=I2.uncmp f2 un os3 J;show wpAny _ _ (noteFrame (.ref x) _) _ _ s';rw[Sn (c:=(cU (aR (aN P w) P w K mg base N qual scope f cd A outer AN AO E) sc Nb C s3 H3 fp).env) (env:=(aR (aN P w) P w K mg base N qual scope f cd A outer AN AO E).env) rfl];refine wpAny_looks_onW IX.ok.frames rfl fl λh1 held up=>?_;have J5:=J.flown os bare un' hok cov fr held.1 up;obtain⟨m,hn,_⟩:=id J5.loc;refine⟨m,hn,λh2 sb=>?_⟩;obtain⟨mC,hnC,_⟩:=id J.loc;obtain⟨oC,_,_,hoC,_⟩:=hnC;obtain⟨oC',gC⟩:=un'.there C oC hoC (by intro z;cases z);have hCB:∃o,B.get? C=some o:=⟨oC',cov C oC' gC (.inr ⟨oC,hoC,hCf⟩)⟩;have held2:=Ho hCB held sb;have hHC:H C=none:=J.free;have hnC':H' C=none:=un'.free C oC hoC hHC (by intro z;cases z);refine Cp rfl held2 λh3 held3 keep=>?_;show wpAny _ _ (leaving _ (.ref x)) _ _ _;unfold leaving;refine aa (wpAny_noteFrame_againW rfl held3.2.2.2 ?_);refine wpAny_landsW held3 λh4 fl4 up4=>?_;have I4:=IX.flownC (s':=s') (B:=iI B C) (h5:=h4) (hF H hHC) os bare un' hok (λb o g d hb=>by rw[rD hb];exact cov b o g d) fr hnC' fl4.1 (λb o hb g hnf=>by
  obtain⟨sl,g1⟩:=up b o g hnf;have g2:=(sb.2 b hb).trans g1;have g3:=keep b _ g2 hnf;obtain⟨sl',g4⟩:=up4 b _ g3 hnf;exact⟨sl',g4⟩)
 have nL:∀{b o},AN.heap.get? b=some o->b∉bV outer->b∉bV (envOfC qual scope AN.heap.objs.size f cd::outer):=λ{b o} q z y=>by
  rcases bh.mp (IX.stkSub b y)with g |g
  .exact absurd (bn (ao q) IX.ok.above) (by rw[g];exact dq _)
  .exact z g
 obtain⟨k1,k2,⟨_,_,k3⟩,k4⟩:=fl4;refine⟨x,Cl,t,iI B C,H',rfl,os.trans IX.os,bare,I4.base,I4.hok,⟨k1,k2,k3,k4⟩,λb o q z=>?_,hE⟩;have go:∀{o2},B.get? b=some o2->b≠C->(iI B C).get? b=some o:=λ{o2} g hb=>by
  have g':(iI B C).get? b=some o2:=by rw[rD hb];exact g
  have:=k1 b o2 g';have q':h4.get? b=some o:=q;rw[q']at this;cases this;exact g'
 rcases z with⟨u,z⟩|⟨o',z,nz⟩
 .obtain⟨o2,g⟩:=(hok b u z).has
  exact go (cov b o2 g (.inl ⟨u,z⟩)) λy=>by rw[y,hnC']at z;cases z
 .obtain⟨o2,g⟩:=IX.base.there b o' z (by intro z;cases z)
  obtain⟨o3,g3⟩:=un'.there b o2 g (by intro z;cases z);exact go (cov b o3 g3 (.inr ⟨o2,g,nL z nz⟩)) λy=>hC0 o' (by rw[<-y];exact z)
end
section
variable{P:Program}{w:ah}{K:ae}{mg:Str->AF}{base:Heap}{N:List Str}{qual:Str}{scope:Scope}{f:Addr}{cd:Value}{A:ai}{outer:List Env}{AN:Shared}{AO:Hp}{E:XK}
variable{sc:Scope}{own:List Str}{cap:List (Nat×Str)}{AM:List (Addr×Obj)}{σ:St}{H:Hp}{s:Shared}{elt target iter:af}{pos pos':ag}{wi:TI}{g:TG}{te:TE}{Q:VK}
theorem En{Qf:Value->Shared->Prop}(k:gG (aR (aN P w) P w K mg base N qual scope f cd A outer AN AO E) sc own cap)(hi:PI (aR (aN P w) P w K mg base N qual scope f cd A outer AN AO E) target iter wi)(hc:(aR (aN P w) P w K mg base N qual scope f cd A outer AN AO E).calm=true)
  (hg:∀C AQ H₁ ex,PG (cU (aR (aN P w) P w K mg base N qual scope f cd A outer AN AO E) sc (cV own cap) C AQ H₁ ex) target g)(he:∀C AQ H₁ ex E',iH (aN P w) ((cU (aR (aN P w) P w K mg base N qual scope f cd A outer AN AO E) sc (cV own cap) C AQ H₁ ex).wish E') E->PE ((cU (aR (aN P w) P w K mg base N qual scope f cd A outer AN AO E) sc (cV own cap) C AQ H₁ ex).wish E') elt te)(I:aD (aR (aN P w) P w K mg base N qual scope f cd A outer AN AO E) AM σ H s)(h:pU own cap wi g te σ H Q)
  (fin:∀D C s' H' m,aD (aR (aN P w) P w K mg base N qual scope f cd A outer AN AO E) AM σ H' s'->eF (aR (aN P w) P w K mg base N qual scope f cd A outer AN AO E) AM H' C->s'.heap.Ns C m->Q (.ref D) H'->∃m,s'.heap.Ns C m/\∀h',dw C s'.heap h'->Qf (.ref D) {s' with heap:=h'})
  (hs:∀x,foldedSetIterable iter (aR (aN P w) P w K mg base N qual scope f cd A outer AN AO E).env x=pure x):
  wpAny (model (aR (aN P w) P w K mg base N qual scope f cd A outer AN AO E).prog (aR (aN P w) P w K mg base N qual scope f cd A outer AN AO E).w) (aR (aN P w) P w K mg base N qual scope f cd A outer AN AO E).A (comprehension (.ListComp elt [⟨target,iter,[],0⟩] sc pos) sc (aR (aN P w) P w K mg base N qual scope f cd A outer AN AO E).env pos' (newList []) false (eval iter (aR (aN P w) P w K mg base N qual scope f cd A outer AN AO E).env) none) Qf (aR (aN P w) P w K mg base N qual scope f cd A outer AN AO E).xe s:=by
 refine Nq rfl hs (Mf (k.has I.ok)) k.kind k.names ?_;refine bB (hi AM s σ H _ I h) λv s1 h1=>bB h1 λitv s2 h2=>?_;obtain⟨it,fp,tn,J,H2,e,I2,T,st2,f2,hW⟩:=h2;subst e;refine ic (yf k.nocell (λy hy=>nomatch hy) (λh4 jJ hsb=>?_) k.kind);have I3:aD (aR (aN P w) P w K mg base N qual scope f cd A outer AN AO E) AM σ (aM H2 s2.heap.objs.size (.lst [])) {s2 with heap:=s2.heap.push {cls:=.type "list",data:=.seq ([]:AE).toArray},toks:=s2.toks}:=I2.lnew (ys:=[]) (its:=[]) .nil (dh _);have hD:H2 s2.heap.objs.size=none:=I2.fresh;have ltf:∀b∈fp,b<s2.heap.objs.size:=λb hb=>by
  obtain⟨o,ho,_⟩:=T.obj _ _ st2 b hb;exact ao ho
 have f3:∀b∈fp,eF (aR (aN P w) P w K mg base N qual scope f cd A outer AN AO E) AM (aM H2 s2.heap.objs.size (.lst [])) b:=λb hb=>⟨by rw[bP (cf (ltf b hb))];exact(f2 b hb).1,(f2 b hb).2⟩;have un:Un (bV (aR (aN P w) P w K mg base N qual scope f cd A outer AN AO E).stack) fp H2 (aM H2 s2.heap.objs.size (.lst [])) s2.heap (s2.heap.push {cls:=.type "list",data:=.seq ([]:AE).toArray}):=Un.laid (λb u q=>al _ q) (ak _) hD;have kp:∀b o,(s2.heap.push {cls:=.type "list",data:=.seq ([]:AE).toArray}).get? b=some o->h4.get? b=some o:=λb o q=>hsb.extBut b o (cf (ao q)) (al _ q);have J0:=I3.cmp (t':=s2.toks+([]:List (Str×Value)).length) k f3 (λb hb=>bn (ltf b hb) (by rw[jm];exact lw _)) jJ kp;have stat:∀{H':Hp},(∀b∈fp,H' b=none)->∀b∈fp,eF (cU (aR (aN P w) P w K mg base N qual scope f cd A outer AN AO E) sc (cV own cap) (s2.heap.push {cls:=.type "list",data:=.seq ([]:AE).toArray}).objs.size {s2 with heap:=s2.heap.push {cls:=.type "list",data:=.seq ([]:AE).toArray},toks:=s2.toks} (aM H2 s2.heap.objs.size (.lst [])) fp) [] H' b:=λhn b hb=>
  ⟨hn b hb,(J0.ok.exf b hb).1,J0.ok.exfs b hb,.inl hb,(J0.ok.exf b hb).2,λp hp=>absurd (show p∈([]:List (Addr×Obj)) from hp) (by simp)⟩
 have st4:tn 0 h4:=T.keep _ _ _ st2 λb hb o q=>kp b o (al _ q);have fr0:∀b∈fp,(aM H2 s2.heap.objs.size (.lst [])) b=none:=λb hb=>(f3 b hb).1;have hCf:(s2.heap.push {cls:=.type "list",data:=.seq ([]:AE).toArray}).objs.size∉bV (aR (aN P w) P w K mg base N qual scope f cd A outer AN AO E).stack:=λhb=>by
  obtain⟨_,o,ho,hd⟩:=I3.stack.mem hb;exact dq _ (ao ho)
 have hC0:∀o,AN.heap.get? (s2.heap.push {cls:=.type "list",data:=.seq ([]:AE).toArray}).objs.size≠some o:=λo ho=>by
  obtain⟨m,⟨oL,_,_,hoL,_⟩,_⟩:=id I3.loc;exact dq _ (Nat.lt_trans (bn (ao ho) I3.ok.above) (ao hoL))
 have loop:codeAny (model (aR (aN P w) P w K mg base N qual scope f cd A outer AN AO E).prog (aR (aN P w) P w K mg base N qual scope f cd A outer AN AO E).w) (aR (aN P w) P w K mg base N qual scope f cd A outer AN AO E).A (.compLoop (.ListComp elt [⟨target,iter,[],0⟩] sc pos) 0 (.ref it) (.ref s2.heap.objs.size) (compEnvC sc (gX (aR (aN P w) P w K mg base N qual scope f cd A outer AN AO E).env sc.names []) (s2.heap.push {cls:=.type "list",data:=.seq ([]:AE).toArray}).objs.size (aR (aN P w) P w K mg base N qual scope f cd A outer AN AO E).env))
   (vU (model (aR (aN P w) P w K mg base N qual scope f cd A outer AN AO E).prog (aR (aN P w) P w K mg base N qual scope f cd A outer AN AO E).w) (aR (aN P w) P w K mg base N qual scope f cd A outer AN AO E).A (aR (aN P w) P w K mg base N qual scope f cd A outer AN AO E).xe Qf (.ref s2.heap.objs.size) (compEnvC sc (gX (aR (aN P w) P w K mg base N qual scope f cd A outer AN AO E).env sc.names []) (s2.heap.push {cls:=.type "list",data:=.seq ([]:AE).toArray}).objs.size (aR (aN P w) P w K mg base N qual scope f cd A outer AN AO E).env)) {s2 with heap:=h4,toks:=s2.toks+([]:List (Str×Value)).length}:=by
  obtain⟨W,⟨m0,w0⟩,turn⟩:=hW s2.heap.objs.size hD;refine Wt (λn s'=>∃i σ' H' ys,aD (cU (aR (aN P w) P w K mg base N qual scope f cd A outer AN AO E) sc (cV own cap) (s2.heap.push {cls:=.type "list",data:=.seq ([]:AE).toArray}).objs.size {s2 with heap:=s2.heap.push {cls:=.type "list",data:=.seq ([]:AE).toArray},toks:=s2.toks} (aM H2 s2.heap.objs.size (.lst [])) fp) [] σ' H' s'/\tn i s'.heap/\(∀b∈fp,H' b=none)/\W i n σ' H' ys) ?_ m0
   ⟨0,_,_,[],J0,st4,fr0,w0⟩
  rintro n s5 ⟨i,σ5,H5,ys,I5,st5,fr5,w5⟩
  obtain⟨hD5,w5⟩:=turn i n σ5 H5 ys w5;rcases w5 with⟨stop,qn⟩|⟨go,hlt,step⟩
  .refine bB (T.done (cU (aR (aN P w) P w K mg base N qual scope f cd A outer AN AO E) sc (cV own cap) (s2.heap.push {cls:=.type "list",data:=.seq ([]:AE).toArray}).objs.size {s2 with heap:=s2.heap.push {cls:=.type "list",data:=.seq ([]:AE).toArray},toks:=s2.toks} (aM H2 s2.heap.objs.size (.lst [])) fp) rfl rfl rfl hc i [] s5 σ5 H5 _ I5 (stat fr5) st5 stop) ?_
   rintro r s6 ⟨hr,I6⟩
   subst hr;obtain⟨m,hn,_⟩:=id I6.loc;exact fin _ _ s6 H5 m (I2.uncmp (s3:={s2 with heap:=s2.heap.push {cls:=.type "list",data:=.seq ([]:AE).toArray},toks:=s2.toks}) f2 un rfl I6) (I3.fpOk (ak _) I6.free) hn qn
  .refine bB (T.item (cU (aR (aN P w) P w K mg base N qual scope f cd A outer AN AO E) sc (cV own cap) (s2.heap.push {cls:=.type "list",data:=.seq ([]:AE).toArray}).objs.size {s2 with heap:=s2.heap.push {cls:=.type "list",data:=.seq ([]:AE).toArray},toks:=s2.toks} (aM H2 s2.heap.objs.size (.lst [])) fp) rfl rfl rfl hc i [] s5 σ5 H5 _ I5 (stat fr5) st5 go) ?_
   rintro r s6 ⟨u,hr,h6⟩
   subst hr;refine bB h6 ?_
   rintro _ s7 ⟨x,H7,I7,r7,y7,st7,fr7⟩
   have I7':=I7.pinned (stat fr7) (T.obj _ _ st7);refine bB (hg _ _ _ _ _ s7 σ5 H7 x u _ I7' r7 (step x H7 y7)) ?_
   rintro _ s8 ⟨σ8,H8,I8,q8⟩
   refine bB (he _ _ _ _ _ (B5 (s3:={s2 with heap:=s2.heap.push {cls:=.type "list",data:=.seq ([]:AE).toArray},toks:=s2.toks}) I2 f2 un rfl (λH hH=>I3.fpOk (ak _) hH) hCf hC0) _ s8 σ8 H8 _ (I8.wish _) q8) ?_
   rintro v9 s9 ⟨y,H9,I9,r9,hD9,m',hm,w9⟩
   have I9:=I9.unwish;refine bB (vB _ s9 σ8 H9 (.ref s2.heap.objs.size) [y] (.ref s2.heap.objs.size) [v9] (λ_ H'=>H'=aM H9 s2.heap.objs.size (.lst (ys++[y]))) I9 rfl (.cons r9 .nil) ⟨_,ys,y,rfl,rfl,hD9,hlt,rfl⟩) ?_
   rintro _ s10 ⟨_,H10,I10,_,q10⟩
   subst q10;refine⟨m',hm,i+1,σ8,_,_,I10.unpinned,T.keep _ _ _ st7 λb hb o q=>(I10.pin (b,o) (cy _ (cy _ (mI hb q)))).1,λb hb=>?_,w9⟩;obtain⟨o,q,d⟩:=T.obj _ _ st7 b hb;exact(I10.pin (b,o) (cy _ (cy _ (mI hb q)))).2.1
 exact yg loop (T.self _ 0 _ _ _ st4 loop)
end
end L2
namespace L2.Pp
open PySem PySem.Spec PyProof.Rows Bn
open Classical in
noncomputable def fG(G:Gd)(g:GM)(me:ME):AI->bL->aH->bQ AI
 |[],_,S=>if fZ G S then .ok [] S else .fail
 |x::r,ρ,S=>if fZ G S then(match g x ρ with
  |none=>.fail
  |some ρ1=>match me ρ1 S with
   |.ok (.pv y) S1=>match fG G g me r ρ1 S1 with
    |.ok ys S2=>.ok (y::ys) S2
    |.exc n S2=>.exc n S2
    |.fail=>.fail
   |.ok (.ref _) _=>.fail
   |.exc n S1=>.exc n S1
   |.fail=>.fail)else .fail
section
variable{K:ae}{cl:Str->Addr}{E:XK}{X:Cx}{p q:Ph}{H H':Hp}{S:aH}
def sO(K:ae)(cl:Str->Addr)(E:XK)(p:Ph)(H:Hp)(D:Addr)(Q:VK)(us:AI):bQ AI->Prop
 |.ok ws S2=>∀q H' vs,bJ p H q H'->aQ K q S2 H'->aQ K (q.hold D) S2 H'->q.w D->D∉q.f->H' D=some (.lst vs)->vs.length<=sizeLine->aJ K q.c H' (us++ws) vs->Q (.ref D) H'
 |.exc n S2=>∀q H',bJ p H q H'->aQ K q S2 H'->E (.ref (cl n)) none H'
 |.fail=>False
theorem Ec{G:Gd}{g:GM}{me:ME}{xs us:AI}{ρ:bL}{D:Addr}{Q:VK}(h:sO K cl E p H D Q us (fG G g me xs ρ S)):fZ G S:=by
 cases xs with
 |nil=>
  unfold fG at h;split at h
  .assumption
  .exact h.elim
 |cons x r=>
  unfold fG at h;split at h
  .assumption
  .exact h.elim
variable{sc:Scope}{own:List Str}{cap:List (Nat×Str)}{elt target iter:af}{pos:ag}{mi:MI}{g:GM}{me:ME}
theorem Im{σ:St}{ρ:bL}{xs:AI}{G:Gd}{J:It}{Q:VK}{D:Addr}(sm:aQ K p S H)(ev:bY K p H ρ σ)(it:dZ K p H (xs,G) J)(hD:H D=none)(kk:sO K cl E p H D Q [] (fG G g me xs (cO own cap ρ) S)):
  nT J (gP K g) (tP K cl E (bU K) me) (iM own cap σ) H D Q:=by
 obtain⟨st0,sm0⟩:=sm.res (D:=D) (o:=.lst []) hD trivial;have sh0:=sm.resHold (D:=D) (o:=.lst []) hD trivial;have nf0:D∉p.f:=λh=>sm.notin hD (sm.wc D (sm.sub D h));refine Bf xs.length it.1 (λi σ1 H1 ys=>ys.length=i/\i<=xs.length/\H1 D=some (.lst ys)/\∃p1 S1 ρ1 us,(aQ K p1 S1 H1/\aQ K (p1.hold D) S1 H1)/\bJ p H p1 H1/\p1.w D/\D∉p1.f/\bY K p1 H1 ρ1 σ1/\dZ K p1 H1 (xs,G) J/\fZ G S1/\aJ K p1.c H1 us ys/\sO K cl E p H D Q us (fG G g me (xs.drop i) ρ1 S1)) ?_ ?_ ?_ ?_ ?_
 .refine⟨rfl,dh _,dX,p.res D,S,cO own cap ρ,[],⟨sm0,sh0⟩,st0,.inr rfl,nf0,Re (st0.repE ev),it.step st0,?_,.nil,by simpa using kk⟩
  exact Ec kk
 .rintro i σ1 H1 ys ⟨h1,_,h2,_⟩
  exact⟨h1,h2⟩
 .rintro i σ1 H1 ys hi ⟨_,_,_,p1,S1,ρ1,us,⟨sm1,sh1⟩,st1,w1,f1,ev1,it1,g1,_⟩
  exact((it1.2 p1 H1 S1 sm1.step sm1 g1).1 i xs[i] (ax hi)).1
 .rintro i σ1 H1 ys x H2 hi ⟨hl,_,hH,p1,S1,ρ1,us,⟨sm1,sh1⟩,st1,w1,f1,ev1,it1,g1,r1,c1⟩ hy
  obtain⟨same,rx⟩:=((it1.2 p1 H1 S1 sm1.step sm1 g1).1 i xs[i] (ax hi)).2 x H2 hy;rw[qm hi]at c1;unfold fG at c1;rw[if_pos g1]at c1;cases gz:g xs[i] ρ1 with
  |none=>rw[gz]at c1;exact c1.elim
  |some ρ2=>
   rw[gz]at c1;dsimp only at c1;have st2:=sm1.same same;have sm2:=sm1.ofSame same;have smh:=sh1.ofSame same;have stS:bJ p H p1 H2:=st1.trans st2;refine⟨p1,S1,ρ1,xs[i],ρ2,sm2,st2.repE ev1,rx,gz,λσ3 ev3=>⟨p1.hold D,S1,ρ2,smh,⟨ev3.len,ev3.at_⟩,?_⟩⟩;cases mz:me ρ2 S1 with
   |fail=>rw[mz]at c1;exact c1.elim
   |exc n S3=>
    rw[mz]at c1;intro q H4 st4 sm4;have hD2:H2 D=some (.lst ys):=same _ _ hH;have hD4:H4 D=some (.lst ys):=st4.keep D _ hD2 λz=>z.2 rfl;have fq:D∉q.f:=λh=>by
     have:=st4.nf D h f1;rw[hD2]at this;cases this
    have stU:=bJ.unhold w1 st4 sm2;have nq:¬q.w D:=λz=>by
     have:=st4.nw D z λy=>y.2 rfl;rw[hD2]at this;cases this
    have smU:aQ K ⟨q.f,λa=>q.w a\/a=D,q.c⟩ S3 H4:=⟨sm4.nd,sm4.len,λa h=>.inl (sm4.sub a h),λa h=>h.elim (sm4.wc a) λz=>z▸st4.mono D (sm2.wc D w1),sm4.mu,λk a o e1 e2=>
     (sm4.obj k a o e1 e2).mono (λ_ e=>e) (λb w f=>⟨⟨.inl w,f⟩,λ_ e=>e⟩) λ_ _ r=>r⟩
    have shU:aQ K (Ph.hold ⟨q.f,λa=>q.w a\/a=D,q.c⟩ D) S3 H4:=⟨sm4.nd,sm4.len,λa h=>⟨.inl (sm4.sub a h),λz=>nq (z▸sm4.sub a h)⟩,λa h=>smU.wc a h.1,sm4.mu,λk a o e1 e2=>
     (sm4.obj k a o e1 e2).mono (λ_ e=>e) (λb w f=>⟨⟨⟨.inl w,λz=>nq (z▸w)⟩,f⟩,λ_ e=>e⟩) λ_ _ r=>r⟩
    exact c1 _ H4 ((stS.trans stU).toLess hD) shU.toLess
   |ok av S3=>
    cases av with
    |ref k=>rw[mz]at c1;exact c1.elim
    |pv y=>
     rw[mz]at c1;dsimp only at c1;intro q H4 y' st4 sm4 ry;have hD2:H2 D=some (.lst ys):=same _ _ hH;have hD4:H4 D=some (.lst ys):=st4.keep D _ hD2 λz=>z.2 rfl;have fq:D∉q.f:=λh=>by
      have:=st4.nf D h f1;rw[hD2]at this;cases this
     have stU:=bJ.unhold w1 st4 sm2;have nq:¬q.w D:=λz=>by
      have:=st4.nw D z λy=>y.2 rfl;rw[hD2]at this;cases this
     have smU:aQ K ⟨q.f,λa=>q.w a\/a=D,q.c⟩ S3 H4:=⟨sm4.nd,sm4.len,λa h=>.inl (sm4.sub a h),λa h=>h.elim (sm4.wc a) λz=>z▸st4.mono D (sm2.wc D w1),sm4.mu,λk a o e1 e2=>
      (sm4.obj k a o e1 e2).mono (λ_ e=>e) (λb w f=>⟨⟨.inl w,f⟩,λ_ e=>e⟩) λ_ _ r=>r⟩
     have shU:aQ K (Ph.hold ⟨q.f,λa=>q.w a\/a=D,q.c⟩ D) S3 H4:=⟨sm4.nd,sm4.len,λa h=>⟨.inl (sm4.sub a h),λz=>nq (z▸sm4.sub a h)⟩,λa h=>smU.wc a h.1,sm4.mu,λk a o e1 e2=>
      (sm4.obj k a o e1 e2).mono (λ_ e=>e) (λb w f=>⟨⟨⟨.inl w,λz=>nq (z▸w)⟩,f⟩,λ_ e=>e⟩) λ_ _ r=>r⟩
     have c2:sO K cl E p H D Q (us++[y]) (fG G g me (xs.drop (i+1)) ρ2 S3):=by
      cases cz:fG G g me (xs.drop (i+1)) ρ2 S3 with
      |fail=>rw[cz]at c1;exact c1.elim
      |exc n S4=>rw[cz]at c1;exact c1
      |ok ws S4=>
       rw[cz]at c1;intro q H' vs z1 z2 z3 z4 z5 z6 z7 r;rw[qd]at r;exact c1 q H' vs z1 z2 z3 z4 z5 z6 z7 r
     obtain⟨stG,smG,shG⟩:=smU.grow (ys:=ys) (D:=D) (o:=.lst (ys++[y'])) shU (.inr rfl) fq trivial;have stA:=st2.trans (stU.trans stG);refine Ki hi hD4 ⟨by rw[da,hl];rfl,hi,dX,_,S3,ρ2,us++[y],⟨smG,shG⟩,st1.trans stA,.inr rfl,fq,stG.repE (stU.repE ev3),it1.step stA,Ec c2,?_,c2⟩;exact(stA.reps r1).append (.cons (stG.rep ry) .nil)
 .rintro σ1 H1 ys ⟨hl,_,hH,p1,S1,ρ1,us,⟨sm1,sh1⟩,st1,w1,f1,ev1,it1,g1,r1,c1⟩
  rw[vj]at c1;unfold fG at c1;rw[if_pos g1]at c1;refine⟨(it1.2 p1 H1 _ sm1.step sm1 g1).2,?_⟩;exact c1 p1 H1 ys st1 sm1 sh1 w1 f1 hH (by rw[hl];exact it.1) (by rw[lr];exact r1)
theorem Km{σ:St}{ρ:bL}{xs:AI×Gd}{J:It}{Q:VK}{D:Addr}(sm:aQ K p S H)(ev:bY K p H ρ σ)(it:dZ K p H xs J)(k:bR K cl (bU K) p H ((fG xs.2 g me xs.1 (cO own cap ρ) S).bind λys S2=>.ok (.pv (.lst ys)) S2) Q E)(hD:H D=none):
  nT J (gP K g) (tP K cl E (bU K) me) (iM own cap σ) H D Q:=by
 refine Im sm ev it hD ?_;cases z:fG xs.2 g me xs.1 (cO own cap ρ) S with
 |fail=>rw[z]at k;exact k.elim
 |exc n S'=>rw[z]at k;exact k
 |ok zs S2=>
  rw[z]at k;have k:∀q H' x,bJ p H q H'->aQ K q S2 H'->aK K q.c H' (.lst zs) x->Q x H':=k;intro q H' vs st1 sm1 sh1 w1 f1 hH l1 r1;rw[vt]at r1;refine k (q.less D) H' (.ref D) (st1.toLess hD) sh1.toLess ?_;unfold aK;exact⟨D,vs,rfl,.inl ⟨hH,λz=>z.2 rfl⟩,l1,oI (λa h=>h.1) r1⟩
end
noncomputable def rY(own:List Str)(cap:List (Nat×Str))(mi:MI)(g:GM)(me:ME):ME:=λρ S=>(mi ρ S).bind λxs S1=>(fG xs.2 g me xs.1 (cO own cap ρ) S1).bind λys S2=>.ok (.pv (.lst ys)) S2
section
variable{P:Program}{w:ah}{K:ae}{mg:Str->AF}{base:Heap}{N:List Str}{qual:Str}{scope:Scope}{f:Addr}{cd:Value}{A:ai}{outer:List Env}{AN:Shared}{AO:Hp}{E:XK}{cl:Str->Addr}
variable{sc:Scope}{own:List Str}{cap:List (Nat×Str)}{elt target iter:af}{pos:ag}{mi:MI}{g:GM}{me:ME}{wi:TI}{tg:TG}{te:TE}
theorem Mp(k:gG (aR (aN P w) P w K mg base N qual scope f cd A outer AN AO E) sc own cap)(hi:PI (aR (aN P w) P w K mg base N qual scope f cd A outer AN AO E) target iter wi)(hc:(aR (aN P w) P w K mg base N qual scope f cd A outer AN AO E).calm=true)
  (hg:∀C AQ H₁ ex,PG (cU (aR (aN P w) P w K mg base N qual scope f cd A outer AN AO E) sc (cV own cap) C AQ H₁ ex) target tg)(he:∀C AQ H₁ ex E',iH (aN P w) ((cU (aR (aN P w) P w K mg base N qual scope f cd A outer AN AO E) sc (cV own cap) C AQ H₁ ex).wish E') E->PE ((cU (aR (aN P w) P w K mg base N qual scope f cd A outer AN AO E) sc (cV own cap) C AQ H₁ ex).wish E') elt te)
  (hs:∀x,foldedSetIterable iter (aR (aN P w) P w K mg base N qual scope f cd A outer AN AO E).env x=pure x:=by intro _;rfl):PE (aR (aN P w) P w K mg base N qual scope f cd A outer AN AO E) (.ListComp elt [⟨target,iter,[],0⟩] sc pos) (pU own cap wi tg te):=by
 intro AM s σ H Q I h;rw[eval_ListComp];refine En k hi hc hg he I h (λD C s' H' m I' fC hn q=>?_) hs;refine⟨m,hn,λh' sb=>⟨.ref D,H',?_,rfl,q⟩⟩;obtain⟨f0,f1,f2,f3,f4,f5⟩:=fC;exact I'.turned (t':=s'.toks) (λb o hb e=>(sb.2 b hb).trans e) f0 f1 f3 f4 f5
theorem Cs(k:gG (aR (aN P w) P w K mg base N qual scope f cd A outer AN AO E) sc own cap)(hi:hV K cl E (aR (aN P w) P w K mg base N qual scope f cd A outer AN AO E) target iter mi)(hc:(aR (aN P w) P w K mg base N qual scope f cd A outer AN AO E).calm=true)(hg:∀C AQ H₁ ex,jY K (cU (aR (aN P w) P w K mg base N qual scope f cd A outer AN AO E) sc (cV own cap) C AQ H₁ ex) target g)(he:∀C AQ H₁ ex E',iH (aN P w) ((cU (aR (aN P w) P w K mg base N qual scope f cd A outer AN AO E) sc (cV own cap) C AQ H₁ ex).wish E') E->aO K cl E ((cU (aR (aN P w) P w K mg base N qual scope f cd A outer AN AO E) sc (cV own cap) C AQ H₁ ex).wish E') elt me)
  (hs:∀x,foldedSetIterable iter (aR (aN P w) P w K mg base N qual scope f cd A outer AN AO E).env x=pure x:=by intro _;rfl):aO K cl E (aR (aN P w) P w K mg base N qual scope f cd A outer AN AO E) (.ListComp elt [⟨target,iter,[],0⟩] sc pos) (rY own cap mi g me):=by
 intro hK;refine PE.imp (Mp k (hi hK) hc (λC AQ H₁ ex=>hg C AQ H₁ ex hK) (λC AQ H₁ ex E' ps=>he C AQ H₁ ex E' ps hK) hs) ?_
 rintro σ H Q ⟨p,S,ρ,s,ev,h⟩
 exact bT s ev h λq H' xs J S' stp sm ev it kk D hD=>Km sm ev it kk hD
end
section
variable{K:ae}{cl:Str->Addr}{E:XK}{X:Cx}{e:af}{es:List af}{ms:MA}{pos p:ag}{k n:Nat}{f:Addr}{fd:ay}{ps:List Str}{g:FM}{x:Str}{dvs:List V}{ds:AE}{dv:AI}
theorem Zq(hp:iH (aN X.prog X.w) X E)(F:cK X.prog X.w X.K X.mg X.base (aN X.prog X.w) k f fd ps (hZ K cl g))(hr:bW k X.A)(hg:Gl X x)(hm:X.mg x=some (.ref f))(hk:ce X.K (.ref f)=true)(hb:eM X.K fd ps ds)(hd:bA dvs ds)(hv:Dv dv dvs)
  (ha:dJ K cl E X (e::es) ms)(hdb:(x==("__debug__":Str))=false:=by decide)(he:starEach (e::es) X.env=(false,eval e X.env)::starEach es X.env:=by rfl)(hpl:(backTo pos (starEach es X.env)).any (·.1)=false:=by rfl):
  aO K cl E X (.Call (.Name x p) (e::es) [] pos) (fE g dv ms):=by
 intro hK;refine PE.imp (rT F hr hg hm hk hb hd hp (ha hK) hdb he hpl) ?_
 rintro σ H Q ⟨p,S,ρ,s,ev,h⟩
 exact bT s ev h λq H' as xs S' stp sm ev r k=>⟨q,S',_,sm,oH r (hv K q H'),rM sm k⟩
end
section
variable{K:ae}{cl:Str->Addr}{E:XK}{X:Cx}
end
section
variable{K:ae}{cl:Str->Addr}{E:XK}{X:Cx}{a b e:af}{m:ME}{ms:MA}{pos:ag}
end
end L2.Pp
namespace L2
open PySem PySem.Spec PyProof.Rows Bn
def jI(X:Cx)(e:af)(te:XK->TE):Prop:=
 ∀(AM:List (Addr×Obj))(s:Shared)(σ:St)(H:Hp)(Q:VK)(E:XK)(Ex:Value->Shared->Prop),aD X AM σ H s->te E σ H Q->
  (∀s1 H1 e' s',aD X AM σ H1 s1->aN X.prog X.w X.stack H1 s1 E e' s'->Ex e' s')->wpAny (model X.prog X.w) X.A (eval e X.env) (EP X AM σ Q) Ex s
section
variable{X:Cx}{k:Nat}{f:Addr}{fd:ay}{ps:List Str}{sp:Sp}{dvs:List V}{ds:AE}{x:Str}{p pos pos1 pos2 pos3 pc:ag}{e a:af}{es:List af}{t:TA}{ta:TE}{te:XK->TE}{c n:Str}{C:Addr}{i:Nat}{AS:Stmt}{body:List Stmt}{newId:String}
theorem Ur(hxe:X.xe=λ_ _=>False)(F:cK X.prog X.w X.K X.mg X.base (aN X.prog X.w) k f fd ps sp)(hr:bW k X.A)(hg:Gl X x)(hm:X.mg x=some (.ref f))(hkp:ce X.K (.ref f)=true)
  (hb:eM X.K fd ps ds)(hd:bA dvs ds)(ha:PA X (e::es) t)
  (hdb:(x==("__debug__":Str))=false:=by decide)(he:starEach (e::es) X.env=(false,eval e X.env)::starEach es X.env:=by rfl)(hpl:(backTo pos (starEach es X.env)).any (·.1)=false:=by rfl):
  jI X (.Call (.Name x p) (e::es) [] pos) (λE σ H Q=>t σ H λvs H1=>sp (vs++dvs) H1 Q E):=
 λAM s σ H Q E Ex I h hx=>Dq hxe F hr hg hm hkp hb hd ha I h hx hdb he hpl
theorem Bq{x1}(hxe:X.xe=λ_ _=>False)(ha:PE X a ta)(he:jI X e te)
  (hs:starEach [a,e] X.env=[(false,eval a X.env),(false,eval e X.env)]:=by rfl):
  jI X (.Tuple [a,e] x1 pos) (λE σ H Q=>ta σ H λu H1=>te E σ H1 λv H2=>∀t,H2 t=none->Q (.ref t) (aM H2 t (.tup [u,v]))):=by
 intro AM s σ H Q E Ex I h hx;refine wx ?_;rw[hs];show wpAny _ _ (spliced ((false,eval a X.env)::[(false,eval e X.env)])) _ _ s;refine td (cn (ha AM s σ H _ I h) (λu s1 hq=>?_) λ_ _ z=>by rw[hxe]at z;exact z.elim);rcases hq with⟨x,H1,I1,r1,q1⟩;refine td (cn (he AM s1 σ H1 _ E Ex I1 q1 hx) (λv s2 hq=>?_) λ_ _ z=>z);rcases hq with⟨y,H2,I2,r2,q2⟩;refine ww ⟨by show 2<=sizeLine;decide,?_⟩;have hf:H2 s2.heap.objs.size=none:=I2.hok.fresh (ak _);refine⟨.ref s2.heap.objs.size,aM H2 s2.heap.objs.size (.tup [x,y]),I2.laid (t':=s2.toks) (λb u e=>al _ e) (ak _) ?_,rfl,q2 _ hf⟩;exact⟨⟨by show 2<=sizeLine;decide,_,cm _ rfl,rfl⟩,[u,v],.cons r1 (.cons r2 .nil),⟨_,cm _ rfl,rfl,_,rfl⟩⟩
theorem Lu{jv:Nat}{xv:Str}{posv:ag}{ts:Addr->Obj->TS}(stk:X.stack=X.env::X.outer)(hN:X.N.Nodup)(hi:X.N[i]?=some n)(hk:X.env.scope.names.lookup n=some .local)
  (hgc:Gl X c)(hmc:X.mg c=some (.ref C))(hxC:br X.K C cL newId=true)(he:jI X e te)
  (hjv:X.N[jv]?=some xv)(hxv:jG X.env.scope xv)(hs:∀y oe,oe.cls=.ref C->eA (X.mk1 y [(y,oe)]) (AS::body) (ts y oe))
  (hsw:swapsWith e (some (.Name xv posv)) pos1.line X.env=pure false:=by rfl)
  (hfv:X.fn xv=true\/X.env.scope.names.lookup xv=some .local:=by first |exact .inl rfl |exact .inr rfl |assumption)
  (hfr:X.env.frame=some X.env.locals:=by rfl)
  (hdc:(c==("__debug__":Str))=false:=by decide):
  PS X (.Try [.Assign [.Name xv posv] e pos1] [.ExceptHandler (some (.Name c pc)) (some n) (AS::body) pos2] [] [] pos3)
   (λD σ H=>te (λcls _ H2=>cls=.ref C/\∀y oe,oe.cls=.ref C->ts y oe {nx:=λσ' H'=>D.nx (σ'.set i none) H',rt:=D.rt,bk:=λσ' H'=>D.bk (σ'.set i none) H',ct:=λσ' H'=>D.ct (σ'.set i none) H'} (σ.set i (some (.ref y))) H2) σ H (λv H2=>D.nx (σ.set jv (some v)) H2)):=by
 intro AM s σ H D I h;refine wpAny_Try_except (sj (wpAny_Assign_Name (cn (he AM s σ H _ _ _ I h (λs1 H1 e' s' I1 cx=>?_)) (λv s1 q=>?_) λe' s1 z=>z) hsw));rotate_left
 .obtain⟨v,H1,I1,rv,q⟩:=q
  exact lL I1 hN hjv hxv rv (λs2 I2=>jz (jz ⟨_,H1,I2,q⟩)) hfv
 obtain⟨y,C',tt,B,H',rfl,os,bare,un,hok,fl,cov,hE⟩:=cx;obtain⟨hC',hts⟩:=hE;cases hC';rw[stk]at fl;have fr:∀b∈bV X.stack,H' b=none:=λb hb=>by
  obtain⟨_,o,ho,hd⟩:=I1.stack.mem hb;exact un.free b o ho (I1.stkFree b hb) (by intro z;cases z)
 have ff:X.A.frames=some (X.env::X.outer):=by rw[I.ok.frames,stk]
 refine wpAny_looks_onW (base:=B) ff hfr fl λh2 held up2=>?_;refine wpAny_landsW (base:=B) held λh3 fl3 up3=>?_;have up:=Gg up2 up3;have I3:=I1.flown os bare un hok cov fr fl3.1 up;refine wpAny_handleBy_cons ?_ (by intro z;cases z);refine codeAny_handlers_test (lN (X:=X.mk1 y []) (I3.mk1 y [] λp hp=>nomatch hp) hgc hmc ?_ hdc);obtain⟨bm,Nn,nm,qn,bs,hdct,sn,sub,ab,col,dd,k0,k1,k2,k3,k5,mN,hC,hNs,hni,T⟩:=wF I.ok.mod.kin hxC;obtain⟨oe,vs,TT,oT,tts,hoe,⟨hcls,_⟩,hdat,_⟩:=fl3.2.2.2;refine wpAny_excMatches_sub_self (I3.bk _ _ hC) hoe hcls (T.hasType (by decide)) ?_;refine codeAny_handlers_suite_as (lands_againW (base:=B) fl3 λh4 fl4 up4=>?_);have I4:=I1.flown os bare un hok cov fr fl4.1 (Gg up up4);obtain⟨oe,vs,TT,oT,tts,hoe,⟨hcls,_⟩,hdat,_⟩:=fl4.2.2.2;have I5:aD (X.mk1 y [(y,oe)]) AM σ H' _:=I4.mk1 y [(y,oe)] λp hp=>by
  rw[vq]at hp;subst hp;have nfr:y∉bV X.stack:=λz=>by
   obtain⟨_,o,ho,hd⟩:=I4.stack.mem z;have hoe':h4.get? y=some oe:=hoe;have ho':h4.get? y=some o:=ho;rw[hoe']at ho';cases ho';exact hd vs hdat
  refine⟨hoe,?_,?_,?_,λv z=>?_⟩
  .cases hq:H' y with
   |none=>rfl
   |some u=>
    obtain⟨o2,g⟩:=(hok y u hq).has;have:=cov y o2 g (.inl ⟨u,hq⟩);rw[fl4.2.1]at this;cases this
  .intro z
   refine nfr ?_;rw[stk];exact ke.mpr ⟨X.env,bi,by rw[hfr];exact congrArg some z.symm⟩
  .intro z
   refine nfr ?_;rw[stk];obtain⟨env,hm,hq⟩:=ke.mp z;exact ke.mpr ⟨env,cj _ hm,hq⟩
  .have:oe.data=.cell v:=z
   rw[hdat]at this;cases this
 refine lL (X:=X.mk1 y [(y,oe)]) (v:=.ref y) I5 hN hi (.inl hk) rfl (λs6 I6=>?_) (.inr hk);refine cn (hs y oe hcls AM s6 _ H' _ I6 (hts y oe hcls)) (λfl s7 q7=>?_) λ_ _ z=>de z;cases fl with
 |next=>obtain⟨σ',H7,I7,q⟩:=q7;exact qQ (I7.unmk1 I.ok) hN hi hk λs8 I8=>⟨_,_,I8,q⟩
 |brk=>obtain⟨σ',H7,I7,q⟩:=q7;exact qQ (I7.unmk1 I.ok) hN hi hk λs8 I8=>⟨_,_,I8,q⟩
 |cont=>obtain⟨σ',H7,I7,q⟩:=q7;exact qQ (I7.unmk1 I.ok) hN hi hk λs8 I8=>⟨_,_,I8,q⟩
 |ret u=>obtain⟨v,σ',H7,I7,r,q⟩:=q7;exact qQ (I7.unmk1 I.ok) hN hi hk λs8 I8=>⟨v,_,_,I8,r,q⟩
end
end L2
namespace L2.Pp
open PySem PySem.Spec PyProof.Rows Bn
section
variable{K:ae}{cl:Str->Addr}{E:XK}{X:Cx}{a b c e:af}{m mc:ME}{ms:MA}{pos:ag}{tg:af}{ma mb:ME}
end
section
variable{K:ae}{cl:Str->Addr}{E:XK}{X:Cx}{e a:af}{es:List af}{ms:MA}{ma me:ME}{p q:Ph}{H H':Hp}{S:aH}
variable{k:Nat}{f:Addr}{fd:ay}{ps:List Str}{g:FM}{dvs:List V}{ds:AE}{dv:AI}{x:Str}{pp pos pos1 pos2 pos3 pc:ag}{c n:Str}{i nn:Nat}{AS:Stmt}{body:List Stmt}{newId:String}{up:bL->bL}
variable(K cl X)
def tN(e:af)(m:ME):Prop:=X.K=K->jI X e λE=>tP K cl E (bU K) m
variable{K cl X}
def pM(f:FM)(ds:AI)(ms:MA):ME:=λρ S=>(nH (ms ρ S)).bind λxs S1=>frz S1.length (f (xs++ds.map .pv) S1)
def pV(ma me:ME):ME:=λρ S=>(nH (ma ρ S)).bind λu S1=>(me ρ S1).bind λv S2=>nK dA [u,v] S2
theorem jI.imp{te te':XK->TE}(h:jI X e te)(i:∀E σ H Q,te' E σ H Q->te E σ H Q):jI X e te':=λAM s σ H Q E Ex I q hx=>h AM s σ H Q E Ex I (i E σ H Q q) hx
theorem Yv(hxe:X.xe=λ_ _=>False)(F:cK X.prog X.w X.K X.mg X.base (aN X.prog X.w) k f fd ps (hZ K cl g))(hr:bW k X.A)(hg:Gl X x)(hm:X.mg x=some (.ref f))(hkp:ce X.K (.ref f)=true)
  (hb:eM X.K fd ps ds)(hd:bA dvs ds)(hv:Dv dv dvs)(ha:dJ K cl E0 X (e::es) ms)
  (hdb:(x==("__debug__":Str))=false:=by decide)(he:starEach (e::es) X.env=(false,eval e X.env)::starEach es X.env:=by rfl)(hpl:(backTo pos (starEach es X.env)).any (·.1)=false:=by rfl):
  tN K cl X (.Call (.Name x pp) (e::es) [] pos) (pM g dv ms):=by
 intro hK;refine jI.imp (Ur hxe F hr hg hm hkp hb hd (ha hK) hdb he hpl) ?_
 rintro E σ H Q ⟨p,S,ρ,s,ev,h⟩
 refine⟨p,S,ρ,s,ev,?_⟩;unfold pM at h;cases z:ms ρ S with
 |ok xs S1=>
  rw[z]at h;intro q H1 vs st sm r;exact⟨q,S1,xs++dv.map .pv,sm,oH r (hv K q H1),rM sm (bR.mono h st)⟩
 |exc m S1=>rw[z]at h;exact h.elim
 |fail=>rw[z]at h;exact h.elim
theorem Dw{x1}(hxe:X.xe=λ_ _=>False)(ha:aO K cl E0 X a ma)(he:tN K cl X e me)
  (hs:starEach [a,e] X.env=[(false,eval a X.env),(false,eval e X.env)]:=by rfl):tN K cl X (.Tuple [a,e] x1 pos) (pV ma me):=by
 intro hK;refine jI.imp (Bq hxe (ha hK) (he hK) hs) ?_
 rintro E σ H Q ⟨p,S,ρ,s,ev,h⟩
 refine⟨p,S,ρ,s,ev,?_⟩;unfold pV at h;cases z:ma ρ S with
 |exc m S1=>rw[z]at h;exact h.elim
 |fail=>rw[z]at h;exact h.elim
 |ok u S1=>
  rw[z]at h;have h:bR K cl (bU K) p H ((me ρ S1).bind λv S2=>nK dA [u,v] S2) Q E:=h;intro q H1 u' st sm r;refine⟨q,S1,ρ,sm,st.repE ev,?_⟩;cases z2:me ρ S1 with
  |fail=>rw[z2]at h;exact h.elim
  |exc n S2=>
   rw[z2]at h;intro q2 H2 st2 sm2;exact h q2 H2 (st.trans st2) sm2
  |ok v S2=>
   rw[z2]at h;have h:bR K cl (bU K) p H (nK dA [u,v] S2) Q E:=h;intro q2 H2 v' st2 sm2 r2 t ht;have h:=bR.mono h (st.trans st2);refine oN (r:=λxs H Q=>xs.length<=sizeLine/\∀t,H t=none->Q (.ref t) (aM H t (.tup xs))) (f:=dA) (λ{p S H as c xs Q} s r e k=>?_) sm2 (.cons (st2.repA r) (.cons r2 .nil)) h |>.2 t ht;unfold dA at e;split at e
   .rename_i hl
    cases e;rw[r.length,<-gO]at hl;exact⟨hl,λt ht=>k _ _ (dY ht) (kJ s r hl ht)⟩
   .cases e
theorem Qc{c:Addr->Prop}:∀{vs:AI},(∀v∈vs,qA v=true)->aJ K c H vs (vs.map nZ)
 |[],_=>.nil
 |v::vs,h=>.cons (iF (h v bi)) (Qc λu hu=>h u (cj _ hu))
theorem bY.setT{ρ:bL}{σ:St}(s:aQ K p S H)(ev:bY K p H ρ σ){t:Addr}(ht:H t=none){vs:AI}(fl:∀v∈vs,qA v=true)(hl:vs.length<=sizeLine)(i:Nat):bY K p (aM H t (.tup (vs.map nZ))) (ρ.set i (some (.pv (.tup vs)))) (σ.set i (some (.ref t))):=
 ((s.same (dY ht)).repE ev).set (v:=.pv (.tup vs)) (x:=.ref t) (kJ s (Qc fl) (by rw[az];exact hl) ht) i
def pW(me:ME)(c:Str)(nn j:Nat)(up:bL->bL):MS:=λρ S=>if ρ.length=nn then(match me ρ S with
 |.ok v S2=>.nx (ρ.set j (some v)) S2
 |.exc n S2=>if n=c then .nx (up ρ) S2 else .fail
 |.fail=>.fail)else .fail
theorem Qp{jv:Nat}{xv:Str}{posv:ag}{ts:Addr->Obj->TS}(stk:X.stack=X.env::X.outer)(hN:X.N.Nodup)(hi:X.N[i]?=some n)(hk:X.env.scope.names.lookup n=some .local)
  (hgc:Gl X c)(hmc:X.mg c=some (.ref (cl c)))(hxC:br X.K (cl c) cL newId=true)(he:tN K cl X e me)
  (hjv:X.N[jv]?=some xv)(hxv:jG X.env.scope xv)(hs:∀y oe,oe.cls=.ref (cl c)->eA (X.mk1 y [(y,oe)]) (AS::body) (ts y oe))
  (hts:∀(y:Addr)(oe:Obj)(D:jD)(σ:St)(H:Hp)(p:Ph)(S:aH)(ρ:bL),aQ K p S H->σ.length=nn->bY K p H ρ σ->(∀H' σ',cE H H'->bY K p H' (up ρ) σ'->D.nx σ' H')->
   ts y oe {nx:=λσ' H'=>D.nx (σ'.set i none) H',rt:=D.rt,bk:=λσ' H'=>D.bk (σ'.set i none) H',ct:=λσ' H'=>D.ct (σ'.set i none) H'} (σ.set i (some (.ref y))) H)
  (hsw:swapsWith e (some (.Name xv posv)) pos1.line X.env=pure false:=by rfl)
  (hfv:X.fn xv=true\/X.env.scope.names.lookup xv=some .local:=by first |exact .inl rfl |exact .inr rfl |assumption)
  (hfr:X.env.frame=some X.env.locals:=by rfl)
  (hdc:(c==("__debug__":Str))=false:=by decide):
  eC K cl E0 X (.Try [.Assign [.Name xv posv] e pos1] [.ExceptHandler (some (.Name c pc)) (some n) (AS::body) pos2] [] [] pos3) (pW me c nn jv up):=by
 intro hK;refine PS.imp (Lu stk hN hi hk hgc hmc hxC (he hK) hjv hxv hs hsw hfv hfr hdc) ?_
 rintro D σ H ⟨p,S,ρ,s,ev,h⟩
 unfold pW at h;split at h
 .rename_i hl
  refine⟨p,S,ρ,s,ev,?_⟩;cases z:me ρ S with
  |ok v S2=>
   simp only[z]at h;intro q2 H2 y st2 sm2 r2;exact h q2 H2 _ st2 sm2 ((st2.repE ev).set r2 jv)
  |exc m S2=>
   simp only[z]at h;split at h
   .rename_i hm
    subst hm;intro q2 H2 st2 sm2;refine⟨rfl,λy oe hc=>hts y oe D σ H2 q2 S2 ρ sm2 (by rw[<-ev.len];exact hl) (st2.repE ev) λH' σ' hs e'=>h q2 H' σ' (st2.trans (sm2.same hs)) (sm2.ofSame hs) e'⟩
   .exact h.elim
  |fail=>simp only[z]at h;exact h.elim
 .exact h.elim
end
section
variable{K:ae}{cl:Str->Addr}{E:XK}{X:Cx}{a b:af}{ma mb:ME}{pos:ag}
end
end L2.Pp
namespace L2
open PySem PySem.Spec PyProof.Rows Bn
section
variable{X:Cx}{k:Nat}{p pos pos1 pos2 pos3 pc:ag}{e:af}{te:XK->TE}{c:Str}{C:Addr}{AS:Stmt}{body:List Stmt}{newId:String}
end
end L2
namespace L2.Pp
open PySem PySem.Spec PyProof.Rows Bn
section
variable{K:ae}{cl:Str->Addr}{E:XK}{X:Cx}{a b e:af}{m me:ME}{ms:MA}{pos pos1 pos2 pos3 pc:ag}{c:Str}{nn:Nat}{AS:Stmt}{body:List Stmt}{newId:String}{up:bL->bL}
end
section
variable{M:fi}{A:ai}{E:Value->Shared->Prop}{s:Shared}{env:Env}
end
end L2.Pp
namespace L2
open PySem PySem.Spec PyProof.Rows Bn L2.Pp
section
variable{P:Program}{w:ah}{K:ae}{mg:Str->AF}{base:Heap}{N:List Str}{qual:Str}{scope:Scope}{f:Addr}{cd:Value}{A:ai}{outer:List Env}{AN:Shared}{AO:Hp}{E:XK}
variable{sc:Scope}{own:List Str}{cap:List (Nat×Str)}{AM:List (Addr×Obj)}{σ:St}{H:Hp}{s:Shared}{elt target iter:af}{pos pos':ag}{wi:TI}{g:TG}{te:TE}{Q:VK}
end
end L2
namespace L2.Pp
open PySem PySem.Spec PyProof.Rows Bn
section
variable{P:Program}{w:ah}{K:ae}{mg:Str->AF}{base:Heap}{N:List Str}{qual:Str}{scope:Scope}{f:Addr}{cd:Value}{A:ai}{outer:List Env}{AN:Shared}{AO:Hp}{E:XK}{cl:Str->Addr}
variable{sc:Scope}{own:List Str}{cap:List (Nat×Str)}{elt target iter:af}{pos:ag}{mi:MI}{g:GM}{me:ME}
end
section
variable{K:ae}
end
section
variable{K:ae}{X:Cx}
end
end L2.Pp
namespace L2
open PySem PySem.Spec PyProof.Rows Bn
section
variable{prog:Program}{w:ah}{A:ai}{R:jg->Shared->Prop}{s:Shared}
end
section
variable{X:Cx}{sc:Scope}{own:List Str}{cap:List (Nat×Str)}{AM:List (Addr×Obj)}{σ:St}{H:Hp}{s:Shared}{elt target iter cnd:af}{pos pos':ag}{wi:TI}{g:TG}{tc:TT}{te:TE}{Q:VK}
end
end L2
namespace L2.Pp
open PySem PySem.Spec PyProof.Rows Bn
theorem n1{n i:Nat}{P:Prop}(h:i<n)(p:P):∃m',m'<n-i/\(m'=n-(i+1)/\i+1<=n/\P):=⟨n-(i+1),by omega,rfl,h,p⟩
section
variable{K:ae}{cl:Str->Addr}{E:XK}{X:Cx}{p q:Ph}{H H':Hp}{S:aH}{sc:Scope}{own:List Str}{cap:List (Nat×Str)}{elt target iter cnd:af}{pos:ag}{mi:MI}{g:GM}{mc:MT}{me:ME}
end
end L2.Pp
namespace L2
open PySem PySem.Spec PyProof.Rows Bn
open L2.Pp
section
variable{X:Cx}{AM:List (Addr×Obj)}{σ:St}{H:Hp}{s:Shared}{c:Addr->Prop}{a b:Addr}{n:Bool}{k:lA n}{ks:AI}{us:AE}
theorem Fb:∀{l:AA}{vs:List V},aJ X.K c H (l.map PV.int) vs->vs=l.map V.int
 |[],vs,h=>by
  unfold jp aJ at h;exact h
 |i::l,vs,h=>by
  rw[cw]at h;unfold aJ at h;obtain⟨v,r,rfl,h1,h2⟩:=h;unfold aK at h1;rw[h1,Fb h2];rfl
theorem Jv(I:aD X AM σ H s){l:AA}(r:aK X.K c H (.tup (l.map PV.int)) (.ref b)):eP s.heap l b:=by
 unfold aK at r;obtain⟨a,vs,e,sq,_,r⟩:=r;cases e;obtain⟨its,rv,⟨o,ho,hc,m,hd⟩,_⟩:=I.tuple sq;rw[Fb r]at rv;exact⟨o,its.toArray,m,ho,hc,hd,by simpa using rv⟩
theorem La(I:aD X AM σ H s):∀{l:AC}{vs:List V}{its:AE},aJ X.K c H (l.map λr:AA=>PV.tup (r.map PV.int)) vs->bA vs its->cp (λk v=>∃b,v=bc b/\eP s.heap k b) l its
 |[],vs,its,h,rv=>by
  unfold jp aJ at h;subst h;cases rv;exact .nil
 |i::l,vs,its,h,rv=>by
  rw[cw]at h;unfold aJ at h;obtain⟨v,r,rfl,h1,h2⟩:=h;cases rv with
  |cons e t=>
   have h1':=h1;unfold aK at h1';obtain⟨a,ws,rfl,_⟩:=h1';cases e;exact .cons ⟨_,rfl,Jv I h1⟩ (La I h2 t)
theorem wM:∀{ps:AI}{vs:List V}{i:Nat}{v:V},aJ X.K c H ps vs->vs[i]?=some v->∃p,ps[i]?=some p/\aK X.K c H p v:=λ{ps vs i v} r e=>by
 have hi:i<ps.length:=by
  rw[r.length];exact(ck.mp e).1
 obtain⟨u,e1,e2⟩:=r.get (ax hi);rw[e]at e1;cases e1;exact⟨_,ax hi,e2⟩
end
end L2
namespace L2.Pp
open PySem PySem.Spec PyProof.Rows Bn
section
variable{K:ae}{cl:Str->Addr}{E:XK}{X:Cx}{p q:Ph}{H H':Hp}{S:aH}{a b e o i v:af}{es:List af}{m md mk mv:ME}{ms:MA}{pos:ag}
end
end L2.Pp
namespace L2
open PySem PySem.Spec PyProof.Rows Bn L2.Pp
section
variable{prog:Program}{w:ah}{A:ai}{E:Value->Shared->Prop}{s:Shared}{it d i ep:Nat}{es:Array DictEntry}
end
section
variable{X:Cx}
end
section
variable{prog:Program}{w:ah}{A:ai}{E:Value->Shared->Prop}{s:Shared}{v d ep:Nat}{es:Array DictEntry}
end
section
variable{X:Cx}
end
end L2
namespace L2.Pp
open PySem PySem.Spec PyProof.Rows Bn
section
variable{K:ae}{cl:Str->Addr}{E:XK}{X:Cx}{p q:Ph}{H H':Hp}{S:aH}{a b e o i v:af}{es:List af}{m md mk mv:ME}{ms:MA}{pos:ag}
end
end L2.Pp
namespace L2
open PySem PySem.Spec PyProof.Rows Bn
section
variable{X:Cx}
end
section
variable{X:Cx}{sc:Scope}{own:List Str}{cap:List (Nat×Str)}{AM:List (Addr×Obj)}{σ:St}{H:Hp}{s:Shared}{elt target iter:af}{pos pos':ag}{wi:TI}{g:TG}{te:TE}{Q:VK}
end
end L2
namespace L2.Pp
open PySem PySem.Spec PyProof.Rows Bn
section
variable{K:ae}{cl:Str->Addr}{E:XK}{X:Cx}{p q:Ph}{H H':Hp}{S:aH}{a b e o i v:af}{es:List af}{m ma mb md mk mv:ME}{ms:MA}{pos:ag}
variable{sc:Scope}{own:List Str}{cap:List (Nat×Str)}{elt target iter:af}{mi:MI}{g:GM}{me:ME}
end
section
variable{K:ae}{cl:Str->Addr}{E:XK}{X:Cx}{a b:af}{ma mb:ME}{pos:ag}
end
section
variable{P:Program}{w:ah}{K:ae}{mg:Str->AF}{base:Heap}{cl:Str->Addr}{x qual:Str}{st:Stmt}{f:Addr}{fd:ay}{N ps:List Str}{k np n:Nat}{b:MS}
variable{so sc sc1:Scope}{own own1:List Str}{cap cap1:List (Nat×Str)}{cd:Value}{A:ai}{outer:List Env}{s:Shared}{H:Hp}{E:XK}{C:Addr}{AN:Shared}{AO:Hp}{ex:List Addr}
theorem xX(a:sc.kind=.function:=by rfl)(b:∀y∈sc.names,y.2=.local->sc.names.lookup y.1=some .local:=by decide+kernel)(c:∀y∈sc.names,y.2≠.cell:=by decide+kernel)(d:∀y∈sc.names,y.2=.free->so.names.lookup y.1=some .cell:=by decide+kernel)(e:∀p∈cap,N[p.1]?=some p.2:=by decide+kernel)(g:∀p∈cap,sc.names.lookup p.2=some .free:=by decide+kernel):gG (aR eT P w K mg base N qual so f cd A outer s H E).nox sc own cap:=Di so N rfl rfl a b c d e g
theorem cF{N ps:List Str}{sc:Scope}(a:sc.kind=.function:=by rfl)(b:sc.isCoroutine=false:=by rfl)(c:sc.isGenerator=false:=by rfl)(d:N.Nodup:=by decide+kernel)(e:N.take ps.length=ps:=by rfl)(f:∀x∈ps,sc.names.lookup x=some .local\/sc.names.lookup x=some .cell:=by decide+kernel)(g:∀y∈sc.names,y.2≠.free:=by decide+kernel):fQ N ps sc:=⟨a,b,c,d,e,f,g⟩
def sY(P:Program)(w:ah)(K:ae)(mg:Str->AF)(base:Heap)(cl:Str->Addr)(x:Str)(k:Nat)(ps:List Str)(g:FM):Prop:=∃(a:Addr)(d:ay),cK P w K mg base (aN P w) k a d ps (hZ K cl g)/\cK P w K mg base eT k a d ps (jV K cl g)/\eM K d ps []/\ce K (.ref a)=true/\mg x=some (.ref a)
theorem yL{g:FM}{a:Addr}{d:ay}(G:cK P w K mg base (aN P w) k a d ps (hZ K cl g))(b:eM K d ps [])(kp:ce K (.ref a)=true)(n:mg x=some (.ref a)):sY P w K mg base cl x k ps g:=⟨_,_,G,x0 G,b,kp,n⟩
end
structure Bx where
 P:Program
 w:ah
 K:ae
 mg:Str->AF
 base:Heap
 cl:Str->Addr
abbrev cY(B:Bx)(x:Str)(k:Nat)(ps:List Str)(g:FM):Prop:=yO B.P B.w B.K B.mg B.base B.cl x k ps g
abbrev mE(B:Bx)(x:Str)(k:Nat)(ps:List Str)(g:FM):Prop:=sY B.P B.w B.K B.mg B.base B.cl x k ps g
def HF(K:ae)(x:Str)(st:Stmt):Prop:=∃(f:Addr)(fd:ay),ar K mainGlobals x=some (some (.ref f))/\fO K x x st f fd
def XG(K:ae)(mg:Str->AF):Prop:=∃h:Heap,K.In h/\h.Ns mainGlobals mg
section
variable{B:Bx}{x:Str}{st:Stmt}{f:Addr}{fd:ay}{N ps:List Str}{k np n:Nat}{b:MS}
theorem Rh(X:XG B.K B.mg)(q:HF B.K x st):∃f fd,fO B.K x x st f fd/\ce B.K (.ref f)=true/\B.mg x=some (.ref f):=by
 obtain⟨f,fd,a,F⟩:=q;obtain⟨h,X,G⟩:=X;exact⟨f,fd,F,F.kp,fu X G a⟩
theorem F7{K:ae}{oc:Value}{od an:AG}{osl:Array AF}{kV doc pm cdv ct:Value}(a:ar K mainGlobals x=some (some (.ref f)))(l:K.lookup f=some ⟨oc,od,.func (cc x x (dG st) (cG st) (bK st) .none kV doc pm an cdv ct),osl⟩)
  (c:eh K cdv x=true)(k:ce K (.ref f)=true):HF K x st:=⟨_,_,a,pO l c k⟩
theorem Vk(F:fO B.K x x st f fd)(h:∀(kV doc pm:Value)(an:AG)(cdv ct:Value)(us:AE),us.length=ps.length->bindArgs (cc x x (dG st) (cG st) (bK st) .none kV doc pm an cdv ct) ⟨us,[]⟩=pure (ps.zip us)):eM B.K fd ps []:=F.binds λkV doc pm an cdv ct us hl=>h kV doc pm an cdv ct us hl
theorem dB(X:XG B.K B.mg)(q:HF B.K x st)(S:fQ N ps (bK st))(hb:N.Nodup->∀(f:Addr)(cdv:Value)(A:ai)(outer:List Env)(s:Shared)(H:Hp)(E:XK),bW k (A.deeper (envOfC x (bK st) s.heap.objs.size f cdv))->fB B.K B.cl E0 (aR eT B.P B.w B.K B.mg B.base N x (bK st) f cdv A outer s H E).nox (cG st) b)(hnp:ps.length=np:=by rfl)(hn:N.length=n:=by rfl)
  (h:∀(kV doc pm:Value)(an:AG)(cdv ct:Value)(us:AE),us.length=ps.length->bindArgs (cc x x (dG st) (cG st) (bK st) .none kV doc pm an cdv ct) ⟨us,[]⟩=pure (ps.zip us):=by intro _ _ _ _ _ _ us h;rcases us with _ |⟨_,_ |⟨_,_ |⟨_,_ |⟨_,_ |⟨_,_ |⟨_,_⟩⟩⟩⟩⟩⟩<;>first |(cases h;done) |rfl |(simp at h)):cY B x (k+1) ps (aS np n b):=by
 obtain⟨f,fd,F,kp,m⟩:=Rh X q;exact⟨f,fd,Qk F S hnp hn λcdv A outer s H E hr=>hb S.nd f cdv A outer s H E hr,Vk F h,kp,m⟩
theorem tK(X:XG B.K B.mg)(q:HF B.K x st)(S:fQ N ps (bK st))(hb:N.Nodup->∀(f:Addr)(cdv:Value)(A:ai)(outer:List Env)(s:Shared)(H:Hp)(E:XK),bW k (A.deeper (envOfC x (bK st) s.heap.objs.size f cdv))->fB B.K B.cl E (aR (aN B.P B.w) B.P B.w B.K B.mg B.base N x (bK st) f cdv A outer s H E) (cG st) b)(hnp:ps.length=np:=by rfl)(hn:N.length=n:=by rfl)
  (h:∀(kV doc pm:Value)(an:AG)(cdv ct:Value)(us:AE),us.length=ps.length->bindArgs (cc x x (dG st) (cG st) (bK st) .none kV doc pm an cdv ct) ⟨us,[]⟩=pure (ps.zip us):=by intro _ _ _ _ _ _ us h;rcases us with _ |⟨_,_ |⟨_,_ |⟨_,_ |⟨_,_ |⟨_,_ |⟨_,_⟩⟩⟩⟩⟩⟩<;>first |(cases h;done) |rfl |(simp at h)):mE B x (k+1) ps (aS np n b):=by
 obtain⟨f,fd,F,kp,m⟩:=Rh X q;exact yL (okX F S hnp hn λcdv A outer s H E hr=>hb S.nd f cdv A outer s H E hr) (Vk F h) kp m
theorem M8(F:fO B.K x x st f fd)(S:fQ N ps (bK st))(hb:N.Nodup->∀(f:Addr)(cdv:Value)(A:ai)(outer:List Env)(s:Shared)(H:Hp)(E:XK),bW k (A.deeper (envOfC x (bK st) s.heap.objs.size f cdv))->fB B.K B.cl E0 (aR eT B.P B.w B.K B.mg B.base N x (bK st) f cdv A outer s H E).nox (cG st) b)(hnp:ps.length=np:=by rfl)(hn:N.length=n:=by rfl):cK B.P B.w B.K B.mg B.base eT (k+1) f fd ps (jV B.K B.cl (aS np n b)):=Qk F S hnp hn λcdv A outer s H E hr=>hb S.nd f cdv A outer s H E hr
theorem Tj{dsv:Array Value}(F:jX B.K x x st f fd dsv)(S:fQ N ps (bK st))(hb:N.Nodup->∀(f:Addr)(cdv:Value)(A:ai)(outer:List Env)(s:Shared)(H:Hp)(E:XK),bW k (A.deeper (envOfC x (bK st) s.heap.objs.size f cdv))->fB B.K B.cl E (aR (aN B.P B.w) B.P B.w B.K B.mg B.base N x (bK st) f cdv A outer s H E) (cG st) b)(hnp:ps.length=np:=by rfl)(hn:N.length=n:=by rfl):cK B.P B.w B.K B.mg B.base (aN B.P B.w) (k+1) f fd ps (hZ B.K B.cl (aS np n b)):=K7 F S hnp hn λcdv A outer s H E hr=>hb S.nd f cdv A outer s H E hr
section
variable{X:Cx}{cl:Str->Addr}{E:XK}{e:af}{es:List af}{ms:MA}{pos p:ag}{k0:Nat}{g:FM}{dv:AI}
end
section
variable{P:Program}{w:ah}{K:ae}{mg:Str->AF}{base:Heap}{qual:Str}{so sc:Scope}{own:List Str}{cap:List (Nat×Str)}{cd:Value}{A:ai}{outer:List Env}{s:Shared}{H:Hp}{E:XK}
theorem wX(a:sc.kind=.function:=by rfl)(b:∀y∈sc.names,y.2=.local->sc.names.lookup y.1=some .local:=by decide+kernel)(c:∀y∈sc.names,y.2≠.cell:=by decide+kernel)(d:∀y∈sc.names,y.2=.free->so.names.lookup y.1=some .cell:=by decide+kernel)(e:∀p∈cap,N[p.1]?=some p.2:=by decide+kernel)(g:∀p∈cap,sc.names.lookup p.2=some .free:=by decide+kernel):gG (aR (aN P w) P w K mg base N qual so f cd A outer s H E) sc own cap:=Di so N rfl rfl a b c d e g
end
end
section
variable{P:Program}{w:ah}{K:ae}{mg:Str->AF}{base:Heap}{cl:Str->Addr}{E:XK}{x:Str}{k k0:Nat}{ps:List Str}{g:FM}{e:af}{es:List af}{ms:MA}{pos p:ag}
theorem Tz{N:List Str}{qual:Str}{scope:Scope}{fo:Addr}{cd:Value}{A:ai}{outer:List Env}{AN:Shared}{AO:Hp}(C:sY P w K mg base cl x k ps g)(hr:bW k0 (aR (aN P w) P w K mg base N qual scope fo cd A outer AN AO E).A)(hk:k<=k0)(hg:Gl (aR (aN P w) P w K mg base N qual scope fo cd A outer AN AO E) x)
  (ha:dJ K cl E (aR (aN P w) P w K mg base N qual scope fo cd A outer AN AO E) (e::es) ms)(hdb:(x==("__debug__":Str))=false:=by decide)
  (he:starEach (e::es) (aR (aN P w) P w K mg base N qual scope fo cd A outer AN AO E).env=(false,eval e (aR (aN P w) P w K mg base N qual scope fo cd A outer AN AO E).env)::starEach es (aR (aN P w) P w K mg base N qual scope fo cd A outer AN AO E).env:=by rfl)
  (hpl:(backTo pos (starEach es (aR (aN P w) P w K mg base N qual scope fo cd A outer AN AO E).env)).any (·.1)=false:=by rfl):
  aO K cl E (aR (aN P w) P w K mg base N qual scope fo cd A outer AN AO E) (.Call (.Name x p) (e::es) [] pos) (fE g [] ms):=by
 obtain⟨a,d,GX,_,b,kk,n⟩:=C;exact Bs GX (hr.mono hk) hg n kk b .nil Dv.nil ha hdb he hpl
theorem F4{X:Cx}(hp:iH (aN X.prog X.w) X E)(C:sY X.prog X.w X.K X.mg X.base cl x k ps g)(hr:bW k0 X.A)(hk:k<=k0)(hg:Gl X x)(ha:dJ X.K cl E X (e::es) ms)(hdb:(x==("__debug__":Str))=false:=by decide)(he:starEach (e::es) X.env=(false,eval e X.env)::starEach es X.env:=by rfl)(hpl:(backTo pos (starEach es X.env)).any (·.1)=false:=by rfl):
  aO X.K cl E X (.Call (.Name x p) (e::es) [] pos) (fE g [] ms):=by
 obtain⟨a,d,GX,_,b,kk,n⟩:=C;exact Zq hp GX (hr.mono hk) hg n kk b .nil Dv.nil ha hdb he hpl
end
end L2.Pp
namespace L2
open PySem PySem.Spec PySem.W PyProof.Rows Bn
section
variable{K:ae}{x D C:Addr}
end
section
variable{X:Cx}{p pos pos1 pos2 pos3 pos4 pc pd:ag}{e:af}{te:XK->TE}{c1 c2 n:Str}{C1 C2:Addr}{i:Nat}{b₁ b₂:Stmt}{body1 body2:List Stmt}{newId1 newId2:String}
end
end L2
namespace L2.Pp
open PySem PySem.Spec PyProof.Rows Bn
section
variable{K:ae}{cl:Str->Addr}{E:XK}{X:Cx}{p pos pos1 pos2 pos3 pos4 pc pd:ag}{e:af}{me:ME}{c1 c2 n:Str}{i nn:Nat}{b₁ b₂:Stmt}{body1 body2:List Stmt}{newId1 newId2:String}{up1 up2:bL->bL}
end
end L2.Pp
namespace L2
open PySem PySem.Spec PyProof.Rows Bn
section
open PySem.W (KasT kas_sort kas_asc kas_desc kas_rev kas_tail3 kas_descPart kas_count kas_place kas_bin)
def fL{α:Type}(lt:Nat->Nat->Bool)(n:Nat):ik α->(α->Prop)->Prop
 |.ret a,Q=>Q a
 |.ask i j k,Q=>i<n/\j<n/\fL lt n (k (lt i j)) Q
section
variable{lt:Nat->Nat->Bool}{n:Nat}
theorem mJ{α β:Type}{f:α->ik β}{Q:β->Prop}:∀(t:ik α),fL lt n t (λa=>fL lt n (f a) Q)->fL lt n (t.bind f) Q
 |.ret _,h=>h
 |.ask i j k,h=>⟨h.1,h.2.1,mJ (k (lt i j)) h.2.2⟩
theorem kG{α:Type}{Q Q':α->Prop}(f:∀a,Q a->Q' a):∀(t:ik α),fL lt n t Q->fL lt n t Q'
 |.ret a,h=>f a h
 |.ask i j k,h=>⟨h.1,h.2.1,kG f (k (lt i j)) h.2.2⟩
theorem Ag{α:Type}{cmp:Nat->Nat->(Bool->Shared->Prop)->Shared->Prop}{s:Shared}(hc:∀i j(C:Bool->Shared->Prop),i<n->j<n->C (lt i j) s->cmp i j C s){Q:α->Shared->Prop}:∀(t:ik α),fL lt n t (λa=>Q a s)->t.kasWp cmp Q s
 |.ret _,h=>h
 |.ask i j k,h=>hc i j _ h.1 h.2.1 (Ag hc (k (lt i j)) h.2.2)
structure jH(lt:Nat->Nat->Bool)(n:Nat):Prop where
 tr:∀i j k,i<n->j<n->k<n->lt i j=true->lt j k=true->lt i k=true
 tot:∀i j,i<n->j<n->i≠j->lt i j=true\/lt j i=true
def eB(n:Nat)(p:Array Nat):Prop:=p.toList.Perm (aq n)
def Up(lt:Nat->Nat->Bool)(p:Array Nat)(m:Nat):Prop:=∀i j,i<j->j<m->lt (p.getD i 0) (p.getD j 0)=true
def Dn(lt:Nat->Nat->Bool)(p:Array Nat)(m:Nat):Prop:=∀i j,i<j->j<m->lt (p.getD j 0) (p.getD i 0)=true
theorem eB.size{p:Array Nat}(h:eB n p):p.size=n:=by
 have:=List.Perm.length_eq h;simpa using this
theorem gD{p:Array Nat}{k:Nat}(h:k<p.size):p.getD k 0=p[k]:=by simp[Array.getD,h]
theorem gD?{p:Array Nat}{k:Nat}:p.getD k 0=(p[k]?).getD 0:=by simp[Array.getD_eq_getD_getElem?]
theorem eB.bd{p:Array Nat}(h:eB n p){k:Nat}(hk:k<n):p.getD k 0<n:=by
 have hs:k<p.size:=by rw[h.size];exact hk
 rw[gD hs];have:p[k]∈aq n:=List.Perm.subset h (by simp);simpa using this
theorem eB.ne{p:Array Nat}(h:eB n p){i j:Nat}(hi:i<n)(hj:j<n)(ne:i≠j):p.getD i 0≠p.getD j 0:=by
 have hi':i<p.size:=by rw[h.size];exact hi
 have hj':j<p.size:=by rw[h.size];exact hj
 rw[gD hi',gD hj'];intro e;have nd:p.toList.Nodup:=(List.Perm.nodup_iff h).mpr List.nodup_range;refine ne (Pp.nodup_idx nd (a:=p[i]) (by simp[hi']) ?_);rw[e];simp[hj']
theorem xG(S:jH lt n){p:Array Nat}(hp:eB n p):∀f m,1<=m->m+f=n->Up lt p m->fL lt n (kas_asc p f m) (λr=>m<=r/\r<=n/\Up lt p r/\(r=n\/lt (p.getD r 0) (p.getD (r-1) 0)=true))
 |0,m,h1,h2,h3=>⟨ak _,by omega,h3,.inl (by omega)⟩
 |f+1,m,h1,h2,h3=>by
  refine⟨hp.bd (by omega),hp.bd (by omega),?_⟩;cases z:lt (p.getD m 0) (p.getD (m-1) 0)with
  |true=>exact⟨ak _,by omega,h3,.inr z⟩
  |false=>
   show fL lt n (kas_asc p f (m+1)) _;refine kG (λr ⟨a,b,c,d⟩=>⟨by omega,b,c,d⟩) _ (xG S hp f (m+1) (by omega) (by omega) λi j hij hj=>?_)
   by_cases hjm:j<m
   .exact h3 i j hij hjm
   .have e:j=m:=by omega
    subst e;have l1:lt (p.getD (j-1) 0) (p.getD j 0)=true:=by
     rcases S.tot _ _ (hp.bd (show j-1<n by omega)) (hp.bd (show j<n by omega)) (hp.ne (by omega) (by omega) (by omega))with h |h
     .exact h
     .rw[z]at h;cases h
    by_cases hi:i=j-1
    .rw[hi];exact l1
    .exact S.tr _ _ _ (hp.bd (by omega)) (hp.bd (by omega)) (hp.bd (by omega)) (h3 i (j-1) (by omega) (by omega)) l1
theorem Nf(S:jH lt n){p:Array Nat}(hp:eB n p):∀f m,2<=m->m+f=n->Dn lt p m->fL lt n (kas_desc f p m 0) (λr=>r.1=p/\r.2.2=0/\2<=r.2.1/\r.2.1<=n/\Dn lt p r.2.1)
 |0,m,h1,h2,h3=>⟨rfl,rfl,h1,by show m<=n;omega,h3⟩
 |f+1,m,h1,h2,h3=>by
  refine⟨hp.bd (by omega),hp.bd (by omega),?_⟩;cases z:lt (p.getD m 0) (p.getD (m-1) 0)with
  |true=>
   show fL lt n (kas_desc f p (m+1) 0) _;refine Nf S hp f (m+1) (by omega) (by omega) λi j hij hj=>?_
   by_cases hjm:j<m
   .exact h3 i j hij hjm
   .have e:j=m:=by omega
    subst e
    by_cases hi:i=j-1
    .rw[hi];exact z
    .exact S.tr _ _ _ (hp.bd (by omega)) (hp.bd (by omega)) (hp.bd (by omega)) z (h3 i (j-1) (by omega) (by omega))
  |false=>
   have l1:lt (p.getD (m-1) 0) (p.getD m 0)=true:=by
    rcases S.tot _ _ (hp.bd (show m-1<n by omega)) (hp.bd (show m<n by omega)) (hp.ne (by omega) (by omega) (by omega))with h |h
    .exact h
    .rw[z]at h;cases h
   refine⟨hp.bd (by omega),hp.bd (by omega),?_⟩;rw[l1];exact⟨rfl,rfl,h1,by show m<=n;omega,h3⟩
theorem eB.of{p q:Array Nat}(h:eB n p)(e:q.Perm p):eB n q:=(Array.Perm.toList e).trans h
theorem Wg{p:Array Nat}{m k:Nat}(hm:m<=p.size)(hk:k<m):(kas_rev p 0 m).getD k 0=p.getD (m-1-k) 0:=by
 unfold kas_rev;rw[gD?,gD?,getElem?_mirror_all hm,if_pos ⟨dh _,hk⟩,qv]
theorem Aq(S:jH lt n){p:Array Nat}(hp:eB n p){m:Nat}(h1:1<=m)(h2:m<=n)(h3:Dn lt p m):fL lt n (kas_tail3 m n p) (λr=>1<=r.1/\r.1<=n/\eB n r.2/\Up lt r.2 r.1):=by
 have hq:eB n (kas_rev p 0 m):=hp.of (mirror_perm _ _ _ _);refine mJ _ (kG (λr ⟨a,b,c,d⟩=>⟨by show 1<=r;omega,b,hq,c⟩) _ (xG S hq (n-m) m h1 (by omega) λi j hij hj=>?_));have hs:m<=p.size:=by rw[hp.size];exact h2
 rw[Wg hs (by omega),Wg hs hj];exact h3 _ _ (by omega) (by omega)
theorem Es(S:jH lt n)(h2:2<=n){p:Array Nat}(hp:eB n p):fL lt n (kas_count n p) (λr=>1<=r.1/\r.1<=n/\eB n r.2/\Up lt r.2 r.1):=by
 refine mJ _ (kG (λr hq=>?_) _ (xG S hp (n-1) 1 (ak _) (by omega) λi j hij hj=>by omega));rcases hq with⟨a,b,c,d⟩
 by_cases e:(r==n)=true
 .rw[if_pos e]
  exact⟨a,b,hp,c⟩
 .rw[if_neg e]
  have e:r≠n:=by simpa using e
  by_cases h:r>1
  .rw[if_pos h]
   have l:lt (p.getD 0 0) (p.getD (r-1) 0)=true:=c 0 (r-1) (by omega) (by omega);refine⟨hp.bd (by omega),hp.bd (by omega),?_⟩;rw[l];exact⟨a,b,hp,c⟩
  .rw[if_neg h]
   have e1:r=1:=by omega
   subst e1;rcases d with d |d
   .exact absurd d e
   .refine mJ _ (kG (λr ⟨q1,q2,q3,q4,q5⟩=>?_) _ (Nf S hp (n-(1+1)) (1+1) (ak _) (by omega) λi j hij hj=>?_))
    .have e1:i=0:=by omega
     have e2:j=1:=by omega
     rw[e1,e2];exact d
    .rw[if_neg (by rw[q2];exact dq 0),q1]
     exact Aq S hp (by omega) q4 q5
theorem vJ(S:jH lt n){p:Array Nat}(hp:eB n p){k:Nat}(hk:k<n)(u:Up lt p k):∀f l r,l<=r->r<=k->r-l<=f->(∀i,i<l->lt (p.getD i 0) (p.getD k 0)=true)->(∀i,r<=i->i<k->lt (p.getD k 0) (p.getD i 0)=true)->
  fL lt n (kas_place p k f l r) (λx=>x<=k/\(∀i,i<x->lt (p.getD i 0) (p.getD k 0)=true)/\∀i,x<=i->i<k->lt (p.getD k 0) (p.getD i 0)=true)
 |0,l,r,h1,h2,h3,h4,h5=>⟨by omega,h4,λi a b=>h5 i (by omega) b⟩
 |f+1,l,r,h1,h2,h3,h4,h5=>by
  unfold kas_place
  by_cases h:l>=r
  .rw[if_pos h]
   exact⟨by omega,h4,λi a b=>h5 i (by omega) b⟩
  .rw[if_neg h]
   refine⟨hp.bd hk,hp.bd (by omega),?_⟩;cases z:lt (p.getD k 0) (p.getD ((l+r)/2) 0)with
   |true=>
    refine vJ S hp hk u f l ((l+r)/2) (by omega) (by omega) (by omega) h4 λi a b=>?_
    by_cases e:i=(l+r)/2
    .rw[e];exact z
    .exact S.tr _ _ _ (hp.bd hk) (hp.bd (by omega)) (hp.bd (by omega)) z (u _ i (by omega) b)
   |false=>
    have l1:lt (p.getD ((l+r)/2) 0) (p.getD k 0)=true:=by
     rcases S.tot _ _ (hp.bd (show(l+r)/2<n by omega)) (hp.bd hk) (hp.ne (by omega) hk (by omega))with h |h
     .exact h
     .rw[z]at h;cases h
    refine vJ S hp hk u f ((l+r)/2+1) r (by omega) h2 (by omega) (λi a=>?_) h5
    by_cases e:i=(l+r)/2
    .rw[e];exact l1
    .exact S.tr _ _ _ (hp.bd (by omega)) (hp.bd (by omega)) (hp.bd hk) (u i _ (by omega) (by omega)) l1
theorem Dh{p:Array Nat}{k l:Nat}(hk:k<p.size)(hl:l<=k)(j:Nat):(bubble p k (k-l)).getD j 0=if j=l then p.getD k 0 else if l<j/\j<=k then p.getD (j-1) 0 else p.getD j 0:=by
 have e:k-(k-l)=l:=by omega
 simp only[gD?];rw[getElem?_bubble hk (k-l) (by omega),e]
 repeat' split
 all_goals rfl
theorem Hi(S:jH lt n):∀f(p:Array Nat) k,eB n p->k+f=n->Up lt p k->fL lt n (kas_bin f p k) (λq=>eB n q/\Up lt q n)
 |0,p,k,hp,h2,u=>by
  have e:k=n:=by omega
  subst e;exact⟨hp,u⟩
 |f+1,p,k,hp,h2,u=>by
  have hk:k<n:=by omega
  refine mJ _ (kG (λl hq=>?_) _ (vJ S hp hk u k 0 k (dh _) (ak _) (by omega) (λi h=>by omega) λi h g=>by omega));rcases hq with⟨a,b,c⟩;refine Hi S f _ (k+1) (hp.of (bubble_perm _ _ _)) (by omega) λi j hij hj=>?_;have hs:k<p.size:=by rw[hp.size];exact hk
  rw[Dh hs a,Dh hs a]
  by_cases ei:i=l
  .rw[if_pos ei,if_neg (by omega),if_pos (by omega)]
   exact c (j-1) (by omega) (by omega)
  .rw[if_neg ei]
   by_cases ej:j=l
   .rw[if_pos ej,if_neg (by omega)]
    exact b i (by omega)
   .rw[if_neg ej]
    by_cases gi:l<i/\i<=k
    .rw[if_pos gi,if_pos (by omega)]
     exact u _ _ (by omega) (by omega)
    .rw[if_neg gi]
     by_cases gj:l<j/\j<=k
     .rw[if_pos gj]
      exact u _ _ (by omega) (by omega)
     .rw[if_neg gj]
      exact u _ _ (by omega) (by omega)
theorem Rv(S:jH lt n)(h2:2<=n):fL lt n (fg n) (λq=>eB n q/\Up lt q n):=by
 refine mJ _ (kG (λr hq=>?_) _ (Es S h2 (p:=db (aq n)) (List.Perm.refl _)));rcases hq with⟨a,b,c,d⟩
 by_cases h:r.1<n
 .rw[if_pos h]
  have e:max r.1 1=r.1:=by omega
  rw[e];exact Hi S _ _ _ c (by omega) d
 .rw[if_neg h]
  have e:r.1=n:=by omega
  exact⟨c,by rw[<-e];exact d⟩
end
section
variable{α:Type}{lt:α->α->Bool}
def ins(lt:α->α->Bool)(x:α):List α->List α
 |[]=>[x]
 |y::r=>if lt x y then x::y::r else y::ins lt x r
def nR(lt:α->α->Bool):List α->List α
 |[]=>[]
 |x::r=>ins lt x (nR lt r)
structure oE(lt:α->α->Bool):Prop where
 irr:∀x,lt x x=false
 tr:∀x y z,lt x y=true->lt y z=true->lt x z=true
 tot:∀x y,x≠y->lt x y=true\/lt y x=true
theorem wB(x:α):∀l,(ins lt x l).Perm (x::l)
 |[]=>.refl _
 |y::r=>by
  unfold ins;split
  .exact .refl _
  .exact((wB x r).cons y).trans (.swap x y r)
theorem qV:∀l,(nR lt l).Perm l
 |[]=>.refl _
 |x::r=>(wB x _).trans ((qV r).cons x)
theorem Mh(O:oE lt)(x:α):∀l,x∉l->l.Pairwise (λa b=>lt a b=true)->(ins lt x l).Pairwise (λa b=>lt a b=true)
 |[],_,_=>by simp[ins]
 |y::r,nx,h=>by
  unfold ins;split
  .rename_i z
   refine qq.mpr ⟨λa ha=>?_,h⟩;rcases bh.mp ha with rfl |ha
   .exact z
   .exact O.tr _ _ _ z ((qq.mp h).1 a ha)
  .rename_i z
   obtain⟨h1,h2⟩:=qq.mp h;refine qq.mpr ⟨λa ha=>?_,Mh O x r (λm=>nx (cj _ m)) h2⟩;rcases bh.mp ((wB x r).subset ha)with rfl |ha
   .rcases O.tot a y (λe=>nx (by rw[e];exact bi))with q |q
    .exact absurd q z
    .exact q
   .exact h1 a ha
theorem Af(O:oE lt):∀l:List α,l.Nodup->(nR lt l).Pairwise (λa b=>lt a b=true)
 |[],_=>.nil
 |x::r,h=>by
  obtain⟨h1,h2⟩:=io.mp h;exact Mh O x _ (λm=>h1 ((qV r).subset m)) (Af O r h2)
theorem Wu(O:oE lt){A B:List α}(hp:A.Perm B)(ha:A.Pairwise (λa b=>lt a b=true))(hb:B.Pairwise (λa b=>lt a b=true)):A=B:=
 hp.eq_of_pairwise (λu v _ _ h g=>by
  have:=O.tr _ _ _ h g;rw[O.irr]at this;cases this) ha hb
end
theorem Iu:oE HT.lexLt:=⟨iA,mM,λx y h=>(rR x y).elim (λe=>absurd e h) id⟩
end
section
open PySem.W (KasT kas_sort kas_ask KatTups kat_run kat_kind kas_item kat_snds KdlSrc kdl_extend)
section
variable{prog:Program}{w:ah}{A:ai}{E:Value->Shared->Prop}{s:Shared}
def Pk(prog:Program)(w:ah)(A:ai)(κ:qr)(lt:Nat->Nat->Bool)(vs:AE)(s:Shared)(a:Addr):Prop:=∀(h':Heap)(tk:Tok)(E:Value->Shared->Prop),(∀b o,b≠a->s.heap.get? b=some o->h'.get? b=some o)->
 (∀Q:qr->Shared->Prop,Q κ {s with heap:=h',toks:=tk}->wpAny (model prog w) A (keyKind' vs.toArray) Q E {s with heap:=h',toks:=tk})/\
 ∀i j(C:Bool->Shared->Prop),i<vs.length->j<vs.length->C (lt i j) {s with heap:=h',toks:=tk}->kas_ask prog w A κ vs i j C {s with heap:=h',toks:=tk}
def jK(lt:Nat->Nat->Bool)(p:List Nat):Prop:=p.Pairwise λi j=>lt i j=true
theorem Xu{lt:Nat->Nat->Bool}{p:Array Nat}{n:Nat}(hp:eB n p)(u:Up lt p n):jK lt p.toList:=by
 unfold jK;rw[vo];intro i j hi hj hij;have hs:=hp.size;rw[jy]at hi hj;have:=u i j hij (by omega);rw[gD hi,gD hj]at this;simpa using this
theorem Pl{a:Addr}{vs:AE}{lt:Nat->Nat->Bool}{κ:qr}{n:Nat}{P:uz->Shared->Prop}(ho:s.heap.get? a=some (seqObj "list" vs.toArray n))(h64:vs.length<64)(hS:jH lt vs.length)(hk:2<=vs.length->Pk prog w A κ lt vs s a)
  (h:∀p:List Nat,p.Perm (aq vs.length)->jK lt p->P (.done (.ret .none)) {s with heap:=sortedHeap s.heap a vs (db (p.map λi=>vs.getD i au))}):
  wpAny (model prog w) A (Builtin.«list.sort» ⟨[.ref a],[]⟩) P E s:=by
 have ha:a<s.heap.objs.size:=ao ho;obtain⟨e1,aF⟩:∃e1,(s.heap.update a (cr λ_=>(#[]:Array Value))).get? a=some (seqObj "list" #[] e1):=⟨_,lg ho λ_=>#[]⟩;have kp:∀b o,b≠a->s.heap.get? b=some o->(((s.heap.update a (cr λ_=>(#[]:Array Value))).push (seqObj "tuple" vs.toArray 0)).push (seqObj "list" #[] 0)).get? b=some o:=λb o hb e=>
  al _ (al _ ((ix _ _ _ _ hb).trans e))
 have na:(((s.heap.update a (cr λ_=>(#[]:Array Value))).push (seqObj "tuple" vs.toArray 0)).push (seqObj "list" #[] 0)).get? a=some (seqObj "list" #[] e1):=al _ (al _ aF);rw[list_sort_plain];refine aa (listItems_at ho rfl ?_);refine aa (mj ho rfl ?_ (by rw[am,dk];omega) (dh _));refine aa (mm aF rfl ?_);refine aa (uq ?_ (by show vs.length<=_;rw[dk];omega));refine aa (qo ?_ (dh _));refine dj ?_;show wpAny (model prog w) A _ P E {s with heap:=((s.heap.update a (cr λ_=>(#[]:Array Value))).push (seqObj "tuple" vs.toArray 0)).push (seqObj "list" #[] 0)};dsimp only
 by_cases hn2:vs.toArray.size<2
 .rw[if_pos hn2,if_pos hn2]
  refine aa (aj ?_);rw[StateT.run_pure];refine aa (aj ?_);dsimp only;refine aa (mm na rfl ?_);have hl2:vs.length<2:=by simpa using hn2
  have eo:(arrOf (SortSt.mk' general' (vs.toArray.zip vs.toArray) #[] 7 none)).map (·.2)=db ((aq vs.length).map λi=>vs.getD i au):=by
   show Array.map (λx=>x.2) (vs.toArray.zip vs.toArray)=_
   match vs,hl2 with
   |[],_=>simp
   |[v],_=>simp
  rw[eo];refine aa (mj na rfl ?_ (dh _) (by rw[am,az,kx,dk];omega));simp only[bne_self_eq_false,mf,if_false];refine aj (h _ (.refl _) ?_);unfold jK;rw[vo];intro i j hi hj hij;rw[kx]at hi hj;omega
 rw[if_neg hn2,if_neg hn2];have h2:2<=vs.length:=by simpa using hn2
 obtain⟨hkk,hc⟩:=hk h2 _ s.toks E kp;refine aa (hkk _ ?_);obtain⟨_,hc⟩:=hk h2 _ s.toks E kp;refine aa (cn (kat_run (Q:=λst' s'=>∃p:Array Nat,p.size=vs.length/\arrOf st'=p.map (kas_item (vs.toArray.zip vs.toArray))/\failedOf st'=none/\(eB vs.length p/\Up lt p vs.length)/\s'={s with heap:=((s.heap.update a (cr λ_=>(#[]:Array Value))).push (seqObj "tuple" vs.toArray 0)).push (seqObj "list" #[] 0)})
  (G:=λp s'=>(eB vs.length p/\Up lt p vs.length)/\s'={s with heap:=((s.heap.update a (cr λ_=>(#[]:Array Value))).push (seqObj "tuple" vs.toArray 0)).push (seqObj "list" #[] 0)})
  rfl h2 h64 (λp' st' s' a1 a2 a3 a4=>⟨p',a1,a2,a3,a4⟩) ?_) ?_ λ_ _ e=>e)
 .exact Ag (λi j C hi hj hC=>hc i j C hi hj hC) _ (kG (λp hp=>⟨hp,rfl⟩) _ (Rv hS h2))
 rintro⟨⟨⟩,st'⟩ s' ⟨p,hp,har,hf,hpl,rfl⟩
 dsimp only;have hout:=kat_snds rfl har;have hsz:(db (p.toList.map λi=>vs.getD i au)).size=vs.length:=by rw[am,az,jy,hp]
 rw[hout];refine aa (mm na rfl ?_);refine aa (mj na rfl ?_ (dh _) (di (oi hsz) (by rw[dk];omega)));rw[hf];simp only[bne_self_eq_false,mf,if_false];exact aj (h _ hpl.1 (Xu hpl.1 hpl.2))
theorem Tm{l:Addr}{vs:AE}{lt:Nat->Nat->Bool}{κ:qr}{Q:Value->Shared->Prop}(h64:vs.length<64)(hS:jH lt vs.length)(hk:∀h1 tk a,(∀b o',s.heap.get? b=some o'->h1.get? b=some o')->s.heap.get? a=none->2<=vs.length->Pk prog w A.in1.in1 κ lt vs {s with heap:=h1,toks:=tk} a)
  (hcol:∀(Q':AE->Shared->Prop)(E':Value->Shared->Prop),(∀h1 tk,(∀b o',s.heap.get? b=some o'->h1.get? b=some o')->Q' vs {s with heap:=h1,toks:=tk})->wpAny (model prog w) A.in1 (collect (.ref l)) Q' E' s)
  (h:∀(h1 h':Heap)(c:Nat)(tk:Tok)(p:List Nat),p.Perm (aq vs.length)->jK lt p->(∀b o',s.heap.get? b=some o'->h1.get? b=some o')->(∀b o',h1.get? b=some o'->h'.get? b=some o')->h'.get? h1.objs.size=some (seqObj "list" (db (p.map λi=>vs.getD i au)) c)->Q (.ref h1.objs.size) {s with heap:=h',toks:=tk}):
  wpAny (model prog w) A (call (.builtin "sorted") [.ref l]) Q E s:=by
 refine zy kind_sorted plain_sorted entry_sorted (args_sorted1 _) ?_;unfold zz;refine aa (m:=checkCount "sorted" 1 1 _) (aj ?_);refine aa (hcol _ _ λh1 tk k1=>?_);refine aa (qo ?_ (by rw[dk];omega));have hoL:(h1.push (seqObj "list" vs.toArray 0)).get? h1.objs.size=some (seqObj "list" vs.toArray 0):=cm _ rfl;show wpAny _ _ _ _ _ {s with heap:=h1.push (seqObj "list" vs.toArray 0),toks:=tk};refine aa (dj (jk slot_list_sort ⟨_,hoL,rfl⟩ entry_list_sort ?body (args_list_sort _)))
 case body=>
  have nn:s.heap.get? h1.objs.size=none:=by
   cases z:s.heap.get? h1.objs.size with
   |none=>rfl
   |some o=>exact absurd (ao (k1 _ _ z)) (dq _)
  refine Pl (s:={s with heap:=h1.push (seqObj "list" vs.toArray 0),toks:=tk}) hoL h64 hS (hk _ tk _ (λb o hb=>al _ (k1 b o hb)) nn) λp hp hu=>⟨_,rfl,aj ⟨_,rfl,?_⟩⟩;obtain⟨e1,aF⟩:∃e1,((h1.push (seqObj "list" vs.toArray 0)).update h1.objs.size (cr λ_=>(#[]:Array Value))).get? h1.objs.size=some (seqObj "list" #[] e1):=⟨_,lg hoL λ_=>#[]⟩;have dL:=al (seqObj "list" #[] 0) (al (seqObj "tuple" vs.toArray 0) aF);obtain⟨e2,ho3⟩:∃e2,(sortedHeap (h1.push (seqObj "list" vs.toArray 0)) h1.objs.size vs (db (p.map λi=>vs.getD i au))).get? h1.objs.size=some (seqObj "list" (db (p.map λi=>vs.getD i au)) e2):=⟨_,lg dL λ_=>db (p.map λi=>vs.getD i au)⟩;refine h h1 _ e2 tk p hp hu k1 (λb o' hb1=>?_) ho3;have hne:b≠h1.objs.size:=cf (ao hb1);exact(ix _ _ _ _ hne).trans (al _ (al _ ((ix _ _ _ _ hne).trans (al _ hb1))))
end
end
open L2.Pp
section
variable{X:Cx}{AM:List (Addr×Obj)}{σ:St}{H:Hp}{s:Shared}
theorem Tb{ts:List V}{its:AE}(rv:bA ts its):∀ps:List Nat,bA (ps.map λi=>ts.getD i .non) (ps.map λi=>its.getD i au)
 |[]=>.nil
 |i::ps=>by
  have hlen:=rv.length;refine .cons ?_ (Tb rv ps)
  by_cases hi:i<ts.length
  .obtain⟨v,e2,rr⟩:=rv.get (ax hi)
   have q1:ts.getD i .non=ts[i]:=by simp[ba,hi]
   have q2:its.getD i au=v:=by simp[ba,e2]
   show bO (ts.getD i .non) (its.getD i au);rw[q1,q2];exact rr
  .have q1:ts.getD i .non=.non:=by simp[ba,hi]
   have q2:its.getD i au=au:=by simp[ba,show its.length<=i by omega]
   show bO (ts.getD i .non) (its.getD i au);rw[q1,q2];rfl
end
end L2
namespace L2.Pp
open PySem PySem.Spec PyProof.Rows Bn
def Qj(u:AA):PV:=.tup (u.map .int)
theorem Df:∀{xs:AI}{is:AA},gB xs=some is->xs=is.map .int
 |[],is,e=>by cases e;rfl
 |.int i::r,is,e=>by
  unfold gB at e;split at e
  .rename_i js h
   cases e;rw[Df h];rfl
  .cases e
 |.non::_,_,e=>by cases e
 |.bl _::_,_,e=>by cases e
 |.tup _::_,_,e=>by cases e
 |.str _::_,_,e=>by cases e
 |.lst _::_,_,e=>by cases e
theorem Wf:∀{xs:AI}{uss:AC},gF xs=some uss->xs=uss.map Qj
 |[],uss,e=>by cases e;rfl
 |.tup us::r,uss,e=>by
  unfold gF at e;split at e
  .rename_i is uss' h1 h2
   cases e;rw[Wf h2,Df h1];rfl
  .cases e
 |.non::_,_,e=>by cases e
 |.bl _::_,_,e=>by cases e
 |.int _::_,_,e=>by cases e
 |.str _::_,_,e=>by cases e
 |.lst _::_,_,e=>by cases e
section
variable{K:ae}
end
section
variable{K:ae}{cl:Str->Addr}{E:XK}{X:Cx}{p q:Ph}{H H':Hp}{S:aH}{a b e o i v:af}{es:List af}{m md mk mv:ME}{ms:MA}{pos:ag}
end
end L2.Pp
namespace L2
open PySem PySem.Spec PyProof.Rows Bn
open L2.Pp
section
variable{prog:Program}{w:ah}{K:Type}[DecidableEq K]{knd:HeapKind prog w K}{A:ai}{E:Value->Shared->Prop}{s:Shared}{d a:Addr}{k:K}{xs:List (K×Addr×Value)}
end
section
variable{X:Cx}{AM:List (Addr×Obj)}{σ:St}{H:Hp}{s:Shared}
end
end L2
namespace L2.Pp
open PySem PySem.Spec PyProof.Rows Bn
section
variable{K:ae}{cl:Str->Addr}{E:XK}{X:Cx}{p q:Ph}{H H':Hp}{S:aH}{e:af}{es:List af}{m md mk mv:ME}{ms:MA}{pos:ag}
theorem Xs{c:Addr->Prop}{n:Bool}{k:lA n}{y:V}(ry:aK K c H (qG n k) y):∃b,y=.ref b:=by
 cases n with
 |false=>
  have ry:aK K c H (.tup (jp PV.int k)) y:=ry;unfold aK at ry;obtain⟨b,_,e,_⟩:=ry;exact⟨b,e⟩
 |true=>
  have ry:aK K c H (.tup (jp (λr:AA=>PV.tup (r.map PV.int)) k)) y:=ry;unfold aK at ry;obtain⟨b,_,e,_⟩:=ry;exact⟨b,e⟩
end
section
variable{K:ae}{cl:Str->Addr}{E:XK}{X:Cx}{p q:Ph}{H H':Hp}{S:aH}{a b e o i v:af}{es:List af}{m md mk mv:ME}{ms:MA}{pos:ag}
end
end L2.Pp
namespace L2
end L2
namespace L2.Pp
open PySem PySem.Spec PyProof.Rows Bn
section
variable{K:ae}{cl:Str->Addr}{E:XK}{X:Cx}{a:af}{m:ME}{pos:ag}
end
end L2.Pp
namespace L2
open PySem PySem.Spec PyProof.Rows Bn
open L2.Pp
open PySem.W (KatLex KatTups)
def fA:AC->AC->Bool
 |[],[]=>false
 |[],_::_=>true
 |_::_,[]=>false
 |x::xs,y::ys=>if x=y then fA xs ys else HT.lexLt x y
theorem Md:∀u:AC,fA u u=false
 |[]=>rfl
 |x::u=>by
  unfold fA;rw[if_pos rfl,Md u]
theorem Ge:∀u v:AC,u≠v->fA u v=true\/fA v u=true
 |[],[],h=>absurd rfl h
 |[],_::_,_=>.inl rfl
 |_::_,[],_=>.inr rfl
 |x::u,y::v,h=>by
  unfold fA
  by_cases e:x=y
  .subst e
   rw[if_pos rfl,if_pos rfl];exact Ge u v λz=>h (by rw[z])
  .rw[if_neg e,if_neg λz=>e z.symm]
   exact Iu.tot x y e
theorem Ea:∀u v w:AC,fA u v=true->fA v w=true->fA u w=true
 |[],[],_,h,_=>by cases h
 |[],_::_,[],_,h=>by cases h
 |[],_::_,_::_,_,_=>rfl
 |_::_,[],_,h,_=>by cases h
 |_::_,_::_,[],_,h=>by cases h
 |x::u,y::v,z::w,h1,h2=>by
  unfold fA at h1 h2⊢
  by_cases e1:x=y
  .subst e1
   rw[if_pos rfl]at h1
   by_cases e2:x=z
   .rw[if_pos e2]at h2⊢
    exact Ea u v w h1 h2
   .rw[if_neg e2]at h2⊢
    exact h2
  .rw[if_neg e1]at h1
   by_cases e2:y=z
   .subst e2
    rw[if_neg e1];exact h1
   .rw[if_neg e2]at h2
    have h3:=mM x y z h1 h2;rw[if_neg λe=>by rw[e,iA]at h3;cases h3];exact h3
theorem vM:oE fA:=⟨Md,Ea,Ge⟩
def qN(h:Heap)(k:AA)(v:Value):Prop:=∃b,v=bc b/\eP h k b
section
variable{prog:Program}{w:ah}{A:ai}{E:Value->Shared->Prop}{s:Shared}
theorem Oe(hu:A.units<cLine){Q:Bool->Shared->Prop}:∀(ks ls:AC)(its jts:AE)(i:Nat)(fin:Bool),cp (qN s.heap) ks its->cp (qN s.heap) ls jts->fin=decide (ks.length<ls.length)->Q (fA ks ls) s->KatLex prog w A false fin Q (its.zip jts) i s
 |[],ls,its,jts,i,fin,h1,h2,hf,hQ=>by
  cases h1;cases ls with
  |nil=>
   subst hf;exact lc hQ
  |cons v vs=>
   have e:fin=true:=by rw[hf];simp
   subst e;exact lc hQ
 |u::us,[],its,jts,i,fin,h1,h2,hf,hQ=>by
  cases h2;have e:fin=false:=by rw[hf];simp
  subst e;rw[tq];exact lc hQ
 |u::us,v::vs,its,jts,i,fin,h1,h2,hf,hQ=>by
  cases h1 with
  |cons r1 t1=>
   cases h2 with
   |cons r2 t2=>
    obtain⟨b1,rfl,k1⟩:=r1;obtain⟨b2,rfl,k2⟩:=r2;rw[lu];refine zu ((E4 prog w false).eqBool (x:=u) (y:=v) hu (eP.key k1) (eP.key k2) ?_);unfold fA at hQ
    by_cases e:u=v
    .rw[if_pos e]at hQ
     have b:(decide (u=v))=true:=by simpa using e
     show a7 prog w A false fin Q _ _ _ _ (decide (u=v)) s;rw[b];exact zv (Oe hu us vs _ _ (i+1) fin t1 t2 (by rw[hf];simp) hQ)
    .rw[if_neg e]at hQ
     have b:(decide (u=v))=false:=by simpa using e
     show a7 prog w A false fin Q _ _ _ _ (decide (u=v)) s;rw[b];refine zw (PySem.W.kat_one _ _ ?_);obtain⟨o1,i1,n1,g1,c1,d1,v1⟩:=k1;obtain⟨o2,i2,n2,g2,c2,d2,v2⟩:=k2;exact HT.lt_tupInts ⟨o1,g1,c1,n1,d1⟩ ⟨o2,g2,c2,n2,d2⟩ (Da v1) (Da v2) hu hQ
end
def nF(kss:AD)(i j:Nat):Bool:=fA (kss.getD i []) (kss.getD j [])
theorem Qw{α:Type}{lt:α->α->Bool}(O:oE lt){uss:List α}(z:α)(nd:uss.Nodup):jH (λi j=>lt (uss.getD i z) (uss.getD j z)) uss.length:=by
 refine⟨λi j k _ _ _ h g=>O.tr _ _ _ h g,λi j hi hj ne=>O.tot _ _ λe=>?_⟩;refine absurd (Pp.nodup_idx nd (i:=i) (j:=j) (a:=uss[i]) (by simp[hi]) ?_) ne;have e1:uss.getD i z=uss[i]:=by simp[ba,hi]
 have e2:uss.getD j z=uss[j]:=by simp[ba,hj]
 rw[<-e1,e,e2];simp[hj]
section
variable{X:Cx}{AM:List (Addr×Obj)}{σ:St}{H:Hp}{s:Shared}
def pE(K:ae)(H:Hp)(ts:List V)(kss:AD):Prop:=ts.length=kss.length/\∀i t,ts[i]?=some t->∃a c,t=.ref a/\aK K c H (qG true (kss.getD i [])) (.ref a)/\kss.getD i []≠[]
theorem Rw(I:aD X AM σ H s){c:Addr->Prop}{ks:AC}{b:Addr}(r:aK X.K c H (qG true ks) (.ref b)):∃o its n,s.heap.get? b=some o/\o.cls=.type "tuple"/\o.data=.seq (db its) n/\cp (qN s.heap) ks its:=by
 have r:aK X.K c H (.tup (jp (λr:AA=>PV.tup (r.map PV.int)) ks)) (.ref b):=r;unfold aK at r;obtain⟨a,vs,e,sq,_,r⟩:=r;cases e;obtain⟨its,rv,⟨o,ho,hc,m,hd⟩,_⟩:=I.tuple sq;exact⟨o,its,m,ho,hc,hd,La I r rv⟩
theorem uL{α β:Type}{R:α->β->Prop}:∀{l:List α}{m:List β},cp R l m->l.length=m.length
 |_,_,.nil=>rfl
 |_,_,.cons _ t=>by rw[cg,cg,uL t]
theorem Ra{α β:Type}{R R':α->β->Prop}(f:∀a b,R a b->R' a b):∀{l:List α}{m:List β},cp R l m->cp R' l m
 |_,_,.nil=>.nil
 |_,_,.cons h t=>.cons (f _ _ h) (Ra f t)
theorem Eb(I:aD X AM σ H s)(hu:X.A.units+8<cLine){l:Addr}{ts:List V}{kss:AD}{its:AE}{Q:VK}(rv:bA ts its)(hr:pE X.K H ts kss)(h64:ts.length<64)(nd:kss.Nodup)
  (hcol:∀(Q':AE->Shared->Prop)(E':Value->Shared->Prop),(∀h1 tk,(∀b o',s.heap.get? b=some o'->h1.get? b=some o')->Q' its {s with heap:=h1,toks:=tk})->wpAny (model X.prog X.w) X.A.in1 (collect (.ref l)) Q' E' s)
  (q:∀l p,H l=none->p.Perm (aq ts.length)->jK (nF kss) p->Q (.ref l) (aM H l (.lst (p.map λi=>ts.getD i .non)))):
  wpAny (model X.prog X.w) X.A (call (.builtin "sorted") [.ref l]) (EP X AM σ Q) X.xe s:=by
 obtain⟨hl,ht⟩:=hr;have hlen:=rv.length;have hi:its.length=kss.length:=by omega
 have tu:∀i,i<its.length->∃b o jts n,its.getD i au=.ref b/\s.heap.get? b=some o/\o.cls=.type "tuple"/\o.data=.seq (db jts) n/\cp (qN s.heap) (kss.getD i []) jts/\kss.getD i []≠[]:=λi hi=>by
  have hi':i<ts.length:=by omega
  obtain⟨b,c,e1,rp,ne⟩:=ht i ts[i] (ax hi');obtain⟨v,e2,rel⟩:=rv.get (ax hi');rw[e1]at rel;cases rel;obtain⟨o2,jts,m,dL,hc2,hd2,pr⟩:=Rw I rp;refine⟨b,o2,jts,m,?_,dL,hc2,hd2,pr,ne⟩;rw[ba,e2];rfl
 refine Tm (κ:=tuples' false) (lt:=nF kss) (by omega) (by rw[hi];exact Qw vM [] nd) (λh1 tk a k1 ha h2=>?_) hcol λh1 h' c tk p hp hup k1 k2 e=>?_
 .intro h' tk2 E kp
  have kp2:∀b o,s.heap.get? b=some o->h'.get? b=some o:=λb o hb=>kp b o (λz=>by
   rw[z,ha]at hb;cases hb) (k1 b o hb)
  have tu2:∀i,i<its.length->∃b o jts n,its.getD i au=.ref b/\h'.get? b=some o/\o.cls=.type "tuple"/\o.data=.seq (db jts) n/\cp (qN h') (kss.getD i []) jts/\kss.getD i []≠[]:=λi hi=>by
   obtain⟨b,o,jts,n,e,ho,hc,hd,pr,ne⟩:=tu i hi;refine⟨b,o,jts,n,e,kp2 b o ho,hc,hd,Ra (λk v ⟨b',e',o',i',n',g1,g2,g3,g4⟩=>⟨b',e',o',i',n',kp2 _ _ g1,g2,g3,g4⟩) pr,ne⟩
  refine⟨λQ q=>?_,λi j C hi hj hC=>?_⟩
  .have go:∀(vs:AE)(o:Nat),vs=its.drop o->∃fs,KatTups h' vs fs/\fs.length=vs.length/\∀v∈fs,∃b oo,v=bc b/\h'.get? b=some oo/\oo.cls=.type "tuple":=by
    intro vs
    induction vs with
    |nil=>exact λ_ _=>⟨[],trivial,rfl,λ_ h=>absurd h jn⟩
    |cons v vs ih=>
     intro o eo;have lo:o<its.length:=by
      have:=congrArg List.length eo;rw[tz,cg]at this;omega
     rw[qm lo]at eo;injection eo with ev er;obtain⟨fs,k,l,z⟩:=ih (o+1) er;obtain⟨b,oo,jts,n,e,ho,hc,hd,pr,ne⟩:=tu2 o lo;have e:its[o]=.ref b:=by simpa[ba,lo]using e
     rw[ev,e];cases hk:kss.getD o []with
     |nil=>exact absurd hk ne
     |cons x xs=>
      rw[hk]at pr;cases pr with
      |cons r1 t1=>
       obtain⟨b',e',oo',i',n',g1,g2,g3,g4⟩:=r1;subst e';refine⟨.ref b'::fs,zx ho hc hd (by simp) k,by simp[l],λy hy=>?_⟩;rcases bh.mp hy with rfl |hy
       .exact⟨b',oo',rfl,g1,g2⟩
       .exact z y hy
   obtain⟨fs,kt,lf,qf⟩:=go its 0 rfl;refine PySem.W.kat_kind (s:={s with heap:=h',toks:=tk2}) (T:=.type "tuple") kt (by omega) (λv hv=>?_) rfl ?_
   .obtain⟨b,oo,rfl,g1,g2⟩:=qf v hv
    exact λA Q E s' k q=>ua (T:="tuple") ⟨oo,k _ _ g1,g2⟩ q
   .have bt:(Value.type "tuple" !=Value.type "tuple")=false:=by decide
    rw[bt];exact q
  .obtain⟨b,o,jts,n,e,ho,hc,hd,pr,_⟩:=tu2 i hi
   obtain⟨b2,o2,jts2,n2,e2,dL,hc2,hd2,pr2,_⟩:=tu2 j hj;show wpAny _ _ (keyLt' (tuples' false) (its.getD i au) (its.getD j au)) C _ _;rw[e,e2];refine PySem.W.kat_lt (s:={s with heap:=h',toks:=tk2}) ho hd dL hd2 ?_;refine Oe (s:={s with heap:=h',toks:=tk2}) (show X.A.units+2<cLine by omega) (kss.getD i []) (kss.getD j []) jts jts2 0 _ pr pr2 ?_ hC;rw[am,am,uL pr,uL pr2]
 .have I1:aD X AM σ H {s with heap:=h1,toks:=tk}:=I.kept k1
  have hz2:(p.map λi=>ts.getD i .non).length<=sizeLine:=by
   rw[az,hp.length_eq,kx,dk];omega
  refine⟨.ref h1.objs.size,_,I1.laid (t':=tk) (o:=.lst (p.map λi=>ts.getD i .non)) k2 (ak _) ?_,rfl,q _ p (I1.hok.fresh (ak _)) (by rw[hlen];exact hp) hup⟩;exact⟨hz2,_,c,Tb rv p,e⟩
theorem An(hu:X.A.units+8<cLine):fH X (.builtin "sorted") (λxs H Q=>∃(a:Addr)(ts:List V)(kss:AD),xs=[.ref a]/\(bS X.K H a ts\/bZ X.K H a ts)/\pE X.K H ts kss/\ts.length<64/\kss.Nodup/\
  ∀l p,H l=none->p.Perm (aq ts.length)->jK (nF kss) p->Q (.ref l) (aM H l (.lst (p.map λi=>ts.getD i .non)))):=by
 intro AM s σ H xs us Q I r h;obtain⟨a,ts,uss,rfl,hq,hr,h64,nd,q⟩:=h;obtain⟨u,rfl,ru⟩:=jR r;cases ru;rcases hq with hq |hq
 .obtain⟨its,rv,pl,hz⟩:=I.list hq
  obtain⟨o,ho,hc,n,hd⟩:=pl.isList;exact Eb I hu rv hr h64 nd (λQ' E' h=>vn a (.inl rfl) ho hc hd (λh1 k1=>h h1 s.toks k1) (by rw[am,<-rv.length];exact hz)) q
 .obtain⟨its,rv,⟨o,ho,hc,n,hd⟩,hz⟩:=I.tuple hq
  exact Eb I hu rv hr h64 nd (λQ' E' h=>vn a (.inr rfl) ho hc hd (λh1 k1=>h h1 s.toks k1) (by rw[am,<-rv.length];exact hz)) q
end
end L2
namespace L2.Pp
open PySem PySem.Spec PyProof.Rows Bn
def lB(k:AC):PV:=.tup (k.map Qj)
def jO:AI->Option AD
 |[]=>some []
 |.tup us::r=>match gF us,jO r with
  |some k,some ks=>some (k::ks)
  |_,_=>none
 |_::_=>none
open Classical in
noncomputable def nO(xs:AI):AJ:=match jO xs with
 |some kss=>if kss.length<64/\kss.Nodup/\[]∉kss then some (.lst ((nR fA kss).map lB))else none
 |none=>none
noncomputable def mY:AI->AJ
 |[.lst xs]=>nO xs
 |[.tup xs]=>nO xs
 |_=>none
theorem rH:∀{xs:AI}{kss:AD},jO xs=some kss->xs=kss.map lB
 |[],kss,e=>by cases e;rfl
 |.tup us::r,kss,e=>by
  unfold jO at e;split at e
  .rename_i k ks h1 h2
   cases e;rw[rH h2,Wf h1];rfl
  .cases e
 |.non::_,_,e=>by cases e
 |.bl _::_,_,e=>by cases e
 |.int _::_,_,e=>by cases e
 |.str _::_,_,e=>by cases e
 |.lst _::_,_,e=>by cases e
theorem No{xs:AI}{kss:AD}(h:jO xs=some kss):xs.length=kss.length:=by
 rw[rH h,az]
theorem Tv{kss:AD}{p:List Nat}(hp:p.Perm (aq kss.length))(hu:jK (nF kss) p)(nd:kss.Nodup):(nR fA kss).map lB=p.map λi=>(kss.map lB).getD i .non:=by
 have e0:p.map (λi=>(kss.map lB).getD i .non)=(p.map λi=>kss.getD i []).map lB:=by
  rw[km];refine ie λi hi=>?_;have:i<kss.length:=by
   have:=hp.subset hi;simpa using this
  simp[ba,this]
 rw[e0];congr 1;have e1:(aq kss.length).map (λi=>kss.getD i [])=kss:=by
  refine qk (by simp) λi h1 h2=>?_;simp[ba,h2]
 have pm:(p.map λi=>kss.getD i []).Perm kss:=by
  have:=hp.map (λi=>kss.getD i []);rw[e1]at this;exact this
 refine Wu vM ((qV kss).trans pm.symm) (Af vM kss nd) ?_;rw[List.pairwise_map];exact hu
section
variable{K:ae}
theorem Jo{c:Addr->Prop}{H:Hp}{xs:AI}{vs:List V}{kss:AD}(hu:jO xs=some kss)(r:aJ K c H xs vs)(ne:[]∉kss):pE K H vs kss:=by
 have ex:=rH hu;subst ex;have l2:=r.length;rw[az]at l2;refine⟨l2.symm,λi t h=>?_⟩;obtain⟨p,e1,e2⟩:∃p,(kss.map lB)[i]?=some p/\aK K c H p t:=by
  have hi:i<(kss.map lB).length:=by
   rw[az,l2];exact(ck.mp h).1
  obtain⟨u,e1,e2⟩:=r.get (ax hi);rw[h]at e1;cases e1;exact⟨_,ax hi,e2⟩
 have hi:i<kss.length:=by
  rw[l2];exact(ck.mp h).1
 rw[dz,ax hi]at e1;cases e1;have eg:kss.getD i []=kss[i]:=by simp[ba,hi]
 have e2:aK K c H (qG true kss[i]) t:=e2;obtain⟨b,rfl⟩:=Xs e2;rw[eg];exact⟨b,c,rfl,e2,λz=>ne (z▸ig hi)⟩
theorem Ev:iS K (λxs H Q=>∃(a:Addr)(ts:List V)(kss:AD),xs=[.ref a]/\(bS K H a ts\/bZ K H a ts)/\pE K H ts kss/\ts.length<64/\kss.Nodup/\
  ∀l p,H l=none->p.Perm (aq ts.length)->jK (nF kss) p->Q (.ref l) (aM H l (.lst (p.map λi=>ts.getD i .non)))) mY:=λ{p S H as c xs Q} s ra e k=>by
 have key:∀(zs:AI)(a:Addr)(vs:List V),nO zs=some c->(bS K H a vs\/bZ K H a vs)->aJ K p.c H zs vs->∃(a':Addr)(ts:List V)(kss:AD),[V.ref a]=[.ref a']/\(bS K H a' ts\/bZ K H a' ts)/\pE K H ts kss/\ts.length<64/\kss.Nodup/\
   ∀l p,H l=none->p.Perm (aq ts.length)->jK (nF kss) p->Q (.ref l) (aM H l (.lst (p.map λi=>ts.getD i .non))):=λzs a vs e sq r=>by
  unfold nO at e;split at e
  .rename_i uss hu
   split at e
   .rename_i hc
    cases e;obtain⟨c1,c2,c3⟩:=hc;have l1:=No hu;have l2:=r.length;refine⟨a,vs,uss,rfl,sq,Jo hu r c3,by omega,c2,λl ps hl hp hup=>?_⟩;refine k _ _ (dY hl) ?_;rw[Tv (by rw[<-l1,l2];exact hp) hup c2,<-rH hu];refine lO s (uX r _) ?_ hl;rw[az,hp.length_eq,kx,gO];omega
   .cases e
  .cases e
 unfold mY at e;split at e
 .rename_i zs
  cases ra with
  |cons h t=>
   cases t;obtain⟨a,vs,rfl,l,z,r⟩:=h.lst;exact key zs a vs e (.inl l) r
 .rename_i zs
  cases ra with
  |cons h t=>
   cases t;obtain⟨a,vs,rfl,l,z,r⟩:=h.tup;exact key zs a vs e (.inr l) r
 .cases e
end
section
variable{K:ae}{cl:Str->Addr}{E:XK}{X:Cx}{e:af}{ms:MA}{pos:ag}
end
section
variable{prog:Program}{w:ah}{A:ai}{E:Value->Shared->Prop}{s:Shared}
end
section
open PySem.AutoSeq1 (wpAny_loadPart')
open PySem.MeetsSeq PySem.MeetsSeq2 PySem.MeetsSeq3 PySem.SeqRoads2
end
section
variable{K:ae}{cl:Str->Addr}{E:XK}{X:Cx}
variable{a e:af}{m:ME}{ms:MA}{pos:ag}
end
section
variable{K:ae}{cl:Str->Addr}{E:XK}{X:Cx}
theorem Hd:∀{cs:List Addr}{its:AE},bA (cs.map V.ref) its->its=cs.map bc
 |[],_,.nil=>rfl
 |_::cs,_,.cons r t=>by
  cases r;rw[Hd t];rfl
theorem Vn{y D:Addr}{oe:Obj}(Z:fF X.K D)(hp:(y,oe)∈X.pn)(hc:oe.cls=.ref D):fH X (.builtin "isinstance") (λxs H Q=>∃(t:Addr)(cs:List Addr)(b:Bool),xs=[.ref y,.ref t]/\bZ X.K H t (cs.map V.ref)/\qs X.K (.ref D) (cs.map bc)=some b/\Q (.bl b) H):=by
 intro AM s σ H xs us Q I r h;obtain⟨t,cs,b,rfl,hq,e,q⟩:=h;obtain⟨u,c',rfl,rx,rc⟩:=pY r;cases(show u=bc y from rx);cases(show c'=bc t from rc);have of:jQ s.heap y D:=⟨oe,(I.pin _ (jc _ hp)).1,hc⟩;obtain⟨its,rv,⟨⟨cls,dd,data,sl⟩,ho,hcl,n,hd⟩,_⟩:=I.tuple hq;have ei:=Hd rv;subst ei;simp only at hcl hd;subst hcl hd;exact PySem.W.kia_tup (oQ jo Z) I.kIn of ho e (by intro q;cases q) λtk=>⟨.bl b,H,I.tok tk,rfl,q⟩
theorem rF{t c:Value}{r:AE}{b:Bool}(h:bo K t c=some false)(g:qs K t r=some b):qs K t (c::r)=some b:=by
 rw[qs,h];exact g
end
end L2.Pp
namespace L2
end L2
namespace L2.Pp
open PySem PySem.Spec PyProof.Rows Bn
section
variable{K:ae}{cl:Str->Addr}{E:XK}{X:Cx}{a:af}{m:ME}{pos:ag}
end
section
variable(K:ae)(cl:Str->Addr)(E:XK)(X:Cx)
end
section
variable{K:ae}{cl:Str->Addr}{E:XK}{X:Cx}{e:af}{st:Stmt}{sts:List Stmt}{b1:MS}{b2:Nat->MS}{m:ME}{pos:ag}
end
def At(K:ae)(C:Str)(D:Addr):Prop:=ar K mainGlobals C=some (some (.ref D))
def eJ(C:Str):AI->AJ:=λvs=>if vs.length<=16777216 then some (.obj C [] [])else none
def iR(C:Str)(ns:List Str):AI->AJ:=λvs=>if vs.length=ns.length/\ns.length<=16 then some (.obj C ns vs)else none
def O6(f:Str):PV->AJ
 |.obj _ ns fs=>(ns.zip fs).lookup f
 |_=>none
def yM(C:Addr)(ns:List Str):Sp:=λvs H Q _=>∃a us,vs=.ref a::us/\us.length=ns.length/\H a=some (xO a C none)/\∀d,H d=none->d≠a->Q .non (aM (aM H d (xD d (ns.zip us))) a (xO a C (some d)))
section
variable{K:ae}{cl:Str->Addr}{E:XK}{X:Cx}{e:af}{es:List af}{ms:MA}{m:ME}{pos p:ag}{k:Nat}{f D:Addr}{fd:ay}{ps:List Str}{C:Str}{ns:List Str}
theorem yG{p:Ph}{S:aH}{H:Hp}{a:Addr}(s:aQ K p S H)(h:H a=none):¬p.c a:=λz=>by
 obtain⟨o,e,_⟩:=s.mu a z;rw[h]at e;cases e
theorem F1(hx:br X.K D cL "ValueError.__new__"=true)(hk:ce X.K (.ref D)=true)(hg:Gl X C)(hm:X.mg C=some (.ref D))(hn:At X.K C D)(ha:dJ K cl E X (e::es) ms)(hdb:(C==("__debug__":Str))=false:=by decide)
  (he:starEach (e::es) X.env=(false,eval e X.env)::starEach es X.env:=by rfl)(hpl:(backTo pos (starEach es X.env)).any (·.1)=false:=by rfl):aO K cl E X (.Call (.Name C p) (e::es) [] pos) (mN (eJ C) ms):=by
 intro hK;subst hK;refine(F6 hx hk hg hm (ha rfl) hdb he hpl).imp ?_
 rintro σ H Q ⟨p,S,ρ,s,e,h⟩
 refine bT s e h λq H1 as xs S1 st s1 e1 r1 h1=>?_;refine oN (r:=λxs H Q=>xs.length<=sizeLine/\∀a,H a=none->Q (.ref a) (aM H a (xO a D none))) (f:=eJ C) (λ{p S H as c xs Q} s r e k=>?_) s1 r1 h1;unfold eJ at e;split at e
 .rename_i hl
  cases e;rw[r.length,<-gO]at hl;refine⟨hl,λa ha=>k _ _ (dY ha) ?_⟩;unfold aK;exact⟨a,[],D,rfl,⟨none,dX,yG s ha,rfl⟩,hn,rfl,.nil⟩
 .cases e
theorem E1(M:XI X.K D f)(F:cK X.prog X.w X.K X.mg X.base eT k f fd ps (yM D ns))(hr:bW (k+1) X.A)(hg:Gl X C)(hm:X.mg C=some (.ref D))(hn:At X.K C D)(hb:eM X.K fd ps [])(ha:dJ K cl E X (e::es) ms)(hdb:(C==("__debug__":Str))=false:=by decide)
  (he:starEach (e::es) X.env=(false,eval e X.env)::starEach es X.env:=by rfl)(hpl:(backTo pos (starEach es X.env)).any (·.1)=false:=by rfl):aO K cl E X (.Call (.Name C p) (e::es) [] pos) (mN (iR C ns) ms):=by
 intro hK;subst hK;refine(A5 M F hr hg hm hb yC (ha rfl) hdb he hpl).imp ?_
 rintro σ H Q ⟨p,S,ρ,s,e,h⟩
 refine bT s e h λq H1 as xs S1 st s1 e1 r1 h1=>?_;refine oN (r:=λxs H Q=>xs.length<=sizeLine/\∀a,H a=none->yM D ns (.ref a::xs) (aM H a (xO a D none)) (λv H2=>v=.non/\Q (.ref a) H2) E0) (f:=iR C ns) (λ{p S H as c xs Q} s r e k=>?_) s1 r1 h1;unfold iR at e;split at e
 .rename_i hl
  cases e;have hz:=r.length;refine⟨by rw[gO];omega,λa ha=>⟨a,xs,rfl,by omega,dX,λd hd ne=>⟨rfl,?_⟩⟩⟩;have hd0:H d=none:=by
   rw[bP ne]at hd;exact hd
  have eH:aM (aM (aM H a (xO a D none)) d (xD d (ns.zip xs))) a (xO a D (some d))=aM (aM H d (xD d (ns.zip xs))) a (xO a D (some d)):=by
   funext b
   unfold aM
   by_cases z:b=a
   .rw[if_pos z,if_pos z]
   .rw[if_neg z,if_neg z]
    by_cases y:b=d
    .subst y
     simp[z]
    .simp[y,z]
  rw[eH];have sa:cE H (aM (aM H d (xD d (ns.zip xs))) a (xO a D (some d))):=(dY hd0).trans (dY (by rw[bP ne.symm];exact ha));refine k _ _ sa ?_;unfold aK;exact⟨a,xs,D,rfl,⟨some d,dX,yG s ha,by rw[bP ne,dX],yG s hd0⟩,hn,by omega,(s.same sa).reps r⟩
 .cases e
end
def pF(K:ae)(C f:Addr):Bool:=match K.lookup C with
 |some ⟨.type "type",_,.cls cd,sl⟩=>(match cd.mro,sl.toList with
  |.ref D::bm,[_,_,_,_,some (.builtin m),_]=>D==C&&m=="ValueError.__new__"&& !cd.hasDel&&za K cL bm&&zb K cd.ns&&ar K cd.ns "__init__"==some (some (.ref f))&&vc K (.ref f)&&ce K (.ref C)
  |_,_=>false)
 |_=>false
theorem xZ{K:ae}{C f:Addr}(q:pF K C f=true):XI K C f:=by
 unfold pF at q;split at q
 .rename_i od cd sl ho
  split at q
  .rename_i D bm s0 s1 s2 s3 m s5 hm hs
   simp only[dm,beq_iff_eq,ur]at q;obtain⟨⟨⟨⟨⟨⟨⟨rfl,rfl⟩,hd⟩,ht⟩,hk⟩,hi⟩,hf⟩,hp⟩:=q;obtain⟨c1,c2,c3,c4,c5,c6,c7,c8,c9,c10,c11⟩:=cd;dsimp only at hm hd hk hi;subst hm hd;obtain⟨l⟩:=sl;dsimp only at hs;subst hs;exact⟨⟨od,c1,c2,bm,c4,c5,c6,c7,c8,c9,c10,s0,s1,s2,s3,s5,ho,ht,hk,hi⟩,hf,hp⟩
  .cases q
 .cases q
structure XA(K:ae)(cl:Str->Addr)(ns ini fl:List Str):Prop where
 nm:∀C∈ns,At K C (cl C)
 xc:∀C∈ns,fF K (cl C)
 xf:∀C∈ns,lX K (cl C)
 na:∀C∈ns,∀f∈fl,sB K (cl C) f
 kt:∀C∈ns,∀D∈ns,bo K (.ref (cl C)) (.ref (cl D))=some (C==D||D=="HallError")
 kv:∀C∈ns,bo K (.ref (cl C)) (.type "ValueError")=some true
 ex:∀C∈ns,ini.contains C=false->br K (cl C) cL "ValueError.__new__"=true
 kp:∀C∈ns,ce K (.ref (cl C))=true
def yV(K:ae)(ini fl:List Str)(x:Str×Addr):Bool:=
 (ar K mainGlobals x.1==some (some (.ref x.2)))&&((dy K (.ref x.2) "__getattribute__"==some (some (.builtin "BaseException.__getattribute__")))&&(dy K (.ref x.2) "__getattr__"==some none)&&(lq K x.2 (.type "BaseException")==some true)&&(lq K x.2 (.type "object")==some true)&&(dy K (.ref x.2) "__class__"==some (some (.builtin "object.__class__")))&&(vw K x.2).isSome)&&
 ((dy K (.ref x.2) "__setattr__"==some (some (.builtin "object.__setattr__")))&&(vw K x.2).any (λcd=>pI cd.mro)&&ss K x.2)&&(fl.all λf=>dy K (.ref x.2) f==some none)&&(bo K (.ref x.2) (.type "ValueError")==some true)&&(ini.contains x.1||br K x.2 cL "ValueError.__new__")&&ce K (.ref x.2)
def xB(K:ae)(ini fl:List Str)(tab:List (Str×Addr)):Bool:=(su K (.builtin "object.__class__") "__get__"==some (some (.builtin "getset_descriptor.__get__")))&&(sv K (.builtin "object.__class__")==some true)&&tab.all λx=>yV K ini fl x&&tab.all λy=>bo K (.ref x.2) (.ref y.2)==some (x.1==y.1||y.1=="HallError")
def kC(cl:Str->Addr):List (Str×Addr)->Prop
 |[]=>True
 |x::r=>cl x.1=x.2/\kC cl r
theorem kC.use{cl:Str->Addr}:∀{tab:List (Str×Addr)},kC cl tab->∀C∈tab.map (·.1),(C,cl C)∈tab
 |x::r,⟨a,b⟩,C,h=>by
  rw[cw,bh]at h;rcases h with rfl |h
  .rw[a];exact bi
  .exact cj _ (kC.use b C h)
theorem A7{K:ae}{cl:Str->Addr}{ini fl:List Str}{tab:List (Str×Addr)}(h:xB K ini fl tab=true)(hc:kC cl tab):XA K cl (tab.map (·.1)) ini fl:=by
 unfold xB at h;rw[dm,dm,gq]at h;obtain⟨⟨h1,h2⟩,h3⟩:=h;have g:∀C∈tab.map (·.1),yV K ini fl (C,cl C)=true/\∀D∈tab.map (·.1),bo K (.ref (cl C)) (.ref (cl D))=some (C==D||D=="HallError"):=λC hC=>by
  have z:=h3 _ (hc.use C hC);rw[dm,gq]at z;exact⟨z.1,λD hD=>by simpa using z.2 _ (hc.use D hD)⟩
 have k:=λC hC=>(g C hC).1;simp only[yV,dm,beq_iff_eq]at k h1 h2;refine⟨λC hC=>(k C hC).1.1.1.1.1.1,λC hC=>?_,λC hC=>?_,λC hC f hf=>?_,λC hC=>(g C hC).2,λC hC=>(k C hC).1.1.2,λC hC hi=>?_,λC hC=>(k C hC).2⟩
 .obtain⟨⟨⟨⟨⟨⟨_,⟨⟨⟨⟨⟨a1,a2⟩,a3⟩,a4⟩,a5⟩,a6⟩⟩,_⟩,_⟩,_⟩,_⟩,_⟩:=k C hC
  exact⟨a1,a2,a3,a4,a5,h1,h2,a6⟩
 .obtain⟨⟨⟨⟨⟨⟨_,_⟩,⟨⟨a1,a2⟩,a3⟩⟩,_⟩,_⟩,_⟩,_⟩:=k C hC
  exact⟨a1,a2,a3⟩
 .have:=(k C hC).1.1.1.2
  rw[gq]at this;exact beq_iff_eq.mp (this f hf)
 .have:=(k C hC).1.2
  rw[hi,Bool.false_or]at this;exact this
theorem XA.mg{K:ae}{mg:Str->AF}{cl:Str->Addr}{ns ini fl:List Str}(A:XA K cl ns ini fl)(X:∃h:Heap,K.In h/\h.Ns mainGlobals mg){C:Str}(hC:C∈ns):mg C=some (.ref (cl C)):=by
 obtain⟨h,a,b⟩:=X;exact fu a b (A.nm C hC)
theorem At.eq{K:ae}{C:Str}{D E:Addr}(a:At K C D)(b:At K C E):D=E:=by
 have:=a.symm.trans b;cases this;rfl
def dD(ns:List Str)(C:Str):PV->AJ
 |.obj D _ _=>if ns.contains D=true then some (.bl (D==C||C=="HallError"))else none
 |_=>none
def kT(ns:List Str):PV->AJ
 |.obj D _ _=>if ns.contains D=true then some (.bl true)else none
 |_=>none
def fJ(ns fl:List Str)(f:Str):PV->AJ
 |.obj D as fs=>if ns.contains D=true/\fl.contains f=true then(as.zip fs).lookup f else none
 |_=>none
theorem Xa{K:ae}{c:Addr->Prop}{H:Hp}{f:Str}{v:PV}:∀{ns:List Str}{fs:AI}{vs:List V},aJ K c H fs vs->(ns.zip fs).lookup f=some v->∃x,(ns.zip vs).lookup f=some x/\aK K c H v x
 |[],_,_,_,h=>by simp at h
 |_::_,[],_,_,h=>by simp at h
 |n::ns,p::fs,vs,r,h=>by
  unfold aJ at r;obtain⟨x,r1,rfl,a,b⟩:=r;rw[lu,ft]at h⊢;split at h
  .cases h
   exact⟨x,rfl,a⟩
  .exact Xa b h
section
variable{K:ae}{cl cl':Str->Addr}{E:XK}{X:Cx}{a:af}{m:ME}{pos p p2:ag}{C:Str}{ns ini fl:List Str}
theorem F3(A:XA K cl' ns ini fl)(hC:C∈ns):nX K (λx H Q=>∃a D od c b,H a=some (xO a D od)/\fF K D/\((∃n,c=V.ty n/\bo K (.ref D) (.type n)=some b)\/∃C,c=V.ref C/\bo K (.ref D) (.ref C)=some b)/\[x,V.ref (cl' C)]=[.ref a,c]/\Q (.bl b) H) (dD ns C):=λ{p S H a c x Q} s ra e k=>by
 unfold dD at e;split at e
 .rename_i D as fs
  split at e
  .rename_i hD
   cases e;obtain⟨a,vs,D',rfl,⟨od,h1,_⟩,h2,_⟩:=ra.obj;have hD:D∈ns:=by simpa using hD
   cases At.eq h2 (A.nm D hD);exact⟨a,_,od,_,_,h1,A.xc D hD,.inr ⟨_,rfl,A.kt D hD C hC⟩,rfl,k H _ (cE.refl H) (by unfold aK;rfl)⟩
  .cases e
 .cases e
theorem Lw(A:XA K cl' ns ini fl):nX K (λx H Q=>∃a D od c b,H a=some (xO a D od)/\fF K D/\((∃n,c=V.ty n/\bo K (.ref D) (.type n)=some b)\/∃C,c=V.ref C/\bo K (.ref D) (.ref C)=some b)/\[x,V.ty "ValueError"]=[.ref a,c]/\Q (.bl b) H) (kT ns):=λ{p S H a c x Q} s ra e k=>by
 unfold kT at e;split at e
 .rename_i D as fs
  split at e
  .rename_i hD
   cases e;obtain⟨a,vs,D',rfl,⟨od,h1,_⟩,h2,_⟩:=ra.obj;have hD:D∈ns:=by simpa using hD
   cases At.eq h2 (A.nm D hD);exact⟨a,_,od,_,_,h1,A.xc D hD,.inl ⟨_,rfl,A.kv D hD⟩,rfl,k H _ (cE.refl H) (by unfold aK;rfl)⟩
  .cases e
 .cases e
theorem Ey(A:XA X.K cl' ns ini fl)(hC:C∈ns)(hg:Gl X "isinstance")(hm:X.mg "isinstance"=none)(hgt:Gl X C)(hmt:X.mg C=some (.ref (cl' C)))(ha:aO K cl E X a m)(htd:(C==("__debug__":Str))=false:=by decide)
  (he:starEach [a,.Name C p2] X.env=(false,eval a X.env)::starEach [.Name C p2] X.env:=by rfl)(he2:starEach [.Name C p2] X.env=[(false,eval (.Name C p2) X.env)]:=by rfl)(hpl:(backTo pos (starEach [.Name C p2] X.env)).any (·.1)=false:=by rfl):
  aO K cl E X (.Call (.Name "isinstance" p) [a,.Name C p2] [] pos) (bF (dD ns C) m):=by
 intro hK;subst hK;refine PE.imp (lJ Ld hg hm la (eR (ha rfl) (eR (mS (v:=.ref (cl' C)) hgt hmt rfl htd) jA he2) he) (by decide) (by decide) he hpl) ?_
 rintro σ H Q ⟨p,S,ρ,s,ev,h⟩
 exact bT s ev h λq H' as x S' stp sm ev r k=>mL (F3 A hC) sm r k
theorem Qv(A:XA X.K cl' ns ini fl)(hg:Gl X "isinstance")(hm:X.mg "isinstance"=none)(hgt:Gl X "ValueError")(hmt:X.mg "ValueError"=none)(ha:aO K cl E X a m)
  (he:starEach [a,.Name "ValueError" p2] X.env=(false,eval a X.env)::starEach [.Name "ValueError" p2] X.env:=by rfl)(he2:starEach [.Name "ValueError" p2] X.env=[(false,eval (.Name "ValueError" p2) X.env)]:=by rfl)(hpl:(backTo pos (starEach [.Name "ValueError" p2] X.env)).any (·.1)=false:=by rfl):
  aO K cl E X (.Call (.Name "isinstance" p) [a,.Name "ValueError" p2] [] pos) (bF (kT ns) m):=by
 intro hK;subst hK;refine PE.imp (lJ Ld hg hm la (eR (ha rfl) (eR (wE hgt hmt (show bootBuiltins "ValueError"=some (.type "ValueError") by decide+kernel) (v:=.ty "ValueError") rfl) jA he2) he) (by decide) (by decide) he hpl) ?_
 rintro σ H Q ⟨p,S,ρ,s,ev,h⟩
 exact bT s ev h λq H' as x S' stp sm ev r k=>mL (Lw A) sm r k
theorem Lv{f:Str}(A:XA X.K cl' ns ini fl)(ha:aO K cl E X a m)(hb:attributeBase a f X.env (eval a X.env)=eval a X.env:=by rfl):aO K cl E X (.Attribute a f pos) (bF (fJ ns fl f) m):=by
 intro hK;subst hK;refine PE.imp (Ts (ha rfl) hb) ?_
 rintro σ H Q ⟨p,S,ρ,s,ev,h⟩
 refine bT s ev h λq H' as x S' stp sm ev r k=>?_;refine mL (r:=λx H1 Q=>∃a C d fs v,x=.ref a/\H1 a=some (xO a C (some d))/\H1 d=some (xD d fs)/\fF X.K C/\lX X.K C/\sB X.K C f/\fs.lookup f=some v/\Q v H1) (f:=fJ ns fl f) (λ{p S H a c x Q} s ra e k=>?_) sm r k;unfold fJ at e;split at e
 .rename_i D as fs
  split at e
  .rename_i hD
   obtain⟨a,vs,D',rfl,⟨od,h1,_,h3⟩,h2,hl,hr⟩:=ra.obj;have hF:f∈fl:=by simpa using hD.2
   have hD:D∈ns:=by simpa using hD.1
   cases At.eq h2 (A.nm D hD);obtain⟨v,e1,e2⟩:=Xa hr e;cases od with
   |none=>
    dsimp only at h3;rw[h3]at e1;cases e1
   |some d=>exact⟨a,_,d,_,v,rfl,h1,h3.1,A.xc D hD,A.xf D hD,A.na D hD f hF,e1,k H _ (cE.refl H) e2⟩
  .cases e
 .cases e
end
def Ek(P:Program)(w:ah)(K:ae)(mg:Str->AF)(base:Heap)(cl:Str->Addr)(C:Str)(fs:List Str):Prop:=∃f fd,XI K (cl C) f/\cK P w K mg base eT 1 f fd ("self"::fs) (yM (cl C) fs)/\eM K fd ("self"::fs) []
abbrev kY(B:Bx)(C:Str)(fs:List Str):Prop:=Ek B.P B.w B.K B.mg B.base B.cl C fs
theorem G5{cl:Str->Addr}{E:XK}{X:Cx}{e:af}{es:List af}{ms:MA}{pos p:ag}{k0:Nat}{C:Str}{fs ns ini fl:List Str}(A:XA X.K cl ns ini fl)(hC:C∈ns)(I:Ek X.prog X.w X.K X.mg X.base cl C fs)(hr:bW k0 X.A)(hk:2<=k0)(hg:Gl X C)(hm:X.mg C=some (.ref (cl C)))(ha:dJ X.K cl E X (e::es) ms)(hdb:(C==("__debug__":Str))=false:=by decide)(he:starEach (e::es) X.env=(false,eval e X.env)::starEach es X.env:=by rfl)(hpl:(backTo pos (starEach es X.env)).any (·.1)=false:=by rfl):
  aO X.K cl E X (.Call (.Name C p) (e::es) [] pos) (mN (iR C fs) ms):=by
 obtain⟨f,fd,I,F,b⟩:=I;exact E1 I F (hr.mono hk) hg hm (A.nm C hC) b ha hdb he hpl
section
variable{B:Bx}{ns ini fl:List Str}{C q:Str}{st:Stmt}{f:Addr}{fd:ay}{n1 n2:Str}{o:af}{p1 p2 p3 p4 p5 p6 p7 p8:ag}
theorem Mk(A:XA B.K B.cl ns ini fl)(hC:C∈ns)(hf:n1∈fl)(I:XI B.K (B.cl C) f)(F:fO B.K "__init__" q st f fd)(S:fQ ["self",n1] ["self",n1] (bK st))(hb:cG st=[.Assign [.Attribute (.Name "self" p1) n1 p2] (.Name n1 p3) p4])
  (hd:(n1==("__debug__":Str))=false)(hcd:(n1==("__classdict__":Str))=false)(h1:(bK st).names.lookup ("self":Str)=some NameKind.local)(h2:(bK st).names.lookup n1=some NameKind.local)
  (hbd:∀(kV doc pm:Value)(an:AG)(cdv ct:Value)(us:AE),us.length=2->bindArgs (cc "__init__" q (dG st) (cG st) (bK st) .none kV doc pm an cdv ct) ⟨us,[]⟩=pure ((["self",n1]:List Str).zip us)):kY B C [n1]:=by
 refine⟨f,fd,I,F.ok (k:=0) S (λvs H Q E h=>?_) λcdv A' outer s H vs Q E hr h=>⟨_,by rw[hb];exact rV (wP (pv 0 rfl (.inl h1)) (pv 1 rfl (.inl h2) hd hcd) rfl),?_⟩,F.binds hbd⟩
 .obtain⟨a,us,rfl,l,_⟩:=h
  simp[l]
 .obtain⟨a,us,rfl,l,ha,k⟩:=h
  match us,l with
  |[y],_=>
   exact⟨y,rfl,.ref a,rfl,a,_,rfl,A.xf C hC,A.na C hC n1 hf,.inl ⟨ha,λd hd' ne=>k d hd' ne⟩⟩
theorem M4(A:XA B.K B.cl ns ini fl)(hC:C∈ns)(hf:n1∈fl)(hf2:n2∈fl)(hne:n1≠n2)(I:XI B.K (B.cl C) f)(F:fO B.K "__init__" q st f fd)(S:fQ ["self",n1,n2] ["self",n1,n2] (bK st))(hb:cG st=[.Assign [.Attribute (.Name "self" p1) n1 p2] (.Name n1 p3) p4,.Assign [.Attribute (.Name "self" p5) n2 p6] (.Name n2 p7) p8])
  (hd:(n1==("__debug__":Str))=false)(hcd:(n1==("__classdict__":Str))=false)(hd2:(n2==("__debug__":Str))=false)(hcd2:(n2==("__classdict__":Str))=false)(h1:(bK st).names.lookup ("self":Str)=some NameKind.local)(h2:(bK st).names.lookup n1=some NameKind.local)(h3:(bK st).names.lookup n2=some NameKind.local)
  (hbd:∀(kV doc pm:Value)(an:AG)(cdv ct:Value)(us:AE),us.length=3->bindArgs (cc "__init__" q (dG st) (cG st) (bK st) .none kV doc pm an cdv ct) ⟨us,[]⟩=pure ((["self",n1,n2]:List Str).zip us)):kY B C [n1,n2]:=by
 refine⟨f,fd,I,F.ok (k:=0) S (λvs H Q E h=>?_) λcdv A' outer s H vs Q E hr h=>⟨_,by rw[hb];exact vN (wP (pv 0 rfl (.inl h1)) (pv 1 rfl (.inl h2) hd hcd) rfl) (rV (wP (pv 0 rfl (.inl h1)) (pv 2 rfl (.inl h3) hd2 hcd2) rfl)),?_⟩,F.binds hbd⟩
 .obtain⟨a,us,rfl,l,_⟩:=h
  simp[l]
 .obtain⟨a,us,rfl,l,ha,k⟩:=h
  match us,l with
  |[y,z],_=>
   refine⟨y,rfl,.ref a,rfl,a,_,rfl,A.xf C hC,A.na C hC n1 hf,.inl ⟨ha,λd hd' ne=>?_⟩⟩;refine⟨z,rfl,.ref a,rfl,a,_,rfl,A.xf C hC,A.na C hC n2 hf2,.inr ⟨d,[(n1,y)],dX,ne,by rw[bP ne,dX],(by show 1<=1000;decide),?_⟩⟩;have e:aM (aM (aM H d (xD d [(n1,y)])) a (xO a (B.cl C) (some d))) d (xD d (jS n2 z [(n1,y)]))=aM (aM H d (xD d ([n1,n2].zip [y,z]))) a (xO a (B.cl C) (some d)):=by
    funext b
    have hp:jS n2 z [(n1,y)]=[n1,n2].zip [y,z]:=by
     unfold jS;rw[if_neg hne];rfl
    rw[hp];unfold aM
    by_cases w1:b=d
    .subst w1
     rw[if_pos rfl,if_neg ne,if_pos rfl]
    .simp only[if_neg w1]
   rw[e];exact k d hd' ne
end
theorem Ez:bootBuiltins "len"=some (.builtin "len"):=by decide+kernel
theorem Sx:bootBuiltins "abs"=some (.builtin "abs"):=by decide+kernel
theorem Sy:bootBuiltins "all"=some (.builtin "all"):=by decide+kernel
theorem Jw:bootBuiltins "sum"=some (.builtin "sum"):=by decide+kernel
theorem Kc:bootBuiltins "sorted"=some (.builtin "sorted"):=by decide+kernel
theorem Yx:bootBuiltins "int"=some (.type "int"):=by decide+kernel
theorem Ut:bootBuiltins "bool"=some (.type "bool"):=by decide+kernel
theorem Ov:bootBuiltins "list"=some (.type "list"):=by decide+kernel
theorem Ae:bootBuiltins "tuple"=some (.type "tuple"):=by decide+kernel
theorem Ml:bootBuiltins "ValueError"=some (.type "ValueError"):=by decide+kernel
end L2.Pp
set_option Elab.async false
set_option compiler.extract_closed false
set_option bootstrap.genMatcherCode false
set_option maxRecDepth 100000
set_option maxHeartbeats 4000000
namespace Sc
noncomputable section
open PySem L2 Bn L2.Pp
abbrev Yg:Stmt:=aY 23
abbrev Lb:Stmt:=aY 24
abbrev Qb:Stmt:=aY 25
abbrev oJ:Stmt:=aY 26
abbrev Rc:Stmt:=aY 27
abbrev Zc:Stmt:=aY 28
abbrev pD:Stmt:=aY 30
abbrev Ab:Stmt:=aY 31
abbrev zH:Stmt:=aY 32
abbrev Gj:Stmt:=aY 33
abbrev Ke:Stmt:=aY 34
abbrev zK:Stmt:=aY 35
abbrev Vh:Stmt:=aY 36
abbrev Kb:Stmt:=aY 38
abbrev Sa:Stmt:=aY 40
abbrev Ah:Stmt:=aY 42
abbrev Dg:Stmt:=aY 43
abbrev Fh:Stmt:=aY 44
abbrev Pb:Stmt:=aY 45
abbrev Be:Stmt:=aY 46
abbrev Ac:Stmt:=aY 47
abbrev Jf:Stmt:=aY 48
abbrev Uh:Stmt:=aY 49
abbrev Yc:Stmt:=aY 50
abbrev Ai:Stmt:=aY 51
abbrev Kg:Stmt:=aY 52
abbrev Gh:Stmt:=aY 53
abbrev Za:Stmt:=aY 54
abbrev zL:Stmt:=aY 55
abbrev zB:Stmt:=aY 56
abbrev zN:Stmt:=aY 57
abbrev Ze:Stmt:=aY 58
abbrev Na:Stmt:=aY 59
abbrev Lh:Stmt:=aY 60
abbrev Sd:Stmt:=aY 61
abbrev Zd:Stmt:=aY 62
abbrev Kd:Stmt:=aY 63
abbrev kU:Stmt:=aY 64
abbrev xN:List Str:=["NoNumber","NoPoint","Flat","NoBlade","NoMove","OnSide","NotSame","OtherSize","Backward","NoBox","NoText","TooGreat","NoRow","NoName","NoUndo","NoAgain","OtherKind","OtherSum","TooWide","TooSteep","HallError"]
abbrev xI:List Str:=["OtherSum","TooWide","TooSteep"]
abbrev xF:List Str:=["cells","key","lines","number"]
def xA:MS:=(aP (cD (bG (aB fY (aA 0) (mC (.int 0)))) (bH (mC (.int 1))) cJ)
 (aP (cD (bG (aB gJ (aA 0) (mC (.int 0)))) (bH (bF dP (mC (.int 1)))) cJ)
 (bH (mC (.int 0)))))
def kN:FM:=aS 1 1 xA
def uW:MS:=(aP (kM (bG (aB fN (aA 1) (mC (.int 0)))) (aP (bE 2 (aB eE (aA 0) (aA 1)))
 (aP (bE 0 (aA 1))
 (bE 1 (aA 2)))))
 (bH (mR mD (aC (aA 0) aE))))
def mK:FM:=aS 2 3 uW
def uT:MS:=(aP (bE 1 (mC (.int 0)))
 (aP (eS (cR (aA 0)) (gN 2) (bE 1 (bI mK [] (aC (aA 1) (aC (aA 2) aE)))))
 (bH (cA ["number"] [(1,"common")] (cR (aA 0)) (gN 0) (aB eY (aA 0) (aA 1))))))
def rB:FM:=aS 1 3 uT
def uS:MS:=(aP (cD (bG (aB cZ (aA 1) (mC (.int 0)))) (kO "NoNumber") cJ)
 (aP (bE 2 (aB aZ (bI kN [] (aC (aA 1) aE)) (bI mK [] (aC (aA 0) (aC (aA 1) aE)))))
 (bH (mN dA (aC (aB eY (aA 0) (aA 2)) (aC (aB eY (aA 1) (aA 2)) aE))))))
def oK:FM:=aS 2 3 uS
def vG:MS:=(bH (fE oK [] (aC (aB aZ (aB aG (aA 0) (mC (.int 0))) (aB aG (aA 1) (mC (.int 1)))) (aC (aB aZ (aB aG (aA 0) (mC (.int 1))) (aB aG (aA 1) (mC (.int 0)))) aE))))
def oM:FM:=aS 2 2 vG
def vY:MS:=(bH (bI kN [] (aC (aB eN (aB aZ (aB aG (aA 0) (mC (.int 0))) (aB aG (aA 1) (mC (.int 1)))) (aB aZ (aB aG (aA 1) (mC (.int 0))) (aB aG (aA 0) (mC (.int 1))))) aE)))
def oV:FM:=aS 2 2 vY
def wH:MS:=(aP (cD (bG (aB cZ (aA 1) (mC (.int 0)))) (kO "NoPoint") cJ)
 (bH (mR iG (aC (cA ["number"] [(1,"bottom")] (cR (bI rB [] (aC (aB aL (mR mX (aC (aA 0) aE)) (mN cX (aC (aA 1) aE))) aE))) (gN 0) (aB aZ (bI kN [] (aC (aA 1) aE)) (aA 0))) aE))))
def lM:FM:=aS 2 2 wH
def qS:MS:=(aP (bE 1 (mC (.int 1)))
 (aP (eS (cR (aA 0)) (gN 2) (bE 1 (aB aZ (aA 1) (aB aG (aA 2) (mC (.int 1))))))
 (bH (fE lM [] (aC (cA ["part"] [(1,"bottom")] (cR (aA 0)) (gN 0) (aB aZ (aB aG (aA 0) (mC (.int 0))) (aB eY (aA 1) (aB aG (aA 0) (mC (.int 1)))))) (aC (aA 1) aE))))))
def fP:FM:=aS 1 3 qS
def uB:MS:=(bH (cA ["near","far"] [(0,"start"),(1,"end")] (kW (aC (eG (aA 0) eI (eK (bF dP (mC (.int 1))))) (aC (eG (aA 1) eI (eK (bF dP (mC (.int 1))))) aE))) (gT 2 (eL (gN 0) (eL (gN 1) gU))) (aB eN (aB aZ (aA 1) (aB aG (aA 2) (bF dP (mC (.int 1))))) (aB aZ (aA 0) (aB aG (aA 3) (bF dP (mC (.int 1))))))))
def mH:FM:=aS 2 2 uB
def xV:MS:=(bH (mR lV (aC (cA ["one","other"] [] (kW (aC (aA 0) (aC (aA 1) aE))) (gT 2 (eL (gN 0) (eL (gN 1) gU))) (aB aZ (aA 0) (aA 1))) aE)))
def sK:FM:=aS 2 2 xV
def rL:MS:=(aP (bE 1 (aB aG (aA 0) (mC (.int 0))))
 (aP (cD (bG (aB cZ (mR eZ (aC (aA 0) aE)) (mC (.int 1)))) (bH (mN cX (aC (bF dP (aB aG (aA 1) (mC (.int 1)))) (aC (aB aG (aA 1) (mC (.int 0))) aE)))) cJ)
 (aP (bE 2 (aB aG (aA 0) (mC (.int 1))))
 (bH (mN cX (aC (aB eN (aB aZ (aB aG (aA 1) (mC (.int 1))) (aB aG (aA 2) (mC (.int 2)))) (aB aZ (aB aG (aA 1) (mC (.int 2))) (aB aG (aA 2) (mC (.int 1))))) (aC (aB eN (aB aZ (aB aG (aA 1) (mC (.int 2))) (aB aG (aA 2) (mC (.int 0)))) (aB aZ (aB aG (aA 1) (mC (.int 0))) (aB aG (aA 2) (mC (.int 2))))) (aC (aB eN (aB aZ (aB aG (aA 1) (mC (.int 0))) (aB aG (aA 2) (mC (.int 1)))) (aB aZ (aB aG (aA 1) (mC (.int 1))) (aB aG (aA 2) (mC (.int 0))))) aE))))))))
def mO:FM:=aS 1 3 rL
def qP:MS:=(aP (bE 1 (cA ["p"] [(0,"points")] (cR (eG (aA 0) (eK (mC (.int 1))) eI)) (gN 0) (bI mH [] (aC (aB aG (aA 1) (mC (.int 0))) (aC (aA 0) aE)))))
 (bH (bI sK [] (aC (bI mO [] (aC (eG (aA 1) eI (eK (bF dP (mC (.int 1))))) aE)) (aC (aB aG (aA 1) (bF dP (mC (.int 1)))) aE)))))
def mG:FM:=aS 1 2 qP
def sA:MS:=(bH (bI kN [] (aC (bI mG [] (aC (aA 0) aE)) aE)))
def lP:FM:=aS 1 1 sA
def qY:MS:=(aP (bE 1 (mR mW (aC (aA 0) aE)))
 (aP (bE 2 (bI lP [] (aC (aA 1) aE)))
 (aP (cD (bG (aB cZ (aA 2) (mC (.int 0)))) (kO "Flat") cJ)
 (aP (cD (bG (aB gJ (aA 2) (mC (.int 0)))) (bE 1 (aB aL (eG (aA 1) eI (eK (bF dP (mC (.int 2))))) (mN cX (aC (aB aG (aA 1) (bF dP (mC (.int 1)))) (aC (aB aG (aA 1) (bF dP (mC (.int 2)))) aE))))) cJ)
 (bH (mR iG (aC (aA 1) aE)))))))
def lI:FM:=aS 1 3 qY
def lH:MS:=(aP (cD (hJ (bG (aB qO (bI oV [] (aC (aA 1) (aC (mN dA (aC (mC (.int 0)) (aC (mC (.int 1)) aE))) aE))) (mC (.int 0)))) (bG (aB gJ (bI oV [] (aC (aA 0) (aC (mN dA (aC (mC (.int 0)) (aC (mC (.int 1)) aE))) aE))) (mC (.int 0))))) (kO "NoBox") cJ)
 (aP (cD (bG (aB cZ (aA 0) (mN dA (aC (mC (.int 0)) (aC (mC (.int 1)) aE))))) (bH (mN dA aE)) cJ)
 (aP (bE 2 (fE oM [] (aC (aA 0) (aC (aA 1) aE))))
 (aP (bE 3 (fE fP [] (aC (mN cX (aC (mN dA (aC (mC (.int 0)) (aC (mC (.int 1)) aE))) (aC (mN dA (aC (mC (.int 0)) (aC (mC (.int 1)) aE))) aE))) aE)))
 (aP (bE 4 (fE fP [] (aC (mN cX (aC (aA 2) (aC (aA 1) aE))) aE)))
 (aP (bE 5 (mN dA (aC (fE fP [] (aC (mN cX (aC (aA 2) (aC (mN dA (aC (mC (.int 0)) (aC (mC (.int 1)) aE))) aE))) aE)) (aC (fE fP [] (aC (mN cX (aC (mN dA (aC (mC (.int 0)) (aC (mC (.int 1)) aE))) (aC (aA 1) aE))) aE)) aE))))
 (bH (mR iG (aC (mR mY (aC (rY ["corner"] [(3,"start"),(4,"end")] (cR (aA 5)) (gN 0) (fE lI [] (aC (mN dA (aC (aA 1) (aC (aA 0) (aC (aA 2) aE)))) aE))) aE)) aE)))))))))
def kF:FM:=aS 2 6 lH
def wV:MS:=(aP (bE 1 (tH aE))
 (aP (eS (sJ (aC (eG (aA 0) eI (eK (mC (.int 63)))) aE)) (gT 2 (eL (gN 2) (eL (gN 3) gU))) (cD (bG (aB oF (aA 3) (aB iC (mC (.int 10)) (mC (.int 18))))) (iL (kZ (aA 1) (aC (aB eN (aA 3) (aB iC (mC (.int 10)) (mC (.int 18)))) aE))) (aP (bE 4 (aB eE (aB aZ (aB aL (aB aL (aB aL (aA 3) (aB aZ (aB aZ (mC (.int 7)) (aA 2)) (aA 2))) (aB aZ (mC (.int 13)) (aA 2))) (mC (.int 5))) (mC (.int 48271))) (mC (.int 2147483647))))
 (aP (bE 5 (aB eE (aB aZ (aB aL (aB aL (aB aL (aA 3) (aB aZ (aB aZ (mC (.int 11)) (aA 2)) (aA 2))) (aB aZ (mC (.int 17)) (aA 2))) (mC (.int 3))) (mC (.int 40692))) (mC (.int 2147483399))))
 (aP (bE 6 (aB eE (aB aZ (aB aL (aB aL (aB aL (aA 3) (aB aZ (aB aZ (mC (.int 5)) (aA 2)) (aA 2))) (aB aZ (mC (.int 29)) (aA 2))) (mC (.int 8))) (mC (.int 39373))) (mC (.int 2147483587))))
 (aP (bE 4 (aB eE (aB aZ (aA 4) (mC (.int 52021))) (mC (.int 1000000007))))
 (aP (bE 5 (aB eE (aB aZ (aA 5) (mC (.int 30011))) (mC (.int 998244353))))
 (aP (bE 6 (aB eE (aB aZ (aA 6) (mC (.int 45989))) (mC (.int 1000000009))))
 (iL (kZ (aA 1) (aC (aB aL (aB aZ (aB aL (aB aZ (aA 4) (mC (.int 998244353))) (aA 5)) (mC (.int 1000000009))) (aA 6)) aE)))))))))))
 (bH (aA 1))))
def pS:FM:=aS 1 7 wV
def rS:MS:=(aP (kM (iP (bG (aB fY (mR eZ (aC (aA 0) aE)) (mC (.int 0)))) (bG (aB cZ (aB aG (aA 0) (mC (.int 0))) (mC (.int 0))))) (iL (lZ (aA 0) (aC (mC (.int 0)) aE))))
 (aP (cD (bG (aB cZ (mR eZ (aC (aA 0) aE)) (mC (.int 0)))) (bH (mC (.int 0))) cJ)
 (aP (bE 2 (aB eE (aB aG (aA 0) (mC (.int 0))) (aA 1)))
 (aP (nE (aA 0) (mC (.int 0)) (aB eY (aB aG (aA 0) (mC (.int 0))) (aA 1)))
 (bH (aA 2))))))
def iY:FM:=aS 2 3 rS
def xK:MS:=(aP (bE 0 (mR mD (aC (aA 0) aE)))
 (aP (bE 1 (mR mD (aC (aA 1) aE)))
 (aP (kM (bG (aB fY (aA 1) (mC (.int 0)))) (qE 0 1 (aC (aA 1) (aC (aB eE (aA 0) (aA 1)) aE))))
 (bH (aA 0)))))
def pK:FM:=aS 2 2 xK
def qZ:MS:=(aP (bE 1 (mC (.int 0)))
 (aP (eS (cR (aA 0)) (gN 2) (bE 1 (bI pK [] (aC (aA 1) (aC (aA 2) aE)))))
 (aP (cD (bG (aB cZ (aA 1) (mC (.int 0)))) (bH (mR iG (aC (aA 0) aE))) cJ)
 (bH (mR iG (aC (cA ["_law_number"] [(1,"_law_by")] (cR (aA 0)) (gN 0) (aB eY (aA 0) (aA 1))) aE))))))
def iV:FM:=aS 1 3 qZ
def vH:MS:=(bH (kR (bF (eV "int") (aA 0)) (bF qD (bF (eV "bool") (aA 0)))))
def oW:FM:=aS 1 1 vH
def uV:MS:=(aP (cD (hJ (fM (bG (bF (eV "tuple") (aA 0)))) (bG (aB fN (mR eZ (aC (aA 0) aE)) (aA 1)))) (bH (mC (.bl false))) cJ)
 (bH (mR jT (aC (cA ["_law_number"] [] (cR (aA 0)) (gN 0) (bI oW [] (aC (aA 0) aE))) aE))))
def rC:FM:=aS 2 2 uV
def wD:MS:=(aP (cD (bG (aB gJ (aA 1) (mC (.int 0)))) (bH (bI iV [] (aC (mN cX (aC (aB eN (mC (.int 0)) (aA 0)) (aC (aB eN (mC (.int 0)) (aA 1)) aE))) aE))) cJ)
 (bH (bI iV [] (aC (mN cX (aC (aA 0) (aC (aA 1) aE))) aE))))
def mT:FM:=aS 2 2 wD
def xE:MS:=(bH (cA ["_law_k"] [(1,"_law_q"),(0,"_law_p")] (gR (aC (aB eN (mR eZ (aC (aA 0) aE)) (mC (.int 1))) aE)) (gN 0) (aB eN (aB aZ (aB aG (aA 1) (aA 0)) (aB aG (aA 2) (bF dP (mC (.int 1))))) (aB aZ (aB aG (aA 2) (aA 0)) (aB aG (aA 1) (bF dP (mC (.int 1))))))))
def nA:FM:=aS 2 2 xE
def vI:MS:=(aP (bE 2 (aB eN (aB aZ (aB aG (aA 0) (mC (.int 1))) (aB aG (aA 1) (mC (.int 2)))) (aB aZ (aB aG (aA 0) (mC (.int 2))) (aB aG (aA 1) (mC (.int 1))))))
 (aP (bE 3 (aB eN (aB aZ (aB aG (aA 0) (mC (.int 2))) (aB aG (aA 1) (mC (.int 0)))) (aB aZ (aB aG (aA 0) (mC (.int 0))) (aB aG (aA 1) (mC (.int 2))))))
 (aP (bE 4 (aB eN (aB aZ (aB aG (aA 0) (mC (.int 0))) (aB aG (aA 1) (mC (.int 1)))) (aB aZ (aB aG (aA 0) (mC (.int 1))) (aB aG (aA 1) (mC (.int 0))))))
 (bH (mN cX (aC (aA 2) (aC (aA 3) (aC (aA 4) aE))))))))
def rK:FM:=aS 2 5 vI
def xJ:MS:=(bH (mR lV (aC (cA ["_law_one","_law_other"] [] (kW (aC (aA 0) (aC (aA 1) aE))) (gT 2 (eL (gN 0) (eL (gN 1) gU))) (aB aZ (aA 0) (aA 1))) aE)))
def sE:FM:=aS 2 2 xJ
def rP:MS:=(aP (cD (bG (aB cZ (mR eZ (aC (aA 0) aE)) (mC (.int 2)))) (bH (aB eN (aB aZ (aB aG (aB aG (aA 0) (mC (.int 0))) (mC (.int 0))) (aB aG (aB aG (aA 0) (mC (.int 1))) (mC (.int 1)))) (aB aZ (aB aG (aB aG (aA 0) (mC (.int 0))) (mC (.int 1))) (aB aG (aB aG (aA 0) (mC (.int 1))) (mC (.int 0)))))) cJ)
 (bH (bI sE [] (aC (bI rK [] (aC (aB aG (aA 0) (mC (.int 0))) (aC (aB aG (aA 0) (mC (.int 1))) aE))) (aC (aB aG (aA 0) (mC (.int 2))) aE)))))
def mV:FM:=aS 1 1 rP
def sG:MS:=(bH (bI mV [] (aC (cA ["_law_p"] [(0,"_law_points")] (cR (eG (aA 0) (eK (mC (.int 1))) eI)) (gN 0) (bI nA [] (aC (aB aG (aA 1) (mC (.int 0))) (aC (aA 0) aE)))) aE)))
def kL:FM:=aS 1 1 sG
def qT:MS:=(aP (bE 1 (mR mW (aC (aA 0) aE)))
 (aP (cD (bG (aB gJ (bI kL [] (aC (aA 1) aE)) (mC (.int 0)))) (bE 1 (aB aL (eG (aA 1) eI (eK (bF dP (mC (.int 2))))) (mN cX (aC (aB aG (aA 1) (bF dP (mC (.int 1)))) (aC (aB aG (aA 1) (bF dP (mC (.int 2)))) aE))))) cJ)
 (bH (mR iG (aC (aA 1) aE)))))
def iU:FM:=aS 1 2 qT
def uA:MS:=(aP (cD (hJ (fM (bG (bI rC [] (aC (aA 0) (aC (aB aL (aA 1) (mC (.int 1))) aE))))) (bG (aB gJ (aB aG (aA 0) (bF dP (mC (.int 1)))) (mC (.int 1))))) (bH (mC (.bl false))) cJ)
 (bH (aB cZ (bI iV [] (aC (aA 0) aE)) (aA 0))))
def oG:FM:=aS 2 2 uA
def tZ:MS:=(aP (cD (hJ (fM (bG (bF (eV "tuple") (aA 0)))) (bG (aB fN (mR eZ (aC (aA 0) aE)) (aB aL (aA 1) (mC (.int 1)))))) (bH (mC (.bl false))) cJ)
 (aP (cD (fM (bG (mR jT (aC (cA ["_law_p"] [(1,"_law_many")] (cR (aA 0)) (gN 0) (bI oG [] (aC (aA 0) (aC (aA 1) aE)))) aE)))) (bH (mC (.bl false))) cJ)
 (bH (kR (aB fN (bI kL [] (aC (aA 0) aE)) (mC (.int 0))) (aB cZ (bI iU [] (aC (aA 0) aE)) (aA 0))))))
def kE:FM:=aS 2 2 tZ
def uC:MS:=(aP (cD (fM (bG (bF (eV "tuple") (aA 0)))) (bH (mC (.bl false))) cJ)
 (bH (mR jT (aC (cA ["_law_points"] [(1,"_law_many")] (cR (aA 0)) (gN 0) (bI kE [] (aC (aA 0) (aC (aA 1) aE)))) aE))))
def lF:FM:=aS 2 2 uC
def rO:MS:=(aP (bE 1 (bI iY [] (aC (aA 0) (aC (mC (.int 3)) aE))))
 (aP (bE 2 (bI iY [] (aC (aA 0) (aC (aB aG (mN cX (aC (mC (.int 5)) (aC (mC (.int 1000)) (aC (aB iC (mC (.int 10)) (mC (.int 40))) aE)))) (aA 1)) aE))))
 (aP (cD (bG (aB cZ (bI iY [] (aC (aA 0) (aC (mC (.int 4)) aE))) (mC (.int 3)))) (bE 2 (aB eN (mC (.int 0)) (aA 2))) cJ)
 (bH (bI mT [] (aC (aA 2) (aC (aB aL (mC (.int 1)) (bI iY [] (aC (aA 0) (aC (aB aG (mN cX (aC (mC (.int 6)) (aC (mC (.int 1000)) (aC (aB iC (mC (.int 10)) (mC (.int 40))) aE)))) (aA 1)) aE)))) aE)))))))
def iW:FM:=aS 1 3 rO
def uH:MS:=(bH (bI iV [] (aC (mN cX (aC (aB aZ (aB aG (aA 0) (mC (.int 0))) (aB aG (aA 1) (mC (.int 1)))) (aC (aB aZ (aB aG (aA 1) (mC (.int 0))) (aB aG (aA 0) (mC (.int 1)))) (aC (aB aZ (aB aG (aA 0) (mC (.int 1))) (aB aG (aA 1) (mC (.int 1)))) aE)))) aE)))
def jM:FM:=aS 2 2 uH
def pN:MS:=(aP (cD (hJ (bG (aB gJ (aB aG (aA 1) (mC (.int 0))) (mC (.int 1)))) (bG (aB gJ (aB aG (aA 0) (mC (.int 0))) (mC (.int 0))))) (bH (mN dA (aC (mC (.int 1)) (aC (mC (.bl true)) aE)))) cJ)
 (aP (cD (bG (aB cZ (aB aG (aA 0) (mC (.int 0))) (mC (.int 0)))) (bH (mN dA (aC (mC (.int 0)) (aC (mN dA aE) aE)))) cJ)
 (aP (bE 2 (bI mT [] (aC (aB aZ (aB aG (aA 0) (mC (.int 0))) (aB aG (aA 1) (mC (.int 1)))) (aC (aB aZ (aB aG (aA 0) (mC (.int 1))) (aB aG (aA 1) (mC (.int 0)))) aE))))
 (aP (bE 3 (mN dA (aC (mC (.int 0)) (aC (mC (.int 0)) (aC (mC (.int 1)) aE)))))
 (aP (bE 4 (bI jM [] (aC (aA 2) (aC (aA 1) aE))))
 (aP (bE 5 (bI iU [] (aC (mN cX (aC (aA 3) (aC (bI jM [] (aC (aA 2) (aC (mN dA (aC (mC (.int 0)) (aC (mC (.int 1)) aE))) aE))) (aC (aA 4) aE)))) aE)))
 (aP (bE 6 (bI iU [] (aC (mN cX (aC (aA 3) (aC (aA 4) (aC (bI jM [] (aC (mN dA (aC (mC (.int 0)) (aC (mC (.int 1)) aE))) (aC (aA 1) aE))) aE)))) aE)))
 (bH (mN dA (aC (mC (.int 0)) (aC (mR iG (aC (mR mY (aC (mN cX (aC (aA 5) (aC (aA 6) aE))) aE)) aE)) aE)))))))))))
def lQ:FM:=aS 2 7 pN
def vP:MS:=(aP (bE 2 (mC .non))
 (aP (pW (pV (mC (.int 0)) (pM kF [] (aC (aA 0) (aC (aA 1) aE)))) "NoBox" 5 2 (λρ=>((((ρ.set 3 none).set 4 (some (.pv (.bl true)))).set 2 (some (.pv (.tup [.int 1,.bl true])))).set 3 none)))
 (bH (aA 2))))
def jN:FM:=aS 2 5 vP
def vO:MS:=(aP (bE 1 (mN cX (aC (bF (dD xN "NoNumber") (aA 0)) (aC (bF (dD xN "NoPoint") (aA 0)) (aC (bF (dD xN "Flat") (aA 0)) (aC (bF (dD xN "NoBlade") (aA 0)) aE))))))
 (aP (bE 1 (aB aL (aA 1) (mN cX (aC (bF (dD xN "NoMove") (aA 0)) (aC (bF (dD xN "OnSide") (aA 0)) (aC (bF (dD xN "NotSame") (aA 0)) (aC (bF (dD xN "OtherSize") (aA 0)) aE)))))))
 (aP (bE 1 (aB aL (aA 1) (mN cX (aC (bF (dD xN "Backward") (aA 0)) (aC (bF (dD xN "NoBox") (aA 0)) (aC (bF (dD xN "NoText") (aA 0)) (aC (bF (dD xN "TooGreat") (aA 0)) aE)))))))
 (aP (bE 1 (aB aL (aA 1) (mN cX (aC (bF (dD xN "NoRow") (aA 0)) (aC (bF (dD xN "NoName") (aA 0)) (aC (bF (dD xN "NoUndo") (aA 0)) (aC (bF (dD xN "NoAgain") (aA 0)) aE)))))))
 (aP (bE 1 (aB aL (aA 1) (mN cX (aC (bF (dD xN "OtherKind") (aA 0)) (aC (bF (dD xN "OtherSum") (aA 0)) (aC (bF (dD xN "TooWide") (aA 0)) aE))))))
 (bH (aB aL (aA 1) (mN cX (aC (bF (dD xN "TooSteep") (aA 0)) aE)))))))))
def oO:FM:=aS 1 2 vO
def vR:MS:=(aP (bE 1 (mN cX (aC (mN (eJ "NoNumber") (aC (mC (.str "a")) aE)) (aC (mN (eJ "NoPoint") (aC (mC (.str "a")) aE)) (aC (mN (eJ "Flat") (aC (mC (.str "a")) aE)) (aC (mN (eJ "NoBlade") (aC (mC (.str "a")) aE)) (aC (mN (eJ "NoMove") (aC (mC (.str "a")) aE)) (aC (mN (eJ "OnSide") (aC (mC (.str "a")) aE)) (aC (mN (eJ "NotSame") (aC (mC (.str "a")) aE)) aE)))))))))
 (aP (bE 1 (aB aL (aA 1) (mN cX (aC (mN (eJ "OtherSize") (aC (mC (.str "a")) aE)) (aC (mN (eJ "Backward") (aC (mC (.str "a")) aE)) (aC (mN (eJ "NoBox") (aC (mC (.str "a")) aE)) (aC (mN (eJ "NoText") (aC (mC (.str "a")) aE)) (aC (mN (eJ "TooGreat") (aC (mC (.str "a")) aE)) (aC (mN (eJ "NoRow") (aC (mC (.str "a")) aE)) (aC (mN (eJ "NoName") (aC (mC (.str "a")) aE)) aE))))))))))
 (aP (bE 1 (aB aL (aA 1) (mN cX (aC (mN (eJ "NoUndo") (aC (mC (.str "a")) aE)) (aC (mN (eJ "NoAgain") (aC (mC (.str "a")) aE)) (aC (mN (eJ "OtherKind") (aC (mC (.str "a")) aE)) (aC (mN (iR "OtherSum" ["key"]) (aC (mN dA (aC (mC (.int 0)) (aC (mC (.int 1)) aE))) aE)) (aC (mN (iR "TooWide" ["lines","cells"]) (aC (mC (.int 7)) (aC (aA 0) aE))) (aC (mN (iR "TooSteep" ["number"]) (aC (mC (.int 301)) aE)) aE)))))))))
 (aP (eS (gR (aC (mC (.int 20)) aE)) (gN 2) (aP (cD (bG (aB fN (bI oO [] (aC (aB aG (aA 1) (aA 2)) aE)) (cA ["_law_m"] [(2,"_law_k")] (gR (aC (mC (.int 20)) aE)) (gN 0) (aB cZ (aA 0) (aA 1))))) (bH (mC (.bl false))) cJ)
 (cD (hJ (fM (bG (bF (dD xN "HallError") (aB aG (aA 1) (aA 2))))) (fM (bG (bF (kT xN) (aB aG (aA 1) (aA 2)))))) (bH (mC (.bl false))) cJ)))
 (bH (kR (aB cZ (bF (fJ xN xF "key") (aB aG (aA 1) (mC (.int 17)))) (mN dA (aC (mC (.int 0)) (aC (mC (.int 1)) aE)))) (kR (aB cZ (bF (fJ xN xF "lines") (aB aG (aA 1) (mC (.int 18)))) (mC (.int 7))) (kR (aB cZ (bF (fJ xN xF "cells") (aB aG (aA 1) (mC (.int 18)))) (aA 0)) (aB cZ (bF (fJ xN xF "number") (aB aG (aA 1) (mC (.int 19)))) (mC (.int 301)))))))))))
def mP:FM:=aS 1 3 vR
def xU:MS:=(aP (bE 1 (pL pS [] (aC (aA 0) aE)))
 (aP (eS (gR (aC (mC (.int 3)) aE)) (gN 2) (aP (bE 3 (bI iW [] (aC (aA 1) aE)))
 (aP (bE 4 (bI iW [] (aC (aA 1) aE)))
 (aP (bE 5 (bI lQ [] (aC (aA 3) (aC (aA 4) aE))))
 (aP (bE 6 (bI jN [] (aC (aA 3) (aC (aA 4) aE))))
 (aP (cD (bG (aB fN (aA 6) (aA 5))) (bH (mC (.bl false))) cJ)
 (aP (cD (iP (bG (aB cZ (aB aG (aA 5) (mC (.int 0))) (mC (.int 0)))) (fM (bG (bI lF [] (aC (aB aG (aA 6) (mC (.int 1))) (aC (mC (.int 2)) aE)))))) (bH (mC (.bl false))) cJ)
 (cD (hJ (bG (aB fN (bI jN [] (aC (aA 3) (aC (aA 4) aE))) (aA 5))) (fM (bG (bI mP [] (aC (aA 3) aE))))) (bH (mC (.bl false))) cJ))))))))
 (bH (mC (.bl true)))))
def xW:FM:=aS 1 7 xU
abbrev pB(B:Bx):=cY B "sign" 1 ["number"] kN
abbrev uK(B:Bx):=cY B "divisor" 1 ["one","other"] mK
abbrev Ha(B:Bx):=cY B "reduced" 2 ["numbers"] rB
abbrev zO(B:Bx):=mE B "fraction" 2 ["top","bottom"] oK
abbrev Va(B:Bx):=mE B "divided" 3 ["one","other"] oM
abbrev Pc(B:Bx):=cY B "ranked" 2 ["one","other"] oV
abbrev Me(B:Bx):=mE B "point" 3 ["numbers","bottom"] lM
abbrev zY(B:Bx):=mE B "point_at" 4 ["parts"] fP
abbrev zC(B:Bx):=cY B "whole_arrow" 1 ["start","end"] mH
abbrev Nh(B:Bx):=cY B "dot" 1 ["u","v"] sK
abbrev Ic(B:Bx):=cY B "normal" 1 ["arrows"] mO
abbrev zF(B:Bx):=cY B "determinant" 2 ["points"] mG
abbrev Ye(B:Bx):=cY B "side" 3 ["points"] lP
abbrev Ka(B:Bx):=mE B "simplex" 4 ["points"] lI
abbrev zT(B:Bx):=mE B "long_box" 5 ["area","width"] kF
abbrev Ue(B:Bx):=cY B "_law_row" 1 ["_law_script"] pS
abbrev He(B:Bx):=cY B "_law_take" 1 ["_law_row_here","_law_many"] iY
abbrev Hg(B:Bx):=cY B "_law_gcd" 1 ["_law_one","_law_other"] pK
abbrev qU(B:Bx):=cY B "_law_lowest" 2 ["_law_numbers"] iV
abbrev Gb(B:Bx):=cY B "_law_whole" 1 ["_law_number"] oW
abbrev Fa(B:Bx):=cY B "_law_wholes" 2 ["_law_told","_law_many"] rC
abbrev vQ(B:Bx):=cY B "_law_frac" 3 ["_law_top","_law_bottom"] mT
abbrev Of(B:Bx):=cY B "_law_gap" 1 ["_law_p","_law_q"] nA
abbrev Xb(B:Bx):=cY B "_law_cross" 1 ["_law_u","_law_v"] rK
abbrev Xf(B:Bx):=cY B "_law_dot" 1 ["_law_u","_law_v"] sE
abbrev Wd(B:Bx):=cY B "_law_turn" 2 ["_law_ways"] mV
abbrev wN(B:Bx):=cY B "_law_det" 3 ["_law_points"] kL
abbrev uE(B:Bx):=cY B "_law_simplex" 4 ["_law_points"] iU
abbrev zD(B:Bx):=cY B "_law_point_form" 3 ["_law_p","_law_many"] oG
abbrev zA(B:Bx):=cY B "_law_simplex_form" 5 ["_law_points","_law_many"] kE
abbrev zJ(B:Bx):=cY B "_law_heap_form" 6 ["_law_heap","_law_many"] lF
abbrev Uc(B:Bx):=cY B "_law_part" 4 ["_law_row_here"] iW
abbrev zP(B:Bx):=cY B "_law_spot_of" 3 ["_law_x","_law_y"] jM
abbrev Lg(B:Bx):=cY B "_law_due" 5 ["_law_area","_law_width"] lQ
abbrev Lc(B:Bx):=cY B "_law_asked" 6 ["_law_area","_law_width"] jN
abbrev Mc(B:Bx):=cY B "_law_kinds" 1 ["_law_e"] oO
abbrev Nc(B:Bx):=cY B "_law_apart" 3 ["_law_area"] mP
structure Mg(mg:Str->AF):Prop where
 m_ValueError:mg "ValueError"=none
 m_abs:mg "abs"=none
 m_all:mg "all"=none
 m_bool:mg "bool"=none
 m_enumerate:mg "enumerate"=none
 m_int:mg "int"=none
 m_isinstance:mg "isinstance"=none
 m_len:mg "len"=none
 m_list:mg "list"=none
 m_range:mg "range"=none
 m_sorted:mg "sorted"=none
 m_sum:mg "sum"=none
 m_tuple:mg "tuple"=none
 m_zip:mg "zip"=none
set_option hygiene false
local macro_rules | `(tactic|trivial)=> `(tactic|(first
 |(with_reducible show aO _ _ _ _ _ (bF (dD _ _) _));refine Ey AX (by decide+kernel) rfl m.m_isinstance rfl (AX.mg X (by decide+kernel)) ?_
 |(with_reducible show aO _ _ _ _ _ (bF (kT _) _));refine Qv AX rfl m.m_isinstance rfl m.m_ValueError ?_
 |(with_reducible show aO _ _ _ _ _ (bF (fJ _ _ _) _));refine Lv AX ?_
 |(with_reducible show aO _ _ _ _ _ (mN (eJ _) _));refine F1 (AX.ex _ (by decide+kernel) (by decide+kernel)) (AX.kp _ (by decide+kernel)) rfl (AX.mg X (by decide+kernel)) (AX.nm _ (by decide+kernel)) ?_
 |(with_reducible show aO _ _ _ _ _ (mN (iR _ _) _));refine G5 AX (by decide+kernel) (by assumption) hr (by decide) rfl (AX.mg X (by decide+kernel)) ?_
 |(with_reducible show aO _ _ _ _ _ (rY _ _ _ _ _));refine Cs (by first |exact xX |exact wX) ?_ rfl (λ_ _ _ _=> ?_) (λ_ _ _ _ _ hp=> ?_)
 |(with_reducible show aO _ _ _ _ _ (mR mY _));refine mQ (An (qM hr)) Ev rfl m.m_sorted Kc ?_
 |(with_reducible show dJ _ _ _ _ _ aE);exact Sf
 |(with_reducible show dJ _ _ _ _ _ (aC _ _));refine vS ?_ ?_
 |(with_reducible show aO _ _ _ _ _ (aA _));exact rX _
 |(with_reducible show aO _ _ _ _ _ (mC (.int _)));exact Gi
 |(with_reducible show aO _ _ _ _ _ (mC (.bl _)));exact D0
 |(with_reducible show aO _ _ _ _ _ (mC (.str _)));exact Xw
 |(with_reducible show aO _ _ _ _ _ (bF dP _));refine C0 Ix E3 ?_
 |(with_reducible show aO _ _ _ _ _ (bF qD _));refine Uw ?_
 |(with_reducible show aO _ _ _ _ _ (aB aL _ _));refine nJ Nv Hz ?_ ?_
 |(with_reducible show aO _ _ _ _ _ (aB eN _ _));refine nJ Zw G0 ?_ ?_
 |(with_reducible show aO _ _ _ _ _ (aB aZ _ _));refine nJ Yt D7 ?_ ?_
 |(with_reducible show aO _ _ _ _ _ (aB eY _ _));refine nJ Np Qx ?_ ?_
 |(with_reducible show aO _ _ _ _ _ (aB eE _ _));refine nJ Ct B0 ?_ ?_
 |(with_reducible show aO _ _ _ _ _ (aB iC _ _));refine nJ Ux F2 ?_ ?_
 |(with_reducible show aO _ _ _ _ _ (aB aG _ _));refine Nz ?_ ?_
 |(with_reducible show aO _ _ _ _ _ (aB cZ _ _));refine nB (Ei (qM hr)) Wj ?_ ?_ (iB _)
 |(with_reducible show aO _ _ _ _ _ (aB fN _ _));refine nB (Rg (qM hr)) Vj ?_ ?_ (iB _)
 |(with_reducible show aO _ _ _ _ _ (aB gJ _ _));refine nB Pi Lj ?_ ?_ (iB _)
 |(with_reducible show aO _ _ _ _ _ (aB qO _ _));refine nB Jj Oj ?_ ?_ (iB _)
 |(with_reducible show aO _ _ _ _ _ (aB fY _ _));refine nB Ui Gk ?_ ?_ (iB _)
 |(with_reducible show aO _ _ _ _ _ (aB oF _ _));refine nB Mi Bk ?_ ?_ (iB _)
 |(with_reducible show eO _ _ _ _ _ (bG (aB cZ _ _)));refine mU (Ei (qM hr)) Wj ?_ ?_ (iB _)
 |(with_reducible show eO _ _ _ _ _ (bG (aB fN _ _)));refine mU (Rg (qM hr)) Vj ?_ ?_ (iB _)
 |(with_reducible show eO _ _ _ _ _ (bG (aB gJ _ _)));refine mU Pi Lj ?_ ?_ (iB _)
 |(with_reducible show eO _ _ _ _ _ (bG (aB qO _ _)));refine mU Jj Oj ?_ ?_ (iB _)
 |(with_reducible show eO _ _ _ _ _ (bG (aB fY _ _)));refine mU Ui Gk ?_ ?_ (iB _)
 |(with_reducible show eO _ _ _ _ _ (bG (aB oF _ _)));refine mU Mi Bk ?_ ?_ (iB _)
 |(with_reducible show eO _ _ _ _ _ (bG _));refine Ht ?_
 |(with_reducible show eO _ _ _ _ _ (fM _));refine Mu ?_
 |(with_reducible show eO _ _ _ _ _ (iP _ _));refine hU.pt ?_
 |(with_reducible show eO _ _ _ _ _ (hJ _ _));refine hU.pt ?_
 |(with_reducible show hU _ _ _ _ _ (iP _ _));refine Cu ?_ ?_
 |(with_reducible show hU _ _ _ _ _ (hJ _ _));refine Yw ?_ ?_
 |(with_reducible show hU _ _ _ _ _ _);(first |refine Ms ?_ |refine Au ?_)
 |(with_reducible show aO _ _ _ _ _ (kR _ _));refine Lx ?_ ?_
 |(with_reducible show aO _ _ _ _ _ (mN dA _));refine Qy ?_
 |(with_reducible show aO _ _ _ _ _ (mN cX _));refine Wx ?_
 |(with_reducible show aO _ _ _ _ _ (tH _));refine Bu ?_
 |(with_reducible show aO _ _ _ _ _ (eG _ _ _));refine D5 ?_ ?_ ?_
 |(with_reducible show nY _ _ _ _ _ eI);exact Ps
 |(with_reducible show nY _ _ _ _ _ (eK _));refine Zr ?_
 |(with_reducible show aO _ _ _ _ _ (kZ _ _));refine Ko ?_ ?_
 |(with_reducible show aO _ _ _ _ _ (lZ _ _));refine Cz ?_ ?_
 |(with_reducible show aO _ _ _ _ _ (fE _ [] _));(first |refine Tz (by assumption) hr (by decide) rfl ?_ |refine F4 hp (by assumption) hr (by decide) rfl ?_)
 |(with_reducible show aO _ _ _ _ _ (bI _ [] _));refine F5 (by assumption) hr (by decide) rfl ?_
 |(with_reducible show aO _ _ _ _ _ (pL _ [] _));refine D6 (by assumption) hr (by decide) rfl ?_
 |(with_reducible show aO _ _ _ _ _ (bF (eV "int") _));refine xL (n:="int") rfl m.m_isinstance rfl m.m_int Yx ?_
 |(with_reducible show aO _ _ _ _ _ (bF (eV "bool") _));refine xL (n:="bool") rfl m.m_isinstance rfl m.m_bool Ut ?_
 |(with_reducible show aO _ _ _ _ _ (bF (eV "tuple") _));refine xL (n:="tuple") rfl m.m_isinstance rfl m.m_tuple Ae ?_
 |(with_reducible show aO _ _ _ _ _ (mR eZ _));refine mQ Vl A0 rfl m.m_len Ez ?_
 |(with_reducible show aO _ _ _ _ _ (mR mD _));refine mQ Nr Iz rfl m.m_abs Sx ?_
 |(with_reducible show aO _ _ _ _ _ (mR jT _));refine mQ (Gr rfl) G3 rfl m.m_all Sy ?_
 |(with_reducible show aO _ _ _ _ _ (mR iG _));refine Wb Ql Zu rfl m.m_tuple Ae ?_
 |(with_reducible show aO _ _ _ _ _ (mR mX _));refine Wb Ul Vt rfl m.m_list Ov ?_
 |(with_reducible show aO _ _ _ _ _ (mR lV _));refine mQ (Go rfl) B1 rfl m.m_sum Jw ?_
 |(with_reducible show aO _ _ _ _ _ (mR mW _));refine mQ Zm Iw rfl m.m_sorted Kc ?_
 |(with_reducible show aO _ _ _ _ _ (cA _ _ _ _ _));refine Eu (by first |exact xX |exact wX) ?_ rfl (λ_ _ _ _=> ?_) (λ_ _ _ _=> ?_)
 |(with_reducible show hV _ _ _ _ _ _ (kW _));refine Uv rfl m.m_zip ?_
 |(with_reducible show hV _ _ _ _ _ _ (sJ _));refine Jq rfl m.m_enumerate ?_
 |(with_reducible show hV _ _ _ _ _ _ (gR _));refine Nm rfl m.m_range ?_
 |(with_reducible show hV _ _ _ _ _ _ (cR _));refine Vu ?_
 |(with_reducible show jY _ _ _ (gN _));exact Vq (by first |exact nd |(show(cV _ _).Nodup;decide+kernel)) rfl (by first |exact fm rfl |exact gw rfl)
 |(with_reducible show jY _ _ _ (gT _ _));refine Iv rfl ?_
 |(with_reducible show nV _ _ _ gU);exact Qq
 |(with_reducible show nV _ _ _ (eL _ _));refine Oo ?_ ?_
 |(with_reducible show fB _ _ _ _ _ cJ);exact As
 |(with_reducible show fB _ _ _ _ _ (aP _ _));refine vE ?_ ?_
 |(with_reducible show fB _ _ _ _ _ _);refine Vd ?_
 |(with_reducible show eC _ _ _ _ _ (bH _));refine Jg ?_
 |(with_reducible show eC _ _ _ _ _ (cD _ _ _));refine Dy ?_ ?_ ?_
 |(with_reducible show eC _ _ _ _ _ (iL _));refine Oq ?_
 |(with_reducible show eC _ _ _ _ _ (kO _));exact Zn rfl (by assumption) (by assumption)
 |(with_reducible show eC _ _ _ _ _ (bE _ (cA _ _ _ _ _)));(first |refine Yr nd rfl (by first |exact fm rfl |exact gw rfl) (by first |exact xX |exact wX) ?_ rfl (λ_ _ _ _=> ?_) (λ_ _ _ _=> ?_) |refine wI nd rfl (by first |exact fm rfl |exact gw rfl) ?_)
 |(with_reducible show eC _ _ _ _ _ (bE _ _));refine wI nd rfl (by first |exact fm rfl |exact gw rfl) ?_
 |(with_reducible show eC _ _ _ _ _ (qE _ _ _));refine Nt rfl nd rfl rfl (by decide) rfl rfl ?_ rfl
 |(with_reducible show eC _ _ _ _ _ (nE _ _ _));refine Mo ?_ ?_ ?_
 |(with_reducible show eC _ _ _ _ _ (kM _ _));refine Kp (by first |exact a8 |exact a9) ?_ ?_
 |(with_reducible show eC _ _ _ _ _ (eS _ _ _));refine Vs (by first |exact a8 |exact a9) rfl ?_ ?_ ?_)<;>trivial)
set_option hygiene true
section
variable{B:Bx}(X:XG B.K B.mg)(m:Mg B.mg)
include X m
theorem Et(h:HF B.K "sign" Yg):pB B:=dB (N:=["number"]) X h cF λnd _ _ _ _ _ _ _ hr=>by unfold xA;trivial
theorem Om(h:HF B.K "divisor" Lb):uK B:=dB (N:=["one","other","rest"]) X h cF λnd _ _ _ _ _ _ _ hr=>by unfold uW;trivial
theorem Pm(h:HF B.K "reduced" Qb)(C_divisor:uK B):Ha B:=dB (N:=["numbers","common","number"]) X h cF λnd _ _ _ _ _ _ _ hr=>by unfold uT;trivial
theorem Em{f:Addr}{fd:ay}{dsv:Array Value}(F:jX B.K "fraction" "fraction" oJ f fd dsv)(C_sign:pB B)(C_divisor:uK B)(q_NoNumber:B.mg "NoNumber"=some (.ref (B.cl "NoNumber")))(x_NoNumber:br B.K (B.cl "NoNumber") cL "ValueError.__new__"=true):cK B.P B.w B.K B.mg B.base (aN B.P B.w) 2 f fd ["top","bottom"] (hZ B.K B.cl oK):=Tj (N:=["top","bottom","common"]) F cF λnd _ _ _ _ _ _ _ hr=>by unfold uS;trivial
theorem Cn(h:HF B.K "divided" Rc)(H_fraction:zO B):Va B:=tK (N:=["one","other"]) X h cF λnd _ _ _ _ _ _ _ hr=>by unfold vG;trivial
theorem Zo(h:HF B.K "ranked" Zc)(C_sign:pB B):Pc B:=dB (N:=["one","other"]) X h cF λnd _ _ _ _ _ _ _ hr=>by unfold vY;trivial
theorem Kr{f:Addr}{fd:ay}{dsv:Array Value}(F:jX B.K "point" "point" pD f fd dsv)(C_reduced:Ha B)(C_sign:pB B)(q_NoPoint:B.mg "NoPoint"=some (.ref (B.cl "NoPoint")))(x_NoPoint:br B.K (B.cl "NoPoint") cL "ValueError.__new__"=true):cK B.P B.w B.K B.mg B.base (aN B.P B.w) 3 f fd ["numbers","bottom"] (hZ B.K B.cl lM):=Tj (N:=["numbers","bottom"]) F cF λnd _ _ _ _ _ _ _ hr=>by unfold wH;trivial
theorem Hm(h:HF B.K "point_at" Ab)(H_point:Me B):zY B:=tK (N:=["parts","bottom","part"]) X h cF λnd _ _ _ _ _ _ _ hr=>by unfold qS;trivial
theorem Bl(h:HF B.K "whole_arrow" zH):zC B:=dB (N:=["start","end"]) X h cF λnd _ _ _ _ _ _ _ hr=>by unfold uB;trivial
theorem Xx(h:HF B.K "dot" Gj):Nh B:=dB (N:=["u","v"]) X h cF λnd _ _ _ _ _ _ _ hr=>by unfold xV;trivial
theorem Tn(h:HF B.K "normal" Ke):Ic B:=dB (N:=["arrows","u","v"]) X h cF λnd _ _ _ _ _ _ _ hr=>by unfold rL;trivial
theorem Dl(h:HF B.K "determinant" zK)(C_whole_arrow:zC B)(C_dot:Nh B)(C_normal:Ic B):zF B:=dB (N:=["points","rows"]) X h cF λnd _ _ _ _ _ _ _ hr=>by unfold qP;trivial
theorem Ws(h:HF B.K "side" Vh)(C_sign:pB B)(C_determinant:zF B):Ye B:=dB (N:=["points"]) X h cF λnd _ _ _ _ _ _ _ hr=>by unfold sA;trivial
theorem Vm(h:HF B.K "simplex" Kb)(C_side:Ye B)(q_Flat:B.mg "Flat"=some (.ref (B.cl "Flat")))(x_Flat:br B.K (B.cl "Flat") cL "ValueError.__new__"=true):Ka B:=tK (N:=["points","corners","turn"]) X h cF λnd _ _ _ _ _ _ _ hr=>by unfold qY;trivial
theorem Cm(h:HF B.K "long_box" Sa)(C_ranked:Pc B)(H_divided:Va B)(H_point_at:zY B)(H_simplex:Ka B)(q_NoBox:B.mg "NoBox"=some (.ref (B.cl "NoBox")))(x_NoBox:br B.K (B.cl "NoBox") cL "ValueError.__new__"=true):zT B:=tK (N:=["area","width","length","start","end","others"]) X h cF λnd _ _ _ _ _ _ _ hr=>by unfold lH;trivial
theorem Vv(h:HF B.K "_law_row" Ah):Ue B:=dB (N:=["_law_script","_law_row_here","_law_k","_law_cell","_law_one","_law_two","_law_three"]) X h cF λnd _ _ _ _ _ _ _ hr=>by unfold wV;trivial
theorem Vr(h:HF B.K "_law_take" Dg):He B:=dB (N:=["_law_row_here","_law_many","_law_found"]) X h cF λnd _ _ _ _ _ _ _ hr=>by unfold rS;trivial
theorem Mv(h:HF B.K "_law_gcd" Fh):Hg B:=dB (N:=["_law_one","_law_other"]) X h cF λnd _ _ _ _ _ _ _ hr=>by unfold xK;trivial
theorem Rm(h:HF B.K "_law_lowest" Pb)(C_wgcd:Hg B):qU B:=dB (N:=["_law_numbers","_law_by","_law_number"]) X h cF λnd _ _ _ _ _ _ _ hr=>by unfold qZ;trivial
theorem Bp(h:HF B.K "_law_whole" Be):Gb B:=dB (N:=["_law_number"]) X h cF λnd _ _ _ _ _ _ _ hr=>by unfold vH;trivial
theorem On(h:HF B.K "_law_wholes" Ac)(C_wwhole:Gb B):Fa B:=dB (N:=["_law_told","_law_many"]) X h cF λnd _ _ _ _ _ _ _ hr=>by unfold uV;trivial
theorem Fs(h:HF B.K "_law_frac" Jf)(C_wlowest:qU B):vQ B:=dB (N:=["_law_top","_law_bottom"]) X h cF λnd _ _ _ _ _ _ _ hr=>by unfold wD;trivial
theorem Zv(h:HF B.K "_law_gap" Uh):Of B:=dB (N:=["_law_p","_law_q"]) X h cF λnd _ _ _ _ _ _ _ hr=>by unfold xE;trivial
theorem Qo(h:HF B.K "_law_cross" Yc):Xb B:=dB (N:=["_law_u","_law_v","_law_x","_law_y","_law_z"]) X h cF λnd _ _ _ _ _ _ _ hr=>by unfold vI;trivial
theorem Su(h:HF B.K "_law_dot" Ai):Xf B:=dB (N:=["_law_u","_law_v"]) X h cF λnd _ _ _ _ _ _ _ hr=>by unfold xJ;trivial
theorem Mr(h:HF B.K "_law_turn" Kg)(C_wdot:Xf B)(C_wcross:Xb B):Wd B:=dB (N:=["_law_ways"]) X h cF λnd _ _ _ _ _ _ _ hr=>by unfold rP;trivial
theorem Ou(h:HF B.K "_law_det" Gh)(C_wturn:Wd B)(C_wgap:Of B):wN B:=dB (N:=["_law_points"]) X h cF λnd _ _ _ _ _ _ _ hr=>by unfold sG;trivial
theorem Xl(h:HF B.K "_law_simplex" Za)(C_wdet:wN B):uE B:=dB (N:=["_law_points","_law_told"]) X h cF λnd _ _ _ _ _ _ _ hr=>by unfold qT;trivial
theorem Fl(h:HF B.K "_law_point_form" zL)(C_wwholes:Fa B)(C_wlowest:qU B):zD B:=dB (N:=["_law_p","_law_many"]) X h cF λnd _ _ _ _ _ _ _ hr=>by unfold uA;trivial
theorem Yk(h:HF B.K "_law_simplex_form" zB)(C_wpoint_form:zD B)(C_wdet:wN B)(C_wsimplex:uE B):zA B:=dB (N:=["_law_points","_law_many"]) X h cF λnd _ _ _ _ _ _ _ hr=>by unfold tZ;trivial
theorem Rl(h:HF B.K "_law_heap_form" zN)(C_wsimplex_form:zA B):zJ B:=dB (N:=["_law_heap","_law_many"]) X h cF λnd _ _ _ _ _ _ _ hr=>by unfold uC;trivial
theorem Hq(h:HF B.K "_law_part" Ze)(C_wtake:He B)(C_wfrac:vQ B):Uc B:=dB (N:=["_law_row_here","_law_kind","_law_top"]) X h cF λnd _ _ _ _ _ _ _ hr=>by unfold rO;trivial
theorem Yl(h:HF B.K "_law_spot_of" Na)(C_wlowest:qU B):zP B:=dB (N:=["_law_x","_law_y"]) X h cF λnd _ _ _ _ _ _ _ hr=>by unfold uH;trivial
theorem Rt(h:HF B.K "_law_due" Lh)(C_wfrac:vQ B)(C_wspot_of:zP B)(C_wsimplex:uE B):Lg B:=dB (N:=["_law_area","_law_width","_law_long","_law_low","_law_far","_law_one","_law_other"]) X h cF λnd _ _ _ _ _ _ _ hr=>by unfold pN;trivial
theorem Wn(h:HF B.K "_law_asked" Sd)(H_long_box:zT B)(q_HallError:B.mg "HallError"=some (.ref (B.cl "HallError")))(x_HallError:br B.K (B.cl "HallError") cL "ValueError.__new__"=true)(q_NoBox:B.mg "NoBox"=some (.ref (B.cl "NoBox")))(x_NoBox:br B.K (B.cl "NoBox") cL "ValueError.__new__"=true)(q_NoNumber:B.mg "NoNumber"=some (.ref (B.cl "NoNumber")))(x_NoNumber:br B.K (B.cl "NoNumber") cL "ValueError.__new__"=true)(q_NoPoint:B.mg "NoPoint"=some (.ref (B.cl "NoPoint")))(x_NoPoint:br B.K (B.cl "NoPoint") cL "ValueError.__new__"=true)(q_OtherSize:B.mg "OtherSize"=some (.ref (B.cl "OtherSize")))(x_OtherSize:br B.K (B.cl "OtherSize") cL "ValueError.__new__"=true)(q_TooWide:B.mg "TooWide"=some (.ref (B.cl "TooWide")))(Z_NoBox:fF B.K (B.cl "NoBox"))(kt_NoBox_HallError:bo B.K (.ref (B.cl "NoBox")) (.ref (B.cl "HallError"))=some true)(kt_NoBox_NoNumber:bo B.K (.ref (B.cl "NoBox")) (.ref (B.cl "NoNumber"))=some false)(kt_NoBox_NoPoint:bo B.K (.ref (B.cl "NoBox")) (.ref (B.cl "NoPoint"))=some false)(kt_NoBox_OtherSize:bo B.K (.ref (B.cl "NoBox")) (.ref (B.cl "OtherSize"))=some false)(kt_NoBox_TooWide:bo B.K (.ref (B.cl "NoBox")) (.ref (B.cl "TooWide"))=some false)(kt_NoBox_ValueError:bo B.K (.ref (B.cl "NoBox")) (.type "ValueError")=some true):Lc B:=dB (N:=["_law_area","_law_width","_law_found","_law_e","_law_apart_here"]) X h cF λnd _ _ _ _ _ _ _ hr=>by obtain⟨a_long_box,d_long_box,GX_long_box,G_long_box,lH,k_long_box,n_long_box⟩:=H_long_box;have m_ValueError:=m.m_ValueError;have m_isinstance:=m.m_isinstance;exact(vE (wI (i:=2) nd rfl (fm rfl) Uy) (vE (Qp (i:=3) (jv:=2) (nn:=5) (c:="NoBox") (up:=λρ=>((((ρ.set 3 none).set 4 (some (.pv (.bl true)))).set 2 (some (.pv (.tup [.int 1,.bl true])))).set 3 none)) rfl nd rfl rfl rfl q_NoBox x_NoBox (Dw rfl Gi (Yv rfl GX_long_box (hr.mono (by decide)) rfl n_long_box k_long_box lH .nil Dv.nil (vS (rX 0) (vS (rX 1) Sf)))) rfl (fm rfl) (λy oe hc=>(vN (wW (i:=4) nd rfl (fm rfl) (Yh (lJ (Vn Z_NoBox bi hc) rfl m_isinstance la (eR (pv 3) (eR (xH (eR (mS (v:=.ref (B.cl "NoNumber")) rfl q_NoNumber rfl) (eR (mS (v:=.ref (B.cl "NoPoint")) rfl q_NoPoint rfl) (eR (mS (v:=.ref (B.cl "OtherSize")) rfl q_OtherSize rfl) (eR (mS (v:=.ref (B.cl "TooWide")) rfl q_TooWide rfl) jA))))) jA))))) (rV (wW (i:=2) nd rfl (fm rfl) (xH (eR Qh (eR (xC (lJ (Tc Z_NoBox bi hc) rfl m_isinstance la (eR (pv 3) (eR (mS (v:=.ref (B.cl "HallError")) rfl q_HallError rfl) jA))) (xC (lJ (Tc Z_NoBox bi hc) rfl m_isinstance la (eR (pv 3) (eR (wE rfl m_ValueError Ml (v:=.ty "ValueError") rfl) jA))) (Mx (pv 4)))) jA))))))) (λy oe D σ H p S ρ sm hl ev k=>by match σ,hl,ev with |[s0,s1,s2,s3,s4],_,ev=>exact⟨_,rfl,(by show 4<=b0;decide),λt0 ht0=>⟨_,[(B.cl "NoNumber"),(B.cl "NoPoint"),(B.cl "OtherSize"),(B.cl "TooWide")],false,rfl,bZ.of dX,(rF kt_NoBox_NoNumber (rF kt_NoBox_NoPoint (rF kt_NoBox_OtherSize (rF kt_NoBox_TooWide rfl)))),false,rfl,_,rfl,_,true,.inr ⟨_,rfl,kt_NoBox_HallError⟩,rfl,true,rfl,Mj ⟨_,rfl,_,true,.inl ⟨_,rfl,kt_NoBox_ValueError⟩,rfl,true,rfl,Mj ⟨_,rfl,(by show 2<=b0;decide),λt ht=>k _ _ (λa o e=>dY ht a o (dY ht0 a o e)) ((bY.setT (vs:=[.int 1,.bl true]) (sm.ofSame (dY ht0)) (((sm.same (dY ht0)).repE (ev.forget 3 (some (.ref y)))).setB 4 true) ht (by decide) (by decide) 2).forget 3 none)⟩⟩⟩⟩)) (Vd (Jg (rX 2)))))
theorem Do(h:HF B.K "_law_kinds" Zd)(AX:XA B.K B.cl xN xI xF):Mc B:=dB (N:=["_law_e","_law_found"]) X h cF λnd _ _ _ _ _ _ _ hr=>by unfold vO;trivial
theorem Fp(h:HF B.K "_law_apart" Kd)(C_wkinds:Mc B)(AX:XA B.K B.cl xN xI xF)(I_OtherSum:kY B "OtherSum" ["key"])(I_TooSteep:kY B "TooSteep" ["number"])(I_TooWide:kY B "TooWide" ["lines","cells"]):Nc B:=dB (N:=["_law_area","_law_some","_law_k"]) X h cF λnd _ _ _ _ _ _ _ hr=>by unfold vR;trivial
theorem Fw{f:Addr}{fd:ay}(F:fO B.K "law" "law" kU f fd)(C_wrow:Ue B)(C_wpart:Uc B)(C_wdue:Lg B)(C_wasked:Lc B)(C_wheap_form:zJ B)(C_wapart:Nc B):cK B.P B.w B.K B.mg B.base eT 7 f fd ["_law_script"] (jV B.K B.cl xW):=M8 (N:=["_law_script","_law_row_here","_law_k","_law_area","_law_width","_law_due_here","_law_found"]) F cF λnd _ _ _ _ _ _ _ hr=>by unfold xU;trivial
end
local macro_rules
 | `(tactic|simp! [$l,*] $[$loc:location]?)=>`(tactic|simp[gS,aP,cD,bG,fM,iP,hJ,kR,J1,M5,aB,bF,mR,mN,aC,aA,mC,aE,bQ.bind,pZ,iJ,kS,nK,gW,rd,kQ,fV,eZ,dA,cX,dP,qD,iQ,cC.of,bH,Pz,cJ,iL,bE,kP,jB,bI,fE,pL,mD,iG,mX,cZ,fN,frz,nH,$l,*] $[$loc]?)
theorem Wr(S:aH)(k:Nat)(o:SO):(S.set k o).take S.length=S.set k o:=vz (by simp)
def fX(S:aH)(k:Nat)(ns:AA):Prop:=S[k]?=some (.lst (ns.map .int))
theorem fX.lt{S:aH}{k:Nat}{ns:AA}(h:fX S k ns):k<S.length:=(ck.mp h).1
theorem fX.set{S:aH}{k:Nat}{ns:AA}(h:fX S k ns)(ms:AA):fX (S.set k (.lst (ms.map .int))) k ms:=fx h.lt
theorem Aa{r:bL}{k:Nat}{m:AV}:∀(ns:AA)(S:aH),fX S k ns->∃n ns',cW (iP (bG (aB fY (mR eZ (aC (aA 0) aE)) (mC (.int 0)))) (bG (aB cZ (aB aG (aA 0) (mC (.int 0))) (mC (.int 0))))) (iL (lZ (aA 0) (aC (mC (.int 0)) aE))) n (some (.ref k)::some m::r) S=.nx (some (.ref k)::some m::r) (S.set k (.lst (ns'.map .int)))/\ns'.length<=ns.length/\(ns'=[]\/∃i t,ns'=i::t/\i≠0)
 |[],S,h=>by
  refine⟨1,[],?_,ak _,.inl rfl⟩;have h':S[k]?=some (.lst []):=h;have e:S.set k (.lst (([]:AA).map .int))=S:=wb λi=>by
   by_cases q:k=i
   .subst q;rw[fx h.lt,h'];rfl
   .rw[ib q]
  rw[e];simp[cW,iP,bG,aB,mR,aC,aA,mC,aE,bQ.bind,kS,gW,rd,h',fV,eZ,iJ,fY,i2,iQ,cC.of]
 |i::t,S,h=>by
  have h':S[k]?=some (.lst (.int i::t.map .int)):=h
  by_cases hi:i=0
  .subst hi
   have hr:fX (S.set k (.lst (t.map .int))) k t:=h.set t;obtain⟨n,ns',e,l,q⟩:=Aa (r:=r) (m:=m) t _ hr;refine⟨n+1,ns',?_,by simp;omega,q⟩;rw[jq]at e;rw[<-e];have hl:(0:Int)<(t.length:Int)+1:=by omega
   simp[cW,iP,bG,aB,mR,aC,aA,mC,aE,bQ.bind,kS,gW,rd,h',fV,eZ,iJ,fY,i2,iQ,cC.of,aG,bC,bD,cZ,aI,iL,lZ,fS,lR,seqIndex?,hl]
  .refine⟨1,i::t,?_,ak _,.inr ⟨i,t,rfl,hi⟩⟩
   have e:S.set k (.lst ((i::t).map .int))=S:=wb λj=>by
    by_cases q:k=j
    .subst q;rw[fx h.lt,h'];rfl
    .rw[ib q]
   rw[e];have hl:(0:Int)<(t.length:Int)+1:=by omega
   simp[cW,iP,bG,aB,mR,aC,aA,mC,aE,bQ.bind,kS,gW,rd,h',fV,eZ,iJ,fY,i2,iQ,cC.of,aG,bC,bD,cZ,aI,hl,hi]
theorem oZ{S:aH}{k:Nat}{ns:AA}{m:Int}(h:fX S k ns)(hm:0<m)(b:Bd 8000 m):∃(v:Int)(ns':AA),iY [.ref k,.pv (.int m)] S=.ok (.pv (.int v)) (S.set k (.lst (ns'.map .int)))/\0<=v/\v<m/\ns'.length<=ns.length:=by
 obtain⟨n,ns',e,l,q⟩:=Aa (r:=[none]) (m:=.pv (.int m)) ns S h;have hr:=h.set ns';have hl1:(S.set k (.lst (ns'.map .int))).length=S.length:=by simp
 have hss:∀x,(S.set k (.lst (ns'.map .int))).set k x=S.set k x:=λx=>jq ..;generalize hS1:S.set k (.lst (ns'.map .int))=S1 at e hr hl1 hss;have w:=vF e (by simp);rcases q with rfl |⟨i,t,rfl,hi⟩
 .refine⟨0,[],?_,ug 0,hm,dh _⟩
  rw[hS1];have hr':S1[k]?=some (.lst []):=hr;have tk:wd S.length S1=S1:=vz (by omega);unfold iY aS rS;simp[gS,aP,w,cD,bG,aB,mR,aC,aA,mC,aE,bQ.bind,kS,gW,rd,hr',fV,eZ,iJ,cZ,aI,iQ,cC.of,bH,kP,jB,tk]
 .have hr':S1[k]?=some (.lst (.int i::t.map .int)):=hr
  refine⟨i.fmod m,i.fdiv m::t,?_,d0 i hm,Int.fmod_lt_of_pos i hm,l⟩;rw[<-hss];have tk:∀x,wd S.length (S1.set k x)=S1.set k x:=λx=>vz (by simp;omega);have hl:¬((t.length:Int)+1=0):=by omega
  have hq:lS i m:=⟨by omega,b⟩;have hm0:m≠0:=by omega
  unfold iY aS rS;simp[gS,aP,w,cD,bG,aB,mR,aC,aA,mC,aE,bQ.bind,kS,gW,rd,hr',fV,eZ,iJ,cZ,aI,iQ,cC.of,bH,kP,jB,tk,cJ,hl,bE,eE,eY,i2,cI,aG,bC,bD,hm0,hq,nE,fS,nN]
theorem aU(i j:Int):fY (.int i) (.int j)=some (.bl (decide (j<i))):=rfl
theorem aW(i j:Int):gJ (.int i) (.int j)=some (.bl (decide (i<j))):=rfl
theorem aV(i j:Int):oF (.int i) (.int j)=some (.bl (decide (j<=i))):=rfl
theorem aX(i j:Int):qO (.int i) (.int j)=some (.bl (decide (i<=j))):=rfl
theorem aT(i j:Int):eN (.int i) (.int j)=some (.int (i-j)):=rfl
theorem kK{i j:Int}(h:lU i j):aZ (.int i) (.int j)=some (.int (i*j)):=by
 simp[aZ,i2,cI,h]
theorem rE{i j:Int}(h:lS i j):eY (.int i) (.int j)=some (.int (i.fdiv j)):=by
 simp[eY,i2,cI,h]
theorem kI{i j:Int}(h:j≠0):eE (.int i) (.int j)=some (.int (i.fmod j)):=by
 simp[eE,i2,cI,h]
theorem Ef{i j:Int}(h:sZ i j):iC (.int i) (.int j)=some (.int (i^j.toNat)):=by
 simp[iC,i2,cI,h]
theorem oY(n:Int)(S:aH):kN [.pv (.int n)] S=.ok (.pv (.int (sg n))) S:=by
 unfold kN aS xA sg
 by_cases h1:0<n
 .simp[gS,aP,cD,bG,aB,aA,mC,bQ.bind,iJ,rd,fV,fY,i2,iQ,cC.of,bH,kP,jB,h1]
 .by_cases h2:n<0
  .simp[gS,aP,cD,bG,aB,aA,mC,bQ.bind,iJ,rd,fV,fY,gJ,i2,iQ,cC.of,bH,kP,jB,h1,h2,cJ,bF,pZ,dP]
  .simp[gS,aP,cD,bG,aB,aA,mC,bQ.bind,iJ,rd,fV,fY,gJ,i2,iQ,cC.of,bH,kP,jB,h1,h2,cJ,bF,pZ,dP]
theorem zI(S:aH):∀(m:Nat)(a b:Int)(x:AK),b.natAbs<=m->∃(n:Nat)(g:Int)(x':AK),cW (bG (aB fN (aA 1) (mC (.int 0)))) (aP (bE 2 (aB eE (aA 0) (aA 1))) (aP (bE 0 (aA 1)) (bE 1 (aA 2)))) n [some (.pv (.int a)),some (.pv (.int b)),x] S=.nx [some (.pv (.int g)),some (.pv (.int 0)),x'] S/\g.natAbs=aw a b
 |0,a,b,x,h=>by
  have hb:b=0:=by omega
  subst hb;refine⟨1,a,x,?_,by simp⟩;simp! [cW,aG,bC,bD,aI,aU,aW,aV,aX,aL,aT]
 |m+1,a,b,x,h=>by
  by_cases hb:b=0
  .subst hb
   refine⟨1,a,x,?_,by simp⟩;simp! [cW,aG,bC,bD,aI,aU,aW,aV,aX,aL,aT]
  .have hl:=Cb a hb
   obtain⟨n,g,x',e,q⟩:=zI S m b (a.fmod b) (some (.pv (.int (a.fmod b)))) (by omega);refine⟨n+1,g,x',?_,by rw[q,Pd]⟩;rw[<-e];simp! [cW,aG,bC,bD,aI,aU,aW,aV,aX,aL,aT,kI hb,hb]
theorem Oa(a b:Int)(S:aH):mK [.pv (.int a),.pv (.int b)] S=.ok (.pv (.int (aw a b:Nat))) S:=by
 obtain⟨n,g,x',e,q⟩:=zI S b.natAbs a b none (ak _);have w:=vF e (by simp);unfold mK aS uW;have hg:(if g<0 then-g else g)=((aw a b:Nat):Int):=by rw[<-q];exact wU g
 simp! [aG,bC,bD,aI,aU,aW,aV,aX,aL,aT,w,hg]
theorem Hc(S:aH):∀(m:Nat)(a b:Int),0<=a->0<=b->b.natAbs<=m->∃(n:Nat),cW (bG (aB fY (aA 1) (mC (.int 0)))) (qE 0 1 (aC (aA 1) (aC (aB eE (aA 0) (aA 1)) aE))) n [some (.pv (.int a)),some (.pv (.int b))] S=.nx [some (.pv (.int (aw a b:Nat))),some (.pv (.int 0))] S
 |0,a,b,ha,hb,h=>by
  have hb:b=0:=by omega
  subst hb;have ea:((aw a 0:Nat):Int)=a:=by simp;omega
  refine⟨1,?_⟩;rw[ea];simp! [cW,aG,bC,bD,aI,aU,aW,aV,aX,aL,aT]
 |m+1,a,b,ha,hb,h=>by
  by_cases h0:b=0
  .subst h0
   have ea:((aw a 0:Nat):Int)=a:=by simp;omega
   refine⟨1,?_⟩;rw[ea];simp! [cW,aG,bC,bD,aI,aU,aW,aV,aX,aL,aT]
  .have hl:=Cb a h0
   have hp:0<b:=by omega
   obtain⟨n,e⟩:=Hc S m b (a.fmod b) hb (d0 a hp) (by omega);refine⟨n+1,?_⟩;rw[<-Pd,<-e];simp! [cW,aG,bC,bD,aI,aU,aW,aV,aX,aL,aT,kI h0,hp,qE]
theorem Ww(a b:Int)(S:aH):pK [.pv (.int a),.pv (.int b)] S=.ok (.pv (.int (aw a b:Nat))) S:=by
 have ha:0<=(if a<0 then-a else a):=by split<;>omega
 have hb:0<=(if b<0 then-b else b):=by split<;>omega
 obtain⟨n,e⟩:=Hc S _ _ _ ha hb (ak _);have w:=vF e (by simp);have eg:aw (if a<0 then-a else a) (if b<0 then-b else b)=aw a b:=by
  rw[wU,wU];simp[aw]
 rw[eg]at w;unfold pK aS xK;simp! [aG,bC,bD,aI,aU,aW,aV,aX,aL,aT,w]
theorem vZ(S:aH)(v2:AK):∀(ns:AA)(g:Int)(a:AV),∃v',dM [] (gN 2) (bE 1 (bI pK [] (aC (aA 1) (aC (aA 2) aE)))) (ns.map .int) [some a,some (.pv (.int g)),v2] S=.nx [some a,some (.pv (.int (gl ns g))),v'] S
 |[],g,a=>⟨v2,kH⟩
 |n::ns,g,a=>by
  obtain⟨v',e⟩:=vZ S (some (.pv (.int n))) ns (aw g n:Nat) a;refine⟨v',?_⟩;show dM [] _ _ (.int n::ns.map .int) _ S=_;rw[iE];simp! [gN,aG,bC,bD,aI,aU,aW,aV,aX,aL,aT,Ww];exact e
theorem rN(S:aH)(g:Int)(hg:g≠0)(b:Bd 8000 g):∀(ns:AA)(x:AK),cN [] (gN 0) (aB eY (aA 0) (aA 1)) (ns.map .int) [x,some (.pv (.int g))] S=.ok ((ns.map λn=>n.fdiv g).map .int) S
 |[],x=>eQ
 |n::ns,x=>by
  have ih:=rN S g hg b ns (some (.pv (.int n)));show cN [] _ _ (.int n::ns.map .int) _ S=_;rw[eU];simp! [gN,aG,bC,bD,aI,aU,aW,aV,aX,aL,aT,rE (show lS n g from⟨hg,b⟩),ih]
theorem uU(ns:AA)(S:aH)(hb:∀n∈ns,Bd 8000 n):iV [.pv (.lst (ns.map .int))] S=.ok (.pv (.tup ((low ns).map .int))) S:=by
 obtain⟨v',e⟩:=vZ S none ns 0 (.pv (.lst (ns.map .int)));unfold iV aS qZ
 by_cases h:gl ns 0=0
 .have el:low ns=ns:=by unfold low;rw[if_pos h]
  simp! [aG,bC,bD,aI,aU,aW,aV,aX,aL,aT,eS,cR,cQ,e,h,el]
 .have el:low ns=ns.map λn=>n.fdiv (gl ns 0):=by
   unfold low;rw[if_neg h];exact ie λn hn=>(kn ((iZ ns 0).2 n hn)).symm
  have bg:Bd 8000 (gl ns 0):=sN (Bd.of (n:=0) (by simp) (qt 8000)) hb;have ec:=rN S (gl ns 0) h bg ns none;simp! [aG,bC,bD,aI,aU,aW,aV,aX,aL,aT,eS,cR,cQ,e,h,el,cA,cO,ec]
theorem Pr(n:Int)(S:aH):oW [.pv (.int n)] S=.ok (.pv (.bl true)) S:=by
 unfold oW aS vH;simp! [aG,bC,bD,aI,aU,aW,aV,aX,aL,aT,eV]
theorem zW(S:aH):∀(ns:AA)(x:AK),cN [] (gN 0) (bI oW [] (aC (aA 0) aE)) (ns.map .int) [x] S=.ok (ns.map λ_=>.bl true) S
 |[],x=>eQ
 |n::ns,x=>by
  have ih:=zW S ns (some (.pv (.int n)));show cN [] _ _ (.int n::ns.map .int) _ S=_;rw[eU];simp! [gN,aG,bC,bD,aI,aU,aW,aV,aX,aL,aT,Pr,ih]
theorem Ud:∀(ns:AA),jC (ns.map λ_=>PV.bl true)=some (ns.map λ_=>true)
 |[]=>rfl
 |n::ns=>by
  show jC (.bl true::ns.map λ_=>PV.bl true)=_;unfold jC;rw[Ud ns];rfl
theorem Yn(ns:AA)(S:aH):rC [.pv (.tup (ns.map .int)),.pv (.int ns.length)] S=.ok (.pv (.bl true)) S:=by
 unfold rC aS uV;have e:=zW S ns none;have ea:((ns.map λ_=>true).all id)=true:=by simp
 simp! [aG,bC,bD,aI,aU,aW,aV,aX,aL,aT,eV,cA,cR,cQ,cO,e,jT,Ud]
theorem Lf:∀(n:Nat)(ns:AA),eX (cu (aI n) (ns.map .int) (ns.map .int))=some (ns.map λ_=>true)
 |n,[]=>rfl
 |n,m::ns=>by
  have ih:=Lf n ns;simp only[cw,qu];have e:aI n (.int m) (.int m)=some true:=by cases n<;>simp[aI]
  rw[e];unfold eX;rw[ih]
theorem We(n:Nat)(ns:AA):aI (n+1) (.tup (ns.map .int)) (.tup (ns.map .int))=some true:=by
 rw[aI,Lf];simp
theorem Lm(ns:AA)(S:aH)(hb:∀n∈ns,Bd 8000 n):iV [.pv (.tup (ns.map .int))] S=.ok (.pv (.tup ((low ns).map .int))) S:=by
 obtain⟨v',e⟩:=vZ S none ns 0 (.pv (.tup (ns.map .int)));unfold iV aS qZ
 by_cases h:gl ns 0=0
 .have el:low ns=ns:=by unfold low;rw[if_pos h]
  simp! [aG,bC,bD,aI,aU,aW,aV,aX,aL,aT,eS,cR,cQ,e,h,el]
 .have el:low ns=ns.map λn=>n.fdiv (gl ns 0):=by
   unfold low;rw[if_neg h];exact ie λn hn=>(kn ((iZ ns 0).2 n hn)).symm
  have bg:Bd 8000 (gl ns 0):=sN (Bd.of (n:=0) (by simp) (qt 8000)) hb;have ec:=rN S (gl ns 0) h bg ns none;simp! [aG,bC,bD,aI,aU,aW,aV,aX,aL,aT,eS,cR,cQ,e,h,el,cA,cO,ec]
theorem jP(i:Int){j:Int}(h1:-(2^64)<j)(h2:j<2^64):aZ (.int i) (.int j)=some (.int (i*j)):=kK (.inl (.inr ⟨h1,h2⟩))
theorem Jk:iC (.int 10) (.int 18)=some (.int 1000000000000000000):=Ef (i:=10) (j:=18) ⟨by decide,by decide,by decide⟩
theorem vK{k:Nat}{a:AV}:∀(cs:AA)(n:Nat)(acc:AA)(S:aH)(v2 v3 v4 v5 v6:AK),fX S k acc->acc.length+cs.length<=63->n+cs.length<=63->∃(acc':AA)(w2 w3 w4 w5 w6:AK),dM [] (gT 2 (eL (gN 2) (eL (gN 3) gU))) ((cD (bG (aB oF (aA 3) (aB iC (mC (.int 10)) (mC (.int 18))))) (iL (kZ (aA 1) (aC (aB eN (aA 3) (aB iC (mC (.int 10)) (mC (.int 18)))) aE))) (aP (bE 4 (aB eE (aB aZ (aB aL (aB aL (aB aL (aA 3) (aB aZ (aB aZ (mC (.int 7)) (aA 2)) (aA 2))) (aB aZ (mC (.int 13)) (aA 2))) (mC (.int 5))) (mC (.int 48271))) (mC (.int 2147483647))))
 (aP (bE 5 (aB eE (aB aZ (aB aL (aB aL (aB aL (aA 3) (aB aZ (aB aZ (mC (.int 11)) (aA 2)) (aA 2))) (aB aZ (mC (.int 17)) (aA 2))) (mC (.int 3))) (mC (.int 40692))) (mC (.int 2147483399))))
 (aP (bE 6 (aB eE (aB aZ (aB aL (aB aL (aB aL (aA 3) (aB aZ (aB aZ (mC (.int 5)) (aA 2)) (aA 2))) (aB aZ (mC (.int 29)) (aA 2))) (mC (.int 8))) (mC (.int 39373))) (mC (.int 2147483587))))
 (aP (bE 4 (aB eE (aB aZ (aA 4) (mC (.int 52021))) (mC (.int 1000000007))))
 (aP (bE 5 (aB eE (aB aZ (aA 5) (mC (.int 30011))) (mC (.int 998244353))))
 (aP (bE 6 (aB eE (aB aZ (aA 6) (mC (.int 45989))) (mC (.int 1000000009))))
 (iL (kZ (aA 1) (aC (aB aL (aB aZ (aB aL (aB aZ (aA 4) (mC (.int 998244353))) (aA 5)) (mC (.int 1000000009))) (aA 6)) aE))))))))))) (gH n (cs.map .int)) [some a,some (.ref k),v2,v3,v4,v5,v6] S=.nx [some a,some (.ref k),w2,w3,w4,w5,w6] (S.set k (.lst (acc'.map .int)))/\acc'.length<=63
 |[],n,acc,S,v2,v3,v4,v5,v6,h,hl,_=>by
  refine⟨acc,v2,v3,v4,v5,v6,?_,by simpa using hl⟩;have e:S.set k (.lst (acc.map .int))=S:=wb λj=>by
   by_cases q:k=j
   .subst q;rw[fx h.lt];exact h.symm
   .rw[ib q]
  rw[e];exact kH
 |x::cs,n,acc,S,v2,v3,v4,v5,v6,h,hl,hn=>by
  simp only[cg]at hl hn;have h':S[k]?=some (.lst (acc.map .int)):=h;have hlen:acc.length<16777216:=by omega
  have hk1:-(2^64)<(n:Int):=by omega
  have hk2:(n:Int)<2^64:=by omega
  by_cases c:(1000000000000000000:Int)<=x
  .obtain⟨acc',w2,w3,w4,w5,w6,e,q⟩:=vK (k:=k) (a:=a) cs (n+1) (acc++[x-1000000000000000000]) (S.set k (.lst ((acc++[x-1000000000000000000]).map .int))) (some (.pv (.int n))) (some (.pv (.int x))) v4 v5 v6 (h.set _) (by simp;omega) (by omega)
   refine⟨acc',w2,w3,w4,w5,w6,?_,q⟩;rw[jq]at e;rw[<-e];show dM [] _ _ (.tup [.int n,.int x]::gH (n+1) (cs.map .int)) _ S=_;rw[iE];simp! [gT,eL,gU,gN,aG,bC,bD,aI,aU,aW,aV,aX,aL,aT,Jk,c,kZ,fS,nG,h',hlen]
  .obtain⟨acc',w2,w3,w4,w5,w6,e,q⟩:=vK (k:=k) (a:=a) cs (n+1) (acc++[((((x+7*n*n+13*n+5)*48271).fmod 2147483647*52021).fmod 1000000007*998244353+(((x+11*n*n+17*n+3)*40692).fmod 2147483399*30011).fmod 998244353)*1000000009+(((x+5*n*n+29*n+8)*39373).fmod 2147483587*45989).fmod 1000000009]) (S.set k (.lst ((acc++[((((x+7*n*n+13*n+5)*48271).fmod 2147483647*52021).fmod 1000000007*998244353+(((x+11*n*n+17*n+3)*40692).fmod 2147483399*30011).fmod 998244353)*1000000009+(((x+5*n*n+29*n+8)*39373).fmod 2147483587*45989).fmod 1000000009]).map .int))) (some (.pv (.int n))) (some (.pv (.int x))) (some (.pv (.int ((((x+7*n*n+13*n+5)*48271).fmod 2147483647*52021).fmod 1000000007)))) (some (.pv (.int ((((x+11*n*n+17*n+3)*40692).fmod 2147483399*30011).fmod 998244353)))) (some (.pv (.int ((((x+5*n*n+29*n+8)*39373).fmod 2147483587*45989).fmod 1000000009)))) (h.set _) (by simp;omega) (by omega)
   refine⟨acc',w2,w3,w4,w5,w6,?_,q⟩;rw[jq]at e;rw[<-e];show dM [] _ _ (.tup [.int n,.int x]::gH (n+1) (cs.map .int)) _ S=_;rw[iE];simp! [gT,eL,gU,gN,aG,bC,bD,aI,aU,aW,aV,aX,aL,aT,Jk,c,kZ,fS,nG,h',hlen,jP _ hk1 hk2,jP _ (show-(2^64)<(48271:Int) by decide) (by decide),jP _ (show-(2^64)<(40692:Int) by decide) (by decide),jP _ (show-(2^64)<(39373:Int) by decide) (by decide),jP _ (show-(2^64)<(52021:Int) by decide) (by decide),jP _ (show-(2^64)<(30011:Int) by decide) (by decide),jP _ (show-(2^64)<(45989:Int) by decide) (by decide),jP _ (show-(2^64)<(998244353:Int) by decide) (by decide),jP _ (show-(2^64)<(1000000009:Int) by decide) (by decide),kI (show(2147483647:Int)≠0 by decide),kI (show(2147483399:Int)≠0 by decide),kI (show(2147483587:Int)≠0 by decide),kI (show(1000000007:Int)≠0 by decide),kI (show(998244353:Int)≠0 by decide),kI (show(1000000009:Int)≠0 by decide)]
theorem Ow(ns:AA)(S:aH)(h:ns.length<=63):∃ms:AA,pS [.pv (.lst (ns.map .int))] S=.ok (.ref S.length) (S++[.lst (ms.map .int)])/\ms.length<=63:=by
 have hr:fX (S++[.lst []]) S.length []:=by unfold fX;simp
 obtain⟨ms,w2,w3,w4,w5,w6,e,q⟩:=vK (a:=.pv (.lst (ns.map .int))) ns 0 [] (S++[.lst []]) none none none none none hr (by simpa using h) (by simpa using h);have ec:gZ (ns.map .int) none (some 63)=ns.map .int:=by
  unfold gZ;have e1:HT.sIx (ns.map PV.int).length 0 none=0:=rfl;have e2:HT.sIx (ns.map PV.int).length (ns.map PV.int).length (some 63)=(ns.map PV.int).length:=by
   have:=HT.sIx_nat (ns.map PV.int).length (ns.map PV.int).length 63;rw[show((63:Nat):Int)=63 from rfl]at this;rw[this,az];omega
  rw[e1,e2,List.drop_zero,Nat.sub_zero,zt]
 refine⟨ms,?_,q⟩;have es:(S++[SO.lst []]).set S.length (.lst (ms.map .int))=S++[.lst (ms.map .int)]:=by simp
 rw[es]at e;unfold pS aS wV;simp! [aG,bC,bD,aI,aU,aW,aV,aX,aL,aT,eS,tH,xR,sJ,eG,eI,eK,gA,iT,wY,ec,e]
def PT(L:AA)(b:Int):AA:=(low (L++[b])).map (sg b*·)
theorem L1{L:AA}{b:Int}(hb:b≠0):gl (L++[b]) 0≠0:=sH (lK L b) hb
theorem Tw{L:AA}{b:Int}(hb:0<b):PT L b=low (L++[b]):=by
 unfold PT sg;rw[if_pos hb]
 conv=>rhs;rw[<-uk (low (L++[b]))]
 exact ie λn _=>ko n
theorem Fd(S:aH)(v2:AK):∀(ns:AA)(g:Int)(a:AV),∃v',dM [] (gN 2) (bE 1 (bI mK [] (aC (aA 1) (aC (aA 2) aE)))) (ns.map .int) [some a,some (.pv (.int g)),v2] S=.nx [some a,some (.pv (.int (gl ns g))),v'] S
 |[],g,a=>⟨v2,kH⟩
 |n::ns,g,a=>by
  obtain⟨v',e⟩:=Fd S (some (.pv (.int n))) ns (aw g n:Nat) a;refine⟨v',?_⟩;show dM [] _ _ (.int n::ns.map .int) _ S=_;rw[iE];simp! [gN,aG,bC,bD,aI,aU,aW,aV,aX,aL,aT,Oa];exact e
theorem Wm(ns:AA)(S:aH)(hb:∀n∈ns,Bd 8000 n)(h:gl ns 0≠0):rB [.pv (.lst (ns.map .int))] S=.ok (.pv (.lst ((low ns).map .int))) S:=by
 obtain⟨v',e⟩:=Fd S none ns 0 (.pv (.lst (ns.map .int)));have el:low ns=ns.map λn=>n.fdiv (gl ns 0):=by
  unfold low;rw[if_neg h];exact ie λn hn=>(kn ((iZ ns 0).2 n hn)).symm
 have bg:Bd 8000 (gl ns 0):=sN (Bd.of (n:=0) (by simp) (qt 8000)) hb;have ec:=rN S (gl ns 0) h bg ns none;unfold rB aS uT;simp! [aG,bC,bD,aI,aU,aW,aV,aX,aL,aT,eS,cR,cQ,e,h,el,cA,cO,ec]
theorem Ed(S:aH)(b:Int):∀(ns:AA)(x:AK),cN [] (gN 0) (aB aZ (bI kN [] (aC (aA 1) aE)) (aA 0)) (ns.map .int) [x,some (.pv (.int b))] S=.ok ((ns.map (sg b*·)).map .int) S
 |[],x=>eQ
 |n::ns,x=>by
  have ih:=Ed S b ns (some (.pv (.int n)));have hm:aZ (.int (sg b)) (.int n)=some (.int (sg b*n)):=kK (.inl (.inl (Ar b)));show cN [] _ _ (.int n::ns.map .int) _ S=_;rw[eU];simp! [gN,aG,bC,bD,aI,aU,aW,aV,aX,aL,aT,oY,hm,ih]
theorem Tr{w:PV}(L:AA)(b:Int)(S:aH)(hw:w=.lst (L.map .int)\/w=.tup (L.map .int))(hL:∀n∈L,Bd 8000 n)(bb:Bd 8000 b)(hb:b≠0)(hl:L.length<=100):lM [.pv w,.pv (.int b)] S=.ok (.pv (.tup ((PT L b).map .int))) S:=by
 have e1:=Wm (L++[b]) S (λn hn=>by
  rcases du.mp hn with z |z
  .exact hL n z
  .have:n=b:=by simpa using z
   rw[this];exact bb) (L1 hb)
 have e2:=Ed S b (low (L++[b])) none;have hz:L.length+1<=16777216:=by omega
 simp only[ou,cw,iu]at e1;unfold PT lM aS wH;rcases hw with rfl |rfl<;>simp! [aG,bC,bD,aI,aU,aW,aV,aX,aL,aT,hb,hz,e1,cR,cQ,cA,cO,e2]
theorem Ds(zs:AA)(z:Int):gZ ((zs++[z]).map .int) none (some (-1))=zs.map .int:=by
 unfold gZ;have e1:HT.sIx ((zs++[z]).map PV.int).length 0 none=0:=rfl;have e2:HT.sIx ((zs++[z]).map PV.int).length ((zs++[z]).map PV.int).length (some (-1))=zs.length:=by
  rw[az,da];exact wC zs.length _
 rw[e1,e2];simp
theorem Eo(zs:AA)(z:Int):¬(HT.sIx ((zs++[z]).map PV.int).length 0 none=0/\HT.sIx ((zs++[z]).map PV.int).length ((zs++[z]).map PV.int).length (some (-1))=((zs++[z]).map PV.int).length):=by
 rintro⟨_,e⟩
 have e2:HT.sIx ((zs++[z]).map PV.int).length ((zs++[z]).map PV.int).length (some (-1))=zs.length:=by
  rw[az,da];exact wC zs.length _
 rw[e2,az,da]at e;simp at e
theorem Jd(zs:AA)(z:Int):iT (.tup ((zs++[z]).map .int)) none (some (-1))=some (.tup (zs.map .int)):=by
 unfold iT;dsimp only;rw[if_neg (Eo zs z),Ds]
theorem oR(zs:AA)(z:Int):aG (.tup ((zs++[z]).map .int)) (.int (-1))=some (.int z):=by
 show bC ((zs++[z]).map PV.int) (-1)=_;rw[ou];exact Os _ _
theorem M9{m:Int}(h0:0<=m)(h:m<1024):Bd 8000 m:=Bd.of (n:=1023) (by omega) (bn (show 1023<2^10 by decide) (kj (by decide) (by decide)))
theorem cP(n:Nat)(a b:Int):aI n (.int a) (.int b)=some (a==b):=by cases n<;>rfl
theorem mB{a b:Int}(h:Bd 2000 a)(g:Bd 2000 b):aZ (.int a) (.int b)=some (.int (a*b)):=kK (.inr ⟨h.mono (by decide),g.mono (by decide)⟩)
theorem Sh(zs:AA)(z:Int)(j:Nat)(h:j<zs.length):aG (.tup ((zs++[z]).map .int)) (.int (j:Nat))=some (.int (zs.getD j 0)):=by
 show bC ((zs++[z]).map PV.int) (j:Int)=_;refine wQ ?_;rw[dz,gf h,ax h];simp[ba,h]
theorem Ff{xs:AA}{k:Nat}(h:∀x∈xs,Bd k x)(j:Nat):Bd k (xs.getD j 0):=by
 by_cases hj:j<xs.length
 .have e:xs.getD j 0=xs[j]:=by simp[ba,hj]
  rw[e];exact h _ (ig hj)
 .have e:xs.getD j 0=0:=by simp[ba,hj]
  rw[e];exact Bd.of (n:=0) (by decide) (qt k)
theorem Xo{xs ys:AA}(hl:xs.length=ys.length)(f:Int->Int->Int):(aq xs.length).map (λj=>f (xs.getD j 0) (ys.getD j 0))=cu f xs ys:=by
 refine qk (by simp[hl]) λi h1 h2=>?_;have hi:i<xs.length:=by simpa using h1
 have hj:i<ys.length:=by omega
 simp[ba,hi,hj]
structure Pq(n k:Nat)(xs:AA)(w:Int):Prop where
 len:xs.length=n
 pos:0<w
 low:low (xs++[w])=xs++[w]
 bx:∀x∈xs,Bd k x
 bw:Bd k w
theorem Pq.mono{n k l:Nat}{xs:AA}{w:Int}(P:Pq n k xs w)(h:k<=l):Pq n l xs w:=⟨P.len,P.pos,P.low,λx hx=>(P.bx x hx).mono h,P.bw.mono h⟩
theorem Hr{xs:AA}{w:Int}{n k:Nat}(S:aH)(hk:k<=2000)(h:Pq n k xs w):oG [.pv (.tup ((xs++[w]).map .int)),.pv (.int n)] S=.ok (.pv (.bl true)) S:=by
 have e1:=Yn (xs++[w]) S;have hl:((xs++[w]).length:Int)=(n:Int)+1:=by simp[h.len]
 rw[hl]at e1;have ip:=oR xs w;have el:=Lm (xs++[w]) S (λm hm=>by
  rcases du.mp hm with z |z
  .exact(h.bx m z).mono (by omega)
  .have:m=w:=by simpa using z
   rw[this];exact h.bw.mono (by omega))
 rw[h.low]at el;have q:aI 8 (.tup ((xs++[w]).map .int)) (.tup ((xs++[w]).map .int))=some true:=We 7 _;have hw:¬w<1:=by have:=h.pos;omega
 generalize (xs++[w]).map PV.int=PL at e1 ip el q;unfold oG aS uA;simp! [cP,aU,aW,aV,aX,aL,aT,e1,ip,hw,el,q]
theorem wJ(t b:Int)(S:aH)(ht:Bd 8000 t)(hb:Bd 8000 b):mT [.pv (.int t),.pv (.int b)] S=.ok (.pv (.tup ((fr t b).map .int))) S:=by
 unfold mT aS wD fr;have e1:=uU [0-t,0-b] S (by
  intro n hn;rcases bh.mp hn with rfl |hn
  .rw[fe];exact ht.neg
  .have:n=0-b:=by simpa using hn
   rw[this,fe];exact hb.neg)
 have e2:=uU [t,b] S (by
  intro n hn;rcases bh.mp hn with rfl |hn
  .exact ht
  .have:n=b:=by simpa using hn
   rw[this];exact hb)
 by_cases h:b<0
 .simp only[cw,iu,fe]at e1
  simp! [aG,bC,bD,aI,aU,aW,aV,aX,aL,aT,h,e1]
 .simp only[cw,iu]at e2
  simp! [aG,bC,bD,aI,aU,aW,aV,aX,aL,aT,h,e2]
theorem Wl(t b:Int)(S:aH)(ht:Bd 7000 t)(hb:Bd 7000 b)(h:b≠0):oK [.pv (.int t),.pv (.int b)] S=.ok (.pv (.tup ((fr t b).map .int))) S:=by
 have gb:Bd 7000 ((aw t b:Nat):Int):=ht.gcd hb;have sb:Bd 2 (sg b):=by
  unfold sg;split
  .unfold Bd;simp
  .split<;>(unfold Bd;simp)
 have mb:lU (sg b) (aw t b:Nat):=.inr ⟨sb.mono (by decide),gb.mono (by decide)⟩;have nz:sg b*(aw t b:Nat)≠0:=by
  have gp:=pG (iO t b) h;rw[mZ]at gp;rcases Qe h with⟨_,s⟩|⟨_,s⟩<;>rw[s]<;>omega
 have qb:∀x,lS x (sg b*(aw t b:Nat)):=λx=>⟨nz,(sb.mul gb).mono (by decide)⟩;rw[<-Qn h];unfold oK aS uS;simp! [aG,bC,bD,aI,aU,aW,aV,aX,aL,aT,h,oY,Oa,kK mb,rE (qb t),rE (qb b)]
theorem uJ:∀is:AA,gB (is.map .int)=some is
 |[]=>rfl
 |i::is=>by
  have ih:=uJ is;show(match gB (is.map .int)with |some bs=>some (i::bs) |none=>none)=_
  rw[ih]
theorem Jc(is:AA):lV [.lst (is.map .int)]=some (.int is.sum):=by
 simp only[lV,uJ,d3]
def wa(xs:AA)(w:Int)(ys:AA)(v:Int):AA:=cu (λx y=>y*w-x*v) xs ys
theorem Vf(S:aH)(PL QL:AI)(w v:Int)(hp:aG (.tup PL) (.int (-1))=some (.int w))(hq:aG (.tup QL) (.int (-1))=some (.int v))(bw:Bd 2000 w)(bv:Bd 2000 v):∀(xs ys:AA)(x y:AK),xs.length=ys.length->(∀x∈xs,Bd 2000 x)->(∀y∈ys,Bd 2000 y)->
  cN [] (gT 2 (eL (gN 0) (eL (gN 1) gU))) (aB eN (aB aZ (aA 1) (aB aG (aA 2) (bF dP (mC (.int 1))))) (aB aZ (aA 0) (aB aG (aA 3) (bF dP (mC (.int 1)))))) (fK (xs.map .int) (ys.map .int)) [x,y,some (.pv (.tup PL)),some (.pv (.tup QL))] S=.ok ((wa xs w ys v).map .int) S
 |[],ys,x,y,hl,_,_=>by
  have:ys=[]:=List.length_eq_zero_iff.mp hl.symm;subst this;exact eQ
 |a::xs,[],x,y,hl,_,_=>by cases hl
 |a::xs,b::ys,x,y,hl,hx,hy=>by
  have ih:=Vf S PL QL w v hp hq bw bv xs ys (some (.pv (.int a))) (some (.pv (.int b))) (by simpa using hl) (λm hm=>hx m (cj _ hm)) (λm hm=>hy m (cj _ hm));have m1:=mB (hx a bi) bv;have m2:=mB (hy b bi) bw;show cN [] _ _ (.tup [.int a,.int b]::fK (xs.map .int) (ys.map .int)) _ S=_;rw[eU];simp! [gT,eL,gU,gN,cP,aU,aW,aV,aX,aL,aT,hp,hq,m1,m2,ih,wa]
theorem Td{xs ys:AA}{w v:Int}(S:aH)(hl:xs.length=ys.length)(hx:∀x∈xs,Bd 2000 x)(hy:∀y∈ys,Bd 2000 y)(bw:Bd 2000 w)(bv:Bd 2000 v):
  mH [.pv (.tup ((xs++[w]).map .int)),.pv (.tup ((ys++[v]).map .int))] S=.ok (.pv (.lst ((wa xs w ys v).map .int))) S:=by
 have ip:=oR xs w;have iq:=oR ys v;have sp:=Jd xs w;have sq:=Jd ys v;have ec:=Vf S _ _ w v ip iq bw bv xs ys none none hl hx hy;generalize (xs++[w]).map PV.int=PL at ip sp ec;generalize (ys++[v]).map PV.int=QL at iq sq ec;unfold mH aS uB;simp! [cP,aU,aW,aV,aX,aL,aT,cA,kW,pT,cQ,eG,eI,eK,gA,sp,sq,cO,ec]
theorem wA(S:aH):∀(us vs:AA)(x y:AK),(∀x∈us,Bd 100000 x)->(∀y∈vs,Bd 100000 y)->
  cN [] (gT 2 (eL (gN 0) (eL (gN 1) gU))) (aB aZ (aA 0) (aA 1)) (fK (us.map .int) (vs.map .int)) [x,y] S=.ok ((cu (·*·) us vs).map .int) S
 |[],vs,x,y,_,_=>by
  show cN [] _ _ [] _ S=_;exact eQ
 |a::us,[],x,y,_,_=>by
  show cN [] _ _ [] _ S=_;exact eQ
 |a::us,b::vs,x,y,hx,hy=>by
  have ih:=wA S us vs (some (.pv (.int a))) (some (.pv (.int b))) (λm hm=>hx m (cj _ hm)) (λm hm=>hy m (cj _ hm));have m1:aZ (.int a) (.int b)=some (.int (a*b)):=kK (.inr ⟨(hx a bi).mono (by decide),(hy b bi).mono (by decide)⟩);show cN [] _ _ (.tup [.int a,.int b]::fK (us.map .int) (vs.map .int)) _ S=_;rw[eU];simp! [gT,eL,gU,gN,cP,aU,aW,aV,aX,aL,aT,m1,ih]
def dt(us vs:AA):Int:=(cu (·*·) us vs).sum
def Sq(A:PV)(us:AA):Prop:=A=.lst (us.map .int)\/A=.tup (us.map .int)
theorem Ch{A B:PV}{us vs:AA}(S:aH)(hA:Sq A us)(hB:Sq B vs)(hx:∀x∈us,Bd 100000 x)(hy:∀y∈vs,Bd 100000 y):sK [.pv A,.pv B] S=.ok (.pv (.int (dt us vs))) S:=by
 have ec:=wA S us vs none none hx hy;have es:=Jc (cu (·*·) us vs);unfold dt;generalize (cu (·*·) us vs).map PV.int=ZL at ec es;generalize (cu (·*·) us vs).sum=Z at es;unfold sK aS xV;rcases hA with rfl |rfl<;>rcases hB with rfl |rfl<;>
  (generalize us.map PV.int=UL at ec⊢;generalize vs.map PV.int=VL at ec⊢;simp! [cP,aU,aW,aV,aX,aL,aT,cA,kW,pT,cQ,cO,ec,es])
theorem Av{A B:PV}{us vs:AA}(S:aH)(hA:Sq A us)(hB:Sq B vs)(hx:∀x∈us,Bd 100000 x)(hy:∀y∈vs,Bd 100000 y):sE [.pv A,.pv B] S=.ok (.pv (.int (dt us vs))) S:=by
 have ec:=wA S us vs none none hx hy;have es:=Jc (cu (·*·) us vs);unfold dt;generalize (cu (·*·) us vs).map PV.int=ZL at ec es;generalize (cu (·*·) us vs).sum=Z at es;unfold sE aS xJ;rcases hA with rfl |rfl<;>rcases hB with rfl |rfl<;>
  (generalize us.map PV.int=UL at ec⊢;generalize vs.map PV.int=VL at ec⊢;simp! [cP,aU,aW,aV,aX,aL,aT,cA,kW,pT,cQ,cO,ec,es])
theorem dC{k l:Nat}{a b:Int}(h:Bd k a)(g:Bd l b)(hk:k<=1000000:=by decide)(hl:l<=1000000:=by decide):aZ (.int a) (.int b)=some (.int (a*b)):=kK (.inr ⟨h.mono hk,g.mono hl⟩)
theorem Pt(a b:Int)(S:aH):mO [.pv (.lst [.lst [.int a,.int b]])] S=.ok (.pv (.lst [.int (-b),.int a])) S:=by
 unfold mO aS rL;simp! [aG,bC,bD,aI,aU,aW,aV,aX,aL,aT]
theorem Rs{a b c d e f:Int}(S:aH)(ha:Bd 10000 a)(hb:Bd 10000 b)(hc:Bd 10000 c)(hd:Bd 10000 d)(he:Bd 10000 e)(hf:Bd 10000 f):mO [.pv (.lst [.lst [.int a,.int b,.int c],.lst [.int d,.int e,.int f]])] S=.ok (.pv (.lst [.int (b*f-c*e),.int (c*d-a*f),.int (a*e-b*d)])) S:=by
 have m1:=dC hb hf;have m2:=dC hc he;have m3:=dC hc hd;have m4:=dC ha hf;have m5:=dC ha he;have m6:=dC hb hd;unfold mO aS rL;simp! [aG,bC,bD,aI,aU,aW,aV,aX,aL,aT,m1,m2,m3,m4,m5,m6]
theorem Ls{A B:PV}{a b c d e f:Int}(S:aH)(hA:Sq A [a,b,c])(hB:Sq B [d,e,f])(ha:Bd 10000 a)(hb:Bd 10000 b)(hc:Bd 10000 c)(hd:Bd 10000 d)(he:Bd 10000 e)(hf:Bd 10000 f):rK [.pv A,.pv B] S=.ok (.pv (.lst [.int (b*f-c*e),.int (c*d-a*f),.int (a*e-b*d)])) S:=by
 have m1:=dC hb hf;have m2:=dC hc he;have m3:=dC hc hd;have m4:=dC ha hf;have m5:=dC ha he;have m6:=dC hb hd;unfold rK aS vI;rcases hA with rfl |rfl<;>rcases hB with rfl |rfl<;>simp! [aG,bC,bD,aI,aU,aW,aV,aX,aL,aT,m1,m2,m3,m4,m5,m6]
structure P2(x y w:Int):Prop where
 bx:Bd 1000 x
 by_:Bd 1000 y
 bw:Bd 1000 w
 pos:0<w
structure P3(x y z w:Int):Prop where
 bx:Bd 1000 x
 by_:Bd 1000 y
 bz:Bd 1000 z
 bw:Bd 1000 w
 pos:0<w
abbrev v2(x y w:Int):PV:=.tup [.int x,.int y,.int w]
abbrev v3(x y z w:Int):PV:=.tup [.int x,.int y,.int z,.int w]
def Sv(A:PV)(L:AI):Prop:=A=.lst L\/A=.tup L
theorem Hk(p:PV)(L:AI):gZ (p::L) (some 1) none=L:=by
 unfold gZ;have e1:HT.sIx (p::L).length 0 (some 1)=1:=by
  rw[show(some (1:Int))=some ((1:Nat):Int) from rfl,HT.sIx_nat,cg];omega
 rw[e1];show((p::L).drop 1).take ((p::L).length-1)=L;simp
theorem sL(p:PV)(L:AI):iT (.lst (p::L)) (some 1) none=some (.lst L):=by
 unfold iT;dsimp only;rw[Hk]
theorem sM(p:PV)(L:AI):iT (.tup (p::L)) (some 1) none=some (.tup L):=by
 unfold iT;dsimp only;have e1:HT.sIx (p::L).length 0 (some 1)=1:=by
  rw[show(some (1:Int))=some ((1:Nat):Int) from rfl,HT.sIx_nat,cg];omega
 rw[if_neg (by rw[e1];simp),Hk]
theorem Ih(L:AI)(p:PV):iT (.lst (L++[p])) none (some (-1))=some (.lst L):=by
 unfold iT;dsimp only;unfold gZ;have e1:HT.sIx (L++[p]).length (L++[p]).length (some (-1))=L.length:=by
  rw[da];exact wC L.length _
 rw[e1];show some (PV.lst (((L++[p]).drop 0).take (L.length-0)))=_;simp
theorem Jh{x0 y0 w0 x1 y1 w1:Int}(S:aH)(p:P2 x0 y0 w0)(q:P2 x1 y1 w1):mH [.pv (v2 x0 y0 w0),.pv (v2 x1 y1 w1)] S=.ok (.pv (.lst [.int (x1*w0-x0*w1),.int (y1*w0-y0*w1)])) S:=by
 have e:=Td (xs:=[x0,y0]) (ys:=[x1,y1]) (w:=w0) (v:=w1) S rfl (by simp;exact⟨p.bx.mono (by decide),p.by_.mono (by decide)⟩) (by simp;exact⟨q.bx.mono (by decide),q.by_.mono (by decide)⟩) (p.bw.mono (by decide)) (q.bw.mono (by decide));exact e
theorem wZ{x0 y0 z0 w0 x1 y1 z1 w1:Int}(S:aH)(p:P3 x0 y0 z0 w0)(q:P3 x1 y1 z1 w1):mH [.pv (v3 x0 y0 z0 w0),.pv (v3 x1 y1 z1 w1)] S=.ok (.pv (.lst [.int (x1*w0-x0*w1),.int (y1*w0-y0*w1),.int (z1*w0-z0*w1)])) S:=by
 have e:=Td (xs:=[x0,y0,z0]) (ys:=[x1,y1,z1]) (w:=w0) (v:=w1) S rfl (by simp;exact⟨p.bx.mono (by decide),p.by_.mono (by decide),p.bz.mono (by decide)⟩) (by simp;exact⟨q.bx.mono (by decide),q.by_.mono (by decide),q.bz.mono (by decide)⟩) (p.bw.mono (by decide)) (q.bw.mono (by decide));exact e
theorem sb{x0 w0 x1 w1:Int}(a:Bd 1000 x0)(b:Bd 1000 w0)(c:Bd 1000 x1)(d:Bd 1000 w1):Bd 2001 (x1*w0-x0*w1):=((c.mul b).mono (show 1000+1000<=2000 by decide)).sub ((a.mul d).mono (show 1000+1000<=2000 by decide))
theorem cb{a b c d:Int}(h1:Bd 2001 a)(h2:Bd 2001 b)(h3:Bd 2001 c)(h4:Bd 2001 d):Bd 4003 (a*b-c*d):=((h1.mul h2).mono (show 2001+2001<=4002 by decide)).sub ((h3.mul h4).mono (show 2001+2001<=4002 by decide))
def D2(x0 y0 w0 x1 y1 w1 x2 y2 w2:Int):Int:=w0*(x1*y2-y1*x2)-w1*(x0*y2-y0*x2)+w2*(x0*y1-y0*x1)
def D3(x0 y0 z0 w0 x1 y1 z1 w1 x2 y2 z2 w2 x3 y3 z3 w3:Int):Int:=
 w0*((y1*z2-z1*y2)*x3+(z1*x2-x1*z2)*y3+(x1*y2-y1*x2)*z3)-w1*((y0*z2-z0*y2)*x3+(z0*x2-x0*z2)*y3+(x0*y2-y0*x2)*z3)
 +w2*((y0*z1-z0*y1)*x3+(z0*x1-x0*z1)*y3+(x0*y1-y0*x1)*z3)-w3*((y0*z1-z0*y1)*x2+(z0*x1-x0*z1)*y2+(x0*y1-y0*x1)*z2)
theorem G6(x0 y0 w0 x1 y1 w1 x2 y2 w2:Int):dt [-(y1*w0-y0*w1),x1*w0-x0*w1] [x2*w0-x0*w2,y2*w0-y0*w2]=w0*D2 x0 y0 w0 x1 y1 w1 x2 y2 w2:=by
 simp only[dt,D2,qu,d4,vg,List.sum_nil];grind
theorem Ii(x0 y0 z0 w0 x1 y1 z1 w1 x2 y2 z2 w2 x3 y3 z3 w3:Int):dt [(y1*w0-y0*w1)*(z2*w0-z0*w2)-(z1*w0-z0*w1)*(y2*w0-y0*w2),(z1*w0-z0*w1)*(x2*w0-x0*w2)-(x1*w0-x0*w1)*(z2*w0-z0*w2),(x1*w0-x0*w1)*(y2*w0-y0*w2)-(y1*w0-y0*w1)*(x2*w0-x0*w2)] [x3*w0-x0*w3,y3*w0-y0*w3,z3*w0-z0*w3]=w0*w0*D3 x0 y0 z0 w0 x1 y1 z1 w1 x2 y2 z2 w2 x3 y3 z3 w3:=by
 simp only[dt,D3,qu,d4,vg,List.sum_nil];grind
theorem sC{w d:Int}(h:0<w):sg (w*d)=sg d:=by
 unfold sg
 by_cases h1:0<d
 .rw[if_pos (jr h h1),if_pos h1]
 .by_cases h2:d<0
  .have:w*d<0:=Int.mul_neg_of_pos_of_neg h h2
   rw[if_neg (by omega),if_pos this,if_neg h1,if_pos h2]
  .have:d=0:=by omega
   subst this;rw[uh]
theorem Zt{A:PV}{x0 y0 w0 x1 y1 w1 x2 y2 w2:Int}(S:aH)(hA:Sv A [v2 x0 y0 w0,v2 x1 y1 w1,v2 x2 y2 w2])(p:P2 x0 y0 w0)(q:P2 x1 y1 w1)(r:P2 x2 y2 w2):mG [.pv A] S=.ok (.pv (.int (w0*D2 x0 y0 w0 x1 y1 w1 x2 y2 w2))) S:=by
 have a1:=Jh S p q;have a2:=Jh S p r;have bu:=sb p.bx p.bw q.bx q.bw;have bv:=sb p.by_ p.bw q.by_ q.bw;have bu2:=sb p.bx p.bw r.bx r.bw;have bv2:=sb p.by_ p.bw r.by_ r.bw;have id:=G6 x0 y0 w0 x1 y1 w1 x2 y2 w2;generalize w0*D2 x0 y0 w0 x1 y1 w1 x2 y2 w2=D at *;generalize x1*w0-x0*w1=U0 at *;generalize y1*w0-y0*w1=U1 at *;generalize x2*w0-x0*w2=V0 at *;generalize y2*w0-y0*w2=V1 at *;have en:=Pt U0 U1 S;have ed:=Ch (A:=.lst [.int (-U1),.int U0]) (B:=.lst [.int V0,.int V1]) (us:=[-U1,U0]) (vs:=[V0,V1]) S (.inl rfl) (.inl rfl) (by simp;exact⟨bv.neg.mono (by decide),bu.mono (by decide)⟩) (by simp;exact⟨bu2.mono (by decide),bv2.mono (by decide)⟩);rw[id]at ed;have pre:=Ih [.lst [.int U0,.int U1]] (.lst [.int V0,.int V1]);simp only[d5,vt]at pre;generalize v2 x0 y0 w0=P at *;generalize v2 x1 y1 w1=Q at *;generalize v2 x2 y2 w2=R at *;unfold mG aS qP;rcases hA with rfl |rfl
 .have s1:=sL P [Q,R]
  simp! [aG,bC,bD,aI,aU,aW,aV,aX,aL,aT,cA,cR,cQ,eG,eI,eK,gA,s1,cO,eU,eQ,gN,a1,a2,pre,en,ed]
 .have s1:=sM P [Q,R]
  simp! [aG,bC,bD,aI,aU,aW,aV,aX,aL,aT,cA,cR,cQ,eG,eI,eK,gA,s1,cO,eU,eQ,gN,a1,a2,pre,en,ed]
theorem Bw{A:PV}{x0 y0 z0 w0 x1 y1 z1 w1 x2 y2 z2 w2 x3 y3 z3 w3:Int}(S:aH)(hA:Sv A [v3 x0 y0 z0 w0,v3 x1 y1 z1 w1,v3 x2 y2 z2 w2,v3 x3 y3 z3 w3])(p:P3 x0 y0 z0 w0)(q:P3 x1 y1 z1 w1)(r:P3 x2 y2 z2 w2)(s:P3 x3 y3 z3 w3):mG [.pv A] S=.ok (.pv (.int (w0*w0*D3 x0 y0 z0 w0 x1 y1 z1 w1 x2 y2 z2 w2 x3 y3 z3 w3))) S:=by
 have a1:=wZ S p q;have a2:=wZ S p r;have a3:=wZ S p s;have b1:=sb p.bx p.bw q.bx q.bw;have b2:=sb p.by_ p.bw q.by_ q.bw;have b3:=sb p.bz p.bw q.bz q.bw;have b4:=sb p.bx p.bw r.bx r.bw;have b5:=sb p.by_ p.bw r.by_ r.bw;have b6:=sb p.bz p.bw r.bz r.bw;have b7:=sb p.bx p.bw s.bx s.bw;have b8:=sb p.by_ p.bw s.by_ s.bw;have b9:=sb p.bz p.bw s.bz s.bw;have id:=Ii x0 y0 z0 w0 x1 y1 z1 w1 x2 y2 z2 w2 x3 y3 z3 w3;generalize w0*w0*D3 x0 y0 z0 w0 x1 y1 z1 w1 x2 y2 z2 w2 x3 y3 z3 w3=D at *;generalize x1*w0-x0*w1=U0 at *;generalize y1*w0-y0*w1=U1 at *;generalize z1*w0-z0*w1=U2 at *;generalize x2*w0-x0*w2=V0 at *;generalize y2*w0-y0*w2=V1 at *;generalize z2*w0-z0*w2=V2 at *;generalize x3*w0-x0*w3=T0 at *;generalize y3*w0-y0*w3=T1 at *;generalize z3*w0-z0*w3=T2 at *;have h:∀{a:Int},Bd 2001 a->Bd 10000 a:=λh=>h.mono (by decide);have h4:∀{a:Int},Bd 4003 a->Bd 100000 a:=λh=>h.mono (by decide);have h2:∀{a:Int},Bd 2001 a->Bd 100000 a:=λh=>h.mono (by decide);have en:=Rs S (h b1) (h b2) (h b3) (h b4) (h b5) (h b6);have c1:=cb b2 b6 b3 b5;have c2:=cb b3 b4 b1 b6;have c3:=cb b1 b5 b2 b4;have ed:=Ch (A:=.lst [.int (U1*V2-U2*V1),.int (U2*V0-U0*V2),.int (U0*V1-U1*V0)]) (B:=.lst [.int T0,.int T1,.int T2]) (us:=[U1*V2-U2*V1,U2*V0-U0*V2,U0*V1-U1*V0]) (vs:=[T0,T1,T2]) S (.inl rfl) (.inl rfl) (by simp;exact⟨h4 c1,h4 c2,h4 c3⟩) (by simp;exact⟨h2 b7,h2 b8,h2 b9⟩);rw[id]at ed;generalize U1*V2-U2*V1=N0 at *;generalize U2*V0-U0*V2=N1 at *;generalize U0*V1-U1*V0=N2 at *;have pre:=Ih [.lst [.int U0,.int U1,.int U2],.lst [.int V0,.int V1,.int V2]] (.lst [.int T0,.int T1,.int T2]);simp only[d5,vt]at pre;generalize v3 x0 y0 z0 w0=P at *;generalize v3 x1 y1 z1 w1=Q at *;generalize v3 x2 y2 z2 w2=R at *;generalize v3 x3 y3 z3 w3=T at *;unfold mG aS qP;rcases hA with rfl |rfl
 .have s1:=sL P [Q,R,T]
  simp! [aG,bC,bD,aI,aU,aW,aV,aX,aL,aT,cA,cR,cQ,eG,eI,eK,gA,s1,cO,eU,eQ,gN,a1,a2,a3,pre,en,ed]
 .have s1:=sM P [Q,R,T]
  simp! [aG,bC,bD,aI,aU,aW,aV,aX,aL,aT,cA,cR,cQ,eG,eI,eK,gA,s1,cO,eU,eQ,gN,a1,a2,a3,pre,en,ed]
theorem Yp{A:PV}{x0 y0 w0 x1 y1 w1 x2 y2 w2:Int}(S:aH)(hA:Sv A [v2 x0 y0 w0,v2 x1 y1 w1,v2 x2 y2 w2])(p:P2 x0 y0 w0)(q:P2 x1 y1 w1)(r:P2 x2 y2 w2):lP [.pv A] S=.ok (.pv (.int (sg (D2 x0 y0 w0 x1 y1 w1 x2 y2 w2)))) S:=by
 have e1:=Zt S hA p q r;have e2:=oY (w0*D2 x0 y0 w0 x1 y1 w1 x2 y2 w2) S;rw[sC p.pos]at e2;unfold lP aS sA;simp! [aG,bC,bD,aI,aU,aW,aV,aX,aL,aT,e1,e2]
theorem Zp{A:PV}{x0 y0 z0 w0 x1 y1 z1 w1 x2 y2 z2 w2 x3 y3 z3 w3:Int}(S:aH)(hA:Sv A [v3 x0 y0 z0 w0,v3 x1 y1 z1 w1,v3 x2 y2 z2 w2,v3 x3 y3 z3 w3])(p:P3 x0 y0 z0 w0)(q:P3 x1 y1 z1 w1)(r:P3 x2 y2 z2 w2)(s:P3 x3 y3 z3 w3):lP [.pv A] S=.ok (.pv (.int (sg (D3 x0 y0 z0 w0 x1 y1 z1 w1 x2 y2 z2 w2 x3 y3 z3 w3)))) S:=by
 have e1:=Bw S hA p q r s;have e2:=oY (w0*w0*D3 x0 y0 z0 w0 x1 y1 z1 w1 x2 y2 z2 w2 x3 y3 z3 w3) S;rw[sC (jr p.pos p.pos)]at e2;unfold lP aS sA;simp! [aG,bC,bD,aI,aU,aW,aV,aX,aL,aT,e1,e2]
def Gp(n k:Nat)(v:PV):Prop:=∃xs w,v=.tup ((xs++[w]).map .int)/\Pq n k xs w
theorem Gp.two{v:PV}(h:Gp 2 1000 v):∃x y w,v=v2 x y w/\P2 x y w:=by
 obtain⟨xs,w,rfl,P⟩:=h
 match xs,P.len with
 |[x,y],_=>exact⟨x,y,w,rfl,P.bx x (by simp),P.bx y (by simp),P.bw,P.pos⟩
theorem Gp.three{v:PV}(h:Gp 3 1000 v):∃x y z w,v=v3 x y z w/\P3 x y z w:=by
 obtain⟨xs,w,rfl,P⟩:=h
 match xs,P.len with
 |[x,y,z],_=>exact⟨x,y,z,w,rfl,P.bx x (by simp),P.bx y (by simp),P.bx z (by simp),P.bw,P.pos⟩
theorem Hx{n k m:Nat}{v:PV}(h:Gp n k v):aI (m+1) v v=some true:=by
 obtain⟨xs,w,rfl,_⟩:=h;exact We m _
theorem Qa:∀L:AI,∀m,(∀v∈L,aI m v v=some true)->eX (cu (aI m) L L)=some (L.map λ_=>true)
 |[],m,_=>rfl
 |v::L,m,h=>by
  rw[qu,h v bi,eX,Qa L m λu hu=>h u (cj _ hu)];rfl
theorem oU{m:Nat}{L:AI}(h:∀v∈L,aI m v v=some true):aI (m+1) (.tup L) (.tup L)=some true:=by
 rw[aI,Qa L m h];simp
theorem Cd(S:aH)(PL QL:AI)(xs ys:AA)(w v:Int)(hp:aG (.tup PL) (.int (-1))=some (.int w))(hq:aG (.tup QL) (.int (-1))=some (.int v))(hpj:∀j:Nat,j<xs.length->aG (.tup PL) (.int (j:Nat))=some (.int (xs.getD j 0)))(hqj:∀j:Nat,j<xs.length->aG (.tup QL) (.int (j:Nat))=some (.int (ys.getD j 0)))
  (bw:Bd 1000 w)(bv:Bd 1000 v)(hx:∀j,Bd 1000 (xs.getD j 0))(hy:∀j,Bd 1000 (ys.getD j 0)):∀(js:List Nat)(x:AK),(∀j∈js,j<xs.length)->
  cN [] (gN 0) (aB eN (aB aZ (aB aG (aA 1) (aA 0)) (aB aG (aA 2) (bF dP (mC (.int 1))))) (aB aZ (aB aG (aA 2) (aA 0)) (aB aG (aA 1) (bF dP (mC (.int 1)))))) (js.map λj=>.int (0+(j:Nat))) [x,some (.pv (.tup QL)),some (.pv (.tup PL))] S=.ok ((js.map λj=>ys.getD j 0*w-xs.getD j 0*v).map .int) S
 |[],x,_=>eQ
 |j::js,x,h=>by
  have ih:=Cd S PL QL xs ys w v hp hq hpj hqj bw bv hx hy js (some (.pv (.int (0+(j:Nat))))) λi hi=>h i (cj _ hi);have e1:=hpj j (h j bi);have e2:=hqj j (h j bi);have m1:=mB ((hx j).mono (show 1000<=2000 by decide)) (bv.mono (show 1000<=2000 by decide));have m2:=mB ((hy j).mono (show 1000<=2000 by decide)) (bw.mono (show 1000<=2000 by decide));show cN [] _ _ (.int (0+(j:Nat))::js.map λj=>.int (0+(j:Nat))) _ S=_;rw[eU];simp only[Int.zero_add]at ih⊢;generalize hX:xs.getD j 0=X at e1 m1;generalize hY:ys.getD j 0=Y at e2 m2;simp! [gN,cP,aU,aW,aV,aX,aL,aT,e1,e2,hp,hq,m1,m2,ih];simp only[List.getD_eq_getElem?_getD]at hX hY;rw[hX,hY]
theorem Ug{xs ys:AA}{w v:Int}(S:aH)(hl:xs.length=ys.length)(h9:xs.length<=9)(hx:∀x∈xs,Bd 1000 x)(hy:∀y∈ys,Bd 1000 y)(bw:Bd 1000 w)(bv:Bd 1000 v):
  nA [.pv (.tup ((xs++[w]).map .int)),.pv (.tup ((ys++[v]).map .int))] S=.ok (.pv (.lst ((wa xs w ys v).map .int))) S:=by
 have ip:=oR xs w;have iq:=oR ys v;have ec:=Cd S _ _ xs ys w v ip iq (λj h=>Sh xs w j h) (λj h=>Sh ys v j (by omega)) bw bv (Ff hx) (Ff hy) (aq xs.length) none λj hj=>by simpa using hj
 have er:(aq xs.length).map (λj=>ys.getD j 0*w-xs.getD j 0*v)=wa xs w ys v:=Xo hl λx y=>y*w-x*v;rw[er]at ec;have hlen:((xs++[w]).map PV.int).length=xs.length+1:=by simp
 have hr:lW [.pv (.int (((xs.length+1:Nat):Int)-1))] S=.ok ((aq xs.length).map λj=>.int (0+(j:Nat)),[]) S:=by
  unfold lW;dsimp only;rw[if_pos ⟨by omega,by omega⟩];have:(((xs.length+1:Nat):Int)-1).toNat=xs.length:=by omega
  rw[this];rfl
 generalize (wa xs w ys v).map PV.int=ZL at ec;generalize (aq xs.length).map (λj=>PV.int (0+(j:Nat)))=RL at ec hr;generalize hP:(xs++[w]).map PV.int=PL at ip ec hlen;generalize (ys++[v]).map PV.int=QL at iq ec;unfold nA aS xE;have hr2:=hr;rw[<-hlen]at hr2;simp! [cP,aU,aW,aV,aX,aL,aT,cA,gR,hr2,cO,ec]
theorem Pj{x0 y0 w0 x1 y1 w1:Int}(S:aH)(p:P2 x0 y0 w0)(q:P2 x1 y1 w1):nA [.pv (v2 x0 y0 w0),.pv (v2 x1 y1 w1)] S=.ok (.pv (.lst [.int (x1*w0-x0*w1),.int (y1*w0-y0*w1)])) S:=by
 have e:=Ug (xs:=[x0,y0]) (ys:=[x1,y1]) (w:=w0) (v:=w1) S rfl (by simp) (by simp;exact⟨p.bx,p.by_⟩) (by simp;exact⟨q.bx,q.by_⟩) p.bw q.bw;exact e
theorem yN{x0 y0 z0 w0 x1 y1 z1 w1:Int}(S:aH)(p:P3 x0 y0 z0 w0)(q:P3 x1 y1 z1 w1):nA [.pv (v3 x0 y0 z0 w0),.pv (v3 x1 y1 z1 w1)] S=.ok (.pv (.lst [.int (x1*w0-x0*w1),.int (y1*w0-y0*w1),.int (z1*w0-z0*w1)])) S:=by
 have e:=Ug (xs:=[x0,y0,z0]) (ys:=[x1,y1,z1]) (w:=w0) (v:=w1) S rfl (by simp) (by simp;exact⟨p.bx,p.by_,p.bz⟩) (by simp;exact⟨q.bx,q.by_,q.bz⟩) p.bw q.bw;exact e
theorem Yq{A:PV}{x0 y0 w0 x1 y1 w1 x2 y2 w2:Int}(S:aH)(hA:Sv A [v2 x0 y0 w0,v2 x1 y1 w1,v2 x2 y2 w2])(p:P2 x0 y0 w0)(q:P2 x1 y1 w1)(r:P2 x2 y2 w2):kL [.pv A] S=.ok (.pv (.int (w0*D2 x0 y0 w0 x1 y1 w1 x2 y2 w2))) S:=by
 have a1:=Pj S p q;have a2:=Pj S p r;have bu:=sb p.bx p.bw q.bx q.bw;have bv:=sb p.by_ p.bw q.by_ q.bw;have bu2:=sb p.bx p.bw r.bx r.bw;have bv2:=sb p.by_ p.bw r.by_ r.bw;have id:(x1*w0-x0*w1)*(y2*w0-y0*w2)-(y1*w0-y0*w1)*(x2*w0-x0*w2)=w0*D2 x0 y0 w0 x1 y1 w1 x2 y2 w2:=by
  unfold D2;grind
 generalize w0*D2 x0 y0 w0 x1 y1 w1 x2 y2 w2=D at *;generalize x1*w0-x0*w1=U0 at *;generalize y1*w0-y0*w1=U1 at *;generalize x2*w0-x0*w2=V0 at *;generalize y2*w0-y0*w2=V1 at *;have m1:=dC bu bv2;have m2:=dC bv bu2;generalize v2 x0 y0 w0=P at *;generalize v2 x1 y1 w1=Q at *;generalize v2 x2 y2 w2=R at *;have et:mV [.pv (.lst [.lst [.int U0,.int U1],.lst [.int V0,.int V1]])] S=.ok (.pv (.int D)) S:=by
  unfold mV aS rP;simp! [aG,bC,bD,aI,aU,aW,aV,aX,aL,aT,m1,m2,id]
 unfold kL aS sG;rcases hA with rfl |rfl
 .have s1:=sL P [Q,R]
  simp! [aG,bC,bD,aI,aU,aW,aV,aX,aL,aT,cA,cR,cQ,eG,eI,eK,gA,s1,cO,eU,eQ,gN,a1,a2,et]
 .have s1:=sM P [Q,R]
  simp! [aG,bC,bD,aI,aU,aW,aV,aX,aL,aT,cA,cR,cQ,eG,eI,eK,gA,s1,cO,eU,eQ,gN,a1,a2,et]
theorem Mq{A:PV}{x0 y0 z0 w0 x1 y1 z1 w1 x2 y2 z2 w2 x3 y3 z3 w3:Int}(S:aH)(hA:Sv A [v3 x0 y0 z0 w0,v3 x1 y1 z1 w1,v3 x2 y2 z2 w2,v3 x3 y3 z3 w3])(p:P3 x0 y0 z0 w0)(q:P3 x1 y1 z1 w1)(r:P3 x2 y2 z2 w2)(s:P3 x3 y3 z3 w3):kL [.pv A] S=.ok (.pv (.int (w0*w0*D3 x0 y0 z0 w0 x1 y1 z1 w1 x2 y2 z2 w2 x3 y3 z3 w3))) S:=by
 have a1:=yN S p q;have a2:=yN S p r;have a3:=yN S p s;have b1:=sb p.bx p.bw q.bx q.bw;have b2:=sb p.by_ p.bw q.by_ q.bw;have b3:=sb p.bz p.bw q.bz q.bw;have b4:=sb p.bx p.bw r.bx r.bw;have b5:=sb p.by_ p.bw r.by_ r.bw;have b6:=sb p.bz p.bw r.bz r.bw;have b7:=sb p.bx p.bw s.bx s.bw;have b8:=sb p.by_ p.bw s.by_ s.bw;have b9:=sb p.bz p.bw s.bz s.bw;have id:=Ii x0 y0 z0 w0 x1 y1 z1 w1 x2 y2 z2 w2 x3 y3 z3 w3;generalize w0*w0*D3 x0 y0 z0 w0 x1 y1 z1 w1 x2 y2 z2 w2 x3 y3 z3 w3=D at *;generalize x1*w0-x0*w1=U0 at *;generalize y1*w0-y0*w1=U1 at *;generalize z1*w0-z0*w1=U2 at *;generalize x2*w0-x0*w2=V0 at *;generalize y2*w0-y0*w2=V1 at *;generalize z2*w0-z0*w2=V2 at *;generalize x3*w0-x0*w3=T0 at *;generalize y3*w0-y0*w3=T1 at *;generalize z3*w0-z0*w3=T2 at *;have h:∀{a:Int},Bd 2001 a->Bd 10000 a:=λh=>h.mono (by decide);have h4:∀{a:Int},Bd 4003 a->Bd 100000 a:=λh=>h.mono (by decide);have h2:∀{a:Int},Bd 2001 a->Bd 100000 a:=λh=>h.mono (by decide);have en:=Ls (A:=.lst [.int U0,.int U1,.int U2]) (B:=.lst [.int V0,.int V1,.int V2]) S (.inl rfl) (.inl rfl) (h b1) (h b2) (h b3) (h b4) (h b5) (h b6);have c1:=cb b2 b6 b3 b5;have c2:=cb b3 b4 b1 b6;have c3:=cb b1 b5 b2 b4;have ed:=Av (A:=.lst [.int (U1*V2-U2*V1),.int (U2*V0-U0*V2),.int (U0*V1-U1*V0)]) (B:=.lst [.int T0,.int T1,.int T2]) (us:=[U1*V2-U2*V1,U2*V0-U0*V2,U0*V1-U1*V0]) (vs:=[T0,T1,T2]) S (.inl rfl) (.inl rfl) (by simp;exact⟨h4 c1,h4 c2,h4 c3⟩) (by simp;exact⟨h2 b7,h2 b8,h2 b9⟩);rw[id]at ed;generalize U1*V2-U2*V1=N0 at *;generalize U2*V0-U0*V2=N1 at *;generalize U0*V1-U1*V0=N2 at *;generalize v3 x0 y0 z0 w0=P at *;generalize v3 x1 y1 z1 w1=Q at *;generalize v3 x2 y2 z2 w2=R at *;generalize v3 x3 y3 z3 w3=T at *;have et:mV [.pv (.lst [.lst [.int U0,.int U1,.int U2],.lst [.int V0,.int V1,.int V2],.lst [.int T0,.int T1,.int T2]])] S=.ok (.pv (.int D)) S:=by
  unfold mV aS rP;simp! [aG,bC,bD,aI,aU,aW,aV,aX,aL,aT,en,ed]
 unfold kL aS sG;rcases hA with rfl |rfl
 .have s1:=sL P [Q,R,T]
  simp! [aG,bC,bD,aI,aU,aW,aV,aX,aL,aT,cA,cR,cQ,eG,eI,eK,gA,s1,cO,eU,eQ,gN,a1,a2,a3,et]
 .have s1:=sM P [Q,R,T]
  simp! [aG,bC,bD,aI,aU,aW,aV,aX,aL,aT,cA,cR,cQ,eG,eI,eK,gA,s1,cO,eU,eQ,gN,a1,a2,a3,et]
structure R2(x y w X Y D:Int):Prop where
 pos:0<w
 dos:0<D
 ex:x*D=X*w
 ey:y*D=Y*w
theorem Pq.p2{k:Nat}{x y w:Int}(P:Pq 2 k [x,y] w)(h:k<=1000):P2 x y w:=⟨(P.bx x (by simp)).mono h,(P.bx y (by simp)).mono h,P.bw.mono h,P.pos⟩
theorem Pq.p3{k:Nat}{x y z w:Int}(P:Pq 3 k [x,y,z] w)(h:k<=1000):P3 x y z w:=⟨(P.bx x (by simp)).mono h,(P.bx y (by simp)).mono h,(P.bx z (by simp)).mono h,P.bw.mono h,P.pos⟩
def dS:AI->Int
 |[.tup [.int x0,.int y0,.int w0],.tup [.int x1,.int y1,.int w1],.tup [.int x2,.int y2,.int w2]]=>sg (D2 x0 y0 w0 x1 y1 w1 x2 y2 w2)
 |[.tup [.int x0,.int y0,.int z0,.int w0],.tup [.int x1,.int y1,.int z1,.int w1],.tup [.int x2,.int y2,.int z2,.int w2],.tup [.int x3,.int y3,.int z3,.int w3]]=>sg (D3 x0 y0 z0 w0 x1 y1 z1 w1 x2 y2 z2 w2 x3 y3 z3 w3)
 |_=>0
theorem Dt{n:Nat}(hn:n=2\/n=3){A:PV}{L:AI}(S:aH)(hl:L.length=n+1)(hg:∀v∈L,Gp n 1000 v)(hA:Sv A L):lP [.pv A] S=.ok (.pv (.int (dS L))) S:=by
 rcases hn with rfl |rfl
 .match L,hl with
  |[P,Q,R],_=>
   obtain⟨x0,y0,w0,rfl,p⟩:=(hg P (by simp)).two;obtain⟨x1,y1,w1,rfl,q⟩:=(hg Q (by simp)).two;obtain⟨x2,y2,w2,rfl,r⟩:=(hg R (by simp)).two;exact Yp S hA p q r
 .match L,hl with
  |[P,Q,R,T],_=>
   obtain⟨x0,y0,z0,w0,rfl,p⟩:=(hg P (by simp)).three;obtain⟨x1,y1,z1,w1,rfl,q⟩:=(hg Q (by simp)).three;obtain⟨x2,y2,z2,w2,rfl,r⟩:=(hg R (by simp)).three;obtain⟨x3,y3,z3,w3,rfl,s⟩:=(hg T (by simp)).three;exact Zp S hA p q r s
theorem wS(D:Int):sg (-D)=-sg D:=by
 unfold sg;split<;>split<;>(try split)<;>(try split)<;>omega
abbrev tv(us:AA):PV:=.tup (us.map .int)
def Gu(n k:Nat)(us:AA):Prop:=∃xs w,us=xs++[w]/\Pq n k xs w
theorem Gu.gp{n k:Nat}{us:AA}(h:Gu n k us):Gp n k (tv us):=by
 obtain⟨xs,w,rfl,P⟩:=h;exact⟨xs,w,rfl,P⟩
theorem Gu.ne{n k:Nat}{us:AA}(h:Gu n k us):us≠[]:=by
 obtain⟨xs,w,rfl,P⟩:=h;simp
theorem tX{n k:Nat}{uss:AC}(h:∀us∈uss,Gu n k us):∀v∈uss.map tv,Gp n k v:=λv hv=>by
 obtain⟨us,hu,rfl⟩:=lx.mp hv;exact(h us hu).gp
theorem Wa:∀uss:AC,gF (uss.map tv)=some uss
 |[]=>rfl
 |us::uss=>by
  have ih:=Wa uss;show(match gB (us.map .int),gF (uss.map tv)with |some is,some uss=>some (is::uss) |_,_=>none)=_
  rw[ih,uJ]
theorem Oc{uss:AC}{n:Nat}(hl:uss.length=n)(hp:(cH uss).Perm (aq n)):xT (uss.map tv) uss=(cM uss).map tv:=by
 unfold xT cM;rw[km];refine ie λi hi=>?_;have h:i<uss.length:=by
  have:=hp.subset hi;rw[hl];simpa using this
 simp[ba,h]
theorem Ua{A:PV}{uss:AC}(hl:uss.length=3\/uss.length=4)(hA:Sv A (uss.map tv))(hne:∀us∈uss,us≠[]):mW [A]=some (.lst ((cM uss).map tv)):=by
 have e:nI (uss.map tv)=some (.lst ((cM uss).map tv)):=by
  unfold nI;rw[Wa];dsimp only;rcases hl with h |h
  .obtain⟨_,hp,_⟩:=wO h
   rw[if_pos (show yA uss from⟨by omega,by omega,by rw[h];exact Ej,by rw[hp.length_eq];simp,hne⟩),Oc h hp]
  .obtain⟨_,hp,_⟩:=wK h
   rw[if_pos (show yA uss from⟨by omega,by omega,by rw[h];exact Hj,by rw[hp.length_eq];simp,hne⟩),Oc h hp]
 rcases hA with rfl |rfl
 .exact e
 .exact e
def lC{α:Type}:List α->List α
 |[a,b,c]=>[a,c,b]
 |[a,b,c,d]=>[a,b,d,c]
 |l=>l
theorem wL{α β:Type}(f:α->β)(l:List α):(lC l).map f=lC (l.map f):=by
 unfold lC;split
 .rfl
 .rfl
 .rename_i h1 h2
  split
  .rename_i e
   match l,e with
   |[a,b,c],_=>exact absurd rfl (h1 a b c)
  .rename_i e
   match l,e with
   |[a,b,c,d],_=>exact absurd rfl (h2 a b c d)
  .rfl
theorem Rp{α:Type}(l:List α):(lC l).Perm l:=by
 unfold lC;split
 .exact .cons _ (.swap _ _ _)
 .exact .cons _ (.cons _ (.swap _ _ _))
 .exact .refl _
def dU:AC->Int
 |[[x0,y0,w0],[x1,y1,w1],[x2,y2,w2]]=>D2 x0 y0 w0 x1 y1 w1 x2 y2 w2
 |[[x0,y0,z0,w0],[x1,y1,z1,w1],[x2,y2,z2,w2],[x3,y3,z3,w3]]=>D3 x0 y0 z0 w0 x1 y1 z1 w1 x2 y2 z2 w2 x3 y3 z3 w3
 |_=>0
theorem Gu.two{k:Nat}{us:AA}(h:Gu 2 k us)(hk:k<=1000):∃x y w,us=[x,y,w]/\P2 x y w:=by
 obtain⟨xs,w,rfl,P⟩:=h
 match xs,P.len,P with
 |[x,y],_,P=>exact⟨x,y,w,rfl,P.p2 hk⟩
theorem Gu.three{k:Nat}{us:AA}(h:Gu 3 k us)(hk:k<=1000):∃x y z w,us=[x,y,z,w]/\P3 x y z w:=by
 obtain⟨xs,w,rfl,P⟩:=h
 match xs,P.len,P with
 |[x,y,z],_,P=>exact⟨x,y,z,w,rfl,P.p3 hk⟩
theorem Hh{n k:Nat}(hn:n=2\/n=3)(hk:k<=1000){uss:AC}(hl:uss.length=n+1)(hg:∀us∈uss,Gu n k us):dS (uss.map tv)=sg (dU uss):=by
 rcases hn with rfl |rfl
 .match uss,hl with
  |[a,b,c],_=>
   obtain⟨x0,y0,w0,rfl,_⟩:=(hg a (by simp)).two hk;obtain⟨x1,y1,w1,rfl,_⟩:=(hg b (by simp)).two hk;obtain⟨x2,y2,w2,rfl,_⟩:=(hg c (by simp)).two hk;rfl
 .match uss,hl with
  |[a,b,c,d],_=>
   obtain⟨x0,y0,z0,w0,rfl,_⟩:=(hg a (by simp)).three hk;obtain⟨x1,y1,z1,w1,rfl,_⟩:=(hg b (by simp)).three hk;obtain⟨x2,y2,z2,w2,rfl,_⟩:=(hg c (by simp)).three hk;obtain⟨x3,y3,z3,w3,rfl,_⟩:=(hg d (by simp)).three hk;rfl
theorem My{x0 y0 w0 x1 y1 w1 x2 y2 w2:Int}{p:List Nat}(hp:p∈pJ):dU (p.map λi=>([[x0,y0,w0],[x1,y1,w1],[x2,y2,w2]]:AC).getD i [])=dU [[x0,y0,w0],[x1,y1,w1],[x2,y2,w2]]\/dU (p.map λi=>([[x0,y0,w0],[x1,y1,w1],[x2,y2,w2]]:AC).getD i [])=-dU [[x0,y0,w0],[x1,y1,w1],[x2,y2,w2]]:=by
 have hp:p=[0,1,2]\/p=[0,2,1]\/p=[1,0,2]\/p=[1,2,0]\/p=[2,0,1]\/p=[2,1,0]:=by simpa[pJ]using hp
 rcases hp with rfl |rfl |rfl |rfl |rfl |rfl
 .left
  show D2 x0 y0 w0 x1 y1 w1 x2 y2 w2=D2 x0 y0 w0 x1 y1 w1 x2 y2 w2;unfold D2;grind
 .right
  show D2 x0 y0 w0 x2 y2 w2 x1 y1 w1=-(D2 x0 y0 w0 x1 y1 w1 x2 y2 w2);unfold D2;grind
 .right
  show D2 x1 y1 w1 x0 y0 w0 x2 y2 w2=-(D2 x0 y0 w0 x1 y1 w1 x2 y2 w2);unfold D2;grind
 .left
  show D2 x1 y1 w1 x2 y2 w2 x0 y0 w0=D2 x0 y0 w0 x1 y1 w1 x2 y2 w2;unfold D2;grind
 .left
  show D2 x2 y2 w2 x0 y0 w0 x1 y1 w1=D2 x0 y0 w0 x1 y1 w1 x2 y2 w2;unfold D2;grind
 .right
  show D2 x2 y2 w2 x1 y1 w1 x0 y0 w0=-(D2 x0 y0 w0 x1 y1 w1 x2 y2 w2);unfold D2;grind
theorem Dx{x0 y0 z0 w0 x1 y1 z1 w1 x2 y2 z2 w2 x3 y3 z3 w3:Int}{p:List Nat}(hp:p∈pQ):dU (p.map λi=>([[x0,y0,z0,w0],[x1,y1,z1,w1],[x2,y2,z2,w2],[x3,y3,z3,w3]]:AC).getD i [])=dU [[x0,y0,z0,w0],[x1,y1,z1,w1],[x2,y2,z2,w2],[x3,y3,z3,w3]]\/dU (p.map λi=>([[x0,y0,z0,w0],[x1,y1,z1,w1],[x2,y2,z2,w2],[x3,y3,z3,w3]]:AC).getD i [])=-dU [[x0,y0,z0,w0],[x1,y1,z1,w1],[x2,y2,z2,w2],[x3,y3,z3,w3]]:=by
 have hp:p=[0,1,2,3]\/p=[0,1,3,2]\/p=[0,2,1,3]\/p=[0,2,3,1]\/p=[0,3,1,2]\/p=[0,3,2,1]\/p=[1,0,2,3]\/p=[1,0,3,2]\/p=[1,2,0,3]\/p=[1,2,3,0]\/p=[1,3,0,2]\/p=[1,3,2,0]\/p=[2,0,1,3]\/p=[2,0,3,1]\/p=[2,1,0,3]\/p=[2,1,3,0]\/p=[2,3,0,1]\/p=[2,3,1,0]\/p=[3,0,1,2]\/p=[3,0,2,1]\/p=[3,1,0,2]\/p=[3,1,2,0]\/p=[3,2,0,1]\/p=[3,2,1,0]:=by simpa[pQ]using hp
 rcases hp with rfl |rfl |rfl |rfl |rfl |rfl |rfl |rfl |rfl |rfl |rfl |rfl |rfl |rfl |rfl |rfl |rfl |rfl |rfl |rfl |rfl |rfl |rfl |rfl
 .left
  show D3 x0 y0 z0 w0 x1 y1 z1 w1 x2 y2 z2 w2 x3 y3 z3 w3=D3 x0 y0 z0 w0 x1 y1 z1 w1 x2 y2 z2 w2 x3 y3 z3 w3;unfold D3;grind
 .right
  show D3 x0 y0 z0 w0 x1 y1 z1 w1 x3 y3 z3 w3 x2 y2 z2 w2=-(D3 x0 y0 z0 w0 x1 y1 z1 w1 x2 y2 z2 w2 x3 y3 z3 w3);unfold D3;grind
 .right
  show D3 x0 y0 z0 w0 x2 y2 z2 w2 x1 y1 z1 w1 x3 y3 z3 w3=-(D3 x0 y0 z0 w0 x1 y1 z1 w1 x2 y2 z2 w2 x3 y3 z3 w3);unfold D3;grind
 .left
  show D3 x0 y0 z0 w0 x2 y2 z2 w2 x3 y3 z3 w3 x1 y1 z1 w1=D3 x0 y0 z0 w0 x1 y1 z1 w1 x2 y2 z2 w2 x3 y3 z3 w3;unfold D3;grind
 .left
  show D3 x0 y0 z0 w0 x3 y3 z3 w3 x1 y1 z1 w1 x2 y2 z2 w2=D3 x0 y0 z0 w0 x1 y1 z1 w1 x2 y2 z2 w2 x3 y3 z3 w3;unfold D3;grind
 .right
  show D3 x0 y0 z0 w0 x3 y3 z3 w3 x2 y2 z2 w2 x1 y1 z1 w1=-(D3 x0 y0 z0 w0 x1 y1 z1 w1 x2 y2 z2 w2 x3 y3 z3 w3);unfold D3;grind
 .right
  show D3 x1 y1 z1 w1 x0 y0 z0 w0 x2 y2 z2 w2 x3 y3 z3 w3=-(D3 x0 y0 z0 w0 x1 y1 z1 w1 x2 y2 z2 w2 x3 y3 z3 w3);unfold D3;grind
 .left
  show D3 x1 y1 z1 w1 x0 y0 z0 w0 x3 y3 z3 w3 x2 y2 z2 w2=D3 x0 y0 z0 w0 x1 y1 z1 w1 x2 y2 z2 w2 x3 y3 z3 w3;unfold D3;grind
 .left
  show D3 x1 y1 z1 w1 x2 y2 z2 w2 x0 y0 z0 w0 x3 y3 z3 w3=D3 x0 y0 z0 w0 x1 y1 z1 w1 x2 y2 z2 w2 x3 y3 z3 w3;unfold D3;grind
 .right
  show D3 x1 y1 z1 w1 x2 y2 z2 w2 x3 y3 z3 w3 x0 y0 z0 w0=-(D3 x0 y0 z0 w0 x1 y1 z1 w1 x2 y2 z2 w2 x3 y3 z3 w3);unfold D3;grind
 .right
  show D3 x1 y1 z1 w1 x3 y3 z3 w3 x0 y0 z0 w0 x2 y2 z2 w2=-(D3 x0 y0 z0 w0 x1 y1 z1 w1 x2 y2 z2 w2 x3 y3 z3 w3);unfold D3;grind
 .left
  show D3 x1 y1 z1 w1 x3 y3 z3 w3 x2 y2 z2 w2 x0 y0 z0 w0=D3 x0 y0 z0 w0 x1 y1 z1 w1 x2 y2 z2 w2 x3 y3 z3 w3;unfold D3;grind
 .left
  show D3 x2 y2 z2 w2 x0 y0 z0 w0 x1 y1 z1 w1 x3 y3 z3 w3=D3 x0 y0 z0 w0 x1 y1 z1 w1 x2 y2 z2 w2 x3 y3 z3 w3;unfold D3;grind
 .right
  show D3 x2 y2 z2 w2 x0 y0 z0 w0 x3 y3 z3 w3 x1 y1 z1 w1=-(D3 x0 y0 z0 w0 x1 y1 z1 w1 x2 y2 z2 w2 x3 y3 z3 w3);unfold D3;grind
 .right
  show D3 x2 y2 z2 w2 x1 y1 z1 w1 x0 y0 z0 w0 x3 y3 z3 w3=-(D3 x0 y0 z0 w0 x1 y1 z1 w1 x2 y2 z2 w2 x3 y3 z3 w3);unfold D3;grind
 .left
  show D3 x2 y2 z2 w2 x1 y1 z1 w1 x3 y3 z3 w3 x0 y0 z0 w0=D3 x0 y0 z0 w0 x1 y1 z1 w1 x2 y2 z2 w2 x3 y3 z3 w3;unfold D3;grind
 .left
  show D3 x2 y2 z2 w2 x3 y3 z3 w3 x0 y0 z0 w0 x1 y1 z1 w1=D3 x0 y0 z0 w0 x1 y1 z1 w1 x2 y2 z2 w2 x3 y3 z3 w3;unfold D3;grind
 .right
  show D3 x2 y2 z2 w2 x3 y3 z3 w3 x1 y1 z1 w1 x0 y0 z0 w0=-(D3 x0 y0 z0 w0 x1 y1 z1 w1 x2 y2 z2 w2 x3 y3 z3 w3);unfold D3;grind
 .right
  show D3 x3 y3 z3 w3 x0 y0 z0 w0 x1 y1 z1 w1 x2 y2 z2 w2=-(D3 x0 y0 z0 w0 x1 y1 z1 w1 x2 y2 z2 w2 x3 y3 z3 w3);unfold D3;grind
 .left
  show D3 x3 y3 z3 w3 x0 y0 z0 w0 x2 y2 z2 w2 x1 y1 z1 w1=D3 x0 y0 z0 w0 x1 y1 z1 w1 x2 y2 z2 w2 x3 y3 z3 w3;unfold D3;grind
 .left
  show D3 x3 y3 z3 w3 x1 y1 z1 w1 x0 y0 z0 w0 x2 y2 z2 w2=D3 x0 y0 z0 w0 x1 y1 z1 w1 x2 y2 z2 w2 x3 y3 z3 w3;unfold D3;grind
 .right
  show D3 x3 y3 z3 w3 x1 y1 z1 w1 x2 y2 z2 w2 x0 y0 z0 w0=-(D3 x0 y0 z0 w0 x1 y1 z1 w1 x2 y2 z2 w2 x3 y3 z3 w3);unfold D3;grind
 .right
  show D3 x3 y3 z3 w3 x2 y2 z2 w2 x0 y0 z0 w0 x1 y1 z1 w1=-(D3 x0 y0 z0 w0 x1 y1 z1 w1 x2 y2 z2 w2 x3 y3 z3 w3);unfold D3;grind
 .left
  show D3 x3 y3 z3 w3 x2 y2 z2 w2 x1 y1 z1 w1 x0 y0 z0 w0=D3 x0 y0 z0 w0 x1 y1 z1 w1 x2 y2 z2 w2 x3 y3 z3 w3;unfold D3;grind
theorem Qs{n k:Nat}(hn:n=2\/n=3)(hk:k<=1000){uss:AC}(hl:uss.length=n+1)(hg:∀us∈uss,Gu n k us):dU (cM uss)=dU uss\/dU (cM uss)=-dU uss:=by
 rcases hn with rfl |rfl
 .obtain⟨m,hp,_⟩:=wO hl
  unfold cM;generalize cH uss=p at*
  match uss,hl with
  |[a,b,c],_=>
   obtain⟨x0,y0,w0,rfl,_⟩:=(hg a (by simp)).two hk;obtain⟨x1,y1,w1,rfl,_⟩:=(hg b (by simp)).two hk;obtain⟨x2,y2,w2,rfl,_⟩:=(hg c (by simp)).two hk;exact My m
 .obtain⟨m,hp,_⟩:=wK hl
  unfold cM;generalize cH uss=p at*
  match uss,hl with
  |[a,b,c,d],_=>
   obtain⟨x0,y0,z0,w0,rfl,_⟩:=(hg a (by simp)).three hk;obtain⟨x1,y1,z1,w1,rfl,_⟩:=(hg b (by simp)).three hk;obtain⟨x2,y2,z2,w2,rfl,_⟩:=(hg c (by simp)).three hk;obtain⟨x3,y3,z3,w3,rfl,_⟩:=(hg d (by simp)).three hk;exact Dx m
theorem Uz{n:Nat}(hn:n=2\/n=3){uss:AC}(hl:uss.length=n+1):uss.length=3\/uss.length=4:=by
 rcases hn with rfl |rfl
 .exact .inl hl
 .exact .inr hl
theorem Ie{n:Nat}(hn:n=2\/n=3){uss:AC}(hl:uss.length=n+1)(hg:∀us∈uss,Gu n 1000 us):dS ((cM uss).map tv)=dS (uss.map tv)\/dS ((cM uss).map tv)=-dS (uss.map tv):=by
 have hp:=(lG (Uz hn hl)).1;rw[Hh hn (ak 1000) (by rw[hp.length_eq,hl]) (λus hu=>hg us (hp.subset hu)),Hh hn (ak 1000) hl hg];rcases Qs hn (ak 1000) hl hg with e |e
 .exact .inl (by rw[e])
 .exact .inr (by rw[e,wS])
theorem Kt{n:Nat}(hn:n=2\/n=3){L:AI}(hl:L.length=n+1)(hg:∀v∈L,Gp n 1000 v):dS (lC L)=-dS L:=by
 rcases hn with rfl |rfl
 .match L,hl with
  |[a,b,c],_=>
   obtain⟨x0,y0,w0,rfl,_⟩:=(hg a (by simp)).two;obtain⟨x1,y1,w1,rfl,_⟩:=(hg b (by simp)).two;obtain⟨x2,y2,w2,rfl,_⟩:=(hg c (by simp)).two;show sg (D2 x0 y0 w0 x2 y2 w2 x1 y1 w1)=-sg _;have e:D2 x0 y0 w0 x2 y2 w2 x1 y1 w1=-(D2 x0 y0 w0 x1 y1 w1 x2 y2 w2):=by unfold D2;grind
   rw[e,wS]
 .match L,hl with
  |[a,b,c,d],_=>
   obtain⟨x0,y0,z0,w0,rfl,_⟩:=(hg a (by simp)).three;obtain⟨x1,y1,z1,w1,rfl,_⟩:=(hg b (by simp)).three;obtain⟨x2,y2,z2,w2,rfl,_⟩:=(hg c (by simp)).three;obtain⟨x3,y3,z3,w3,rfl,_⟩:=(hg d (by simp)).three;show sg (D3 x0 y0 z0 w0 x1 y1 z1 w1 x3 y3 z3 w3 x2 y2 z2 w2)=-sg _;have e:D3 x0 y0 z0 w0 x1 y1 z1 w1 x3 y3 z3 w3 x2 y2 z2 w2=-(D3 x0 y0 z0 w0 x1 y1 z1 w1 x2 y2 z2 w2 x3 y3 z3 w3):=by unfold D3;grind
   rw[e,wS]
theorem Ve{n:Nat}(hn:n=2\/n=3){A:PV}{L:AI}(S:aH)(hl:L.length=n+1)(hg:∀v∈L,Gp n 1000 v)(hA:Sv A L):∃d:Int,kL [.pv A] S=.ok (.pv (.int d)) S/\sg d=dS L:=by
 rcases hn with rfl |rfl
 .match L,hl with
  |[P,Q,R],_=>
   obtain⟨x0,y0,w0,rfl,p⟩:=(hg P (by simp)).two;obtain⟨x1,y1,w1,rfl,q⟩:=(hg Q (by simp)).two;obtain⟨x2,y2,w2,rfl,r⟩:=(hg R (by simp)).two;exact⟨_,Yq S hA p q r,sC p.pos⟩
 .match L,hl with
  |[P,Q,R,T],_=>
   obtain⟨x0,y0,z0,w0,rfl,p⟩:=(hg P (by simp)).three;obtain⟨x1,y1,z1,w1,rfl,q⟩:=(hg Q (by simp)).three;obtain⟨x2,y2,z2,w2,rfl,r⟩:=(hg R (by simp)).three;obtain⟨x3,y3,z3,w3,rfl,s⟩:=(hg T (by simp)).three;exact⟨_,Mq S hA p q r s,sC (jr p.pos p.pos)⟩
def cS(uss:AC):AC:=if dS ((cM uss).map tv)<0 then lC (cM uss)else cM uss
theorem Vi{n:Nat}(hn:n=2\/n=3){L:AI}(hl:L.length=n+1):∃a b M,iT (.lst L) none (some (-2))=some (.lst M)/\aG (.lst L) (.int (-1))=some a/\aG (.lst L) (.int (-2))=some b/\aL (.lst M) (.lst [a,b])=some (.lst (lC L)):=by
 rcases hn with rfl |rfl
 .match L,hl with
  |[P,Q,R],_=>exact⟨R,Q,[P],rfl,rfl,rfl,rfl⟩
 .match L,hl with
  |[P,Q,R,T],_=>exact⟨T,R,[P,Q],rfl,rfl,rfl,rfl⟩
theorem zR{n:Nat}(hn:n=2\/n=3){A:PV}{uss:AC}(S:aH)(hl:uss.length=n+1)(hg:∀us∈uss,Gu n 1000 us)(hA:Sv A (uss.map tv)):iU [.pv A] S=.ok (.pv (.tup ((cS uss).map tv))) S:=by
 have h34:uss.length=3\/uss.length=4:=by omega
 have e1:=Ua h34 hA λus hu=>(hg us hu).ne;obtain⟨pm,_⟩:=lG h34;have hl2:((cM uss).map tv).length=n+1:=by rw[az,pm.length_eq];exact hl
 have hg2:∀v∈(cM uss).map tv,Gp n 1000 v:=tX λus hu=>hg us (pm.subset hu);obtain⟨d,e2,hd⟩:=Ve (A:=.lst ((cM uss).map tv)) hn S hl2 hg2 (.inl rfl);obtain⟨a,b,M,t1,t2,t3,t4⟩:=Vi hn hl2;unfold cS;have hlt:d<0↔dS ((cM uss).map tv)<0:=by
  rw[<-hd];unfold sg;split
  .omega
  .split<;>omega
 by_cases h:d<0
 .rw[if_pos (hlt.mp h),wL]
  generalize (cM uss).map tv=L at *;unfold iU aS qT;simp! [cP,aU,aW,aV,aX,aT,e1,e2,h,eG,eI,eK,gA,t1,t2,t3,t4]
 .rw[if_neg (λz=>h (hlt.mpr z))]
  generalize (cM uss).map tv=L at *;unfold iU aS qT;simp! [cP,aU,aW,aV,aX,aT,e1,e2,h]
theorem Hn{n:Nat}(hn:n=2\/n=3){A:PV}{uss:AC}(S:aH)(hl:uss.length=n+1)(hg:∀us∈uss,Gu n 1000 us)(hA:Sv A (uss.map tv))(h0:dS (uss.map tv)≠0):lI [.pv A] S=.ok (.pv (.tup ((cS uss).map tv))) S:=by
 have h34:uss.length=3\/uss.length=4:=by omega
 have e1:=Ua h34 hA λus hu=>(hg us hu).ne;obtain⟨pm,_⟩:=lG h34;have hl2:((cM uss).map tv).length=n+1:=by rw[az,pm.length_eq];exact hl
 have hg2:∀v∈(cM uss).map tv,Gp n 1000 v:=tX λus hu=>hg us (pm.subset hu);have e2:=Dt (A:=.lst ((cM uss).map tv)) hn S hl2 hg2 (.inl rfl);have h1:dS ((cM uss).map tv)≠0:=by rcases Ie hn hl hg with e |e<;>omega
 obtain⟨a,b,M,t1,t2,t3,t4⟩:=Vi hn hl2;unfold cS
 by_cases h:dS ((cM uss).map tv)<0
 .rw[if_pos h,wL]
  generalize (cM uss).map tv=L at *;generalize dS L=D at *;unfold lI aS qY;simp! [cP,aU,aW,aV,aX,aT,e1,e2,h,h1,eG,eI,eK,gA,t1,t2,t3,t4]
 .rw[if_neg h]
  generalize (cM uss).map tv=L at *;generalize dS L=D at *;unfold lI aS qY;simp! [cP,aU,aW,aV,aX,aT,e1,e2,h,h1]
theorem oS{uss:AC}(h:uss.length=3\/uss.length=4):(cS uss).Perm uss:=by
 obtain⟨pm,_⟩:=lG h;unfold cS;split
 .exact(Rp _).trans pm
 .exact pm
theorem Ys{uss:AC}(h:uss.length=3\/uss.length=4):cS (cS uss)=cS uss:=by
 have e:=zG (oS h) h;unfold cS at e⊢;rw[e]
theorem Gw{S:aH}{k j:Nat}{xs:AI}{v:PV}(hS:S[k]?=some (.lst xs))(hv:xs[j]?=some v)(hj:j<1000):lR k [.pv (.int (j:Int))] S=.ok (.pv v) (S.set k (.lst (xs.eraseIdx j))):=by
 have hl:=(ck.mp hv).1;have e:seqIndex? (j:Int) xs.length=some j:=by
  unfold seqIndex?;have h1:¬((j:Int)<0):=by omega
  have h2:(decide (0<=(j:Int))&&decide ((j:Int)<(xs.length:Int)))=true:=by
   simp only[dm,decide_eq_true_eq];omega
  simp only[h1,if_false];rw[if_pos h2,nv]
 unfold lR;dsimp only;rw[if_pos ⟨by omega,by omega⟩,hS];dsimp only;rw[e];dsimp only;rw[hv]
theorem Gu.mono{n k l:Nat}{us:AA}(h:Gu n k us)(hl:k<=l):Gu n l us:=by
 obtain⟨xs,w,e,P⟩:=h;exact⟨xs,w,e,P.mono hl⟩
theorem Am{A B:AC}(hp:A.Perm B)(h:B.length=3\/B.length=4):cS A=cS B:=by
 unfold cS;rw[zG hp h]
abbrev px(uss:AC):PV:=.tup (uss.map tv)
def pl(u v:Int×Int):Int×Int:=((fr (u.1*v.2+v.1*u.2) (u.2*v.2)).getD 0 0,(fr (u.1*v.2+v.1*u.2) (u.2*v.2)).getD 1 0)
theorem zZ{n:Nat}(S:aH):∀(L:AI)(x:AK),(∀v∈L,Gp n 1000 v)->cN [] (gN 0) (bI oG [] (aC (aA 0) (aC (aA 1) aE))) L [x,some (.pv (.int n))] S=.ok (L.map λ_=>.bl true) S
 |[],x,_=>eQ
 |v::L,x,h=>by
  have ih:=zZ (n:=n) S L (some (.pv v)) λu hu=>h u (cj _ hu);obtain⟨xs,w,rfl,P⟩:=h v bi;have e:=Hr S (by decide) P;rw[eU];generalize (xs++[w]).map PV.int=XL at *;generalize (n:Int)=N at *;simp! [gN,aG,bC,bD,aI,aU,aW,aV,aX,aL,aT,e,ih]
theorem Ub:∀L:AI,jT [.lst (L.map λ_=>.bl true)]=some (.bl true):=λL=>by
 have e:jC (L.map λ_=>PV.bl true)=some (L.map λ_=>true):=by
  induction L with
  |nil=>rfl
  |cons v L ih=>
   show(match jC (L.map λ_=>PV.bl true)with |some bs=>some (true::bs) |none=>none)=_
   rw[ih];rfl
 simp only[jT,e,d3];simp
theorem Wq{n:Nat}(hn:n=2\/n=3){uss:AC}(S:aH)(hl:uss.length=n+1)(hg:∀us∈uss,Gu n 1000 us)(h0:dS (uss.map tv)≠0)(hc:cS uss=uss):kE [.pv (.tup (uss.map tv)),.pv (.int n)] S=.ok (.pv (.bl true)) S:=by
 have gp:=tX hg;have hl2:(uss.map tv).length=n+1:=by rw[az];exact hl
 have ec:=zZ S (uss.map tv) none gp;have ea:=Ub (uss.map tv);obtain⟨d,e2,hd⟩:=Ve (A:=.tup (uss.map tv)) hn S hl2 gp (.inr rfl);have hd0:d≠0:=λz=>h0 (by rw[<-hd,z];rfl);have hdb:(d==0)=false:=by simpa using hd0
 have e3:=zR (A:=.tup (uss.map tv)) hn S hl hg (.inr rfl);rw[hc]at e3;have q:aI 8 (.tup (uss.map tv)) (.tup (uss.map tv))=some true:=oU λv hv=>Hx (m:=6) (gp v hv);have a3:aL (.int (n:Int)) (.int 1)=some (.int ((uss.map tv).length:Nat)):=by rw[aL,hl2];rfl
 generalize uss.map tv=L at *;generalize L.map (λ_=>PV.bl true)=BL at *;unfold kE aS tZ;generalize (n:Int)=N at *;simp! [cP,aU,aW,aV,aX,aT,eV,a3,cA,cR,cQ,cO,ec,ea,e2,hdb,e3,q]
abbrev li(xs:AA):AI:=xs.map .int
theorem Jb{α β:Type}(f:α->β):∀(R:List α)(j:Nat),(R.map f).eraseIdx j=(R.eraseIdx j).map f
 |[],j=>by simp
 |a::R,0=>by simp
 |a::R,j+1=>by simp[Jb f R j]
theorem M6:∀v<3,bD 3 ((v:Nat):Int)=some v:=by decide
abbrev qL:MS:=(aP (nE (aA 2) (lZ (aA 1) (aC (bI iY [] (aC (aA 0) (aC (mR eZ (aC (aA 1) aE)) aE))) aE)) (mC (.int 1)))
 (iL (Cj (aA 3) (aC (aA 2) aE))))
theorem xP(ns:AA)(hl:AI)(R C:AA)(L:AC)(x4 x5:AK)(hR0:0<R.length)(hR3:R.length<=3)(hv:∀v∈R,0<=v/\v<3)(hC:C.length=3)(hL:L.length<=9):
  ∃(j v:Nat)(ns':AA),j<R.length/\R[j]?=some (v:Int)/\qL [some (.ref 0),some (.ref 2),some (.ref 3),some (.ref 4),x4,x5] [.lst (li ns),.lst hl,.lst (li R),.lst (li C),.lol (L.map li)]
   = .nx [some (.ref 0),some (.ref 2),some (.ref 3),some (.ref 4),x4,x5] [.lst (li ns'),.lst hl,.lst (li (R.eraseIdx j)),.lst (li (C.set v 1)),.lol ((L++[C.set v 1]).map li)]:=by
 have hr:fX [.lst (li ns),.lst hl,.lst (li R),.lst (li C),.lol (L.map li)] 0 ns:=rfl;obtain⟨t,n1,e1,t0,t1,_⟩:=oZ (m:=(R.length:Int)) hr (by omega) (M9 (by omega) (by omega));simp only[jt]at e1;obtain⟨j,rfl⟩:∃j:Nat,t=(j:Int):=⟨t.toNat,by omega⟩;have hj:j<R.length:=by omega
 obtain⟨v,ev⟩:∃v:Nat,R[j]=(v:Int):=⟨R[j].toNat,by have:=hv _ (ig hj);omega⟩;have hv3:v<3:=by have:=hv _ (ig hj);omega
 have hq:R[j]?=some (v:Int):=by rw[ax hj,ev]
 have ep:=Gw (S:=[.lst (li n1),.lst hl,.lst (li R),.lst (li C),.lol (L.map li)]) (k:=2) (j:=j) (xs:=li R) (v:=.int v) rfl (by rw[dz,hq];rfl) (by omega);simp only[lh,jt]at ep;have er:(li R).eraseIdx j=li (R.eraseIdx j):=Jb _ _ _;rw[er]at ep;have ei:bD (li C).length (v:Int)=some v:=by
  rw[az,hC];exact M6 v hv3
 have ec:(li C).set v (.int 1)=li (C.set v 1):=by simp[li,List.map_set]
 refine⟨j,v,n1,hj,hq,?_⟩;have e1':iY [.ref 0,.pv (.int ((li R).length:Int))] [.lst (li ns),.lst hl,.lst (li R),.lst (li C),.lol (L.map li)]=.ok (.pv (.int (j:Int))) [.lst (li n1),.lst hl,.lst (li R),.lst (li C),.lol (L.map li)]:=by
  rw[az];exact e1
 have el:(L++[C.set v 1]).map li=L.map li++[li (C.set v 1)]:=by simp
 rw[el];have lz:(L.map li).length<16777216:=by rw[az];omega
 generalize L.map li=LL at *;generalize li (C.set v 1)=CS at *;generalize li C=CL at *;generalize li (R.eraseIdx j)=RE at *;generalize li R=RL at *;generalize (j:Int)=J at *;generalize li ns=NL at *;generalize li n1=NL1 at *;unfold qL;simp! [cP,aU,aW,aV,aX,aL,aT,nE,nN,lZ,Cj,Dk,fS,e1',ep,ei,ec,lz]
def k6:AD:=[[[0,0,0],[1,0,0],[1,1,0],[1,1,1]],[[0,0,0],[1,0,0],[1,0,1],[1,1,1]],[[0,0,0],[0,1,0],[1,1,0],[1,1,1]],[[0,0,0],[0,1,0],[0,1,1],[1,1,1]],[[0,0,0],[0,0,1],[1,0,1],[1,1,1]],[[0,0,0],[0,0,1],[0,1,1],[1,1,1]]]
theorem H0{R:AA}{j v:Nat}{a b c:Int}(h:R=[a,b,c])(hj:j<R.length)(e:R[j]?=some (v:Int)):(j=0/\(v:Int)=a)\/(j=1/\(v:Int)=b)\/(j=2/\(v:Int)=c):=by
 subst h
 match j,hj,e with
 |0,_,e=>simp at e;exact .inl ⟨rfl,e.symm⟩
 |1,_,e=>simp at e;exact .inr (.inl ⟨rfl,e.symm⟩)
 |2,_,e=>simp at e;exact .inr (.inr ⟨rfl,e.symm⟩)
theorem K5{R:AA}{j v:Nat}{a b:Int}(h:R=[a,b])(hj:j<R.length)(e:R[j]?=some (v:Int)):(j=0/\(v:Int)=a)\/(j=1/\(v:Int)=b):=by
 subst h
 match j,hj,e with
 |0,_,e=>simp at e;exact .inl ⟨rfl,e.symm⟩
 |1,_,e=>simp at e;exact .inr ⟨rfl,e.symm⟩
theorem J3{R:AA}{j v:Nat}{a:Int}(h:R=[a])(hj:j<R.length)(e:R[j]?=some (v:Int)):j=0/\(v:Int)=a:=by
 subst h
 match j,hj,e with
 |0,_,e=>simp at e;exact⟨rfl,e.symm⟩
theorem k3(ns:AA)(hl:AI)(R C:AA)(A:AC)(a b c:Nat)(x4 x5:AK)(hR:R=[(c:Int)])(hc:c<3)(hC:C.length=3)(hA:A.length<=9)(ks:AD)(hk:A++[C.set c 1]∈ks):
  ∃(xss:AC)(ns':AA)(C':AA),xss∈ks/\dM [] (gN 4) qL [.int 2] [some (.ref 0),some (.ref 2),some (.ref 3),some (.ref 4),x4,x5] [.lst (li ns),.lst hl,.lst (li R),.lst (li C),.lol (A.map li)]
   = .nx [some (.ref 0),some (.ref 2),some (.ref 3),some (.ref 4),some (.pv (.int 2)),x5] [.lst (li ns'),.lst hl,.lst [],.lst (li C'),.lol (xss.map li)]:=by
 obtain⟨j,v,n1,hj,e,h⟩:=xP ns hl R C A (some (.pv (.int 2))) x5 (by rw[hR];simp) (by rw[hR];simp) (by rw[hR];simp;omega) hC hA;obtain⟨rfl,ev⟩:=J3 hR hj e;have:v=c:=by omega
 subst this;subst hR;refine⟨_,n1,C.set v 1,hk,?_⟩;rw[iE];simp only[gN,lh,jt];rw[h];exact kH
theorem k2(ns:AA)(hl:AI)(R C:AA)(A:AC)(b c:Nat)(x4 x5:AK)(hR:R=[(b:Int),(c:Int)])(hb:b<3)(hc:c<3)(hC:C.length=3)(hA:A.length<=8)(ks:AD)(h1:A++[C.set b 1]++[(C.set b 1).set c 1]∈ks)(h2:A++[C.set c 1]++[(C.set c 1).set b 1]∈ks):
  ∃(xss:AC)(ns':AA)(C':AA),xss∈ks/\dM [] (gN 4) qL [.int 1,.int 2] [some (.ref 0),some (.ref 2),some (.ref 3),some (.ref 4),x4,x5] [.lst (li ns),.lst hl,.lst (li R),.lst (li C),.lol (A.map li)]
   = .nx [some (.ref 0),some (.ref 2),some (.ref 3),some (.ref 4),some (.pv (.int 2)),x5] [.lst (li ns'),.lst hl,.lst [],.lst (li C'),.lol (xss.map li)]:=by
 obtain⟨j,v,n1,hj,e,h⟩:=xP ns hl R C A (some (.pv (.int 1))) x5 (by rw[hR];simp) (by rw[hR];simp) (by rw[hR];simp;omega) hC (by omega);rw[iE];simp only[gN,lh,jt];rw[h];rcases K5 hR hj e with⟨rfl,ev⟩|⟨rfl,ev⟩
 .have:v=b:=by omega
  subst this;subst hR;exact k3 n1 hl _ (C.set v 1) _ 0 0 c _ x5 rfl hc (by rw[gh];exact hC) (by simp;omega) ks h1
 .have:v=c:=by omega
  subst this;subst hR;exact k3 n1 hl _ (C.set v 1) _ 0 0 b _ x5 rfl hb (by rw[gh];exact hC) (by simp;omega) ks h2
theorem k1(ns:AA)(hl:AI)(x4 x5:AK):
  ∃(xss:AC)(ns':AA)(C':AA),xss∈k6/\dM [] (gN 4) qL [.int 0,.int 1,.int 2] [some (.ref 0),some (.ref 2),some (.ref 3),some (.ref 4),x4,x5] [.lst (li ns),.lst hl,.lst (li [0,1,2]),.lst (li [0,0,0]),.lol ([[0,0,0]].map li)]
   = .nx [some (.ref 0),some (.ref 2),some (.ref 3),some (.ref 4),some (.pv (.int 2)),x5] [.lst (li ns'),.lst hl,.lst [],.lst (li C'),.lol (xss.map li)]:=by
 obtain⟨j,v,n1,hj,e,h⟩:=xP ns hl [0,1,2] [0,0,0] [[0,0,0]] (some (.pv (.int 0))) x5 (by decide) (by decide) (by decide) rfl (by decide);rw[iE];simp only[gN,lh,jt];rw[h];rcases H0 rfl hj e with⟨rfl,ev⟩|⟨rfl,ev⟩|⟨rfl,ev⟩
 .have:v=0:=by omega
  subst this;exact k2 n1 hl _ [1,0,0] _ 1 2 _ x5 rfl (by decide) (by decide) rfl (by decide) k6 (by decide) (by decide)
 .have:v=1:=by omega
  subst this;exact k2 n1 hl _ [0,1,0] _ 0 2 _ x5 rfl (by decide) (by decide) rfl (by decide) k6 (by decide) (by decide)
 .have:v=2:=by omega
  subst this;exact k2 n1 hl _ [0,0,1] _ 0 1 _ x5 rfl (by decide) (by decide) rfl (by decide) k6 (by decide) (by decide)
theorem Wy{n k:Nat}{L:AA}{b:Int}(hb:0<b)(hl:L.length=n)(hL:∀x∈L,Bd k x)(bb:Bd k b):∃(zs:AA)(z:Int),low (L++[b])=zs++[z]/\Pq n k zs z/\∀j,j<n->zs.getD j 0*b=L.getD j 0*z:=by
 obtain⟨zs,z,g,e,hg,hz,g1,g2,hzl⟩:=Eh L hb;have hlow:=Us L hb;have hbd:=Oh (k:=k) (ns:=L++[b]) λm hm=>by
  rcases du.mp hm with y |y
  .exact hL m y
  .have:m=b:=by simpa using y
   rw[this];exact bb
 rw[e]at hlow hbd;refine⟨zs,z,e,⟨hzl.trans hl,hz,hlow,λx hx=>hbd x (jc _ hx),hbd z (lK zs z)⟩,λj hj=>?_⟩;have hj':j<zs.length:=by omega
 have e1:L.getD j 0=g*zs.getD j 0:=by
  rw[g1];simp[ba,hj']
 rw[e1,g2];grind
theorem sq{a b:MS}{ρ ρ':bL}{S S':aH}{r:cC}(h:a ρ S=.nx ρ' S')(g:b ρ' S'=r):aP a b ρ S=r:=by
 rw[aP,h];exact g
theorem Kj{np n:Nat}{b:MS}{xs:AL}{S S':aH}{v:AV}{r:bQ AV}(hl:xs.length=np)(h:b (gS n xs) S=.rt v S')(hc:jB S.length v S'=r):aS np n b xs S=r:=by
 unfold aS;rw[if_pos hl,h];exact hc
theorem pX{a b:Int}(hb:0<b)(bb:Bd 1000 b):eY (.int (a*b)) (.int b)=some (.int a):=by
 rw[rE (i:=a*b) (j:=b) ⟨by omega,bb.mono (by decide)⟩,yc _ (by omega),Int.mul_ediv_cancel _ (by omega)]
structure Fz(u:Int×Int):Prop where
 pos:0<u.2
 b1:Bd 300 u.1
 b2:Bd 300 u.2
abbrev fz(u:Int×Int):PV:=.tup [.int u.1,.int u.2]
def cT:List (Int×Int)->AA
 |[u,v]=>[u.1*v.2,v.1*u.2]
 |[u,v,t]=>[u.1*(v.2*t.2),v.1*(u.2*t.2),t.1*(u.2*v.2)]
 |_=>[]
def cB:List (Int×Int)->Int
 |[u,v]=>u.2*v.2
 |[u,v,t]=>u.2*v.2*t.2
 |_=>1
theorem b3{k l:Nat}{a b:Int}(h:Bd k a)(g:Bd l b)(hs:k+l<=1000):Bd 1000 (a*b):=(h.mul g).mono hs
theorem B2{ab:List (Int×Int)}(hl:ab.length=2\/ab.length=3)(h:∀u∈ab,Fz u):0<cB ab/\Bd 1000 (cB ab)/\(cT ab).length=ab.length/\∀x∈cT ab,Bd 1000 x:=by
 match ab,hl,h with
 |[u,v],_,h=>
  have hu:=h u (by simp);have hv:=h v (by simp);refine⟨jr hu.pos hv.pos,b3 hu.b2 hv.b2 (by decide),rfl,λx hx=>?_⟩;have:x=u.1*v.2\/x=v.1*u.2:=by simpa[cT]using hx
  rcases this with rfl |rfl
  .exact b3 hu.b1 hv.b2 (by decide)
  .exact b3 hv.b1 hu.b2 (by decide)
 |[u,v,t],_,h=>
  have hu:=h u (by simp);have hv:=h v (by simp);have ht:=h t (by simp);refine⟨jr (jr hu.pos hv.pos) ht.pos,b3 (hu.b2.mul hv.b2) ht.b2 (by decide),rfl,λx hx=>?_⟩;have:x=u.1*(v.2*t.2)\/x=v.1*(u.2*t.2)\/x=t.1*(u.2*v.2):=by simpa[cT]using hx
  rcases this with rfl |rfl |rfl
  .exact b3 hu.b1 (hv.b2.mul ht.b2) (by decide)
  .exact b3 hv.b1 (hu.b2.mul ht.b2) (by decide)
  .exact b3 ht.b1 (hu.b2.mul hv.b2) (by decide)
theorem Bm(S:aH){ab:List (Int×Int)}(hl:ab.length=2\/ab.length=3)(h:∀u∈ab,Fz u):fP [.pv (.lst (ab.map fz))] S=.ok (.pv (tv (low (cT ab++[cB ab])))) S:=by
 obtain⟨p0,pb,pl,px⟩:=B2 hl h;have ep:=Tr (w:=.lst ((cT ab).map .int)) (cT ab) (cB ab) S (.inl rfl) (λx hx=>(px x hx).mono (by decide)) (pb.mono (by decide)) (by omega) (by omega);rw[Tw p0]at ep
 match ab,hl,h,ep with
 |[u,v],_,h,ep=>
  have hu:=h u (by simp);have hv:=h v (by simp);obtain⟨a,b⟩:=u;obtain⟨c,d⟩:=v;have m1:aZ (.int 1) (.int b)=some (.int b):=by rw[kK (.inl (.inl ⟨by decide,by decide⟩)),ko]
  have m2:aZ (.int b) (.int d)=some (.int (b*d)):=dC hu.b2 hv.b2;have q1:eY (.int (b*d)) (.int b)=some (.int d):=by rw[om];exact pX hu.pos (hu.b2.mono (by decide))
  have q2:eY (.int (b*d)) (.int d)=some (.int b):=pX hv.pos (hv.b2.mono (by decide));have m3:aZ (.int a) (.int d)=some (.int (a*d)):=dC hu.b1 hv.b2;have m4:aZ (.int c) (.int b)=some (.int (c*b)):=dC hv.b1 hu.b2;have ep:lM [.pv (.lst [.int (a*d),.int (c*b)]),.pv (.int (b*d))] S=.ok (.pv (tv (low ([a*d,c*b]++[b*d])))) S:=ep;show fP [.pv (.lst [.tup [.int a,.int b],.tup [.int c,.int d]])] S=.ok (.pv (tv (low ([a*d,c*b]++[b*d])))) S;generalize tv (low ([a*d,c*b]++[b*d]))=R at *;unfold fP aS qS;simp! [aG,bC,bD,aI,aU,aW,aV,aX,aL,aT,eS,cR,cQ,iE,kH,eU,eQ,gN,m1,m2,cA,cO,q1,q2,m3,m4,ep]
 |[u,v,t],_,h,ep=>
  have hu:=h u (by simp);have hv:=h v (by simp);have ht:=h t (by simp);obtain⟨a,b⟩:=u;obtain⟨c,d⟩:=v;obtain⟨e,f⟩:=t;have m1:aZ (.int 1) (.int b)=some (.int b):=by rw[kK (.inl (.inl ⟨by decide,by decide⟩)),ko]
  have m2:aZ (.int b) (.int d)=some (.int (b*d)):=dC hu.b2 hv.b2;have m2':aZ (.int (b*d)) (.int f)=some (.int (b*d*f)):=dC (hu.b2.mul hv.b2) ht.b2;have q1:eY (.int (b*d*f)) (.int b)=some (.int (d*f)):=by
   rw[show b*d*f=d*f*b by grind];exact pX hu.pos (hu.b2.mono (by decide))
  have q2:eY (.int (b*d*f)) (.int d)=some (.int (b*f)):=by
   rw[show b*d*f=b*f*d by grind];exact pX hv.pos (hv.b2.mono (by decide))
  have q3:eY (.int (b*d*f)) (.int f)=some (.int (b*d)):=pX ht.pos (ht.b2.mono (by decide));have m3:aZ (.int a) (.int (d*f))=some (.int (a*(d*f))):=dC hu.b1 (hv.b2.mul ht.b2);have m4:aZ (.int c) (.int (b*f))=some (.int (c*(b*f))):=dC hv.b1 (hu.b2.mul ht.b2);have m5:aZ (.int e) (.int (b*d))=some (.int (e*(b*d))):=dC ht.b1 (hu.b2.mul hv.b2);have ep:lM [.pv (.lst [.int (a*(d*f)),.int (c*(b*f)),.int (e*(b*d))]),.pv (.int (b*d*f))] S=.ok (.pv (tv (low ([a*(d*f),c*(b*f),e*(b*d)]++[b*d*f])))) S:=ep;show fP [.pv (.lst [.tup [.int a,.int b],.tup [.int c,.int d],.tup [.int e,.int f]])] S=.ok (.pv (tv (low ([a*(d*f),c*(b*f),e*(b*d)]++[b*d*f])))) S;generalize tv (low ([a*(d*f),c*(b*f),e*(b*d)]++[b*d*f]))=R at *;unfold fP aS qS;simp! [aG,bC,bD,aI,aU,aW,aV,aX,aL,aT,eS,cR,cQ,iE,kH,eU,eQ,gN,m1,m2,m2',cA,cO,q1,q2,q3,m3,m4,m5,ep]
structure Fr(p q:Int):Prop where
 pos:0<q
 cop:aw p q=1
 bp:Bd 133 p
 bq:Bd 133 q
theorem Wk:iC (.int 10) (.int 40)=some (.int 10000000000000000000000000000000000000000):=Ef (i:=10) (j:=40) ⟨by decide,by decide,by decide⟩
theorem qF{x:Int}(h:x.natAbs<=(10000000000000000000000000000000000000000:Int).natAbs):Bd 133 x:=Bd.of h (by decide)
theorem Ti{v a:Int}(h0:0<=v)(h1:v<3)(a0:0<a)(a1:a<100):∃M:Int,aG (.lst [.int a,.int 1000,.int 10000000000000000000000000000000000000000]) (.int v)=some (.int M)/\0<M/\M<=10000000000000000000000000000000000000000:=by
 have c:v=0\/v=1\/v=2:=by omega
 rcases c with rfl |rfl |rfl
 .exact⟨a,rfl,a0,by omega⟩
 .exact⟨1000,rfl,by decide,by decide⟩
 .exact⟨10000000000000000000000000000000000000000,rfl,by decide,by decide⟩
theorem Ij{t b:Int}(h:b≠0)(ht:Bd 133 t)(hb:Bd 133 b):∃p q:Int,fr t b=[p,q]/\Fr p q:=by
 obtain⟨p,q,e,hq,_⟩:=Ni (t:=t) h;obtain⟨b1,b2⟩:=Li ht hb e;exact⟨p,q,e,hq,Mn h e,b1,b2⟩
theorem Zf{S:aH}{k:Nat}{ns:AA}(h:fX S k ns):∃(p q:Int)(ns':AA),iW [.ref k] S=.ok (.pv (.tup [.int p,.int q])) (S.set k (.lst (ns'.map .int)))/\Fr p q:=by
 obtain⟨v,n1,e1,v0,v1,_⟩:=oZ (m:=3) h (by decide) (Bd.of (n:=3) (by decide) (bn (show 3<2^2 by decide) (kj (by decide) (by decide))));obtain⟨M,em,M0,M1⟩:=Ti (a:=5) v0 v1 (by decide) (by decide);obtain⟨N,en,N0,N1⟩:=Ti (a:=6) v0 v1 (by decide) (by decide);have bM:Bd 8000 M:=(qF (x:=M) (by omega)).mono (by decide);have bN:Bd 8000 N:=(qF (x:=N) (by omega)).mono (by decide);obtain⟨t,n2,e2,t0,t1,_⟩:=oZ (m:=M) (h.set n1) M0 bM;rw[jq]at e2;obtain⟨s,n3,e3,s0,s1,_⟩:=oZ (m:=4) (h.set n2) (by decide) (Bd.of (n:=4) (by decide) (bn (show 4<2^3 by decide) (kj (by decide) (by decide))));rw[jq]at e3;obtain⟨u,n4,e4,u0,u1,_⟩:=oZ (m:=N) (h.set n3) N0 bN;rw[jq]at e4;have bu:Bd 133 (1+u):=qF (by omega);have tk:∀x,wd S.length (S.set k x)=S.set k x:=λx=>Wr S k x
 by_cases hs:s=3
 .have bt:Bd 133 (0-t):=qF (by omega)
  obtain⟨p,q,ef,F⟩:=Ij (t:=0-t) (b:=1+u) (by omega) bt bu;have e5:=wJ (0-t) (1+u) (S.set k (.lst (n4.map .int))) (bt.mono (by decide)) (bu.mono (by decide));rw[ef]at e5;refine⟨p,q,n4,?_,F⟩;generalize S.set k (.lst (n1.map .int))=S1 at e1 e2;generalize S.set k (.lst (n2.map .int))=S2 at e2 e3;generalize S.set k (.lst (n3.map .int))=S3 at e3 e4;have tk4:=tk (.lst (n4.map .int));generalize S.set k (.lst (n4.map .int))=S4 at e4 e5 tk4;simp only[cw,iu,fe]at e5;have sb:(s==3)=true:=by simpa using hs
  unfold iW aS rO;simp! [cP,aU,aW,aV,aX,aL,aT,Wk,e1,em,en,e2,e3,e4,e5,tk4,sb]
 .have bt:Bd 133 t:=qF (by omega)
  obtain⟨p,q,ef,F⟩:=Ij (t:=t) (b:=1+u) (by omega) bt bu;have e5:=wJ t (1+u) (S.set k (.lst (n4.map .int))) (bt.mono (by decide)) (bu.mono (by decide));rw[ef]at e5;refine⟨p,q,n4,?_,F⟩;generalize S.set k (.lst (n1.map .int))=S1 at e1 e2;generalize S.set k (.lst (n2.map .int))=S2 at e2 e3;generalize S.set k (.lst (n3.map .int))=S3 at e3 e4;have tk4:=tk (.lst (n4.map .int));generalize S.set k (.lst (n4.map .int))=S4 at e4 e5 tk4;simp only[cw,iu]at e5;have sb:(s==3)=false:=by simpa using hs
  unfold iW aS rO;simp! [cP,aU,aW,aV,aX,aL,aT,Wk,e1,em,en,e2,e3,e4,e5,tk4,sb]
abbrev oz:Int×Int:=(0,1)
def sp(u v:Int×Int):AA:=low ([u.1*v.2,v.1*u.2]++[u.2*v.2])
theorem jE:Fz oz:=⟨by decide,Bd.of (n:=1) (by decide) (bn (show 1<2^1 by decide) (kj (by decide) (by decide))),Bd.of (n:=1) (by decide) (bn (show 1<2^1 by decide) (kj (by decide) (by decide)))⟩
theorem sQ{u v:Int×Int}(hu:Fz u)(hv:Fz v):∃x y w,sp u v=[x,y,w]/\Gu 2 600 [x,y,w]/\(x=0↔u.1=0)/\(y=0↔v.1=0):=by
 have hb:=jr hu.pos hv.pos;obtain⟨zs,z,e,P,j⟩:=Wy (n:=2) (k:=600) (L:=[u.1*v.2,v.1*u.2]) (b:=u.2*v.2) hb rfl (λx hx=>by
  rcases bh.mp hx with rfl |hx
  .exact(hu.b1.mul hv.b2).mono (by decide)
  .rcases bh.mp hx with rfl |hx
   .exact(hv.b1.mul hu.b2).mono (by decide)
   .cases hx) ((hu.b2.mul hv.b2).mono (by decide))
 have l:=P.len
 match zs,l with
 |[x,y],_=>
  have j0:=j 0 (by decide);have j1:=j 1 (by decide);simp only[List.getD_cons_zero,List.getD_cons_succ]at j0 j1;refine⟨x,y,z,e,⟨[x,y],z,rfl,P⟩,?_,?_⟩
  .constructor
   .intro h
    rw[h,fv]at j0;have:=il.mp j0.symm;rcases this with h1 |h1
    .rcases il.mp h1 with h2 |h2
     .exact h2
     .have:=hv.pos;omega
    .have:=P.pos;omega
   .intro h
    rw[h,fv,fv]at j0;rcases il.mp j0 with h1 |h1
    .exact h1
    .omega
  .constructor
   .intro h
    rw[h,fv]at j1;have:=il.mp j1.symm;rcases this with h1 |h1
    .rcases il.mp h1 with h2 |h2
     .exact h2
     .have:=hu.pos;omega
    .have:=P.pos;omega
   .intro h
    rw[h,fv,fv]at j1;rcases il.mp j1 with h1 |h1
    .exact h1
    .omega
theorem Ck:sp oz oz=[0,0,1]:=by decide
theorem Xj(x1 y1 w1 x2 y2 w2:Int):D2 0 0 1 x1 y1 w1 x2 y2 w2=x1*y2-y1*x2:=by
 unfold D2;grind
theorem Dj{d:Int}(h:d≠0):sg d≠0:=by
 unfold sg;split
 .decide
 .split
  .decide
  .omega
structure Bo(O X Y E:AA):Prop where
 g:Gu 2 600 O/\Gu 2 600 X/\Gu 2 600 Y/\Gu 2 600 E
 s1:dS [tv O,tv X,tv E]≠0
 s2:dS [tv O,tv Y,tv E]≠0
 n:X≠O/\X≠Y/\X≠E
theorem Oz{l c:Int×Int}(hl:Fz l)(hc:Fz c)(l0:l.1≠0)(c0:c.1≠0):Bo [0,0,1] (sp l oz) (sp oz c) (sp l c):=by
 obtain⟨x0,y0,w0,e0,g0,_,_⟩:=sQ jE jE;rw[Ck]at e0;rw[<-e0]at g0;obtain⟨x1,y1,w1,e1,g1,a1,b1⟩:=sQ hl jE;obtain⟨x2,y2,w2,e2,g2,a2,b2⟩:=sQ jE hc;obtain⟨x3,y3,w3,e3,g3,a3,b3⟩:=sQ hl hc;have hy1:y1=0:=b1.mpr rfl;have hx2:x2=0:=a2.mpr rfl;have hx1:x1≠0:=λz=>l0 (a1.mp z);have hy2:y2≠0:=λz=>c0 (b2.mp z);have hx3:x3≠0:=λz=>l0 (a3.mp z);have hy3:y3≠0:=λz=>c0 (b3.mp z);rw[e1,e2,e3];refine⟨⟨g0,g1,g2,g3⟩,?_,?_,?_⟩
 .show sg (D2 0 0 1 x1 y1 w1 x3 y3 w3)≠0
  rw[Xj,hy1,fv,Int.sub_zero];exact Dj (kl hx1 hy3)
 .show sg (D2 0 0 1 x2 y2 w2 x3 y3 w3)≠0
  rw[Xj,hx2,fv,fe];exact Dj (Int.neg_ne_zero.mpr (kl hy2 hx3))
 .refine⟨λz=>?_,λz=>?_,λz=>?_⟩
  .injection z with z _
   exact hx1 z
  .injection z with z _
   exact hx1 (z.trans hx2)
  .injection z with z1 z
   injection z with z2 _;exact hy3 (z2.symm.trans hy1)
def tO(O X Y E:AA):AD:=nR fA [cS [O,X,E],cS [O,Y,E]]
theorem Sg:∀k:AA,gB (k.map .int)=some k
 |[]=>rfl
 |x::k=>by
  show gB (.int x::k.map .int)=_;unfold gB;rw[Sg k]
theorem Kh:∀ks:AC,gF (ks.map tv)=some ks
 |[]=>rfl
 |k::ks=>by
  show gF (.tup (k.map .int)::ks.map tv)=_;unfold gF;rw[Kh ks,Sg k]
theorem Xd:∀ks:AD,jO (ks.map px)=some ks
 |[]=>rfl
 |k::ks=>by
  show jO (.tup (k.map tv)::ks.map px)=_;unfold jO;rw[Xd ks,Kh k]
theorem Pg{u:AC}(h:u.length=3):(cS u).length=3:=by rw[(oS (.inl h)).length_eq,h]
theorem Kf{O X Y E:AA}(b:Bo O X Y E):mY [.lst [px (cS [O,X,E]),px (cS [O,Y,E])]]=some (.lst ((tO O X Y E).map px)):=by
 have p1:=oS (uss:=[O,X,E]) (.inl rfl);have p2:=oS (uss:=[O,Y,E]) (.inl rfl);have l1:=Pg (u:=[O,X,E]) rfl;have l2:=Pg (u:=[O,Y,E]) rfl;have ne:cS [O,X,E]≠cS [O,Y,E]:=λz=>by
  have m:X∈cS [O,X,E]:=p1.symm.subset (by simp);rw[z]at m;have m:=p2.subset m;obtain⟨n1,n2,n3⟩:=b.n;simp only[bh,jn,or_false]at m;rcases m with m |m |m
  .exact n1 m
  .exact n2 m
  .exact n3 m
 show nO ([cS [O,X,E],cS [O,Y,E]].map px)=_;unfold nO;rw[Xd];dsimp only;refine if_pos ⟨by show 2<64;decide,by simp[ne],λz=>?_⟩;simp only[bh,jn,or_false]at z;rcases z with z |z
 .rw[<-z]at l1
  cases l1
 .rw[<-z]at l2
  cases l2
theorem rW(S:aH){c d:Int}(b1:Bd 133 c)(b2:Bd 133 d):oV [.pv (.tup [.int c,.int d]),.pv (.tup [.int 0,.int 1])] S=.ok (.pv (.int (sg c))) S:=by
 have m1:aZ (.int c) (.int 1)=some (.int c):=by rw[dC (l:=1) b1 (Bd.of (n:=1) (by decide) (by decide)),Int.mul_one]
 have m2:aZ (.int 0) (.int d)=some (.int 0):=by rw[dC (k:=1) (Bd.of (n:=0) (by decide) (by decide)) b2,fv]
 have e:=oY c S;unfold oV aS vY;simp! [aG,bC,bD,aI,aU,aW,aV,aX,aL,aT,m1,m2,e]
theorem Ft{a b c d:Int}(f1:Fr a b)(f2:Fr c d)(hc:c≠0):∃p q:Int,fr (a*d) (b*c)=[p,q]/\Fz (p,q)/\(p=0↔a=0):=by
 have h:b*c≠0:=kl (Int.ne_of_gt f1.pos) hc;obtain⟨p,q,e,hq,j⟩:=Ni (t:=a*d) h;obtain⟨b1,b2⟩:=Li ((f1.bp.mul f2.bq).mono (show 133+133<=300 by decide)) ((f1.bq.mul f2.bp).mono (show 133+133<=300 by decide)) e;refine⟨p,q,e,⟨hq,b1,b2⟩,λz=>?_,λz=>?_⟩
 .rw[z,fv]at j
  rcases il.mp j.symm with j |j
  .rcases il.mp j with j |j
   .exact j
   .have:=f2.pos;omega
  .omega
 .rw[z,fv,fv]at j
  rcases il.mp j with j |j
  .exact j
  .exact absurd j h
theorem Fr.z{a b:Int}(f:Fr a b):Fz (a,b):=⟨f.pos,f.bp.mono (by decide),f.bq.mono (by decide)⟩
theorem Jn(S:aH){a b c d:Int}(f1:Fr a b)(f2:Fr c d)(h:c≠0):oM [.pv (.tup [.int a,.int b]),.pv (.tup [.int c,.int d])] S=.ok (.pv (.tup ((fr (a*d) (b*c)).map .int))) S:=by
 have e:=Wl (a*d) (b*c) S ((f1.bp.mul f2.bq).mono (by decide)) ((f1.bq.mul f2.bp).mono (by decide)) (kl (Int.ne_of_gt f1.pos) h);have m1:=dC f1.bp f2.bq;have m2:=dC f1.bq f2.bp;unfold oM aS vG;simp! [aG,bC,bD,aI,aU,aW,aV,aX,aL,aT,m1,m2,e]
theorem uG(S:aH){u v:Int×Int}(hu:Fz u)(hv:Fz v):jM [.pv (fz u),.pv (fz v)] S=.ok (.pv (tv (sp u v))) S:=by
 obtain⟨a,b⟩:=u;obtain⟨c,d⟩:=v;have m1:=dC hu.b1 hv.b2;have m2:=dC hv.b1 hu.b2;have m3:=dC hu.b2 hv.b2;dsimp only at m1 m2 m3;have e:=uU [a*d,c*b,b*d] S (λx hx=>by
  simp only[bh,jn,or_false]at hx;rcases hx with rfl |rfl |rfl
  .exact(hu.b1.mul hv.b2).mono (by decide)
  .exact(hv.b1.mul hu.b2).mono (by decide)
  .exact(hu.b2.mul hv.b2).mono (by decide))
 have e:iV [.pv (.lst [.int (a*d),.int (c*b),.int (b*d)])] S=.ok (.pv (tv (sp (a,b) (c,d)))) S:=e;unfold jM aS uH;generalize tv (sp (a,b) (c,d))=R at *;simp! [aG,bC,bD,aI,aU,aW,aV,aX,aL,aT,m1,m2,m3,e]
theorem sD(S:aH){u v:Int×Int}(hu:Fz u)(hv:Fz v):fP [.pv (.lst [fz u,fz v])] S=.ok (.pv (tv (sp u v))) S:=Bm (ab:=[u,v]) S (.inl rfl) λx hx=>by
 rcases bh.mp hx with rfl |hx
 .exact hu
 .rcases bh.mp hx with rfl |hx
  .exact hv
  .cases hx
theorem Ao{S:aH}{me:ME}{x:AK}{tail:bL}{p q r s:PV}(h1:me (some (.pv p)::tail) S=.ok (.pv r) S)(h2:me (some (.pv q)::tail) S=.ok (.pv s) S):fG [] (gN 0) me [p,q] (x::tail) S=.ok [r,s] S:=by
 simp[fG,gN,h1,h2,fZ]
theorem nU{P:AA->Prop}{A B C:AA}(a:P A)(b:P B)(c:P C):∀u∈[A,B,C],P u:=λu hu=>by
 rcases bh.mp hu with rfl |hu
 .exact a
 .rcases bh.mp hu with rfl |hu
  .exact b
  .rcases bh.mp hu with rfl |hu
   .exact c
   .cases hu
theorem Zg(S:aH){A:PV}{O X E:AA}(a:Gu 2 600 O)(b:Gu 2 600 X)(c:Gu 2 600 E)(h:dS [tv O,tv X,tv E]≠0)(hA:Sv A [tv O,tv X,tv E]):lI [.pv A] S=.ok (.pv (px (cS [O,X,E]))) S:=
 Hn (n:=2) (uss:=[O,X,E]) (.inl rfl) S rfl (nU (a.mono (by decide)) (b.mono (by decide)) (c.mono (by decide))) hA h
theorem Te(S:aH){A:PV}{O X E:AA}(a:Gu 2 600 O)(b:Gu 2 600 X)(c:Gu 2 600 E)(hA:Sv A [tv O,tv X,tv E]):iU [.pv A] S=.ok (.pv (px (cS [O,X,E]))) S:=
 zR (n:=2) (uss:=[O,X,E]) (.inl rfl) S rfl (nU (a.mono (by decide)) (b.mono (by decide)) (c.mono (by decide))) hA
inductive kA(a b c d:Int):PV->Prop
 |no (h:c<1\/a<0):kA a b c d (.tup [.int 1,.bl true])
 |nil (hc:1<=c) (ha:a=0) (hb:b=1):kA a b c d (.tup [.int 0,.tup []])
 |bx (hc:1<=c) (ha:1<=a) {l:Int×Int} (el:fr (a*d) (b*c)=[l.1,l.2]) (hl:Fz l) (B:Bo [0,0,1] (sp l oz) (sp oz (c,d)) (sp l (c,d))):kA a b c d (.tup [.int 0,.tup ((tO [0,0,1] (sp l oz) (sp oz (c,d)) (sp l (c,d))).map px)])
theorem Sw{a b c d:Int}(f1:Fr a b)(f2:Fr c d):∃v,kA a b c d v:=by
 by_cases h:c<1\/a<0
 .exact⟨_,.no h⟩
 .by_cases ha:a=0
  .have:=f1.cop
   rw[ha,ot]at this;exact⟨_,.nil (by omega) ha (by have:=f1.pos;omega)⟩
  .obtain⟨p,q,e,z,pz⟩:=Ft f1 f2 (by omega)
   exact⟨_,.bx (by omega) (by omega) (l:=(p,q)) e z (Oz z f2.z (λw=>ha (pz.mp w)) (by show c≠0;omega))⟩
theorem Gy(S:aH){a b c d:Int}(f1:Fr a b)(f2:Fr c d){v:PV}(h:kA a b c d v):lQ [.pv (.tup [.int a,.int b]),.pv (.tup [.int c,.int d])] S=.ok (.pv v) S:=by
 cases h with
 |no h=>
  unfold lQ aS pN;rcases h with h |h
  .simp! [aG,bC,bD,aI,aU,aW,aV,aX,aL,aT,h]
  .by_cases h2:c<1
   .simp! [aG,bC,bD,aI,aU,aW,aV,aX,aL,aT,h2]
   .simp! [aG,bC,bD,aI,aU,aW,aV,aX,aL,aT,h,h2]
 |nil hc ha hb=>
  have h2:¬c<1:=by omega
  subst ha;unfold lQ aS pN;simp! [aG,bC,bD,aI,aU,aW,aV,aX,aL,aT,h2]
 |@bx hc ha l el hl B=>
  have h2:¬c<1:=by omega
  have h3:¬a<0:=by omega
  have h4:(a==0)=false:=by simp;omega
  have m1:=dC f1.bp f2.bq;have m2:=dC f1.bq f2.bp;have e1:=wJ (a*d) (b*c) S ((f1.bp.mul f2.bq).mono (by decide)) ((f1.bq.mul f2.bp).mono (by decide));rw[el]at e1;have e1:mT [.pv (.int (a*d)),.pv (.int (b*c))] S=.ok (.pv (fz l)) S:=e1;have e2:jM [.pv (fz l),.pv (.tup [.int c,.int d])] S=.ok (.pv (tv (sp l (c,d)))) S:=uG (u:=l) (v:=(c,d)) S hl f2.z;have e3:jM [.pv (fz l),.pv (.tup [.int 0,.int 1])] S=.ok (.pv (tv (sp l oz))) S:=uG (u:=l) (v:=oz) S hl jE;have e4:jM [.pv (.tup [.int 0,.int 1]),.pv (.tup [.int c,.int d])] S=.ok (.pv (tv (sp oz (c,d)))) S:=uG (u:=oz) (v:=(c,d)) S jE f2.z;obtain⟨g0,g1,g2,g3⟩:=B.g;have e5:=Te S g0 g1 g3 (.inl rfl);have e6:=Te S g0 g3 g2 (.inl rfl);rw[Am (A:=[[0,0,1],sp l (c,d),sp oz (c,d)]) (B:=[[0,0,1],sp oz (c,d),sp l (c,d)]) (List.Perm.cons _ (List.Perm.swap _ _ _)) (.inl rfl)]at e6;have e7:=Kf B;generalize tO [0,0,1] (sp l oz) (sp oz (c,d)) (sp l (c,d))=R at *;generalize px (cS [[0,0,1],sp l oz,sp l (c,d)])=U at *;generalize px (cS [[0,0,1],sp oz (c,d),sp l (c,d)])=W at *;generalize tv (sp l (c,d))=T1 at *;generalize tv (sp l oz)=T2 at *;generalize tv (sp oz (c,d))=T3 at *;generalize fz l=T4 at *;have e5:iU [.pv (.lst [.tup [.int 0,.int 0,.int 1],T2,T1])] S=.ok (.pv U) S:=e5;have e6:iU [.pv (.lst [.tup [.int 0,.int 0,.int 1],T1,T3])] S=.ok (.pv W) S:=e6;generalize R.map px=RR at *;unfold lQ aS pN;simp! [aG,bC,bD,aI,aU,aW,aV,aX,aL,aT,h2,h3,h4,m1,m2,e1,e2,e3,e4,e5,e6,e7]
theorem Fu(S:aH){a b c d:Int}(f1:Fr a b)(f2:Fr c d)(h:c<1\/a<0):kF [.pv (.tup [.int a,.int b]),.pv (.tup [.int c,.int d])] S=.exc "NoBox" S:=by
 have e1:=rW S f2.bp f2.bq;have e2:=rW S f1.bp f1.bq;unfold kF aS lH
 by_cases h1:c<1
 .have s1:sg c<=0:=by
   unfold sg;split
   .omega
   .split<;>decide
  simp! [aG,bC,bD,aI,aU,aW,aV,aX,aL,aT,e1,s1,kO]
 .have s1:¬sg c<=0:=by
   unfold sg;rw[if_pos (show 0<c by omega)];decide
  have s2:sg a<0:=by
   unfold sg;rw[if_neg (by omega),if_pos (by omega)];decide
  simp! [aG,bC,bD,aI,aU,aW,aV,aX,aL,aT,e1,e2,s1,s2,kO]
theorem Fe(S:aH){a b c d:Int}(f1:Fr a b)(f2:Fr c d){w:PV}(h:kA a b c d (.tup [.int 0,w])):kF [.pv (.tup [.int a,.int b]),.pv (.tup [.int c,.int d])] S=.ok (.pv w) S:=by
 have e1:=rW S f2.bp f2.bq;have e2:=rW S f1.bp f1.bq;cases h with
 |nil hc ha hb=>
  have s1:¬sg c<=0:=by
   unfold sg;rw[if_pos (show 0<c by omega)];decide
  subst ha hb;have s2:sg 0=0:=by decide
  rw[s2]at e2;unfold kF aS lH;simp! [aG,bC,bD,aI,aU,aW,aV,aX,aL,aT,e1,e2,s1,eX]
 |@bx hc ha l el hl B=>
  have s1:¬sg c<=0:=by
   unfold sg;rw[if_pos (show 0<c by omega)];decide
  have s2:¬sg a<0:=by
   unfold sg;rw[if_pos (show 0<a by omega)];decide
  have h4:(a==0)=false:=by simp;omega
  have e3:=Jn S f1 f2 (by omega);rw[el]at e3;have e3:oM [.pv (.tup [.int a,.int b]),.pv (.tup [.int c,.int d])] S=.ok (.pv (fz l)) S:=e3;have p0:fP [.pv (.lst [.tup [.int 0,.int 1],.tup [.int 0,.int 1]])] S=.ok (.pv (tv [0,0,1])) S:=by
   have:=sD (u:=oz) (v:=oz) S jE jE;rw[Ck]at this;exact this
  have p1:fP [.pv (.lst [fz l,.tup [.int c,.int d]])] S=.ok (.pv (tv (sp l (c,d)))) S:=sD (u:=l) (v:=(c,d)) S hl f2.z;have p2:fP [.pv (.lst [fz l,.tup [.int 0,.int 1]])] S=.ok (.pv (tv (sp l oz))) S:=sD (u:=l) (v:=oz) S hl jE;have p3:fP [.pv (.lst [.tup [.int 0,.int 1],.tup [.int c,.int d]])] S=.ok (.pv (tv (sp oz (c,d)))) S:=sD (u:=oz) (v:=(c,d)) S jE f2.z;obtain⟨g0,g1,g2,g3⟩:=B.g;have e5:=Zg S g0 g1 g3 B.s1 (.inr rfl);have e6:=Zg S g0 g2 g3 B.s2 (.inr rfl);have e7:=Kf B;generalize tO [0,0,1] (sp l oz) (sp oz (c,d)) (sp l (c,d))=R at *;generalize px (cS [[0,0,1],sp l oz,sp l (c,d)])=U at *;generalize px (cS [[0,0,1],sp oz (c,d),sp l (c,d)])=W at *;generalize tv (sp l (c,d))=T1 at *;generalize tv (sp l oz)=T2 at *;generalize tv (sp oz (c,d))=T3 at *;generalize fz l=T4 at *;generalize tv [0,0,1]=T0 at *;have ec:fG [] (gN 0) (fE lI [] (aC (mN dA (aC (aA 1) (aC (aA 0) (aC (aA 2) aE)))) aE)) [T2,T3] [none,some (.pv T0),some (.pv T1)] S=.ok [U,W] S:=Ao (by simp! [aG,bC,bD,aI,aU,aW,aV,aX,aL,aT,fE,e5]) (by simp! [aG,bC,bD,aI,aU,aW,aV,aX,aL,aT,fE,e6]);generalize R.map px=RR at *;unfold kF aS lH;simp! [aG,bC,bD,aI,aU,aW,aV,aX,aL,aT,e1,e2,s1,s2,h4,e3,p0,p1,p2,p3,rY,cO,cR,cQ,ec,e7,eX]
theorem Rr(S:aH){a b c d:Int}(f1:Fr a b)(f2:Fr c d){v:PV}(h:kA a b c d v):jN [.pv (.tup [.int a,.int b]),.pv (.tup [.int c,.int d])] S=.ok (.pv v) S:=by
 have key:∀w,kF [.pv (.tup [.int a,.int b]),.pv (.tup [.int c,.int d])] S=.ok (.pv w) S->jN [.pv (.tup [.int a,.int b]),.pv (.tup [.int c,.int d])] S=.ok (.pv (.tup [.int 0,w])) S:=λw e=>by
  unfold jN aS vP;simp! [aG,bC,bD,aI,aU,aW,aV,aX,aL,aT,pW,pV,pM,e]
 cases h with
 |no h=>
  have e:=Fu S f1 f2 h;unfold jN aS vP;simp! [aG,bC,bD,aI,aU,aW,aV,aX,aL,aT,pW,pV,pM,e]
 |nil hc ha hb=>exact key _ (Fe S f1 f2 (.nil hc ha hb))
 |bx hc ha el hl B=>exact key _ (Fe S f1 f2 (.bx hc ha el hl B))
def qH:MS:=(aP (cD (bG (aB fN (bI oO [] (aC (aB aG (aA 1) (aA 2)) aE)) (cA ["_law_m"] [(2,"_law_k")] (gR (aC (mC (.int 20)) aE)) (gN 0) (aB cZ (aA 0) (aA 1))))) (bH (mC (.bl false))) cJ) (cD (hJ (fM (bG (bF (dD xN "HallError") (aB aG (aA 1) (aA 2))))) (fM (bG (bF (kT xN) (aB aG (aA 1) (aA 2)))))) (bH (mC (.bl false))) cJ))
theorem Pu(S:aH){k:Str->PV}{o:PV}(h:∀D,dD xN D o=some (k D)):oO [.pv o] S=.ok (.pv (.lst ((xN.take 20).map k))) S:=by
 unfold oO aS vO;simp! [aG,bC,bD,aI,aU,aW,aV,aX,aL,aT,h]
theorem Ot{m:Nat}:∀bs:List Bool,aI (m+2) (.lst (bs.map .bl)) (.lst (bs.map .bl))=some true:=λbs=>by
 have e:eX (bs.map ((λa=>aI (m+1) a a)∘PV.bl))=some (bs.map λ_=>true):=by
  induction bs with
  |nil=>rfl
  |cons b bs ih=>
   have z:((λa=>aI (m+1) a a)∘PV.bl) b=some true:=by cases b<;>rfl
   simp only[cw,eX,z,ih]
 unfold aI;simp[e]
def Oi(L:AI)(i:Nat):Prop:=∃C ns fs,aG (.lst L) (.int (i:Nat))=some (.obj C ns fs)/\xN.contains C=true/\(xN.take 20).map (λD=>(C==D||D=="HallError"))=(aq 20).map (λm=>m==i)
theorem Uf(S:aH)(i:Nat):∀(is:List Nat)(x:AK),cN [] (gN 0) (aB cZ (aA 0) (aA 1)) (is.map λm=>.int ((m:Nat):Int)) [x,some (.pv (.int (i:Nat)))] S=.ok (is.map λm=>.bl (m==i)) S
 |[],_=>eQ
 |m::is,x=>by
  have ih:=Uf S i is (some (.pv (.int (m:Nat))));have e:(((m:Nat):Int)==((i:Nat):Int))=(m==i):=by
   by_cases h:m=i
   .subst h;simp
   .have h2:¬((m:Nat):Int)=((i:Nat):Int):=by omega
    rw[beq_eq_false_iff_ne.mpr h,beq_eq_false_iff_ne.mpr h2]
  rw[cw,eU];simp! [gN,aG,bC,bD,aI,aU,aW,aV,aX,aL,aT,e,ih]
theorem Bt(S:aH){L:AI}{i:Nat}(h:Oi L i)(x0 x2:AK):qH [x0,some (.pv (.lst L)),some (.pv (.int (i:Nat)))] S=.nx [x0,some (.pv (.lst L)),some (.pv (.int (i:Nat)))] S:=by
 obtain⟨C,ns,fs,e,hC,hk⟩:=h;have e1:∀D,dD xN D (.obj C ns fs)=some (.bl (C==D||D=="HallError")):=λD=>by
  unfold dD;exact if_pos hC
 have e2:kT xN (.obj C ns fs)=some (.bl true):=by
  unfold kT;exact if_pos hC
 have e3:=Pu S e1;have e4:(xN.take 20).map (λD=>PV.bl (C==D||D=="HallError"))=((aq 20).map (λm=>m==i)).map PV.bl:=by rw[<-hk,km];rfl
 have e5:(aq 20).map (λm=>PV.bl (m==i))=((aq 20).map (λm=>m==i)).map PV.bl:=by rw[km];rfl
 have e6:=Uf S i (aq 20) none;have e7:=Ot (m:=6) ((aq 20).map (λm=>m==i));have e8:dD xN "HallError" (.obj C ns fs)=some (.bl true):=by rw[e1];simp
 have er:gI 0 20=(aq 20).map λm=>.int ((m:Nat):Int):=by
  unfold gI;simp
 rw[e4]at e3;rw[e5,<-er]at e6;generalize ((aq 20).map (λm=>m==i)).map PV.bl=BL at *;generalize PV.obj C ns fs=OB at *;generalize (i:Int)=I at *;generalize PV.lst L=LL at *;unfold qH;simp! [cP,aU,aW,aV,aX,aL,aT,e,e3,e6,e7,e8,e2,cA,gR,lW,cO]
theorem Pf(S:aH){L:AI}(x0:AK):∀(is:List Nat)(x2:AK),(∀i∈is,Oi L i)->∃y2,dM [] (gN 2) qH (is.map λi=>.int ((i:Nat):Int)) [x0,some (.pv (.lst L)),x2] S=.nx [x0,some (.pv (.lst L)),y2] S
 |[],x2,_=>⟨x2,kH⟩
 |i::is,x2,h=>by
  obtain⟨y2,ih⟩:=Pf S x0 is (some (.pv (.int (i:Nat)))) λj hj=>h j (cj _ hj);have e:=Bt S (h i bi) x0 x2;refine⟨y2,?_⟩;rw[cw,iE];simp only[gN,lh,jt];simp[e,ih]
abbrev oL(v:PV):AI:=[.obj "NoNumber" [] [],.obj "NoPoint" [] [],.obj "Flat" [] [],.obj "NoBlade" [] [],.obj "NoMove" [] [],.obj "OnSide" [] [],.obj "NotSame" [] [],.obj "OtherSize" [] [],.obj "Backward" [] [],.obj "NoBox" [] [],.obj "NoText" [] [],.obj "TooGreat" [] [],.obj "NoRow" [] [],.obj "NoName" [] [],.obj "NoUndo" [] [],.obj "NoAgain" [] [],.obj "OtherKind" [] [],.obj "OtherSum" ["key"] [.tup [.int 0,.int 1]],.obj "TooWide" ["lines","cells"] [.int 7,v],.obj "TooSteep" ["number"] [.int 301]]
theorem By(v:PV):∀i∈aq 20,Oi (oL v) i:=by
 have e:aq 20=[0,1,2,3,4,5,6,7,8,9,10,11,12,13,14,15,16,17,18,19]:=by decide
 rw[e];simp only[List.forall_mem_cons];exact⟨⟨"NoNumber",_,_,rfl,by decide+kernel,by decide+kernel⟩,⟨"NoPoint",_,_,rfl,by decide+kernel,by decide+kernel⟩,⟨"Flat",_,_,rfl,by decide+kernel,by decide+kernel⟩,⟨"NoBlade",_,_,rfl,by decide+kernel,by decide+kernel⟩,⟨"NoMove",_,_,rfl,by decide+kernel,by decide+kernel⟩,⟨"OnSide",_,_,rfl,by decide+kernel,by decide+kernel⟩,⟨"NotSame",_,_,rfl,by decide+kernel,by decide+kernel⟩,⟨"OtherSize",_,_,rfl,by decide+kernel,by decide+kernel⟩,⟨"Backward",_,_,rfl,by decide+kernel,by decide+kernel⟩,⟨"NoBox",_,_,rfl,by decide+kernel,by decide+kernel⟩,⟨"NoText",_,_,rfl,by decide+kernel,by decide+kernel⟩,⟨"TooGreat",_,_,rfl,by decide+kernel,by decide+kernel⟩,⟨"NoRow",_,_,rfl,by decide+kernel,by decide+kernel⟩,⟨"NoName",_,_,rfl,by decide+kernel,by decide+kernel⟩,⟨"NoUndo",_,_,rfl,by decide+kernel,by decide+kernel⟩,⟨"NoAgain",_,_,rfl,by decide+kernel,by decide+kernel⟩,⟨"OtherKind",_,_,rfl,by decide+kernel,by decide+kernel⟩,⟨"OtherSum",_,_,rfl,by decide+kernel,by decide+kernel⟩,⟨"TooWide",_,_,rfl,by decide+kernel,by decide+kernel⟩,⟨"TooSteep",_,_,rfl,by decide+kernel,by decide+kernel⟩,λ_ h=>nomatch h⟩
theorem Bz(v:PV):fJ xN xF "key" (.obj "OtherSum" ["key"] [v])=some v:=by
 unfold fJ;exact(if_pos (by decide+kernel)).trans rfl
theorem Rq(v w:PV):fJ xN xF "lines" (.obj "TooWide" ["lines","cells"] [v,w])=some v:=by
 unfold fJ;exact(if_pos (by decide+kernel)).trans rfl
theorem Op(v w:PV):fJ xN xF "cells" (.obj "TooWide" ["lines","cells"] [v,w])=some w:=by
 unfold fJ;exact(if_pos (by decide+kernel)).trans rfl
theorem Ap(v:PV):fJ xN xF "number" (.obj "TooSteep" ["number"] [v])=some v:=by
 unfold fJ;exact(if_pos (by decide+kernel)).trans rfl
theorem Xr(S:aH){v:PV}(hv:aI 8 v v=some true):mP [.pv v] S=.ok (.pv (.bl true)) S:=by
 obtain⟨y2,el⟩:=Pf S (L:=oL v) (some (.pv v)) (aq 20) none (By v);have er:gI 0 20=(aq 20).map λm=>.int ((m:Nat):Int):=by
  unfold gI;simp
 rw[<-er]at el;have q1:aG (.lst (oL v)) (.int 17)=some (.obj "OtherSum" ["key"] [.tup [.int 0,.int 1]]):=rfl;have q2:aG (.lst (oL v)) (.int 18)=some (.obj "TooWide" ["lines","cells"] [.int 7,v]):=rfl;have q3:aG (.lst (oL v)) (.int 19)=some (.obj "TooSteep" ["number"] [.int 301]):=rfl;have k1:=Bz (.tup [.int 0,.int 1]);have k2:=Rq (.int 7) v;have k3:=Op (.int 7) v;have k4:=Ap (.int 301);have x0:∀C,eJ C [.str "a"]=some (.obj C [] []):=λC=>if_pos (by show 1<=16777216;decide);have x1:iR "OtherSum" ["key"] [.tup [.int 0,.int 1]]=some (.obj "OtherSum" ["key"] [.tup [.int 0,.int 1]]):=if_pos ⟨rfl,by show 1<=16;decide⟩;have x2:iR "TooWide" ["lines","cells"] [.int 7,v]=some (.obj "TooWide" ["lines","cells"] [.int 7,v]):=if_pos ⟨rfl,by show 2<=16;decide⟩;have x3:iR "TooSteep" ["number"] [.int 301]=some (.obj "TooSteep" ["number"] [.int 301]):=if_pos ⟨rfl,by show 1<=16;decide⟩;have q4:aI 8 (.tup [.int 0,.int 1]) (.tup [.int 0,.int 1])=some true:=by decide+kernel
 have tF:(eS (gR (aC (mC (.int 20)) aE)) (gN 2) qH) [some (.pv v),some (.pv (.lst (oL v))),none] S=.nx [some (.pv v),some (.pv (.lst (oL v))),y2] S:=by
  generalize qH=AB at *;generalize oL v=LL at *;simp! [cP,aU,aW,aV,aX,aL,aT,eS,gR,lW,el]
 unfold mP;apply Kj (v:=.pv (.bl true)) (S':=S) rfl
 .unfold vR
  apply sq;simp! [cP,aU,aW,aV,aX,aL,aT,gS,x0];exact⟨rfl,rfl⟩;apply sq;simp! [cP,aU,aW,aV,aX,aL,aT,x0,aL];exact⟨rfl,rfl⟩;apply sq;simp! [cP,aU,aW,aV,aX,aL,aT,x0,x1,x2,x3,aL];exact⟨rfl,rfl⟩;refine sq tF ?_;generalize oL v=LL at *;simp! [cP,aU,aW,aV,aX,aL,aT,q1,q2,q3,k1,k2,k3,k4,q4,hv]
 .simp[jB]
def qK:MS:=(aP (bE 3 (bI iW [] (aC (aA 1) aE))) (aP (bE 4 (bI iW [] (aC (aA 1) aE))) (aP (bE 5 (bI lQ [] (aC (aA 3) (aC (aA 4) aE)))) (aP (bE 6 (bI jN [] (aC (aA 3) (aC (aA 4) aE)))) (aP (cD (bG (aB fN (aA 6) (aA 5))) (bH (mC (.bl false))) cJ) (aP (cD (iP (bG (aB cZ (aB aG (aA 5) (mC (.int 0))) (mC (.int 0)))) (fM (bG (bI lF [] (aC (aB aG (aA 6) (mC (.int 1))) (aC (mC (.int 2)) aE)))))) (bH (mC (.bl false))) cJ) (cD (hJ (bG (aB fN (bI jN [] (aC (aA 3) (aC (aA 4) aE))) (aA 5))) (fM (bG (bI mP [] (aC (aA 3) aE))))) (bH (mC (.bl false))) cJ)))))))
theorem Fg(S:aH):∀(R:AD)(x:AK),(∀u∈R,kE [.pv (px u),.pv (.int 2)] S=.ok (.pv (.bl true)) S)->cN [] (gN 0) (bI kE [] (aC (aA 0) (aC (aA 1) aE))) (R.map px) [x,some (.pv (.int 2))] S=.ok ((R.map px).map λ_=>.bl true) S
 |[],x,_=>eQ
 |u::R,x,h=>by
  have ih:=Fg S R (some (.pv (px u))) λv hv=>h v (cj _ hv);have e:=h u bi;rw[cw,eU];generalize px u=XL at *;simp! [gN,aG,bC,bD,aI,aU,aW,aV,aX,aL,aT,e,ih]
theorem Xc(S:aH){R:AD}(h:∀u∈R,kE [.pv (px u),.pv (.int 2)] S=.ok (.pv (.bl true)) S):lF [.pv (.tup (R.map px)),.pv (.int 2)] S=.ok (.pv (.bl true)) S:=by
 have ec:=Fg S R none h;have ea:=Ub (R.map px);generalize R.map px=L at *;generalize L.map (λ_=>PV.bl true)=BL at *;unfold lF aS uC;simp! [cP,aU,aW,aV,aX,aL,aT,eV,cA,cR,cQ,cO,ec,ea]
theorem N9{O X E:AA}(a:Gu 2 600 O)(b:Gu 2 600 X)(c:Gu 2 600 E)(h:dS [tv O,tv X,tv E]≠0):dS ((cS [O,X,E]).map tv)≠0:=by
 have gu:∀u∈[O,X,E],Gu 2 1000 u:=nU (a.mono (by decide)) (b.mono (by decide)) (c.mono (by decide));have h1:dS ((cM [O,X,E]).map tv)≠0:=by
  have h:dS ([O,X,E].map tv)≠0:=h;rcases Ie (.inl rfl) rfl gu with e |e<;>omega
 obtain⟨ps,_⟩:=lG (uss:=[O,X,E]) (.inl rfl);unfold cS;split
 .rw[wL,Kt (n:=2) (.inl rfl) (by rw[az,ps.length_eq];rfl) (tX λus hu=>gu us (ps.subset hu))]
  omega
 .exact h1
theorem Zh(S:aH){O X E:AA}(a:Gu 2 600 O)(b:Gu 2 600 X)(c:Gu 2 600 E)(h:dS [tv O,tv X,tv E]≠0):kE [.pv (px (cS [O,X,E])),.pv (.int 2)] S=.ok (.pv (.bl true)) S:=by
 have p:=oS (uss:=[O,X,E]) (.inl rfl);refine Wq (n:=2) (uss:=cS [O,X,E]) (.inl rfl) S (by rw[p.length_eq];rfl) (λu hu=>nU (P:=λu=>Gu 2 1000 u) (a.mono (by decide)) (b.mono (by decide)) (c.mono (by decide)) u (p.subset hu)) ?_ (Ys (.inl rfl));exact N9 a b c h
theorem Yd(S:aH){a b c d:Int}{w:PV}(h:kA a b c d (.tup [.int 0,w])):lF [.pv w,.pv (.int 2)] S=.ok (.pv (.bl true)) S:=by
 cases h with
 |nil hc ha hb=>exact Xc S (R:=[]) λu hu=>nomatch hu
 |@bx hc ha l el hl B=>
  obtain⟨g0,g1,g2,g3⟩:=B.g;refine Xc S λu hu=>?_;have hu:=(qV (lt:=fA) _).subset hu;rcases bh.mp hu with rfl |hu
  .exact Zh S g0 g1 g3 B.s1
  .rcases bh.mp hu with rfl |hu
   .exact Zh S g0 g2 g3 B.s2
   .cases hu
theorem Zi(u:AA){m:Nat}:aI (m+2) (tv u) (tv u)=some true:=oU λv hv=>by
 obtain⟨i,_,rfl⟩:=lx.mp hv;unfold aI;simp
theorem Sr{a b c d:Int}{v:PV}(h:kA a b c d v):aI 8 v v=some true:=by
 cases h with
 |no h=>decide+kernel
 |nil hc ha hb=>decide+kernel
 |@bx hc ha l el hl B=>
  refine oU λx hx=>?_;rcases bh.mp hx with rfl |hx
  .decide+kernel
  .rcases bh.mp hx with rfl |hx
   .refine oU λy hy=>?_
    obtain⟨u,_,rfl⟩:=lx.mp hy;refine oU λz hz=>?_;obtain⟨t,_,rfl⟩:=lx.mp hz;exact Zi t
   .cases hx
theorem Ju{x0 x2 x3 x4 x5 x6:AK}(ns:AA):∃(ns':AA)(y3 y4 y5 y6:AK),qK [x0,some (.ref 0),x2,x3,x4,x5,x6] [.lst (ns.map .int)]=.nx [x0,some (.ref 0),x2,y3,y4,y5,y6] [.lst (ns'.map .int)]:=by
 obtain⟨a,b,n1,e1,f1⟩:=Zf (show fX [.lst (ns.map .int)] 0 ns from rfl);have e1:iW [.ref 0] [.lst (ns.map .int)]=.ok (.pv (.tup [.int a,.int b])) [.lst (n1.map .int)]:=e1;obtain⟨c,d,n2,e2,f2⟩:=Zf (show fX [.lst (n1.map .int)] 0 n1 from rfl);have e2:iW [.ref 0] [.lst (n1.map .int)]=.ok (.pv (.tup [.int c,.int d])) [.lst (n2.map .int)]:=e2;obtain⟨v,D⟩:=Sw f1 f2;have e3:=Gy [.lst (n2.map .int)] f1 f2 D;have e4:=Rr [.lst (n2.map .int)] f1 f2 D;have e5:=Sr D;have e6:mP [.pv (.tup [.int a,.int b])] [.lst (n2.map .int)]=.ok (.pv (.bl true)) [.lst (n2.map .int)]:=Xr _ (Zi [a,b]);have e7:∃i w,v=.tup [.int i,w]/\(i=1\/(i=0/\lF [.pv w,.pv (.int 2)] [.lst (n2.map .int)]=.ok (.pv (.bl true)) [.lst (n2.map .int)])):=by
  have D':=D;cases D with
  |no h=>exact⟨1,_,rfl,.inl rfl⟩
  |nil hc ha hb=>exact⟨0,_,rfl,.inr ⟨rfl,Yd _ D'⟩⟩
  |bx hc ha el hl B=>exact⟨0,_,rfl,.inr ⟨rfl,Yd _ D'⟩⟩
 obtain⟨i,w,rfl,e7⟩:=e7;have i0:aG (.tup [.int i,w]) (.int 0)=some (.int i):=wQ (j:=0) rfl;have i1:aG (.tup [.int i,w]) (.int 1)=some w:=wQ (j:=1) rfl;refine⟨n2,some (.pv (.tup [.int a,.int b])),some (.pv (.tup [.int c,.int d])),some (.pv (.tup [.int i,w])),some (.pv (.tup [.int i,w])),?_⟩;generalize ns.map PV.int=N0 at *;generalize n1.map PV.int=N1 at *;generalize n2.map PV.int=N2 at *;generalize PV.tup [.int a,.int b]=TA at *;generalize PV.tup [.int c,.int d]=TC at *;generalize PV.tup [.int i,w]=TV at *;clear D;unfold qK;apply sq;simp! [cP,aU,aW,aV,aX,aL,aT,e1];exact⟨rfl,rfl⟩;apply sq;simp! [cP,aU,aW,aV,aX,aL,aT,e2];exact⟨rfl,rfl⟩;apply sq;simp! [cP,aU,aW,aV,aX,aL,aT,e3];exact⟨rfl,rfl⟩;apply sq;simp! [cP,aU,aW,aV,aX,aL,aT,e4];exact⟨rfl,rfl⟩;apply sq;simp! [cP,aU,aW,aV,aX,aL,aT,e5];exact⟨rfl,rfl⟩;rcases e7 with rfl |⟨rfl,e7⟩
 .apply sq;simp! [cP,aU,aW,aV,aX,aL,aT,i0];exact⟨rfl,rfl⟩
  simp! [cP,aU,aW,aV,aX,aL,aT,e4,e5,e6]
 .apply sq;simp! [cP,aU,aW,aV,aX,aL,aT,i0,i1,e7];exact⟨rfl,rfl⟩
  simp! [cP,aU,aW,aV,aX,aL,aT,e4,e5,e6]
theorem Rf{x0:AK}:∀(is:AI)(ns:AA)(x2 x3 x4 x5 x6:AK),∃(ns':AA)(y2 y3 y4 y5 y6:AK),dM [] (gN 2) qK is [x0,some (.ref 0),x2,x3,x4,x5,x6] [.lst (ns.map .int)]=.nx [x0,some (.ref 0),y2,y3,y4,y5,y6] [.lst (ns'.map .int)]
 |[],ns,x2,x3,x4,x5,x6=>⟨ns,x2,x3,x4,x5,x6,kH⟩
 |i::is,ns,x2,x3,x4,x5,x6=>by
  obtain⟨n1,y3,y4,y5,y6,e⟩:=Ju (x0:=x0) (x2:=some (.pv i)) (x3:=x3) (x4:=x4) (x5:=x5) (x6:=x6) ns;obtain⟨n2,z2,z3,z4,z5,z6,ih⟩:=Rf (x0:=x0) is n1 (some (.pv i)) y3 y4 y5 y6;refine⟨n2,z2,z3,z4,z5,z6,?_⟩;rw[iE];simp only[gN,lh,jt];simp[e,ih]
theorem Tp(ns:AA)(h:ns.length<=63):∃S,xW [.pv (.lst (ns.map .int))] []=.ok (.pv (.bl true)) S:=by
 obtain⟨ms,e0,_⟩:=Ow ns [] h;have e0:pS [.pv (.lst (ns.map .int))] []=.ok (.ref 0) [.lst (ms.map .int)]:=e0;obtain⟨n1,y2,y3,y4,y5,y6,el⟩:=Rf (x0:=some (.pv (.lst (ns.map .int)))) (gI 0 3) ms none none none none none;refine⟨[],?_⟩;generalize ns.map PV.int=NL at *;generalize ms.map PV.int=ML at *;generalize n1.map PV.int=N1 at *;have tF:(eS (gR (aC (mC (.int 3)) aE)) (gN 2) qK) [some (.pv (.lst NL)),some (.ref 0),none,none,none,none,none] [.lst ML]=.nx [some (.pv (.lst NL)),some (.ref 0),y2,y3,y4,y5,y6] [.lst N1]:=by
  generalize qK=LB at *;simp! [cP,aU,aW,aV,aX,aL,aT,eS,gR,lW,el]
 unfold xW;apply Kj rfl
 .unfold xU
  apply sq;simp! [cP,aU,aW,aV,aX,aL,aT,gS,e0];exact⟨rfl,rfl⟩;refine sq tF ?_;simp! [cP,aU,aW,aV,aX,aL,aT];exact⟨rfl,rfl⟩
 .simp[jB]
theorem hF_k{K:ae}{x:Str}{st:Stmt}{f:Addr}{oc:Value}{od an:AG}{osl:Array AF}{kV doc pm cdv ct:Value}(a:ar K mainGlobals x=some (some (.ref f)):=by k_is)(l:K.lookup f=some ⟨oc,od,.func (cc x x (dG st) (cG st) (bK st) .none kV doc pm an cdv ct),osl⟩:=by k_is)(c:eh K cdv x=true:=by k_is)(k:ce K (.ref f)=true:=by k_is):HF K x st:=F7 a l c k
theorem all_mk{l:ki}{w:ah}{K:ae}{h:Heap}{mg:Str->AF}{fa:Addr}(X:K.In h)(G:h.Ns mainGlobals mg)(hfa:mg "law"=some (.ref fa))
  (h42:HF K "_law_row" Ah)
  (h43:HF K "_law_take" Dg)
  (h44:HF K "_law_gcd" Fh)
  (h45:HF K "_law_lowest" Pb)
  (h48:HF K "_law_frac" Jf)
  (h58:HF K "_law_part" Ze)
  (h59:HF K "_law_spot_of" Na)
  (h51:HF K "_law_dot" Ai)
  (h50:HF K "_law_cross" Yc)
  (h52:HF K "_law_turn" Kg)
  (h49:HF K "_law_gap" Uh)
  (h53:HF K "_law_det" Gh)
  (h54:HF K "_law_simplex" Za)
  (h60:HF K "_law_due" Lh)
  (h23:HF K "sign" Yg)
  (h28:HF K "ranked" Zc)
  (h24:HF K "divisor" Lb)
  (h27:HF K "divided" Rc)
  (h25:HF K "reduced" Qb)
  (h31:HF K "point_at" Ab)
  (h32:HF K "whole_arrow" zH)
  (h33:HF K "dot" Gj)
  (h34:HF K "normal" Ke)
  (h35:HF K "determinant" zK)
  (h36:HF K "side" Vh)
  (h38:HF K "simplex" Kb)
  (h40:HF K "long_box" Sa)
  (h61:HF K "_law_asked" Sd)
  (h46:HF K "_law_whole" Be)
  (h47:HF K "_law_wholes" Ac)
  (h55:HF K "_law_point_form" zL)
  (h56:HF K "_law_simplex_form" zB)
  (h57:HF K "_law_heap_form" zN)
  (h62:HF K "_law_kinds" Zd)
  (h63:HF K "_law_apart" Kd)
  {f26:Addr}{od26 an26:AG}{sl26:Array AF}{oc26 kV26 dc26 pm26 cd26 ct26:Value}
  {T26:Addr}{tc26:Value}{td26:AG}{tl26:Array AF}{tn26:Nat}{tt26:Tok}
  (a26:ar K mainGlobals "fraction"=some (some (.ref f26)))(l26:K.lookup f26=some ⟨oc26,od26,.func (cc "fraction" "fraction" (dG oJ) (cG oJ) (bK oJ) (.ref T26) kV26 dc26 pm26 an26 cd26 ct26),sl26⟩)(c26:eh K cd26 "fraction"=true)(k26:ce K (.ref f26)=true)
  (t26:K.lookup T26=some ⟨tc26,td26,.seq #[.int 1 tt26] tn26,tl26⟩)
  {f30:Addr}{od30 an30:AG}{sl30:Array AF}{oc30 kV30 dc30 pm30 cd30 ct30:Value}
  {T30:Addr}{tc30:Value}{td30:AG}{tl30:Array AF}{tn30:Nat}{tt30:Tok}
  (a30:ar K mainGlobals "point"=some (some (.ref f30)))(l30:K.lookup f30=some ⟨oc30,od30,.func (cc "point" "point" (dG pD) (cG pD) (bK pD) (.ref T30) kV30 dc30 pm30 an30 cd30 ct30),sl30⟩)(c30:eh K cd30 "point"=true)(k30:ce K (.ref f30)=true)
  (t30:K.lookup T30=some ⟨tc30,td30,.seq #[.int 1 tt30] tn30,tl30⟩)
  {f64:Addr}{od64 an64:AG}{sl64:Array AF}{oc64 kV64 dc64 pm64 cd64 ct64:Value}
  (a64:ar K mainGlobals "law"=some (some (.ref f64)))(l64:K.lookup f64=some ⟨oc64,od64,.func (cc "law" "law" (dG kU) (cG kU) (bK kU) .none kV64 dc64 pm64 an64 cd64 ct64),sl64⟩)(c64:eh K cd64 "law"=true)(k64:ce K (.ref f64)=true)
  (z1:ar K mainGlobals "ValueError"=some none)
  (z2:ar K mainGlobals "abs"=some none)
  (z3:ar K mainGlobals "all"=some none)
  (z4:ar K mainGlobals "bool"=some none)
  (z5:ar K mainGlobals "enumerate"=some none)
  (z6:ar K mainGlobals "int"=some none)
  (z7:ar K mainGlobals "isinstance"=some none)
  (z8:ar K mainGlobals "len"=some none)
  (z9:ar K mainGlobals "list"=some none)
  (z10:ar K mainGlobals "range"=some none)
  (z11:ar K mainGlobals "sorted"=some none)
  (z12:ar K mainGlobals "sum"=some none)
  (z13:ar K mainGlobals "tuple"=some none)
  (z14:ar K mainGlobals "zip"=some none)
  {C1 C2 C3 C4 C5 C6 C7 C8 C9 C10 C11 C12 C13 C14 C15 C16 C17 C18 C19 C20 C21:Addr}
  (y1:ar K mainGlobals "Backward"=some (some (.ref C1)))
  (y2:ar K mainGlobals "Flat"=some (some (.ref C2)))(x2:br K C2 cL "ValueError.__new__"=true)
  (y3:ar K mainGlobals "HallError"=some (some (.ref C3)))(x3:br K C3 cL "ValueError.__new__"=true)
  (y4:ar K mainGlobals "NoAgain"=some (some (.ref C4)))
  (y5:ar K mainGlobals "NoBlade"=some (some (.ref C5)))
  (y6:ar K mainGlobals "NoBox"=some (some (.ref C6)))(x6:br K C6 cL "ValueError.__new__"=true)
  (y7:ar K mainGlobals "NoMove"=some (some (.ref C7)))
  (y8:ar K mainGlobals "NoName"=some (some (.ref C8)))
  (y9:ar K mainGlobals "NoNumber"=some (some (.ref C9)))(x9:br K C9 cL "ValueError.__new__"=true)
  (y10:ar K mainGlobals "NoPoint"=some (some (.ref C10)))(x10:br K C10 cL "ValueError.__new__"=true)
  (y11:ar K mainGlobals "NoRow"=some (some (.ref C11)))
  (y12:ar K mainGlobals "NoText"=some (some (.ref C12)))
  (y13:ar K mainGlobals "NoUndo"=some (some (.ref C13)))
  (y14:ar K mainGlobals "NotSame"=some (some (.ref C14)))
  (y15:ar K mainGlobals "OnSide"=some (some (.ref C15)))
  (y16:ar K mainGlobals "OtherKind"=some (some (.ref C16)))
  (y17:ar K mainGlobals "OtherSize"=some (some (.ref C17)))(x17:br K C17 cL "ValueError.__new__"=true)
  (y18:ar K mainGlobals "OtherSum"=some (some (.ref C18)))
  (y19:ar K mainGlobals "TooGreat"=some (some (.ref C19)))
  (y20:ar K mainGlobals "TooSteep"=some (some (.ref C20)))
  (y21:ar K mainGlobals "TooWide"=some (some (.ref C21)))
  {fI19:Addr}{odI19 anI19:AG}{slI19:Array AF}{ocI19 kVI19 dcI19 pmI19 cdI19 ctI19:Value}
  (iI19:dy K (.ref C18) "__init__"=some (some (.ref fI19)))(lI19:K.lookup fI19=some ⟨ocI19,odI19,.func (cc "__init__" "OtherSum.__init__" (dG (dN 19 0)) (cG (dN 19 0)) (bK (dN 19 0)) .none kVI19 dcI19 pmI19 anI19 cdI19 ctI19),slI19⟩)(cI19:eh K cdI19 "OtherSum.__init__"=true)(kI19:ce K (.ref fI19)=true)(eI19:pF K C18 fI19=true)
  {fI20:Addr}{odI20 anI20:AG}{slI20:Array AF}{ocI20 kVI20 dcI20 pmI20 cdI20 ctI20:Value}
  (iI20:dy K (.ref C21) "__init__"=some (some (.ref fI20)))(lI20:K.lookup fI20=some ⟨ocI20,odI20,.func (cc "__init__" "TooWide.__init__" (dG (dN 20 0)) (cG (dN 20 0)) (bK (dN 20 0)) .none kVI20 dcI20 pmI20 anI20 cdI20 ctI20),slI20⟩)(cI20:eh K cdI20 "TooWide.__init__"=true)(kI20:ce K (.ref fI20)=true)(eI20:pF K C21 fI20=true)
  {fI21:Addr}{odI21 anI21:AG}{slI21:Array AF}{ocI21 kVI21 dcI21 pmI21 cdI21 ctI21:Value}
  (iI21:dy K (.ref C20) "__init__"=some (some (.ref fI21)))(lI21:K.lookup fI21=some ⟨ocI21,odI21,.func (cc "__init__" "TooSteep.__init__" (dG (dN 21 0)) (cG (dN 21 0)) (bK (dN 21 0)) .none kVI21 dcI21 pmI21 anI21 cdI21 ctI21),slI21⟩)(cI21:eh K cdI21 "TooSteep.__init__"=true)(kI21:ce K (.ref fI21)=true)(eI21:pF K C20 fI21=true)
  (xb:xB K xI xF [("NoNumber",C9),("NoPoint",C10),("Flat",C2),("NoBlade",C5),("NoMove",C7),("OnSide",C15),("NotSame",C14),("OtherSize",C17),("Backward",C1),("NoBox",C6),("NoText",C12),("TooGreat",C19),("NoRow",C11),("NoName",C8),("NoUndo",C13),("NoAgain",C4),("OtherKind",C16),("OtherSum",C18),("TooWide",C21),("TooSteep",C20),("HallError",C3)]=true)
  (u1C6:dy K (.ref C6) "__getattribute__"=some (some (.builtin "BaseException.__getattribute__")))(u2C6:dy K (.ref C6) "__getattr__"=some none)(u3C6:lq K C6 (.type "BaseException")=some true)(u4C6:lq K C6 (.type "object")=some true)
  (u5C6:dy K (.ref C6) "__class__"=some (some (.builtin "object.__class__")))(u6C6:su K (.builtin "object.__class__") "__get__"=some (some (.builtin "getset_descriptor.__get__")))(u7C6:sv K (.builtin "object.__class__")=some true)(u8C6:ss K C6=true)
  (wNoBox_HallError:bo K (.ref C6) (.ref C3)=some true)
  (wNoBox_NoNumber:bo K (.ref C6) (.ref C9)=some false)
  (wNoBox_NoPoint:bo K (.ref C6) (.ref C10)=some false)
  (wNoBox_OtherSize:bo K (.ref C6) (.ref C17)=some false)
  (wNoBox_TooWide:bo K (.ref C6) (.ref C21)=some false)
  (wNoBox_ValueError:bo K (.ref C6) (.type "ValueError")=some true)
  :∃fd:ay,(∀(s:Shared)(v:Value),kg s fd ⟨[v],[]⟩ [("_law_script",v)])/\∀base:Heap,K.In base->base.Ns mainGlobals mg->cK l.prog w K mg base eT 7 fa fd ["_law_script"] (sR K):=by
 let cl:Str->Addr:=λn=>if n="Backward" then C1 else if n="Flat" then C2 else if n="HallError" then C3 else if n="NoAgain" then C4 else if n="NoBlade" then C5 else if n="NoBox" then C6 else if n="NoMove" then C7 else if n="NoName" then C8 else if n="NoNumber" then C9 else if n="NoPoint" then C10 else if n="NoRow" then C11 else if n="NoText" then C12 else if n="NoUndo" then C13 else if n="NotSame" then C14 else if n="OnSide" then C15 else if n="OtherKind" then C16 else if n="OtherSize" then C17 else if n="OtherSum" then C18 else if n="TooGreat" then C19 else if n="TooSteep" then C20 else if n="TooWide" then C21 else 0
 have e:=hfa.symm.trans (fu X G a64);cases e;have F26:=Bg (st:=oJ) l26 c26 k26 t26 rfl;have b26:=F26.binds (ps:=["top","bottom"]) (dd:=[]) λ_ _ _ _ _ _ _ us hl=>match us,hl with |[_,_],_=>⟨_,rfl,rfl⟩
 have n26:=fu X G a26;have F30:=Bg (st:=pD) l30 c30 k30 t30 rfl;have b30:=F30.binds (ps:=["numbers","bottom"]) (dd:=[]) λ_ _ _ _ _ _ _ us hl=>match us,hl with |[_,_],_=>⟨_,rfl,rfl⟩
 have n30:=fu X G a30;have F64:=pO (st:=kU) l64 c64 k64;have m:Mg mg:=⟨ee X G z1,ee X G z2,ee X G z3,ee X G z4,ee X G z5,ee X G z6,ee X G z7,ee X G z8,ee X G z9,ee X G z10,ee X G z11,ee X G z12,ee X G z13,ee X G z14⟩;refine⟨cc "law" "law" (dG kU) (cG kU) (bK kU) .none kV64 dc64 pm64 an64 cd64 ct64,λs v=>.of_eq rfl,λbase _ _=>?_⟩
 let B:Bx:=⟨l.prog,w,K,mg,base,cl⟩
 have Xg:XG B.K B.mg:=⟨h,X,G⟩;have m:Mg B.mg:=m;have q_Flat:B.mg "Flat"=some (.ref (B.cl "Flat")):=fu X G y2;have x_Flat:br B.K (B.cl "Flat") cL "ValueError.__new__"=true:=x2;have q_HallError:B.mg "HallError"=some (.ref (B.cl "HallError")):=fu X G y3;have x_HallError:br B.K (B.cl "HallError") cL "ValueError.__new__"=true:=x3;have q_NoBox:B.mg "NoBox"=some (.ref (B.cl "NoBox")):=fu X G y6;have x_NoBox:br B.K (B.cl "NoBox") cL "ValueError.__new__"=true:=x6;have q_NoNumber:B.mg "NoNumber"=some (.ref (B.cl "NoNumber")):=fu X G y9;have x_NoNumber:br B.K (B.cl "NoNumber") cL "ValueError.__new__"=true:=x9;have q_NoPoint:B.mg "NoPoint"=some (.ref (B.cl "NoPoint")):=fu X G y10;have x_NoPoint:br B.K (B.cl "NoPoint") cL "ValueError.__new__"=true:=x10;have q_OtherSize:B.mg "OtherSize"=some (.ref (B.cl "OtherSize")):=fu X G y17;have x_OtherSize:br B.K (B.cl "OtherSize") cL "ValueError.__new__"=true:=x17;have q_TooWide:B.mg "TooWide"=some (.ref (B.cl "TooWide")):=fu X G y21;have AX:XA B.K B.cl xN xI xF:=A7 xb ⟨rfl,rfl,rfl,rfl,rfl,rfl,rfl,rfl,rfl,rfl,rfl,rfl,rfl,rfl,rfl,rfl,rfl,rfl,rfl,rfl,rfl,trivial⟩;have I_OtherSum:kY B "OtherSum" ["key"]:=Mk (q:="OtherSum.__init__") (st:=dN 19 0) AX (by decide+kernel) (by decide+kernel) (xZ eI19) (pO lI19 cI19 kI19) cF rfl rfl rfl  rfl rfl  (λ_ _ _ _ _ _ us hl=>match us,hl with |[_,_],_=>rfl)
 have I_TooWide:kY B "TooWide" ["lines","cells"]:=M4 (q:="TooWide.__init__") (st:=dN 20 0) AX (by decide+kernel) (by decide+kernel) (by decide+kernel) (by decide+kernel) (xZ eI20) (pO lI20 cI20 kI20) cF rfl rfl rfl rfl rfl  rfl rfl rfl  (λ_ _ _ _ _ _ us hl=>match us,hl with |[_,_,_],_=>rfl)
 have I_TooSteep:kY B "TooSteep" ["number"]:=Mk (q:="TooSteep.__init__") (st:=dN 21 0) AX (by decide+kernel) (by decide+kernel) (xZ eI21) (pO lI21 cI21 kI21) cF rfl rfl rfl  rfl rfl  (λ_ _ _ _ _ _ us hl=>match us,hl with |[_,_],_=>rfl)
 have Z_NoBox:fF B.K (B.cl "NoBox"):=⟨u1C6,u2C6,u3C6,u4C6,u5C6,u6C6,u7C6,(by obtain⟨cd,hc,_⟩:=qi u8C6;show(vw K C6).isSome=true;rw[hc];rfl)⟩;have C42:=Vv Xg m h42;have C43:=Vr Xg m h43;have C44:=Mv Xg m h44;have C45:=Rm Xg m h45 C44;have C48:=Fs Xg m h48 C45;have C58:=Hq Xg m h58 C43 C48;have C59:=Yl Xg m h59 C45;have C51:=Su Xg m h51;have C50:=Qo Xg m h50;have C52:=Mr Xg m h52 C51 C50;have C49:=Zv Xg m h49;have C53:=Ou Xg m h53 C52 C49;have C54:=Xl Xg m h54 C53;have C60:=Rt Xg m h60 C48 C59 C54;have C23:=Et Xg m h23;have C28:=Zo Xg m h28 C23;have C24:=Om Xg m h24;have G26:=Em Xg m F26 C23 C24 q_NoNumber x_NoNumber;have H26:zO B:=yL G26 b26 k26 n26;have H27:=Cn Xg m h27 H26;have C25:=Pm Xg m h25 C24;have G30:=Kr Xg m F30 C25 C23 q_NoPoint x_NoPoint;have H30:Me B:=yL G30 b30 k30 n30;have H31:=Hm Xg m h31 H30;have C32:=Bl Xg m h32;have C33:=Xx Xg m h33;have C34:=Tn Xg m h34;have C35:=Dl Xg m h35 C32 C33 C34;have C36:=Ws Xg m h36 C23 C35;have H38:=Vm Xg m h38 C36 q_Flat x_Flat;have H40:=Cm Xg m h40 C28 H27 H31 H38 q_NoBox x_NoBox;have C61:=Wn Xg m h61 H40 q_HallError x_HallError q_NoBox x_NoBox q_NoNumber x_NoNumber q_NoPoint x_NoPoint q_OtherSize x_OtherSize q_TooWide Z_NoBox wNoBox_HallError wNoBox_NoNumber wNoBox_NoPoint wNoBox_OtherSize wNoBox_TooWide wNoBox_ValueError;have C46:=Bp Xg m h46;have C47:=On Xg m h47 C46;have C55:=Fl Xg m h55 C47 C45;have C56:=Yk Xg m h56 C55 C53 C54;have C57:=Rl Xg m h57 C56;have C62:=Do Xg m h62 AX;have C63:=Fp Xg m h63 C62 AX I_OtherSum I_TooSteep I_TooWide;exact(Fw Xg m F64 C42 C58 C60 C61 C57 C63).imp λvs H Q E h=>Qt Tp h
theorem walk{l:ki}{q:Program}{loose:List Str}{XP:(Str->AF)->Heap->Prop}{YP:ah->Heap->Prop}{d:DefRec}{K:iy->ae}(hn:l.most=some 63)(hdf:d.params.defaults=[])
  (hY:∀(w:ah)(h:Heap),YP w h->(K w.params).In h)
  (F:∀(w:ah)(mg:Str->AF)(fa:Addr)(h:Heap),(K w.params).In h->h.Ns mainGlobals mg->mg d.name=some (.ref fa)->
   ∃fd:ay,(∀(s:Shared)(u:Value),kg s fd ⟨[u],[]⟩ [("_law_script",u)])/\∀base:Heap,(K w.params).In base->base.Ns mainGlobals mg->cK l.prog w (K w.params) mg base eT 7 fa fd ["_law_script"] (sR (K w.params))):
  PySem.W.WalkO q loose XP YP l.row.toRowW d [] (λf vs=>ue f vs):=
 L2.walk_of (n:=63) (k:=7) (x:="_law_script") (CX:=λ_=>eT) (sp:=λw=>sR (K w.params)) hn (by decide) hdf ⟨rfl,by decide,by decide⟩ hY F (λ_ _ a ns hl _ hS=>⟨a,ns,rfl,hS,hl,λ_=>rfl⟩) λ_ _ _ _ _ z=>z
end
end Sc
open PySem PySem.W PyProof.Rows
set_option maxRecDepth 100000 in
set_option maxHeartbeats 0 in
theorem PySem.Challenge.cw_scissorhall_k35_long_box_told_holds : PySem.Challenge.rw_scissorhall_k35_long_box_told.Holds := by
 w_on; refine holds_law Sc.wsaid λsaid=>?_
 refine holds_open (q:=Sc.VW) (loose:=[bf "fraction",bf "point"]) (Xt:=λs=>xlAt Sc.VW [] s && recOk (qy (qz (re lm))) s) (XP:=XL Sc.VW []) (Yf:=qw (kHook Sc.KK Sc.KA Sc.KE)) (Ya:=qx (kHook Sc.KK Sc.KA Sc.KE)) (YP:=Hook.says (kHook Sc.KK Sc.KA Sc.KE)) (N:=11536) Sc.left (Hook.of (kHook Sc.KK Sc.KA Sc.KE)) (Hook.keeps (kHook Sc.KK Sc.KA Sc.KE)) (λs e=>xl_of s (d6.mp e).1) XL.keeps (by rfl) (by rfl) (by rfl) (λs e=>recFacts_of (d6.mp e).2) (by rfl) (by first | assumption | decide +kernel) (by decide +kernel) ⟨rfl,rfl,rfl,rfl,rfl,by decide +kernel⟩ ?hw ?hc
 case hw=>w_witness2
 k_fill
 refine Sc.walk (l:=lm) rfl rfl (λw h Y=>PySem.W.kIn_of Y) ?F
 case F =>
  intro w mg fa h KX G hmg;refine' Sc.all_mk KX G hmg Sc.hF_k Sc.hF_k Sc.hF_k Sc.hF_k Sc.hF_k Sc.hF_k Sc.hF_k Sc.hF_k Sc.hF_k Sc.hF_k Sc.hF_k Sc.hF_k Sc.hF_k Sc.hF_k Sc.hF_k Sc.hF_k Sc.hF_k Sc.hF_k Sc.hF_k Sc.hF_k Sc.hF_k Sc.hF_k Sc.hF_k Sc.hF_k Sc.hF_k Sc.hF_k Sc.hF_k Sc.hF_k Sc.hF_k Sc.hF_k Sc.hF_k Sc.hF_k Sc.hF_k Sc.hF_k Sc.hF_k ?a26 ?l26 ?c26 ?k26 ?t26 ?a30 ?l30 ?c30 ?k30 ?t30 ?a64 ?l64 ?c64 ?k64 ?z1 ?z2 ?z3 ?z4 ?z5 ?z6 ?z7 ?z8 ?z9 ?z10 ?z11 ?z12 ?z13 ?z14 ?y1 ?y2 ?x2 ?y3 ?x3 ?y4 ?y5 ?y6 ?x6 ?y7 ?y8 ?y9 ?x9 ?y10 ?x10 ?y11 ?y12 ?y13 ?y14 ?y15 ?y16 ?y17 ?x17 ?y18 ?y19 ?y20 ?y21 ?iI19 ?lI19 ?cI19 ?kI19 ?eI19 ?iI20 ?lI20 ?cI20 ?kI20 ?eI20 ?iI21 ?lI21 ?cI21 ?kI21 ?eI21 ?xb ?u1C6 ?u2C6 ?u3C6 ?u4C6 ?u5C6 ?u6C6 ?u7C6 ?u8C6 ?wNoBox_HallError ?wNoBox_NoNumber ?wNoBox_NoPoint ?wNoBox_OtherSize ?wNoBox_TooWide ?wNoBox_ValueError
  (case a26 | l26 | c26 | k26 | t26 | a30 | l30 | c30 | k30 | t30 | a64 | l64 | c64 | k64 | z1 | z2 | z3 | z4 | z5 | z6 | z7 | z8 | z9 | z10 | z11 | z12 | z13 | z14 | y1 | y2=>k_is)
  (case x2=>k_exc)
  (case y3=>k_is)
  (case x3=>k_exc)
  (case y4 | y5 | y6=>k_is)
  (case x6=>k_exc)
  (case y7 | y8 | y9=>k_is)
  (case x9=>k_exc)
  (case y10=>k_is)
  (case x10=>k_exc)
  (case y11 | y12 | y13 | y14 | y15 | y16 | y17=>k_is)
  (case x17=>k_exc)
  (case y18 | y19 | y20 | y21 | iI19 | lI19 | cI19 | kI19=>k_is)
  (case eI19=>kernel_rfl)
  (case iI20 | lI20 | cI20 | kI20=>k_is)
  (case eI20=>kernel_rfl)
  (case iI21 | lI21 | cI21 | kI21=>k_is)
  (case eI21 | xb=>kernel_rfl)
  (case u1C6 | u2C6 | u3C6 | u4C6 | u5C6 | u6C6 | u7C6 | u8C6=>k_is)
  (case wNoBox_HallError | wNoBox_NoNumber | wNoBox_NoPoint | wNoBox_OtherSize | wNoBox_TooWide | wNoBox_ValueError=>kit_is)
#print axioms PySem.Challenge.cw_scissorhall_k35_long_box_told_holds
