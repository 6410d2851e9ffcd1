import PyProof.Rows.All
import KE.KFromBytes
import KE.KIsAll
import PyProof.EqAt
import PyProof.EqKinds
import PyProof.TupleCall
import PyProof.ZipIter
import PyProof.Draws
import PyProof.CompFree
import PyProof.NeKinds
import PyProof.NsDelKeeps
import PyProof.ExcArgsOwn
import PyProof.ExcAttrAll.ValueError
import KE.KSortTup
import PyProof.DictRoadsH
import Wide.Seal
import KE.KIntText
import PyProof.FitsReplace
import PyProof.StrWalks
import PyProof.CompMap
import KE.KDictList
import PyProof.TupleKey
import KE.KDictOf
import PySem.Challenge.RW_scissorhall_k87_desk_names_that_are_none
set_option Elab.async false
set_option compiler.extract_closed false
set_option bootstrap.genMatcherCode false
set_option maxRecDepth 100000
set_option maxHeartbeats 0
open Array renaming length_toList->jt,toList->wx,getElem?_toList->xq,getElem?_eq_none->zx,getElem?_eq_some_iff->zy
open Bool renaming and_eq_true->df,false_eq_true->qb,eq_iff_iff->uq,false_ne_true->wg,or_eq_true->d8,and_eq_true_iff->e8
open Classical renaming propDecidable->lc
open False renaming elim->fg
open ForInStep renaming yield->jy,done->c6
open Int renaming gcd->jx,toNat_natCast->ye
open List renaming size_toArray->ax,getElem?_eq_getElem->ba,length_map->bh,length_cons->bq,mem_cons->bw,length_append->cb,mem_cons_self->ce,mem_append->cf,mem_append_right->ck,map_cons->cn,getElem?_eq_some_iff->cq,mem_cons_of_mem->cu,getD->cw,mem_of_getElem?->de,getElem?_append_right->dg,range->ee,getElem?_append_left->fh,getElem?_set_ne->fj,getElem?_map->fm,getElem?_set_self->fw,length_set->gm,lookup_cons->gp,toArray->gq,append_nil->ia,forIn_cons->ig,append_assoc->iw,find?_cons->iy,mem_singleton->ja,lookup->je,nodup_cons->jf,zipWith->jg,all_eq_true->jh,prefix_rfl->jk,zip_cons_cons->jl,map_map->jm,mem_append_left->kg,mem_filterMap->kj,length_take->ku,nodup_append->lg,getElem_mem->mn,mem_map->nr,mem_filter->oa,not_mem_nil->pw,getElem_of_mem->qd,length_singleton->qg,pairwise_cons->qp,set_set->qt,take_of_length_le->qu,filterMap_cons->si,of_mem_zip->tq,length_drop->ua,length_dropLast->uk,any_cons->vd,length_nil->ve,filter_cons->vf,drop_eq_getElem_cons->vj,drop_length->vk,getElem?_take->vm,take_length->vp,mem_of_mem_take->wd,length_range->we,ext_getElem?->wk,replicate->wz,getElem?_replicate->xb,eraseIdxIfInBounds_toArray->xw,zipIdx_cons->yh,zipIdx_nil->yi,forIn_nil->yj,take_left->zb,getElem?_zipWith->zd,mem_reverse->zw,mem_of_mem_drop->b5,pairwise_iff_getElem->b6,isEmpty_iff_length_eq_zero->b9,dropLast_eq_take->c0,map_fst_zip->c7,all_cons->c9,all_eq_false->e7
open List.cons renaming inj->nh
open Nat renaming le_refl->ak,ne_of_lt->bc,lt_of_lt_of_le->bj,zero_le->cg,le_trans->dq,lt_irrefl->dz,sub_self->ft,ne_of_gt->jr,le_succ->kr,le_of_eq->oo,lt_succ_self->oq,lt_trans->oz,zero_add->qx,le_of_lt->sg,mul_le_mul->wl,min_eq_left->wm,pow_le_pow_right->xx,exists_eq_add_of_le->za
open Ne renaming symm->dw
open Option renaming isSome_iff_exists->mf,map_eq_some_iff->vg,getD_none->xo,isSome_map->yu,getD_some->zt
open Option.some renaming inj->dj
open Or renaming inr->cj,inl->cv
open PUnit renaming unit->wj
open PyProof.Rows renaming AllBare->gf,get?_update_seq->lm,IntsAre->mm,listUpdate_at->mx,seqEpoch_at->my,callWith_type1->oh,slot_tuple_getitem->ox,SortKind->qq,Subscript_->ub,subscriptTail_builtinR->xn
open PyProof.Rows.IsTup renaming new->uc
open PySem renaming Expr->ae,wpAny_bind->ag,World->ah,Pos->ai,Around->aj,wpAny_pure->aq,FuncData->ay,Tok->bg,Sem->bt,wpAny_mono->bv,IsPair->cy,wpAny_holding->dh,wpAny_field->dy,sizeLine_eq->fe,IsZip->fi,Keyword->fk,Model->gg,IsPart->ic,Draws->ij,ExceptHandler->ik,Result->im,Paired->io,codeAny_mono->iq,NameKind->ir,wpAny_seqItems->iu,JoinOk->jb,wpAny_truthy_bool->jd,Params->jo,wpAny_standAt->jp,wpAny_passesOwn->jq,mem_of_lookup->js,wpAny_call_entry->ju,wpAny_newObj_type->jw,wpAny_execs_nil->kh,BindsTo->kq,typeIs_str->kx,call_meets->ky,wpAny_setField_rec->la,wpAny_Call_Name_kw->lz,wpAny_callSpecial?_slot->mj,wpAny_attempt->mq,strKind_is->ng,PassesOwn->og,wpAny_pyIter_list->pb,wpAny_rule->pj,wpAny_onRaise->pq,wpAny_newList->qh,passOn->qi,Comprehension->qj,wpAny_comp_letGo->qk,intText?->qm,Within->sd,wpAny_Name->sj,wpAny_execs_cons->sk,wpAny_assign_Name->sr,wpAny_Tuple_spliced->sy,wpAny_call->tf,concat_meets->tw,seqIndex_of->ud,seqIndex_neg->ue,call->ul,wpAny_newFunctionEnv->um,codeAny_compStart_list->uo,wpAny_setField->ur,wpAny_of_eq->ut,wpAny_updateSeq_pair->uu,wpAny_letGo->uv,wpAny_newTuple->uw,codeAny_builtin->vb,ExcAttrFacts->vc,tupleKind_room_in1->vh,wpAny_collect_seq->vt,wpAny_isTrue_Compare1->ww,exec_Assign_Name_used->yb,wpAny_pyIter_tuple->yn,codeAny_call_builtin->yo,lookup_relabel_local->zv,length_partsBetween->b3
open PySem.Around renaming under->sw
open PySem.Builtin.Int renaming intBits->xy
open PySem.Builtin.ObjectAttr renaming find->f7,dataDescriptor?->f9,getOf->g0,bindTo->g5
open PySem.Builtin.Slice renaming slicePlaces->tz,sliceAdjust->xm
open PySem.Builtin.SmallTypes renaming nextOf->jz,ownedTupleIsFree->pk,ownedTupleHandOut->yk
open PySem.Builtin.Str renaming occurrences->lu,strKind->b4,glued->d6
open PySem.Builtin.Tuple renaming tupleHashOf->yz
open PySem.Calls renaming spliced_cons->ko,spliced_nil->ou,callWith_builtin->uh,evalArgs_plain->ui,Name_function_global->wv,call_function_entry->zu
open PySem.Challenge renaming pw_scissorhall_k87_desk_names_that_are_none->cr,rw_scissorhall_k87_desk_names_that_are_none->fv
open PySem.Code renaming isFrame->sx
open PySem.Env renaming kindOf->vw
open PySem.F renaming slot_list_pop->oy,slot_tuple_iterator_next->pf,slot_zip_next->pr,plainAttrs_list->qe,slot_str_split->qo,slot_list_append->uj,entry_str_split->vz,args_str_split_2->wa,slot_tuple_add->xh,entry_tuple_add->xi,args_tuple_add_2->xk,entry_list_pop->xt,entry_tuple_iterator_next->yc,args_tuple_iterator_next_1->yd,entry_zip_next->yl,args_zip_next_1->ym,excAttr_ValueError->yr,slot_dict_delitem->yw,slot_dict_pop->yx,slot_dict_getitem->yy,type_list_append->zp,type_list_pop->zq,plainAttrs_str->zz
open PySem.Heap renaming get?_push_of_some->ao,lt_size->au,get?_push_size->bn,SameBut->eg,size_push->gw,get?_update_ne->lq,FlyingW->qa,HeldW->ql,get?_update_self->uf,get?_update_other->ug
open PySem.Heap.SameBut renaming update->yf
open PySem.NameKind renaming free->ie,cell->ya
open PySem.Obj renaming mapSeq->gb,data_mapFields->ph,isFreed_of_fields->yg
open PySem.Paired renaming length->ny,snoc->yt
open PySem.PassesOwn renaming never->d3,leaving->d4
open PySem.PyData renaming keyHash->qw
open PySem.SeqAt renaming EqAt->lh,RcAt->lj
open PySem.SeqAt.EqAt renaming same->vo,of_refs->zm
open PySem.SeqAt.RcAt renaming none_none->ze,bool_bool->zf,int_int->zg,str_str->zh,tuples->zk,lists->zn,lists_lengths->zo
open PySem.Str renaming ofString->du,empty->gu,join->qv
open PySem.StrLaws renaming occ_length_le->a9,joinFits->d5,glued_eq_join->d7
open PySem.Txt renaming split->gr,slice->ka,join->kb
open PySem.Value renaming ref->az,none->bb,int->kd,str->ke,bool->nv,isStrOf->wr,builtin->yp
open PySem.W renaming Frag->aa,nsIn->aw,excIn->bi,keepIn->bo,fnOf->br,mg_of->cc,findIn->di,mg_none_of->fy,codeIn->gh,emptyDict->ip,kas_sort->iz,instObj->jc,looks_mroIn->ji,isFn->km,OpenLaw->kz,plainGet->lv,makesIn->lx,kHook->nu,lookIn->oi,hasDictIn->oj,looks_findIn->om,methodCall_KW->ot,callWith_K->ow,nsMap_none_of_in->pz,kitOne->qc,mroIn->qr,hideAll->se,hideAll_get->sf,plainGet_of->ss,plainOver->su,takerIn->sv,callWith_K0->tm,isNs_of_in->uz,kat_nil->vq,xlAt->wo,recOk->wq,of_hideAll->wt,handedIn->wy,cellsFrom_some->xa,kia_one->yq,nsOkIn->b7,kdl_dict->c8,kIn_of->f6
open PySem.W.Hook renaming obs->qz,val->re
open PySem.W.Looks renaming andThen->dt,ld->va
open PySem.W.OpenLaw renaming row->rq,wellSaid->wn
open PySem.W.OpenRow renaming toRowW->rn
open PySem.W.RowW renaming records->rm
open PySem.World renaming withFollow_self->qy
open Sum renaming inr->cp,inl->lr
open Sum.inr renaming inj->b8
open True renaming intro->gv
local macro_rules(kind:=Lean.Parser.Command.declaration)
|s=>do if s[0].getArgs.all (·.getNumArgs==0)&&(s[1].isOfKind `Lean.Parser.Command.definition||s[1].isOfKind `Lean.Parser.Command.abbrev) then return s.setArg 0 (<-`(noncomputable def x:=0)).raw[0] else Lean.Macro.throwUnsupported
abbrev AA:=List Int
abbrev AB:=List AA
abbrev AC:=List AB
abbrev AD:=List PySem.Value
abbrev AE:=Option PySem.Value
abbrev AF:=Option PySem.Addr
abbrev AG:=Option Int
namespace L2
open PySem
def dU(s:Stmt):Arguments:=match s with
 |.FunctionDef _ a _ _ _ _ _ _ _ _=>a
 |_=>{posonlyargs:=[],args:=[],vararg:=none,kwonlyargs:=[],kw_defaults:=[],kwarg:=none,defaults:=[]}
def cG(s:Stmt):List Stmt:=match s with
 |.FunctionDef _ _ b _ _ _ _ _ _ _=>b
 |_=>[]
def bD(s:Stmt):Scope:=match s with
 |.FunctionDef _ _ _ _ _ _ sc _ _ _=>sc
 |_=>{kind:=.function,names:=[],isGenerator:=false,isCoroutine:=false}
end L2
namespace Sc
section
open PySem L2
def aH(i:Nat):Stmt:=cr.main.body.getD i (.Pass ⟨0,0,0,0⟩)
abbrev vs(s:String)(t:Nat):Value:=.str (du s) t
abbrev vi(i:Int):Value:=.int i 0
abbrev vr(a:Nat):Value:=.ref a
abbrev fo(n:String)(i:Nat)(dV dc pm cd ct:Value):Obj:=⟨.type "function",none,.func (br (du n) (du n) (dU (aH i)) (cG (aH i)) (bD (aH i)) dV .none dc pm none cd ct),#[]⟩
def dQ(i j:Nat):Stmt:=match aH i with
 |.ClassDef _ _ _ b _ _ _ _ _ _ _=>b.getD j (.Pass ⟨0,0,0,0⟩)
 |_=>.Pass ⟨0,0,0,0⟩
abbrev vS(n q:String)(i j:Nat)(pm cd ct:Value):Obj:=⟨.type "function",none,.func (br (du n) (du q) (dU (dQ i j)) (cG (dQ i j)) (bD (dQ i j)) .none .none .none pm none cd ct),#[]⟩
abbrev fc(l:AD):Obj:=⟨.type "code",none,.fields l.toArray,#[]⟩
abbrev Xu(n:String)(t l a r g:Nat)(x:AD):Obj:=fc (vs n t::vs n (t+1)::vs "/claim/cut.py" (t+2)::vi l::vi a::vi 0::vi 0::vi 3::vr r:: .bool true::vi g::vr (r+1):: .none::x)
abbrev fR(n:String)(t l a r g u:Nat):Obj:=Xu n t l a r g [vr (r+2),vr (r+3),vr (r+4),vi u,vi l,vs "/claim/cut.py" (u+1)]
abbrev fS(n:String)(t l a r g:Nat):Obj:=Xu n t l a r g [.none,.none,vr (r+2),vi (t+3),vi l,vs "/claim/cut.py" (t+4)]
abbrev fd(P:jo)(n:Nat)(l:List (String×Nat×Value)):Obj:=⟨.type "dict",none,.dict (l.map λe=>⟨qw P (du e.1),.str (du e.1) e.2.1,e.2.2⟩).toArray n,#[]⟩
abbrev vLq:Value:=vs "law_scissorhall_k87_desk_names_that_are_none" 2142
abbrev fzq (n:String)(i:Nat)(m:Value)(r:Nat):Obj:=fo n i .none .none m (vr r) .none
abbrev v0q:Value:=vs "scissorhall.texts" 1556
abbrev v1q:Value:=vs "scissorhall.points" 610
abbrev v2q:Value:=vs "scissorhall.desk" 1793
abbrev v3q:Value:=vs "scissorhall.lowest" 524
def KK(P:jo):aa:=
 (nat_lit 1,fd P 2 [("builtins",162,vr 4),("__main__",163,vr 5)])::
 (nat_lit 2,⟨.none,none,.dict #[] 0,#[]⟩)::
 (nat_lit 3,fd P 215 [("__name__",165,vs "law_scissorhall_k87_desk_names_that_are_none" 2142),("__doc__",166,.none),("__package__",167,.none),("__loader__",168,(.builtin "__main__.__loader__#opaque")),("__spec__",169,.none),("__annotations__",170,vr 6),("__builtins__",171,vr 4),("__file__",173,vs "/claim/cut.py" 172),("__cached__",174,.none),("HallError",206,vr 24),("NoNumber",222,vr 37),("NoPoint",238,vr 49),("Flat",254,vr 61),("NoBlade",270,vr 73),("NoMove",286,vr 85),("OnSide",302,vr 97),("OtherSize",318,vr 109),("Backward",334,vr 121),("NoText",350,vr 133),("TooGreat",366,vr 145),("NoRow",382,vr 157),("NoName",398,vr 169),("NoUndo",414,vr 181),("NoAgain",430,vr 193),("OtherKind",446,vr 205),("OtherSum",471,vr 224),("TooWide",498,vr 243),("TooSteep",523,vr 262),("sign",532,vr 271),("divisor",541,vr 278),("reduced",547,vr 283),("lowest_way",553,vr 288),("fraction",563,vr 296),("plus",571,vr 303),("total",577,vr 308),("times",585,vr 315),("divided",593,vr 322),("ranked",601,vr 329),("shared",609,vr 336),("point",618,vr 342),("measures",624,vr 347),("point_at",630,vr 352),("added",636,vr 357),("lessened",644,vr 364),("turned",650,vr 369),("whole_arrow",656,vr 374),("dot",662,vr 379),("normal",671,vr 386),("determinant",677,vr 391),("side",684,vr 398),("FLAT_WALLS",693,vr 402),("SPACE_WALLS",706,vr 407),("simplex",715,vr 414),("replaced",724,vr 421),("standing",730,vr 426),("walls",736,vr 431),("extent",746,vr 438),("size",754,vr 443),("count_at",765,vr 450),("plane_way",771,vr 455),("sides",777,vr 460),("put_wall",793,vr 467),("same",806,vr 474),("blade",814,vr 479),("height",822,vr 486),("crossing",828,vr 491),("cell_of",837,vr 498),("corners_of",847,vr 505),("blades_about",853,vr 510),("clipped",865,vr 517),("lid",876,vr 524),("half",882,vr 529),("within",891,vr 536),("simplexes_of",897,vr 541),("Floor",956,vr 575),("Layer",990,vr 596),("Folded",1021,vr 615),("axis",1027,vr 624),("first_cell",1033,vr 629),("lines_across",1039,vr 634),("turned_over",1045,vr 639),("regions_of",1051,vr 644),("middle",1061,vr 651),("drawn",1067,vr 656),("arrows_to",1073,vr 661),("layers_over",1087,vr 668),("steps",1095,vr 673),("in_steps",1101,vr 678),("out_of_steps",1107,vr 683),("folded",1113,vr 688),("Share",1148,vr 705),("difference",1154,vr 714),("meetings",1160,vr 719),("in_order",1166,vr 724),("take",1177,vr 731),("shares",1183,vr 736),("unlike",1189,vr 741),("low_end",1198,vr 748),("between_floors",1204,vr 753),("parted_by",1212,vr 760),("within_floor",1218,vr 765),("taken_cells",1224,vr 770),("laid",1230,vr 775),("move",1240,vr 782),("is_push",1247,vr 789),("moved_point",1255,vr 796),("moved",1261,vr 801),("along",1269,vr 806),("side_share",1277,vr 813),("wall_share",1283,vr 818),("summed",1289,vr 823),("all_walls",1298,vr 830),("side_sums",1304,vr 835),("wall_sums",1310,vr 840),("edge_sums",1323,vr 847),("least_unlike",1329,vr 852),("FLAT_LINES",1333,(.int 40 1332)),("FLAT_CELLS",1336,vr 853),("SPACE_LINES",1338,(.int 24 1337)),("SPACE_CELLS",1341,vr 854),("directions",1351,vr 861),("lines_of",1357,vr 866),("cells_of",1367,vr 873),("too_wide",1376,vr 880),("PUSHES",1380,vr 881),("PUSHES_AND_TURNS",1384,vr 882),("led",1392,vr 889),("pushed",1400,vr 896),("leading",1414,vr 903),("by_floor",1420,vr 908),("whole_move",1432,vr 915),("rows_of",1438,vr 920),("shortened",1447,vr 927),("smoothed",1456,vr 934),("tidied",1465,vr 941),("lines_of_sides",1474,vr 948),("heights_over",1484,vr 955),("box_about",1490,vr 960),("hub",1496,vr 965),("splitting_line",1502,vr 970),("parted",1508,vr 975),("fan",1516,vr 980),("walked",1529,vr 987),("in_space",1536,vr 994),("refuse_flat",1543,vr 1001),("prism",1549,vr 1006),("pyramid",1555,vr 1011),("FIGURES",1559,vs "0123456789" 1558),("MOST_FIGURES",1561,(.int 60 1560)),("NOTHING",1563,vs "none" 1562),("shown_whole",1570,vr 1018),("shown_number",1578,vr 1025),("shown_point",1584,vr 1030),("shown_simplex",1590,vr 1035),("shown_rows",1597,vr 1042),("shown_heap",1603,vr 1047),("refuse_unless",1610,vr 1054),("read_whole",1616,vr 1059),("read_number",1627,vr 1066),("read_point",1633,vr 1071),("read_corners",1639,vr 1076),("read_ring",1645,vr 1081),("read_rows",1652,vr 1088),("read_heap",1658,vr 1093),("STEEPEST",1662,(.int 300 1661)),("EDGES",1687,vr 1100),("Frame",1721,vr 1120),("odd_primes",1730,vr 1131),("without_squares",1739,vr 1138),("inverse",1754,vr 1145),("value_at",1766,vr 1152),("edge_rows",1772,vr 1157),("frame_rows",1778,vr 1162),("turn_sum",1784,vr 1167),("never",1792,vr 1174),("LETTERS",1796,vs "abcdefghijklmnopqrstuvwxyz" 1795),("LONGEST_NAME",1798,(.int 12 1797)),("FLAT",1800,(.int 3 1799)),("SPACE",1802,(.int 4 1801)),("kind_of",1809,vr 1181),("ask_kind",1817,vr 1188),("put",1825,vr 1195),("walk",1833,vr 1202),("both",1841,vr 1209),("moved_by",1851,vr 1216),("push",1859,vr 1223),("turn",1867,vr 1230),("read_above",1876,vr 1237),("raise_prism",1884,vr 1244),("raise_pyramid",1892,vr 1251),("tell_shown",1900,vr 1258),("tell_size",1908,vr 1265),("tell_count",1917,vr 1272),("tell_same",1925,vr 1279),("numbers_of",1932,vr 1286),("shown_key",1938,vr 1291),("tell_leading",1947,vr 1298),("tell_led",1955,vr 1305),("tell_pushed",1963,vr 1312),("tell_never",1973,vr 1319),("FORMS",2028,vr 1320),("DEEDS",2043,vr 1340),("QUESTIONS",2058,vr 1341),("is_name",2064,vr 1346),("read_row",2070,vr 1351),("Desk",2141,vr 1401),("_law_row",2156,vr 1412),("_law_take",2165,vr 1419),("_law_tell",2175,vr 1426),("_law_refusal",2182,vr 1433),("_law_bad_name",2188,vr 1438),("_law_texts",2196,vr 1445),("_law_line",2202,vr 1450),("_law_looks",2208,vr 1455),("law",2223,vr 1462)])::
 (nat_lit 4,⟨.type "module",(some 0),.plain,#[]⟩)::
 (nat_lit 23,fd P 3 [("__module__",196,vs "scissorhall.errors" 187),("__firstlineno__",200,(.int 2 199)),("__static_attributes__",201,vr 22),("__weakref__",203,vr 25),("__doc__",204,.none)])::
 (nat_lit 24,⟨(.type "type"),none,.cls {name:="HallError",bases:=[(.type "ValueError")],mro:=[vr 24,(.type "ValueError"),(.type "Exception"),(.type "BaseException"),(.type "object")],ns:=23,qualname:="HallError",hasDict:=true,subclasses:=[vr 37,vr 49,vr 61,vr 73,vr 85,vr 97,vr 109,vr 121,vr 133,vr 145,vr 157,vr 169,vr 181,vr 193,vr 205,vr 224,vr 243,vr 262]},#[some (vr 15),none,some (vs "HallError" 189),some (vs "HallError" 197),some (.builtin "ValueError.__new__"),some (.bool true)]⟩)::
 (nat_lit 36,fd P 2 [("__module__",214,vs "scissorhall.errors" 187),("__firstlineno__",218,(.int 4 217)),("__static_attributes__",219,vr 35),("__doc__",220,.none)])::
 (nat_lit 37,⟨(.type "type"),none,.cls {name:="NoNumber",bases:=[vr 24],mro:=[vr 37,vr 24,(.type "ValueError"),(.type "Exception"),(.type "BaseException"),(.type "object")],ns:=36,qualname:="NoNumber",hasDict:=true,subclasses:=[]},#[some (vr 28),none,some (vs "NoNumber" 207),some (vs "NoNumber" 215),some (.builtin "ValueError.__new__"),some (.bool true)]⟩)::
 (nat_lit 48,fd P 2 [("__module__",230,vs "scissorhall.errors" 187),("__firstlineno__",234,(.int 6 233)),("__static_attributes__",235,vr 47),("__doc__",236,.none)])::
 (nat_lit 49,⟨(.type "type"),none,.cls {name:="NoPoint",bases:=[vr 24],mro:=[vr 49,vr 24,(.type "ValueError"),(.type "Exception"),(.type "BaseException"),(.type "object")],ns:=48,qualname:="NoPoint",hasDict:=true,subclasses:=[]},#[some (vr 40),none,some (vs "NoPoint" 223),some (vs "NoPoint" 231),some (.builtin "ValueError.__new__"),some (.bool true)]⟩)::
 (nat_lit 60,fd P 2 [("__module__",246,vs "scissorhall.errors" 187),("__firstlineno__",250,(.int 8 249)),("__static_attributes__",251,vr 59),("__doc__",252,.none)])::
 (nat_lit 61,⟨(.type "type"),none,.cls {name:="Flat",bases:=[vr 24],mro:=[vr 61,vr 24,(.type "ValueError"),(.type "Exception"),(.type "BaseException"),(.type "object")],ns:=60,qualname:="Flat",hasDict:=true,subclasses:=[]},#[some (vr 52),none,some (vs "Flat" 239),some (vs "Flat" 247),some (.builtin "ValueError.__new__"),some (.bool true)]⟩)::
 (nat_lit 96,fd P 2 [("__module__",294,vs "scissorhall.errors" 187),("__firstlineno__",298,(.int 14 297)),("__static_attributes__",299,vr 95),("__doc__",300,.none)])::
 (nat_lit 97,⟨(.type "type"),none,.cls {name:="OnSide",bases:=[vr 24],mro:=[vr 97,vr 24,(.type "ValueError"),(.type "Exception"),(.type "BaseException"),(.type "object")],ns:=96,qualname:="OnSide",hasDict:=true,subclasses:=[]},#[some (vr 88),none,some (vs "OnSide" 287),some (vs "OnSide" 295),some (.builtin "ValueError.__new__"),some (.bool true)]⟩)::
 (nat_lit 120,fd P 2 [("__module__",326,vs "scissorhall.errors" 187),("__firstlineno__",330,(.int 18 329)),("__static_attributes__",331,vr 119),("__doc__",332,.none)])::
 (nat_lit 121,⟨(.type "type"),none,.cls {name:="Backward",bases:=[vr 24],mro:=[vr 121,vr 24,(.type "ValueError"),(.type "Exception"),(.type "BaseException"),(.type "object")],ns:=120,qualname:="Backward",hasDict:=true,subclasses:=[]},#[some (vr 112),none,some (vs "Backward" 319),some (vs "Backward" 327),some (.builtin "ValueError.__new__"),some (.bool true)]⟩)::
 (nat_lit 132,fd P 2 [("__module__",342,vs "scissorhall.errors" 187),("__firstlineno__",346,(.int 20 345)),("__static_attributes__",347,vr 131),("__doc__",348,.none)])::
 (nat_lit 133,⟨(.type "type"),none,.cls {name:="NoText",bases:=[vr 24],mro:=[vr 133,vr 24,(.type "ValueError"),(.type "Exception"),(.type "BaseException"),(.type "object")],ns:=132,qualname:="NoText",hasDict:=true,subclasses:=[]},#[some (vr 124),none,some (vs "NoText" 335),some (vs "NoText" 343),some (.builtin "ValueError.__new__"),some (.bool true)]⟩)::
 (nat_lit 144,fd P 2 [("__module__",358,vs "scissorhall.errors" 187),("__firstlineno__",362,(.int 22 361)),("__static_attributes__",363,vr 143),("__doc__",364,.none)])::
 (nat_lit 145,⟨(.type "type"),none,.cls {name:="TooGreat",bases:=[vr 24],mro:=[vr 145,vr 24,(.type "ValueError"),(.type "Exception"),(.type "BaseException"),(.type "object")],ns:=144,qualname:="TooGreat",hasDict:=true,subclasses:=[]},#[some (vr 136),none,some (vs "TooGreat" 351),some (vs "TooGreat" 359),some (.builtin "ValueError.__new__"),some (.bool true)]⟩)::
 (nat_lit 156,fd P 2 [("__module__",374,vs "scissorhall.errors" 187),("__firstlineno__",378,(.int 24 377)),("__static_attributes__",379,vr 155),("__doc__",380,.none)])::
 (nat_lit 157,⟨(.type "type"),none,.cls {name:="NoRow",bases:=[vr 24],mro:=[vr 157,vr 24,(.type "ValueError"),(.type "Exception"),(.type "BaseException"),(.type "object")],ns:=156,qualname:="NoRow",hasDict:=true,subclasses:=[]},#[some (vr 148),none,some (vs "NoRow" 367),some (vs "NoRow" 375),some (.builtin "ValueError.__new__"),some (.bool true)]⟩)::
 (nat_lit 168,fd P 2 [("__module__",390,vs "scissorhall.errors" 187),("__firstlineno__",394,(.int 26 393)),("__static_attributes__",395,vr 167),("__doc__",396,.none)])::
 (nat_lit 169,⟨(.type "type"),none,.cls {name:="NoName",bases:=[vr 24],mro:=[vr 169,vr 24,(.type "ValueError"),(.type "Exception"),(.type "BaseException"),(.type "object")],ns:=168,qualname:="NoName",hasDict:=true,subclasses:=[]},#[some (vr 160),none,some (vs "NoName" 383),some (vs "NoName" 391),some (.builtin "ValueError.__new__"),some (.bool true)]⟩)::
 (nat_lit 180,fd P 2 [("__module__",406,vs "scissorhall.errors" 187),("__firstlineno__",410,(.int 28 409)),("__static_attributes__",411,vr 179),("__doc__",412,.none)])::
 (nat_lit 181,⟨(.type "type"),none,.cls {name:="NoUndo",bases:=[vr 24],mro:=[vr 181,vr 24,(.type "ValueError"),(.type "Exception"),(.type "BaseException"),(.type "object")],ns:=180,qualname:="NoUndo",hasDict:=true,subclasses:=[]},#[some (vr 172),none,some (vs "NoUndo" 399),some (vs "NoUndo" 407),some (.builtin "ValueError.__new__"),some (.bool true)]⟩)::
 (nat_lit 192,fd P 2 [("__module__",422,vs "scissorhall.errors" 187),("__firstlineno__",426,(.int 30 425)),("__static_attributes__",427,vr 191),("__doc__",428,.none)])::
 (nat_lit 193,⟨(.type "type"),none,.cls {name:="NoAgain",bases:=[vr 24],mro:=[vr 193,vr 24,(.type "ValueError"),(.type "Exception"),(.type "BaseException"),(.type "object")],ns:=192,qualname:="NoAgain",hasDict:=true,subclasses:=[]},#[some (vr 184),none,some (vs "NoAgain" 415),some (vs "NoAgain" 423),some (.builtin "ValueError.__new__"),some (.bool true)]⟩)::
 (nat_lit 204,fd P 2 [("__module__",438,vs "scissorhall.errors" 187),("__firstlineno__",442,(.int 32 441)),("__static_attributes__",443,vr 203),("__doc__",444,.none)])::
 (nat_lit 205,⟨(.type "type"),none,.cls {name:="OtherKind",bases:=[vr 24],mro:=[vr 205,vr 24,(.type "ValueError"),(.type "Exception"),(.type "BaseException"),(.type "object")],ns:=204,qualname:="OtherKind",hasDict:=true,subclasses:=[]},#[some (vr 196),none,some (vs "OtherKind" 431),some (vs "OtherKind" 439),some (.builtin "ValueError.__new__"),some (.bool true)]⟩)::
 (nat_lit 270,fR "sign" 526 48 1 265 181 530)::
 (nat_lit 271,fzq "sign" 21 v3q 270)::
 (nat_lit 277,fR "divisor" 533 54 2 272 181 539)::
 (nat_lit 278,fzq "divisor" 22 v3q 277)::
 (nat_lit 282,fS "reduced" 542 60 1 279 181)::
 (nat_lit 283,fzq "reduced" 23 v3q 282)::
 (nat_lit 289,⟨.type "tuple",none,.seq #[(.int 1 554)] 0,#[]⟩)::
 (nat_lit 295,fR "fraction" 555 68 2 290 181 561)::
 (nat_lit 296,fo "fraction" 25 (vr 289) .none v3q (vr 295) .none)::
 (nat_lit 337,⟨.type "tuple",none,.seq #[(.int 1 612)] 0,#[]⟩)::
 (nat_lit 341,fS "point" 613 89 2 338 181)::
 (nat_lit 342,fo "point" 33 (vr 337) .none v1q (vr 341) .none)::
 (nat_lit 346,fS "measures" 619 93 1 343 181)::
 (nat_lit 347,fzq "measures" 34 v1q 346)::
 (nat_lit 351,fS "point_at" 625 95 1 348 181)::
 (nat_lit 352,fzq "point_at" 35 v1q 351)::
 (nat_lit 373,fS "whole_arrow" 651 107 2 370 181)::
 (nat_lit 374,fzq "whole_arrow" 39 v1q 373)::
 (nat_lit 378,fS "dot" 657 109 2 375 181)::
 (nat_lit 379,fzq "dot" 40 v1q 378)::
 (nat_lit 385,fR "normal" 663 111 1 380 181 669)::
 (nat_lit 386,fzq "normal" 41 v1q 385)::
 (nat_lit 390,fS "determinant" 672 117 1 387 181)::
 (nat_lit 391,fzq "determinant" 42 v1q 390)::
 (nat_lit 397,fR "side" 678 120 1 392 181 682)::
 (nat_lit 398,fzq "side" 43 v1q 397)::
 (nat_lit 399,⟨.type "tuple",none,.seq #[(.int 0 687),(.int 1 688)] 0,#[]⟩)::
 (nat_lit 400,⟨.type "tuple",none,.seq #[(.int 1 689),(.int 2 690)] 0,#[]⟩)::
 (nat_lit 401,⟨.type "tuple",none,.seq #[(.int 2 691),(.int 0 692)] 0,#[]⟩)::
 (nat_lit 402,⟨.type "tuple",none,.seq #[vr 399,vr 400,vr 401] 0,#[]⟩)::
 (nat_lit 403,⟨.type "tuple",none,.seq #[(.int 1 694),(.int 2 695),(.int 3 696)] 0,#[]⟩)::
 (nat_lit 404,⟨.type "tuple",none,.seq #[(.int 0 697),(.int 3 698),(.int 2 699)] 0,#[]⟩)::
 (nat_lit 405,⟨.type "tuple",none,.seq #[(.int 0 700),(.int 1 701),(.int 3 702)] 0,#[]⟩)::
 (nat_lit 406,⟨.type "tuple",none,.seq #[(.int 0 703),(.int 2 704),(.int 1 705)] 0,#[]⟩)::
 (nat_lit 407,⟨.type "tuple",none,.seq #[vr 403,vr 404,vr 405,vr 406] 0,#[]⟩)::
 (nat_lit 413,fR "simplex" 707 125 1 408 181 713)::
 (nat_lit 414,fzq "simplex" 47 (vs "scissorhall.simplexes" 685) 413)::
 (nat_lit 853,⟨.type "tuple",none,.seq #[(.int 60 1334),(.int 1 1335)] 0,#[]⟩)::
 (nat_lit 854,⟨.type "tuple",none,.seq #[(.int 12 1339),(.int 1 1340)] 0,#[]⟩)::
 (nat_lit 881,⟨.type "tuple",none,.seq #[(.int 1 1379)] 0,#[]⟩)::
 (nat_lit 882,⟨.type "tuple",none,.seq #[(.int 1 1381),(.int (-1) 1383)] 0,#[]⟩)::
 (nat_lit 1017,fR "shown_whole" 1564 694 1 1012 181 1568)::
 (nat_lit 1018,fzq "shown_whole" 158 v0q 1017)::
 (nat_lit 1024,fR "shown_number" 1571 698 1 1019 181 1576)::
 (nat_lit 1025,fzq "shown_number" 159 v0q 1024)::
 (nat_lit 1029,fS "shown_point" 1579 705 1 1026 181)::
 (nat_lit 1030,fzq "shown_point" 160 v0q 1029)::
 (nat_lit 1034,fS "shown_simplex" 1585 707 1 1031 181)::
 (nat_lit 1035,fzq "shown_simplex" 161 v0q 1034)::
 (nat_lit 1041,fR "shown_rows" 1591 709 1 1036 181 1595)::
 (nat_lit 1042,fzq "shown_rows" 162 v0q 1041)::
 (nat_lit 1046,fS "shown_heap" 1598 711 1 1043 181)::
 (nat_lit 1047,fzq "shown_heap" 163 v0q 1046)::
 (nat_lit 1053,fR "refuse_unless" 1604 713 1 1048 181 1608)::
 (nat_lit 1054,fzq "refuse_unless" 164 v0q 1053)::
 (nat_lit 1058,fS "read_whole" 1611 716 1 1055 181)::
 (nat_lit 1059,fzq "read_whole" 165 v0q 1058)::
 (nat_lit 1065,fR "read_number" 1617 719 1 1060 181 1625)::
 (nat_lit 1066,fzq "read_number" 166 v0q 1065)::
 (nat_lit 1070,fS "read_point" 1628 727 1 1067 181)::
 (nat_lit 1071,fzq "read_point" 167 v0q 1070)::
 (nat_lit 1075,fS "read_corners" 1634 731 1 1072 181)::
 (nat_lit 1076,fzq "read_corners" 168 v0q 1075)::
 (nat_lit 1087,fR "read_rows" 1646 739 1 1082 181 1650)::
 (nat_lit 1088,fzq "read_rows" 170 v0q 1087)::
 (nat_lit 1092,fS "read_heap" 1653 741 1 1089 181)::
 (nat_lit 1093,fzq "read_heap" 171 v0q 1092)::
 (nat_lit 1094,⟨.type "tuple",none,.seq #[(.int 0 1663),(.int 1 1664),(.int 2 1665),(.int 3 1666)] 0,#[]⟩)::
 (nat_lit 1095,⟨.type "tuple",none,.seq #[(.int 0 1667),(.int 2 1668),(.int 1 1669),(.int 3 1670)] 0,#[]⟩)::
 (nat_lit 1096,⟨.type "tuple",none,.seq #[(.int 0 1671),(.int 3 1672),(.int 1 1673),(.int 2 1674)] 0,#[]⟩)::
 (nat_lit 1097,⟨.type "tuple",none,.seq #[(.int 1 1675),(.int 2 1676),(.int 0 1677),(.int 3 1678)] 0,#[]⟩)::
 (nat_lit 1098,⟨.type "tuple",none,.seq #[(.int 1 1679),(.int 3 1680),(.int 0 1681),(.int 2 1682)] 0,#[]⟩)::
 (nat_lit 1099,⟨.type "tuple",none,.seq #[(.int 2 1683),(.int 3 1684),(.int 0 1685),(.int 1 1686)] 0,#[]⟩)::
 (nat_lit 1100,⟨.type "tuple",none,.seq #[vr 1094,vr 1095,vr 1096,vr 1097,vr 1098,vr 1099] 0,#[]⟩)::
 (nat_lit 1194,fR "put" 1818 848 2 1189 181 1823)::
 (nat_lit 1195,fzq "put" 191 v2q 1194)::
 (nat_lit 1257,fR "tell_shown" 1893 872 2 1252 181 1898)::
 (nat_lit 1258,fzq "tell_shown" 200 v2q 1257)::
 (nat_lit 1320,fd P 18 [("put",1974,vr 1321),("walk",1977,vr 1322),("both",1980,vr 1323),("push",1983,vr 1324),("turn",1986,vr 1325),("prism",1989,vr 1326),("pyramid",1992,vr 1327),("drop",1995,vr 1328),("undo",1998,vr 1329),("again",2001,vr 1330),("names",2004,vr 1331),("shown",2007,vr 1332),("size",2010,vr 1333),("count",2013,vr 1334),("same",2016,vr 1335),("led",2019,vr 1336),("pushed",2022,vr 1337),("never",2025,vr 1339)])::
 (nat_lit 1321,⟨.type "tuple",none,.seq #[(.int 1 1975),(.bool true)] 0,#[]⟩)::
 (nat_lit 1322,⟨.type "tuple",none,.seq #[(.int 1 1978),(.bool true)] 0,#[]⟩)::
 (nat_lit 1323,⟨.type "tuple",none,.seq #[(.int 3 1981),(.bool false)] 0,#[]⟩)::
 (nat_lit 1324,⟨.type "tuple",none,.seq #[(.int 2 1984),(.bool true)] 0,#[]⟩)::
 (nat_lit 1325,⟨.type "tuple",none,.seq #[(.int 2 1987),(.bool true)] 0,#[]⟩)::
 (nat_lit 1326,⟨.type "tuple",none,.seq #[(.int 2 1990),(.bool true)] 0,#[]⟩)::
 (nat_lit 1327,⟨.type "tuple",none,.seq #[(.int 2 1993),(.bool true)] 0,#[]⟩)::
 (nat_lit 1328,⟨.type "tuple",none,.seq #[(.int 1 1996),(.bool false)] 0,#[]⟩)::
 (nat_lit 1329,⟨.type "tuple",none,.seq #[(.int 0 1999),(.bool false)] 0,#[]⟩)::
 (nat_lit 1330,⟨.type "tuple",none,.seq #[(.int 0 2002),(.bool false)] 0,#[]⟩)::
 (nat_lit 1331,⟨.type "tuple",none,.seq #[(.int 0 2005),(.bool false)] 0,#[]⟩)::
 (nat_lit 1332,⟨.type "tuple",none,.seq #[(.int 1 2008),(.bool false)] 0,#[]⟩)::
 (nat_lit 1333,⟨.type "tuple",none,.seq #[(.int 1 2011),(.bool false)] 0,#[]⟩)::
 (nat_lit 1334,⟨.type "tuple",none,.seq #[(.int 1 2014),(.bool true)] 0,#[]⟩)::
 (nat_lit 1335,⟨.type "tuple",none,.seq #[(.int 2 2017),(.bool false)] 0,#[]⟩)::
 (nat_lit 1336,⟨.type "tuple",none,.seq #[(.int 2 2020),(.bool false)] 0,#[]⟩)::
 (nat_lit 1337,⟨.type "tuple",none,.seq #[(.int 2 2023),(.bool false)] 0,#[]⟩)::
 (nat_lit 1339,⟨.type "tuple",none,.seq #[(.int 2 2026),(.bool false)] 0,#[]⟩)::
 (nat_lit 1340,fd P 7 [("put",2029,vr 1195),("walk",2030,vr 1202),("both",2031,vr 1209),("push",2032,vr 1223),("turn",2033,vr 1230),("prism",2034,vr 1244),("pyramid",2035,vr 1251)])::
 (nat_lit 1341,fd P 7 [("shown",2044,vr 1258),("size",2045,vr 1265),("count",2046,vr 1272),("same",2047,vr 1279),("led",2048,vr 1305),("pushed",2049,vr 1312),("never",2050,vr 1319)])::
 (nat_lit 1345,fS "is_name" 2059 908 1 1342 181)::
 (nat_lit 1346,fzq "is_name" 213 v2q 1345)::
 (nat_lit 1350,fS "read_row" 2065 910 1 1347 181)::
 (nat_lit 1351,fzq "read_row" 214 v2q 1350)::
 (nat_lit 1364,fc [vs "__init__" 2083,vs "Desk.__init__" 2084,vs "/claim/cut.py" 2085,vi 922,vi 1,vi 0,vi 0,vi 3,vr 1359,(.bool true),vi 181,vr 1360,.none,vr 1361,vr 1362,vr 1363,vi 2087,vi 922,vs "/claim/cut.py" 2088])::
 (nat_lit 1365,vS "__init__" "Desk.__init__" 215 0 v2q (vr 1364) .none)::
 (nat_lit 1371,fc [vs "tell" 2090,vs "Desk.tell" 2091,vs "/claim/cut.py" 2092,vi 927,vi 2,vi 0,vi 0,vi 3,vr 1366,(.bool true),vi 181,vr 1367,.none,vr 1368,vr 1369,vr 1370,vi 2098,vi 927,vs "/claim/cut.py" 2099])::
 (nat_lit 1372,vS "tell" "Desk.tell" 215 1 v2q (vr 1371) .none)::
 (nat_lit 1376,fc [vs "found" 2101,vs "Desk.found" 2102,vs "/claim/cut.py" 2103,vi 946,vi 2,vi 0,vi 0,vi 3,vr 1373,(.bool true),vi 181,vr 1374,.none,.none,.none,vr 1375,vi 2104,vi 946,vs "/claim/cut.py" 2105])::
 (nat_lit 1377,vS "found" "Desk.found" 215 2 v2q (vr 1376) .none)::
 (nat_lit 1383,fc [vs "let_stand" 2107,vs "Desk.let_stand" 2108,vs "/claim/cut.py" 2109,vi 951,vi 3,vi 0,vi 0,vi 3,vr 1378,(.bool true),vi 181,vr 1379,.none,vr 1380,vr 1381,vr 1382,vi 2114,vi 951,vs "/claim/cut.py" 2115])::
 (nat_lit 1384,vS "let_stand" "Desk.let_stand" 215 3 v2q (vr 1383) .none)::
 (nat_lit 1390,fc [vs "take_back" 2117,vs "Desk.take_back" 2118,vs "/claim/cut.py" 2119,vi 961,vi 1,vi 0,vi 0,vi 3,vr 1385,(.bool true),vi 181,vr 1386,.none,vr 1387,vr 1388,vr 1389,vi 2121,vi 961,vs "/claim/cut.py" 2122])::
 (nat_lit 1391,vS "take_back" "Desk.take_back" 215 4 v2q (vr 1390) .none)::
 (nat_lit 1397,fc [vs "do_again" 2124,vs "Desk.do_again" 2125,vs "/claim/cut.py" 2126,vi 967,vi 1,vi 0,vi 0,vi 3,vr 1392,(.bool true),vi 181,vr 1393,.none,vr 1394,vr 1395,vr 1396,vi 2128,vi 967,vs "/claim/cut.py" 2129])::
 (nat_lit 1398,vS "do_again" "Desk.do_again" 215 5 v2q (vr 1397) .none)::
 (nat_lit 1400,fd P 4 [("__module__",2078,vs "scissorhall.desk" 1793),("__firstlineno__",2082,(.int 920 2081)),("__init__",2089,vr 1365),("tell",2100,vr 1372),("found",2106,vr 1377),("let_stand",2116,vr 1384),("take_back",2123,vr 1391),("do_again",2130,vr 1398),("__static_attributes__",2134,vr 1399),("__dict__",2136,vr 1402),("__weakref__",2138,vr 1403),("__doc__",2139,.none)])::
 (nat_lit 1401,⟨(.type "type"),none,.cls {name:="Desk",bases:=[(.type "object")],mro:=[vr 1401,(.type "object")],ns:=1400,qualname:="Desk",hasDict:=true,subclasses:=[]},#[none,none,some (vs "Desk" 2071),some (vs "Desk" 2079),some (.builtin "object.__new__"),some (.bool true)]⟩)::
 (nat_lit 1411,fR "_law_row" 2144 973 1 1406 181 2154)::
 (nat_lit 1412,fzq "_law_row" 217 vLq 1411)::
 (nat_lit 1418,fR "_law_take" 2157 987 2 1413 181 2163)::
 (nat_lit 1419,fzq "_law_take" 218 vLq 1418)::
 (nat_lit 1425,fR "_law_tell" 2166 995 2 1420 181 2173)::
 (nat_lit 1426,fzq "_law_tell" 219 vLq 1425)::
 (nat_lit 1432,fR "_law_refusal" 2176 1010 1 1427 181 2180)::
 (nat_lit 1433,fzq "_law_refusal" 220 vLq 1432)::
 (nat_lit 1437,fS "_law_bad_name" 2183 1012 1 1434 181)::
 (nat_lit 1438,fzq "_law_bad_name" 221 vLq 1437)::
 (nat_lit 1444,fR "_law_texts" 2189 1025 0 1439 181 2194)::
 (nat_lit 1445,fzq "_law_texts" 222 vLq 1444)::
 (nat_lit 1449,fS "_law_line" 2197 1036 4 1446 181)::
 (nat_lit 1450,fzq "_law_line" 223 vLq 1449)::
 (nat_lit 1454,fS "_law_looks" 2203 1043 1 1451 181)::
 (nat_lit 1455,fzq "_law_looks" 224 vLq 1454)::
 (nat_lit 1461,fR "law" 2209 1045 1 1456 181 2221)::
 (nat_lit 1462,fzq "law" 225 vLq 1461)::[]
def KA:List Nat:=[1,2,3,4,23,24,36,37,48,49,60,61,96,97,120,121,132,133,144,145,156,157,168,169,180,181,192,193,204,205,270,271,277,278,282,283,289,295,296,337,341,342,346,347,351,352,373,374,378,379,385,386,390,391,397,398,399,400,401,402,403,404,405,406,407,413,414,853,854,881,882,1017,1018,1024,1025,1029,1030,1034,1035,1041,1042,1046,1047,1053,1054,1058,1059,1065,1066,1070,1071,1075,1076,1087,1088,1092,1093,1094,1095,1096,1097,1098,1099,1100,1194,1195,1257,1258,1320,1321,1322,1323,1324,1325,1326,1327,1328,1329,1330,1331,1332,1333,1334,1335,1336,1337,1339,1340,1341,1345,1346,1350,1351,1364,1365,1371,1372,1376,1377,1383,1384,1390,1391,1397,1398,1400,1401,1411,1412,1418,1419,1425,1426,1432,1433,1437,1438,1444,1445,1449,1450,1454,1455,1461,1462]
def VW:Program:={cr with main:={cr.main with body:=[aH 225]}}
theorem KE:∀P,KA=(KK P).map (·.1):=λ_=>by kernel_rfl
def LO:List Str:=(["HallError","NoNumber","NoPoint","Flat","NoBlade","NoMove","OnSide","OtherSize","Backward","NoText","TooGreat","NoRow","NoName","NoUndo","NoAgain","OtherKind","OtherSum","TooWide","TooSteep","sign","divisor","reduced","lowest_way","fraction","plus","total","times","divided","ranked","shared","point","measures","point_at","added","lessened","turned","whole_arrow","dot","normal","determinant","side","FLAT_WALLS","SPACE_WALLS","simplex","replaced","standing","walls","extent","size","count_at","plane_way","sides","put_wall","same","blade","height","crossing","cell_of","corners_of","blades_about","clipped","lid","half","within","simplexes_of","Floor","Layer","Folded","axis","first_cell","lines_across","turned_over","regions_of","middle","drawn","arrows_to","layers_over","steps","in_steps","out_of_steps","folded","Share","difference","meetings","in_order","take","shares","unlike","low_end","between_floors","parted_by","within_floor","taken_cells","laid","move","is_push","moved_point","moved","along","side_share","wall_share","summed","all_walls","side_sums","wall_sums","edge_sums","least_unlike","FLAT_LINES","FLAT_CELLS","SPACE_LINES","SPACE_CELLS","directions","lines_of","cells_of","too_wide","PUSHES","PUSHES_AND_TURNS","led","pushed","leading","by_floor","whole_move","rows_of","shortened","smoothed","tidied","lines_of_sides","heights_over","box_about","hub","splitting_line","parted","fan","walked","in_space","refuse_flat","prism","pyramid","FIGURES","MOST_FIGURES","NOTHING","shown_whole","shown_number","shown_point","shown_simplex","shown_rows","shown_heap","refuse_unless","read_whole","read_number","read_point","read_corners","read_ring","read_rows","read_heap","STEEPEST","EDGES","Frame","odd_primes","without_squares","inverse","value_at","edge_rows","frame_rows","turn_sum","never","LETTERS","LONGEST_NAME","FLAT","SPACE","kind_of","ask_kind","put","walk","both","moved_by","push","turn","read_above","raise_prism","raise_pyramid","tell_shown","tell_size","tell_count","tell_same","numbers_of","shown_key","tell_leading","tell_led","tell_pushed","tell_never","FORMS","DEEDS","QUESTIONS","is_name","read_row","Desk","_law_row","_law_take","_law_tell","_law_refusal","_law_bad_name","_law_texts","_law_line","_law_looks"]:List String).map du
open PySem PySem.W in
theorem wtb:cr.tablesWhole=true:=by kernel_rfl
open PySem PySem.W in
theorem yV:namesResolve fv.row.prog=true:=by kernel_rfl
open PySem PySem.W in
theorem ws4:noRoadLSs {strict:=!(importedModules fv.row.prog.main.body).all cThrough.contains,foot:=none,bare:=(["vars","dir","locals"]:List Str).filter (readsOut fv.row.prog fv.row.prog.main.body)} fv.row.prog.main.body=true:=by kernel_rfl
open PySem PySem.W in
theorem ws5:namesMeet fv.row.prog fv.row.prog.main.body (λ_ n=>attrL n)=true:=by kernel_rfl
open PySem PySem.W in
theorem wsl:looksOpen fv.row.prog=true:=by
 unfold looksOpen;rw[yV,ws4,ws5]
 kernel_rfl
open PySem PySem.W in
theorem wsr:fv.row.wellSaid=true:=by
 unfold OpenRow.wellSaid OpenRow.partSaid;rw[wsl]
 kernel_rfl
open PySem PySem.W in
theorem wsaid:wn fv=true:=by
 unfold wn;rw[wsr]
 kernel_rfl
open PySem.W PyProof.Rows PySem.Spec
def jC(w:ah):Shared:=(fencedOpening treeTable cr w 22860).getD {}
theorem hs0:∀w,fencedOpening treeTable cr w 22860=some (jC w):=by
 intro w;have e:(fencedOpening treeTable cr w 22860).isSome=true:=by kernel_rfl
 unfold jC;cases z:fencedOpening treeTable cr w 22860 with
 |none=>rw[z]at e;cases e
 |some s=>rfl
theorem jP:∀w,((jC w).heap.isNs mainGlobals&&(jC w).gens.size==0)=true:=by
 intro w
 kernel_rfl
def yT(w:ah)(a:Nat):Obj:=(jC w).heap.objs.getD a default
abbrev cO(P:jo)(n:Nat)(l:List (String×Nat×Value)):Data:=.dict (l.map λe=>⟨qw P (du e.1),.str (du e.1) e.2.1,e.2.2⟩).toArray n
def Yb(tb:String->Option Builtin)(p:Program)(w:ah)(n0:Nat)(ann:AE):Nat->Shared->Thread->Option (Shared×Thread)
 |0,s,t=>some (s,t)
 |n+1,s,t=>match through t with
  |true=>none
  |false=>match stepOk n0 ann t with
   |false=>none
   |true=>match step (denote tb) p w s t with
    |.go s1 t1=>Yb tb p w n0 ann n s1 t1
    |.halt _ _=>none
theorem dI{tb:String->Option Builtin}{p:Program}{w:ah}{n0:Nat}{ann:AE}:∀(k n:Nat){s t s1 t1},Yb tb p w n0 ann k s t=some (s1,t1)->topRun tb p w n0 ann (k+n) s t=topRun tb p w n0 ann n s1 t1
 |0,n,s,t,s1,t1,h=>by
  cases h;rw[qx]
 |k+1,n,s,t,s1,t1,h=>by
  rw[Nat.succ_add];unfold Yb at h
  conv=>lhs;unfold topRun
  cases a:through t with
  |true=>rw[a]at h;cases h
  |false=>
   rw[a]at h;dsimp only at h⊢;cases b:stepOk n0 ann t with
   |false=>rw[b]at h;cases h
   |true=>
    rw[b]at h;dsimp only at h⊢;cases c:step (denote tb) p w s t with
    |halt _ _=>rw[c]at h;cases h
    |go s2 t2=>
     rw[c]at h;exact dI k n h
theorem Yu:∀w,(jC w).heap.objs.size=11/\(jC w).heap.nsMap mainGlobals "__annotations__"=(some (.ref 6)):=by
 intro w;have e:((jC w).heap.objs.size,(jC w).heap.nsMap mainGlobals "__annotations__")=(11,(some (.ref 6))):=by kernel_rfl
 exact Prod.mk.inj e
abbrev dB(w:ah)(k:Nat):=Yb treeTable cr w 11 (some (.ref 6)) k
def hT0(w:ah):Thread:=match dB w 12 (jC w) (topStub cr)with
 |some x=>x.2
 |none=>topStub cr
def hk0(w:ah):im->bt Fin:=match(hT0 w).stack with
 |.ret k _ _ _ _ _ _::_=>k
 |_=>λ_=>.unsupported ""
def aA{α:Type}:List α->List α->List α
 |[],m=>m
 |a::l,m=>a::aA l m
abbrev rM(l:AD):Obj:=⟨.type "tuple",none,.seq l.toArray 0,#[]⟩
abbrev Yh:Obj:=⟨.none,none,.fields #[],#[]⟩
abbrev gcd(n q:String)(t l ar a:Nat)(f:Bool)(x:AD):Obj:=⟨.type "code",none,.fields (vs n t::vs q (t+1)::vs "/claim/cut.py" (t+2)::vi l::vi ar::vi 0::vi 0::vi (bif f then 3 else 0)::vr a:: .bool f::vi 181::vr (a+1):: .none::x).toArray,#[]⟩
def Uu:Nat->List String->AD
 |_,[]=>[]
 |t,n::r=>vs n t::Uu (t+1) r
def gF(md:Value)(st:Stmt)(n q:String)(l ar a t:Nat)(ns:List String)(dV:Value):List Obj:=
 let fn (c:Nat):Obj:=⟨.type "function",none,.func (br (du n) (du q) (dU st) (cG st) (bD st) dV .none .none md none (vr c) .none),#[]⟩
 let fz:Obj:=⟨.none,none,.func {br (du n) (du q) (dU st) (cG st) (bD st) .none .none .none .none none .none .none with globals:=0},#[]⟩
 match ns with
 |[]=>[rM [],Yh,fz,gcd n q t l ar a true [.none,.none,vr (a+2),vi (t+3),vi l,vs "/claim/cut.py" (t+4)],fn (a+3)]
 |ns=>[rM [],Yh,rM (Uu (t+3) ns),rM [],fz,gcd n q t l ar a true [vr (a+2),vr (a+3),vr (a+4),vi (t+3+ns.length),vi l,vs "/claim/cut.py" (t+4+ns.length)],fn (a+5)]
def gC (P : jo) (n : String) (l a t : Nat) : List Obj :=
  let md : Value := vs "scissorhall.errors" 187
  [rM [vr 24], ⟨.type "builtin_function_or_method", none, .fields #[.builtin "type.__prepare__", .type "type"], #[]⟩,
   ⟨.type "dict", none, cO P 4 [("__module__", t + 7, md), ("__qualname__", t + 9, vs n (t + 8)), ("__firstlineno__", t + 11, .int l (t + 10)), ("__static_attributes__", t + 12, vr (a + 7))], #[]⟩,
   rM [], Yh, gcd n n (t + 2) l 0 (a + 3) false [.none, .none, .none, vi (t + 5), vi l, vs "/claim/cut.py" (t + 6)],
   ⟨.type "frame", none, .plain, #[some (vr (a + 5)), some (vr 3), some (vr (a + 2)), none, some md, none, some (vr 0)]⟩, rM [],
   ⟨.type "dict", none, cO P 2 [("__module__", t + 7, md), ("__firstlineno__", t + 11, .int l (t + 10)), ("__static_attributes__", t + 12, vr (a + 7)), ("__doc__", t + 13, .none)], #[]⟩,
   ⟨.type "type", none, .cls { name := du n, bases := [vr 24], mro := [vr (a + 9), vr 24, .type "ValueError", .type "Exception", .type "BaseException", .type "object"], ns := a + 8, qualname := du n, hasDict := true, subclasses := [] }, #[some (vr a), none, some (vs n t), some (vs n (t + 8)), some (.builtin "ValueError.__new__"), some (.bool true)]⟩,
   ⟨.type "super", none, .fields #[vr (a + 9), vr (a + 9), vr (a + 9)], #[]⟩, ⟨.type "builtin_function_or_method", none, .fields #[.builtin "object.__init_subclass__", vr (a + 9)], #[]⟩]
def Ai:Env:={scope:=cr.main.scope,locals:=3,globals:=3,cells:=[],code:=.ref 13,frame:=some 14}
abbrev bM(w:ah)(n:Nat)(p:ai):Thread:={cur:=(do return .done (<-(execs ((behindTheImports cr).drop n) Ai).onRaise (leaving Ai))),code:=.body (behindTheImports cr) Ai,pos:=p,stack:=[.ret (hk0 w) none false [] (.builtin "claim.caller" {}) default []]}
abbrev bK(w:ah)(l:List Obj)(n:Nat):Shared:={jC w with heap:={ (jC w).heap with objs:=l.toArray},toks:=n}
def dP (w : ah) (x : Value) (n : Nat) (d : List (String × Nat × Value)) (o s : AD) : List Obj := [yT w 0,
 ⟨(.type "dict"), none, cO w.params 2 [("builtins", 162, vr 4), ("__main__", 163, vr 5)], #[]⟩,
 ⟨.none, none, cO w.params 0 [], #[]⟩,
 ⟨.type "dict", none, cO w.params n (("__name__", 165, x) :: ("__doc__", 166, .none) :: ("__package__", 167, .none) :: ("__loader__", 168, (.builtin "__main__.__loader__#opaque")) :: ("__spec__", 169, .none) :: ("__annotations__", 170, vr 6) :: ("__builtins__", 171, vr 4) :: ("__file__", 173, vs "/claim/cut.py" 172) :: ("__cached__", 174, .none) :: d), #[]⟩,
 ⟨(.type "module"), (some 0), .plain, #[]⟩,
 ⟨(.type "module"), (some 3), .plain, #[]⟩,
 ⟨(.type "dict"), none, cO w.params 0 [], #[]⟩,
 ⟨(.type "tuple"), none, .seq #[] 0, #[]⟩,
 ⟨.none, none, .fields #[], #[]⟩,
 ⟨(.type "code"), none, .fields #[vs "<module>" 176, vs "<module>" 177, vs "/claim/cut.py" 178, vi 1, vi 0, vi 0, vi 0, vi 0, vr 7, (.bool false), vi 175, vr 8, .none, .none, .none, .none, vi 179, vi 1, vs "/claim/cut.py" 180], #[]⟩,
 ⟨(.type "frame"), none, .plain, #[some (vr 9), some (vr 3), some (vr 3), none, some (vs "__main__" 164), none, some (vr 0)]⟩,
 ⟨(.type "tuple"), none, .seq #[] 0, #[]⟩,
 ⟨.none, none, .fields o.toArray, #[]⟩,
 ⟨(.type "code"), none, .fields #[vs "<module>" 182, vs "<module>" 183, vs "/claim/cut.py" 184, vi 1, vi 0, vi 0, vi 0, vi 0, vr 11, (.bool false), vi 181, vr 12, .none, .none, .none, .none, vi 185, vi 1, vs "/claim/cut.py" 186], #[]⟩,
 ⟨(.type "frame"), none, .plain, #[some (vr 13), some (vr 3), some (vr 3), none, some (vs "__main__" 164), none, some (vr 0)]⟩,
 ⟨(.type "tuple"), none, .seq #[(.type "ValueError")] 0, #[]⟩,
 ⟨(.type "builtin_function_or_method"), none, .fields #[(.builtin "type.__prepare__"), (.type "type")], #[]⟩,
 ⟨(.type "dict"), none, cO w.params 4 [("__module__", 196, vs "scissorhall.errors" 187), ("__qualname__", 198, vs "HallError" 197), ("__firstlineno__", 200, (.int 2 199)), ("__static_attributes__", 201, vr 22)], #[]⟩,
 ⟨(.type "tuple"), none, .seq #[] 0, #[]⟩,
 ⟨.none, none, .fields #[], #[]⟩,
 ⟨(.type "code"), none, .fields #[vs "HallError" 191, vs "HallError" 192, vs "/claim/cut.py" 193, vi 2, vi 0, vi 0, vi 0, vi 0, vr 18, (.bool false), vi 181, vr 19, .none, .none, .none, .none, vi 194, vi 2, vs "/claim/cut.py" 195], #[]⟩,
 ⟨(.type "frame"), none, .plain, #[some (vr 20), some (vr 3), some (vr 17), none, some (vs "scissorhall.errors" 187), none, some (vr 0)]⟩,
 ⟨(.type "tuple"), none, .seq #[] 0, #[]⟩,
 ⟨(.type "dict"), none, cO w.params 3 [("__module__", 196, vs "scissorhall.errors" 187), ("__firstlineno__", 200, (.int 2 199)), ("__static_attributes__", 201, vr 22), ("__weakref__", 203, vr 25), ("__doc__", 204, .none)], #[]⟩,
 ⟨(.type "type"), none, .cls { name := "HallError", bases := [(.type "ValueError")], mro := [vr 24, (.type "ValueError"), (.type "Exception"), (.type "BaseException"), (.type "object")], ns := 23, qualname := "HallError", hasDict := true, subclasses := s }, #[some (vr 15), none, some (vs "HallError" 189), some (vs "HallError" 197), some (.builtin "ValueError.__new__"), some (.bool true)]⟩]
def dL:List (String×Nat×Value):=[("HallError",206,vr 24),("NoNumber",222,vr 37),("NoPoint",238,vr 49),("Flat",254,vr 61),("NoBlade",270,vr 73),("NoMove",286,vr 85),("OnSide",302,vr 97),("OtherSize",318,vr 109),("Backward",334,vr 121),("NoText",350,vr 133)]
def dM:AD:=[vi 2,vi 0,vr 20,vi 4,vi 0,vr 33,vi 6,vi 0,vr 45,vi 8,vi 0,vr 57,vi 10,vi 0,vr 69,vi 12,vi 0,vr 81,vi 14,vi 0,vr 93,vi 16,vi 0,vr 105,vi 18,vi 0,vr 117,vi 20,vi 0,vr 129]
def dR (w : ah) : List Obj :=
 aA ([⟨(.type "getset_descriptor"), none, .fields #[vs "__weakref__" 202, vr 24, (.builtin "ExceptionGroup.__weakref__"), .none], #[]⟩,
 ⟨(.type "super"), none, .fields #[vr 24, vr 24, vr 24], #[]⟩,
 ⟨(.type "builtin_function_or_method"), none, .fields #[(.builtin "object.__init_subclass__"), vr 24], #[]⟩])
 (aA (gC w.params "NoNumber" 4 28 207)
 (aA (gC w.params "NoPoint" 6 40 223)
 (aA (gC w.params "Flat" 8 52 239)
 (aA (gC w.params "NoBlade" 10 64 255)
 (aA (gC w.params "NoMove" 12 76 271)
 (aA (gC w.params "OnSide" 14 88 287)
 (aA (gC w.params "OtherSize" 16 100 303)
 (aA (gC w.params "Backward" 18 112 319)
 ((gC w.params "NoText" 20 124 335))))))))))
def Nu(w:ah)  :List Obj:=aA (dP w (vs "scissorhall.errors" 187) 19 ((dL)) ((dM)) [vr 37,vr 49,vr 61,vr 73,vr 85,vr 97,vr 109,vr 121,vr 133]) ((dR w))
theorem acM:∀w,dB w 2124 (jC w) (topStub cr)=some ((bK w (Nu w) 351),(bM w 11 ⟨20,0,21,8⟩)):=by
 intro w
 kernel_rfl
def cK:List (String×Nat×Value):=[("TooGreat",366,vr 145),("NoRow",382,vr 157),("NoName",398,vr 169),("NoUndo",414,vr 181),("NoAgain",430,vr 193),("OtherKind",446,vr 205),("OtherSum",471,vr 224),("TooWide",498,vr 243),("TooSteep",523,vr 262)]
def dZ:AD:=[vi 22,vi 0,vr 141,vi 24,vi 0,vr 153,vi 26,vi 0,vr 165,vi 28,vi 0,vr 177,vi 30,vi 0,vr 189,vi 32,vi 0,vr 201,vi 34,vi 0,vr 213,vi 38,vi 0,vr 232,vi 43,vi 0,vr 251]
def dY (w : ah) : List Obj :=
 aA (gC w.params "TooGreat" 22 136 351)
 (aA (gC w.params "NoRow" 24 148 367)
 (aA (gC w.params "NoName" 26 160 383)
 (aA (gC w.params "NoUndo" 28 172 399)
 (aA (gC w.params "NoAgain" 30 184 415)
 (aA (gC w.params "OtherKind" 32 196 431)
 (aA ([⟨(.type "tuple"), none, .seq #[vr 24] 0, #[]⟩,
 ⟨(.type "builtin_function_or_method"), none, .fields #[(.builtin "type.__prepare__"), (.type "type")], #[]⟩,
 ⟨(.type "dict"), none, cO w.params 5 [("__module__", 454, vs "scissorhall.errors" 187), ("__qualname__", 456, vs "OtherSum" 455), ("__firstlineno__", 458, (.int 34 457)), ("__init__", 466, vr 221), ("__static_attributes__", 468, vr 222)], #[]⟩,
 ⟨(.type "tuple"), none, .seq #[] 0, #[]⟩,
 ⟨.none, none, .fields #[vi 36, vi 4, vr 220], #[]⟩,
 ⟨(.type "code"), none, .fields #[vs "OtherSum" 449, vs "OtherSum" 450, vs "/claim/cut.py" 451, vi 34, vi 0, vi 0, vi 0, vi 0, vr 211, (.bool false), vi 181, vr 212, .none, .none, .none, .none, vi 452, vi 34, vs "/claim/cut.py" 453], #[]⟩,
 ⟨(.type "frame"), none, .plain, #[some (vr 213), some (vr 3), some (vr 210), none, some (vs "scissorhall.errors" 187), none, some (vr 0)]⟩])
 (aA (gF (vs "scissorhall.errors" 187) (dQ 17 0) "__init__" "OtherSum.__init__" 36 2 215 459 ["self", "key"] .none)
 (aA ([⟨(.type "tuple"), none, .seq #[vs "key" 467] 0, #[]⟩,
 ⟨(.type "dict"), none, cO w.params 2 [("__module__", 454, vs "scissorhall.errors" 187), ("__firstlineno__", 458, (.int 34 457)), ("__init__", 466, vr 221), ("__static_attributes__", 468, vr 222), ("__doc__", 469, .none)], #[]⟩,
 ⟨(.type "type"), none, .cls { name := "OtherSum", bases := [vr 24], mro := [vr 224, vr 24, (.type "ValueError"), (.type "Exception"), (.type "BaseException"), (.type "object")], ns := 223, qualname := "OtherSum", hasDict := true, subclasses := [] }, #[some (vr 208), none, some (vs "OtherSum" 447), some (vs "OtherSum" 455), some (.builtin "ValueError.__new__"), some (.bool true)]⟩,
 ⟨(.type "super"), none, .fields #[vr 224, vr 224, vr 224], #[]⟩,
 ⟨(.type "builtin_function_or_method"), none, .fields #[(.builtin "object.__init_subclass__"), vr 224], #[]⟩,
 ⟨(.type "tuple"), none, .seq #[vr 24] 0, #[]⟩,
 ⟨(.type "builtin_function_or_method"), none, .fields #[(.builtin "type.__prepare__"), (.type "type")], #[]⟩,
 ⟨(.type "dict"), none, cO w.params 5 [("__module__", 479, vs "scissorhall.errors" 187), ("__qualname__", 481, vs "TooWide" 480), ("__firstlineno__", 483, (.int 38 482)), ("__init__", 492, vr 240), ("__static_attributes__", 495, vr 241)], #[]⟩,
 ⟨(.type "tuple"), none, .seq #[] 0, #[]⟩,
 ⟨.none, none, .fields #[vi 40, vi 4, vr 239], #[]⟩,
 ⟨(.type "code"), none, .fields #[vs "TooWide" 474, vs "TooWide" 475, vs "/claim/cut.py" 476, vi 38, vi 0, vi 0, vi 0, vi 0, vr 230, (.bool false), vi 181, vr 231, .none, .none, .none, .none, vi 477, vi 38, vs "/claim/cut.py" 478], #[]⟩,
 ⟨(.type "frame"), none, .plain, #[some (vr 232), some (vr 3), some (vr 229), none, some (vs "scissorhall.errors" 187), none, some (vr 0)]⟩])
 (aA (gF (vs "scissorhall.errors" 187) (dQ 18 0) "__init__" "TooWide.__init__" 40 3 234 484 ["self", "lines", "cells"] .none)
 (aA ([⟨(.type "tuple"), none, .seq #[vs "cells" 493, vs "lines" 494] 0, #[]⟩,
 ⟨(.type "dict"), none, cO w.params 2 [("__module__", 479, vs "scissorhall.errors" 187), ("__firstlineno__", 483, (.int 38 482)), ("__init__", 492, vr 240), ("__static_attributes__", 495, vr 241), ("__doc__", 496, .none)], #[]⟩,
 ⟨(.type "type"), none, .cls { name := "TooWide", bases := [vr 24], mro := [vr 243, vr 24, (.type "ValueError"), (.type "Exception"), (.type "BaseException"), (.type "object")], ns := 242, qualname := "TooWide", hasDict := true, subclasses := [] }, #[some (vr 227), none, some (vs "TooWide" 472), some (vs "TooWide" 480), some (.builtin "ValueError.__new__"), some (.bool true)]⟩,
 ⟨(.type "super"), none, .fields #[vr 243, vr 243, vr 243], #[]⟩,
 ⟨(.type "builtin_function_or_method"), none, .fields #[(.builtin "object.__init_subclass__"), vr 243], #[]⟩,
 ⟨(.type "tuple"), none, .seq #[vr 24] 0, #[]⟩,
 ⟨(.type "builtin_function_or_method"), none, .fields #[(.builtin "type.__prepare__"), (.type "type")], #[]⟩,
 ⟨(.type "dict"), none, cO w.params 5 [("__module__", 506, vs "scissorhall.errors" 187), ("__qualname__", 508, vs "TooSteep" 507), ("__firstlineno__", 510, (.int 43 509)), ("__init__", 518, vr 259), ("__static_attributes__", 520, vr 260)], #[]⟩,
 ⟨(.type "tuple"), none, .seq #[] 0, #[]⟩,
 ⟨.none, none, .fields #[vi 45, vi 4, vr 258], #[]⟩,
 ⟨(.type "code"), none, .fields #[vs "TooSteep" 501, vs "TooSteep" 502, vs "/claim/cut.py" 503, vi 43, vi 0, vi 0, vi 0, vi 0, vr 249, (.bool false), vi 181, vr 250, .none, .none, .none, .none, vi 504, vi 43, vs "/claim/cut.py" 505], #[]⟩,
 ⟨(.type "frame"), none, .plain, #[some (vr 251), some (vr 3), some (vr 248), none, some (vs "scissorhall.errors" 187), none, some (vr 0)]⟩])
 (aA (gF (vs "scissorhall.errors" 187) (dQ 19 0) "__init__" "TooSteep.__init__" 45 2 253 511 ["self", "number"] .none)
 (([⟨(.type "tuple"), none, .seq #[vs "number" 519] 0, #[]⟩,
 ⟨(.type "dict"), none, cO w.params 2 [("__module__", 506, vs "scissorhall.errors" 187), ("__firstlineno__", 510, (.int 43 509)), ("__init__", 518, vr 259), ("__static_attributes__", 520, vr 260), ("__doc__", 521, .none)], #[]⟩,
 ⟨(.type "type"), none, .cls { name := "TooSteep", bases := [vr 24], mro := [vr 262, vr 24, (.type "ValueError"), (.type "Exception"), (.type "BaseException"), (.type "object")], ns := 261, qualname := "TooSteep", hasDict := true, subclasses := [] }, #[some (vr 246), none, some (vs "TooSteep" 499), some (vs "TooSteep" 507), some (.builtin "ValueError.__new__"), some (.bool true)]⟩,
 ⟨(.type "super"), none, .fields #[vr 262, vr 262, vr 262], #[]⟩,
 ⟨(.type "builtin_function_or_method"), none, .fields #[(.builtin "object.__init_subclass__"), vr 262], #[]⟩])))))))))))))
def Gv(w:ah)  :List Obj:=aA (dP w (vs "scissorhall.errors" 187) 28 (aA (dL) ((cK))) (aA (dM) ((dZ))) [vr 37,vr 49,vr 61,vr 73,vr 85,vr 97,vr 109,vr 121,vr 133,vr 145,vr 157,vr 169,vr 181,vr 193,vr 205,vr 224,vr 243,vr 262]) (aA (dR w) ((dY w)))
theorem abH:∀w,dB w 2015 (bK w (Nu w) 351) (bM w 11 ⟨20,0,21,8⟩)=some ((bK w (Gv w) 524),(bM w 20 ⟨43,0,46,28⟩)):=by
 intro w
 kernel_rfl
def eI:List (String×Nat×Value):=[("sign",532,vr 271),("divisor",541,vr 278),("reduced",547,vr 283),("lowest_way",553,vr 288),("fraction",563,vr 296),("plus",571,vr 303),("total",577,vr 308),("times",585,vr 315),("divided",593,vr 322),("ranked",601,vr 329),("shared",609,vr 336),("point",618,vr 342),("measures",624,vr 347)]
def eJ:AD:=[vi 48,vi 0,vr 270,vi 54,vi 0,vr 277,vi 60,vi 0,vr 282,vi 65,vi 0,vr 287,vi 68,vi 0,vr 295,vi 73,vi 0,vr 302,vi 75,vi 0,vr 307,vi 80,vi 0,vr 314,vi 82,vi 0,vr 321,vi 84,vi 0,vr 328,vi 86,vi 0,vr 335,vi 89,vi 0,vr 341,vi 93,vi 0,vr 346]
def eM (w : ah) : List Obj :=
 aA (gF v3q (aH 21) "sign" "sign" 48 1 265 526 ["number"] .none)
 (aA (gF v3q (aH 22) "divisor" "divisor" 54 2 272 533 ["one", "other", "rest"] .none)
 (aA (gF v3q (aH 23) "reduced" "reduced" 60 1 279 542 [] .none)
 (aA (gF v3q (aH 24) "lowest_way" "lowest_way" 65 1 284 548 [] .none)
 (aA ([⟨(.type "tuple"), none, .seq #[(.int 1 554)] 0, #[]⟩])
 (aA (gF v3q (aH 25) "fraction" "fraction" 68 2 290 555 ["top", "bottom", "common"] (vr 289))
 (aA (gF v3q (aH 26) "plus" "plus" 73 2 297 564 ["one", "other"] .none)
 (aA (gF v3q (aH 27) "total" "total" 75 1 304 572 [] .none)
 (aA (gF v3q (aH 28) "times" "times" 80 2 309 578 ["one", "other"] .none)
 (aA (gF v3q (aH 29) "divided" "divided" 82 2 316 586 ["one", "other"] .none)
 (aA (gF v3q (aH 30) "ranked" "ranked" 84 2 323 594 ["one", "other"] .none)
 (aA (gF v3q (aH 31) "shared" "shared" 86 2 330 602 ["one", "other"] .none)
 (aA ([⟨(.type "tuple"), none, .seq #[(.int 1 612)] 0, #[]⟩])
 (aA (gF v1q (aH 33) "point" "point" 89 2 338 613 [] (vr 337))
 ((gF v1q (aH 34) "measures" "measures" 93 1 343 619 [] .none)))))))))))))))
def Tu(w:ah)  :List Obj:=aA (dP w v1q 41 (aA (dL) (aA (cK) ((eI)))) (aA (dM) (aA (dZ) ((eJ)))) [vr 37,vr 49,vr 61,vr 73,vr 85,vr 97,vr 109,vr 121,vr 133,vr 145,vr 157,vr 169,vr 181,vr 193,vr 205,vr 224,vr 243,vr 262]) (aA (dR w) (aA (dY w) ((eM w))))
theorem abT:∀w,dB w 393 (bK w (Gv w) 524) (bM w 20 ⟨43,0,46,28⟩)=some ((bK w (Tu w) 625),(bM w 35 ⟨93,0,94,64⟩)):=by
 intro w
 kernel_rfl
def dF:List (String×Nat×Value):=[("point_at",630,vr 352),("added",636,vr 357),("lessened",644,vr 364),("turned",650,vr 369),("whole_arrow",656,vr 374),("dot",662,vr 379),("normal",671,vr 386),("determinant",677,vr 391),("side",684,vr 398),("FLAT_WALLS",693,vr 402),("SPACE_WALLS",706,vr 407),("simplex",715,vr 414),("replaced",724,vr 421)]
def eO:AD:=[vi 95,vi 0,vr 351,vi 100,vi 0,vr 356,vi 103,vi 0,vr 363,vi 105,vi 0,vr 368,vi 107,vi 0,vr 373,vi 109,vi 0,vr 378,vi 111,vi 0,vr 385,vi 117,vi 0,vr 390,vi 120,vi 0,vr 397,vi 125,vi 0,vr 413,vi 133,vi 0,vr 420]
def eN (w : ah) : List Obj :=
 aA (gF v1q (aH 35) "point_at" "point_at" 95 1 348 625 [] .none)
 (aA (gF v1q (aH 36) "added" "added" 100 2 353 631 [] .none)
 (aA (gF v1q (aH 37) "lessened" "lessened" 103 2 358 637 ["p", "q"] .none)
 (aA (gF v1q (aH 38) "turned" "turned" 105 1 365 645 [] .none)
 (aA (gF v1q (aH 39) "whole_arrow" "whole_arrow" 107 2 370 651 [] .none)
 (aA (gF v1q (aH 40) "dot" "dot" 109 2 375 657 [] .none)
 (aA (gF v1q (aH 41) "normal" "normal" 111 1 380 663 ["arrows", "u", "v"] .none)
 (aA (gF v1q (aH 42) "determinant" "determinant" 117 1 387 672 [] .none)
 (aA (gF v1q (aH 43) "side" "side" 120 1 392 678 ["points"] .none)
 (aA ([⟨(.type "tuple"), none, .seq #[(.int 0 687), (.int 1 688)] 0, #[]⟩,
 ⟨(.type "tuple"), none, .seq #[(.int 1 689), (.int 2 690)] 0, #[]⟩,
 ⟨(.type "tuple"), none, .seq #[(.int 2 691), (.int 0 692)] 0, #[]⟩,
 ⟨(.type "tuple"), none, .seq #[vr 399, vr 400, vr 401] 0, #[]⟩,
 ⟨(.type "tuple"), none, .seq #[(.int 1 694), (.int 2 695), (.int 3 696)] 0, #[]⟩,
 ⟨(.type "tuple"), none, .seq #[(.int 0 697), (.int 3 698), (.int 2 699)] 0, #[]⟩,
 ⟨(.type "tuple"), none, .seq #[(.int 0 700), (.int 1 701), (.int 3 702)] 0, #[]⟩,
 ⟨(.type "tuple"), none, .seq #[(.int 0 703), (.int 2 704), (.int 1 705)] 0, #[]⟩,
 ⟨(.type "tuple"), none, .seq #[vr 403, vr 404, vr 405, vr 406] 0, #[]⟩])
 (aA (gF (vs "scissorhall.simplexes" 685) (aH 47) "simplex" "simplex" 125 1 408 707 ["points", "corners", "turn"] .none)
 ((gF (vs "scissorhall.simplexes" 685) (aH 48) "replaced" "replaced" 133 3 415 716 ["row", "place", "value"] .none))))))))))))
def Bv(w:ah)  :List Obj:=aA (dP w (vs "scissorhall.simplexes" 685) 54 (aA (dL) (aA (cK) (aA (eI) ((dF))))) (aA (dM) (aA (dZ) (aA (eJ) ((eO))))) [vr 37,vr 49,vr 61,vr 73,vr 85,vr 97,vr 109,vr 121,vr 133,vr 145,vr 157,vr 169,vr 181,vr 193,vr 205,vr 224,vr 243,vr 262]) (aA (dR w) (aA (dY w) (aA (eM w) ((eN w)))))
theorem abK:∀w,dB w 369 (bK w (Tu w) 625) (bM w 35 ⟨93,0,94,64⟩)=some ((bK w (Bv w) 725),(bM w 49 ⟨133,0,134,51⟩)):=by
 intro w
 kernel_rfl
def eA:List (String×Nat×Value):=[("standing",730,vr 426),("walls",736,vr 431),("extent",746,vr 438),("size",754,vr 443),("count_at",765,vr 450),("plane_way",771,vr 455),("sides",777,vr 460),("put_wall",793,vr 467),("same",806,vr 474),("blade",814,vr 479),("height",822,vr 486),("crossing",828,vr 491)]
def eU:AD:=[vi 135,vi 0,vr 425,vi 137,vi 0,vr 430,vi 140,vi 0,vr 437,vi 147,vi 0,vr 442,vi 149,vi 0,vr 449,vi 158,vi 0,vr 454,vi 160,vi 0,vr 459,vi 164,vi 0,vr 466,vi 171,vi 0,vr 473,vi 179,vi 0,vr 478,vi 186,vi 0,vr 485,vi 188,vi 0,vr 490]
def eV(w:ah):List Obj:=
 aA (gF (vs "scissorhall.simplexes" 685) (aH 49) "standing" "standing" 135 2 422 725 [] .none)
 (aA (gF (vs "scissorhall.simplexes" 685) (aH 50) "walls" "walls" 137 1 427 731 [] .none)
 (aA (gF (vs "scissorhall.simplexes" 685) (aH 51) "extent" "extent" 140 1 432 737 ["piece","share","bottom","p"] .none)
 (aA (gF (vs "scissorhall.heaps" 747) (aH 53) "size" "size" 147 1 439 749 [] .none)
 (aA (gF (vs "scissorhall.heaps" 747) (aH 54) "count_at" "count_at" 149 2 444 755 ["heap","p","count","piece","stand"] .none)
 (aA (gF (vs "scissorhall.heaps" 747) (aH 55) "plane_way" "plane_way" 158 1 451 766 [] .none)
 (aA (gF (vs "scissorhall.heaps" 747) (aH 56) "sides" "sides" 160 1 456 772 [] .none)
 (aA (gF (vs "scissorhall.heaps" 747) (aH 57) "put_wall" "put_wall" 164 3 461 778 ["marks","wall","number","plane","start","end","line","p","mark","key"] .none)
 (aA (gF (vs "scissorhall.heaps" 747) (aH 58) "same" "same" 171 2 468 794 ["one","other","marks","heap","number","piece","wall"] .none)
 (aA (gF (vs "scissorhall.cuts" 807) (aH 60) "blade" "blade" 179 1 475 809 [] .none)
 (aA (gF (vs "scissorhall.cuts" 807) (aH 61) "height" "height" 186 2 480 815 ["blade","p"] .none)
 ((gF (vs "scissorhall.cuts" 807) (aH 62) "crossing" "crossing" 188 4 487 823 [] .none))))))))))))
def Ev(w:ah)  :List Obj:=aA (dP w (vs "scissorhall.cuts" 807) 66 (aA (dL) (aA (cK) (aA (eI) (aA (dF) ((eA)))))) (aA (dM) (aA (dZ) (aA (eJ) (aA (eO) ((eU)))))) [vr 37,vr 49,vr 61,vr 73,vr 85,vr 97,vr 109,vr 121,vr 133,vr 145,vr 157,vr 169,vr 181,vr 193,vr 205,vr 224,vr 243,vr 262]) (aA (dR w) (aA (dY w) (aA (eM w) (aA (eN w) ((eV w))))))
theorem acT:∀w,dB w 368 (bK w (Bv w) 725) (bM w 49 ⟨133,0,134,51⟩)=some ((bK w (Ev w) 829),(bM w 63 ⟨188,0,190,43⟩)):=by
 intro w
 kernel_rfl
def fF:List (String×Nat×Value):=[("cell_of",837,vr 498),("corners_of",847,vr 505),("blades_about",853,vr 510),("clipped",865,vr 517),("lid",876,vr 524),("half",882,vr 529),("within",891,vr 536),("simplexes_of",897,vr 541),("Floor",956,vr 575),("Layer",990,vr 596),("Folded",1021,vr 615)]
def fB:AD:=[vi 192,vi 0,vr 497,vi 194,vi 0,vr 504,vi 200,vi 0,vr 509,vi 205,vi 0,vr 516,vi 215,vi 0,vr 523,vi 225,vi 0,vr 528,vi 238,vi 0,vr 535,vi 243,vi 0,vr 540,vi 254,vi 0,vr 547,vi 286,vi 0,vr 585,vi 293,vi 0,vr 606]
def eZ (w : ah) : List Obj :=
 aA (gF (vs "scissorhall.cells" 829) (aH 64) "cell_of" "cell_of" 192 1 492 831 ["piece"] .none)
 (aA (gF (vs "scissorhall.cells" 829) (aH 65) "corners_of" "corners_of" 194 1 499 838 ["cell", "corners", "ring", "p"] .none)
 (aA (gF (vs "scissorhall.cells" 829) (aH 66) "blades_about" "blades_about" 200 1 506 848 [] .none)
 (aA (gF (vs "scissorhall.cells" 829) (aH 67) "clipped" "clipped" 205 2 511 854 ["ring", "heights", "kept", "k", "p", "q"] .none)
 (aA (gF (vs "scissorhall.cells" 829) (aH 68) "lid" "lid" 215 2 518 866 ["rings", "heights", "following", "ring", "k"] .none)
 (aA (gF (vs "scissorhall.cells" 829) (aH 69) "half" "half" 225 2 525 877 [] .none)
 (aA (gF (vs "scissorhall.cells" 829) (aH 70) "within" "within" 238 2 530 883 ["cell", "lines", "line"] .none)
 (aA (gF (vs "scissorhall.cells" 829) (aH 71) "simplexes_of" "simplexes_of" 243 1 537 892 [] .none)
 (aA ([⟨(.type "tuple"), none, .seq #[] 0, #[]⟩,
 ⟨(.type "builtin_function_or_method"), none, .fields #[(.builtin "type.__prepare__"), (.type "type")], #[]⟩,
 ⟨(.type "dict"), none, cO w.params 8 [("__module__", 907, vs "scissorhall.floors" 898), ("__qualname__", 909, vs "Floor" 908), ("__firstlineno__", 911, (.int 254 910)), ("__init__", 917, vr 553), ("counted", 927, vr 560), ("in_front", 935, vr 567), ("found_in_front", 941, vr 572), ("__static_attributes__", 949, vr 573)], #[]⟩,
 ⟨(.type "tuple"), none, .seq #[] 0, #[]⟩,
 ⟨.none, none, .fields #[vi 256, vi 4, vr 552, vi 269, vi 4, vr 559, vi 274, vi 4, vr 566, vi 279, vi 4, vr 571], #[]⟩,
 ⟨(.type "code"), none, .fields #[vs "Floor" 902, vs "Floor" 903, vs "/claim/cut.py" 904, vi 254, vi 0, vi 0, vi 0, vi 0, vr 545, (.bool false), vi 181, vr 546, .none, .none, .none, .none, vi 905, vi 254, vs "/claim/cut.py" 906], #[]⟩,
 ⟨(.type "frame"), none, .plain, #[some (vr 547), some (vr 3), some (vr 544), none, some (vs "scissorhall.floors" 898), none, some (vr 0)]⟩])
 (aA (gF (vs "scissorhall.floors" 898) (dQ 73 0) "__init__" "Floor.__init__" 256 3 549 912 [] .none)
 (aA (gF (vs "scissorhall.floors" 898) (dQ 73 1) "counted" "Floor.counted" 269 2 554 918 ["self", "regions", "number", "low"] .none)
 (aA (gF (vs "scissorhall.floors" 898) (dQ 73 2) "in_front" "Floor.in_front" 274 2 561 928 ["self", "line"] .none)
 (aA (gF (vs "scissorhall.floors" 898) (dQ 73 3) "found_in_front" "Floor.found_in_front" 279 2 568 936 [] .none)
 (aA ([⟨(.type "tuple"), none, .seq #[vs "corners" 942, vs "everything" 943, vs "known" 944, vs "lines" 945, vs "low_bits" 946, vs "spots" 947, vs "spread" 948] 0, #[]⟩,
 ⟨(.type "dict"), none, cO w.params 4 [("__module__", 907, vs "scissorhall.floors" 898), ("__firstlineno__", 911, (.int 254 910)), ("__init__", 917, vr 553), ("counted", 927, vr 560), ("in_front", 935, vr 567), ("found_in_front", 941, vr 572), ("__static_attributes__", 949, vr 573), ("__dict__", 951, vr 576), ("__weakref__", 953, vr 577), ("__doc__", 954, .none)], #[]⟩,
 ⟨(.type "type"), none, .cls { name := "Floor", bases := [(.type "object")], mro := [vr 575, (.type "object")], ns := 574, qualname := "Floor", hasDict := true, subclasses := [] }, #[none, none, some (vs "Floor" 900), some (vs "Floor" 908), some (.builtin "object.__new__"), some (.bool true)]⟩,
 ⟨(.type "getset_descriptor"), none, .fields #[vs "__dict__" 950, vr 575, (.builtin "function.__dict__"), (.builtin "function.__dict__#set")], #[]⟩,
 ⟨(.type "getset_descriptor"), none, .fields #[vs "__weakref__" 952, vr 575, (.builtin "ExceptionGroup.__weakref__"), .none], #[]⟩,
 ⟨(.type "super"), none, .fields #[vr 575, vr 575, vr 575], #[]⟩,
 ⟨(.type "builtin_function_or_method"), none, .fields #[(.builtin "object.__init_subclass__"), vr 575], #[]⟩,
 ⟨(.type "tuple"), none, .seq #[] 0, #[]⟩,
 ⟨(.type "builtin_function_or_method"), none, .fields #[(.builtin "type.__prepare__"), (.type "type")], #[]⟩,
 ⟨(.type "dict"), none, cO w.params 5 [("__module__", 964, vs "scissorhall.floors" 898), ("__qualname__", 966, vs "Layer" 965), ("__firstlineno__", 968, (.int 286 967)), ("__init__", 978, vr 593), ("__static_attributes__", 983, vr 594)], #[]⟩,
 ⟨(.type "tuple"), none, .seq #[] 0, #[]⟩,
 ⟨.none, none, .fields #[vi 288, vi 4, vr 592], #[]⟩,
 ⟨(.type "code"), none, .fields #[vs "Layer" 959, vs "Layer" 960, vs "/claim/cut.py" 961, vi 286, vi 0, vi 0, vi 0, vi 0, vr 583, (.bool false), vi 181, vr 584, .none, .none, .none, .none, vi 962, vi 286, vs "/claim/cut.py" 963], #[]⟩,
 ⟨(.type "frame"), none, .plain, #[some (vr 585), some (vr 3), some (vr 582), none, some (vs "scissorhall.floors" 898), none, some (vr 0)]⟩])
 (aA (gF (vs "scissorhall.floors" 898) (dQ 74 0) "__init__" "Layer.__init__" 288 4 587 969 ["self", "arrow", "way", "regions"] .none)
 (aA ([⟨(.type "tuple"), none, .seq #[vs "arrow" 979, vs "free" 980, vs "regions" 981, vs "way" 982] 0, #[]⟩,
 ⟨(.type "dict"), none, cO w.params 4 [("__module__", 964, vs "scissorhall.floors" 898), ("__firstlineno__", 968, (.int 286 967)), ("__init__", 978, vr 593), ("__static_attributes__", 983, vr 594), ("__dict__", 985, vr 597), ("__weakref__", 987, vr 598), ("__doc__", 988, .none)], #[]⟩,
 ⟨(.type "type"), none, .cls { name := "Layer", bases := [(.type "object")], mro := [vr 596, (.type "object")], ns := 595, qualname := "Layer", hasDict := true, subclasses := [] }, #[none, none, some (vs "Layer" 957), some (vs "Layer" 965), some (.builtin "object.__new__"), some (.bool true)]⟩,
 ⟨(.type "getset_descriptor"), none, .fields #[vs "__dict__" 984, vr 596, (.builtin "function.__dict__"), (.builtin "function.__dict__#set")], #[]⟩,
 ⟨(.type "getset_descriptor"), none, .fields #[vs "__weakref__" 986, vr 596, (.builtin "ExceptionGroup.__weakref__"), .none], #[]⟩,
 ⟨(.type "super"), none, .fields #[vr 596, vr 596, vr 596], #[]⟩,
 ⟨(.type "builtin_function_or_method"), none, .fields #[(.builtin "object.__init_subclass__"), vr 596], #[]⟩,
 ⟨(.type "tuple"), none, .seq #[] 0, #[]⟩,
 ⟨(.type "builtin_function_or_method"), none, .fields #[(.builtin "type.__prepare__"), (.type "type")], #[]⟩,
 ⟨(.type "dict"), none, cO w.params 5 [("__module__", 998, vs "scissorhall.floors" 898), ("__qualname__", 1000, vs "Folded" 999), ("__firstlineno__", 1002, (.int 293 1001)), ("__init__", 1008, vr 612), ("__static_attributes__", 1014, vr 613)], #[]⟩,
 ⟨(.type "tuple"), none, .seq #[] 0, #[]⟩,
 ⟨.none, none, .fields #[vi 295, vi 4, vr 611], #[]⟩,
 ⟨(.type "code"), none, .fields #[vs "Folded" 993, vs "Folded" 994, vs "/claim/cut.py" 995, vi 293, vi 0, vi 0, vi 0, vi 0, vr 604, (.bool false), vi 181, vr 605, .none, .none, .none, .none, vi 996, vi 293, vs "/claim/cut.py" 997], #[]⟩,
 ⟨(.type "frame"), none, .plain, #[some (vr 606), some (vr 3), some (vr 603), none, some (vs "scissorhall.floors" 898), none, some (vr 0)]⟩])
 (aA (gF (vs "scissorhall.floors" 898) (dQ 75 0) "__init__" "Folded.__init__" 295 5 608 1003 [] .none)
 (([⟨(.type "tuple"), none, .seq #[vs "blades" 1009, vs "cell" 1010, vs "content" 1011, vs "layers" 1012, vs "start" 1013] 0, #[]⟩,
 ⟨(.type "dict"), none, cO w.params 4 [("__module__", 998, vs "scissorhall.floors" 898), ("__firstlineno__", 1002, (.int 293 1001)), ("__init__", 1008, vr 612), ("__static_attributes__", 1014, vr 613), ("__dict__", 1016, vr 616), ("__weakref__", 1018, vr 617), ("__doc__", 1019, .none)], #[]⟩,
 ⟨(.type "type"), none, .cls { name := "Folded", bases := [(.type "object")], mro := [vr 615, (.type "object")], ns := 614, qualname := "Folded", hasDict := true, subclasses := [] }, #[none, none, some (vs "Folded" 991), some (vs "Folded" 999), some (.builtin "object.__new__"), some (.bool true)]⟩,
 ⟨(.type "getset_descriptor"), none, .fields #[vs "__dict__" 1015, vr 615, (.builtin "function.__dict__"), (.builtin "function.__dict__#set")], #[]⟩,
 ⟨(.type "getset_descriptor"), none, .fields #[vs "__weakref__" 1017, vr 615, (.builtin "ExceptionGroup.__weakref__"), .none], #[]⟩,
 ⟨(.type "super"), none, .fields #[vr 615, vr 615, vr 615], #[]⟩,
 ⟨(.type "builtin_function_or_method"), none, .fields #[(.builtin "object.__init_subclass__"), vr 615], #[]⟩]))))))))))))))))))
def Zu(w:ah)  :List Obj:=aA (dP w (vs "scissorhall.floors" 898) 77 (aA (dL) (aA (cK) (aA (eI) (aA (dF) (aA (eA) ((fF))))))) (aA (dM) (aA (dZ) (aA (eJ) (aA (eO) (aA (eU) ((fB))))))) [vr 37,vr 49,vr 61,vr 73,vr 85,vr 97,vr 109,vr 121,vr 133,vr 145,vr 157,vr 169,vr 181,vr 193,vr 205,vr 224,vr 243,vr 262]) (aA (dR w) (aA (dY w) (aA (eM w) (aA (eN w) (aA (eV w) ((eZ w)))))))
theorem abR:∀w,dB w 1022 (bK w (Ev w) 829) (bM w 63 ⟨188,0,190,43⟩)=some ((bK w (Zu w) 1022),(bM w 76 ⟨293,0,302,83⟩)):=by
 intro w
 kernel_rfl
def fJ:List (String×Nat×Value):=[("axis",1027,vr 624),("first_cell",1033,vr 629),("lines_across",1039,vr 634),("turned_over",1045,vr 639),("regions_of",1051,vr 644),("middle",1061,vr 651),("drawn",1067,vr 656),("arrows_to",1073,vr 661),("layers_over",1087,vr 668),("steps",1095,vr 673),("in_steps",1101,vr 678)]
def fN:AD:=[vi 303,vi 0,vr 623,vi 305,vi 0,vr 628,vi 311,vi 0,vr 633,vi 314,vi 0,vr 638,vi 316,vi 0,vr 643,vi 324,vi 0,vr 650,vi 330,vi 0,vr 655,vi 332,vi 0,vr 660,vi 342,vi 0,vr 667,vi 353,vi 0,vr 672,vi 362,vi 0,vr 677]
def fM(w:ah):List Obj:=
 aA (gF (vs "scissorhall.floors" 898) (aH 76) "axis" "axis" 303 3 620 1022 [] .none)
 (aA (gF (vs "scissorhall.floors" 898) (aH 77) "first_cell" "first_cell" 305 2 625 1028 [] .none)
 (aA (gF (vs "scissorhall.floors" 898) (aH 78) "lines_across" "lines_across" 311 2 630 1034 [] .none)
 (aA (gF (vs "scissorhall.floors" 898) (aH 79) "turned_over" "turned_over" 314 1 635 1040 [] .none)
 (aA (gF (vs "scissorhall.floors" 898) (aH 80) "regions_of" "regions_of" 316 2 640 1046 [] .none)
 (aA (gF (vs "scissorhall.floors" 898) (aH 81) "middle" "middle" 324 1 645 1052 ["cell","corners","whole","p"] .none)
 (aA (gF (vs "scissorhall.floors" 898) (aH 82) "drawn" "drawn" 330 3 652 1062 [] .none)
 (aA (gF (vs "scissorhall.floors" 898) (aH 83) "arrows_to" "arrows_to" 332 2 657 1068 [] .none)
 (aA (gF (vs "scissorhall.floors" 898) (aH 84) "layers_over" "layers_over" 342 4 662 1074 ["floor","piece","blades","way","found","arrow","regions","line"] .none)
 (aA (gF (vs "scissorhall.folds" 1088) (aH 86) "steps" "steps" 353 1 669 1090 [] .none)
 ((gF (vs "scissorhall.folds" 1088) (aH 87) "in_steps" "in_steps" 362 2 674 1096 [] .none)))))))))))
def Ou(w:ah)  :List Obj:=aA (dP w (vs "scissorhall.folds" 1088) 88 (aA (dL) (aA (cK) (aA (eI) (aA (dF) (aA (eA) (aA (fF) ((fJ)))))))) (aA (dM) (aA (dZ) (aA (eJ) (aA (eO) (aA (eU) (aA (fB) ((fN)))))))) [vr 37,vr 49,vr 61,vr 73,vr 85,vr 97,vr 109,vr 121,vr 133,vr 145,vr 157,vr 169,vr 181,vr 193,vr 205,vr 224,vr 243,vr 262]) (aA (dR w) (aA (dY w) (aA (eM w) (aA (eN w) (aA (eV w) (aA (eZ w) ((fM w))))))))
theorem acv:∀w,dB w 311 (bK w (Zu w) 1022) (bM w 76 ⟨293,0,302,83⟩)=some ((bK w (Ou w) 1102),(bM w 88 ⟨362,0,363,81⟩)):=by
 intro w
 kernel_rfl
def fT:List (String×Nat×Value):=[("out_of_steps",1107,vr 683),("folded",1113,vr 688),("Share",1148,vr 705),("difference",1154,vr 714),("meetings",1160,vr 719),("in_order",1166,vr 724),("take",1177,vr 731),("shares",1183,vr 736)]
def fQ:AD:=[vi 364,vi 0,vr 682,vi 366,vi 0,vr 687,vi 369,vi 0,vr 694,vi 375,vi 0,vr 713,vi 378,vi 0,vr 718,vi 388,vi 0,vr 723,vi 394,vi 0,vr 730,vi 403,vi 0,vr 735]
def fU (w : ah) : List Obj :=
 aA (gF (vs "scissorhall.folds" 1088) (aH 88) "out_of_steps" "out_of_steps" 364 2 679 1102 [] .none)
 (aA (gF (vs "scissorhall.folds" 1088) (aH 89) "folded" "folded" 366 2 684 1108 [] .none)
 (aA ([⟨(.type "tuple"), none, .seq #[] 0, #[]⟩,
 ⟨(.type "builtin_function_or_method"), none, .fields #[(.builtin "type.__prepare__"), (.type "type")], #[]⟩,
 ⟨(.type "dict"), none, cO w.params 5 [("__module__", 1123, vs "scissorhall.laying" 1114), ("__qualname__", 1125, vs "Share" 1124), ("__firstlineno__", 1127, (.int 369 1126)), ("__init__", 1137, vr 702), ("__static_attributes__", 1141, vr 703)], #[]⟩,
 ⟨(.type "tuple"), none, .seq #[] 0, #[]⟩,
 ⟨.none, none, .fields #[vi 371, vi 4, vr 701], #[]⟩,
 ⟨(.type "code"), none, .fields #[vs "Share" 1118, vs "Share" 1119, vs "/claim/cut.py" 1120, vi 369, vi 0, vi 0, vi 0, vi 0, vr 692, (.bool false), vi 181, vr 693, .none, .none, .none, .none, vi 1121, vi 369, vs "/claim/cut.py" 1122], #[]⟩,
 ⟨(.type "frame"), none, .plain, #[some (vr 694), some (vr 3), some (vr 691), none, some (vs "scissorhall.laying" 1114), none, some (vr 0)]⟩])
 (aA (gF (vs "scissorhall.laying" 1114) (dQ 91 0) "__init__" "Share.__init__" 371 4 696 1128 ["self", "layer", "regions", "taken"] .none)
 (aA ([⟨(.type "tuple"), none, .seq #[vs "layer" 1138, vs "regions" 1139, vs "taken" 1140] 0, #[]⟩,
 ⟨(.type "dict"), none, cO w.params 4 [("__module__", 1123, vs "scissorhall.laying" 1114), ("__firstlineno__", 1127, (.int 369 1126)), ("__init__", 1137, vr 702), ("__static_attributes__", 1141, vr 703), ("__dict__", 1143, vr 706), ("__weakref__", 1145, vr 707), ("__doc__", 1146, .none)], #[]⟩,
 ⟨(.type "type"), none, .cls { name := "Share", bases := [(.type "object")], mro := [vr 705, (.type "object")], ns := 704, qualname := "Share", hasDict := true, subclasses := [] }, #[none, none, some (vs "Share" 1116), some (vs "Share" 1124), some (.builtin "object.__new__"), some (.bool true)]⟩,
 ⟨(.type "getset_descriptor"), none, .fields #[vs "__dict__" 1142, vr 705, (.builtin "function.__dict__"), (.builtin "function.__dict__#set")], #[]⟩,
 ⟨(.type "getset_descriptor"), none, .fields #[vs "__weakref__" 1144, vr 705, (.builtin "ExceptionGroup.__weakref__"), .none], #[]⟩,
 ⟨(.type "super"), none, .fields #[vr 705, vr 705, vr 705], #[]⟩,
 ⟨(.type "builtin_function_or_method"), none, .fields #[(.builtin "object.__init_subclass__"), vr 705], #[]⟩])
 (aA (gF (vs "scissorhall.laying" 1114) (aH 92) "difference" "difference" 375 2 710 1149 [] .none)
 (aA (gF (vs "scissorhall.laying" 1114) (aH 93) "meetings" "meetings" 378 2 715 1155 [] .none)
 (aA (gF (vs "scissorhall.laying" 1114) (aH 94) "in_order" "in_order" 388 3 720 1161 [] .none)
 (aA (gF (vs "scissorhall.laying" 1114) (aH 95) "take" "take" 394 1 725 1167 ["pairs", "taken", "one", "other", "regions"] .none)
 ((gF (vs "scissorhall.laying" 1114) (aH 96) "shares" "shares" 403 4 732 1178 [] .none))))))))))
def Lu(w:ah)  :List Obj:=aA (dP w (vs "scissorhall.laying" 1114) 96 (aA (dL) (aA (cK) (aA (eI) (aA (dF) (aA (eA) (aA (fF) (aA (fJ) ((fT))))))))) (aA (dM) (aA (dZ) (aA (eJ) (aA (eO) (aA (eU) (aA (fB) (aA (fN) ((fQ))))))))) [vr 37,vr 49,vr 61,vr 73,vr 85,vr 97,vr 109,vr 121,vr 133,vr 145,vr 157,vr 169,vr 181,vr 193,vr 205,vr 224,vr 243,vr 262]) (aA (dR w) (aA (dY w) (aA (eM w) (aA (eN w) (aA (eV w) (aA (eZ w) (aA (fM w) ((fU w)))))))))
theorem abz:∀w,dB w 424 (bK w (Ou w) 1102) (bM w 88 ⟨362,0,363,81⟩)=some ((bK w (Lu w) 1184),(bM w 97 ⟨403,0,413,16⟩)):=by
 intro w
 kernel_rfl
def eK:List (String×Nat×Value):=[("unlike",1189,vr 741),("low_end",1198,vr 748),("between_floors",1204,vr 753),("parted_by",1212,vr 760),("within_floor",1218,vr 765),("taken_cells",1224,vr 770),("laid",1230,vr 775),("move",1240,vr 782),("is_push",1247,vr 789)]
def gG:AD:=[vi 414,vi 0,vr 740,vi 417,vi 0,vr 747,vi 421,vi 0,vr 752,vi 433,vi 0,vr 759,vi 435,vi 0,vr 764,vi 448,vi 0,vr 769,vi 460,vi 0,vr 774,vi 474,vi 0,vr 781,vi 478,vi 0,vr 788]
def gH(w:ah):List Obj:=
 aA (gF (vs "scissorhall.laying" 1114) (aH 97) "unlike" "unlike" 414 2 737 1184 [] .none)
 (aA (gF (vs "scissorhall.laying" 1114) (aH 98) "low_end" "low_end" 417 3 742 1190 ["floor","layer","place"] .none)
 (aA (gF (vs "scissorhall.laying" 1114) (aH 99) "between_floors" "between_floors" 421 2 749 1199 [] .none)
 (aA (gF (vs "scissorhall.laying" 1114) (aH 100) "parted_by" "parted_by" 433 2 754 1205 ["row","regions"] .none)
 (aA (gF (vs "scissorhall.laying" 1114) (aH 101) "within_floor" "within_floor" 435 2 761 1213 [] .none)
 (aA (gF (vs "scissorhall.laying" 1114) (aH 102) "taken_cells" "taken_cells" 448 3 766 1219 [] .none)
 (aA (gF (vs "scissorhall.laying" 1114) (aH 103) "laid" "laid" 460 3 771 1225 [] .none)
 (aA (gF (vs "scissorhall.moves" 1231) (aH 105) "move" "move" 474 2 776 1233 ["way","arrow"] .none)
 ((gF (vs "scissorhall.moves" 1231) (aH 106) "is_push" "is_push" 478 1 783 1241 ["move"] .none)))))))))
def Qu(w:ah)  :List Obj:=aA (dP w (vs "scissorhall.moves" 1231) 105 (aA (dL) (aA (cK) (aA (eI) (aA (dF) (aA (eA) (aA (fF) (aA (fJ) (aA (fT) ((eK)))))))))) (aA (dM) (aA (dZ) (aA (eJ) (aA (eO) (aA (eU) (aA (fB) (aA (fN) (aA (fQ) ((gG)))))))))) [vr 37,vr 49,vr 61,vr 73,vr 85,vr 97,vr 109,vr 121,vr 133,vr 145,vr 157,vr 169,vr 181,vr 193,vr 205,vr 224,vr 243,vr 262]) (aA (dR w) (aA (dY w) (aA (eM w) (aA (eN w) (aA (eV w) (aA (eZ w) (aA (fM w) (aA (fU w) ((gH w))))))))))
theorem aby:∀w,dB w 259 (bK w (Lu w) 1184) (bM w 97 ⟨403,0,413,16⟩)=some ((bK w (Qu w) 1248),(bM w 107 ⟨478,0,479,23⟩)):=by
 intro w
 kernel_rfl
def gM:List (String×Nat×Value):=[("moved_point",1255,vr 796),("moved",1261,vr 801),("along",1269,vr 806),("side_share",1277,vr 813),("wall_share",1283,vr 818),("summed",1289,vr 823),("all_walls",1298,vr 830),("side_sums",1304,vr 835),("wall_sums",1310,vr 840)]
def gS:AD:=[vi 480,vi 0,vr 795,vi 484,vi 0,vr 800,vi 487,vi 0,vr 805,vi 491,vi 0,vr 812,vi 493,vi 0,vr 817,vi 497,vi 0,vr 822,vi 503,vi 0,vr 829,vi 508,vi 0,vr 834,vi 510,vi 0,vr 839]
def gR(w:ah):List Obj:=
 aA (gF (vs "scissorhall.moves" 1231) (aH 107) "moved_point" "moved_point" 480 2 790 1248 ["p","move"] .none)
 (aA (gF (vs "scissorhall.moves" 1231) (aH 108) "moved" "moved" 484 2 797 1256 [] .none)
 (aA (gF (vs "scissorhall.sums" 1262) (aH 110) "along" "along" 487 2 802 1264 [] .none)
 (aA (gF (vs "scissorhall.sums" 1262) (aH 111) "side_share" "side_share" 491 2 807 1270 ["start","end"] .none)
 (aA (gF (vs "scissorhall.sums" 1262) (aH 112) "wall_share" "wall_share" 493 1 814 1278 [] .none)
 (aA (gF (vs "scissorhall.sums" 1262) (aH 113) "summed" "summed" 497 1 819 1284 [] .none)
 (aA (gF (vs "scissorhall.sums" 1262) (aH 114) "all_walls" "all_walls" 503 1 824 1290 ["heap","found","piece"] .none)
 (aA (gF (vs "scissorhall.sums" 1262) (aH 115) "side_sums" "side_sums" 508 1 831 1299 [] .none)
 ((gF (vs "scissorhall.sums" 1262) (aH 116) "wall_sums" "wall_sums" 510 1 836 1305 [] .none)))))))))
def Hu(w:ah)  :List Obj:=aA (dP w (vs "scissorhall.sums" 1262) 114 (aA (dL) (aA (cK) (aA (eI) (aA (dF) (aA (eA) (aA (fF) (aA (fJ) (aA (fT) (aA (eK) ((gM))))))))))) (aA (dM) (aA (dZ) (aA (eJ) (aA (eO) (aA (eU) (aA (fB) (aA (fN) (aA (fQ) (aA (gG) ((gS))))))))))) [vr 37,vr 49,vr 61,vr 73,vr 85,vr 97,vr 109,vr 121,vr 133,vr 145,vr 157,vr 169,vr 181,vr 193,vr 205,vr 224,vr 243,vr 262]) (aA (dR w) (aA (dY w) (aA (eM w) (aA (eN w) (aA (eV w) (aA (eZ w) (aA (fM w) (aA (fU w) (aA (gH w) ((gR w)))))))))))
theorem aa3:∀w,dB w 256 (bK w (Qu w) 1248) (bM w 107 ⟨478,0,479,23⟩)=some ((bK w (Hu w) 1311),(bM w 117 ⟨510,0,511,65⟩)):=by
 intro w
 kernel_rfl
def hZ:List (String×Nat×Value):=[("edge_sums",1323,vr 847),("least_unlike",1329,vr 852),("FLAT_LINES",1333,(.int 40 1332)),("FLAT_CELLS",1336,vr 853),("SPACE_LINES",1338,(.int 24 1337)),("SPACE_CELLS",1341,vr 854),("directions",1351,vr 861),("lines_of",1357,vr 866),("cells_of",1367,vr 873),("too_wide",1376,vr 880),("PUSHES",1380,vr 881),("PUSHES_AND_TURNS",1384,vr 882),("led",1392,vr 889),("pushed",1400,vr 896)]
def hU:AD:=[vi 512,vi 0,vr 846,vi 520,vi 0,vr 851,vi 530,vi 0,vr 860,vi 536,vi 0,vr 865,vi 538,vi 0,vr 872,vi 543,vi 0,vr 879,vi 550,vi 0,vr 888,vi 552,vi 0,vr 895]
def hV (w : ah) : List Obj :=
 aA (gF (vs "scissorhall.sums" 1262) (aH 117) "edge_sums" "edge_sums" 512 1 841 1311 ["heap", "rows", "wall", "plane", "start", "end", "found"] .none)
 (aA (gF (vs "scissorhall.sums" 1262) (aH 118) "least_unlike" "least_unlike" 520 2 848 1324 [] .none)
 (aA ([⟨(.type "tuple"), none, .seq #[(.int 60 1334), (.int 1 1335)] 0, #[]⟩,
 ⟨(.type "tuple"), none, .seq #[(.int 12 1339), (.int 1 1340)] 0, #[]⟩])
 (aA (gF (vs "scissorhall.widths" 1330) (aH 124) "directions" "directions" 530 1 855 1342 ["pieces", "found", "piece", "wall"] .none)
 (aA (gF (vs "scissorhall.widths" 1330) (aH 125) "lines_of" "lines_of" 536 1 862 1352 [] .none)
 (aA (gF (vs "scissorhall.widths" 1330) (aH 126) "cells_of" "cells_of" 538 2 867 1358 ["heap", "grid", "cells", "step"] .none)
 (aA (gF (vs "scissorhall.widths" 1330) (aH 127) "too_wide" "too_wide" 543 3 874 1368 ["lines", "cells", "grid"] .none)
 (aA ([⟨(.type "tuple"), none, .seq #[(.int 1 1379)] 0, #[]⟩,
 ⟨(.type "tuple"), none, .seq #[(.int 1 1381), (.int (-1) 1383)] 0, #[]⟩])
 (aA (gF (vs "scissorhall.leading" 1377) (aH 131) "led" "led" 550 2 883 1385 ["one", "other"] .none)
 ((gF (vs "scissorhall.leading" 1377) (aH 132) "pushed" "pushed" 552 2 890 1393 ["one", "other"] .none))))))))))
def Zt(w:ah)  :List Obj:=aA (dP w (vs "scissorhall.leading" 1377) 128 (aA (dL) (aA (cK) (aA (eI) (aA (dF) (aA (eA) (aA (fF) (aA (fJ) (aA (fT) (aA (eK) (aA (gM) ((hZ)))))))))))) (aA (dM) (aA (dZ) (aA (eJ) (aA (eO) (aA (eU) (aA (fB) (aA (fN) (aA (fQ) (aA (gG) (aA (gS) ((hU)))))))))))) [vr 37,vr 49,vr 61,vr 73,vr 85,vr 97,vr 109,vr 121,vr 133,vr 145,vr 157,vr 169,vr 181,vr 193,vr 205,vr 224,vr 243,vr 262]) (aA (dR w) (aA (dY w) (aA (eM w) (aA (eN w) (aA (eV w) (aA (eZ w) (aA (fM w) (aA (fU w) (aA (gH w) (aA (gR w) ((hV w))))))))))))
theorem aas:∀w,dB w 330 (bK w (Hu w) 1311) (bM w 117 ⟨510,0,511,65⟩)=some ((bK w (Zt w) 1401),(bM w 133 ⟨552,0,553,76⟩)):=by
 intro w
 kernel_rfl
def iI:List (String×Nat×Value):=[("leading",1414,vr 903),("by_floor",1420,vr 908),("whole_move",1432,vr 915),("rows_of",1438,vr 920),("shortened",1447,vr 927),("smoothed",1456,vr 934),("tidied",1465,vr 941),("lines_of_sides",1474,vr 948)]
def iE:AD:=[vi 554,vi 0,vr 902,vi 565,vi 0,vr 907,vi 582,vi 0,vr 914,vi 585,vi 0,vr 919,vi 592,vi 0,vr 926,vi 601,vi 0,vr 933,vi 606,vi 0,vr 940,vi 613,vi 0,vr 947]
def iH(w:ah):List Obj:=
 aA (gF (vs "scissorhall.leading" 1377) (aH 133) "leading" "leading" 554 5 897 1401 ["one","other","ways","flat_sums","space_sums","asked","sums","key"] .none)
 (aA (gF (vs "scissorhall.leading" 1377) (aH 134) "by_floor" "by_floor" 565 3 904 1415 [] .none)
 (aA (gF (vs "scissorhall.leading" 1377) (aH 135) "whole_move" "whole_move" 582 5 909 1421 ["way","shift","grid","start","end","far"] .none)
 (aA (gF (vs "scissorhall.leading" 1377) (aH 136) "rows_of" "rows_of" 585 4 916 1433 [] .none)
 (aA (gF (vs "scissorhall.rings" 1439) (aH 138) "shortened" "shortened" 592 1 921 1441 ["row"] .none)
 (aA (gF (vs "scissorhall.rings" 1439) (aH 139) "smoothed" "smoothed" 601 1 928 1448 ["ring","row","p"] .none)
 (aA (gF (vs "scissorhall.rings" 1439) (aH 140) "tidied" "tidied" 606 1 935 1457 ["ring","row","count"] .none)
 ((gF (vs "scissorhall.rings" 1439) (aH 141) "lines_of_sides" "lines_of_sides" 613 1 942 1466 ["ring","lines","k"] .none))))))))
def Ct(w:ah)  :List Obj:=aA (dP w (vs "scissorhall.rings" 1439) 136 (aA (dL) (aA (cK) (aA (eI) (aA (dF) (aA (eA) (aA (fF) (aA (fJ) (aA (fT) (aA (eK) (aA (gM) (aA (hZ) ((iI))))))))))))) (aA (dM) (aA (dZ) (aA (eJ) (aA (eO) (aA (eU) (aA (fB) (aA (fN) (aA (fQ) (aA (gG) (aA (gS) (aA (hU) ((iE))))))))))))) [vr 37,vr 49,vr 61,vr 73,vr 85,vr 97,vr 109,vr 121,vr 133,vr 145,vr 157,vr 169,vr 181,vr 193,vr 205,vr 224,vr 243,vr 262]) (aA (dR w) (aA (dY w) (aA (eM w) (aA (eN w) (aA (eV w) (aA (eZ w) (aA (fM w) (aA (fU w) (aA (gH w) (aA (gR w) (aA (hV w) ((iH w)))))))))))))
theorem aaE:∀w,dB w 253 (bK w (Zt w) 1401) (bM w 133 ⟨552,0,553,76⟩)=some ((bK w (Ct w) 1475),(bM w 142 ⟨613,0,617,22⟩)):=by
 intro w
 kernel_rfl
def iX:List (String×Nat×Value):=[("heights_over",1484,vr 955),("box_about",1490,vr 960),("hub",1496,vr 965),("splitting_line",1502,vr 970),("parted",1508,vr 975),("fan",1516,vr 980),("walked",1529,vr 987),("in_space",1536,vr 994),("refuse_flat",1543,vr 1001)]
def iY:AD:=[vi 618,vi 0,vr 954,vi 623,vi 0,vr 959,vi 628,vi 0,vr 964,vi 636,vi 0,vr 969,vi 648,vi 0,vr 974,vi 654,vi 0,vr 979,vi 657,vi 0,vr 986,vi 674,vi 0,vr 993,vi 676,vi 0,vr 1000]
def iZ(w:ah):List Obj:=
 aA (gF (vs "scissorhall.rings" 1439) (aH 142) "heights_over" "heights_over" 618 2 949 1475 ["line","ring","heights","p"] .none)
 (aA (gF (vs "scissorhall.rings" 1439) (aH 143) "box_about" "box_about" 623 1 956 1485 [] .none)
 (aA (gF (vs "scissorhall.rings" 1439) (aH 144) "hub" "hub" 628 2 961 1491 [] .none)
 (aA (gF (vs "scissorhall.rings" 1439) (aH 145) "splitting_line" "splitting_line" 636 2 966 1497 [] .none)
 (aA (gF (vs "scissorhall.rings" 1439) (aH 146) "parted" "parted" 648 2 971 1503 [] .none)
 (aA (gF (vs "scissorhall.solids" 1509) (aH 148) "fan" "fan" 654 2 976 1511 [] .none)
 (aA (gF (vs "scissorhall.solids" 1509) (aH 149) "walked" "walked" 657 1 981 1517 ["ring","found","waiting","part","lines","top","line"] .none)
 (aA (gF (vs "scissorhall.solids" 1509) (aH 150) "in_space" "in_space" 674 1 988 1530 ["p"] .none)
 ((gF (vs "scissorhall.solids" 1509) (aH 151) "refuse_flat" "refuse_flat" 676 1 995 1537 ["arrow"] .none)))))))))
def Ft(w:ah)  :List Obj:=aA (dP w (vs "scissorhall.solids" 1509) 145 (aA (dL) (aA (cK) (aA (eI) (aA (dF) (aA (eA) (aA (fF) (aA (fJ) (aA (fT) (aA (eK) (aA (gM) (aA (hZ) (aA (iI) ((iX)))))))))))))) (aA (dM) (aA (dZ) (aA (eJ) (aA (eO) (aA (eU) (aA (fB) (aA (fN) (aA (fQ) (aA (gG) (aA (gS) (aA (hU) (aA (iE) ((iY)))))))))))))) [vr 37,vr 49,vr 61,vr 73,vr 85,vr 97,vr 109,vr 121,vr 133,vr 145,vr 157,vr 169,vr 181,vr 193,vr 205,vr 224,vr 243,vr 262]) (aA (dR w) (aA (dY w) (aA (eM w) (aA (eN w) (aA (eV w) (aA (eZ w) (aA (fM w) (aA (fU w) (aA (gH w) (aA (gR w) (aA (hV w) (aA (iH w) ((iZ w))))))))))))))
theorem aa5:∀w,dB w 264 (bK w (Ct w) 1475) (bM w 142 ⟨613,0,617,22⟩)=some ((bK w (Ft w) 1544),(bM w 152 ⟨676,0,678,49⟩)):=by
 intro w
 kernel_rfl
def jJ:List (String×Nat×Value):=[("prism",1549,vr 1006),("pyramid",1555,vr 1011),("FIGURES",1559,vs "0123456789" 1558),("MOST_FIGURES",1561,(.int 60 1560)),("NOTHING",1563,vs "none" 1562),("shown_whole",1570,vr 1018),("shown_number",1578,vr 1025),("shown_point",1584,vr 1030),("shown_simplex",1590,vr 1035),("shown_rows",1597,vr 1042),("shown_heap",1603,vr 1047)]
def jK:AD:=[vi 679,vi 0,vr 1005,vi 687,vi 0,vr 1010,vi 694,vi 0,vr 1017,vi 698,vi 0,vr 1024,vi 705,vi 0,vr 1029,vi 707,vi 0,vr 1034,vi 709,vi 0,vr 1041,vi 711,vi 0,vr 1046]
def jL(w:ah):List Obj:=
 aA (gF (vs "scissorhall.solids" 1509) (aH 152) "prism" "prism" 679 2 1002 1544 [] .none)
 (aA (gF (vs "scissorhall.solids" 1509) (aH 153) "pyramid" "pyramid" 687 2 1007 1550 [] .none)
 (aA (gF v0q (aH 158) "shown_whole" "shown_whole" 694 1 1012 1564 ["number"] .none)
 (aA (gF v0q (aH 159) "shown_number" "shown_number" 698 1 1019 1571 ["number","text"] .none)
 (aA (gF v0q (aH 160) "shown_point" "shown_point" 705 1 1026 1579 [] .none)
 (aA (gF v0q (aH 161) "shown_simplex" "shown_simplex" 707 1 1031 1585 [] .none)
 (aA (gF v0q (aH 162) "shown_rows" "shown_rows" 709 1 1036 1591 ["texts"] .none)
 ((gF v0q (aH 163) "shown_heap" "shown_heap" 711 1 1043 1598 [] .none))))))))
def Dt(w:ah)  :List Obj:=aA (dP w v0q 156 (aA (dL) (aA (cK) (aA (eI) (aA (dF) (aA (eA) (aA (fF) (aA (fJ) (aA (fT) (aA (eK) (aA (gM) (aA (hZ) (aA (iI) (aA (iX) ((jJ))))))))))))))) (aA (dM) (aA (dZ) (aA (eJ) (aA (eO) (aA (eU) (aA (fB) (aA (fN) (aA (fQ) (aA (gG) (aA (gS) (aA (hU) (aA (iE) (aA (iY) ((jK))))))))))))))) [vr 37,vr 49,vr 61,vr 73,vr 85,vr 97,vr 109,vr 121,vr 133,vr 145,vr 157,vr 169,vr 181,vr 193,vr 205,vr 224,vr 243,vr 262]) (aA (dR w) (aA (dY w) (aA (eM w) (aA (eN w) (aA (eV w) (aA (eZ w) (aA (fM w) (aA (fU w) (aA (gH w) (aA (gR w) (aA (hV w) (aA (iH w) (aA (iZ w) ((jL w)))))))))))))))
theorem abj:∀w,dB w 254 (bK w (Ft w) 1544) (bM w 152 ⟨676,0,678,49⟩)=some ((bK w (Dt w) 1604),(bM w 164 ⟨711,0,712,63⟩)):=by
 intro w
 kernel_rfl
def jV:List (String×Nat×Value):=[("refuse_unless",1610,vr 1054),("read_whole",1616,vr 1059),("read_number",1627,vr 1066),("read_point",1633,vr 1071),("read_corners",1639,vr 1076),("read_ring",1645,vr 1081),("read_rows",1652,vr 1088),("read_heap",1658,vr 1093)]
def jU:AD:=[vi 713,vi 0,vr 1053,vi 716,vi 0,vr 1058,vi 719,vi 0,vr 1065,vi 727,vi 0,vr 1070,vi 731,vi 0,vr 1075,vi 735,vi 0,vr 1080,vi 739,vi 0,vr 1087,vi 741,vi 0,vr 1092]
def jX(w:ah):List Obj:=
 aA (gF v0q (aH 164) "refuse_unless" "refuse_unless" 713 1 1048 1604 ["fits"] .none)
 (aA (gF v0q (aH 165) "read_whole" "read_whole" 716 1 1055 1611 [] .none)
 (aA (gF v0q (aH 166) "read_number" "read_number" 719 1 1060 1617 ["line","parts","below","top","bottom"] .none)
 (aA (gF v0q (aH 167) "read_point" "read_point" 727 1 1067 1628 [] .none)
 (aA (gF v0q (aH 168) "read_corners" "read_corners" 731 1 1072 1634 [] .none)
 (aA (gF v0q (aH 169) "read_ring" "read_ring" 735 1 1077 1640 [] .none)
 (aA (gF v0q (aH 170) "read_rows" "read_rows" 739 1 1082 1646 ["line"] .none)
 ((gF v0q (aH 171) "read_heap" "read_heap" 741 1 1089 1653 [] .none))))))))
def Fu(w:ah)  :List Obj:=aA (dP w v0q 164 (aA (dL) (aA (cK) (aA (eI) (aA (dF) (aA (eA) (aA (fF) (aA (fJ) (aA (fT) (aA (eK) (aA (gM) (aA (hZ) (aA (iI) (aA (iX) (aA (jJ) ((jV)))))))))))))))) (aA (dM) (aA (dZ) (aA (eJ) (aA (eO) (aA (eU) (aA (fB) (aA (fN) (aA (fQ) (aA (gG) (aA (gS) (aA (hU) (aA (iE) (aA (iY) (aA (jK) ((jU)))))))))))))))) [vr 37,vr 49,vr 61,vr 73,vr 85,vr 97,vr 109,vr 121,vr 133,vr 145,vr 157,vr 169,vr 181,vr 193,vr 205,vr 224,vr 243,vr 262]) (aA (dR w) (aA (dY w) (aA (eM w) (aA (eN w) (aA (eV w) (aA (eZ w) (aA (fM w) (aA (fU w) (aA (gH w) (aA (gR w) (aA (hV w) (aA (iH w) (aA (iZ w) (aA (jL w) ((jX w))))))))))))))))
theorem abh:∀w,dB w 221 (bK w (Dt w) 1604) (bM w 164 ⟨711,0,712,63⟩)=some ((bK w (Fu w) 1659),(bM w 172 ⟨741,0,744,56⟩)):=by
 intro w
 kernel_rfl
def kI:List (String×Nat×Value):=[("STEEPEST",1662,(.int 300 1661)),("EDGES",1687,vr 1100),("Frame",1721,vr 1120),("odd_primes",1730,vr 1131),("without_squares",1739,vr 1138)]
def kH:AD:=[vi 748,vi 0,vr 1106,vi 757,vi 0,vr 1130,vi 769,vi 0,vr 1137]
def kJ (w : ah) : List Obj :=
 aA ([⟨(.type "tuple"), none, .seq #[(.int 0 1663), (.int 1 1664), (.int 2 1665), (.int 3 1666)] 0, #[]⟩,
 ⟨(.type "tuple"), none, .seq #[(.int 0 1667), (.int 2 1668), (.int 1 1669), (.int 3 1670)] 0, #[]⟩,
 ⟨(.type "tuple"), none, .seq #[(.int 0 1671), (.int 3 1672), (.int 1 1673), (.int 2 1674)] 0, #[]⟩,
 ⟨(.type "tuple"), none, .seq #[(.int 1 1675), (.int 2 1676), (.int 0 1677), (.int 3 1678)] 0, #[]⟩,
 ⟨(.type "tuple"), none, .seq #[(.int 1 1679), (.int 3 1680), (.int 0 1681), (.int 2 1682)] 0, #[]⟩,
 ⟨(.type "tuple"), none, .seq #[(.int 2 1683), (.int 3 1684), (.int 0 1685), (.int 1 1686)] 0, #[]⟩,
 ⟨(.type "tuple"), none, .seq #[vr 1094, vr 1095, vr 1096, vr 1097, vr 1098, vr 1099] 0, #[]⟩,
 ⟨(.type "tuple"), none, .seq #[] 0, #[]⟩,
 ⟨(.type "builtin_function_or_method"), none, .fields #[(.builtin "type.__prepare__"), (.type "type")], #[]⟩,
 ⟨(.type "dict"), none, cO w.params 6 [("__module__", 1695, vs "scissorhall.turns" 1659), ("__qualname__", 1697, vs "Frame" 1696), ("__firstlineno__", 1699, (.int 748 1698)), ("__init__", 1705, vr 1112), ("steepness", 1711, vr 1117), ("__static_attributes__", 1714, vr 1118)], #[]⟩,
 ⟨(.type "tuple"), none, .seq #[] 0, #[]⟩,
 ⟨.none, none, .fields #[vi 750, vi 4, vr 1111, vi 754, vi 4, vr 1116], #[]⟩,
 ⟨(.type "code"), none, .fields #[vs "Frame" 1690, vs "Frame" 1691, vs "/claim/cut.py" 1692, vi 748, vi 0, vi 0, vi 0, vi 0, vr 1104, (.bool false), vi 181, vr 1105, .none, .none, .none, .none, vi 1693, vi 748, vs "/claim/cut.py" 1694], #[]⟩,
 ⟨(.type "frame"), none, .plain, #[some (vr 1106), some (vr 3), some (vr 1103), none, some (vs "scissorhall.turns" 1659), none, some (vr 0)]⟩])
 (aA (gF (vs "scissorhall.turns" 1659) (dQ 175 0) "__init__" "Frame.__init__" 750 2 1108 1700 [] .none)
 (aA (gF (vs "scissorhall.turns" 1659) (dQ 175 1) "steepness" "Frame.steepness" 754 1 1113 1706 [] .none)
 (aA ([⟨(.type "tuple"), none, .seq #[vs "arrows" 1712, vs "shares" 1713] 0, #[]⟩,
 ⟨(.type "dict"), none, cO w.params 4 [("__module__", 1695, vs "scissorhall.turns" 1659), ("__firstlineno__", 1699, (.int 748 1698)), ("__init__", 1705, vr 1112), ("steepness", 1711, vr 1117), ("__static_attributes__", 1714, vr 1118), ("__dict__", 1716, vr 1121), ("__weakref__", 1718, vr 1122), ("__doc__", 1719, .none)], #[]⟩,
 ⟨(.type "type"), none, .cls { name := "Frame", bases := [(.type "object")], mro := [vr 1120, (.type "object")], ns := 1119, qualname := "Frame", hasDict := true, subclasses := [] }, #[none, none, some (vs "Frame" 1688), some (vs "Frame" 1696), some (.builtin "object.__new__"), some (.bool true)]⟩,
 ⟨(.type "getset_descriptor"), none, .fields #[vs "__dict__" 1715, vr 1120, (.builtin "function.__dict__"), (.builtin "function.__dict__#set")], #[]⟩,
 ⟨(.type "getset_descriptor"), none, .fields #[vs "__weakref__" 1717, vr 1120, (.builtin "ExceptionGroup.__weakref__"), .none], #[]⟩,
 ⟨(.type "super"), none, .fields #[vr 1120, vr 1120, vr 1120], #[]⟩,
 ⟨(.type "builtin_function_or_method"), none, .fields #[(.builtin "object.__init_subclass__"), vr 1120], #[]⟩])
 (aA (gF (vs "scissorhall.turns" 1659) (aH 176) "odd_primes" "odd_primes" 757 1 1125 1722 ["number", "found", "prime"] .none)
 ((gF (vs "scissorhall.turns" 1659) (aH 177) "without_squares" "without_squares" 769 1 1132 1731 ["number", "root", "factor"] .none))))))
def Kt(w:ah)  :List Obj:=aA (dP w (vs "scissorhall.turns" 1659) 169 (aA (dL) (aA (cK) (aA (eI) (aA (dF) (aA (eA) (aA (fF) (aA (fJ) (aA (fT) (aA (eK) (aA (gM) (aA (hZ) (aA (iI) (aA (iX) (aA (jJ) (aA (jV) ((kI))))))))))))))))) (aA (dM) (aA (dZ) (aA (eJ) (aA (eO) (aA (eU) (aA (fB) (aA (fN) (aA (fQ) (aA (gG) (aA (gS) (aA (hU) (aA (iE) (aA (iY) (aA (jK) (aA (jU) ((kH))))))))))))))))) [vr 37,vr 49,vr 61,vr 73,vr 85,vr 97,vr 109,vr 121,vr 133,vr 145,vr 157,vr 169,vr 181,vr 193,vr 205,vr 224,vr 243,vr 262]) (aA (dR w) (aA (dY w) (aA (eM w) (aA (eN w) (aA (eV w) (aA (eZ w) (aA (fM w) (aA (fU w) (aA (gH w) (aA (gR w) (aA (hV w) (aA (iH w) (aA (iZ w) (aA (jL w) (aA (jX w) ((kJ w)))))))))))))))))
theorem aa8:∀w,dB w 373 (bK w (Fu w) 1659) (bM w 172 ⟨741,0,744,56⟩)=some ((bK w (Kt w) 1740),(bM w 178 ⟨769,0,777,25⟩)):=by
 intro w
 kernel_rfl
def lI:List (String×Nat×Value):=[("inverse",1754,vr 1145),("value_at",1766,vr 1152),("edge_rows",1772,vr 1157),("frame_rows",1778,vr 1162),("turn_sum",1784,vr 1167),("never",1792,vr 1174),("LETTERS",1796,vs "abcdefghijklmnopqrstuvwxyz" 1795),("LONGEST_NAME",1798,(.int 12 1797)),("FLAT",1800,(.int 3 1799)),("SPACE",1802,(.int 4 1801)),("kind_of",1809,vr 1181)]
def lE:AD:=[vi 778,vi 0,vr 1144,vi 792,vi 0,vr 1151,vi 804,vi 0,vr 1156,vi 818,vi 0,vr 1161,vi 827,vi 0,vr 1166,vi 836,vi 0,vr 1173,vi 843,vi 0,vr 1180]
def lH(w:ah):List Obj:=
 aA (gF (vs "scissorhall.turns" 1659) (aH 178) "inverse" "inverse" 778 2 1139 1740 ["number","prime","rest","share","last","last_share","count","rest_after","share_after"] .none)
 (aA (gF (vs "scissorhall.turns" 1659) (aH 179) "value_at" "value_at" 792 4 1146 1755 ["u","v","m","prime","whole","count"] .none)
 (aA (gF (vs "scissorhall.turns" 1659) (aH 180) "edge_rows" "edge_rows" 804 4 1153 1767 [] .none)
 (aA (gF (vs "scissorhall.turns" 1659) (aH 181) "frame_rows" "frame_rows" 818 1 1158 1773 [] .none)
 (aA (gF (vs "scissorhall.turns" 1659) (aH 182) "turn_sum" "turn_sum" 827 1 1163 1779 [] .none)
 (aA (gF (vs "scissorhall.turns" 1659) (aH 183) "never" "never" 836 2 1168 1785 ["one","other"] .none)
 ((gF v2q (aH 189) "kind_of" "kind_of" 843 1 1175 1803 ["heap"] .none)))))))
def Jt(w:ah)  :List Obj:=aA (dP w v2q 180 (aA (dL) (aA (cK) (aA (eI) (aA (dF) (aA (eA) (aA (fF) (aA (fJ) (aA (fT) (aA (eK) (aA (gM) (aA (hZ) (aA (iI) (aA (iX) (aA (jJ) (aA (jV) (aA (kI) ((lI)))))))))))))))))) (aA (dM) (aA (dZ) (aA (eJ) (aA (eO) (aA (eU) (aA (fB) (aA (fN) (aA (fQ) (aA (gG) (aA (gS) (aA (hU) (aA (iE) (aA (iY) (aA (jK) (aA (jU) (aA (kH) ((lE)))))))))))))))))) [vr 37,vr 49,vr 61,vr 73,vr 85,vr 97,vr 109,vr 121,vr 133,vr 145,vr 157,vr 169,vr 181,vr 193,vr 205,vr 224,vr 243,vr 262]) (aA (dR w) (aA (dY w) (aA (eM w) (aA (eN w) (aA (eV w) (aA (eZ w) (aA (fM w) (aA (fU w) (aA (gH w) (aA (gR w) (aA (hV w) (aA (iH w) (aA (iZ w) (aA (jL w) (aA (jX w) (aA (kJ w) ((lH w))))))))))))))))))
theorem aaW:∀w,dB w 253 (bK w (Kt w) 1740) (bM w 178 ⟨769,0,777,25⟩)=some ((bK w (Jt w) 1810),(bM w 190 ⟨843,0,844,41⟩)):=by
 intro w
 kernel_rfl
def mK:List (String×Nat×Value):=[("ask_kind",1817,vr 1188),("put",1825,vr 1195),("walk",1833,vr 1202),("both",1841,vr 1209),("moved_by",1851,vr 1216),("push",1859,vr 1223),("turn",1867,vr 1230)]
def mE:AD:=[vi 845,vi 0,vr 1187,vi 848,vi 0,vr 1194,vi 850,vi 0,vr 1201,vi 852,vi 0,vr 1208,vi 855,vi 0,vr 1215,vi 859,vi 0,vr 1222,vi 861,vi 0,vr 1229]
def mG(w:ah):List Obj:=
 aA (gF v2q (aH 190) "ask_kind" "ask_kind" 845 2 1182 1810 ["found","asked"] .none)
 (aA (gF v2q (aH 191) "put" "put" 848 2 1189 1818 ["heaps","text"] .none)
 (aA (gF v2q (aH 192) "walk" "walk" 850 2 1196 1826 ["heaps","text"] .none)
 (aA (gF v2q (aH 193) "both" "both" 852 2 1203 1834 ["heaps","text"] .none)
 (aA (gF v2q (aH 194) "moved_by" "moved_by" 855 3 1210 1842 ["heap","way","text","arrow"] .none)
 (aA (gF v2q (aH 195) "push" "push" 859 2 1217 1852 ["heaps","text"] .none)
 ((gF v2q (aH 196) "turn" "turn" 861 2 1224 1860 ["heaps","text"] .none)))))))
def Yt(w:ah)  :List Obj:=aA (dP w v2q 187 (aA (dL) (aA (cK) (aA (eI) (aA (dF) (aA (eA) (aA (fF) (aA (fJ) (aA (fT) (aA (eK) (aA (gM) (aA (hZ) (aA (iI) (aA (iX) (aA (jJ) (aA (jV) (aA (kI) (aA (lI) ((mK))))))))))))))))))) (aA (dM) (aA (dZ) (aA (eJ) (aA (eO) (aA (eU) (aA (fB) (aA (fN) (aA (fQ) (aA (gG) (aA (gS) (aA (hU) (aA (iE) (aA (iY) (aA (jK) (aA (jU) (aA (kH) (aA (lE) ((mE))))))))))))))))))) [vr 37,vr 49,vr 61,vr 73,vr 85,vr 97,vr 109,vr 121,vr 133,vr 145,vr 157,vr 169,vr 181,vr 193,vr 205,vr 224,vr 243,vr 262]) (aA (dR w) (aA (dY w) (aA (eM w) (aA (eN w) (aA (eV w) (aA (eZ w) (aA (fM w) (aA (fU w) (aA (gH w) (aA (gR w) (aA (hV w) (aA (iH w) (aA (iZ w) (aA (jL w) (aA (jX w) (aA (kJ w) (aA (lH w) ((mG w)))))))))))))))))))
theorem aai:∀w,dB w 212 (bK w (Jt w) 1810) (bM w 190 ⟨843,0,844,41⟩)=some ((bK w (Yt w) 1868),(bM w 197 ⟨861,0,862,39⟩)):=by
 intro w
 kernel_rfl
def nX:List (String×Nat×Value):=[("read_above",1876,vr 1237),("raise_prism",1884,vr 1244),("raise_pyramid",1892,vr 1251),("tell_shown",1900,vr 1258),("tell_size",1908,vr 1265),("tell_count",1917,vr 1272)]
def nQ:AD:=[vi 863,vi 0,vr 1236,vi 868,vi 0,vr 1243,vi 870,vi 0,vr 1250,vi 872,vi 0,vr 1257,vi 874,vi 0,vr 1264,vi 876,vi 0,vr 1271]
def nO(w:ah):List Obj:=
 aA (gF v2q (aH 197) "read_above" "read_above" 863 2 1231 1868 ["heap","text","p"] .none)
 (aA (gF v2q (aH 198) "raise_prism" "raise_prism" 868 2 1238 1877 ["heaps","text"] .none)
 (aA (gF v2q (aH 199) "raise_pyramid" "raise_pyramid" 870 2 1245 1885 ["heaps","text"] .none)
 (aA (gF v2q (aH 200) "tell_shown" "tell_shown" 872 2 1252 1893 ["heaps","text"] .none)
 (aA (gF v2q (aH 201) "tell_size" "tell_size" 874 2 1259 1901 ["heaps","text"] .none)
 ((gF v2q (aH 202) "tell_count" "tell_count" 876 2 1266 1909 ["heaps","text","p"] .none))))))
def Wt(w:ah)  :List Obj:=aA (dP w v2q 193 (aA (dL) (aA (cK) (aA (eI) (aA (dF) (aA (eA) (aA (fF) (aA (fJ) (aA (fT) (aA (eK) (aA (gM) (aA (hZ) (aA (iI) (aA (iX) (aA (jJ) (aA (jV) (aA (kI) (aA (lI) (aA (mK) ((nX)))))))))))))))))))) (aA (dM) (aA (dZ) (aA (eJ) (aA (eO) (aA (eU) (aA (fB) (aA (fN) (aA (fQ) (aA (gG) (aA (gS) (aA (hU) (aA (iE) (aA (iY) (aA (jK) (aA (jU) (aA (kH) (aA (lE) (aA (mE) ((nQ)))))))))))))))))))) [vr 37,vr 49,vr 61,vr 73,vr 85,vr 97,vr 109,vr 121,vr 133,vr 145,vr 157,vr 169,vr 181,vr 193,vr 205,vr 224,vr 243,vr 262]) (aA (dR w) (aA (dY w) (aA (eM w) (aA (eN w) (aA (eV w) (aA (eZ w) (aA (fM w) (aA (fU w) (aA (gH w) (aA (gR w) (aA (hV w) (aA (iH w) (aA (iZ w) (aA (jL w) (aA (jX w) (aA (kJ w) (aA (lH w) (aA (mG w) ((nO w))))))))))))))))))))
theorem aa6:∀w,dB w 182 (bK w (Yt w) 1868) (bM w 197 ⟨861,0,862,39⟩)=some ((bK w (Wt w) 1918),(bM w 203 ⟨876,0,879,37⟩)):=by
 intro w
 kernel_rfl
def pH:List (String×Nat×Value):=[("tell_same",1925,vr 1279),("numbers_of",1932,vr 1286),("shown_key",1938,vr 1291),("tell_leading",1947,vr 1298),("tell_led",1955,vr 1305),("tell_pushed",1963,vr 1312),("tell_never",1973,vr 1319)]
def oW:AD:=[vi 880,vi 0,vr 1278,vi 883,vi 0,vr 1285,vi 885,vi 0,vr 1290,vi 887,vi 0,vr 1297,vi 896,vi 0,vr 1304,vi 898,vi 0,vr 1311,vi 900,vi 0,vr 1318]
def pE(w:ah):List Obj:=
 aA (gF v2q (aH 203) "tell_same" "tell_same" 880 2 1273 1918 ["heaps","text"] .none)
 (aA (gF v2q (aH 204) "numbers_of" "numbers_of" 883 1 1280 1926 ["key"] .none)
 (aA (gF v2q (aH 205) "shown_key" "shown_key" 885 1 1287 1933 [] .none)
 (aA (gF v2q (aH 206) "tell_leading" "tell_leading" 887 2 1292 1939 ["heaps","leading","refusal"] .none)
 (aA (gF v2q (aH 207) "tell_led" "tell_led" 896 2 1299 1948 ["heaps","text"] .none)
 (aA (gF v2q (aH 208) "tell_pushed" "tell_pushed" 898 2 1306 1956 ["heaps","text"] .none)
 ((gF v2q (aH 209) "tell_never" "tell_never" 900 2 1313 1964 ["heaps","text","heap","key"] .none)))))))
def Jh(w:ah)  :List Obj:=aA (dP w v2q 200 (aA (dL) (aA (cK) (aA (eI) (aA (dF) (aA (eA) (aA (fF) (aA (fJ) (aA (fT) (aA (eK) (aA (gM) (aA (hZ) (aA (iI) (aA (iX) (aA (jJ) (aA (jV) (aA (kI) (aA (lI) (aA (mK) (aA (nX) ((pH))))))))))))))))))))) (aA (dM) (aA (dZ) (aA (eJ) (aA (eO) (aA (eU) (aA (fB) (aA (fN) (aA (fQ) (aA (gG) (aA (gS) (aA (hU) (aA (iE) (aA (iY) (aA (jK) (aA (jU) (aA (kH) (aA (lE) (aA (mE) (aA (nQ) ((oW))))))))))))))))))))) [vr 37,vr 49,vr 61,vr 73,vr 85,vr 97,vr 109,vr 121,vr 133,vr 145,vr 157,vr 169,vr 181,vr 193,vr 205,vr 224,vr 243,vr 262]) (aA (dR w) (aA (dY w) (aA (eM w) (aA (eN w) (aA (eV w) (aA (eZ w) (aA (fM w) (aA (fU w) (aA (gH w) (aA (gR w) (aA (hV w) (aA (iH w) (aA (iZ w) (aA (jL w) (aA (jX w) (aA (kJ w) (aA (lH w) (aA (mG w) (aA (nO w) ((pE w)))))))))))))))))))))
theorem Z5:∀w,dB w 208 (bK w (Wt w) 1918) (bM w 203 ⟨876,0,879,37⟩)=some ((bK w (Jh w) 1974),(bM w 210 ⟨900,0,904,63⟩)):=by
 intro w
 kernel_rfl
def qZ:List (String×Nat×Value):=[("FORMS",2028,vr 1320)]
def rG (w : ah) : List Obj :=
 ([⟨(.type "dict"), none, cO w.params 18 [("put", 1974, vr 1321), ("walk", 1977, vr 1322), ("both", 1980, vr 1323), ("push", 1983, vr 1324), ("turn", 1986, vr 1325), ("prism", 1989, vr 1326), ("pyramid", 1992, vr 1327), ("drop", 1995, vr 1328), ("undo", 1998, vr 1329), ("again", 2001, vr 1330), ("names", 2004, vr 1331), ("shown", 2007, vr 1332), ("size", 2010, vr 1333), ("count", 2013, vr 1334), ("same", 2016, vr 1335), ("led", 2019, vr 1336), ("pushed", 2022, vr 1337), ("never", 2025, vr 1339)], #[]⟩,
 ⟨(.type "tuple"), none, .seq #[(.int 1 1975), (.bool true)] 0, #[]⟩,
 ⟨(.type "tuple"), none, .seq #[(.int 1 1978), (.bool true)] 0, #[]⟩,
 ⟨(.type "tuple"), none, .seq #[(.int 3 1981), (.bool false)] 0, #[]⟩,
 ⟨(.type "tuple"), none, .seq #[(.int 2 1984), (.bool true)] 0, #[]⟩,
 ⟨(.type "tuple"), none, .seq #[(.int 2 1987), (.bool true)] 0, #[]⟩,
 ⟨(.type "tuple"), none, .seq #[(.int 2 1990), (.bool true)] 0, #[]⟩,
 ⟨(.type "tuple"), none, .seq #[(.int 2 1993), (.bool true)] 0, #[]⟩,
 ⟨(.type "tuple"), none, .seq #[(.int 1 1996), (.bool false)] 0, #[]⟩,
 ⟨(.type "tuple"), none, .seq #[(.int 0 1999), (.bool false)] 0, #[]⟩,
 ⟨(.type "tuple"), none, .seq #[(.int 0 2002), (.bool false)] 0, #[]⟩,
 ⟨(.type "tuple"), none, .seq #[(.int 0 2005), (.bool false)] 0, #[]⟩,
 ⟨(.type "tuple"), none, .seq #[(.int 1 2008), (.bool false)] 0, #[]⟩,
 ⟨(.type "tuple"), none, .seq #[(.int 1 2011), (.bool false)] 0, #[]⟩,
 ⟨(.type "tuple"), none, .seq #[(.int 1 2014), (.bool true)] 0, #[]⟩,
 ⟨(.type "tuple"), none, .seq #[(.int 2 2017), (.bool false)] 0, #[]⟩,
 ⟨(.type "tuple"), none, .seq #[(.int 2 2020), (.bool false)] 0, #[]⟩,
 ⟨(.type "tuple"), none, .seq #[(.int 2 2023), (.bool false)] 0, #[]⟩,
 ⟨(.type "dict"), none, cO w.params 1 [("never", 2025, vr 1339)], #[]⟩,
 ⟨(.type "tuple"), none, .seq #[(.int 2 2026), (.bool false)] 0, #[]⟩])
def Ec(w:ah)  :List Obj:=aA (dP w v2q 201 (aA (dL) (aA (cK) (aA (eI) (aA (dF) (aA (eA) (aA (fF) (aA (fJ) (aA (fT) (aA (eK) (aA (gM) (aA (hZ) (aA (iI) (aA (iX) (aA (jJ) (aA (jV) (aA (kI) (aA (lI) (aA (mK) (aA (nX) (aA (pH) ((qZ)))))))))))))))))))))) (aA (dM) (aA (dZ) (aA (eJ) (aA (eO) (aA (eU) (aA (fB) (aA (fN) (aA (fQ) (aA (gG) (aA (gS) (aA (hU) (aA (iE) (aA (iY) (aA (jK) (aA (jU) (aA (kH) (aA (lE) (aA (mE) (aA (nQ) ((oW))))))))))))))))))))) [vr 37,vr 49,vr 61,vr 73,vr 85,vr 97,vr 109,vr 121,vr 133,vr 145,vr 157,vr 169,vr 181,vr 193,vr 205,vr 224,vr 243,vr 262]) (aA (dR w) (aA (dY w) (aA (eM w) (aA (eN w) (aA (eV w) (aA (eZ w) (aA (fM w) (aA (fU w) (aA (gH w) (aA (gR w) (aA (hV w) (aA (iH w) (aA (iZ w) (aA (jL w) (aA (jX w) (aA (kJ w) (aA (lH w) (aA (mG w) (aA (nO w) (aA (pE w) ((rG w))))))))))))))))))))))
theorem abd:∀w,dB w 329 (bK w (Jh w) 1974) (bM w 210 ⟨900,0,904,63⟩)=some ((bK w (Ec w) 2029),(bM w 211 ⟨905,0,905,5⟩)):=by
 have g:∀(b:Bool)(w0:ah),(λw=>dB w 329 (bK w (Jh w) 1974) (bM w 210 ⟨900,0,904,63⟩)=some ((bK w (Ec w) 2029),(bM w 211 ⟨905,0,905,5⟩))) (w0.withFollow "special-get-raises" b):=by
  intro b w0;cases b<;>kernel_rfl
 intro w;have e:=g (w.params.followText "special-get-raises") w
 rwa[qy]at e
def vN:List (String×Nat×Value):=[("DEEDS",2043,vr 1340)]
def vE (w : ah) : List Obj :=
 ([⟨(.type "dict"), none, cO w.params 7 [("put", 2029, vr 1195), ("walk", 2030, vr 1202), ("both", 2031, vr 1209), ("push", 2032, vr 1223), ("turn", 2033, vr 1230), ("prism", 2034, vr 1244), ("pyramid", 2035, vr 1251)], #[]⟩])
def Tb(w:ah)  :List Obj:=aA (dP w v2q 202 (aA (dL) (aA (cK) (aA (eI) (aA (dF) (aA (eA) (aA (fF) (aA (fJ) (aA (fT) (aA (eK) (aA (gM) (aA (hZ) (aA (iI) (aA (iX) (aA (jJ) (aA (jV) (aA (kI) (aA (lI) (aA (mK) (aA (nX) (aA (pH) (aA (qZ) ((vN))))))))))))))))))))))) (aA (dM) (aA (dZ) (aA (eJ) (aA (eO) (aA (eU) (aA (fB) (aA (fN) (aA (fQ) (aA (gG) (aA (gS) (aA (hU) (aA (iE) (aA (iY) (aA (jK) (aA (jU) (aA (kH) (aA (lE) (aA (mE) (aA (nQ) ((oW))))))))))))))))))))) [vr 37,vr 49,vr 61,vr 73,vr 85,vr 97,vr 109,vr 121,vr 133,vr 145,vr 157,vr 169,vr 181,vr 193,vr 205,vr 224,vr 243,vr 262]) (aA (dR w) (aA (dY w) (aA (eM w) (aA (eN w) (aA (eV w) (aA (eZ w) (aA (fM w) (aA (fU w) (aA (gH w) (aA (gR w) (aA (hV w) (aA (iH w) (aA (iZ w) (aA (jL w) (aA (jX w) (aA (kJ w) (aA (lH w) (aA (mG w) (aA (nO w) (aA (pE w) (aA (rG w) ((vE w)))))))))))))))))))))))
theorem aaR:∀w,dB w 122 (bK w (Ec w) 2029) (bM w 211 ⟨905,0,905,5⟩)=some ((bK w (Tb w) 2044),(bM w 212 ⟨906,0,906,5⟩)):=by
 have g:∀(b:Bool)(w0:ah),(λw=>dB w 122 (bK w (Ec w) 2029) (bM w 211 ⟨905,0,905,5⟩)=some ((bK w (Tb w) 2044),(bM w 212 ⟨906,0,906,5⟩))) (w0.withFollow "special-get-raises" b):=by
  intro b w0;cases b<;>kernel_rfl
 intro w;have e:=g (w.params.followText "special-get-raises") w
 rwa[qy]at e
def yQ:List (String×Nat×Value):=[("QUESTIONS",2058,vr 1341)]
def yN (w : ah) : List Obj :=
 ([⟨(.type "dict"), none, cO w.params 7 [("shown", 2044, vr 1258), ("size", 2045, vr 1265), ("count", 2046, vr 1272), ("same", 2047, vr 1279), ("led", 2048, vr 1305), ("pushed", 2049, vr 1312), ("never", 2050, vr 1319)], #[]⟩])
def Vg(w:ah)  :List Obj:=aA (dP w v2q 203 (aA (dL) (aA (cK) (aA (eI) (aA (dF) (aA (eA) (aA (fF) (aA (fJ) (aA (fT) (aA (eK) (aA (gM) (aA (hZ) (aA (iI) (aA (iX) (aA (jJ) (aA (jV) (aA (kI) (aA (lI) (aA (mK) (aA (nX) (aA (pH) (aA (qZ) (aA (vN) ((yQ)))))))))))))))))))))))) (aA (dM) (aA (dZ) (aA (eJ) (aA (eO) (aA (eU) (aA (fB) (aA (fN) (aA (fQ) (aA (gG) (aA (gS) (aA (hU) (aA (iE) (aA (iY) (aA (jK) (aA (jU) (aA (kH) (aA (lE) (aA (mE) (aA (nQ) ((oW))))))))))))))))))))) [vr 37,vr 49,vr 61,vr 73,vr 85,vr 97,vr 109,vr 121,vr 133,vr 145,vr 157,vr 169,vr 181,vr 193,vr 205,vr 224,vr 243,vr 262]) (aA (dR w) (aA (dY w) (aA (eM w) (aA (eN w) (aA (eV w) (aA (eZ w) (aA (fM w) (aA (fU w) (aA (gH w) (aA (gR w) (aA (hV w) (aA (iH w) (aA (iZ w) (aA (jL w) (aA (jX w) (aA (kJ w) (aA (lH w) (aA (mG w) (aA (nO w) (aA (pE w) (aA (rG w) (aA (vE w) ((yN w))))))))))))))))))))))))
theorem aae:∀w,dB w 122 (bK w (Tb w) 2044) (bM w 212 ⟨906,0,906,5⟩)=some ((bK w (Vg w) 2059),(bM w 213 ⟨907,0,907,9⟩)):=by
 have g:∀(b:Bool)(w0:ah),(λw=>dB w 122 (bK w (Tb w) 2044) (bM w 212 ⟨906,0,906,5⟩)=some ((bK w (Vg w) 2059),(bM w 213 ⟨907,0,907,9⟩))) (w0.withFollow "special-get-raises" b):=by
  intro b w0;cases b<;>kernel_rfl
 intro w;have e:=g (w.params.followText "special-get-raises") w
 rwa[qy]at e
def Ub:List (String×Nat×Value):=[("is_name",2064,vr 1346),("read_row",2070,vr 1351),("Desk",2141,vr 1401)]
def Ib:AD:=[vi 908,vi 0,vr 1345,vi 910,vi 0,vr 1350,vi 920,vi 0,vr 1357]
def Hc (w : ah) : List Obj :=
 aA (gF v2q (aH 213) "is_name" "is_name" 908 1 1342 2059 [] .none)
 (aA (gF v2q (aH 214) "read_row" "read_row" 910 1 1347 2065 [] .none)
 (aA ([⟨(.type "tuple"), none, .seq #[] 0, #[]⟩,
 ⟨(.type "builtin_function_or_method"), none, .fields #[(.builtin "type.__prepare__"), (.type "type")], #[]⟩,
 ⟨(.type "dict"), none, cO w.params 10 [("__module__", 2078, vs "scissorhall.desk" 1793), ("__qualname__", 2080, vs "Desk" 2079), ("__firstlineno__", 2082, (.int 920 2081)), ("__init__", 2089, vr 1365), ("tell", 2100, vr 1372), ("found", 2106, vr 1377), ("let_stand", 2116, vr 1384), ("take_back", 2123, vr 1391), ("do_again", 2130, vr 1398), ("__static_attributes__", 2134, vr 1399)], #[]⟩,
 ⟨(.type "tuple"), none, .seq #[] 0, #[]⟩,
 ⟨.none, none, .fields #[vi 922, vi 4, vr 1364, vi 927, vi 4, vr 1371, vi 946, vi 4, vr 1376, vi 951, vi 4, vr 1383, vi 961, vi 4, vr 1390, vi 967, vi 4, vr 1397], #[]⟩,
 ⟨(.type "code"), none, .fields #[vs "Desk" 2073, vs "Desk" 2074, vs "/claim/cut.py" 2075, vi 920, vi 0, vi 0, vi 0, vi 0, vr 1355, (.bool false), vi 181, vr 1356, .none, .none, .none, .none, vi 2076, vi 920, vs "/claim/cut.py" 2077], #[]⟩,
 ⟨(.type "frame"), none, .plain, #[some (vr 1357), some (vr 3), some (vr 1354), none, some v2q, none, some (vr 0)]⟩])
 (aA (gF v2q (dQ 215 0) "__init__" "Desk.__init__" 922 1 1359 2083 ["self"] .none)
 (aA (gF v2q (dQ 215 1) "tell" "Desk.tell" 927 2 1366 2090 ["self", "line", "row", "word", "names"] .none)
 (aA (gF v2q (dQ 215 2) "found" "Desk.found" 946 2 1373 2101 [] .none)
 (aA (gF v2q (dQ 215 3) "let_stand" "Desk.let_stand" 951 3 1378 2107 ["self", "name", "heap", "heaps"] .none)
 (aA (gF v2q (dQ 215 4) "take_back" "Desk.take_back" 961 1 1385 2117 ["self"] .none)
 (aA (gF v2q (dQ 215 5) "do_again" "Desk.do_again" 967 1 1392 2124 ["self"] .none)
 (([⟨(.type "tuple"), none, .seq #[vs "future" 2131, vs "heaps" 2132, vs "past" 2133] 0, #[]⟩,
 ⟨(.type "dict"), none, cO w.params 4 [("__module__", 2078, vs "scissorhall.desk" 1793), ("__firstlineno__", 2082, (.int 920 2081)), ("__init__", 2089, vr 1365), ("tell", 2100, vr 1372), ("found", 2106, vr 1377), ("let_stand", 2116, vr 1384), ("take_back", 2123, vr 1391), ("do_again", 2130, vr 1398), ("__static_attributes__", 2134, vr 1399), ("__dict__", 2136, vr 1402), ("__weakref__", 2138, vr 1403), ("__doc__", 2139, .none)], #[]⟩,
 ⟨(.type "type"), none, .cls { name := "Desk", bases := [(.type "object")], mro := [vr 1401, (.type "object")], ns := 1400, qualname := "Desk", hasDict := true, subclasses := [] }, #[none, none, some (vs "Desk" 2071), some (vs "Desk" 2079), some (.builtin "object.__new__"), some (.bool true)]⟩,
 ⟨(.type "getset_descriptor"), none, .fields #[vs "__dict__" 2135, vr 1401, (.builtin "function.__dict__"), (.builtin "function.__dict__#set")], #[]⟩,
 ⟨(.type "getset_descriptor"), none, .fields #[vs "__weakref__" 2137, vr 1401, (.builtin "ExceptionGroup.__weakref__"), .none], #[]⟩,
 ⟨(.type "super"), none, .fields #[vr 1401, vr 1401, vr 1401], #[]⟩,
 ⟨(.type "builtin_function_or_method"), none, .fields #[(.builtin "object.__init_subclass__"), vr 1401], #[]⟩]))))))))))
def Eu(w:ah)  :List Obj:=aA (dP w v2q 206 (aA (dL) (aA (cK) (aA (eI) (aA (dF) (aA (eA) (aA (fF) (aA (fJ) (aA (fT) (aA (eK) (aA (gM) (aA (hZ) (aA (iI) (aA (iX) (aA (jJ) (aA (jV) (aA (kI) (aA (lI) (aA (mK) (aA (nX) (aA (pH) (aA (qZ) (aA (vN) (aA (yQ) ((Ub))))))))))))))))))))))))) (aA (dM) (aA (dZ) (aA (eJ) (aA (eO) (aA (eU) (aA (fB) (aA (fN) (aA (fQ) (aA (gG) (aA (gS) (aA (hU) (aA (iE) (aA (iY) (aA (jK) (aA (jU) (aA (kH) (aA (lE) (aA (mE) (aA (nQ) (aA (oW) ((Ib)))))))))))))))))))))) [vr 37,vr 49,vr 61,vr 73,vr 85,vr 97,vr 109,vr 121,vr 133,vr 145,vr 157,vr 169,vr 181,vr 193,vr 205,vr 224,vr 243,vr 262]) (aA (dR w) (aA (dY w) (aA (eM w) (aA (eN w) (aA (eV w) (aA (eZ w) (aA (fM w) (aA (fU w) (aA (gH w) (aA (gR w) (aA (hV w) (aA (iH w) (aA (iZ w) (aA (jL w) (aA (jX w) (aA (kJ w) (aA (lH w) (aA (mG w) (aA (nO w) (aA (pE w) (aA (rG w) (aA (vE w) (aA (yN w) ((Hc w)))))))))))))))))))))))))
theorem aaN:∀w,dB w 434 (bK w (Vg w) 2059) (bM w 213 ⟨907,0,907,9⟩)=some ((bK w (Eu w) 2142),(bM w 216 ⟨920,0,971,38⟩)):=by
 intro w
 kernel_rfl
def Yg:List (String×Nat×Value):=[("_law_row",2156,vr 1412),("_law_take",2165,vr 1419),("_law_tell",2175,vr 1426),("_law_refusal",2182,vr 1433),("_law_bad_name",2188,vr 1438),("_law_texts",2196,vr 1445)]
def Ah:AD:=[vi 973,vi 0,vr 1411,vi 987,vi 0,vr 1418,vi 995,vi 0,vr 1425,vi 1010,vi 0,vr 1432,vi 1012,vi 0,vr 1437,vi 1025,vi 0,vr 1444]
def Ch(w:ah):List Obj:=
 aA (gF vLq (aH 217) "_law_row" "_law_row" 973 1 1406 2144 ["_law_script","_law_row_here","_law_k","_law_cell","_law_one","_law_two","_law_three"] .none)
 (aA (gF vLq (aH 218) "_law_take" "_law_take" 987 2 1413 2157 ["_law_row_here","_law_many","_law_found"] .none)
 (aA (gF vLq (aH 219) "_law_tell" "_law_tell" 995 2 1420 2166 ["_law_desk","_law_line_here","_law_found","e"] .none)
 (aA (gF vLq (aH 220) "_law_refusal" "_law_refusal" 1010 1 1427 2176 ["_law_code"] .none)
 (aA (gF vLq (aH 221) "_law_bad_name" "_law_bad_name" 1012 1 1434 2183 [] .none)
 ((gF vLq (aH 222) "_law_texts" "_law_texts" 1025 0 1439 2189 ["_law_texts_here","_law_word"] .none))))))
def Qt(w:ah)  :List Obj:=aA (dP w vLq 212 (aA (dL) (aA (cK) (aA (eI) (aA (dF) (aA (eA) (aA (fF) (aA (fJ) (aA (fT) (aA (eK) (aA (gM) (aA (hZ) (aA (iI) (aA (iX) (aA (jJ) (aA (jV) (aA (kI) (aA (lI) (aA (mK) (aA (nX) (aA (pH) (aA (qZ) (aA (vN) (aA (yQ) (aA (Ub) ((Yg)))))))))))))))))))))))))) (aA (dM) (aA (dZ) (aA (eJ) (aA (eO) (aA (eU) (aA (fB) (aA (fN) (aA (fQ) (aA (gG) (aA (gS) (aA (hU) (aA (iE) (aA (iY) (aA (jK) (aA (jU) (aA (kH) (aA (lE) (aA (mE) (aA (nQ) (aA (oW) (aA (Ib) ((Ah))))))))))))))))))))))) [vr 37,vr 49,vr 61,vr 73,vr 85,vr 97,vr 109,vr 121,vr 133,vr 145,vr 157,vr 169,vr 181,vr 193,vr 205,vr 224,vr 243,vr 262]) (aA (dR w) (aA (dY w) (aA (eM w) (aA (eN w) (aA (eV w) (aA (eZ w) (aA (fM w) (aA (fU w) (aA (gH w) (aA (gR w) (aA (hV w) (aA (iH w) (aA (iZ w) (aA (jL w) (aA (jX w) (aA (kJ w) (aA (lH w) (aA (mG w) (aA (nO w) (aA (pE w) (aA (rG w) (aA (vE w) (aA (yN w) (aA (Hc w) ((Ch w))))))))))))))))))))))))))
theorem aa7:∀w,dB w 192 (bK w (Eu w) 2142) (bM w 216 ⟨920,0,971,38⟩)=some ((bK w (Qt w) 2197),(bM w 223 ⟨1025,0,1035,26⟩)):=by
 intro w
 kernel_rfl
def Au:List (String×Nat×Value):=[("_law_line",2202,vr 1450),("_law_looks",2208,vr 1455)]
def Ut:AD:=[vi 1036,vi 0,vr 1449,vi 1043,vi 0,vr 1454]
def Cu(w:ah):List Obj:=
 aA (gF vLq (aH 223) "_law_line" "_law_line" 1036 4 1446 2197 [] .none)
 ((gF vLq (aH 224) "_law_looks" "_law_looks" 1043 1 1451 2203 [] .none))
def Hh(w:ah)  :List Obj:=aA (dP w vLq 214 (aA (dL) (aA (cK) (aA (eI) (aA (dF) (aA (eA) (aA (fF) (aA (fJ) (aA (fT) (aA (eK) (aA (gM) (aA (hZ) (aA (iI) (aA (iX) (aA (jJ) (aA (jV) (aA (kI) (aA (lI) (aA (mK) (aA (nX) (aA (pH) (aA (qZ) (aA (vN) (aA (yQ) (aA (Ub) (aA (Yg) ((Au))))))))))))))))))))))))))) (aA (dM) (aA (dZ) (aA (eJ) (aA (eO) (aA (eU) (aA (fB) (aA (fN) (aA (fQ) (aA (gG) (aA (gS) (aA (hU) (aA (iE) (aA (iY) (aA (jK) (aA (jU) (aA (kH) (aA (lE) (aA (mE) (aA (nQ) (aA (oW) (aA (Ib) (aA (Ah) ((Ut)))))))))))))))))))))))) [vr 37,vr 49,vr 61,vr 73,vr 85,vr 97,vr 109,vr 121,vr 133,vr 145,vr 157,vr 169,vr 181,vr 193,vr 205,vr 224,vr 243,vr 262]) (aA (dR w) (aA (dY w) (aA (eM w) (aA (eN w) (aA (eV w) (aA (eZ w) (aA (fM w) (aA (fU w) (aA (gH w) (aA (gR w) (aA (hV w) (aA (iH w) (aA (iZ w) (aA (jL w) (aA (jX w) (aA (kJ w) (aA (lH w) (aA (mG w) (aA (nO w) (aA (pE w) (aA (rG w) (aA (vE w) (aA (yN w) (aA (Hc w) (aA (Ch w) ((Cu w)))))))))))))))))))))))))))
theorem abp:∀w,dB w 52 (bK w (Qt w) 2197) (bM w 223 ⟨1025,0,1035,26⟩)=some ((bK w (Hh w) 2209),(bM w 225 ⟨1043,0,1044,117⟩)):=by
 intro w
 kernel_rfl
def adA:List (String×Nat×Value):=[("law",2223,vr 1462)]
def ac6:AD:=[vi 1045,vi 0,vr 1461]
def adi(w:ah):List Obj:=
 (gF vLq (aH 225) "law" "law" 1045 1 1456 2209 ["_law_script","_law_row_here","_law_desk","_law_line_here","_law_here","_law_texts_here","_law_word","_law_many","_law_text"] .none)
def ady(w:ah)  :List Obj:=aA (dP w vLq 215 (aA (dL) (aA (cK) (aA (eI) (aA (dF) (aA (eA) (aA (fF) (aA (fJ) (aA (fT) (aA (eK) (aA (gM) (aA (hZ) (aA (iI) (aA (iX) (aA (jJ) (aA (jV) (aA (kI) (aA (lI) (aA (mK) (aA (nX) (aA (pH) (aA (qZ) (aA (vN) (aA (yQ) (aA (Ub) (aA (Yg) (aA (Au) ((adA)))))))))))))))))))))))))))) (aA (dM) (aA (dZ) (aA (eJ) (aA (eO) (aA (eU) (aA (fB) (aA (fN) (aA (fQ) (aA (gG) (aA (gS) (aA (hU) (aA (iE) (aA (iY) (aA (jK) (aA (jU) (aA (kH) (aA (lE) (aA (mE) (aA (nQ) (aA (oW) (aA (Ib) (aA (Ah) (aA (Ut) ((ac6))))))))))))))))))))))))) [vr 37,vr 49,vr 61,vr 73,vr 85,vr 97,vr 109,vr 121,vr 133,vr 145,vr 157,vr 169,vr 181,vr 193,vr 205,vr 224,vr 243,vr 262]) (aA (dR w) (aA (dY w) (aA (eM w) (aA (eN w) (aA (eV w) (aA (eZ w) (aA (fM w) (aA (fU w) (aA (gH w) (aA (gR w) (aA (hV w) (aA (iH w) (aA (iZ w) (aA (jL w) (aA (jX w) (aA (kJ w) (aA (lH w) (aA (mG w) (aA (nO w) (aA (pE w) (aA (rG w) (aA (vE w) (aA (yN w) (aA (Hc w) (aA (Ch w) (aA (Cu w) ((adi w))))))))))))))))))))))))))))
abbrev yR(w:ah):Shared:=bK w (ady w) 2224
theorem Mt:∀w,topRun treeTable cr w 11 (some (.ref 6)) (22860-11342) (bK w (Hh w) 2209) (bM w 225 ⟨1043,0,1044,117⟩)=some (yR w):=by
 intro w
 kernel_rfl
theorem adD:∀w,(staticsOk (importedModules cr.main.body) (jC w).heap (yR w).heap&&namesBound cr (yR w).heap&&gensDone (yR w)&&laidKept (jC w).heap (yR w).heap)=true:=by
 intro w
 kernel_rfl
abbrev RN(w:ah):Option Shared:=topRun treeTable cr w 11 (some (.ref 6)) (22860-11342) (bK w (Hh w) 2209) (bM w 225 ⟨1043,0,1044,117⟩)
theorem W3{tb:String->Option Builtin}{p:Program}{w:ah}{N n0:Nat}{ann:AE}{S0 SE:Shared}(h0:fencedOpening tb p w N=some S0)(hn:(S0.heap.isNs mainGlobals&&S0.gens.size==0)=true)(e1:S0.heap.objs.size=n0)(e2:S0.heap.nsMap mainGlobals "__annotations__"=ann)(hr:topRun tb p w n0 ann N S0 (topStub p)=some SE)
  (hc:(staticsOk (importedModules p.main.body) S0.heap SE.heap&&namesBound p SE.heap&&gensDone SE&&laidKept S0.heap SE.heap)=true):openEnds tb p w N=some SE:=by
 unfold openEnds;rw[h0,Option.bind_some];unfold topFrom;rw[hn];dsimp only;rw[e1,e2,hr];show(match(staticsOk (importedModules p.main.body) S0.heap SE.heap&&namesBound p SE.heap&&gensDone SE&&laidKept S0.heap SE.heap)with
  |true=>some SE
  |false=>none)=_
 rw[hc]
theorem adh:∀w,openEnds treeTable cr w 22860=RN w:=λw=>(W3 (hs0 w) (jP w) (Yu w).1 (Yu w).2
 ((dI 2124 20736 (acM w)).trans ((dI 2015 18721 (abH w)).trans ((dI 393 18328 (abT w)).trans ((dI 369 17959 (abK w)).trans ((dI 368 17591 (acT w)).trans ((dI 1022 16569 (abR w)).trans ((dI 311 16258 (acv w)).trans ((dI 424 15834 (abz w)).trans ((dI 259 15575 (aby w)).trans ((dI 256 15319 (aa3 w)).trans ((dI 330 14989 (aas w)).trans ((dI 253 14736 (aaE w)).trans ((dI 264 14472 (aa5 w)).trans ((dI 254 14218 (abj w)).trans ((dI 221 13997 (abh w)).trans ((dI 373 13624 (aa8 w)).trans ((dI 253 13371 (aaW w)).trans ((dI 212 13159 (aai w)).trans ((dI 182 12977 (aa6 w)).trans ((dI 208 12769 (Z5 w)).trans ((dI 329 12440 (abd w)).trans ((dI 122 12318 (aaR w)).trans ((dI 122 12196 (aae w)).trans ((dI 434 11762 (aaN w)).trans ((dI 192 11570 (aa7 w)).trans ((dI 52 11518 (abp w)).trans (Mt w))))))))))))))))))))))))))) (adD w)).trans (Mt w).symm
abbrev LW:=looseW VW Sc.LO
theorem acK:∀w,(RN w).map (λs=>qz (nu KK KA KE) s)=some (re (nu KK KA KE) w):=by
 intro w
 kernel_rfl
theorem abW:∀w,(RN w).map (λs=>seen ((recsOf VW).map (·.name)) (ownsOf VW) [] {s with gens:=#[]})=some (expectedOf VW):=by
 intro w
 kernel_rfl
theorem acq:∀w,(RN w).map (λs=>s.heap.bltView)=some (bltViewBooted):=by
 intro w
 kernel_rfl
theorem acx:∀w,(RN w).map (λs=>s.heap.keysOk LW ((recsOf VW).map (·.name)) ((litsOf VW).map (·.1)) ((clssOf VW LW).map (·.name)))=some (true):=by
 intro w
 kernel_rfl
theorem acu:∀w,(RN w).map (λs=>s.heap.accountedOkI (importedModules cr.main.body)&&(s.heap.isNs mainGlobals&&s.heap.isNs builtinsNs&&tablesOk VW s.heap)&&((λs=>wo VW [] s&&wq (rm (rn (rq fv))) s) s&&(s.gens.size==0)))=some (true):=by
 intro w
 kernel_rfl
theorem acg:∀w,(RN w).map (λs=>tabsOk VW s)=some (true):=by
 intro w
 kernel_rfl
theorem acE:∀w,(RN w).map (λs=>(pinSeenD VW (drecsOf VW) s,plainSeenD VW Sc.LO s,clsSeenW VW Sc.LO s))=some (pinGoodD (drecsOf VW),plainGoodD VW Sc.LO,clsGoodW VW Sc.LO):=by
 intro w
 kernel_rfl
theorem acJ:∀w,(RN w).map (λs=>plainSeenE VW LW s)=some (plainGoodE VW LW):=by
 intro w
 kernel_rfl
theorem abP:∀w,(RN w).map (λs=>wideSeen VW s)=some (wideGood VW):=by
 intro w
 kernel_rfl
theorem bz  (h:k=true)(h2:(a&&(n&&m&&t)&&(x&&g))=true):(k&&a&&n&&m&&t&&x&&g)=true:=by grind
theorem adx{A B C P Q R T V Y:Type}{o:Option Shared}{y:Y}{G:Shared->Y}{k a n m t x g f:Shared->Bool}{b:Shared->B}{c:Shared->C}{p:Shared->P}{q:Shared->Q}{r:Shared->R}{u:Shared->T}{v:Shared->V}{b':B}{c':C}{p':P}{q':Q}{r':R}{u':T}{v':V}(hA:o.map G=some y)(hB:o.map b=some b')(hC:o.map c=some c')(hD:o.map k=some true)(hE:o.map (λs=>a s&&(n s&&m s&&t s)&&(x s&&g s))=some true)(hF:o.map f=some true)
  (hG:o.map (λs=>(p s,q s,r s))=some (p',q',r'))(hH:o.map u=some u')(hI:o.map v=some v'):o.map (λs=>((b s,c s,(k s&&a s&&n s&&m s&&t s&&x s&&g s),f s,p s,u s,q s,v s,r s),G s))=some ((b',c',true,true,p',u',q',v',r'),y):=by
 cases o<;>simp_all
theorem left:LeftO cr VW Sc.LO (λs=>wo VW [] s&&wq (rm (rn (rq fv))) s) (qz (nu KK KA KE)) (re (nu KK KA KE)) 22860:=λw=>(congrArg (Option.map _) (adh w)).trans (adx (A:=Nat) (acK w) (abW w) (acq w) (acx w) (acu w) (acg w) (acE w) (acJ w) (abP w))
end
end Sc
set_option maxHeartbeats 200000
set_option Elab.async false
set_option compiler.extract_closed false
set_option bootstrap.genMatcherCode false
set_option linter.all false
set_option maxRecDepth 100000
namespace L2
open PySem PySem.Spec PyProof.Rows
abbrev bN:=Sum Int Str
def vC:bN->Value->Bool
 |.inl k,v=>Value.isInt k v
 |.inr x,v=>wr x v
def adv(w:ah):bN->Int
 |.inl k=>hashInt k
 |.inr x=>hashStr w x
theorem lQ:∀{k:bN}{v:Value},vC k v=true->(∃i t,k=lr i/\v=kd i t)\/(∃x t,k=cp x/\v=ke x t)
 |.inl i,v,h=>by
  obtain⟨t,e⟩:=Value.isInt_shape   h;exact .inl ⟨i,t,rfl,e⟩
 |.inr x,v,h=>by
  obtain⟨t,e⟩:=Value.isStrOf_shape   h;exact .inr ⟨x,t,rfl,e⟩
theorem Bz(i:Int)(t:bg):vC (.inl i) (.int i t)=true:=by simp[vC,Value.isInt]
theorem B5(x:Str)(t:bg):vC (.inr x) (.str x t)=true:=by simp[vC,wr]
theorem aab(a b:Int):decide ((lr a:bN)=lr b)=(a==b):=by
 by_cases e:a=b
 .simp_all
 simp_all
theorem aaA(a b:Str):decide ((cp a:bN)=cp b)=decide (a=b):=by
 simp_all
theorem Y2(a:Int)(b:Str):decide ((lr a:bN)=cp b)=false:=rfl
theorem aaf(a:Str)(b:Int):decide ((cp a:bN)=lr b)=false:=rfl
def fO(prog:Program)(w:ah):PySem.KeyKind prog w bN where
 is:=vC
 hash:=adv w
 inj:=λv a b ha hb=>by
  rcases lQ ha with⟨i,t,rfl,rfl⟩|⟨x,t,rfl,rfl⟩
  .rcases lQ hb with⟨j,u,rfl,e⟩|⟨y,u,rfl,e⟩
   .injection e with e1 _;rw[e1]
   .exact nomatch e
  .rcases lQ hb with⟨j,u,rfl,e⟩|⟨y,u,rfl,e⟩
   .exact nomatch e
   .injection e with e1 _;rw[e1]
 byValue:=λk v h=>by
  rcases lQ h with⟨i,t,rfl,rfl⟩|⟨x,t,rfl,rfl⟩<;>rfl
 pyHash:=λhv h=>by
  rcases lQ hv with⟨i,t,rfl,rfl⟩|⟨x,t,rfl,rfl⟩
  .exact wpAny_pyHash_int h
  .exact wpAny_pyHash_str h
 eqBool:=λhu hv h=>by
  rcases lQ hu with⟨i,t,rfl,rfl⟩|⟨x,t,rfl,rfl⟩
  .rcases lQ hv with⟨j,u,rfl,rfl⟩|⟨y,u,rfl,rfl⟩
   .rw[aab]at h;exact wpAny_eqBool_int h
   .rw[Y2]at h;exact SeqAt.EqAt.int_str i t y u _ _ _ _ h
  .rcases lQ hv with⟨j,u,rfl,rfl⟩|⟨y,u,rfl,rfl⟩
   .rw[aaf]at h;exact SeqAt.EqAt.str_int x t j u _ _ _ _ h
   .rw[aaA]at h;exact wpAny_eqBool_str h
 «strs»:=λk x t v h=>by
  rcases lQ h with⟨i,u,rfl,e⟩|⟨y,u,rfl,e⟩
  .exact nomatch e
  .injection e with e1 _
   subst e1;cases v<;>rfl
theorem Zw(prog:Program)(w:ah)(i:Int)(t:bg):(fO prog w).is (.inl i) (.int i t)=true:=Bz i t
theorem Rx(prog:Program)(w:ah)(x:Str)(t:bg):(fO prog w).is (.inr x) (.str x t)=true:=B5 x t
inductive V where
 |non |bl (b:Bool) |int (i:Int) |str (x:Str) |byt (b:Array UInt8) |flt (b:UInt64) |ref (a:Addr) |ty (n:String)
 deriving DecidableEq
def aT:V->Value->Prop
 |.non,u=>u=bb
 |.bl b,u=>u=nv b
 |.int i,u=>∃t,u=kd i t
 |.str x,u=>∃t,u=ke x t
 |.byt b,u=>∃t,u=Value.bytes b t
 |.flt b,u=>∃t,u=Value.float b t
 |.ref a,u=>u=az a
 |.ty n,u=>u=Value.type n
abbrev aS:List V->AD->Prop:=io aT
theorem aS.length   (r:aS xs us):xs.length=us.length:=ny r
theorem aS.get:∀{xs:List V}{us:AD}{i:Nat}{x:V},aS xs us->xs[i]?=some x->∃u,us[i]?=some u/\aT x u
 |_,_,_,_,.nil,e=>by simp at e
 |_,_,0,_,.cons r _,e=>by simp at e;subst e;exact⟨_,rfl,r⟩
 |_,_,i+1,x,.cons _ t,e=>by
  obtain⟨u,h1,h2⟩:=aS.get   t (by simpa using e);exact⟨u,by simpa using h1,h2⟩
theorem aS.set   (r:aT x u):∀{xs:List V}{us:AD}(i:Nat),aS xs us->aS (xs.set i x) (us.set i u)
 |_,_,_,.nil=>.nil
 |_,_,0,.cons _ t=>.cons r t
 |_,_,i+1,.cons q t=>.cons q (aS.set r i t)
theorem aS.append:∀{xs ys:List V}{us ws:AD},aS xs us->aS ys ws->aS (xs++ys) (us++ws)
 |_,_,_,_,.nil,s=>s
 |_,_,_,_,.cons r t,s=>.cons r (aS.append t s)
theorem aS.take:∀{xs:List V}{us:AD}(n:Nat),aS xs us->aS (xs.take n) (us.take n)
 |_,_,0,_=>.nil
 |_,_,_+1,.nil=>.nil
 |_,_,n+1,.cons r t=>.cons r (aS.take n t)
theorem aS.drop:∀{xs:List V}{us:AD}(n:Nat),aS xs us->aS (xs.drop n) (us.drop n)
 |_,_,0,r=>r
 |_,_,_+1,.nil=>.nil
 |_,_,n+1,.cons _ t=>aS.drop n t
def hJ:Option V->AE->Prop
 |some v,some u=>aT v u
 |none,none=>True
 |_,_=>False
def KV:List (κ×V)->List (κ×Value)->Prop:=io λ(p:κ×V) (q:κ×Value)=>p.1=q.1/\aT p.2 q.2
def kV:bN->V
 |.inl i=>.int i
 |.inr x=>.str x
inductive HO where
 /--a list -/
 |lst (xs:List V)
 /--a tuple (never changes) -/
 |tup (xs:List V)
 /--a dict whose keys are ints and texts;one whose keys are tuples of ints and texts (the empty one is both) -/
 |dK (kvs:List (bN×V)) |dT (kvs:List (List bN×V))
 /--a set of ints:its members,its size -/
 |set (S:Int->Bool) (n:Nat)
 /--an instance of the class at C,its dict at dx,its attributes -/
 |ins (C dx:Addr) (fs:List (Str×V))
 /--the dict of the instance at x -/
 |own (x:Addr)
 /--the dict of an exception -/
 |xd (fs:List (Str×V))
 /--a bound method,f of x -/
 |met (f x:Addr)
 /--a range object lo,lo+1,.. below hi -/
 |rng (lo hi:Int)
 /--a thing that is known to the object (the script;a dict while a loop walks it):read,never written while it is so -/
 |frz (o:Obj) (u:HO)
 /--a code object's table -/
 |tbl (ps:Array Value)
 /--any other thing,by what is true of its one object (a def of one's own:SetO a S n:=HO.ext λh=>..) -/
 |ext (φ:Heap->Prop)
abbrev Hp:=Addr->Option HO
def aN(H:Hp)(a:Addr)(o:HO):Hp:=λb=>if b=a then some o else H b
theorem cD   :aN H a o a=some o:=by unfold aN;simp_all
theorem aX  {a b:Addr}{o:HO}(h:b≠a):aN H a o b=H b:=by unfold aN;simp_all
theorem abL{H:Hp}{a b:Addr}{o u:HO}(h:H a=some o)(h':H b=some u)(d:o≠u):a≠b:=by
 intro e;subst e;rw[h]at h';exact d (dj h')
theorem cU{H:Hp}{a b:Addr}{o:HO}(h:H a=some o)(h':H b=none):a≠b:=by
 intro e;simp_all
section
variable(P:Program)(w:ah)
def eC(H:Hp)(h:Heap)(a:Addr):HO->Prop
 |.lst xs=>xs.length<=sizeLine/\∃(its:AD)(n:Nat),aS xs its/\h.get? a=some {cls:=.type "list",data:=.seq its.toArray n}
 |.tup xs=>(xs.length<=sizeLine/\∃o,h.get? a=some o/\o.dict=none)/\∃its:AD,aS xs its/\IsTup h a its.toArray
 |.dK kvs=>kvs.length<=sizeLine/\(a==sysModules)=false/\∃vs,KV kvs vs/\h.DictOf (fO P w) a vs
 |.dT kvs=>kvs.length<=sizeLine/\(a==sysModules)=false/\∃xs:List (List bN×Addr×Value),
   io (λ(p:List bN×V) (q:List bN×Addr×Value)=>p.1=q.1/\H q.2.1=some (.tup (p.1.map kV))/\aT p.2 q.2.2) kvs xs/\
   ∃o es ep,h.get? a=some o/\o.ExactDict/\o.data=.dict es ep/\es.toList=xs.map (entryOfKey (tupleKind (fO P w)))/\(xs.map (·.1)).Nodup
 |.set S n=>h.SetOf (intKind P w) a S n
 |.ins C dx fs=>H dx=some (.own a)/\fs.length<=1000/\dx≠a/\h.get? a=some (jc C dx)/\
   ∃mA,h.Ns1 dx mA/\(∀f,hJ (fs.lookup f) (mA f))/\sd mA (fs.map (·.1))
 |.own _=>∃o,h.get? a=some o
 |.xd fs=>∃mA,h.Ns1 a mA/\∀f,hJ (fs.lookup f) (mA f)
 |.rng lo hi=>∃t u v,h.get? a=some {cls:=.type "range",data:=.fields #[.int lo t,.int hi u,.int 1 v]}
 |.frz o u=>h.get? a=some o/\eC H h a u
 |.tbl ps=>h.get? a=some {cls:=.none,data:=.fields ps}
 |.met f x=>h.get? a=some (PySem.W.methodObj (.ref f) (.ref x))
 |.ext φ=>φ h/\(∃o,h.get? a=some o)/\∀h1 h2:Heap,φ h1->(∀o,h1.get? a=some o->h2.get? a=some o)->φ h2
def cT(H:Hp)(h:Heap):Prop:=∀a o,H a=some o->eC P w H h a o
end
section
variable{P:Program}{w:ah}{H H':Hp}{h h':Heap}{a:Addr}{o:HO}
theorem eC.lt(x:eC P w H h a o):a<h.objs.size:=by
 cases o with
 |lst xs=>obtain⟨_,_,_,_,e⟩:=x;exact au e
 |tup xs=>obtain⟨_,_,_,p⟩:=x;exact p.lt
 |dK kvs=>obtain⟨_,_,_,_,o,_,_,e,_⟩:=x;exact au e
 |dT kvs=>obtain⟨_,_,_,_,o,_,_,e,_⟩:=x;exact au e
 |set S n=>obtain⟨o,_,_,_,e,_⟩:=x;exact au e
 |ins C dx fs=>obtain⟨_,_,_,e,_⟩:=x;exact au e
 |own y=>obtain⟨_,e⟩:=x;exact au e
 |xd fs=>obtain⟨_,⟨_,_,_,e,_⟩,_⟩:=x;exact au e
 |rng lo hi=>obtain⟨_,_,_,e⟩:=x;exact au e
 |frz ob u=>obtain⟨e,_⟩:=x;exact au e
 |tbl ps=>exact au (show h.get? a=some _ from x)
 |met f y=>exact au (show h.get? a=some _ from x)
 |ext φ=>obtain⟨_,⟨_,e⟩,_⟩:=x;exact au e
theorem Paired.mapP  :∀{l₁:List α}{l₂:List β},io F l₁ l₂->(∀a b,F a b->G a b)->io G l₁ l₂
 |_,_,.nil,_=>.nil
 |_,_,.cons r t,f=>.cons (f _ _ r) (Paired.mapP t f)
theorem eC.stay(x:eC P w H h a o)(k:∀b u,(b=a\/H b=some (.own a))->h.get? b=some u->h'.get? b=some u)
  (ho:∀b,H b=some (.own a)->H' b=some (.own a))(ht:∀b xs,H b=some (.tup xs)->H' b=some (.tup xs)):eC P w H' h' a o:=by
 induction o with
 |lst xs=>obtain⟨z,its,n,r,e⟩:=x;exact⟨z,its,n,r,k _ _ (.inl rfl) e⟩
 |tup xs=>obtain⟨⟨z,o9,e9,d9⟩,its,r,ob,e,c⟩:=x;exact⟨⟨z,o9,k _ _ (.inl rfl) e9,d9⟩,its,r,ob,k _ _ (.inl rfl) e,c⟩
 |dK kvs=>obtain⟨z,y,vs,r,ob,es,ep,e,c⟩:=x;exact⟨z,y,vs,r,ob,es,ep,k _ _ (.inl rfl) e,c⟩
 |dT kvs=>
  obtain⟨z,y,xs,r,ob,es,ep,e,c⟩:=x;exact⟨z,y,xs,Paired.mapP r λp q z=>⟨z.1,ht _ _ z.2.1,z.2.2⟩,ob,es,ep,k _ _ (.inl rfl) e,c⟩
 |set S n=>obtain⟨ob,es,ep,t,e,c⟩:=x;exact⟨ob,es,ep,t,k _ _ (.inl rfl) e,c⟩
 |ins C dx fs=>
  obtain⟨d,z,ne,e,mA,⟨od,es,ep,e2,c⟩,r⟩:=x;exact⟨ho _ d,z,ne,k _ _ (.inl rfl) e,mA,⟨od,es,ep,k _ _ (.inr d) e2,c⟩,r⟩
 |own y=>obtain⟨ob,e⟩:=x;exact⟨ob,k _ _ (.inl rfl) e⟩
 |xd fs=>obtain⟨mA,⟨od,es,ep,e,c⟩,r⟩:=x;exact⟨mA,⟨od,es,ep,k _ _ (.inl rfl) e,c⟩,r⟩
 |rng lo hi=>obtain⟨t,u,v,e⟩:=x;exact⟨t,u,v,k _ _ (.inl rfl) e⟩
 |frz ob u ih=>obtain⟨e,q⟩:=x;exact⟨k _ _ (.inl rfl) e,ih q⟩
 |tbl ps=>
  have e:=x;exact k a _ (.inl rfl) e
 |met f y=>
  have e:=x;exact k a _ (.inl rfl) e
 |ext φ=>obtain⟨p,⟨o,e⟩,st⟩:=x;exact⟨st _ _ p λo q=>k _ _ (.inl rfl) q,⟨o,k _ _ (.inl rfl) e⟩,st⟩
theorem cT.lt(x:cT P w H h)(e:H a=some o):a<h.objs.size:=(x a o e).lt
theorem cT.fresh(x:cT P w H h)(e:h.objs.size<=a):H a=none:=by
 cases q:H a with
 |none=>rfl
 |some u=>exact absurd (bj (x.lt q) e) (dz _)
theorem cT.kept(x:cT P w H h)(k:∀b u,h.get? b=some u->h'.get? b=some u):cT P w H h':=λa o e=>
 (x a o e).stay (λb u _ q=>k b u q) (λ_ q=>q) λ_ _ q=>q
theorem cT.laid(x:cT P w H h)(k:∀b u,h.get? b=some u->h'.get? b=some u)(hp:h.objs.size<=a)(new:eC P w (aN H a o) h' a o):cT P w (aN H a o) h':=λb u e=>by
 have hn:=x.fresh hp
 by_cases hb:b=a
 .subst hb;rw[cD]at e;simp_all
 .rw[aX hb]at e
  exact(x b u e).stay (λc v _ q=>k c v q) (λc q=>by rw[aX (cU q hn)];exact q) λc xs q=>by rw[aX (cU q hn)];exact q
end
def Rd(H:Hp)(a:Addr)(u:HO):Prop:=H a=some u\/∃o,H a=some (.frz o u)
theorem Rd.ok   {H:Hp}{h:Heap}{a:Addr}{u:HO}(r:Rd H a u)(x:cT P w H h):eC P w H h a u:=by
 rcases r with r |⟨o,r⟩
 .exact x a u r
 .obtain⟨_,q⟩:=x a _ r
  exact q
def zD:Option HO->Prop
 |some (.lst _)=>True
 |some (.dK _)=>True
 |some (.dT _)=>True
 |some (.set _ _)=>True
 |some (.ins _ _ _)=>True
 |some (.ext _)=>True
 |_=>False
section
variable{P:Program}{w:ah}{H:Hp}{h h':Heap}{x e:Addr}{o':HO}
theorem cT.write(ok:cT P w H h)(mu:zD (H x))(he:e=x\/H e=some (.own x))(k:∀b u,b≠e->h.get? b=some u->h'.get? b=some u)(heo:∃u,h'.get? e=some u)
  (new:eC P w (aN H x o') h' x o'):cT P w (aN H x o') h':=λb u q=>by
 have nown:∀c y,H c=some (.own y)->c≠x:=λc y r z=>by subst z;rw[r]at mu;exact mu
 have ntup:∀c xs,H c=some (.tup xs)->c≠x:=λc xs r z=>by subst z;rw[r]at mu;exact mu
 by_cases hb:b=x
 .subst hb;rw[cD]at q;cases q;exact new
 .rw[aX hb]at q
  by_cases hbe:b=e
  .have q':H b=some (.own x):=by
    rcases he with z |z
    .exact absurd (hbe.trans z) hb
    .rw[hbe];exact z
   rw[q]at q';cases q';obtain⟨v,hv⟩:=heo;exact⟨v,by rw[hbe];exact hv⟩
  .refine(ok b u q).stay (λc v hc r=>k c v ?_ r) (λc r=>by rw[aX (nown c b r)];exact r) λc xs r=>by rw[aX (ntup c xs r)];exact r
   grind
end
structure Un(fs ex:List Addr)(H H':Hp)(h h':Heap):Prop where
 keep:∀b o,h.get? b=some o->H b=none->b∉fs->b∉ex->h'.get? b=some o
 slot:∀b o,h.get? b=some o->H b=none->b∈fs->b∉ex->∃sl,h'.get? b=some {o with slots:=sl}
 free:∀b o,h.get? b=some o->H b=none->b∉ex->H' b=none
 there:∀b o,h.get? b=some o->b∉ex->∃o',h'.get? b=some o'
 tups:∀b xs,H b=some (.tup xs)->H' b=some (.tup xs)
 frzs:∀b o u,H b=some (.frz o u)->H' b=some (.frz o u)
 tbls:∀b ps,H b=some (.tbl ps)->∃more,H' b=some (.tbl (ps++more))
section
variable{fs ex:List Addr}{H H1 H2:Hp}{h h1 h2 h':Heap}{a x e:Addr}{o:HO}
theorem Un.any(u:Un fs ex H H1 h h1){b:Addr}{ob:Obj}(q:h.get? b=some ob)(n:H b=none)(hx:b∉ex):∃sl,h1.get? b=some {ob with slots:=sl}:=by
 by_cases hb:b∈fs
 .exact u.slot b _ q n hb hx
 .exact⟨ob.slots,u.keep b _ q n hb hx⟩
theorem Un.trans(a:Un fs ex H H1 h h1)(b:Un fs ex H1 H2 h1 h2):Un fs ex H H2 h h2 where
 keep:=λc ob q n hc hx=>b.keep c _ (a.keep c _ q n hc hx) (a.free c _ q n hx) hc hx
 slot:=λc ob q n hc hx=>by
  obtain⟨sl,e1⟩:=a.slot c _ q n hc hx;obtain⟨sl',e2⟩:=b.slot c _ e1 (a.free c _ q n hx) hc hx;exact⟨sl',e2⟩
 free:=λc ob q n hx=>by
  obtain⟨o',e1⟩:=a.there c _ q hx;exact b.free c _ e1 (a.free c _ q n hx) hx
 there:=λc ob q hx=>by
  obtain⟨o',e1⟩:=a.there c _ q hx;exact b.there c _ e1 hx
 tups:=λc xs q=>b.tups c _ (a.tups c _ q)
 frzs:=λc ob xs q=>b.frzs c _ _ (a.frzs c _ _ q)
 tbls:=λc ps q=>by
  obtain⟨m1,e1⟩:=a.tbls c _ q;obtain⟨m2,e2⟩:=b.tbls c _ e1;exact⟨m1++m2,by simp_all ⟩
theorem Un.kept(k:∀b u,h.get? b=some u->h'.get? b=some u):Un fs ex H H h h':=
 ⟨λb ob q _ _ _=>k b _ q,λb ob q _ _ _=>⟨ob.slots,k b ob q⟩,λ_ _ _ n _=>n,λb ob q _=>⟨ob,k b _ q⟩,λ_ _ q=>q,λ_ _ _ q=>q,λ_ ps q=>⟨#[],by simp_all ⟩⟩
theorem Un.refl:Un fs ex H H h h:=Un.kept λ_ _ q=>q
theorem Un.laid(k:∀b u,h.get? b=some u->h'.get? b=some u)(hp:h.objs.size<=a)(hn:H a=none):Un fs ex H (aN H a o) h h' where
 keep:=λb u q _ _ _=>k b u q
 slot:=λb u q _ _ _=>⟨u.slots,k b u q⟩
 free:=λb u q n _=>by rw[aX (bc (bj (au q) hp))];exact n
 there:=λb u q _=>⟨u,k b u q⟩
 tups:=λb xs q=>by rw[aX (cU q hn)];exact q
 frzs:=λb u xs q=>by rw[aX (cU q hn)];exact q
 tbls:=λb ps q=>⟨#[],by rw[aX (cU q hn),q];simp⟩
theorem Un.write(mu:zD (H x))(he:e=x\/H e=some (.own x))(k:∀b u,b≠e->h.get? b=some u->h'.get? b=some u)(heo:∃u,h'.get? e=some u):Un fs ex H (aN H x o) h h':=by
 have hx:∀b,H b=none->b≠x:=λb n z=>by subst z;rw[n]at mu;exact mu
 have hb:∀b,H b=none->b≠e:=λb n z=>by
  subst z;rcases he with r |r
  .exact hx b n r
  .grind
 have hm:∀b u,H b=some u->¬zD (some u)->b≠x:=λb u q nm z=>by simp_all
 refine⟨λb u q n _ _=>k b u (hb b n) q,λb u q n _ _=>⟨u.slots,k b u (hb b n) q⟩,λb u q n _=>by rw[aX (hx b n)];exact n,λb u q _=>?_,
  λb xs q=>by rw[aX (hm b _ q λz=>z)];exact q,λb u xs q=>by rw[aX (hm b _ q λz=>z)];exact q,λb ps q=>⟨#[],by rw[aX (hm b _ q λz=>z),q];simp⟩⟩
 by_cases hbe:b=e
 .subst hbe;exact heo
 .exact⟨u,k b u hbe q⟩
end
def Mu(h:Heap)(H:Hp):List Addr:=(ee h.objs.size).filter λa=>(H a).isSome
def nR(h:Heap)(H:Hp):Heap:=se h (Mu h H)
theorem Zy(h:Heap)(H:Hp):(nR h H).objs.size=h.objs.size:=PySem.W.hideAll_size _ _
theorem G5  {H:Hp}{b:Addr}{o:Obj}(e:h.get? b=some o)(n:H b=none):(nR h H).get? b=some o:=
 sf _ e λhm=>by
  have q:=(oa.mp hm).2
  simp_all
theorem S5     (e:(nR h H).get? b=some o):h.get? b=some o/\H b=none:=by
 have e':=wt _ e;refine⟨e',?_⟩;cases q:H b with
 |none=>rfl
 |some x=>
  have hm:b∈Mu h H:=oa.mpr ⟨List.mem_range.mpr (au e'),by simp[q]⟩;have z:(nR h H).get? b=none:=PySem.W.hideAll_none _ hm
  simp_all
def O8(g h:Heap)(L:Addr):List (Addr×Obj):=(ee h.objs.size).filterMap λa=>if a=L\/(g.get? a).isSome=true then none else(h.get? a).map λo=>(a,o)
def eE(g h:Heap)(L d:Addr):List (Addr×Obj):=(O8 g h L).filter λp=>decide (p.1≠d)
structure Mod(K:aa)(mg:Str->AE)(base:Heap):Prop where
 kin:K.In base
 glob:base.Ns mainGlobals mg
 blt:∃mb,base.Ns builtinsNs mb/\∀x:Str,x≠"__name__"->mb x=bootBuiltins x
 nolimit:base.NoLimit
 seer:base.NoSeer
def FrO(P:Program)(A:aj)(st:List Env):Prop:=A.frames=some st/\P.given.tree=none/\A.depth+Builtin.pylongFrames<recursionLimit/\∃e l,st=e::l/\e.scope.isGenerator=false/\e.scope.isCoroutine=false/\e.builtins=builtinsNs/\e.globals=mainGlobals
structure Cx where
 prog:Program
 w:ah
 K:aa
 mg:Str->AE
 base:Heap
 A:aj
 N:List Str
 AM:Shared
 AN:Hp
 env:Env
 outer:List Env
 stack:List Env
 ex:List Addr
 fn:Str->Bool
 calm:Bool
 pn:List (Addr×Obj)
 xe:Value->Shared->Prop
def bP(l:List Env):List Addr:=l.filterMap (·.frame)
abbrev Cx.fs(X:Cx):List Addr:=bP X.outer
def lP(sc:Scope)(x:Str):Prop:=sc.names.lookup x=some .local\/sc.names.lookup x=some .cell\/sc.names.lookup x=some .free
def iJ(sc:Scope)(x:Str):Prop:=sc.names.lookup x=some .local\/sc.names.lookup x=some .cell
def ade(env:Env)(h:Heap)(m:Str->AE)(x:Str)(u:Value):Prop:=
 (env.kindOf x=some .local/\m x=some u)\/((env.kindOf x=some .cell\/env.kindOf x=some .free)/\∃c,env.cells.lookup x=some c/\h.IsCell c (some u))
structure Cx.Ok(X:Cx):Prop where
 mod:Mod X.K X.mg X.base
 kind:X.env.scope.kind=.function
 glob:X.env.globals=mainGlobals
 blt:X.env.builtins=builtinsNs
 above:X.AM.heap.objs.size<=X.env.locals
 inj:∀x y c,X.env.cells.lookup x=some c->X.env.cells.lookup y=some c->x=y
 has:∀x,(X.env.kindOf x=some .cell\/X.env.kindOf x=some .free)->∃c,X.env.cells.lookup x=some c
 cab:∀x c,X.fn x=true->X.env.cells.lookup x=some c->X.AM.heap.objs.size<=c
 hd:X.calm=true->X.A.handled=none
 frames:FrO X.prog X.A X.stack
 stk:X.stack=X.outer\/(X.stack=X.env::X.outer/\X.env.frame=some X.env.locals)
 exf:∀b∈X.ex,b≠X.env.locals/\∀x c,X.env.cells.lookup x=some c->c≠b
 bs:∀b o,X.base.get? b=some o->X.AM.heap.get? b=some o/\X.AN b=none
 bsz:X.base.objs.size<=X.AM.heap.objs.size
 noex:∀b o,X.base.get? b=some o->b∉X.ex
 exfs:∀b∈X.ex,b∉X.fs
 funs:X.AM.heap.FunFrames X.base X.outer
 frf:∀b∈X.fs,X.AN b=none
structure aF(X:Cx)(AL:List (Addr×Obj))(σ:List (Option V))(H:Hp)(s:Shared):Prop where
 ok:X.Ok
 os:s.os=X.AM.os
 bare:gf s.gens
 base:Un X.fs X.ex X.AN H X.AM.heap s.heap
 loc:∃m,s.heap.Ns X.env.locals m/\∀(i:Nat)(x:Str)(v:V),X.N[i]?=some x->σ[i]?=some (some v)->lP X.env.scope x->∃u,aT v u/\ade X.env s.heap m x u
 cell:∀x c,X.env.cells.lookup x=some c->∃v,s.heap.IsCell c v
 free:H X.env.locals=none
 freeC:∀x c,X.env.cells.lookup x=some c->H c=none
 pin:∀p∈X.pn++AL,s.heap.get? p.1=some p.2/\H p.1=none/\p.1≠X.env.locals/\p.1∉X.fs/\∀v,p.2.data≠.cell v
 hok:cT X.prog X.w H s.heap
 len:σ.length=X.N.length
section
variable{X:Cx}{AL:List (Addr×Obj)}{σ:List (Option V)}{H H':Hp}{s:Shared}{h':Heap}
theorem Cx.Ok.nofr(ok:X.Ok){b:Addr}{o:Obj}(e:X.base.get? b=some o):b∉X.fs:=λhb=>by
 have:=(ok.funs.mem hb).1;grind
theorem aF.bs(I:aF X AL σ H s):∀b o,X.base.get? b=some o->s.heap.get? b=some o/\H b=none:=λb o e=>
 ⟨I.base.keep b o (I.ok.bs b o e).1 (I.ok.bs b o e).2 (I.ok.nofr e) (I.ok.noex b o e),I.base.free b o (I.ok.bs b o e).1 (I.ok.bs b o e).2 (I.ok.noex b o e)⟩
theorem aF.bk(I:aF X AL σ H s):∀b o,X.base.get? b=some o->s.heap.get? b=some o:=λb o e=>(I.bs b o e).1
theorem aF.mod(I:aF X AL σ H s):Mod X.K X.mg X.base:=I.ok.mod
theorem aF.kIn(I:aF X AL σ H s):X.K.In s.heap:=I.ok.mod.kin.keeps I.bk
theorem aF.lt(I:aF X AL σ H s):X.env.locals<s.heap.objs.size:=let⟨_,hn,_⟩:=I.loc;hn.lt
theorem aF.sz(I:aF X AL σ H s):X.AM.heap.objs.size<=s.heap.objs.size:=dq I.ok.above (sg I.lt)
theorem aF.nofs(I:aF X AL σ H s){a:Addr}(h:s.heap.objs.size<=a):a∉X.fs:=λhb=>by
 obtain⟨_,o,ho,_⟩:=I.ok.funs.mem hb;exact absurd (bj (au ho) (dq I.sz h)) (dz _)
theorem aF.cne(I:aF X AL σ H s):∀x c,X.env.cells.lookup x=some c->c≠X.env.locals:=λx c e z=>by
 obtain⟨v,o,ho,hd⟩:=I.cell x c e;obtain⟨m,⟨o',es,ep,ho',hd',_⟩,_⟩:=I.loc;grind
theorem aF.funs(I:aF X AL σ H s):s.heap.FunFrames X.base X.outer:=by
 have all:∀l,(∀b∈bP l,b∈X.fs)->X.AM.heap.FunFrames X.base l->s.heap.FunFrames X.base l:=by
  intro l
  induction l with
  |nil=>intro _ _;trivial
  |cons env r ih=>
   intro hs hl;obtain⟨hk,⟨L,o,hf,hn,ho,hd⟩,hr⟩:=hl;have hL:=hs L (by unfold bP;rw[si,hf];exact ce);obtain⟨sl,e⟩:=I.base.slot L o ho (I.ok.frf L hL) hL λz=>I.ok.exfs L z hL;exact⟨hk,⟨L,_,hf,hn,e,hd⟩,ih (λb hb=>hs b (by unfold bP;rw[si,hf];exact cu _ hb)) hr⟩
 exact all _ (λ_ hb=>hb) I.ok.funs
theorem aF.stack(I:aF X AL σ H s):s.heap.FunFrames X.base X.stack:=by
 rcases I.ok.stk with e |⟨e,hf⟩
 .rw[e];exact I.funs
 .rw[e]
  obtain⟨m,hn,_⟩:=I.loc;refine .cons (by rw[I.ok.kind];decide) hf hn ?_ I.funs;exact Heap.get?_none_of_le (dq I.ok.bsz I.ok.above)
theorem aF.stkSub(I:aF X AL σ H s):∀b∈bP X.stack,b∈X.env.locals::X.fs:=λb hb=>by
 rcases I.ok.stk with e |⟨e,hf⟩
 .simp_all
 .rw[e]at hb
  unfold bP at hb;rw[si,hf]at hb;exact hb
theorem aF.stkFree(I:aF X AL σ H s):∀b∈bP X.stack,H b=none:=λb hb=>by
 rcases bw.mp (I.stkSub b hb)with e |hb
 .rw[e];exact I.free
 .obtain⟨_,o,ho,_⟩:=I.ok.funs.mem hb
  exact I.base.free b o ho (I.ok.frf b hb) λz=>I.ok.exfs b z hb
theorem aF.step  {t':Nat}{d':Drawn}{ch:List Addr}(I:aF X AL σ H s)
  (hch:∀b∈ch,(b∈X.ex\/X.AM.heap.objs.size<=b)/\b≠X.env.locals/\(∀x c,X.env.cells.lookup x=some c->c≠b)/\∀p∈X.pn++AL,p.1≠b)
  (keep:∀b o,b≠X.env.locals->b∉X.fs->b∉ch->s.heap.get? b=some o->H b=none->h'.get? b=some o)
  (slot:∀b o,b≠X.env.locals->b∈X.fs->b∉ch->s.heap.get? b=some o->H b=none->∃sl,h'.get? b=some {o with slots:=sl})(free:∀b o,b∉ch->s.heap.get? b=some o->H b=none->H' b=none)
  (there:∀b o,b∉ch->s.heap.get? b=some o->∃o',h'.get? b=some o')
  (tups:∀b xs,H b=some (.tup xs)->H' b=some (.tup xs))(frzs:∀b o u,H b=some (.frz o u)->H' b=some (.frz o u))(tbls:∀b ps,H b=some (.tbl ps)->∃more,H' b=some (.tbl (ps++more)))
  (ns:∀m,s.heap.Ns X.env.locals m->h'.Ns X.env.locals m)(hok:cT X.prog X.w H' h')(hg:gf g'):
  aF X AL σ H' {s with heap:=h',gens:=g',drawn:=d',toks:=t'}:=by
 have neL:∀b o,X.AM.heap.get? b=some o->b≠X.env.locals:=λb o e=>bc (bj (au e) I.ok.above);have neC:∀b o,X.AM.heap.get? b=some o->b∉X.ex->b∉ch:=λb o e hx hb=>by
  rcases(hch b hb).1 with z |z
  .exact hx z
  .exact absurd (bj (au e) z) (dz _)
 have cellK:∀x c,X.env.cells.lookup x=some c->∀v,s.heap.IsCell c v->h'.IsCell c v:=λx c e v ⟨o,ho,hd⟩=>by
  have nch:c∉ch:=λz=>(hch c z).2.2.1 x c e rfl
  by_cases hc:c∈X.fs
  .obtain⟨sl,q⟩:=slot c o (I.cne x c e) hc nch ho (I.freeC x c e)
   exact⟨_,q,hd⟩
  .exact⟨o,keep c o (I.cne x c e) hc nch ho (I.freeC x c e),hd⟩
 refine⟨I.ok,I.os,hg,⟨λb o e n hb hx=>?_,λb o e n hb hx=>?_,λb o e n hx=>?_,λb o e hx=>?_,λb xs e=>tups b xs (I.base.tups b xs e),λb o xs e=>frzs b o xs (I.base.frzs b o xs e),λb ps e=>?_⟩,?_,λx c e=>?_,?_,λx c e=>?_,λp hp=>?_,hok,I.len⟩
 .exact keep b o (neL b o e) hb (neC b o e hx) (I.base.keep b o e n hb hx) (I.base.free b o e n hx)
 .obtain⟨sl,e1⟩:=I.base.slot b o e n hb hx
  obtain⟨sl',e2⟩:=slot b _ (neL b o e) hb (neC b o e hx) e1 (I.base.free b o e n hx);exact⟨sl',e2⟩
 .obtain⟨o',e1⟩:=I.base.there b o e hx
  exact free b o' (neC b o e hx) e1 (I.base.free b o e n hx)
 .obtain⟨o',e1⟩:=I.base.there b o e hx
  exact there b o' (neC b o e hx) e1
 .obtain⟨m1,e1⟩:=I.base.tbls b ps e
  obtain⟨m2,e2⟩:=tbls b _ e1;exact⟨m1++m2,by rw[e2,Array.append_assoc]⟩
 .obtain⟨m,hn,hl⟩:=I.loc
  refine⟨m,ns m hn,λi x v e1 e2 e3=>?_⟩;obtain⟨u,r,l⟩:=hl i x v e1 e2 e3;refine⟨u,r,?_⟩;rcases l with l |⟨k,c,e,z⟩
  .exact .inl l
  .exact .inr ⟨k,c,e,cellK x c e _ z⟩
 .obtain⟨v,z⟩:=I.cell x c e
  exact⟨v,cellK x c e v z⟩
 .obtain⟨m,⟨o,_,_,ho,_⟩,_⟩:=I.loc
  exact free _ o (λz=>(hch _ z).2.1 rfl) ho I.free
 .obtain⟨v,o,ho,hd⟩:=I.cell x c e
  exact free c o (λz=>(hch c z).2.2.1 x c e rfl) ho (I.freeC x c e)
 .obtain⟨e,n,ne,nf,d⟩:=I.pin p hp
  have nch:p.1∉ch:=λz=>(hch p.1 z).2.2.2 p hp rfl;exact⟨keep p.1 p.2 ne nf nch e n,free p.1 p.2 nch e n,ne,nf,d⟩
theorem aF.un  (I:aF X AL σ H s)(u:Un X.fs [] H H' s.heap h')(hok:cT X.prog X.w H' h'):aF X AL σ H' {s with heap:=h',toks:=t'}:=by
 obtain⟨m,⟨o,es,ep,ho,r⟩,_⟩:=id I.loc;obtain⟨sl,hL⟩:=u.any ho I.free (by simp);exact I.step   (ch:=[]) (λ_ z=>nomatch z) (λb o _ hb _ e n=>u.keep b o e n hb (by simp)) (λb o _ hb _ e n=>u.slot b o e n hb (by simp)) (λb o _ e n=>u.free b o e n (by simp)) (λb o _ e=>u.there b o e (by simp)) u.tups u.frzs u.tbls (λm' hm=>by
  obtain⟨o',es',ep',ho',r'⟩:=hm;rw[ho]at ho';cases ho';exact⟨_,es',ep',hL,r'⟩) hok I.bare
theorem aF.call   {d':Drawn}{ch:List Addr}(I:aF X AL σ H s)(u:Un (bP X.stack) ch H H' s.heap h')(hok:cT X.prog X.w H' h')(hg:gf g')
  (hch:∀b∈ch,(b∈X.ex\/X.AM.heap.objs.size<=b)/\b≠X.env.locals/\(∀x c,X.env.cells.lookup x=some c->c≠b)/\∀p∈X.pn++AL,p.1≠b):
  aF X AL σ H' {s with heap:=h',gens:=g',drawn:=d',toks:=t'}:=by
 obtain⟨m,⟨o,es,ep,ho,r⟩,_⟩:=id I.loc;obtain⟨sl,hL⟩:=u.any ho I.free λz=>(hch _ z).2.1 rfl;exact I.step  hch (λb o hL hb hc e n=>u.keep b o e n (λz=>(bw.mp (I.stkSub b z)).elim hL hb) hc) (λb o _ _ hc e n=>u.any e n hc) (λb o hc e n=>u.free b o e n hc) (λb o hc e=>u.there b o e hc) u.tups u.frzs u.tbls (λm' hm=>by
  obtain⟨o',es',ep',ho',r'⟩:=hm;rw[ho]at ho';cases ho';exact⟨_,es',ep',hL,r'⟩) hok hg
theorem aF.turned  {it:Addr}(I:aF X AL σ H s)(k:∀b o,b≠it->s.heap.get? b=some o->h'.get? b=some o)(hn:H it=none)(hL:it≠X.env.locals)
  (h1:it∈X.ex\/X.AM.heap.objs.size<=it)(h2:∀x c,X.env.cells.lookup x=some c->c≠it)(h3:∀p∈X.pn++AL,p.1≠it):aF X AL σ H {s with heap:=h',toks:=t'}:=by
 have nit:∀b u,H b=some u->b≠it:=λb u e z=>by rw[z,hn]at e;cases e
 refine I.step   (ch:=[it]) (λb hb=>?_) (λb o _ _ hc e _=>k b o (λz=>hc (by simp[z])) e) (λb o _ _ hc e _=>⟨o.slots,k b o (λz=>hc (by simp[z])) e⟩) (λ_ _ _ _ n=>n)
  (λb o hc e=>⟨o,k b o (λz=>hc (by simp[z])) e⟩) (λ_ _ e=>e) (λ_ _ _ e=>e) (λb ps e=>⟨#[],by rw[e];simp⟩) (λm hm=>?_) (λb u e=>?_) I.bare
 .have e:=by simpa using hb
  subst e;exact⟨h1,hL,h2,h3⟩
 .obtain⟨o,es,ep,ho,r⟩:=hm
  exact⟨o,es,ep,k _ o (dw hL) ho,r⟩
 .refine(I.hok b u e).stay (λc v hc q=>k c v ?_ q) (λ_ q=>q) λ_ _ q=>q
  rcases hc with z |z
  .rw[z];exact nit b u e
  .exact nit c _ z
theorem aF.tok(I:aF X AL σ H s)(t:Nat):aF X AL σ H {s with toks:=t}:=I.un   Un.refl I.hok
theorem aF.kept  (I:aF X AL σ H s)(k:∀b u,s.heap.get? b=some u->h'.get? b=some u):aF X AL σ H {s with heap:=h',toks:=t'}:=I.un (Un.kept k) (I.hok.kept k)
theorem aF.laid{a:Addr}{o:HO}{t':Nat}(I:aF X AL σ H s)(k:∀b u,s.heap.get? b=some u->h'.get? b=some u)(hp:s.heap.objs.size<=a)(new:eC X.prog X.w (aN H a o) h' a o):
  aF X AL σ (aN H a o) {s with heap:=h',toks:=t'}:=I.un (Un.laid k hp (I.hok.fresh hp)) (I.hok.laid k hp new)
theorem aF.write    (I:aF X AL σ H s)(mu:zD (H x))(he:e=x\/H e=some (.own x))(k:∀b u,b≠e->s.heap.get? b=some u->h'.get? b=some u)(heo:∃u,h'.get? e=some u)
  (new:eC X.prog X.w (aN H x o) h' x o):aF X AL σ (aN H x o) {s with heap:=h',toks:=t'}:=I.un (Un.write mu he k heo) (I.hok.write mu he k heo new)
theorem aF.pins_of  (I:aF X AL σ H s)(h:∀p∈pins',s.heap.get? p.1=some p.2/\H p.1=none/\p.1≠X.env.locals/\p.1∉X.fs/\∀v,p.2.data≠.cell v):aF X pins' σ H s:=
 ⟨I.ok,I.os,I.bare,I.base,I.loc,I.cell,I.free,I.freeC,λp hp=>(cf.mp hp).elim (λz=>I.pin p (kg _ z)) (h p),I.hok,I.len⟩
theorem Qe{N:List Str}(hN:N.Nodup){i j:Nat}{x:Str}(a:N[i]?=some x)(b:N[j]?=some x):i=j:=by
 obtain⟨h1,e1⟩:=cq.mp a;obtain⟨h2,e2⟩:=cq.mp b;exact(List.getElem_inj hN).mp (e1.trans e2.symm)
theorem Pz  {A:aj}{E:Value->Shared->Prop}{i:Nat}{x:Str}{v:V}{u:Value}{Q:Unit->Shared->Prop}(I:aF X AL σ H s)(hN:X.N.Nodup)(hi:X.N[i]?=some x)(hx:iJ X.env.scope x)(r:aT v u)
  (h:∀s',aF X AL (σ.set i (some v)) H s'->(∃a,eg a s.heap s'.heap/\(a=X.env.locals\/X.env.cells.lookup x=some a))->Q () s')(hf:X.fn x=true\/X.env.scope.names.lookup x=some .local:=by first |exact .inl rfl |exact .inr rfl |assumption):wpAny M A (storeName X.env x u) Q E s:=by
 obtain⟨m,hn,hl⟩:=id I.loc;have hcls:(X.env.scope.kind== .class||(X.env.scope.kind== .module&&X.env.locals !=X.env.globals))=false:=by rw[I.ok.kind];rfl
 have hiσ:i<σ.length:=by rw[I.len];exact(cq.mp hi).1
 have cne:=I.cne;have tracked:∀{a:Addr}{h':Heap},(∃o,s.heap.get? a=some o/\H a=none)->eg a s.heap h'->cT X.prog X.w H h':=λ{a h'} ha hs b ob e=>by
  refine(I.hok b ob e).stay (λc w' hc q=>(hs.2 c ?_).trans q) (λ_ q=>q) λ_ _ q=>q;grind
 rcases hx with hk |hk
 .refine wpAny_storeName_local hk hn (λh' hn' hs=>?_) hcls
  obtain⟨oL,_,_,hoL,_⟩:=id hn;refine h _ ⟨I.ok,I.os,I.bare,⟨λb o e n hb hx=>?_,λb o e n hb hx=>?_,I.base.free,λb o e hx=>?_,I.base.tups,I.base.frzs,I.base.tbls⟩,⟨_,hn',λj y v' e1 e2 e3=>?_⟩,λy c e=>?_,I.free,I.freeC,λp hp=>?_,tracked ⟨oL,hoL,I.free⟩ hs,by simpa using I.len⟩ ⟨_,hs,.inl rfl⟩
  .exact(hs.2 b (bc (bj (au e) I.ok.above))).trans (I.base.keep b o e n hb hx)
  .obtain⟨sl,e1⟩:=I.base.slot b o e n hb hx
   exact⟨sl,(hs.2 b (bc (bj (au e) I.ok.above))).trans e1⟩
  .obtain⟨o',e1⟩:=I.base.there b o e hx
   exact⟨o',(hs.2 b (bc (bj (au e) I.ok.above))).trans e1⟩
  .by_cases hj:j=i
   .subst hj
    rw[hi]at e1;cases e1;rw[fw hiσ]at e2;cases e2;exact⟨u,r,.inl ⟨hk,by simp⟩⟩
   .rw[fj (dw hj)]at e2
    obtain⟨u',r',q⟩:=hl j y v' e1 e2 e3;refine⟨u',r',?_⟩;rcases q with⟨k,e⟩|⟨k,c,e,z⟩
    .refine .inl ⟨k,?_⟩
     have:y≠x:=λe=>hj (Qe hN e1 (e▸hi));simp[this,e]
    .exact .inr ⟨k,c,e,z.sameBut hs (cne y c e)⟩
  .obtain⟨w',z⟩:=I.cell y c e
   exact⟨w',z.sameBut hs (cne y c e)⟩
  .obtain⟨e,n,ne,nf,d⟩:=I.pin p hp
   exact⟨(hs.2 p.1 ne).trans e,n,ne,nf,d⟩
 .have hfn:X.fn x=true:=by
   grind
  obtain⟨c,hc⟩:=I.ok.has x (.inl hk);obtain⟨w',z⟩:=I.cell x c hc;refine wpAny_storeName_cell I.ok.kind hk hc z (λh' hc' hs=>?_);obtain⟨oc,hoc,hocd⟩:=id z;refine h {s with heap:=h'} ⟨I.ok,I.os,I.bare,⟨λb o e n hb hx=>?_,λb o e n hb hx=>?_,I.base.free,λb o e hx=>?_,I.base.tups,I.base.frzs,I.base.tbls⟩,⟨m,hn.sameBut hs (dw (cne x c hc)),λj y v' e1 e2 e3=>?_⟩,λy c' e=>?_,I.free,I.freeC,λp hp=>?_,tracked ⟨oc,hoc,I.freeC x c hc⟩ hs,by simpa using I.len⟩ ⟨c,hs,.inr hc⟩
  .exact(hs.2 b (bc (bj (au e) (I.ok.cab x c hfn hc)))).trans (I.base.keep b o e n hb hx)
  .obtain⟨sl,e1⟩:=I.base.slot b o e n hb hx
   exact⟨sl,(hs.2 b (bc (bj (au e) (I.ok.cab x c hfn hc)))).trans e1⟩
  .obtain⟨o',e1⟩:=I.base.there b o e hx
   exact⟨o',(hs.2 b (bc (bj (au e) (I.ok.cab x c hfn hc)))).trans e1⟩
  .by_cases hj:j=i
   .subst hj
    rw[hi]at e1;cases e1;rw[fw hiσ]at e2;cases e2;exact⟨u,r,.inr ⟨.inl hk,c,hc,hc'⟩⟩
   .rw[fj (dw hj)]at e2
    obtain⟨u',r',q⟩:=hl j y v' e1 e2 e3;refine⟨u',r',?_⟩;rcases q with q |⟨k,c',e,z'⟩
    .exact .inl q
    .refine .inr ⟨k,c',e,z'.sameBut hs ?_⟩
     rintro rfl
     exact hj (Qe hN e1 (I.ok.inj _ _ _ e hc▸hi))
  .by_cases hcc:c'=c
   .subst hcc;exact⟨_,hc'⟩
   .obtain⟨w2,z2⟩:=I.cell y c' e
    exact⟨w2,z2.sameBut hs hcc⟩
  .obtain⟨e,n,ne,nf,d⟩:=I.pin p hp
   refine⟨(hs.2 p.1 ?_).trans e,n,ne,nf,d⟩;intro q;rw[q,hoc]at e;have q':=dj e;exact d w' (by rw[<-q'];exact hocd)
theorem tT    {i:Nat}{x:Str}{v:V}{u:Value}{Q:Unit->Shared->Prop}(I:aF X AL σ H s)(hN:X.N.Nodup)(hi:X.N[i]?=some x)(hx:iJ X.env.scope x)(r:aT v u)
  (h:∀s',aF X AL (σ.set i (some v)) H s'->Q () s')(hf:X.fn x=true\/X.env.scope.names.lookup x=some .local:=by first |exact .inl rfl |exact .inr rfl |assumption):wpAny M A (storeName X.env x u) Q E s:=
 Pz I hN hi hx r (λs' I' _=>h _ I') hf
theorem aF.call'  {ch:List Addr}(I:aF X AL σ H s)(ho:s'.os=s.os)(u:Un (bP X.stack) ch H H' s.heap s'.heap)(hok:cT X.prog X.w H' s'.heap)(hg:gf s'.gens)
  (hch:∀b∈ch,(b∈X.ex\/X.AM.heap.objs.size<=b)/\b≠X.env.locals/\(∀x c,X.env.cells.lookup x=some c->c≠b)/\∀p∈X.pn++AL,p.1≠b):aF X AL σ H' s':=by
 obtain⟨h',g',d',t',o'⟩:=s';have e:=ho;subst e;exact I.call    u hok hg hch
end
abbrev XK:=Value->AF->Hp->Prop
abbrev St:=List (Option V)
abbrev VK:=V->Hp->Prop
abbrev TE:=St->Hp->VK->Prop
abbrev TT:=St->Hp->(Bool->Hp->Prop)->Prop
abbrev TA:=St->Hp->(List V->Hp->Prop)->Prop
structure nP where
 nx:St->Hp->Prop
 rt:VK
 bk:St->Hp->Prop:=λ_ _=>False
 ct:St->Hp->Prop:=λ_ _=>False
abbrev TS:=nP->St->Hp->Prop
def EP(X:Cx)(AL:List (Addr×Obj))(σ:St)(Q:VK)(u:Value)(s':Shared):Prop:=∃v H',aF X AL σ H' s'/\aT v u/\Q v H'
def TP(X:Cx)(AL:List (Addr×Obj))(σ:St)(Q:Bool->Hp->Prop)(b:Bool)(s':Shared):Prop:=∃H',aF X AL σ H' s'/\Q b H'
def AP(X:Cx)(AL:List (Addr×Obj))(σ:St)(Q:List V->Hp->Prop)(us:AD)(s':Shared):Prop:=∃vs H',aF X AL σ H' s'/\aS vs us/\Q vs H'
def SP(X:Cx)(AL:List (Addr×Obj))(D:nP)(f:Flow)(s':Shared):Prop:=
 match f with
 |.next=>∃σ' H',aF X AL σ' H' s'/\D.nx σ' H'
 |.brk=>∃σ' H',aF X AL σ' H' s'/\D.bk σ' H'
 |.cont=>∃σ' H',aF X AL σ' H' s'/\D.ct σ' H'
 |.ret u=>∃v σ' H',aF X AL σ' H' s'/\aT v u/\D.rt v H'
def PE(X:Cx)(e:ae)(t:TE):Prop:=
 ∀(AL:List (Addr×Obj))(s:Shared)(σ:St)(H:Hp)(Q:VK),aF X AL σ H s->t σ H Q->wpAny (model X.prog X.w) X.A (eval e X.env) (EP X AL σ Q) X.xe s
def PT(X:Cx)(e:ae)(t:TT):Prop:=
 ∀(AL:List (Addr×Obj))(s:Shared)(σ:St)(H:Hp)(Q:Bool->Hp->Prop),aF X AL σ H s->t σ H Q->wpAny (model X.prog X.w) X.A (isTrue e X.env (eval e X.env)) (TP X AL σ Q) X.xe s
def PW(X:Cx)(e:ae)(t:TT):Prop:=
 ∀(whole:bt Value)(AL:List (Addr×Obj))(s:Shared)(σ:St)(H:Hp)(Q:Bool->Hp->Prop),aF X AL σ H s->t σ H Q->wpAny (model X.prog X.w) X.A (isTrue e X.env whole) (TP X AL σ Q) X.xe s
theorem PW.pt    (h:PW X e t):PT X e t:=h _
def PA(X:Cx)(es:List ae)(t:TA):Prop:=
 ∀(pos:ai)(AL:List (Addr×Obj))(s:Shared)(σ:St)(H:Hp)(Q:List V->Hp->Prop),aF X AL σ H s->t σ H Q->wpAny (model X.prog X.w) X.A (spliced (backTo pos (starEach es X.env))) (AP X AL σ Q) X.xe s
def PS(X:Cx)(st:Stmt)(t:TS):Prop:=
 ∀(AL:List (Addr×Obj))(s:Shared)(σ:St)(H:Hp)(D:nP),aF X AL σ H s->t D σ H->wpAny (model X.prog X.w) X.A (exec st X.env) (SP X AL D) X.xe s
def dH(X:Cx)(st:List Stmt)(t:TS):Prop:=
 ∀(AL:List (Addr×Obj))(s:Shared)(σ:St)(H:Hp)(D:nP),aF X AL σ H s->t D σ H->wpAny (model X.prog X.w) X.A (execs st X.env) (SP X AL D) X.xe s
theorem aR    {M:gg}{A:aj}{E:Value->Shared->Prop}{s:Shared}(h:wpAny M A t Q E s)(hQ:∀a s,Q a s->Q' a s):wpAny M A t Q' E s:=bv h hQ λ_ _ x=>x
section
variable{X:Cx}
theorem bin  {ta tb:TE}(ha:PE X a ta)(hb:PE X b tb){AL:List (Addr×Obj)}{s:Shared}{σ:St}{H:Hp}{R:V->V->Hp->Prop}(I:aF X AL σ H s)(h:ta σ H λx H1=>tb σ H1 λy H2=>R x y H2)
  {α:Type}{Q:α->Shared->Prop}{f:Value->Value->bt α}
  (hf:∀v u s2 x y H2,aF X AL σ H2 s2->aT x v->aT y u->R x y H2->wpAny (model X.prog X.w) X.A (f v u) Q X.xe s2):
  wpAny (model X.prog X.w) X.A (eval a X.env) (λv AO=>wpAny (model X.prog X.w) X.A (eval b X.env) (λu AS=>wpAny (model X.prog X.w) X.A (f v u) Q X.xe AS) X.xe AO) X.xe s:=by
 refine aR (ha _ s _ H _ I h) ?_
 rintro v s1 ⟨x,H1,I1,r1,q1⟩
 refine aR (hb _ _ _ _ _ I1 q1) ?_
 rintro u s2 ⟨y,H2,I2,r2,q2⟩
 exact hf v u _ x y _ I2 r1 r2 q2
def pB(i:Nat):TE:=λσ H Q=>∃v,σ[i]?=some (some v)/\Q v H
def tC(v:V):TE:=λ_ H Q=>Q v H
theorem nC   {pos:ai}(hN:X.N[i]?=some x)(hv:lP X.env.scope x)(hd:(x==("__debug__":Str))=false:=by decide)(hcd:(x==("__classdict__":Str))=false:=by decide):PE X (.Name x pos) (pB i):=by
 intro AL s σ H Q I h;obtain⟨v,e,h⟩:=h;obtain⟨m,hn,hl⟩:=I.loc;obtain⟨u,r,l⟩:=hl i x v hN e hv;have fin:EP X AL σ Q u s:=⟨v,H,I,r,h⟩;rcases l with⟨hk,hm⟩|⟨hk,c,hc,hcell⟩
 .exact sj (wpAny_loadName_local I.ok.kind hk hn hm fin) hd
 .rcases hk with hk |hk
  .exact sj (wpAny_loadName_cell I.ok.kind hk hc hcell fin) hd
  .exact sj (wpAny_loadName_free I.ok.kind hk hc hcell fin hcd) hd
theorem Dr:PE X (.Constant (.int i) j pos) (tC (.int i)):=λ_ _ _ H _ I h=>wpAny_Constant_int ⟨.int i,H,I.tok _,⟨_,rfl⟩,h⟩
theorem ab5:PE X (.Constant (.bool b) j pos) (tC (.bl b)):=λ_ _ _ H _ I h=>Constant_bool ⟨.bl b,H,I,rfl,h⟩
theorem Y6:PE X (.Constant .none j pos) (tC .non):=λ_ _ _ H _ I h=>Constant_none ⟨.non,H,I,rfl,h⟩
theorem Zf:PE X (.Constant (.str x) j pos) (tC (.str x)):=λ_ _ _ H _ I h=>Calls.Constant_str ⟨.str x,H,I.tok _,⟨_,rfl⟩,h⟩
def Gl(X:Cx)(x:Str):Prop:=X.env.kindOf x=some .globalImplicit
theorem qC  {AL:List (Addr×Obj)}{s:Shared}{σ:St}{H:Hp}{x:Str}{u:Value}{pos:ai}{Q:Value->Shared->Prop}(I:aF X AL σ H s)(hg:Gl X x)(hm:X.mg x=some u)(h:Q u s)
  (hd:(x==("__debug__":Str))=false:=by decide):wpAny (model X.prog X.w) X.A (eval (.Name x pos) X.env) Q E s:=
 wv I.ok.kind hg (Calls.loadGlobal_global (by rw[I.ok.glob];exact I.mod.glob.keeps I.bk) hm h) hd
theorem xA{E:Value->Shared->Prop}{AL:List (Addr×Obj)}{s:Shared}{σ:St}{H:Hp}{x:Str}{u:Value}{pos:ai}{Q:Value->Shared->Prop}(I:aF X AL σ H s)(hg:Gl X x)(hm:X.mg x=none)(hv:bootBuiltins x=some u)(h:Q u s)
  (hn:x≠"__name__":=by decide)(hd:(x==("__debug__":Str))=false:=by decide):wpAny (model X.prog X.w) X.A (eval (.Name x pos) X.env) Q E s:=by
 obtain⟨mb,h1,h2⟩:=I.mod.blt;exact wv I.ok.kind hg (Calls.loadGlobal_builtin (by rw[I.ok.glob];exact I.mod.glob.keeps I.bk) hm (by rw[I.ok.blt];exact h1.keeps I.bk) ((h2 x hn).trans hv) h) hd
theorem wK   {u:Value}{pos:ai}(hg:Gl X x)(hm:X.mg x=some u)(r:aT v u)(hd:(x==("__debug__":Str))=false:=by decide):PE X (.Name x pos) (tC v):=
 λ_ _ _ H _ I h=>qC I hg hm ⟨v,H,I,r,h⟩ hd
variable{a b:ae}{ta tb:TE}{pos:ai}
def PC(X:Cx)(op:CmpOp)(a b:ae)(t:TE):Prop:=
 ∀(AL:List (Addr×Obj))(s:Shared)(σ:St)(H:Hp)(Q:VK),aF X AL σ H s->t σ H Q->
  wpAny (model X.prog X.w) X.A (eval a X.env) (λv AO=>wpAny (model X.prog X.w) X.A (eval b X.env) (λu AS=>wpAny (model X.prog X.w) X.A (compareOp op v u) (EP X AL σ Q) X.xe AS) X.xe AO) X.xe s
theorem zX(b:ae){op:CmpOp}(h:op≠.In)(h2:op≠.NotIn):behindInMarks op b=false:=by
 have e1:(op==CmpOp.In)=false:=by grind
 have e2:(op==CmpOp.NotIn)=false:=by grind
 cases b<;>simp[behindInMarks,e1,e2]
def Gu(ta:TE):TE:=λσ H Q=>ta σ H λx H1=>Q (.bl (decide (x=.non))) H1
theorem aT.none_iff   (r:aT x v):(v==bb)=decide (x=.non):=by
 cases x with
 |non=>cases r;rfl
 |bl _=>cases r;rfl
 |int _=>obtain⟨t,rfl⟩:=r;rfl
 |str _=>obtain⟨t,rfl⟩:=r;rfl
 |byt _=>obtain⟨t,rfl⟩:=r;rfl
 |flt _=>obtain⟨t,rfl⟩:=r;rfl
 |ref _=>cases r;rfl
 |ty _=>cases r;rfl
theorem Mq  (ha:PE X a ta):PC X .Is a (.Constant .none j pos') (Gu ta):=by
 intro AL s σ H Q I h;refine aR (ha _ s _ H _ I h) ?_
 rintro v s1 ⟨x,H1,I1,r1,q1⟩
 exact Constant_none (is_none_gen ⟨.bl _,H1,I1,by rw[r1.none_iff];rfl,q1⟩)
def tB(t:TE):TT:=λσ H Q=>t σ H λx H1=>∃c,x=.bl c/\Q c H1
theorem Ka   (h:PC X op a b t)(h1:behindInMarks op b=false:=by first |exact zX _ (by decide) (by decide) |rfl):PT X (.Compare a [op] [b] pos) (tB t):=by
 intro AL s σ H Q I hw;refine ww (aR (h _ s _ H _ I hw) λv s1 h1=>aR h1 λu s2 h2=>aR h2 λc s3 hq=>?_) h1;rcases hq with⟨x,H1,I1,r1,q1⟩;obtain⟨d,rfl,q⟩:=q1;cases r1;exact jd ⟨H1,I1,q⟩
theorem aar   (h:PE X e t)(he:∀whole,isTrue e X.env whole=(do let v <-whole;standAt e.pos;holding [v] (truthy v)):=by intro _;rfl):PT X e (tB t):=by
 intro AL s σ H Q I hw;refine isTrue_plain (aR (h _ s _ H _ I hw) λv s1 hq=>?_) (he _);rcases hq with⟨x,H1,I1,r1,q1⟩;obtain⟨d,rfl,q⟩:=q1;cases r1;exact jd ⟨H1,I1,q⟩
variable{tA tB':TT}{eE:List ae}
def ac9(t u:TT):TT:=λσ H Q=>t σ H λc H1=>if c=true then u σ H1 Q else Q false H1
def tOr(t u:TT):TT:=λσ H Q=>t σ H λc H1=>if c=true then Q true H1 else u σ H1 Q
def adb(t:TT):TT:=λσ H Q=>t σ H λc H1=>Q (!c) H1
theorem P4(ha:PT X a tA):PW X (.BoolOp .And [a] pos) tA:=by
 intro wh AL s σ H Q I h;refine isTrue_and (aR (ha _ s _ H Q I h) λc s1 e=>?_);cases c with
 |true=>exact isTrue_and_nil e
 |false=>exact e
theorem aaC(ha:PT X a tA):PW X (.BoolOp .Or [a] pos) tA:=by
 intro wh AL s σ H Q I h;refine isTrue_or (aR (ha _ s _ H Q I h) λc s1 e=>?_);cases c with
 |false=>exact isTrue_or_nil e
 |true=>exact e
theorem aaH(ha:PT X a tA)(hb:PW X (.BoolOp .And (b::eE) pos) tB'):PW X (.BoolOp .And (a::b::eE) pos) (ac9 tA tB'):=by
 intro wh AL s σ H Q I h;refine isTrue_and (aR (ha _ s _ H _ I h) λc s1 hq=>?_);rcases hq with⟨H1,I1,q1⟩;cases c with
 |true=>exact hb _ _ _ _ _ Q I1 q1
 |false=>exact⟨H1,I1,q1⟩
theorem acS(ha:PT X a tA)(hb:PW X (.BoolOp .Or (b::eE) pos) tB'):PW X (.BoolOp .Or (a::b::eE) pos) (tOr tA tB'):=by
 intro wh AL s σ H Q I h;refine isTrue_or (aR (ha _ s _ H _ I h) λc s1 hq=>?_);rcases hq with⟨H1,I1,q1⟩;cases c with
 |true=>exact⟨H1,I1,q1⟩
 |false=>exact hb _ _ _ _ _ Q I1 q1
theorem aaO(ha:PT X a tA):PT X (.UnaryOp .Not a pos) (adb tA):=by
 intro AL s σ H Q I h;exact isTrue_not (ha _ s _ H _ I h)
def ab9(ta tb:TE):TE:=λσ H Q=>ta σ H λx H1=>∃c,x=.bl c/\if c=true then tb σ H1 Q else Q (.bl false) H1
def acZ(ta tb:TE):TE:=λσ H Q=>ta σ H λx H1=>∃c,x=.bl c/\if c=true then Q (.bl true) H1 else tb σ H1 Q
theorem aav(ha:PE X a ta)(hb:PE X (.BoolOp .And (b::eE) pos) tb):PE X (.BoolOp .And (a::b::eE) pos) (ab9 ta tb):=by
 intro AL s σ H Q I h;refine BoolOp_and (aR (ha _ s _ H _ I h) λv s1 hq=>?_);rcases hq with⟨x,H1,I1,r1,q1⟩;obtain⟨c,rfl,q1⟩:=q1;cases r1;refine jd ?_;cases c with
 |true=>exact hb _ _ _ _ Q I1 q1
 |false=>exact⟨.bl _,H1,I1,rfl,q1⟩
theorem acf(ha:PE X a ta)(hb:PE X (.BoolOp .Or (b::eE) pos) tb):PE X (.BoolOp .Or (a::b::eE) pos) (acZ ta tb):=by
 intro AL s σ H Q I h;refine BoolOp_or (aR (ha AL s σ H _ I h) λv s1 hq=>?_);rcases hq with⟨x,H1,I1,r1,q1⟩;obtain⟨c,rfl,q1⟩:=q1;cases r1;refine jd ?_;cases c with
 |false=>exact hb AL s1 σ H1 Q I1 q1
 |true=>exact⟨.bl true,H1,I1,rfl,q1⟩
def tIf(t:TT)(ta tb:TE):TE:=λσ H Q=>t σ H λc H1=>if c=true then ta σ H1 Q else tb σ H1 Q
theorem O0  (hc:PT X c tA)(ha:PE X a ta)(hb:PE X b tb):PE X (.IfExp c a b pos) (tIf tA ta tb):=by
 intro AL s σ H Q I h;refine wpAny_IfExp (aR (hc _ s _ H _ I h) λd s1 hq=>?_);rcases hq with⟨H1,I1,q1⟩;cases d with
 |true=>exact ha _ _ _ _ Q I1 q1
 |false=>exact hb _ _ _ _ Q I1 q1
end
def bL(K:aa)(H:Hp)(a:Addr)(xs:List V):Prop:=
 Rd H a (.lst xs)\/
  ∃(o:Obj)(its:Array Value)(n:Nat),K.lookup a=some o/\o.cls=.type "list"/\o.dict=none/\o.data=.seq its n/\its.size<=sizeLine/\aS xs its.toList
def cJ(K:aa)(H:Hp)(a:Addr)(xs:List V):Prop:=
 Rd H a (.tup xs)\/
  ∃(o:Obj)(its:Array Value)(n:Nat),K.lookup a=some o/\(o.cls=.type "tuple"/\o.dict=none)/\o.data=.seq its n/\its.size<=sizeLine/\aS xs its.toList
def adk:Value->Option V
 |.none=>some .non
 |.bool b=>some (.bl b)
 |.int i _=>some (.int i)
 |.str x _=>some (.str x)
 |.bytes b _=>some (.byt b)
 |.float b _=>some (.flt b)
 |.ref a=>some (.ref a)
 |.type n=>some (.ty n)
 |_=>none
theorem aT.abs   (r:aT x u):adk u=some x:=by
 cases x with
 |non=>cases r;rfl
 |bl _=>cases r;rfl
 |int _=>obtain⟨t,rfl⟩:=r;rfl
 |str _=>obtain⟨t,rfl⟩:=r;rfl
 |byt _=>obtain⟨t,rfl⟩:=r;rfl
 |flt _=>obtain⟨t,rfl⟩:=r;rfl
 |ref _=>cases r;rfl
 |ty _=>cases r;rfl
theorem aT.inj  {u:Value}(r:aT x u)(q:aT y u):x=y:=dj (r.abs.symm.trans q.abs)
theorem aS.inj:∀{xs ys:List V}{us:AD},aS xs us->aS ys us->xs=ys
 |_,_,_,.nil,.nil=>rfl
 |_,_,_,.cons r t,.cons r' t'=>by rw[r.inj r',aS.inj t t']
section
variable{X:Cx}{AL:List (Addr×Obj)}{σ:St}{H:Hp}{s:Shared}{a:Addr}{xs ys:List V}
theorem bL.of{K:aa}(h:H a=some (.lst xs)):bL K H a xs:=.inl (.inl h)
theorem cJ.of{K:aa}(h:H a=some (.tup xs)):cJ K H a xs:=.inl (.inl h)
theorem aF.list(I:aF X AL σ H s)(h:bL X.K H a xs):∃its:AD,aS xs its/\PlainL s.heap a its.toArray/\xs.length<=sizeLine:=by
 rcases h with h |⟨o,its,n,hk,hc,hd,hs,hz,r⟩
 .obtain⟨z,its,n,r,e⟩:=h.ok I.hok
  exact⟨its,r,⟨_,n,e,rfl,rfl,rfl⟩,z⟩
 .refine⟨its.toList,r,⟨o,n,I.kIn a o hk,hc,hd,by simpa using hs⟩,?_⟩
  have e:=r.length<;>grind
theorem aF.tuple(I:aF X AL σ H s)(h:cJ X.K H a xs):∃its:AD,aS xs its/\IsTup s.heap a its.toArray/\xs.length<=sizeLine:=by
 rcases h with h |⟨o,its,n,hk,hc,hs,hz,r⟩
 .obtain⟨z,its,r,p⟩:=h.ok I.hok
  exact⟨its,r,p,z.1⟩
 .refine⟨its.toList,r,⟨o,I.kIn a o hk,hc.1,n,by simpa using hs⟩,?_⟩
  have e:=r.length<;>grind
theorem aF.list_inj(I:aF X AL σ H s)(h:bL X.K H a xs)(h':bL X.K H a ys):xs=ys:=by
 obtain⟨its,r,⟨o,n,e,_,_,d⟩,_⟩:=I.list h;obtain⟨its',r',⟨o',n',e',_,_,d'⟩,_⟩:=I.list h';rw[e]at e';cases e';rw[d]at d';injection d' with d1 _;have:=by simpa using congrArg wx d1
 subst this;exact r.inj r'
theorem aF.tuple_inj(I:aF X AL σ H s)(h:cJ X.K H a xs)(h':cJ X.K H a ys):xs=ys:=by
 obtain⟨its,r,⟨o,e,_,n,d⟩,_⟩:=I.tuple h;obtain⟨its',r',⟨o',e',_,n',d'⟩,_⟩:=I.tuple h';rw[e]at e';cases e';rw[d]at d';injection d' with d1 _;have:=by simpa using congrArg wx d1
 subst this;exact r.inj r'
end
abbrev Cx.wish(X:Cx)(E:Value->Shared->Prop):Cx:={X with xe:=E}
abbrev Cx.nox(X:Cx):Cx:=X.wish λ_ _=>False
theorem Cx.Ok.wish{X:Cx}(ok:X.Ok)(E:Value->Shared->Prop):(X.wish E).Ok:=
 ⟨ok.mod,ok.kind,ok.glob,ok.blt,ok.above,ok.inj,ok.has,ok.cab,ok.hd,ok.frames,ok.stk,ok.exf,ok.bs,ok.bsz,ok.noex,ok.exfs,ok.funs,ok.frf⟩
theorem Cx.Ok.unwish{X:Cx}{E:Value->Shared->Prop}(ok:(X.wish E).Ok):X.Ok:=
 ⟨ok.mod,ok.kind,ok.glob,ok.blt,ok.above,ok.inj,ok.has,ok.cab,ok.hd,ok.frames,ok.stk,ok.exf,ok.bs,ok.bsz,ok.noex,ok.exfs,ok.funs,ok.frf⟩
section
variable{X:Cx}{AL:List (Addr×Obj)}{σ:St}{H:Hp}{s:Shared}{E:Value->Shared->Prop}
theorem aF.wish(I:aF X AL σ H s)(E:Value->Shared->Prop):aF (X.wish E) AL σ H s:=⟨I.ok.wish E,I.os,I.bare,I.base,I.loc,I.cell,I.free,I.freeC,I.pin,I.hok,I.len⟩
theorem aF.unwish(I:aF (X.wish E) AL σ H s):aF X AL σ H s:=⟨I.ok.unwish,I.os,I.bare,I.base,I.loc,I.cell,I.free,I.freeC,I.pin,I.hok,I.len⟩
theorem SP.unwish    (h:SP (X.wish E) AL D f s'):SP X AL D f s':=by
 cases f with
 |next=>obtain⟨σ',H',I,q⟩:=h;exact⟨σ',H',I.unwish,q⟩
 |brk=>obtain⟨σ',H',I,q⟩:=h;exact⟨σ',H',I.unwish,q⟩
 |cont=>obtain⟨σ',H',I,q⟩:=h;exact⟨σ',H',I.unwish,q⟩
 |ret u=>obtain⟨v,σ',H',I,r,q⟩:=h;exact⟨v,σ',H',I.unwish,r,q⟩
theorem dH.nox{st:List Stmt}{t:TS}(h:dH X.nox st t):dH X st t:=λAL s σ H D I hw=>
 bv (h _ s _ H D (I.wish _) hw) (λ_ _ q=>q.unwish) (by grind)
end
section
variable{X:Cx}{st:Stmt}{eE:List Stmt}{t u:TS}{e:ae}{te:TE}{pos:ai}
def Rg:TS:=λD σ H=>D.nx σ H
def yO(t u:TS):TS:=λD σ H=>t {D with nx:=u D} σ H
theorem wQ:dH X [] Rg:=λ_ _ σ H _ I h=>kh ⟨σ,H,I,h⟩
theorem mX(h1:PS X st t)(h2:dH X eE u):dH X (st::eE) (yO t u):=by
 intro AL s σ H D I h;refine sk (aR (h1 _ s _ H _ I h) λf s1 q=>?_);cases f with
 |next=>
  obtain⟨σ',H',I',q⟩:=q;exact h2 _ _ _ _ D I' q
 |ret v=>exact q
 |brk=>exact q
 |cont=>exact q
theorem Fp(h1:PS X st t):dH X [st] t:=by
 intro AL s σ H D I h;refine sk (aR (h1 _ s _ H D I h) λf s1 q=>?_);cases f with
 |next=>exact kh q
 |ret v=>exact q
 |brk=>exact q
 |cont=>exact q
theorem aF.quiet  {σ:St}{H:Hp}{s:Shared}(I:aF X AL σ H s):interactive X.env=false:=by simp[interactive,I.ok.kind]
def acN(te:TE):TS:=λD σ H=>te σ H λ_ H1=>D.nx σ H1
theorem Rf(he:PE X e te)(hs:swapsWith e none pos.line X.env=pure false:=by rfl):PS X (.Expr e pos) (acN te):=by
 intro AL s σ H D I h;exact wpAny_Expr_any (aR (he _ s _ H _ I h) λv s1 ⟨x,H1,I1,r1,q1⟩=>⟨σ,H1,I1,q1⟩) I.quiet hs
def ac5(te:TE):TS:=λD σ H=>te σ H D.rt
theorem Z3(he:PE X e te):PS X (.Return (some e) pos) (ac5 te):=by
 intro AL s σ H D I h;exact wpAny_Return_some (aR (he _ s _ H _ I h) λv s1 ⟨x,H1,I1,r1,q1⟩=>⟨x,σ,H1,I1,r1,q1⟩)
def adC(c:TT)(t u:TS):TS:=λD σ H=>c σ H λb H1=>if b=true then t D σ H1 else u D σ H1
theorem Os   {tc:TT}(hc:PT X c tc)(ha:dH X a t)(hb:dH X b u):PS X (.If c a b pos) (adC tc t u):=by
 intro AL s σ H D I h;refine wpAny_If (aR (hc _ s _ H _ I h) λd s1 hq=>?_);rcases hq with⟨H1,I1,q1⟩;cases d with
 |true=>exact ha _ _ _ _ D I1 q1
 |false=>exact hb _ _ _ _ D I1 q1
end
abbrev TG:=V->St->Hp->(St->Hp->Prop)->Prop
abbrev pP:=List V->St->Hp->(St->Hp->Prop)->Prop
def PG(X:Cx)(target:ae)(t:TG):Prop:=
 ∀(AL:List (Addr×Obj))(s:Shared)(σ:St)(H:Hp)(v:V)(u:Value)(Q:St->Hp->Prop),aF X AL σ H s->aT v u->t v σ H Q->
  wpAny (model X.prog X.w) X.A (assign target X.env u) (λ_ s'=>∃σ' H',aF X AL σ' H' s'/\Q σ' H') X.xe s
def mM(X:Cx)(ts:List ae)(t:pP):Prop:=
 ∀(AL:List (Addr×Obj))(s:Shared)(σ:St)(H:Hp)(vs:List V)(us:AD)(Q:St->Hp->Prop),aF X AL σ H s->aS vs us->t vs σ H Q->
  wpAny (model X.prog X.w) X.A (assignInOrder ((assignEach ts X.env).map (·.2)) us) (λ_ s'=>∃σ' H',aF X AL σ' H' s'/\Q σ' H') X.xe s
abbrev Fh:=V->V->V->Hp->(Hp->Prop)->Prop
def Ot(X:Cx)(t:Fh):Prop:=
 ∀(AL:List (Addr×Obj))(s:Shared)(σ:St)(H:Hp)(o i v:V)(ov iv u:Value)(Q:Hp->Prop),aF X AL σ H s->aT o ov->aT i iv->aT v u->t o i v H Q->
  wpAny (model X.prog X.w) X.A (setItem ov iv u) (λ_ s'=>∃H',aF X AL σ H' s'/\Q H') X.xe s
abbrev TIp:=V->V->Hp->VK->Prop
def iA(X:Cx)(op:Operator)(t:TIp):Prop:=
 ∀(AL:List (Addr×Obj))(s:Shared)(σ:St)(H:Hp)(x y:V)(v u:Value)(Q:VK),aF X AL σ H s->aT x v->aT y u->t x y H Q->
  wpAny (model X.prog X.w) X.A (inplaceOp op v u) (EP X AL σ Q) X.xe s
section
variable{X:Cx}{pos:ai}
def Xa(i:Nat):TG:=λv σ H Q=>Q (σ.set i (some v)) H
theorem V4   (hN:X.N.Nodup)(hi:X.N[i]?=some x)(hx:iJ X.env.scope x)(hf:X.fn x=true\/X.env.scope.names.lookup x=some .local:=by first |exact .inl rfl |exact .inr rfl |assumption):PG X (.Name x pos) (Xa i):=by
 intro AL s σ H v u Q I r h;exact sr (tT I hN hi hx r (λs' I'=>⟨_,H,I',h⟩) hf)
def ac0:pP:=λvs σ H Q=>vs=[]/\Q σ H
def abC(t:TG)(u:pP):pP:=λvs σ H Q=>∃v r,vs=v::r/\t v σ H λσ' H'=>u r σ' H' Q
theorem Q1:mM X [] ac0:=by
 intro AL s σ H vs us Q I r h;obtain⟨e,h⟩:=h;exact assignInOrder_nil ⟨σ,H,I,h⟩
theorem E9   {t:TG}{u:pP}(h1:PG X e t)(h2:mM X es u)
  (hs:(assignEach (e::es) X.env).map (·.2)=assign e X.env::(assignEach es X.env).map (·.2):=by rfl):mM X (e::es) (abC t u):=by
 intro AL s σ H vs us Q I r h;obtain⟨v,vr,e1,h⟩:=h;subst e1;cases r with
 |cons r rr=>
  rw[hs];refine assignInOrder_cons (aR (h1 _ s _ H _ _ _ I r h) λ_ s1 hq=>?_);rcases hq with⟨σ1,H1,I1,q1⟩;exact h2 _ _ _ _ _ _ Q I1 rr q1
def adz(K:aa)(n:Nat)(t:pP):TG:=λv σ H Q=>∃a xs,v=.ref a/\cJ K H a xs/\xs.length=n/\t xs σ H Q
theorem abv  {k:Nat}{t:pP}{n:Nat}(hc:X.calm=true)(h:mM X es t)
  (hn:(assignEach es X.env).length=n:=by rfl)(hst:(assignEach es X.env).findIdx? (·.1)=none:=by rfl):PG X (.Tuple es k pos) (adz X.K n t):=by
 intro AL s σ H v u Q I r hw;obtain⟨a,xs,e1,hq,hl,hw⟩:=hw;subst e1;cases r;obtain⟨its,rv,ht,hz⟩:=I.tuple hq;refine assign_Tuple_tuple (I.ok.hd hc) ht (by simp[hn,<-hl,rv.length]) hst λh' hx=>?_;have I1:=I.kept (t':=s.toks) λb o e=>hx b o (bc (au e)) e;exact h AL _ σ H xs _ Q I1 (by simpa using rv) hw
def adt(to ti:TE)(t:Fh):TG:=λv σ H Q=>to σ H λo H1=>ti σ H1 λi H2=>t o i v H2 λH3=>Q σ H3
theorem Z9  {to ti:TE}{t:Fh}(ho:PE X o to)(hi:PE X i ti)(hs:Ot X t)
  (ha:∀v,assign (.Subscript o i pos) X.env v=(do
   let ov <-holding [v] (eval o X.env)
   let iv <-holding [v,ov] (eval i X.env)
   standAt pos
   holding [v,ov,iv] (setItem ov iv v)
   release [v,ov,iv] []):=by intro _;rfl):PG X (.Subscript o i pos) (adt to ti t):=by
 intro AL s σ H v u Q I r h;rw[ha];refine ag (dh (aR (ho _ s _ H _ I h) λov s1 hq=>?_));rcases hq with⟨x,H1,I1,r1,q1⟩;refine ag (dh (aR (hi _ _ _ _ _ I1 q1) λiv s2 hq=>?_));rcases hq with⟨y,H2,I2,r2,q2⟩;refine ag (jp (ag (dh (aR (hs _ _ _ _ x y v _ _ u _ I2 r1 r2 r q2) λ_ s3 hq=>?_))));rcases hq with⟨H3,I3,q3⟩;exact wpAny_release ⟨σ,H3,I3,q3⟩
def Jc(te:TE)(g:TG):TS:=λD σ H=>te σ H λx H1=>g x σ H1 D.nx
theorem Zp{tg e:ae}{te:TE}{g:TG}(he:PE X e te)(hg:PG X tg g)(hs:swapsWithSole [tg] e pos.line X.env=pure false:=by rfl)(hw:swappedStores [tg] e X.env=pure none:=by rfl)
  (h1:(assignEach [tg] X.env).map (·.2)=[assign tg X.env]:=by rfl):PS X (.Assign [tg] e pos) (Jc te g):=by
 intro AL s σ H D I h;refine wpAny_Assign_stores (aR (he _ s _ H _ I h) λv s1 hq=>?_) hs hw;rcases hq with⟨x,H1,I1,r1,q1⟩;rw[h1];exact aR (hg _ _ _ _ x v _ I1 r1 q1) λ_ s2 q=>q
theorem Gg     {pos':ai}(hN:X.N.Nodup)(hi:X.N[i]?=some x)(hx:iJ X.env.scope x)(he:PE X e te)(hs:swapsWith e (some (.Name x pos')) pos.line X.env=pure false:=by rfl)(hf:X.fn x=true\/X.env.scope.names.lookup x=some .local:=by first |exact .inl rfl |exact .inr rfl |assumption):
  PS X (.Assign [.Name x pos'] e pos) (Jc te (Xa i)):=by
 intro AL s σ H D I h;refine wpAny_Assign_Name (aR (he _ s _ H _ I h) λv s1 hq=>?_) hs;rcases hq with⟨y,H1,I1,r1,q1⟩;exact tT I1 hN hi hx r1 (λs2 I2=>⟨_,H1,I2,q1⟩) hf
def Y5(c:TT)(tb:TS):TS:=λD σ H=>∃W:Nat->St->Hp->Prop,(∃m,W m σ H)/\∀m σ H,W m σ H->
 c σ H λb H1=>if b=true then ∃N:St->Hp->Prop,(∀σ' H',N σ' H'->∃m',m'<m/\W m' σ' H')/\tb {D with nx:=N,ct:=N,bk:=D.nx} σ H1 else D.nx σ H1
theorem F7  {body:List Stmt}{tc:TT}{tb:TS}(hp:og (model X.prog X.w) X.A X.env X.xe)(hc:PT X c tc)(hb:dH X body tb):PS X (.While c body [] pos) (Y5 tc tb):=by
 intro AL s σ H D I h;obtain⟨W,⟨m0,w0⟩,turn⟩:=h;refine wpAny_While (codeAny_whileLoop (λn s'=>∃σ' H',aF X AL σ' H' s'/\W n σ' H') ?_ m0 ⟨σ,H,I,w0⟩)
 rintro n s1 ⟨σ1,H1,I1,w1⟩
 refine jq hp (aR (hc AL s1 σ1 H1 _ I1 (turn n σ1 H1 w1)) λb s2 hq=>?_);rcases hq with⟨H2,I2,q2⟩;cases b with
 |true=>
  obtain⟨N,hN,q2⟩:=q2;refine jq hp (aR (hb AL s2 σ1 H2 _ I2 q2) λf s3 q3=>?_);cases f with
  |next=>
   obtain⟨σ3,H3,I3,n3⟩:=q3;obtain⟨m',hm,w3⟩:=hN σ3 H3 n3;exact⟨m',hm,σ3,H3,I3,w3⟩
  |cont=>
   obtain⟨σ3,H3,I3,n3⟩:=q3;obtain⟨m',hm,w3⟩:=hN σ3 H3 n3;exact⟨m',hm,σ3,H3,I3,w3⟩
  |brk=>exact q3
  |ret v=>exact q3
 |false=>
  exact kh ⟨σ1,H2,I2,q2⟩
end
structure It where
 go:Nat->Hp->Prop
 yld:Nat->Hp->V->Hp->Prop
 stop:Nat->Hp->Prop
def eR(X:Cx)(AL:List (Addr×Obj))(H:Hp)(b:Addr):Prop:=
 H b=none/\b≠X.env.locals/\b∉X.fs/\(b∈X.ex\/X.AM.heap.objs.size<=b)/\(∀x c,X.env.cells.lookup x=some c->c≠b)/\∀p∈X.pn++AL,p.1≠b
theorem aF.fpOk   {σ:St}{H H':Hp}{s:Shared}{b:Addr}(I:aF X AL σ H s)(hb:s.heap.objs.size<=b)(hn:H' b=none):eR X AL H' b:=by
 refine⟨hn,jr (bj I.lt hb),I.nofs hb,.inr (dq I.sz hb),λx c e z=>?_,λp hp z=>?_⟩
 .obtain⟨v,q⟩:=I.cell x c e
  exact absurd (bj q.lt (by simp_all)) (dz _)
 .exact absurd (bj (au (I.pin p hp).1) (by simp_all)) (dz _)
structure rA(P:Program)(w:ah)(K:aa)(tg:ae)(J:It)(fp:List Addr)(it:Addr)(tn:Nat->Heap->Prop):Prop where
 mem:it∈fp
 obj:∀i h,tn i h->∀b∈fp,∃o,h.get? b=some o/\∀v,o.data≠.cell v
 keep:∀i h h',tn i h->(∀b∈fp,∀o,h.get? b=some o->h'.get? b=some o)->tn i h'
 item:∀(X:Cx),X.prog=P->X.w=w->X.K=K->X.calm=true->∀(i:Nat)(AL:List (Addr×Obj))(s:Shared)(σ:St)(H:Hp)(E:Value->Shared->Prop),aF X AL σ H s->(∀b∈fp,eR X AL H b)->tn i s.heap->J.go i H->
  wpAny (model P w) X.A (pyNext (.ref it)) (λr s1=>∃u,r=some u/\
   wpAny (model P w) X.A (letOwnedTupleGo tg (.ref it) u) (λ_ s2=>∃x H',aF X AL σ H' s2/\aT x u/\J.yld i H x H'/\tn (i+1) s2.heap/\∀b∈fp,H' b=none) E s1) E s
 done:∀(X:Cx),X.prog=P->X.w=w->X.K=K->X.calm=true->∀(i:Nat)(AL:List (Addr×Obj))(s:Shared)(σ:St)(H:Hp)(E:Value->Shared->Prop),aF X AL σ H s->(∀b∈fp,eR X AL H b)->tn i s.heap->J.stop i H->
  wpAny (model P w) X.A (pyNext (.ref it)) (λr s1=>r=none/\aF X AL σ H s1) E s
 self:∀(A:aj)(i:Nat)(s:Shared)(Q:Value->Shared->Prop)(E:Value->Shared->Prop),tn i s.heap->Q (.ref it) s->wpAny (model P w) A (pyIter (.ref it)) Q E s
abbrev TI:=St->Hp->(It->Hp->Prop)->Prop
def Hv(X:Cx)(AL:List (Addr×Obj))(σ:St)(tg:ae)(R:It->Hp->Prop)(itv:Value)(s2:Shared):Prop:=
 ∃(it:Addr)(fp:List Addr)(tn:Nat->Heap->Prop)(J:It)(H':Hp),itv=.ref it/\aF X AL σ H' s2/\rA X.prog X.w X.K tg J fp it tn/\tn 0 s2.heap/\(∀b∈fp,eR X AL H' b)/\R J H'
def PI(X:Cx)(tg iter:ae)(wi:TI):Prop:=
 ∀(AL:List (Addr×Obj))(s:Shared)(σ:St)(H:Hp)(R:It->Hp->Prop),aF X AL σ H s->wi σ H R->
  wpAny (model X.prog X.w) X.A (eval iter X.env) (λv s1=>wpAny (model X.prog X.w) X.A (pyIter v) (Hv X AL σ tg R) X.xe s1) X.xe s
theorem Wa  {A : aj} {E : Value → Shared → Prop} {s : Shared} {tg : ae} {it : Addr} {u : Value} {o : Obj} {n : String} {vs : Array Value} {Q : Unit → Shared → Prop} (ho : s.heap.get? it = some o) (hc : o.cls = .type n) (hd : o.data = .fields vs)
    (hn : ["enumerate", "zip", "dict_itemiterator", "dict_reverseitemiterator", "odict_iterator", "itertools.zip_longest", "itertools.pairwise"].contains n = false) (hQ : Q () s) : wpAny M A (letOwnedTupleGo tg (.ref it) u) Q E s := by
  cases tg <;> first
    | exact aq hQ
    | (cases u <;> first
        | exact aq hQ
        | (refine ag (wpAny_load ho ?_)
           rw [hc, hd];show wpAny M A (if (["enumerate", "zip", "dict_itemiterator", "dict_reverseitemiterator", "odict_iterator", "itertools.zip_longest", "itertools.pairwise"].contains n && vs[0]? == some _) = true then _ else _) Q E s;rw [if_neg (by intro h; rw [hn] at h; cases h)];exact aq hQ))
def Wc(K:aa)(a:Addr):It:=
 ⟨λi H=>∃xs x,bL K H a xs/\xs[i]?=some x,λi H x H'=>H'=H/\∀xs,bL K H a xs->xs[i]?=some x,λi H=>∃xs,bL K H a xs/\xs.length<=i⟩
def Qh(K:aa)(a:Addr):It:=
 ⟨λi H=>∃xs x,cJ K H a xs/\xs[i]?=some x,λi H x H'=>H'=H/\∀xs,cJ K H a xs->xs[i]?=some x,λi H=>∃xs,cJ K H a xs/\xs.length<=i⟩
def Pc(lo:Int)(n:Nat):It:=⟨λi _=>i<n,λi H x H'=>H'=H/\x=.int (lo+i),λi _=>n<=i⟩
theorem B6{P:Program}{w:ah}{K:aa}{tg:ae}(a it:Addr):rA P w K tg (Wc K a) [it] it (λi h=>h.IsListIter it a i) where
 mem:=by simp
 obj:=λi h st b hb=>by
  have e:b=it:=by simpa using hb
  subst e;obtain⟨o,e,c,d⟩:=st;exact⟨o,e,λv z=>by rw[d]at z;cases z⟩
 keep:=λi h h' st k=>st.at λo e=>k it (by simp) o e
 item:=by
  intro X hP hw hK hc i AL s σ H E I hf st hg;subst hP hw hK;obtain⟨xs,x,hq,hx⟩:=hg;obtain⟨its,rv,p,hz⟩:=I.list hq;obtain⟨u,hu,ru⟩:=rv.get hx;obtain⟨f0,f1,f2,f3,f4,f5⟩:=hf it (by simp);refine wpAny_pyNext_list_item st p.isList (x:=u) (by simpa using hu) λh' st' sb=>?_;have I1:=I.turned (t':=s.toks) (λb o hb e=>(sb.2 b hb).trans e) f0 f1 f3 f4 f5;obtain⟨o,e,c,d⟩:=id st';exact⟨u,rfl,Wa  e c d (by decide) ⟨x,H,I1,ru,⟨rfl,λys hy=>by rw[I.list_inj hy hq];exact hx⟩,st',λb hb=>(hf b hb).1⟩⟩
 done:=by
  intro X hP hw hK hc i AL s σ H E I hf st hg;subst hP hw hK;obtain⟨xs,hq,hx⟩:=hg;obtain⟨its,rv,p,hz⟩:=I.list hq;obtain⟨f0,f1,f2,f3,f4,f5⟩:=hf it (by simp);have hl:=rv.length;exact wpAny_pyNext_list_end (I.ok.hd hc) st p.isList (by simp;omega) λh' eb=>⟨rfl,I.turned (t':=s.toks) (λb o hb e=>eb b o hb e) f0 f1 f3 f4 f5⟩
 self:=λ_ _ _ _ _ st h=>wpAny_pyIter_listiter st h
theorem Tx{P:Program}{w:ah}{K:aa}{tg:ae}(a it:Addr):rA P w K tg (Qh K a) [it] it (λi h=>h.IsTupleIter it a i) where
 mem:=by simp
 obj:=λi h st b hb=>by
  have e:b=it:=by simpa using hb
  subst e;obtain⟨o,e,c,d⟩:=st;exact⟨o,e,λv z=>by rw[d]at z;cases z⟩
 keep:=λi h h' st k=>st.at λo e=>k it (by simp) o e
 item:=by
  intro X hP hw hK hc i AL s σ H E I hf st hg;subst hP hw hK;obtain⟨xs,x,hq,hx⟩:=hg;obtain⟨its,rv,p,hz⟩:=I.tuple hq;obtain⟨u,hu,ru⟩:=rv.get hx;obtain⟨f0,f1,f2,f3,f4,f5⟩:=hf it (by simp);refine wpAny_pyNext_tuple_item st (show s.heap.IsTuple a its.toArray from p) (x:=u) (by simpa using hu) λh' st' sb=>?_;have I1:=I.turned (t':=s.toks) (λb o hb e=>(sb.2 b hb).trans e) f0 f1 f3 f4 f5;obtain⟨o,e,c,d⟩:=id st';exact⟨u,rfl,Wa  e c d (by decide) ⟨x,H,I1,ru,⟨rfl,λys hy=>by rw[I.tuple_inj hy hq];exact hx⟩,st',λb hb=>(hf b hb).1⟩⟩
 done:=by
  intro X hP hw hK hc i AL s σ H E I hf st hg;subst hP hw hK;obtain⟨xs,hq,hx⟩:=hg;obtain⟨its,rv,p,hz⟩:=I.tuple hq;obtain⟨f0,f1,f2,f3,f4,f5⟩:=hf it (by simp);have hl:=rv.length;exact wpAny_pyNext_tuple_end (I.ok.hd hc) st (show s.heap.IsTuple a its.toArray from p) (by simp;omega) λh' eb=>⟨rfl,I.turned (t':=s.toks) (λb o hb e=>eb b o hb e) f0 f1 f3 f4 f5⟩
 self:=λ_ _ _ _ _ st h=>wpAny_pyIter_tupleiter st h
theorem Jy  {w:ah}{K:aa}{tg:ae}(it:Addr)(lo:Int)(n:Nat):rA P w K tg (Pc lo n) [it] it (λi h=>IsRangeIter h it (lo+(i:Nat)*1) ((n:Int)-(i:Nat)) 1) where
 mem:=by simp
 obj:=λi h st b hb=>by
  have e:b=it:=by simpa using hb
  subst e;exact⟨_,st,λv z=>by
   have z':=z;cases z'⟩
 keep:=λi h h' st k=>k it (by simp) _ st
 item:=by
  intro X hP hw hK hc i AL s σ H E I hf st hg;subst hP hw hK;obtain⟨f0,f1,f2,f3,f4,f5⟩:=hf it (by simp);have W:=Walks.range (prog:=X.prog) (w:=X.w) (I.ok.hd hc) it lo 1 n;refine W.item i s _ _ hg st λv h' tk hv st' kk=>?_;obtain⟨t,rfl⟩:=hv;have I1:aF X AL σ H {s with heap:=h',toks:=tk}:=I.turned (λb o hb e=>kk b o (by simpa using hb) e) f0 f1 f3 f4 f5;refine⟨_,rfl,Wa   st' rfl rfl (by decide) ⟨.int (lo+i),H,I1,⟨t,?_⟩,⟨rfl,rfl⟩,st',λb hb=>(hf b hb).1⟩⟩;rw[Int.mul_one]
 done:=by
  intro X hP hw hK hc i AL s σ H E I hf st hg;subst hP hw hK;obtain⟨f0,f1,f2,f3,f4,f5⟩:=hf it (by simp);exact wpAny_pyNext_range_end (I.ok.hd hc) st (by have:n<=i:=hg;omega) λh' eb=>⟨rfl,I.turned (t':=s.toks) (λb o hb e=>eb b o hb e) f0 f1 f3 f4 f5⟩
 self:=λ_ _ _ _ _ st h=>wpAny_pyIter_rangeiter st h
section
variable{X:Cx}{tg:ae}
theorem F1  {σ:St}{H:Hp}{s:Shared}{R:It->Hp->Prop}{E:Value->Shared->Prop}{lo hi:Int}{t u v:bg}{tk:Nat}(I:aF X AL σ H s)(h1:-(2^62)<=lo)(h2:lo<2^62)(h3:-(2^62)<=hi)(h4:hi<2^62)
  (q:R (Pc lo (hi-lo).toNat) H):wpAny (model X.prog X.w) X.A (pyIter (.ref s.heap.objs.size)) (Hv X AL σ tg R) E {s with heap:=s.heap.push {cls:=.type "range",data:=.fields #[.int lo t,.int hi u,.int 1 v]},toks:=tk}:=by
 refine wpAny_pyIter_range (IsRange.new ..) (small_one h1 h2 h3 h4) ?_;have I1:aF X _ σ H {s with heap:=s.heap.push {cls:=.type "range",data:=.fields #[.int lo t,.int hi u,.int 1 v]},toks:=tk}:=I.kept λb o e=>ao _ e;refine⟨(s.heap.push _).objs.size,[(s.heap.push _).objs.size],_,_,H,rfl,
  I1.kept  λb o e=>ao _ e,Jy _ lo _,?_,λb hb=>?_,q⟩
 .have e1:lo+(0:Nat)*1=lo:=by simp
  have e2:((hi-lo).toNat:Int)-(0:Nat)=Builtin.Range.rangeSize lo hi 1:=by rw[rangeSize_one];grind
  rw[e1,e2];exact bn _ rfl
 .have e:b=(s.heap.push {cls:=.type "range",data:=.fields #[.int lo t,.int hi u,.int 1 v]}).objs.size:=by simpa using hb
  subst e;exact I1.fpOk (ak _) (I1.hok.fresh (ak _))
def acr(ta:TA):TI:=λσ H R=>ta σ H λvs H1=>∃j:Int,vs=[.int j]/\-(2^62)<=j/\j<2^62/\R (Pc 0 j.toNat) H1
theorem A5   {p pos:ai}(hg:Gl X "range")(hm:X.mg "range"=none)(ha:PA X [a] ta)(hs:starEach [a] X.env=[(false,eval a X.env)]:=by rfl):PI X tg (.Call (.Name "range" p) [a] [] pos) (acr ta):=by
 intro AL s σ H R I h;refine Call_ (xA I hg hm boot_range (oh (aR (ha pos AL s σ H _ I h) λus s1 hq=>?_) hs rfl));rcases hq with⟨vs,H1,I1,r1,q1⟩;obtain⟨j,e,q1,q2,q⟩:=q1;subst e;cases r1 with
 |cons r rr=>
  cases rr;obtain⟨t,rfl⟩:=r;exact call_range_1 (F1 I1 (by omega) (by omega) q1 q2 (by simpa using q))
def add(wi:TI)(g:TG)(tb:TS):TS:=λD σ H=>wi σ H λJ H1=>∃W:Nat->Nat->St->Hp->Prop,(∃m,W 0 m σ H1)/\∀i m σ H,W i m σ H->
 (J.stop i H/\D.nx σ H)\/(J.go i H/\∃N:St->Hp->Prop,(∀σ' H',N σ' H'->∃m',m'<m/\W (i+1) m' σ' H')/\∀x H',J.yld i H x H'->g x σ H' λσ2 H2=>tb {D with nx:=N,ct:=N,bk:=D.nx} σ2 H2)
def Cg(fp:List Addr)(h:Heap):List (Addr×Obj):=fp.filterMap λb=>(h.get? b).map λo=>(b,o)
theorem oG   {b:Addr}{o:Obj}(hb:b∈fp)(e:h.get? b=some o):(b,o)∈Cg fp h:=kj.mpr ⟨b,hb,by simp_all ⟩
theorem Lz    (hp:p∈Cg fp h):p.1∈fp/\h.get? p.1=some p.2:=by
 obtain⟨b,hb,e⟩:=kj.mp hp;cases q:h.get? b with
 |none=>simp_all
 |some o=>
  rw[q]at e;have e':=dj e;subst e';exact⟨hb,q⟩
theorem aF.pinned  {σ:St}{H:Hp}{s:Shared}{fp:List Addr}(I:aF X AL σ H s)(hf:∀b∈fp,eR X AL H b)(ho:∀b∈fp,∃o,s.heap.get? b=some o/\∀v,o.data≠.cell v):aF X (AL++Cg fp s.heap) σ H s:=
 I.pins_of λp hp=>(cf.mp hp).elim (λz=>I.pin p (ck _ z)) λz=>by
  obtain⟨hb,e⟩:=Lz z;obtain⟨f0,f1,f2,_⟩:=hf _ hb;obtain⟨o,e',d⟩:=ho _ hb
  simp_all
theorem aF.unpinned  {σ:St}{H:Hp}{s:Shared}(I:aF X (AL++pl) σ H s):aF X AL σ H s:=I.pins_of λp hp=>I.pin p (ck _ (kg _ hp))
theorem aaX  {body:List Stmt}{wi:TI}{g:TG}{tb:TS}{pos:ai}(hp:og (model X.prog X.w) X.A X.env X.xe)(hc:X.calm=true)(hi:PI X tg iter wi)(hg:PG X tg g)(hb:dH X body tb)
  (hs:∀x,foldedSetIterable iter X.env x=pure x:=by intro _;rfl):PS X (.For tg iter body [] pos) (add wi g tb):=by
 intro AL s σ H D I h;refine wpAny_For (aR (hi AL s σ H _ I h) λv s1 h1=>aR h1 λitv s2 h2=>?_) hs;obtain⟨it,fp,tn,J,H2,e,I2,T,st2,f2,W,⟨m0,w0⟩,turn⟩:=h2;subst e
 --what stays true of the iterator's objects through the loop
 have stat:∀{H':Hp},(∀b∈fp,H' b=none)->∀b∈fp,eR X AL H' b:=λhn b hb=>⟨hn b hb,(f2 b hb).2⟩;refine codeAny_forLoop_any (λn s'=>∃i σ' H',aF X AL σ' H' s'/\tn i s'.heap/\(∀b∈fp,H' b=none)/\W i n σ' H') ?_ m0 ⟨0,σ,H2,I2,st2,λb hb=>(f2 b hb).1,w0⟩
 rintro n s3 ⟨i,σ3,H3,I3,st3,fr3,w3⟩
 rcases turn i n σ3 H3 w3 with⟨stop,qn⟩|⟨go,N,hN,step⟩
 .refine jq hp (aR (T.done X rfl rfl rfl hc i AL s3 σ3 H3 X.xe I3 (stat fr3) st3 stop) λr s4 hq=>?_)
  rcases hq with⟨hr,I4⟩;subst hr;exact kh ⟨σ3,H3,I4,qn⟩
 .refine jq hp (aR (T.item X rfl rfl rfl hc i AL s3 σ3 H3 X.xe I3 (stat fr3) st3 go) λr s4 hq=>?_)
  rcases hq with⟨u,hr,h4⟩;subst hr;refine jq hp (aR h4 λ_ s5 hq=>?_);rcases hq with⟨x,H5,I5,r5,y5,st5,fr5⟩;have I5':=I5.pinned (stat fr5) (T.obj _ _ st5);refine jq hp (aR (hg _ s5 σ3 H5 x u _ I5' r5 (step x H5 y5)) λ_ s6 hq=>?_);rcases hq with⟨σ6,H6,I6,q6⟩;refine jq hp (aR (hb _ s6 σ6 H6 _ I6 q6) λf s7 q7=>?_);have again:∀{σ7:St}{H7:Hp},aF X _ σ7 H7 s7->N σ7 H7->∃m,m<n/\∃i σ' H',aF X AL σ' H' s7/\tn i s7.heap/\(∀b∈fp,H' b=none)/\W i m σ' H':=λ{σ7 H7} I7 n7=>by
   obtain⟨m',hm,w7⟩:=hN σ7 H7 n7;refine⟨m',hm,i+1,σ7,H7,I7.unpinned,T.keep _ _ _ st5 λb hb o e=>(I7.pin (b,o) (ck _ (ck _ (oG hb e)))).1,λb hb=>?_,w7⟩;obtain⟨o,e,d⟩:=T.obj _ _ st5 b hb;exact(I7.pin (b,o) (ck _ (ck _ (oG hb e)))).2.1
  cases f with
  |next=>obtain⟨σ7,H7,I7,n7⟩:=q7;exact again I7 n7
  |cont=>obtain⟨σ7,H7,I7,n7⟩:=q7;exact again I7 n7
  |brk=>obtain⟨σ7,H7,I7,q7⟩:=q7;exact⟨σ7,H7,I7.unpinned,q7⟩
  |ret v=>obtain⟨x7,σ7,H7,I7,r7,q7⟩:=q7;exact⟨x7,σ7,H7,I7.unpinned,r7,q7⟩
end
abbrev R2:=V->V->Hp->VK->Prop
def cN(X:Cx)(f:Value->Value->bt Value)(r:R2):Prop:=
 ∀(AL:List (Addr×Obj))(s:Shared)(σ:St)(H:Hp)(x y:V)(v u:Value)(Q:VK),aF X AL σ H s->aT x v->aT y u->r x y H Q->
  wpAny (model X.prog X.w) X.A (f v u) (EP X AL σ Q) X.xe s
def Mc(X:Cx)(f:Value->bt Value)(r:V->Hp->VK->Prop):Prop:=
 ∀(AL:List (Addr×Obj))(s:Shared)(σ:St)(H:Hp)(x:V)(v:Value)(Q:VK),aF X AL σ H s->aT x v->r x H Q->
  wpAny (model X.prog X.w) X.A (f v) (EP X AL σ Q) X.xe s
def fX(X:Cx)(f:Value)(r:List V->Hp->VK->Prop):Prop:=
 ∀(AL:List (Addr×Obj))(s:Shared)(σ:St)(H:Hp)(xs:List V)(us:AD)(Q:VK),aF X AL σ H s->aS xs us->r xs H Q->
  wpAny (model X.prog X.w) X.A (call f us) (EP X AL σ Q) X.xe s
def ac2(X:Cx)(r:V->Hp->(Bool->Hp->Prop)->Prop):Prop:=
 ∀(AL:List (Addr×Obj))(s:Shared)(σ:St)(H:Hp)(x:V)(v:Value)(Q:Bool->Hp->Prop),aF X AL σ H s->aT x v->r x H Q->
  wpAny (model X.prog X.w) X.A (truthy v) (TP X AL σ Q) X.xe s
def Qc(r:R2)(ta tb:TE):TE:=λσ H Q=>ta σ H λx H1=>tb σ H1 λy H2=>r x y H2 Q
def tUn(r:V->Hp->VK->Prop)(ta:TE):TE:=λσ H Q=>ta σ H λx H1=>r x H1 Q
def rI(C:Int->Int->Prop)(g:Int->Int->V):R2:=λx y H Q=>∃i j,x=.int i/\y=.int j/\C i j/\Q (g i j) H
def jE(g:Int->Int->V):R2:=λx y H Q=>∃i j,x=.int i/\y=.int j/\Q (g i j) H
def rU(g:Int->V):V->Hp->VK->Prop:=λx H Q=>∃i,x=.int i/\Q (g i) H
section
variable{X:Cx}{a b c:ae}{ta tb tc:TE}{pos:ai}
theorem Kh(ha:PE X a ta)(hb:PE X b tb){AL:List (Addr×Obj)}{s:Shared}{σ:St}{H:Hp}{R:V->V->Hp->Prop}(I:aF X AL σ H s)
  (h:ta σ H λx H1=>tb σ H1 λy H2=>R x y H2){Q:Value->Shared->Prop}{f:Value->Value->bt Value}
  (hf:∀v u s2 x y H2,aF X AL σ H2 s2->aT x v->aT y u->R x y H2->wpAny (model X.prog X.w) X.A (f v u) Q X.xe s2):
  wpAny (model X.prog X.w) X.A (eval a X.env) (λv AO=>wpAny (model X.prog X.w) X.A (eval b X.env) (λu AS=>wpAny (model X.prog X.w) X.A (f v u) Q X.xe AS) X.xe AO) X.xe s:=by
 refine aR (ha _ s _ H _ I h) ?_
 rintro v s1 ⟨x,H1,I1,r1,q1⟩
 refine aR (hb _ _ _ _ _ I1 q1) ?_
 rintro u s2 ⟨y,H2,I2,r2,q2⟩
 exact hf v u _ x y _ I2 r1 r2 q2
theorem Ss   (ho:cN X (binaryOp op) r)(ha:PE X a ta)(hb:PE X b tb):PE X (.BinOp a op b pos) (Qc r ta tb):=by
 intro AL s σ H Q I h;exact wpAny_BinOp (Kh ha hb I h λv u s2 x y H2 I2 rx ry q=>ho _ _ _ _ x y v u Q I2 rx ry q)
theorem acl   (ho:Mc X (unaryOp op) r)(ha:PE X a ta):PE X (.UnaryOp op a pos) (tUn r ta):=by
 intro AL s σ H Q I h;exact UnaryOp_ (aR (ha _ s _ H _ I h) λv s1 ⟨x,H1,I1,r1,q1⟩=>ho _ _ _ _ x v Q I1 r1 q1)
theorem Uc  {C:Int->Int->Prop}{g:Int->Int->Int}
  (rule:∀(i j:Int)(t u:bg)(s:Shared)(Q:Value->Shared->Prop)(E:Value->Shared->Prop),C i j->Q (.int (g i j) s.toks) {s with toks:=s.toks+1}->wpAny (model X.prog X.w) X.A (f (.int i t) (.int j u)) Q E s):
  cN X f (rI C λi j=>.int (g i j)):=by
 intro AL s σ H x y v u Q I rx ry h;obtain⟨i,j,rfl,rfl,hc,q⟩:=h;obtain⟨t,rfl⟩:=rx;obtain⟨t',rfl⟩:=ry;exact rule i j t _ s _ _ hc ⟨.int _,H,I.tok _,⟨_,rfl⟩,q⟩
theorem Nt  {g:Int->Int->Int}
  (rule:∀(i j:Int)(t u:bg)(s:Shared)(Q:Value->Shared->Prop)(E:Value->Shared->Prop),Q (.int (g i j) s.toks) {s with toks:=s.toks+1}->wpAny (model X.prog X.w) X.A (f (.int i t) (.int j u)) Q E s):
  cN X f (jE λi j=>.int (g i j)):=by
 intro AL s σ H x y v u Q I rx ry h;obtain⟨i,j,rfl,rfl,q⟩:=h;obtain⟨t,rfl⟩:=rx;obtain⟨t',rfl⟩:=ry;exact rule i j t _ s _ _ ⟨.int _,H,I.tok _,⟨_,rfl⟩,q⟩
theorem Xb  {g:Int->Int->Bool}
  (rule:∀(i j:Int)(t u:bg)(s:Shared)(Q:Value->Shared->Prop)(E:Value->Shared->Prop),Q (.bool (g i j)) s->wpAny (model X.prog X.w) X.A (f (.int i t) (.int j u)) Q E s):
  cN X f (jE λi j=>.bl (g i j)):=by
 intro AL s σ H x y v u Q I rx ry h;obtain⟨i,j,rfl,rfl,q⟩:=h;obtain⟨t,rfl⟩:=rx;obtain⟨t',rfl⟩:=ry;exact rule i j t _ s _ _ ⟨.bl _,H,I,rfl,q⟩
def Ic(i j:Int):Prop:=0<=j/\j<=1000000/\i.natAbs<2^64
def Lh(i j:Int):Prop:=(-(2^64)<i/\i<2^64)\/(-(2^64)<j/\j<2^64)
theorem Lh.ok  (h:Lh i j):IntMulOk i j:=by
 rcases h with⟨h1,h2⟩|⟨h1,h2⟩
 .exact .of_left (intBits_le_64 h1 h2)
 .exact .of_right (intBits_le_64 h1 h2)
theorem Yp:cN X (binaryOp .Add) (jE λi j=>.int (i+j)):=Nt λ_ _ _ _ _ _ _ q=>add_int q
theorem aad:cN X (binaryOp .Sub) (jE λi j=>.int (i-j)):=Nt λ_ _ _ _ _ _ _ q=>sub_int q
theorem X7:cN X (binaryOp .Mod) (rI (λ_ j=>j≠0) λi j=>.int (i.fmod j)):=Uc λ_ _ _ _ _ _ _ hc q=>mod_int' hc q
theorem abg:cN X (binaryOp .Pow) (rI Ic λi j=>.int (i^j.toNat)):=Uc λ_ _ _ _ _ _ _ hc q=>pow_int_small hc.1 hc.2.1 hc.2.2 q
theorem unI  {g:Int->Int}
  (rule:∀(i:Int)(t:bg)(s:Shared)(Q:Value->Shared->Prop)(E:Value->Shared->Prop),Q (.int (g i) s.toks) {s with toks:=s.toks+1}->wpAny (model X.prog X.w) X.A (f (.int i t)) Q E s):
  Mc X f (rU λi=>.int (g i)):=by
 intro AL s σ H x v Q I rx h;obtain⟨i,rfl,q⟩:=h;obtain⟨t,rfl⟩:=rx;exact rule i t s _ _ ⟨.int _,H,I.tok _,⟨_,rfl⟩,q⟩
theorem abb:Mc X (unaryOp .USub) (rU λi=>.int (-i)):=unI λ_ _ _ _ _ q=>neg_int q
theorem aaP{AL:List (Addr×Obj)}{σ:St}{H:Hp}{s:Shared}{Q:VK}{k k':Bool}(I:aF X AL σ H s)(q:Q (.bl k) H)(e:k=k'):EP X AL σ Q (.bool k') s:=by
 subst e;exact⟨.bl k,H,I,rfl,q⟩
theorem uR:cN X (compareOp .Lt) (jE λi j=>.bl (decide (i<j))):=Xb λ_ _ _ _ _ _ _ q=>lt_int q
theorem xN:cN X (compareOp .LtE) (jE λi j=>.bl (decide (i<=j))):=Xb λ_ _ _ _ _ _ _ q=>le_int q
theorem Qs:cN X (compareOp .Gt) (jE λi j=>.bl (decide (j<i))):=Xb λ_ _ _ _ _ _ _ q=>gt_int q
theorem Qr:cN X (compareOp .GtE) (jE λi j=>.bl (decide (j<=i))):=Xb λ_ _ _ _ _ _ _ q=>ge_int q
theorem B7:cN X (compareOp .In) (λx y H Q=>∃i j,x=.str i/\y=.str j/\Q (.bl (!(lu j i 0 j.length 1).isEmpty)) H):=by
 intro AL s σ H x y v u Q I rx ry h;obtain⟨i,j,rfl,rfl,q⟩:=h;obtain⟨t,rfl⟩:=rx;obtain⟨t',rfl⟩:=ry;exact in_str (aaP I q rfl)
theorem cN.or   (h:cN X f r)(h':cN X f r'):cN X f (λx y H Q=>r x y H Q\/r' x y H Q):=by
 intro AL s σ H x y v u Q I rx ry q;rcases q with q |q
 .exact h _ s _ H x y v u Q I rx ry q
 .exact h' _ s _ H x y v u Q I rx ry q
theorem lB(b:ae){op:CmpOp}(h:op≠.In:=by decide)(h2:op≠.NotIn:=by decide):behindInMarks op b=false:=by
 have e1:(op==CmpOp.In)=false:=by grind
 have e2:(op==CmpOp.NotIn)=false:=by grind
 cases b<;>simp[behindInMarks,e1,e2]
theorem O3   (ho:cN X (compareOp op) r)(ha:PE X a ta)(hb:PE X b tb)(hm:behindInMarks op b=false):PE X (.Compare a [op] [b] pos) (Qc r ta tb):=by
 intro AL s σ H Q I h;exact wpAny_Compare1 (Kh ha hb I h λv u s2 x y H2 I2 rx ry q=>ho _ _ _ _ x y v u Q I2 rx ry q) hm
def abN(t:TE):TT:=λσ H Q=>t σ H λx H'=>∃k,x=.bl k/\Q k H'
theorem Q6   (ho:cN X (compareOp op) r)(ha:PE X a ta)(hb:PE X b tb)(hm:behindInMarks op b=false):PT X (.Compare a [op] [b] pos) (abN (Qc r ta tb)):=by
 intro AL s σ H Q I h;refine ww (aR (ha _ s _ H _ I h) λv s1 ⟨x,H1,I1,r1,q1⟩=>aR (hb _ _ _ _ _ I1 q1) λu s2 ⟨y,H2,I2,r2,q2⟩=>
  aR (ho _ _ _ _ x y v u _ I2 r1 r2 q2) λc s3 ⟨z,H3,I3,r3,k,e,q3⟩=>?_) hm
 subst e;cases r3;exact jd ⟨H3,I3,q3⟩
def aaF(r r':R2)(ta tb tc:TE):TE:=λσ H Q=>ta σ H λx H1=>tb σ H1 λy H2=>r x y H2 λz H3=>∃k,z=.bl k/\
 (if k=true then tc σ H3 λw' H4=>r' y w' H4 Q else Q (.bl false) H3)
theorem I0{op op':CmpOp}{r r':R2}(ho:cN X (compareOp op) r)(ho':cN X (compareOp op') r')(ha:PE X a ta)(hb:PE X b tb)(hc:PE X c tc)
  (hm:lastMarks [op,op'] [b,c]=false:=by with_unfolding_all rfl):PE X (.Compare a [op,op'] [b,c] pos) (aaF r r' ta tb tc):=by
 intro AL s σ H Q I h;refine Compare_chain (aR (ha AL s σ H _ I h) λv s1 ⟨x,H1,I1,r1,q1⟩=>chain_link (aR (hb AL s1 σ H1 _ I1 q1) λu s2 ⟨y,H2,I2,r2,q2⟩=>
  aR (ho AL s2 σ H2 x y v u _ I2 r1 r2 q2) λd s3 ⟨z,H3,I3,r3,k,e,q3⟩=>?_)) hm
 subst e;cases r3;refine jd ?_;cases k with
 |false=>exact ite_ff ⟨.bl false,H3,I3,rfl,q3⟩
 |true=>exact ite_tt (chain_last (aR (hc AL s3 σ H3 _ I3 q3) λw' s4 ⟨z',H4,I4,r4,q4⟩=>ho' AL s4 σ H4 y z' u w' Q I4 r2 r4 q4))
def Bt(K:aa)(x:V)(H:Hp)(k:Bool):Prop:=
 match x with
 |.non=>k=false
 |.bl b=>k=b
 |.int i=>k=(i !=0)
 |.str y=>y.length<=sizeLine/\k=((y.length:Int) !=0)
 |.byt y=>y.size<=sizeLine/\k=((y.size:Int) !=0)
 |.ref p=>(∃xs,bL K H p xs/\k=!xs.isEmpty)\/(∃xs,cJ K H p xs/\k=!xs.isEmpty)\/∃kvs,H p=some (.dK kvs)/\k=!kvs.isEmpty
 |_=>False
theorem Sy    (r:KV kvs vs):(!vs.isEmpty)=!kvs.isEmpty:=by
 cases r<;>rfl
theorem Lk   (r:aS xs its):(!its.toArray.isEmpty)=!xs.isEmpty:=by
 cases r<;>simp
theorem qH:(sizeLine:Nat)<2^63:=by decide
theorem Z4:ac2 X (λx H Q=>∃k,Bt X.K x H k/\Q k H):=by
 intro AL s σ H x v Q I rx h;obtain⟨k,e,q⟩:=h;have hl:=qH;have hs:sizeLine=16777216:=fe;cases x with
 |non=>
  cases rx;have e':k=false:=e;subst e';exact truthy_none ⟨H,I,q⟩
 |bl b=>
  cases rx;have e':k=b:=e;subst e';exact jd ⟨H,I,q⟩
 |int i=>
  obtain⟨t,rfl⟩:=rx;have e':k=(i !=0):=e;subst e';exact PySem.P.truthy_int ⟨H,I,q⟩
 |str y=>
  obtain⟨t,rfl⟩:=rx;obtain⟨hy,e'⟩:y.length<=sizeLine/\k=((y.length:Int) !=0):=e;subst e';exact PySem.P.truthy_str (by omega) ⟨H,I.tok _,q⟩
 |byt y=>
  obtain⟨t,rfl⟩:=rx;obtain⟨hy,e'⟩:y.size<=sizeLine/\k=((y.size:Int) !=0):=e;subst e';exact PySem.W.truthy_bytes (by omega) ⟨H,I.tok _,q⟩
 |ref p=>
  cases rx;have e':=e;rcases e' with⟨xs,hx,e'⟩|⟨xs,hx,e'⟩|⟨kvs,hx,e'⟩
  .subst e'
   obtain⟨its,r,pl,hz⟩:=I.list hx;have hlen:=r.length;exact wpAny_truthy_list pl.isList (by simp only[ax];omega) ⟨H,I.tok _,by rw[Lk r];exact q⟩
  .subst e'
   obtain⟨its,r,pl,hz⟩:=I.tuple hx;have hlen:=r.length;exact truthy_tuple pl (by simp only[ax];omega) ⟨H,I.tok _,by rw[Lk r];exact q⟩
  .subst e'
   obtain⟨hz,hS,vs,r,m⟩:kvs.length<=sizeLine/\(p==sysModules)=false/\∃vs,KV kvs vs/\s.heap.DictOf (fO X.prog X.w) p vs:=I.hok p _ hx;have hlen:kvs.length=vs.length:=ny r;exact wpAny_truthy_dict hS m (by omega) ⟨H,I.tok _,by rw[Sy r];exact q⟩
 |_=>exact(show False from e).elim
theorem Xe(ha:PE X a ta)(he:∀whole,isTrue a X.env whole=(do let v <-whole;standAt a.pos;holding [v] (truthy v))):
  PT X a (λσ H Q=>ta σ H λx H'=>∃k,Bt X.K x H' k/\Q k H'):=by
 intro AL s σ H Q I h;exact isTrue_plain (aR (ha _ s _ H _ I h) λv s1 ⟨x,H1,I1,r1,q1⟩=>Z4 _ _ _ _ x v Q I1 r1 q1) (he _)
theorem Ey:cN X (binaryOp .Add) (λx y H Q=>∃i j,x=.str i/\y=.str j/\i.length+j.length<=sizeLine/\Q (.str (i++j)) H):=by
 intro AL s σ H x y v u Q I rx ry h;obtain⟨i,j,rfl,rfl,hz,q⟩:=h;obtain⟨t,rfl⟩:=rx;obtain⟨t',rfl⟩:=ry;exact add_str (λt' tk=>⟨.str (i++j),H,I.tok _,⟨_,rfl⟩,q⟩) hz
theorem gJ   (r:aS [x] us):∃u,us=[u]/\aT x u:=by
 cases r with
 |cons r1 r2=>cases r2;exact⟨_,rfl,r1⟩
theorem Js   (r:aS [x,y] us):∃u w',us=[u,w']/\aT x u/\aT y w':=by
 cases r with
 |cons r1 r2=>
  cases r2 with
  |cons r3 r4=>cases r4;exact⟨_,_,rfl,r1,r3⟩
theorem K8:fX X (.builtin "abs") (λxs H Q=>∃i,xs=[.int i]/\Q (.int (if i<0 then-i else i)) H):=by
 intro AL s σ H xs us Q I r h;obtain⟨i,rfl,q⟩:=h;obtain⟨u,rfl,t,rfl⟩:=gJ r;exact call_abs_int λu tk=>⟨.int _,H,I.tok _,⟨_,rfl⟩,q⟩
theorem Az:fX X (.type "int") (λxs H Q=>(∃i,xs=[.int i]/\Q (.int i) H)\/∃k,xs=[.bl k]/\Q (.int (if k then 1 else 0)) H):=by
 intro AL s σ H xs us Q I r h;rcases h with⟨i,rfl,q⟩|⟨k,rfl,q⟩
 .obtain⟨u,rfl,t,rfl⟩:=gJ r
  exact call_int_int ⟨.int i,H,I,⟨_,rfl⟩,q⟩
 .obtain⟨u,rfl,r1⟩:=gJ r
  cases r1;exact call_int_bool ⟨.int _,H,I.tok _,⟨_,rfl⟩,q⟩
theorem Ww:fX X (.type "str") (λxs H Q=>∃i,xs=[.int i]/\i.natAbs.log2<1920/\Q (.str (toString i)) H):=by
 intro AL s σ H xs us Q I r h;obtain⟨i,rfl,hz,q⟩:=h;obtain⟨u,rfl,t,rfl⟩:=gJ r;exact PySem.P.str_of_int hz ⟨.str _,H,I.tok _,⟨_,rfl⟩,q⟩
end
structure qX(h:Heap)(x dx C:Addr)(mA:Str->AE):Prop where
 obj:h.get? x=some (jc C dx)
 ns:h.Ns1 dx mA
 ne:dx≠x
theorem Fz{h:Heap}{dx:Addr}{mA:Str->AE}(n:h.Ns1 dx mA):∃od,h.get? dx=some od/\∀name,oi name od=some (mA name):=by
 obtain⟨o,es,ep,ho,hd,hk,_,hm⟩:=n;refine⟨o,ho,λname=>?_⟩;have e:=hm name;unfold nsFind findBy at e;rw[<-Array.find?_toList]at e;unfold oi;rw[hd];dsimp only;split
 .simp_all
 .rename_i q
  rw[q]at e;have a:es.toList.any (·.refKey)=false:=by
   rw[List.any_eq_false];intro y hy;obtain⟨z,t,hkey⟩:=hk y (Array.mem_toList_iff.mp hy);simp[DictEntry.refKey,hkey]
  have a':¬es.toList.any (·.refKey)=true:=by rw[a];simp_all
  rw[if_neg a'];exact congrArg _ e
theorem qX.look    (I:qX h x dx C mA):∃od,PySem.W.InstAt h x (jc C dx) C (some od)/\∀name,oi name od=some (mA name):=
 let⟨od,ho,hl⟩:=Fz I.ns
 ⟨od,⟨I.obj,rfl,rfl,ho⟩,hl⟩
section
variable{prog:Program}{w:ah}{A:aj}{E:Value->Shared->Prop}{s:Shared}{K:aa}{x dx C f:Addr}{mA:Str->AE}{name:Str}{v:Value}
theorem X9{expr:Bool}{Q:Value->Shared->Prop}(X:K.In s.heap)(I:qX s.heap x dx C mA)(hg:lv K C name=true)(hh:oj K C=true)
  (ha:di K (.ref C) name=some none)(hv:mA name=some v)(hv':wy v=true)(h:Q v {s with toks:=s.toks+1}):
  wpAny (model prog w) A (getAttr (.ref x) name expr) Q E s:=by
 obtain⟨od,J,hl⟩:=I.look;exact PySem.W.get_value X J (ss hg).1 (PySem.W.findObj_own hh ha rfl (by rw[hl,hv])) hv' h
theorem E3{pl:bt Bool}{Q:Value×AD->Shared->Prop}(X:K.In s.heap)(I:qX s.heap x dx C mA)(hg:lv K C name=true)
  (hf:di K (.ref C) name=some (some (.ref f)))(ht:km K (.ref f)=true)(hv:mA name=none)(h:Q (.ref f,[.ref x]) s):
  wpAny (model prog w) A (getMethod (.ref x) name pl) Q E s:=by
 obtain⟨od,J,hl⟩:=I.look;exact PySem.W.method_fn X J (ss hg).1 (ss hg).2 hf (beq_iff_eq.mp ht) (by show(oi name od).map (·.isSome)=some false;rw[hl,hv];rfl) h
theorem W8{ns:List Str}{Q:Unit->Shared->Prop}(X:K.In s.heap)(I:qX s.heap x dx C mA)
  (hs:di K (.ref C) "__setattr__"=some (some (.builtin "object.__setattr__")))(hp:su K C=true)(ht:sv K C name=some none)(hh:oj K C=true)
  (hw:sd mA ns)(hsz:ns.length<=sizeLine)
  (h:∀h',qX h' x dx C (λy=>if y=name then some v else mA y)->eg dx s.heap h'->Q () {s with heap:=h',toks:=s.toks+2}):
  wpAny (model prog w) A (setAttr (.ref x) name v) Q E s:=by
 obtain⟨od,J,hl⟩:=I.look;refine PySem.W.set_plain X J hs (PySem.W.osa_open (s:={s with toks:=s.toks+1}) (r:=none) X J hp ht λb=>?_);obtain⟨cd,hc,hd'⟩:=PySem.W.any_some hh;have hx:s.heap.get? x=some ⟨.ref C,some dx,.plain,#[]⟩:=I.obj;refine ag (aq (ag (ag (wpAny_loadPart hx (ag (PySem.W.Looks.here (s:={s with toks:=s.toks+1}) (PySem.W.looks_clsIn X hc) ?_))))));rw[hd'];refine aq (a:=some dx) (ag (aq (ag ?_)));refine wpAny_nsSet1 (s:={s with toks:=s.toks+1}) I.ns λh' hn2 hs2=>?_;obtain⟨oD,esD,epD,hoD,hdD,hcD⟩:=hn2.count (PySem.Within.cons name v hw);refine ag (wpAny_lookBehind hoD (by rw[hdD];exact pastItsLine_dict (dq hcD (by rw[bq];omega))) ?_);exact aq (h _ ⟨(hs2.2 _ (dw I.ne)).trans I.obj,hn2,I.ne⟩ hs2)
theorem F8{R:im->Shared->Prop}{vs:AD}{kw:List (Str×Value)}(X:K.In s.heap)(hm:lx K C=true)
  (hi:di K (.ref C) "__init__"=some (some (.ref f)))(hf:PySem.W.typeIn K (.ref f)=some (.type "function"))
  (h:codeAny (model prog w) (A.under (.builtin "type.__call__" ⟨.ref C::vs,kw⟩)) (.call (.ref f) ⟨.ref (s.heap.objs.size+1)::vs,kw⟩) (PySem.W.InitBack (s.heap.objs.size+1) R)
   {s with heap:=(s.heap.push ip).push (jc C s.heap.objs.size)}):
  codeAny (model prog w) A (.call (.ref C) ⟨vs,kw⟩) R s:=by
 obtain⟨hh,g,d,t,os⟩:=s;exact PySem.W.make_core (PySem.W.makes_of X hm) (om X hi) (λself=>PySem.W.bind_fn X self hf) (.inl rfl) h
end
def iG(f:Str)(v:V):List (Str×V)->List (Str×V)
 |[]=>[(f,v)]
 |(g,x)::r=>if g=f then(g,v)::r else(g,x)::iG f v r
theorem Ck(f g:Str)(v:V):∀fs:List (Str×V),(iG f v fs).lookup g=if g=f then some v else fs.lookup g
 |[]=>by
  show je g [(f,v)]=_
  by_cases h:g=f
  .have hb:(g==f)=true:=beq_iff_eq.mpr h
   simp only[je,hb,if_pos h]
  .have hb:(g==f)=false:=beq_eq_false_iff_ne.mpr h
   simp only[je,hb,if_neg h]
 |(k,x)::r=>by
  have ih:=Ck f g v r;rw[show iG f v ((k,x)::r)=(if k=f then(k,v)::r else(k,x)::iG f v r) from rfl]
  by_cases hk:k=f
  .rw[if_pos hk]
   by_cases h:g=k
   .have hb:(g==k)=true:=beq_iff_eq.mpr h
    simp only[je,hb,if_pos (h.trans hk)]
   .have hb:(g==k)=false:=beq_eq_false_iff_ne.mpr h
    simp only[je,hb,if_neg (λe:g=f=>h (e.trans hk.symm))]
  .rw[if_neg hk]
   by_cases h:g=k
   .have hb:(g==k)=true:=beq_iff_eq.mpr h
    simp only[je,hb,if_neg (λe:g=f=>hk (h.symm.trans e))]
   .have hb:(g==k)=false:=beq_eq_false_iff_ne.mpr h
    simp only[je,hb];exact ih
theorem Fe(f:Str)(v:V):∀fs:List (Str×V),f∈(iG f v fs).map (·.1)/\∀g,g∈fs.map (·.1)->g∈(iG f v fs).map (·.1)
 |[]=>⟨by simp[iG],λg h=>by simp at h⟩
 |(k,x)::r=>by
  obtain⟨i1,i2⟩:=Fe f v r;rw[show iG f v ((k,x)::r)=(if k=f then(k,v)::r else(k,x)::iG f v r) from rfl]
  by_cases hk:k=f
  .rw[if_pos hk]
   subst hk;exact⟨by simp,λg h=>by simpa using h⟩
  .rw[if_neg hk]
   refine⟨?_,λg h=>?_⟩
   .rw[cn]
    exact cu _ i1
   .rw[cn]at h⊢
    rcases bw.mp h with e |e
    .exact bw.mpr (.inl e)
    .exact cu _ (i2 g e)
theorem Sj(f:Str)(v:V):∀fs:List (Str×V),(iG f v fs).length<=fs.length+1
 |[]=>by simp[iG]
 |(k,x)::r=>by
  have ih:=Sj f v r;rw[show iG f v ((k,x)::r)=(if k=f then(k,v)::r else(k,x)::iG f v r) from rfl]
  by_cases hk:k=f
  .rw[if_pos hk,bq,bq];omega
  .rw[if_neg hk,bq,bq];omega
theorem hJ.some_of{v:V}{o:AE}(r:hJ (some v) o):∃u,o=some u/\aT v u:=by
 cases o with
 |none=>exact(show False from r).elim
 |some u=>exact⟨u,rfl,r⟩
theorem hJ.none_of{o:AE}(r:hJ none o):o=none:=by
 cases o with
 |none=>rfl
 |some u=>exact(show False from r).elim
theorem B3{v:V}{u:Value}(r:aT v u):wy u=true:=by
 cases v with
 |non=>cases(show u=bb from r);rfl
 |bl b=>cases(show u=nv b from r);rfl
 |int i=>obtain⟨t,e⟩:=(show ∃t,u=kd i t from r);cases e;rfl
 |str x=>obtain⟨t,e⟩:=(show ∃t,u=ke x t from r);cases e;rfl
 |byt b=>obtain⟨t,e⟩:=(show ∃t,u=Value.bytes b t from r);cases e;rfl
 |flt b=>obtain⟨t,e⟩:=(show ∃t,u=Value.float b t from r);cases e;rfl
 |ref a=>cases(show u=az a from r);rfl
 |ty n=>cases(show u=Value.type n from r);rfl
section
variable{P:Program}{w:ah}{H:Hp}{h:Heap}{a C dx:Addr}{fs:List (Str×V)}
theorem Tf(hok:cT P w H h)(e:H a=some (.ins C dx fs)):∃mA,qX h a dx C mA/\(∀f,hJ (fs.lookup f) (mA f))/\sd mA (fs.map (·.1))/\fs.length<=1000/\H dx=some (.own a):=by
 obtain⟨d,z,ne,ob,mA,n,r,q⟩:=show eC P w H h a _ from hok a _ e;exact⟨mA,⟨ob,n,ne⟩,r,q,z,d⟩
end
structure kT(K:aa)(C:Addr):Prop where
 pg:lv K C gu=true
 hd:oj K C=true
 po:su K C=true
 sa:di K (.ref C) "__setattr__"=some (some (.builtin "object.__setattr__"))
theorem kT.get{K:aa}{C:Addr}(c:kT K C)(f:Str):lv K C f=true:=c.pg
def nF(K:aa)(C:Addr)(f:Str):Prop:=di K (.ref C) f=some none
theorem nF.taker{K:aa}{C:Addr}{f:Str}(n:nF K C f):sv K C f=some none:=by
 unfold sv;rw[show di K (.ref C) f=some none from n];rfl
structure rF(K:aa)(C:Addr)(m:Str)(f:Addr):Prop where
 at_:di K (.ref C) m=some (some (.ref f))
 fn:km K (.ref f)=true
 kp:bo K (.ref f)=true
section
variable{X:Cx}{AL:List (Addr×Obj)}{σ:St}{H:Hp}{s:Shared}{a C dx:Addr}{fs:List (Str×V)}{f:Str}{v:V}{A:aj}{E:Value->Shared->Prop}
theorem Wx{b:Bool}{Q:Value->Shared->Prop}(I:aF X AL σ H s)(e:H a=some (.ins C dx fs))(c:kT X.K C)(n:nF X.K C f)(l:fs.lookup f=some v)
  (h:∀u s',aF X AL σ H s'->aT v u->Q u s'):wpAny (model X.prog X.w) A (getAttr (.ref a) f b) Q E s:=by
 obtain⟨mA,O,r,_,_,_⟩:=Tf I.hok e;obtain⟨u,hu,ru⟩:=hJ.some_of (v:=v) (o:=mA f) (by rw[<-l];exact r f);exact X9 I.kIn O (c.get f) c.hd n hu (B3 ru) (h u _ (I.tok _) ru)
theorem zL{m:Str}{g:Addr}{pl:bt Bool}{Q:Value×AD->Shared->Prop}(I:aF X AL σ H s)(e:H a=some (.ins C dx fs))(c:kT X.K C)(k:rF X.K C m g)(l:fs.lookup m=none)
  (h:Q (.ref g,[.ref a]) s):wpAny (model X.prog X.w) A (getMethod (.ref a) m pl) Q E s:=by
 obtain⟨mA,O,r,_,_,_⟩:=Tf I.hok e;have hn:mA m=none:=hJ.none_of (by rw[<-l];exact r m);exact E3 I.kIn O (c.get m) k.at_ k.fn hn h
theorem Xy{y:V}{u:Value}{Q:Unit->Shared->Prop}(I:aF X AL σ H s)(e:H a=some (.ins C dx fs))(c:kT X.K C)(n:nF X.K C f)(hl:fs.length<1000)(ry:aT y u)
  (h:∀s',aF X AL σ (aN H a (.ins C dx (iG f y fs))) s'->Q () s'):wpAny (model X.prog X.w) A (setAttr (.ref a) f u) Q E s:=by
 obtain⟨mA,O,r,wi,_,ho⟩:=Tf I.hok e;have hz:(fs.map (·.1)).length<=sizeLine:=by rw[bh,fe];omega
 refine W8 I.kIn O c.sa c.po n.taker c.hd wi hz λh' O' sb=>h _ ?_;have hd:∃o,h'.get? dx=some o:=let⟨o,_,_,e',_⟩:=O'.ns;⟨o,e'⟩;refine I.write (x:=a) (e:=dx) (by rw[e];exact gv) (.inr ho) (λb q hb z=>(sb.2 b hb).trans z) hd ?_;refine⟨by rw[aX O.ne];exact ho,?_,O.ne,O'.obj,_,O'.ns,λg=>?_,λg hg=>?_⟩
 .have:=Sj f y fs;omega
 .show hJ ((iG f y fs).lookup g) (if g=f then some u else mA g)
  rw[Ck]
  by_cases q:g=f
  .rw[if_pos q,if_pos q];exact ry
  .rw[if_neg q,if_neg q];exact r g
 .by_cases q:g=f
  .rw[q];exact(Fe f y fs).1
  .refine(Fe f y fs).2 g (wi g λz=>hg ?_)
   show(if g=f then some u else mA g)=none;rw[if_neg q];exact z
theorem aF.made(I:aF X AL σ H s):aF X AL σ (aN (aN H s.heap.objs.size (.own (s.heap.objs.size+1))) (s.heap.objs.size+1) (.ins C s.heap.objs.size []))
  {s with heap:=(s.heap.push ip).push (jc C s.heap.objs.size)}:=by
 have e1:(s.heap.push ip).get? s.heap.objs.size=some ip:=bn s.heap rfl;have e2:((s.heap.push ip).push (jc C s.heap.objs.size)).get? (s.heap.objs.size+1)=some (jc C s.heap.objs.size):=by
  have:=bn (s.heap.push ip) (o:=jc C s.heap.objs.size) rfl
  rwa[gw]at this
 have e3:(s.heap.push ip).Ns s.heap.objs.size (λ_=>none):=⟨ip,#[],_,e1,rfl,(λe he=>absurd he (by simp)),λ_=>rfl⟩;have I1:=I.laid (a:=s.heap.objs.size) (o:=.own (s.heap.objs.size+1)) (h':=s.heap.push ip) (t':=s.toks) (λb u q=>ao _ q) (ak _) ⟨_,e1⟩;refine I1.laid (a:=s.heap.objs.size+1) (o:=.ins C s.heap.objs.size []) (t':=s.toks) (λb u q=>ao _ q) (oo (gw _ _)) ?_;have ne:s.heap.objs.size≠s.heap.objs.size+1:=bc (oq _);refine⟨by rw[aX ne,cD],cg _,ne,e2,λ_=>none,(Heap.Ns1.of_empty e3).at λo q=>ao _ q,λ_=>gv,λy hy=>absurd rfl hy⟩
theorem S6{prog:Program}{w:ah}{env:Env}{e:ae}{f:Str}{pos:ai}{s:Shared}{Q:Value->Shared->Prop}(hb:attributeBase e f env (eval e env)=eval e env)
  (h:wpAny (model prog w) A (eval e env) (λo AO=>wpAny (model prog w) A (getAttr o f true) Q E AO) E s):wpAny (model prog w) A (eval (.Attribute e f pos) env) Q E s:=
 Attribute_any_ h (by rw[arm_eval_Attribute,hb])
end
def ac7(K:aa)(ta:TE)(f:Str):TE:=λσ H Q=>ta σ H λx H1=>∃a C dx fs v,x=.ref a/\H1 a=some (.ins C dx fs)/\kT K C/\nF K C f/\fs.lookup f=some v/\Q v H1
def yK(K:aa)(ta tv:TE)(f:Str):TS:=λD σ H=>tv σ H λy H1=>ta σ H1 λx H2=>∃a C dx fs,x=.ref a/\H2 a=some (.ins C dx fs)/\kT K C/\nF K C f/\fs.length<1000/\
 D.nx σ (aN H2 a (.ins C dx (iG f y fs)))
section
variable{X:Cx}{o e value:ae}{f:Str}{pos pos':ai}{ta tv:TE}
theorem uM(he:PE X e ta)(hb:attributeBase e f X.env (eval e X.env)=eval e X.env):PE X (.Attribute e f pos) (ac7 X.K ta f):=by
 intro AL s σ H Q I h;refine S6 hb (aR (he AL s σ H _ I h) λu s1 hq=>?_);rcases hq with⟨x,H1,I1,rx,a,C,dx,fs,v,ex,ea,c,n,l,q⟩;subst ex;obtain rfl:u=az a:=rx;exact Wx I1 ea c n l λu' s2 I2 ru=>⟨v,H1,I2,ru,q⟩
theorem uF(ha:PE X o ta)(hv:PE X value tv)(hs:swapsWith value (some (.Attribute o f pos')) pos.line X.env=pure false):PS X (.Assign [.Attribute o f pos'] value pos) (yK X.K ta tv f):=by
 intro AL s σ H D I h;refine plainObj_wpAny_Assign_Attribute (aR (hv AL s σ H _ I h) λu s1 ⟨y,H1,I1,ry,q⟩=>aR (ha AL s1 σ H1 _ I1 q) λov s2 hq=>?_) hs;rcases hq with⟨x,H2,I2,rx,a,C,dx,fs,ex,ea,c,n,l,q2⟩;subst ex;obtain rfl:ov=az a:=rx;exact Xy I2 ea c n l ry λs3 I3=>⟨σ,_,I3,q2⟩
theorem aaa{pl:bt Bool}{m:Str}{apos:ai}{args:List ae}{AL:List (Addr×Obj)}{s:Shared}{σ:St}{H:Hp}{Q:Value->Shared->Prop}{te:TE}(he:PE X e te)(I:aF X AL σ H s)
  (h:te σ H λx H1=>∃a C dx fs g,x=.ref a/\H1 a=some (.ins C dx fs)/\kT X.K C/\rF X.K C m g/\fs.lookup m=none/\
   ∀s1,aF X AL σ H1 s1->wpAny (model X.prog X.w) X.A (callWith pos (.ref g) [.ref a] (backTo pos (starEach args X.env)) (backToKw pos (keywordEach [] X.env))) Q X.xe s1)
  (ht:eval (.Call (.Attribute e m apos) args [] pos) X.env=(do
   let ov <-eval e X.env
   standAt apos.atName
   let (f,first) <-holding [ov] (getMethod ov m pl)
   callWith pos f first (backTo pos (starEach args X.env)) (backToKw pos (keywordEach [] X.env)))):
  wpAny (model X.prog X.w) X.A (eval (.Call (.Attribute e m apos) args [] pos) X.env) Q X.xe s:=by
 refine ot (pl:=pl) (aR (he AL s σ H _ I h) λu s1 hq=>?_) ht;rcases hq with⟨x,H1,I1,rx,a,C,dx,fs,g,ex,ea,c,k,l,q⟩;subst ex;obtain rfl:u=az a:=rx;exact zL I1 ea c k l (q s1 I1)
end
structure bG(k:Nat)(A:aj):Prop where
 hd:A.handled=none
 dp:A.depth+3*k+105<recursionLimit
 un:A.units+16*k+200<cLine
theorem bG.mono{j k:Nat}{A:aj}(r:bG k A)(h:j<=k):bG j A:=⟨r.hd,by have:=r.dp;omega,by have:=r.un;omega⟩
theorem bG.deeper{k:Nat}{A:aj}(r:bG (k+1) A)(env:Env):bG k (A.deeper env):=
 ⟨r.hd,by have:=r.dp;show A.depth+1+3*k+105<_;omega,by have:=r.un;show A.units+3+16*k+200<_;omega⟩
theorem By{A:aj}{C:Addr}{us:AD}{kw:List (Str×Value)}:(A.under (.builtin "type.__call__" ⟨.ref C::us,kw⟩)).depth=A.depth+1:=by
 first |rfl |simp[sw,Code.weight,Code.isCreation,Code.isGuard,Code.isCaller,Code.frames,sx,guardIds]
theorem Dy{A:aj}{C:Addr}{us:AD}{kw:List (Str×Value)}:(A.under (.builtin "type.__call__" ⟨.ref C::us,kw⟩)).units=A.units+1:=by
 first |rfl |simp[sw,Code.cUnits,Code.frames,sx]
theorem bG.make{k:Nat}{A:aj}(r:bG (k+1) A)(C:Addr)(us:AD)(kw:List (Str×Value)):bG k (A.under (.builtin "type.__call__" ⟨.ref C::us,kw⟩)):=
 ⟨r.hd,by have:=r.dp;rw[By];omega,by have:=r.un;rw[Dy];omega⟩
theorem bG.depth   (r:bG k A):A.depth<recursionLimit:=by have:=r.dp;omega
theorem bG.units   (r:bG k A):A.units+64<cLine:=by have:=r.un;omega
def vJ:TA:=λ_ H Q=>Q [] H
def ab3(ta:TE)(tr:TA):TA:=λσ H Q=>ta σ H λx H1=>tr σ H1 λxs H2=>Q (x::xs) H2
section
variable{X:Cx}{e:ae}{es:List ae}{te:TE}{t:TA}{pos:ai}
theorem lZ:PA X [] vJ:=λ_ _ _ _ H Q I h=>ou ⟨[],H,I,.nil,h⟩
theorem nA(ha:PE X e te)(hr:PA X es t)(hs:starEach (e::es) X.env=(false,eval e X.env)::starEach es X.env:=by rfl):PA X (e::es) (ab3 te t):=by
 intro pos AL s σ H Q I h;rw[hs];show wpAny _ _ (spliced ((false,eval e _)::backTo _ _)) _ _ s;refine ko (aR (ha _ s _ H _ I h) λu s1 hq=>?_);rcases hq with⟨x,H1,I1,r1,q1⟩;exact aR (hr _ _ _ _ _ _ I1 q1) λus s2 ⟨xs,H2,I2,r2,q2⟩=>⟨x::xs,H2,I2,.cons r1 r2,q2⟩
def adq(t:TA):TE:=λσ H Q=>t σ H λxs H1=>xs.length<=sizeLine/\∀p,H1 p=none->Q (.ref p) (aN H1 p (.tup xs))
def Ih(t:TA):TE:=λσ H Q=>t σ H λxs H1=>xs.length<=sizeLine/\∀p,H1 p=none->Q (.ref p) (aN H1 p (.lst xs))
theorem Xp  (h:PA X es t):PE X (.Tuple es x1 pos) (adq t):=by
 intro AL s σ H Q I hq;refine sy (aR (h _ _ s _ H _ I hq) λus s1 ⟨xs,H1,I1,r,z,q⟩=>⟨by rw[<-r.length];exact z,?_⟩);have hf:=I1.hok.fresh (ak _);refine⟨.ref _,aN _ _ _,I1.laid  (λb u e=>ao _ e) (ak _) ?_,rfl,q _ hf⟩;exact⟨⟨z,_,bn _ rfl,rfl⟩,us,r,⟨_,bn _ rfl,rfl,_,rfl⟩⟩
theorem wZ(h:PA X es t):PE X (.List es pos) (Ih t):=by
 intro AL s σ H Q I hq;refine wpAny_List_spliced (aR (h _ _ s _ H _ I hq) λus s1 ⟨xs,H1,I1,r,z,q⟩=>⟨by rw[<-r.length];exact z,?_⟩);have hf:=I1.hok.fresh (ak _);refine⟨.ref _,aN _ _ _,I1.laid  (λb u e=>ao _ e) (ak _) ?_,rfl,q _ hf⟩;exact⟨z,us,0,r,bn _ rfl⟩
end
abbrev Sp:=List V->Hp->VK->XK->Prop
abbrev jA:=List Env->Hp->Shared->XK->Value->Shared->Prop
structure rJ(P:Program)(w:ah)(K:aa)(mg:Str->AE)(base:Heap)(A:aj)(outer:List Env)(s:Shared)(H:Hp):Prop where
 frames:A.frames=some outer/\P.given.tree=none
 mod:Mod K mg base
 bs:∀b o,base.get? b=some o->s.heap.get? b=some o/\H b=none
 bsz:base.objs.size<=s.heap.objs.size
 funs:s.heap.FunFrames base outer
 frf:∀b∈bP outer,H b=none
 hok:cT P w H s.heap
 bare:gf s.gens
def CE(outer:List Env)(P:Program)(w:ah)(H:Hp)(s:Shared)(Q:VK)(u:Value)(s':Shared):Prop:=
 ∃v H',s'.os=s.os/\gf s'.gens/\Un (bP outer) [] H H' s.heap s'.heap/\cT P w H' s'.heap/\aT v u/\Q v H'
def CR(CX:jA)(outer:List Env)(P:Program)(w:ah)(H:Hp)(s:Shared)(Q:VK)(E:XK)(r:im)(s':Shared):Prop:=
 match r with
 |.ok (.ret u)=>CE outer P w H s Q u s'
 |.ok _=>False
 |.error e=>CX outer H s E e s'
structure bQ(P:Program)(w:ah)(K:aa)(mg:Str->AE)(base:Heap)(CX:jA)(k:Nat)(f:Addr)(fd:ay)(ps:List Str)(sp:Sp):Prop where
 len:∀vs H Q E,sp vs H Q E->vs.length=ps.length
 run:∀(A:aj)(outer:List Env)(s:Shared)(H:Hp)(args:Args)(us:AD)(vs:List V)(Q:VK)(E:XK),bG k A->rJ P w K mg base A outer s H->kq s fd args (ps.zip us)->aS vs us->sp vs H Q E->
  codeAny (model P w) A (.call (.ref f) args) (CR CX outer P w H s Q E) s
theorem bQ.imp   {K:aa}{mg:Str->AE}{base:Heap}{CX:jA}{k:Nat}{f:Addr}{fd:ay}{ps:List Str}{sp sp':Sp}(F:bQ P w K mg base CX k f fd ps sp)
  (h:∀vs H Q E,sp' vs H Q E->sp vs H Q E):bQ P w K mg base CX k f fd ps sp':=
 ⟨λvs H Q E q=>F.len _ H Q E (h _ _ _ _ q),λA outer s H args us vs Q E hr he hb hv hs=>F.run A _ s H _ _ _ Q E hr he hb hv (h _ _ _ _ hs)⟩
theorem rJ.make{P:Program}{w:ah}{K:aa}{mg:Str->AE}{base:Heap}{A:aj}{outer:List Env}{s:Shared}{H:Hp}(e:rJ P w K mg base A outer s H)(C:Addr)(us:AD)(kw:List (Str×Value)):
  rJ P w K mg base (A.under (.builtin "type.__call__" ⟨.ref C::us,kw⟩)) outer s H:=⟨⟨by first |exact e.frames.1 |(simpa[sw,Code.envs,sx,pushEnvs]using e.frames.1),e.frames.2⟩,e.mod,e.bs,e.bsz,e.funs,e.frf,e.hok,e.bare⟩
section
variable{X:Cx}{AL:List (Addr×Obj)}{σ:St}{H:Hp}{s s':Shared}
theorem aF.env0(I:aF X AL σ H s):rJ X.prog X.w X.K X.mg X.base X.A X.stack s H:=
 ⟨⟨I.ok.frames.1,I.ok.frames.2.1⟩,I.ok.mod,I.bs,dq I.ok.bsz I.sz,I.stack,I.stkFree,I.hok,I.bare⟩
theorem aF.after   (I:aF X AL σ H s)(h:CE X.stack X.prog X.w H s Q u s'):EP X AL σ Q u s':=by
 obtain⟨v,H',os,bare,un,hok,r,q⟩:=h;obtain⟨hh,g,d,t,os'⟩:=s';obtain rfl:os'=s.os:=os;exact⟨v,H',I.call      un hok bare λb z=>absurd z (by simp),r,q⟩
end
def As(sp:Sp)(dvs:List V)(E:XK)(t:TA):TE:=λσ H Q=>t σ H λvs H1=>sp (vs++dvs) H1 Q E
def Gb(C:Addr)(m:Str)(sp:Sp)(dvs:List V)(E:XK)(ta:TE)(t:TA):TE:=λσ H Q=>ta σ H λx H1=>∃a dx fs,x=.ref a/\H1 a=some (.ins C dx fs)/\fs.lookup m=none/\
 t σ H1 λvs H2=>sp (x::(vs++dvs)) H2 Q E
def abM(C:Addr)(sp:Sp)(dvs:List V)(E:XK)(t:TA):TE:=λσ H Q=>t σ H λvs H1=>∀x dx,H1 x=none->H1 dx=none->dx≠x->
 sp (.ref x::(vs++dvs)) (aN (aN H1 dx (.own x)) x (.ins C dx [])) (λv H2=>v=.non/\Q (.ref x) H2) E
def dD(K:aa)(fd:ay)(ps:List Str)(ds:AD):Prop:=
 ∀(s:Shared)(us:AD),K.In s.heap->(us++ds).length=ps.length->kq s fd ⟨us,[]⟩ (ps.zip (us++ds))
theorem dD.all{K:aa}{fd:ay}{ps:List Str}(h:∀us:AD,us.length=ps.length->bindArgs fd ⟨us,[]⟩=pure (ps.zip us)):dD K fd ps []:=λs us _ hl=>by
 rw[ia]at hl⊢;exact .of_eq (h _ hl)
def fV(CX:jA)(X:Cx)(E:XK):Prop:=∀(AL:List (Addr×Obj))(σ:St)(H:Hp)(s:Shared)(e:Value)(s':Shared),aF X AL σ H s->CX X.stack H s E e s'->X.xe e s'
section
variable{X:Cx}{CX:jA}{k:Nat}{f C:Addr}{fd:ay}{ps:List Str}{sp:Sp}{dvs:List V}{ds:AD}{E:XK}{x m:Str}{p pos apos:ai}{e o:ae}{es:List ae}{ta:TE}{t:TA}
theorem xH  {σ:St}{H:Hp}{s:Shared}{Q:VK}{us:AD}{vs:List V}(F:bQ X.prog X.w X.K X.mg X.base CX k f fd ps sp)(hr:bG k X.A)(hb:dD X.K fd ps ds)(hd:aS dvs ds)(hx:fV CX X E)
  (I:aF X AL σ H s)(r:aS vs us)(h:sp (vs++dvs) H Q E):wpAny (model X.prog X.w) X.A (call (.ref f) us) (EP X AL σ Q) X.xe s:=by
 have r2:=r.append hd;have hl:(us++ds).length=ps.length:=by rw[<-r2.length];exact F.len _ _ _ _ h
 refine tf (iq (F.run _ _ s H _ _ _ Q E hr I.env0 (hb s _ I.kIn hl) r2 h) λr s' hq=>?_);cases r with
 |error e=>exact hx _ _ H s e _ I hq
 |ok fl=>
  cases fl with
  |ret u=>exact I.after hq
  |next=>exact fg hq
  |brk=>exact fg hq
  |cont=>exact fg hq
theorem wL(F:bQ X.prog X.w X.K X.mg X.base CX k f fd ps sp)(hr:bG k X.A)(hg:Gl X x)(hm:X.mg x=some (.ref f))(hk:bo X.K (.ref f)=true)(hb:dD X.K fd ps ds)(hd:aS dvs ds)(hx:fV CX X E)
  (ha:PA X (e::es) t)(hdb:(x==("__debug__":Str))=false:=by decide)(he:starEach (e::es) X.env=(false,eval e X.env)::starEach es X.env:=by rfl)(hpl:(backTo pos (starEach es X.env)).any (·.1)=false:=by rfl):
  PE X (.Call (.Name x p) (e::es) [] pos) (As sp dvs E t):=by
 intro AL s σ H Q I h;refine lz (qC I hg hm ?_ hdb);refine ow  I.ok.mod.kin hk (aR (ha _ _ s _ H _ I h) λus s1 ⟨vs,H1,I1,r,q⟩=>⟨I1.kIn,?_⟩) he hpl;exact xH F hr hb hd hx I1 r q
theorem M5(F:bQ X.prog X.w X.K X.mg X.base CX k f fd ps sp)(hr:bG k X.A)(hg:Gl X x)(hm:X.mg x=some (.ref f))(hk:bo X.K (.ref f)=true)(hb:dD X.K fd ps ds)(hd:aS dvs ds)(hx:fV CX X E)
  (hdb:(x==("__debug__":Str))=false:=by decide):PE X (.Call (.Name x p) [] [] pos) (As sp dvs E vJ):=by
 intro AL s σ H Q I h;refine lz (qC I hg hm ?_ hdb);exact tm I.kIn hk (xH (us:=[]) F hr hb hd hx I .nil h)
theorem Ip{pl:bt Bool}(he:PE X o ta)(c:kT X.K C)(hm:rF X.K C m f)(F:bQ X.prog X.w X.K X.mg X.base CX k f fd ps sp)(hr:bG k X.A)(hb:dD X.K fd ps ds)(hd:aS dvs ds)(hx:fV CX X E)(ha:PA X (e::es) t)
  (hst:starEach (e::es) X.env=(false,eval e X.env)::starEach es X.env:=by rfl)(hpl:(backTo pos (starEach es X.env)).any (·.1)=false:=by rfl)
  (ht:eval (.Call (.Attribute o m apos) (e::es) [] pos) X.env=(do
   let ov <-eval o X.env
   standAt apos.atName
   let (f,first) <-holding [ov] (getMethod ov m pl)
   callWith pos f first (backTo pos (starEach (e::es) X.env)) (backToKw pos (keywordEach [] X.env))):=by rfl):
  PE X (.Call (.Attribute o m apos) (e::es) [] pos) (Gb C m sp dvs E ta t):=by
 intro AL s σ H Q I h;refine ot (pl:=pl) (aR (he AL s σ H _ I h) λu s1 hq=>?_) ht;rcases hq with⟨x,H1,I1,rx,a,dx,fs,ex,ea,l,q⟩;subst ex;obtain rfl:u=az a:=rx;refine zL I1 ea c hm l ?_;refine ow (first:=[.ref a]) (h₀:=X.base) I.ok.mod.kin hm.kp (aR (ha pos AL s1 σ H1 _ I1 q) λus s2 ⟨vs,H2,I2,r,q2⟩=>⟨I2.kIn,?_⟩) hst hpl
 exact xH (us:=.ref a::us) (vs:=.ref a::vs) F hr hb hd hx I2 (.cons rfl r) q2
theorem M3{pl:bt Bool}(he:PE X o ta)(c:kT X.K C)(hm:rF X.K C m f)(F:bQ X.prog X.w X.K X.mg X.base CX k f fd ps sp)(hr:bG k X.A)(hb:dD X.K fd ps ds)(hd:aS dvs ds)(hx:fV CX X E)
  (ht:eval (.Call (.Attribute o m apos) [] [] pos) X.env=(do
   let ov <-eval o X.env
   standAt apos.atName
   let (f,first) <-holding [ov] (getMethod ov m pl)
   callWith pos f first (backTo pos (starEach [] X.env)) (backToKw pos (keywordEach [] X.env))):=by rfl):
  PE X (.Call (.Attribute o m apos) [] [] pos) (Gb C m sp dvs E ta vJ):=by
 intro AL s σ H Q I h;refine ot (pl:=pl) (aR (he AL s σ H _ I h) λu s1 hq=>?_) ht;rcases hq with⟨x,H1,I1,rx,a,dx,fs,ex,ea,l,q⟩;subst ex;obtain rfl:u=az a:=rx;refine zL I1 ea c hm l ?_;exact tm (first:=[.ref a]) I1.kIn hm.kp (xH (us:=[.ref a]) (vs:=[.ref a]) F hr hb hd hx I1 (.cons rfl .nil) q)
structure Mk(K:aa)(C f:Addr):Prop where
 makes:lx K C=true
 init:di K (.ref C) "__init__"=some (some (.ref f))
 fn:km K (.ref f)=true
 kp:bo K (.ref C)=true
theorem E2{AL:List (Addr×Obj)}{σ:St}{H:Hp}{s:Shared}{Q:VK}{us:AD}{vs:List V}(M:Mk X.K C f)(F:bQ X.prog X.w X.K X.mg X.base CX k f fd ps sp)(hr:bG (k+1) X.A)(hb:dD X.K fd ps ds)(hd:aS dvs ds)
  (hx:fV CX X E)(I:aF X AL σ H s)(r:aS vs us)
  (h:∀x dx,H x=none->H dx=none->dx≠x->sp (.ref x::(vs++dvs)) (aN (aN H dx (.own x)) x (.ins C dx [])) (λv H2=>v=.non/\Q (.ref x) H2) E):
  wpAny (model X.prog X.w) X.A (call (.ref C) us) (EP X AL σ Q) X.xe s:=by
 have hq:=h (s.heap.objs.size+1) s.heap.objs.size (I.hok.fresh (kr _)) (I.hok.fresh (ak _)) (bc (oq _));have I2:=aF.made (C:=C) I;have r2:aS (V.ref (s.heap.objs.size+1)::(vs++dvs)) (az (s.heap.objs.size+1)::(us++ds)):=.cons rfl (r.append hd);have hl:(az (s.heap.objs.size+1)::us++ds).length=ps.length:=by
  have e:=r2.length;rw[F.len _ _ _ _ hq]at e;exact e.symm
 refine tf (F8 (f:=f) I.kIn M.makes M.init (beq_iff_eq.mp M.fn) (iq (F.run _ X.stack _ _ ⟨az (s.heap.objs.size+1)::us,[]⟩ (az (s.heap.objs.size+1)::(us++ds)) _ _ E (hr.make C us [])
  (I2.env0.make C us []) (hb _ (az (s.heap.objs.size+1)::us) I2.kIn hl) r2 hq) λr s' hq'=>?_))
 cases r with
 |error e=>exact hx AL σ _ _ e s' I2 hq'
 |ok fl=>
  cases fl with
  |ret u=>
   obtain⟨v,H',I3,rv,ev,q3⟩:=I2.after hq';subst ev;exact⟨rv,⟨V.ref (s.heap.objs.size+1),H',I3,rfl,q3⟩⟩
  |next=>exact fg hq'
  |brk=>exact fg hq'
  |cont=>exact fg hq'
theorem M4(M:Mk X.K C f)(F:bQ X.prog X.w X.K X.mg X.base CX k f fd ps sp)(hr:bG (k+1) X.A)(hg:Gl X x)(hm:X.mg x=some (.ref C))(hb:dD X.K fd ps ds)(hd:aS dvs ds)(hx:fV CX X E)
  (hdb:(x==("__debug__":Str))=false:=by decide):PE X (.Call (.Name x p) [] [] pos) (abM C sp dvs E vJ):=by
 intro AL s σ H Q I h;refine lz (qC I hg hm ?_ hdb);exact tm I.kIn M.kp (E2 (us:=[]) M F hr hb hd hx I .nil h)
end
structure gY(N P:List Str)(sc:Scope):Prop where
 kind:sc.kind=.function
 co:sc.isCoroutine=false
 gen:sc.isGenerator=false
 nd:N.Nodup
 pre:N.take P.length=P
 par:∀x∈P,sc.names.lookup x=some .local\/sc.names.lookup x=some .cell
 nofree:∀y∈sc.names,y.2≠.free
theorem Zk{kindOf:Str->Option ir}{x:Str}:∀{binds:List (Str×Value)}{m:Str->AE},(∀v,(x,v)∉binds)->bindL kindOf binds m x=m x
 |[],_,_=>rfl
 |(n,v)::r,m,h=>by
  unfold bindL;rw[Zk λw hw=>h w (cu _ hw)];split
  .have:x≠n:=by rintro rfl;exact h v ce
   simp_all
  rfl
theorem Gm{kindOf:Str->Option ir}{x:Str}:∀{binds:List (Str×Value)}{m:Str->AE},(∀v,(x,v)∉binds)->bindC kindOf binds m x=m x
 |[],_,_=>rfl
 |(n,v)::r,m,h=>by
  unfold bindC;rw[Gm λw hw=>h w (cu _ hw)];split
  .rfl
  .have:x≠n:=by rintro rfl;exact h v ce
   simp_all
theorem Rl{kindOf:Str->Option ir}{x:Str}{v:Value}:∀{P:List Str}{vs:AD}{i:Nat}{m:Str->AE},P.Nodup->P[i]?=some x->vs[i]?=some v->kindOf x=some .local->
  bindL kindOf (P.zip vs) m x=some v
 |[],_,_,_,_,h,_,_=>by simp at h
 |_::_,[],_,_,_,_,h,_=>by simp at h
 |p::P,w::vs,0,m,nd,h1,h2,hk=>by
  simp at h1 h2;subst h1;subst h2;show bindL kindOf ((p,w)::P.zip vs) m p=_;unfold bindL;rw[Zk λv hv=>(jf.mp nd).1 (tq hv).1,if_pos hk];simp
 |p::P,w::vs,i+1,m,nd,h1,h2,hk=>by
  unfold bindL;exact Rl  (jf.mp nd).2 (by simpa using h1) (by simpa using h2) hk
theorem Bm{kindOf:Str->Option ir}{x:Str}{v:Value}:∀{P:List Str}{vs:AD}{i:Nat}{m:Str->AE},P.Nodup->P[i]?=some x->vs[i]?=some v->kindOf x≠some .local->
  bindC kindOf (P.zip vs) m x=some v
 |[],_,_,_,_,h,_,_=>by simp at h
 |_::_,[],_,_,_,_,h,_=>by simp at h
 |p::P,w::vs,0,m,nd,h1,h2,hk=>by
  simp at h1 h2;subst h1;subst h2;show bindC kindOf ((p,w)::P.zip vs) m p=_;unfold bindC;rw[Gm λv hv=>(jf.mp nd).1 (tq hv).1,if_neg hk];simp
 |p::P,w::vs,i+1,m,nd,h1,h2,hk=>by
  unfold bindC;exact Bm  (jf.mp nd).2 (by simpa using h1) (by simpa using h2) hk
def start(N:List Str)(vs:List V):St:=vs.map some++wz (N.length-vs.length) none
def aK(CX:jA)(P:Program)(w:ah)(K:aa)(mg:Str->AE)(base:Heap)(N:List Str)(qual:Str)(scope:Scope)(f:Addr)(cd:Value)(A:aj)(outer:List Env)(s:Shared)(H:Hp)(E:XK):Cx where
 prog:=P
 w:=w
 K:=K
 mg:=mg
 base:=base
 A:=A.deeper (envOfC qual scope s.heap.objs.size f cd)
 N:=N
 AM:=s
 AN:=H
 env:=envOfC qual scope s.heap.objs.size f cd
 outer:=outer
 stack:=envOfC qual scope s.heap.objs.size f cd::outer
 ex:=[]
 calm:=true
 fn:=λ_=>true
 pn:=[]
 xe:=λe s'=>wpAny (model P w) (A.deeper (envOfC qual scope s.heap.objs.size f cd)) (leaving (envOfC qual scope s.heap.objs.size f cd) e) (λ_ s''=>CX outer H s E e s'') (λe' s''=>CX outer H s E e' s'') s'
theorem Pm{sc:Scope}{n:Nat}{x:Str}(h:sc.names.lookup x=some .cell):∃c,(cellsFrom n sc.names []).lookup x=some c:=by
 have q:=xa _ n [] (.inl h);exact mf.mp q
theorem Yz{CX:jA}{P:Program}{w:ah}{K:aa}{mg:Str->AE}{base:Heap}{N ps:List Str}{qual:Str}{scope:Scope}{f:Addr}{cd:Value}{A:aj}{outer:List Env}{s s1:Shared}{H:Hp}{E:XK}{us:AD}{vs:List V}
  (S:gY N ps scope)(hd:A.handled=none)(fS:A.depth+105<recursionLimit)(e0:rJ P w K mg base A outer s H)(hl:vs.length=ps.length)(r:aS vs us)
  (x:InCallC s s.heap.objs.size (bindL (envOfC qual scope s.heap.objs.size f cd).kindOf (ps.zip us) λ_=>none) (cellsFrom (s.heap.objs.size+1) scope.names []) (bindC (envOfC qual scope s.heap.objs.size f cd).kindOf (ps.zip us) λ_=>none) s1):
  aF (aK CX P w K mg base N qual scope f cd A outer s H E) [] (start N vs) H s1:=by
 have hpl:ps.length<=N.length:=by have:=congrArg List.length S.pre;rw[ku]at this;omega
 obtain⟨h1,tk,rfl,hk⟩:=x.done;have noA:∀b:Addr,b∉(aK CX P w K mg base N qual scope f cd A outer s H E).ex:=λb z=>absurd (show b∈([]:List Addr) from z) (by simp);refine⟨⟨e0.mod,S.kind,rfl,rfl,ak _,λy z c h1 h2=>?_,λy hy=>?_,λy c _ h=>?_,λ_=>hd,⟨Around.frames_deeper e0.frames.1,e0.frames.2,by show A.depth+1+100<_;omega,_,_,rfl,S.gen,S.co,rfl,rfl⟩,.inr ⟨rfl,rfl⟩,λb z=>absurd z (noA b),e0.bs,e0.bsz,λb _ _=>noA b,λb z=>absurd z (noA b),e0.funs,e0.frf⟩,
  rfl,e0.bare,Un.kept hk,⟨_,x.toInCall.ns,λi y v h1 h2 h3=>?_⟩,λy c h=>⟨_,x.cell y c h⟩,e0.hok.fresh (ak _),λy c h=>?_,λp hp=>absurd (show p∈([]:List (Addr×Obj)) from hp) (by simp),e0.hok.kept hk,?_⟩
 .exact name_of_addr x.apart (js h1) (js h2)
 .have hy:scope.names.lookup y=some .cell\/scope.names.lookup y=some .free:=hy
  rcases hy with hy |hy
  .exact Pm hy
  .exact absurd rfl (S.nofree _ (js hy))
 .exact sg (x.above y c (js h))
 .have hi:i<vs.length:=by
   unfold start at h2
   by_cases hi:i<vs.length
   .exact hi
   .rw[dg (by simpa using hi)]at h2
    rw[xb]at h2;split at h2<;>cases h2
  have ha:vs[i]?=some v:=by
   unfold start at h2;rw[fh (by simpa using hi),fm]at h2;cases e:vs[i]? with
   |none=>rw[e]at h2;cases h2
   |some a=>rw[e]at h2;cases h2;rfl
  obtain⟨u,hu,rv⟩:=r.get ha;have hp:ps[i]?=some y:=by
   rw[<-S.pre,List.getElem?_take_of_lt (by omega)];exact h1
  have ndP:ps.Nodup:=by rw[<-S.pre];exact S.nd.sublist (List.take_sublist _ _)
  refine⟨u,rv,?_⟩;rcases S.par y (de hp)with k |k
  .exact .inl ⟨k,Rl ndP hp hu k⟩
  .obtain⟨c,e⟩:=Pm (n:=s.heap.objs.size+1) k
   refine .inr ⟨.inl k,c,e,?_⟩;have q:=x.cell y c e;rw[Bm ndP hp hu (by show scope.names.lookup y≠_;rw[k];decide)]at q;exact q
 .exact e0.hok.fresh (sg (x.above y c (js h)))
 .unfold start
  show _=N.length;rw[cb,bh,List.length_replicate];omega
theorem Sg{CX:jA}{P:Program}{w:ah}{K:aa}{mg:Str->AE}{base:Heap}{k:Nat}{f:Addr}{name qual:Str}{params:Arguments}{body:List Stmt}{scope:Scope}{dV kV doc pm cdv ct oc:Value}{an od:AF}
  {osl:Array AE}{N ps:List Str}{sp:Sp}(lk:K.lookup f=some ⟨oc,od,.func (br name qual params body scope dV kV doc pm an cdv ct),osl⟩)(hcd:gh K cdv qual=true)(S:gY N ps scope)
  (len:∀vs H Q E,sp vs H Q E->vs.length=ps.length)
  (hbody:∀(A:aj)(outer:List Env)(s:Shared)(H:Hp)(vs:List V)(Q:VK)(E:XK),bG k (A.deeper (envOfC qual scope s.heap.objs.size f cdv))->sp vs H Q E->
   ∃t,dH (aK CX P w K mg base N qual scope f cdv A outer s H E) body t/\t {nx:=λ_ H'=>Q .non H',rt:=Q} (start N vs) H):
  bQ P w K mg base CX (k+1) f (br name qual params body scope dV kV doc pm an cdv ct) ps sp:=by
 refine⟨len,λA outer s H args us vs Q E hr e0 hb r hsp=>?_⟩;have hl:=len _ _ _ _ hsp;have KX:K.In s.heap:=e0.mod.kin.keeps λb o e=>(e0.bs b o e).1;have lim:s.heap.NoLimit:=e0.mod.nolimit.keeps λb o e=>(e0.bs b o e).1;have hkind:∀y∈ps.zip us,scope.names.lookup y.1=some .local\/(scope.names.lookup y.1=some .cell/\((cellsFrom (s.heap.objs.size+1) scope.names []).lookup y.1).isSome=true):=λ⟨n,v⟩ hy=>by
  rcases S.par n (tq hy).1 with q |q
  .exact .inl q
  .exact .inr ⟨q,xa _ _ _ (.inl q)⟩
 refine codeAny_call_function hr.depth (KX _ _ lk) rfl S.co S.gen rfl (PySem.W.codeRec_of KX hcd) (hb _ _ _ _ ?_);refine wpAny_newFunctionEnv_cells S.kind hkind λenv he s1 x=>?_;subst he;refine⟨lim.keeps x.toInCall.keep,codeAny_func ?_⟩;obtain⟨t,ht,hq⟩:=hbody A outer s H vs Q E (hr.deeper _) hsp;have I:aF (aK CX P w K mg base N qual scope f cdv A outer s H E) [] (start N vs) H s1:=Yz S hr.hd (by have:=hr.dp;omega) e0 hl r x;refine bv (ht [] s1 (start N vs) H _ I hq) (λfl s' hs=>?_) λe s' hs=>hs;have fin:∀{σ':St}{H':Hp}{v:V}{u:Value},aF (aK CX P w K mg base N qual scope f cdv A outer s H E) [] σ' H' s'->aT v u->Q v H'->CE outer P w H s Q u s':=
  λ{σ' H' v u} J rv q=>⟨v,H',J.os,J.bare,J.base,J.hok,rv,q⟩
 cases fl with
 |ret u=>
  obtain⟨v,σ',H',J,rv,q⟩:=hs;exact fin J rv q
 |next=>
  obtain⟨σ',H',J,q⟩:=hs;exact fin (v:=V.non) (u:=bb) J rfl q
 |brk=>
  obtain⟨_,_,_,q⟩:=hs;exact fg q
 |cont=>
  obtain⟨_,_,_,q⟩:=hs;exact fg q
section
variable{X:Cx}{x:Str}{p pos:ai}{e:ae}{es:List ae}{t:TA}{id T:String}{r:List V->Hp->VK->Prop}
def Iv(r:List V->Hp->VK->Prop)(t:TA):TE:=λσ H Q=>t σ H λvs H1=>r vs H1 Q
theorem Oe(hc:fX X (.builtin id) r)(hg:Gl X x)(hm:X.mg x=none)(hv:bootBuiltins x=some (.builtin id))(ha:PA X (e::es) t)(hn:x≠"__name__":=by decide)(hdb:(x==("__debug__":Str))=false:=by decide)
  (he:starEach (e::es) X.env=(false,eval e X.env)::starEach es X.env:=by rfl)(hpl:(backTo pos (starEach es X.env)).any (·.1)=false:=by rfl):PE X (.Call (.Name x p) (e::es) [] pos) (Iv r t):=by
 intro AL s σ H Q I h;refine lz (xA I hg hm hv ?_ hn hdb);exact PyProof.Rows.callWith_builtin1 (aR (ha _ _ s _ H _ I h) λus s1 ⟨vs,H1,I1,r1,q1⟩=>hc _ _ _ _ _ _ Q I1 r1 q1) he hpl
theorem zV(hc:fX X (.type T) r)(hg:Gl X x)(hm:X.mg x=none)(hv:bootBuiltins x=some (.type T))(ha:PA X (e::es) t)(hn:x≠"__name__":=by decide)(hdb:(x==("__debug__":Str))=false:=by decide)
  (he:starEach (e::es) X.env=(false,eval e X.env)::starEach es X.env:=by rfl)(hpl:(backTo pos (starEach es X.env)).any (·.1)=false:=by rfl):PE X (.Call (.Name x p) (e::es) [] pos) (Iv r t):=by
 intro AL s σ H Q I h;refine lz (xA I hg hm hv ?_ hn hdb);exact oh (aR (ha _ _ s _ H _ I h) λus s1 ⟨vs,H1,I1,r1,q1⟩=>hc _ _ _ _ _ _ Q I1 r1 q1) he hpl
end
end L2
namespace HT
open PySem PyProof.Rows
def lexLt:AA->AA->Bool
 |[],[]=>false
 |[],_::_=>true
 |_::_,[]=>false
 |x::xs,y::ys=>if x=y then lexLt xs ys else decide (x<y)
theorem lexLt_cons(x y:Int)(xs ys:AA):lexLt (x::xs) (y::ys)=if x=y then lexLt xs ys else decide (x<y):=rfl
section
variable{prog:Program}{w:ah}{A:aj}{E:Value->Shared->Prop}{s:Shared}
theorem cat_tup  {vs ws:AD}{Q:Value->Shared->Prop}(ht:IsTup s.heap t vs.toArray)(hb:IsTup s.heap b ws.toArray)(hv:vs≠[])
  (h1:ws=[]->Q (.ref t) s)(h2:ws≠[]->Q (.ref s.heap.objs.size) {s with heap:=s.heap.push {cls:=.type "tuple",data:=.seq (vs++ws).toArray}})
  (hsz:vs.length+ws.length<=sizeLine):wpAny (model prog w) A (binaryOp .Add (.ref t) (.ref b)) Q E s:=by
 obtain⟨⟨cls,dd,data,sl⟩,ho,hc,n,hd⟩:=id ht;obtain⟨⟨cls2,dd2,data2,sl2⟩,ho2,hc2,n2,hd2⟩:=id hb;simp only at hc hd hc2 hd2;subst hc hd hc2 hd2;have e:vs.toArray++ws.toArray=(vs++ws).toArray:=by simp
 by_cases hw:ws=[]
 .exact tw ⟨_,ho,rfl⟩ ⟨_,ho2,rfl⟩ noFill_tuple_add seq_tuple_add xh xi (xk _ _)
   (tuple_addW1 t b _ _ n n2 dd _ sl _ (by simpa using hv) (by simp[hw])) ⟨ho,ho2,h1 hw⟩
 .refine tw ⟨_,ho,rfl⟩ ⟨_,ho2,rfl⟩ noFill_tuple_add seq_tuple_add xh xi (xk _ _)
   (tuple_addW2 t b _ _ n n2 dd _ sl _ (by simpa using hv) (by simpa using hw) (by exact hsz)) ⟨ho,ho2,?_⟩
  rw[e];exact h2 hw
def sIx(n d:Nat):AG->Nat
 |none=>d
 |some v=>if v<0 then(v+(n:Int)).toNat else min v.toNat n
theorem sIx_nat(n d k:Nat):sIx n d (some (k:Int))=min k n:=rfl
theorem acY(n d:Nat)(hd:d<=n)(o:AG):sIx n d o<=n:=by
 cases o with
 |none=>exact hd
 |some v=>
  show(if v<0 then(v+n).toNat else min _ n)<=n<;>grind
theorem Mo(v:Int)(n d:Nat):(if v<0 then max (v+(n:Int)) 0 else min v (n:Int))=((sIx n d (some v):Nat):Int):=by
 show(if v<0 then max _ 0 else min v n)=if v<0 then(v+n).toNat else min _ n;grind
theorem My(lo hi:AG)(n:Nat):xm lo hi 1 (n:Int)=(((sIx n 0 lo:Nat):Int),((sIx n n hi:Nat):Int)):=by
 refine Prod.ext ?_ ?_
 .cases lo with
  |none=>rfl
  |some v=>exact Mo v n 0
 .cases hi with
  |none=>rfl
  |some v=>exact Mo v n n
theorem Vx(i j:Nat):tz (i:Int) (j:Int) 1=j-i:=by
 unfold tz;grind
theorem Ik{v:Value}{o:AG}{Q:AG->Shared->Prop}(p:ic v o)(h:Q o s):wpAny (model prog w) A (Builtin.Slice.slicePartIndex v) Q E s:=by
 cases p with
 |none=>exact slicePart_none h
 |int i t=>exact slicePart_int h
theorem Nv  {vl vu:Value}{lo hi:AG}{n:Nat}{Q:Int×Int×Nat->Shared->Prop}(hs:s.heap.IsSliceOf sl vl vu .none)(pl:ic vl lo)(pu:ic vu hi)
  (h:Q (((sIx n 0 lo:Nat):Int),1,sIx n n hi-sIx n 0 lo) s):wpAny (model prog w) A (Builtin.Slice.sliceApplied (.ref sl) (pure (n:Int))) Q E s:=by
 obtain⟨os,hos,hcs,hds⟩:=id hs;refine ag (ag (dy hos hds (x:=vl) rfl (ag (dy hos hds (x:=vu) rfl (ag (dy hos hds (x:=.none) rfl (aq ?_)))))));refine ag (slicePart_none ?_);refine ag (Ik pl (ag (Ik pu (ag (aq ?_)))));show wpAny _ _ (match xm lo hi 1 n with |(lo,hi)=>pure (lo,(1:Int),tz lo hi 1)) _ _ s
 rw[My lo hi n];show wpAny _ _ (pure _) _ _ s;rw[Vx];exact aq h
theorem F0(xs:Array Value)(i k:Nat):((ee k).filterMap λ(m:Nat)=>xs[((i:Int)+(m:Int)*1).toNat]?).toArray=((xs.toList.drop i).take k).toArray:=by
 have e:(λ(m:Nat)=>xs[(i+(m:Int)*1).toNat]?)=λm=>xs[i+m]?:=by
  grind
 have:=pick_run xs i k;have e2:((λx=>xs[x]?)∘λx=>i+x)=λm=>xs[i+m]?:=rfl
 simp_all
theorem getItem_tuple_cut{t sl:Addr}{items:Array Value}{vl vu:Value}{lo hi:AG}{Q:Value->Shared->Prop}(ht:IsTup s.heap t items)(hs:s.heap.IsSliceOf sl vl vu .none)(pl:ic vl lo)(pu:ic vu hi)
  (hw:¬(sIx items.size 0 lo=0/\sIx items.size items.size hi=items.size))
  (h:Q (.ref s.heap.objs.size) {s with heap:=s.heap.push {cls:=.type "tuple",data:=.seq ((items.toList.drop (sIx items.size 0 lo)).take (sIx items.size items.size hi-sIx items.size 0 lo)).toArray}})
  (hsz:items.size<=sizeLine):wpAny (model prog w) A (getItem (.ref t) (.ref sl)) Q E s:=by
 have htake:sizeOk (.seq ((items.toList.drop (sIx items.size 0 lo)).take (sIx items.size items.size hi-sIx items.size 0 lo)).toArray):=by
  show((items.toList.drop (sIx items.size 0 lo)).take (sIx items.size items.size hi-sIx items.size 0 lo)).toArray.size<=sizeLine;rw[ax,ku,ua,jt];omega
 obtain⟨os,hos,hcs,hds⟩:=id hs;have hTs:s.TypeIs (.ref sl) "slice":=⟨os,hos,hcs⟩;unfold getItem
 try with_reducible refine dh ?_
 refine ag (wpAny_sequenceKey ht.typeIs (by decide) ?_);refine ag (mj  ht.typeIs ox
  (ju ox ht.typeIs entry_tuple_getitem ?_ (args_tuple_getitem _ _)))
 show wpAny _ _ (Builtin.Tuple.tupleItemsOf (.ref t) >>= _) _ _ s;refine ag (tupleItemsOf_ ht ?_);refine ag (wpAny_typeOf hTs ?_);rw[if_pos (by decide)];refine ag (Nv hs pl pu ?_);have hno:¬((((sIx items.size 0 lo:Nat):Int)==0&&(1:Int)==1&&(sIx items.size items.size hi-sIx items.size 0 lo)==items.size)=true):=by
  grind
 show wpAny _ _ (if(((sIx items.size 0 lo:Nat):Int)==0&&(1:Int)==1&&(sIx items.size items.size hi-sIx items.size 0 lo)==items.size)=true then _ else _) _ _ s;rw[if_neg hno,F0]
 first
  |exact ag  (jw (aq ⟨_,rfl,aq h⟩) htake)
  |grind
  |grind
  |grind
end
end HT
namespace L2
open PySem PySem.Spec PyProof.Rows
abbrev TO:=St->Hp->(AG->Hp->Prop)->Prop
def PO(X:Cx)(e:Option ae)(t:TO):Prop:=
 ∀(AL:List (Addr×Obj))(s:Shared)(σ:St)(H:Hp)(Q:AG->Hp->Prop),aF X AL σ H s->t σ H Q->
  wpAny (model X.prog X.w) X.A (evalPart e X.env) (λu s'=>∃o H',aF X AL σ H' s'/\ic u o/\Q o H') X.xe s
def W6:TO:=λ_ H Q=>Q none H
def acO(t:TE):TO:=λσ H Q=>t σ H λx H1=>∃i,x=.int i/\Q (some i) H1
section
variable{X:Cx}{e:ae}{te:TE}{lo hi:Option ae}{tl th:TO}{pos p2:ai}
theorem X6:PO X none W6:=by
 intro AL s σ H Q I h;exact aq ⟨none,H,I,.none,h⟩
theorem O5(h:PE X e te):PO X (some e) (acO te):=by
 intro AL s σ H Q I hw;refine aR (h _ s _ H _ I hw) ?_
 rintro u s1 ⟨x,H1,I1,r1,q1⟩
 obtain⟨i,rfl,q⟩:=q1;obtain⟨t,rfl⟩:=r1;exact⟨some i,H1,I1,.int i t,q⟩
def nY(X:Cx)(r:V->AG->AG->Hp->VK->Prop):Prop:=
 ∀(AL:List (Addr×Obj))(s:Shared)(σ:St)(H:Hp)(x:V)(v vl vu:Value)(lo hi:AG)(sl:Addr)(Q:VK),aF X AL σ H s->aT x v->s.heap.IsSliceOf sl vl vu .none->ic vl lo->ic vu hi->r x lo hi H Q->
  ∃T id,typeLookup (.type T) "__getitem__"=pure (some (.builtin id))/\s.TypeIs v T/\wpAny (model X.prog X.w) X.A (getItem v (.ref sl)) (EP X AL σ Q) X.xe s
theorem nY.or  (h:nY X r)(h':nY X r'):nY X (λx lo hi H Q=>r x lo hi H Q\/r' x lo hi H Q):=by
 intro AL s σ H x v vl vu lo hi sl Q I rx hs pl pu q;rcases q with q |q
 .exact h _ s _ H x v _ _ _ _ _ Q I rx hs pl pu q
 .exact h' _ s _ H x v _ _ _ _ _ Q I rx hs pl pu q
def tSl(r:V->AG->AG->Hp->VK->Prop)(te:TE)(tl th:TO):TE:=λσ H Q=>te σ H λx H1=>tl σ H1 λl H2=>th σ H2 λu H3=>r x l u H3 Q
theorem Tn  (hr:nY X r)(he:PE X e te)(hl:PO X lo tl)(hu:PO X hi th):PE X (.Subscript e (.Slice lo hi none p2) pos) (tSl r te tl th):=by
 intro AL s σ H Q I h;refine ub (aR (he _ s _ H _ I h) λv s1 hq=>?_);rcases hq with⟨x,H1,I1,r1,q1⟩;refine wpAny_Slice (aR (hl _ _ _ _ _ I1 q1) λvl s2 ⟨l,H2,I2,pl,q2⟩=>aR (hu _ _ _ _ _ I2 q2) λvu s3 hq=>?_);rcases hq with⟨u,H3,I3,pu,q3⟩;refine aq ?_;have I4:aF X _ _ _ {s3 with heap:=s3.heap.push {cls:=.type "slice",data:=.fields #[vl,vu,.none]}}:=I3.kept  λb ob q=>ao _ q;obtain⟨T,id,hT,ht,hg⟩:=hr _ _ _ _ x v _ _ l u _ Q I4 r1 (Heap.IsSliceOf.new ..) pl pu q3;exact tail_any  ht hT hg (rfl)
def vI(xs:List V)(lo hi:AG):List V:=(xs.drop (HT.sIx xs.length 0 lo)).take (HT.sIx xs.length xs.length hi-HT.sIx xs.length 0 lo)
theorem zI(xs:List V)(lo hi:AG):(vI xs lo hi).length<=xs.length:=by
 unfold vI;rw[ku,ua];omega
def adm(K:aa):V->AG->AG->Hp->VK->Prop:=λx lo hi H Q=>∃a xs,x=.ref a/\cJ K H a xs/\
 ¬(HT.sIx xs.length 0 lo=0/\HT.sIx xs.length xs.length hi=xs.length)/\∀p,H p=none->Q (.ref p) (aN H p (.tup (vI xs lo hi)))
theorem aaT:nY X (adm X.K):=by
 intro AL s σ H x v vl vu lo hi sl Q I rx hs pl pu h;obtain⟨a,xs,rfl,hx,hw,q⟩:=h;cases rx;obtain⟨its,r,ht,hz⟩:=I.tuple hx;have hlen:its.toArray.size=xs.length:=by exact r.length.symm
 refine⟨"tuple",_,ox.lookup,ht.typeIs,?_⟩;refine HT.getItem_tuple_cut ht hs pl pu (by rw[hlen];exact hw) ?_ (by rw[hlen];exact hz);rw[hlen];refine⟨.ref _,_,I.laid   (λb ob q=>ao _ q) (ak _) ?_,rfl,q _ (I.hok.fresh (ak _))⟩;exact⟨⟨dq (zI xs lo hi) hz,_,bn _ rfl,rfl⟩,_,(r.drop _).take _,uc _ _⟩
def Zr(K:aa):R2:=λx y H Q=>∃a b xs ys,x=.ref a/\y=.ref b/\cJ K H a xs/\cJ K H b ys/\xs≠[]/\xs.length+ys.length<=sizeLine/\
 (ys=[]->Q (.ref a) H)/\(ys≠[]->∀p,H p=none->Q (.ref p) (aN H p (.tup (xs++ys))))
theorem aS.nil_iff   (r:aS xs us):us=[]↔xs=[]:=by
 cases r<;>simp_all
theorem U9:cN X (binaryOp .Add) (Zr X.K):=by
 intro AL s σ H x y v u Q I rx ry h;obtain⟨a,b,xs,ys,rfl,rfl,ha,hb,hx,hz,q1,q2⟩:=h;cases rx;cases ry;obtain⟨its,r1,p1,_⟩:=I.tuple ha;obtain⟨its2,r2,p2,_⟩:=I.tuple hb;refine HT.cat_tup p1 p2 (λz=>hx (r1.nil_iff.mp z)) (λz=>⟨.ref a,H,I,rfl,q1 (r2.nil_iff.mp z)⟩) (λz=>?_) (by rw[<-r1.length,<-r2.length];exact hz);refine⟨.ref _,_,I.laid   (λb ob q=>ao _ q) (ak _) ?_,rfl,q2 (λw=>z (r2.nil_iff.mpr w)) _ (I.hok.fresh (ak _))⟩;exact⟨⟨by rw[cb];exact hz,_,bn _ rfl,rfl⟩,_,r1.append r2,uc _ _⟩
end
def iB(n:Nat)(i:Int):Option Nat:=if 0<=i then(if i<n then some i.toNat else none)else if-(n:Int)<=i then some (i+n).toNat else none
def fL{α:Type}(xs:List α)(i:Int):Option α:=(iB xs.length i).bind λj=>xs[j]?
theorem To    (h:iB n i=some j):seqIndex? i n=some j/\j<n/\-(n:Int)<=i/\i<n:=by
 unfold iB at h
 by_cases h0:0<=i
 .rw[if_pos h0]at h
  by_cases h1:i<n
  .rw[if_pos h1]at h
   have e:=dj h;exact⟨by rw[ud h0 h1,e],by omega,by omega,h1⟩
  .simp_all
 .rw[if_neg h0]at h
  by_cases h1:-n<=i
  .rw[if_pos h1]at h
   have e:=dj h;exact⟨by rw[ue (by omega) h1,e],by omega,h1,by omega⟩
  .simp_all
theorem Mf     (h:fL xs i=some v):∃j,seqIndex? i xs.length=some j/\xs[j]?=some v/\j<xs.length/\-(xs.length:Int)<=i/\i<xs.length:=by
 unfold fL at h;cases e:iB _ i with
 |none=>rw[e]at h;cases h
 |some j=>
  rw[e]at h;obtain⟨h1,h2,h3,h4⟩:=To e;exact⟨j,h1,h,h2,h3,h4⟩
theorem Do   {j:Nat}{v:α}(h:xs[j]?=some v):fL xs (j:Int)=some v:=by
 have hj:=(cq.mp h).1;have e:iB xs.length j=some j:=by
  unfold iB
  simp_all
 unfold fL;rw[e];exact h
def Ef(b:ae):Prop:=∀o i,subscripted b false o i=operate [o,i] (getItem o i)
def nZ(X:Cx)(r:R2):Prop:=
 ∀(value slice:ae)(AL:List (Addr×Obj))(s:Shared)(σ:St)(H:Hp)(x y:V)(v u:Value)(Q:VK),aF X AL σ H s->aT x v->aT y u->r x y H Q->
  subscripted slice false v u=operate [v,u] (getItem v u)->wpAny (model X.prog X.w) X.A (subscriptTail value slice v u) (EP X AL σ Q) X.xe s
def Vh(X:Cx)(id:String)(r:V->List V->Hp->VK->Prop):Prop:=
 ∀(AL:List (Addr×Obj))(s:Shared)(σ:St)(H:Hp)(x:V)(xs:List V)(v:Value)(us:AD)(Q:VK),aF X AL σ H s->aT x v->aS xs us->r x xs H Q->
  wpAny (model X.prog X.w) X.A (call (.builtin id) (v::us)) (EP X AL σ Q) X.xe s
section
variable{X:Cx}{a b:ae}{ta tb:TE}{pos:ai}
theorem nZ.or  (h:nZ X r)(h':nZ X r'):nZ X (λx y H Q=>r x y H Q\/r' x y H Q):=by
 intro value slice AL s σ H x y v u Q I rx ry q hs;rcases q with q |q
 .exact h _ _ _ s _ H x y v u Q I rx ry q hs
 .exact h' _ _ _ s _ H x y v u Q I rx ry q hs
theorem Hs  (hr:nZ X r)(ha:PE X a ta)(hb:PE X b tb)(hs:Ef b):PE X (.Subscript a b pos) (Qc r ta tb):=by
 intro AL s σ H Q I h;exact ub (Kh ha hb I h λv u s2 x y H2 I2 rx ry q=>hr a b _ _ _ _ x y v u Q I2 rx ry q (hs _ _))
def At(K:aa):R2:=λx y H Q=>∃p xs i v,x=.ref p/\y=.int i/\bL K H p xs/\fL xs i=some v/\Q v H
def Ku(K:aa):R2:=λx y H Q=>∃p xs i v,x=.ref p/\y=.int i/\cJ K H p xs/\fL xs i=some v/\Q v H
def Eh:R2:=λx y H Q=>∃z i c,x=.str z/\y=.int i/\z.length<=sizeLine/\fL z.cps.toList i=some c/\Q (.str ⟨#[c]⟩) H
theorem U0:nZ X (At X.K):=by
 intro value slice AL s σ H x y v u Q I rx ry h hs;obtain⟨p,xs,i,z,rfl,rfl,hq,he,q⟩:=h;cases rx;obtain⟨t,rfl⟩:=ry;obtain⟨its,r,pl,hz⟩:=I.list hq;obtain⟨j,h1,h2,h3,h4,h5⟩:=Mf he;obtain⟨w,ew,rw'⟩:=r.get h2;have hl:=r.length;have hn:=qH;have fin:EP X AL σ Q w s:=⟨z,H,I,rw',q⟩
 by_cases h0:0<=i
 .have hj:=by
   rw[ud h0 h5]at h1;exact dj h1
  exact item_listR pl.isList h0 (by omega) (by rw[hj];simpa using ew) fin hs
 .have hj:(i+(its.toArray.size:Int)).toNat=j:=by
   rw[ue (by omega) h4]at h1;rw[ax,<-hl];exact dj h1
  exact xn (x:=w) pl.isList.typeIs slot_list_getitem.lookup
   (wpAny_getItem_list_neg  pl.isList (by omega) (by rw[ax]<;>omega) (by omega) (by rw[hj];simpa using ew) ⟨rfl,fin⟩) hs
theorem Qa:nZ X (Ku X.K):=by
 intro value slice AL s σ H x y v u Q I rx ry h hs;obtain⟨p,xs,i,z,rfl,rfl,hq,he,q⟩:=h;cases rx;obtain⟨t,rfl⟩:=ry;obtain⟨its,r,pl,hz⟩:=I.tuple hq;obtain⟨j,h1,h2,h3,h4,h5⟩:=Mf he;obtain⟨w,ew,rw'⟩:=r.get h2;have hl:=r.length;have hn:=qH;have fin:EP X AL σ Q w s:=⟨z,H,I,rw',q⟩;exact xn  pl.typeIs ox.lookup
  (getItem_tuple   pl (by omega) (by omega) (by rw[ax,<-hl];exact h1) (by simpa using ew) ⟨rfl,fin⟩) hs
theorem Er:nZ X Eh:=by
 intro value slice AL s σ H x y v u Q I rx ry h hs;obtain⟨z,i,c,rfl,rfl,hz,he,q⟩:=h;obtain⟨t,rfl⟩:=rx;obtain⟨t',rfl⟩:=ry;obtain⟨j,h1,h2,h3,h4,h5⟩:=Mf he;have hl:z.cps.toList.length=z.length:=by simp[Str.length]
 rw[hl]at h1 h4 h5;have hn:=qH;exact tail_any (kx s z t) slot_str_getitem.lookup (getItem_str (c:=c) (by
  have e1:decide (i< -(2^63:Int))=false:=decide_eq_false (by omega);have e2:decide (i>=2^63)=false:=decide_eq_false (by omega);rw[e1,e2,Bool.or_false]) (by rw[h1];simpa using h2) ⟨.str ⟨#[c]⟩,H,I.tok _,⟨_,rfl⟩,q⟩) hs
def Cv(K:aa):R2:=λx y H Q=>At K x y H Q\/Ku K x y H Q\/Eh x y H Q
theorem aaB:nZ X (Cv X.K):=U0.or (Qa.or Er)
theorem Yx(its:AD)(n j:Nat)(u:Value):gb (·.setIfInBounds j u) {cls:=.type "list",data:=.seq its.toArray n}={cls:=.type "list",data:=.seq (its.set j u).toArray n}:=by
 simp[gb]
theorem aF.lst  {σ:St}{H:Hp}{s:Shared}{p:Addr}{xs:List V}(I:aF X AL σ H s)(h:H p=some (.lst xs)):
  ∃(its:AD)(n:Nat),aS xs its/\s.heap.get? p=some {cls:=.type "list",data:=.seq its.toArray n}/\xs.length<=sizeLine:=by
 obtain⟨z,its,n,r,e⟩:=I.hok p _ h;exact⟨its,n,r,e,z⟩
theorem aF.lstUpd  {σ:St}{H:Hp}{s:Shared}{p:Addr}{xs ys:List V}{its its':AD}{n n':Nat}{f:Obj->Obj}(I:aF X AL σ H s)(h:H p=some (.lst xs))
  (ho:s.heap.get? p=some {cls:=.type "list",data:=.seq its.toArray n})(hf:f {cls:=.type "list",data:=.seq its.toArray n}={cls:=.type "list",data:=.seq its'.toArray n'})(r:aS ys its')(hz:ys.length<=sizeLine)(t:Nat):
  aF X AL σ (aN H p (.lst ys)) {s with heap:=s.heap.update p f,toks:=t}:=by
 have e:(s.heap.update p f).get? p=some {cls:=.type "list",data:=.seq its'.toArray n'}:=by
  rw[uf f ho (by rw[hf]<;>rfl),hf]
 refine I.write   (by rw[h];trivial) (.inl rfl) (λb u hb q=>(ug _ _ (dw hb)).trans q) ⟨_,e⟩ ?_;exact⟨hz,its',n',r,e⟩
def acD:V->V->V->Hp->(Hp->Prop)->Prop:=λo i v H Q=>∃p xs k j,o=.ref p/\i=.int k/\H p=some (.lst xs)/\iB xs.length k=some j/\Q (aN H p (.lst (xs.set j v)))
theorem J7:Ot X acD:=by
 intro AL s σ H o i v ov iv u Q I ro ri rv h;obtain⟨p,xs,k,j,rfl,rfl,hp,hj,q⟩:=h;cases ro;obtain⟨t,rfl⟩:=ri;obtain⟨its,n,r,ho,hz⟩:=I.lst hp;obtain⟨h1,h2,h3,h4⟩:=To hj;have hl:=r.length;have hn:=qH;have I'  :=
  I.lstUpd hp ho (Yx its n j u) (r.set rv j) (by rw[gm];exact hz) s.toks
 by_cases h0:0<=k
 .have hk:=by
   rw[ud h0 h4]at h1;exact dj h1
  exact PySem.W.ki_setAt ho h0 (by omega) (by rw[ax,<-hl];exact h4) (by rw[hk];exact⟨_,I',q⟩)
 .have hk:(k+(its.toArray.size:Int)).toNat=j:=by
   rw[ue (by omega) h3]at h1;rw[ax,<-hl];exact dj h1
  exact PySem.W.ki_setBack ho (by omega) (by rw[ax,<-hl];exact h3) (by omega) (by rw[hk];exact⟨_,I',q⟩)
theorem Ow(lo hi:AG)(n:Nat):(sliceBounds lo hi none n).1=((HT.sIx n 0 lo:Nat):Int)/\(sliceBounds lo hi none n).2.1=((HT.sIx n n hi:Nat):Int)/\(sliceBounds lo hi none n).2.2=1:=by
 refine⟨?_,?_,rfl⟩
 .cases lo with
  |none=>rfl
  |some i=>
   simp only[sliceBounds,HT.sIx,xo,show(1:Int)>0 by decide,if_true]
   by_cases h:i<0
   .simp only[h,if_true]<;>omega
   .simp only[h,if_false]<;>omega
 .cases hi with
  |none=>rfl
  |some i=>
   simp only[sliceBounds,HT.sIx,xo,show(1:Int)>0 by decide,if_true]
   by_cases h:i<0
   .simp only[h,if_true]<;>omega
   .simp only[h,if_false]<;>omega
theorem Cw(its:AD)(lo hi:AG):slicePick its.toArray lo hi none=((its.drop (HT.sIx its.length 0 lo)).take (HT.sIx its.length its.length hi-HT.sIx its.length 0 lo)).toArray:=by
 obtain⟨h1,h2,h3⟩:=Ow _ _ _;unfold slicePick;rw[h1,h2,h3];simp only[sliceRange_one,pick_run]<;>rfl
def adc(K:aa):V->AG->AG->Hp->VK->Prop:=λx lo hi H Q=>∃a xs,x=.ref a/\bL K H a xs/\∀p,H p=none->Q (.ref p) (aN H p (.lst (vI xs lo hi)))
theorem T9:nY X (adc X.K):=by
 intro AL s σ H x v vl vu lo hi sl Q I rx hs pl pu h;obtain⟨a,xs,rfl,hx,q⟩:=h;cases rx;obtain⟨its,r,ht,hz⟩:=I.list hx;have hlen:=r.length;refine⟨"list",_,slot_list_getitem.lookup,ht.isList.typeIs,?_⟩;refine wpAny_getItem_list_slice ht.isList hs pl pu .none (by simp) ?_ (by grind);rw[Cw,<-hlen];refine⟨.ref _,_,I.laid   (λb ob q=>ao _ q) (ak _) ?_,rfl,q _ (I.hok.fresh (ak _))⟩;exact⟨dq (zI _ _ _) hz,_,0,(r.drop _).take _,bn _ rfl⟩
theorem Xw:fX X (.builtin "len") (λxs H Q=>∃p ys,xs=[.ref p]/\(bL X.K H p ys\/cJ X.K H p ys)/\Q (.int ys.length) H):=by
 intro AL s σ H xs us Q I r h;obtain⟨p,ys,rfl,hq,q⟩:=h;obtain⟨u,rfl,rx⟩:=gJ r;cases rx;have hn:=qH;rcases hq with hq |hq
 .obtain⟨its,r',pl,hz⟩:=I.list hq
  have hlen:=r'.length;exact Calls.call_len_list pl.isList (by simp only[ax]<;>omega) ⟨.int _,H,I.tok _,⟨s.toks+1,by rw[ax,hlen]⟩,q⟩
 .obtain⟨its,r',pl,hz⟩:=I.tuple hq
  have hlen:=r'.length;exact len_tuple pl (by simp only[ax]<;>omega) ⟨.int _,H,I.tok _,⟨s.toks+1,by rw[ax,hlen]⟩,q⟩
theorem Pw:fX X (.builtin "len") (λxs H Q=>∃z,xs=[.str z]/\z.length<=sizeLine/\Q (.int z.length) H):=by
 intro AL s σ H xs us Q I r h;obtain⟨z,rfl,hz,q⟩:=h;obtain⟨u,rfl,t,rfl⟩:=gJ r;have hn:=qH;exact len_str (by omega) ⟨.int z.length,H,I.tok _,⟨_,rfl⟩,q⟩
theorem Nw:fX X (.type "list") (λxs H Q=>∃p ys,xs=[.ref p]/\(bL X.K H p ys\/cJ X.K H p ys)/\∀l,H l=none->Q (.ref l) (aN H l (.lst ys))):=by
 intro AL s σ H xs us Q I r h;obtain⟨p,ys,rfl,hq,q⟩:=h;obtain⟨u,rfl,rx⟩:=gJ r;cases rx;have fin:∀its,aS ys _->ys.length<=sizeLine->∀(h':Heap) c',(∀b o',s.heap.get? b=some o'->h'.get? b=some o')->
   h'.get? _=some _->EP X _ σ Q (.ref _) {s with heap:=h'}:=λits r' hz h' c' kp e=>
  ⟨.ref _,_,I.laid  kp (ak _) (show eC _ _ _ h' _ (.lst ys) from⟨hz,its,c',r',e⟩),rfl,q _ (I.hok.fresh (ak _))⟩
 rcases hq with hq |hq
 .obtain⟨its,r',pl,hz⟩:=I.list hq
  have hlen:=r'.length;obtain⟨o,ho,hc,n,hd⟩:=pl.isList;exact call_list_seq p (.inl rfl) ho hc hd (λh' c' kp e=>fin _ r' hz _ c' kp e) (by simp_all)
 .obtain⟨its,r',pl,hz⟩:=I.tuple hq
  have hlen:=r'.length;obtain⟨o,ho,hc,n,hd⟩:=pl;exact call_list_seq p (.inr rfl) ho hc hd (λh' c' kp e=>fin _ r' hz h' c' kp e) (by simp_all)
theorem Kw:fX X (.type "tuple") (λxs H Q=>∃p ys,xs=[.ref p]/\((bL X.K H p ys/\∀l,H l=none->Q (.ref l) (aN H l (.tup ys)))\/(cJ X.K H p ys/\Q (.ref p) H))):=by
 intro AL s σ H xs us Q I r h;obtain⟨p,ys,rfl,h⟩:=h;obtain⟨u,rfl,rx⟩:=gJ r;cases rx;rcases h with⟨hq,q⟩|⟨hq,q⟩
 .obtain⟨its,r',pl,hz⟩:=I.list hq
  have hlen:=r'.length;refine call_tuple_list pl.isList (λh' kp=>?_) (by grind);have I1:=I.kept (t':=s.toks) kp;have I2  :=
   I1.laid (t':=s.toks) (λb o e=>ao _ e) (ak _) (show eC _ _ _ _ _ (.tup _) from⟨⟨hz,_,bn _ rfl,rfl⟩,its,r',uc _ _⟩)
  exact⟨.ref _,_,I2,rfl,q _ (I1.hok.fresh (ak _))⟩
 .obtain⟨its,r',pl,hz⟩:=I.tuple hq
  exact call_tuple_same pl ⟨.ref p,H,I,rfl,q⟩
def Tc(K:aa)(T:String)(x:V)(H:Hp):Prop:=match x with
 |.str _=>T="str"
 |.int _=>T="int"
 |.ref p=>(T="list"/\∃xs,bL K H p xs)\/(T="tuple"/\∃o,K.lookup p=some o/\o.cls=.type "tuple"/\o.dict=none)\/
   (T="dict"/\((∃kvs,H p=some (.dK kvs))\/∃kvs,H p=some (.dT kvs)))\/(T="set"/\∃S n,H p=some (.set S n))
 |_=>False
theorem Rq  {σ:St}{H:Hp}{s:Shared}{T:String}{x:V}{v:Value}(I:aF X AL σ H s)(r:aT x v)(ty:Tc X.K T x H):
  s.TypeIs v T/\∀a,v=.ref a->∃ob,s.heap.get? a=some ob/\ob.dict=none:=by
 cases x with
 |str z=>
  obtain⟨t,rfl⟩:=r;cases(show T="str" from ty);exact⟨kx s z t,λ_ e=>nomatch e⟩
 |int i=>
  obtain⟨t,rfl⟩:=r;cases(show T="int" from ty);exact⟨typeIs_int s i t,λ_ e=>nomatch e⟩
 |ref p=>
  cases r;rcases ty with⟨rfl,xs,hq⟩|⟨rfl,o,hk,hc,hd⟩|⟨rfl,hk⟩|⟨rfl,S,n,hk⟩
  .obtain⟨its,_,pl,_⟩:=I.list hq
   refine⟨pl.isList.typeIs,λa e=>?_⟩;cases e;obtain⟨o,n,e,c,hd,_⟩:=pl;exact⟨o,e,hd⟩
  .refine⟨⟨o,I.kIn p o hk,hc⟩,λa e=>?_⟩
   cases e;exact⟨o,I.kIn _ o hk,hd⟩
  .have z:∃o,s.heap.get? p=some o/\o.ExactDict:=by
    rcases hk with⟨kvs,hk⟩|⟨kvs,hk⟩
    .obtain⟨_,_,_,_,o,_,_,e,ex,_⟩:=I.hok p _ hk
     exact⟨o,e,ex⟩
    .obtain⟨_,_,_,_,o,_,_,e,ex,_⟩:=I.hok p _ hk
     exact⟨o,e,ex⟩
   obtain⟨o,e,ex⟩:=z;refine⟨⟨o,e,ex.1⟩,λa e2=>?_⟩;cases e2;exact⟨o,e,ex.2.1⟩
  .obtain⟨o,_,_,_,e,ex,_⟩:=I.hok p _ hk
   refine⟨⟨o,e,ex.1⟩,λa e2=>?_⟩;cases e2;exact⟨o,e,ex.2.1⟩
 |_=>exact fg ty
def ads(K:aa)(T:String)(r:V->List V->Hp->VK->Prop)(to:TE):TE:=λσ H Q=>to σ H λx H1=>Tc K T x H1/\r x [] H1 Q
def tBM(K:aa)(T:String)(r:V->List V->Hp->VK->Prop)(to:TE)(t:TA):TE:=λσ H Q=>to σ H λx H1=>Tc K T x H1/\t σ H1 λxs H2=>r x xs H2 Q
variable{o e:ae}{es:List ae}{to:TE}{t:TA}{name:Str}{apos cpos:ai}{T id:String}{r:V->List V->Hp->VK->Prop}
theorem abc(pa:PlainAttrs T)(slot:Slot T name id)(hty:typeOf (.builtin id)=pure (.type "method_descriptor"))(hm:Vh X id r)(ho:PE X o to)
  (hbase:attributeBase o name X.env (eval o X.env)=eval o X.env:=by rfl)(hline:(apos.endLine==cpos.line)=true:=by rfl):PE X (.Call (.Attribute o name apos) [] [] cpos) (ads X.K T r to):=by
 intro AL s σ H Q I h;refine wpAny_Call_method0_late hbase hline (aR (ho AL s σ H _ I h) λv s1 hq=>?_);rcases hq with⟨x,H1,I1,r1,ty,q1⟩;obtain⟨h1,h2⟩:=Rq I1 r1 ty;exact⟨T,id,pa,slot,hty,h1,h2,uh rfl (PySem.evalArgs_none (hm AL s1 σ H1 x [] v [] Q I1 r1 .nil q1))⟩
theorem xV(pa:PlainAttrs T)(slot:Slot T name id)(hty:typeOf (.builtin id)=pure (.type "method_descriptor"))(hm:Vh X id r)(ho:PE X o to)(ha:PA X (e::es) t)
  (hbase:attributeBase o name X.env (eval o X.env)=eval o X.env:=by rfl)
  (hfew:((backTo cpos (starEach (e::es) X.env)).all (λx=>!x.1)&&(backToKw cpos (keywordEach [] X.env)).all (λx=>x.1.isSome)
   &&decide ((e::es).length+([]:List fk).length+(if([]:List fk).isEmpty then 0 else 1)<30))=true:=by rfl)
  (hline:(apos.endLine==cpos.line)=true:=by rfl)(hs:starEach (e::es) X.env=(false,eval e X.env)::starEach es X.env:=by rfl)(hplain:(backTo cpos (starEach es X.env)).any (·.1)=false:=by rfl):
  PE X (.Call (.Attribute o name apos) (e::es) [] cpos) (tBM X.K T r to t):=by
 intro AL s σ H Q I h;refine wpAny_Call_method_late hbase hfew hline rfl (aR (ho _ s _ H _ I h) λv s1 hq=>?_);rcases hq with⟨x,H1,I1,r1,ty,q1⟩;obtain⟨h1,h2⟩:=Rq I1 r1 ty;refine⟨T,id,pa,slot,hty,h1,h2,?_⟩;have hA:=ha cpos _ _ _ _ _ I1 q1;rw[hs]at hA⊢;refine uh (by show(false||(backTo _ _).any _)=false;rw[hplain]<;>rfl) (ui ?_);exact aR hA λus s2 ⟨vs,H2,I2,r2,q2⟩=>hm _ _ _ _ x _ v us Q I2 r1 r2 q2
end
def Rh(X:Cx)(id:String)(r:V->List V->Hp->VK->Prop):Prop:=
 ∀(AL:List (Addr×Obj))(s:Shared)(σ:St)(H:Hp)(x:V)(xs:List V)(v:Value)(us:AD)(Q:VK),aF X AL σ H s->aT x v->aS xs us->r x xs H Q->
  wpAny (model X.prog X.w) X.A (call (.builtin id) (v::us)) (EP X AL σ Q) X.xe s
theorem aS.one:∀{x:V}{us:AD},aS [x] us->∃u,us=[u]/\aT x u:=by
 rintro _ _ (_ |⟨r,_ |_⟩)
 exact⟨_,rfl,r⟩
theorem aS.zero:∀{us:AD},aS [] us->us=[]
 |_,.nil=>rfl
theorem aS.dropLast{xs:List V}{us:AD}(h:aS xs us):aS xs.dropLast us.dropLast:=by
 induction h with
 |nil=>exact .nil
 |cons r t ih=>
  cases t with
  |nil=>exact .nil
  |cons q t'=>exact .cons r ih
theorem aS.eraseIdx:∀{xs:List V}{us:AD}(i:Nat),aS xs us->aS (xs.eraseIdx i) (us.eraseIdx i)
 |_,_,_,.nil=>.nil
 |_,_,0,.cons _ t=>t
 |_,_,i+1,.cons r t=>.cons r (aS.eraseIdx i t)
theorem Cy{α:Type}(l:List α):l.eraseIdx (l.length-1)=l.dropLast:=by
 induction l with
 |nil=>rfl
 |cons a r ih=>
  cases r with
  |nil=>rfl
  |cons b r=>
   have e:(a::b::r).length-1=((b::r).length-1)+1:=by
    have h1:(a::b::r).length=r.length+2:=rfl;have h2:(b::r).length=r.length+1:=rfl;omega
   rw[e,List.eraseIdx_cons_succ,ih]
   all_goals rfl
theorem Ae{α:Type}:∀(l:List α)(i:Nat),(l.eraseIdx i).length<=l.length
 |[],_=>ak _
 |_::_,0=>kr _
 |_::r,i+1=>Nat.succ_le_succ (Ae r i)
section
variable{X:Cx}{AL:List (Addr×Obj)}{σ:St}{H:Hp}{s:Shared}{l:Addr}{xs ys:List V}
theorem aF.lset{its its':AD}{n:Nat}{f:Array Value->Array Value}{t':Nat}(I:aF X AL σ H s)(hH:H l=some (.lst xs))
  (e:s.heap.get? l=some {cls:=.type "list",data:=.seq its.toArray n})(hf:f its.toArray=its'.toArray)(hv:aS ys its')(hz:ys.length<=sizeLine):
  aF X AL σ (aN H l (.lst ys)) {s with heap:=s.heap.update l (gb f),toks:=t'}:=by
 have q:=PySem.IsL.update e f;rw[hf]at q;refine I.write   (by rw[hH];exact trivial) (.inl rfl) (λb' u hb hu=>(ug _ _ (dw hb)).trans hu) ⟨_,q⟩ ?_;exact⟨hz,its',_,hv,q⟩
theorem aF.lnew   (I:aF X AL σ H s)(hv:aS ys its)(hz:ys.length<=sizeLine):
  aF X AL σ (aN H s.heap.objs.size (.lst ys)) {s with heap:=s.heap.push {cls:=.type "list",data:=.seq its.toArray},toks:=t'}:=
 I.laid (λ_ _ q=>ao _ q) (ak _) ⟨hz,its,0,hv,bn _ rfl⟩
theorem aF.fresh(I:aF X AL σ H s):H s.heap.objs.size=none:=I.hok.fresh (ak _)
theorem aF.lstM(I:aF X AL σ H s)(hH:H l=some (.lst xs)):xs.length<=sizeLine/\∃(its:AD)(n:Nat),aS xs its/\xs.length=its.length/\s.heap.get? l=some {cls:=.type "list",data:=.seq its.toArray n}:=by
 obtain⟨z,its,n,r,e⟩:=I.hok l _ hH;exact⟨z,its,n,r,r.length,e⟩
end
section
variable{X:Cx}
def V1:V->List V->Hp->VK->Prop:=λx vs H Q=>∃l xs y,x=.ref l/\vs=[y]/\H l=some (.lst xs)/\xs.length<sizeLine/\Q .non (aN H l (.lst (xs++[y])))
theorem vW:Rh X "list.append" V1:=by
 intro AL s σ H x vs v us Q I rx rv h;obtain⟨l,xs,y,rfl,rfl,hH,hz,q⟩:=h;cases rx;obtain⟨u,rfl,ru⟩:=rv.one;obtain⟨z,its,n,r,hl,e⟩:=I.lstM hH;refine ky uj ⟨_,e,rfl⟩ F.entry_list_append (F.args_list_append_2 _ _) (PySem.list_append l _ n u (by grind)) ⟨e,?_⟩;refine⟨.non,_,I.lset  hH e (by simp) (r.append (.cons ru .nil)) ?_,rfl,q⟩;grind
def adj:V->List V->Hp->VK->Prop:=λx vs H Q=>∃l xs y,x=.ref l/\vs=[]/\H l=some (.lst xs)/\xs[xs.length-1]?=some y/\Q y (aN H l (.lst xs.dropLast))
theorem Z6:Rh X "list.pop" adj:=by
 intro AL s σ H x vs v us Q I rx rv h;obtain⟨l,xs,y,rfl,rfl,hH,hy,q⟩:=h;cases rx;have hus:=rv.zero;subst hus;obtain⟨z,its,n,r,hl,e⟩:=I.lstM hH;obtain⟨u,hu,ru⟩:=r.get hy;have hy':its.toArray[its.toArray.size-1]?=some u:=by
  show its.toArray[its.length-1]?=some u;rw[<-xq,<-hl];exact hu
 refine ky oy ⟨_,e,rfl⟩ xt (F.args_list_pop_1 _) (MeetsSeq.list_pop_last l its.toArray n u hy' (by rw[ax];omega)) ⟨e,?_⟩;refine⟨y,_,I.lset (its':=its.dropLast) hH e ?_ r.dropLast ?_,ru,q⟩
 .show its.toArray.eraseIdxIfInBounds (its.toArray.size-1)=its.dropLast.toArray
  rw[ax,xw,Cy]
 .rw[uk]
  omega
def Y9:V->List V->Hp->VK->Prop:=λx vs H Q=>∃l xs i k y,x=.ref l/\vs=[.int i]/\H l=some (.lst xs)/\-(2^63)<=i/\i<2^63/\seqIndex? i xs.length=some k/\xs[k]?=some y/\Q y (aN H l (.lst (xs.eraseIdx k)))
theorem D9:Rh X "list.pop" Y9:=by
 intro AL s σ H x vs v us Q I rx rv h;obtain⟨l,xs,i,k,y,rfl,rfl,hH,h1,h2,hk,hy,q⟩:=h;cases rx;obtain⟨u,rfl,ru⟩:=rv.one;obtain⟨t,rfl⟩:=ru;obtain⟨z,its,n,r,hl,e⟩:=I.lstM hH;obtain⟨w,hw,rw'⟩:=r.get hy;refine ky oy ⟨_,e,rfl⟩ xt (F.args_list_pop_2 _ _)
  (MeetsSeq.list_pop_at l _ n i t k w (fitsIndex_both h1 h2) (by simp_all) (by simp_all) (by simp_all)) ⟨e,?_⟩
 refine⟨y,_,I.lset  hH e ?_ (r.eraseIdx k) ?_,rw',q⟩
 .rw[xw]
 .have:=Ae xs k
  omega
end
end L2
namespace Att
open PySem PySem.W PySem.Calls PyProof.Rows
theorem Uv  :∀(ns:AA)(vs:AD),WellAll P h vs (ns.map WData.int)->mm vs ns:=by
 intro ns
 induction ns with
 |nil=>
  intro vs w;cases w;exact .nil
 |cons n ns ih=>
  intro vs w;cases w with
  |cons a b=>
   cases a;exact .cons _ _ (ih _ b)
theorem B4{l:kz}{n:Nat}(hn:l.most=some n){P:jo}{h:Heap}{args:List WData}{vals:AD}
  (hpre:l.row.toRowW.claim.pre args=true)(hwl:WellAll P h vals args):
  ∃a vs ns,vals=[az a]/\args=[WData.list (ns.map WData.int)]/\h.get? a=some {cls:=.type "list",data:=.seq vs.toArray}/\mm vs ns/\ns.length<=n:=by
 have bK:WShape.hasAll [] _ [.list _]=true:=(pre_splitW hpre).1;have hc:l.pre.holds [] _=true:=(pre_splitW hpre).2;obtain⟨d,r,rfl,h1,h2⟩:=hasAllW_cons bK;obtain rfl:=hasAllW_nil h2;obtain⟨xs,rfl,h3⟩:=hasW_list h1;obtain⟨ns,rfl⟩:=items_int h3;have hlen:=by
  have h4:=by
   have h4:=(holds_andW hc).1;rw[hn]at h4;exact h4
  have h5:=condW_of h4 rfl
  first
   |( grind)
   |(simp at h5;omega)
 cases hwl with
 |cons w1 w2=>
  cases w2;cases w1 with
  |list ho hall=>exact⟨_,_,ns,rfl,rfl,ho,Uv _ _ hall,hlen⟩
theorem Wz(l:kz)(args:List WData):l.row.toRowW.claim.post args (.bool true) args=true:=
 postW_of  
  rfl
  (show(WTm.eq _ _).value _ _=some _ from w_eq_bool rfl w_lit) rfl
theorem attach_call{l:kz}{n:Nat}{q:Program}{loose:List Str}{XP:(Str->AE)->Heap->Prop}{YP:ah->Heap->Prop}{d:DefRec}
  (hn:l.most=some n)(hdf:d.params.defaults=[])
  (call:∀(w:ah)(AM AO:Shared)(mg mb:Str->AE)(fa:Addr)(o:Obj)(pm cd doc:Value)(a:Addr)(vs:AD)(ns:AA),
   Ground q loose [] XP w AM mg mb AO.heap->YP w AO.heap->
   AO.heap.get? fa=some o->o.data=.func (docDef d.name d.params d.body d.scope pm cd doc)->AO.heap.CodeRec cd d.name->mg d.name=some (.ref fa)->
   AO.heap.get? a=some {cls:=.type "list",data:=.seq vs.toArray}->mm vs ns->ns.length<=n->AO.gens=#[]->
   codeAny (model l.prog w) callerA (.call (.ref fa) ⟨[.ref a],[]⟩) (λr s'=>r=.ok (.ret (.bool true))/\OldK AO.heap s'.heap/\s'.os=AO.os/\gf s'.gens) AO):
  WalkO q loose XP YP l.row.toRowW d [] (λf vs=>ul f vs):=by
 intro w AM AO mg mb G Y fa o pm cd doc dV kV ho hd hcd hD hmg hg args vals as hpre hlay hrd hwl hlo;obtain rfl:dV=.none:=Dflts.none hD hdf;obtain rfl:kV=.none:=Dflts.noKw hD;obtain⟨a,vs,ns,rfl,rfl,hobj,hints,hlen⟩:=B4 hn hpre hwl;refine enter_call (iq (call w _ _ _ _ _ o _ _ _ a _ _ G Y ho (fd_plain hd) hcd hmg hobj hints hlen hg) λr s' hq=>?_);obtain⟨rfl,h2,h3,h4⟩:=hq;exact⟨.inl ⟨.bool _,.bool _,[],rfl,λ_=>rfl,.bool _,Wz l _,λ_=>(by grind)⟩,h2,h3,h4⟩
end Att
namespace L2
open PySem PySem.Spec PyProof.Rows
theorem Pl:∀{vs:AD}{ns:AA},mm vs ns->aS (ns.map V.int) vs
 |_,_,.nil=>.nil
 |_,_,.cons n t h=>.cons ⟨t,rfl⟩ (Pl h)
def Mh(H:Hp):Prop:=∀b,H b=none\/∃o xs,H b=some (.frz o (.lst xs))
theorem N7{P:Program}{w:ah}{K:aa}{mg mb:Str->AE}{CX:jA}{k:Nat}{fa a:Addr}{fd:ay}{x:Str}{sp:Sp}{AO:Shared}{vs:AD}{ns:AA}
  (KX:K.In AO.heap)(jP:AO.heap.Ns mainGlobals mg)(hb:AO.heap.Ns builtinsNs mb)(hbb:∀x:Str,x≠"__name__"->mb x=bootBuiltins x)(hlim:AO.heap.NoLimit)(hse:AO.heap.NoSeer)(hT:P.given.tree=none)(hg:AO.gens=#[])
  (ha:AO.heap.get? a=some {cls:=.type "list",data:=.seq vs.toArray})(hi:mm vs ns)(hl:ns.length<=sizeLine)(hr:bG k callerA)
  (F:∀base:Heap,K.In base->base.Ns mainGlobals mg->bQ P w K mg base CX k fa fd [x] sp)(hbind:∀(s:Shared)(u:Value),kq s fd ⟨[u],[]⟩ [(x,u)])
  (hsp:∀H:Hp,Mh H->bL K H a (ns.map V.int)->sp [.ref a] H (λv _=>v=.bl true) λ_ _ _=>False)
  (hCX:∀H e s',CX [] H AO (λ_ _ _=>False) e s'->False):
  codeAny (model P w) callerA (.call (.ref fa) ⟨[.ref a],[]⟩) (λr s'=>r=.ok (.ret (.bool true))/\OldK AO.heap s'.heap/\s'.os=AO.os/\gf s'.gens) AO:=by
 have rv:=Pl hi;have lenV:=hi.length
 --from an abstract heap in which nothing but the script may be tracked
 have core:∀H:Hp,Mh H->bL K H a (ns.map V.int)->cT P w H AO.heap->(∀b,H b≠none->b=a)->(H a≠none->K.lookup a=none)->
   codeAny (model P w) callerA (.call (.ref fa) ⟨[.ref a],[]⟩) (λr s'=>r=.ok (.ret (.bool true))/\OldK AO.heap s'.heap/\s'.os=AO.os/\gf s'.gens) AO:=by
  intro H hO hS hok hA hK;have base_of:∀{b:Addr}{o:Obj},AO.heap.get? b=some o->H b=none->(nR AO.heap H).get? b=some o:=λe n=>G5 e n;have noA:∀{b:Addr}{o:Obj}{es:Array DictEntry}{ep:Nat},AO.heap.get? b=some o->o.data=.dict es ep->H b=none:=λ{b o es ep} e d=>by
   cases q:H b with
   |none=>rfl
   |some u=>
    have e':b=a:=hA b (by rw[q];simp);subst e';rw[ha]at e;cases e;have d':Data.seq vs.toArray _=Data.dict es ep:=d;cases d'
  have nsK:∀{b:Addr}{m:Str->AE},AO.heap.Ns b m->(nR AO.heap H).Ns b m:=λ{b m} ⟨o,es,ep,e,d,r⟩=>⟨o,es,ep,base_of e (noA e d),d,r⟩;have hKb:K.In (nR AO.heap H):=λb o e=>base_of (KX b o e) (by
   cases q:H b with
   |none=>rfl
   |some u=>
    have e':b=a:=hA b (by rw[q];simp);subst e';rw[hK (by rw[q];simp)]at e;cases e)
  have hM:Mod K mg (nR AO.heap H):=⟨hKb,nsK jP,⟨mb,nsK hb,hbb⟩,let⟨mc,h1,h2⟩:=hlim;⟨mc,nsK h1,h2⟩,⟨let⟨mc,h1,h2⟩:=hse.statics;⟨mc,nsK h1,h2⟩,let⟨mc,h1,h2⟩:=hse.mods;⟨mc,nsK h1,h2⟩,let⟨mc,h1,h2⟩:=hse.imp;⟨mc,nsK h1,h2⟩,let⟨mg',bm,ob,h1,h2,h3,h4,h5⟩:=hse.main;⟨mg',bm,ob,nsK h1,h2,base_of h3 (by
   cases q:H bm with
   |none=>rfl
   |some u=>
    have e':bm=a:=hA bm (by rw[q];simp);subst e';rw[ha]at h3;cases h3;simp at h4),h4,h5⟩⟩⟩
  have e0:rJ P w K mg (nR AO.heap H) callerA [] AO H:=⟨⟨rfl,hT⟩,hM,λb o e=>S5 e,oo (Zy _ _),trivial,λb hb=>absurd (show b∈([]:List Addr) from hb) (by simp),hok,.of_eq hg⟩;refine iq ((F _ hKb (nsK jP)).run callerA [] AO H ⟨[.ref a],[]⟩ [.ref a] [.ref a] _ _ hr e0 (hbind AO (.ref a)) (.cons rfl .nil) (hsp H hO hS)) λr s' h=>?_;cases r with
  |error e=>exact(hCX H e s' h).elim
  |ok fl=>
   cases fl with
   |next=>exact fg h
   |brk=>exact fg h
   |cont=>exact fg h
   |ret u=>
    obtain⟨v,H',os,bare,un,hok',r',q⟩:=h;have q':v=.bl true:=q;subst q';obtain rfl:u=nv true:=r';refine⟨rfl,OldK.of_keep λb o e=>?_,os,bare⟩;cases q:H b with
    |none=>exact un.keep b o e q (by intro z;exact absurd (show b∈([]:List Addr) from z) (by simp)) (by simp)
    |some u=>
     rcases hO b with z |⟨ob,xs,z⟩
     .rw[q]at z;cases z
     .have z2:=un.frzs b ob _ z
      obtain⟨e1,_⟩:=hok b _ z;obtain⟨e2,_⟩:=hok' b _ z2;rw[e]at e1;cases e1;exact e2
 cases hk:K.lookup a with
 |some o=>
  --the script is one of the module's own objects
  have e:=KX a o hk;rw[ha]at e;cases e;refine core (λ_=>none) (λ_=>.inl rfl) (.inr ⟨_,vs.toArray,_,hk,rfl,rfl,rfl,by rw[ax,lenV];exact hl,by simpa using rv⟩) (λb u z=>by have z':(none:Option HO)=some u:=z;cases z') (λb z=>absurd rfl z) λz=>absurd rfl z
 |none=>
  refine core (λb=>if b=a then some (.frz {cls:=.type "list",data:=.seq vs.toArray} (.lst (ns.map V.int)))else none) (λb=>?_) (.inl (.inr ⟨{cls:=.type "list",data:=.seq vs.toArray},if_pos rfl⟩)) (λb u z=>?_) (λb z=>?_) λ_=>hk
  .by_cases hb:b=a
   .exact .inr ⟨_,_,if_pos hb⟩
   .exact .inl (if_neg hb)
  .by_cases hb:b=a
   .have z':=(if_pos hb).symm.trans z
    cases z';subst hb;exact⟨ha,by rw[bh];exact hl,vs,_,rv,ha⟩
   .have z':=(if_neg hb).symm.trans z
    cases z'
  .by_cases hb:b=a
   .exact hb
   .exact absurd (if_neg hb) z
theorem walk_of{l:kz}{n k:Nat}{q:Program}{loose:List Str}{XP:(Str->AE)->Heap->Prop}{YP:ah->Heap->Prop}{d:DefRec}{K:jo->aa}{CX:ah->jA}{sp:ah->Sp}{x:Str}
  (hn:l.most=some n)(hn2:n<=sizeLine)(hdf:d.params.defaults=[])(hr:bG k callerA)
  (hY:∀(w:ah)(h:Heap),YP w h->(K w.params).In h)
  (hSe:∀(w:ah)(h:Heap)(mg mb:Str->AE),YP w h->h.Ns mainGlobals mg->h.Ns builtinsNs mb->(∀x:Str,x≠"__name__"->mb x=bootBuiltins x)->h.NoSeer)(hTr:l.prog.given.tree=none)
  (F:∀(w:ah)(mg:Str->AE)(fa:Addr)(h:Heap),(K w.params).In h->h.Ns mainGlobals mg->mg d.name=some (.ref fa)->
   ∃fd:ay,(∀(s:Shared)(u:Value),kq s fd ⟨[u],[]⟩ [(x,u)])/\
    ∀base:Heap,(K w.params).In base->base.Ns mainGlobals mg->bQ l.prog w (K w.params) mg base (CX w) k fa fd [x] (sp w))
  (hsp:∀(w:ah)(H:Hp)(a:Addr)(ns:AA),ns.length<=n->Mh H->bL (K w.params) H a (ns.map V.int)->sp w [.ref a] H (λv _=>v=.bl true) λ_ _ _=>False)
  (hCX:∀(w:ah)(H:Hp)(s:Shared)(e:Value)(s':Shared),CX w [] H s (λ_ _ _=>False) e s'->False):
  PySem.W.WalkO q loose XP YP l.row.toRowW d [] (λf vs=>ul f vs):=by
 refine Att.attach_call hn hdf λw AM AO mg mb fa o pm cd doc a vs ns G Y ho hd hcd hmg hobj hints hlen hg=>?_;have KX:=hY w _ Y;obtain⟨fd,hb,hF⟩:=F w mg fa _ KX G.T.g hmg;exact N7 KX G.T.g G.T.b G.T.builtins G.T.nolimit (hSe w _ _ _ Y G.T.g G.T.b G.T.builtins) hTr hg hobj hints (dq hlen hn2) hr hF hb (λH hO hS=>hsp w H a ns hlen hO hS) λH e s'=>hCX w H AO e s'
abbrev dS:jA:=λ_ _ _ _ _ _=>False
abbrev E0:XK:=λ_ _ _=>False
theorem vB:fV dS X E0:=λ_ _ _ _ _ _ _ h=>h.elim
structure iN(K:aa)(x qual:Str)(st:Stmt)(f:Addr)(fd:ay):Prop where
 ex:∃(oc:Value)(od:AF)(kV doc pm:Value)(an:AF)(cdv ct:Value)(osl:Array AE),
  fd=br x qual (dU st) (cG st) (bD st) .none kV doc pm an cdv ct/\K.lookup f=some ⟨oc,od,.func fd,osl⟩/\gh K cdv qual=true
 kp:bo K (.ref f)=true
section
variable{P:Program}{w:ah}{K:aa}{mg:Str->AE}{base:Heap}
theorem iN.ok  {st:Stmt}{f:Addr}{fd:ay}{N ps:List Str}{k:Nat}{sp:Sp}(F:iN K x qual st f fd)(S:gY N ps (bD st))(len:∀vs H Q E,sp vs H Q E->vs.length=ps.length)
  (hbody:∀(cdv:Value)(A:aj)(outer:List Env)(s:Shared)(H:Hp)(vs:List V)(Q:VK)(E:XK),bG k (A.deeper (envOfC qual (bD st) s.heap.objs.size f cdv))->sp vs H Q E->
   ∃t,dH (aK dS P w K mg base N qual (bD st) f cdv A outer s H E).nox (cG st) t/\t {nx:=λ_ H'=>Q .non H',rt:=Q} (start N vs) H):bQ P w K mg base dS (k+1) f fd ps sp:=by
 obtain⟨oc,od,kV,doc,pm,an,cdv,ct,osl,rfl,lk,hcd⟩:=F.ex;refine Sg lk hcd S len λA outer s H vs Q E hr hsp=>?_;obtain⟨t,h,q⟩:=hbody _ A _ s H _ Q E hr hsp;exact⟨t,h.nox,q⟩
theorem iN.binds  {st:Stmt}{f:Addr}{fd:ay}{ps:List Str}(F:iN K x qual st f fd)
  (h:∀(kV doc pm:Value)(an:AF)(cdv ct:Value)(us:AD),us.length=ps.length->bindArgs (br x qual (dU st) (cG st) (bD st) .none kV doc pm an cdv ct) ⟨us,[]⟩=pure (ps.zip us)):dD K fd ps []:=by
 obtain⟨oc,od,kV,doc,pm,an,cdv,ct,osl,rfl,lk,hcd⟩:=F.ex;exact .all (h _ _ _ _ _ _)
theorem Wf  {st:Stmt}{f:Addr}{oc:Value}{od an:AF}{osl:Array AE}{kV doc pm cdv ct:Value}(l:K.lookup f=some ⟨oc,od,.func (br x qual (dU st) (cG st) (bD st) .none kV doc pm an cdv ct),osl⟩)
  (c:gh K cdv qual=true)(k:bo K (.ref f)=true):iN K x qual st f (br x qual (dU st) (cG st) (bD st) .none kV doc pm an cdv ct):=⟨⟨oc,od,kV,doc,pm,an,cdv,ct,osl,rfl,l,c⟩,k⟩
end
section
variable{X:Cx}
theorem pv(i:Nat){x:Str}{pos:ai}(hN:X.N[i]?=some x:=by rfl)(hv:lP X.env.scope x:=by first |exact cv rfl |exact cj (cv rfl) |exact cj (cj rfl))(hd:(x==("__debug__":Str))=false:=by decide)
  (hcd:(x==("__classdict__":Str))=false:=by decide):PE X (.Name x pos) (pB i):=nC hN hv hd hcd
end
def bX(H H':Hp):Prop:=∀b o,H b=some o->H' b=some o
theorem bX.refl(H:Hp):bX H H:=λ_ _ h=>h
end L2
namespace Bn
def Bd(k:Nat)(i:Int):Prop:=i.natAbs<2^k
theorem Bd.mono  {i:Int}(h:Bd j i)(l:j<=k):Bd k i:=bj h (xx (by decide) l)
theorem Bd.of{k n:Nat}{a:Int}(l:a.natAbs<=n)(h:n<2^k):Bd k a:=Nat.lt_of_le_of_lt l h
theorem Bd.log   (h:Bd k a)(hk:0<k):a.natAbs.log2<k:=by
 rcases Nat.eq_zero_or_pos a.natAbs with z |z
 .simp_all
 .exact(Nat.log2_lt (jr z)).mpr h
theorem Oz(a:Int){b:Int}(h:b≠0):(a.fmod b).natAbs<b.natAbs:=by
 rw[Int.fmod_eq_emod];have h1:=Int.emod_nonneg a h;have h2:=Int.emod_lt a h
 by_cases c:0<=b\/b∣a
 .rw[if_pos c]<;>grind
 .rw[if_neg c]
  omega
theorem H0(a b:Int):jx b (a.fmod b)=jx a b:=by
 rw[Int.fmod_def,Int.mul_comm,Int.gcd_sub_mul_right_right,Int.gcd_comm]
theorem abx(x:Int):(if x<0 then-x else x)=(x.natAbs:Int):=by grind
def gl:AA->Int->Int
 |[],g=>g
 |n::r,g=>gl r (jx g n:Nat)
def Su(ns:AA):AA:=if gl ns 0=0 then ns else ns.map (· /gl ns 0)
def fr(t b:Int):AA:=if b<0 then Su [0-t,0-b] else Su [t,b]
def sm(xs:AA)(w:Int)(ys:AA)(v:Int):AA:=jg (λx y=>x*v+y*w) xs ys
end Bn
namespace L2
open PySem PySem.Spec PyProof.Rows Bn
section
variable{X:Cx}
theorem Ro   (h:Bd k i):xy i<=k:=by
 unfold xy;split
 .simp_all
 .have z:i.natAbs≠0:=by
   grind
  have:=(Nat.log2_lt z).mpr h<;>grind
def xS(_ j:Int):Prop:=j≠0/\Bd 8000 j
theorem E1:cN X (binaryOp .FloorDiv) (rI xS λi j=>.int (i.fdiv j)):=
 Uc λ_ _ _ _ _ _ _ hc q=>floordiv_int hc.1 q (.inl (PyProof.noPylong_of_log2 (oz (hc.2.log (by decide)) (by decide))))
theorem PS.imp{st:Stmt}{t t':TS}(h:PS X st t)(i:∀D σ H,t' D σ H->t D σ H):PS X st t':=λAL s σ H D I q=>h _ s _ H D I (i D _ H q)
theorem dH.imp{st:List Stmt}{t t':TS}(h:dH X st t)(i:∀D σ H,t' D σ H->t D σ H):dH X st t':=λAL s σ H D I q=>h _ s _ H D I (i D _ H q)
theorem PE.imp   (h:PE X e t)(i:∀σ H Q,t' σ H Q->t σ H Q):PE X e t':=λAL s σ H Q I q=>h _ s _ H Q I (i _ H Q q)
theorem PT.imp   (h:PT X e t)(i:∀σ H Q,t' σ H Q->t σ H Q):PT X e t':=λAL s σ H Q I q=>h _ s _ H Q I (i _ H Q q)
theorem aF.turnedNew  {σ:St}{H:Hp}{s:Shared}{h':Heap}{t':Nat}{ch:List Addr}{a:Addr}{o:HO}(I:aF X AL σ H s)(hf:∀b∈ch,eR X AL H b)
  (k:∀b u,b∉ch->s.heap.get? b=some u->h'.get? b=some u)(hp:s.heap.objs.size<=a)(new:eC X.prog X.w (aN H a o) h' a o):
  aF X AL σ (aN H a o) {s with heap:=h',toks:=t'}:=by
 have hn:=I.hok.fresh hp;have nch:∀b u,H b=some u->b∉ch:=λb u e z=>by
  rw[(hf b z).1]at e;cases e
 have nea:∀b u,H b=some u->b≠a:=λb u e=>cU e hn;refine I.step    (λb hb=>?_) (λb u _ _ hc e _=>k b u hc e) (λb u _ _ hc e _=>⟨u.slots,k b u hc e⟩) (λb u _ e n=>?_)
  (λb u hc e=>⟨u,k b u hc e⟩) (λb xs e=>?_) (λb u v e=>?_) (λb ps e=>⟨#[],?_⟩) (λm hm=>?_) (λb u e=>?_) I.bare
 .obtain⟨_,f1,_,f3,f4,f5⟩:=hf b hb
  exact⟨f3,f1,f4,f5⟩
 .rw[aX (bc (bj (au e) hp))]
  exact n
 .rw[aX (nea b _ e)]
  exact e
 .rw[aX (nea b _ e)]
  exact e
 .rw[aX (nea b _ e),e]
  simp
 .obtain⟨ob,es,ep,ho,r⟩:=hm
  exact⟨ob,es,ep,k _ ob (λz=>(hf _ z).2.1 rfl) ho,r⟩
 .by_cases hb:b=a
  .subst hb
   rw[cD]at e;cases e;exact new
  .rw[aX hb]at e
   refine(I.hok b u e).stay (λc v hc q=>k c v ?_ q) (λc q=>?_) λc xs q=>?_
   .rcases hc with z |z
    .rw[z]
     exact nch b u e
    .exact nch c _ z
   .rw[aX (nea c _ q)]
    exact q
   .rw[aX (nea c _ q)]
    exact q
theorem aF.turnedL  {σ:St}{H:Hp}{s:Shared}{h':Heap}{t':Nat}{ch:List Addr}(I:aF X AL σ H s)(hf:∀b∈ch,eR X AL H b)
  (k:∀b u,b∉ch->s.heap.get? b=some u->h'.get? b=some u):aF X AL σ H {s with heap:=h',toks:=t'}:=by
 have nch:∀b u,H b=some u->b∉ch:=λb u e z=>by
  rw[(hf b z).1]at e<;>grind
 refine I.step    (λb hb=>?_) (λb u _ _ hc e _=>k b u hc e) (λb u _ _ hc e _=>⟨u.slots,k b u hc e⟩) (λb u _ e n=>n)
  (λb u hc e=>⟨u,k b u hc e⟩) (λb xs e=>e) (λb u v e=>e) (λb ps e=>⟨#[],?_⟩) (λm hm=>?_) (λb u e=>?_) I.bare
 .obtain⟨_,f1,_,f3,f4,f5⟩:=hf b hb
  exact⟨f3,f1,f4,f5⟩
 .simp_all
 .obtain⟨ob,es,ep,ho,r⟩:=hm
  exact⟨ob,es,ep,k _ _ (λz=>(hf _ z).2.1 rfl) ho,r⟩
 .refine(I.hok b u e).stay (λc v hc q=>k c v ?_ q) (λc q=>q) λc xs q=>q
  rcases hc with z |z
  .rw[z]
   exact nch b u e
  .exact nch c _ z
end
def Uh (K : aa) (a : Addr) : It :=
  ⟨λi H => ∃ xs x, bL K H a xs ∧ xs[i]? = some x,
   λi H x H' => ∃ p y, H p = none ∧ x = .ref p ∧ H' = aN H p (.tup [.int i, y]) ∧ ∀ xs, bL K H a xs → xs[i]? = some y,
   λi H => ∃ xs, bL K H a xs ∧ xs.length ≤ i⟩
theorem B9{P:Program}{w:ah}{K:aa}{elts:List ae}{x1:Nat}{tp:ai}(a e it:Addr)(hne:e≠it):
  rA P w K (.Tuple elts x1 tp) (Uh K a) [e,it] e (λi h=>(∃old,IsEnum h e it (i:Int) old)/\h.IsListIter it a i) where
 mem:=by simp
 obj:=λi h st b hb=>by
  obtain⟨⟨old,q⟩,o,e1,c,d⟩:=st;rcases bw.mp hb with z |z
  .subst z
   exact⟨_,q,λv z=>nomatch z⟩
  .have z':b=it:=by simpa using z
   subst z';exact⟨o,e1,λv z=>by rw[d]at z;cases z⟩
 keep:=λi h h' st k=>⟨let⟨old,q⟩:=st.1;⟨old,k e (by simp) _ q⟩,st.2.at λo q=>k it (by simp) o q⟩
 item:=by
  intro X hP hw hK hc i AL s σ H E I hf st hg;subst hP hw hK;obtain⟨xs,x,hq,hx⟩:=hg;obtain⟨its,rv,pl,hz⟩:=I.list hq;obtain⟨u,hu,ru⟩:=rv.get hx;obtain⟨⟨old,he⟩,hit⟩:=st;refine wpAny_pyNext_enum_item he hit pl.isList (x:=u) (by simpa using hu) hne λh1 ho1 hit1 ht1 hs1 hk1=>⟨_,rfl,?_⟩;have lt1:e<s.heap.objs.size:=au he;refine wpAny_letOwnedTupleGo_enum  ho1 λh2 he2 sb2=>?_;have ht2:=(sb2.2 _ (jr lt1)).trans ht1;have I2:aF X AL σ (aN H s.heap.objs.size (.tup [.int i,x])) {s with heap:=h2,toks:=s.toks+1}:=
   I.turnedNew hf (λb o hb q=>(sb2.2 b (λz=>hb (by simp[z]))).trans (hk1 b o (λz=>hb (by simp[z])) (λz=>hb (by simp[z])) q)) (ak _)
    ⟨⟨by show 2<=sizeLine;decide,_,ht2,rfl⟩,[.int i s.toks,u],.cons ⟨_,rfl⟩ (.cons ru .nil),⟨_,ht2,rfl,_,rfl⟩⟩
  refine⟨.ref s.heap.objs.size,_,I2,rfl,⟨_,x,I.hok.fresh (ak _),rfl,rfl,λys hy=>by rw[I.list_inj hy hq];exact hx⟩,⟨⟨_,by simpa using he2⟩,hit1.at λo q=>(sb2.2 it hne.symm).trans q⟩,λb hb=>?_⟩;have hb':=(hf b hb).1;have lt:b≠s.heap.objs.size:=by
   rcases bw.mp hb with z |z
   .subst z
    exact bc lt1
   .have z':b=it:=by simpa using z
    subst z';obtain⟨o,q,_⟩:=hit;exact bc (au q)
  rw[aX lt];exact hb'
 done:=by
  intro X hP hw hK hc i AL s σ H E I hf st hg;subst hP hw hK;obtain⟨xs,hq,hx⟩:=hg;obtain⟨its,rv,pl,hz⟩:=I.list hq;obtain⟨⟨old,he⟩,hit⟩:=st;have hl:=rv.length;exact wpAny_pyNext_enum_end (I.ok.hd hc) he hit pl.isList (by simp;omega) λh' eb=>⟨rfl,I.turnedL (t':=s.toks) hf λb o hb q=>eb b o (λz=>hb (by simp[z])) q⟩
 self:=λ_ _ _ _ _ st h=>let⟨_,q⟩:=st.1;wpAny_pyIter_enum q h
section
variable{X:Cx}{elts:List ae}{x1:Nat}{tp:ai}
def abI(K:aa)(tl:TA):TI:=λσ H R=>tl σ H λvs H1=>∃a,vs=[.ref a]/\(∃xs,bL K H1 a xs)/\R (Uh K a) H1
theorem U8   {p pos:ai}(hg:Gl X "enumerate")(hm:X.mg "enumerate"=none)(hl:PA X [l] tl)(hs:starEach [l] X.env=[(false,eval l X.env)]:=by rfl):
  PI X (.Tuple elts x1 tp) (.Call (.Name "enumerate" p) [l] [] pos) (abI X.K tl):=by
 intro AL s σ H R I h;refine Call_ (xA I hg hm boot_enumerate (oh (aR (hl pos AL s σ H _ I h) λus s1 hq=>?_) hs rfl));rcases hq with⟨vs,H1,I1,r1,q1⟩;obtain⟨a,rfl,⟨xs,hq⟩,q⟩:=q1;obtain⟨u,rfl,ru⟩:=gJ r1;cases ru;obtain⟨its,rv,pl,hz⟩:=I1.list hq;refine call_enumerate_list pl.isList λh' he hit hsz k=>?_;have I2:=I1.kept (t':=s1.toks) k;refine wpAny_pyIter_enum  he ?_;refine⟨s1.heap.objs.size+1,[s1.heap.objs.size+1,s1.heap.objs.size],_,_,H1,rfl,I2,B9 a _ _ (Nat.succ_ne_self _),⟨⟨_,he⟩,hit⟩,λb hb=>?_,q⟩;have hb':s1.heap.objs.size<=b:=by
  rcases bw.mp hb with z |z
  .rw[z]
   exact kr _
  .have z':=by simpa using z
   rw[z'];exact ak _
 exact I1.fpOk hb' (I1.hok.fresh hb')
end
def iU(env:Env):List (Str×ir)->List (Str×Addr)->List (Str×Addr)
 |[],acc=>acc
 |p::r,acc=>if(p.2== .free)=true then iU env r ((p.1,(env.cells.lookup p.1).getD 0)::acc)else iU env r acc
theorem Of   (h:∀p∈sc.names,p.2=.free->∃c,env.cells.lookup p.1=some c):closureFor sc env=pure (iU env sc.names []):=by
 unfold closureFor;have go:∀l acc,(∀p∈l,p.2=.free->∃c,env.cells.lookup p.1=some c)->
   (forIn l acc (λx r=>if(x.2==ie)=true then do let a <-cellOf env x.1;pure (jy ((x.1,a)::r))else pure (jy r)):bt _)=pure (iU env l acc):=by
  intro l
  induction l with
  |nil=>intro acc _;rfl
  |cons p r ih=>
   intro acc hp;rw[ig];have hr:=λacc'=>ih acc' λq hq=>hp q (cu _ hq)
   by_cases c:(p.2==ie)=true
   .obtain⟨a,ea⟩:=hp p ce (by simpa using c)
    have e1:cellOf env p.1=pure a:=by unfold cellOf;rw[ea]
    rw[if_pos c,e1];simp only[pure_bind];rw[hr];show _=pure (if(p.2== .free)=true then _ else _);rw[if_pos c,ea];rfl
   .rw[if_neg c]
    simp only[pure_bind];rw[hr];show _=pure (if(p.2== .free)=true then _ else _);rw[if_neg c]
 have e:=go sc.names [] h;rw[bind_pure];exact e
theorem Qd:∀(l:List (Str×ir))(acc:List (Str×Addr)),(∀p∈l,p.2=.free->∃c,env.cells.lookup p.1=some c)->
  ∀y c,(iU env l acc).lookup y=some c->acc.lookup y=some c\/env.cells.lookup y=some c
 |[],acc,_,y,c,e=>.inl e
 |p::r,acc,h,y,c,e=>by
  have hr:=λq hq=>h q (cu _ hq);unfold iU at e
  by_cases k:(p.2==ie)=true
  .rw[if_pos k]at e
   obtain⟨a,ea⟩:=h p ce (by simpa using k);rcases Qd r _ hr y c e with z |z
   .rw[gp]at z
    cases w:y==p.1<;>simp_all
   .exact .inr z
  .rw[if_neg k]at e
   exact Qd r _ hr y c e
theorem zU:∀(l:List (Str×ir))(acc:List (Str×Addr))(y:Str),((∃c,acc.lookup y=some c)\/(y,ie)∈l)->∃c,(iU env l acc).lookup y=some c
 |[],acc,y,h=>by
  rcases h with h |h
  .exact h
  .cases h
 |p::r,acc,y,h=>by
  unfold iU
  by_cases k:(p.2==ie)=true
  .rw[if_pos k]
   refine zU r _ y ?_;cases w:y==p.1 with
   |true=>exact .inl ⟨_,by rw[gp,w]⟩
   |false=>
    rcases h with⟨c,h⟩|h
    .exact .inl ⟨c,by rw[gp,w];exact h⟩
    .rcases bw.mp h with z |z
     .rw[<-z]at w
      simp at w
     .exact .inr z
  .rw[if_neg k]
   refine zU r _ y ?_;rcases h with h |h
   .exact .inl h
   .rcases bw.mp h with z |z
    .rw[<-z]at k
     simp at k
    .exact .inr z
theorem Nj{env:Env}:∀{names:List (Str×ir)}{x:Str},(∀y∈names,y.2≠.cell)->
  (let l:=(names.map λ(n,k)=>if(k==ie&&env.scope.kind== .function&&env.kindOf n==some .cell)then(n,ya)else(n,k)).lookup x;l=some .cell\/l=some .free)->(x,ie)∈names
 |[],x,_,h=>by
  rcases h with h |h<;>cases h
 |(n,k)::r,x,hc,h=>by
  dsimp only at h;rw[cn]at h;have ih:=@Nj env r x λy hy=>hc y (cu _ hy);have nk:=hc (n,k) ce
  by_cases c:(k==ie&&env.scope.kind== .function&&env.kindOf n==some .cell)=true
  .have kf:k=.free:=by
    simp only[df,beq_iff_eq]at c;exact c.1.1
   rw[if_pos c,gp]at h;cases w:x==n with
   |true=>
    have hx:x=n:=by simpa using w
    rw[hx,<-kf];exact ce
   |false=>
    rw[w]at h;exact cu _ (ih h)
  .rw[if_neg c,gp]at h
   cases w:x==n with
   |true=>
    simp_all
   |false=>
    rw[w]at h;exact cu _ (ih h)
def bW(X:Cx)(sc:Scope)(N:List Str)(C:Addr)(AM:Shared)(AN:Hp)(ex:List Addr):Cx where
 prog:=X.prog
 w:=X.w
 K:=X.K
 mg:=X.mg
 base:=X.base
 A:=X.A
 N:=N
 AM:=AM
 AN:=AN
 env:=compEnvC sc (iU X.env sc.names []) C X.env
 outer:=X.stack
 stack:=X.stack
 ex:=ex
 fn:=λ_=>false
 calm:=X.calm
 pn:=[]
 xe:=λ_ _=>False
def kG(own:List Str)(cap:List (Nat×Str))(σ:St):St:=own.map (λ_=>none)++cap.map λp=>(σ[p.1]?).join
def bZ(own:List Str)(cap:List (Nat×Str)):List Str:=own++cap.map (·.2)
def rK(J:It)(g:TG)(te:TE)(AQ:St)(H1:Hp)(D:Addr)(Q:VK):Prop:=
 ∃W:Nat->Nat->St->Hp->List V->Prop,(∃m,W 0 m AQ (aN H1 D (.lst [])) [])/\∀i m σ H ys,W i m σ H ys->H D=some (.lst ys)/\
  ((J.stop i H/\Q (.ref D) H)\/(J.go i H/\ys.length<sizeLine/\∀x H2,J.yld i H x H2->g x σ H2 λσ3 H3=>te σ3 H3 λy H4=>H4 D=some (.lst ys)/\∃m',m'<m/\W (i+1) m' σ3 (aN H4 D (.lst (ys++[y]))) (ys++[y])))
def qP(own:List Str)(cap:List (Nat×Str))(wi:TI)(g:TG)(te:TE):TE:=λσ H Q=>wi σ H λJ H1=>∀D,H1 D=none->rK J g te (kG own cap σ) H1 D Q
def Nx(n:Nat)(Pv:Nat->St->Hp->List V->Prop)(D:Addr)(i:Nat)(ys:List V)(σ:St)(y:V)(H:Hp):Prop:=
 H D=some (.lst ys)/\∃m,m<n-i/\(m=n-(i+1)/\i+1<=n/\Pv (i+1) σ (aN H D (.lst (ys++[y]))) (ys++[y]))
theorem Es   {D:Addr}{i:Nat}{ys:List V}{σ:St}{y:V}{H:Hp}(h:i<n)(hD:H D=some (.lst ys))(p:Pv (i+1) σ (aN H D (.lst (ys++[y]))) (ys++[y])):Nx n Pv D i ys σ y H:=
 ⟨hD,n-(i+1),by omega,rfl,h,p⟩
theorem Xo  {g:TG}{te:TE}{AQ:St}{H1:Hp}{D:Addr}{Q:VK}(n:Nat)(hn:n<=sizeLine)(Pv:Nat->St->Hp->List V->Prop)(h0:Pv 0 AQ (aN H1 D (.lst [])) [])
  (hl:∀i σ H ys,Pv i σ H ys->ys.length=i/\H D=some (.lst ys))(hgo:∀i σ H ys,i<n->Pv i σ H ys->J.go i H)
  (hs:∀i σ H ys x H2,i<n->Pv i σ H ys->J.yld i H x H2->g x σ H2 λσ3 H3=>te σ3 H3 λy H4=>Nx n Pv D i ys σ3 y H4)
  (hd:∀σ H ys,Pv n σ H ys->J.stop n H/\Q (.ref D) H):rK J g te AQ H1 D Q:=by
 refine⟨λi m σ H ys=>m=n-i/\i<=n/\Pv i σ H ys,⟨n,rfl,cg _,h0⟩,?_⟩
 rintro i m σ H ys ⟨rfl,hi,p⟩
 obtain⟨l1,l2⟩:=hl i _ H _ p;refine⟨l2,?_⟩
 by_cases hlt:i<n
 .exact .inr ⟨hgo i _ H _ hlt p,by omega,λx H2 y=>hs i _ H _ x _ hlt p y⟩
 .grind
section
variable{prog:Program}{w:ah}{A:aj}{R:im->Shared->Prop}{s:Shared}
theorem Dz{elt target iter:ae}{sc:Scope}{pos:ai}{it acc:Value}{env:Env}(I:Nat->Shared->Prop)
  (turn:∀n s,I n s->wpAny (model prog w) A (pyNext it) (λr s1=>match r with
   |none=>R (.ok .next) s1
   |some v=>wpAny (model prog w) A (letOwnedTupleGo target it v) (λ_ s2=>wpAny (model prog w) A (assign target env v) (λ_ s3=>wpAny (model prog w) A (eval elt env)
     (λx s4=>wpAny (model prog w) A (call (.builtin "list.append") [acc,x]) (λ_ s5=>∃m,m<n/\I m s5) (λ_ _=>False) s4) (λ_ _=>False) s3) (λ_ _=>False) s2) (λ_ _=>False) s1) (λ_ _=>False) s)
  (n:Nat)(h:I n s):codeAny (model prog w) A (.compLoop (.ListComp elt [⟨target,iter,[],0⟩] sc pos) 0 it acc env) R s:=by
 refine codeAny_loop rfl I (λn s hI=>?_) n h;refine wpAny_noted ?_;rw[compTurn_list1];refine ag (jp (ag ?_));refine bv (turn n s hI) (λr s1 h1=>?_) λ_ _ z=>z.elim;cases r with
 |none=>exact aq h1
 |some v=>
  refine ag (bv h1 (λ_ s2 h2=>?_) λ_ _ z=>z.elim);refine ag (bv h2 (λ_ s3 h3=>?_) λ_ _ z=>z.elim);refine ag (ag (bv h3 (λx s4 h4=>?_) λ_ _ z=>z.elim));refine ag (bv h4 (λ_ s5 h5=>?_) λ_ _ z=>z.elim);exact aq (aq ⟨rfl,h5⟩)
end
structure gK(X:Cx)(sc:Scope)(own:List Str)(cap:List (Nat×Str)):Prop where
 kind:sc.kind=.function
 names:∀y∈sc.names,y.2=.local->sc.names.lookup y.1=some .local
 nocell:∀y∈sc.names,y.2≠.cell
 free:∀y∈sc.names,y.2=.free->X.env.kindOf y.1=some .cell
 at':∀p∈cap,X.N[p.1]?=some p.2
 cap:∀p∈cap,sc.names.lookup p.2=some .free
section
variable{X:Cx}{sc:Scope}{own:List Str}{cap:List (Nat×Str)}{AL:List (Addr×Obj)}{σ:St}{H:Hp}{s:Shared}
theorem gK.has(k:gK X sc own cap)(ok:X.Ok):∀p∈sc.names,p.2=.free->∃c,X.env.cells.lookup p.1=some c:=λp hp e=>ok.has _ (.inl (k.free p hp e))
theorem Yj{env:Env}:∀{names:List (Str×ir)}{x:Str},env.scope.kind=.function->names.lookup x=some .free->env.kindOf x=some .cell->
  (names.map λ(n,k)=>if(k==ie&&env.scope.kind== .function&&env.kindOf n==some .cell)then(n,ya)else(n,k)).lookup x=some .cell
 |[],x,_,h,_=>by cases h
 |(n,k)::r,x,hk,h,hx=>by
  rw[cn];dsimp only;rw[gp]at h;cases w:x==n with
  |true=>
   rw[w]at h;have e:=by simpa using w
   simp_all
  |false=>
   rw[w]at h;have ih:=@Yj env r x hk h hx
   by_cases c:(k==ie&&env.scope.kind== .function&&env.kindOf n==some .cell)=true
   .rw[if_pos c,gp,w]
    exact ih
   .rw[if_neg c,gp,w]
    exact ih
theorem aF.cmp(k:gK X sc own cap){h4:Heap}{fp:List Addr}{m:Str->AE}{t':Nat}(I:aF X AL σ H s)(hf:∀b∈fp,eR X AL H b)(hlt:∀b∈fp,b<s.heap.objs.size)(jP:h4.Ns s.heap.objs.size m)
  (kp:∀b o,s.heap.get? b=some o->h4.get? b=some o):aF (bW X sc (bZ own cap) s.heap.objs.size s H fp) [] (kG own cap σ) H {s with heap:=h4,toks:=t'}:=by
 have hcl:∀y c,(iU _ _ []).lookup y=some c->X.env.cells.lookup y=some c:=λy c e=>by
  rcases Qd _ [] (k.has I.ok) y c e with z |z
  .cases z
  .exact z
 have nst:∀b∈fp,b∉bP _:=λb hb z=>by
  rcases bw.mp (I.stkSub b z)with e |e
  .exact(hf b hb).2.1 e
  .exact(hf b hb).2.2.1 e
 refine⟨⟨I.ok.mod,k.kind,I.ok.glob,I.ok.blt,ak _,λx y c h1 h2=>I.ok.inj x y c (hcl x c h1) (hcl y c h2),λx hx=>?_,λx c e=>(nomatch e),I.ok.hd,I.ok.frames,.inl rfl,λb hb=>⟨bc (hlt b hb),λx c e=>(hf b hb).2.2.2.2.1 x c (hcl x c e)⟩,
  I.bs,dq I.ok.bsz I.sz,λb o e hb=>?_,nst,I.stack,I.stkFree⟩,rfl,I.bare,Un.kept kp,⟨m,jP,λi x v h1 h2 h3=>?_⟩,λx c e=>?_,I.hok.fresh (ak _),λx c e=>I.freeC x c (hcl x c e),λp hp=>absurd (show p∈[] from hp) (by simp),I.hok.kept kp,?_⟩
 .exact zU _ [] x (.inr (Nj k.nocell hx))
 .rcases(hf b hb).2.2.2.1 with z |z
  .exact I.ok.noex b o e z
  .exact absurd (bj (au (I.ok.bs b o e).1) z) (dz _)
 .have hN:(bZ _ _)[i]?=some x:=h1
  unfold bZ at hN;unfold kG at h2
  by_cases hi:i<own.length
  .rw[fh (by simpa using hi),fm]at h2
   cases e:own[i]?<;>simp_all
  .rw[dg (by simpa using hi),fm,bh]at h2
   rw[dg (by omega),fm]at hN;cases e:cap[i-own.length]? with
   |none=>simp_all
   |some p=>
    rw[e]at h2 hN;have hp:=de e;have hx:=dj hN;have hv:(σ[p.1]?).join=some v:=dj h2;have hv':σ[p.1]?=some (some v):=by
     cases e2:σ[p.1]?<;>simp_all
    have fr:=k.cap p hp;have kc:=k.free _ (js fr) rfl;obtain⟨m0,_,hl⟩:=I.loc;obtain⟨u,ru,lk⟩:=hl p.1 p.2 v (k.at' p hp) hv' (.inr (.inl kc));refine⟨u,ru,?_⟩;rcases lk with⟨k1,_⟩|⟨_,c,ec,cell⟩
    .simp_all
    .rw[<-hx]
     obtain⟨c',ec'⟩:=zU  _ [] p.2 (.inr (js fr));have:=(hcl _ _ ec').symm.trans ec;cases this;obtain⟨o,ho,hd⟩:=cell;exact .inr ⟨.inl (Yj I.ok.kind fr kc),c,ec',o,kp c o ho,hd⟩
 .obtain⟨v,o,ho,hd⟩:=I.cell x c (hcl x c e)
  exact⟨v,o,kp c o ho,hd⟩
 .unfold kG
  show _=(bZ _ _).length;unfold bZ
  simp_all
theorem aF.uncmp  {H3 H':Hp}{N:List Str}{σ':St}{C:Addr}{fp:List Addr}{pl:List (Addr×Obj)}(I:aF X AL σ H s)(hf:∀b∈fp,eR X AL H b)(u:Un (bP X.stack) fp H H3 s.heap s3.heap)(os:s3.os=s.os)
  (J:aF (bW X sc N C s3 H3 fp) pl σ' H' s'):aF X AL σ H' s':=by
 have os':=(show s'.os=s3.os from J.os).trans os;refine I.call'  os' (u.trans J.base) J.hok J.bare λb hb=>?_;obtain⟨_,f1,_,f3,f4,f5⟩:=hf b hb;exact⟨f3,f1,f4,f5⟩
end
section
variable{X:Cx}{sc:Scope}{own:List Str}{cap:List (Nat×Str)}{AL:List (Addr×Obj)}{σ:St}{H:Hp}{s:Shared}{elt target iter:ae}{pos pos':ai}{wi:TI}{g:TG}{te:TE}{Q:VK}
theorem Jm{use:Option (Value->bt Unit)}{Qf:Value->Shared->Prop}(k:gK X sc own cap)(hi:PI X target iter wi)(hc:X.calm=true)
  (hg:∀C AM AN ex,PG (bW X sc (bZ own cap) C AM AN ex) target g)(he:∀C AM AN ex,PE (bW X sc (bZ own cap) C AM AN ex) elt te)(I:aF X AL σ H s)(h:qP own cap wi g te σ H Q)
  (fin:∀D C s' H' m,aF X AL σ H' s'->eR X AL H' C->s'.heap.Ns C m->Q (.ref D) H'->compPost (model X.prog X.w) X.A X.xe use Qf (.ref D) C (.ok .next) s')
  (hs:∀x,foldedSetIterable iter X.env x=pure x):
  wpAny (model X.prog X.w) X.A (comprehension (.ListComp elt [⟨target,iter,[],0⟩] sc pos) sc X.env pos' (newList []) false (eval iter X.env) use) Qf X.xe s:=by
 refine wpAny_comprehension_free (use:=use) rfl hs (Of (k.has I.ok)) k.kind k.names ?_;refine aR (hi AL s σ H _ I h) λv s1 h1=>aR h1 λitv s2 h2=>?_;obtain⟨it,fp,tn,J,H2,e,I2,T,st2,f2,hW⟩:=h2;subst e;refine jw (um k.nocell (λy hy=>nomatch hy) (λh4 jP hsb=>?_) k.kind);have I3:aF X AL σ (aN H2 s2.heap.objs.size (.lst [])) {s2 with heap:=s2.heap.push {cls:=.type "list",data:=.seq ([]:AD).toArray},toks:=s2.toks}:=I2.lnew (ys:=[]) (its:=[]) .nil (cg _);have hD:H2 s2.heap.objs.size=none:=I2.fresh;have ltf:∀b∈fp,b<s2.heap.objs.size:=λb hb=>by
  obtain⟨o,ho,_⟩:=T.obj _ _ st2 b hb;exact au ho
 have f3:∀b∈fp,eR X AL (aN H2 s2.heap.objs.size (.lst [])) b:=λb hb=>⟨by rw[aX (bc (ltf b hb))];exact(f2 b hb).1,(f2 b hb).2⟩;have un:Un (bP X.stack) fp H2 (aN H2 s2.heap.objs.size (.lst [])) s2.heap (s2.heap.push {cls:=.type "list",data:=.seq ([]:AD).toArray}):=Un.laid (λb u q=>ao _ q) (ak _) hD;have kp:=λb o q=>hsb.extBut b o (bc (au q)) (ao _ q);have J0:=I3.cmp (t':=s2.toks+([]:List (Str×Value)).length) k f3 (λb hb=>bj (ltf b hb) (by rw[gw];exact kr _)) jP kp;have stat:∀{H':Hp},(∀b∈fp,H' b=none)->∀b∈fp,eR _ [] H' b:=λhn b hb=>
  ⟨hn b hb,(J0.ok.exf b hb).1,J0.ok.exfs b hb,.inl hb,(J0.ok.exf b hb).2,λp hp=>absurd (show p∈([]:List (Addr×Obj)) from hp) (by simp)⟩
 have st4:tn 0 h4:=T.keep _ _ _ st2 λb hb o q=>kp b o (ao _ q);have fr0:∀b∈fp,(aN H2 s2.heap.objs.size (.lst [])) b=none:=λb hb=>(f3 b hb).1;have loop:codeAny (model X.prog X.w) X.A (.compLoop (.ListComp elt [⟨target,iter,[],0⟩] sc pos) 0 (.ref it) (.ref s2.heap.objs.size) (compEnvC sc (iU X.env sc.names []) (s2.heap.push {cls:=.type "list",data:=.seq ([]:AD).toArray}).objs.size X.env))
   (compPost (model X.prog X.w) X.A X.xe use Qf (.ref s2.heap.objs.size) (s2.heap.push {cls:=.type "list",data:=.seq ([]:AD).toArray}).objs.size) {s2 with heap:=h4,toks:=s2.toks+([]:List (Str×Value)).length}:=by
  obtain⟨W,⟨m0,w0⟩,turn⟩:=hW s2.heap.objs.size hD;refine Dz (λn s'=>∃i σ' H' ys,aF _ [] σ' H' s'/\tn i s'.heap/\(∀b∈fp,H' b=none)/\W i n σ' H' ys) ?_ m0
   ⟨0,_,_,[],J0,st4,fr0,w0⟩
  rintro n s5 ⟨i,σ5,H5,ys,I5,st5,fr5,w5⟩
  obtain⟨eA,w5⟩:=turn i n σ5 H5 ys w5;rcases w5 with⟨stop,qn⟩|⟨go,hlt,step⟩
  .refine aR (T.done (bW X sc (bZ own cap) (s2.heap.push {cls:=.type "list",data:=.seq ([]:AD).toArray}).objs.size {s2 with heap:=s2.heap.push {cls:=.type "list",data:=.seq ([]:AD).toArray},toks:=s2.toks} (aN H2 s2.heap.objs.size (.lst [])) fp) rfl rfl rfl hc i [] s5 σ5 H5 _ I5 (stat fr5) st5 stop) ?_
   rintro r s6 ⟨hr,I6⟩
   subst hr;obtain⟨m,hn,_⟩:=id I6.loc;exact fin _ _ s6 H5 m (I2.uncmp (s3:={s2 with heap:=s2.heap.push {cls:=.type "list",data:=.seq ([]:AD).toArray},toks:=s2.toks}) f2 un rfl I6) (I3.fpOk (ak _) I6.free) hn qn
  .refine aR (T.item (bW X sc (bZ own cap) (s2.heap.push {cls:=.type "list",data:=.seq ([]:AD).toArray}).objs.size {s2 with heap:=s2.heap.push {cls:=.type "list",data:=.seq ([]:AD).toArray},toks:=s2.toks} (aN H2 s2.heap.objs.size (.lst [])) fp) rfl rfl rfl hc i [] s5 σ5 H5 _ I5 (stat fr5) st5 go) ?_
   rintro r s6 ⟨u,hr,h6⟩
   subst hr;refine aR h6 ?_
   rintro _ s7 ⟨x,H7,I7,r7,y7,st7,fr7⟩
   have I7':=I7.pinned (stat fr7) (T.obj _ _ st7);refine aR (hg _ _ _ _ _ s7 σ5 H7 x u _ I7' r7 (step x H7 y7)) ?_
   rintro _ s8 ⟨σ8,H8,I8,q8⟩
   refine aR (he _ _ _ _ _ s8 σ8 H8 _ I8 q8) ?_
   rintro v9 s9 ⟨y,H9,I9,r9,eK,m',hm,w9⟩
   refine aR (vW _ s9 σ8 H9 (.ref s2.heap.objs.size) [y] (.ref s2.heap.objs.size) [v9] (λ_ H'=>H'=aN H9 s2.heap.objs.size (.lst (ys++[y]))) I9 rfl (.cons r9 .nil) ⟨_,ys,y,rfl,rfl,eK,hlt,rfl⟩) ?_
   rintro _ s10 ⟨_,H10,I10,_,q10⟩
   subst q10;refine⟨m',hm,i+1,σ8,_,_,I10.unpinned,T.keep _ _ _ st7 λb hb o q=>(I10.pin (b,o) (ck _ (ck _ (oG hb q)))).1,λb hb=>?_,w9⟩;obtain⟨o,q,d⟩:=T.obj _ _ st7 b hb;exact(I10.pin (b,o) (ck _ (ck _ (oG hb q)))).2.1
 exact uo loop (T.self _ 0 _ _ _ st4 loop)
theorem R3(k:gK X sc own cap)(hi:PI X target iter wi)(hc:X.calm=true)
  (hg:∀C AM AN ex,PG (bW X sc (bZ own cap) C AM AN ex) target g)(he:∀C AM AN ex,PE (bW X sc (bZ own cap) C AM AN ex) elt te)
  (hs:∀x,foldedSetIterable iter X.env x=pure x:=by intro _;rfl):PE X (.ListComp elt [⟨target,iter,[],0⟩] sc pos) (qP own cap wi g te):=by
 intro AL s σ H Q I h;refine Jm  k hi hc hg he I h (λD C s' H' m I' fC hn q=>?_) hs;refine⟨m,hn,λh' sb=>⟨.ref D,H',?_,rfl,q⟩⟩;obtain⟨f0,f1,f2,f3,f4,f5⟩:=fC;exact I'.turned  (λb o hb e=>(sb.2 b hb).trans e) f0 f1 f3 f4 f5
theorem Zo   {py spos:ai}(hN:X.N.Nodup)(hx:X.N[i]?=some x)(hl:iJ X.env.scope x)(k:gK X sc own cap)(hi:PI X target iter wi)(hc:X.calm=true)
  (hg:∀C AM AN ex,PG (bW X sc (bZ own cap) C AM AN ex) target g)(he:∀C AM AN ex,PE (bW X sc (bZ own cap) C AM AN ex) elt te)
  (hs:∀x,foldedSetIterable iter X.env x=pure x:=by intro _;rfl)(hsw:swapsWith (.ListComp elt [⟨target,iter,[],0⟩] sc pos) (some (.Name x py)) spos.line X.env=pure true:=by rfl)
  (hf:X.fn x=true\/X.env.scope.names.lookup x=some .local:=by first |exact .inl rfl |exact .inr rfl |assumption):
  PS X (.Assign [.Name x py] (.ListComp elt [⟨target,iter,[],0⟩] sc pos) spos) (Jc (qP own cap wi g te) (Xa i)):=by
 intro AL s σ H D I h;rw[yb _ _ _ _ hsw];refine ag (jp (ag ?_));refine ag (aR (Jm   k hi hc hg he I h (λB C s' H' m I' fC hn q=>?_) hs) λ_ s' hq=>aq (aq hq));obtain⟨o,es,ep,ho,hd,r⟩:=hn;obtain⟨f0,f1,f2,f3,f4,f5⟩:=fC;have I'':aF X (AL++[(C,o)]) σ H' s':=I'.pins_of λp hp=>(cf.mp hp).elim (λz=>I'.pin p (ck _ z)) λz=>by
  have e:=by simpa using z
  subst e;exact⟨ho,f0,f1,f2,λv z=>by rw[hd]at z;cases z⟩
 refine sr (tT I'' hN hx hl (v:=.ref B) rfl (λs2 I2=>?_) hf);have pC:=I2.pin (C,o) (by simp);refine⟨m,⟨o,es,ep,pC.1,hd,r⟩,λh' sb=>⟨_,H',?_,q⟩⟩;exact(I2.unpinned).turned  (λb o hb e=>(sb.2 b hb).trans e) f0 f1 f3 f4 f5
end
section
variable{X:Cx}
theorem E5(hc:X.calm=true):fX X (.builtin "all") (λxs H Q=>∃(a:Addr)(bs:List Bool),xs=[.ref a]/\bL X.K H a (bs.map V.bl)/\Q (.bl (bs.all id)) H):=by
 intro AL s σ H xs us Q I r h;obtain⟨a,bs,rfl,hq,q⟩:=h;obtain⟨u,rfl,ru⟩:=gJ r;cases ru;obtain⟨its,rv,pl,hz⟩:=I.list hq;have hl:=by
  have:=rv.length
  rwa[bh]at this
 refine call_all_walk (pb pl.isList ?_);have ha:a<s.heap.objs.size:=by
  obtain⟨o,ho,_⟩:=pl.isList;exact au ho
 refine⟨_,_,_,_,_,_,λi=>bs.getD i true,rfl,Walks.list  (w:=X.w) (A:=X.A.in1) (show X.A.in1.handled=none from I.ok.hd hc) s.heap.objs.size a (bc ha) its.toArray,⟨⟨_,bn _ rfl,rfl,rfl⟩,Heap.IsList.at pl.isList λo e=>ao _ e⟩,λi v s' Q' E' hv hQ=>?_,λh' tk kp=>?_⟩
 .have hv':=by simpa using hv
  have hi:i<bs.length:=by
   grind
  obtain⟨u,hu,ru⟩:=rv.get (i:=i)  (by rw[fm,ba hi];rfl);rw[hv']at hu;cases hu;cases(show v=nv bs[i] from ru);have e:bs.getD i true=bs[i]:=by simp[cw,hi]
  have hQ':Q' (bs.getD i true) s':=hQ;rw[e]at hQ';exact jd hQ'
 .have e:(ee its.toArray.size).all (λi=>bs.getD i true)=bs.all id:=by
   rw[ax,<-hl,uq,jh,jh];constructor
   .intro z b hb
    obtain⟨i,hi,rfl⟩:=List.mem_iff_getElem.mp hb;have:=z i (by simpa using hi);simpa[cw,hi]using this
   .intro z i hi
    have hi':i<bs.length:=by simpa using hi
    have:=z bs[i] (mn hi');simpa[cw,hi']using this
  rw[e];have I1:aF X AL σ H {s with heap:=s.heap.push {cls:=.type "list_iterator",data:=.fields #[.ref a,.int 0 0]},toks:=s.toks}:=I.kept λb o z=>ao _ z;have fp:=I.fpOk (ak _) (I.hok.fresh (ak _));obtain⟨f0,f1,f2,f3,f4,f5⟩:=fp;exact⟨.bl (bs.all id),H,I1.turned (λb o hb z=>kp b o (by simpa using hb) z) f0 f1 f3 f4 f5,rfl,q⟩
end
section
variable{prog:Program}{w:ah}{A:aj}{E:Value->Shared->Prop}{s:Shared}
theorem Ux   {items:Array Value}{x:Value}{Q:Value->Shared->Prop}(git:s.heap.IsTupleIter it t i)(gt:s.heap.IsTuple t items)(gx:items[i]?=some x)
  (gQ:∀h',h'.IsTupleIter it t (i+1)->eg it s.heap h'->Q x {s with heap:=h'}):wpAny (model prog w) A (jz (.ref it)) Q E s:=by
 obtain⟨o,go,gc,gd⟩:=id git;obtain⟨ol,gol,_,nl,gdl⟩:=gt;refine ag (mj  git.typeIs pf (ju pf git.typeIs yc ?_ (yd _)));show wpAny _ _ (field (.ref it) 0 >>= _) _ _ s;refine ag (dy go gd (x:=.ref t) rfl ?_);refine ag (dy go gd (x:=.int i 0) rfl ?_);refine ag (iu gol gdl ?_);simp only[ye,gx];refine ag (ur go gd (by simp) (aq ⟨_,rfl,aq (gQ _ ?_ (yf ..))⟩));refine⟨_,uf _ go (yg (ph gd _)),(Obj.cls_mapFields ..).trans gc,?_⟩;rw[ph gd];simp[rawInt]
theorem Yv{it t:Addr}{i:Nat}{items:Array Value}{Q:Value->Shared->Prop}(hh:A.handled=none)(git:s.heap.IsTupleIter it t i)(gt:s.heap.IsTuple t items)(gx:items[i]?=none)
  (gE:∀h' e,Heap.ExtBut it s.heap h'->(∃o,h'.get? e=some o/\o.cls=.type "StopIteration")->E (.ref e) {s with heap:=h'}):wpAny (model prog w) A (jz (.ref it)) Q E s:=by
 obtain⟨o,go,gc,gd⟩:=id git;obtain⟨ol,gol,_,nl,gdl⟩:=gt;unfold jz;refine ag (mj (name:=du "__next__") git.typeIs pf (ju pf git.typeIs yc ?_ (yd _)));show wpAny _ _ (field (.ref it) 0 >>= _) _ _ s;refine ag (dy go gd (x:=.ref t) rfl ?_);show wpAny _ _ (if(az t==bb)=true then _ else _) _ _ s;show wpAny _ _ (field (.ref it) 1 >>= _) _ _ s;refine ag (dy go gd (x:=.int i 0) rfl ?_);show wpAny _ _ (seqItems? (.ref t) >>= _) _ _ s;refine ag (iu gol gdl ?_);simp only[ye,gx]
 first
  |grind
  |refine ag (pj (ag (ur go gd (by simp) ?_)))
 show wpAny _ _ (newExc (.type "StopIteration") [] >>= _) _ _ _;refine ag ?_;simp only[newExc,newTuple];refine ag (jw ?_ (by size_fits));refine ag (m:=firstArgMember _ _) (ut (a:=bb) (by first |rfl |(simp only[firstArgMember];rfl)) ?_)
 refine jw ?_ (by size_fits);simp only[raiseNew];refine ag (wpAny_handled ?_)
 first
  |rw[show A.in1.handled=none from hh]
  |rw[hh]
 refine ag (aq (wpAny_throw ?_));exact gE _ _ (((yf ..).extBut.push _).push _) ⟨_,bn _ rfl,rfl⟩
end
theorem J3   {A:aj}(hh:A.handled=none)(it t:Addr)(hne:t≠it)(items:Array Value):
  ij prog w A it [it,t] items.size (λi v=>items[i]?=some v) (λi h=>h.IsTupleIter it t i/\h.IsTuple t items) where
 live:=λ_ _ st=>let⟨o,ho,_⟩:=st.1;⟨o,ho⟩
 frame:=λ_ _ _ st hk=>⟨let⟨o,ho,r⟩:=st.1;⟨o,hk _ (by simp) o ho,r⟩,let⟨o,ho,r⟩:=st.2;⟨o,hk t (by simp) o ho,r⟩⟩
 item:=λi s Q E hi st hQ=>by
  refine Ux st.1 st.2 (x:=items[i]) (by simp[hi]) λh' hit' hs'=>?_;exact hQ _ _ _ (by simp[hi]) ⟨hit',st.2.extBut hs'.extBut hne⟩ hs'
 done:=λs Q E st hE=>Yv hh st.1 st.2 (by simp) hE
structure zC(z TI TO i1 i2:Addr)(fp1 fp2:List Addr):Prop where
 tiz:TI≠z
 toz:TO≠z
 tito:TI≠TO
 ti1:TI≠i1
 ti2:TI≠i2
 z1:z∉fp1
 z2:z∉fp2
 to1:TO∉fp1
 to2:TO∉fp2
 i12:i1∉fp2
 i21:i2∉fp1
 m1:i1∈fp1
 m2:i2∈fp2
section
variable{prog:Program}{w:ah}{A:aj}{E:Value->Shared->Prop}{s:Shared}{z TI TO i1 i2:Addr}{fp1 fp2:List Addr}{n1 n2 i:Nat}{P1 P2:Nat->Value->Prop}{S1 S2:Nat->Heap->Prop}{a b:Value}
theorem D5{Q:Value->Shared->Prop}(D1:ij prog w A i1 fp1 n1 P1 S1)(D2:ij prog w A i2 fp2 n2 P2 S2)(ap:zC z TI TO i1 i2 fp1 fp2)(gz:fi s.heap z TI TO .none)(gTI:cy s.heap TI (.ref i1) (.ref i2))(gTO:cy s.heap TO a b)
  (g1:S1 i s.heap)(g2:S2 i s.heap)(l1:i<n1)(l2:i<n2)
  (gQ:∀h' tk x y,P1 i x->P2 i y->fi h' z TI TO (rawInt s.heap.objs.size)->cy h' TO x y->S1 (i+1) h'->S2 (i+1) h'->cy h' s.heap.objs.size x y->
   (∀c o,c≠z->c≠TO->c≠i1->c≠i2->s.heap.get? c=some o->h'.get? c=some o)->Q (.ref s.heap.objs.size) {s with heap:=h',toks:=tk}):
  wpAny (model prog w) A (Builtin.«zip.__next__» ⟨[.ref z],[]⟩) (λfin s'=>∃v,fin=.done (.ret v)/\Q v s') E s:=by
 have nz1:i1≠z:=λq=>ap.z1 (q▸ap.m1);have nz2:i2≠z:=λq=>ap.z2 (q▸ap.m2);have nt1:TO≠i1:=λq=>ap.to1 (q▸ap.m1);have nt2:TO≠i2:=λq=>ap.to2 (q▸ap.m2);show wpAny _ _ (field (.ref z) 2 >>= _) _ _ _;refine ag (dy gz rfl (x:=.bool false) rfl ?_);show wpAny _ _ (field (.ref z) 3 >>= _) _ _ _;refine ag (dy gz rfl (x:=.ref TI) rfl ?_);refine ag (iu gTI rfl ?_);show wpAny _ _ (pk (.ref z) >>= _) _ _ _;refine ag ?_;unfold pk;refine ag (dy gz rfl (x:=.none) rfl (aq ?_));simp only[if_true];refine ag (pj ?_);refine ag (dy gz rfl (x:=.ref TO) rfl ?_);refine ag (la gz (by simp) λh1 gz1 s1=>?_)
 replace gz1:fi h1 z TI TO .ellipsis:=gz1
 refine ag ?_;simp only[yh,yi,ig,yj];refine ag (ag (pq ?_));show wpAny _ _ (jz (.ref i1) >>= _) _ _ _;refine ag (D1.item i _ _ _ l1 (D1.frame _ _ _ g1 λc hc o q=>s1.extBut c o (λe=>ap.z1 (e▸hc)) q) λx h2 tk2 px g1' s2=>aq ?_);have gTO2:cy h2 TO a b:=s2.extBut _ _ nt1 (s1.extBut _ _ ap.toz gTO);refine ag (iu gTO2 rfl ?_);refine ag (uu (s:={s with heap:=h2,toks:=tk2}) gTO2 λh3 gTO3 s3=>?_)
 replace gTO3:cy h3 TO x b:=gTO3
 replace s3:eg TO h2 h3:=s3
 refine ag (uv (aq ?_));refine ag (ag (pq ?_));show wpAny _ _ (jz (.ref i2) >>= _) _ _ _;have g2':S2 i h3:=D2.frame _ _ _ g2 λc hc o q=>s3.extBut c o (λe=>ap.to2 (e▸hc)) (s2.extBut c o (λe=>ap.i12 (e▸hc)) (s1.extBut c o (λe=>ap.z2 (e▸hc)) q));refine ag (D2.item i _ _ _ l2 g2' λy h4 tk4 py g2'' s4=>aq ?_)
 replace s4:eg i2 h3 h4:=s4
 have gTO4:cy h4 TO x b:=s4.extBut _ _ nt2 gTO3;refine ag (iu gTO4 rfl ?_);refine ag (uu (s:={s with heap:=h4,toks:=tk4}) gTO4 λh5 gTO5 s5=>?_)
 replace gTO5:cy h5 TO x y:=gTO5
 replace s5:eg TO h4 h5:=s5
 refine ag (uv (aq (aq ?_)));refine ag (iu gTO5 rfl ?_);refine ag (uw ?_);have hsz:h5.objs.size=s.heap.objs.size:=by rw[s5.1,s4.1,s3.1,s2.1,s1.1]
 have gz5:fi h5 z TI TO .ellipsis:=s5.extBut _ _ ap.toz.symm (s4.extBut _ _ nz2.symm (s3.extBut _ _ ap.toz.symm (s2.extBut _ _ nz1.symm gz1)));have k5:∀c o,c≠z->c≠TO->c≠i1->c≠i2->s.heap.get? c=some o->h5.get? c=some o:=λc o c1 c2 c3 c4 q=>s5.extBut _ _ c2 (s4.extBut _ _ c4 (s3.extBut _ _ c2 (s2.extBut _ _ c3 (s1.extBut _ _ c1 q))));have g15:S1 (i+1) h5:=D1.frame _ _ _ g1' λc hc o q=>s5.extBut c o (λe=>ap.to1 (e▸hc)) (s4.extBut c o (λe=>ap.i21 (e▸hc)) (s3.extBut c o (λe=>ap.to1 (e▸hc)) q));have g25:S2 (i+1) h5:=D2.frame _ _ _ g2'' λc hc o q=>s5.extBut c o (λe=>ap.to2 (e▸hc)) q;have zlt:z<h5.objs.size:=au gz5;show wpAny _ _ (yk (.ref z) (.ref h5.objs.size) >>= _) _ _ _;refine ag ?_;unfold yk;have gz6:fi (h5.push {cls:=.type "tuple",data:=.seq #[x,y]}) z TI TO .ellipsis:=ao _ gz5;refine ag (la gz6 (by simp) λh7 gz7 s7=>?_)
 replace gz7:fi h7 z TI TO (rawInt h5.objs.size):=gz7
 refine la gz7 (by simp) λh8 gz8 s8=>?_
 replace gz8:fi h8 z TI TO (rawInt h5.objs.size):=gz8
 have up:∀c o,c≠z->h5.get? c=some o->h8.get? c=some o:=λc o c1 q=>s8.extBut _ _ c1 (s7.extBut _ _ c1 (ao _ q));have gT8:cy h8 h5.objs.size x y:=s8.extBut _ _ (jr zlt) (s7.extBut _ _ (jr zlt) (bn _ rfl));rw[hsz]at gz8 gT8;refine aq ⟨_,rfl,?_⟩;show Q (.ref h5.objs.size) _;rw[hsz];exact gQ h8 _ x y px py gz8 (up _ _ ap.toz gTO5) (D1.frame _ _ _ g15 λc hc o q=>up c o (λe=>ap.z1 (e▸hc)) q) (D2.frame _ _ _ g25 λc hc o q=>up c o (λe=>ap.z2 (e▸hc)) q) gT8 λc o c1 c2 c3 c4 q=>up c o c1 (k5 c o c1 c2 c3 c4 q)
theorem Cz{Q:Fin->Shared->Prop}(D1:ij prog w A i1 fp1 n1 P1 S1)(D2:ij prog w A i2 fp2 n2 P2 S2)(ap:zC z TI TO i1 i2 fp1 fp2)(gz:fi s.heap z TI TO .none)(gTI:cy s.heap TI (.ref i1) (.ref i2))(gTO:cy s.heap TO a b)
  (g1:S1 i s.heap)(g2:S2 i s.heap)(fin:i=n1\/(i<n1/\i=n2))
  (gE:∀h' tk e,(∀c o,c≠z->c≠TO->c≠i1->c≠i2->s.heap.get? c=some o->h'.get? c=some o)->(∃o,h'.get? e=some o/\o.cls=.type "StopIteration")->E (.ref e) {s with heap:=h',toks:=tk}):
  wpAny (model prog w) A (Builtin.«zip.__next__» ⟨[.ref z],[]⟩) Q E s:=by
 have nz1:i1≠z:=λq=>ap.z1 (q▸ap.m1);have nz2:i2≠z:=λq=>ap.z2 (q▸ap.m2);have nt1:TO≠i1:=λq=>ap.to1 (q▸ap.m1);have nt2:TO≠i2:=λq=>ap.to2 (q▸ap.m2);show wpAny _ _ (field (.ref z) 2 >>= _) _ _ _;refine ag (dy gz rfl (x:=.bool false) rfl ?_);show wpAny _ _ (field (.ref z) 3 >>= _) _ _ _;refine ag (dy gz rfl (x:=.ref TI) rfl ?_);refine ag (iu gTI rfl ?_);show wpAny _ _ (pk (.ref z) >>= _) _ _ _;refine ag ?_;unfold pk;refine ag (dy gz rfl (x:=.none) rfl (aq ?_));simp only[if_true];refine ag (pj ?_);refine ag (dy gz rfl (x:=.ref TO) rfl ?_);refine ag (la gz (by simp) λh1 gz1 s1=>?_)
 replace gz1:fi h1 z TI TO .ellipsis:=gz1
 refine ag ?_;simp only[yh,yi,ig,yj];refine ag (ag (pq ?_));show wpAny _ _ (jz (.ref i1) >>= _) _ _ _;have g1':S1 i h1:=D1.frame _ _ _ g1 λc hc o q=>s1.extBut c o (λe=>ap.z1 (e▸hc)) q;rcases fin with e1 |⟨l1,e2⟩
 .subst e1
  refine ag (D1.done _ _ _ g1' λh2 e s2 he=>?_);obtain⟨oe,hoe,hce⟩:=he;have gz2:fi h2 z TI TO .ellipsis:=s2 _ _ nz1.symm gz1;have hez:e≠z:=λq=>by
   subst q;rw[gz2]at hoe;cases hoe;simp at hce
  refine la (s:={s with heap:=h2}) gz2 (by simp) λh3 _ s3=>?_;exact gE h3 _ e (λc o c1 _ c3 _ q=>s3.extBut _ _ c1 (s2 _ _ c3 (s1.extBut _ _ c1 q))) ⟨oe,s3.extBut _ _ hez hoe,hce⟩
 .subst e2
  refine ag (D1.item i _ _ _ l1 g1' λx h2 tk2 px g1'' s2=>aq ?_);have gTO2:cy h2 TO a b:=s2.extBut _ _ nt1 (s1.extBut _ _ ap.toz gTO);refine ag (iu gTO2 rfl ?_);refine ag (uu (s:={s with heap:=h2,toks:=tk2}) gTO2 λh3 gTO3 s3=>?_)
  replace s3:eg TO h2 h3:=s3
  refine ag (uv (aq ?_));refine ag (ag (pq ?_));show wpAny _ _ (jz (.ref i2) >>= _) _ _ _;have g2':S2 i h3:=D2.frame _ _ _ g2 λc hc o q=>s3.extBut c o (λe=>ap.to2 (e▸hc)) (s2.extBut c o (λe=>ap.i12 (e▸hc)) (s1.extBut c o (λe=>ap.z2 (e▸hc)) q));refine ag (D2.done _ _ _ g2' λh4 e s4 he=>?_)
  replace s4:Heap.ExtBut i2 h3 h4:=s4
  obtain⟨oe,hoe,hce⟩:=he;have gz4:fi h4 z TI TO .ellipsis:=s4 _ _ nz2.symm (s3.extBut _ _ ap.toz.symm (s2.extBut _ _ nz1.symm gz1));have hez:e≠z:=λq=>by
   subst q;rw[gz4]at hoe;cases hoe;simp at hce
  refine la (s:={s with heap:=h4,toks:=tk2}) gz4 (by simp) λh5 _ s5=>?_;exact gE h5 _ e (λc o c1 c2 c3 c4 q=>s5.extBut _ _ c1 (s4 _ _ c4 (s3.extBut _ _ c2 (s2.extBut _ _ c3 (s1.extBut _ _ c1 q))))) ⟨oe,s5.extBut _ _ hez hoe,hce⟩
theorem Qx  (D1:ij prog w A.in1 i1 fp1 n1 P1 S1)(D2:ij prog w A.in1 i2 fp2 n2 P2 S2)(ap:zC z TI TO i1 i2 fp1 fp2)(gz:fi s.heap z TI TO .none)(gTI:cy s.heap TI (.ref i1) (.ref i2))(gTO:cy s.heap TO a b)
  (g1:S1 i s.heap)(g2:S2 i s.heap)(l1:i<n1)(l2:i<n2)
  (gQ:∀h' tk x y,P1 i x->P2 i y->fi h' z TI TO (rawInt s.heap.objs.size)->cy h' TO x y->S1 (i+1) h'->S2 (i+1) h'->cy h' s.heap.objs.size x y->
   (∀c o,c≠z->c≠TO->c≠i1->c≠i2->s.heap.get? c=some o->h'.get? c=some o)->Q (some (.ref s.heap.objs.size)) {s with heap:=h',toks:=tk}):
  wpAny (model prog w) A (pyNext (.ref z)) Q E s:=by
 have gT:s.TypeIs (.ref z) _:=⟨_,gz,rfl⟩;refine ag (mq (mj  gT pr (ju pr gT yl ?_ (ym _))));exact D5 D1 D2 ap gz gTI gTO g1 g2 l1 l2 λh' tk x y p1 p2 e1 e2 e3 e4 e5 e6=>aq (gQ h' tk x y p1 p2 e1 e2 e3 e4 e5 e6)
theorem Rv  (D1:ij prog w A.in1 i1 fp1 n1 P1 S1)(D2:ij prog w A.in1 i2 fp2 n2 P2 S2)(ap:zC z TI TO i1 i2 fp1 fp2)(gz:fi s.heap z TI TO .none)(gTI:cy s.heap TI (.ref i1) (.ref i2))(gTO:cy s.heap TO a b)
  (g1:S1 i s.heap)(g2:S2 i s.heap)(fin:i=n1\/(i<n1/\i=n2))
  (gQ:∀h' tk,(∀c o,c≠z->c≠TO->c≠i1->c≠i2->s.heap.get? c=some o->h'.get? c=some o)->Q none {s with heap:=h',toks:=tk}):wpAny (model prog w) A (pyNext (.ref z)) Q E s:=by
 have gT:s.TypeIs (.ref z) _:=⟨_,gz,rfl⟩;refine ag (mq (mj  gT pr (ju pr gT yl ?_ (ym _))));refine Cz D1 D2 ap gz gTI gTO g1 g2 fin λh' tk e hk he=>?_;obtain⟨o,ho,hc⟩:=he;refine ag (wpAny_isInstance   ⟨o,ho,hc⟩ isSubtype_stop ?_);exact aq (gQ _ _ hk)
end
abbrev Ac(h:Heap)(o1:Obj):Heap:=h.push o1
abbrev Fc(h:Heap)(o1 o2:Obj):Heap:=(Ac h o1).push o2
abbrev Dc(h:Heap)(o1 o2:Obj):Heap:=(Fc h o1 o2).push {cls:=.type "tuple",data:=.seq #[.ref h.objs.size,.ref (Ac h o1).objs.size]}
abbrev Ob(h:Heap)(o1 o2:Obj):Heap:=(Dc h o1 o2).push {cls:=.type "tuple",data:=.seq #[.none,.none]}
abbrev vG(h:Heap)(o1 o2:Obj):Heap:=(Ob h o1 o2).push {cls:=.type "zip",data:=.fields #[.none,.bool false,.bool false,.ref (Fc h o1 o2).objs.size,.ref (Dc h o1 o2).objs.size]}
def yP(l:Addr)(o:Obj)(G:Heap->Prop):Prop:=
 ∀(prog:Program)(w:ah)(A:aj)(E:Value->Shared->Prop)(s:Shared)(Q:Value->Shared->Prop),G s.heap->Q (.ref s.heap.objs.size) {s with heap:=s.heap.push o}->wpAny (model prog w) A (pyIter (.ref l)) Q E s
theorem Zz(l1 l2:Addr)(o1 o2:Obj)(G1 G2:Heap->Prop)(p1:yP l1 o1 G1)(p2:yP l2 o2 G2)(k2:∀h,G2 h->G2 (h.push o1)):
  Meets (Builtin.«zip.__new__» ⟨[.type "zip",.ref l1,.ref l2],[]⟩) (λ_ R s=>G1 s.heap/\G2 s.heap/\R (.ok (.ret (.ref (Ob s.heap o1 o2).objs.size))) {s with heap:=vG s.heap o1 o2}):=
 .of_wp λprog w A R s h=>by
  obtain⟨hp,g,d,tk,os⟩:=s;obtain⟨g1,g2,h⟩:=h;have hsub:=sub_zip;have q1:=λ(A':aj) (E':Value->Shared->Prop) (Q':Value->Shared->Prop)=>p1 prog w A' E' ⟨hp,g,d,tk,os⟩ Q' g1;have q2:=λ(A':aj) (E':Value->Shared->Prop) (Q':Value->Shared->Prop)=>p2 prog w A' E' ⟨hp.push o1,g,d,tk,os⟩ Q' (k2 _ g2)
  wp_walk using q1 _ _ _,q2 _ _ _
  exact⟨_,rfl,h⟩
theorem Mw  {w:ah}{A:aj}{E:Value->Shared->Prop}{s:Shared}{l1 l2:Addr}{o1 o2:Obj}{G1 G2:Heap->Prop}{Q:Value->Shared->Prop}(p1:yP l1 o1 G1)(p2:yP l2 o2 G2)(k2:∀h,G2 h->G2 (h.push o1))(g1:G1 s.heap)(g2:G2 s.heap)
  (f1:o1.isFreed=false)(f2:o2.isFreed=false)
  (h:∀h',fi h' (s.heap.objs.size+4) (s.heap.objs.size+2) (s.heap.objs.size+3) .none->cy h' (s.heap.objs.size+2) (.ref s.heap.objs.size) (.ref (s.heap.objs.size+1))->cy h' (s.heap.objs.size+3) .none .none->
   h'.get? s.heap.objs.size=some o1->h'.get? (s.heap.objs.size+1)=some o2->(∀c o,s.heap.get? c=some o->h'.get? c=some o)->Q (.ref (s.heap.objs.size+4)) {s with heap:=h'}):
  wpAny (model prog w) A (call (.type "zip") [.ref l1,.ref l2]) Q E s:=by
 refine callType_new F.called_zip (by decide) (F.typeCall_zip_2 _ _) (F.newCall_zip_2 _ _) (λobj=>F.args_object_init_3 obj _ _) F.entry_zip_new (Zz l1 l2 o1 o2 G1 G2 p1 p2 k2) ⟨g1,g2,?_⟩;have e1:(Ac s.heap o1).objs.size=s.heap.objs.size+1:=gw ..;have e2:(Fc s.heap o1 o2).objs.size=s.heap.objs.size+2:=by rw[gw,e1]
 have e3:(Dc s.heap o1 o2).objs.size=s.heap.objs.size+3:=by rw[gw,e2]
 have e4:(Ob s.heap o1 o2).objs.size=s.heap.objs.size+4:=by rw[gw,e3]
 have r5:(vG s.heap o1 o2).get? (Ob s.heap o1 o2).objs.size=some _:=bn _ rfl;have r4:(vG s.heap o1 o2).get? (Dc s.heap o1 o2).objs.size=some _:=ao _ (bn _ rfl);have r3:(vG s.heap o1 o2).get? (Fc s.heap o1 o2).objs.size=some _:=ao _ (ao _ (bn _ rfl));have r2:(vG s.heap o1 o2).get? (Ac s.heap o1).objs.size=some o2:=ao _ (ao _ (ao _ (bn _ f2)));have r1:(vG s.heap o1 o2).get? s.heap.objs.size=some o1:=ao _ (ao _ (ao _ (ao _ (bn _ f1))));show _/\_;rw[e2,e3,e4]at r5;rw[e1,e2]at r3;rw[e3]at r4;rw[e1]at r2;rw[e4];exact⟨⟨_,r5,rfl⟩,h _ r5 r3 r4 r1 r2 λc o q=>ao _ (ao _ (ao _ (ao _ (ao _ q))))⟩
def jN(f:Bool)(K:aa)(H:Hp)(a:Addr)(xs:List V):Prop:=match f with
 |true=>cJ K H a xs
 |false=>bL K H a xs
def oA(f:Bool)(it a:Addr)(i:Nat)(h:Heap):Prop:=match f with
 |true=>h.IsTupleIter it a i
 |false=>h.IsListIter it a i
def vM(f:Bool)(a:Addr)(items:Array Value)(h:Heap):Prop:=match f with
 |true=>h.IsTuple a items
 |false=>h.IsList a items
def Sh(f:Bool)(a:Addr):Obj:=match f with
 |true=>{cls:=.type "tuple_iterator",data:=.fields #[.ref a,.int 0 0]}
 |false=>{cls:=.type "list_iterator",data:=.fields #[.ref a,.int 0 0]}
section
variable{X:Cx}{AL:List (Addr×Obj)}{σ:St}{H:Hp}{s:Shared}{a:Addr}{xs ys:List V}{f:Bool}
theorem aF.seqF(I:aF X AL σ H s)(h:jN f X.K H a xs):∃its:AD,aS xs its/\vM f a its.toArray s.heap/\xs.length<=sizeLine:=by
 cases f with
 |true=>
  obtain⟨its,r,p,z⟩:=I.tuple h;exact⟨its,r,p,z⟩
 |false=>
  obtain⟨its,r,p,z⟩:=I.list h;exact⟨its,r,p.isList,z⟩
theorem aF.seqF_inj(I:aF X AL σ H s)(h:jN f X.K H a xs)(h':jN f X.K H a ys):xs=ys:=by
 cases f with
 |true=>exact I.tuple_inj h h'
 |false=>exact I.list_inj h h'
theorem aF.apart  (I:aF X AL σ H s)(fb:eR X AL H b)(h:jN f X.K H a xs):a≠b:=by
 have viaK:∀{o:Obj},X.K.lookup a=some o->a≠b:=λ{o} q e=>by
  have hb:=e▸I.ok.mod.kin a o q;rcases fb.2.2.2.1 with z |z
  .exact I.ok.noex b o hb z
  .exact absurd (bj (au (I.ok.bs b o hb).1) z) (dz _)
 cases f with
 |true=>
  rcases h with(h |⟨o,h⟩) |⟨o,_,_,q,_⟩
  .exact cU h fb.1
  .exact cU h fb.1
  .exact viaK q
 |false=>
  rcases h with(h |⟨o,h⟩) |⟨o,_,_,q,_⟩
  .exact cU h fb.1
  .exact cU h fb.1
  .exact viaK q
end
theorem Na    (f:Bool)(hh:A.handled=none)(it a:Addr)(hne:a≠it)(items:Array Value):
  ij prog w A it [it,a] items.size (λi v=>items[i]?=some v) (λi h=>oA f it a i h/\vM f a items h):=by
 cases f with
 |true=>exact J3 hh _ a hne _
 |false=>exact Draws.list hh _ a hne _
theorem Xr(f:Bool)(a:Addr)(items:Array Value):yP a (Sh f a) (vM f a items):=by
 cases f with
 |true=>exact λprog w A E s Q g q=>yn g q
 |false=>exact λprog w A E s Q g q=>pb g q
theorem oA.keep     (x:oA f it a i h)(k:∀o,h.get? it=some o->h'.get? it=some o):oA f it a i h':=by
 cases f with
 |true=>obtain⟨o,e,r⟩:=x;exact⟨o,k o e,r⟩
 |false=>obtain⟨o,e,r⟩:=x;exact⟨o,k o e,r⟩
theorem vM.keep     (x:vM f a items h)(k:∀o,h.get? a=some o->h'.get? a=some o):vM f a items h':=by
 cases f with
 |true=>obtain⟨o,e,r⟩:=x;exact⟨o,k o e,r⟩
 |false=>obtain⟨o,e,r⟩:=x;exact⟨o,k o e,r⟩
theorem oA.obj     (x:oA f it a i h):∃o,h.get? it=some o/\∀v,o.data≠.cell v:=by
 cases f with
 |true=>obtain⟨o,e,_,d⟩:=x;exact⟨o,e,λv z=>by rw[d]at z;cases z⟩
 |false=>obtain⟨o,e,_,d⟩:=x;exact⟨o,e,λv z=>by rw[d]at z;cases z⟩
theorem Ol(f:Bool)(a it:Addr){h:Heap}(e:h.get? it=some (Sh f a)):oA f it a 0 h:=by
 cases f with
 |true=>exact⟨_,e,rfl,rfl⟩
 |false=>exact⟨_,e,rfl,rfl⟩
theorem Vn(f:Bool)(a:Addr):(Sh f a).isFreed=false:=by cases f<;>rfl
def Av (K : aa) (f1 : Bool) (a : Addr) (f2 : Bool) (b : Addr) : It :=
  ⟨λi H => ∃ xs ys x y, jN f1 K H a xs ∧ jN f2 K H b ys ∧ xs[i]? = some x ∧ ys[i]? = some y,
   λi H v H' => ∃ p x y, H p = none ∧ v = .ref p ∧ H' = aN H p (.tup [x, y]) ∧ (∀ xs, jN f1 K H a xs → xs[i]? = some x) ∧ ∀ ys, jN f2 K H b ys → ys[i]? = some y,
   λi H => ∃ xs ys, jN f1 K H a xs ∧ jN f2 K H b ys ∧ (i = xs.length ∨ (i < xs.length ∧ i = ys.length))⟩
structure Kc(z TI TO i1 i2:Addr):Prop where
 tiz:TI≠z
 toz:TO≠z
 i1z:i1≠z
 i2z:i2≠z
 tito:TI≠TO
 ti1:TI≠i1
 ti2:TI≠i2
 to1:TO≠i1
 to2:TO≠i2
 i12:i1≠i2
theorem Kc.ap{z TI TO i1 i2 a b:Addr}(r:Kc z TI TO i1 i2)(h:∀c∈[z,TI,TO,i1,i2],a≠c)(g:∀c∈[z,TI,TO,i1,i2],b≠c):zC z TI TO i1 i2 [i1,a] [i2,b] where
 tiz:=r.tiz
 toz:=r.toz
 tito:=r.tito
 ti1:=r.ti1
 ti2:=r.ti2
 z1:=λq=>by simp at q;rcases q with q |q;exact r.i1z q.symm;exact h z (by simp) q.symm
 z2:=λq=>by simp at q;rcases q with q |q;exact r.i2z q.symm;exact g z (by simp) q.symm
 to1:=λq=>by simp at q;rcases q with q |q;exact r.to1 q;exact h _ (by simp) q.symm
 to2:=λq=>by simp at q;rcases q with q |q;exact r.to2 q;exact g _ (by simp) q.symm
 i12:=λq=>by simp at q;rcases q with q |q;exact r.i12 q;exact g _ (by simp) q.symm
 i21:=λq=>by simp at q;rcases q with q |q;exact r.i12 q.symm;exact h _ (by simp) q.symm
 m1:=by simp
 m2:=by simp
theorem N0{P:Program}{w:ah}{K:aa}{elts:List ae}{x1:Nat}{tp:ai}(f1 f2:Bool)(a b z TI TO i1 i2:Addr)(zr:Kc z TI TO i1 i2):
  rA P w K (.Tuple elts x1 tp) (Av K f1 a f2 b) [z,TI,TO,i1,i2] z (λi h=>fi h z TI TO .none/\cy h TI (.ref i1) (.ref i2)/\(∃u v,cy h TO u v)/\oA f1 i1 a i h/\oA f2 i2 b i h) where
 mem:=by simp
 obj:=λi h st c hc=>by
  obtain⟨e1,e2,⟨u,v,e3⟩,e4,e5⟩:=st;simp at hc;rcases hc with q |q |q |q |q
  .subst q
   exact⟨_,e1,λv z=>nomatch z⟩
  .subst q
   exact⟨_,e2,λv z=>nomatch z⟩
  .subst q
   exact⟨_,e3,λv z=>nomatch z⟩
  .subst q
   exact e4.obj
  .subst q
   exact e5.obj
 keep:=λi h h' st k=>by
  obtain⟨e1,e2,⟨u,v,e3⟩,e4,e5⟩:=st;exact⟨k z (by simp) _ e1,k TI (by simp) _ e2,⟨u,v,k TO (by simp) _ e3⟩,e4.keep λo q=>k i1 (by simp) o q,e5.keep λo q=>k i2 (by simp) o q⟩
 item:=by
  intro X hP hw hK hc i AL s σ H E I hf st hg;subst hP hw hK;obtain⟨xs,ys,x,y,hx,hy,ex,ey⟩:=hg;obtain⟨its,r1,p1,_⟩:=I.seqF hx;obtain⟨jts,r2,p2,_⟩:=I.seqF hy;obtain⟨ux,gx,rx⟩:=r1.get ex;obtain⟨uy,gy,ry⟩:=r2.get ey;obtain⟨e1,e2,⟨u,v,e3⟩,e4,e5⟩:=st;have na:=λc hc=>I.apart (hf c hc) hx;have nb:=λc hc=>I.apart (hf c hc) hy;have hd:X.A.in1.handled=none:=I.ok.hd hc;have D1:=Na (prog:=X.prog) (w:=X.w) f1 hd i1 a (na i1 (by simp)) its.toArray;have D2:=Na (prog:=X.prog) (w:=X.w) f2 hd i2 b (nb i2 (by simp)) jts.toArray;refine Qx D1 D2 (zr.ap na nb) e1 e2 e3 ⟨e4,p1⟩ ⟨e5,p2⟩ (cq.mp gx).1 (cq.mp gy).1 λh1 tk vx vy px py q1 q2 q3 q4 q5 k1=>⟨_,rfl,?_⟩;have ex':vx=ux:=by
   have:its[i]?=some vx:=by simpa using px
   rw[gx]at this;exact(dj this).symm
  have ey':vy=uy:=by
   have:jts[i]?=some vy:=by simpa using py
   rw[gy]at this;exact(dj this).symm
  subst ex' ey';have lt:∀c∈[z,TI,TO,i1,i2],c≠s.heap.objs.size:=λc hc=>by
   have:∃o,s.heap.get? c=some o:=by
    simp at hc;rcases hc with q |q |q |q |q
    .exact⟨_,q▸e1⟩
    .exact⟨_,q▸e2⟩
    .exact⟨_,q▸e3⟩
    .obtain⟨o,ho,_⟩:=e4.obj
     exact⟨o,q▸ho⟩
    .obtain⟨o,ho,_⟩:=e5.obj
     exact⟨o,q▸ho⟩
   obtain⟨o,ho⟩:=this;exact bc (au ho)
  refine wpAny_letOwnedTupleGo_zip  q1 λh2 z2 sb2=>?_;have t2:=(sb2.2 _ (lt z (by simp)).symm).trans q5;have I2:aF X AL σ (aN H s.heap.objs.size (.tup [x,y])) {s with heap:=h2,toks:=tk}:=
   I.turnedNew hf (λc o hc q=>(sb2.2 c (λe=>hc (by simp[e]))).trans (k1 c o (λe=>hc (by simp[e])) (λe=>hc (by simp[e])) (λe=>hc (by simp[e])) (λe=>hc (by simp[e])) q)) (ak _)
    ⟨⟨by show 2<=sizeLine;decide,_,t2,rfl⟩,[vx,vy],.cons rx (.cons ry .nil),⟨_,t2,rfl,_,rfl⟩⟩
  refine⟨.ref s.heap.objs.size,_,I2,rfl,⟨_,x,y,I.hok.fresh (ak _),rfl,rfl,λzs hz=>by rw[I.seqF_inj hz hx];exact ex,λzs hz=>by rw[I.seqF_inj hz hy];exact ey⟩,
   ⟨z2,(sb2.2 _ zr.tiz).trans (k1 _ _ zr.tiz zr.tito zr.ti1 zr.ti2 e2),⟨_,_,(sb2.2 _ zr.toz).trans q2⟩,q3.1.keep λo q=>(sb2.2 _ zr.i1z).trans q,q4.1.keep λo q=>(sb2.2 _ zr.i2z).trans q⟩,λc hc=>?_⟩
  rw[aX (lt c hc)];exact(hf c hc).1
 done:=by
  intro X hP hw hK hc i AL s σ H E I hf st hg;subst hP hw hK;obtain⟨xs,ys,hx,hy,fin⟩:=hg;obtain⟨its,r1,p1,_⟩:=I.seqF hx;obtain⟨jts,r2,p2,_⟩:=I.seqF hy;have l1:=r1.length;have l2:=r2.length;obtain⟨e1,e2,⟨u,v,e3⟩,e4,e5⟩:=st;have na:=λc hc=>I.apart (hf c hc) hx;have nb:=λc hc=>I.apart (hf c hc) hy;have hd:X.A.in1.handled=none:=I.ok.hd hc;have D1:=Na (prog:=X.prog) (w:=X.w) f1 hd i1 a (na i1 (by simp)) its.toArray;have D2:=Na (prog:=X.prog) (w:=X.w) f2 hd i2 b (nb i2 (by simp)) jts.toArray;refine Rv D1 D2 (zr.ap na nb) e1 e2 e3 ⟨e4,p1⟩ ⟨e5,p2⟩ (by rw[ax,ax,<-l1,<-l2];exact fin) λh' tk k=>⟨rfl,?_⟩;exact I.turnedL hf λc o hc q=>k c o (λe=>hc (by simp[e])) (λe=>hc (by simp[e])) (λe=>hc (by simp[e])) (λe=>hc (by simp[e])) q
 self:=λ_ _ _ _ _ st h=>wpAny_pyIter_zip st.1 h
section
variable{X:Cx}{elts:List ae}{x1:Nat}{tp:ai}
def adr(K:aa)(tl:TA):TI:=λσ H R=>tl σ H λvs H1=>∃f1 a f2 b xs ys,vs=[.ref a,.ref b]/\jN f1 K H1 a xs/\jN f2 K H1 b ys/\R (Av K f1 a f2 b) H1
theorem aay  {tl:TA}{p pos:ai}(hg:Gl X "zip")(hm:X.mg "zip"=none)(hl:PA X [l,r] tl)(hs:starEach [l,r] X.env=[(false,eval l X.env),(false,eval r X.env)]:=by rfl)(hs2:starEach [r] X.env=[(false,eval r X.env)]:=by rfl):
  PI X (.Tuple elts x1 tp) (.Call (.Name "zip" p) [l,r] [] pos) (adr X.K tl):=by
 intro AL s σ H R I h;refine Call_ (xA I hg hm boot_zip (oh (aR (hl pos AL s σ H _ I h) λus s1 hq=>?_) (by rw[hs,hs2]) (by rw[hs2];rfl)));rcases hq with⟨vs,H1,I1,r1,q1⟩;obtain⟨f1,a,f2,b,xs,ys,rfl,hx,hy,q⟩:=q1;obtain⟨u,v,rfl,ru,rv⟩:=Js r1;cases ru;cases rv;obtain⟨its,_,p1,_⟩:=I1.seqF hx;obtain⟨jts,_,p2,_⟩:=I1.seqF hy;refine Mw (Xr f1 a its.toArray) (Xr f2 b jts.toArray) (λh g=>g.keep λo z=>ao _ z) p1 p2 (Vn _ _) (Vn _ _) λh' e1 e2 e3 e4 e5 k=>?_;refine wpAny_pyIter_zip  e1 ?_;have zr:Kc (s1.heap.objs.size+4) (s1.heap.objs.size+2) (s1.heap.objs.size+3) s1.heap.objs.size (s1.heap.objs.size+1):=by
  generalize s1.heap.objs.size=n;have g:∀i j:Nat,i≠j->((n:Nat)+i:Nat)≠n+j:=λi j h=>by omega
  exact⟨g 2 4 (by decide),g 3 4 (by decide),g 0 4 (by decide),g 1 4 (by decide),g 2 3 (by decide),g 2 0 (by decide),g 2 1 (by decide),g 3 0 (by decide),g 3 1 (by decide),g 0 1 (by decide)⟩
 refine⟨_,[s1.heap.objs.size+4,s1.heap.objs.size+2,s1.heap.objs.size+3,s1.heap.objs.size,s1.heap.objs.size+1],_,_,H1,rfl,I1.kept  k,N0 f1 f2 a b _ _ _ _ _ zr,⟨e1,e2,⟨_,_,e3⟩,Ol f1 a _ e4,Ol f2 b _ e5⟩,λc hc=>?_,q⟩;have hb:s1.heap.objs.size<=c:=by
  simp only[bw,pw,or_false]at hc;rcases hc with q |q |q |q |q
  all_goals rw[q]
  all_goals first |exact ak _ |exact Nat.le_add_right _ _
 exact I1.fpOk hb (I1.hok.fresh hb)
end
structure nV(K:aa)(x qual:Str)(st:Stmt)(f:Addr)(fd:ay)(ds:Array Value):Prop where
 ex:∃(oc:Value)(od:AF)(T:Addr)(oT:Obj)(n:Nat)(kV doc pm:Value)(an:AF)(cdv ct:Value)(osl:Array AE),
  fd=br x qual (dU st) (cG st) (bD st) (.ref T) kV doc pm an cdv ct/\K.lookup f=some ⟨oc,od,.func fd,osl⟩/\gh K cdv qual=true/\K.lookup T=some oT/\oT.data=.seq ds n
 kp:bo K (.ref f)=true
section
variable{K:aa}
theorem nV.binds  {st:Stmt}{f:Addr}{fd:ay}{ds:Array Value}{ps:List Str}{dd:AD}(F:nV K x qual st f fd ds)
  (h:∀(T:Addr)(kV doc pm:Value)(an:AF)(cdv ct:Value)(us:AD),(us++dd).length=ps.length->
   ∃k,bindArgs (br x qual (dU st) (cG st) (bD st) (.ref T) kV doc pm an cdv ct) ⟨us,[]⟩=seqItems? (.ref T) >>= k/\k (some ds)=pure (ps.zip (us++dd))):dD K fd ps dd:=by
 obtain⟨oc,od,T,oT,n,kV,doc,pm,an,cdv,ct,osl,rfl,lk,hcd,lT,hT⟩:=F.ex;intro s us hK hl;obtain⟨k,h1,h2⟩:=h T _ _ _ _ _ _ _ hl;exact PySem.W.binds_K hK rfl lT hT h1 h2
theorem Jo  {st:Stmt}{f T:Addr}{oT:Obj}{n:Nat}{ds:Array Value}{oc:Value}{od an:AF}{osl:Array AE}{kV doc pm cdv ct:Value}(l:K.lookup f=some ⟨oc,od,.func (br x qual (dU st) (cG st) (bD st) (.ref T) kV doc pm an cdv ct),osl⟩)
  (c:gh K cdv qual=true)(k:bo K (.ref f)=true)(lT:K.lookup T=some oT)(hT:oT.data=.seq ds n):nV K x qual st f (br x qual (dU st) (cG st) (bD st) (.ref T) kV doc pm an cdv ct) ds:=
 ⟨⟨oc,od,T,oT,n,kV,doc,pm,an,cdv,ct,osl,rfl,l,c,lT,hT⟩,k⟩
end
theorem Uq    {cap:List (Nat×Str)}(so:Scope)(N:List Str)(hso:X.env.scope=so)(hN:X.N=N)(kind:sc.kind=.function)(names:∀y∈sc.names,y.2=.local->sc.names.lookup y.1=some .local)
  (nocell:∀y∈sc.names,y.2≠.cell)(free:∀y∈sc.names,y.2=.free->so.names.lookup y.1=some .cell)(at':∀p∈cap,N[p.1]?=some p.2)(hcap:∀p∈cap,sc.names.lookup p.2=some .free):gK X sc own cap:=
 ⟨kind,names,nocell,λy hy e=>by show X.env.scope.names.lookup _=_;rw[hso];exact free y hy e,λp hp=>by rw[hN];exact at' p hp,hcap⟩
theorem eC.has       (x:eC P w H h a o):∃u,h.get? a=some u:=by
 cases o with
 |lst xs=>obtain⟨_,_,_,_,e⟩:=x;exact⟨_,e⟩
 |tup xs=>obtain⟨_,_,_,u,e,_⟩:=x;exact⟨u,e⟩
 |dK kvs=>obtain⟨_,_,_,_,o,_,_,e,_⟩:=x;exact⟨_,e⟩
 |dT kvs=>obtain⟨_,_,_,_,o,_,_,e,_⟩:=x;exact⟨_,e⟩
 |set S n=>obtain⟨o,_,_,_,e,_⟩:=x;exact⟨_,e⟩
 |ins C dx fs=>obtain⟨_,_,_,e,_⟩:=x;exact⟨_,e⟩
 |own y=>exact x
 |xd fs=>obtain⟨_,⟨_,_,_,e,_⟩,_⟩:=x;exact⟨_,e⟩
 |rng lo hi=>obtain⟨_,_,_,e⟩:=x;exact⟨_,e⟩
 |frz ob u=>obtain⟨e,_⟩:=x;exact⟨_,e⟩
 |tbl ps=>exact⟨_,show h.get? a=some _ from x⟩
 |met f y=>exact⟨_,show h.get? a=some _ from x⟩
 |ext φ=>exact x.2.1
@[reducible] def dC:AD:=[.type "ValueError",.type "Exception",.type "BaseException",.type "object"]
theorem U4{K:aa}{h:Heap}{C:Addr}{bmB:AD}{newId:String}(X:K.In h)(q:bi K C bmB newId=true):
  ∃bm N nm qn bs hdct sn sub ab col dd k0 k1 k2 k3 k5 mN,h.get? C=some (excClassObj nm qn C N bs bm hdct sn sub ab col dd k0 k1 k2 k3 k5 newId)/\h.Ns N mN/\mN "__init__"=none/\OwnTail h bmB bm:=by
 unfold bi at q;split at q
 .rename_i dd cd sl ho
  split at q
  .rename_i C' bm k0 k1 k2 k3 n k5 hm hs
   simp only[df,beq_iff_eq,Bool.not_eq_true']at q;obtain⟨⟨⟨⟨⟨z1,z2⟩,hdel⟩,ht⟩,hok⟩,hni⟩:=q;subst z1 z2;obtain⟨nm,bs,mro,ns,qn,hd,sn,sub,ab,col,del⟩:=cd;dsimp only at hm hdel hok hni;subst hm hdel;have hsl:sl=#[k0,k1,k2,k3,some (.builtin n),k5]:=by
    obtain⟨l⟩:=sl;simp only at hs;rw[hs]
   subst hsl;refine⟨bm,ns,nm,qn,bs,hd,sn,sub,ab,col,dd,k0,k1,k2,k3,k5,_,X _ _ ho,.of_isNs (uz X hok),pz X hok hni,PySem.W.tail_of_in X ht⟩
  .cases q
 .cases q
def aJ(P:Program)(w:ah):jA:=λouter H s E e s'=>∃(x C t:Addr)(B:Heap)(H':Hp),e=.ref x/\s'.os=s.os/\gf s'.gens/\Un (bP outer) [] H H' s.heap s'.heap/\cT P w H' s'.heap/\
 qa B outer x (.ref C) (.ref t) s'.heap/\(∀b o,s'.heap.get? b=some o->(∃u,H' b=some u)\/(∃o',s.heap.get? b=some o'/\b∉bP outer)->B.get? b=some o)/\E (.ref C) none H'
theorem E8{P:Program}{w:ah}{K:aa}{mg:Str->AE}{base:Heap}{N:List Str}{qual:Str}{scope:Scope}{f:Addr}{cd:Value}{A:aj}{outer:List Env}{AM:Shared}{AN:Hp}{E:XK}
  {x:Str}{C:Addr}{txt:Str}{j:Nat}{np p1 cpos pos:ai}(hg:Gl (aK (aJ P w) P w K mg base N qual scope f cd A outer AM AN E) x)(hm:mg x=some (.ref C))(hx:bi K C dC "ValueError.__new__"=true)
  (hd:(x==("__debug__":Str))=false:=by decide):
  PS (aK (aJ P w) P w K mg base N qual scope f cd A outer AM AN E) (.Raise (some (.Call (.Name x np) [.Constant (.str txt) j p1] [] cpos)) none pos) (λ_ _ H=>E (.ref C) none H):=by
 intro AL s σ H D I h;obtain⟨bm,Nn,nm,qn,bs,hdct,sn,sub,ab,col,dd,k0,k1,k2,k3,k5,mN,hC,hN,hni,T⟩:=U4 I.ok.mod.kin hx;refine wpAny_Raise_call_subT (C:=C) (nm:=nm) (q:=qn) (N:=Nn) (bs:=bs) (bm:=bm) (hdct:=hdct) (sn:=sn) (sub:=sub) (ab:=ab) (col:=col) (dd:=dd) (k0:=k0) (k1:=k1) (k2:=k2) (k3:=k3) (k5:=k5)
  PySem.F.excBase_ValueError (mN:=mN) (T.hasType (by decide)) (I.ok.hd rfl) rfl hni (qC I hg hm ⟨rfl,?_⟩ hd)
 refine ui (aR ((nA Zf lZ) cpos AL s σ H (λvs H1=>vs=[.str txt]/\H1=H) I ⟨rfl,rfl⟩) λus s2 q2=>?_);obtain⟨vs,H2,I2,r2,rfl,rfl⟩:=q2;have l2:=r2.length;refine⟨rfl,by rw[<-l2];show 1<=sizeLine;decide,I2.bk _ _ hC,hN.keeps I2.bk,T.keeps I2.bk,λh' e made=>?_⟩
 --the frame is left
 have stk:(aK (aJ P w) P w K mg base N qual scope f cd A outer AM AN E).stack=envOfC qual scope AM.heap.objs.size f cd::outer:=rfl;have nfr:∀{b u},H2 b=some u->b∉bP (envOfC qual scope AM.heap.objs.size f cd::outer):=λ{b u} q z=>by
  rw[I2.stkFree b z]at q;cases q
 have nL:∀{b o},AM.heap.get? b=some o->b∉bP outer->b∉bP (envOfC qual scope AM.heap.objs.size f cd::outer):=λ{b o} q z y=>by
  rcases bw.mp (I2.stkSub b y)with g |g
  .exact absurd (bj (au q) I2.ok.above) (by rw[g];exact dz _)
  .exact z g
 refine wpAny_leaves_madeW (base:=se s2.heap (bP (envOfC qual scope AM.heap.objs.size f cd::outer))) (h:=s2.heap) (s:={s2 with heap:=h'}) I2.ok.frames.1 rfl (λb o q=>wt _ q)
  (PySem.W.funFrames_hide I2.stack λenv he b hb=>kj.mpr ⟨env,he,hb⟩) made λh'' t fl tup nb ups=>?_
 have keepB:∀b o,s2.heap.get? b=some o->b∉bP (envOfC qual scope AM.heap.objs.size f cd::outer)->h''.get? b=some o:=λb o q z=>fl.1 b o (sf _ q z);have upS:∀b o,s2.heap.get? b=some o->(∀vs,o.data≠.fields vs)->∃sl,h''.get? b=some {o with slots:=sl}:=λb o q z=>ups b o (made.keeps b o q) z;refine⟨e,C,t,_,H2,rfl,I2.os,I2.bare,⟨λb o q n hb _=>?_,λb o q n hb _=>?_,λb o q n _=>I2.base.free b o q n (by intro z;cases z),λb o q _=>?_,I2.base.tups,I2.base.frzs,I2.base.tbls⟩,λb u q=>?_,fl,λb o q z=>?_,h⟩
 .exact keepB b o (I2.base.keep b o q n hb (by intro z;cases z)) (nL q hb)
 .obtain⟨sl,g⟩:=I2.base.slot b o q n hb (by intro z;cases z)
  obtain⟨_,o',ho',hd'⟩:=I2.ok.funs.mem hb;have eo:o'=o:=by
   have ho2:AM.heap.get? b=some o':=ho';rw[q]at ho2;exact(dj ho2).symm
  subst eo;obtain⟨sl',g'⟩:=upS b _ g hd';exact⟨sl',g'⟩
 .obtain⟨o',g⟩:=I2.base.there b o q (by intro z;cases z)
  by_cases c:b∈bP (envOfC qual scope AM.heap.objs.size f cd::outer)
  .obtain⟨_,o2,ho2,hd2⟩:=I2.stack.mem c
   obtain⟨sl,g'⟩:=upS b o2 ho2 hd2;exact⟨_,g'⟩
  .exact⟨o',keepB b o' g c⟩
 .refine(I2.hok b u q).stay (λc v hc g=>keepB c v g ?_) (λ_ g=>g) λ_ _ g=>g
  rcases hc with z |z
  .rw[z]
   exact nfr q
  .exact nfr z
 .have go:∀{o2},s2.heap.get? b=some o2->b∉bP (envOfC qual scope AM.heap.objs.size f cd::outer)->(se s2.heap (bP (envOfC qual scope AM.heap.objs.size f cd::outer))).get? b=some o:=λ{o2} g n=>by
   have:=keepB b o2 g n;have q':h''.get? b=some o:=q;rw[q']at this;cases this;exact sf _ g n
  rcases z with⟨u,z⟩|⟨o',z,nz⟩
  .obtain⟨o2,g⟩:=(I2.hok b u z).has
   exact go g (nfr z)
  .obtain⟨o2,g⟩:=I2.base.there b o' z (by intro z;cases z)
   exact go g (nL z nz)
section
variable{X:Cx}{AL:List (Addr×Obj)}{σ:St}{H H':Hp}{s s':Shared}
theorem aF.flown{B h5:Heap}(I:aF X AL σ H s)(os:s'.os=s.os)(bare:gf s'.gens)(un:Un (bP X.stack) [] H H' s.heap s'.heap)(hok:cT X.prog X.w H' s'.heap)
  (cov:∀b o,s'.heap.get? b=some o->(∃u,H' b=some u)\/(∃o',s.heap.get? b=some o'/\b∉bP X.stack)->B.get? b=some o)(fr:∀b∈bP X.stack,H' b=none)
  (st:B.StaysIn h5)(up:s'.heap.UpToSlots h5):aF X AL σ H' {s' with heap:=h5}:=by
 have nofr:∀{b u},H' b=some u->b∉bP X.stack:=λ{b u} q z=>by
  rw[fr b z]at q;cases q
 have frame:∀b∈bP X.stack,∃o sl,s.heap.get? b=some o/\H b=none/\h5.get? b=some {o with slots:=sl}:=λb hb=>by
  obtain⟨_,o,ho,hd⟩:=I.stack.mem hb;have hn:=I.stkFree b hb;obtain⟨sl,g⟩:=un.slot b o ho hn hb (by intro z;cases z);obtain⟨sl',g'⟩:=up b _ g hd;exact⟨o,sl',ho,hn,g'⟩
 refine I.call' (s':={s' with heap:=h5}) (ch:=[]) os ⟨λb o q n hb _=>?_,λb o q n hb _=>?_,un.free,λb o q _=>?_,un.tups,un.frzs,un.tbls⟩ (λb u q=>?_) bare λb z=>nomatch z
 .exact st b o (cov b o (un.keep b o q n hb (by intro z;cases z)) (.inr ⟨o,q,hb⟩))
 .obtain⟨o',sl,g1,_,g2⟩:=frame b hb
  rw[q]at g1;cases g1;exact⟨sl,g2⟩
 .by_cases c:b∈bP X.stack
  .obtain⟨o',sl,_,_,g2⟩:=frame b c
   exact⟨_,g2⟩
  .obtain⟨o',g⟩:=un.there b o q (by intro z;cases z)
   exact⟨o',st b o' (cov b o' g (.inr ⟨o,q,c⟩))⟩
 .refine(hok b u q).stay (λc v hc g=>st c v (cov c v g (.inl ?_))) (λ_ g=>g) λ_ _ g=>g
  rcases hc with z |z
  .exact⟨u,by rw[z];exact q⟩
  .exact⟨_,z⟩
end
section
variable{X:Cx}{k:Nat}{f:Addr}{fd:ay}{ps:List Str}{sp:Sp}{dvs:List V}{ds:AD}{E:XK}{e:ae}
theorem V6{AL:List (Addr×Obj)}{σ:St}{H:Hp}{s:Shared}{Q:VK}{us:AD}{vs:List V}{Ex:Value->Shared->Prop}(F:bQ X.prog X.w X.K X.mg X.base (aJ X.prog X.w) k f fd ps sp)(hr:bG k X.A)(hb:dD X.K fd ps ds)(hd:aS dvs ds)
  (I:aF X AL σ H s)(r:aS vs us)(h:sp (vs++dvs) H Q E)(hx:∀e s',aJ X.prog X.w X.stack H s E e s'->Ex e s'):wpAny (model X.prog X.w) X.A (call (.ref f) us) (EP X AL σ Q) Ex s:=by
 have r2:aS (vs++dvs) (us++ds):=r.append hd;have hl:(us++ds).length=ps.length:=by rw[<-r2.length];exact F.len _ _ _ _ h
 refine tf (iq (F.run X.A X.stack s H ⟨us,[]⟩ (us++ds) (vs++dvs) Q E hr I.env0 (hb s us I.kIn hl) r2 h) λrr s' hq=>?_);cases rr with
 |error e=>exact hx e s' hq
 |ok fl=>
  cases fl with
  |ret u=>exact I.after hq
  |next=>exact fg hq
  |brk=>exact fg hq
  |cont=>exact fg hq
end
section
variable{P:Program}{w:ah}{K:aa}{mg:Str->AE}{base:Heap}{CX:jA}
theorem iN.okX  {st:Stmt}{f:Addr}{fd:ay}{N ps:List Str}{k:Nat}{sp:Sp}(F:iN K x qual st f fd)(S:gY N ps (bD st))(len:∀vs H Q E,sp vs H Q E->vs.length=ps.length)
  (hbody:∀(cdv:Value)(A:aj)(outer:List Env)(s:Shared)(H:Hp)(vs:List V)(Q:VK)(E:XK),bG k (A.deeper (envOfC qual (bD st) s.heap.objs.size f cdv))->sp vs H Q E->
   ∃t,dH (aK CX P w K mg base N qual (bD st) f cdv A outer s H E) (cG st) t/\t {nx:=λ_ H'=>Q .non H',rt:=Q} (start N vs) H):bQ P w K mg base CX (k+1) f fd ps sp:=by
 obtain⟨oc,od,kV,doc,pm,an,cdv,ct,osl,rfl,lk,hcd⟩:=F.ex;exact Sg lk hcd S len λA outer s H vs Q E hr hsp=>hbody _ A _ s H _ Q E hr hsp
theorem nV.okX  {st:Stmt}{f:Addr}{fd:ay}{ds:Array Value}{N ps:List Str}{k:Nat}{sp:Sp}(F:nV K x qual st f fd ds)(S:gY N ps (bD st))(len:∀vs H Q E,sp vs H Q E->vs.length=ps.length)
  (hbody:∀(cdv:Value)(A:aj)(outer:List Env)(s:Shared)(H:Hp)(vs:List V)(Q:VK)(E:XK),bG k (A.deeper (envOfC qual (bD st) s.heap.objs.size f cdv))->sp vs H Q E->
   ∃t,dH (aK CX P w K mg base N qual (bD st) f cdv A outer s H E) (cG st) t/\t {nx:=λ_ H'=>Q .non H',rt:=Q} (start N vs) H):bQ P w K mg base CX (k+1) f fd ps sp:=by
 obtain⟨oc,od,T,oT,n,kV,doc,pm,an,cdv,ct,osl,rfl,lk,hcd,_,_⟩:=F.ex;exact Sg lk hcd S len λA outer s H vs Q E hr hsp=>hbody _ A _ s H _ Q E hr hsp
end
theorem Ab{P:Program}{w:ah}{K:aa}{mg:Str->AE}{base:Heap}{N:List Str}{qual:Str}{scope:Scope}{f:Addr}{cd:Value}{A:aj}{outer:List Env}{AM:Shared}{AN:Hp}{E:XK}:
  fV (aJ P w) (aK (aJ P w) P w K mg base N qual scope f cd A outer AM AN E) E:=by
 intro AL σ H s e s' I c;obtain⟨x,C,t,B,H',rfl,os,bare,un,hok,fl,cov,hE⟩:=c;have fr:∀b∈bP (aK (aJ P w) P w K mg base N qual scope f cd A outer AM AN E).stack,H' b=none:=λb hb=>by
  obtain⟨_,o,ho,hd⟩:=I.stack.mem hb;exact un.free b o ho (I.stkFree b hb) (by intro z;cases z)
 have nL:∀{b o},AM.heap.get? b=some o->b∉bP outer->b∉bP (envOfC qual scope AM.heap.objs.size f cd::outer):=λ{b o} q z y=>by
  rcases bw.mp (I.stkSub b y)with g |g
  .exact absurd (bj (au q) I.ok.above) (by rw[g];exact dz _)
  .exact z g
 refine wpAny_leaves_onW (base:=B) I.ok.frames.1 rfl fl λh' fl' up=>?_;have I5:=I.flown os bare un hok cov fr fl'.1 up;refine⟨x,C,t,B,H',rfl,os.trans I.os,bare,I5.base,I5.hok,fl',λb o q z=>?_,hE⟩;have go:∀{o2},B.get? b=some o2->B.get? b=some o:=λ{o2} g=>by
  have:=fl'.1 b o2 g;have q':h'.get? b=some o:=q;rw[q']at this;cases this;exact g
 rcases z with⟨u,z⟩|⟨o',z,nz⟩
 .obtain⟨o2,g⟩:=(hok b u z).has
  exact go (cov b o2 g (.inl ⟨u,z⟩))
 .obtain⟨o2,g⟩:=I.base.there b o' z (by intro z;cases z)
  obtain⟨o3,g3⟩:=un.there b o2 g (by intro z;cases z);exact go (cov b o3 g3 (.inr ⟨o2,g,nL z nz⟩))
section
variable{X:Cx}{AL:List (Addr×Obj)}{σ:St}{H:Hp}{s:Shared}
theorem zG{M:gg}{A:aj}{E:Value->Shared->Prop}{i:Nat}{n:Str}{pos:ai}{Q:Unit->Shared->Prop}(I:aF X AL σ H s)(hN:X.N.Nodup)(hi:X.N[i]?=some n)(hk:X.env.scope.names.lookup n=some .local)
  (h:∀s',aF X AL (σ.set i none) H s'->Q () s'):wpAny M A (do bindName X.env n bb;unbindBehindTheSuite X.env n pos) Q E s:=by
 obtain⟨m,hn,hl⟩:=id I.loc;have hcls:(X.env.scope.kind== .class||(X.env.scope.kind== .module&&X.env.locals !=X.env.globals))=false:=by rw[I.ok.kind];rfl
 have hiσ:i<σ.length:=by rw[I.len];exact(cq.mp hi).1
 have cne:=I.cne;refine wpAny_nameGoes_keeps hk hn hcls λh' v hn' hs=>?_;obtain⟨oL,_,_,hoL,_⟩:=id hn;refine h _ ⟨I.ok,I.os,I.bare,⟨λb o e n hb hx=>?_,λb o e n hb hx=>?_,I.base.free,λb o e hx=>?_,I.base.tups,I.base.frzs,I.base.tbls⟩,⟨_,hn',λj y v' e1 e2 e3=>?_⟩,λy c e=>?_,I.free,I.freeC,λp hp=>?_,λb ob e=>?_,by simpa using I.len⟩
 .exact(hs.2 b (bc (bj (au e) I.ok.above))).trans (I.base.keep b o e n hb hx)
 .obtain⟨sl,e1⟩:=I.base.slot b o e n hb hx
  exact⟨sl,(hs.2 b (bc (bj (au e) I.ok.above))).trans e1⟩
 .obtain⟨o',e1⟩:=I.base.there b o e hx
  exact⟨o',(hs.2 b (bc (bj (au e) I.ok.above))).trans e1⟩
 .by_cases hj:j=i
  .subst hj
   rw[fw hiσ]at e2;cases e2
  .rw[fj (dw hj)]at e2
   obtain⟨u',r',q⟩:=hl j y v' e1 e2 e3;refine⟨u',r',?_⟩;rcases q with⟨k,e⟩|⟨k,c,e,z⟩
   .refine .inl ⟨k,?_⟩
    have:y≠n:=λe=>hj (Qe hN e1 (e▸hi));simp[this,e]
   .exact .inr ⟨k,c,e,z.sameBut hs (cne y c e)⟩
 .obtain⟨w',z⟩:=I.cell y c e
  exact⟨w',z.sameBut hs (cne y c e)⟩
 .obtain⟨e,n,ne,nf,d⟩:=I.pin p hp
  exact⟨(hs.2 p.1 ne).trans e,n,ne,nf,d⟩
 .refine(I.hok b ob e).stay (λc w' hc q=>(hs.2 c ?_).trans q) (λ_ q=>q) λ_ _ q=>q
  have hfree:=I.free
  rintro rfl
  rcases hc with rfl |hc
  .rw[hfree]at e;cases e
  .rw[hfree]at hc;cases hc
end
abbrev Cx.mk1(X:Cx)(x:Addr)(l:List (Addr×Obj)):Cx:={X with A:=X.A.mark (some (.ref x)),calm:=false,pn:=l++X.pn,xe:=λ_ _=>False}
section
variable{X:Cx}{AL:List (Addr×Obj)}{σ:St}{H:Hp}{s:Shared}
theorem Cx.Ok.mk1(ok:X.Ok)(x:Addr)(l:List (Addr×Obj)):(X.mk1 x l).Ok:=
 ⟨ok.mod,ok.kind,ok.glob,ok.blt,ok.above,ok.inj,ok.has,ok.cab,λz=>(by cases z),ok.frames,ok.stk,ok.exf,ok.bs,ok.bsz,ok.noex,ok.exfs,ok.funs,ok.frf⟩
theorem aF.mk1(I:aF X AL σ H s)(x:Addr)(l:List (Addr×Obj))(h:∀p∈l,s.heap.get? p.1=some p.2/\H p.1=none/\p.1≠X.env.locals/\p.1∉X.fs/\∀v,p.2.data≠.cell v):aF (X.mk1 x l) AL σ H s:=
 ⟨I.ok.mk1 x l,I.os,I.bare,I.base,I.loc,I.cell,I.free,I.freeC,λp hp=>by
  rw[iw]at hp;exact(cf.mp hp).elim (h p) (I.pin p),I.hok,I.len⟩
theorem aF.unmk1{x:Addr}{l:List (Addr×Obj)}(ok:X.Ok)(I:aF (X.mk1 x l) AL σ H s):aF X AL σ H s:=
 ⟨ok,I.os,I.bare,I.base,I.loc,I.cell,I.free,I.freeC,λp hp=>I.pin p (by rw[iw];exact ck _ hp),I.hok,I.len⟩
end
theorem R1{a b c:Heap}(h1:a.UpToSlots b)(h2:b.UpToSlots c):a.UpToSlots c:=λx o q d=>by
 obtain⟨sl,g⟩:=h1 x o q d;obtain⟨sl',g'⟩:=h2 x _ g d;exact⟨sl',g'⟩
open PySem.W PySem.Calls PySem.Builtin PySem.Builtin.Getset_descriptor
section
variable{prog:Program}{w:ah}{A:aj}{E:Value->Shared->Prop}{s:Shared}{K:aa}{x D:Addr}{B:String}{R:im->Shared->Prop}
def nK(h:Heap)(x D:Addr):Prop:=∃o,h.get? x=some o/\o.cls=.ref D
theorem nK.ty{M:gg}{h:Heap}(I:nK h x D):Looks M h (typeOf (.ref x)) (.ref D):=by
 obtain⟨o,h1,h2⟩:=I;rw[<-h2];exact(va h1).andThen .now
structure rH(K:aa)(D:Addr):Prop where
 ga:findIn K (.ref D) "__getattribute__"=some (some (.builtin "BaseException.__getattribute__"))
 gt:findIn K (.ref D) "__getattr__"=some none
 be:mroIn K D (.type "BaseException")=some true
 ob:mroIn K D (.type "object")=some true
 cl:findIn K (.ref D) "__class__"=some (some (.builtin "object.__class__"))
 sp:specialIn K (.builtin "object.__class__") "__get__"=some (some (.builtin "getset_descriptor.__get__"))
 tk:takesIn K (.builtin "object.__class__")=some true
 ci:(clsIn K D).isSome=true
theorem G8{M:gg}{h:Heap}(Z:rH K D)(X:K.In h):Looks M h (f7 (.ref x) (.ref D) "__class__") (.bind (.builtin "getset_descriptor.__get__") (.builtin "object.__class__")):=by
 have d:Looks M h (f9 (some (.builtin "object.__class__")) (some (.builtin "getset_descriptor.__get__"))) (some (.builtin "getset_descriptor.__get__",.builtin "object.__class__")):=
  (looks_takesIn X Z.tk).andThen .now
 have g:Looks M h (g0 (some (.builtin "object.__class__"))) (some (.builtin "getset_descriptor.__get__")):=looks_specialIn X Z.sp;exact(om X Z.cl).andThen (g.andThen (d.andThen (Looks.tag .now)))
theorem P7{tp:Value}(Z:rH K D)(X:K.In s.heap)(I:nK s.heap x D)(h:R (.ok (.ret (.ref D))) s):
  codeAny (model prog w) A (.call (.builtin "getset_descriptor.__get__") ⟨[.builtin "object.__class__",.ref x,tp],[]⟩) R s:=by
 obtain⟨hh,g,dr,t,os⟩:=s;have l0:=I.ty (M:=model prog w);have l1:=ji (M:=model prog w) X Z.ob;refine yo KF.slot_gs.plain KF.entry_gs
  (KF.slot_gs.check _ _ _ _ _ _ _ _ KF.type_class (KF.args_gs _ _ _) ?_)
 unfold Builtin.«getset_descriptor.__get__» descrGet;rw[dga_obj];refine ag (aq ?_);unfold descrGetter descrCheckInstance descrNameAndClass isInstance;simp only[KF.owner_class];repeat lk
 refine⟨Code.quiet_builtin _ (by decide+kernel),
  vb KF.entry_class ?_⟩
 unfold Builtin.«object.__class__» shownTypeOf;repeat lk
 exact h
theorem aaM{tk:bg}(FB:vc B)(Z:rH K D)(X:K.In s.heap)(I:nK s.heap x D)(h:R (.ok (.ret (.ref D))) s):
  codeAny (model prog w) A (.call (.builtin "BaseException.__getattribute__") ⟨[.ref x,.str "__class__" tk],[]⟩) R s:=by
 obtain⟨hh,g,d,t,os⟩:=s;have l0:=I.ty (M:=model prog w);have lb:=ji (M:=model prog w) X Z.be;have l1:=G8 (M:=model prog w) (x:=x) Z X;refine yo FB.ga.plain F.entry_bexc_ga ?_;have e1:builtinKind "BaseException.__getattribute__"=some .slot:=by decide+kernel
 have e2:splitId "BaseException.__getattribute__"=some ("BaseException","__getattribute__"):=by decide+kernel
 have ha:=F.args_bexc_ga (.ref x) (.str "__class__" tk);simp only[checkBuiltinCall,e1,e2];refine ag ?_;unfold isInstance;refine ag (l0.at (lb.at ?_))
 repeat (any_goals (first |wp_step))
 obtain⟨o,h1,h2⟩:=id I;refine wpAny_loadPart h1 (aq ?_);rw[h2];refine ag (l1.at ?_);unfold g5
 repeat (any_goals (first |wp_step))
 exact P7 Z X I (aq h)
theorem A3{Q:AE->Shared->Prop}(FB:vc B)(Z:rH K D)(X:K.In s.heap)(I:nK s.heap x D)(h:Q (some (.ref D)) {s with toks:=s.toks+1}):
  wpAny (model prog w) A (getAttr? (.ref x) "__class__") Q E s:=by
 obtain⟨hh,g,d,t,os⟩:=s;have l0:=I.ty (M:=model prog w);have l1:=om (M:=model prog w) X Z.ga;have l2:=om (M:=model prog w) X Z.gt;have f3:=FB.ga.bind (.ref x);have e2:(yp "BaseException.__getattribute__"==yp "object.__getattribute__")=false:=by decide+kernel
 unfold getAttr? getAttrBy? getAttrBy;refine ag (wpAny_mkText (ag (mq (dh (ag (l0.at (ag (l1.at ?_))))))));dsimp only;rw[e2];simp only[Bool.and_false,qb,if_false];unfold getAttrByItsOwn hookBefore onTheHeap;simp only[if_true];refine ag (l2.at ?_)
 repeat (any_goals (first |assumption |wp_step))
 refine aaM (s:=⟨hh,g,d,t+1,os⟩) FB Z X I ?_;exact handed_on rfl (aq h)
theorem Xn(FB:vc B)(Z:rH K D):KitX K (.ref x) (.ref D) (λh=>nK h x D) where
 ty:=λ_ _ _ I=>I.ty
 it:=λ_ _ X _=>by
  obtain⟨cd,hc⟩:=mf.mp Z.ci;unfold clsIn at hc;split at hc
  .rename_i _ _ _ _ ho
   exact(va (X _ _ ho)).andThen .now
  .cases hc
 ne:=λh tp dd its n sl X htp=>by
  obtain⟨cd,hc⟩:=mf.mp Z.ci;cases q:(az D==az tp)with
  |false=>rfl
  |true=>
   cases Value.ref.inj (beq_iff_eq.mp q);unfold clsIn at hc;split at hc
   .rename_i _ _ _ _ ho
    cases(X _ _ ho).symm.trans htp
   .cases hc
 ca:=λX I k=>A3 FB Z X I k
end
section
variable{X:Cx}{y D:Addr}{oe:Obj}
theorem L6(Z:rH X.K D)(hp:(y,oe)∈X.pn)(hc:oe.cls=.ref D):fX X (.builtin "isinstance") (λxs H Q=>∃c b,((∃n,c=V.ty n/\qc X.K (.ref D) (.type n)=some b)\/∃C,c=V.ref C/\qc X.K (.ref D) (.ref C)=some b)/\xs=[.ref y,c]/\Q (.bl b) H):=by
 intro AL s σ H xs us Q I r h;obtain⟨c,b,e,rfl,q⟩:=h;obtain⟨u,c',rfl,rx,rc⟩:=Js r;cases(show u=az y from rx);have of:nK s.heap y D:=⟨oe,(I.pin _ (kg _ hp)).1,hc⟩;rcases e with⟨n,rfl,e⟩|⟨C,rfl,e⟩
 .cases(show c'=Value.type n from rc)
  exact yq (Xn yr Z) I.kIn of e (by intro q;cases q) λtk=>⟨.bl b,H,I.tok tk,rfl,q⟩
 .cases(show c'=az C from rc)
  exact yq (Xn yr Z) I.kIn of e (by intro q;cases q) λtk=>⟨.bl b,H,I.tok tk,rfl,q⟩
end
section
variable{κ:Type}[DecidableEq κ]
def fZ(kvs:List (κ×V))(k:κ):Option V:=(kvs.find? λkv=>decide (kv.1=k)).map (·.2)
def gU(kvs:List (κ×V))(k:κ)(v:V):List (κ×V):=
 if(kvs.any λkv=>decide (kv.1=k))=true then kvs.map (λkv=>if kv.1=k then(kv.1,v)else kv)else kvs++[(k,v)]
def oU(kvs:List (κ×V))(k:κ):List (κ×V):=kvs.filter λkv=>decide (kv.1≠k)
theorem wB{p:κ×V}{r:List (κ×V)}{k:κ}(e:p.1=k):fZ (p::r) k=some p.2:=by simp[fZ,iy,e]
theorem vZ{p:κ×V}{r:List (κ×V)}{k:κ}(e:¬p.1=k):fZ (p::r) k=fZ r k:=by simp[fZ,iy,e]
theorem Re(k:κ):∀kvs:List (κ×V),(kvs.any λkv=>decide (kv.1=k))=(fZ kvs k).isSome
 |[]=>rfl
 |p::r=>by
  rw[vd]
  by_cases e:p.1=k
  .simp only[wB e,decide_eq_true e,Bool.true_or,Option.isSome_some]
  .rw[vZ e,decide_eq_false e,Bool.false_or];exact Re k r
theorem Ad(kvs:List (κ×V))(k:κ)(v:V):(gU kvs k v).length<=kvs.length+1:=by
 unfold gU;split
 .rw[bh];omega
 .rw[cb,bq,ve];omega
theorem hJ.isSome_eq{o:Option V}{u:AE}(r:hJ o u):o.isSome=u.isSome:=by
 cases o with
 |none=>cases u with
  |none=>rfl
  |some _=>exact(show False from r).elim
 |some _=>cases u with
  |none=>exact(show False from r).elim
  |some _=>rfl
theorem KV.val{kvs:List (κ×V)}{vs:List (κ×Value)}(r:KV kvs vs)(k:κ):hJ (fZ kvs k) (valueAt vs k):=by
 unfold KV at r
 induction r with
 |nil=>exact gv
 |@cons p q ps qs h t ih=>
  obtain⟨h1,h2⟩:=h
  by_cases e:p.1=k
  .have e':q.1=k:=h1.symm.trans e
   have b:valueAt (q::qs) k=some q.2:=by simp[valueAt,iy,e']
   rw[wB e,b];exact h2
  .have e':¬q.1=k:=λz=>e (h1.trans z)
   have b:valueAt (q::qs) k=valueAt qs k:=by simp[valueAt,iy,e']
   rw[vZ e,b];exact ih
theorem KV.any{kvs:List (κ×V)}{vs:List (κ×Value)}(r:KV kvs vs)(k:κ):(kvs.any λkv=>decide (kv.1=k))=vs.any λkv=>decide (kv.1=k):=by
 unfold KV at r
 induction r with
 |nil=>rfl
 |cons h t ih=>rw[vd,vd,ih,h.1]
theorem KV.repl{kvs:List (κ×V)}{vs:List (κ×Value)}(r:KV kvs vs)(k:κ){y:V}{u:Value}(ry:aT y u):
  KV (kvs.map λkv=>if kv.1=k then(kv.1,y)else kv) (vs.map λkv=>if kv.1=k then(kv.1,u)else kv):=by
 unfold KV at r⊢
 induction r with
 |nil=>exact .nil
 |@cons p q ps qs h t ih=>
  rw[cn,cn];refine .cons ?_ ih;obtain⟨h1,h2⟩:=h
  by_cases e:p.1=k
  .rw[if_pos e,if_pos (h1.symm.trans e)];exact⟨h1,ry⟩
  .rw[if_neg e,if_neg (λz=>e (h1.trans z))];exact⟨h1,h2⟩
theorem KV.put{kvs:List (κ×V)}{vs:List (κ×Value)}(r:KV kvs vs)(k:κ){y:V}{u:Value}(ry:aT y u):KV (gU kvs k y) (stored vs k u):=by
 unfold gU stored;rw[r.any k]
 by_cases e:(vs.any λkv=>decide (kv.1=k))=true
 .rw[if_pos e,if_pos e];exact r.repl k ry
 .rw[if_neg e,if_neg e];exact yt r ⟨rfl,ry⟩
theorem KV.drop{kvs:List (κ×V)}{vs:List (κ×Value)}(r:KV kvs vs)(k:κ):KV (oU kvs k) (without vs k):=by
 unfold KV at r⊢;unfold oU without
 induction r with
 |nil=>exact .nil
 |@cons p q ps qs h t ih=>
  obtain⟨h1,h2⟩:=h;rw[vf,vf]
  by_cases e:p.1=k
  .have a:¬decide (p.1≠k)=true:=by simp[e]
   have b:¬decide (q.1≠k)=true:=by simp[h1.symm.trans e]
   rw[if_neg a,if_neg b];exact ih
  .have e':¬q.1=k:=λz=>e (h1.trans z)
   have a:decide (p.1≠k)=true:=by simp[e]
   have b:decide (q.1≠k)=true:=by simp[e']
   rw[if_pos a,if_pos b];exact .cons ⟨h1,h2⟩ ih
theorem KV.keys{kvs:List (κ×V)}{vs:List (κ×Value)}(r:KV kvs vs):kvs.map (·.1)=vs.map (·.1):=by
 unfold KV at r
 induction r with
 |nil=>rfl
 |cons h t ih=>rw[cn,cn,ih,h.1]
theorem KV.length{kvs:List (κ×V)}{vs:List (κ×Value)}(r:KV kvs vs):kvs.length=vs.length:=ny r
theorem Zn(kvs:List (κ×V))(k:κ):(oU kvs k).length<=kvs.length:=List.length_filter_le _ _
end
theorem qU{P:Program}{w:ah}{k:bN}{u:Value}(r:aT (kV k) u):(fO P w).is k u=true:=by
 cases k with
 |inl i=>obtain⟨t,e⟩:=(show ∃t,u=kd i t from r);subst e;exact Zw P w i t
 |inr x=>obtain⟨t,e⟩:=(show ∃t,u=ke x t from r);subst e;exact Rx P w x t
theorem Tl{P:Program}{w:ah}:∀{ks:List bN}{us:AD},aS (ks.map kV) us->ItemsAre (fO P w) ks us
 |[],_,r=>by rw[List.map_nil]at r;cases r;exact .nil
 |k::ks,_,r=>by
  rw[cn]at r;cases r with
  |cons h t=>exact .cons (qU h) (Tl t)
abbrev KT(H:Hp):List (List bN×V)->List (List bN×Addr×Value)->Prop:=io λp q=>p.1=q.1/\H q.2.1=some (.tup (p.1.map kV))/\aT p.2 q.2.2
theorem KT.val{H:Hp}{kvs:List (List bN×V)}{xs:List (List bN×Addr×Value)}(r:KT H kvs xs)(k:List bN):hJ (fZ kvs k) ((atKey xs k).map (·.2)):=by
 induction r with
 |nil=>exact gv
 |@cons p q ps qs h t ih=>
  obtain⟨h1,_,h2⟩:=h
  by_cases e:p.1=k
  .have e':q.1=k:=h1.symm.trans e
   have b:atKey (q::qs) k=some q.2:=by simp[atKey,iy,e']
   rw[wB e,b];exact h2
  .have e':¬q.1=k:=λz=>e (h1.trans z)
   have b:atKey (q::qs) k=atKey qs k:=by simp[atKey,iy,e']
   rw[vZ e,b];exact ih
theorem KT.repl{H:Hp}{kvs:List (List bN×V)}{xs:List (List bN×Addr×Value)}(r:KT H kvs xs)(k:List bN){y:V}{u:Value}(ry:aT y u):
  KT H (kvs.map λkv=>if kv.1=k then(kv.1,y)else kv) (xs.map (putAt k u)):=by
 induction r with
 |nil=>exact .nil
 |@cons p q ps qs h t ih=>
  rw[cn,cn];refine .cons ?_ ih;obtain⟨h1,h2,h3⟩:=h;unfold putAt
  by_cases e:p.1=k
  .rw[if_pos e,if_pos (h1.symm.trans e)];exact⟨h1,h2,ry⟩
  .rw[if_neg e,if_neg (λz=>e (h1.trans z))];exact⟨h1,h2,h3⟩
theorem KT.put{H:Hp}{kvs:List (List bN×V)}{xs:List (List bN×Addr×Value)}(r:KT H kvs xs)(k:List bN){b:Addr}{y:V}{u:Value}(hb:H b=some (.tup (k.map kV)))(ry:aT y u):
  KT H (gU kvs k y) (storedH xs k b u):=by
 have e:(kvs.any λkv=>decide (kv.1=k))=(atKey xs k).isSome:=by
  rw[Re,(r.val k).isSome_eq,yu]
 unfold gU storedH;rw[e]
 by_cases q:(atKey xs k).isSome=true
 .rw[if_pos q,if_pos q];exact r.repl k ry
 .rw[if_neg q,if_neg q];exact yt r ⟨rfl,hb,ry⟩
theorem KT.keeps{H H':Hp}{kvs:List (List bN×V)}{xs:List (List bN×Addr×Value)}(r:KT H kvs xs)(ht:∀b ys,H b=some (.tup ys)->H' b=some (.tup ys)):KT H' kvs xs:=
 Paired.mapP r λ_ _ z=>⟨z.1,ht _ _ z.2.1,z.2.2⟩
section
variable{P:Program}{w:ah}{H:Hp}{h:Heap}{a:Addr}
theorem Vr{u:HO}(ok:cT P w H h)(e:Rd H a u):eC P w H h a u:=e.ok ok
theorem uU{kvs:List (bN×V)}(ok:cT P w H h)(e:Rd H a (.dK kvs)):kvs.length<=sizeLine/\(a==sysModules)=false/\∃vs,KV kvs vs/\h.DictOf (fO P w) a vs:=
 show eC P w H h a (.dK kvs) from Vr ok e
theorem xU{kvs:List (bN×V)}(ok:cT P w H h)(e:H a=some (.dK kvs)):kvs.length<=sizeLine/\(a==sysModules)=false/\∃vs,KV kvs vs/\h.DictOf (fO P w) a vs:=uU ok (.inl e)
theorem Ma{ks:List bN}(ok:cT P w H h)(e:H a=some (.tup (ks.map kV))):(tupleKind (fO P w)).is h ks a:=by
 obtain⟨_,its,r,o,h1,h2,n,h3⟩:=(show eC P w H h a (.tup (ks.map kV)) from ok a _ e);exact⟨o,its.toArray,n,h1,h2,h3,by simpa using Tl r⟩
theorem xW{kvs:List (List bN×V)}(ok:cT P w H h)(e:Rd H a (.dT kvs)):kvs.length<=sizeLine/\(a==sysModules)=false/\
  ∃xs,KT H kvs xs/\h.DictOfH (tupleKind (fO P w)) a xs:=by
 obtain⟨z,y,xs,r,o,es,ep,h1,h2,h3,h4,h5⟩:=(show eC P w H h a (.dT kvs) from Vr ok e);refine⟨z,y,xs,r,o,es,ep,h1,h2,h3,h4,λx hx=>?_,h5⟩;have all:∀{l:List (List bN×V)}{m:List (List bN×Addr×Value)},KT H l m->∀x∈m,(tupleKind (fO P w)).is h x.1 x.2.1:=by
  intro l m q
  induction q with
  |nil=>intro x hx;exact nomatch hx
  |@cons p q ps qs hq t ih=>
   intro x hx;rcases bw.mp hx with e |hx
   .subst e
    exact Ma ok (by rw[<-hq.1];exact hq.2.1)
   .exact ih x hx
 exact all r x hx
theorem acV{kvs:List (List bN×V)}(ok:cT P w H h)(e:H a=some (.dT kvs)):kvs.length<=sizeLine/\(a==sysModules)=false/\
  ∃xs,KT H kvs xs/\h.DictOfH (tupleKind (fO P w)) a xs:=xW ok (.inl e)
end
def mH(H:Hp)(a:Addr)(y:V)(r:Option V):Prop:=
 (∃kvs k,Rd H a (.dK kvs)/\y=kV k/\r=fZ kvs k)\/∃kvs k b,Rd H a (.dT kvs)/\y=.ref b/\H b=some (.tup (k.map kV))/\r=fZ kvs k
def vO(H:Hp)(a:Addr)(y v:V)(H':Hp):Prop:=
 (∃kvs k,H a=some (.dK kvs)/\y=kV k/\kvs.length<sizeLine/\H'=aN H a (.dK (gU kvs k v)))\/
 ∃kvs k b,H a=some (.dT kvs)/\y=.ref b/\H b=some (.tup (k.map kV))/\kvs.length<sizeLine/\H'=aN H a (.dT (gU kvs k v))
theorem mH.k{H:Hp}{a:Addr}{kvs:List (bN×V)}{k:bN}(e:H a=some (.dK kvs)):mH H a (kV k) (fZ kvs k):=.inl ⟨kvs,k,.inl e,rfl,rfl⟩
theorem vO.k{H:Hp}{a:Addr}{kvs:List (bN×V)}{k:bN}{v:V}(e:H a=some (.dK kvs))(hl:kvs.length<sizeLine):vO H a (kV k) v (aN H a (.dK (gU kvs k v))):=.inl ⟨kvs,k,e,rfl,hl,rfl⟩
section
variable{X:Cx}{AL:List (Addr×Obj)}{σ:St}{H:Hp}{s:Shared}{a:Addr}{y v:V}{u r:Value}{o:Option V}{A:aj}{E:Value->Shared->Prop}
theorem aF.big(I:aF X AL σ H s):sysModules<s.heap.objs.size:=by
 have h:mainGlobals<s.heap.objs.size:=(I.mod.glob.keeps I.bk).lt;exact oz (by decide) h
theorem A9{Q:Value->Shared->Prop}(hu:A.units+1<cLine)(I:aF X AL σ H s)(g:mH H a y (some v))(ry:aT y u)(h:∀w' s',aF X AL σ H s'->aT v w'->Q w' s'):
  wpAny (model X.prog X.w) A (getItem (.ref a) u) Q E s:=by
 rcases g with⟨kvs,k,e,ey,l⟩|⟨kvs,k,b,e,ey,eb,l⟩
 .subst ey
  obtain⟨z,hd,vs,rel,dd⟩:=uU I.hok e;obtain⟨w',hw,rw'⟩:=hJ.some_of (v:=v) (o:=valueAt vs k) (by rw[l];exact rel.val k);exact wpAny_getItem_of (qU ry) dd.mapOf hw (h w' _ (I.tok _) rw')
 .subst ey
  cases(show u=az b from ry);obtain⟨z,hd,xs,rel,dd⟩:=xW I.hok e;obtain⟨w',hw,rw'⟩:=hJ.some_of (v:=v) (o:=(atKey xs k).map (·.2)) (by rw[l];exact rel.val k);obtain⟨p,hp,hp2⟩:=vg.mp hw;refine wpAny_getItem_heap (vh hu) (Ma I.hok eb) dd hp ?_;rw[hp2];exact h w' _ (I.tok _) rw'
theorem ac3{Q:Value->Shared->Prop}(hu:A.units+1<cLine)(I:aF X AL σ H s)(g:mH H a y o)(ry:aT y u)(h:∀s',aF X AL σ H s'->Q (.bool o.isSome) s'):
  wpAny (model X.prog X.w) A (compareOp .In u (.ref a)) Q E s:=by
 rcases g with⟨kvs,k,e,ey,l⟩|⟨kvs,k,b,e,ey,eb,l⟩
 .subst ey
  obtain⟨z,hd,vs,rel,dd⟩:=uU I.hok e;refine wpAny_in_of (qU ry) hd dd.mapOf ?_;rw[<-(rel.val k).isSome_eq,<-l];exact h _ (I.tok _)
 .subst ey
  cases(show u=az b from ry);obtain⟨z,hd,xs,rel,dd⟩:=xW I.hok e;refine wpAny_in_heap (vh hu) (Ma I.hok eb) hd dd ?_;have q:=(rel.val k).isSome_eq;rw[yu]at q;rw[<-q,<-l];exact h _ (I.tok _)
theorem wE{h':Heap}{t':Nat}{ob:HO}(I:aF X AL σ H s)(mu:zD (H a))(hs:eg a s.heap h')(he:∃q,h'.get? a=some q)(new:eC X.prog X.w (aN H a ob) h' a ob):
  aF X AL σ (aN H a ob) {s with heap:=h',toks:=t'}:=
 I.write (x:=a) (e:=a) mu (.inl rfl) (λb q hb z=>(hs.2 b hb).trans z) he new
theorem xE{P:Program}{w:ah}{H':Hp}{h':Heap}{kvs:List (bN×V)}{vs:List (bN×Value)}(z:kvs.length<=sizeLine)(hd:(a==sysModules)=false)(rel:KV kvs vs)(dd:h'.DictOf (fO P w) a vs):
  eC P w H' h' a (.dK kvs):=⟨z,hd,vs,rel,dd⟩
theorem D0{H':Hp}{Q:Unit->Shared->Prop}(hu:A.units+1<cLine)(I:aF X AL σ H s)(g:vO H a y v H')(ry:aT y u)(rv:aT v r)(h:∀s',aF X AL σ H' s'->Q () s'):
  wpAny (model X.prog X.w) A (setItem (.ref a) u r) Q E s:=by
 rcases g with⟨kvs,k,e,ey,l,eH⟩|⟨kvs,k,b,e,ey,eb,l,eH⟩
 .subst ey eH
  obtain⟨z,hd,vs,rel,dd⟩:=xU I.hok e;have hz:vs.length<=sizeLine:=by rw[<-rel.length];exact z
  have hl:(gU kvs k v).length<=sizeLine:=by have:=Ad kvs k v;omega
  refine wpAny_setItem_pairs (hsz:=hz) (qU ry) dd λh' dd' hs=>h _ ?_;have he:∃q,h'.get? a=some q:=let⟨q,_,_,hq,_⟩:=dd';⟨q,hq⟩;exact wE I (by rw[e];exact gv) hs he (xE hl hd (rel.put k rv) dd')
 .subst ey eH
  cases(show u=az b from ry);obtain⟨z,hd,xs,rel,dd⟩:=acV I.hok e;have hz:xs.length<=sizeLine:=by rw[<-ny rel];exact z
  have hl:(gU kvs k v).length<=sizeLine:=by have:=Ad kvs k v;omega
  refine wpAny_setItem_heap (hsz:=hz) (vh hu) (Ma I.hok eb) dd λh' dd' hs=>h _ ?_;obtain⟨q,es,ep,hq,h2,h3,h4,_,h5⟩:=dd';refine wE I (by rw[e];exact gv) hs ⟨q,hq⟩ ⟨hl,hd,_,(rel.put k eb rv).keeps λc ys ec=>?_,q,es,ep,hq,h2,h3,h4,h5⟩;rw[aX (abL ec e (λz=>nomatch z))];exact ec
end
section
variable{X:Cx}{AL:List (Addr×Obj)}{σ:St}{H:Hp}{s:Shared}{a:Addr}{kvs:List (bN×V)}{k:bN}{u:Value}{A:aj}{E:Value->Shared->Prop}
theorem aaU{Q:Unit->Shared->Prop}(I:aF X AL σ H s)(e:H a=some (.dK kvs))(ry:aT (kV k) u)(l:(fZ kvs k).isSome=true)(h:∀s',aF X AL σ (aN H a (.dK (oU kvs k))) s'->Q () s'):
  wpAny (model X.prog X.w) A (delItem (.ref a) u) Q E s:=by
 obtain⟨z,hd,vs,rel,dd⟩:=xU I.hok e;refine wpAny_delItem_slot dd.typeIs (by decide) yw
  (call_meetsIn yw dd.typeIs PySem.F.entry_dict_delitem (PySem.F.args_dict_delitem_2 _ _) (meets_dict_delitem_pairs (fO X.prog X.w) a (qU ry)) ⟨vs,dd,by rw[<-rel.length];exact z,by rw[<-(rel.val k).isSome_eq];exact l,λh' dd' hs=>h _ ?_⟩)
 have he:∃q,h'.get? a=some q:=let⟨q,_,_,hq,_⟩:=dd';⟨q,hq⟩;exact wE I (by rw[e];exact gv) hs he (xE (dq (Zn kvs k) z) hd (rel.drop k) dd')
theorem abO{v:V}{more:AD}{Q:Value->Shared->Prop}(I:aF X AL σ H s)(e:H a=some (.dK kvs))(ry:aT (kV k) u)(l:fZ kvs k=some v)(hm:more=[]\/∃x,more=[x])
  (h:∀w' s',aF X AL σ (aN H a (.dK (oU kvs k))) s'->aT v w'->Q w' s'):wpAny (model X.prog X.w) A (call (.builtin "dict.pop") (.ref a::u::more)) Q E s:=by
 obtain⟨z,hd,vs,rel,dd⟩:=xU I.hok e;obtain⟨w',hw,rw'⟩:=hJ.some_of (v:=v) (o:=valueAt vs k) (by rw[<-l];exact rel.val k);have hp:(keyPart u).isSome=true:=by
  cases k with
  |inl i=>obtain⟨t,q⟩:=(show ∃t,u=kd i t from ry);subst q;rfl
  |inr x=>obtain⟨t,q⟩:=(show ∃t,u=ke x t from ry);subst q;rfl
 have ha:argsOk "dict.pop" ⟨.ref a::u::more,[]⟩:=by
  rcases hm with q |⟨x,q⟩
  .subst q;exact PySem.F.args_dict_pop_2 _ _
  .subst q;exact PySem.F.args_dict_pop_3 _ _ _
 refine call_meetsIn yx dd.typeIs PySem.F.entry_dict_pop ha (meets_dict_pop_there (fO X.prog X.w) a (qU ry) more hm hp)
  ⟨vs,w',dd,by rw[<-rel.length];exact z,hw,λh' dd' hs=>h w' _ ?_ rw'⟩
 have he:∃q,h'.get? a=some q:=let⟨q,_,_,hq,_⟩:=dd';⟨q,hq⟩;exact wE I (by rw[e];exact gv) hs he (xE (dq (Zn kvs k) z) hd (rel.drop k) dd')
end
def mI(i:ae):Prop:=∀ov iv,subscripted i false ov iv=operate [ov,iv] (getItem ov iv)
theorem Oo{prog:Program}{w:ah}{A:aj}{E:Value->Shared->Prop}{s:Shared}{env:Env}{value slice:ae}{pos:ai}{T id:String}{Q:Value->Shared->Prop}
  (hl:typeLookup (.type T) "__getitem__"=pure (some (.builtin id)))(hs:mI slice)
  (h:wpAny (model prog w) A (eval value env) (λo AO=>wpAny (model prog w) A (eval slice env) (λi AS=>AS.TypeIs o T/\wpAny (model prog w) A (getItem o i) Q E AS) E AO) E s):
  wpAny (model prog w) A (eval (.Subscript value slice pos) env) Q E s:=by
 refine ub (bv h (λo AO h₁=>bv h₁ (λi AS h₂=>?_) λ_ _ x=>x) λ_ _ x=>x);obtain⟨hT,h₂⟩:=h₂;unfold subscriptTail;refine ag ?_;rw[getitemInPython_of_ne hT.not_modules];refine ag (wpAny_specialOf hT hl ?_);have fin:wpAny (model prog w) A (subscripted slice false o i) (λr s₃=>wpAny (model prog w) A (letTemporaryGo value o r >>= λ_=>pure r) Q E s₃) E AS:=by
  rw[hs o i];exact wpAny_operating (bv h₂ (λr s₃ h₃=>ag (wpAny_letTemporaryGo (aq h₃))) λ_ _ x=>x)
 first
  |exact aq (ag fin)
  |exact ag (aq (ag fin))
  |exact ag fin
theorem Ax{X:Cx}{AL:List (Addr×Obj)}{σ:St}{H:Hp}{s:Shared}{a:Addr}{y:V}{o:Option V}(I:aF X AL σ H s)(g:mH H a y o):s.TypeIs (.ref a) "dict":=by
 rcases g with⟨kvs,k,e,_,_⟩|⟨kvs,k,b,e,_,_,_⟩
 .obtain⟨_,_,vs,_,dd⟩:=uU I.hok e
  exact dd.typeIs
 .obtain⟨_,_,xs,_,dd⟩:=xW I.hok e
  exact dd.typeIs
def acI(td ty:TE):TE:=λσ H Q=>td σ H λx H1=>ty σ H1 λy H2=>∃a v,x=.ref a/\mH H2 a y (some v)/\Q v H2
def acF(td ty tv:TE):TS:=λD σ H=>tv σ H λv H1=>td σ H1 λx H2=>ty σ H2 λy H3=>∃a H4,x=.ref a/\vO H3 a y v H4/\D.nx σ H4
section
variable{X:Cx}{o i value:ae}{pos pos':ai}{td ty tv:TE}
theorem Tp(hu:X.A.units+1<cLine)(ho:PE X o td)(hi:PE X i ty)(hs:mI i):PE X (.Subscript o i pos) (acI td ty):=by
 intro AL s σ H Q I h;refine Oo yy.lookup hs (aR (ho AL s σ H _ I h) λu s1 ⟨x,H1,I1,rx,q1⟩=>aR (hi AL s1 σ H1 _ I1 q1) λiv s2 hq=>?_);rcases hq with⟨y,H2,I2,ry,a,v,ex,g,q2⟩;subst ex;obtain rfl:u=az a:=rx;exact⟨Ax I2 g,A9 hu I2 g ry λw' s3 I3 rw'=>⟨v,H2,I3,rw',q2⟩⟩
theorem ps_dput(hu:X.A.units+1<cLine)(ho:PE X o td)(hi:PE X i ty)(hv:PE X value tv)(hs:swapsWith value (some (.Subscript o i pos')) pos.line X.env=pure false):
  PS X (.Assign [.Subscript o i pos'] value pos) (acF td ty tv):=by
 intro AL s σ H D I h;refine wpAny_Assign_Subscript (aR (hv AL s σ H _ I h) λr s1 ⟨v,H1,I1,rv,q1⟩=>aR (ho AL s1 σ H1 _ I1 q1) λu s2 ⟨x,H2,I2,rx,q2⟩=>aR (hi AL s2 σ H2 _ I2 q2) λiv s3 hq=>?_) hs;rcases hq with⟨y,H3,I3,ry,a,H4,ex,g,q3⟩;subst ex;obtain rfl:u=az a:=rx;exact D0 hu I3 g ry rv λs4 I4=>⟨σ,H4,I4,q3⟩
end
theorem Tm{P:Program}{w:ah}{H:Hp}(h:Heap)(hb:sysModules<h.objs.size):eC P w H (h.push {cls:=.type "dict",data:=.dict #[]}) h.objs.size (.dK []):=
 ⟨cg _,beq_eq_false_iff_ne.mpr (dw (bc hb)),[],.nil,Heap.DictOf.new h⟩
def Tq:TE:=λ_ H Q=>∀p,H p=none->Q (.ref p) (aN H p (.dK []))
section
variable{X:Cx}{pos:ai}
theorem D6:PE X (.Dict [] [] pos) Tq:=λAL s σ H Q I h=>
 wpAny_Dict_empty ⟨.ref s.heap.objs.size,_,I.laid (a:=s.heap.objs.size) (o:=.dK []) (t':=s.toks) (λ_ _ q=>ao _ q) (ak _) (Tm s.heap I.big),rfl,h _ (I.hok.fresh (ak _))⟩
end
def xB:List (TE×TE)->St->Hp->(List (V×V)->Hp->Prop)->Prop
 |[],_,H,Q=>Q [] H
 |(tk,tv)::r,σ,H,Q=>tk σ H λx H1=>tv σ H1 λy H2=>xB r σ H2 λps H3=>Q ((x,y)::ps) H3
abbrev VV:List (V×V)->List (Value×Value)->Prop:=io λp q=>aT p.1 q.1/\aT p.2 q.2
def yU(X:Cx)(pos:ai)(keys:List (Option ae))(values:List ae)(trs:List (TE×TE)):Prop:=
 ∀(AL:List (Addr×Obj))(s:Shared)(σ:St)(H:Hp)(Q:List (V×V)->Hp->Prop),aF X AL σ H s->xB trs σ H Q->
  wpAny (model X.prog X.w) X.A (evalPairs (pairTrees keys values X.env pos)) (λvs s'=>∃ps H',aF X AL σ H' s'/\VV ps vs/\Q ps H') X.xe s
theorem X3{X:Cx}{pos:ai}:yU X pos [] [] []:=λAL s σ H Q I h=>pairTrees_nil_walk ⟨[],H,I,.nil,h⟩
theorem J2{X:Cx}{pos:ai}{k v:ae}{ks:List (Option ae)}{vs:List ae}{tk tv:TE}{trs:List (TE×TE)}(hk:PE X k tk)(hv:PE X v tv)(hr:yU X pos ks vs trs):
  yU X pos (some k::ks) (v::vs) ((tk,tv)::trs):=λAL s σ H Q I h=>
 pairTrees_cons_walk (aR (hk AL s σ H _ I h) λu s1 ⟨x,H1,I1,rx,q1⟩=>aR (hv AL s1 σ H1 _ I1 q1) λw2 s2 ⟨y,H2,I2,ry,q2⟩=>
  aR (hr AL s2 σ H2 _ I2 q2) λws s3 ⟨ps,H3,I3,rel,q3⟩=>⟨(x,y)::ps,H3,I3,.cons ⟨rx,ry⟩ rel,q3⟩)
def lY(kvs more:List (bN×V)):List (bN×V):=more.foldl (λacc kv=>gU acc kv.1 kv.2) kvs
theorem KV.merge:∀{more:List (bN×V)}{rs:List (bN×Value)}{kvs:List (bN×V)}{vs:List (bN×Value)},KV more rs->KV kvs vs->KV (lY kvs more) (merged vs rs):=by
 intro more rs kvs vs r;unfold KV at r
 induction r generalizing kvs vs with
 |nil=>intro q;exact q
 |@cons p q ps qs h t ih=>
  intro r0;have e:KV (gU kvs p.1 p.2) (stored vs q.1 q.2):=by
   have:=r0.put p.1 h.2;rw[<-h.1];exact this
  exact ih e
theorem Ej:∀(more kvs:List (bN×V)),(lY kvs more).length<=kvs.length+more.length
 |[],kvs=>by show kvs.length<=kvs.length+0;omega
 |p::r,kvs=>by
  have h1:=Ej r (gU kvs p.1 p.2);have h2:=Ad kvs p.1 p.2;show(lY (gU kvs p.1 p.2) r).length<=_;rw[bq];omega
theorem Gk{P:Program}{w:ah}:∀{kvs:List (bN×V)}{ws:List (Value×Value)},VV (kvs.map λkv=>(kV kv.1,kv.2)) ws->∃rs,Carries (fO P w) ws rs/\KV kvs rs
 |[],_,r=>by rw[List.map_nil]at r;cases r;exact⟨[],gv,.nil⟩
 |p::kvs,_,r=>by
  rw[cn]at r;cases r with
  |@cons a b as bs h t=>
   obtain⟨rs,c,q⟩:=Gk (P:=P) (w:=w) t;obtain⟨b1,b2⟩:=b;exact⟨(p.1,b2)::rs,⟨qU h.1,rfl,c⟩,.cons ⟨rfl,h.2⟩ q⟩
def abU(trs:List (TE×TE)):TE:=λσ H Q=>∀p,H p=none->xB trs σ (aN H p (.dK [])) λps H2=>H2 p=some (.dK [])/\∃kvs:List (bN×V),ps=kvs.map (λkv=>(kV kv.1,kv.2))/\kvs.length<=15/\Q (.ref p) (aN H2 p (.dK (lY [] kvs)))
theorem R6{X:Cx}{pos:ai}{keys:List (Option ae)}{values:List ae}{trs:List (TE×TE)}(h:yU X pos keys values trs)(hall:keys.all (·.isSome)=true)(hl:keys.length=values.length)(h0:keys≠[])
  (h15:keys.length<=15):PE X (.Dict keys values pos) (abU trs):=by
 intro AL s σ H Q I q;have hn:=I.hok.fresh (ak s.heap.objs.size);have I1:=I.laid (a:=s.heap.objs.size) (o:=.dK []) (h':=s.heap.push {cls:=.type "dict",data:=.dict #[]}) (t':=s.toks) (λ_ _ q=>ao _ q) (ak _) (Tm s.heap I.big);refine wpAny_Dict_walk (knd:=fO X.prog X.w) hall hl h0 h15 (aR (h AL _ σ _ _ I1 (q _ hn)) λws s2 hq=>?_);rcases hq with⟨ps,H2,I2,rel,e,kvs,ep,lk,q2⟩;subst ep;obtain⟨rs,c,rk⟩:=Gk (P:=X.prog) (w:=X.w) rel;obtain⟨z,hd,vs0,r0,dd⟩:=xU I2.hok e;cases r0;refine⟨rs,c,dd,λh' dd' hs=>⟨.ref s.heap.objs.size,_,?_,rfl,q2⟩⟩;have hz:(lY [] kvs).length<=sizeLine:=by
  have h1:=Ej kvs [];rw[ve]at h1;rw[fe];omega
 have he:∃q,h'.get? s.heap.objs.size=some q:=let⟨q,_,_,hq,_⟩:=dd';⟨q,hq⟩;exact wE I2 (by rw[e];exact gv) hs he (xE hz hd (rk.merge .nil) dd')
structure M1(X:Cx)(o:ae)(m:Str)(apos:ai)(e:ae)(cpos:ai):Prop where
 base:attributeBase o m X.env (eval o X.env)=eval o X.env
 few:((backTo cpos (starEach [e] X.env)).all (λx=>!x.1)&&(backToKw cpos (keywordEach [] X.env)).all (λx=>x.1.isSome)
  &&decide (([e]:List ae).length+([]:List fk).length+(if([]:List fk).isEmpty then 0 else 1)<30))=true
 line:(apos.endLine==cpos.line)=true
 trees:backTo cpos (starEach [e] X.env)=[(false,eval e X.env)]
def Vu(H:Hp)(a:Addr):Prop:=(∃kvs,Rd H a (.dK kvs))\/∃kvs,Rd H a (.dT kvs)
theorem Z8{X:Cx}{AL:List (Addr×Obj)}{σ:St}{H:Hp}{s:Shared}{a:Addr}(I:aF X AL σ H s)(d:Vu H a):
  s.TypeIs (.ref a) "dict"/\(∀b,az a=.ref b->∃ob,s.heap.get? b=some ob/\ob.dict=none)/\(a==sysModules)=false:=by
 rcases d with⟨kvs,e⟩|⟨kvs,e⟩
 .obtain⟨_,hd,vs,_,dd⟩:=uU I.hok e
  refine⟨dd.typeIs,λb q=>?_,hd⟩;cases q;obtain⟨ob,_,_,h1,h2,_⟩:=dd;exact⟨ob,h1,h2.2.1⟩
 .obtain⟨_,hd,xs,_,dd⟩:=xW I.hok e
  refine⟨dd.typeIs,λb q=>?_,hd⟩;cases q;obtain⟨ob,_,_,h1,h2,_⟩:=dd;exact⟨ob,h1,h2.2.1⟩
def aam(td ty:TE):TE:=λσ H Q=>td σ H λx H1=>∃a,x=.ref a/\Vu H1 a/\ty σ H1 λy H2=>∃kvs k v,H2 a=some (.dK kvs)/\y=kV k/\fZ kvs k=some v/\Q v (aN H2 a (.dK (oU kvs k)))
section
variable{X:Cx}{o e:ae}{apos cpos:ai}{td ty:TE}
theorem L7(ho:PE X o td)(he:PE X e ty)(m:M1 X o "pop" apos e cpos):PE X (.Call (.Attribute o "pop" apos) [e] [] cpos) (aam td ty):=by
 intro AL s σ H Q I h;refine wpAny_Call_method m.base m.few m.line PySem.F.plainAttrs_dict yx PySem.F.type_dict_pop (aR (ho AL s σ H _ I h) λu s1 hq=>?_);rcases hq with⟨x,H1,I1,rx,a,ex,d,q1⟩;subst ex;obtain rfl:u=az a:=rx;obtain⟨t1,t2,_⟩:=Z8 I1 d;refine⟨t1,t2,?_⟩;rw[m.trees];refine uh rfl (ui (ko (aR (he AL s1 σ H1 _ I1 q1) λiv s2 ⟨y,H2,I2,ry,kvs,k,v,ea,ey,l,q2⟩=>ou ?_)));subst ey;exact abO I2 ea ry l (.inl rfl) λw' s3 I3 rw'=>⟨v,_,I3,rw',q2⟩
end
section
variable{X:Cx}{AL:List (Addr×Obj)}{σ:St}{H:Hp}{s:Shared}{a:Addr}{kvs:List (bN×V)}{A:aj}{E:Value->Shared->Prop}
theorem M2{Q:Value->Shared->Prop}(I:aF X AL σ H s)(e:Rd H a (.dK kvs))(h:∀p s',H p=none->aF X AL σ (aN H p (.dK kvs)) s'->Q (.ref p) s'):wpAny (model X.prog X.w) A (call (.type "dict") [.ref a]) Q E s:=by
 obtain⟨z,hd,vs,rel,dd⟩:=uU I.hok e;refine kt_call_dict hd dd (by rw[<-rel.length];exact z) λh' dd' hs=>?_;refine h _ _ (I.hok.fresh (ak _)) (I.laid (a:=s.heap.objs.size) (o:=.dK kvs) (t':=s.toks) (λb q hq=>?_) (ak _) (xE z (beq_eq_false_iff_ne.mpr (dw (bc I.big))) rel dd'));exact(hs.2 b (bc (au hq))).trans (ao _ hq)
end
def hF(l:AA):Int:=reduceHash (yz (l.map hashInt))
def hN(l:AB):Int:=reduceHash (yz (l.map hF))
def vL:Bool->Type
 |false=>AA
 |true=>AB
instance decK:(n:Bool)->DecidableEq (vL n)
 |false=>inferInstanceAs (DecidableEq AA)
 |true=>inferInstanceAs (DecidableEq AB)
def acQ:(n:Bool)->vL n->Int
 |false=>hF
 |true=>hN
end L2
namespace L2.Pp
open PySem PySem.Spec PyProof.Rows Bn
section
inductive PV where
 |non |bl (b:Bool) |int (i:Int) |str (x:Str) |tup (xs:List PV) |lst (xs:List PV) |dct (ns:List Str) (fs:List PV)
abbrev AH:=List PV
abbrev AI:=Option PV
inductive SO where
 |lst (xs:AH)
 |lol (xss:List AH)
 |dic (n:Bool) (kvs:List (PV×PV))
 |dol (n:Bool) (kvs:List (PV×AH))
 |dsk (h:PV) (past fut:AH)
 |tdc (ns:List Str) (fs:AH)
abbrev aL:=List SO
inductive AV where
 |pv (v:PV) |ref (k:Nat)
abbrev AJ:=Option AV
abbrev AK:=List AV
abbrev bJ:=List AJ
inductive bA(α:Type) where
 |ok (a:α) (S:aL) |exc (n:Str) (S:aL) |fail
def bA.bind  (r:bA α)(k:α->aL->bA β):bA β:=match r with
 |.ok a S=>k a S
 |.exc n S=>.exc n S
 |.fail=>.fail
inductive bY where
 |nx (ρ:bJ) (S:aL) |rt (v:AV) (S:aL) |bk (ρ:bJ) (S:aL) |ct (ρ:bJ) (S:aL) |exc (n:Str) (S:aL) |fail
def kU(K:aa)(c:Addr->Prop)(H:Hp)(a:Addr)(vs:List V):Prop:=
 (H a=some (.lst vs)/\¬c a)\/(∃o,H a=some (.frz o (.lst vs)))\/
  ∃(o:Obj)(its:Array Value)(n:Nat),K.lookup a=some o/\o.cls=.type "list"/\o.dict=none/\o.data=.seq its n/\its.size<=sizeLine/\aS vs its.toList
theorem kU.sq{K:aa}{c:Addr->Prop}{H:Hp}{a:Addr}{vs:List V}(h:kU K c H a vs):bL K H a vs:=by
 rcases h with h |h |h
 .exact .inl (.inl h.1)
 .exact .inl (.inr h)
 .exact .inr h
def cA(ns:List Str)(vs:List V):List (bN×V):=(ns.map cp).zip vs
mutual
def aP(K:aa)(c:Addr->Prop)(H:Hp):PV->V->Prop
 |.non,x=>x=.non
 |.bl b,x=>x=.bl b
 |.int i,x=>x=.int i
 |.str s,x=>x=.str s
 |.tup xs,x=>∃a vs,x=.ref a/\cJ K H a vs/\vs.length<=sizeLine/\aM K c H xs vs
 |.lst xs,x=>∃a vs,x=.ref a/\kU K c H a vs/\vs.length<=sizeLine/\aM K c H xs vs
 |.dct ns fs,x=>∃a vs,x=.ref a/\(H a=some (.dK (cA ns vs))/\¬c a)/\ns.length=vs.length/\aM K c H fs vs
def aM(K:aa)(c:Addr->Prop)(H:Hp):AH->List V->Prop
 |[],vs=>vs=[]
 |p::ps,vs=>∃v r,vs=v::r/\aP K c H p v/\aM K c H ps r
end
section
variable{K:aa}{c c':Addr->Prop}{H H':Hp}
mutual
theorem aP.mono(hT:∀a vs,cJ K H a vs->cJ K H' a vs)(hL:∀a vs,kU K c H a vs->kU K c' H' a vs)(hO:∀a o,H a=some o/\¬c a->H' a=some o/\¬c' a):∀(v:PV)(x:V),aP K c H v x->aP K c' H' v x
 |.non,x,h=>h
 |.bl b,x,h=>h
 |.int i,x,h=>h
 |.str s,x,h=>h
 |.tup xs,x,h=>by
  unfold aP at h⊢;obtain⟨a,vs,e,t,z,r⟩:=h;exact⟨a,vs,e,hT a vs t,z,aM.mono hT hL hO xs vs r⟩
 |.lst xs,x,h=>by
  unfold aP at h⊢;obtain⟨a,vs,e,t,z,r⟩:=h;exact⟨a,vs,e,hL a vs t,z,aM.mono hT hL hO xs vs r⟩
 |.dct ns fs,x,h=>by
  unfold aP at h⊢;obtain⟨a,vs,e,t,z,r⟩:=h;exact⟨a,vs,e,hO a _ t,z,aM.mono hT hL hO fs vs r⟩
theorem aM.mono(hT:∀a vs,cJ K H a vs->cJ K H' a vs)(hL:∀a vs,kU K c H a vs->kU K c' H' a vs)(hO:∀a o,H a=some o/\¬c a->H' a=some o/\¬c' a):∀(v:AH)(x:List V),aM K c H v x->aM K c' H' v x
 |[],vs,h=>by
  unfold aM at h⊢;exact h
 |p::ps,vs,h=>by
  unfold aM at h⊢;obtain⟨v,r,e,h1,h2⟩:=h;exact⟨v,r,e,aP.mono hT hL hO p v h1,aM.mono hT hL hO ps r h2⟩
end
theorem aM.length:∀{xs:AH}{vs:List V},aM K c H xs vs->xs.length=vs.length
 |[],vs,h=>by
  rw[h];rfl
 |p::ps,vs,h=>by
  obtain⟨v,r,rfl,_,h2⟩:=h;rw[bq,bq,aM.length h2]
theorem aM.get:∀{xs:AH}{vs:List V}{i:Nat}{p:PV},aM K c H xs vs->xs[i]?=some p->∃v,vs[i]?=some v/\aP K c H p v
 |[],vs,i,p,h,e=>by simp at e
 |q::ps,vs,0,p,h,e=>by
  obtain⟨v,r,rfl,h1,_⟩:=h;simp at e;subst e;exact⟨v,rfl,h1⟩
 |q::ps,vs,i+1,p,h,e=>by
  obtain⟨v,r,rfl,_,h2⟩:=h;obtain⟨u,e1,e2⟩:=aM.get  h2 (by simpa using e);exact⟨u,by simpa using e1,e2⟩
theorem aM.nil:aM K c H [] []:=rfl
theorem aM.cons     (h:aP K c H p v)(t:aM K c H ps vs):aM K c H (p::ps) (v::vs):=⟨v,vs,rfl,h,t⟩
theorem aM.append:∀{xs ys:AH}{vs ws:List V},aM K c H xs vs->aM K c H ys ws->aM K c H (xs++ys) (vs++ws)
 |[],ys,vs,ws,h,g=>by
  subst h;exact g
 |p::ps,ys,vs,ws,h,g=>by
  obtain⟨v,r,rfl,h1,h2⟩:=h;exact .cons h1 (h2.append g)
theorem aM.drop:∀{xs:AH}{vs:List V}(n:Nat),aM K c H xs vs->aM K c H (xs.drop n) (vs.drop n)
 |xs,vs,0,h=>by simp_all
 |[],vs,n+1,h=>by
  subst h;rfl
 |p::ps,vs,n+1,h=>by
  obtain⟨v,r,rfl,_,h2⟩:=h;simpa using h2.drop n
theorem aM.take:∀{xs:AH}{vs:List V}(n:Nat),aM K c H xs vs->aM K c H (xs.take n) (vs.take n)
 |xs,vs,0,h=>rfl
 |[],vs,n+1,h=>by
  subst h;rfl
 |p::ps,vs,n+1,h=>by
  obtain⟨v,r,rfl,h1,h2⟩:=h;simpa using aM.cons h1 (h2.take n)
theorem aM.eraseIdx:∀{xs:AH}{vs:List V}(n:Nat),aM K c H xs vs->aM K c H (xs.eraseIdx n) (vs.eraseIdx n)
 |[],vs,n,h=>by
  subst h;rfl
 |p::ps,vs,0,h=>by
  obtain⟨v,r,rfl,h1,h2⟩:=h
  simp_all
 |p::ps,vs,n+1,h=>by
  obtain⟨v,r,rfl,h1,h2⟩:=h;simpa using aM.cons h1 (h2.eraseIdx n)
theorem aM.set   (g:aP K c H p v):∀{xs:AH}{vs:List V}(n:Nat),aM K c H xs vs->aM K c H (xs.set n p) (vs.set n v)
 |[],vs,n,h=>by
  subst h;rfl
 |q::ps,vs,0,h=>by
  obtain⟨v,r,rfl,h1,h2⟩:=h;simpa using aM.cons g h2
 |q::ps,vs,n+1,h=>by
  obtain⟨v,r,rfl,h1,h2⟩:=h;simpa using aM.cons h1 (aM.set g n h2)
end
structure Ph where
 f:List Addr
 w:Addr->Prop
 c:Addr->Prop
def Bb(K:aa)(c:Addr->Prop)(H:Hp)(xss:List AH)(bs:List Addr):Prop:=
 xss.length=bs.length/\∀(i:Nat)(xs:AH)(b:Addr),xss[i]?=some xs->bs[i]?=some b->∃vs,H b=some (.lst vs)/\vs.length<=sizeLine/\aM K c H xs vs
def adB:(n:Bool)->vL n->PV
 |false,l=>.tup (List.map PV.int l)
 |true,l=>.tup (List.map (λr:AA=>PV.tup (r.map PV.int)) l)
def oD(es:Array DictEntry)(ep:Nat):Obj:={cls:=.type "dict",data:=.dict es ep}
def dO(a:Addr)(es:Array DictEntry)(ep:Nat):HO:=.ext λh=>h.get? a=some (oD es ep)
def enK(n:Bool)(x:vL n×Addr×Value):DictEntry:=⟨acQ n x.1,.ref x.2.1,x.2.2⟩
def yY(K:aa)(c:Addr->Prop)(H:Hp)(a:Addr)(n:Bool)(ks:AH)(us:AD):Prop:=
 ∃(xs:List (vL n×Addr×Value))(ep:Nat),H a=some (dO a (xs.map (enK n)).toArray ep)/\(a==sysModules)=false/\xs.length<=sizeLine/\(xs.map (·.1)).Nodup/\ks=xs.map (λx=>adB n x.1)/\aM K c H ks (xs.map λx=>V.ref x.2.1)/\us=xs.map (·.2.2)
structure Th(K:aa)(p:Ph)(H:Hp)(x:Addr)(h:PV)(past fut:AH)(C dx bp bf:Addr)(u:V)(ps fs:List V):Prop where
 ins:H x=some (.ins C dx [("heaps",u),("past",.ref bp),("future",.ref bf)])
 cl:aw K mainGlobals "Desk"=some (some (.ref C))
 rh:aM K p.c H [h] [u]
 ne:bp≠bf
 wp:p.w bp/\bp∉p.f
 wf:p.w bf/\bf∉p.f
 ap:H bp=some (.lst ps)
 af:H bf=some (.lst fs)
 lp:ps.length<=sizeLine
 lf:fs.length<=sizeLine
 rp:aM K p.c H past ps
 rf:aM K p.c H fut fs
def rE(K:aa)(p:Ph)(H:Hp)(a:Addr):SO->Prop
 |.lst xs=>∃vs,H a=some (.lst vs)/\vs.length<=sizeLine/\aM K p.c H xs vs
 |.lol xss=>∃bs:List Addr,H a=some (.lst (bs.map V.ref))/\bs.length<=sizeLine/\bs.Nodup/\(∀b∈bs,p.w b/\b∉p.f)/\Bb K p.c H xss bs
 |.dic n kvs=>∃us vs,yY K p.c H a n (kvs.map (·.1)) us/\aS vs us/\aM K p.c H (kvs.map (·.2)) vs
 |.dol n kvs=>∃bs:List Addr,yY K p.c H a n (kvs.map (·.1)) (bs.map az)/\bs.Nodup/\(∀b∈bs,p.w b/\b∉p.f)/\Bb K p.c H (kvs.map (·.2)) bs
 |.dsk h past fut=>∃C dx bp bf u ps fs,Th K p H a h past fut C dx bp bf u ps fs
 |.tdc ns fs=>∃vs,H a=some (.dK (cA ns vs))/\ns.length=vs.length/\aM K p.c H fs vs
theorem yY.mono{K:aa}{c c':Addr->Prop}{H H':Hp}{a:Addr}{n:Bool}{ks:AH}{us:AD}(h:yY K c H a n ks us)(ha:∀o,H a=some o->H' a=some o)(hR:∀xs vs,aM K c H xs vs->aM K c' H' xs vs):yY K c' H' a n ks us:=by
 obtain⟨xs,ep,e,z,l,nd,ek,r,eu⟩:=h;exact⟨xs,ep,ha _ e,z,l,nd,ek,hR _ _ r,eu⟩
theorem rE.mono{K:aa}{p p':Ph}{H H':Hp}{a:Addr}{o:SO}(h:rE K p H a o)(ha:∀o,H a=some o->H' a=some o)
  (hb:∀b,p.w b->b∉p.f->(p'.w b/\b∉p'.f)/\∀vs,H b=some (.lst vs)->H' b=some (.lst vs))(hR:∀xs vs,aM K p.c H xs vs->aM K p'.c H' xs vs):rE K p' H' a o:=by
 have lol:∀{xss:List AH}{bs:List Addr},(∀b∈bs,p.w b/\b∉p.f)->Bb K p.c H xss bs->Bb K p'.c H' xss bs:=λwf ⟨z,at_⟩=>⟨z,λi xs b e1 e2=>by
  obtain⟨vs,g1,g2,g3⟩:=at_ i xs b e1 e2;have m:=wf b (de e2);exact⟨vs,(hb b m.1 m.2).2 vs g1,g2,hR xs vs g3⟩⟩
 cases o with
 |lst xs=>
  obtain⟨vs,e,l,r⟩:=h;exact⟨vs,ha _ e,l,hR xs vs r⟩
 |lol xss=>
  obtain⟨bs,e,l,nd,wf,z⟩:=h;exact⟨bs,ha _ e,l,nd,λb m=>(hb b (wf b m).1 (wf b m).2).1,lol wf z⟩
 |dic n kvs=>
  obtain⟨us,vs,d,v,r⟩:=h;exact⟨us,vs,d.mono ha hR,v,hR _ _ r⟩
 |dol n kvs=>
  obtain⟨bs,d,nd,wf,z⟩:=h;exact⟨bs,d.mono ha hR,nd,λb m=>(hb b (wf b m).1 (wf b m).2).1,lol wf z⟩
 |tdc ns fs=>
  obtain⟨vs,e,l,r⟩:=h;exact⟨vs,ha _ e,l,hR fs vs r⟩
 |dsk h past fut=>
  obtain⟨C,dx,bp,bf,u,ps,fs,z⟩:=h;exact⟨C,dx,bp,bf,u,ps,fs,ha _ z.ins,z.cl,hR _ _ z.rh,z.ne,(hb bp z.wp.1 z.wp.2).1,(hb bf z.wf.1 z.wf.2).1,(hb bp z.wp.1 z.wp.2).2 ps z.ap,(hb bf z.wf.1 z.wf.2).2 fs z.af,z.lp,z.lf,hR _ _ z.rp,hR _ _ z.rf⟩
def Mb:HO->Prop
 |.lst _=>True
 |.dK _=>True
 |.dT _=>True
 |.ins _ _ _=>True
 |.ext _=>True
 |_=>False
structure aO(K:aa)(p:Ph)(S:aL)(H:Hp):Prop where
 nd:p.f.Nodup
 len:p.f.length=S.length
 sub:∀a∈p.f,p.w a
 wc:∀a,p.w a->p.c a
 mu:∀a,p.c a->∃o,H a=some o/\Mb o
 obj:∀(k:Nat)(a:Addr)(o:SO),p.f[k]?=some a->S[k]?=some o->rE K p H a o
structure aZ(p:Ph)(H:Hp)(q:Ph)(H':Hp):Prop where
 wc:∀a,p.w a->p.c a
 mu:∀a,p.c a->∃o,H a=some o/\Mb o
 pre:p.f <+:q.f
 mw:∀a,p.w a->q.w a
 mono:∀a,p.c a->q.c a
 nf:∀a∈q.f,a∉p.f->H a=none
 nw:∀a,q.w a->¬p.w a->H a=none
 nc:∀a,q.c a->¬p.c a->H a=none
 keep:∀a o,H a=some o->¬p.w a->H' a=some o
def bI(K:aa)(p:Ph)(H:Hp):AV->V->Prop
 |.pv v,x=>aP K p.c H v x
 |.ref k,x=>∃a,p.f[k]?=some a/\x=.ref a
abbrev fY(K:aa)(p:Ph)(H:Hp):AK->List V->Prop:=io (bI K p H)
structure bR(K:aa)(p:Ph)(H:Hp)(ρ:bJ)(σ:St):Prop where
 len:ρ.length=σ.length
 at_:∀(i:Nat)(v:AV),ρ[i]?=some (some v)->∃x,σ[i]?=some (some x)/\bI K p H v x
section
variable{K:aa}{p q r:Ph}{H H' H'':Hp}{S:aL}
theorem aO.step(s:aO K p S H):aZ p H p H:=⟨s.wc,s.mu,jk,λ_ h=>h,λ_ h=>h,λ_ h g=>absurd h g,λ_ h g=>absurd h g,λ_ h g=>absurd h g,λ_ _ h _=>h⟩
theorem aZ.trans(a:aZ p H q H')(b:aZ q H' r H''):aZ p H r H'':=by
 have back:∀x,H' x=none->¬p.w x->H x=none:=λx h n=>by
  cases e:H x with
  |none=>rfl
  |some o=>rw[a.keep x o e n]at h;cases h
 refine⟨a.wc,a.mu,a.pre.trans b.pre,λx h=>b.mw x (a.mw x h),λx h=>b.mono x (a.mono x h),λx h n=>?_,λx h n=>?_,λx h n=>?_,λx o e n=>?_⟩
 .by_cases m:x∈q.f
  .exact a.nf x m n
  .have hn:=b.nf x h m
   refine back x hn λz=>?_;obtain⟨o,ho,_⟩:=b.mu x (a.mono x (a.wc x z))
   simp_all
 .by_cases m:q.w x
  .exact a.nw x m n
  .exact back x (b.nw x h m) n
 .by_cases m:q.c x
  .exact a.nc x m n
  .exact back x (b.nc x h m) λz=>n (a.wc x z)
 .refine b.keep x o (a.keep x o e n) λz=>?_
  rw[a.nw x z n]at e;cases e
theorem aZ.tup(s:aZ p H q H'){a:Addr}{vs:List V}(h:cJ K H a vs):cJ K H' a vs:=by
 have go:∀o,H a=some o->¬Mb o->H' a=some o:=λo e n=>s.keep a o e λz=>by
  obtain⟨u,e',m⟩:=s.mu a (s.wc a z);grind
 rcases h with(h |⟨o,h⟩) |h
 .exact .inl (.inl (go _ h λz=>z))
 .exact .inl (.inr ⟨o,go _ h λz=>z ⟩)
 .exact .inr h
theorem aZ.lat(s:aZ p H q H'){a:Addr}{vs:List V}(h:kU K p.c H a vs):kU K q.c H' a vs:=by
 rcases h with⟨h,n⟩|⟨o,h⟩|h
 .refine .inl ⟨s.keep a _ h λz=>n (s.wc a z),λz=>?_⟩
  rw[s.nc a z n]at h<;>grind
 .refine .inr (.inl ⟨o,s.keep a _ h λz=>?_⟩)
  obtain⟨u,e',m⟩:=s.mu a (s.wc a z);rw[h]at e';cases e';exact m
 .exact .inr (.inr h)
theorem aZ.oat(s:aZ p H q H'){a:Addr}{o:HO}(h:H a=some o/\¬p.c a):H' a=some o/\¬q.c a:=by
 refine⟨s.keep a _ h.1 λz=>h.2 (s.wc a z),λz=>?_⟩;have e:=s.nc a z h.2;rw[h.1]at e;cases e
theorem aZ.rep(s:aZ p H q H'){v:PV}{x:V}(h:aP K p.c H v x):aP K q.c H' v x:=aP.mono (λ_ _=>s.tup) (λ_ _=>s.lat) (λ_ _=>s.oat) v x h
theorem aZ.reps(s:aZ p H q H'){v:AH}{x:List V}(h:aM K p.c H v x):aM K q.c H' v x:=aM.mono (λ_ _=>s.tup) (λ_ _=>s.lat) (λ_ _=>s.oat) v x h
theorem aZ.at_(s:aZ p H q H'){k:Nat}{a:Addr}(h:p.f[k]?=some a):q.f[k]?=some a:=by
 obtain⟨t,e⟩:=s.pre;rw[<-e,fh (by
  have:=cq.mp h;exact this.1)]
 exact h
theorem aZ.repA(s:aZ p H q H'){v:AV}{x:V}(h:bI K p H v x):bI K q H' v x:=by
 cases v with
 |pv v=>exact s.rep h
 |ref k=>
  obtain⟨a,e,f⟩:=h;exact⟨a,s.at_ e,f⟩
theorem aZ.repE(s:aZ p H q H'){ρ:bJ}{σ:St}(h:bR K p H ρ σ):bR K q H' ρ σ:=
 ⟨h.len,λi v e=>let⟨x,e1,e2⟩:=h.at_ i v e;⟨x,e1,s.repA e2⟩⟩
theorem aO.same(s:aO K p S H)(h:bX H H'):aZ p H p H':=⟨s.wc,s.mu,jk,λ_ h=>h,λ_ h=>h,λ_ h g=>absurd h g,λ_ h g=>absurd h g,λ_ h g=>absurd h g,λa o e _=>h a o e⟩
theorem aO.ofSame(s:aO K p S H)(h:bX H H'):aO K p S H':=
 ⟨s.nd,s.len,s.sub,s.wc,λa m=>let⟨o,e,m⟩:=s.mu a m;⟨o,h a o e,m⟩,λk a o e1 e2=>(s.obj k a o e1 e2).mono (λvs e=>h _ _ e) (λb w f=>⟨⟨w,f⟩,λvs e=>h _ _ e⟩) λxs vs=>(s.same h).reps ⟩
theorem eP   (h:H a=none):bX H (aN H a o):=λb u e=>by
 rw[aX (cU e h)];exact e
end
section
variable{α β γ δ:Type}
def aU(K:aa)(cl:Str->Addr)(R:Ph->Hp->α->β->Prop)(p:Ph)(H:Hp)(r:bA α)(Q:β->Hp->Prop)(E:XK):Prop:=match r with
 |.ok a S=>∀q H' x,aZ p H q H'->aO K q S H'->R q H' a x->Q x H'
 |.exc n S=>∀q H',aZ p H q H'->aO K q S H'->E (.ref (cl n)) none H'
 |.fail=>False
def dA(K:aa)(cl:Str->Addr)(p:Ph)(H:Hp)(r:bY)(D:nP)(E:XK):Prop:=match r with
 |.nx ρ S=>∀q H' σ,aZ p H q H'->aO K q S H'->bR K q H' ρ σ->D.nx σ H'
 |.bk ρ S=>∀q H' σ,aZ p H q H'->aO K q S H'->bR K q H' ρ σ->D.bk σ H'
 |.ct ρ S=>∀q H' σ,aZ p H q H'->aO K q S H'->bR K q H' ρ σ->D.ct σ H'
 |.rt v S=>∀q H' x,aZ p H q H'->aO K q S H'->bI K q H' v x->D.rt x H'
 |.exc n S=>∀q H',aZ p H q H'->aO K q S H'->E (.ref (cl n)) none H'
 |.fail=>False
variable{K:aa}{cl:Str->Addr}{p q:Ph}{H H':Hp}{S:aL}{E:XK}{R:Ph->Hp->α->β->Prop}{R':Ph->Hp->γ->δ->Prop}
theorem aU.mono   (h:aU K cl R p H r Q E)(s:aZ p H q H'):aU K cl R q H' r Q E:=by
 cases r with
 |ok a S=>exact λq' H'' x s'=>h _ _ x (s.trans s')
 |exc n S=>exact λq' H'' s'=>h _ _ (s.trans s')
 |fail=>exact h
theorem dA.mono   (h:dA K cl p H r D E)(s:aZ p H q H'):dA K cl q H' r D E:=by
 cases r with
 |nx ρ S=>exact λq' H'' x s'=>h _ _ x (s.trans s')
 |bk ρ S=>exact λq' H'' x s'=>h _ _ x (s.trans s')
 |ct ρ S=>exact λq' H'' x s'=>h _ _ x (s.trans s')
 |rt v S=>exact λq' H'' x s'=>h _ _ x (s.trans s')
 |exc n S=>exact λq' H'' s'=>h _ _ (s.trans s')
 |fail=>exact h
theorem aU.ret   {Q:β->Hp->Prop}(h:aU K cl R p H (.ok a S) Q E)(s:aO K p S H)(r:R p H a x):Q x H:=h p H x s.step s r
theorem aU.same   {Q:β->Hp->Prop}(h:aU K cl R p H (.ok a S) Q E)(s:aO K p S H)(e:bX H H')(r:R p H' a x):Q x H':=h p _ x (s.same e) (s.ofSame e) r
def tP(K:aa)(cl:Str->Addr)(E:XK)(R:Ph->Hp->α->β->Prop)(m:bJ->aL->bA α)(σ:St)(H:Hp)(Q:β->Hp->Prop):Prop:=
 ∃p S ρ,aO K p S H/\bR K p H ρ σ/\aU K cl R p H (m ρ S) Q E
def tS(K:aa)(cl:Str->Addr)(E:XK)(m:bJ->aL->bY):TS:=λD σ H=>
 ∃p S ρ,aO K p S H/\bR K p H ρ σ/\dA K cl p H (m ρ S) D E
theorem aY   {ρ:bJ}{σ:St}{Q:δ->Hp->Prop}{T:β->Hp->Prop}(s:aO K p S H)(e:bR K p H ρ σ)(h:aU K cl R' p H ((m ρ S).bind k) Q E)
  (g:∀q H' a b S',aZ p H q H'->aO K q S' H'->bR K q H' ρ σ->R q H' a b->aU K cl R' q H' (k a S') Q E->T b H'):tP K cl E R m σ H T:=by
 refine⟨p,S,ρ,s,e,?_⟩;cases z:m _ S with
 |ok a S1=>
  rw[z]at h;exact λq H' b st sm r=>g q _ a b _ st sm (st.repE e) r (aU.mono  h st)
 |exc n S1=>
  rw[z]at h;exact h
 |fail=>
  rw[z]at h;exact h
def bY.of  (r:bA α)(k:α->aL->bY):bY:=match r with
 |.ok a S=>k a S
 |.exc n S=>.exc n S
 |.fail=>.fail
theorem jQ   {ρ:bJ}{σ:St}{D:nP}{T:β->Hp->Prop}(s:aO K p S H)(e:bR K p H ρ σ)(h:dA K cl p H (bY.of (m ρ S) k) D E)
  (g:∀q H' a b S',aZ p H q H'->aO K q S' H'->bR K q H' ρ σ->R q H' a b->dA K cl q H' (k a S') D E->T b H'):tP K cl E R m σ H T:=by
 refine⟨p,S,ρ,s,e,?_⟩;cases z:m _ S with
 |ok a S1=>
  rw[z]at h;exact λq H' b st sm r=>g q _ a b _ st sm (st.repE e) r (dA.mono  h st)
 |exc n S1=>
  rw[z]at h;exact h
 |fail=>
  rw[z]at h;exact h
end
end
abbrev RB:Ph->Hp->Bool->Bool->Prop:=λ_ _ a b=>a=b
abbrev ME:=bJ->aL->bA AV
abbrev MT:=bJ->aL->bA Bool
abbrev MA:=bJ->aL->bA AK
abbrev MS:=bJ->aL->bY
section
variable(K:aa)(cl:Str->Addr)(E:XK)(X:Cx)
def aI(e:ae)(m:ME):Prop:=X.K=K->PE X e (tP K cl E (bI K) m)
def cR(e:ae)(m:MT):Prop:=X.K=K->PT X e (tP K cl E RB m)
def jY(e:ae)(m:MT):Prop:=X.K=K->PW X e (tP K cl E RB m)
def cM(es:List ae)(m:MA):Prop:=X.K=K->PA X es (tP K cl E (fY K) m)
def cL(st:Stmt)(m:MS):Prop:=X.K=K->PS X st (tS K cl E m)
def eX(st:List Stmt)(m:MS):Prop:=X.K=K->dH X st (tS K cl E m)
end
theorem PA.imp    (h:PA X es t)(i:∀σ H Q,t' σ H Q->t σ H Q):PA X es t':=λpos AL s σ H Q I q=>h _ _ s _ H Q I (i _ H Q q)
theorem PW.imp    (h:PW X e t)(i:∀σ H Q,t' σ H Q->t σ H Q):PW X e t':=λwh AL s σ H Q I q=>h _ _ s _ H Q I (i _ H Q q)
def aC(i:Nat):ME:=λρ S=>match ρ[i]? with
 |some (some v)=>.ok v S
 |_=>.fail
def mC(v:PV):ME:=λ_ S=>.ok (.pv v) S
def rd(S:aL):AV->AI
 |.pv v=>some v
 |.ref k=>match S[k]? with
  |some (.lst xs)=>some (.lst xs)
  |_=>none
def iR(S:aL):AK->Option AH
 |[]=>some []
 |a::r=>match rd S a with
  |some v=>match iR S r with
   |some vs=>some (v::vs)
   |none=>none
  |none=>none
def gA(o:AI)(S:aL):bA AV:=match o with
 |some r=>.ok (.pv r) S
 |none=>.fail
def Za(f:PV->AI)(a:AV)(S:aL):bA AV:=gA ((rd S a).bind f) S
def iD(f:PV->PV->AI)(a b:AV)(S:aL):bA AV:=gA ((rd S a).bind λx=>(rd S b).bind λy=>f x y) S
def fA(f:PV->AI)(ma:ME):ME:=λρ S=>(ma ρ S).bind λx S1=>Za f x S1
def aE(f:PV->PV->AI)(ma mb:ME):ME:=λρ S=>(ma ρ S).bind λx S1=>(mb ρ S1).bind λy S2=>iD f x y S2
def aG:MA:=λ_ S=>.ok [] S
def aD(ma:ME)(mr:MA):MA:=λρ S=>(ma ρ S).bind λx S1=>(mr ρ S1).bind λxs S2=>.ok (x::xs) S2
def lD:AK->Option AH
 |[]=>some []
 |.pv v::r=>match lD r with
  |some vs=>some (v::vs)
  |none=>none
 |.ref _::_=>none
def qL(f:AH->AI)(xs:AK)(S:aL):bA AV:=gA ((lD xs).bind f) S
def nG(f:AH->AI)(xs:AK)(S:aL):bA AV:=gA ((iR S xs).bind f) S
def mR(f:AH->AI)(ma:MA):ME:=λρ S=>(ma ρ S).bind λxs S1=>nG f xs S1
def mN(f:AH->AI)(ma:MA):ME:=λρ S=>(ma ρ S).bind λxs S1=>qL f xs S1
def bU(vs:AH):AI:=if vs.length<=16777216 then some (.tup vs)else none
def lJ(vs:AH):AI:=if vs.length<=16777216 then some (.lst vs)else none
def lL:AV->aL->bA Bool
 |.pv (.bl b),S=>.ok b S
 |_,_=>.fail
def aV(m:ME):MT:=λρ S=>(m ρ S).bind lL
def nU(m:MT):MT:=λρ S=>(m ρ S).bind λb S1=>.ok (!b) S1
def mJ(m n:MT):MT:=λρ S=>(m ρ S).bind λb S1=>if b=true then n ρ S1 else .ok false S1
def jO(m n:MT):MT:=λρ S=>(m ρ S).bind λb S1=>if b=true then .ok true S1 else n ρ S1
def vA(m n:ME):ME:=λρ S=>(m ρ S).bind λx S1=>match x with
 |.pv (.bl true)=>n ρ S1
 |.pv (.bl false)=>.ok (.pv (.bl false)) S1
 |_=>.fail
def yJ(m n:ME):ME:=λρ S=>(m ρ S).bind λx S1=>match x with
 |.pv (.bl false)=>n ρ S1
 |.pv (.bl true)=>.ok (.pv (.bl true)) S1
 |_=>.fail
def Ht:PV->AI
 |.bl b=>some (.bl (!b))
 |_=>none
def mQ(c:MT)(a b:ME):ME:=λρ S=>(c ρ S).bind λt S1=>if t=true then a ρ S1 else b ρ S1
section
variable{K:aa}{cl:Str->Addr}{E:XK}{X:Cx}{a b c e:ae}{es:List ae}{ma mb m:ME}{mt nt:MT}{ms:MA}{pos:ai}
theorem Ra(i:Nat){x:Str}(hN:X.N[i]?=some x:=by rfl)(hv:lP X.env.scope x:=by first |exact cv rfl |exact cj (cv rfl) |exact cj (cj rfl))(hd:(x==("__debug__":Str))=false:=by decide)
  (hcd:(x==("__classdict__":Str))=false:=by decide):aI K cl E X (.Name x pos) (aC i):=λ_=>(nC hN hv hd hcd).imp λσ H Q ⟨p,S,ρ,s,e,h⟩=>by
 unfold aC at h;cases z:ρ[i]? with
 |none=>rw[z]at h;exact h.elim
 |some o=>
  cases o with
  |none=>rw[z]at h;exact h.elim
  |some v=>
   rw[z]at h;obtain⟨x,e1,e2⟩:=e.at_ i v z;exact⟨x,e1,aU.ret h s e2⟩
theorem uE  :aI K cl E X (.Constant (.int i) j pos) (mC (.int i)):=λ_=>Dr.imp λσ H Q ⟨p,S,ρ,s,e,h⟩=>aU.ret   h s rfl
theorem ab4  :aI K cl E X (.Constant (.bool i) j pos) (mC (.bl i)):=λ_=>ab5.imp λσ H Q ⟨p,S,ρ,s,e,h⟩=>aU.ret   h s rfl
theorem wU{i:Str}{j}:aI K cl E X (.Constant (.str i) j pos) (mC (.str i)):=λ_=>Zf.imp λσ H Q ⟨p,S,ρ,s,e,h⟩=>aU.ret (R:=bI K) (x:=.str i) h s (by show aP K p.c H (.str i) (.str i);unfold aP;rfl)
theorem Vq:aI K cl E X (.Constant .none j pos) (mC .non):=λ_=>Y6.imp λσ H Q ⟨p,S,ρ,s,e,h⟩=>aU.ret   h s rfl
def cY(K:aa)(p:Ph)(H:Hp)(v:PV)(x:V):Prop:=aP K p.c H v x\/∃xs a vs,v=.lst xs/\x=.ref a/\H a=some (.lst vs)/\vs.length<=sizeLine/\aM K p.c H xs vs
theorem cY.int     (h:cY K p H (.int i) x):x=.int i:=by
 rcases h with h |⟨_,_,_,e,_⟩
 .exact h
 .cases e
theorem cY.bl     (h:cY K p H (.bl i) x):x=.bl i:=by
 rcases h with h |⟨_,_,_,e,_⟩
 .exact h
 .cases e
theorem cY.str     (h:cY K p H (.str i) x):x=.str i:=by
 rcases h with h |⟨_,_,_,e,_⟩
 .exact h
 .cases e
theorem cY.non    (h:cY K p H .non x):x=.non:=by
 rcases h with h |⟨_,_,_,e,_⟩
 .exact h
 .cases e
theorem cY.dct{p:Ph}{H:Hp}{ns:List Str}{fs:AH}{x:V}(h:cY K p H (.dct ns fs) x):∃a vs,x=.ref a/\(H a=some (.dK (cA ns vs))/\¬p.c a)/\ns.length=vs.length/\aM K p.c H fs vs:=by
 rcases h with h |⟨_,_,_,e,_⟩
 .unfold aP at h;exact h
 .cases e
theorem cY.tup     (h:cY K p H (.tup xs) x):∃a vs,x=.ref a/\cJ K H a vs/\vs.length<=sizeLine/\aM K p.c H xs vs:=by
 rcases h with h |⟨_,_,_,e,_⟩
 .exact h
 .cases e
theorem cY.lst     (h:cY K p H (.lst xs) x):∃a vs,x=.ref a/\bL K H a vs/\vs.length<=sizeLine/\aM K p.c H xs vs:=by
 rcases h with h |⟨ys,a,vs,e,e2,h,z,r⟩
 .obtain⟨a,vs,e,l,z,r⟩:=h
  exact⟨a,vs,e,l.sq,z,r⟩
 .cases e
  exact⟨a,vs,e2,bL.of h,z,r⟩
theorem qK{p:Ph}{S:aL}{H:Hp}{a:AV}{v:PV}{x:V}(s:aO K p S H)(r:bI K p H a x)(e:rd S a=some v):cY K p H v x:=by
 cases a with
 |pv u=>cases e;exact .inl r
 |ref k=>
  obtain⟨a,e1,rfl⟩:=r;unfold rd at e;cases z:S[k]? with
  |none=>simp only[z]at e;cases e
  |some o=>
   cases o with
   |lst xs=>
    simp only[z]at e;cases e;obtain⟨vs,h,l,r⟩:=s.obj k a _ e1 z;exact .inr ⟨xs,a,vs,rfl,rfl,h,l,r⟩
   |lol _=>simp only[z]at e;cases e
   |dic _ _=>simp only[z]at e;cases e
   |dol _ _=>simp only[z]at e;cases e
   |dsk _ _ _=>simp only[z]at e;cases e
   |tdc _ _=>simp only[z]at e;cases e
abbrev Ds(K:aa)(p:Ph)(H:Hp):AH->List V->Prop:=io (cY K p H)
theorem Be  {S:aL}{H:Hp}(s:aO K p S H):∀{as:AK}{vs:AH}{xs:List V},fY K p H as xs->iR S as=some vs->Ds K p H vs xs
 |[],vs,_,.nil,e=>by
  cases e;exact .nil
 |a::r,vs,_,.cons h t,e=>by
  unfold iR at e;cases z:rd S a with
  |none=>simp_all
  |some v=>
   simp only[z]at e;cases y:iR S r with
   |none=>simp_all
   |some us=>
    simp only[y]at e;cases e;exact .cons (qK s h z) (Be s t y)
def eG(K:aa)(r:R2)(f:PV->PV->AI):Prop:=∀{p:Ph}{S:aL}{H:Hp}{a b c:PV}{x y:V}{Q:VK},aO K p S H->cY K p H a x->cY K p H b y->f a b=some c->
 (∀H' z,bX H H'->aP K p.c H' c z->Q z H')->r x y H Q
def Zh(K:aa)(r:V->Hp->VK->Prop)(f:PV->AI):Prop:=∀{p:Ph}{S:aL}{H:Hp}{a c:PV}{x:V}{Q:VK},aO K p S H->cY K p H a x->f a=some c->
 (∀H' z,bX H H'->aP K p.c H' c z->Q z H')->r x H Q
def CaS(K:aa)(r:List V->Hp->VK->Prop)(f:AH->AI):Prop:=∀{p:Ph}{S:aL}{H:Hp}{as:AH}{c:PV}{xs:List V}{Q:VK},aO K p S H->aM K p.c H as xs->f as=some c->
 (∀H' z,bX H H'->aP K p.c H' c z->Q z H')->r xs H Q
def kC(K:aa)(r:List V->Hp->VK->Prop)(f:AH->AI):Prop:=∀{p:Ph}{S:aL}{H:Hp}{as:AH}{c:PV}{xs:List V}{Q:VK},aO K p S H->Ds K p H as xs->f as=some c->
 (∀H' z,bX H H'->aP K p.c H' c z->Q z H')->r xs H Q
theorem mY     {Q:VK}(s:aO K p S H)(h:aU K cl (bI K) p H (gA o S) Q E):∃c,o=some c/\∀H' z,bX H H'->aP K p.c H' c z->Q z H':=by
 cases o with
 |none=>exact h.elim
 |some c=>exact⟨c,rfl,λH' z sm rz=>aU.same  h s sm rz⟩
theorem oI   (hf:eG K r f){p:Ph}{S:aL}{H:Hp}{a b:AV}{x y:V}{Q:VK}(s:aO K p S H)(ra:bI K p H a x)(rb:bI K p H b y)(h:aU K cl (bI K) p H (iD f a b S) Q E):r x y H Q:=by
 obtain⟨c,e,k⟩:=mY s h;cases z:rd S a with
 |none=>simp_all
 |some v=>
  cases y:rd S b with
  |none=>simp_all
  |some w=>
   rw[z,y]at e;exact hf s (qK s ra z) (qK s rb y) e k
theorem Sl   (hf:Zh K r f){p:Ph}{S:aL}{H:Hp}{a:AV}{x:V}{Q:VK}(s:aO K p S H)(ra:bI K p H a x)(h:aU K cl (bI K) p H (Za f a S) Q E):r x H Q:=by
 obtain⟨c,e,k⟩:=mY s h;cases z:rd S a with
 |none=>simp_all
 |some v=>
  rw[z]at e;exact hf s (qK s ra z) e k
theorem Il   (hf:kC K r f){p:Ph}{S:aL}{H:Hp}{as:AK}{xs:List V}{Q:VK}(s:aO K p S H)(ra:fY K p H as xs)(h:aU K cl (bI K) p H (nG f as S) Q E):r xs H Q:=by
 obtain⟨c,e,k⟩:=mY s h;cases z:iR S as with
 |none=>simp_all
 |some v=>
  rw[z]at e;exact hf s (Be s ra z) e k
theorem zJ  :∀{as:AK}{vs:AH}{xs:List V},lD as=some vs->fY K p H as xs->aM K p.c H vs xs
 |[],vs,_,e,.nil=>by
  cases e;exact .nil
 |.pv v::r,vs,_,e,.cons h t=>by
  unfold lD at e;cases z:lD r with
  |none=>simp only[z]at e;cases e
  |some us=>
   simp only[z]at e;cases e;exact .cons h (zJ z t)
 |.ref k::r,vs,_,e,.cons h t=>by
  cases e
theorem Je   (hf:CaS K r f){p:Ph}{S:aL}{H:Hp}{as:AK}{xs:List V}{Q:VK}(s:aO K p S H)(ra:fY K p H as xs)(h:aU K cl (bI K) p H (qL f as S) Q E):r xs H Q:=by
 obtain⟨c,e,k⟩:=mY s h;cases z:lD as with
 |none=>simp_all
 |some v=>
  rw[z]at e;exact hf s (zJ z ra) e k
theorem qT    (ho:cN X (binaryOp op) r)(hf:eG X.K r f)(ha:aI K cl E X a ma)(hb:aI K cl E X b mb):aI K cl E X (.BinOp a op b pos) (aE f ma mb):=by
 intro hK;subst hK;refine(Ss ho (ha rfl) (hb rfl)).imp ?_
 rintro σ H Q ⟨p,S,ρ,s,e,h⟩
 exact aY s e h λq H1 a x S1 st s1 e1 r1 h1=>aY s1 e1 h1 λq2 H2 b y S2 st2 s2 e2 r2 h2=>oI hf s2 (st2.repA r1) r2 h2
theorem abQ    (ho:Mc X (unaryOp op) r)(hf:Zh X.K r f)(ha:aI K cl E X a ma):aI K cl E X (.UnaryOp op a pos) (fA f ma):=by
 intro hK;subst hK;refine(acl ho (ha rfl)).imp ?_
 rintro σ H Q ⟨p,S,ρ,s,e,h⟩
 exact aY s e h λq H1 a x S1 st s1 e1 r1 h1=>Sl hf s1 r1 h1
theorem oP    (ho:cN X (compareOp op) r)(hf:eG X.K r f)(ha:aI K cl E X a ma)(hb:aI K cl E X b mb)(hm:behindInMarks op b=false):aI K cl E X (.Compare a [op] [b] pos) (aE f ma mb):=by
 intro hK;subst hK;refine(O3 ho (ha rfl) (hb rfl) hm).imp ?_
 rintro σ H Q ⟨p,S,ρ,s,e,h⟩
 exact aY s e h λq H1 a x S1 st s1 e1 r1 h1=>aY s1 e1 h1 λq2 H2 b y S2 st2 s2 e2 r2 h2=>oI hf s2 (st2.repA r1) r2 h2
theorem xO     (r:bI K p H v x){b:Bool}(e:v=.pv (.bl b)):x=.bl b:=by
 subst e;exact r
theorem Le       (s:aO K p S H)(r:bI K p H v x)
  (h:aU K cl RB p H (lL v S) Q E):∃k,x=.bl k/\Q k H:=by
 cases v with
 |ref k=>exact h.elim
 |pv v=>
  cases v with
  |bl b=>exact⟨b,xO r rfl,aU.ret  h s rfl⟩
  |_=>exact h.elim
theorem wI    (ho:cN X (compareOp op) r)(hf:eG X.K r f)(ha:aI K cl E X a ma)(hb:aI K cl E X b mb)(hm:behindInMarks op b=false):cR K cl E X (.Compare a [op] [b] pos) (aV (aE f ma mb)):=by
 intro hK;subst hK;refine(Q6 ho (ha rfl) (hb rfl) hm).imp ?_
 rintro σ H Q ⟨p,S,ρ,s,e,h⟩
 have z:tP _ _ E (bI _) _ _ H _:=aY s e h λq H1 a x S1 st s1 e1 r1 h1=>Le s1 r1 h1;obtain⟨p',S',ρ',s',e',h'⟩:=z;exact aY s' e' h' λq H1 a x S1 st s1 e1 r1 h1=>aY s1 e1 h1 λq2 H2 b y S2 st2 s2 e2 r2 h2=>oI hf s2 (st2.repA r1) r2 h2
theorem X2(ha:aI K cl E X a ma)(he:∀whole,isTrue a X.env whole=(do let v <-whole;standAt a.pos;holding [v] (truthy v)):=by intro _;rfl):cR K cl E X a (aV ma):=by
 intro hK;subst hK;refine(aar (ha rfl) he).imp ?_
 rintro σ H Q ⟨p,S,ρ,s,e,h⟩
 exact aY s e h λq H1 a x S1 st s1 e1 r1 h1=>Le s1 r1 h1
theorem O6(ha:cR K cl E X a mt):cR K cl E X (.UnaryOp .Not a pos) (nU mt):=by
 intro hK;subst hK;refine(aaO (ha rfl)).imp ?_
 rintro σ H Q ⟨p,S,ρ,s,e,h⟩
 exact aY s e h λq H1 a x S1 st s1 e1 r1 h1=>by
  cases r1;exact aU.ret  h1 s1 rfl
theorem N5(ha:cR K cl E X a mt):jY K cl E X (.BoolOp .And [a] pos) mt:=λhK=>P4 (ha hK)
theorem U2(ha:cR K cl E X a mt):jY K cl E X (.BoolOp .Or [a] pos) mt:=λhK=>aaC (ha hK)
theorem jY.pt(h:jY K cl E X a mt):cR K cl E X a mt:=λhK=>PW.pt (h hK)
theorem X0{eE:List ae}(ha:cR K cl E X a mt)(hb:jY K cl E X (.BoolOp .And (b::eE) pos) nt):jY K cl E X (.BoolOp .And (a::b::eE) pos) (mJ mt nt):=by
 intro hK;subst hK;refine PW.imp (aaH (ha rfl) (hb rfl)) ?_
 rintro σ H Q ⟨p,S,ρ,s,e,h⟩
 refine aY s e h λq H1 a x S1 st s1 e1 r1 h1=>?_;cases r1;cases a with
 |true=>exact⟨q,S1,ρ,s1,e1,h1⟩
 |false=>exact aU.ret  h1 s1 rfl
theorem aaS{eE:List ae}(ha:cR K cl E X a mt)(hb:jY K cl E X (.BoolOp .Or (b::eE) pos) nt):jY K cl E X (.BoolOp .Or (a::b::eE) pos) (jO mt nt):=by
 intro hK;subst hK;refine PW.imp (acS (ha rfl) (hb rfl)) ?_
 rintro σ H Q ⟨p,S,ρ,s,e,h⟩
 refine aY s e h λq H1 a x S1 st s1 e1 r1 h1=>?_;cases r1;cases a with
 |true=>exact aU.ret  h1 s1 rfl
 |false=>exact⟨q,S1,ρ,s1,e1,h1⟩
theorem aaZ{eE:List ae}(ha:aI K cl E X a ma)(hb:aI K cl E X (.BoolOp .And (b::eE) pos) mb):aI K cl E X (.BoolOp .And (a::b::eE) pos) (vA ma mb):=by
 intro hK;subst hK;refine(aav (ha rfl) (hb rfl)).imp ?_
 rintro σ H Q ⟨p,S,ρ,s,e,h⟩
 refine aY s e h λq H1 a x S1 st s1 e1 r1 h1=>?_;cases a with
 |ref k=>exact h1.elim
 |pv v=>
  cases v with
  |bl b=>
   refine⟨b,xO r1 rfl,?_⟩;cases b with
   |true=>exact⟨q,S1,ρ,s1,e1,h1⟩
   |false=>exact aU.ret  h1 s1 (by rfl)
  |_=>exact h1.elim
theorem abV{eE:List ae}(ha:aI K cl E X a ma)(hb:aI K cl E X (.BoolOp .Or (b::eE) pos) mb):aI K cl E X (.BoolOp .Or (a::b::eE) pos) (yJ ma mb):=by
 intro hK;subst hK;refine(acf (ha rfl) (hb rfl)).imp ?_
 rintro σ H Q ⟨p,S,ρ,s,e,h⟩
 refine aY s e h λq H1 a x S1 st s1 e1 r1 h1=>?_;cases a with
 |ref k=>exact h1.elim
 |pv v=>
  cases v with
  |bl b=>
   refine⟨b,xO r1 rfl,?_⟩;cases b with
   |true=>exact aU.ret (R:=bI X.K) h1 s1 (by show aP X.K q.c H1 _ _;unfold aP;rfl)
   |false=>exact⟨q,S1,ρ,s1,e1,h1⟩
  |_=>exact h1.elim
theorem acy(hc:cR K cl E X c mt)(ha:aI K cl E X a ma)(hb:aI K cl E X b mb):aI K cl E X (.IfExp c a b pos) (mQ mt ma mb):=by
 intro hK;subst hK;refine(O0 (hc rfl) (ha rfl) (hb rfl)).imp ?_
 rintro σ H Q ⟨p,S,ρ,s,e,h⟩
 refine aY s e h λq H1 a x S1 st s1 e1 r1 h1=>?_;cases r1;cases a with
 |true=>exact⟨q,S1,ρ,s1,e1,h1⟩
 |false=>exact⟨q,S1,ρ,s1,e1,h1⟩
theorem tY:cM K cl E X [] aG:=λ_=>PA.imp lZ λσ H Q ⟨p,S,ρ,s,e,h⟩=>aU.ret  h s .nil
theorem lS(ha:aI K cl E X e m)(hr:cM K cl E X es ms)(hs:starEach (e::es) X.env=(false,eval e X.env)::starEach es X.env:=by rfl):cM K cl E X (e::es) (aD m ms):=by
 intro hK;subst hK;refine PA.imp (nA (ha rfl) (hr rfl) hs) ?_
 rintro σ H Q ⟨p,S,ρ,s,e,h⟩
 exact aY s e h λq H1 a x S1 st s1 e1 r1 h1=>aY s1 e1 h1 λq2 H2 b y S2 st2 s2 e2 r2 h2=>aU.ret  h2 s2 (.cons (st2.repA r1) r2)
theorem oM       (s:aO K p S H)(r:aM K p.c H vs xs)(z:xs.length<=sizeLine)(ht:H t=none):aP K p.c (aN H t (.tup xs)) (.tup vs) (.ref t):=⟨t,xs,rfl,cJ.of cD,z,(s.same (eP ht)).reps r⟩
theorem mZ       (s:aO K p S H)(r:aM K p.c H vs xs)(z:xs.length<=sizeLine)(ht:H t=none):aP K p.c (aN H t (.lst xs)) (.lst vs) (.ref t):=by
 refine⟨t,xs,rfl,.inl ⟨cD,λc=>?_⟩,z,(s.same (eP ht)).reps r⟩;obtain⟨o,e,_⟩:=s.mu t c;grind
theorem fG:sizeLine=16777216:=fe
theorem xJ  (h:cM K cl E X es ms):aI K cl E X (.Tuple es x1 pos) (mN bU ms):=by
 intro hK;subst hK;refine(Xp (h rfl)).imp ?_
 rintro σ H Q ⟨p,S,ρ,s,e,h⟩
 refine aY s e h λq H1 as xs S1 st s1 e1 r1 h1=>?_;refine Je (r:=λxs H Q=>xs.length<=sizeLine/\∀t,H t=none->Q (.ref t) (aN H t (.tup xs)))  (λ{p S H as c xs Q} s r e k=>?_) s1 r1 h1;unfold bU at e;split at e
 .rename_i hl
  cases e;rw[r.length]at hl;exact⟨hl,λt ht=>k _ _ (eP ht) (oM s r hl ht)⟩
 .cases e
theorem aaz(h:cM K cl E X es ms):aI K cl E X (.List es pos) (mN lJ ms):=by
 intro hK;subst hK;refine(wZ (h rfl)).imp ?_
 rintro σ H Q ⟨p,S,ρ,s,e,h⟩
 refine aY s e h λq H1 as xs S1 st s1 e1 r1 h1=>?_;refine Je (r:=λxs H Q=>xs.length<=sizeLine/\∀t,H t=none->Q (.ref t) (aN H t (.lst xs)))  (λ{p S H as c xs Q} s r e k=>?_) s1 r1 h1;unfold lJ at e;split at e
 .rename_i hl
  cases e;rw[r.length]at hl;exact⟨hl,λt ht=>k _ _ (eP ht) (mZ s r hl ht)⟩
 .cases e
end
section
open PySem PySem.Spec PyProof.Rows Bn
def cE:MS:=λρ S=>.nx ρ S
def aQ(a b:MS):MS:=λρ S=>match a ρ S with
 |.nx ρ1 S1=>b ρ1 S1
 |r=>r
def eW(m:ME):MS:=λρ S=>bY.of (m ρ S) λ_ S1=>.nx ρ S1
def bC(m:ME):MS:=λρ S=>bY.of (m ρ S) λv S1=>.rt v S1
def Ks:MS:=λ_ S=>.rt (.pv .non) S
def bV(c:MT)(a b:MS):MS:=λρ S=>bY.of (c ρ S) λt S1=>if t=true then a ρ S1 else b ρ S1
def aW(i:Nat)(m:ME):MS:=λρ S=>bY.of (m ρ S) λv S1=>.nx (ρ.set i (some v)) S1
def adF(i j:Nat)(m:MA):MS:=λρ S=>bY.of (m ρ S) λvs S1=>match vs with
 |[v,w]=>.nx ((ρ.set i (some v)).set j (some w)) S1
 |_=>.fail
abbrev GM:=PV->bJ->Option bJ
abbrev rL:=AH->bJ->Option bJ
def gN(i:Nat):GM:=λv ρ=>some (ρ.set i (some (.pv v)))
def kF:rL:=λvs ρ=>match vs with
 |[]=>some ρ
 |_=>none
def fP(g:GM)(gs:rL):rL:=λvs ρ=>match vs with
 |[]=>none
 |v::r=>match g v ρ with
  |some ρ1=>gs r ρ1
  |none=>none
def gT(n:Nat)(gs:rL):GM:=λv ρ=>match v with
 |.tup vs=>if vs.length=n then gs vs ρ else none
 |_=>none
def vH(g:GM)(m:ME):MS:=λρ S=>bY.of (m ρ S) λv S1=>match v with
 |.pv v=>match g v ρ with
  |some ρ1=>.nx ρ1 S1
  |none=>.fail
 |_=>.fail
abbrev Gd:=List (Nat×AH)
def iC(G:Gd)(S:aL):Prop:=∀g∈G,S[g.1]?=some (.lst g.2)
theorem oK(S:aL):iC [] S:=λ_ h=>nomatch h
abbrev MI:=bJ->aL->bA (AH×Gd)
open Classical in
def fW(G:Gd)(g:GM)(mb:MS):AH->bJ->aL->bY
 |[],ρ,S=>if iC G S then .nx ρ S else .fail
 |x::r,ρ,S=>if iC G S then(match g x ρ with
  |none=>.fail
  |some ρ1=>match mb ρ1 S with
   |.nx ρ2 S2=>fW G g mb r ρ2 S2
   |.ct ρ2 S2=>fW G g mb r ρ2 S2
   |.bk ρ2 S2=>.nx ρ2 S2
   |.rt v S2=>.rt v S2
   |.exc n S2=>.exc n S2
   |.fail=>.fail)else .fail
def hX(mi:MI)(g:GM)(mb:MS):MS:=λρ S=>bY.of (mi ρ S) λxs S1=>fW xs.2 g mb xs.1 ρ S1
theorem Xd    :fW [] g mb [] ρ S=.nx ρ S:=by
 unfold fW;rw[if_pos (oK S)]
theorem zN      :fW [] g mb (x::r) ρ S=(match g x ρ with
  |none=>.fail
  |some ρ1=>match mb ρ1 S with
   |.nx ρ2 S2=>fW [] g mb r ρ2 S2
   |.ct ρ2 S2=>fW [] g mb r ρ2 S2
   |.bk ρ2 S2=>.nx ρ2 S2
   |.rt v S2=>.rt v S2
   |.exc n S2=>.exc n S2
   |.fail=>.fail):=by
 rw[fW,if_pos (oK S)]
def fI(c:MT)(mb:MS):Nat->bJ->aL->bY
 |0,_,_=>.fail
 |n+1,ρ,S=>bY.of (c ρ S) λt S1=>if t=true then(match mb ρ S1 with
   |.nx ρ2 S2=>fI c mb n ρ2 S2
   |.ct ρ2 S2=>fI c mb n ρ2 S2
   |.bk ρ2 S2=>.nx ρ2 S2
   |.rt v S2=>.rt v S2
   |.exc n S2=>.exc n S2
   |.fail=>.fail)else .nx ρ S1
open Classical in
def qF(c:MT)(mb:MS):MS:=λρ S=>if h:∃n,fI c mb n ρ S≠.fail then fI c mb h.choose ρ S else .fail
theorem bY.of_ok   {k k':α->aL->bY}(h:∀a S,k a S≠.fail->k' a S=k a S)(n:bY.of r k≠.fail):bY.of r k'=bY.of r k:=by
 cases r with
 |ok a S=>exact h a S n
 |exc=>rfl
 |fail=>rfl
theorem Hd  {mb:MS}:∀{n:Nat}{ρ:bJ}{S:aL},fI c mb n ρ S≠.fail->fI c mb (n+1) ρ S=fI c mb n ρ S
 |0,_,_,h=>absurd rfl h
 |n+1,ρ,S,h=>by
  refine bY.of_ok (λt S1 h1=>?_) h
  by_cases ht:t=true
  .simp only[if_pos ht]at h1⊢
   cases z:mb _ _ with
   |nx ρ2 S2=>rw[z]at h1;exact Hd h1
   |ct ρ2 S2=>rw[z]at h1;exact Hd h1
   |_=>rfl
  .simp_all
theorem Od      (h:fI c mb n ρ S≠.fail):∀k,fI c mb (n+k) ρ S=fI c mb n ρ S
 |0=>rfl
 |k+1=>by
  have ih:=Od h k;rw[<-Nat.add_assoc,Hd (by rw[ih];exact h),ih]
theorem Dm    {ρ:bJ}{S:aL}{r:bY}(e:fI c mb n ρ S=r)(h:r≠.fail):qF c mb ρ S=r:=by
 have h':∃n,fI c _ n _ S≠.fail:=⟨n,by rw[e];exact h⟩;unfold qF;rw[dif_pos h'];have e2:=h'.choose_spec;rcases Nat.le_total n h'.choose with l |l
 .obtain⟨k,q⟩:=za l
  rw[q,Od (by rw[e];exact h),e]
 .obtain⟨k,q⟩:=za l
  have z:=Od e2 k
  simp_all
section
variable{K:aa}{cl:Str->Addr}{E:XK}{X:Cx}{a b c e tg:ae}{es:List ae}{m:ME}{mt:MT}{ms:MA}{b1 b2:MS}{st:Stmt}{sts sts':List Stmt}{pos:ai}
theorem bR.set   {ρ:bJ}{σ:St}{v:AV}{x:V}(h:bR K p H ρ σ)(r:bI K p H v x)(i:Nat):bR K p H (ρ.set i (some v)) (σ.set i (some x)):=by
 refine⟨by rw[gm,gm,h.len],λj u e=>?_⟩
 by_cases q:i=j
 .subst q
  by_cases l:i<ρ.length
  .rw[fw l]at e
   cases e;exact⟨x,fw (by rw[<-h.len];exact l),r⟩
  .simp_all
 .rw[fj q]at e⊢
  exact h.at_ j u e
theorem J8:eX K cl E X [] cE:=λ_=>dH.imp wQ λD σ H ⟨p,S,ρ,s,e,h⟩=>h p H _ s.step s e
theorem dA.nxD      (h:dA K cl p H (.nx ρ S) D E){σ:St}(s:aO K p S H)(e:bR K p H ρ σ):D.nx σ H:=h p H _ s.step s e
theorem zP(h1:cL K cl E X st b1)(h2:eX K cl E X sts b2):eX K cl E X (st::sts) (aQ b1 b2):=by
 intro hK;subst hK;refine dH.imp (mX (h1 rfl) (h2 rfl)) λD σ H ⟨p,S,ρ,s,e,h⟩=>⟨p,S,ρ,s,e,?_⟩;unfold aQ at h;cases z:b1 ρ S with
 |nx ρ1 S1=>
  rw[z]at h;exact λq H' σ' stp sm ev=>⟨q,S1,ρ1,sm,ev,dA.mono  h stp⟩
 |bk ρ1 S1=>rw[z]at h;exact h
 |ct ρ1 S1=>rw[z]at h;exact h
 |rt v S1=>rw[z]at h;exact h
 |exc n S1=>rw[z]at h;exact h
 |fail=>rw[z]at h;exact h
theorem Cn(h1:cL K cl E X st b1):eX K cl E X [st] b1:=λhK=>Fp (h1 hK)
theorem E6(he:aI K cl E X e m)(hs:swapsWith e none pos.line X.env=pure false:=by rfl):cL K cl E X (.Expr e pos) (eW m):=by
 intro hK;subst hK;refine PS.imp (Rf (he rfl) hs) ?_
 rintro D σ H ⟨p,S,ρ,s,e,h⟩
 exact jQ s e h λq H' a b S' stp sm ev r k=>dA.nxD k sm ev
theorem Gp(he:aI K cl E X e m):cL K cl E X (.Return (some e) pos) (bC m):=by
 intro hK;subst hK;refine PS.imp (Z3 (he rfl)) ?_
 rintro D σ H ⟨p,S,ρ,s,e,h⟩
 exact jQ s e h λq H' a b S' stp sm ev r k=>k q _ b sm.step sm r
theorem aat(hc:cR K cl E X c mt)(ha:eX K cl E X sts b1)(hb:eX K cl E X sts' b2):cL K cl E X (.If c sts sts' pos) (bV mt b1 b2):=by
 intro hK;subst hK;refine PS.imp (Os (hc rfl) (ha rfl) (hb rfl)) ?_
 rintro D σ H ⟨p,S,ρ,s,e,h⟩
 refine jQ s e h λq H' a b S' stp sm ev r k=>?_;cases r;cases a with
 |true=>exact⟨q,S',ρ,sm,ev,k⟩
 |false=>exact⟨q,S',ρ,sm,ev,k⟩
theorem Da    (hN:X.N.Nodup)(hi:X.N[i]?=some x)(hx:iJ X.env.scope x)(he:aI K cl E X e m)(hs:swapsWith e (some (.Name x pos')) pos.line X.env=pure false:=by rfl)
  (hf:X.fn x=true\/X.env.scope.names.lookup x=some .local:=by first |exact .inl rfl |exact .inr rfl |assumption):cL K cl E X (.Assign [.Name x pos'] e pos) (aW i m):=by
 intro hK;subst hK;refine PS.imp (Gg hN hi hx (he rfl) hs hf) ?_
 rintro D σ H ⟨p,S,ρ,s,e,h⟩
 exact jQ s e h λq H' a b S' stp sm ev r k=>dA.nxD k sm (ev.set r i)
def gP(K:aa)(g:GM):TG:=λx σ H Q=>∃p S ρ v ρ',aO K p S H/\bR K p H ρ σ/\aP K p.c H v x/\g v ρ=some ρ'/\∀σ',bR K p H ρ' σ'->Q σ' H
def gPs(K:aa)(g:rL):pP:=λxs σ H Q=>∃p S ρ vs ρ',aO K p S H/\bR K p H ρ σ/\aM K p.c H vs xs/\g vs ρ=some ρ'/\∀σ',bR K p H ρ' σ'->Q σ' H
variable(K X)
def kS(tg:ae)(g:GM):Prop:=X.K=K->PG X tg (gP K g)
def vF(ts:List ae)(g:rL):Prop:=X.K=K->mM X ts (gPs K g)
variable{K X}
theorem PG.imp   (h:PG X tg t)(i:∀x σ H Q,t' x σ H Q->t x σ H Q):PG X tg t':=λAL s σ H v u Q I r q=>h _ s _ H v u Q I r (i v _ H Q q)
theorem mM.imp   (h:mM X ts t)(i:∀x σ H Q,t' x σ H Q->t x σ H Q):mM X ts t':=λAL s σ H v u Q I r q=>h _ s _ H v u Q I r (i v _ H Q q)
theorem N2   (hN:X.N.Nodup)(hi:X.N[i]?=some x)(hx:iJ X.env.scope x)(hf:X.fn x=true\/X.env.scope.names.lookup x=some .local:=by first |exact .inl rfl |exact .inr rfl |assumption):kS K X (.Name x pos) (gN i):=
 λ_=>PG.imp (V4 hN hi hx hf) λx σ H Q ⟨p,S,ρ,v,ρ',s,ev,r,g,k⟩=>by
  cases g;exact k _ (ev.set (v:=.pv v) r i)
theorem D7:vF K X [] kF:=λ_=>mM.imp Q1 λxs σ H Q ⟨p,S,ρ,vs,ρ',s,ev,r,g,k⟩=>by
 cases vs with
 |nil=>
  cases g;exact⟨r,k _ ev⟩
 |cons _ _=>cases g
theorem B0   (h1:kS K X e g)(h2:vF K X es gs)(hs:(assignEach (e::es) X.env).map (·.2)=assign e X.env::(assignEach es X.env).map (·.2):=by rfl):vF K X (e::es) (fP g gs):=by
 intro hK;subst hK;refine mM.imp (E9 (h1 rfl) (h2 rfl) hs) ?_
 rintro xs σ H Q ⟨p,S,ρ,vs,ρ',s,ev,r,g1,k⟩
 cases vs with
 |nil=>cases g1
 |cons v vr=>
  obtain⟨x,xr,rfl,r1,r2⟩:=r;unfold fP at g1;cases z:g v ρ with
  |none=>simp_all
  |some ρ1=>
   simp only[z]at g1;exact⟨x,xr,rfl,p,S,ρ,v,ρ1,s,ev,r1,z,λσ' ev'=>⟨p,S,ρ1,vr,ρ',s,ev',r2,g1,k⟩⟩
theorem Q7{k:Nat}{gs:rL}{n:Nat}(hc:X.calm=true)(h:vF K X es gs)(hn:(assignEach es X.env).length=n:=by rfl)(hst:(assignEach es X.env).findIdx? (·.1)=none:=by rfl):kS K X (.Tuple es k pos) (gT n gs):=by
 intro hK;subst hK;refine PG.imp (abv hc (h rfl) hn hst) ?_
 rintro x σ H Q ⟨p,S,ρ,v,ρ',s,ev,r,g1,k⟩
 cases v with
 |tup vs=>
  obtain⟨a,xs,rfl,t,z,r⟩:=r;unfold gT at g1;dsimp only at g1;split at g1
  .rename_i hl
   exact⟨a,xs,rfl,t,r.length.symm.trans hl,p,S,ρ,vs,ρ',s,ev,r,g1,k⟩
  .cases g1
 |_=>cases g1
theorem S8{g:GM}(he:aI K cl E X e m)(hg:kS K X tg g)(hs:swapsWithSole [tg] e pos.line X.env=pure false:=by rfl)(hw:swappedStores [tg] e X.env=pure none:=by rfl)
  (h1:(assignEach [tg] X.env).map (·.2)=[assign tg X.env]:=by rfl):cL K cl E X (.Assign [tg] e pos) (vH g m):=by
 intro hK;subst hK;refine PS.imp (Zp (he rfl) (hg rfl) hs hw h1) ?_
 rintro D σ H ⟨p,S,ρ,s,e,h⟩
 refine jQ s e h λq H' a b S' stp sm ev r k=>?_;cases a with
 |ref k'=>exact k.elim
 |pv v=>
  dsimp only at k;cases z:g v ρ with
  |none=>simp only[z]at k;exact k.elim
  |some ρ1=>
   simp only[z]at k;exact⟨q,S',ρ,v,ρ1,sm,ev,r,z,λσ' ev'=>dA.nxD k sm ev'⟩
def eD(K:aa)(p:Ph)(H:Hp)(xs:AH×Gd)(J:It):Prop:=xs.1.length<=sizeLine/\∀q H1 S1,aZ p H q H1->aO K q S1 H1->iC xs.2 S1->
 (∀(i:Nat)(v:PV),xs.1[i]?=some v->J.go i H1/\∀x H2,J.yld i H1 x H2->bX H1 H2/\aP K q.c H2 v x)/\J.stop xs.1.length H1
theorem eD.step  {H H':Hp}{xs:AH×Gd}{J:It}(h:eD K p H xs J)(s:aZ p H q H'):eD K q H' xs J:=⟨h.1,λr H1 S1 t=>h.2 r _ _ (s.trans t)⟩
variable(K cl E X)
def iA(tg iter:ae)(m:MI):Prop:=X.K=K->PI X tg iter (tP K cl E (eD K) m)
variable{K cl E X}
theorem PI.imp   (h:PI X tg iter t)(i:∀σ H Q,t' σ H Q->t σ H Q):PI X tg iter t':=λAL s σ H R I q=>h _ s _ H R I (i _ H R q)
def adl(K:aa)(tl:TE):TI:=λσ H R=>tl σ H λx H1=>∃a,x=.ref a/\(((∃xs,bL K H1 a xs)/\R (Wc K a) H1)\/((∃xs,cJ K H1 a xs)/\R (Qh K a) H1))
theorem aah   (hl:PE X l tl):PI X tg l (adl X.K tl):=by
 intro AL s σ H R I h;refine aR (hl _ s σ H _ I h) ?_
 rintro v s1 ⟨x,H1,I1,r1,q1⟩
 obtain⟨a,e,q⟩:=q1;subst e;cases r1;rcases q with⟨⟨xs,hq⟩,q⟩|⟨⟨xs,hq⟩,q⟩
 .obtain⟨its,rv,p,hz⟩:=I1.list hq
  refine pb p.isList ?_;refine⟨s1.heap.objs.size,[s1.heap.objs.size],_,_,H1,rfl,I1.kept  λb o e=>ao _ e,B6 a _,⟨_,bn _ rfl,rfl,rfl⟩,λb hb=>?_,q⟩;have e:=by simpa using hb
  subst e;exact I1.fpOk (ak _) (I1.hok.fresh (ak _))
 .obtain⟨its,rv,p,hz⟩:=I1.tuple hq
  refine yn (show s1.heap.IsTuple a _ from p) ?_;refine⟨s1.heap.objs.size,[s1.heap.objs.size],_,_,H1,rfl,I1.kept  λb o e=>ao _ e,Tx a _,⟨_,bn _ rfl,rfl,rfl⟩,λb hb=>?_,q⟩;have e:=by simpa using hb
  subst e;exact I1.fpOk (ak _) (I1.hok.fresh (ak _))
def iW:AV->aL->bA (AH×Gd)
 |.pv (.lst xs),S=>.ok (xs,[]) S
 |.pv (.tup xs),S=>.ok (xs,[]) S
 |.ref k,S=>match S[k]? with
  |some (.lst xs)=>.ok (xs,[(k,xs)]) S
  |_=>.fail
 |_,_=>.fail
def cX(m:ME):MI:=λρ S=>(m ρ S).bind iW
theorem abo  {H:Hp}{xs:AH}{a:Addr}{vs:List V}(l:kU K p.c H a vs)(z:vs.length<=sizeLine)(r:aM K p.c H xs vs):eD K p H (xs,[]) (Wc K a):=by
 refine⟨by rw[r.length];exact z,λq H1 S1 st _ _=>⟨λi v e=>?_,?_⟩⟩
 .have l1:=(st.lat l).sq
  obtain⟨x,e1,r1⟩:=(st.reps r).get e;refine⟨⟨vs,x,l1,e1⟩,λy H2 hy=>?_⟩;obtain⟨rfl,hy⟩:=hy;have:=(hy _ l1).symm.trans e1;cases this;exact⟨bX.refl _,r1⟩
 .exact⟨vs,(st.lat l).sq,by rw[r.length];simp_all ⟩
theorem aaL  {H:Hp}{xs:AH}{a:Addr}{vs:List V}(l:cJ K H a vs)(z:vs.length<=sizeLine)(r:aM K p.c H xs vs):eD K p H (xs,[]) (Qh K a):=by
 refine⟨by rw[r.length];exact z,λq H1 S1 st _ _=>⟨λi v e=>?_,?_⟩⟩
 .have l1:=st.tup l
  obtain⟨x,e1,r1⟩:=(st.reps r).get e;refine⟨⟨vs,x,l1,e1⟩,λy H2 hy=>?_⟩;obtain⟨rfl,hy⟩:=hy;have:=(hy _ l1).symm.trans e1;cases this;exact⟨bX.refl _,r1⟩
 .exact⟨vs,st.tup l,by rw[r.length];simp_all ⟩
theorem Y0   {xs:AH}{a:Addr}{k:Nat}{n:xs.length<=sizeLine}(hf:p.f[k]?=some a):eD K p H (xs,[(k,xs)]) (Wc K a):=by
 refine⟨n,λq H1 S1 st sm g=>?_⟩;have e0:S1[k]?=some (.lst xs):=g _ ce;obtain⟨vs,h1,l1,r1⟩:=sm.obj k a _ (st.at_ hf) e0;refine⟨λi v e=>?_,?_⟩
 .obtain⟨x,e1,r2⟩:=r1.get e
  refine⟨⟨vs,x,bL.of h1,e1⟩,λy H2 hy=>?_⟩;obtain⟨rfl,hy⟩:=hy;have:=(hy vs (bL.of h1)).symm.trans e1;cases this;exact⟨bX.refl _,r2⟩
 .exact⟨vs,bL.of h1,by rw[r1.length];exact ak _⟩
theorem O7(h:aI K cl E X e m):iA K cl E X tg e (cX m):=by
 intro hK;subst hK;refine PI.imp (aah (h rfl)) ?_
 rintro σ H R ⟨p,S,ρ,s,ev,h⟩
 refine aY s ev h λq H' v x S' stp sm ev r k=>?_;cases v with
 |ref j=>
  obtain⟨a,e,rfl⟩:=r;unfold iW at k;dsimp only at k;cases z:S'[j]? with
  |none=>rw[z]at k;exact k.elim
  |some o=>
   cases o with
   |lst xs=>
    rw[z]at k;obtain⟨vs,h1,l1,r1⟩:=sm.obj j a _ e z;exact⟨a,rfl,.inl ⟨⟨vs,bL.of h1⟩,aU.ret (R:=eD X.K) k sm (Y0 (n:=by rw[r1.length];exact l1) e)⟩⟩
   |lol _=>rw[z]at k;exact k.elim
   |dic _ _=>rw[z]at k;exact k.elim
   |dol _ _=>rw[z]at k;exact k.elim
   |dsk _ _ _=>rw[z]at k;exact k.elim
   |tdc _ _=>rw[z]at k;exact k.elim
 |pv v=>
  cases v with
  |lst xs=>
   have r:aP X.K q.c H' (.lst xs) x:=r;unfold aP at r;obtain⟨a,vs,rfl,l,z,r⟩:=r;exact⟨a,rfl,.inl ⟨⟨vs,l.sq⟩,aU.ret (R:=eD X.K) k sm (abo l z r)⟩⟩
  |tup xs=>
   have r:aP X.K q.c H' (.tup xs) x:=r;unfold aP at r;obtain⟨a,vs,rfl,l,z,r⟩:=r;exact⟨a,rfl,.inr ⟨⟨vs,l⟩,aU.ret (R:=eD X.K) k sm (aaL l z r)⟩⟩
  |_=>exact k.elim
def lC(lo:Int)(n:Nat):AH:=(ee n).map λi=>.int (lo+(i:Nat))
def vK:AK->aL->bA (AH×Gd)
 |[.pv (.int j)],S1=>@ite _ (j<=16777216/\-16777216<=j) (lc _) (.ok (lC 0 j.toNat,[]) S1) .fail
 |_,_=>.fail
def qA(ms:MA):MI:=λρ S=>(ms ρ S).bind vK
theorem aap   {lo:Int}{n:Nat}(h:n<=sizeLine):eD K p H (lC lo n,[]) (Pc lo n):=by
 have hl:(lC lo n).length=n:=by unfold lC;simp_all
 refine⟨by  simp_all,λq H1 S1 st _ _=>⟨λi v e=>?_,?_⟩⟩
 .have hi:i<n:=by
   grind
  refine⟨hi,λx H2 hy=>?_⟩;obtain⟨rfl,rfl⟩:=hy;unfold lC at e;rw[fm,List.getElem?_range hi]at e;cases e;refine⟨bX.refl _,?_⟩;rfl
 .rw[hl]
  exact ak n
theorem Ly  (hg:Gl X "range")(hm:X.mg "range"=none)(ha:cM K cl E X [a] ms)(hs:starEach [a] X.env=[(false,eval a X.env)]:=by rfl):iA K cl E X tg (.Call (.Name "range" p) [a] [] pos) (qA ms):=by
 intro hK;subst hK;refine PI.imp (A5 hg hm (ha rfl) hs) ?_
 rintro σ H R ⟨p,S,ρ,s,ev,h⟩
 refine aY s ev h λq H' vs xs S' stp sm ev r k=>?_;unfold vK at k;split at k
 .rename_i j
  cases r with
  |cons r1 r2=>
   cases r2;have e:=by
    have r1:=r1;exact r1
   subst e;split at k
   .have hz:=fG
    exact⟨j,rfl,by omega,by omega,aU.ret  k sm (aap (by omega))⟩
   .exact k.elim
 .exact k.elim
theorem P6   (hp:og (model X.prog X.w) X.A X.env X.xe)(hc:X.calm=true)(hi:iA K cl E X tg e mi)(hg:kS K X tg g)(hb:eX K cl E X sts b1)
  (hs:∀x,foldedSetIterable e X.env x=pure x:=by intro _;rfl):cL K cl E X (.For tg e sts [] pos) (hX mi g b1):=by
 intro hK;subst hK;refine PS.imp (aaX hp hc (hi rfl) (hg rfl) (hb rfl) hs) ?_
 rintro D σ H ⟨p,S,ρ,s,ev,h⟩
 refine jQ s ev h λq H' xg J S' stp sm ev it k=>?_;obtain⟨xs,G⟩:=xg;refine⟨λi n σ H=>n=xs.length-i/\i<=xs.length/\∃p S ρ,aO _ p S H/\bR _ p H ρ σ/\eD _ p H _ J/\dA _ _ p H (fW G g _ (xs.drop i) ρ S) D E,⟨xs.length,rfl,cg _,q,S',ρ,sm,ev,it,by simpa using k⟩,?_⟩
 rintro i n σ1 H1 ⟨rfl,hi,p1,S1,ρ1,sm1,ev1,it1,k1⟩
 by_cases hlt:i<xs.length
 .have hx:=ba hlt
  rw[vj hlt]at k1;unfold fW at k1;split at k1
  .rename_i gk
   obtain⟨g1,y1⟩:=(it1.2 _ _ _ sm1.step sm1 gk).1 i _ hx;cases z:g xs[i] ρ1 with
   |none=>simp only[z]at k1;exact k1.elim
   |some ρ2=>
    simp only[z]at k1;refine .inr ⟨g1,λσ' H'=>i+1<=xs.length/\∃p S ρ,aO _ p S _/\bR _ p _ _ _/\eD _ p _ _ J/\dA _ _ p _ _ D E,λσ' H' hN=>⟨xs.length-(i+1),by omega,rfl,hN⟩,λx H2 hy=>?_⟩;obtain⟨same,rx⟩:=y1 x _ hy;have st2:=sm1.same same;have sm2:=sm1.ofSame same;refine⟨p1,S1,ρ1,xs[i],ρ2,sm2,st2.repE ev1,rx,z,λσ3 ev3=>⟨p1,S1,ρ2,sm2,ev3,?_⟩⟩;have it2:=it1.step st2;cases y:b1 _ _ with
    |nx ρ4 S4=>
     rw[y]at k1;exact λq5 H5 σ5 st5 sm5 ev5=>⟨hlt,q5,S4,ρ4,sm5,ev5,it2.step st5,dA.mono  k1 (st2.trans st5)⟩
    |ct ρ4 S4=>
     rw[y]at k1;exact λq5 H5 σ5 st5 sm5 ev5=>⟨hlt,q5,S4,ρ4,sm5,ev5,it2.step st5,dA.mono  k1 (st2.trans st5)⟩
    |bk ρ4 S4=>rw[y]at k1;exact dA.mono  k1 st2
    |rt v S4=>rw[y]at k1;exact dA.mono  k1 st2
    |exc v S4=>rw[y]at k1;exact dA.mono  k1 st2
    |fail=>rw[y]at k1;exact k1.elim
  .exact k1.elim
 .have e:i=xs.length:=by omega
  subst e;rw[vk]at k1;unfold fW at k1;split at k1
  .rename_i gk
   exact .inl ⟨(it1.2 _ _ _ sm1.step sm1 gk).2,dA.nxD k1 sm1 ev1⟩
  .exact k1.elim
theorem Xz(hp:og (model X.prog X.w) X.A X.env X.xe)(hc:cR K cl E X c mt)(hb:eX K cl E X sts b1):cL K cl E X (.While c sts [] pos) (qF mt b1):=by
 intro hK;subst hK;refine PS.imp (F7 hp (hc rfl) (hb rfl)) ?_
 rintro D σ H ⟨p,S,ρ,s,ev,h⟩
 unfold qF at h;split at h
 .refine⟨λn σ H=>∃p S ρ,aO X.K p S H/\bR X.K p H ρ σ/\dA X.K cl p H (fI mt b1 n ρ S) D E,⟨_,p,S,ρ,s,ev,h⟩,?_⟩
  rintro n σ1 H1 ⟨p1,S1,ρ1,sm1,ev1,k1⟩
  cases n with
  |zero=>exact k1.elim
  |succ n=>
   refine jQ sm1 ev1 k1 λq H2 t t' S2 stp sm2 ev2 r k2=>?_;cases r;cases t with
   |true=>
    refine⟨λσ' H'=>∃p S ρ,aO X.K p S H'/\bR X.K p H' ρ σ'/\dA X.K cl p H' _ D E,λσ' H' hN=>⟨n,oq n,hN⟩,q,S2,ρ1,sm2,ev2,?_⟩;cases y:b1 ρ1 S2 with
    |nx ρ4 S4=>
     rw[y]at k2;exact λq5 H5 σ5 st5 sm5 ev5=>⟨q5,S4,ρ4,sm5,ev5,dA.mono  k2 st5⟩
    |ct ρ4 S4=>
     rw[y]at k2;exact λq5 H5 σ5 st5 sm5 ev5=>⟨q5,S4,ρ4,sm5,ev5,dA.mono  k2 st5⟩
    |bk ρ4 S4=>rw[y]at k2;exact k2
    |rt v S4=>rw[y]at k2;exact k2
    |exc v S4=>rw[y]at k2;exact k2
    |fail=>rw[y]at k2;exact k2.elim
   |false=>
    exact dA.nxD k2 sm2 ev2
 .exact h.elim
end
end
def lW(n:Nat)(xs:AK):bJ:=xs.map some++wz (n-xs.length) none
def nI(n:Nat):AV->aL->bA AV
 |.pv v,S=>.ok (.pv v) (S.take n)
 |.ref k,S=>if k<n then .ok (.ref k) (S.take n)else match S[k]? with
  |some (.lst xs)=>.ok (.ref n) (S.take n++[.lst xs])
  |some (.dic b kvs)=>.ok (.ref n) (S.take n++[.dic b kvs])
  |some (.tdc a b)=>.ok (.ref n) (S.take n++[.tdc a b])
  |_=>.fail
def frz(n:Nat):bA AV->bA AV
 |.ok (.ref k) S=>if k<n then .ok (.ref k) S else match S[k]? with
  |some (.lst xs)=>.ok (.pv (.lst xs)) (S.take n)
  |some (.tdc a b)=>.ok (.pv (.dct a b)) (S.take n)
  |_=>.fail
 |r=>r
def qJ(n:Nat):bY->bA AV
 |.rt v S=>nI n v S
 |.nx _ S=>.ok (.pv .non) (S.take n)
 |.exc e S=>.exc e (S.take n)
 |_=>.fail
def bH(np n:Nat)(b:MS)(xs:AK)(S:aL):bA AV:=if xs.length=np then qJ S.length (b (lW n xs) S)else .fail
def iT:bA α->bA α
 |.ok a S=>.ok a S
 |_=>.fail
abbrev FM:=AK->aL->bA AV
def cW(f:FM)(ds:AH)(ms:MA):ME:=λρ S=>(ms ρ S).bind λxs S1=>frz S1.length (f (xs++ds.map .pv) S1)
def bF(f:FM)(ds:AH)(ms:MA):ME:=λρ S=>(ms ρ S).bind λxs S1=>frz S1.length (iT (f (xs++ds.map .pv) S1))
def mB(f:FM)(ds:AH)(ms:MA):ME:=λρ S=>(ms ρ S).bind λxs S1=>iT (f (xs++ds.map .pv) S1)
def jM(K:aa)(cl:Str->Addr)(f:FM):Sp:=λvs H Q E=>∃p S xs,aO K p S H/\fY K p H xs vs/\aU K cl (bI K) p H (f xs S) Q E
def kL(K:aa)(cl:Str->Addr)(f:FM):Sp:=λvs H Q _=>jM K cl f vs H Q E0
section
variable{K:aa}{cl:Str->Addr}{p q:Ph}{H H':Hp}{S S':aL}
theorem Sk  (h:∀a,c a->c' a){a:Addr}{vs:List V}(l:kU K c' H a vs):kU K c H a vs:=by
 rcases l with⟨l,n⟩|l |l
 .exact .inl ⟨l,λz=>n (h a z)⟩
 .exact .inr (.inl l)
 .exact .inr (.inr l)
theorem sY{c c':Addr->Prop}(h:∀a,c a->c' a){ps:AH}{vs:List V}(r:aM K c' H ps vs):aM K c H ps vs:=aM.mono (λ_ _ t=>t) (λ_ _ l=>Sk h l) (λ_ _ e=>⟨e.1,λz=>e.2 (h _ z)⟩) ps vs r
theorem Hy{c c':Addr->Prop}(h:∀a,c a->c' a){v:PV}{x:V}(r:aP K c' H v x):aP K c H v x:=aP.mono (λ_ _ t=>t) (λ_ _ l=>Sk h l) (λ_ _ e=>⟨e.1,λz=>e.2 (h _ z)⟩) v x r
theorem Px{f g:List Addr}(h:f <+:g):g.take f.length=f:=by
 obtain⟨t,e⟩:=h;rw[<-e,zb]
theorem nodup_idx{α:Type}:∀{l:List α}{i j:Nat}{a:α},l.Nodup->l[i]?=some a->l[j]?=some a->i=j
 |[],i,j,a,_,e,_=>by simp at e
 |b::l,0,0,a,_,_,_=>rfl
 |b::l,0,j+1,a,n,e,f=>by
  simp at e f;subst e;exact absurd (de f) (jf.mp n).1
 |b::l,i+1,0,a,n,e,f=>by
  simp at e f;subst f;exact absurd (de e) (jf.mp n).1
 |b::l,i+1,j+1,a,n,e,f=>congrArg (·+1) (nodup_idx (l:=l) (a:=a) (jf.mp n).2 (by simpa using e) (by simpa using f))
theorem aO.cutX(D:Addr->Prop)(s:aO K p S H)(st:aZ p H q H')(s':aO K q S' H')(hD:∀b,D b->H b=none)(hq:(∀b,D b->b∈q.f)\/∀k o,S'[k]?=some o->k<S.length->∃xs,o=.lst xs):
  let r:Ph:=⟨p.f,λb=>q.w b/\¬D b,λb=>q.c b/\¬D b⟩
  aZ p H r H'/\aO K r (S'.take S.length) H':=by
 intro r;have nD:∀a,p.c a->¬D a:=λa c d=>by
  obtain⟨o,ho,_⟩:=s.mu a c;rw[hD a d]at ho;cases ho
 have le:S.length<=S'.length:=by
  have:=st.pre.length_le;rw[<-s.len,<-s'.len];exact this
 refine⟨⟨s.wc,s.mu,jk,λa h=>⟨st.mw a h,nD a (s.wc a h)⟩,λa h=>⟨st.mono a h,nD a h⟩,λ_ h g=>absurd h g,λa h=>st.nw a h.1,λa h=>st.nc a h.1,st.keep⟩,s.nd,by rw[s.len,ku];omega,λa h=>⟨st.mw a (s.sub a h),nD a (s.wc a (s.sub a h))⟩,λa h=>⟨s'.wc a h.1,h.2⟩,λa h=>s'.mu a h.1,λk a o e1 e2=>?_⟩;have hk:k<S.length:=by
  have:=(cq.mp e1).1;rw[<-s.len];exact this
 have e2':=by
  rw[vm,if_pos hk]at e2;exact e2
 have z:=s'.obj k a o (st.at_ e1) e2';have shr:∀xs vs,aM K q.c H' xs vs->aM K r.c H' xs vs:=λxs vs=>sY (λb h=>h.1);have sub:∀b,b∉q.f->b∉p.f:=λb n h=>n (st.pre.subset h);rcases hq with hq |hq
 .exact z.mono (λ_ e=>e) (λb w f=>⟨⟨⟨w,λd=>f (hq b d)⟩,sub b f⟩,λ_ e=>e⟩) shr
 .obtain⟨xs,rfl⟩:=hq k o e2' hk
  obtain⟨vs,e,l,g⟩:=z;exact⟨vs,e,l,shr xs vs g⟩
theorem aO.cut(s:aO K p S H)(st:aZ p H q H')(s':aO K q S' H'):aZ p H ⟨p.f,λb=>q.w b/\¬False,λb=>q.c b/\¬False⟩ H'/\aO K ⟨p.f,λb=>q.w b/\¬False,λb=>q.c b/\¬False⟩ (S'.take S.length) H':=
 s.cutX _ st s' (λ_ h=>h.elim) (.inl λ_ h=>h.elim)
theorem Ee(s:aO K p S H)(st:aZ p H q H')(sm:aO K q S' H'){k:Nat}{a:Addr}(e:q.f[k]?=some a)(hk:¬k<S.length):a∉p.f/\H a=none/\¬p.c a:=by
 have na:a∉p.f:=λhm=>by
  obtain⟨j,hj,ej⟩:=qd hm;have e2:=st.at_ (by rw[ba hj,ej]);have hjk:=nodup_idx sm.nd e2 e;rw[s.len]at hj<;>grind
 have hn:=st.nf a (de e) na;refine⟨na,hn,λc=>?_⟩;obtain⟨o,ho,_⟩:=s.mu a c;grind
theorem mV{r:bA AV}{Q:VK}{E:XK}(s:aO K p S H)(h:aU K cl (bI K) p H (frz S.length r) Q E):aU K cl (bI K) p H r Q E:=by
 cases r with
 |exc n S1=>exact h
 |fail=>exact h
 |ok v S1=>
  cases v with
  |pv v=>exact h
  |ref k=>
   have h:aU K cl (bI K) p H (if k<S.length then .ok (.ref k) S1 else match S1[k]? with
    |some (.lst xs)=>.ok (.pv (.lst xs)) (S1.take S.length)
    |some (.tdc a b)=>.ok (.pv (.dct a b)) (S1.take S.length)
    |_=>.fail) Q E:=h
   split at h
   .exact h
   .rename_i hk
    cases z:S1[k]? with
    |none=>rw[z]at h;exact h.elim
    |some o=>
     cases o with
     |lol _=>rw[z]at h;exact h.elim
     |dic _ _=>rw[z]at h;exact h.elim
     |dol _ _=>rw[z]at h;exact h.elim
     |dsk _ _ _=>rw[z]at h;exact h.elim
     |tdc ns fs=>
      rw[z]at h;intro q H' x st sm r;obtain⟨a,e,rfl⟩:=r;obtain⟨na,hn,nc⟩:=Ee s st sm e hk;obtain⟨st1,sm1⟩:=s.cutX (λb=>b=a) st sm (λb d=>d▸hn) (.inl λb d=>d▸de e);obtain⟨vs,h1,l,r⟩:=sm.obj k a _ e z;refine h _ H' (.ref a) st1 sm1 ?_;show aP K (λb=>q.c b/\¬b=a) H' (.dct ns fs) (.ref a);unfold aP;exact⟨a,vs,rfl,⟨h1,λd=>d.2 rfl⟩,l,sY (λb h=>h.1) r⟩
     |lst xs=>
      rw[z]at h;intro q H' x st sm r;obtain⟨a,e,rfl⟩:=r;obtain⟨na,hn,nc⟩:=Ee s st sm e hk;obtain⟨st1,sm1⟩:=s.cutX (λb=>b=a) st sm (λb d=>d▸hn) (.inl λb d=>d▸de e);obtain⟨vs,h1,l,r⟩:=sm.obj k a _ e z;refine h _ H' (.ref a) st1 sm1 ?_;show aP K (λb=>q.c b/\¬b=a) H' (.lst xs) (.ref a);unfold aP;exact⟨a,vs,rfl,.inl ⟨h1,λd=>d.2 rfl⟩,l,sY (λb h=>h.1) r⟩
theorem Pd{r:bY}{Q:VK}{E:XK}(s:aO K p S H)(h:aU K cl (bI K) p H (qJ S.length r) Q E):dA K cl p H r {nx:=λ_ H'=>Q .non H',rt:=Q} E:=by
 cases r with
 |nx ρ S1=>
  intro q H' σ st sm ev;obtain⟨st1,sm1⟩:=s.cut st sm;exact h _ H' .non st1 sm1 (by show aP K (λb=>q.c b/\¬False) H' .non .non;unfold aP;rfl)
 |exc n S1=>
  intro q H' st sm;obtain⟨st1,sm1⟩:=s.cut st sm;exact h _ H' st1 sm1
 |rt v S1=>
  intro q H' x st sm r;obtain⟨st1,sm1⟩:=s.cut st sm;cases v with
  |pv v=>exact h _ H' x st1 sm1 (show aP K (λb=>q.c b/\¬False) H' v x from Hy (λb h=>h.1) r)
  |ref k=>
   obtain⟨a,e,rfl⟩:=r;have h:aU K cl (bI K) p H (if k<S.length then .ok (.ref k) (S1.take S.length)else match S1[k]? with
    |some (.lst xs)=>.ok (.ref S.length) (S1.take S.length++[.lst xs])
    |some (.dic b kvs)=>.ok (.ref S.length) (S1.take S.length++[.dic b kvs])
    |some (.tdc a b)=>.ok (.ref S.length) (S1.take S.length++[.tdc a b])
    |_=>.fail) Q E:=h
   split at h
   .rename_i hk
    refine h _ H' (.ref a) st1 sm1 ⟨a,?_,rfl⟩;show p.f[k]?=some a;have hf:=Px st.pre;rw[<-hf,vm,if_pos (by rw[s.len];exact hk)];exact e
   .rename_i hk
    have fin:∀o,S1[k]?=some o->aU K cl (bI K) p H (.ok (.ref S.length) (S1.take S.length++[o])) Q E->Q (.ref a) H':=λo z h=>by
     obtain⟨na,hn,nc⟩:=Ee s st sm e hk;have l1:(S1.take S.length).length=S.length:=by rw[<-sm1.len,<-s.len]
     have ma:a∈q.f:=de e;refine h ⟨p.f++[a],q.w,q.c⟩ H' (.ref a) ⟨s.wc,s.mu,⟨[a],rfl⟩,st.mw,st.mono,λb hb n=>?_,st.nw,st.nc,st.keep⟩ ⟨?_,?_,λb hb=>?_,sm.wc,sm.mu,λj b o e1 e2=>?_⟩ ⟨a,?_,rfl⟩
     .rcases cf.mp hb with z |z
      .exact absurd z n
      .have:b=a:=by simpa using z
       rw[this];exact hn
     .show(p.f++[a]).Nodup
      rw[lg];refine⟨s.nd,by simp,λb hb c hc z=>?_⟩;have:c=a:=by simpa using hc
      exact na (this▸z▸hb)
     .show(p.f++[a]).length=_
      rw[cb,cb,l1,s.len];rfl
     .rcases cf.mp hb with z |z
      .exact st.mw b (s.sub b z)
      .have:b=a:=by simpa using z
       rw[this];exact sm.sub a ma
     .by_cases hj:j<S.length
      .have e1':p.f[j]?=some b:=by
        have e1:(p.f++[a])[j]?=some b:=e1
        rwa[fh (by rw[s.len];exact hj)]at e1
       rw[fh (by rw[l1];exact hj),vm,if_pos hj]at e2;refine(sm.obj j b o (st.at_ e1') e2).mono (λ_ e=>e) (λc w f=>⟨⟨w,λm=>?_⟩,λ_ e=>e⟩) λ_ _ r=>r;rcases cf.mp m with z |z
       .exact f (st.pre.subset z)
       .have:c=a:=by simpa using z
        exact f (this▸ma)
      .have hj':j=S.length:=by
        have:=(cq.mp e2).1;rw[cb,l1]at this;simp at this;omega
       subst hj';rw[dg (by rw[l1];exact ak _),l1,ft]at e2;have e1:(p.f++[a])[S.length]?=some b:=e1;rw[<-s.len,dg (ak _),ft]at e1;cases e1;cases e2;refine(sm.obj k a _ e z).mono (λ_ e=>e) (λc w f=>⟨⟨w,λm=>?_⟩,λ_ e=>e⟩) λ_ _ r=>r;rcases cf.mp m with z |z
       .exact f (st.pre.subset z)
       .have:c=a:=by simpa using z
        exact f (this▸ma)
     .show(p.f++[a])[S.length]?=some a
      rw[<-s.len,dg (ak _),ft];rfl
    split at h
    .rename_i z
     exact fin _ z h
    .rename_i z
     exact fin _ z h
    .rename_i z
     exact fin _ z h
    .exact h.elim
 |bk ρ S1=>exact h.elim
 |ct ρ S1=>exact h.elim
 |fail=>exact h.elim
theorem Ld  {xs:AK}{vs:List V}(r:fY K p H xs vs):bR K p H (lW N.length xs) (L2.start N vs):=by
 have go:∀{xs:AK}{vs:List V},fY K p H xs vs->xs.length=vs.length:=λ{xs vs} r=>by
  induction r with
  |nil=>rfl
  |cons _ _ ih=>rw[bq,bq,ih]
 have get:∀{xs:AK}{vs:List V},fY K p H xs vs->∀(i:Nat)(v:AV),xs[i]?=some v->∃x,vs[i]?=some x/\bI K p H v x:=λ{xs vs} r=>by
  induction r with
  |nil=>intro i v e;simp at e
  |cons h _ ih=>
   intro i v e;cases i<;>simp_all
 have hl:=go r;refine⟨by unfold lW L2.start;simp[hl],λi v e=>?_⟩;unfold lW at e;unfold L2.start
 by_cases hi:i<xs.length
 .rw[fh (by simpa using hi),fm]at e
  cases z:xs[i]? with
  |none=>rw[z]at e;cases e
  |some u=>
   rw[z]at e;cases e;obtain⟨x,e1,e2⟩:=get r i v z;refine⟨x,?_,e2⟩;rw[fh (by rw[bh,<-hl];exact hi),fm,e1];rfl
 .rw[dg (by rw[bh];omega),xb]at e
  split at e
  .cases e
  .cases e
end
section
variable{P:Program}{w:ah}{K:aa}{mg:Str->AE}{base:Heap}{cl:Str->Addr}
theorem Rz      (h:fY K p H xs vs):xs.length=vs.length:=by
 induction h<;>simp_all
theorem Bg       (h:jM K cl (bH np n b) vs H Q E):vs.length=np:=by
 obtain⟨p,S,xs,sm,ra,h⟩:=h;unfold bH at h;split at h
 .rename_i e
  rw[<-Rz ra,e]
 .exact h.elim
theorem Oh  {st:Stmt}{f:Addr}{fd:ay}{N ps:List Str}{k np n:Nat}{b:MS}(F:iN K x qual st f fd)(S:gY N ps (bD st))(hnp:ps.length=np)(hn:N.length=n)
  (hb:∀(cdv:Value)(A:aj)(outer:List Env)(s:Shared)(H:Hp)(E:XK),bG k (A.deeper (envOfC qual (bD st) s.heap.objs.size f cdv))->eX K cl E0 (aK dS P w K mg base N qual (bD st) f cdv A outer s H E).nox (cG st) b):
  bQ P w K mg base dS (k+1) f fd ps (kL K cl (bH np n b)):=by
 subst hnp hn;refine F.ok S (λvs H Q E h=>Bg h) λcdv A outer s H vs Q E hr h=>⟨_,hb _ A _ s H E hr rfl,?_⟩;obtain⟨p,S,xs,sm,ra,h⟩:=h;unfold bH at h;split at h
 .exact⟨p,S,_,sm,Ld ra,Pd sm h⟩
 .exact h.elim
theorem okX  {st:Stmt}{f:Addr}{fd:ay}{N ps:List Str}{k np n:Nat}{b:MS}(F:iN K x qual st f fd)(S:gY N ps (bD st))(hnp:ps.length=np)(hn:N.length=n)
  (hb:∀(cdv:Value)(A:aj)(outer:List Env)(s:Shared)(H:Hp)(E:XK),bG k (A.deeper (envOfC qual (bD st) s.heap.objs.size f cdv))->eX K cl E (aK (aJ P w) P w K mg base N qual (bD st) f cdv A outer s H E) (cG st) b):
  bQ P w K mg base (aJ P w) (k+1) f fd ps (jM K cl (bH np n b)):=by
 subst hnp hn;refine F.okX S (λvs H Q E h=>Bg h) λcdv A outer s H vs Q E hr h=>⟨_,hb _ A _ s H E hr rfl,?_⟩;obtain⟨p,S,xs,sm,ra,h⟩:=h;unfold bH at h;split at h
 .exact⟨p,S,_,sm,Ld ra,Pd sm h⟩
 .exact h.elim
theorem ac1  {st:Stmt}{f:Addr}{fd:ay}{ds:Array Value}{N ps:List Str}{k np n:Nat}{b:MS}(F:nV K x qual st f fd ds)(S:gY N ps (bD st))(hnp:ps.length=np)(hn:N.length=n)
  (hb:∀(cdv:Value)(A:aj)(outer:List Env)(s:Shared)(H:Hp)(E:XK),bG k (A.deeper (envOfC qual (bD st) s.heap.objs.size f cdv))->eX K cl E (aK (aJ P w) P w K mg base N qual (bD st) f cdv A outer s H E) (cG st) b):
  bQ P w K mg base (aJ P w) (k+1) f fd ps (jM K cl (bH np n b)):=by
 subst hnp hn;refine F.okX S (λvs H Q E h=>Bg h) λcdv A outer s H vs Q E hr h=>⟨_,hb _ A _ s H E hr rfl,?_⟩;obtain⟨p,S,xs,sm,ra,h⟩:=h;unfold bH at h;split at h
 .exact⟨p,S,_,sm,Ld ra,Pd sm h⟩
 .exact h.elim
theorem x0    {k:Nat}{g:FM}(F:bQ P w K mg base (aJ P w) k f fd ps (jM K cl g)):bQ P w K mg base dS k f fd ps (kL K cl g):=
 ⟨λvs H Q E h=>F.len _ H Q _ h,λA outer s H args us vs Q E hr e0 hb hv h=>iq (F.run A _ s H _ _ _ Q _ hr e0 hb hv h) λr s' hq=>by
  cases r with
  |error e=>
   obtain⟨_,_,_,_,_,_,_,_,_,_,_,_,z⟩:=hq;exact z
  |ok fl=>
   cases fl with
   |ret u=>exact hq
   |next=>exact hq
   |brk=>exact hq
   |cont=>exact hq⟩
end
section
variable{K:aa}{cl:Str->Addr}{E:XK}{X:Cx}{e:ae}{es:List ae}{ms:MA}{pos p:ai}{k n:Nat}{f:Addr}{fd:ay}{ps:List Str}{g:FM}{x:Str}{dvs:List V}{ds:AD}{dv:AH}
theorem vT{p:Ph}{H:Hp}{xs ys:AK}{vs ws:List V}(h:fY K p H xs vs)(g:fY K p H ys ws):fY K p H (xs++ys) (vs++ws):=by
 induction h with
 |nil=>exact g
 |cons h _ ih=>exact .cons h ih
def Dv(dv:AH)(dvs:List V):Prop:=∀K p H,fY K p H (dv.map .pv) dvs
theorem Dv.nil:Dv [] []:=λ_ _ _=>.nil
theorem Q3(F:bQ X.prog X.w X.K X.mg X.base dS k f fd ps (kL K cl g))(hr:bG k X.A)(hg:Gl X x)(hm:X.mg x=some (.ref f))(hk:bo X.K (.ref f)=true)(hb:dD X.K fd ps ds)(hd:aS dvs ds)(hv:Dv dv dvs)
  (ha:cM K cl E0 X (e::es) ms)(hdb:(x==("__debug__":Str))=false:=by decide)(he:starEach (e::es) X.env=(false,eval e X.env)::starEach es X.env:=by rfl)(hpl:(backTo pos (starEach es X.env)).any (·.1)=false:=by rfl):
  aI K cl E0 X (.Call (.Name x p) (e::es) [] pos) (cW g dv ms):=by
 intro hK;refine PE.imp (wL F hr hg hm hk hb hd vB (ha hK) hdb he hpl) ?_
 rintro σ H Q ⟨p,S,ρ,s,ev,h⟩
 exact aY s ev h λq H' as xs S' stp sm ev r k=>⟨q,S',_,sm,vT r (hv K q _),mV sm k⟩
theorem zO   {p:Ph}{H:Hp}{r:bA α}{Q:β->Hp->Prop}(h:aU K cl R p H (iT r) Q E):aU K cl R p H r Q E0:=by
 cases r with
 |ok a S=>exact h
 |exc n S=>exact h.elim
 |fail=>exact h.elim
theorem K0(F:bQ X.prog X.w X.K X.mg X.base dS k f fd ps (kL K cl g))(hr:bG k X.A)(hg:Gl X x)(hm:X.mg x=some (.ref f))(hk:bo X.K (.ref f)=true)(hb:dD X.K fd ps ds)(hd:aS dvs ds)(hv:Dv dv dvs)
  (ha:cM K cl E X (e::es) ms)(hdb:(x==("__debug__":Str))=false:=by decide)(he:starEach (e::es) X.env=(false,eval e X.env)::starEach es X.env:=by rfl)(hpl:(backTo pos (starEach es X.env)).any (·.1)=false:=by rfl):
  aI K cl E X (.Call (.Name x p) (e::es) [] pos) (bF g dv ms):=by
 intro hK;refine PE.imp (wL F hr hg hm hk hb hd vB (ha hK) hdb he hpl) ?_
 rintro σ H Q ⟨p,S,ρ,s,ev,h⟩
 exact aY s ev h λq H' as xs S' stp sm ev r k=>⟨q,S',_,sm,vT r (hv K q _),zO (mV sm k)⟩
theorem J6(F:bQ X.prog X.w X.K X.mg X.base dS k f fd ps (kL K cl g))(hr:bG k X.A)(hg:Gl X x)(hm:X.mg x=some (.ref f))(hk:bo X.K (.ref f)=true)(hb:dD X.K fd ps ds)(hd:aS dvs ds)(hv:Dv dv dvs)
  (ha:cM K cl E X (e::es) ms)(hdb:(x==("__debug__":Str))=false:=by decide)(he:starEach (e::es) X.env=(false,eval e X.env)::starEach es X.env:=by rfl)(hpl:(backTo pos (starEach es X.env)).any (·.1)=false:=by rfl):
  aI K cl E X (.Call (.Name x p) (e::es) [] pos) (mB g dv ms):=by
 intro hK;refine PE.imp (wL F hr hg hm hk hb hd vB (ha hK) hdb he hpl) ?_
 rintro σ H Q ⟨p,S,ρ,s,ev,h⟩
 exact aY s ev h λq H' as xs S' stp sm ev r k=>⟨q,S',_,sm,vT r (hv K q _),zO k⟩
theorem E7{P:Program}{w:ah}{mg:Str->AE}{base:Heap}{N:List Str}{qual:Str}{scope:Scope}{fo:Addr}{cd:Value}{A:aj}{outer:List Env}{AM:Shared}{AN:Hp}
  (F:bQ P w K mg base (aJ P w) k f fd ps (jM K cl g))(hr:bG k (aK (aJ P w) P w K mg base N qual scope fo cd A outer AM AN E).A)(hg:Gl (aK (aJ P w) P w K mg base N qual scope fo cd A outer AM AN E) x)(hm:mg x=some (.ref f))(hk:bo K (.ref f)=true)(hb:dD K fd ps ds)(hd:aS dvs ds)(hv:Dv dv dvs)
  (ha:cM K cl E (aK (aJ P w) P w K mg base N qual scope fo cd A outer AM AN E) (e::es) ms)(hdb:(x==("__debug__":Str))=false:=by decide)
  (he:starEach (e::es) (aK (aJ P w) P w K mg base N qual scope fo cd A outer AM AN E).env=(false,eval e (aK (aJ P w) P w K mg base N qual scope fo cd A outer AM AN E).env)::starEach es (aK (aJ P w) P w K mg base N qual scope fo cd A outer AM AN E).env:=by rfl)
  (hpl:(backTo pos (starEach es (aK (aJ P w) P w K mg base N qual scope fo cd A outer AM AN E).env)).any (·.1)=false:=by rfl):
  aI K cl E (aK (aJ P w) P w K mg base N qual scope fo cd A outer AM AN E) (.Call (.Name x p) (e::es) [] pos) (cW g dv ms):=by
 intro hK;refine PE.imp (wL F hr hg hm hk hb hd Ab (ha hK) hdb he hpl) ?_
 rintro σ H Q ⟨p,S,ρ,s,ev,h⟩
 exact aY s ev h λq H' as xs S' stp sm ev r k=>⟨q,S',_,sm,vT r (hv K q H'),mV sm k⟩
def jR(n:Str):MS:=λ_ S=>.exc n S
theorem Vz    {base:Heap}{N:List Str}{qual:Str}{scope:Scope}{f:Addr}{cd:Value}{A:aj}{outer:List Env}{AM:Shared}{AN:Hp}
  {txt:Str}{j:Nat}{np p1 cpos:ai}(hg:Gl (aK (aJ P w) P w K mg base N qual scope f cd A outer AM AN E) x)(hm:mg x=some (.ref (cl x)))(hx:bi K (cl x) dC "ValueError.__new__"=true)
  (hd:(x==("__debug__":Str))=false:=by decide):
  cL K cl E (aK (aJ P w) P w K mg base N qual scope f cd A outer AM AN E) (.Raise (some (.Call (.Name x np) [.Constant (.str txt) j p1] [] cpos)) none pos) (jR x):=
 λ_=>PS.imp (E8 hg hm hx hd) λD σ H ⟨p,S,ρ,s,ev,h⟩=>h p H s.step s
end
def dW(own:List Str)(cap:List (Nat×Str))(ρ:bJ):bJ:=own.map (λ_=>none)++cap.map λp=>(ρ[p.1]?).join
open Classical in
def cS(G:Gd)(g:GM)(me:ME):AH->bJ->aL->bA AH
 |[],_,S=>if iC G S then .ok [] S else .fail
 |x::r,ρ,S=>if iC G S then(match g x ρ with
  |none=>.fail
  |some ρ1=>match me ρ1 S with
   |.ok (.pv y) S1=>match cS G g me r ρ1 S1 with
    |.ok ys S2=>.ok (y::ys) S2
    |_=>.fail
   |_=>.fail)else .fail
theorem He    :cS [] g me [] ρ S=.ok [] S:=by
 unfold cS;rw[if_pos (oK S)]
theorem Td      :cS [] g me (x::r) ρ S=(match g x ρ with
  |none=>.fail
  |some ρ1=>match me ρ1 S with
   |.ok (.pv y) S1=>match cS [] g me r ρ1 S1 with
    |.ok ys S2=>.ok (y::ys) S2
    |_=>.fail
   |_=>.fail):=by
 rw[cS,if_pos (oK S)]
def dJ(own:List Str)(cap:List (Nat×Str))(mi:MI)(g:GM)(me:ME):ME:=λρ S=>(mi ρ S).bind λxs S1=>(cS xs.2 g me xs.1 (dW own cap ρ) S1).bind λys S2=>.ok (.pv (.lst ys)) S2
theorem Zj   {me:ME}:∀(xs:AH)(ρ:bJ)(S:aL)(n:Str)(S':aL),cS G g me xs ρ S≠.exc n S'
 |[],_,_,_,_,e=>by
  unfold cS at e;grind
 |x::r,ρ,S,n,S',e=>by
  unfold cS at e;split at e
  .split at e
   .cases e
   .split at e
    .split at e
     .cases e
     .cases e
    .cases e
  grind
theorem En     {ρ:bJ}{S S':aL}(e:cS G g me xs ρ S=.ok zs S'):iC G S:=by
 cases xs with
 |nil=>
  unfold cS at e<;>grind
 |cons x r=>
  unfold cS at e;split at e
  .assumption
  grind
section
variable{K:aa}{cl:Str->Addr}{E:XK}{X:Cx}{p q:Ph}{H H':Hp}{S:aL}
theorem Mn   {own:List Str}{cap:List (Nat×Str)}(h:bR K p H ρ σ):bR K p H (dW own cap ρ) (kG own cap σ):=by
 refine⟨by unfold dW kG;simp,λi v e=>?_⟩;unfold dW at e;unfold kG
 by_cases hi:i<own.length
 .rw[fh (by simpa using hi),fm,ba hi]at e
  cases e
 .rw[dg (by rw[bh];omega),fm,bh]at e⊢
  cases z:cap[i-own.length]? with
  |none=>rw[z]at e;cases e
  |some c=>
   rw[z]at e;have e:(ρ[c.1]?).join=some v:=dj e;have e':ρ[c.1]?=some (some v):=by
    cases y:ρ[c.1]? with
    |none=>rw[y]at e;cases e
    |some o=>rw[y]at e;exact congrArg some e
   obtain⟨x,e1,e2⟩:=h.at_ c.1 v e';refine⟨x,?_,e2⟩;show some ((σ[c.1]?).join)=some (some x);rw[e1];rfl
def Ph.res(p:Ph)(D:Addr):Ph:=⟨p.f,λa=>p.w a\/a=D,λa=>p.c a\/a=D⟩
def Ph.hold(p:Ph)(D:Addr):Ph:=⟨p.f,λa=>p.w a/\a≠D,p.c⟩
def Ph.less(p:Ph)(D:Addr):Ph:=⟨p.f,λa=>p.w a/\a≠D,λa=>p.c a/\a≠D⟩
theorem aO.notin(s:aO K p S H){D:Addr}(h:H D=none):¬p.c D:=λc=>by
 obtain⟨o,e,_⟩:=s.mu D c;grind
theorem aO.res(s:aO K p S H){D:Addr}{o:HO}(h:H D=none)(mo:Mb o):aZ p H (p.res D) (aN H D o)/\aO K (p.res D) S (aN H D o):=by
 have st:aZ p H (p.res D) (aN H D o):=⟨s.wc,s.mu,jk,λa h=>.inl h,λa h=>.inl h,λa h g=>absurd h g,λa x n=>x.elim (λz=>absurd z n) λz=>by simp_all,λa x n=>x.elim (λz=>absurd z n) λz=>by simp_all,λa u e _=>by
  rw[aX (cU e h)];exact e⟩
 refine⟨st,s.nd,s.len,λa h=>.inl (s.sub a h),λa x=>x.elim (λz=>.inl (s.wc a z)) .inr,λa x=>?_,λk a u e1 e2=>?_⟩
 .by_cases z:a=D
  .rw[z,cD]
   simp_all
  .rw[aX z]
   exact s.mu a (x.elim id λy=>absurd y z)
 .exact(s.obj k a u e1 e2).mono (λvs e=>by rw[aX (cU e h)];exact e) (λb w f=>⟨⟨.inl w,f⟩,λvs e=>by rw[aX (cU e h)];exact e⟩) λ_ _ r=>st.reps r
theorem aO.resHold(s:aO K p S H){D:Addr}{o:HO}(h:H D=none)(mo:Mb o):aO K ((p.res D).hold D) S (aN H D o):=by
 obtain⟨st,sm⟩:=s.res  h mo;have ne:∀a,p.w a->a≠D:=λa w z=>s.notin h (z▸s.wc a w);refine⟨sm.nd,sm.len,λa m=>⟨sm.sub a m,ne a (s.sub a m)⟩,λa x=>sm.wc a x.1,sm.mu,λk a u e1 e2=>?_⟩;exact(s.obj k a u e1 e2).mono (λvs e=>by rw[aX (cU e h)];exact e) (λb w f=>⟨⟨⟨.inl w,ne b w⟩,f⟩,λvs e=>by rw[aX (cU e h)];exact e⟩) λ_ _ r=>st.reps r
theorem aZ.unhold  (h:p.w D)(st:aZ (p.hold D) H q H')(s:aO K p S H):aZ p H ⟨q.f,λa=>q.w a\/a=D,q.c⟩ H':=
 ⟨s.wc,s.mu,st.pre,λa x=>by
  by_cases z:a=D
  .exact .inr z
  .exact .inl (st.mw a ⟨x,z⟩),st.mono,st.nf,λa x n=>by
  rcases x with x |x
  .exact st.nw a x λz=>n z.1
  simp_all,st.nc,λa o e n=>st.keep a o e λz=>n z.1⟩
theorem aO.grow  {ys:List V}{o:HO}(s:aO K p S H)(sh:aO K (p.hold D) S H)(w:p.w D)(n:D∉p.f)(mo:Mb o):aZ p H p (aN H D o)/\aO K p S (aN H D o)/\aO K (p.hold D) S (aN H D o):=by
 have st:aZ p H p (aN H D o):=⟨s.wc,s.mu,jk,λ_ h=>h,λ_ h=>h,λ_ h g=>absurd h g,λ_ h g=>absurd h g,λ_ h g=>absurd h g,λa u e nw=>by
  rw[aX (λz=>nw (by rw[z];exact w))];exact e⟩
 have hm:∀a,p.c a->∃u,aN H D o a=some u/\Mb u:=λa x=>by
  by_cases z:a=D
  .rw[z,cD]
   exact⟨o,rfl,mo⟩
  .rw[aX z]
   exact s.mu a x
 refine⟨st,⟨s.nd,s.len,s.sub,s.wc,hm,λk a u e1 e2=>?_⟩,⟨sh.nd,sh.len,sh.sub,sh.wc,hm,λk a u e1 e2=>?_⟩⟩
 .have ne:a≠D:=λz=>n (z▸de e1)
  exact(sh.obj k a u e1 e2).mono (λvs e=>by rw[aX ne];exact e) (λb w f=>⟨⟨w.1,f⟩,λvs e=>by rw[aX w.2];exact e⟩) λ_ _ r=>st.reps r
 .have ne:a≠D:=λz=>n (z▸de e1)
  exact(sh.obj k a u e1 e2).mono (λvs e=>by rw[aX ne];exact e) (λb w f=>⟨⟨w,f⟩,λvs e=>by rw[aX w.2];exact e⟩) λ_ _ r=>st.reps r
theorem aO.toLess  (s:aO K (p.hold D) S H):aO K (p.less D) S H:=
 ⟨s.nd,s.len,s.sub,λa h=>⟨s.wc a h,h.2⟩,λa h=>s.mu a h.1,λk a o e1 e2=>
  (s.obj k a o e1 e2).mono (λ_ e=>e) (λb w f=>⟨⟨w,f⟩,λ_ e=>e⟩) λ_ _ r=>sY (λa h=>h.1) r⟩
theorem aZ.toLess  (st:aZ p H q H')(h:H D=none):aZ p H (q.less D) H':=by
 have nD:∀a,p.c a->a≠D:=λa c z=>by
  obtain⟨o,e,_⟩:=st.mu a c<;>grind
 exact⟨st.wc,st.mu,st.pre,λa x=>⟨st.mw a x,nD a (st.wc a x)⟩,λa x=>⟨st.mono a x,nD a x⟩,st.nf,λa x=>st.nw a x.1,λa x=>st.nc a x.1,st.keep⟩
variable{sc:Scope}{own:List Str}{cap:List (Nat×Str)}{elt target iter:ae}{pos:ai}{mi:MI}{g:GM}{me:ME}
theorem Om{σ:St}{ρ:bJ}{xs zs:AH}{G:Gd}{J:It}{Q:VK}{D:Addr}{S2:aL}(sm:aO K p S H)(ev:bR K p H ρ σ)(it:eD K p H (xs,G) J)(z:cS G g me xs (dW own cap ρ) S=.ok zs S2)(hD:H D=none)
  (k:∀q H' vs,aZ p H q H'->aO K q S2 H'->aO K (q.hold D) S2 H'->q.w D->D∉q.f->H' D=some (.lst vs)->vs.length<=sizeLine->aM K q.c H' zs vs->Q (.ref D) H'):
  rK J (gP K g) (tP K cl E0 (bI K) me) (kG own cap σ) H D Q:=by
 obtain⟨st0,sm0⟩:=sm.res (D:=D) (o:=.lst []) hD trivial;have sh0:=sm.resHold (D:=D) (o:=.lst []) hD trivial;have nf0:D∉p.f:=λh=>sm.notin hD (sm.wc D (sm.sub D h));refine Xo xs.length it.1 (λi σ1 H1 ys=>ys.length=i/\i<=xs.length/\H1 D=some (.lst ys)/\∃p1 S1 ρ1 us ws,(aO K p1 S1 H1/\aO K (p1.hold D) S1 H1)/\aZ p H p1 H1/\p1.w D/\D∉p1.f/\bR K p1 H1 ρ1 σ1/\eD K p1 H1 (xs,G) J/\iC G S1/\aM K p1.c H1 us ys/\zs=us++ws/\cS G g me (xs.drop i) ρ1 S1=.ok ws S2) ?_ ?_ ?_ ?_ ?_
 .refine⟨rfl,cg _,cD,p.res D,S,dW own cap ρ,[],zs,⟨sm0,sh0⟩,st0,.inr rfl,nf0,Mn (st0.repE ev),it.step st0,?_,.nil,rfl,by simpa using z⟩
  exact En z
 .rintro i σ1 H1 ys ⟨h1,_,h2,_⟩
  exact⟨h1,h2⟩
 .rintro i σ1 H1 ys hi ⟨_,_,_,p1,S1,ρ1,us,ws,⟨sm1,sh1⟩,st1,w1,f1,ev1,it1,g1,_⟩
  exact((it1.2 p1 H1 S1 sm1.step sm1 g1).1 i xs[i] (ba hi)).1
 .rintro i σ1 H1 ys x H2 hi ⟨hl,_,hH,p1,S1,ρ1,us,ws,⟨sm1,sh1⟩,st1,w1,f1,ev1,it1,g1,r1,e1,c1⟩ hy
  obtain⟨same,rx⟩:=((it1.2 p1 H1 S1 sm1.step sm1 g1).1 i xs[i] (ba hi)).2 x H2 hy;rw[vj hi]at c1;unfold cS at c1;rw[if_pos g1]at c1;split at c1
  .cases c1
  .rename_i ρ2 gz
   split at c1
   .rename_i y S3 mz
    split at c1
    .rename_i vs S4 cz
     cases c1;have st2:=sm1.same same;have sm2:=sm1.ofSame same;have smh:=sh1.ofSame same;refine⟨p1,S1,ρ1,xs[i],ρ2,sm2,st2.repE ev1,rx,gz,λσ3 ev3=>⟨p1.hold D,S1,ρ2,smh,⟨ev3.len,ev3.at_⟩,?_⟩⟩;rw[mz];intro q H4 y' st4 sm4 ry;have cK:=same _ _ hH;have dF:=st4.keep D _ cK λz=>z.2 rfl;have fq:D∉q.f:=λh=>by
      have:=st4.nf D h f1;rw[cK]at this;cases this
     have stU:=aZ.unhold w1 st4 sm2;have nq:¬q.w D:=λz=>by
      have:=st4.nw D z λy=>y.2 rfl;rw[cK]at this;cases this
     have smU:aO K ⟨q.f,λa=>q.w a\/a=D,q.c⟩ S3 H4:=⟨sm4.nd,sm4.len,λa h=>.inl (sm4.sub a h),λa h=>h.elim (sm4.wc a) λz=>z▸st4.mono D (sm2.wc D w1),sm4.mu,λk a o e1 e2=>
      (sm4.obj k a o e1 e2).mono (λ_ e=>e) (λb w f=>⟨⟨.inl w,f⟩,λ_ e=>e⟩) λ_ _ r=>r⟩
     have shU:aO K (Ph.hold ⟨q.f,λa=>q.w a\/a=D,q.c⟩ D) S3 H4:=⟨sm4.nd,sm4.len,λa h=>⟨.inl (sm4.sub a h),λz=>nq (z▸sm4.sub a h)⟩,λa h=>smU.wc a h.1,sm4.mu,λk a o e1 e2=>
      (sm4.obj k a o e1 e2).mono (λ_ e=>e) (λb w f=>⟨⟨⟨.inl w,λz=>nq (z▸w)⟩,f⟩,λ_ e=>e⟩) λ_ _ r=>r⟩
     obtain⟨stG,smG,shG⟩:=smU.grow (ys:=ys) (D:=D) (o:=.lst (ys++[y'])) shU (.inr rfl) fq trivial;have stA:=st2.trans (stU.trans stG);refine Es hi dF ⟨by rw[cb,hl];rfl,hi,cD,_,S3,ρ2,us++[y],vs,⟨smG,shG⟩,st1.trans stA,.inr rfl,fq,stG.repE (stU.repE ev3),it1.step stA,En cz,?_,by rw[e1,iw];rfl,cz⟩;exact(stA.reps r1).append (.cons (stG.rep ry) .nil)
    .cases c1
   .cases c1
 .rintro σ1 H1 ys ⟨hl,_,hH,p1,S1,ρ1,us,ws,⟨sm1,sh1⟩,st1,w1,f1,ev1,it1,g1,r1,e1,c1⟩
  rw[vk]at c1;unfold cS at c1;rw[if_pos g1]at c1;cases c1;refine⟨(it1.2 p1 H1 _ sm1.step sm1 g1).2,?_⟩;rw[ia]at e1;subst e1;exact k p1 H1 ys st1 sm1 sh1 w1 f1 hH (by rw[hl];exact it.1) r1
theorem Fl  {ρ:bJ}{xs:AH×Gd}{J:It}{Q:VK}{D:Addr}(sm:aO K p S H)(ev:bR K p H ρ σ)(it:eD K p H xs J)(k:aU K cl (bI K) p H ((cS xs.2 g me xs.1 (dW own cap ρ) S).bind λys S2=>.ok (.pv (.lst ys)) S2) Q E)(hD:H D=none):
  rK J (gP K g) (tP K cl E0 (bI K) me) (kG own cap σ) H D Q:=by
 cases z:cS _ g _ _ _ S with
 |fail=>rw[z]at k;exact k.elim
 |exc n S'=>exact absurd z (Zj _ _ _ _ _)
 |ok zs S2=>
  rw[z]at k;refine Om sm ev it z hD λq H' vs st1 sm1 sh1 w1 f1 hH l1 r1=>?_;refine k _ _ _ (st1.toLess hD) sh1.toLess ?_;exact⟨D,vs,rfl,.inl ⟨hH,λz=>z.2 rfl⟩,l1,sY (λa h=>h.1) r1⟩
theorem U1(k:gK X sc own cap)(hi:iA K cl E X target iter mi)(hc:X.calm=true)(hg:∀C AM AN ex,kS K (bW X sc (bZ own cap) C AM AN ex) target g)(he:∀C AM AN ex,aI K cl E0 (bW X sc (bZ own cap) C AM AN ex) elt me)
  (hs:∀x,foldedSetIterable iter X.env x=pure x:=by intro _;rfl):aI K cl E X (.ListComp elt [⟨target,iter,[],0⟩] sc pos) (dJ own cap mi g me):=by
 intro hK;refine PE.imp (R3 k (hi hK) hc (λC AM AN ex=>hg C _ _ _ hK) (λC AM AN ex=>he C _ _ _ hK) hs) ?_
 rintro σ H Q ⟨p,S,ρ,s,ev,h⟩
 exact aY s ev h λq H' xs J S' stp sm ev it kk D hD=>Fl sm ev it kk hD
theorem J9   {py spos:ai}(hN:X.N.Nodup)(hx:X.N[i]?=some x)(hl:iJ X.env.scope x)(k:gK X sc own cap)(hi:iA K cl E X target iter mi)(hc:X.calm=true)(hg:∀C AM AN ex,kS K (bW X sc (bZ own cap) C AM AN ex) target g)(he:∀C AM AN ex,aI K cl E0 (bW X sc (bZ own cap) C AM AN ex) elt me)
  (hs:∀x,foldedSetIterable iter X.env x=pure x:=by intro _;rfl)(hsw:swapsWith (.ListComp elt [⟨target,iter,[],0⟩] sc pos) (some (.Name x py)) spos.line X.env=pure true:=by rfl)
  (hf:X.fn x=true\/X.env.scope.names.lookup x=some .local:=by first |exact .inl rfl |exact .inr rfl |assumption):
  cL K cl E X (.Assign [.Name x py] (.ListComp elt [⟨target,iter,[],0⟩] sc pos) spos) (aW i (dJ own cap mi g me)):=by
 intro hK;refine PS.imp (Zo hN hx hl k (hi hK) hc (λC AM AN ex=>hg C AM AN ex hK) (λC AM AN ex=>he C AM AN ex hK) hs hsw hf) ?_
 rintro D σ H ⟨p,S,ρ,s,ev,h⟩
 have h2:tP K cl E (bI K) (dJ own cap mi g me) σ H λy H1=>D.nx (σ.set i (some y)) H1:=by
  refine⟨p,S,ρ,s,ev,?_⟩;unfold aW at h;cases z:dJ own cap mi g me ρ S with
  |ok v S1=>
   rw[z]at h;exact λq H' y st sm r=>h q H' _ st sm ((st.repE ev).set r i)
  |exc n S1=>rw[z]at h;exact h
  |fail=>rw[z]at h;exact h
 obtain⟨p,S,ρ,s,ev,h⟩:=h2;exact aY s ev h λq H' xs J S' stp sm ev it kk B hB=>Fl sm ev it kk hB
end
def lV:List (Option Bool)->Option (List Bool)
 |[]=>some []
 |some b::r=>match lV r with
  |some bs=>some (b::bs)
  |none=>none
 |none::_=>none
theorem Fk:∀{l:List (Option Bool)}{bs:List Bool},lV l=some bs->bs.length=l.length
 |[],_,e=>by cases e;rfl
 |some b::r,bs,e=>by
  unfold lV at e;split at e
  .rename_i cs h
   cases e;rw[bq,bq,Fk h]
  .cases e
 |none::r,_,e=>by cases e
theorem Md:∀{l:List (Option Bool)}{bs:List Bool}{i:Nat}{o:Option Bool},lV l=some bs->l[i]?=some o->∃b,o=some b/\bs[i]?=some b
 |[],_,i,o,_,h=>by simp at h
 |some b::r,bs,i,o,e,h=>by
  unfold lV at e;split at e
  .rename_i cs h'
   cases e;cases i with
   |zero=>
    simp at h;exact⟨b,h.symm,rfl⟩
   |succ i=>simpa using Md h' (by simp_all)
  .cases e
 |none::r,_,_,_,e,_=>by cases e
def bB:Nat->PV->PV->Option Bool
 |_,.non,.non=>some true
 |_,.bl a,.bl b=>some (a==b)
 |_,.int a,.int b=>some (a==b)
 |_,.str a,.str b=>some (a==b)
 |n+1,.tup xs,.tup ys=>match lV (jg (bB n) xs ys)with
  |some bs=>some (bs.all id&&xs.length==ys.length)
  |none=>none
 |n+1,.lst xs,.lst ys=>if xs.length=ys.length then(match lV (jg (bB n) xs ys)with
  |some bs=>some (bs.all id)
  |none=>none)else some false
 |_,_,_=>none
theorem zQ(bs:List Bool):((ee bs.length).all λj=>bs.getD j true)=bs.all id:=by
 rw[uq,jh,jh];constructor
 .intro h b hb
  obtain⟨j,hj,e⟩:=qd hb;have:=h j (by simp_all);simpa[cw,hj,e]using this
 .intro h j hj
  have hj:=by simpa using hj
  have:=h _ (mn hj);simpa[cw,hj]using this
section
variable{X:Cx}{AL:List (Addr×Obj)}{σ:St}{H:Hp}{s:Shared}{c:Addr->Prop}
theorem Aa  {xs ys:AH}{vs ws:List V}{its jts:AD}{bs:List Bool}{A:aj}
  (ih:∀(v w:PV)(x y:V)(u u':Value)(b:Bool),aP X.K c H v x->aP X.K c H w y->aT x u->aT y u'->bB n v w=some b->lh A s u u' b)
  (r1:aM X.K c H xs vs)(r2:aM X.K c H ys ws)(q1:aS vs its)(q2:aS ws jts)(e:lV (jg (bB n) xs ys)=some bs):
  ∀j(h1:j<its.toArray.size)(h2:j<jts.toArray.size),lh A s its.toArray[j] jts.toArray[j] (bs.getD j true):=λj h1 h2=>by
 have l1:=r1.length.trans q1.length;have l2:=r2.length.trans q2.length;have g1:j<xs.length:=by rw[l1];simpa using h1
 have g2:j<ys.length:=by rw[l2];simpa using h2
 obtain⟨x,ex,rx⟩:=r1.get (ba g1);obtain⟨y,ey,ry⟩:=r2.get (ba g2);obtain⟨u,eu,ru⟩:=q1.get ex;obtain⟨u',eu',ru'⟩:=q2.get ey;have hz:(jg (bB n) xs ys)[j]?=some (bB n xs[j] ys[j]):=by
  rw[zd,ba g1,ba g2]
 obtain⟨b,eb,eb'⟩:=Md e hz;have e1:its.toArray[j]=u:=by
  rw[ba (by simpa using h1)]at eu;exact dj eu
 have e2:jts.toArray[j]=u':=by
  rw[ba (by simpa using h2)]at eu';exact dj eu'
 rw[e1,e2];have e3:bs.getD j true=b:=by simp[cw,eb']
 rw[e3];exact ih _ _ _ _ _ _ _ rx ry ru ru' eb
theorem wJ    (e:lV (jg (bB n) xs ys)=some bs):bs.length=min xs.length ys.length:=by
 rw[Fk e,List.length_zipWith]
theorem Lm(n:Nat)(v w:PV)(x:V)(b:Bool)(nt:∀xs,v≠.tup xs)(nl:∀xs,v≠.lst xs)(h:aP X.K c H v x)(g:aP X.K c H w x)(e:bB n v w=some b):b=true:=by
 cases v with
 |tup xs=>exact absurd rfl (nt xs)
 |lst xs=>exact absurd rfl (nl xs)
 |dct ns fs=>cases w<;>(unfold bB at e;simp at e)
 |non=>
  cases w<;>first |(unfold bB at e;simp at e;done) |skip
  unfold bB at e;cases e;rfl
 |bl i=>
  cases w<;>first |(unfold bB at e;simp at e;done) |skip
  unfold aP at h g;subst h;injection g with g';subst g';unfold bB at e;cases e;exact beq_self_eq_true _
 |int i=>
  cases w<;>first |(unfold bB at e;simp at e;done) |skip
  unfold aP at h g;subst h;injection g with g';subst g';unfold bB at e;cases e;exact beq_self_eq_true _
 |str i=>
  cases w<;>first |(unfold bB at e;simp at e;done) |skip
  unfold aP at h g;subst h;injection g with g';subst g';unfold bB at e;cases e;exact beq_self_eq_true _
theorem Jn(I:aF X AL σ H s):∀(n:Nat)(v w:PV)(x:V)(b:Bool),aP X.K c H v x->aP X.K c H w x->bB n v w=some b->b=true:=by
 intro n
 induction n with
 |zero=>
  intro v w x b h g e;cases v with
  |tup xs=>unfold bB at e;simp at e
  |lst xs=>unfold bB at e;simp at e
  |_=>exact Lm 0 _ w x b (by intro _ z;cases z) (by intro _ z;cases z) h g e
 |succ n ih=>
  have items:∀(xs ys:AH)(vs:List V)(bs:List Bool),aM X.K c H xs vs->aM X.K c H ys vs->lV (jg (bB n) xs ys)=some bs->bs.all id=true/\xs.length=ys.length:=λxs ys vs bs r1 r2 e=>by
   have ll:=r1.length.trans r2.length.symm;refine⟨?_,ll⟩;rw[jh];intro b hb;obtain⟨j,hj,ej⟩:=qd hb;have hj':=hj;rw[wJ e]at hj';have g1:j<xs.length:=by omega
   have g2:j<ys.length:=by omega
   obtain⟨x,ex,rx⟩:=r1.get (ba g1);obtain⟨y,ey,ry⟩:=r2.get (ba g2);have:=ex.symm.trans ey;cases this;have hz:(jg (bB n) xs ys)[j]?=some (bB n xs[j] ys[j]):=by
    rw[zd,ba g1,ba g2]
   obtain⟨b',eb,eb'⟩:=Md e hz;rw[ba hj,ej]at eb';cases eb';exact ih _ _ _ _ rx ry eb
  intro v w x b h g e;cases v with
  |tup xs=>
   cases w with
   |tup ys=>
    obtain⟨a,vs,rfl,t1,_,r1⟩:=h;obtain⟨a',ws,e1,t2,_,r2⟩:=g;cases e1;have:=I.tuple_inj t1 t2;subst this;unfold bB at e;split at e
    .rename_i bs hb
     obtain⟨z1,z2⟩:=items xs ys vs bs r1 r2 hb;grind
    .cases e
   |_=>unfold bB at e;simp at e
  |lst xs=>
   cases w with
   |lst ys=>
    obtain⟨a,vs,rfl,t1,_,r1⟩:=h;obtain⟨a',ws,e1,t2,_,r2⟩:=g;cases e1;have:=I.list_inj t1.sq t2.sq;subst this;unfold bB at e;rw[if_pos (r1.length.trans r2.length.symm)]at e;split at e
    .rename_i bs hb
     obtain⟨z1,z2⟩:=items xs ys vs bs r1 r2 hb;grind
    .cases e
   |_=>unfold bB at e;simp at e
  |_=>exact Lm (n+1) _ w x b (by intro _ z;cases z) (by intro _ z;cases z) h g e
theorem Cq(I:aF X AL σ H s):∀(n:Nat)(v w:PV)(x y:V)(u u':Value)(b:Bool)(A:aj),A.units+n<cLine->aP X.K c H v x->aP X.K c H w y->aT x u->aT y u'->bB n v w=some b->lj A s u u' b/\lh A s u u' b:=by
 have flat:∀(n:Nat)(v w:PV)(x y:V)(u u':Value)(b:Bool)(A:aj),(∀xs,v≠.tup xs)->(∀xs,v≠.lst xs)->aP X.K c H v x->aP X.K c H w y->aT x u->aT y u'->bB n v w=some b->lj A s u u' b/\lh A s u u' b:=by
  intro n v w x y u u' b A nt nl h g r r' e;cases v with
  |tup xs=>exact absurd rfl (nt xs)
  |lst xs=>exact absurd rfl (nl xs)
  |dct ns fs=>cases w<;>(unfold bB at e;simp at e)
  |non=>
   cases w<;>first |(unfold bB at e;simp at e;done) |skip
   unfold aP at h g;subst h g;cases r;cases r';unfold bB at e;cases e;exact⟨ze,vo _⟩
  |bl i=>
   cases w<;>first |(unfold bB at e;simp at e;done) |skip
   unfold aP at h g;subst h g;cases r;cases r';unfold bB at e;cases e;exact⟨zf _ _,SeqAt.EqAt.bool_bool _ _⟩
  |int i=>
   cases w<;>first |(unfold bB at e;simp at e;done) |skip
   unfold aP at h g;subst h g;obtain⟨t,rfl⟩:=r;obtain⟨t',rfl⟩:=r';unfold bB at e;cases e;exact⟨zg _ _ _ _,SeqAt.EqAt.int_int _ _ _ _⟩
  |str i=>
   cases w<;>first |(unfold bB at e;simp at e;done) |skip
   unfold aP at h g;subst h g;obtain⟨t,rfl⟩:=r;obtain⟨t',rfl⟩:=r';unfold bB at e;cases e;exact⟨zh _ _ _ _,SeqAt.EqAt.str_str _ _ _ _⟩
 have main:∀(n:Nat)(v w:PV)(x y:V)(u u':Value)(b:Bool)(A:aj),A.units+n<cLine->aP X.K c H v x->aP X.K c H w y->aT x u->aT y u'->bB n v w=some b->lj A s u u' b/\lh A s u u' b:=by
  intro n
  induction n with
  |zero=>
   intro v w x y u u' b A hu h g r r' e;cases v with
   |tup xs=>unfold bB at e;simp at e
   |lst xs=>unfold bB at e;simp at e
   |_=>exact flat 0 _ w x y u u' b A (by intro _ z;cases z) (by intro _ z;cases z) h g r r' e
  |succ n ih=>
   intro v w x y u u' b A hu h g r r' e;have hin:A.in1.units+n<cLine:=by show A.units+1+n<cLine;omega
   cases v with
   |tup xs=>
    cases w with
    |tup ys=>
     have hs:x=y->b=true:=λz=>Jn I (n+1) _ _ x b h (z▸g) e;unfold aP at h g;obtain⟨a,vs,rfl,t1,_,r1⟩:=h;obtain⟨a',ws,rfl,t2,_,r2⟩:=g;cases r;cases r';obtain⟨its,q1,p1,_⟩:=I.tuple t1;obtain⟨jts,q2,p2,_⟩:=I.tuple t2;unfold bB at e;split at e
     .rename_i bs hb
      cases e;have z:=zk (A:=A) (s:=s) (e:=λj=>bs.getD j true) (show s.heap.IsTuple a its.toArray from p1) (show s.heap.IsTuple a' jts.toArray from p2) (by omega)
       (Aa (A:=A.in1) (λv w x y u u' b h1 h2 h3 h4 h5=>(ih v w x y u u' b A.in1 hin h1 h2 h3 h4 h5).2) r1 r2 q1 q2 hb)
      have l1:=r1.length.trans q1.length;have l2:=r2.length.trans q2.length;rw[ax,ax,<-l1,<-l2,<-wJ hb,zQ]at z;refine⟨z,?_⟩
      by_cases ha:a=a'
      .subst ha
       rw[hs rfl];exact vo _
      .exact zm ha z
     .cases e
    |_=>unfold bB at e;simp at e
   |lst xs=>
    cases w with
    |lst ys=>
     have hs:x=y->b=true:=λz=>Jn I (n+1) _ _ x b h (z▸g) e;unfold aP at h g;obtain⟨a,vs,rfl,t1,_,r1⟩:=h;obtain⟨a',ws,rfl,t2,_,r2⟩:=g;cases r;cases r';obtain⟨its,q1,p1,_⟩:=I.list t1.sq;obtain⟨jts,q2,p2,_⟩:=I.list t2.sq;have l1:=r1.length.trans q1.length;have l2:=r2.length.trans q2.length;have fin:lj A s (.ref a) (.ref a') b->lj A s (.ref a) (.ref a') b/\lh A s (.ref a) (.ref a') b:=λz=>by
      refine⟨z,?_⟩
      by_cases ha:a=a'
      .subst ha
       rw[hs rfl];exact vo _
      .exact zm ha z
     unfold bB at e;split at e
     .rename_i hl
      split at e
      .rename_i bs hb
       cases e;have z:=zn (A:=A) (s:=s) (e:=λj=>bs.getD j true) p1.isList p2.isList (by rw[ax,ax];omega) (by omega)
        (Aa (A:=A.in1) (λv w x y u u' b h1 h2 h3 h4 h5=>(ih v w x y u u' b A.in1 hin h1 h2 h3 h4 h5).2) r1 r2 q1 q2 hb)
       have hm:its.length=bs.length:=by rw[wJ hb];omega
       rw[ax,hm,zQ]at z;exact fin z
      .cases e
     .rename_i hl
      cases e;exact fin (zo p1.isList p2.isList (by rw[ax,ax];simp;omega) (by omega))
    |_=>unfold bB at e;simp at e
   |_=>exact flat (n+1) _ w x y u u' b A (by intro _ z;cases z) (by intro _ z;cases z) h g r r' e
 exact main
end
section
open PySem PySem.Spec PyProof.Rows Bn
section
variable{X:Cx}
theorem Us{AL:List (Addr×Obj)}{σ:St}{H:Hp}{s:Shared}(I:aF X AL σ H s){p:Ph}{v w:PV}{x y:V}{u u':Value}{b:Bool}{A:aj}(hu:A.units+8<cLine)(h:cY X.K p H v x)(g:cY X.K p H w y)(r:aT x u)(r':aT y u')(e:bB 8 v w=some b):
  lj A s u u' b/\SeqAt.RcNeAt A s u u' (!b):=by
 have hin:A.in1.units+7<cLine:=by show A.units+1+7<cLine;omega
 cases v with
 |dct ns fs=>cases w<;>(unfold bB at e;simp at e)
 |non=>
  cases w<;>first |(unfold bB at e;simp at e;done) |skip
  have h:=h.non;have g:=g.non;subst h g;cases r;cases r';unfold bB at e;cases e;exact⟨ze,SeqAt.RcNeAt.none_none⟩
 |bl i=>
  cases w<;>first |(unfold bB at e;simp at e;done) |skip
  have h:=h.bl;have g:=g.bl;subst h g;cases r;cases r';unfold bB at e;cases e;exact⟨zf _ _,SeqAt.RcNeAt.bool_bool _ _⟩
 |int i=>
  cases w<;>first |(unfold bB at e;simp at e;done) |skip
  have h:=h.int;have g:=g.int;subst h g;obtain⟨t,rfl⟩:=r;obtain⟨t',rfl⟩:=r';unfold bB at e;cases e;exact⟨zg _ _ _ _,SeqAt.RcNeAt.int_int _ _ _ _⟩
 |str i=>
  cases w<;>first |(unfold bB at e;simp at e;done) |skip
  have h:=h.str;have g:=g.str;subst h g;obtain⟨t,rfl⟩:=r;obtain⟨t',rfl⟩:=r';unfold bB at e;cases e;exact⟨zh _ _ _ _,SeqAt.RcNeAt.str_str _ _ _ _⟩
 |tup xs=>
  cases w with
  |tup ys=>
   obtain⟨a,vs,rfl,t1,_,r1⟩:=h.tup;obtain⟨a',ws,rfl,t2,_,r2⟩:=g.tup;cases r;cases r';obtain⟨its,q1,p1,_⟩:=I.tuple t1;obtain⟨jts,q2,p2,_⟩:=I.tuple t2;unfold bB at e;split at e
   .rename_i bs hb
    cases e;have it:=Aa (s:=s) (A:=A.in1) (λv w x y u u' b h1 h2 h3 h4 h5=>(Cq I 7 v w x y u u' b A.in1 hin h1 h2 h3 h4 h5).2) r1 r2 q1 q2 hb;have z:=zk (A:=A) (s:=s) (e:=λj=>bs.getD j true) (show s.heap.IsTuple a its.toArray from p1) (show s.heap.IsTuple a' jts.toArray from p2) (by omega) it;have z':=SeqAt.RcNeAt.tuples (A:=A) (s:=s) (e:=λj=>bs.getD j true) (show s.heap.IsTuple a its.toArray from p1) (show s.heap.IsTuple a' jts.toArray from p2) (by omega) it;have l1:=r1.length.trans q1.length;have l2:=r2.length.trans q2.length;rw[ax,ax,<-l1,<-l2,<-wJ hb,zQ]at z z';exact⟨z,z'⟩
   .cases e
  |_=>unfold bB at e;simp at e
 |lst xs=>
  cases w with
  |lst ys=>
   obtain⟨a,vs,rfl,t1,_,r1⟩:=h.lst;obtain⟨a',ws,rfl,t2,_,r2⟩:=g.lst;cases r;cases r';obtain⟨its,q1,p1,_⟩:=I.list t1;obtain⟨jts,q2,p2,_⟩:=I.list t2;have l1:=r1.length.trans q1.length;have l2:=r2.length.trans q2.length;unfold bB at e;split at e
   .rename_i hl
    split at e
    .rename_i bs hb
     cases e;have it:=Aa (s:=s) (A:=A.in1) (λv w x y u u' b h1 h2 h3 h4 h5=>(Cq I 7 v w x y u u' b A.in1 hin h1 h2 h3 h4 h5).2) r1 r2 q1 q2 hb;have z:=zn (A:=A) (s:=s) (e:=λj=>bs.getD j true) p1.isList p2.isList (by rw[ax,ax];omega) (by omega) it;have z':=SeqAt.RcNeAt.lists (A:=A) (s:=s) (e:=λj=>bs.getD j true) p1.isList p2.isList (by rw[ax,ax];omega) (by omega) it;have hm:its.length=bs.length:=by rw[wJ hb];omega
     rw[ax,hm,zQ]at z z';exact⟨z,z'⟩
    .cases e
   .rename_i hl
    cases e;exact⟨zo p1.isList p2.isList (by rw[ax,ax];simp;omega) (by omega),SeqAt.RcNeAt.lists_lengths p1.isList p2.isList (by rw[ax,ax];simp;omega) (by omega)⟩
  |_=>unfold bB at e;simp at e
def Sb(K:aa)(neg:Bool):R2:=λx y H Q=>∃p v w b,cY K p H v x/\cY K p H w y/\bB 8 v w=some b/\Q (.bl (if neg then !b else b)) H
theorem Ja(hu:X.A.units+8<cLine):cN X (compareOp .Eq) (Sb X.K false):=by
 intro AL s σ H x y v u Q I rx ry h;obtain⟨p,a,b,k,h1,h2,e,q⟩:=h;exact(Us I hu h1 h2 rx ry e).1 _ _ _ _ ⟨.bl k,H,I,rfl,q⟩
theorem Jq(hu:X.A.units+8<cLine):cN X (compareOp .NotEq) (Sb X.K true):=by
 intro AL s σ H x y v u Q I rx ry h;obtain⟨p,a,b,k,h1,h2,e,q⟩:=h;exact(Us I hu h1 h2 rx ry e).2 _ _ _ _ ⟨.bl _,H,I,rfl,q⟩
def cQ(a b:PV):AI:=(bB 8 a b).map .bl
def dG(a b:PV):AI:=(bB 8 a b).map λk=>.bl (!k)
theorem Qb{K:aa}:eG K (Sb K false) cQ:=λ{p S H a b c x y Q} s ra rb e k=>by
 unfold cQ at e;cases z:bB 8 a b with
 |none=>simp_all
 |some t=>
  rw[z]at e;cases e;exact⟨p,a,b,t,ra,rb,z,k H _ (bX.refl H) rfl ⟩
theorem Bu{K:aa}:eG K (Sb K true) dG:=λ{p S H a b c x y Q} s ra rb e k=>by
 unfold dG at e;cases z:bB 8 a b with
 |none=>simp_all
 |some t=>
  rw[z]at e;cases e;exact⟨p,a,b,t,ra,rb,z,k H _ (bX.refl H) rfl ⟩
def i2(f:Int->Int->AI):PV->PV->AI
 |.int a,.int b=>f a b
 |_,_=>none
open Classical in
def cI(C:Int->Int->Prop)(g:Int->Int->PV)(a b:Int):AI:=if C a b then some (g a b)else none
def rO:PV->V
 |.int i=>.int i
 |.bl b=>.bl b
 |.str s=>.str s
 |_=>.non
def uN:PV->Bool
 |.int _=>true
 |.bl _=>true
 |.str _=>true
 |.non=>true
 |_=>false
theorem iO{K:aa}{c:Addr->Prop}{H:Hp}{v:PV}(h:uN v=true):aP K c H v (rO v):=by
 cases v with
 |tup _=>cases h
 |lst _=>cases h
 |dct _ _=>cases h
 |_=>unfold aP rO;rfl
theorem Lb{K:aa}{C:Int->Int->Prop}{g:Int->Int->PV}{h:Int->Int->V}(fl:∀i j,uN (g i j)=true/\rO (g i j)=h i j):eG K (rI C h) (i2 (cI C g)):=λ{p S H a b c x y Q} s ra rb e k=>by
 cases a with
 |int i=>
  cases b with
  |int j=>
   unfold i2 cI at e;dsimp only at e;split at e
   .rename_i hc
    cases e;refine⟨i,j,ra.int,rb.int,hc,?_⟩;rw[<-(fl i j).2];exact k H _ (bX.refl H) (iO (fl i j).1)
   .cases e
  |_=>cases e
 |_=>cases e
theorem yH{K:aa}{g:Int->Int->PV}{h:Int->Int->V}(fl:∀i j,uN (g i j)=true/\rO (g i j)=h i j):eG K (jE h) (i2 λi j=>some (g i j)):=λ{p S H a b c x y Q} s ra rb e k=>by
 cases a with
 |int i=>
  cases b with
  |int j=>
   cases e;refine⟨i,j,ra.int,rb.int,?_⟩;rw[<-(fl i j).2];exact k H _ (bX.refl H) (iO (fl i j).1)
  |_=>cases e
 |_=>cases e
def uW(i j:Int):Prop:=Lh i j\/(Bd 1000000 i/\Bd 1000000 j)
theorem uW.ok  (h:uW i j):IntMulOk i j:=by
 rcases h with h |h
 .exact h.ok
 have h1:=Ro h.1;have h2:=Ro h.2;unfold IntMulOk Builtin.Int.intTooBig bitsLine;grind
theorem R5:cN X (binaryOp .Mult) (rI uW λi j=>.int (i*j)):=Uc λ_ _ _ _ _ _ _ hc q=>mul_int q hc.ok
def bO:=i2 (cI uW λi j=>.int (i*j))
def kD:=i2 (cI xS λi j=>.int (i.fdiv j))
def eQ:=i2 (cI (λ_ j=>j≠0) λi j=>.int (i.fmod j))
def jW:=i2 (cI Ic λi j=>.int (i^j.toNat))
def nS:=i2 λi j=>some (.int (i-j))
def jZ:=i2 λi j=>some (.bl (decide (i<j)))
def kP:=i2 λi j=>some (.bl (decide (i<=j)))
def lO:=i2 λi j=>some (.bl (decide (j<i)))
def rR:=i2 λi j=>some (.bl (decide (j<=i)))
theorem acd{K:aa}:eG K (rI uW λi j=>.int (i*j)) bO:=Lb λ_ _=>⟨rfl,rfl⟩
theorem aaJ{K:aa}:eG K (rI xS λi j=>.int (i.fdiv j)) kD:=Lb λ_ _=>⟨rfl,rfl⟩
theorem acA{K:aa}:eG K (rI (λ_ j=>j≠0) λi j=>.int (i.fmod j)) eQ:=Lb λ_ _=>⟨rfl,rfl⟩
theorem acG{K:aa}:eG K (rI Ic λi j=>.int (i^j.toNat)) jW:=Lb λ_ _=>⟨rfl,rfl⟩
theorem abG{K:aa}:eG K (jE λi j=>.int (i-j)) nS:=yH λ_ _=>⟨rfl,rfl⟩
theorem vP{K:aa}:eG K (jE λi j=>.bl (decide (i<j))) jZ:=yH λ_ _=>⟨rfl,rfl⟩
theorem yF{K:aa}:eG K (jE λi j=>.bl (decide (i<=j))) kP:=yH λ_ _=>⟨rfl,rfl⟩
theorem Tt{K:aa}:eG K (jE λi j=>.bl (decide (j<i))) lO:=yH λ_ _=>⟨rfl,rfl⟩
theorem Du{K:aa}:eG K (jE λi j=>.bl (decide (j<=i))) rR:=yH λ_ _=>⟨rfl,rfl⟩
def gO:PV->AI
 |.int i=>some (.int (-i))
 |_=>none
theorem aca{K:aa}:Zh K (rU λi=>.int (-i)) gO:=λ{p S H a c x Q} s ra e k=>by
 cases a with
 |int i=>
  cases e;exact⟨i,ra.int,k H _ (bX.refl H) rfl ⟩
 |_=>cases e
def Rr(K:aa):R2:=λx y H Q=>∃l b xs zs,x=.ref l/\y=.ref b/\bL K H l xs/\bL K H b zs/\xs.length+zs.length<=sizeLine/\∀p,H p=none->Q (.ref p) (aN H p (.lst (xs++zs)))
theorem U5:cN X (binaryOp .Add) (Rr X.K):=by
 intro AL s σ H x y v u Q I rx ry h;obtain⟨l,b,xs,zs,rfl,rfl,hx,hy,hz,q⟩:=h;cases rx;cases ry;obtain⟨its,r1,p1,_⟩:=I.list hx;obtain⟨jts,r2,p2,_⟩:=I.list hy;obtain⟨⟨cls,dd,data,sl⟩,n,ho,hc,_,hd⟩:=p1;obtain⟨⟨cls2,dd2,data2,sl2⟩,n2,ho2,hc2,_,hd2⟩:=p2;simp only at hc hd hc2 hd2;subst hc hd hc2 hd2;have e:its.toArray++jts.toArray=(its++jts).toArray:=by simp
 have l1:=r1.length;have l2:=r2.length;refine tw ⟨_,ho,rfl⟩ ⟨_,ho2,rfl⟩ noFill_list_add seq_list_add PySem.F.slot_list_add PySem.F.entry_list_add (PySem.F.args_list_add_2 _ _) (list_addW l b _ _ n n2 dd dd2 sl sl2 (by grind)) ⟨ho,ho2,?_⟩;rw[e];exact⟨.ref _,_,I.lnew  (r1.append r2) (by rw[cb];omega),rfl,q _ I.fresh⟩
def bT:PV->PV->AI
 |.int a,.int b=>some (.int (a+b))
 |.lst xs,.lst ys=>if xs.length+ys.length<=16777216 then some (.lst (xs++ys))else none
 |.tup xs,.tup ys=>if xs.length≠0/\ys.length≠0/\xs.length+ys.length<=16777216 then some (.tup (xs++ys))else none
 |_,_=>none
def Gs(K:aa):R2:=λx y H Q=>(jE λi j=>.int (i+j)) x y H Q\/Rr K x y H Q\/Zr K x y H Q
theorem R8:cN X (binaryOp .Add) (Gs X.K):=cN.or Yp (cN.or U5 U9)
theorem abA{K:aa}:eG K (Gs K) bT:=λ{p S H a b c x y Q} s ra rb e k=>by
 cases a with
 |int i=>
  cases b with
  |int j=>
   cases e;exact .inl ⟨i,j,ra.int,rb.int,k H _ (bX.refl H) (iO  rfl)⟩
  |_=>cases e
 |lst xs=>
  cases b with
  |lst ys=>
   have e:(if xs.length+ys.length<=16777216 then some (PV.lst (xs++ys))else none)=some c:=e;split at e
   .rename_i hl
    cases e;obtain⟨a1,vs,rfl,l1,z1,r1⟩:=ra.lst;obtain⟨a2,ws,rfl,l2,z2,r2⟩:=rb.lst;have hz:vs.length+ws.length<=sizeLine:=by rw[<-r1.length,<-r2.length,fG];exact hl
    exact .inr (.inl ⟨a1,a2,vs,ws,rfl,rfl,l1,l2,hz,λt ht=>k _ _ (eP ht) (mZ s (r1.append r2) (by rw[cb];exact hz) ht)⟩)
   .cases e
  |_=>cases e
 |tup xs=>
  cases b with
  |tup ys=>
   have e:(if xs.length≠0/\ys.length≠0/\xs.length+ys.length<=16777216 then some (PV.tup (xs++ys))else none)=some c:=e;split at e
   .rename_i hl
    cases e;obtain⟨a1,vs,rfl,l1,z1,r1⟩:=ra.tup;obtain⟨a2,ws,rfl,l2,z2,r2⟩:=rb.tup;have hz:vs.length+ws.length<=sizeLine:=by rw[<-r1.length,<-r2.length,fG];exact hl.2.2
    refine .inr (.inr ⟨a1,a2,vs,ws,rfl,rfl,l1,l2,λq=>hl.1 (by rw[r1.length,q];rfl),hz,λq=>absurd (show ys.length=0 by rw[r2.length,q];rfl) hl.2.1,λ_ t ht=>k _ _ (eP ht) (oM s (r1.append r2) (by rw[cb];exact hz) ht)⟩)
   .cases e
  |_=>cases e
 |_=>cases e
end
section
variable{K:aa}{cl:Str->Addr}{E:XK}{X:Cx}{a b e:ae}{es:List ae}{ma mb m:ME}{ms:MA}{pos p2:ai}
def bE:PV->PV->AI
 |.lst xs,.int i=>fL xs i
 |.tup xs,.int i=>fL xs i
 |_,_=>none
theorem Kf       (r:aM K c H xs vs)(e:fL xs i=some v):∃x,fL vs i=some x/\aP K c H v x:=by
 unfold fL at e⊢;rw[<-r.length];cases z:iB _ i with
 |none=>simp_all
 |some j=>
  rw[z]at e;exact r.get e
theorem adg:eG K (Cv K) bE:=λ{p S H a b c x y Q} s ra rb e k=>by
 cases b with
 |int i=>
  cases a with
  |lst xs=>
   obtain⟨a1,vs,rfl,l1,z1,r1⟩:=ra.lst;obtain⟨x,e1,r2⟩:=Kf r1 e;exact .inl ⟨a1,vs,i,x,rfl,rb.int,l1,e1,k H x (bX.refl H) r2⟩
  |tup xs=>
   obtain⟨a1,vs,rfl,l1,z1,r1⟩:=ra.tup;obtain⟨x,e1,r2⟩:=Kf r1 e;exact .inr (.inl ⟨a1,vs,i,x,rfl,rb.int,l1,e1,k H x (bX.refl H) r2⟩)
  |_=>cases e
 |_=>cases a<;>cases e
theorem acb(ha:aI K cl E X a ma)(hb:aI K cl E X b mb)(hs:Ef b:=by intro _ _;rfl):aI K cl E X (.Subscript a b pos) (aE bE ma mb):=by
 intro hK;subst hK;refine(Hs aaB (ha rfl) (hb rfl) hs).imp ?_
 rintro σ H Q ⟨p,S,ρ,s,e,h⟩
 exact aY s e h λq H1 a x S1 st s1 e1 r1 h1=>aY s1 e1 h1 λq2 H2 b y S2 st2 s2 e2 r2 h2=>oI adg s2 (st2.repA r1) r2 h2
abbrev MO:=bJ->aL->bA AG
def gB:MO:=λ_ S=>.ok none S
def qD:AV->aL->bA AG
 |.pv (.int i),S=>.ok (some i) S
 |_,_=>.fail
def fE(m:ME):MO:=λρ S=>(m ρ S).bind qD
abbrev RO:Ph->Hp->AG->AG->Prop:=λ_ _ a b=>a=b
variable(K cl E X)
def pJ(e:Option ae)(m:MO):Prop:=X.K=K->PO X e (tP K cl E RO m)
variable{K cl E X}
theorem PO.imp{e:Option ae}{t t':TO}(h:PO X e t)(i:∀σ H Q,t' σ H Q->t σ H Q):PO X e t':=λAL s σ H Q I q=>h _ s _ H Q I (i _ H Q q)
theorem M6:pJ K cl E X none gB:=λ_=>PO.imp X6 λσ H Q ⟨p,S,ρ,s,e,h⟩=>aU.ret  h s rfl
theorem G7(h:aI K cl E X e m):pJ K cl E X (some e) (fE m):=by
 intro hK;subst hK;refine PO.imp (O5 (h rfl)) ?_
 rintro σ H Q ⟨p,S,ρ,s,e,h⟩
 refine aY s e h λq H1 a x S1 st s1 e1 r1 h1=>?_;unfold qD at h1;split at h1
 .rename_i i
  exact⟨i,(show cY _ q _ _ x from .inl r1).int,aU.ret  h1 s1 rfl⟩
 .exact h1.elim
def rC(xs:AH)(lo hi:AG):AH:=(xs.drop (HT.sIx xs.length 0 lo)).take (HT.sIx xs.length xs.length hi-HT.sIx xs.length 0 lo)
def rN(v:PV)(lo hi:AG):AI:=match v with
 |.lst xs=>some (.lst (rC xs lo hi))
 |.tup xs=>if HT.sIx xs.length 0 lo=0/\HT.sIx xs.length xs.length hi=xs.length then none else some (.tup (rC xs lo hi))
 |_=>none
def jD(m:ME)(ml mh:MO):ME:=λρ S=>(m ρ S).bind λv S1=>(ml ρ S1).bind λlo S2=>(mh ρ S2).bind λhi S3=>gA ((rd S3 v).bind λx=>rN x lo hi) S3
theorem Hn     {lo hi:AG}(r:aM K c H xs vs):aM K c H (rC xs lo hi) (vI vs lo hi):=by
 unfold rC vI;rw[<-r.length];exact(r.drop _).take _
theorem acm{lo hi:Option ae}{ml mh:MO}(he:aI K cl E X e m)(hl:pJ K cl E X lo ml)(hu:pJ K cl E X hi mh):aI K cl E X (.Subscript e (.Slice lo hi none p2) pos) (jD m ml mh):=by
 intro hK;subst hK;refine(Tn (nY.or T9 aaT) (he rfl) (hl rfl) (hu rfl)).imp ?_
 rintro σ H Q ⟨p,S,ρ,s,e,h⟩
 refine aY s e h λq H1 a x S1 st s1 e1 r1 h1=>aY s1 e1 h1 λq2 H2 lo lo' S2 st2 s2 e2 r2 h2=>aY s2 e2 h2 λq3 H3 hi hi' S3 st3 s3 e3 r3 h3=>?_;cases r2;cases r3;have ra:=st3.repA (st2.repA r1);obtain⟨c,ec,k⟩:=mY s3 h3;cases z:rd S3 a with
 |none=>rw[z]at ec;cases ec
 |some v=>
  rw[z]at ec;have rv:=qK s3 ra z;cases v with
  |lst xs=>
   have ec:=ec;cases ec;obtain⟨a1,vs,rfl,l1,z1,r1⟩:=rv.lst;exact .inl ⟨a1,vs,rfl,l1,λt ht=>k _ _ (eP ht) (mZ s3 (Hn r1) (dq (zI vs lo hi) z1) ht)⟩
  |tup xs=>
   obtain⟨a1,vs,rfl,l1,z1,r1⟩:=rv.tup;have ec:(if HT.sIx xs.length 0 lo=0/\HT.sIx xs.length xs.length hi=xs.length then none else some _)=some c:=ec;split at ec
   .cases ec
   .rename_i hw
    cases ec;rw[r1.length]at hw;exact .inr ⟨a1,vs,rfl,l1,hw,λt ht=>k _ _ (eP ht) (oM s3 (Hn r1) (dq (zI vs lo hi) z1) ht)⟩
  |_=>cases ec
theorem tU{id:String}{r:List V->Hp->VK->Prop}{f:AH->AI}{x:Str}{p:ai}(hc:fX X (.builtin id) r)(hf:kC X.K r f)(hg:Gl X x)(hm:X.mg x=none)(hv:bootBuiltins x=some (.builtin id))(ha:cM K cl E X (e::es) ms)(hn:x≠"__name__":=by decide)(hdb:(x==("__debug__":Str))=false:=by decide)
  (he:starEach (e::es) X.env=(false,eval e X.env)::starEach es X.env:=by rfl)(hpl:(backTo pos (starEach es X.env)).any (·.1)=false:=by rfl):aI K cl E X (.Call (.Name x p) (e::es) [] pos) (mR f ms):=by
 intro hK;subst hK;refine PE.imp (Oe hc hg hm hv (ha rfl) hn hdb he hpl) ?_
 rintro σ H Q ⟨p,S,ρ,s,ev,h⟩
 exact aY s ev h λq H' as xs S' stp sm ev r k=>Il hf sm r k
theorem zS     {p:ai}(hc:fX X (.type T) r)(hf:kC X.K r f)(hg:Gl X x)(hm:X.mg x=none)(hv:bootBuiltins x=some (.type T))(ha:cM K cl E X (e::es) ms)(hn:x≠"__name__":=by decide)(hdb:(x==("__debug__":Str))=false:=by decide)
  (he:starEach (e::es) X.env=(false,eval e X.env)::starEach es X.env:=by rfl)(hpl:(backTo pos (starEach es X.env)).any (·.1)=false:=by rfl):aI K cl E X (.Call (.Name x p) (e::es) [] pos) (mR f ms):=by
 intro hK;subst hK;refine PE.imp (zV hc hg hm hv (ha rfl) hn hdb he hpl) ?_
 rintro σ H Q ⟨p,S,ρ,s,ev,h⟩
 exact aY s ev h λq H' as xs S' stp sm ev r k=>Il hf sm r k
def dX:AH->AI
 |[.lst xs]=>some (.int xs.length)
 |[.tup xs]=>some (.int xs.length)
 |_=>none
theorem acn:kC K (λxs H Q=>∃p ys,xs=[.ref p]/\(bL K H p ys\/cJ K H p ys)/\Q (.int ys.length) H) dX:=λ{p S H as c xs Q} s ra e k=>by
 unfold dX at e;split at e
 .cases e
  cases ra with
  |cons h t=>
   cases t;obtain⟨a,vs,rfl,l,z,r⟩:=h.lst;refine⟨a,vs,rfl,.inl l,?_⟩;rw[<-r.length];exact k H _ (bX.refl H) (iO  rfl)
 .cases e
  cases ra with
  |cons h t=>
   cases t;obtain⟨a,vs,rfl,l,z,r⟩:=h.tup;refine⟨a,vs,rfl,.inr l,?_⟩;rw[<-r.length];exact k H _ (bX.refl H) (iO  rfl)
 .cases e
def oZ:AH->AI
 |[.int i]=>some (.int (if i<0 then-i else i))
 |_=>none
theorem acw:kC K (λxs H Q=>∃i,xs=[.int i]/\Q (.int (if i<0 then-i else i)) H) oZ:=λ{p S H as c xs Q} s ra e k=>by
 unfold oZ at e;split at e
 .rename_i i
  cases e;cases ra with
  |cons h t=>
   cases t;cases h.int;exact⟨i,rfl,k H _ (bX.refl H) (iO  rfl)⟩
 .cases e
def nB:AH->AI
 |[.lst xs]=>some (.tup xs)
 |[.tup xs]=>some (.tup xs)
 |_=>none
theorem R9:kC K (λxs H Q=>∃p ys,xs=[.ref p]/\((bL K H p ys/\∀l,H l=none->Q (.ref l) (aN H l (.tup ys)))\/(cJ K H p ys/\Q (.ref p) H))) nB:=λ{p S H as c xs Q} s ra e k=>by
 unfold nB at e;split at e
 .cases e
  cases ra with
  |cons h t=>
   cases t;obtain⟨a,vs,rfl,l,z,r⟩:=h.lst;exact⟨a,vs,rfl,.inl ⟨l,λt ht=>k _ _ (eP ht) (oM s r z ht)⟩⟩
 .cases e
  cases ra with
  |cons h t=>
   cases t;obtain⟨a,vs,rfl,l,z,r⟩:=h.tup;refine⟨a,vs,rfl,.inr ⟨l,k H _ (bX.refl H) ?_⟩⟩;exact⟨a,vs,rfl,l,z,r⟩
 .cases e
def uD:AH->AI
 |[.lst xs]=>some (.lst xs)
 |[.tup xs]=>some (.lst xs)
 |_=>none
theorem X5:kC K (λxs H Q=>∃p ys,xs=[.ref p]/\(bL K H p ys\/cJ K H p ys)/\∀l,H l=none->Q (.ref l) (aN H l (.lst ys))) uD:=λ{p S H as c xs Q} s ra e k=>by
 unfold uD at e;split at e
 .cases e
  cases ra with
  |cons h t=>
   cases t;obtain⟨a,vs,rfl,l,z,r⟩:=h.lst;exact⟨a,vs,rfl,.inl l,λt ht=>k _ _ (eP ht) (mZ s r z ht)⟩
 .cases e
  cases ra with
  |cons h t=>
   cases t;obtain⟨a,vs,rfl,l,z,r⟩:=h.tup;exact⟨a,vs,rfl,.inr l,λt ht=>k _ _ (eP ht) (mZ s r z ht)⟩
 .cases e
def qV:AH->Option (List Bool)
 |[]=>some []
 |.bl b::r=>match qV r with
  |some bs=>some (b::bs)
  |none=>none
 |_::_=>none
def kO:AH->AI
 |[.lst xs]=>(qV xs).map λbs=>.bl (bs.all id)
 |_=>none
theorem Wm  :∀{xs:AH}{bs:List Bool}{vs:List V},qV xs=some bs->aM K c H xs vs->vs=bs.map V.bl
 |[],bs,vs,e,r=>by
  cases e;exact r
 |.bl b::xs,bs,vs,e,r=>by
  unfold qV at e;split at e
  .rename_i cs h
   cases e;obtain⟨v,w,rfl,r1,r2⟩:=r;rw[r1,Wm h r2];rfl
  .cases e
 |.non::_,_,_,e,_=>by cases e
 |.int _::_,_,_,e,_=>by cases e
 |.str _::_,_,_,e,_=>by cases e
 |.tup _::_,_,_,e,_=>by cases e
 |.lst _::_,_,_,e,_=>by cases e
theorem abS:kC K (λxs H Q=>∃(a:Addr)(bs:List Bool),xs=[.ref a]/\bL K H a (bs.map V.bl)/\Q (.bl (bs.all id)) H) kO:=λ{p S H as c xs Q} s ra e k=>by
 unfold kO at e;split at e
 .rename_i zs
  cases y:qV zs with
  |none=>simp_all
  |some bs=>
   rw[y]at e;cases e;cases ra with
   |cons h t=>
    cases t;obtain⟨a,vs,rfl,l,z,r⟩:=h.lst;rw[Wm y r]at l;exact⟨a,bs,rfl,l,k H _ (bX.refl H) (iO  rfl)⟩
 .cases e
end
end
section
variable{K:aa}{cl:Str->Addr}{E:XK}{X:Cx}{a b c e l:ae}{es:List ae}{m:ME}{ms:MA}{pos:ai}{p q:Ph}{H H':Hp}{S:aL}
theorem aO.push(s:aO K p S H){D:Addr}{ps:AH}{vs:List V}(h:H D=none)(l:vs.length<=sizeLine)(r:aM K p.c H ps vs):
  let q:Ph:=⟨p.f++[D],λa=>p.w a\/a=D,λa=>p.c a\/a=D⟩
  aZ p H q (aN H D (.lst vs))/\aO K q (S++[.lst ps]) (aN H D (.lst vs)):=by
 intro q;obtain⟨st0,sm0⟩:=s.res (D:=D) (o:=.lst vs) h trivial;have nf0:D∉p.f:=λz=>s.notin h (s.wc D (s.sub D z));refine⟨⟨st0.wc,st0.mu,⟨[D],rfl⟩,st0.mw,st0.mono,λa x n=>?_,st0.nw,st0.nc,st0.keep⟩,?_,by simp[q,s.len],λa x=>?_,sm0.wc,sm0.mu,λk a o e1 e2=>?_⟩
 .grind
 .show(p.f++[D]).Nodup
  rw[lg];refine⟨s.nd,by simp,λa ha b hb z=>?_⟩;have:b=D:=by simpa using hb
  exact nf0 (this▸z▸ha)
 .rcases cf.mp x with z |z
  .exact .inl (s.sub a z)
  .exact .inr (by simpa using z)
 .by_cases hk:k<S.length
  .have e1':p.f[k]?=some a:=by
    rwa[fh (by rw[s.len];exact hk)]at e1
   rw[fh hk]at e2;refine(s.obj k a o e1' e2).mono (λvs e=>by rw[aX (cU e h)];exact e) (λb w f=>⟨⟨.inl w,λm=>?_⟩,λvs e=>by rw[aX (cU e h)];exact e⟩) λ_ _ r=>st0.reps r;rcases cf.mp m with z |z
   .exact f z
   .have:b=D:=by simpa using z
    exact s.notin h (this▸s.wc b w)
  .have hk':k=S.length:=by
    have:=(cq.mp e2).1;simp at this;omega
   subst hk';rw[dg (ak _),ft]at e2;have e1:=e1;rw[<-s.len,dg (ak _),ft]at e1;cases e1;cases e2;exact⟨vs,cD,l,st0.reps r⟩
theorem aO.write(s:aO K p S H){D:Addr}{k:Nat}{ps:AH}{vs:List V}(h:p.f[k]?=some D)(hk:k<S.length)(l:vs.length<=sizeLine)(r:aM K p.c H ps vs):
  aZ p H p (aN H D (.lst vs))/\aO K p (S.set k (.lst ps)) (aN H D (.lst vs)):=by
 have w:=s.sub D (de h);have st:aZ p H p (aN H D (.lst vs)):=⟨s.wc,s.mu,jk,λ_ h=>h,λ_ h=>h,λ_ h g=>absurd h g,λ_ h g=>absurd h g,λ_ h g=>absurd h g,λa u e nw=>by
  rw[aX (λz=>nw (by rw[z];exact w))];exact e⟩
 refine⟨st,s.nd,by rw[gm];exact s.len,s.sub,s.wc,λa x=>?_,λj a o e1 e2=>?_⟩
 .by_cases z:a=D
  .rw[z,cD]
   exact⟨_,rfl,trivial⟩
  .rw[aX z]
   exact s.mu a x
 .by_cases hj:k=j
  .subst hj
   rw[h]at e1;cases e1;rw[fw hk]at e2;cases e2;exact⟨vs,cD,l,st.reps r⟩
  .rw[fj hj]at e2
   have ne:a≠D:=λq=>hj (nodup_idx s.nd h (q▸e1));exact(s.obj j a o e1 e2).mono (λvs e=>by rw[aX ne];exact e) (λb w f=>⟨⟨w,f⟩,λvs e=>by rw[aX (λz:b=D=>f (z▸de h))];exact e⟩) λ_ _ r=>st.reps r
def Kg(xs:AK)(S:aL):bA AV:=match lD xs with
 |some vs=>if vs.length<=16777216 then .ok (.ref S.length) (S++[.lst vs])else .fail
 |none=>.fail
def Gc(ms:MA):ME:=λρ S=>(ms ρ S).bind Kg
theorem R4(h:cM K cl E X es ms):aI K cl E X (.List es pos) (Gc ms):=by
 intro hK;subst hK;refine(wZ (h rfl)).imp ?_
 rintro σ H Q ⟨p,S,ρ,s,e,h⟩
 refine aY s e h λq H1 as xs S1 st s1 e1 r1 h1=>?_;unfold Kg at h1;split at h1
 .rename_i vs hv
  split at h1
  .rename_i hl
   have r:=zJ hv r1;rw[r.length]at hl;refine⟨hl,λt ht=>?_⟩;obtain⟨st2,sm2⟩:=s1.push ht hl r;exact h1 _ _ _ st2 sm2 ⟨t,by rw[<-s1.len,dg (ak _),ft];rfl,rfl⟩
  .exact h1.elim
 .exact h1.elim
def uY(k:Nat)(ys:AK)(S:aL):bA AV:=match ys with
 |[.pv y]=>match S[k]? with
  |some (.lst xs)=>if xs.length<16777216 then .ok (.pv .non) (S.set k (.lst (xs++[y])))else .fail
  |_=>.fail
 |_=>.fail
def iV{α:Type}(k:AV)(S:aL)(f:Nat->bA α):bA α:=match k with
 |.ref k=>(match S[k]? with
  |some (.dic _ _)=>.fail
  |some (.dol _ _)=>.fail
  |some (.dsk _ _ _)=>.fail
  |some (.tdc _ _)=>.fail
  |_=>f k)
 |_=>.fail
theorem Ye{α:Type}(k:Nat)(S:aL)(f:Nat->bA α):iV (.ref k) S f=.fail\/(iV (.ref k) S f=f k/\(∀n l,S[k]?≠some (.dic n l))/\(∀n l,S[k]?≠some (.dol n l))/\(∀h p f,S[k]?≠some (.dsk h p f))/\∀a b,S[k]?≠some (.tdc a b)):=by
 have e:iV (.ref k) S f=(match S[k]? with
  |some (.dic _ _)=>.fail
  |some (.dol _ _)=>.fail
  |some (.dsk _ _ _)=>.fail
  |some (.tdc _ _)=>.fail
  |_=>f k):=rfl
 rw[e];cases S[k]? with
 |none=>exact .inr ⟨rfl,λ_ _ z=>(nomatch z),λ_ _ z=>(nomatch z),λ_ _ _ z=>(nomatch z),λ_ _ z=>(nomatch z)⟩
 |some o=>
  cases o with
  |dic n l=>exact .inl rfl
  |dol n l=>exact .inl rfl
  |dsk h p f=>exact .inl rfl
  |tdc a b=>exact .inl rfl
  |lst xs=>exact .inr ⟨rfl,λ_ _ z=>(nomatch z),λ_ _ z=>(nomatch z),λ_ _ _ z=>(nomatch z),λ_ _ z=>(nomatch z)⟩
  |lol xs=>exact .inr ⟨rfl,λ_ _ z=>(nomatch z),λ_ _ z=>(nomatch z),λ_ _ _ z=>(nomatch z),λ_ _ z=>(nomatch z)⟩
def oX(m:ME)(ms:MA):ME:=λρ S=>(m ρ S).bind λk S1=>iV k S1 λk=>(ms ρ S1).bind λys S2=>uY k ys S2
theorem Eo{k:Nat}{x:V}(s:aO K p S H)(r:bI K p H (.ref k) x)(n1:∀n l,S[k]?≠some (.dic n l))(n2:(∀n l,S[k]?≠some (.dol n l))/\(∀h p f,S[k]?≠some (.dsk h p f))/\∀a b,S[k]?≠some (.tdc a b)):Tc K "list" x H:=by
 obtain⟨a,e,rfl⟩:=r;have hk:k<S.length:=by
  have:=(cq.mp e).1;rw[<-s.len];exact this
 have z:=s.obj k a S[k] e (ba hk);cases y:S[k]with
 |lst xs=>
  rw[y]at z;obtain⟨vs,h,_⟩:=z;exact .inl ⟨rfl,vs,bL.of h⟩
 |lol xss=>
  rw[y]at z;obtain⟨bs,h,_⟩:=z;exact .inl ⟨rfl,_,bL.of h⟩
 |dic n l=>exact absurd (by rw[ba hk,y]) (n1 n l)
 |dol n l=>exact absurd (by rw[ba hk,y]) (n2.1 n l)
 |dsk h p f=>exact absurd (by rw[ba hk,y]) (n2.2.1 h p f)
 |tdc a b=>exact absurd (by rw[ba hk,y]) (n2.2.2 a b)
theorem A1{apos cpos:ai}(ho:aI K cl E X a m)(ha:cM K cl E X [e] ms)(hbase:attributeBase a "append" X.env (eval a X.env)=eval a X.env:=by rfl)
  (hfew:((backTo cpos (starEach [e] X.env)).all (λx=>!x.1)&&(backToKw cpos (keywordEach [] X.env)).all (λx=>x.1.isSome)&&decide (([e]:List ae).length+([]:List fk).length+(if([]:List fk).isEmpty then 0 else 1)<30))=true:=by rfl)
  (hline:(apos.endLine==cpos.line)=true:=by rfl)(hs:starEach [e] X.env=[(false,eval e X.env)]:=by rfl):aI K cl E X (.Call (.Attribute a "append" apos) [e] [] cpos) (oX m ms):=by
 intro hK;subst hK;refine PE.imp (xV qe uj zp vW (ho rfl) (ha rfl) hbase hfew hline hs rfl) ?_
 rintro σ H Q ⟨p,S,ρ,s,ev,h⟩
 refine aY s ev h λq H1 k x S1 st s1 e1 r1 h1=>?_;cases k with
 |pv v=>exact h1.elim
 |ref k=>
  have h1:aU X.K cl (bI X.K) q H1 (iV (.ref k) S1 λk=>(ms ρ S1).bind λys S2=>uY k ys S2) Q E:=h1;rcases Ye k S1 (λk=>(ms ρ S1).bind λys S2=>uY k ys S2)with z |⟨z,n1,n2⟩
  .rw[z]at h1
   exact h1.elim
  rw[z]at h1;refine⟨Eo s1 r1 n1 n2,aY s1 e1 h1 λq2 H2 ys xs S2 st2 s2 e2 r2 h2=>?_⟩;obtain⟨a,ea,rfl⟩:=st2.repA r1;unfold uY at h2;split at h2
  .rename_i y
   cases r2 with
   |cons r3 r4=>
    cases r4;rename_i x;cases z:S2[k]? with
    |none=>rw[z]at h2;exact h2.elim
    |some o=>
     cases o with
     |lol _=>simp only[z]at h2;exact h2.elim
     |dic _ _=>simp only[z]at h2;exact h2.elim
     |dol _ _=>simp only[z]at h2;exact h2.elim
     |dsk _ _ _=>simp only[z]at h2;exact h2.elim
     |tdc _ _=>simp only[z]at h2;exact h2.elim
     |lst zs=>
      simp only[z]at h2;obtain⟨vs,h3,l3,r4⟩:=s2.obj k a _ ea z;split at h2
      .rename_i hl
       rw[r4.length]at hl;have hz:=fG;refine⟨a,vs,x,rfl,rfl,h3,by omega,?_⟩;obtain⟨st3,sm3⟩:=s2.write ea (cq.mp z).1 (ps:=zs++[y]) (vs:=vs++[x]) (by rw[cb,qg];omega) (r4.append (.cons r3 .nil));exact h2 _ _ .non st3 sm3 (by show aP X.K q2.c (aN H2 a (.lst (vs++[x]))) .non .non;unfold aP;rfl)
      .exact h2.elim
  .exact h2.elim
def xT(k:Nat)(ys:AK)(S:aL):bA AV:=match ys with
 |[.pv (.int i)]=>if-9223372036854775808<=i/\i<9223372036854775808 then(match S[k]? with
  |some (.lst xs)=>match seqIndex? i xs.length with
   |some j=>match xs[j]? with
    |some v=>.ok (.pv v) (S.set k (.lst (xs.eraseIdx j)))
    |none=>.fail
   |none=>.fail
  |_=>.fail)else .fail
 |_=>.fail
def yG(m:ME)(ms:MA):ME:=λρ S=>(m ρ S).bind λk S1=>iV k S1 λk=>(ms ρ S1).bind λys S2=>xT k ys S2
theorem aaQ{apos cpos:ai}(ho:aI K cl E X a m)(ha:cM K cl E X [e] ms)(hbase:attributeBase a "pop" X.env (eval a X.env)=eval a X.env:=by rfl)
  (hfew:((backTo cpos (starEach [e] X.env)).all (λx=>!x.1)&&(backToKw cpos (keywordEach [] X.env)).all (λx=>x.1.isSome)&&decide (([e]:List ae).length+([]:List fk).length+(if([]:List fk).isEmpty then 0 else 1)<30))=true:=by rfl)
  (hline:(apos.endLine==cpos.line)=true:=by rfl)(hs:starEach [e] X.env=[(false,eval e X.env)]:=by rfl):aI K cl E X (.Call (.Attribute a "pop" apos) [e] [] cpos) (yG m ms):=by
 intro hK;subst hK;refine PE.imp (xV qe oy zq D9 (ho rfl) (ha rfl) hbase hfew hline hs rfl) ?_
 rintro σ H Q ⟨p,S,ρ,s,ev,h⟩
 refine aY s ev h λq H1 k x S1 st s1 e1 r1 h1=>?_;cases k with
 |pv v=>exact h1.elim
 |ref k=>
  have h1:aU X.K cl (bI X.K) q H1 (iV (.ref k) S1 λk=>(ms ρ S1).bind λys S2=>xT k ys S2) Q E:=h1;rcases Ye k S1 (λk=>(ms ρ S1).bind λys S2=>xT k ys S2)with z |⟨z,n1,n2⟩
  .rw[z]at h1
   exact h1.elim
  rw[z]at h1;refine⟨Eo s1 r1 n1 n2,aY s1 e1 h1 λq2 H2 ys xs S2 st2 s2 e2 r2 h2=>?_⟩;obtain⟨a,ea,rfl⟩:=st2.repA r1;unfold xT at h2;split at h2
  .rename_i i
   cases r2 with
   |cons r3 r4=>
    cases r4;rename_i x;have ex:x=.int i:=(show cY X.K q2 H2 (.int i) x from .inl r3).int;subst ex;split at h2
    .rename_i hi
     cases z:S2[k]? with
     |none=>rw[z]at h2;exact h2.elim
     |some o=>
      cases o with
      |lol _=>simp only[z]at h2;exact h2.elim
      |dic _ _=>simp only[z]at h2;exact h2.elim
      |dol _ _=>simp only[z]at h2;exact h2.elim
      |dsk _ _ _=>simp only[z]at h2;exact h2.elim
      |tdc _ _=>simp only[z]at h2;exact h2.elim
      |lst zs=>
       simp only[z]at h2;obtain⟨vs,h3,l3,r4⟩:=s2.obj k a _ ea z;cases y:seqIndex? i zs.length with
       |none=>simp only[y]at h2;exact h2.elim
       |some j=>
        simp only[y]at h2;cases yv:zs[j]? with
        |none=>simp only[yv]at h2;exact h2.elim
        |some v=>
         simp only[yv]at h2;obtain⟨u,eu,ru⟩:=r4.get yv;refine⟨a,vs,i,j,u,rfl,rfl,h3,hi.1,hi.2,by rw[<-r4.length];exact y,eu,?_⟩;obtain⟨st3,sm3⟩:=s2.write ea (cq.mp z).1 (ps:=zs.eraseIdx j) (vs:=vs.eraseIdx j) (dq (Ae vs j) l3) (r4.eraseIdx j);exact h2 _ _ u st3 sm3 (st3.rep ru)
    .exact h2.elim
  .exact h2.elim
def qR(k:Nat)(i:AV)(v:AV)(S:aL):bA Unit:=match i,v with
 |.pv (.int i),.pv v=>match S[k]? with
  |some (.lst xs)=>match iB xs.length i with
   |some j=>.ok () (S.set k (.lst (xs.set j v)))
   |none=>.fail
  |_=>.fail
 |_,_=>.fail
def qG(mo mi mv:ME):MS:=λρ S=>bY.of (mv ρ S) λv S1=>bY.of (mo ρ S1) λk S2=>bY.of (mi ρ S2) λi S3=>bY.of (iV k S3 λk=>qR k i v S3) λ_ S4=>.nx ρ S4
theorem Jz{o i v:ae}{mo mi mv:ME}{tpos:ai}(hv:aI K cl E X v mv)(ho:aI K cl E X o mo)(hi:aI K cl E X i mi)
  (ha:∀v,assign (.Subscript o i tpos) X.env v=(do
   let ov <-holding [v] (eval o X.env)
   let iv <-holding [v,ov] (eval i X.env)
   standAt tpos
   holding [v,ov,iv] (setItem ov iv v)
   release [v,ov,iv] []):=by intro _;rfl)
  (hs:swapsWithSole [.Subscript o i tpos] v pos.line X.env=pure false:=by rfl)(hw:swappedStores [.Subscript o i tpos] v X.env=pure none:=by rfl)
  (h1:(assignEach [.Subscript o i tpos] X.env).map (·.2)=[assign (.Subscript o i tpos) X.env]:=by rfl):cL K cl E X (.Assign [.Subscript o i tpos] v pos) (qG mo mi mv):=by
 intro hK;subst hK;refine PS.imp (Zp (hv rfl) (Z9 (ho rfl) (hi rfl) J7 ha) hs hw h1) ?_
 rintro D σ H ⟨p,S,ρ,s,ev,h⟩
 refine jQ s ev h λq H1 v x S1 st s1 e1 r1 h1=>?_;refine jQ s1 e1 h1 λq2 H2 k y S2 st2 s2 e2 r2 h2=>?_;refine jQ s2 e2 h2 λq3 H3 i z S3 st3 s3 e3 r3 h3=>?_;cases k with
 |pv _=>exact h3.elim
 |ref k=>
  obtain⟨a,ea,rfl⟩:=st3.repA r2;have rv:=st3.repA (st2.repA r1);have h3:dA X.K cl q3 H3 (bY.of (iV (.ref k) S3 λk=>qR k i v S3) λ_ S4=>.nx ρ S4) D E:=h3;rcases Ye k S3 (λk=>qR k i v S3)with z0 |⟨z0,_,_⟩
  .rw[z0]at h3
   exact h3.elim
  rw[z0]at h3;unfold qR at h3;split at h3
  .rename_i ii vv _
   have ez:z=.int ii:=(show cY X.K q3 H3 (.int ii) z from .inl r3).int;subst ez;cases w:S3[k]? with
   |none=>rw[w]at h3;exact h3.elim
   |some o=>
    cases o with
    |lol _=>simp only[w]at h3;exact h3.elim
    |dic _ _=>simp only[w]at h3;exact h3.elim
    |dol _ _=>simp only[w]at h3;exact h3.elim
    |dsk _ _ _=>simp only[w]at h3;exact h3.elim
    |tdc _ _=>simp only[w]at h3;exact h3.elim
    |lst zs=>
     simp only[w]at h3;obtain⟨vs,hh,ll,rr⟩:=s3.obj k a _ ea w;cases y:iB zs.length ii with
     |none=>simp only[y]at h3;exact h3.elim
     |some j=>
      simp only[y]at h3;refine⟨a,vs,ii,j,rfl,rfl,hh,by rw[<-rr.length];exact y,?_⟩;obtain⟨st4,sm4⟩:=s3.write ea (cq.mp w).1 (ps:=zs.set j vv) (vs:=vs.set j x) (by rw[gm];exact ll) (aM.set rv j rr);exact h3 _ _ _ st4 sm4 (st4.repE e3)
  .exact h3.elim
def nT:AH->AH->AH
 |x::xs,y::ys=>.tup [x,y]::nT xs ys
 |_,_=>[]
theorem Pe:∀(xs ys:AH),(nT xs ys).length=min xs.length ys.length
 |[],ys=>rfl
 |x::xs,[]=>rfl
 |x::xs,y::ys=>by
  unfold nT;rw[bq,Pe _ _,bq,bq]<;>grind
theorem Sm:∀{xs ys:AH}{i:Nat}{v:PV},(nT xs ys)[i]?=some v->∃x y,xs[i]?=some x/\ys[i]?=some y/\v=.tup [x,y]
 |[],ys,i,v,e=>by cases ys<;>simp[nT]at e
 |x::xs,[],i,v,e=>by simp[nT]at e
 |x::xs,y::ys,0,v,e=>by
  unfold nT at e;simp at e;exact⟨x,y,rfl,rfl,e.symm⟩
 |x::xs,y::ys,i+1,v,e=>by
  unfold nT at e;obtain⟨a,b,h1,h2,h3⟩:=Sm     (by simpa using e);exact⟨a,b,by simpa using h1,by simpa using h2,h3⟩
def Sr:AK->aL->bA (AH×Gd)
 |[a,b],S=>match iW a S with
  |.ok xs _=>match iW b S with
   |.ok ys _=>.ok (nT xs.1 ys.1,xs.2++ys.2) S
   |_=>.fail
  |_=>.fail
 |_,_=>.fail
def Cc(ms:MA):MI:=λρ S=>(ms ρ S).bind Sr
theorem Yn{a:AV}{x:V}{xs:AH×Gd}{S':aL}(s:aO K p S H)(r:bI K p H a x)(e:iW a S=.ok xs S'):∃f ad vs,x=.ref ad/\jN f K H ad vs/\xs.1.length<=sizeLine/\∀q H1 S1,aZ p H q H1->aO K q S1 H1->iC xs.2 S1->∃vs,jN f K H1 ad vs/\aM K q.c H1 xs.1 vs:=by
 cases a with
 |ref j=>
  obtain⟨a,e1,rfl⟩:=r;unfold iW at e;dsimp only at e;cases z:S[j]? with
  |none=>rw[z]at e;cases e
  |some o=>
   cases o with
   |lol _=>rw[z]at e;cases e
   |dic _ _=>rw[z]at e;cases e
   |dol _ _=>rw[z]at e;cases e
   |dsk _ _ _=>rw[z]at e;cases e
   |tdc _ _=>rw[z]at e;cases e
   |lst ys=>
    rw[z]at e;cases e;obtain⟨vs,h1,l1,r1⟩:=s.obj j a _ e1 z;refine⟨false,a,vs,rfl,bL.of h1,by rw[r1.length];exact l1,λq H1 S1 st sm g=>?_⟩;obtain⟨ws,h2,l2,r2⟩:=sm.obj j a _ (st.at_ e1) (g (j,ys) ce);exact⟨ws,bL.of h2,r2⟩
 |pv v=>
  cases v with
  |lst ys=>
   cases e;have r:aP K p.c H (.lst ys) x:=r;unfold aP at r;obtain⟨a,vs,rfl,l,z,r⟩:=r;exact⟨false,a,vs,rfl,l.sq,by rw[r.length];exact z,λq H1 S1 st sm g=>⟨vs,(st.lat l).sq,st.reps r⟩⟩
  |tup ys=>
   cases e;have r:aP K p.c H (.tup ys) x:=r;unfold aP at r;obtain⟨a,vs,rfl,l,z,r⟩:=r;exact⟨true,a,vs,rfl,l,by rw[r.length];exact z,λq H1 S1 st sm g=>⟨vs,st.tup l,st.reps r⟩⟩
  |_=>cases e
theorem S9{elts:List ae}{x1:Nat}{tp p:ai}(hg:Gl X "zip")(hm:X.mg "zip"=none)(hl:cM K cl E X [a,b] ms)(hs:starEach [a,b] X.env=[(false,eval a X.env),(false,eval b X.env)]:=by rfl)(hs2:starEach [b] X.env=[(false,eval b X.env)]:=by rfl):
  iA K cl E X (.Tuple elts x1 tp) (.Call (.Name "zip" p) [a,b] [] pos) (Cc ms):=by
 intro hK;subst hK;refine PI.imp (aay hg hm (hl rfl) hs hs2) ?_
 rintro σ H R ⟨p,S,ρ,s,ev,h⟩
 refine aY s ev h λq H' as xs S' stp sm ev r k=>?_;unfold Sr at k;split at k
 .cases r with
  |cons r1 r2=>
   cases r2 with
   |cons r2 r3=>
    cases r3;split at k
    .rename_i xs1 S1 hx
     split at k
     .rename_i ys1 S2 hy
      obtain⟨f1,a1,vs1,rfl,q1,z1,st1⟩:=Yn sm r1 hx;obtain⟨f2,a2,vs2,rfl,q2,z2,st2⟩:=Yn sm r2 hy;refine⟨f1,a1,f2,a2,vs1,vs2,rfl,q1,q2,aU.ret  k sm ?_⟩;refine⟨by rw[Pe];omega,λq3 H3 S3 st3 sm3 g3=>?_⟩;obtain⟨ws1,w1,rr1⟩:=st1 q3 H3 S3 st3 sm3 λg hg=>g3 g (kg _ hg);obtain⟨yV,w2,rr2⟩:=st2 q3 H3 S3 st3 sm3 λg hg=>g3 g (ck _ hg);refine⟨λi v e=>?_,?_⟩
      .obtain⟨x,y,ex,ey,rfl⟩:=Sm e
       obtain⟨x',ex',rx⟩:=rr1.get ex;obtain⟨y',ey',ry⟩:=rr2.get ey;refine⟨⟨ws1,yV,x',y',w1,w2,ex',ey'⟩,λz H4 hz=>?_⟩;obtain⟨t,x2,y2,ht,rfl,rfl,g1,g2⟩:=hz;have e1:=(g1 ws1 w1).symm.trans ex';have e2:=(g2 yV w2).symm.trans ey';cases e1;cases e2;refine⟨eP ht,oM sm3 (.cons rx (.cons ry .nil)) (by show 2<=sizeLine;decide) ht⟩
      .refine⟨ws1,yV,w1,w2,?_⟩
       rw[Pe,rr1.length,rr2.length];omega
     .exact k.elim
    .exact k.elim
 .exact k.elim
def jT:Nat->AH->AH
 |_,[]=>[]
 |n,x::xs=>.tup [.int n,x]::jT (n+1) xs
theorem De:∀(n:Nat)(xs:AH),(jT n xs).length=xs.length
 |_,[]=>rfl
 |n,x::xs=>by
  unfold jT;rw[bq,De _ _,bq]
theorem Im:∀{n:Nat}{xs:AH}{i:Nat}{v:PV},(jT n xs)[i]?=some v->∃x,xs[i]?=some x/\v=.tup [.int ((n+i:Nat):Int),x]
 |n,[],i,v,e=>by simp[jT]at e
 |n,x::xs,0,v,e=>by
  unfold jT at e;simp at e;exact⟨x,rfl,e.symm⟩
 |n,x::xs,i+1,v,e=>by
  unfold jT at e;obtain⟨y,h1,h2⟩:=Im     (by simpa using e);refine⟨y,by simpa using h1,?_⟩;grind
def Eg:AK->aL->bA (AH×Gd)
 |[.pv (.lst xs)],S=>.ok (jT 0 xs,[]) S
 |[.ref k],S=>match iW (.ref k) S with
  |.ok xs _=>.ok (jT 0 xs.1,xs.2) S
  |_=>.fail
 |_,_=>.fail
def Ta(ms:MA):MI:=λρ S=>(ms ρ S).bind Eg
theorem Gq  {G:Gd}{a:Addr}(z:xs.length<=sizeLine)(st1:∀q H1 S1,aZ p H q H1->aO K q S1 H1->iC G S1->∃vs,bL K H1 a vs/\aM K q.c H1 xs vs):eD K p H (jT 0 xs,G) (Uh K a):=by
 refine⟨by rw[De];exact z,λq3 H3 S3 st3 sm3 g3=>?_⟩;obtain⟨ws1,w1,rr1⟩:=st1 _ _ _ st3 sm3 g3;refine⟨λi v e=>?_,?_⟩
 .obtain⟨x,ex,rfl⟩:=Im e
  obtain⟨x',ex',rx⟩:=rr1.get ex;refine⟨⟨ws1,x',w1,ex'⟩,λz H4 hz=>?_⟩;obtain⟨t,y2,ht,rfl,rfl,g1⟩:=hz;have e1:=(g1 _ w1).symm.trans ex';cases e1;refine⟨eP ht,oM sm3 (.cons ?_ (.cons rx .nil)) (by show 2<=sizeLine;decide) ht⟩;rw[qx];exact iO  rfl
 .refine⟨ws1,w1,?_⟩
  rw[De,rr1.length]
  simp_all
theorem L1{elts:List ae}{x1:Nat}{tp p:ai}(hg:Gl X "enumerate")(hm:X.mg "enumerate"=none)(hl:cM K cl E X [l] ms)(hs:starEach [l] X.env=[(false,eval l X.env)]:=by rfl):
  iA K cl E X (.Tuple elts x1 tp) (.Call (.Name "enumerate" p) [l] [] pos) (Ta ms):=by
 intro hK;subst hK;refine PI.imp (U8 hg hm (hl rfl) hs) ?_
 rintro σ H R ⟨p,S,ρ,s,ev,h⟩
 refine aY s ev h λq H' as xs S' stp sm ev r k=>?_;unfold Eg at k;split at k
 .rename_i ys
  cases r with
  |cons r1 r2=>
   cases r2;rename_i x;have r1:aP X.K q.c H' (.lst ys) x:=r1;unfold aP at r1;obtain⟨a,vs,rfl,l,z,r⟩:=r1;exact⟨a,rfl,⟨vs,l.sq⟩,aU.ret (R:=eD X.K) k sm (Gq (by rw[r.length];exact z) λq H1 S1 st sm g=>⟨vs,(st.lat l).sq,st.reps r⟩)⟩
 .rename_i j
  cases r with
  |cons r1 r2=>
   cases r2;split at k
   .rename_i xs1 S1 hx
    obtain⟨a,e1,rfl⟩:=r1;cases z:S'[j]? with
    |none=>unfold iW at hx;simp only[z]at hx;cases hx
    |some o=>
     cases o with
     |lol _=>unfold iW at hx;simp only[z]at hx;cases hx
     |dic _ _=>unfold iW at hx;simp only[z]at hx;cases hx
     |dol _ _=>unfold iW at hx;simp only[z]at hx;cases hx
     |dsk _ _ _=>unfold iW at hx;simp only[z]at hx;cases hx
     |tdc _ _=>unfold iW at hx;simp only[z]at hx;cases hx
     |lst ys=>
      unfold iW at hx;simp only[z]at hx;cases hx;obtain⟨vs,h1,l1,r1⟩:=sm.obj j a _ e1 z;refine⟨a,rfl,⟨vs,bL.of h1⟩,aU.ret (R:=eD X.K) k sm (Gq (by rw[r1.length];exact l1) λq H1 S1 st sm g=>?_)⟩;obtain⟨ws,h2,l2,r2⟩:=sm.obj j a _ (st.at_ e1) (g (j,ys) ce);exact⟨ws,bL.of h2,r2⟩
   .exact k.elim
 .exact k.elim
end
theorem rQ  {k:Nat}(hr:bG k A):A.units+8<cLine:=by
 have:=hr.units;omega
section
variable{K:aa}{cl:Str->Addr}{E:XK}{a e:ae}{q:Ph}{H H':Hp}{S:aL}
def qY:PV->AI
 |.non=>some (.bl true)
 |_=>some (.bl false)
def Hb(K:aa):Sp:=λvs H Q _=>∃(a:Addr)(ns:AA),vs=[.ref a]/\bL K H a (ns.map V.int)/\ns.length<=63/\∀H',Q (.bl true) H'
theorem X1  (ht:∀ns:AA,ns.length<=63->∃S,f [.pv (.lst (ns.map .int))] []=.ok (.pv (.bl true)) S){vs:List V}{H:Hp}{Q:VK}{E:XK}(h:Hb K vs H Q E):kL K cl f vs H Q E:=by
 obtain⟨a,ns,rfl,hS,hl,hQ⟩:=h;obtain⟨S,e⟩:=ht ns hl;have rs:∀(ns:List _),aM K (λ_=>False) H (ns.map .int) (ns.map _):=λns=>by
  induction ns with
  |nil=>exact .nil
  |cons n ns ih=>exact .cons (by rfl) ih
 refine⟨⟨[],λ_=>False,λ_=>False⟩,[],[.pv (.lst (ns.map .int))],⟨List.nodup_nil,rfl,(λ_ h=>absurd h (pw)),(λ_ h=>h),(λ_ h=>h.elim),λk a o e=>by simp at e ⟩,.cons ?_ .nil,?_⟩
 .refine⟨a,_,rfl,?_,?_,rs _ ⟩
  .rcases hS with(h |h) |h
   .exact .inl ⟨h,λz=>z⟩
   .exact .inr (.inl h)
   .exact .inr (.inr h)
  .rw[bh,fG]
   omega
 .rw[e]
  intro q H' x st sm r;have r:=r;rw[r];exact hQ H'
end
section
variable{K:aa}{e:ae}{p q:Ph}{H:Hp}
theorem bR.forget   (h:bR K p H ρ σ)(i:Nat)(x:Option V):bR K p H (ρ.set i none) (σ.set i x):=by
 refine⟨by rw[gm,gm,h.len],λj u e=>?_⟩
 by_cases q:i=j
 .subst q
  by_cases l:i<ρ.length
  .simp_all
  .simp_all
 .rw[fj q]at e⊢
  exact h.at_ j u e
end
end L2.Pp
namespace L2
open PySem PySem.Spec PyProof.Rows Bn
section
variable{X:Cx}
theorem Vj(is:AA):∀j,j<=is.length->preSum (λi=>is.getD i 0) j=(is.take j).sum
 |0,_=>rfl
 |j+1,h=>by
  have hj:=h;rw[preSum,Vj _ j (by omega),List.take_add_one,ba hj,Option.toList_some,List.sum_append,List.sum_singleton];simp only[cw,ba hj,zt]
theorem Ez(hc:X.calm=true):fX X (.builtin "sum") (λxs H Q=>∃(a:Addr)(is:AA),xs=[.ref a]/\bL X.K H a (is.map V.int)/\Q (.int is.sum) H):=by
 intro AL s σ H xs us Q I r h;obtain⟨a,is,rfl,hq,q⟩:=h;obtain⟨u,rfl,ru⟩:=gJ r;cases ru;obtain⟨its,rv,pl,hz⟩:=I.list hq;have hl:=by
  have:=rv.length
  rwa[bh]at this
 refine call_sum_walkG (pb pl.isList ?_);have ha:a<s.heap.objs.size:=by
  obtain⟨o,ho,_⟩:=pl.isList;exact au ho
 refine⟨_,_,_,_,_,_,λi=>is.getD i 0,rfl,Walks.list    (show X.A.in1.handled=none from I.ok.hd hc) _ a (bc ha) _,⟨⟨_,bn _ rfl,rfl,rfl⟩,Heap.IsList.at pl.isList λo e=>ao _ e⟩,λb hb=>?_,λi v hv=>?_,λh' tk t' kp=>?_⟩
 .have hb':=by simpa using hb
  rw[gw];rcases hb' with e |e<;>rw[e]
  .exact oq _
  .exact Nat.lt_succ_of_lt ha
 .have hv':=by simpa using hv
  have hi:i<is.length:=by
   grind
  obtain⟨u,hu,ru⟩:=rv.get   (by rw[fm,ba hi];rfl);rw[hv']at hu;cases hu;obtain⟨t,ht⟩:=(show ∃t,v=kd is[i] t from ru);exact⟨t,by rw[ht];simp[cw,hi]⟩
 .have e:preSum (λi=>is.getD i 0) its.toArray.size=is.sum:=by
   rw[ax,<-hl,Vj is _ (ak _),vp]
  rw[e];have I1:aF X AL σ H {s with heap:=s.heap.push {cls:=.type "list_iterator",data:=.fields #[.ref a,.int 0 0]},toks:=s.toks}:=I.kept λb o z=>ao _ z;have fp:=I.fpOk (ak _) (I.hok.fresh (ak _));obtain⟨f0,f1,f2,f3,f4,f5⟩:=fp;exact⟨.int is.sum,H,I1.turned (λb o hb z=>kp b o (by simpa using hb) z) f0 f1 f3 f4 f5,⟨t',rfl⟩,q⟩
end
end L2
namespace L2.Pp
open PySem PySem.Spec PyProof.Rows Bn
section
variable{K:aa}
def uG:AH->Option AA
 |[]=>some []
 |.int b::r=>match uG r with
  |some bs=>some (b::bs)
  |none=>none
 |_::_=>none
theorem Ce  :∀{xs:AH}{bs:AA}{vs:List V},uG xs=some bs->aM K c H xs vs->vs=bs.map V.int
 |[],bs,vs,e,r=>by
  cases e;exact r
 |.int b::xs,bs,vs,e,r=>by
  unfold uG at e;split at e
  .rename_i cs h
   cases e;obtain⟨v,w,rfl,r1,r2⟩:=r;rw[r1,Ce h r2];rfl
  .cases e
 |.non::_,_,_,e,_=>by cases e
 |.bl _::_,_,_,e,_=>by cases e
 |.str _::_,_,_,e,_=>by cases e
 |.tup _::_,_,_,e,_=>by cases e
 |.lst _::_,_,_,e,_=>by cases e
def Rb:AH->AI
 |[.lst xs]=>(uG xs).map λbs=>.int bs.sum
 |_=>none
theorem acj:kC K (λxs H Q=>∃(a:Addr)(is:AA),xs=[.ref a]/\bL K H a (is.map V.int)/\Q (.int is.sum) H) Rb:=λ{p S H as c xs Q} s ra e k=>by
 unfold Rb at e;split at e
 .rename_i zs
  cases y:uG zs with
  |none=>simp_all
  |some bs=>
   rw[y]at e;cases e;cases ra with
   |cons h t=>
    cases t;obtain⟨a,vs,rfl,l,z,r⟩:=h.lst;rw[Ce y r]at l;exact⟨a,bs,rfl,l,k H _ (bX.refl H) (iO  rfl)⟩
 .cases e
end
section
variable{K:aa}{cl:Str->Addr}{E:XK}{X:Cx}{p q:Ph}{H H':Hp}{S:aL}
variable{sc:Scope}{own:List Str}{cap:List (Nat×Str)}{elt target iter:ae}{pos:ai}{mi:MI}{g:GM}{me:ME}
def qQ(own:List Str)(cap:List (Nat×Str))(mi:MI)(g:GM)(me:ME):ME:=λρ S=>(mi ρ S).bind λxs S1=>(cS xs.2 g me xs.1 (dW own cap ρ) S1).bind λys S2=>.ok (.ref S2.length) (S2++[.lst ys])
theorem aO.adopt{zs:AH}{vs:List V}{D:Addr}(s:aO K q S H)(sh:aO K (q.hold D) S H)(w:q.w D)(n:D∉q.f)(h:H D=some (.lst vs))(l:vs.length<=sizeLine)(r:aM K q.c H zs vs):aO K ⟨q.f++[D],q.w,q.c⟩ (S++[.lst zs]) H:=by
 refine⟨lg.mpr ⟨s.nd,by simp,λa ha b hb=>?_⟩,by rw[cb,cb,s.len];rfl,λa ha=>?_,s.wc,s.mu,λk a o e1 e2=>?_⟩
 .have:b=D:=by simpa using hb
  intro z;exact n (by rw[<-this,<-z];exact ha)
 .rcases cf.mp ha with z |z
  .exact s.sub a z
  .have:a=D:=by simpa using z
   rw[this];exact w
 .have e1:(q.f++[D])[k]?=some a:=e1
  by_cases hk:k<q.f.length
  .rw[fh hk]at e1
   rw[fh (by rw[<-s.len];exact hk)]at e2;refine(sh.obj k a o e1 e2).mono (λ_ e=>e) (λb w f=>⟨⟨w.1,λm=>?_⟩,λ_ e=>e⟩) λ_ _ r=>r;rcases cf.mp m with z |z
   .exact f z
   .exact w.2 (by simpa using z)
  .have hk2:k=q.f.length:=by
    have:=(cq.mp e1).1;rw[cb]at this;have:k<q.f.length+1:=this;omega
   subst hk2;rw[dg (ak _),ft]at e1;rw[s.len,dg (ak _),ft]at e2;cases e1;cases e2;exact⟨vs,h,l,r⟩
theorem Fy{σ:St}{ρ:bJ}{xs:AH×Gd}{J:It}{Q:VK}{D:Addr}(sm:aO K p S H)(ev:bR K p H ρ σ)(it:eD K p H xs J)(k:aU K cl (bI K) p H ((cS xs.2 g me xs.1 (dW own cap ρ) S).bind λys S2=>.ok (.ref S2.length) (S2++[.lst ys])) Q E)(hD:H D=none):
  rK J (gP K g) (tP K cl E0 (bI K) me) (kG own cap σ) H D Q:=by
 cases z:cS xs.2 g me xs.1 (dW own cap ρ) S with
 |fail=>rw[z]at k;exact k.elim
 |exc n S'=>exact absurd z (Zj _ _ _ _ _)
 |ok zs S2=>
  rw[z]at k;have k:∀q H' x,aZ p H q H'->aO K q (S2++[.lst zs]) H'->bI K q H' (.ref S2.length) x->Q x H':=k;refine Om sm ev it z hD λq H' vs st1 sm1 sh1 w1 f1 hH l1 r1=>?_;have sm2:=sm1.adopt sh1 w1 f1 hH l1 r1;refine k ⟨q.f++[D],q.w,q.c⟩ H' (.ref D) ⟨st1.wc,st1.mu,st1.pre.trans (List.prefix_append _ _),st1.mw,st1.mono,λa ha n=>?_,st1.nw,st1.nc,st1.keep⟩ sm2 ⟨D,?_,rfl⟩
  .rcases cf.mp ha with y |y
   .exact st1.nf a y n
   .have:a=D:=by simpa using y
    rw[this];exact hD
  .show(q.f++[D])[S2.length]?=some D
   rw[<-sm1.len,dg (ak _),ft];rfl
theorem Gz{i:Nat}{x:Str}{py spos:ai}(hN:X.N.Nodup)(hx:X.N[i]?=some x)(hl:iJ X.env.scope x)(k:gK X sc own cap)(hi:iA K cl E X target iter mi)(hc:X.calm=true)(hg:∀C AM AN ex,kS K (bW X sc (bZ own cap) C AM AN ex) target g)(he:∀C AM AN ex,aI K cl E0 (bW X sc (bZ own cap) C AM AN ex) elt me)
  (hs:∀x,foldedSetIterable iter X.env x=pure x:=by intro _;rfl)(hsw:swapsWith (.ListComp elt [⟨target,iter,[],0⟩] sc pos) (some (.Name x py)) spos.line X.env=pure true:=by rfl)
  (hf:X.fn x=true\/X.env.scope.names.lookup x=some .local:=by first |exact .inl rfl |exact .inr rfl |assumption):
  cL K cl E X (.Assign [.Name x py] (.ListComp elt [⟨target,iter,[],0⟩] sc pos) spos) (aW i (qQ own cap mi g me)):=by
 intro hK;refine PS.imp (Zo hN hx hl k (hi hK) hc (λC AM AN ex=>hg C AM AN ex hK) (λC AM AN ex=>he C AM AN ex hK) hs hsw hf) ?_
 rintro D σ H ⟨p,S,ρ,s,ev,h⟩
 have h2:tP K cl E (bI K) (qQ own cap mi g me) σ H λy H1=>D.nx (σ.set i (some y)) H1:=by
  refine⟨p,S,ρ,s,ev,?_⟩;unfold aW at h;cases z:qQ own cap mi g me ρ S with
  |ok v S1=>
   rw[z]at h;exact λq H' y st sm r=>h q H' _ st sm ((st.repE ev).set r i)
  |exc n S1=>rw[z]at h;exact h
  |fail=>rw[z]at h;exact h
 obtain⟨p,S,ρ,s,ev,h⟩:=h2;exact aY s ev h λq H' xs J S' stp sm ev it kk B hB=>Fy sm ev it kk hB
end
end L2.Pp
namespace L2
open PySem PySem.Spec PyProof.Rows Bn
open PySem.W (KasT kas_sort kas_ask KatLex KatGo KatTups kat_run kat_kind kat_lt kat_one kas_item kat_snds)
def Gh  (lt:Nat->Nat->Bool):KasT α->α
 |.ret a=>a
 |.ask i j k=>Gh lt (k (lt i j))
def kZ  (n:Nat):KasT α->Bool
 |.ret _=>true
 |.ask i j k=>decide (i<n)&&decide (j<n)&&kZ n (k true)&&kZ n (k false)
theorem Zm  {cmp:Nat->Nat->(Bool->Shared->Prop)->Shared->Prop}{lt:Nat->Nat->Bool}{n:Nat}{s:Shared}(hc:∀i j(C:Bool->Shared->Prop),i<n->j<n->C (lt i j) s->cmp i j C s):∀(t:KasT α)(Q:α->Shared->Prop),kZ n t=true->Q (Gh lt t) s->t.kasWp cmp Q s
 |.ret a,Q,_,h=>h
 |.ask i j k,Q,ok,h=>by
  unfold kZ at ok;simp only[df,decide_eq_true_eq]at ok;obtain⟨⟨⟨hi,hj⟩,h1⟩,h2⟩:=ok;refine hc i j _ hi hj (Zm hc _ Q ?_ h);cases lt i j
  .exact h2
  .exact h1
def vD(h:Heap)(v:Value)(us:AA):Prop:=∃a o its n,v=.ref a/\h.get? a=some o/\o.cls=.type "tuple"/\o.data=.seq (gq its) n/\aS (us.map V.int) its
section
variable{prog:Program}{w:ah}{A:aj}{E:Value->Shared->Prop}{s:Shared}
theorem Fo:∀(us vs:AA)(its jts:AD)(i:Nat)(fin:Bool),aS (us.map V.int) its->aS (vs.map V.int) jts->fin=decide (us.length<vs.length)->Q (HT.lexLt us vs) s->KatLex prog w A true fin Q (its.zip jts) i s
 |[],vs,its,jts,i,fin,h1,h2,hf,hQ=>by
  cases h1;cases vs with
  |nil=>
   subst hf;exact vq hQ
  |cons v vs=>
   have e:fin=true:=by rw[hf];simp
   subst e;exact vq hQ
 |u::us,[],its,jts,i,fin,h1,h2,hf,hQ=>by
  cases h2;have e:fin=false:=by rw[hf];simp
  subst e;rw[List.zip_nil_right];exact vq hQ
 |u::us,v::vs,its,jts,i,fin,h1,h2,hf,hQ=>by
  cases h1 with
  |cons r1 t1=>
   cases h2 with
   |cons r2 t2=>
    obtain⟨k1,rfl⟩:=r1;obtain⟨k2,rfl⟩:=r2;rw[jl];refine PySem.W.kat_cons (wpAny_eqBool_int ?_);rw[HT.lexLt_cons]at hQ
    by_cases e:u=v
    .rw[if_pos e]at hQ
     have b:(u==v)=true:=by simpa using e
     rw[b];exact PySem.W.kat_yes (Fo us vs _ _ (i+1) fin t1 t2 (by rw[hf];simp) hQ)
    .rw[if_neg e]at hQ
     have b:(u==v)=false:=by simpa using e
     rw[b];refine PySem.W.kat_no ?_
     by_cases hi:i=0
     .subst hi
      exact oneLt_int hQ
     .have b2:(true&&i==0)=false:=by simpa using hi
      rw[b2];exact kat_one _ _ (PySem.P.lt_int hQ)
theorem aa0  {us vs:AA}{Q:Bool->Shared->Prop}(hx:vD s.heap x us)(hy:vD s.heap y vs)(h:Q (HT.lexLt us vs) s):wpAny (model prog w) A (keyLt' (tuples' true) x y) Q E s:=by
 obtain⟨a,o,its,n,rfl,ho,hc,hd,r⟩:=hx;obtain⟨b,o2,jts,k,rfl,ho2,hc2,hd2,r2⟩:=hy;refine kat_lt ho hd ho2 hd2 ?_;have l1:=r.length;have l2:=r2.length;rw[bh]at l1 l2;refine Fo _ _ _ _ 0 _ r r2 ?_ h
 simp_all
theorem Tk:∀(vs:AD)(uss:AB),vs.length=uss.length->(∀i,i<vs.length->vD s.heap (vs.getD i bb) (uss.getD i [])/\uss.getD i []≠[])->∃fs,KatTups s.heap vs fs/\fs.length=vs.length/\∀v∈fs,∃i t,v=.int i t
 |[],uss,_,_=>⟨[],trivial,rfl,λ_ h=>absurd h pw⟩
 |v::vs,[],hl,_=>by cases hl
 |v::vs,us::uss,hl,h=>by
  obtain⟨fs,k,l,q⟩:=Tk vs uss (by simpa using hl) λi hi=>by
   have:=h (i+1) (by simp;omega);simpa using this
  obtain⟨⟨a,o,its,n,e,ho,hc,hd,r⟩,ne⟩:=h 0 (by simp);subst e;cases us with
  |nil=>exact absurd rfl ne
  |cons u us=>
   cases r with
   |cons r1 t1=>
    obtain⟨t,rfl⟩:=r1;refine⟨.int u t::fs,KatTups.cons ho hc hd (by simp) k,by simp[l],λx hx=>?_⟩;rcases bw.mp hx with rfl |hx
    .exact⟨u,t,rfl⟩
    .exact q x hx
def jG(uss:AB):List Nat:=(Gh (λi j=>HT.lexLt (uss.getD i []) (uss.getD j [])) (iz uss.length)).toList
theorem Jw{a:Addr}{vs:AD}{uss:AB}{n:Nat}{P:PySem.Fin->Shared->Prop}(ho:s.heap.get? a=some (seqObj "list" vs.toArray n))(hl:vs.length=uss.length)(h2:2<=vs.length)(h64:vs.length<64)(ok:kZ uss.length (iz uss.length)=true)
  (tu:∀i,i<vs.length->vD s.heap (vs.getD i bb) (uss.getD i [])/\uss.getD i []≠[])
  (h:P (.done (.ret .none)) {s with heap:=sortedHeap s.heap a vs (gq ((jG uss).map λi=>vs.getD i bb))}):
  wpAny (model prog w) A (Builtin.«list.sort» ⟨[.ref a],[]⟩) P E s:=by
 obtain⟨e1,ho1⟩:∃e1,(s.heap.update a (gb λ_=>(#[]:Array Value))).get? a=some (seqObj "list" #[] e1):=⟨_,lm ho λ_=>#[]⟩;have kp:∀b o,b≠a->s.heap.get? b=some o->(((s.heap.update a (gb λ_=>(#[]:Array Value))).push (seqObj "tuple" vs.toArray 0)).push (seqObj "list" #[] 0)).get? b=some o:=λb o hb e=>
  ao _ (ao _ ((lq _ _ _ _ hb).trans e))
 have tu2:∀i,i<vs.length->vD _ (vs.getD i bb) (uss.getD i [])/\uss.getD i []≠[]:=λi hi=>by
  obtain⟨⟨b,o,its,m,e,hb,hc,hd,r⟩,ne⟩:=tu i hi;refine⟨⟨b,o,its,m,e,kp b o (λz=>?_) hb,hc,hd,r⟩,ne⟩;grind
 have na:(((s.heap.update a (gb λ_=>(#[]:Array Value))).push (seqObj "tuple" vs.toArray 0)).push (seqObj "list" #[] 0)).get? a=some (seqObj "list" #[] e1):=ao _ (ao _ ho1);rw[list_sort_plain];refine ag (listItems_at ho rfl ?_);refine ag (mx ho rfl ?_ (by rw[ax,fe];omega) (cg _));refine ag (my ho1 rfl ?_);refine ag (uw ?_ (by show vs.length<=_;rw[fe];omega));refine ag (qh ?_ (cg _));refine dh ?_;dsimp only;have hn2:¬vs.toArray.size<2:=by rw[ax];omega
 rw[if_neg hn2,if_neg hn2];obtain⟨fs,kt,lf,qf⟩:=Tk (s:={s with heap:=((s.heap.update a (gb λ_=>(#[]:Array Value))).push (seqObj "tuple" vs.toArray 0)).push (seqObj "list" #[] 0)}) vs uss hl tu2;refine ag (kat_kind (T:=.type "int") kt (by omega) (λv hv=>?_) rfl ?_)
 .obtain⟨i,t,rfl⟩:=qf v hv
  exact .now
 refine ag (bv (kat_run (Q:=λst' s'=>∃p:Array Nat,p.size=vs.length/\arrOf st'=p.map (kas_item (vs.toArray.zip vs.toArray))/\failedOf st'=none/\p.toList=jG uss/\s'={s with heap:=((s.heap.update a (gb λ_=>(#[]:Array Value))).push (seqObj "tuple" vs.toArray 0)).push (seqObj "list" #[] 0)})
  
  rfl h2 h64 (λp' st' s' a1 a2 a3 a4=>⟨p',a1,a2,a3,a4⟩) ?_) ?_ λ_ _ e=>e)
 .rw[hl]
  refine Zm  (n:=uss.length) (λi j C hi hj hC=>?_) _ _ ok ⟨rfl,rfl⟩;exact aa0 (tu2 i (by omega)).1 (tu2 j (by omega)).1 hC
 rintro⟨⟨⟩,st'⟩ s' ⟨p,hp,har,hf,hpl,rfl⟩
 dsimp only;have hout:=kat_snds rfl har;have hsz:(gq (p.toList.map λi=>vs.getD i bb)).size=vs.length:=by rw[ax,bh,jt,hp]
 rw[hout];refine ag (my na rfl ?_);refine ag (mx na rfl ?_ (cg _) (dq (oo hsz) (by rw[fe];omega)));rw[hf];simp only[bne_self_eq_false,qb,if_false];refine aq ?_;rw[hpl];exact h
theorem Ny  {o:Obj}{T:String}{vs:AD}{uss:AB}{n:Nat}{Q:Value->Shared->Prop}(hT:T="list"\/T="tuple")(ho:s.heap.get? l=some o)(hc:o.cls=.type T)(hd:o.data=.seq vs.toArray n)(hl:vs.length=uss.length)(h2:2<=vs.length)(h64:vs.length<64)(ok:kZ uss.length (iz uss.length)=true)
  (tu:∀i,i<vs.length->vD s.heap (vs.getD i bb) (uss.getD i [])/\uss.getD i []≠[])
  (h:∀(h1 h':Heap)(c:Nat),(∀b o',s.heap.get? b=some o'->h1.get? b=some o')->(∀b o',h1.get? b=some o'->h'.get? b=some o')->h'.get? h1.objs.size=some (seqObj "list" (gq ((jG uss).map λi=>vs.getD i bb)) c)->Q (.ref h1.objs.size) {s with heap:=h'}):
  wpAny (model prog w) A (call (.builtin "sorted") [.ref l]) Q E s:=by
 refine zu kind_sorted plain_sorted entry_sorted (args_sorted1 _) ?_;refine ag  (aq ?_);refine ag (vt l hT ho hc hd (λh1 k1=>?_) (by rw[ax,fe];omega));refine ag (qh ?_ (by rw[fe];simp;omega));have hoL:(h1.push (seqObj "list" vs.toArray 0)).get? h1.objs.size=some (seqObj "list" vs.toArray 0):=bn _ rfl;show wpAny _ _ _ _ _ {s with heap:=h1.push (seqObj "list" vs.toArray 0)};refine ag (dh (ju slot_list_sort ⟨_,hoL,rfl⟩ entry_list_sort ?body (args_list_sort _)))
 case body=>
  refine Jw  hoL hl h2 h64 ok (λi hi=>?_) ⟨_,rfl,aq ⟨_,rfl,?_⟩⟩
  .obtain⟨⟨b,o,its,m,e,hb,hc,hd,r⟩,ne⟩:=tu i hi
   exact⟨⟨b,o,its,m,e,ao _ (k1 b o hb),hc,hd,r⟩,ne⟩
  .obtain⟨e1,ho1⟩:∃e1,((h1.push (seqObj "list" vs.toArray 0)).update h1.objs.size _).get? h1.objs.size=some (seqObj "list" #[] e1):=⟨_,lm hoL λ_=>#[]⟩
   have ho2:=ao (seqObj "list" #[] 0) (ao (seqObj "tuple" vs.toArray 0) ho1);obtain⟨e2,ho3⟩:∃e2,(sortedHeap (h1.push (seqObj "list" vs.toArray 0)) h1.objs.size vs (gq ((jG uss).map λi=>vs.getD i bb))).get? h1.objs.size=some _:=⟨_,lm ho2 _ ⟩;refine h h1 _ e2 k1 (λb o' hb1=>?_) ho3;have hne:=bc (au hb1);exact(lq _ _ _ _ hne).trans (ao _ (ao _ ((lq _ _ _ _ hne).trans (ao _ hb1))))
end
def Pg(K:aa)(H:Hp)(ts:List V)(uss:AB):Prop:=ts.length=uss.length/\∀i t,ts[i]?=some t->∃a,t=.ref a/\cJ K H a ((uss.getD i []).map V.int)/\uss.getD i []≠[]
theorem Qy{X:Cx}:fX X (.builtin "sorted") (λxs H Q=>∃(a:Addr)(ts:List V)(uss:AB),xs=[.ref a]/\(bL X.K H a ts\/cJ X.K H a ts)/\Pg X.K H ts uss/\2<=ts.length/\ts.length<64/\kZ uss.length (iz uss.length)=true/\(jG uss).length<=64/\
  ∀l,H l=none->Q (.ref l) (aN H l (.lst ((jG uss).map λi=>ts.getD i .non)))):=by
 intro AL s σ H xs us Q I r h;obtain⟨a,ts,uss,rfl,hq,⟨hl,ht⟩,h2,h64,ok,hpl,q⟩:=h;obtain⟨u,rfl,ru⟩:=gJ r;cases ru;have go:∀(its:AD)(T:String)(o:Obj)(n:Nat),aS ts its->(T="list"\/T="tuple")->s.heap.get? a=some o->o.cls=.type T->o.data=.seq its.toArray n->ts.length<=sizeLine->
   wpAny (model X.prog X.w) X.A _ (EP X AL σ Q) X.xe s:=λits T o n rv hT ho hc hd hz=>by
  have hlen:=rv.length;refine Ny (uss:=uss) hT ho hc hd (by omega) (by omega) (by omega) ok (λi hi=>?_) λh1 h' c k1 k2 e=>?_
  .have hi':i<ts.length:=by omega
   obtain⟨b,e1,sq,ne⟩:=ht i ts[i] (ba hi');obtain⟨v,e2,rel⟩:=rv.get (ba hi');rw[e1]at rel;cases rel;obtain⟨jts,rj,⟨o2,ho2,hc2,m,hd2⟩,_⟩:=I.tuple sq;refine⟨⟨b,o2,jts,m,?_,ho2,hc2,hd2,rj⟩,ne⟩;rw[cw,e2];rfl
  .have I1:aF X AL σ H {s with heap:=h1,toks:=s.toks}:=I.kept k1
   have hz2:((jG uss).map λi=>ts.getD i .non).length<=sizeLine:=by
    rw[bh,fe];omega
   have rel:∀ps:List Nat,aS (ps.map λi=>ts.getD i .non) (ps.map λi=>its.getD i bb):=λps=>by
    induction ps with
    |nil=>exact .nil
    |cons i ps ih=>
     refine .cons ?_ ih
     by_cases hi:i<ts.length
     .obtain⟨v,e2,rr⟩:=rv.get (ba hi)
      have q1:ts.getD i .non=ts[i]:=by simp[cw,hi]
      have q2:its.getD i bb=v:=by simp[cw,e2]
      show aT (ts.getD i .non) (its.getD i bb);rw[q1,q2];exact rr
     .have q1:ts.getD i .non=.non:=by simp[cw,hi]
      have q2:its.getD i bb=bb:=by grind
      show aT (ts.getD i .non) (its.getD i bb);rw[q1,q2];rfl
   refine⟨.ref h1.objs.size,_,I1.laid   k2 (ak _) ?_,rfl,q _ (I1.hok.fresh (ak _))⟩;exact⟨hz2,_,c,rel _,e⟩
 rcases hq with hq |hq
 .obtain⟨its,rv,pl,hz⟩:=I.list hq
  obtain⟨o,ho,hc,n,hd⟩:=pl.isList;exact go its "list" o n rv (.inl rfl) ho hc hd hz
 .obtain⟨its,rv,⟨o,ho,hc,n,hd⟩,hz⟩:=I.tuple hq
  exact go its "tuple" o n rv (.inr rfl) ho hc hd hz
end L2
namespace L2.Pp
open PySem PySem.Spec PyProof.Rows Bn
open PySem.W (kas_sort)
section
variable{K:aa}
def oQ:AH->Option AB
 |[]=>some []
 |.tup us::r=>match uG us,oQ r with
  |some is,some uss=>some (is::uss)
  |_,_=>none
 |_::_=>none
theorem Sn:∀{xs:AH}{uss:AB},oQ xs=some uss->xs.length=uss.length
 |[],uss,e=>by cases e;rfl
 |.tup _::r,uss,e=>by
  unfold oQ at e;split at e
  .rename_i is uss' h1 h2
   cases e;rw[bq,bq,Sn h2]
  .cases e
 |.non::_,_,e=>by cases e
 |.bl _::_,_,e=>by cases e
 |.int _::_,_,e=>by cases e
 |.str _::_,_,e=>by cases e
 |.lst _::_,_,e=>by cases e
theorem Op  :∀{xs:AH}{uss:AB}{vs:List V},oQ xs=some uss->aM K c H xs vs->∀i t,vs[i]?=some t->∃a,t=.ref a/\cJ K H a ((uss.getD i []).map V.int)
 |[],uss,vs,e,r,i,t,h=>by
  subst r;simp at h
 |.tup us::r,uss,vs,e,rr,i,t,h=>by
  unfold oQ at e;split at e
  .rename_i is uss' h1 h2
   cases e;obtain⟨v,w,rfl,r1,r2⟩:=rr;cases i with
   |zero=>
    cases h;obtain⟨a,ws,rfl,sq,_,r3⟩:=r1;rw[Ce h1 r3]at sq;exact⟨a,rfl,sq⟩
   |succ i=>
    have:=Op h2 r2 i t (by simpa using h);simpa using this
  .cases e
 |.non::_,_,_,e,_,_,_,_=>by cases e
 |.bl _::_,_,_,e,_,_,_,_=>by cases e
 |.int _::_,_,_,e,_,_,_,_=>by cases e
 |.str _::_,_,_,e,_,_,_,_=>by cases e
 |.lst _::_,_,_,e,_,_,_,_=>by cases e
def Zs(uss:AB):Prop:=2<=uss.length/\uss.length<64/\kZ uss.length (iz uss.length)=true/\(jG uss).length<=64/\∀us∈uss,us≠[]
def Ws(xs:AH)(uss:AB):AH:=(jG uss).map λi=>xs.getD i .non
open Classical in
def nM(xs:AH):AI:=match oQ xs with
 |some uss=>if Zs uss then some (.lst (Ws xs uss))else none
 |none=>none
def uB:AH->AI
 |[.lst xs]=>nM xs
 |[.tup xs]=>nM xs
 |_=>none
theorem Vl   {xs:AH}{vs:List V}(r:aM K c H xs vs):∀ps:List Nat,aM K c H (ps.map λi=>xs.getD i .non) (ps.map λi=>vs.getD i .non)
 |[]=>.nil
 |i::ps=>by
  refine .cons ?_ (Vl r _)
  by_cases hi:i<xs.length
  .obtain⟨v,e1,e2⟩:=r.get (ba hi)
   simp_all
  .have hl:=r.length
   have q1:xs.getD i .non=.non:=by simp[cw,hi]
   have q2:vs.getD i .non=.non:=by grind
   show aP K c H (xs.getD i _) (vs.getD i _);rw[q1,q2];rfl
theorem abl:kC K (λxs H Q=>∃(a:Addr)(ts:List V)(uss:AB),xs=[.ref a]/\(bL K H a ts\/cJ K H a ts)/\Pg K H ts uss/\2<=ts.length/\ts.length<64/\kZ uss.length (iz uss.length)=true/\(jG uss).length<=64/\
  ∀l,H l=none->Q (.ref l) (aN H l (.lst ((jG uss).map λi=>ts.getD i .non)))) uB:=λ{p S H as c xs Q} s ra e k=>by
 have key:∀(zs:AH)(a:Addr)(vs:List V),nM zs=some c->(bL K H a vs\/cJ K H a vs)->aM K p.c H zs vs->∃(a':Addr)(ts:List V)(uss:AB),[V.ref a]=[.ref a']/\(bL K H a' ts\/cJ K H a' ts)/\Pg K H ts uss/\2<=ts.length/\ts.length<64/\kZ uss.length (iz uss.length)=true/\(jG uss).length<=64/\
   ∀l,H l=none->Q (.ref l) (aN H l (.lst ((jG uss).map λi=>ts.getD i .non))):=λzs a vs e sq r=>by
  unfold nM at e;split at e
  .rename_i uss hu
   split at e
   .rename_i hc
    cases e;obtain⟨c1,c2,c3,c4,c5⟩:=hc;have l1:=Sn hu;have l2:=r.length;refine⟨a,vs,uss,rfl,sq,⟨by omega,λi t h=>?_⟩,by omega,by omega,c3,c4,λl hl=>?_⟩
    .obtain⟨b,e1,e2⟩:=Op hu r i t h
     have hi:i<uss.length:=by
      grind
     refine⟨b,e1,e2,?_⟩;rw[cw,ba hi];exact c5 _ (mn hi)
    .refine k _ _ (eP hl) (mZ s (Vl r _) ?_ hl)
     rw[bh,fG];omega
   .cases e
  .cases e
 unfold uB at e;split at e
 .rename_i zs
  cases ra with
  |cons h t=>
   cases t;obtain⟨a,vs,rfl,l,z,r⟩:=h.lst;exact key zs a vs e (.inl l) r
 .rename_i zs
  cases ra with
  |cons h t=>
   cases t;obtain⟨a,vs,rfl,l,z,r⟩:=h.tup;exact key zs a vs e (.inr l) r
 .cases e
end
end L2.Pp
namespace L2
section
open PySem.W (KasT kas_sort)
def r3(a b c d e f:Bool):Bool:=(!(a&&b)||c)&&(!(d&&e)||f)
end
open PySem PySem.Spec PyProof.Rows Bn
end L2
namespace L2.Pp
open PySem PySem.Spec PyProof.Rows Bn
section
variable{K:aa}{a e:ae}{m:ME}{p q:Ph}{H:Hp}{S:aL}
theorem aO.pushO(s:aO K p S H){D:Addr}{o:SO}{ho:HO}(h:H D=none)(mo:Mb ho)(ob:rE K ⟨p.f++[D],λa=>p.w a\/a=D,λa=>p.c a\/a=D⟩ (aN H D ho) D o):
  let q:Ph:=⟨p.f++[D],λa=>p.w a\/a=D,λa=>p.c a\/a=D⟩
  aZ p H q (aN H D ho)/\aO K q (S++[o]) (aN H D ho):=by
 intro q;obtain⟨st0,sm0⟩:=s.res (D:=D) (o:=ho) h mo;have nf0:D∉p.f:=λz=>s.notin h (s.wc D (s.sub D z));refine⟨⟨st0.wc,st0.mu,⟨[D],rfl⟩,st0.mw,st0.mono,λa x n=>?_,st0.nw,st0.nc,st0.keep⟩,?_,by simp[q,s.len],λa x=>?_,sm0.wc,sm0.mu,λk a u e1 e2=>?_⟩
 .rcases cf.mp x with z |z
  .exact absurd z n
  .have:a=D:=by simpa using z
   rw[this];exact h
 .show(p.f++[D]).Nodup
  rw[lg];refine⟨s.nd,by simp,λa ha b hb z=>?_⟩;have:b=D:=by simpa using hb
  exact nf0 (this▸z▸ha)
 .rcases cf.mp x with z |z
  .exact .inl (s.sub a z)
  .exact .inr (by simpa using z)
 .by_cases hk:k<S.length
  .have e1':p.f[k]?=some a:=by
    rwa[fh (by rw[s.len];exact hk)]at e1
   rw[fh hk]at e2;refine(s.obj k a u e1' e2).mono (λvs e=>by rw[aX (cU e h)];exact e) (λb w f=>⟨⟨.inl w,λm=>?_⟩,λvs e=>by rw[aX (cU e h)];exact e⟩) λ_ _ r=>st0.reps r;rcases cf.mp m with z |z
   .exact f z
   .have:b=D:=by simpa using z
    exact s.notin h (this▸s.wc b w)
  .have hk':k=S.length:=by
    have:=(cq.mp e2).1;simp at this;omega
   subst hk';rw[dg (ak _),ft]at e2;have e1:=e1;rw[<-s.len,dg (ak _),ft]at e1;cases e1;cases e2;exact ob
end
def Tr(v:AV)(S:aL):bA Bool:=match rd S v with
 |some (.lst xs)=>.ok (!xs.isEmpty) S
 |some (.tup xs)=>.ok (!xs.isEmpty) S
 |some (.int i)=>.ok (i !=0) S
 |some (.bl b)=>.ok b S
 |_=>.fail
def Zg(m:ME):MT:=λρ S=>(m ρ S).bind Tr
theorem zK{K:aa}{c:Addr->Prop}{H:Hp}{xs:AH}{vs:List V}(r:aM K c H xs vs):vs.isEmpty=xs.isEmpty:=by
 have:=r.length;cases xs<;>cases vs<;>simp_all
theorem T8{K:aa}{cl:Str->Addr}{E:XK}{X:Cx}{a:ae}{ma:ME}(ha:aI K cl E X a ma)(he:∀whole,isTrue a X.env whole=(do let v <-whole;standAt a.pos;holding [v] (truthy v)):=by intro _;rfl):cR K cl E X a (Zg ma):=by
 intro hK;subst hK;refine(Xe (ha rfl) he).imp ?_
 rintro σ H Q ⟨p,S,ρ,s,e,h⟩
 refine aY s e h λq H1 a x S1 st s1 e1 r1 h1=>?_;unfold Tr at h1;cases z:rd S1 a with
 |none=>rw[z]at h1;exact h1.elim
 |some v=>
  rw[z]at h1;have rr:=qK s1 r1 z;cases v with
  |lst xs=>
   obtain⟨b,vs,rfl,l,_,r⟩:=rr.lst;exact⟨_,.inl ⟨vs,l,by rw[zK r]⟩,aU.ret  h1 s1 rfl⟩
  |tup xs=>
   obtain⟨b,vs,rfl,l,_,r⟩:=rr.tup;exact⟨_,.inr (.inl ⟨vs,l,by rw[zK r]⟩),aU.ret  h1 s1 rfl⟩
  |int i=>
   cases rr.int;exact⟨_,rfl,aU.ret  h1 s1 rfl⟩
  |bl i=>
   cases rr.bl;exact⟨_,rfl,aU.ret  h1 s1 rfl⟩
  |_=>exact h1.elim
def Yc(P:Program)(w:ah)(K:aa)(mg:Str->AE)(base:Heap)(cl:Str->Addr)(x:Str)(k:Nat)(ps:List Str)(g:FM):Prop:=∃(a:Addr)(d:ay),bQ P w K mg base dS k a d ps (kL K cl g)/\dD K d ps []/\bo K (.ref a)=true/\mg x=some (.ref a)
section
variable{cl:Str->Addr}{E:XK}{X:Cx}{e:ae}{es:List ae}{ms:MA}{pos p:ai}{k k0:Nat}{ps:List Str}{g:FM}{x:Str}
theorem acp(C:Yc X.prog X.w X.K X.mg X.base cl x k ps g)(hr:bG k0 X.A)(hk:k<=k0)(hg:Gl X x)(ha:cM X.K cl E X (e::es) ms)(hdb:(x==("__debug__":Str))=false:=by decide)(he:starEach (e::es) X.env=(false,eval e X.env)::starEach es X.env:=by rfl)(hpl:(backTo pos (starEach es X.env)).any (·.1)=false:=by rfl):
  aI X.K cl E X (.Call (.Name x p) (e::es) [] pos) (bF g [] ms):=by
 obtain⟨a,d,G,b,kk,n⟩:=C;exact K0 G (hr.mono hk) hg n kk b .nil Dv.nil ha hdb he hpl
theorem abZ(C:Yc X.prog X.w X.K X.mg X.base cl x k ps g)(hr:bG k0 X.A)(hk:k<=k0)(hg:Gl X x)(ha:cM X.K cl E X (e::es) ms)(hdb:(x==("__debug__":Str))=false:=by decide)(he:starEach (e::es) X.env=(false,eval e X.env)::starEach es X.env:=by rfl)(hpl:(backTo pos (starEach es X.env)).any (·.1)=false:=by rfl):
  aI X.K cl E X (.Call (.Name x p) (e::es) [] pos) (mB g [] ms):=by
 obtain⟨a,d,G,b,kk,n⟩:=C;exact J6 G (hr.mono hk) hg n kk b .nil Dv.nil ha hdb he hpl
end
section
variable{K:aa}{cl:Str->Addr}{E:XK}{X:Cx}
def kQ(K:aa)(mg:Str->AE)(x:Str)(pv:PV):Prop:=∃(u:Value)(v:V),mg x=some u/\aT v u/\∀c H,aP K c H pv v
theorem Dp  {pv:PV}{pos:ai}(hg:Gl X x)(hm:kQ K X.mg x pv)(hd:(x==("__debug__":Str))=false:=by decide):aI K cl E X (.Name x pos) (mC pv):=λ_=>by
 obtain⟨u,v,hm,r,hr⟩:=hm;exact(wK hg hm r hd).imp λσ H Q ⟨p,S,ρ,s,e,h⟩=>aU.ret   h s (hr _ H)
theorem Yo:∀c H,aP K c H (.int i) (.int i):=λc H=>rfl
end
section
variable{M:gg}{A:aj}{E:Value->Shared->Prop}{s:Shared}{env:Env}
def Se(M:gg)(A:aj)(E:Value->Shared->Prop)(Q:Value->Shared->Prop)(acc:Value)(c:Env):im->Shared->Prop
 |.ok _,s'=>∃m,s'.heap.Ns c.locals m/\∀h',eg c.locals s'.heap h'->Q acc {s' with heap:=h'}
 |.error x,s'=>∃m,s'.heap.Ns c.locals m/\∀h',eg c.locals s'.heap h'->wpAny M A (qi "comprehension.variables-let-go" x c:bt Value) (λ_ _=>False) E {s' with heap:=h'}
theorem K7{e:ae}{sc:Scope}{pos:ai}{newAcc first:bt Value}{g:qj}{gs:List qj}{cl:List (Str×Addr)}{Q:Value->Shared->Prop}
  (hc:clausesOf e=g::gs)(hs:∀x,foldedSetIterable g.iter env x=pure x)(hcl:closureFor sc env=pure cl)(hk:sc.kind=.function)(hn:∀x∈sc.names,x.2=.local->sc.names.lookup x.1=some .local)
  (h:wpAny M A first (λx s1=>wpAny M A (pyIter x) (λit s2=>wpAny M A newAcc (λacc s3=>wpAny M A (newFunctionEnv sc env.globals cl [] env.qual none .none (some env)) (λc s4=>
    codeAny M A (.compStart e 0 it acc {c with scope:=relabel sc env}) (Se M A E Q acc {c with scope:=relabel sc env}) s4) E s3) E s2) E s1) E s):
  wpAny M A (comprehension e sc env pos newAcc false first none) Q E s:=by
 unfold comprehension;rw[hcl,hc];refine ag (aR h λx s1 h1=>ag (jp (ag (ut (hs x) (ag (dh (aR h1 λit s2 h2=>?_)))))));refine wpAny_standIf (ag (aR h2 λacc s3 h3=>ag (aq (ag (aR h3 λc s4 h4=>?_)))));dsimp only;have loc:∀x∈(sc.names.filter λx=>(x.2== .local||x.2== .cell)&&x.1 !=(".0":Str)).reverse,x.2=.local->vw {c with scope:=relabel sc env} x.1=some .local:=λx hx hl=>
  zv (hn x (oa.mp (zw.mp hx)).1 hl)
 refine dh (ag (mq (dh (wpAny_run (iq h4 λr s' hr=>?_)))));cases r with
 |ok f=>
  obtain⟨m,hm,hr⟩:=hr;exact ag (dh (qk (cenv:={c with scope:=relabel sc env}) hk _ s' m loc hm λh' _ _ sb=>aq (hr h' sb)))
 |error x=>
  obtain⟨m,hm,hr⟩:=hr;exact ag (dh (qk (cenv:={c with scope:=relabel sc env}) hk _ s' m loc hm λh' _ _ sb=>bv (hr h' sb) (λ_ _ z=>z.elim) λ_ _ y=>y))
end
section
variable{prog:Program}{w:ah}{A:aj}{R:im->Shared->Prop}{s:Shared}
theorem So{elt target iter:ae}{sc:Scope}{pos:ai}{it acc:Value}{env:Env}(I:Nat->Shared->Prop)
  (turn:∀n s,I n s->wpAny (model prog w) A (pyNext it) (λr s1=>match r with
   |none=>R (.ok .next) s1
   |some v=>wpAny (model prog w) A (letOwnedTupleGo target it v) (λ_ s2=>wpAny (model prog w) A (assign target env v) (λ_ s3=>wpAny (model prog w) A (eval elt env)
     (λx s4=>wpAny (model prog w) A (call (.builtin "list.append") [acc,x]) (λ_ s5=>∃m,m<n/\I m s5) (λ_ _=>False) s4) (notedBy (model prog w) A env λx s'=>R (.error x) s') s3) (λ_ _=>False) s2) (λ_ _=>False) s1) (λ_ _=>False) s)
  (n:Nat)(h:I n s):codeAny (model prog w) A (.compLoop (.ListComp elt [⟨target,iter,[],0⟩] sc pos) 0 it acc env) R s:=by
 refine codeAny_loop rfl I (λn s hI=>?_) n h;show wpAny _ _ ((compTurn (.ListComp elt [⟨target,iter,[],0⟩] sc pos) 0 it acc env).onRaise (λx=>do noteFrame x env;theTreesLotGoes x)) _ _ s;refine wpAny_noted ?_;rw[compTurn_list1];refine ag (jp (ag ?_));refine bv (turn n s hI) (λr s1 h1=>?_) λ_ _ z=>z.elim;cases r with
 |none=>exact aq h1
 |some v=>
  refine ag (bv h1 (λ_ s2 h2=>?_) λ_ _ z=>z.elim);refine ag (bv h2 (λ_ s3 h3=>?_) λ_ _ z=>z.elim);refine ag (ag (bv h3 (λx s4 h4=>?_) λ_ _ z=>z));refine ag (bv h4 (λ_ s5 h5=>?_) λ_ _ z=>z.elim);exact aq (aq ⟨rfl,h5⟩)
end
def kY(B:Heap)(C:Addr):Heap:={B with objs:=B.objs.setIfInBounds C ⟨.none,none,.freed,#[]⟩}
theorem Qj{B:Heap}{C:Addr}:(kY B C).get? C=none:=by
 unfold kY Heap.get?;dsimp only
 by_cases h:C<B.objs.size
 .rw[Array.getElem?_setIfInBounds_self_of_lt h]
 .rw[zx (by rw[Array.size_setIfInBounds];exact Nat.le_of_not_lt h)]
theorem zR{B:Heap}{C b:Addr}(h:b≠C):(kY B C).get? b=B.get? b:=by
 unfold kY Heap.get?;dsimp only;rw[Array.getElem?_setIfInBounds_ne (dw h)]
theorem Fd{B:Heap}{C b:Addr}(h:B.get? b=none):(kY B C).get? b=none:=by
 by_cases z:b=C
 .rw[z];exact Qj
 .rw[zR z];exact h
theorem Gx{B:Heap}{C b:Addr}{o:Obj}(h:(kY B C).get? b=some o):b≠C/\B.get? b=some o:=by
 by_cases z:b=C
 .rw[z,Qj]at h;cases h
 .rw[zR z]at h;exact⟨z,h⟩
theorem A6{B h h':Heap}{l:List Env}{e L C:Addr}{cls a0:Value}(hC:∃o,B.get? C=some o)(hh:ql B l e cls a0 L h)(sb:eg C h h'):ql (kY B C) l e cls a0 L h':=by
 obtain⟨oC,hC⟩:=hC;have ne:∀{b},B.get? b=none->b≠C:=λ{b} hb z=>by
  rw[z,hC]at hb;cases hb
 obtain⟨k1,k2,k3,k4⟩:=hh;refine⟨λb o hb=>?_,Fd k2,?_,?_⟩
 .obtain⟨z,hb⟩:=Gx hb
  rw[sb.2 b z];exact k1 b o hb
 .clear k4
  induction l with
  |nil=>trivial
  |cons env eE ih=>
   obtain⟨a,⟨L0,o,hf,hn,ho,hd⟩,hr⟩:=k3;exact⟨a,⟨L0,o,hf,Fd hn,(sb.2 L0 (ne hn)).trans ho,hd⟩,ih hr⟩
 .obtain⟨oe,vs,T,oT,ts,he,hcls,hd,h1,hnT,hTe,hT,hdT,h3⟩:=k4
  exact⟨oe,vs,T,oT,ts,(sb.2 e (ne k2)).trans he,hcls,hd,h1,Fd hnT,hTe,(sb.2 T (ne hnT)).trans hT,hdT,h3⟩
theorem A8{e:Value}{c env:Env}(h:c.frame=env.frame):noteFrame e c=noteFrame e env:=by
 unfold noteFrame PySem.frameOf;rw[h]
theorem Hz{M:gg}{A:aj}{E:Value->Shared->Prop}{s:Shared}{α:Type}{Q:α->Shared->Prop}{B:Heap}{l:List Env}{e L:Addr}{cls a0:Value}{c:Env}{what:String}(hf:c.frame=some L)(hh:ql B l e cls a0 L s.heap)
  (h:∀h',ql B l e cls a0 L h'->(∀b o,s.heap.get? b=some o->(∀vs,o.data≠.fields vs)->h'.get? b=some o)->E (.ref e) {s with heap:=h'}):wpAny M A (qi what (.ref e) c:bt α) Q E s:=by
 obtain⟨k1,k2,k3,oe,vs,T,oT,ts,he,hcls,hd,h1,hnT,hTe,hT,hdT,h3⟩:=hh;have hsz3:3<ts.size:=(zy.mp h3).1;have other:∀b,b≠T->(s.heap.update T (Obj.mapFields (·.setIfInBounds 3 (rawInt L)))).get? b=s.heap.get? b:=λb hb=>ug _ _ (dw hb);have noRec:∀b o,s.heap.get? b=some o->(∀vs,o.data≠.fields vs)->b≠T:=λb o hb hnf q=>by
  rw[q,hT]at hb;injection hb with hb;subst hb;exact hnf ts hdT
 unfold qi;refine ag (dy he hd h1 ?_);rw[if_neg (show ¬((az T==bb)=true) from by simp)];refine ag ?_;unfold setFlight;rw[hf];refine ag (dy he hd h1 ?_);rw[if_pos (show(az T !=bb)=true from by simp)];refine ur hT hdT hsz3 (wpAny_throw (h _ ⟨λb o yT=>(other b λq=>by rw[q,hnT]at yT;cases yT).trans (k1 b o yT),k2,k3.of_keeps λb o hb hnf=>⟨o,(other b (noRec b o hb hnf)).trans hb,rfl⟩,?_⟩ λb o hb hnf=>(other b (noRec b o hb hnf)).trans hb));exact⟨oe,vs,T,_,_,(other e (dw hTe)).trans he,hcls,hd,h1,hnT,hTe,uf _ hT (yg (ph hdT _)),ph hdT _,by simp[hsz3]⟩
end L2.Pp
namespace L2
open PySem PySem.Spec PyProof.Rows Bn
section
variable{X:Cx}{AL:List (Addr×Obj)}{σ:St}{H H':Hp}{s s':Shared}
theorem aF.flownC{B h5:Heap}{C:Addr}(I:aF X AL σ H s)(hC:eR X AL H C)(os:s'.os=s.os)(bare:gf s'.gens)(un:Un (bP X.stack) [] H H' s.heap s'.heap)(hok:cT X.prog X.w H' s'.heap)
  (cov:∀b o,s'.heap.get? b=some o->(∃u,H' b=some u)\/(∃o',s.heap.get? b=some o'/\b∉bP X.stack)->b≠C->B.get? b=some o)(fr:∀b∈bP X.stack,H' b=none)(hn:H' C=none)
  (st:B.StaysIn h5)(up:∀b o,b≠C->s'.heap.get? b=some o->(∀vs,o.data≠.fields vs)->∃sl,h5.get? b=some {o with slots:=sl}):aF X AL σ H' {s' with heap:=h5}:=by
 have one:∀{b},b∉[C]->b≠C:=λ{b} h z=>h (by rw[z];exact ja.mpr rfl);have frame:∀b∈bP X.stack,b≠C->∃o sl,s.heap.get? b=some o/\H b=none/\h5.get? b=some {o with slots:=sl}:=λb hb hx=>by
  obtain⟨_,o,ho,hd⟩:=I.stack.mem hb;have hn:=I.stkFree b hb;obtain⟨sl,g⟩:=un.slot b o ho hn hb (by intro z;cases z);obtain⟨sl',g'⟩:=up b _ hx g hd;exact⟨o,sl',ho,hn,g'⟩
 refine I.call' (s':={s' with heap:=h5}) (ch:=[C]) os ⟨λb o q n hb hx=>?_,λb o q n hb hx=>?_,λb o q n _=>un.free b o q n (by intro z;cases z),λb o q hx=>?_,un.tups,un.frzs,un.tbls⟩ (λb u q=>?_) bare λb z=>?_
 .exact st b o (cov b o (un.keep b o q n hb (by intro z;cases z)) (.inr ⟨o,q,hb⟩) (one hx))
 .obtain⟨o',sl,g1,_,g2⟩:=frame b hb (one hx)
  rw[q]at g1;cases g1;exact⟨sl,g2⟩
 .by_cases c:b∈bP X.stack
  .obtain⟨o',sl,_,_,g2⟩:=frame b c (one hx)
   exact⟨_,g2⟩
  .obtain⟨o',g⟩:=un.there b o q (by intro z;cases z)
   exact⟨o',st b o' (cov b o' g (.inr ⟨o,q,c⟩) (one hx))⟩
 .refine(hok b u q).stay (λc v hc g=>?_) (λ_ g=>g) λ_ _ g=>g
  have nc:∀{y},H' c=some y->c≠C:=λ{y} e z=>by
   rw[z,hn]at e;cases e
  rcases hc with z |z
  .have q':H' c=some u:=by rw[z];exact q
   exact st c v (cov c v g (.inl ⟨u,q'⟩) (nc q'))
  .exact st c v (cov c v g (.inl ⟨_,z⟩) (nc z))
 .have z:b=C:=ja.mp z
  subst z;obtain⟨_,f1,_,f3,f4,f5⟩:=hC;exact⟨f3,f1,f4,f5⟩
end
open L2.Pp
section
variable{P:Program}{w:ah}{K:aa}{mg:Str->AE}{base:Heap}{N:List Str}{qual:Str}{scope:Scope}{f:Addr}{cd:Value}{A:aj}{outer:List Env}{AM:Shared}{AN:Hp}{E:XK}
theorem Ur{AL:List (Addr×Obj)}{σ:St}{H2 H3:Hp}{s2 s3:Shared}{sc:Scope}{Nb:List Str}{C:Addr}{fp:List Addr}{Qf:Value->Shared->Prop}{acc:Value}
  (I2:aF (aK (aJ P w) P w K mg base N qual scope f cd A outer AM AN E) AL σ H2 s2)(f2:∀b∈fp,eR (aK (aJ P w) P w K mg base N qual scope f cd A outer AM AN E) AL H2 b)(un:Un (bP (aK (aJ P w) P w K mg base N qual scope f cd A outer AM AN E).stack) fp H2 H3 s2.heap s3.heap)(os3:s3.os=s2.os)
  (hF:∀H:Hp,H C=none->eR (aK (aJ P w) P w K mg base N qual scope f cd A outer AM AN E) AL H C)(hCf:C∉bP (aK (aJ P w) P w K mg base N qual scope f cd A outer AM AN E).stack)(hC0:∀o,AM.heap.get? C≠some o):
  fV (aJ P w) ((bW (aK (aJ P w) P w K mg base N qual scope f cd A outer AM AN E) sc Nb C s3 H3 fp).wish (notedBy (model P w) (aK (aJ P w) P w K mg base N qual scope f cd A outer AM AN E).A (bW (aK (aJ P w) P w K mg base N qual scope f cd A outer AM AN E) sc Nb C s3 H3 fp).env λx s''=>Se (model P w) (aK (aJ P w) P w K mg base N qual scope f cd A outer AM AN E).A (aK (aJ P w) P w K mg base N qual scope f cd A outer AM AN E).xe Qf acc (bW (aK (aJ P w) P w K mg base N qual scope f cd A outer AM AN E) sc Nb C s3 H3 fp).env (.error x) s'')) E:=by
 intro pl σ' H s e s' I c;have J:=I.unwish;obtain⟨x,Cl,t,B,H',rfl,os,bare,un',hok,fl,cov,hE⟩:=c;have fr:∀b∈bP (aK (aJ P w) P w K mg base N qual scope f cd A outer AM AN E).stack,H' b=none:=λb hb=>by
  obtain⟨_,o,ho,hd⟩:=J.stack.mem hb;exact un'.free b o ho (J.stkFree b hb) (by intro z;cases z)
 have IX:=I2.uncmp f2 un os3 J;show wpAny _ _ (noteFrame (.ref x) _) _ _ s';rw[A8 (c:=(bW (aK (aJ P w) P w K mg base N qual scope f cd A outer AM AN E) sc Nb C s3 H3 fp).env) (env:=(aK (aJ P w) P w K mg base N qual scope f cd A outer AM AN E).env) rfl];refine wpAny_looks_onW IX.ok.frames.1 rfl fl λh1 held up=>?_;have J5:=J.flown os bare un' hok cov fr held.1 up;obtain⟨m,hn,_⟩:=id J5.loc;refine⟨m,hn,λh2 sb=>?_⟩;obtain⟨mC,hnC,_⟩:=id J.loc;obtain⟨oC,_,_,hoC,_⟩:=hnC;obtain⟨oC',gC⟩:=un'.there C oC hoC (by intro z;cases z);have hCB:∃o,B.get? C=some o:=⟨oC',cov C oC' gC (.inr ⟨oC,hoC,hCf⟩)⟩;have held2:=A6 hCB held sb;have hHC:H C=none:=J.free;have hnC':H' C=none:=un'.free C oC hoC hHC (by intro z;cases z);refine Hz rfl held2 λh3 held3 keep=>?_;show wpAny _ _ (leaving _ (.ref x)) _ _ _;unfold leaving;refine ag (wpAny_noteFrame_againW rfl held3.2.2.2 ?_);refine wpAny_landsW held3 λh4 fl4 up4=>?_;have I4:=IX.flownC (s':=s') (B:=kY B C) (h5:=h4) (hF H hHC) os bare un' hok (λb o g d hb=>by rw[zR hb];exact cov b o g d) fr hnC' fl4.1 (λb o hb g hnf=>by
  obtain⟨sl,g1⟩:=up b o g hnf;have g2:=(sb.2 b hb).trans g1;have g3:=keep b _ g2 hnf;obtain⟨sl',g4⟩:=up4 b _ g3 hnf;exact⟨sl',g4⟩)
 have nL:∀{b o},AM.heap.get? b=some o->b∉bP outer->b∉bP (envOfC qual scope AM.heap.objs.size f cd::outer):=λ{b o} q z y=>by
  rcases bw.mp (IX.stkSub b y)with g |g
  .exact absurd (bj (au q) IX.ok.above) (by rw[g];exact dz _)
  .exact z g
 obtain⟨k1,k2,⟨_,_,k3⟩,k4⟩:=fl4;refine⟨x,Cl,t,kY B C,H',rfl,os.trans IX.os,bare,I4.base,I4.hok,⟨k1,k2,k3,k4⟩,λb o q z=>?_,hE⟩;have go:∀{o2},B.get? b=some o2->b≠C->(kY B C).get? b=some o:=λ{o2} g hb=>by
  have g':(kY B C).get? b=some o2:=by rw[zR hb];exact g
  have:=k1 b o2 g';have q':h4.get? b=some o:=q;rw[q']at this;cases this;exact g'
 rcases z with⟨u,z⟩|⟨o',z,nz⟩
 .obtain⟨o2,g⟩:=(hok b u z).has
  exact go (cov b o2 g (.inl ⟨u,z⟩)) λy=>by rw[y,hnC']at z;cases z
 .obtain⟨o2,g⟩:=IX.base.there b o' z (by intro z;cases z)
  obtain⟨o3,g3⟩:=un'.there b o2 g (by intro z;cases z);exact go (cov b o3 g3 (.inr ⟨o2,g,nL z nz⟩)) λy=>hC0 o' (by rw[<-y];exact z)
end
section
variable{P:Program}{w:ah}{K:aa}{mg:Str->AE}{base:Heap}{N:List Str}{qual:Str}{scope:Scope}{f:Addr}{cd:Value}{A:aj}{outer:List Env}{AM:Shared}{AN:Hp}{E:XK}
variable{sc:Scope}{own:List Str}{cap:List (Nat×Str)}{AL:List (Addr×Obj)}{σ:St}{H:Hp}{s:Shared}{elt target iter:ae}{pos pos':ai}{wi:TI}{g:TG}{te:TE}{Q:VK}
theorem Sx{Qf:Value->Shared->Prop}(k:gK (aK (aJ P w) P w K mg base N qual scope f cd A outer AM AN E) sc own cap)(hi:PI (aK (aJ P w) P w K mg base N qual scope f cd A outer AM AN E) target iter wi)(hc:(aK (aJ P w) P w K mg base N qual scope f cd A outer AM AN E).calm=true)
  (hg:∀C AO H₁ ex,PG (bW (aK (aJ P w) P w K mg base N qual scope f cd A outer AM AN E) sc (bZ own cap) C AO H₁ ex) target g)(he:∀C AO H₁ ex E',fV (aJ P w) ((bW (aK (aJ P w) P w K mg base N qual scope f cd A outer AM AN E) sc (bZ own cap) C AO H₁ ex).wish E') E->PE ((bW (aK (aJ P w) P w K mg base N qual scope f cd A outer AM AN E) sc (bZ own cap) C AO H₁ ex).wish E') elt te)(I:aF (aK (aJ P w) P w K mg base N qual scope f cd A outer AM AN E) AL σ H s)(h:qP own cap wi g te σ H Q)
  (fin:∀D C s' H' m,aF (aK (aJ P w) P w K mg base N qual scope f cd A outer AM AN E) AL σ H' s'->eR (aK (aJ P w) P w K mg base N qual scope f cd A outer AM AN E) AL H' C->s'.heap.Ns C m->Q (.ref D) H'->∃m,s'.heap.Ns C m/\∀h',eg C s'.heap h'->Qf (.ref D) {s' with heap:=h'})
  (hs:∀x,foldedSetIterable iter (aK (aJ P w) P w K mg base N qual scope f cd A outer AM AN E).env x=pure x):
  wpAny (model (aK (aJ P w) P w K mg base N qual scope f cd A outer AM AN E).prog (aK (aJ P w) P w K mg base N qual scope f cd A outer AM AN E).w) (aK (aJ P w) P w K mg base N qual scope f cd A outer AM AN E).A (comprehension (.ListComp elt [⟨target,iter,[],0⟩] sc pos) sc (aK (aJ P w) P w K mg base N qual scope f cd A outer AM AN E).env pos' (newList []) false (eval iter (aK (aJ P w) P w K mg base N qual scope f cd A outer AM AN E).env) none) Qf (aK (aJ P w) P w K mg base N qual scope f cd A outer AM AN E).xe s:=by
 refine K7 rfl hs (Of (k.has I.ok)) k.kind k.names ?_;refine aR (hi AL s σ H _ I h) λv s1 h1=>aR h1 λitv s2 h2=>?_;obtain⟨it,fp,tn,J,H2,e,I2,T,st2,f2,hW⟩:=h2;subst e;refine jw (um k.nocell (λy hy=>nomatch hy) (λh4 jP hsb=>?_) k.kind);have I3:aF (aK (aJ P w) P w K mg base N qual scope f cd A outer AM AN E) AL σ (aN H2 s2.heap.objs.size (.lst [])) {s2 with heap:=s2.heap.push {cls:=.type "list",data:=.seq ([]:AD).toArray},toks:=s2.toks}:=I2.lnew (ys:=[]) (its:=[]) .nil (cg _);have hD:H2 s2.heap.objs.size=none:=I2.fresh;have ltf:∀b∈fp,b<s2.heap.objs.size:=λb hb=>by
  obtain⟨o,ho,_⟩:=T.obj _ _ st2 b hb;exact au ho
 have f3:∀b∈fp,eR (aK (aJ P w) P w K mg base N qual scope f cd A outer AM AN E) AL (aN H2 s2.heap.objs.size (.lst [])) b:=λb hb=>⟨by rw[aX (bc (ltf b hb))];exact(f2 b hb).1,(f2 b hb).2⟩;have un:Un (bP (aK (aJ P w) P w K mg base N qual scope f cd A outer AM AN E).stack) fp H2 (aN H2 s2.heap.objs.size (.lst [])) s2.heap (s2.heap.push {cls:=.type "list",data:=.seq ([]:AD).toArray}):=Un.laid (λb u q=>ao _ q) (ak _) hD;have kp:∀b o,(s2.heap.push {cls:=.type "list",data:=.seq ([]:AD).toArray}).get? b=some o->h4.get? b=some o:=λb o q=>hsb.extBut b o (bc (au q)) (ao _ q);have J0:=I3.cmp (t':=s2.toks+([]:List (Str×Value)).length) k f3 (λb hb=>bj (ltf b hb) (by rw[gw];exact kr _)) jP kp;have stat:∀{H':Hp},(∀b∈fp,H' b=none)->∀b∈fp,eR (bW (aK (aJ P w) P w K mg base N qual scope f cd A outer AM AN E) sc (bZ own cap) (s2.heap.push {cls:=.type "list",data:=.seq ([]:AD).toArray}).objs.size {s2 with heap:=s2.heap.push {cls:=.type "list",data:=.seq ([]:AD).toArray},toks:=s2.toks} (aN H2 s2.heap.objs.size (.lst [])) fp) [] H' b:=λhn b hb=>
  ⟨hn b hb,(J0.ok.exf b hb).1,J0.ok.exfs b hb,.inl hb,(J0.ok.exf b hb).2,λp hp=>absurd (show p∈([]:List (Addr×Obj)) from hp) (by simp)⟩
 have st4:tn 0 h4:=T.keep _ _ _ st2 λb hb o q=>kp b o (ao _ q);have fr0:∀b∈fp,(aN H2 s2.heap.objs.size (.lst [])) b=none:=λb hb=>(f3 b hb).1;have hCf:(s2.heap.push {cls:=.type "list",data:=.seq ([]:AD).toArray}).objs.size∉bP (aK (aJ P w) P w K mg base N qual scope f cd A outer AM AN E).stack:=λhb=>by
  obtain⟨_,o,ho,hd⟩:=I3.stack.mem hb;exact dz _ (au ho)
 have hC0:∀o,AM.heap.get? (s2.heap.push {cls:=.type "list",data:=.seq ([]:AD).toArray}).objs.size≠some o:=λo ho=>by
  obtain⟨m,⟨oL,_,_,hoL,_⟩,_⟩:=id I3.loc;exact dz _ (oz (bj (au ho) I3.ok.above) (au hoL))
 have loop:codeAny (model (aK (aJ P w) P w K mg base N qual scope f cd A outer AM AN E).prog (aK (aJ P w) P w K mg base N qual scope f cd A outer AM AN E).w) (aK (aJ P w) P w K mg base N qual scope f cd A outer AM AN E).A (.compLoop (.ListComp elt [⟨target,iter,[],0⟩] sc pos) 0 (.ref it) (.ref s2.heap.objs.size) (compEnvC sc (iU (aK (aJ P w) P w K mg base N qual scope f cd A outer AM AN E).env sc.names []) (s2.heap.push {cls:=.type "list",data:=.seq ([]:AD).toArray}).objs.size (aK (aJ P w) P w K mg base N qual scope f cd A outer AM AN E).env))
   (Se (model (aK (aJ P w) P w K mg base N qual scope f cd A outer AM AN E).prog (aK (aJ P w) P w K mg base N qual scope f cd A outer AM AN E).w) (aK (aJ P w) P w K mg base N qual scope f cd A outer AM AN E).A (aK (aJ P w) P w K mg base N qual scope f cd A outer AM AN E).xe Qf (.ref s2.heap.objs.size) (compEnvC sc (iU (aK (aJ P w) P w K mg base N qual scope f cd A outer AM AN E).env sc.names []) (s2.heap.push {cls:=.type "list",data:=.seq ([]:AD).toArray}).objs.size (aK (aJ P w) P w K mg base N qual scope f cd A outer AM AN E).env)) {s2 with heap:=h4,toks:=s2.toks+([]:List (Str×Value)).length}:=by
  obtain⟨W,⟨m0,w0⟩,turn⟩:=hW s2.heap.objs.size hD;refine So (λn s'=>∃i σ' H' ys,aF (bW (aK (aJ P w) P w K mg base N qual scope f cd A outer AM AN E) sc (bZ own cap) (s2.heap.push {cls:=.type "list",data:=.seq ([]:AD).toArray}).objs.size {s2 with heap:=s2.heap.push {cls:=.type "list",data:=.seq ([]:AD).toArray},toks:=s2.toks} (aN H2 s2.heap.objs.size (.lst [])) fp) [] σ' H' s'/\tn i s'.heap/\(∀b∈fp,H' b=none)/\W i n σ' H' ys) ?_ m0
   ⟨0,_,_,[],J0,st4,fr0,w0⟩
  rintro n s5 ⟨i,σ5,H5,ys,I5,st5,fr5,w5⟩
  obtain⟨eA,w5⟩:=turn i n σ5 H5 ys w5;rcases w5 with⟨stop,qn⟩|⟨go,hlt,step⟩
  .refine aR (T.done (bW (aK (aJ P w) P w K mg base N qual scope f cd A outer AM AN E) sc (bZ own cap) (s2.heap.push {cls:=.type "list",data:=.seq ([]:AD).toArray}).objs.size {s2 with heap:=s2.heap.push {cls:=.type "list",data:=.seq ([]:AD).toArray},toks:=s2.toks} (aN H2 s2.heap.objs.size (.lst [])) fp) rfl rfl rfl hc i [] s5 σ5 H5 _ I5 (stat fr5) st5 stop) ?_
   rintro r s6 ⟨hr,I6⟩
   subst hr;obtain⟨m,hn,_⟩:=id I6.loc;exact fin _ _ s6 H5 m (I2.uncmp (s3:={s2 with heap:=s2.heap.push {cls:=.type "list",data:=.seq ([]:AD).toArray},toks:=s2.toks}) f2 un rfl I6) (I3.fpOk (ak _) I6.free) hn qn
  .refine aR (T.item (bW (aK (aJ P w) P w K mg base N qual scope f cd A outer AM AN E) sc (bZ own cap) (s2.heap.push {cls:=.type "list",data:=.seq ([]:AD).toArray}).objs.size {s2 with heap:=s2.heap.push {cls:=.type "list",data:=.seq ([]:AD).toArray},toks:=s2.toks} (aN H2 s2.heap.objs.size (.lst [])) fp) rfl rfl rfl hc i [] s5 σ5 H5 _ I5 (stat fr5) st5 go) ?_
   rintro r s6 ⟨u,hr,h6⟩
   subst hr;refine aR h6 ?_
   rintro _ s7 ⟨x,H7,I7,r7,y7,st7,fr7⟩
   have I7':=I7.pinned (stat fr7) (T.obj _ _ st7);refine aR (hg _ _ _ _ _ s7 σ5 H7 x u _ I7' r7 (step x H7 y7)) ?_
   rintro _ s8 ⟨σ8,H8,I8,q8⟩
   refine aR (he _ _ _ _ _ (Ur (s3:={s2 with heap:=s2.heap.push {cls:=.type "list",data:=.seq ([]:AD).toArray},toks:=s2.toks}) I2 f2 un rfl (λH hH=>I3.fpOk (ak _) hH) hCf hC0) _ s8 σ8 H8 _ (I8.wish _) q8) ?_
   rintro v9 s9 ⟨y,H9,I9,r9,eK,m',hm,w9⟩
   have I9:=I9.unwish;refine aR (vW _ s9 σ8 H9 (.ref s2.heap.objs.size) [y] (.ref s2.heap.objs.size) [v9] (λ_ H'=>H'=aN H9 s2.heap.objs.size (.lst (ys++[y]))) I9 rfl (.cons r9 .nil) ⟨_,ys,y,rfl,rfl,eK,hlt,rfl⟩) ?_
   rintro _ s10 ⟨_,H10,I10,_,q10⟩
   subst q10;refine⟨m',hm,i+1,σ8,_,_,I10.unpinned,T.keep _ _ _ st7 λb hb o q=>(I10.pin (b,o) (ck _ (ck _ (oG hb q)))).1,λb hb=>?_,w9⟩;obtain⟨o,q,d⟩:=T.obj _ _ st7 b hb;exact(I10.pin (b,o) (ck _ (ck _ (oG hb q)))).2.1
 exact uo loop (T.self _ 0 _ _ _ st4 loop)
end
end L2
namespace L2.Pp
open PySem PySem.Spec PyProof.Rows Bn
open Classical in
def fH(G:Gd)(g:GM)(me:ME):AH->bJ->aL->bA AH
 |[],_,S=>if iC G S then .ok [] S else .fail
 |x::r,ρ,S=>if iC G S then(match g x ρ with
  |none=>.fail
  |some ρ1=>match me ρ1 S with
   |.ok (.pv y) S1=>match fH G g me r ρ1 S1 with
    |.ok ys S2=>.ok (y::ys) S2
    |.exc n S2=>.exc n S2
    |.fail=>.fail
   |.ok (.ref _) _=>.fail
   |.exc n S1=>.exc n S1
   |.fail=>.fail)else .fail
section
variable{K:aa}{cl:Str->Addr}{E:XK}{p q:Ph}{H H':Hp}{S:aL}
def Fb(K:aa)(cl:Str->Addr)(E:XK)(p:Ph)(H:Hp)(D:Addr)(Q:VK)(us:AH):bA AH->Prop
 |.ok ws S2=>∀q H' vs,aZ p H q H'->aO K q S2 H'->aO K (q.hold D) S2 H'->q.w D->D∉q.f->H' D=some (.lst vs)->vs.length<=sizeLine->aM K q.c H' (us++ws) vs->Q (.ref D) H'
 |.exc n S2=>∀q H',aZ p H q H'->aO K q S2 H'->E (.ref (cl n)) none H'
 |.fail=>False
theorem El{G:Gd}{g:GM}{me:ME}{xs us:AH}{ρ:bJ}{D:Addr}{Q:VK}(h:Fb K cl E p H D Q us (fH G g me xs ρ S)):iC G S:=by
 cases xs with
 |nil=>
  unfold fH at h;split at h
  .assumption
  .exact h.elim
 |cons x r=>
  unfold fH at h;split at h
  .assumption
  .exact h.elim
variable{own:List Str}{cap:List (Nat×Str)}{g:GM}{me:ME}
theorem Wy{σ:St}{ρ:bJ}{xs:AH}{G:Gd}{J:It}{Q:VK}{D:Addr}(sm:aO K p S H)(ev:bR K p H ρ σ)(it:eD K p H (xs,G) J)(hD:H D=none)(kk:Fb K cl E p H D Q [] (fH G g me xs (dW own cap ρ) S)):
  rK J (gP K g) (tP K cl E (bI K) me) (kG own cap σ) H D Q:=by
 obtain⟨st0,sm0⟩:=sm.res (D:=D) (o:=.lst []) hD trivial;have sh0:=sm.resHold (D:=D) (o:=.lst []) hD trivial;have nf0:D∉p.f:=λh=>sm.notin hD (sm.wc D (sm.sub D h));refine Xo xs.length it.1 (λi σ1 H1 ys=>ys.length=i/\i<=xs.length/\H1 D=some (.lst ys)/\∃p1 S1 ρ1 us,(aO K p1 S1 H1/\aO K (p1.hold D) S1 H1)/\aZ p H p1 H1/\p1.w D/\D∉p1.f/\bR K p1 H1 ρ1 σ1/\eD K p1 H1 (xs,G) J/\iC G S1/\aM K p1.c H1 us ys/\Fb K cl E p H D Q us (fH G g me (xs.drop i) ρ1 S1)) ?_ ?_ ?_ ?_ ?_
 .refine⟨rfl,cg _,cD,p.res D,S,dW own cap ρ,[],⟨sm0,sh0⟩,st0,.inr rfl,nf0,Mn (st0.repE ev),it.step st0,?_,.nil,by simpa using kk⟩
  exact El kk
 .rintro i σ1 H1 ys ⟨h1,_,h2,_⟩
  exact⟨h1,h2⟩
 .rintro i σ1 H1 ys hi ⟨_,_,_,p1,S1,ρ1,us,⟨sm1,sh1⟩,st1,w1,f1,ev1,it1,g1,_⟩
  exact((it1.2 p1 H1 S1 sm1.step sm1 g1).1 i xs[i] (ba hi)).1
 .rintro i σ1 H1 ys x H2 hi ⟨hl,_,hH,p1,S1,ρ1,us,⟨sm1,sh1⟩,st1,w1,f1,ev1,it1,g1,r1,c1⟩ hy
  obtain⟨same,rx⟩:=((it1.2 p1 H1 S1 sm1.step sm1 g1).1 i xs[i] (ba hi)).2 x H2 hy;rw[vj hi]at c1;unfold fH at c1;rw[if_pos g1]at c1;cases gz:g xs[i] ρ1 with
  |none=>rw[gz]at c1;exact c1.elim
  |some ρ2=>
   rw[gz]at c1;dsimp only at c1;have st2:=sm1.same same;have sm2:=sm1.ofSame same;have smh:=sh1.ofSame same;have stS:aZ p H p1 H2:=st1.trans st2;refine⟨p1,S1,ρ1,xs[i],ρ2,sm2,st2.repE ev1,rx,gz,λσ3 ev3=>⟨p1.hold D,S1,ρ2,smh,⟨ev3.len,ev3.at_⟩,?_⟩⟩;cases mz:me ρ2 S1 with
   |fail=>rw[mz]at c1;exact c1.elim
   |exc n S3=>
    rw[mz]at c1;intro q H4 st4 sm4;have cK:H2 D=some (.lst ys):=same _ _ hH;have dF:H4 D=some (.lst ys):=st4.keep D _ cK λz=>z.2 rfl;have fq:D∉q.f:=λh=>by
     have:=st4.nf D h f1;rw[cK]at this;cases this
    have stU:=aZ.unhold w1 st4 sm2;have nq:¬q.w D:=λz=>by
     have:=st4.nw D z λy=>y.2 rfl;rw[cK]at this;cases this
    have smU:aO K ⟨q.f,λa=>q.w a\/a=D,q.c⟩ S3 H4:=⟨sm4.nd,sm4.len,λa h=>.inl (sm4.sub a h),λa h=>h.elim (sm4.wc a) λz=>z▸st4.mono D (sm2.wc D w1),sm4.mu,λk a o e1 e2=>
     (sm4.obj k a o e1 e2).mono (λ_ e=>e) (λb w f=>⟨⟨.inl w,f⟩,λ_ e=>e⟩) λ_ _ r=>r⟩
    have shU:aO K (Ph.hold ⟨q.f,λa=>q.w a\/a=D,q.c⟩ D) S3 H4:=⟨sm4.nd,sm4.len,λa h=>⟨.inl (sm4.sub a h),λz=>nq (z▸sm4.sub a h)⟩,λa h=>smU.wc a h.1,sm4.mu,λk a o e1 e2=>
     (sm4.obj k a o e1 e2).mono (λ_ e=>e) (λb w f=>⟨⟨⟨.inl w,λz=>nq (z▸w)⟩,f⟩,λ_ e=>e⟩) λ_ _ r=>r⟩
    exact c1 _ H4 ((stS.trans stU).toLess hD) shU.toLess
   |ok av S3=>
    cases av with
    |ref k=>rw[mz]at c1;exact c1.elim
    |pv y=>
     rw[mz]at c1;dsimp only at c1;intro q H4 y' st4 sm4 ry;have cK:H2 D=some (.lst ys):=same _ _ hH;have dF:H4 D=some (.lst ys):=st4.keep D _ cK λz=>z.2 rfl;have fq:D∉q.f:=λh=>by
      have:=st4.nf D h f1;rw[cK]at this;cases this
     have stU:=aZ.unhold w1 st4 sm2;have nq:¬q.w D:=λz=>by
      have:=st4.nw D z λy=>y.2 rfl;rw[cK]at this;cases this
     have smU:aO K ⟨q.f,λa=>q.w a\/a=D,q.c⟩ S3 H4:=⟨sm4.nd,sm4.len,λa h=>.inl (sm4.sub a h),λa h=>h.elim (sm4.wc a) λz=>z▸st4.mono D (sm2.wc D w1),sm4.mu,λk a o e1 e2=>
      (sm4.obj k a o e1 e2).mono (λ_ e=>e) (λb w f=>⟨⟨.inl w,f⟩,λ_ e=>e⟩) λ_ _ r=>r⟩
     have shU:aO K (Ph.hold ⟨q.f,λa=>q.w a\/a=D,q.c⟩ D) S3 H4:=⟨sm4.nd,sm4.len,λa h=>⟨.inl (sm4.sub a h),λz=>nq (z▸sm4.sub a h)⟩,λa h=>smU.wc a h.1,sm4.mu,λk a o e1 e2=>
      (sm4.obj k a o e1 e2).mono (λ_ e=>e) (λb w f=>⟨⟨⟨.inl w,λz=>nq (z▸w)⟩,f⟩,λ_ e=>e⟩) λ_ _ r=>r⟩
     have c2:Fb K cl E p H D Q (us++[y]) (fH G g me (xs.drop (i+1)) ρ2 S3):=by
      cases cz:fH G g me (xs.drop (i+1)) ρ2 S3 with
      |fail=>rw[cz]at c1;exact c1.elim
      |exc n S4=>rw[cz]at c1;exact c1
      |ok ws S4=>
       rw[cz]at c1;intro q H' vs z1 z2 z3 z4 z5 z6 z7 r;rw[iw]at r;exact c1 q H' vs z1 z2 z3 z4 z5 z6 z7 r
     obtain⟨stG,smG,shG⟩:=smU.grow (ys:=ys) (D:=D) (o:=.lst (ys++[y'])) shU (.inr rfl) fq trivial;have stA:=st2.trans (stU.trans stG);refine Es hi dF ⟨by rw[cb,hl];rfl,hi,cD,_,S3,ρ2,us++[y],⟨smG,shG⟩,st1.trans stA,.inr rfl,fq,stG.repE (stU.repE ev3),it1.step stA,El c2,?_,c2⟩;exact(stA.reps r1).append (.cons (stG.rep ry) .nil)
 .rintro σ1 H1 ys ⟨hl,_,hH,p1,S1,ρ1,us,⟨sm1,sh1⟩,st1,w1,f1,ev1,it1,g1,r1,c1⟩
  rw[vk]at c1;unfold fH at c1;rw[if_pos g1]at c1;refine⟨(it1.2 p1 H1 _ sm1.step sm1 g1).2,?_⟩;exact c1 p1 H1 ys st1 sm1 sh1 w1 f1 hH (by rw[hl];exact it.1) (by rw[ia];exact r1)
theorem Wk{σ:St}{ρ:bJ}{xs:AH×Gd}{J:It}{Q:VK}{D:Addr}(sm:aO K p S H)(ev:bR K p H ρ σ)(it:eD K p H xs J)(k:aU K cl (bI K) p H ((fH xs.2 g me xs.1 (dW own cap ρ) S).bind λys S2=>.ok (.pv (.lst ys)) S2) Q E)(hD:H D=none):
  rK J (gP K g) (tP K cl E (bI K) me) (kG own cap σ) H D Q:=by
 refine Wy sm ev it hD ?_;cases z:fH xs.2 g me xs.1 (dW own cap ρ) S with
 |fail=>rw[z]at k;exact k.elim
 |exc n S'=>rw[z]at k;exact k
 |ok zs S2=>
  rw[z]at k;have k:∀q H' x,aZ p H q H'->aO K q S2 H'->aP K q.c H' (.lst zs) x->Q x H':=k;intro q H' vs st1 sm1 sh1 w1 f1 hH l1 r1;rw[List.nil_append]at r1;refine k (q.less D) H' (.ref D) (st1.toLess hD) sh1.toLess ?_;unfold aP;exact⟨D,vs,rfl,.inl ⟨hH,λz=>z.2 rfl⟩,l1,sY (λa h=>h.1) r1⟩
end
def iQ(own:List Str)(cap:List (Nat×Str))(mi:MI)(g:GM)(me:ME):ME:=λρ S=>(mi ρ S).bind λxs S1=>(fH xs.2 g me xs.1 (dW own cap ρ) S1).bind λys S2=>.ok (.pv (.lst ys)) S2
section
variable{P:Program}{w:ah}{K:aa}{mg:Str->AE}{base:Heap}{N:List Str}{qual:Str}{scope:Scope}{f:Addr}{cd:Value}{A:aj}{outer:List Env}{AM:Shared}{AN:Hp}{E:XK}{cl:Str->Addr}
variable{sc:Scope}{own:List Str}{cap:List (Nat×Str)}{elt target iter:ae}{pos:ai}{mi:MI}{g:GM}{me:ME}{wi:TI}{tg:TG}{te:TE}
theorem K9(k:gK (aK (aJ P w) P w K mg base N qual scope f cd A outer AM AN E) sc own cap)(hi:PI (aK (aJ P w) P w K mg base N qual scope f cd A outer AM AN E) target iter wi)(hc:(aK (aJ P w) P w K mg base N qual scope f cd A outer AM AN E).calm=true)
  (hg:∀C AO H₁ ex,PG (bW (aK (aJ P w) P w K mg base N qual scope f cd A outer AM AN E) sc (bZ own cap) C AO H₁ ex) target tg)(he:∀C AO H₁ ex E',fV (aJ P w) ((bW (aK (aJ P w) P w K mg base N qual scope f cd A outer AM AN E) sc (bZ own cap) C AO H₁ ex).wish E') E->PE ((bW (aK (aJ P w) P w K mg base N qual scope f cd A outer AM AN E) sc (bZ own cap) C AO H₁ ex).wish E') elt te)
  (hs:∀x,foldedSetIterable iter (aK (aJ P w) P w K mg base N qual scope f cd A outer AM AN E).env x=pure x:=by intro _;rfl):PE (aK (aJ P w) P w K mg base N qual scope f cd A outer AM AN E) (.ListComp elt [⟨target,iter,[],0⟩] sc pos) (qP own cap wi tg te):=by
 intro AL s σ H Q I h;rw[eval_ListComp];refine Sx k hi hc hg he I h (λD C s' H' m I' fC hn q=>?_) hs;refine⟨m,hn,λh' sb=>⟨.ref D,H',?_,rfl,q⟩⟩;obtain⟨f0,f1,f2,f3,f4,f5⟩:=fC;exact I'.turned (t':=s'.toks) (λb o hb e=>(sb.2 b hb).trans e) f0 f1 f3 f4 f5
theorem N3(k:gK (aK (aJ P w) P w K mg base N qual scope f cd A outer AM AN E) sc own cap)(hi:iA K cl E (aK (aJ P w) P w K mg base N qual scope f cd A outer AM AN E) target iter mi)(hc:(aK (aJ P w) P w K mg base N qual scope f cd A outer AM AN E).calm=true)(hg:∀C AO H₁ ex,kS K (bW (aK (aJ P w) P w K mg base N qual scope f cd A outer AM AN E) sc (bZ own cap) C AO H₁ ex) target g)(he:∀C AO H₁ ex E',fV (aJ P w) ((bW (aK (aJ P w) P w K mg base N qual scope f cd A outer AM AN E) sc (bZ own cap) C AO H₁ ex).wish E') E->aI K cl E ((bW (aK (aJ P w) P w K mg base N qual scope f cd A outer AM AN E) sc (bZ own cap) C AO H₁ ex).wish E') elt me)
  (hs:∀x,foldedSetIterable iter (aK (aJ P w) P w K mg base N qual scope f cd A outer AM AN E).env x=pure x:=by intro _;rfl):aI K cl E (aK (aJ P w) P w K mg base N qual scope f cd A outer AM AN E) (.ListComp elt [⟨target,iter,[],0⟩] sc pos) (iQ own cap mi g me):=by
 intro hK;refine PE.imp (K9 k (hi hK) hc (λC AO H₁ ex=>hg C AO H₁ ex hK) (λC AO H₁ ex E' ps=>he C AO H₁ ex E' ps hK) hs) ?_
 rintro σ H Q ⟨p,S,ρ,s,ev,h⟩
 exact aY s ev h λq H' xs J S' stp sm ev it kk D hD=>Wk sm ev it kk hD
end
section
variable{K:aa}{cl:Str->Addr}{E:XK}{X:Cx}{e:ae}{es:List ae}{ms:MA}{pos p:ai}{k:Nat}{f:Addr}{fd:ay}{ps:List Str}{g:FM}{x:Str}{dvs:List V}{ds:AD}{dv:AH}
theorem J1(hp:fV (aJ X.prog X.w) X E)(F:bQ X.prog X.w X.K X.mg X.base (aJ X.prog X.w) k f fd ps (jM K cl g))(hr:bG k X.A)(hg:Gl X x)(hm:X.mg x=some (.ref f))(hk:bo X.K (.ref f)=true)(hb:dD X.K fd ps ds)(hd:aS dvs ds)(hv:Dv dv dvs)
  (ha:cM K cl E X (e::es) ms)(hdb:(x==("__debug__":Str))=false:=by decide)(he:starEach (e::es) X.env=(false,eval e X.env)::starEach es X.env:=by rfl)(hpl:(backTo pos (starEach es X.env)).any (·.1)=false:=by rfl):
  aI K cl E X (.Call (.Name x p) (e::es) [] pos) (cW g dv ms):=by
 intro hK;refine PE.imp (wL F hr hg hm hk hb hd hp (ha hK) hdb he hpl) ?_
 rintro σ H Q ⟨p,S,ρ,s,ev,h⟩
 exact aY s ev h λq H' as xs S' stp sm ev r k=>⟨q,S',_,sm,vT r (hv K q H'),mV sm k⟩
end
section
variable{K:aa}{cl:Str->Addr}{E:XK}{X:Cx}{a b e:ae}{m:ME}{ms:MA}{pos:ai}
theorem Z0:bootBuiltins "str"=some (.type "str"):=by decide+kernel
theorem pA{c:Addr->Prop}{H:Hp}(x:Str):aP K c H (.str x) (.str x):=by
 unfold aP;rfl
def jS:PV->PV->AI
 |.str x,.str y=>if x.length+y.length<=16777216 then some (.str (x++y))else none
 |_,_=>none
theorem aak:eG K (λx y H Q=>∃i j,x=.str i/\y=.str j/\i.length+j.length<=sizeLine/\Q (.str (i++j)) H) jS:=λ{p S H a b c x y Q} s ra rb e k=>by
 unfold jS at e;split at e
 .split at e
  .rename_i h
   cases e;rw[<-fG]at h;exact⟨_,_,ra.str,rb.str,h,k H _ (bX.refl H) (pA _)⟩
  .cases e
 .cases e
def Ju(y x:Str):Bool:=!(lu y x 0 y.length 1).isEmpty
def oY:PV->PV->AI
 |.str x,.str y=>some (.bl (Ju y x))
 |_,_=>none
theorem abB:eG K (λx y H Q=>∃i j,x=.str i/\y=.str j/\Q (.bl (!(lu j i 0 j.length 1).isEmpty)) H) oY:=λ{p S H a b c x y Q} s ra rb e k=>by
 unfold oY at e;split at e
 .cases e
  exact⟨_,_,ra.str,rb.str,k H _ (bX.refl H) (iO (v:=.bl _) rfl)⟩
 .cases e
def mD:AH->AI
 |[.str x]=>if x.length<=16777216 then some (.int x.length)else none
 |_=>none
theorem aag:kC K (λxs H Q=>∃z,xs=[.str z]/\z.length<=sizeLine/\Q (.int z.length) H) mD:=λ{p S H as c xs Q} s ra e k=>by
 unfold mD at e;split at e
 .rename_i x
  split at e
  .rename_i h
   cases e;rw[<-fG]at h;cases ra with
   |cons h1 t=>
    cases t;exact⟨x,by rw[h1.str],h,k H _ (bX.refl H) (iO (v:=.int _) rfl)⟩
  .cases e
 .cases e
def Kb:AH->AI
 |[.int i]=>if i.natAbs.log2<1920 then some (.str (toString i))else none
 |_=>none
theorem acB:kC K (λxs H Q=>∃i,xs=[.int i]/\i.natAbs.log2<1920/\Q (.str (toString i)) H) Kb:=λ{p S H as c xs Q} s ra e k=>by
 unfold Kb at e;split at e
 .rename_i x
  split at e
  .rename_i h
   cases e;cases ra with
   |cons h1 t=>
    cases t;exact⟨x,by rw[h1.int],h,k H _ (bX.refl H) (pA _)⟩
  .cases e
 .cases e
theorem Fw:fX X (.type "int") (λxs H Q=>∃x n,xs=[.str x]/\qm x=some n/\x.length<=640/\Q (.int n) H):=by
 intro AL s σ H xs us Q I r h;obtain⟨x,n,rfl,hn,hl,q⟩:=h;obtain⟨u,rfl,t,rfl⟩:=gJ r;exact PySem.W.KIN.call_text hn hl ⟨.int n,H,I.tok _,⟨_,rfl⟩,q⟩
def Sa:AH->AI
 |[.str x]=>if x.length<=640 then(qm x).map .int else none
 |_=>none
theorem aa2:kC K (λxs H Q=>∃x n,xs=[.str x]/\qm x=some n/\x.length<=640/\Q (.int n) H) Sa:=λ{p S H as c xs Q} s ra e k=>by
 unfold Sa at e;split at e
 .rename_i x
  split at e
  .rename_i h
   cases z:qm x with
   |none=>rw[z]at e;cases e
   |some n=>
    rw[z]at e;cases e;cases ra with
    |cons h1 t=>
     cases t;exact⟨x,n,by rw[h1.str],z,h,k H _ (bX.refl H) (iO (v:=.int _) rfl)⟩
  .cases e
 .cases e
theorem Vy{h:Heap}{sl:Addr}{vl vu:Value}{lo hi:AG}(hs:h.IsSliceOf sl vl vu .none)(pl:ic vl lo)(pu:ic vu hi):∃l u:Option (Int×bg),h.IsSlice sl l u none/\l.map (·.1)=lo/\u.map (·.1)=hi:=by
 obtain⟨o,e,c,d⟩:=hs;cases pl with
 |none=>
  cases pu with
  |none=>exact⟨none,none,⟨o,e,c,d⟩,rfl,rfl⟩
  |int j u=>exact⟨none,some (j,u),⟨o,e,c,d⟩,rfl,rfl⟩
 |int i t=>
  cases pu with
  |none=>exact⟨some (i,t),none,⟨o,e,c,d⟩,rfl,rfl⟩
  |int j u=>exact⟨some (i,t),some (j,u),⟨o,e,c,d⟩,rfl,rfl⟩
theorem aaK:nY X (λx lo hi H Q=>∃z,x=.str z/\z.length<=sizeLine/\Q (.str (ka z lo hi)) H):=by
 intro AL s σ H x v vl vu lo hi sl Q I rx hs pl pu h;obtain⟨z,rfl,hz,q⟩:=h;obtain⟨t,rfl⟩:=rx;obtain⟨l,u,hs,rfl,rfl⟩:=Vy hs pl pu;refine⟨"str",_,PySem.F.slot_str_getitem.lookup,kx _ _ _,?_⟩;exact wpAny_getItem_str_slice hs rfl (post_val_or_str ⟨dq (Txt.slice_le z _ _) hz,λt' k=>⟨.str _,H,I.tok _,⟨_,rfl⟩,q⟩⟩)
def Dh(v:PV)(lo hi:AG):AI:=match v with
 |.str x=>if x.length<=16777216 then some (.str (ka x lo hi))else none
 |_=>none
def pD(m:ME)(ml mh:MO):ME:=λρ S=>(m ρ S).bind λv S1=>(ml ρ S1).bind λlo S2=>(mh ρ S2).bind λhi S3=>gA ((rd S3 v).bind λx=>Dh x lo hi) S3
theorem aa9{lo hi:Option ae}{ml mh:MO}{p2:ai}(he:aI K cl E X e m)(hl:pJ K cl E X lo ml)(hu:pJ K cl E X hi mh):aI K cl E X (.Subscript e (.Slice lo hi none p2) pos) (pD m ml mh):=by
 intro hK;subst hK;refine(Tn aaK (he rfl) (hl rfl) (hu rfl)).imp ?_
 rintro σ H Q ⟨p,S,ρ,s,e,h⟩
 refine aY s e h λq H1 a x S1 st s1 e1 r1 h1=>aY s1 e1 h1 λq2 H2 lo lo' S2 st2 s2 e2 r2 h2=>aY s2 e2 h2 λq3 H3 hi hi' S3 st3 s3 e3 r3 h3=>?_;cases r2;cases r3;have ra:=st3.repA (st2.repA r1);obtain⟨c,ec,k⟩:=mY s3 h3;cases z:rd S3 a with
 |none=>rw[z]at ec;cases ec
 |some v=>
  rw[z]at ec;have rv:=qK s3 ra z;cases v with
  |str w=>
   have ec:(if w.length<=16777216 then some (PV.str (ka w lo hi))else none)=some c:=ec;split at ec
   .rename_i hw
    cases ec;rw[<-fG]at hw;exact⟨w,rv.str,hw,k _ _ (bX.refl _) (pA _)⟩
   .cases ec
  |_=>cases ec
def Wh(X:Cx)(id:String)(f:Str->AH->AI):Prop:=
 ∀(AL:List (Addr×Obj))(s:Shared)(σ:St)(H:Hp)(x:Str)(t:bg)(as:AH)(xs:List V)(us:AD)(c:PV)(Q:VK),aF X AL σ H s->aS xs us->(∃p:Ph,aM X.K p.c H as xs)->f x as=some c->
  (∀H' z,bX H H'->(∀(p:Ph) S,aO X.K p S H->aM X.K p.c H as xs->aP X.K p.c H' c z)->Q z H')->wpAny (model X.prog X.w) X.A (call (.builtin id) (.str x t::us)) (EP X AL σ Q) X.xe s
def pF{α:Type}(k:AV)(f:Str->bA α):bA α:=match k with
 |.pv (.str x)=>f x
 |_=>.fail
def mF(f:Str->AH->AI)(m:ME)(ms:MA):ME:=λρ S=>(m ρ S).bind λk S1=>pF k λx=>(ms ρ S1).bind λys S2=>gA ((lD ys).bind (f x)) S2
theorem Ar{name:Str}{id:String}{f:Str->AH->AI}{es:List ae}{apos cpos:ai}(slot:Slot "str" name id)(hty:typeOf (.builtin id)=pure (.type "method_descriptor"))(hm:Wh X id f)(ho:aI K cl E X a m)(ha:cM K cl E X (e::es) ms)(hbase:attributeBase a name X.env (eval a X.env)=eval a X.env:=by rfl)
  (hfew:((backTo cpos (starEach (e::es) X.env)).all (λx=>!x.1)&&(backToKw cpos (keywordEach [] X.env)).all (λx=>x.1.isSome)
   &&decide ((e::es).length+([]:List fk).length+(if([]:List fk).isEmpty then 0 else 1)<30))=true:=by rfl)
  (hline:(apos.endLine==cpos.line)=true:=by rfl)(hs:starEach (e::es) X.env=(false,eval e X.env)::starEach es X.env:=by rfl)(hplain:(backTo cpos (starEach es X.env)).any (·.1)=false:=by rfl):
  aI K cl E X (.Call (.Attribute a name apos) (e::es) [] cpos) (mF f m ms):=by
 intro hK;subst hK;refine PE.imp (xV (r:=λx xs H Q=>∃(z:Str)(as:AH)(c:PV),x=.str z/\(∃p:Ph,aM X.K p.c H as xs)/\f z as=some c/\∀H' y,bX H H'->(∀(p:Ph) S,aO X.K p S H->aM X.K p.c H as xs->aP X.K p.c H' c y)->Q y H') zz slot hty (λAL s σ H x xs v us Q I rx rs h=>?_) (ho rfl) (ha rfl) hbase hfew hline hs hplain) λσ H Q ⟨p,S,ρ,s,ev,h⟩=>?_
 .obtain⟨z,as,c,rfl,hp,hf,k⟩:=h
  obtain⟨t,rfl⟩:=rx;exact hm AL s σ H z t as xs us c Q I rs hp hf k
 .refine aY s ev h λq H1 k x S1 st s1 e1 r1 h1=>?_
  unfold pF at h1;split at h1
  .rename_i z
   have ex:=(show cY X.K q H1 (.str z) x from .inl r1).str;subst ex;refine⟨rfl,aY s1 e1 h1 λq2 H2 ys xs S2 st2 s2 e2 r2 h2=>?_⟩;obtain⟨c,ec,k⟩:=mY s2 h2;cases y:lD ys with
   |none=>rw[y]at ec;cases ec
   |some as=>
    rw[y]at ec;have rr:=zJ y r2;exact⟨z,as,c,rfl,⟨q2,rr⟩,ec,λH' w sm hr=>k H' w sm (hr q2 S2 s2 rr)⟩
  .exact h1.elim
theorem J4{c:PV}{H H':Hp}{as:AH}{xs:List V}(h:uN c=true):∀(p:Ph) S,aO K p S H->aM K p.c H as xs->aP K p.c H' c (rO c):=λp S _ _=>iO h
theorem Po{c:Addr->Prop}{H:Hp}{y:Str}{xs:List V}(r:aM K c H [.str y] xs):xs=[.str y]:=by
 unfold aM at r;obtain⟨v,r1,rfl,h,t⟩:=r;unfold aM at t;subst t;unfold aP at h;rw[h]
def Ha(x:Str):AH->AI
 |[.str y]=>some (.bl (Txt.startswith x y))
 |_=>none
theorem Tz:Wh X "str.startswith" Ha:=by
 intro AL s σ H x t as xs us c Q I rs ⟨p,rp⟩ hf k;unfold Ha at hf;split at hf
 .rename_i y
  cases hf;rw[Po rp]at rs;obtain⟨u,rfl,t',rfl⟩:=gJ rs;exact SC.startswith ⟨.bl _,H,I,rfl,k H _ (bX.refl H) (J4 (c:=.bl _) rfl)⟩
 .cases hf
theorem Al:∀l:List (Str×bg),aS (l.map λp=>V.str p.1) (strValues l)
 |[]=>.nil
 |p::l=>.cons ⟨p.2,rfl⟩ (Al l)
theorem Wl{c:Addr->Prop}{H:Hp}:∀l:List Str,aM K c H (l.map PV.str) (l.map V.str)
 |[]=>.nil
 |x::l=>.cons (pA x) (Wl l)
def nE(x:Str):AH->AI
 |[.str y]=>if y.length≠0/\x.length+2<=16777216 then some (.lst ((gr x y).map .str))else none
 |_=>none
theorem B8(x y:Str):(gr x y).length<=x.length+2:=by
 unfold gr;split
 .simp
 .split
  .simp
  .have e1:=a9 x y 0 x.length (x.length+1)
   rw[b3];omega
theorem M8:Wh X "str.split" nE:=by
 intro AL s σ H x t as xs us c Q I rs ⟨p,rp⟩ hf k;unfold nE at hf;split at hf
 .rename_i y
  split at hf
  .rename_i hp
   cases hf;rw[Po rp]at rs;obtain⟨u,rfl,t',rfl⟩:=gJ rs;have hl:=B8 x y;have hz:((gr x y).map V.str).length<=sizeLine:=by rw[bh,fG];omega
   have hn:(Builtin.Str.partsBetween x (lu x y 0 x.length (x.length+1)) y.length).length<=sizeLine:=by
    have e1:=a9 x y 0 x.length (x.length+1);rw[b3,fG];omega
   have fin:∀(l:List (Str×bg))(n:Nat)(h':Heap)(tk:Nat),l.map (·.1)=gr x y->h'=s.heap.push {cls:=.type "list",data:=.seq (strValues l).toArray}->EP X AL σ Q (.ref s.heap.objs.size) {s with heap:=h',toks:=tk}:=λl n h' tk el eh=>by
    have ev:(gr x y).map V.str=l.map λp=>V.str p.1:=by rw[<-el,jm];rfl
    subst eh;refine⟨.ref s.heap.objs.size,_,I.laid (o:=.lst ((gr x y).map V.str)) (λb ob q=>ao _ q) (ak _) ⟨hz,_,0,by rw[ev];exact Al l,bn _ rfl⟩,rfl,?_⟩;have hnone:=I.hok.fresh (ak s.heap.objs.size);refine k _ _ (eP hnone) λp S sm _=>?_;exact mZ sm (Wl _) hz hnone
   cases h1:(decide (x.length<y.length)||decide (b4 x<b4 y))
   .cases hf:(lu x y 0 x.length (x.length+1)).isEmpty
    .refine ky qo (kx _ _ _) vz (wa _ _) (meets_str_split_sep x y t t' h1 (by simpa using hp.1) hf (by rw[fG];omega) hn) ?_
     rw[strsFrom_eq];exact fin (numbered s.toks _) 0 _ _ ((numbered_texts _ _).trans ((if_neg (ne_true_of_eq_false h1)).trans (if_neg (ne_true_of_eq_false hf))).symm) rfl
    .exact ky qo (kx _ _ _) vz (wa _ _) (meets_str_split_not_found x y t t' h1 (by simpa using hp.1) hf)
      (fin [(x,t)] 0 _ s.toks ((if_neg (ne_true_of_eq_false h1)).trans (if_pos hf)).symm rfl)
   .exact ky qo (kx _ _ _) vz (wa _ _) (meets_str_split_cannot_occur x y t t' h1)
     (fin [(x,t)] 0 _ s.toks (if_pos h1).symm rfl)
  .cases hf
 .cases hf
end
end L2.Pp
namespace L2
open PySem PySem.Spec PyProof.Rows Bn
def Nh(x:Str):It:=⟨λi _=>i<x.cps.size,λi H v H'=>H'=H/\∃c,x.cps[i]?=some c/\v=.str ⟨#[c]⟩,λi _=>x.cps.size<=i⟩
theorem G3{P:Program}{w:ah}{K:aa}{tg:ae}(x:Str)(t:bg)(it:Addr):rA P w K tg (Nh x) [it] it (λi h=>h.IsStrIter it "str_ascii_iterator" x t i) where
 mem:=by simp
 obj:=λi h st b hb=>by
  have e:b=it:=by simpa using hb
  subst e;obtain⟨o,e,c,d⟩:=st;exact⟨o,e,λv z=>by rw[d]at z;cases z⟩
 keep:=λi h h' st k=>by
  obtain⟨o,e,c,d⟩:=st;exact⟨o,k it (by simp) o e,c,d⟩
 item:=by
  intro X hP hw hK hc i AL s σ H E I hf st hg;subst hP hw hK;have hg:i<x.cps.size:=hg;obtain⟨f0,f1,f2,f3,f4,f5⟩:=hf it (by simp);have hx:x.cps[i]?=some x.cps[i]:=Array.getElem?_eq_getElem hg;refine wpAny_pyNext_ascii_item st hx λh' st' sb=>?_;have I1:aF X AL σ H {s with heap:=h',toks:=s.toks+1}:=I.turned (λb o hb e=>(sb.2 b hb).trans e) f0 f1 f3 f4 f5;obtain⟨o,e,c,d⟩:=id st';exact⟨_,rfl,Wa (s:={s with heap:=h',toks:=s.toks+1}) e c d (by decide) ⟨.str ⟨#[x.cps[i]]⟩,H,I1,⟨_,rfl⟩,⟨rfl,_,hx,rfl⟩,st',λb hb=>(hf b hb).1⟩⟩
 done:=by
  intro X hP hw hK hc i AL s σ H E I hf st hg;subst hP hw hK;have hg:x.cps.size<=i:=hg;obtain⟨f0,f1,f2,f3,f4,f5⟩:=hf it (by simp);exact wpAny_pyNext_ascii_end (I.ok.hd hc) st (zx hg) λh' eb=>⟨rfl,I.turned (t':=s.toks) (λb o hb e=>eb b o hb e) f0 f1 f3 f4 f5⟩
 self:=λ_ _ _ _ _ st h=>wpAny_pyIter_striter_ascii st h
def mP(X:Cx)(e:ae)(te:XK->TE):Prop:=
 ∀(AL:List (Addr×Obj))(s:Shared)(σ:St)(H:Hp)(Q:VK)(E:XK)(Ex:Value->Shared->Prop),aF X AL σ H s->te E σ H Q->
  (∀s1 H1 e' s',aF X AL σ H1 s1->aJ X.prog X.w X.stack H1 s1 E e' s'->Ex e' s')->wpAny (model X.prog X.w) X.A (eval e X.env) (EP X AL σ Q) Ex s
section
variable{X:Cx}{x:Str}{pos:ai}{e a:ae}{t:TA}{ta:TE}{te:XK->TE}
theorem N1{x1}(hxe:X.xe=λ_ _=>False)(ha:PE X a ta)(he:mP X e te)
  (hs:starEach [a,e] X.env=[(false,eval a X.env),(false,eval e X.env)]:=by rfl):
  mP X (.Tuple [a,e] x1 pos) (λE σ H Q=>ta σ H λu H1=>te E σ H1 λv H2=>∀t,H2 t=none->Q (.ref t) (aN H2 t (.tup [u,v]))):=by
 intro AL s σ H Q E Ex I h hx;refine sy ?_;rw[hs];show wpAny _ _ (spliced ((false,eval a X.env)::[(false,eval e X.env)])) _ _ s;refine ko (bv (ha AL s σ H _ I h) (λu s1 hq=>?_) λ_ _ z=>by rw[hxe]at z;exact z.elim);rcases hq with⟨x,H1,I1,r1,q1⟩;refine ko (bv (he AL s1 σ H1 _ E Ex I1 q1 hx) (λv s2 hq=>?_) λ_ _ z=>z);rcases hq with⟨y,H2,I2,r2,q2⟩;refine ou ⟨by show 2<=sizeLine;decide,?_⟩;have hf:H2 s2.heap.objs.size=none:=I2.hok.fresh (ak _);refine⟨.ref s2.heap.objs.size,aN H2 s2.heap.objs.size (.tup [x,y]),I2.laid (t':=s2.toks) (λb u e=>ao _ e) (ak _) ?_,rfl,q2 _ hf⟩;exact⟨⟨by show 2<=sizeLine;decide,_,bn _ rfl,rfl⟩,[u,v],.cons r1 (.cons r2 .nil),⟨_,bn _ rfl,rfl,_,rfl⟩⟩
end
end L2
namespace L2.Pp
open PySem PySem.Spec PyProof.Rows Bn
section
variable{K:aa}{cl:Str->Addr}{E:XK}{X:Cx}{a b c e:ae}{m mc:ME}{pos:ai}{tg:ae}{ma mb:ME}
def lK(x:Str):AH:=x.cps.toList.map λc=>.str ⟨#[c]⟩
def Lg:AV->aL->bA (AH×Gd)
 |.pv (.str x),S=>if x.cps.all (· <128)=true/\x.length<=16777216 then .ok (lK x,[]) S else .fail
 |_,_=>.fail
def yE(m:ME):MI:=λρ S=>(m ρ S).bind Lg
theorem abu{p:Ph}{H:Hp}{x:Str}(hz:x.length<=16777216):eD K p H (lK x,[]) (Nh x):=by
 have hl:(lK x).length=x.cps.size:=by unfold lK;rw[bh,jt]
 refine⟨by show(lK x).length<=sizeLine;rw[hl,fG];exact hz,λq H1 S1 st _ _=>⟨λi v e=>?_,?_⟩⟩
 .have e:(lK x)[i]?=some v:=e
  unfold lK at e;rw[fm]at e;cases z:x.cps.toList[i]? with
  |none=>rw[z]at e;cases e
  |some d=>
   rw[z]at e;cases e;have z:x.cps[i]?=some d:=by simpa using z
   refine⟨(zy.mp z).1,λy H2 hy=>?_⟩;obtain⟨rfl,d',e1,rfl⟩:=hy;rw[z]at e1;cases e1;exact⟨bX.refl _,pA _⟩
 .show x.cps.size<=(lK x).length
  rw[hl];exact ak _
theorem P5(h:aI K cl E X e m):iA K cl E X tg e (yE m):=by
 intro hK;subst hK;intro AL s σ H R I hh;obtain⟨p,S,ρ,sm,ev,hh⟩:=hh;have z:=h rfl AL s σ H (λx H1=>∃y,x=.str y/\y.cps.all (· <128)=true/\R (Nh y) H1) I (aY sm ev hh λq H' v x S' stp sm ev r k=>by
  unfold Lg at k;split at k
  .rename_i y
   split at k
   .rename_i hy
    exact⟨y,(show cY X.K q H' (.str y) x from .inl r).str,hy.1,aU.ret (R:=eD X.K) k sm (abu hy.2)⟩
   .exact k.elim
  .exact k.elim)
 refine aR z ?_
 rintro v s1 ⟨x,H1,I1,r1,y,e,ha,q⟩
 subst e;obtain⟨t,rfl⟩:=r1;refine wpAny_pyIter_ascii ha ?_;refine⟨s1.heap.objs.size,[s1.heap.objs.size],_,_,H1,rfl,I1.kept (t':=s1.toks) λb o e=>ao _ e,G3 y t _,⟨_,bn _ rfl,rfl,rfl⟩,λb hb=>?_,q⟩;have e:b=s1.heap.objs.size:=by simpa using hb
 subst e;exact I1.fpOk (ak _) (I1.hok.fresh (ak _))
def kX(f f':PV->PV->AI)(ma mb mc:ME):ME:=λρ S=>(ma ρ S).bind λx S1=>(mb ρ S1).bind λy S2=>(iD f x y S2).bind λz S3=>match z with
 |.pv (.bl true)=>(mc ρ S3).bind λw S4=>iD f' y w S4
 |.pv (.bl false)=>.ok (.pv (.bl false)) S3
 |_=>.fail
theorem wD{op op':CmpOp}{r r':R2}{f f':PV->PV->AI}(ho:cN X (compareOp op) r)(hf:eG X.K r f)(ho':cN X (compareOp op') r')(hf':eG X.K r' f')(ha:aI K cl E X a ma)(hb:aI K cl E X b mb)(hc:aI K cl E X c mc)
  (hm:lastMarks [op,op'] [b,c]=false:=by with_unfolding_all rfl):aI K cl E X (.Compare a [op,op'] [b,c] pos) (kX f f' ma mb mc):=by
 intro hK;subst hK;refine PE.imp (I0 ho ho' (ha rfl) (hb rfl) (hc rfl) hm) ?_
 rintro σ H Q ⟨p,S,ρ,s,e,h⟩
 refine aY s e h λq H1 x x' S1 st s1 e1 r1 h1=>aY s1 e1 h1 λq2 H2 y y' S2 st2 s2 e2 r2 h2=>?_;cases z:iD f x y S2 with
 |fail=>rw[z]at h2;exact h2.elim
 |exc n S3=>
  exfalso;unfold iD at z;cases w:((rd S2 x).bind λx=>(rd S2 y).bind λy=>f x y)with
  |none=>rw[w]at z;cases z
  |some u=>rw[w]at z;cases z
 |ok u S3=>
  rw[z]at h2;simp only[bA.bind]at h2;have eS:S3=S2:=by
   unfold iD at z;cases w:((rd S2 x).bind λx=>(rd S2 y).bind λy=>f x y)with
   |none=>rw[w]at z;cases z
   |some u=>rw[w]at z;cases z;rfl
  subst eS;refine oI (cl:=cl) (E:=E) hf s2 (st2.repA r1) r2 ?_;rw[z];intro q3 H3 w st3 s3 r3;have e3:=st3.repE e2;have ry:=st3.repA r2;split at h2
  .have:w=.bl true:=xO r3 rfl
   subst this;refine⟨true,rfl,if_pos rfl▸ ?_⟩;refine⟨q3,S3,ρ,s3,e3,?_⟩;have h2:aU X.K cl (bI X.K) q2 H2 ((mc ρ S3).bind λw S4=>iD f' y w S4) Q E:=h2;cases zc:mc ρ S3 with
   |fail=>rw[zc]at h2;exact h2.elim
   |exc n S4=>
    rw[zc]at h2;intro q4 H4 st4 s4;exact h2 q4 H4 (st3.trans st4) s4
   |ok v S4=>
    rw[zc]at h2;intro q4 H4 v' st4 s4 r4;refine oI (cl:=cl) (E:=E) hf' s4 (st4.repA ry) r4 ?_;exact aU.mono h2 (st3.trans st4)
  .have:w=.bl false:=xO r3 rfl
   subst this;refine⟨false,rfl,?_⟩;show Q (.bl false) H3;exact h2 q3 H3 _ st3 s3 (by show aP X.K q3.c H3 _ _;unfold aP;rfl)
  .exact h2.elim
theorem Ve{x:Str}:∀c H,aP K c H (.str x) (.str x):=λc H=>pA x
end
section
variable{K:aa}{cl:Str->Addr}{E:XK}{X:Cx}{e a:ae}{ma me:ME}{p q:Ph}{H:Hp}{S:aL}
variable{k:Nat}{f:Addr}{x:Str}{pos:ai}{c n:Str}{i:Nat}
variable(K cl X)
def zE(e:ae)(m:ME):Prop:=X.K=K->mP X e λE=>tP K cl E (bI K) m
variable{K cl X}
def Va(ma me:ME):ME:=λρ S=>(iT (ma ρ S)).bind λu S1=>(me ρ S1).bind λv S2=>qL bU [u,v] S2
theorem mP.imp{te te':XK->TE}(h:mP X e te)(i:∀E σ H Q,te' E σ H Q->te E σ H Q):mP X e te':=λAL s σ H Q E Ex I q hx=>h AL s σ H Q E Ex I (i E σ H Q q) hx
theorem W0{x1}(hxe:X.xe=λ_ _=>False)(ha:aI K cl E0 X a ma)(he:zE K cl X e me)
  (hs:starEach [a,e] X.env=[(false,eval a X.env),(false,eval e X.env)]:=by rfl):zE K cl X (.Tuple [a,e] x1 pos) (Va ma me):=by
 intro hK;refine mP.imp (N1 hxe (ha hK) (he hK) hs) ?_
 rintro E σ H Q ⟨p,S,ρ,s,ev,h⟩
 refine⟨p,S,ρ,s,ev,?_⟩;unfold Va at h;cases z:ma ρ S with
 |exc m S1=>rw[z]at h;exact h.elim
 |fail=>rw[z]at h;exact h.elim
 |ok u S1=>
  rw[z]at h;have h:aU K cl (bI K) p H ((me ρ S1).bind λv S2=>qL bU [u,v] S2) Q E:=h;intro q H1 u' st sm r;refine⟨q,S1,ρ,sm,st.repE ev,?_⟩;cases z2:me ρ S1 with
  |fail=>rw[z2]at h;exact h.elim
  |exc n S2=>
   rw[z2]at h;intro q2 H2 st2 sm2;exact h q2 H2 (st.trans st2) sm2
  |ok v S2=>
   rw[z2]at h;have h:aU K cl (bI K) p H (qL bU [u,v] S2) Q E:=h;intro q2 H2 v' st2 sm2 r2 t ht;have h:=aU.mono h (st.trans st2);refine Je (r:=λxs H Q=>xs.length<=sizeLine/\∀t,H t=none->Q (.ref t) (aN H t (.tup xs))) (f:=bU) (λ{p S H as c xs Q} s r e k=>?_) sm2 (.cons (st2.repA r) (.cons r2 .nil)) h |>.2 t ht;unfold bU at e;split at e
   .rename_i hl
    cases e;rw[r.length,<-fG]at hl;exact⟨hl,λt ht=>k _ _ (eP ht) (oM s r hl ht)⟩
   .cases e
theorem Mm{c:Addr->Prop}:∀{vs:AH},(∀v∈vs,uN v=true)->aM K c H vs (vs.map rO)
 |[],_=>.nil
 |v::vs,h=>.cons (iO (h v ce)) (Mm λu hu=>h u (cu _ hu))
theorem bR.setT{ρ:bJ}{σ:St}(s:aO K p S H)(ev:bR K p H ρ σ){t:Addr}(ht:H t=none){vs:AH}(fl:∀v∈vs,uN v=true)(hl:vs.length<=sizeLine)(i:Nat):bR K p (aN H t (.tup (vs.map rO))) (ρ.set i (some (.pv (.tup vs)))) (σ.set i (some (.ref t))):=
 ((s.same (eP ht)).repE ev).set (v:=.pv (.tup vs)) (x:=.ref t) (oM s (Mm fl) (by rw[bh];exact hl) ht) i
end
section
variable{K:aa}{cl:Str->Addr}{E:XK}{X:Cx}{a b:ae}{ma mb:ME}{pos:ai}
def pG:PV->PV->AI
 |.str x,.int i=>if x.length<=16777216 then(fL x.cps.toList i).map λc=>.str ⟨#[c]⟩ else none
 |_,_=>none
theorem ab2:eG K Eh pG:=λ{p S H a b c x y Q} s ra rb e k=>by
 unfold pG at e;split at e
 .rename_i z i
  split at e
  .rename_i hz
   rw[<-fG]at hz;cases w:fL z.cps.toList i with
   |none=>rw[w]at e;cases e
   |some d=>
    rw[w]at e;cases e;exact⟨z,i,d,ra.str,rb.int,hz,w,k H _ (bX.refl H) (pA _)⟩
  .cases e
 .cases e
theorem Y3(ha:aI K cl E X a ma)(hb:aI K cl E X b mb)(hs:Ef b:=by intro _ _;rfl):aI K cl E X (.Subscript a b pos) (aE pG ma mb):=by
 intro hK;subst hK;refine(Hs Er (ha rfl) (hb rfl) hs).imp ?_
 rintro σ H Q ⟨p,S,ρ,s,e,h⟩
 exact aY s e h λq H1 a x S1 st s1 e1 r1 h1=>aY s1 e1 h1 λq2 H2 b y S2 st2 s2 e2 r2 h2=>oI ab2 s2 (st2.repA r1) r2 h2
theorem Q5{m:ME}{σ:St}{H:Hp}{Q:VK}(z:tP X.K cl E (bI X.K) (fA qY m) σ H Q):Gu (tP X.K cl E (bI X.K) m) σ H Q:=by
 obtain⟨p,S,ρ,s,ev,h⟩:=z;refine aY s ev h λq H' as x S' stp sm ev r k=>?_;refine Sl (r:=λx H Q=>Q (.bl (decide (x=.non))) H) (f:=qY) (λ{p S H a c x Q} s ra e k=>?_) sm r k;have z:c=.bl (decide (x=.non)):=by
  cases a with
  |non=>cases ra.non;cases e;rfl
  |int i=>cases ra.int;cases e;rfl
  |bl i=>cases ra.bl;cases e;rfl
  |str i=>cases ra.str;cases e;rfl
  |tup xs=>obtain⟨a,vs,rfl,_⟩:=ra.tup;cases e;rfl
  |lst xs=>obtain⟨a,vs,rfl,_⟩:=ra.lst;cases e;rfl
  |dct ns fs=>obtain⟨a,_,rfl,_⟩:=ra.dct;cases e;rfl
 subst z;exact k H _ (bX.refl H) (by unfold aP;rfl)
theorem Y7   (ha:aI K cl E X a m):cR K cl E X (.Compare a [.Is] [.Constant .none j pos'] pos) (aV (fA qY m)):=by
 intro hK;subst hK;refine(Ka (Mq (ha rfl))).imp ?_
 rintro σ H Q ⟨p,S,ρ,s,e,h⟩
 have z:tP _ _ E (bI _) _ _ H _:=aY s e h λq H1 a x S1 st s1 e1 r1 h1=>Le s1 r1 h1;exact Q5 z
end
section
variable{K:aa}{cl:Str->Addr}{E:XK}{X:Cx}{a e:ae}{m:ME}{ms:MA}{c:Str}
def lX:AH->Option (List Str)
 |[]=>some []
 |.str x::r=>match lX r with
  |some xs=>some (x::xs)
  |none=>none
 |_=>none
theorem Ml{c:Addr->Prop}{H:Hp}:∀{xs:AH}{ts:List Str}{vs:List V},lX xs=some ts->aM K c H xs vs->vs=ts.map V.str
 |[],ts,vs,e,r=>by
  unfold aM at r;cases e;exact r
 |x::xs,ts,vs,e,r=>by
  unfold aM at r;obtain⟨v,r1,rfl,h,t⟩:=r;unfold lX at e;split at e
  .rename_i he;cases he
  .rename_i y r' he
   cases he;split at e
   .rename_i ys hy
    cases e;unfold aP at h;rw[h,Ml hy t];rfl
   .cases e
  .cases e
theorem Qn:∀{ts:List Str}{its:AD},aS (ts.map V.str) its->∃l:List (Str×bg),its=strValues l/\l.map (·.1)=ts
 |[],_,.nil=>⟨[],rfl,rfl⟩
 |t::ts,_,.cons r v=>by
  obtain⟨tk,rfl⟩:=r;obtain⟨l,rfl,rfl⟩:=Qn v;exact⟨(t,tk)::l,rfl,rfl⟩
theorem Q4:Vh X "str.join" (λx vs H Q=>∃(z:Str)(a:Addr)(ts:List Str),x=.str z/\vs=[.ref a]/\bL X.K H a (ts.map V.str)/\jb z ts=true/\Q (.str (kb z ts)) H):=by
 intro AL s σ H x vs v us Q I rx rv h;obtain⟨z,a,ts,rfl,rfl,hq,hj,q⟩:=h;obtain⟨t,rfl⟩:=rx;obtain⟨u,rfl,ru⟩:=rv.one;cases ru;obtain⟨its,r,pl,hz⟩:=I.list hq;obtain⟨l,rfl,hl⟩:=Qn r;exact SC.join pl.isList hl hj λt' k=>⟨.str _,H,I.tok _,⟨_,rfl⟩,q⟩
def qM(z:Str):AH->AI
 |[.lst xs]=>match lX xs with
  |some ts=>if jb z ts=true then some (.str (kb z ts))else none
  |none=>none
 |_=>none
theorem Iy{z:Str}{as:AH}{c:PV}(h:qM z as=some c):∃zs ts,as=[.lst zs]/\lX zs=some ts/\jb z ts=true/\c=.str (kb z ts):=by
 unfold qM at h;split at h
 .rename_i zs
  cases w:lX zs with
  |none=>rw[w]at h;cases h
  |some ts=>
   rw[w]at h;dsimp only at h;split at h
   .rename_i hj
    cases h;exact⟨zs,ts,rfl,w,hj,rfl⟩
   .cases h
 .cases h
def kE(m:ME)(ms:MA):ME:=λρ S=>(m ρ S).bind λk S1=>pF k λx=>(ms ρ S1).bind λys S2=>gA ((iR S2 ys).bind (qM x)) S2
theorem U3{apos cpos:ai}(ho:aI K cl E X a m)(ha:cM K cl E X [e] ms)(hbase:attributeBase a "join" X.env (eval a X.env)=eval a X.env:=by rfl)
  (hfew:((backTo cpos (starEach [e] X.env)).all (λx=>!x.1)&&(backToKw cpos (keywordEach [] X.env)).all (λx=>x.1.isSome)&&decide (([e]:List ae).length+([]:List fk).length+(if([]:List fk).isEmpty then 0 else 1)<30))=true:=by rfl)
  (hline:(apos.endLine==cpos.line)=true:=by rfl)(hs:starEach [e] X.env=[(false,eval e X.env)]:=by rfl):aI K cl E X (.Call (.Attribute a "join" apos) [e] [] cpos) (kE m ms):=by
 intro hK;subst hK;refine PE.imp (xV zz PySem.F.slot_str_join PySem.F.type_str_join Q4 (ho rfl) (ha rfl) hbase hfew hline hs rfl) ?_
 rintro σ H Q ⟨p,S,ρ,s,ev,h⟩
 refine aY s ev h λq H1 k x S1 st s1 e1 r1 h1=>?_;unfold pF at h1;split at h1
 .rename_i z
  have ex:=(show cY X.K q H1 (.str z) x from .inl r1).str;subst ex;refine⟨rfl,aY s1 e1 h1 λq2 H2 ys xs S2 st2 s2 e2 r2 h2=>?_⟩;obtain⟨c,ec,kk⟩:=mY s2 h2;cases y:iR S2 ys with
  |none=>rw[y]at ec;cases ec
  |some as=>
   rw[y]at ec;have rr:=Be s2 r2 y;have ec:qM z as=some c:=ec;obtain⟨zs,ts,rfl,w,hj,rfl⟩:=Iy ec;cases rr with
   |cons h t=>
    cases t;obtain⟨b0,ws,rfl,sq,lw,rw0⟩:=h.lst;rw[Ml w rw0]at sq;exact⟨z,b0,ts,rfl,rfl,sq,hj,kk H2 _ (bX.refl H2) (pA _)⟩
 .exact h1.elim
end
section
variable{M:gg}{A:aj}{E:Value->Shared->Prop}{s:Shared}{env:Env}
def Jl(u:Value->bt Unit)(M:gg)(A:aj)(E:Value->Shared->Prop)(Q:Value->Shared->Prop)(acc:Value)(c:Env):im->Shared->Prop
 |.ok _,s'=>wpAny M A (u acc) (λ_ s''=>∃m,s''.heap.Ns c.locals m/\∀h',eg c.locals s''.heap h'->Q .none {s'' with heap:=h'}) E s'
 |.error x,s'=>∃m,s'.heap.Ns c.locals m/\∀h',eg c.locals s'.heap h'->wpAny M A (qi "comprehension.variables-let-go" x c:bt Value) (λ_ _=>False) E {s' with heap:=h'}
theorem Nz{u:Value->bt Unit}{e:ae}{sc:Scope}{pos:ai}{newAcc first:bt Value}{g:qj}{gs:List qj}{cl:List (Str×Addr)}{Q:Value->Shared->Prop}
  (hc:clausesOf e=g::gs)(hs:∀x,foldedSetIterable g.iter env x=pure x)(hcl:closureFor sc env=pure cl)(hk:sc.kind=.function)(hn:∀x∈sc.names,x.2=.local->sc.names.lookup x.1=some .local)
  (h:wpAny M A first (λx s1=>wpAny M A (pyIter x) (λit s2=>wpAny M A newAcc (λacc s3=>wpAny M A (newFunctionEnv sc env.globals cl [] env.qual none .none (some env)) (λc s4=>
    codeAny M A (.compStart e 0 it acc {c with scope:=relabel sc env}) (Jl u M A E Q acc {c with scope:=relabel sc env}) s4) E s3) E s2) E s1) E s):
  wpAny M A (comprehension e sc env pos newAcc false first (some u)) Q E s:=by
 unfold comprehension;rw[hcl,hc];refine ag (aR h λx s1 h1=>ag (jp (ag (ut (hs x) (ag (dh (aR h1 λit s2 h2=>?_)))))));refine wpAny_standIf (ag (aR h2 λacc s3 h3=>ag (aq (ag (aR h3 λc s4 h4=>?_)))));dsimp only;have loc:∀x∈(sc.names.filter λx=>(x.2== .local||x.2== .cell)&&x.1 !=(".0":Str)).reverse,x.2=.local->vw {c with scope:=relabel sc env} x.1=some .local:=λx hx hl=>
  zv (hn x (oa.mp (zw.mp hx)).1 hl)
 have loc':∀x∈(sc.names.filter λx=>(x.2== .local||x.2== .cell)&&x.1 !=(".0":Str)).reverse.drop 1++(sc.names.filter λx=>(x.2== .local||x.2== .cell)&&x.1 !=(".0":Str)).reverse.take 1,x.2=.local->vw {c with scope:=relabel sc env} x.1=some .local:=λx hx hl=>by
  rcases cf.mp hx with h1 |h1
  .exact loc x (b5 h1) hl
  .exact loc x (wd h1) hl
 refine dh (ag (mq (dh (wpAny_run (iq h4 λr s' hr=>?_)))));cases r with
 |ok f=>
  refine ag (pj (ag (dh (bv hr (λ_ s'' hr'=>?_) λ_ _ h'=>h'))));obtain⟨m,hm,hr'⟩:=hr';exact ag (qk (cenv:={c with scope:=relabel sc env}) hk _ s'' m loc' hm λh' _ _ sb=>aq (hr' h' sb))
 |error x=>
  obtain⟨m,hm,hr⟩:=hr;exact ag (dh (qk (cenv:={c with scope:=relabel sc env}) hk _ s' m loc hm λh' _ _ sb=>bv (hr h' sb) (λ_ _ z=>z.elim) λ_ _ y=>y))
end
end L2.Pp
namespace L2
open PySem PySem.Spec PyProof.Rows Bn L2.Pp
section
variable{P:Program}{w:ah}{K:aa}{mg:Str->AE}{base:Heap}{N:List Str}{qual:Str}{scope:Scope}{f:Addr}{cd:Value}{A:aj}{outer:List Env}{AM:Shared}{AN:Hp}{E:XK}
variable{sc:Scope}{own:List Str}{cap:List (Nat×Str)}{AL:List (Addr×Obj)}{σ:St}{H:Hp}{s:Shared}{elt target iter:ae}{pos pos':ai}{wi:TI}{g:TG}{te:TE}{Q:VK}
theorem Yw{u:Value->bt Unit}{Qf:Value->Shared->Prop}(k:gK (aK (aJ P w) P w K mg base N qual scope f cd A outer AM AN E) sc own cap)(hi:PI (aK (aJ P w) P w K mg base N qual scope f cd A outer AM AN E) target iter wi)(hc:(aK (aJ P w) P w K mg base N qual scope f cd A outer AM AN E).calm=true)
  (hg:∀C AO H₁ ex,PG (bW (aK (aJ P w) P w K mg base N qual scope f cd A outer AM AN E) sc (bZ own cap) C AO H₁ ex) target g)(he:∀C AO H₁ ex E',fV (aJ P w) ((bW (aK (aJ P w) P w K mg base N qual scope f cd A outer AM AN E) sc (bZ own cap) C AO H₁ ex).wish E') E->PE ((bW (aK (aJ P w) P w K mg base N qual scope f cd A outer AM AN E) sc (bZ own cap) C AO H₁ ex).wish E') elt te)(I:aF (aK (aJ P w) P w K mg base N qual scope f cd A outer AM AN E) AL σ H s)(h:qP own cap wi g te σ H Q)
  (fin:∀D C s' H' m,aF (aK (aJ P w) P w K mg base N qual scope f cd A outer AM AN E) AL σ H' s'->eR (aK (aJ P w) P w K mg base N qual scope f cd A outer AM AN E) AL H' C->s'.heap.Ns C m->Q (.ref D) H'->wpAny (model (aK (aJ P w) P w K mg base N qual scope f cd A outer AM AN E).prog (aK (aJ P w) P w K mg base N qual scope f cd A outer AM AN E).w) (aK (aJ P w) P w K mg base N qual scope f cd A outer AM AN E).A (u (.ref D)) (λ_ s''=>∃m,s''.heap.Ns C m/\∀h',eg C s''.heap h'->Qf .none {s'' with heap:=h'}) (aK (aJ P w) P w K mg base N qual scope f cd A outer AM AN E).xe s')
  (hs:∀x,foldedSetIterable iter (aK (aJ P w) P w K mg base N qual scope f cd A outer AM AN E).env x=pure x):
  wpAny (model (aK (aJ P w) P w K mg base N qual scope f cd A outer AM AN E).prog (aK (aJ P w) P w K mg base N qual scope f cd A outer AM AN E).w) (aK (aJ P w) P w K mg base N qual scope f cd A outer AM AN E).A (comprehension (.ListComp elt [⟨target,iter,[],0⟩] sc pos) sc (aK (aJ P w) P w K mg base N qual scope f cd A outer AM AN E).env pos' (newList []) false (eval iter (aK (aJ P w) P w K mg base N qual scope f cd A outer AM AN E).env) (some u)) Qf (aK (aJ P w) P w K mg base N qual scope f cd A outer AM AN E).xe s:=by
 refine Nz (u:=u) rfl hs (Of (k.has I.ok)) k.kind k.names ?_;refine aR (hi AL s σ H _ I h) λv s1 h1=>aR h1 λitv s2 h2=>?_;obtain⟨it,fp,tn,J,H2,e,I2,T,st2,f2,hW⟩:=h2;subst e;refine jw (um k.nocell (λy hy=>nomatch hy) (λh4 jP hsb=>?_) k.kind);have I3:aF (aK (aJ P w) P w K mg base N qual scope f cd A outer AM AN E) AL σ (aN H2 s2.heap.objs.size (.lst [])) {s2 with heap:=s2.heap.push {cls:=.type "list",data:=.seq ([]:AD).toArray},toks:=s2.toks}:=I2.lnew (ys:=[]) (its:=[]) .nil (cg _);have hD:H2 s2.heap.objs.size=none:=I2.fresh;have ltf:∀b∈fp,b<s2.heap.objs.size:=λb hb=>by
  obtain⟨o,ho,_⟩:=T.obj _ _ st2 b hb;exact au ho
 have f3:∀b∈fp,eR (aK (aJ P w) P w K mg base N qual scope f cd A outer AM AN E) AL (aN H2 s2.heap.objs.size (.lst [])) b:=λb hb=>⟨by rw[aX (bc (ltf b hb))];exact(f2 b hb).1,(f2 b hb).2⟩;have un:Un (bP (aK (aJ P w) P w K mg base N qual scope f cd A outer AM AN E).stack) fp H2 (aN H2 s2.heap.objs.size (.lst [])) s2.heap (s2.heap.push {cls:=.type "list",data:=.seq ([]:AD).toArray}):=Un.laid (λb u q=>ao _ q) (ak _) hD;have kp:∀b o,(s2.heap.push {cls:=.type "list",data:=.seq ([]:AD).toArray}).get? b=some o->h4.get? b=some o:=λb o q=>hsb.extBut b o (bc (au q)) (ao _ q);have J0:=I3.cmp (t':=s2.toks+([]:List (Str×Value)).length) k f3 (λb hb=>bj (ltf b hb) (by rw[gw];exact kr _)) jP kp;have stat:∀{H':Hp},(∀b∈fp,H' b=none)->∀b∈fp,eR (bW (aK (aJ P w) P w K mg base N qual scope f cd A outer AM AN E) sc (bZ own cap) (s2.heap.push {cls:=.type "list",data:=.seq ([]:AD).toArray}).objs.size {s2 with heap:=s2.heap.push {cls:=.type "list",data:=.seq ([]:AD).toArray},toks:=s2.toks} (aN H2 s2.heap.objs.size (.lst [])) fp) [] H' b:=λhn b hb=>
  ⟨hn b hb,(J0.ok.exf b hb).1,J0.ok.exfs b hb,.inl hb,(J0.ok.exf b hb).2,λp hp=>absurd (show p∈([]:List (Addr×Obj)) from hp) (by simp)⟩
 have st4:tn 0 h4:=T.keep _ _ _ st2 λb hb o q=>kp b o (ao _ q);have fr0:∀b∈fp,(aN H2 s2.heap.objs.size (.lst [])) b=none:=λb hb=>(f3 b hb).1;have hCf:(s2.heap.push {cls:=.type "list",data:=.seq ([]:AD).toArray}).objs.size∉bP (aK (aJ P w) P w K mg base N qual scope f cd A outer AM AN E).stack:=λhb=>by
  obtain⟨_,o,ho,hd⟩:=I3.stack.mem hb;exact dz _ (au ho)
 have hC0:∀o,AM.heap.get? (s2.heap.push {cls:=.type "list",data:=.seq ([]:AD).toArray}).objs.size≠some o:=λo ho=>by
  obtain⟨m,⟨oL,_,_,hoL,_⟩,_⟩:=id I3.loc;exact dz _ (oz (bj (au ho) I3.ok.above) (au hoL))
 have loop:codeAny (model (aK (aJ P w) P w K mg base N qual scope f cd A outer AM AN E).prog (aK (aJ P w) P w K mg base N qual scope f cd A outer AM AN E).w) (aK (aJ P w) P w K mg base N qual scope f cd A outer AM AN E).A (.compLoop (.ListComp elt [⟨target,iter,[],0⟩] sc pos) 0 (.ref it) (.ref s2.heap.objs.size) (compEnvC sc (iU (aK (aJ P w) P w K mg base N qual scope f cd A outer AM AN E).env sc.names []) (s2.heap.push {cls:=.type "list",data:=.seq ([]:AD).toArray}).objs.size (aK (aJ P w) P w K mg base N qual scope f cd A outer AM AN E).env))
   (Jl u (model (aK (aJ P w) P w K mg base N qual scope f cd A outer AM AN E).prog (aK (aJ P w) P w K mg base N qual scope f cd A outer AM AN E).w) (aK (aJ P w) P w K mg base N qual scope f cd A outer AM AN E).A (aK (aJ P w) P w K mg base N qual scope f cd A outer AM AN E).xe Qf (.ref s2.heap.objs.size) (compEnvC sc (iU (aK (aJ P w) P w K mg base N qual scope f cd A outer AM AN E).env sc.names []) (s2.heap.push {cls:=.type "list",data:=.seq ([]:AD).toArray}).objs.size (aK (aJ P w) P w K mg base N qual scope f cd A outer AM AN E).env)) {s2 with heap:=h4,toks:=s2.toks+([]:List (Str×Value)).length}:=by
  obtain⟨W,⟨m0,w0⟩,turn⟩:=hW s2.heap.objs.size hD;refine So (λn s'=>∃i σ' H' ys,aF (bW (aK (aJ P w) P w K mg base N qual scope f cd A outer AM AN E) sc (bZ own cap) (s2.heap.push {cls:=.type "list",data:=.seq ([]:AD).toArray}).objs.size {s2 with heap:=s2.heap.push {cls:=.type "list",data:=.seq ([]:AD).toArray},toks:=s2.toks} (aN H2 s2.heap.objs.size (.lst [])) fp) [] σ' H' s'/\tn i s'.heap/\(∀b∈fp,H' b=none)/\W i n σ' H' ys) ?_ m0
   ⟨0,_,_,[],J0,st4,fr0,w0⟩
  rintro n s5 ⟨i,σ5,H5,ys,I5,st5,fr5,w5⟩
  obtain⟨eA,w5⟩:=turn i n σ5 H5 ys w5;rcases w5 with⟨stop,qn⟩|⟨go,hlt,step⟩
  .refine aR (T.done (bW (aK (aJ P w) P w K mg base N qual scope f cd A outer AM AN E) sc (bZ own cap) (s2.heap.push {cls:=.type "list",data:=.seq ([]:AD).toArray}).objs.size {s2 with heap:=s2.heap.push {cls:=.type "list",data:=.seq ([]:AD).toArray},toks:=s2.toks} (aN H2 s2.heap.objs.size (.lst [])) fp) rfl rfl rfl hc i [] s5 σ5 H5 _ I5 (stat fr5) st5 stop) ?_
   rintro r s6 ⟨hr,I6⟩
   subst hr;obtain⟨m,hn,_⟩:=id I6.loc;exact fin _ _ s6 H5 m (I2.uncmp (s3:={s2 with heap:=s2.heap.push {cls:=.type "list",data:=.seq ([]:AD).toArray},toks:=s2.toks}) f2 un rfl I6) (I3.fpOk (ak _) I6.free) hn qn
  .refine aR (T.item (bW (aK (aJ P w) P w K mg base N qual scope f cd A outer AM AN E) sc (bZ own cap) (s2.heap.push {cls:=.type "list",data:=.seq ([]:AD).toArray}).objs.size {s2 with heap:=s2.heap.push {cls:=.type "list",data:=.seq ([]:AD).toArray},toks:=s2.toks} (aN H2 s2.heap.objs.size (.lst [])) fp) rfl rfl rfl hc i [] s5 σ5 H5 _ I5 (stat fr5) st5 go) ?_
   rintro r s6 ⟨u,hr,h6⟩
   subst hr;refine aR h6 ?_
   rintro _ s7 ⟨x,H7,I7,r7,y7,st7,fr7⟩
   have I7':=I7.pinned (stat fr7) (T.obj _ _ st7);refine aR (hg _ _ _ _ _ s7 σ5 H7 x u _ I7' r7 (step x H7 y7)) ?_
   rintro _ s8 ⟨σ8,H8,I8,q8⟩
   refine aR (he _ _ _ _ _ (Ur (Qf:=Qf) (acc:=.ref s2.heap.objs.size) (s3:={s2 with heap:=s2.heap.push {cls:=.type "list",data:=.seq ([]:AD).toArray},toks:=s2.toks}) I2 f2 un rfl (λH hH=>I3.fpOk (ak _) hH) hCf hC0) _ s8 σ8 H8 _ (I8.wish _) q8) ?_
   rintro v9 s9 ⟨y,H9,I9,r9,eK,m',hm,w9⟩
   have I9:=I9.unwish;refine aR (vW _ s9 σ8 H9 (.ref s2.heap.objs.size) [y] (.ref s2.heap.objs.size) [v9] (λ_ H'=>H'=aN H9 s2.heap.objs.size (.lst (ys++[y]))) I9 rfl (.cons r9 .nil) ⟨_,ys,y,rfl,rfl,eK,hlt,rfl⟩) ?_
   rintro _ s10 ⟨_,H10,I10,_,q10⟩
   subst q10;refine⟨m',hm,i+1,σ8,_,_,I10.unpinned,T.keep _ _ _ st7 λb hb o q=>(I10.pin (b,o) (ck _ (ck _ (oG hb q)))).1,λb hb=>?_,w9⟩;obtain⟨o,q,d⟩:=T.obj _ _ st7 b hb;exact(I10.pin (b,o) (ck _ (ck _ (oG hb q)))).2.1
 exact uo loop (T.self _ 0 _ _ _ st4 loop)
theorem G0{i:Nat}{x:Str}{py spos:ai}(hN:N.Nodup)(hx:N[i]?=some x)(hl:iJ (aK (aJ P w) P w K mg base N qual scope f cd A outer AM AN E).env.scope x)(k:gK (aK (aJ P w) P w K mg base N qual scope f cd A outer AM AN E) sc own cap)(hi:PI (aK (aJ P w) P w K mg base N qual scope f cd A outer AM AN E) target iter wi)(hc:(aK (aJ P w) P w K mg base N qual scope f cd A outer AM AN E).calm=true)
  (hg:∀C AO H₁ ex,PG (bW (aK (aJ P w) P w K mg base N qual scope f cd A outer AM AN E) sc (bZ own cap) C AO H₁ ex) target g)(he:∀C AO H₁ ex E',fV (aJ P w) ((bW (aK (aJ P w) P w K mg base N qual scope f cd A outer AM AN E) sc (bZ own cap) C AO H₁ ex).wish E') E->PE ((bW (aK (aJ P w) P w K mg base N qual scope f cd A outer AM AN E) sc (bZ own cap) C AO H₁ ex).wish E') elt te)
  (hs:∀x,foldedSetIterable iter (aK (aJ P w) P w K mg base N qual scope f cd A outer AM AN E).env x=pure x:=by intro _;rfl)(hsw:swapsWith (.ListComp elt [⟨target,iter,[],0⟩] sc pos) (some (.Name x py)) spos.line (aK (aJ P w) P w K mg base N qual scope f cd A outer AM AN E).env=pure true:=by rfl)
  (hf:(aK (aJ P w) P w K mg base N qual scope f cd A outer AM AN E).fn x=true\/(aK (aJ P w) P w K mg base N qual scope f cd A outer AM AN E).env.scope.names.lookup x=some .local:=by first |exact .inl rfl |exact .inr rfl |assumption):
  PS (aK (aJ P w) P w K mg base N qual scope f cd A outer AM AN E) (.Assign [.Name x py] (.ListComp elt [⟨target,iter,[],0⟩] sc pos) spos) (Jc (qP own cap wi g te) (Xa i)):=by
 intro AL s σ H D I h;rw[yb _ _ _ _ hsw];refine ag (jp (ag ?_));show wpAny _ (aK (aJ P w) P w K mg base N qual scope f cd A outer AM AN E).A (comprehension (.ListComp elt [⟨target,iter,[],0⟩] sc pos) sc (aK (aJ P w) P w K mg base N qual scope f cd A outer AM AN E).env _ (newList []) false (eval iter (aK (aJ P w) P w K mg base N qual scope f cd A outer AM AN E).env) (some (assign (.Name x py) (aK (aJ P w) P w K mg base N qual scope f cd A outer AM AN E).env)) >>= λ_=>pure ()) _ _ s;refine ag (aR (Yw (u:=assign (.Name x py) (aK (aJ P w) P w K mg base N qual scope f cd A outer AM AN E).env) (Qf:=λ_ s'=>SP (aK (aJ P w) P w K mg base N qual scope f cd A outer AM AN E) AL D .next s') k hi hc hg he I h (λB C s' H' m I' fC hn q=>?_) hs) λ_ s' hq=>aq (aq hq))
 show wpAny _ _ (assign (.Name x py) (aK (aJ P w) P w K mg base N qual scope f cd A outer AM AN E).env (.ref B)) _ _ s';obtain⟨o,es,ep,ho,hd,r⟩:=hn;obtain⟨f0,f1,f2,f3,f4,f5⟩:=fC;have I'':aF (aK (aJ P w) P w K mg base N qual scope f cd A outer AM AN E) (AL++[(C,o)]) σ H' s':=I'.pins_of λp hp=>(cf.mp hp).elim (λz=>I'.pin p (ck _ z)) λz=>by
  have e:p=(C,o):=by simpa using z
  subst e;exact⟨ho,f0,f1,f2,λv z=>by rw[hd]at z;cases z⟩
 refine sr (tT I'' hN hx hl (v:=.ref B) rfl (λs2 I2=>?_) hf);have pC:=I2.pin (C,o) (by simp);refine⟨m,⟨o,es,ep,pC.1,hd,r⟩,λh' sb=>⟨_,H',?_,q⟩⟩;exact(I2.unpinned).turned (t':=s2.toks) (λb o hb e=>(sb.2 b hb).trans e) f0 f1 f3 f4 f5
end
end L2
namespace L2.Pp
open PySem PySem.Spec PyProof.Rows Bn
section
variable{P:Program}{w:ah}{K:aa}{mg:Str->AE}{base:Heap}{N:List Str}{qual:Str}{scope:Scope}{f:Addr}{cd:Value}{A:aj}{outer:List Env}{AM:Shared}{AN:Hp}{E:XK}{cl:Str->Addr}
variable{sc:Scope}{own:List Str}{cap:List (Nat×Str)}{elt target iter:ae}{pos:ai}{mi:MI}{g:GM}{me:ME}
theorem A0{i:Nat}{x:Str}{py spos:ai}(hN:N.Nodup)(hx:N[i]?=some x)(hl:iJ (aK (aJ P w) P w K mg base N qual scope f cd A outer AM AN E).env.scope x)(k:gK (aK (aJ P w) P w K mg base N qual scope f cd A outer AM AN E) sc own cap)(hi:iA K cl E (aK (aJ P w) P w K mg base N qual scope f cd A outer AM AN E) target iter mi)(hc:(aK (aJ P w) P w K mg base N qual scope f cd A outer AM AN E).calm=true)(hg:∀C AO H₁ ex,kS K (bW (aK (aJ P w) P w K mg base N qual scope f cd A outer AM AN E) sc (bZ own cap) C AO H₁ ex) target g)(he:∀C AO H₁ ex E',fV (aJ P w) ((bW (aK (aJ P w) P w K mg base N qual scope f cd A outer AM AN E) sc (bZ own cap) C AO H₁ ex).wish E') E->aI K cl E ((bW (aK (aJ P w) P w K mg base N qual scope f cd A outer AM AN E) sc (bZ own cap) C AO H₁ ex).wish E') elt me)
  (hs:∀x,foldedSetIterable iter (aK (aJ P w) P w K mg base N qual scope f cd A outer AM AN E).env x=pure x:=by intro _;rfl)(hsw:swapsWith (.ListComp elt [⟨target,iter,[],0⟩] sc pos) (some (.Name x py)) spos.line (aK (aJ P w) P w K mg base N qual scope f cd A outer AM AN E).env=pure true:=by rfl)
  (hf:(aK (aJ P w) P w K mg base N qual scope f cd A outer AM AN E).fn x=true\/(aK (aJ P w) P w K mg base N qual scope f cd A outer AM AN E).env.scope.names.lookup x=some .local:=by first |exact .inl rfl |exact .inr rfl |assumption):
  cL K cl E (aK (aJ P w) P w K mg base N qual scope f cd A outer AM AN E) (.Assign [.Name x py] (.ListComp elt [⟨target,iter,[],0⟩] sc pos) spos) (aW i (iQ own cap mi g me)):=by
 intro hK;refine PS.imp (G0 hN hx hl k (hi hK) hc (λC AO H₁ ex=>hg C AO H₁ ex hK) (λC AO H₁ ex E' ps=>he C AO H₁ ex E' ps hK) hs hsw hf) ?_
 rintro D σ H ⟨p,S,ρ,s,ev,h⟩
 have h2:tP K cl E (bI K) (iQ own cap mi g me) σ H λy H1=>D.nx (σ.set i (some y)) H1:=by
  refine⟨p,S,ρ,s,ev,?_⟩;unfold aW at h;cases z:iQ own cap mi g me ρ S with
  |ok v S1=>
   rw[z]at h;exact λq H' y st sm r=>h q H' _ st sm ((st.repE ev).set r i)
  |exc n S1=>rw[z]at h;exact h
  |fail=>rw[z]at h;exact h
 obtain⟨p,S,ρ,s,ev,h⟩:=h2;exact aY s ev h λq H' xs J S' stp sm ev it kk D hD=>Wk sm ev it kk hD
end
theorem n1{n i:Nat}{P:Prop}(h:i<n)(p:P):∃m',m'<n-i/\(m'=n-(i+1)/\i+1<=n/\P):=⟨n-(i+1),by omega,rfl,h,p⟩
end L2.Pp
namespace L2
open PySem PySem.Spec PyProof.Rows Bn
open L2.Pp
section
variable{X:Cx}{H:Hp}{c:Addr->Prop}
theorem Kf:∀{ps:AH}{vs:List V}{i:Nat}{v:V},aM X.K c H ps vs->vs[i]?=some v->∃p,ps[i]?=some p/\aP X.K c H p v:=λ{ps vs i v} r e=>by
 have hi:i<ps.length:=by
  rw[r.length];exact(cq.mp e).1
 obtain⟨u,e1,e2⟩:=r.get (ba hi)
 simp_all
end
end L2
namespace L2.Pp
open PySem PySem.Spec PyProof.Rows Bn
section
variable{K:aa}{p:Ph}{H:Hp}{S:aL}{a b e o:ae}
theorem aO.writeO(s:aO K p S H){D:Addr}{k:Nat}{o:SO}{ho:HO}(h:p.f[k]?=some D)(hk:k<S.length)(mo:Mb ho)(ob:aZ p H p (aN H D ho)->rE K p (aN H D ho) D o):aZ p H p (aN H D ho)/\aO K p (S.set k o) (aN H D ho):=by
 have w:=s.sub D (de h);have st:aZ p H p (aN H D ho):=⟨s.wc,s.mu,jk,λ_ h=>h,λ_ h=>h,λ_ h g=>absurd h g,λ_ h g=>absurd h g,λ_ h g=>absurd h g,λa u e nw=>by
  rw[aX (λz=>nw (by rw[z];exact w))];exact e⟩
 refine⟨st,s.nd,by rw[gm];exact s.len,s.sub,s.wc,λa x=>?_,λj a u e1 e2=>?_⟩
 .by_cases z:a=D
  .rw[z,cD]
   exact⟨ho,rfl,mo⟩
  .rw[aX z]
   exact s.mu a x
 .by_cases hj:k=j
  .simp_all
  .rw[fj hj]at e2
   have ne:a≠D:=λz=>hj (nodup_idx s.nd h (by rw[z]at e1;exact e1));exact(s.obj j a u e1 e2).mono (λvs e=>by rw[aX ne];exact e) (λb w f=>⟨⟨w,f⟩,λvs e=>by rw[aX (λz:b=D=>f (z▸de h))];exact e⟩) λ_ _ r=>st.reps r
end
section
variable{P:Program}{w:ah}{K:aa}{mg:Str->AE}{base:Heap}{cl:Str->Addr}{x qual:Str}{f:Addr}{N ps:List Str}{k n:Nat}{b:MS}
variable{so sc:Scope}{own:List Str}{cap:List (Nat×Str)}{cd:Value}{A:aj}{outer:List Env}{s:Shared}{H:Hp}{E:XK}{C:Addr}
theorem yA(a:sc.kind=.function:=by rfl)(b:∀y∈sc.names,y.2=.local->sc.names.lookup y.1=some .local:=by decide+kernel)(c:∀y∈sc.names,y.2≠.cell:=by decide+kernel)(d:∀y∈sc.names,y.2=.free->so.names.lookup y.1=some .cell:=by decide+kernel)(e:∀p∈cap,N[p.1]?=some p.2:=by decide+kernel)(g:∀p∈cap,sc.names.lookup p.2=some .free:=by decide+kernel):gK (aK dS P w K mg base N qual so f cd A outer s H E).nox sc own cap:=Uq so N rfl rfl a b c d e g
theorem cB{N ps:List Str}{sc:Scope}(a:sc.kind=.function:=by rfl)(b:sc.isCoroutine=false:=by rfl)(c:sc.isGenerator=false:=by rfl)(d:N.Nodup:=by decide+kernel)(e:N.take ps.length=ps:=by rfl)(f:∀x∈ps,sc.names.lookup x=some .local\/sc.names.lookup x=some .cell:=by decide+kernel)(g:∀y∈sc.names,y.2≠.free:=by decide+kernel):gY N ps sc:=⟨a,b,c,d,e,f,g⟩
def rD(P:Program)(w:ah)(K:aa)(mg:Str->AE)(base:Heap)(cl:Str->Addr)(x:Str)(k:Nat)(ps:List Str)(g:FM):Prop:=∃(a:Addr)(d:ay),bQ P w K mg base (aJ P w) k a d ps (jM K cl g)/\bQ P w K mg base dS k a d ps (kL K cl g)/\dD K d ps []/\bo K (.ref a)=true/\mg x=some (.ref a)
theorem Bh  {a:Addr}{d:ay}(G:bQ P w K mg base (aJ P w) k a d ps (jM K cl g))(b:dD K d ps [])(kp:bo K (.ref a)=true)(n:mg x=some (.ref a)):rD P w K mg base cl x k ps g:=⟨_,_,G,x0 G,b,kp,n⟩
theorem ab0     {pos p:ai}{k0:Nat}{g:FM}(C:rD X.prog X.w X.K X.mg X.base cl x k ps g)(hr:bG k0 X.A)(hk:k<=k0)(hg:Gl X x)(ha:cM X.K cl E0 X (e::es) ms)(hdb:(x==("__debug__":Str))=false:=by decide)(he:starEach (e::es) X.env=(false,eval e X.env)::starEach es X.env:=by rfl)(hpl:(backTo pos (starEach es X.env)).any (·.1)=false:=by rfl):
  aI X.K cl E0 X (.Call (.Name x p) (e::es) [] pos) (cW g [] ms):=by
 obtain⟨a,d,_,G,b,kk,n⟩:=C;exact Q3 G (hr.mono hk) hg n kk b .nil Dv.nil ha hdb he hpl
end
structure Bx where
 P:Program
 w:ah
 K:aa
 mg:Str->AE
 base:Heap
 cl:Str->Addr
abbrev fD(B:Bx)(x:Str)(k:Nat)(ps:List Str)(g:FM):Prop:=Yc B.P B.w B.K B.mg B.base B.cl x k ps g
abbrev gX(B:Bx)(x:Str)(k:Nat)(ps:List Str)(g:FM):Prop:=rD B.P B.w B.K B.mg B.base B.cl x k ps g
def HF(K:aa)(x:Str)(st:Stmt):Prop:=∃(f:Addr)(fd:ay),aw K mainGlobals x=some (some (.ref f))/\iN K x x st f fd
def XG(K:aa)(mg:Str->AE):Prop:=∃h:Heap,K.In h/\h.Ns mainGlobals mg
section
variable{B:Bx}{x:Str}{st:Stmt}{f:Addr}{fd:ay}{N ps:List Str}{k np n:Nat}{b:MS}
theorem Wq(X:XG B.K B.mg)(q:HF B.K x st):∃f fd,iN B.K x x st f fd/\bo B.K (.ref f)=true/\B.mg x=some (.ref f):=by
 obtain⟨f,fd,a,F⟩:=q;obtain⟨h,X,G⟩:=X;exact⟨f,fd,F,F.kp,cc X G a⟩
theorem acs{K:aa}{oc:Value}{od an:AF}{osl:Array AE}{kV doc pm cdv ct:Value}(a:aw K mainGlobals x=some (some (.ref f)))(l:K.lookup f=some ⟨oc,od,.func (br x x (dU st) (cG st) (bD st) .none kV doc pm an cdv ct),osl⟩)
  (c:gh K cdv x=true)(k:bo K (.ref f)=true):HF K x st:=⟨_,_,a,Wf l c k⟩
theorem Pu(F:iN B.K x x st f fd)(h:∀(kV doc pm:Value)(an:AF)(cdv ct:Value)(us:AD),us.length=ps.length->bindArgs (br x x (dU st) (cG st) (bD st) .none kV doc pm an cdv ct) ⟨us,[]⟩=pure (ps.zip us)):dD B.K fd ps []:=F.binds λkV doc pm an cdv ct us hl=>h _ _ _ _ _ _ _ hl
theorem fK(X:XG B.K B.mg)(q:HF B.K x st)(S:gY N ps (bD st))(hb:N.Nodup->∀(f:Addr)(cdv:Value)(A:aj)(outer:List Env)(s:Shared)(H:Hp)(E:XK),bG k (A.deeper (envOfC x (bD st) s.heap.objs.size f cdv))->eX B.K B.cl E0 (aK dS B.P B.w B.K B.mg B.base N x (bD st) f cdv A outer s H E).nox (cG st) b)(hnp:ps.length=np:=by rfl)(hn:N.length=n:=by rfl)
  (h:∀(kV doc pm:Value)(an:AF)(cdv ct:Value)(us:AD),us.length=ps.length->bindArgs (br x x (dU st) (cG st) (bD st) .none kV doc pm an cdv ct) ⟨us,[]⟩=pure (ps.zip us):=by intro _ _ _ _ _ _ us h;rcases us with _ |⟨_,_ |⟨_,_ |⟨_,_ |⟨_,_ |⟨_,_ |⟨_,_⟩⟩⟩⟩⟩⟩<;>first |(cases h;done) |rfl |(simp at h)):fD B x (k+1) ps (bH np n b):=by
 obtain⟨f,fd,F,kp,m⟩:=Wq X q;exact⟨f,fd,Oh F S hnp hn λcdv A outer s H E hr=>hb S.nd f _ A _ s H E hr,Pu F h,kp,m⟩
theorem jB(X:XG B.K B.mg)(q:HF B.K x st)(S:gY N ps (bD st))(hb:N.Nodup->∀(f:Addr)(cdv:Value)(A:aj)(outer:List Env)(s:Shared)(H:Hp)(E:XK),bG k (A.deeper (envOfC x (bD st) s.heap.objs.size f cdv))->eX B.K B.cl E (aK (aJ B.P B.w) B.P B.w B.K B.mg B.base N x (bD st) f cdv A outer s H E) (cG st) b)(hnp:ps.length=np:=by rfl)(hn:N.length=n:=by rfl)
  (h:∀(kV doc pm:Value)(an:AF)(cdv ct:Value)(us:AD),us.length=ps.length->bindArgs (br x x (dU st) (cG st) (bD st) .none kV doc pm an cdv ct) ⟨us,[]⟩=pure (ps.zip us):=by intro _ _ _ _ _ _ us h;rcases us with _ |⟨_,_ |⟨_,_ |⟨_,_ |⟨_,_ |⟨_,_ |⟨_,_⟩⟩⟩⟩⟩⟩<;>first |(cases h;done) |rfl |(simp at h)):gX B x (k+1) ps (bH np n b):=by
 obtain⟨f,fd,F,kp,m⟩:=Wq X q;exact Bh (okX F S hnp hn λcdv A outer s H E hr=>hb S.nd f _ A _ s H E hr) (Pu F h) kp m
theorem mkR(F:iN B.K x x st f fd)(S:gY N ps (bD st))(hb:N.Nodup->∀(f:Addr)(cdv:Value)(A:aj)(outer:List Env)(s:Shared)(H:Hp)(E:XK),bG k (A.deeper (envOfC x (bD st) s.heap.objs.size f cdv))->eX B.K B.cl E0 (aK dS B.P B.w B.K B.mg B.base N x (bD st) f cdv A outer s H E).nox (cG st) b)(hnp:ps.length=np:=by rfl)(hn:N.length=n:=by rfl):bQ B.P B.w B.K B.mg B.base dS (k+1) f fd ps (kL B.K B.cl (bH np n b)):=Oh F S hnp hn λcdv A outer s H E hr=>hb S.nd f _ A _ s H E hr
theorem Vt  (F:nV B.K x x st f fd dsv)(S:gY N ps (bD st))(hb:N.Nodup->∀(f:Addr)(cdv:Value)(A:aj)(outer:List Env)(s:Shared)(H:Hp)(E:XK),bG k (A.deeper (envOfC x (bD st) s.heap.objs.size f cdv))->eX B.K B.cl E (aK (aJ B.P B.w) B.P B.w B.K B.mg B.base N x (bD st) f cdv A outer s H E) (cG st) b)(hnp:ps.length=np:=by rfl)(hn:N.length=n:=by rfl):bQ B.P B.w B.K B.mg B.base (aJ B.P B.w) (k+1) f fd ps (jM B.K B.cl (bH np n b)):=ac1 F S hnp hn λcdv A outer s H E hr=>hb S.nd f _ A _ s H E hr
section
variable{P:Program}{w:ah}{K:aa}{mg:Str->AE}{base:Heap}{qual:Str}{so sc:Scope}{own:List Str}{cap:List (Nat×Str)}{cd:Value}{A:aj}{outer:List Env}{s:Shared}{H:Hp}{E:XK}
theorem xD(a:sc.kind=.function:=by rfl)(b:∀y∈sc.names,y.2=.local->sc.names.lookup y.1=some .local:=by decide+kernel)(c:∀y∈sc.names,y.2≠.cell:=by decide+kernel)(d:∀y∈sc.names,y.2=.free->so.names.lookup y.1=some .cell:=by decide+kernel)(e:∀p∈cap,N[p.1]?=some p.2:=by decide+kernel)(g:∀p∈cap,sc.names.lookup p.2=some .free:=by decide+kernel):gK (aK (aJ P w) P w K mg base N qual so f cd A outer s H E) sc own cap:=Uq so N rfl rfl a b c d e g
end
end
section
variable{P:Program}{w:ah}{K:aa}{mg:Str->AE}{base:Heap}{cl:Str->Addr}{E:XK}{x:Str}{k k0:Nat}{ps:List Str}{g:FM}{e:ae}{es:List ae}{ms:MA}{pos p:ai}
theorem ab7{N:List Str}{qual:Str}{scope:Scope}{fo:Addr}{cd:Value}{A:aj}{outer:List Env}{AM:Shared}{AN:Hp}(C:rD P w K mg base cl x k ps g)(hr:bG k0 (aK (aJ P w) P w K mg base N qual scope fo cd A outer AM AN E).A)(hk:k<=k0)(hg:Gl (aK (aJ P w) P w K mg base N qual scope fo cd A outer AM AN E) x)
  (ha:cM K cl E (aK (aJ P w) P w K mg base N qual scope fo cd A outer AM AN E) (e::es) ms)(hdb:(x==("__debug__":Str))=false:=by decide)
  (he:starEach (e::es) (aK (aJ P w) P w K mg base N qual scope fo cd A outer AM AN E).env=(false,eval e (aK (aJ P w) P w K mg base N qual scope fo cd A outer AM AN E).env)::starEach es (aK (aJ P w) P w K mg base N qual scope fo cd A outer AM AN E).env:=by rfl)
  (hpl:(backTo pos (starEach es (aK (aJ P w) P w K mg base N qual scope fo cd A outer AM AN E).env)).any (·.1)=false:=by rfl):
  aI K cl E (aK (aJ P w) P w K mg base N qual scope fo cd A outer AM AN E) (.Call (.Name x p) (e::es) [] pos) (cW g [] ms):=by
 obtain⟨a,d,GX,_,b,kk,n⟩:=C;exact E7 GX (hr.mono hk) hg n kk b .nil Dv.nil ha hdb he hpl
theorem acz{X:Cx}(hp:fV (aJ X.prog X.w) X E)(C:rD X.prog X.w X.K X.mg X.base cl x k ps g)(hr:bG k0 X.A)(hk:k<=k0)(hg:Gl X x)(ha:cM X.K cl E X (e::es) ms)(hdb:(x==("__debug__":Str))=false:=by decide)(he:starEach (e::es) X.env=(false,eval e X.env)::starEach es X.env:=by rfl)(hpl:(backTo pos (starEach es X.env)).any (·.1)=false:=by rfl):
  aI X.K cl E X (.Call (.Name x p) (e::es) [] pos) (cW g [] ms):=by
 obtain⟨a,d,GX,_,b,kk,n⟩:=C;exact J1 hp GX (hr.mono hk) hg n kk b .nil Dv.nil ha hdb he hpl
end
end L2.Pp
namespace L2
open PySem PySem.Spec PyProof.Rows Bn
section
open PySem.W (KasT kas_sort kas_asc kas_desc kas_rev kas_tail3 kas_descPart kas_count kas_place kas_bin)
def jI  (lt:Nat->Nat->Bool)(n:Nat):KasT α->(α->Prop)->Prop
 |.ret a,Q=>Q a
 |.ask i j k,Q=>i<n/\j<n/\jI lt n (k (lt i j)) Q
section
variable{lt:Nat->Nat->Bool}{n:Nat}
theorem tK  {f:α->KasT β}{Q:β->Prop}:∀(t:KasT α),jI lt n t (λa=>jI lt n (f a) Q)->jI lt n (t.bind f) Q
 |.ret _,h=>h
 |.ask i j k,h=>⟨h.1,h.2.1,tK _ h.2.2⟩
theorem oJ  {Q Q':α->Prop}(f:∀a,Q a->Q' a):∀(t:KasT α),jI lt n t Q->jI lt n t Q'
 |.ret a,h=>f a h
 |.ask i j k,h=>⟨h.1,h.2.1,oJ f _ h.2.2⟩
theorem Co  {cmp:Nat->Nat->(Bool->Shared->Prop)->Shared->Prop}{s:Shared}(hc:∀i j(C:Bool->Shared->Prop),i<n->j<n->C (lt i j) s->cmp i j C s){Q:α->Shared->Prop}:∀(t:KasT α),jI lt n t (λa=>Q a s)->t.kasWp cmp Q s
 |.ret _,h=>h
 |.ask i j k,h=>hc i j _ h.1 h.2.1 (Co hc _ h.2.2)
structure mO(lt:Nat->Nat->Bool)(n:Nat):Prop where
 tr:∀i j k,i<n->j<n->k<n->lt i j=true->lt j k=true->lt i k=true
 tot:∀i j,i<n->j<n->i≠j->lt i j=true\/lt j i=true
def eY(n:Nat)(p:Array Nat):Prop:=p.toList.Perm (ee n)
def Up(lt:Nat->Nat->Bool)(p:Array Nat)(m:Nat):Prop:=∀i j,i<j->j<m->lt (p.getD i 0) (p.getD j 0)=true
def Dn(lt:Nat->Nat->Bool)(p:Array Nat)(m:Nat):Prop:=∀i j,i<j->j<m->lt (p.getD j 0) (p.getD i 0)=true
theorem eY.size  (h:eY n p):p.size=n:=by
 have:=List.Perm.length_eq h;simpa using this
theorem gD{p:Array Nat}{k:Nat}(h:k<p.size):p.getD k 0=p[k]:=by simp_all
theorem gD?{p:Array Nat}{k:Nat}:p.getD k 0=(p[k]?).getD 0:=by simp_all
theorem eY.bd{p:Array Nat}(h:eY n p){k:Nat}(hk:k<n):p.getD k 0<n:=by
 have hs:k<p.size:=by rw[h.size];exact hk
 rw[gD hs];have:p[k]∈ee n:=List.Perm.subset h (by simp);simpa using this
theorem eY.ne{p:Array Nat}(h:eY n p){i j:Nat}(hi:i<n)(hj:j<n)(ne:i≠j):p.getD i 0≠p.getD j 0:=by
 have hi':i<p.size:=by rw[h.size];exact hi
 have hj':j<p.size:=by rw[h.size];exact hj
 rw[gD hi',gD hj'];intro e;have nd:p.toList.Nodup:=(List.Perm.nodup_iff h).mpr List.nodup_range;refine ne (Pp.nodup_idx nd (a:=p[i]) (by simp[hi']) ?_);rw[e];simp[hj']
theorem Uf(S:mO lt n){p:Array Nat}(hp:eY n p):∀f m,1<=m->m+f=n->Up lt p m->jI lt n (kas_asc p f m) (λr=>m<=r/\r<=n/\Up lt p r/\(r=n\/lt (p.getD r 0) (p.getD (r-1) 0)=true))
 |0,m,h1,h2,h3=>⟨ak _,by omega,h3,.inl (by omega)⟩
 |f+1,m,h1,h2,h3=>by
  refine⟨hp.bd (by omega),hp.bd (by omega),?_⟩;cases z:lt (p.getD m 0) _ with
  |true=>exact⟨ak _,by omega,h3,.inr z⟩
  |false=>
   refine oJ (λr ⟨a,b,c,d⟩=>⟨by omega,b,c,d⟩) _ (Uf S hp f (m+1) (by omega) (by omega) λi j hij hj=>?_)
   by_cases hjm:j<m
   .exact h3 i j hij hjm
   .have e:j=m:=by omega
    subst e;have l1:lt (p.getD (j-1) 0) (p.getD j 0)=true:=by
     rcases S.tot _ _ (hp.bd (show j-1<n by omega)) (hp.bd (show j<n by omega)) (hp.ne (by omega) (by omega) (by omega))with h |h
     .exact h
     .rw[z]at h;cases h
    by_cases hi:i=j-1
    .rw[hi];exact l1
    .exact S.tr _ _ _ (hp.bd (by omega)) (hp.bd (by omega)) (hp.bd (by omega)) (h3 i (j-1) (by omega) (by omega)) l1
theorem Qp(S:mO lt n){p:Array Nat}(hp:eY n p):∀f m,2<=m->m+f=n->Dn lt p m->jI lt n (kas_desc f p m 0) (λr=>r.1=p/\r.2.2=0/\2<=r.2.1/\r.2.1<=n/\Dn lt p r.2.1)
 |0,m,h1,h2,h3=>⟨rfl,rfl,h1,by show m<=n;omega,h3⟩
 |f+1,m,h1,h2,h3=>by
  refine⟨hp.bd (by omega),hp.bd (by omega),?_⟩;cases z:lt (p.getD m 0) (p.getD (m-1) 0)with
  |true=>
   refine Qp S hp f (m+1) (by omega) (by omega) λi j hij hj=>?_
   by_cases hjm:j<m
   .exact h3 i j hij hjm
   .have e:j=m:=by omega
    subst e
    by_cases hi:i=j-1
    .rw[hi];exact z
    .exact S.tr _ _ _ (hp.bd (by omega)) (hp.bd (by omega)) (hp.bd (by omega)) z (h3 i (j-1) (by omega) (by omega))
  |false=>
   have l1:lt (p.getD (m-1) 0) (p.getD m 0)=true:=by
    rcases S.tot _ _ (hp.bd (show m-1<n by omega)) (hp.bd (show m<n by omega)) (hp.ne (by omega) (by omega) (by omega))with h |h
    .exact h
    .rw[z]at h;cases h
   refine⟨hp.bd (by omega),hp.bd (by omega),?_⟩;rw[l1];exact⟨rfl,rfl,h1,by show m<=n;omega,h3⟩
theorem eY.of  (h:eY n p)(e:q.Perm p):eY n q:=(Array.Perm.toList e).trans h
theorem Gr  {m k:Nat}(hm:m<=p.size)(hk:k<m):(kas_rev p 0 m).getD k 0=p.getD (m-1-k) 0:=by
 unfold kas_rev;rw[gD?,gD?,getElem?_mirror_all hm,if_pos ⟨cg _,hk⟩,qx]
theorem N4(S:mO lt n){p:Array Nat}(hp:eY n p){m:Nat}(h1:1<=m)(h2:m<=n)(h3:Dn lt p m):jI lt n (kas_tail3 m n p) (λr=>1<=r.1/\r.1<=n/\eY n r.2/\Up lt r.2 r.1):=by
 have hq:eY n (kas_rev p 0 m):=hp.of (mirror_perm _ _ _ _);refine tK _ (oJ (λr ⟨a,b,c,d⟩=>⟨by show 1<=r;omega,b,hq,c⟩) _ (Uf S hq _ m h1 (by omega) λi j hij hj=>?_));have hs:m<=p.size:=by rw[hp.size];exact h2
 rw[Gr hs (by omega),Gr hs hj];exact h3 _ _ (by omega) (by omega)
theorem F5(S:mO lt n)(h2:2<=n){p:Array Nat}(hp:eY n p):jI lt n (kas_count n p) (λr=>1<=r.1/\r.1<=n/\eY n r.2/\Up lt r.2 r.1):=by
 refine tK _ (oJ (λr hq=>?_) _ (Uf S hp (n-1) 1 (ak _) (by omega) λi j hij hj=>by omega));rcases hq with⟨a,b,c,d⟩
 by_cases e:(r==n)=true
 .rw[if_pos e]
  exact⟨a,b,hp,c⟩
 .rw[if_neg e]
  have e:r≠n:=by simpa using e
  by_cases h:r>1
  .rw[if_pos h]
   have l:=c 0 (r-1) (by omega) (by omega);refine⟨hp.bd (by omega),hp.bd (by omega),?_⟩;rw[l];exact⟨a,b,hp,c⟩
  .rw[if_neg h]
   have e1:r=1:=by omega
   subst e1;rcases d with d |d
   .exact absurd d e
   .refine tK _ (oJ (λr ⟨q1,q2,q3,q4,q5⟩=>?_) _ (Qp S hp (n-(1+1)) (1+1) (ak _) (by omega) λi j hij hj=>?_))
    .have e1:i=0:=by omega
     have e2:j=1:=by omega
     rw[e1,e2];exact d
    .rw[if_neg (by rw[q2];exact dz 0),q1]
     exact N4 S hp (by omega) q4 q5
theorem Bf(S:mO lt n){p:Array Nat}(hp:eY n p){k:Nat}(hk:k<n)(u:Up lt p k):∀f l r,l<=r->r<=k->r-l<=f->(∀i,i<l->lt (p.getD i 0) (p.getD k 0)=true)->(∀i,r<=i->i<k->lt (p.getD k 0) (p.getD i 0)=true)->
  jI lt n (kas_place p k f l r) (λx=>x<=k/\(∀i,i<x->lt (p.getD i 0) (p.getD k 0)=true)/\∀i,x<=i->i<k->lt (p.getD k 0) (p.getD i 0)=true)
 |0,l,r,h1,h2,h3,h4,h5=>⟨by omega,h4,λi a b=>h5 i (by omega) b⟩
 |f+1,l,r,h1,h2,h3,h4,h5=>by
  unfold kas_place
  by_cases h:l>=r
  .rw[if_pos h]
   exact⟨by omega,h4,λi a b=>h5 i (by omega) b⟩
  .rw[if_neg h]
   refine⟨hp.bd hk,hp.bd (by omega),?_⟩;cases z:lt _ _ with
   |true=>
    refine Bf S hp hk u f l _ (by omega) (by omega) (by omega) h4 λi a b=>?_
    by_cases e:i=(l+r)/2
    .rw[e];exact z
    .exact S.tr _ _ _ (hp.bd hk) (hp.bd (by omega)) (hp.bd (by omega)) z (u _ i (by omega) b)
   |false=>
    have l1:lt (p.getD ((l+r)/2) 0) (p.getD k 0)=true:=by
     rcases S.tot _ _ (hp.bd (show(l+r)/2<n by omega)) (hp.bd hk) (hp.ne (by omega) hk (by omega))with h |h
     .exact h
     .rw[z]at h;cases h
    refine Bf S hp hk u f _ r (by omega) h2 (by omega) (λi a=>?_) h5
    by_cases e:i=(l+r)/2
    .rw[e];exact l1
    .exact S.tr _ _ _ (hp.bd (by omega)) (hp.bd (by omega)) (hp.bd hk) (u i _ (by omega) (by omega)) l1
theorem Ir  {k l:Nat}(hk:k<p.size)(hl:l<=k)(j:Nat):(bubble p k (k-l)).getD j 0=if j=l then p.getD k 0 else if l<j/\j<=k then p.getD (j-1) 0 else p.getD j 0:=by
 have e:k-(k-l)=l:=by omega
 simp only[gD?];rw[getElem?_bubble hk _ (by omega),e]
 repeat' split
 all_goals rfl
theorem Sq(S:mO lt n):∀f(p:Array Nat) k,eY n p->k+f=n->Up lt p k->jI lt n (kas_bin f p k) (λq=>eY n q/\Up lt q n)
 |0,p,k,hp,h2,u=>by
  have e:k=n:=by omega
  subst e;exact⟨hp,u⟩
 |f+1,p,k,hp,h2,u=>by
  have hk:k<n:=by omega
  refine tK _ (oJ (λl hq=>?_) _ (Bf S hp hk u k 0 k (cg _) (ak _) (by omega) (λi h=>by omega) λi h g=>by omega));rcases hq with⟨a,b,c⟩;refine Sq S f _ (k+1) (hp.of (bubble_perm _ _ _)) (by omega) λi j hij hj=>?_;have hs:k<p.size:=by rw[hp.size];exact hk
  rw[Ir hs a,Ir hs a]
  by_cases ei:i=l
  .grind
  .rw[if_neg ei]
   by_cases ej:j=l
   .rw[if_pos ej,if_neg (by omega)]
    exact b i (by omega)
   .rw[if_neg ej]
    by_cases gi:l<i/\i<=k
    .rw[if_pos gi,if_pos (by omega)]
     exact u _ _ (by omega) (by omega)
    .rw[if_neg gi]
     by_cases gj:l<j/\j<=k
     .rw[if_pos gj]
      exact u _ _ (by omega) (by omega)
     .rw[if_neg gj]
      exact u _ _ (by omega) (by omega)
theorem W1(S:mO lt n)(h2:2<=n):jI lt n (iz n) (λq=>eY n q/\Up lt q n):=by
 refine tK _ (oJ (λr hq=>?_) _ (F5 S h2  (List.Perm.refl _)));rcases hq with⟨a,b,c,d⟩
 by_cases h:r.1<n
 .rw[if_pos h]
  have e:max r.1 1=r.1:=by omega
  rw[e];exact Sq S _ _ _ c (by omega) d
 .rw[if_neg h]
  have e:r.1=n:=by omega
  exact⟨c,by simp_all ⟩
end
section
variable{α:Type}{lt:α->α->Bool}
def ins(lt:α->α->Bool)(x:α):List α->List α
 |[]=>[x]
 |y::r=>if lt x y then x::y::r else y::ins lt x r
def yI(lt:α->α->Bool):List α->List α
 |[]=>[]
 |x::r=>ins lt x (yI lt r)
structure Nc(lt:α->α->Bool):Prop where
 irr:∀x,lt x x=false
 tr:∀x y z,lt x y=true->lt y z=true->lt x z=true
 tot:∀x y,x≠y->lt x y=true\/lt y x=true
theorem Cf(x:α):∀l,(ins lt x l).Perm (x::l)
 |[]=>.refl _
 |y::r=>by
  unfold ins;split
  .rfl
  .exact((Cf x r).cons y).trans (.swap x y r)
theorem zT:∀l,(yI lt l).Perm l
 |[]=>.refl _
 |x::r=>(Cf x _).trans ((zT r).cons x)
theorem Zq(O:Nc lt)(x:α):∀l,x∉l->l.Pairwise (λa b=>lt a b=true)->(ins lt x l).Pairwise (λa b=>lt a b=true)
 |[],_,_=>by simp[ins]
 |y::r,nx,h=>by
  unfold ins;split
  .rename_i z
   refine qp.mpr ⟨λa ha=>?_,h⟩;rcases bw.mp ha with rfl |ha
   .exact z
   .exact O.tr _ _ _ z ((qp.mp h).1 a ha)
  .obtain⟨h1,h2⟩:=qp.mp h
   refine qp.mpr ⟨λa ha=>?_,Zq O x r (λm=>nx (cu _ m)) h2⟩;rcases bw.mp ((Cf x r).subset ha)with rfl |ha
   .rcases O.tot a y (by grind)with q |q
    .simp_all
    .exact q
   .simp_all
theorem Io(O:Nc lt):∀l:List α,l.Nodup->(yI lt l).Pairwise (λa b=>lt a b=true)
 |[],_=>.nil
 |x::r,h=>by
  obtain⟨h1,h2⟩:=jf.mp h;exact Zq O x _ (λm=>h1 ((zT r).subset m)) (Io O r h2)
theorem P0(O:Nc lt){A B:List α}(hp:A.Perm B)(ha:A.Pairwise (λa b=>lt a b=true))(hb:B.Pairwise (λa b=>lt a b=true)):A=B:=
 hp.eq_of_pairwise λu v _ _ h g=>by
  have:=O.tr _ _ _ h g;rw[O.irr]at this;grind ha hb
end
end
section
open PySem.W (KasT kas_sort kas_ask KatTups kat_run kat_kind kas_item kat_snds KdlSrc kdl_extend)
section
variable{prog:Program}{w:ah}{A:aj}{E:Value->Shared->Prop}{s:Shared}
def Wu(prog:Program)(w:ah)(A:aj)(κ:qq)(lt:Nat->Nat->Bool)(vs:AD)(s:Shared)(a:Addr):Prop:=∀(h':Heap)(tk:bg)(E:Value->Shared->Prop),(∀b o,b≠a->s.heap.get? b=some o->h'.get? b=some o)->
 (∀Q:qq->Shared->Prop,Q κ {s with heap:=h',toks:=tk}->wpAny (model prog w) A (keyKind' vs.toArray) Q E {s with heap:=h',toks:=tk})/\
 ∀i j(C:Bool->Shared->Prop),i<vs.length->j<vs.length->C (lt i j) {s with heap:=h',toks:=tk}->kas_ask prog w A κ vs i j C {s with heap:=h',toks:=tk}
def pN(lt:Nat->Nat->Bool)(p:List Nat):Prop:=p.Pairwise λi j=>lt i j=true
theorem S7  {p:Array Nat}{n:Nat}(hp:eY n p)(u:Up lt p n):pN lt p.toList:=by
 unfold pN;rw[b6];intro i j hi hj hij;have hs:=hp.size;rw[jt]at hi hj;have:=u i j hij (by omega)
 simp_all
theorem Lw{a:Addr}{vs:AD}{lt:Nat->Nat->Bool}{κ:qq}{n:Nat}{P:PySem.Fin->Shared->Prop}(ho:s.heap.get? a=some (seqObj "list" vs.toArray n))(h64:vs.length<64)(hS:mO lt vs.length)(hk:2<=vs.length->Wu prog w A κ lt vs s a)
  (h:∀p:List Nat,p.Perm (ee vs.length)->pN lt p->P (.done (.ret .none)) {s with heap:=sortedHeap s.heap a vs (gq (p.map λi=>vs.getD i bb))}):
  wpAny (model prog w) A (Builtin.«list.sort» ⟨[.ref a],[]⟩) P E s:=by
 have ha:a<s.heap.objs.size:=au ho;obtain⟨e1,ho1⟩:∃e1,(s.heap.update a (gb λ_=>(#[]:Array Value))).get? a=some (seqObj "list" #[] e1):=⟨_,lm ho λ_=>#[]⟩;have kp:∀b o,b≠a->s.heap.get? b=some o->(((s.heap.update a (gb λ_=>(#[]:Array Value))).push (seqObj "tuple" vs.toArray 0)).push (seqObj "list" #[] 0)).get? b=some o:=λb o hb e=>
  ao _ (ao _ ((lq _ _ _ _ hb).trans e))
 have na:(((s.heap.update a (gb λ_=>(#[]:Array Value))).push (seqObj "tuple" vs.toArray 0)).push (seqObj "list" #[] 0)).get? a=some (seqObj "list" #[] e1):=ao _ (ao _ ho1);rw[list_sort_plain];refine ag (listItems_at ho rfl ?_);refine ag (mx ho rfl ?_ (by rw[ax,fe];omega) (cg _));refine ag (my ho1 rfl ?_);refine ag (uw ?_ (by show vs.length<=_;rw[fe];omega));refine ag (qh ?_ (cg _));refine dh ?_;dsimp only
 by_cases hn2:vs.toArray.size<2
 .rw[if_pos hn2,if_pos hn2]
  refine ag (aq ?_);rw[StateT.run_pure];refine ag (aq ?_);dsimp only;refine ag (my na rfl ?_);have hl2:vs.length<2:=by simpa using hn2
  have eo:(arrOf (SortSt.mk' general' (vs.toArray.zip vs.toArray) #[] 7 none)).map (·.2)=gq ((ee vs.length).map λi=>vs.getD i bb):=by
   show Array.map (λx=>x.2) (vs.toArray.zip vs.toArray)=_
   match vs,hl2 with
   |[],_=>simp
   |[v],_=>simp
  rw[eo];refine ag (mx na rfl ?_ (cg _) (by rw[ax,bh,we,fe];omega));simp only[bne_self_eq_false,qb,if_false];refine aq (h _ (.refl _) ?_);unfold pN;rw[b6];intro i j hi hj hij;rw[we]at hi hj;omega
 rw[if_neg hn2,if_neg hn2];have h2:2<=vs.length:=by simpa using hn2
 obtain⟨hkk,hc⟩:=hk h2 _ s.toks E kp;refine ag (hkk _ ?_);obtain⟨_,hc⟩:=hk h2 _ s.toks E kp;refine ag (bv (kat_run (Q:=λst' s'=>∃p:Array Nat,p.size=vs.length/\arrOf st'=p.map (kas_item (vs.toArray.zip vs.toArray))/\failedOf st'=none/\(eY vs.length p/\Up lt p vs.length)/\s'={s with heap:=((s.heap.update a (gb λ_=>(#[]:Array Value))).push (seqObj "tuple" vs.toArray 0)).push (seqObj "list" #[] 0)})
  
  rfl h2 h64 (λp' st' s' a1 a2 a3 a4=>⟨p',a1,a2,a3,a4⟩) ?_) ?_ λ_ _ e=>e)
 .exact Co (λi j C hi hj hC=>hc i j C hi hj hC) _ (oJ (λp hp=>⟨hp,rfl⟩) _ (W1 hS h2))
 rintro⟨⟨⟩,st'⟩ s' ⟨p,hp,har,hf,hpl,rfl⟩
 dsimp only;have hout:=kat_snds rfl har;have hsz:(gq (p.toList.map λi=>vs.getD i bb)).size=vs.length:=by rw[ax,bh,jt,hp]
 rw[hout];refine ag (my na rfl ?_);refine ag (mx na rfl ?_ (cg _) (dq (oo hsz) (by rw[fe];omega)));rw[hf];simp only[bne_self_eq_false,qb,if_false];exact aq (h _ hpl.1 (S7 hpl.1 hpl.2))
theorem Ox {T : String} {r d : Addr} {n : Nat} {P : Nat → Value → Prop} {OK : Heap → Prop} {Q : AD → Shared → Prop} (K : KdlSrc prog w T r d n P OK) (hh : A.handled = none) (hok : OK s.heap) (hn : n ≤ sizeLine)
    (hQ : ∀ h' tk acc, (∀ b o, s.heap.get? b = some o → h'.get? b = some o) → ItemsOf P acc n → Q acc.toList { s with heap := h', toks := tk }) : wpAny (model prog w) A (collect (.ref r)) Q E s := by
  obtain ⟨l1, l2⟩ := K.there _ hok;unfold collect;refine ag (wpAny_runValue (vb F.entry_proto_collect ?_));refine ag (jw ?_);refine aq ⟨plainId_quiet F.plain_list_iadd _, vb F.entry_list_iadd ?_⟩;have hS : (s.heap.push _).get? s.heap.objs.size = some { cls := .type "list", data := .seq #[] 0 } := bn _ rfl;refine bv (kdl_extend (A := A) (R := λr s' => r = .ok (.ret (.ref s.heap.objs.size)) ∧ ∃ h' tk acc c, s' = { s with heap := h', toks := tk } ∧ (∀ b o, b ≠ s.heap.objs.size → (s.heap.push _).get? b = some o → h'.get? b = some o) ∧ h'.get? s.heap.objs.size = some { cls := .type "list", dict := none, data := .seq acc c, slots := #[] } ∧ ItemsOf P acc n)
     K hh (K.keep _ _ hok λb _ o e => ao _ e) s.heap.objs.size (jr l1) (jr l2) _ 0 hS (λh' tk acc c k1 k2 k3 => ⟨rfl, h', tk, acc, c, rfl, k1, k2, k3⟩) hn) (λfin s' h => ?_) (λe s' h => ?_)
  · have fin' : ∀ s', (∃ h' tk acc c, s' = { s with heap := h', toks := tk } ∧ (∀ b o, b ≠ s.heap.objs.size → (s.heap.push { cls := .type "list", data := .seq ([] : AD).toArray }).get? b = some o → h'.get? b = some o) ∧ h'.get? s.heap.objs.size = some { cls := .type "list", dict := none, data := .seq acc c, slots := #[] } ∧ ItemsOf P acc n) → wpAny (model prog w) A (match az s.heap.objs.size with
      | az a => do
        match (← load a).data with
          | Data.seq xs _ => pure xs.toList
          | _ => unsupported "internal:collect"
      | _ => unsupported "internal:collect") Q E s' := by
      rintro s' ⟨h', tk, acc, c, rfl, k1, k2, k3⟩
      refine ag (wpAny_load k2 ?_);refine aq (hQ h' tk acc (λb o hb => k1 b o (bc (au hb)) (ao _ hb)) k3)
    cases fin with
    | done f =>
      obtain ⟨e, h⟩ := h;cases e;exact fin' s' h
    | again c' => exact ⟨h.1, iq h.2 λr s'' hr => by obtain ⟨rfl, h⟩ := hr; exact fin' s'' h⟩
  · exact absurd h.1 (by simp)
end
end
open L2.Pp
section
theorem Ul  {its:AD}(rv:aS ts its):∀ps:List Nat,aS (ps.map λi=>ts.getD i .non) (ps.map λi=>its.getD i bb)
 |[]=>.nil
 |i::ps=>by
  have hlen:=rv.length;refine .cons ?_ (Ul rv _)
  by_cases hi:i<ts.length
  .obtain⟨v,e2,rr⟩:=rv.get (ba hi)
   have q1:ts.getD i .non=ts[i]:=by simp[cw,hi]
   simp_all
  .have q1:ts.getD i .non=.non:=by simp[cw,hi]
   have q2:its.getD i bb=bb:=by grind
   show aT (ts.getD i _) (its.getD i _);rw[q1,q2];rfl
end
end L2
namespace L2
open PySem PySem.Spec PyProof.Rows
def seerB(K:aa):Bool:=b7 K cStatics&&aw K cStatics "sys.audit-hooks"==some none&&aw K cStatics "sys.dict"==some none&&b7 K sysModules&&aw K sysModules "_pylong"==some none&&
 (match aw K mainGlobals "__builtins__" with
  |some (some (.ref bm))=>(match K.lookup bm with
   |some o=>o.cls== .type "module"&&o.dict==some builtinsNs
   |none=>false)
  |_=>false)
theorem seer_of{K:aa}{h:Heap}{mg mb:Str->AE}(q:seerB K=true)(X:K.In h)(G:h.Ns mainGlobals mg)(B:h.Ns builtinsNs mb)(hb:∀x:Str,x≠"__name__"->mb x=bootBuiltins x):h.NoSeer:=by
 unfold seerB at q;simp only[df,beq_iff_eq]at q;obtain⟨⟨⟨⟨⟨q1,q2⟩,q3⟩,q4⟩,q5⟩,q6⟩:=q;refine⟨⟨_,.of_isNs (uz X q1),pz X q1 q2,pz X q1 q3⟩,⟨_,.of_isNs (uz X q4),pz X q4 q5⟩,⟨mb,B,hb⟩,?_⟩;generalize hn:aw K mainGlobals "__builtins__"=n at q6
 match n,q6 with
 |some (some (.ref bm)),q6=>
  dsimp only at q6;cases ho:K.lookup bm with
  |none=>rw[ho]at q6;cases q6
  |some o=>
   rw[ho]at q6;simp only[df,beq_iff_eq]at q6;exact⟨mg,bm,o,G,cc X G hn,X _ _ ho,q6.1,q6.2⟩
open Bn
end L2
namespace L2.Pp
open PySem PySem.Spec PyProof.Rows Bn
def iF:List Str->AH->Str->AI
 |n::ns,f::fs,k=>if n=k then some f else iF ns fs k
 |_,_,_=>none
def gL{α:Type}(k:Str)(w:α):List Str->List α->List α
 |n::ns,f::fs=>(if n=k then w else f)::gL k w ns fs
 |_,_=>[]
def iS{α:Type}(k:Str):List Str->List α->List α
 |n::ns,f::fs=>if n=k then iS k ns fs else f::iS k ns fs
 |_,_=>[]
def nJ(k:Str):List Str->List Str
 |n::ns=>if n=k then nJ k ns else n::nJ k ns
 |[]=>[]
section
variable{K:aa}{c:Addr->Prop}{H:Hp}{k:Str}
theorem pY{n:Str}{ns:List Str}{v:V}{vs:List V}:cA (n::ns) (v::vs)=(cp n,v)::cA ns vs:=rfl
theorem Df{w:PV}:∀{ns:List Str}{fs:AH}{vs:List V},aM K c H fs vs->iF ns fs k=some w->∃u,fZ (cA ns vs) (cp k)=some u/\aP K c H w u
 |[],fs,_,_,e=>by unfold iF at e;cases e
 |_::_,[],_,_,e=>by unfold iF at e;cases e
 |n::ns,f::fs,vs,r,e=>by
  unfold aM at r;obtain⟨v,vs',rfl,h,t⟩:=r;unfold iF at e;rw[pY];split at e
  .rename_i z
   cases e;exact⟨v,wB (by rw[z]),h⟩
  .rename_i z
   rw[vZ λq=>z (b8 q)];exact Df t e
theorem Oa:∀{ns:List Str}{vs:List V},ns.length=vs.length->(fZ (cA ns vs) (cp k)).isSome=decide (k∈ns)
 |[],_,_=>by simp[cA,fZ]
 |n::ns,[],h=>by simp at h
 |n::ns,v::vs,h=>by
  rw[pY]
  by_cases z:n=k
  .rw[wB (by rw[z]),z]
   simp
  .rw[vZ λq=>z (b8 q),Oa (by simpa using h)]
   simp[dw z]
theorem Ga{ns:List Str}{vs:List V}(h:ns.length=vs.length):(cA ns vs).length=ns.length:=by
 unfold cA;rw[List.length_zip,bh,h,Nat.min_self]
theorem We{α:Type}{w:α}:∀{ns:List Str}{fs:List α},ns.length=fs.length->(gL k w ns fs).length=fs.length
 |[],[],_=>rfl
 |[],_::_,h=>by simp at h
 |_::_,[],h=>by simp at h
 |n::ns,f::fs,h=>by
  unfold gL;rw[bq,We (by simpa using h),bq]
theorem Ge{α:Type}:∀{ns:List Str}{fs:List α},ns.length=fs.length->(nJ k ns).length=(iS k ns fs).length
 |[],[],_=>rfl
 |[],_::_,h=>by simp at h
 |_::_,[],h=>by simp at h
 |n::ns,f::fs,h=>by
  unfold nJ iS;split
  .exact Ge (by simpa using h)
  .rw[bq,bq,Ge (by simpa using h)]
theorem Ze{w:PV}{u:V}(g:aP K c H w u):∀{ns:List Str}{fs:AH}{vs:List V},aM K c H fs vs->aM K c H (gL k w ns fs) (gL k u ns vs)
 |[],fs,vs,r=>by
  unfold gL;exact .nil
 |n::ns,[],vs,r=>by
  unfold aM at r;subst r;unfold gL;exact .nil
 |n::ns,f::fs,vs,r=>by
  unfold aM at r;obtain⟨v,vs',rfl,h,t⟩:=r;unfold gL;refine .cons ?_ (Ze g t);split
  .exact g
  .exact h
theorem Ud:∀{ns:List Str}{fs:AH}{vs:List V},aM K c H fs vs->aM K c H (iS k ns fs) (iS k ns vs)
 |[],fs,vs,r=>by
  unfold iS;exact .nil
 |n::ns,[],vs,r=>by
  unfold aM at r;subst r;unfold iS;exact .nil
 |n::ns,f::fs,vs,r=>by
  unfold aM at r;obtain⟨v,vs',rfl,h,t⟩:=r;unfold iS;split
  .exact Ud t
  .exact .cons h (Ud t)
theorem Bo{u:V}:∀{ns:List Str}{vs:List V},ns.length=vs.length->(cA ns vs).map (λkv=>if kv.1=cp k then(kv.1,u)else kv)=cA ns (gL k u ns vs)
 |[],[],_=>rfl
 |[],_::_,h=>by simp at h
 |_::_,[],h=>by simp at h
 |n::ns,v::vs,h=>by
  rw[pY,cn,Bo (by simpa using h),show gL k u (n::ns) (v::vs)=(if n=k then u else v)::gL k u ns vs from rfl,pY]
  by_cases z:n=k
  .simp[z]
  .simp[z]
theorem Nf{u:V}{ns:List Str}{vs:List V}(h:ns.length=vs.length):gU (cA ns vs) (cp k) u=if k∈ns then cA ns (gL k u ns vs)else cA (ns++[k]) (vs++[u]):=by
 unfold gU;rw[Re,Oa h]
 by_cases z:k∈ns
 .rw[if_pos (by simpa using z),if_pos z,Bo h]
 .rw[if_neg (by simpa using z),if_neg z]
  unfold cA;rw[List.map_append,List.zip_append (by rw[bh,h])];rfl
theorem Rm:∀{ns:List Str}{vs:List V},ns.length=vs.length->oU (cA ns vs) (cp k)=cA (nJ k ns) (iS k ns vs)
 |[],[],_=>rfl
 |[],_::_,h=>by simp at h
 |_::_,[],h=>by simp at h
 |n::ns,v::vs,h=>by
  have ih:=Rm (ns:=ns) (vs:=vs) (by simpa using h);unfold oU at ih⊢;rw[pY,vf,ih,show nJ k (n::ns)=(if n=k then nJ k ns else n::nJ k ns) from rfl,show iS k (n::ns) (v::vs)=(if n=k then iS k ns vs else v::iS k ns vs) from rfl]
  by_cases z:n=k
  .simp[z]
  .simp[z,pY]
end
def Bc:PV->PV->AI
 |.str k,.dct ns _=>some (.bl (decide (k∈ns)))
 |_,_=>none
def Pt(K:aa):R2:=λx y H Q=>∃(k:Str)(a:Addr)(kvs:List (bN×V)),x=.str k/\y=.ref a/\H a=some (.dK kvs)/\Q (.bl (fZ kvs (cp k)).isSome) H
theorem aaq{X:Cx}(hu:X.A.units+1<cLine):cN X (compareOp .In) (Pt X.K):=by
 intro AL s σ H x y v u Q I rx ry h;obtain⟨k,a,kvs,rfl,rfl,e,q⟩:=h;obtain rfl:u=az a:=ry;exact ac3 hu I (mH.k (k:=cp k) e) rx λs3 I3=>⟨.bl (fZ kvs (cp k)).isSome,H,I3,rfl,q⟩
theorem abX{K:aa}:eG K (Pt K) Bc:=λ{p S H a b c x y Q} s ra rb e k=>by
 unfold Bc at e;split at e
 .cases e
  obtain⟨b,vs,rfl,h,l,r⟩:=rb.dct;refine⟨_,b,_,ra.str,rfl,h.1,?_⟩;rw[Oa l];exact k H _ (bX.refl H) (iO (v:=.bl _) rfl)
 .cases e
def yC:PV->PV->AI
 |.dct ns fs,.str k=>iF ns fs k
 |_,_=>none
section
variable{K:aa}{cl:Str->Addr}{E:XK}{X:Cx}{a o i e:ae}{ma mo mi m:ME}{pos:ai}
theorem F3(hu:X.A.units+1<cLine)(ho:aI K cl E X o mo)(hi:aI K cl E X i mi)(hs:mI i:=by intro _ _;rfl):aI K cl E X (.Subscript o i pos) (aE yC mo mi):=by
 intro hK;subst hK;refine PE.imp (Tp hu (ho rfl) (hi rfl) hs) ?_
 rintro σ H Q ⟨p,S,ρ,s,e,h⟩
 refine aY s e h λq H1 a x S1 st s1 e1 r1 h1=>aY s1 e1 h1 λq2 H2 b y S2 st2 s2 e2 r2 h2=>?_;refine oI (r:=λx y H Q=>∃a v,x=.ref a/\mH H a y (some v)/\Q v H) (f:=yC) (λ{p S H a b c x y Q} s ra rb e k=>?_) s2 (st2.repA r1) r2 h2;unfold yC at e;split at e
 .rename_i ns fs j
  obtain⟨d,vs,rfl,h,l,r⟩:=ra.dct;obtain⟨u,hv,ru⟩:=Df r e;cases rb.str;refine⟨d,u,rfl,?_,k H _ (bX.refl H) ru⟩;rw[<-hv];exact mH.k (k:=cp j) h.1
 .cases e
def Et(v:AV)(S:aL):bA Bool:=match v with
 |.pv (.dct ns _)=>.ok (!ns.isEmpty) S
 |_=>.fail
def Ig(m:ME):MT:=λρ S=>(m ρ S).bind Et
theorem W5(ha:aI K cl E X a ma)(he:∀whole,isTrue a X.env whole=(do let v <-whole;standAt a.pos;holding [v] (truthy v)):=by intro _;rfl):cR K cl E X a (Ig ma):=by
 intro hK;subst hK;refine(Xe (ha rfl) he).imp ?_
 rintro σ H Q ⟨p,S,ρ,s,e,h⟩
 refine aY s e h λq H1 a x S1 st s1 e1 r1 h1=>?_;unfold Et at h1;split at h1
 .have r1:aP X.K q.c H1 (.dct _ _) x:=r1
  unfold aP at r1;obtain⟨b,vs,rfl,h,l,r⟩:=r1;refine⟨_,.inr (.inr ⟨_,h.1,rfl⟩),aU.ret (R:=RB) h1 s1 ?_⟩;show _=!(cA _ vs).isEmpty;have z:=Ga l;congr 1;rw[uq,b9,b9,z]
 .exact h1.elim
end
structure DK(K:aa)(C:Addr):Prop where
 nm:aw K mainGlobals "Desk"=some (some (.ref C))
 cl:kT K C
 h:nF K C "heaps"
 p:nF K C "past"
 f:nF K C "future"
def vQ(m:ME):ME:=λρ S=>(m ρ S).bind λx S1=>match x with
 |.ref k=>(match S1[k]? with
  |some (.dsk h _ _)=>.ok (.pv h) S1
  |_=>.fail)
 |_=>.fail
def Xf:SO->Bool
 |.lst _=>true
 |.dic _ _=>true
 |.tdc _ _=>true
 |_=>false
def jH(k:Nat)(S:aL):Prop:=∀(j:Nat)(o:SO),S[j]?=some o->j≠k->Xf o=true
section
variable{K:aa}{cl:Str->Addr}{E:XK}{X:Cx}{p:Ph}{S:aL}{H H':Hp}{C:Addr}
theorem Gn{c:Addr->Prop}{w:PV}{u:V}(r:aM K c H [w] [u]):aP K c H w u:=by
 unfold aM at r;obtain⟨_,_,e,h,_⟩:=r;cases e;exact h
theorem ab6{a:ae}{m:ME}{pos:ai}(d:DK X.K C)(ha:aI K cl E X a m)(hb:attributeBase a "heaps" X.env (eval a X.env)=eval a X.env:=by rfl):aI K cl E X (.Attribute a "heaps" pos) (vQ m):=by
 intro hK;subst hK;refine PE.imp (uM (ha rfl) hb) ?_
 rintro σ H Q ⟨p,S,ρ,s,ev,h⟩
 refine aY s ev h λq H' as x S' stp sm ev r k=>?_;cases as with
 |pv v=>exact k.elim
 |ref j=>
  obtain⟨a,e,rfl⟩:=r;dsimp only at k;cases z:S'[j]? with
  |none=>rw[z]at k;exact k.elim
  |some o=>
   cases o with
   |dsk h past fut=>
    rw[z]at k;obtain⟨C',dx,bp,bf,u,ps,fs,D⟩:=sm.obj j a _ e z;obtain rfl:C'=C:=by
     have e1:=D.cl;rw[d.nm]at e1;cases e1;rfl
    exact⟨a,C',dx,_,u,rfl,D.ins,d.cl,d.h,rfl,aU.ret (R:=bI X.K) k sm (Gn D.rh)⟩
   |_=>rw[z]at k;exact k.elim
theorem tZ{k:Nat}{x C dx bp bf bf':Addr}{u u':V}{ps fs ps' fs':List V}{h h':PV}{past fut past' fut':AH}(s:aO K p S H)(hk:p.f[k]?=some x)(hS:S[k]?=some (.dsk h past fut))(al:jH k S)(D:Th K p H x h past fut C dx bp bf u ps fs)
  (keep:∀a o,H a=some o->a≠x->a≠bp->a≠bf'->H' a=some o)(e0:H' x=some (.ins C dx [("heaps",u'),("past",.ref bp),("future",.ref bf')]))(e1:H' bp=some (.lst ps'))(e2:H' bf'=some (.lst fs'))(fr:bf'=bf\/H bf'=none)(nb:bp≠bf')(l1:ps'.length<=sizeLine)(l2:fs'.length<=sizeLine)
  (rr:∀st:aZ p H ⟨p.f,λa=>p.w a\/a=bf',λa=>p.c a\/a=bf'⟩ H',aM K (λa=>p.c a\/a=bf') H' [h'] [u']/\aM K (λa=>p.c a\/a=bf') H' past' ps'/\aM K (λa=>p.c a\/a=bf') H' fut' fs'):
  aZ p H ⟨p.f,λa=>p.w a\/a=bf',λa=>p.c a\/a=bf'⟩ H'/\aO K ⟨p.f,λa=>p.w a\/a=bf',λa=>p.c a\/a=bf'⟩ (S.set k (.dsk h' past' fut')) H':=by
 have xf:x∈p.f:=de hk;have nf:bf'∉p.f:=λz=>by
  rcases fr with q |q
  .exact D.wf.2 (q▸z)
  .obtain⟨o,e,_⟩:=s.mu bf' (s.wc _ (s.sub _ z))
   rw[q]at e;cases e
 have new:∀a,(p.w a\/a=bf')->¬p.w a->H a=none:=λa z n=>by
  rcases z with z |rfl
  .exact absurd z n
  .rcases fr with q |q
   .exact absurd (q▸D.wf.1) n
   .exact q
 have st:aZ p H ⟨p.f,λa=>p.w a\/a=bf',λa=>p.c a\/a=bf'⟩ H':=⟨s.wc,s.mu,jk,λa z=>.inl z,λa z=>.inl z,λ_ z n=>absurd z n,new,λa z n=>by
  rcases z with z |rfl
  .exact absurd z n
  .exact new _ (.inr rfl) λq=>n (s.wc _ q),λa o e n=>by
  refine keep a o e (λq=>n (q▸s.sub x xf)) (λq=>n (q▸D.wp.1)) λq=>?_;rcases fr with z |z
  .exact n (by rw[q,z];exact D.wf.1)
  .rw[q,z]at e
   cases e⟩
 obtain⟨r1,r2,r3⟩:=rr st;refine⟨st,s.nd,by rw[gm];exact s.len,λa z=>.inl (s.sub a z),λa z=>z.imp (s.wc a) id,λa z=>?_,λj a o f1 f2=>?_⟩
 .by_cases q0:a=x
  .rw[q0]
   exact⟨_,e0,trivial⟩
  by_cases q1:a=bp
  .rw[q1]
   exact⟨_,e1,trivial⟩
  by_cases q2:a=bf'
  .rw[q2]
   exact⟨_,e2,trivial⟩
  obtain⟨o,e,m⟩:=s.mu a (z.resolve_right q2);exact⟨o,keep a o e q0 q1 q2,m⟩
 .have kl:k<S.length:=(cq.mp hS).1
  by_cases hj:k=j
  .subst hj
   rw[fw kl]at f2;cases f2;have:a=x:=by
    have f1:p.f[k]?=some a:=f1;rw[hk]at f1;cases f1;rfl
   subst this;exact⟨C,dx,bp,bf',u',ps',fs',e0,D.cl,r1,nb,⟨.inl D.wp.1,D.wp.2⟩,⟨.inr rfl,nf⟩,e1,e2,l1,l2,r2,r3⟩
  .rw[fj hj]at f2
   have f1:p.f[j]?=some a:=f1;have am:a∈p.f:=de f1;have n0:a≠x:=λq=>hj (nodup_idx s.nd hk (q▸f1));have n1:a≠bp:=λq=>D.wp.2 (q▸am);have n2:a≠bf':=λq=>nf (q▸am);have pl:=al j o f2 (dw hj);have so:=s.obj j a o f1 f2;cases o with
   |lst xs=>
    obtain⟨vs,e,l,r⟩:=so;exact⟨vs,keep a _ e n0 n1 n2,l,st.reps r⟩
   |dic n kvs=>
    obtain⟨us,vs,d,v,r⟩:=so;exact⟨us,vs,d.mono (λo e=>keep a o e n0 n1 n2) λ_ _=>st.reps,v,st.reps r⟩
   |tdc ns fs=>
    obtain⟨vs,e,l,r⟩:=so;exact⟨vs,keep a _ e n0 n1 n2,l,st.reps r⟩
   |_=>cases pl
end
section
open PySem PySem.Spec PyProof.Rows Bn
def dN:Bool->Str
 |true=>"past"
 |false=>"future"
def zA(b:Bool)(m:ME):MT:=λρ S=>(m ρ S).bind λx S1=>match x with
 |.ref k=>(match S1[k]? with
  |some (.dsk _ past fut)=>.ok (!(if b=true then past else fut).isEmpty) S1
  |_=>.fail)
 |_=>.fail
def kN(b:Bool)(k:Nat)(S:aL):Option aL:=match S[k]? with
 |some (.dsk h past fut)=>@ite _ (jH k S/\(if b=true then past else fut).length<16777216) (lc _) (some (S.set k (if b=true then .dsk h (past++[h]) fut else .dsk h past (fut++[h])))) none
 |_=>none
def nW(k:Nat)(S:aL):Option aL:=match S[k]? with
 |some (.dsk h past _)=>@ite _ (jH k S) (lc _) (some (S.set k (.dsk h past []))) none
 |_=>none
def kK(b:Bool)(k:Nat)(S:aL):Option aL:=match S[k]? with
 |some (.dsk _ past fut)=>(match(if b=true then past else fut)[(if b=true then past else fut).length-1]? with
  |some w=>@ite _ (jH k S) (lc _) (some (S.set k (if b=true then .dsk w past.dropLast fut else .dsk w past fut.dropLast))) none
  |none=>none)
 |_=>none
def iL(f:Nat->aL->Option aL)(i:Nat):MS:=λρ S=>match ρ[i]? with
 |some (some (.ref k))=>(match f k S with
  |some S1=>.nx ρ S1
  |none=>.fail)
 |_=>.fail
section
variable{K:aa}{cl:Str->Addr}{E:XK}{X:Cx}{p:Ph}{S:aL}{H H':Hp}{C:Addr}{b:Bool}{i:Nat}{nm:Str}{pos p1 p2 p3 p4 apos cpos:ai}
theorem qE{k:Nat}{a:Addr}{h:PV}{past fut:AH}(d:DK K C)(s:aO K p S H)(e:p.f[k]?=some a)(z:S[k]?=some (.dsk h past fut)):∃dx bp bf u ps fs,Th K p H a h past fut C dx bp bf u ps fs:=by
 obtain⟨C',dx,bp,bf,u,ps,fs,D⟩:=s.obj k a _ e z;obtain rfl:C'=C:=by
  have e1:=D.cl;rw[d.nm]at e1;cases e1;rfl
 exact⟨dx,bp,bf,u,ps,fs,D⟩
theorem Bs{a:ae}{m:ME}(d:DK X.K C)(ha:aI K cl E X a m)(hb:attributeBase a (dN b) X.env (eval a X.env)=eval a X.env:=by rfl)(he:∀whole,isTrue (.Attribute a (dN b) pos) X.env whole=(do let v <-whole;standAt (Expr.Attribute a (dN b) pos).pos;holding [v] (truthy v)):=by intro _;rfl):cR K cl E X (.Attribute a (dN b) pos) (zA b m):=by
 intro hK;subst hK;refine(Xe (uM (ha rfl) hb) he).imp ?_
 rintro σ H Q ⟨p,S,ρ,s,ev,h⟩
 refine aY s ev h λq H' as x S' stp sm ev r k=>?_;cases as with
 |pv v=>exact k.elim
 |ref j=>
  obtain⟨a,e,rfl⟩:=r;dsimp only at k;cases z:S'[j]? with
  |none=>rw[z]at k;exact k.elim
  |some o=>
   cases o with
   |dsk h past fut=>
    rw[z]at k;obtain⟨dx,bp,bf,u,ps,fs,D⟩:=qE d sm e z;cases b with
    |true=>exact⟨a,C,dx,_,.ref bp,rfl,D.ins,d.cl,d.p,rfl,_,.inl ⟨ps,bL.of D.ap,by rw[zK D.rp];rfl⟩,aU.ret (R:=RB) k sm rfl⟩
    |false=>exact⟨a,C,dx,_,.ref bf,rfl,D.ins,d.cl,d.f,rfl,_,.inl ⟨fs,bL.of D.af,by rw[zK D.rf];rfl⟩,aU.ret (R:=RB) k sm rfl⟩
   |_=>rw[z]at k;exact k.elim
theorem Hf{f:Nat->aL->Option aL}{ρ:bJ}{σ:St}{D:nP}(ev:bR K p H ρ σ)(h:dA K cl p H (iL f i ρ S) D E):∃k a S1,σ[i]?=some (some (.ref a))/\p.f[k]?=some a/\f k S=some S1/\∀q H',aZ p H q H'->aO K q S1 H'->D.nx σ H':=by
 unfold iL at h;split at h
 .rename_i k z
  obtain⟨x,e1,a,e2,rfl⟩:=ev.at_ i _ z;cases y:f k S with
  |none=>rw[y]at h;exact h.elim
  |some S1=>
   rw[y]at h;exact⟨k,a,S1,e1,e2,y,λq H' st sm=>h q H' σ st sm (st.repE ev)⟩
 .exact h.elim
theorem gZ{a x y:Addr}{o o2:HO}(h1:a≠x)(h2:a≠y):aN (aN H x o) y o2 a=H a:=by rw[aX h2,aX h1]
theorem Wo(d:DK X.K C)(hN:X.N[i]?=some nm)(hv:lP X.env.scope nm:=by first |exact cv rfl |exact cj (cv rfl) |exact cj (cj rfl))(hd:(nm==("__debug__":Str))=false:=by decide)(hcd:(nm==("__classdict__":Str))=false:=by decide)
  (hb1:attributeBase (.Name nm p1) (dN b) X.env (eval (.Name nm p1) X.env)=eval (.Name nm p1) X.env:=by rfl)(hb2:attributeBase (.Name nm p3) "heaps" X.env (eval (.Name nm p3) X.env)=eval (.Name nm p3) X.env:=by rfl)
  (hbase:attributeBase (.Attribute (.Name nm p1) (dN b) p2) "append" X.env (eval (.Attribute (.Name nm p1) (dN b) p2) X.env)=eval (.Attribute (.Name nm p1) (dN b) p2) X.env:=by rfl)
  (hfew:((backTo cpos (starEach [.Attribute (.Name nm p3) "heaps" p4] X.env)).all (λx=>!x.1)&&(backToKw cpos (keywordEach [] X.env)).all (λx=>x.1.isSome)&&decide (([.Attribute (.Name nm p3) "heaps" p4]:List ae).length+([]:List fk).length+(if([]:List fk).isEmpty then 0 else 1)<30))=true:=by rfl)
  (hline:(apos.endLine==cpos.line)=true:=by rfl)(hs:starEach [.Attribute (.Name nm p3) "heaps" p4] X.env=[(false,eval (.Attribute (.Name nm p3) "heaps" p4) X.env)]:=by rfl)
  (hs2:swapsWith (.Call (.Attribute (.Attribute (.Name nm p1) (dN b) p2) "append" apos) [.Attribute (.Name nm p3) "heaps" p4] [] cpos) none pos.line X.env=pure false:=by rfl):
  cL K cl E X (.Expr (.Call (.Attribute (.Attribute (.Name nm p1) (dN b) p2) "append" apos) [.Attribute (.Name nm p3) "heaps" p4] [] cpos) pos) (iL (kN b) i):=by
 intro hK;subst hK;refine PS.imp (Rf (xV qe uj zp vW (uM (nC hN hv hd hcd) hb1) (nA (uM (nC hN hv hd hcd) hb2) lZ) hbase hfew hline hs rfl) hs2) ?_
 rintro D σ H ⟨p,S,ρ,s,ev,h⟩
 obtain⟨k,a,S1,e1,e2,e3,fin⟩:=Hf ev h;unfold kN at e3;split at e3
 .rename_i h0 past fut z
  by_cases g:jH k S/\(if b=true then past else fut).length<16777216
  .rw[if_pos g]at e3
   obtain⟨al,gl⟩:=g;cases e3;obtain⟨dx,bp,bf,u,ps,fs,Dk⟩:=qE d s e2 z;have am:a∈p.f:=de e2;have xp:a≠bp:=λq=>Dk.wp.2 (q▸am);have xf:a≠bf:=λq=>Dk.wf.2 (q▸am);have hz:=fG;cases b with
   |true=>
    have gl:past.length<16777216:=gl;rw[Dk.rp.length]at gl;refine⟨.ref a,e1,a,C,dx,_,.ref bp,rfl,Dk.ins,d.cl,d.p,rfl,.inl ⟨rfl,ps,bL.of Dk.ap⟩,.ref a,e1,a,C,dx,_,u,rfl,Dk.ins,d.cl,d.h,rfl,bp,ps,u,rfl,rfl,Dk.ap,by omega,?_⟩;obtain⟨st,sm⟩:=tZ (H':=aN H bp (.lst (ps++[u]))) (u':=u) (ps':=ps++[u]) (fs':=fs) (h':=h0) (past':=past++[h0]) (fut':=fut) (bf':=bf) s e2 z al Dk (λc o e _ n2 _=>by rw[aX n2];exact e) (by rw[aX xp];exact Dk.ins) cD (by rw[aX Dk.ne.symm];exact Dk.af) (.inl rfl) Dk.ne (by rw[cb,qg];omega) Dk.lf λst=>⟨st.reps Dk.rh,(st.reps Dk.rp).append (st.reps Dk.rh),st.reps Dk.rf⟩;exact fin _ _ st sm
   |false=>
    have gl:fut.length<16777216:=gl;rw[Dk.rf.length]at gl;refine⟨.ref a,e1,a,C,dx,_,.ref bf,rfl,Dk.ins,d.cl,d.f,rfl,.inl ⟨rfl,fs,bL.of Dk.af⟩,.ref a,e1,a,C,dx,_,u,rfl,Dk.ins,d.cl,d.h,rfl,bf,fs,u,rfl,rfl,Dk.af,by omega,?_⟩;obtain⟨st,sm⟩:=tZ (H':=aN H bf (.lst (fs++[u]))) (u':=u) (ps':=ps) (fs':=fs++[u]) (h':=h0) (past':=past) (fut':=fut++[h0]) (bf':=bf) s e2 z al Dk (λc o e _ _ n2=>by rw[aX n2];exact e) (by rw[aX xf];exact Dk.ins) (by rw[aX Dk.ne];exact Dk.ap) cD (.inl rfl) Dk.ne Dk.lp (by rw[cb,qg];omega) λst=>⟨st.reps Dk.rh,st.reps Dk.rp,(st.reps Dk.rf).append (st.reps Dk.rh)⟩;exact fin _ _ st sm
  .rw[if_neg g]at e3
   cases e3
 .cases e3
theorem W2(d:DK X.K C)(hN:X.N[i]?=some nm)(hv:lP X.env.scope nm:=by first |exact cv rfl |exact cj (cv rfl) |exact cj (cj rfl))(hd:(nm==("__debug__":Str))=false:=by decide)(hcd:(nm==("__classdict__":Str))=false:=by decide)
  (hs:swapsWith (.List [] p3) (some (.Attribute (.Name nm p1) "future" p2)) pos.line X.env=pure false:=by rfl):cL K cl E X (.Assign [.Attribute (.Name nm p1) "future" p2] (.List [] p3) pos) (iL nW i):=by
 intro hK;subst hK;refine PS.imp (uF (nC hN hv hd hcd) (wZ lZ) hs) ?_
 rintro D σ H ⟨p,S,ρ,s,ev,h⟩
 obtain⟨k,a,S1,e1,e2,e3,fin⟩:=Hf ev h;unfold nW at e3;split at e3
 .rename_i h0 past fut z
  by_cases al:jH k S
  .rw[if_pos al]at e3
   cases e3;obtain⟨dx,bp,bf,u,ps,fs,Dk⟩:=qE d s e2 z;have am:a∈p.f:=de e2;have xp:a≠bp:=λq=>Dk.wp.2 (q▸am);refine⟨cg _,λl hl=>?_⟩;have al':a≠l:=cU Dk.ins hl;have bl:bp≠l:=cU Dk.ap hl;refine⟨.ref a,e1,a,C,dx,_,rfl,by rw[aX al'];exact Dk.ins,d.cl,d.f,by show 3<1000;decide,?_⟩;obtain⟨st,sm⟩:=tZ (H':=aN (aN H l (.lst [])) a (.ins C dx [("heaps",u),("past",.ref bp),("future",.ref l)])) (u':=u) (ps':=ps) (fs':=[]) (h':=h0) (past':=past) (fut':=[]) (bf':=l) s e2 z al Dk (λc o e n1 _ n3=>by rw[gZ n3 n1];exact e) cD (by rw[gZ bl xp.symm];exact Dk.ap) (by rw[aX al'.symm];exact cD) (.inr hl) bl Dk.lp (cg _) λst=>⟨st.reps Dk.rh,st.reps Dk.rp,.nil⟩;exact fin _ _ st sm
  .rw[if_neg al]at e3
   cases e3
 .cases e3
theorem aM.dropLast{c:Addr->Prop}{xs:AH}{vs:List V}(r:aM K c H xs vs):aM K c H xs.dropLast vs.dropLast:=by
 rw[c0,c0,r.length];exact r.take _
theorem Cp(d:DK X.K C)(hN:X.N[i]?=some nm)(hv:lP X.env.scope nm:=by first |exact cv rfl |exact cj (cv rfl) |exact cj (cj rfl))(hd:(nm==("__debug__":Str))=false:=by decide)(hcd:(nm==("__classdict__":Str))=false:=by decide)
  (hb1:attributeBase (.Name nm p3) (dN b) X.env (eval (.Name nm p3) X.env)=eval (.Name nm p3) X.env:=by rfl)
  (hbase:attributeBase (.Attribute (.Name nm p3) (dN b) p4) "pop" X.env (eval (.Attribute (.Name nm p3) (dN b) p4) X.env)=eval (.Attribute (.Name nm p3) (dN b) p4) X.env:=by rfl)(hline:(apos.endLine==cpos.line)=true:=by rfl)
  (hs:swapsWith (.Call (.Attribute (.Attribute (.Name nm p3) (dN b) p4) "pop" apos) [] [] cpos) (some (.Attribute (.Name nm p1) "heaps" p2)) pos.line X.env=pure false:=by rfl):
  cL K cl E X (.Assign [.Attribute (.Name nm p1) "heaps" p2] (.Call (.Attribute (.Attribute (.Name nm p3) (dN b) p4) "pop" apos) [] [] cpos) pos) (iL (kK b) i):=by
 intro hK;subst hK;refine PS.imp (uF (nC hN hv hd hcd) (abc qe oy zq Z6 (uM (nC hN hv hd hcd) hb1) hbase hline) hs) ?_
 rintro D σ H ⟨p,S,ρ,s,ev,h⟩
 obtain⟨k,a,S1,e1,e2,e3,fin⟩:=Hf ev h;unfold kK at e3;split at e3
 .rename_i h0 past fut z
  split at e3
  .rename_i w hw
   by_cases al:jH k S
   .rw[if_pos al]at e3
    cases e3;obtain⟨dx,bp,bf,u,ps,fs,Dk⟩:=qE d s e2 z;have am:a∈p.f:=de e2;have xp:a≠bp:=λq=>Dk.wp.2 (q▸am);have xf:a≠bf:=λq=>Dk.wf.2 (q▸am);cases b with
    |true=>
     have hw:past[past.length-1]?=some w:=hw;obtain⟨y,ey,ry⟩:=Dk.rp.get hw;rw[Dk.rp.length]at ey;refine⟨.ref a,e1,a,C,dx,_,.ref bp,rfl,Dk.ins,d.cl,d.p,rfl,.inl ⟨rfl,ps,bL.of Dk.ap⟩,bp,ps,y,rfl,rfl,Dk.ap,ey,.ref a,e1,a,C,dx,_,rfl,by rw[aX xp];exact Dk.ins,d.cl,d.h,by show 3<1000;decide,?_⟩;obtain⟨st,sm⟩:=tZ (H':=aN (aN H bp (.lst ps.dropLast)) a (.ins C dx [("heaps",y),("past",.ref bp),("future",.ref bf)])) (u':=y) (ps':=ps.dropLast) (fs':=fs) (h':=w) (past':=past.dropLast) (fut':=fut) (bf':=bf) s e2 z al Dk (λc o e n1 n2 _=>by rw[gZ n2 n1];exact e) cD (by rw[aX xp.symm];exact cD) (by rw[gZ Dk.ne.symm xf.symm];exact Dk.af) (.inl rfl) Dk.ne (by rw[uk];have:=Dk.lp;omega) Dk.lf λst=>⟨.cons (st.rep ry) .nil,aM.dropLast (st.reps Dk.rp),st.reps Dk.rf⟩;exact fin _ _ st sm
    |false=>
     have hw:fut[fut.length-1]?=some w:=hw;obtain⟨y,ey,ry⟩:=Dk.rf.get hw;rw[Dk.rf.length]at ey;refine⟨.ref a,e1,a,C,dx,_,.ref bf,rfl,Dk.ins,d.cl,d.f,rfl,.inl ⟨rfl,fs,bL.of Dk.af⟩,bf,fs,y,rfl,rfl,Dk.af,ey,.ref a,e1,a,C,dx,_,rfl,by rw[aX xf];exact Dk.ins,d.cl,d.h,by show 3<1000;decide,?_⟩;obtain⟨st,sm⟩:=tZ (H':=aN (aN H bf (.lst fs.dropLast)) a (.ins C dx [("heaps",y),("past",.ref bp),("future",.ref bf)])) (u':=y) (ps':=ps) (fs':=fs.dropLast) (h':=w) (past':=past) (fut':=fut.dropLast) (bf':=bf) s e2 z al Dk (λc o e n1 _ n3=>by rw[gZ n3 n1];exact e) cD (by rw[gZ Dk.ne xp.symm];exact Dk.ap) (by rw[aX xf.symm];exact cD) (.inl rfl) Dk.ne Dk.lp (by rw[uk];have:=Dk.lf;omega) λst=>⟨.cons (st.rep ry) .nil,st.reps Dk.rp,aM.dropLast (st.reps Dk.rf)⟩;exact fin _ _ st sm
   .rw[if_neg al]at e3
    cases e3
  .cases e3
 .cases e3
def qN:PV->Bool
 |.non=>true
 |_=>false
theorem Iz{c:Addr->Prop}{v:PV}{x:V}(r:aP K c H v x):decide (x=.non)=qN v:=by
 cases v with
 |non=>unfold aP at r;subst r;rfl
 |bl b=>unfold aP at r;subst r;rfl
 |int b=>unfold aP at r;subst r;rfl
 |str b=>unfold aP at r;subst r;rfl
 |tup xs=>unfold aP at r;obtain⟨a,vs,rfl,_⟩:=r;rfl
 |lst xs=>unfold aP at r;obtain⟨a,vs,rfl,_⟩:=r;rfl
 |dct ns fs=>unfold aP at r;obtain⟨a,vs,rfl,_⟩:=r;rfl
def uL(n:Str)(v:PV)(ns:List Str)(fs:AH):PV:=if qN v=true then .dct (nJ n ns) (iS n ns fs)else if n∈ns then .dct ns (gL n v ns fs)else .dct (ns++[n]) (fs++[v])
def pI(k:Nat)(n:Str)(v:PV)(S:aL):Option aL:=match S[k]? with
 |some (.dsk (.dct ns fs) past fut)=>@ite _ (jH k S/\ns.length<16777216/\(qN v=true->n∈ns)) (lc _) (some (S.set k (.dsk (uL n v ns fs) past fut))) none
 |_=>none
def uK(i j l t:Nat):MS:=λρ S=>match ρ[i]?,ρ[j]?,ρ[l]? with
 |some (some (.ref k)),some (some (.pv (.str n))),some (some (.pv v))=>(match pI k n v S with
  |some S1=>if t<ρ.length then .nx (ρ.set t none) S1 else .fail
  |none=>.fail)
 |_,_,_=>.fail
theorem Py:fX X (.type "dict") (λxs H Q=>∃a kvs,xs=[.ref a]/\H a=some (.dK kvs)/\∀d,H d=none->Q (.ref d) (aN H d (.dK kvs))):=by
 intro AL s σ H xs us Q I r h;obtain⟨a,kvs,rfl,e,q⟩:=h;obtain⟨u,rfl,rx⟩:=gJ r;cases rx;exact M2 I (.inl e) λd s' hd I'=>⟨.ref d,_,I',rfl,q d hd⟩
theorem bR.setN{ρ:bJ}{σ:St}{t:Nat}{y:Option V}(ev:bR K p H ρ σ):bR K p H (ρ.set t none) (σ.set t y):=by
 refine⟨by rw[gm,gm];exact ev.len,λj v e=>?_⟩
 by_cases hj:t=j
 .subst hj
  by_cases hl:t<ρ.length
  .rw[fw hl]at e
   cases e
  .rw[List.getElem?_eq_none (by rw[gm];omega)]at e
   cases e
 .rw[fj hj]at e⊢
  exact ev.at_ j v e
end
end
section
variable{K:aa}{cl:Str->Addr}{E:XK}{X:Cx}{p:Ph}{S:aL}{H H':Hp}{C:Addr}{i j l t:Nat}{nm kn vn hn:Str}{pos p1 p2 q1 q2 q3 q4 q5 q6 q7 q8 q9 q10 q11 q12 q13 q14 q15 q16 q17 q18 apos cpos cpos2:ai}{jj:Nat}
structure pM(X:Cx)(i:Nat)(x:Str):Prop where
 at_:X.N[i]?=some x
 vis:lP X.env.scope x
 dbg:(x==("__debug__":Str))=false
 cd:(x==("__classdict__":Str))=false
theorem pM.pe{x:Str}{pos:ai}(n:pM X i x):PE X (.Name x pos) (pB i):=nC n.at_ n.vis n.dbg n.cd
theorem K5(d:DK X.K C)(hu:X.A.units+1<cLine)(ni:pM X i nm)(nj:pM X j kn)(nl:pM X l vn)(nt:pM X t hn)(nd:X.N.Nodup)(hx:iJ X.env.scope hn)(hf:X.fn hn=true\/X.env.scope.names.lookup hn=some .local)
  (hg:Gl X "dict")(hm:X.mg "dict"=none)(ti:t≠i)(tj:t≠j)(tl:t≠l)
  (hb1:attributeBase (.Name nm p1) "heaps" X.env (eval (.Name nm p1) X.env)=eval (.Name nm p1) X.env:=by rfl)
  (he:starEach [.Attribute (.Name nm p1) "heaps" p2] X.env=(false,eval (.Attribute (.Name nm p1) "heaps" p2) X.env)::starEach [] X.env:=by rfl)(hpl:(backTo cpos (starEach [] X.env)).any (·.1)=false:=by rfl)
  (hs1:swapsWith (.Call (.Name "dict" q2) [.Attribute (.Name nm p1) "heaps" p2] [] cpos) (some (.Name hn q1)) pos.line X.env=pure false:=by rfl)
  (hmk:behindInMarks .Is (.Constant .none jj q4)=false:=by first |exact zX _ (by decide) (by decide) |rfl)
  (m1:M1 X (.Name hn q6) "pop" apos (.Name kn q7) cpos2:=by exact⟨rfl,rfl,rfl,rfl⟩)
  (hs2:swapsWith (.Call (.Attribute (.Name hn q6) "pop" apos) [.Name kn q7] [] cpos2) none q8.line X.env=pure false:=by rfl)
  (hs3:swapsWith (.Name vn q12) (some (.Subscript (.Name hn q9) (.Name kn q10) q11)) q13.line X.env=pure false:=by rfl)
  (hs4:swapsWith (.Name hn q17) (some (.Attribute (.Name nm q15) "heaps" q16)) q18.line X.env=pure false:=by rfl):
  eX K cl E X [.Assign [.Name hn q1] (.Call (.Name "dict" q2) [.Attribute (.Name nm p1) "heaps" p2] [] cpos) pos,.If (.Compare (.Name vn q3) [.Is] [.Constant .none jj q4] q5) [.Expr (.Call (.Attribute (.Name hn q6) "pop" apos) [.Name kn q7] [] cpos2) q8] [.Assign [.Subscript (.Name hn q9) (.Name kn q10) q11] (.Name vn q12) q13] q14,.Assign [.Attribute (.Name nm q15) "heaps" q16] (.Name hn q17) q18] (uK i j l t):=by
 intro hK;subst hK;refine dH.imp (mX (Gg nd nt.at_ hx (zV Py hg hm (show _=_ by decide+kernel) (nA (uM ni.pe hb1) lZ) (by decide) (by decide) he hpl) hs1 hf) (mX (Os (Ka (Mq nl.pe) hmk) (mX (Rf (L7 nt.pe nj.pe m1) hs2) wQ) (mX (L2.ps_dput hu nt.pe nj.pe nl.pe hs3) wQ)) (mX (uF ni.pe nt.pe hs4) wQ))) ?_
 rintro D σ H ⟨p,S,ρ,s,ev,h⟩
 unfold uK at h;split at h
 .rename_i k n v zi zj zl
  cases e3:pI k n v S with
  |none=>rw[e3]at h;exact h.elim
  |some S1=>
   rw[e3]at h;dsimp only at h;have tt:t<ρ.length:=Classical.byContradiction λq=>by
    rw[if_neg q]at h;exact h.elim
   rw[if_pos tt]at h;rw[ev.len]at tt;obtain⟨x,e1,a,e2,rfl⟩:=ev.at_ i _ zi;obtain⟨xj,ej,rj⟩:=ev.at_ j _ zj;obtain rfl:xj=.str n:=by
    have rj:aP X.K p.c H (.str n) xj:=rj;unfold aP at rj;exact rj
   obtain⟨xl,el,rl⟩:=ev.at_ l _ zl;have rl:aP X.K p.c H v xl:=rl;unfold pI at e3;split at e3
   .rename_i ns fs past fut z
    by_cases g:jH k S/\ns.length<16777216/\(qN v=true->n∈ns)
    .rw[if_pos g]at e3
     obtain⟨al,gl,gn⟩:=g;cases e3;obtain⟨dx,bp,bf,u,ps,us,Dk⟩:=qE d s e2 z;have rh:=Gn Dk.rh;unfold aP at rh;obtain⟨d0,vs,rfl,hd0,hl,rv⟩:=rh;have hz:=fG;refine⟨.ref a,e1,a,C,dx,_,.ref d0,rfl,Dk.ins,d.cl,d.h,rfl,d0,cA ns vs,rfl,hd0.1,λdd cO=>?_⟩;have am:a∈p.f:=de e2;have xp:a≠bp:=λq=>Dk.wp.2 (q▸am);have xf:a≠bf:=λq=>Dk.wf.2 (q▸am);have ad:a≠dd:=cU Dk.ins cO;have bpd:bp≠dd:=cU Dk.ap cO;have bfd:bf≠dd:=cU Dk.af cO;have cd:¬(p.c dd\/dd=bf):=λq=>by
      rcases q with q |q
      .obtain⟨o,e,_⟩:=s.mu dd q
       rw[cO]at e;cases e
      .exact bfd q.symm
     have et:(σ.set t (some (.ref dd)))[t]?=some (some (.ref dd)):=fw tt;have e1':(σ.set t (some (.ref dd)))[i]?=some (some (.ref a)):=by rw[fj ti];exact e1
     have ej':(σ.set t (some (.ref dd)))[j]?=some (some (.str n)):=by rw[fj tj];exact ej
     have el':(σ.set t (some (.ref dd)))[l]?=some (some xl):=by rw[fj tl];exact el
     have fin3:∀(ns':List Str)(fs':AH)(vs':List V),ns'.length=vs'.length->aM X.K p.c H fs' vs'->uL n v ns fs=.dct ns' fs'->(yO (yK X.K (pB i) (pB t) "heaps") Rg) D (σ.set t (some (.ref dd))) (aN (aN H dd (.dK (cA ns vs))) dd (.dK (cA ns' vs'))):=λns' fs' vs' hl' rv' ed=>by
      refine⟨.ref dd,et,.ref a,e1',a,C,dx,_,rfl,by rw[gZ ad ad];exact Dk.ins,d.cl,d.h,by show 3<1000;decide,?_⟩;obtain⟨st,sm⟩:=tZ (H':=aN (aN (aN H dd (.dK (cA ns vs))) dd (.dK (cA ns' vs'))) a (.ins C dx [("heaps",.ref dd),("past",.ref bp),("future",.ref bf)])) (u':=.ref dd) (ps':=ps) (fs':=us) (h':=.dct ns' fs') (past':=past) (fut':=fut) (bf':=bf) s e2 z al Dk (λc o e n1 _ _=>by
       have:c≠dd:=cU e cO;rw[aX n1,gZ this this];exact e) cD (by rw[aX xp.symm,gZ bpd bpd];exact Dk.ap) (by rw[aX xf.symm,gZ bfd bfd];exact Dk.af) (.inl rfl) Dk.ne Dk.lp Dk.lf λst=>⟨.cons (by
        unfold aP;exact⟨dd,vs',rfl,⟨by rw[aX ad.symm];exact cD,cd⟩,hl',st.reps rv'⟩) .nil,st.reps Dk.rp,st.reps Dk.rf⟩
      rw[<-ed]at sm;exact h _ _ _ st sm (st.repE ev).setN
     refine⟨xl,el',_,rfl,?_⟩;rw[Iz rl];cases hv:qN v with
     |true=>
      rw[if_pos rfl];have iv:=Oa (k:=n) hl;rw[decide_eq_true (gn hv)]at iv;obtain⟨v0,hv0⟩:=mf.mp iv;refine⟨.ref dd,et,dd,rfl,.inl ⟨_,.inl cD⟩,.str n,ej',cA ns vs,cp n,v0,cD,rfl,hv0,?_⟩;rw[Rm hl];exact fin3 _ (iS n ns fs) _ (Ge hl) (Ud rv) (by unfold uL;rw[hv,if_pos rfl])
     |false=>
      rw[if_neg wg];refine⟨xl,el',.ref dd,et,.str n,ej',dd,_,rfl,vO.k (k:=cp n) cD (by rw[Ga hl];omega),?_⟩;rw[Nf hl]
      by_cases hi:n∈ns
      .rw[if_pos hi]
       exact fin3 _ (gL n v ns fs) _ (by rw[We hl];exact hl) (Ze rl rv) (by unfold uL;rw[hv,if_neg wg,if_pos hi])
      .rw[if_neg hi]
       exact fin3 _ (fs++[v]) _ (by simp[hl]) (rv.append (.cons rl .nil)) (by unfold uL;rw[hv,if_neg wg,if_neg hi])
    .rw[if_neg g]at e3
     cases e3
   .cases e3
 .exact h.elim
def Tg(C:Addr):Sp:=λvs H Q _=>∃x dx,vs=[.ref x]/\H x=some (.ins C dx [])/\∀d b f H',H d=none->H b=none->H f=none->d≠b->d≠f->b≠f->H' x=some (.ins C dx [("heaps",.ref d),("past",.ref b),("future",.ref f)])->H' d=some (.dK [])->H' b=some (.lst [])->H' f=some (.lst [])->(∀c,c≠x->c≠d->c≠b->c≠f->H' c=H c)->Q .non H'
def La(K:aa):TS:=yO (yK K (pB 0) Tq "heaps") (yO (yK K (pB 0) (Ih vJ) "past") (yO (yK K (pB 0) (Ih vJ) "future") Rg))
theorem A4(d:DK X.K C)(ni:pM X 0 nm)
  (hs1:swapsWith (.Dict [] [] q2) (some (.Attribute (.Name nm p1) "heaps" p2)) pos.line X.env=pure false:=by rfl)
  (hs2:swapsWith (.List [] q5) (some (.Attribute (.Name nm q3) "past" q4)) q6.line X.env=pure false:=by rfl)
  (hs3:swapsWith (.List [] q9) (some (.Attribute (.Name nm q7) "future" q8)) q10.line X.env=pure false:=by rfl):
  dH X [.Assign [.Attribute (.Name nm p1) "heaps" p2] (.Dict [] [] q2) pos,.Assign [.Attribute (.Name nm q3) "past" q4] (.List [] q5) q6,.Assign [.Attribute (.Name nm q7) "future" q8] (.List [] q9) q10] (La X.K):=
 mX (uF ni.pe D6 hs1) (mX (uF ni.pe (wZ lZ) hs2) (mX (uF ni.pe (wZ lZ) hs3) wQ))
theorem kM{a b:Addr}{o:HO}(h:aN H a o b=none):b≠a/\H b=none:=by
 have n:b≠a:=λz=>by
  rw[z,cD]at h;cases h
 exact⟨n,by rwa[aX n]at h⟩
theorem D4{D:nP}{σ:St}{x dx:Addr}{Q:VK}(d:DK K C)(e:σ[0]?=some (some (.ref x)))(hx:H x=some (.ins C dx []))(hD:∀σ H',Q .non H'->D.nx σ H')
  (h:∀d b f H',H d=none->H b=none->H f=none->d≠b->d≠f->b≠f->H' x=some (.ins C dx [("heaps",.ref d),("past",.ref b),("future",.ref f)])->H' d=some (.dK [])->H' b=some (.lst [])->H' f=some (.lst [])->(∀c,c≠x->c≠d->c≠b->c≠f->H' c=H c)->Q .non H'):La K D σ H:=by
 intro u hu;have xu:x≠u:=cU hx hu;refine⟨.ref x,e,x,C,dx,[],rfl,by rw[aX xu];exact hx,d.cl,d.h,by decide,cg _,λb hb=>?_⟩;obtain⟨bx,hb⟩:=kM hb;obtain⟨bu,hb⟩:=kM hb;refine⟨.ref x,e,x,C,dx,_,rfl,by rw[aX bx.symm];exact cD,d.cl,d.p,by show 1<1000;decide,cg _,λf hf=>?_⟩;obtain⟨fx,hf⟩:=kM hf;obtain⟨fb,hf⟩:=kM hf;obtain⟨_,hf⟩:=kM hf;obtain⟨fu,hf⟩:=kM hf;refine⟨.ref x,e,x,C,dx,_,rfl,by rw[aX fx.symm];exact cD,d.cl,d.f,by show 2<1000;decide,hD _ _ (h u b f _ hu hb hf bu.symm fu.symm fb.symm cD ?_ ?_ ?_ λc n1 n2 n3 n4=>?_)⟩
 .rw[gZ fu.symm xu.symm,gZ bu.symm xu.symm,aX xu.symm,cD]
 .rw[gZ fb.symm bx,aX bx,cD]
 .rw[aX fx,cD]
 .rw[gZ n4 n1,gZ n3 n1,gZ n2 n1]
end
section
variable{P:Program}{w:ah}{K:aa}{mg:Str->AE}{base:Heap}
theorem ac8{x qual:Str}{st:Stmt}{f:Addr}{fd:ay}{self:Str}{k:Nat}{C:Addr}(d:DK K C)(F:iN K x qual st f fd)(S:gY [self] [self] (bD st))
  (hb:∀(cdv:Value)(A:aj)(outer:List Env)(s:Shared)(H:Hp)(E:XK),bG k (A.deeper (envOfC qual (bD st) s.heap.objs.size f cdv))->dH (aK dS P w K mg base [self] qual (bD st) f cdv A outer s H E).nox (cG st) (La K)):
  bQ P w K mg base dS (k+1) f fd [self] (Tg C):=by
 refine F.ok S (λvs H Q E h=>?_) λcdv A outer s H vs Q E hr h=>⟨_,hb cdv A outer s H E hr,?_⟩
 .obtain⟨x,dx,rfl,_⟩:=h
  rfl
 .obtain⟨x,dx,rfl,hx,h⟩:=h
  exact D4 d (by unfold L2.start;simp) hx (λ_ _ q=>q) h
end
def xX:ME:=λ_ S=>.ok (.ref S.length) (S++[.dsk (.dct [] []) [] []])
section
variable{K:aa}{cl:Str->Addr}{E:XK}{X:Cx}{pos p1:ai}{k:Nat}{f C:Addr}{fd:ay}{ps:List Str}
theorem C0(d:DK X.K C)(M:Mk X.K C f)(F:bQ X.prog X.w X.K X.mg X.base dS k f fd ps (Tg C))(hr:bG (k+1) X.A)(hg:Gl X "Desk")(hm:X.mg "Desk"=some (.ref C))(hb:dD X.K fd ps []):aI K cl E X (.Call (.Name "Desk" p1) [] [] pos) xX:=by
 intro hK;subst hK;refine PE.imp (M4 (dvs:=[]) M F hr hg hm hb .nil vB) ?_
 rintro σ H Q ⟨p,S,ρ,s,ev,h⟩
 intro x dx hx hdx ne;refine⟨x,dx,rfl,cD,λdd b f H' h1 h2 h3 n1 n2 n3 e0 e1 e2 e3 fr=>⟨rfl,?_⟩⟩;obtain⟨dnx,h1⟩:=kM h1;obtain⟨_,h1⟩:=kM h1;obtain⟨bnx,h2⟩:=kM h2;obtain⟨_,h2⟩:=kM h2;obtain⟨fnx,h3⟩:=kM h3;obtain⟨_,h3⟩:=kM h3;have hc:∀c o,H c=some o->c≠x/\c≠dd/\c≠b/\c≠f/\H' c=some o:=λc o e=>by
  have a1:=cU e hx;have a2:=cU e h1;have a3:=cU e h2;have a4:=cU e h3;have a5:=cU e hdx;refine⟨a1,a2,a3,a4,?_⟩;rw[fr c a1 a2 a3 a4,gZ a5 a1];exact e
 have nf:∀{a:Addr},H a=none->¬p.c a:=λ{a} z c=>by
  obtain⟨o,e,_⟩:=s.mu a c;rw[z]at e;cases e
 have nff:∀{a:Addr},H a=none->a∉p.f:=λ{a} z m=>nf z (s.wc _ (s.sub a m));have st:aZ p H ⟨p.f++[x],λa=>p.w a\/a=x\/a=b\/a=f,λa=>p.c a\/a=x\/a=b\/a=f⟩ H':=⟨s.wc,s.mu,⟨[x],rfl⟩,λa z=>.inl z,λa z=>.inl z,λa z n=>by
   rcases cf.mp z with z |z
   .exact absurd z n
   .rw[ja.mp z];exact hx,λa z n=>by
   rcases z with z |rfl |rfl |rfl
   .exact absurd z n
   .exact hx
   .exact h2
   .exact h3,λa z n=>by
   rcases z with z |rfl |rfl |rfl
   .exact absurd z n
   .exact hx
   .exact h2
   .exact h3,λa o e _=>(hc a o e).2.2.2.2⟩
 have l1:p.f.length=S.length:=s.len;refine h _ H' (.ref x) st ⟨?_,?_,λa z=>?_,λa z=>z.imp (s.wc a) id,λa z=>?_,λj a o f1 f2=>?_⟩ ⟨x,?_,rfl⟩
 .show(p.f++[x]).Nodup
  rw[lg];refine⟨s.nd,by simp,λu hu v hv q=>?_⟩;rw[ja.mp hv]at q;exact nff hx (q▸hu)
 .show(p.f++[x]).length=_
  rw[cb,cb,l1];rfl
 .rcases cf.mp z with z |z
  .exact .inl (s.sub a z)
  .exact .inr (.inl (ja.mp z))
 .rcases z with z |rfl |rfl |rfl
  .obtain⟨o,e,m⟩:=s.mu a z
   exact⟨o,(hc a o e).2.2.2.2,m⟩
  .exact⟨_,e0,trivial⟩
  .exact⟨_,e2,trivial⟩
  .exact⟨_,e3,trivial⟩
 .have f1:(p.f++[x])[j]?=some a:=f1
  by_cases hj:j<S.length
  .rw[fh (by rw[l1];exact hj)]at f1
   rw[fh hj]at f2;refine(s.obj j a o f1 f2).mono (λo e=>(hc a o e).2.2.2.2) (λu w f=>⟨⟨.inl w,λm=>?_⟩,λvs e=>(hc u _ e).2.2.2.2⟩) λ_ _=>st.reps;rcases cf.mp m with z |z
   .exact f z
   .obtain⟨o,e,_⟩:=s.mu u (s.wc _ w)
    rw[ja.mp z,hx]at e;cases e
  .have hj':j=S.length:=by
    have:=(cq.mp f2).1;rw[cb,qg]at this;omega
   subst hj';rw[dg (by rw[l1];exact ak _),l1,ft]at f1;rw[dg (ak _),ft]at f2;cases f1;cases f2;have nw:∀{a:Addr},H a=none->a≠x->a∉p.f++[x]:=λ{a} z n m=>by
    rcases cf.mp m with q |q
    .exact nff z q
    .exact n (ja.mp q)
   refine⟨C,dx,b,f,.ref dd,[],[],e0,d.nm,.cons ?_ .nil,n3,⟨.inr (.inr (.inl rfl)),nw h2 bnx⟩,⟨.inr (.inr (.inr rfl)),nw h3 fnx⟩,e2,e3,cg _,cg _,.nil,.nil⟩;unfold aP;refine⟨dd,[],rfl,⟨e1,λz=>?_⟩,rfl,.nil⟩;rcases z with z |z |z |z
   .exact nf h1 z
   .exact dnx z
   .exact n1 z
   .exact n2 z
 .show(p.f++[x])[S.length]?=some x
  rw[<-l1,dg (ak _),ft];rfl
end
def gW(g:FM)(mo:ME)(ms:MA):ME:=λρ S=>(mo ρ S).bind λx S1=>match x with
 |.ref k=>(match S1[k]? with
  |some (.dsk _ _ _)=>(ms ρ S1).bind λxs S2=>frz S2.length (g (.ref k::xs) S2)
  |_=>.fail)
 |_=>.fail
def uP(g:FM)(mo:ME)(ms:MA):ME:=λρ S=>(mo ρ S).bind λx S1=>match x with
 |.ref k=>(match S1[k]? with
  |some (.dsk _ _ _)=>(ms ρ S1).bind λxs S2=>frz S2.length (iT (g (.ref k::xs) S2))
  |_=>.fail)
 |_=>.fail
def Wb(P:Program)(w:ah)(K:aa)(mg:Str->AE)(base:Heap)(cl:Str->Addr)(C:Addr)(m:Str)(k:Nat)(ps:List Str)(g:FM):Prop:=∃(a:Addr)(d:ay),bQ P w K mg base (aJ P w) k a d ps (jM K cl g)/\bQ P w K mg base dS k a d ps (kL K cl g)/\dD K d ps []/\rF K C m a
def Wr(P:Program)(w:ah)(K:aa)(mg:Str->AE)(base:Heap)(cl:Str->Addr)(C:Addr)(m:Str)(k:Nat)(ps:List Str)(g:FM):Prop:=∃(a:Addr)(d:ay),bQ P w K mg base dS k a d ps (kL K cl g)/\dD K d ps []/\rF K C m a
def oS(m:Str):Prop:=∀u v w:V,je m [(("heaps":Str),u),("past",v),("future",w)]=none
section
variable{cl:Str->Addr}{E:XK}{X:Cx}{C:Addr}{mo:ME}{ms:MA}{m:Str}{k:Nat}{g:FM}
theorem Gf{sp:Sp}{dE:XK}{t:TA}{σ:St}{H:Hp}{Q:VK}{f:FM->ME->MA->ME}(d:DK X.K C)(hl:oS m){r:Nat->AK->aL->bA AV}
  (hf:∀ρ S,f g mo ms ρ S=(mo ρ S).bind λx S1=>match x with
   |.ref k=>(match S1[k]? with
    |some (.dsk _ _ _)=>(ms ρ S1).bind λxs S2=>r k xs S2
    |_=>.fail)
   |_=>.fail)
  (ht:∀σ H Q,tP X.K cl E (fY X.K) ms σ H Q->t σ H Q)
  (hr:∀{p:Ph}{S:aL}{H:Hp}{k:Nat}{a:Addr}{xs:AK}{vs:List V},aO X.K p S H->p.f[k]?=some a->fY X.K p H xs vs->aU X.K cl (bI X.K) p H (r k xs S) Q E->sp (.ref a::(vs++[])) H Q dE)
  (h:tP X.K cl E (bI X.K) (f g mo ms) σ H Q):Gb C m sp [] dE (tP X.K cl E (bI X.K) mo) t σ H Q:=by
 obtain⟨p,S,ρ,s,ev,h⟩:=h;rw[hf]at h;refine aY s ev h λq H1 x y S1 st s1 e1 r1 h1=>?_;cases x with
 |pv v=>exact h1.elim
 |ref j=>
  obtain⟨a,ea,rfl⟩:=r1;dsimp only at h1;cases z:S1[j]? with
  |none=>rw[z]at h1;exact h1.elim
  |some u=>
   cases u with
   |dsk h0 past fut=>
    rw[z]at h1;obtain⟨dx,bp,bf,u,us,fs,D⟩:=qE d s1 ea z;refine⟨a,dx,_,rfl,D.ins,hl _ _ _,ht _ _ _ (aY s1 e1 h1 λq2 H2 xs vs S2 st2 s2 e2 r2 h2=>?_)⟩;exact hr s2 (st2.at_ ea) r2 h2
   |_=>rw[z]at h1;exact h1.elim
end
section
variable{cl:Str->Addr}{X:Cx}{C:Addr}{o e:ae}{es:List ae}{mo:ME}{ms:MA}{m:Str}{k k0:Nat}{ps:List Str}{g:FM}{pos apos:ai}{pl:bt Bool}
theorem abJ{E:XK}(d:DK X.K C)(M:Wr X.prog X.w X.K X.mg X.base cl C m k ps g)(hl:oS m)(hr:bG k0 X.A)(hk:k<=k0)(ho:aI X.K cl E X o mo)(ha:cM X.K cl E X (e::es) ms)
  (hst:starEach (e::es) X.env=(false,eval e X.env)::starEach es X.env:=by rfl)(hpl:(backTo pos (starEach es X.env)).any (·.1)=false:=by rfl)
  (ht:eval (.Call (.Attribute o m apos) (e::es) [] pos) X.env=(do
   let ov <-eval o X.env
   standAt apos.atName
   let (f,first) <-holding [ov] (getMethod ov m pl)
   callWith pos f first (backTo pos (starEach (e::es) X.env)) (backToKw pos (keywordEach [] X.env))):=by rfl):aI X.K cl E X (.Call (.Attribute o m apos) (e::es) [] pos) (uP g mo ms):=by
 obtain⟨a,fd,F,b,hM⟩:=M;intro _;exact PE.imp (Ip (dvs:=[]) (ho rfl) d.cl hM F (hr.mono hk) b .nil vB (ha rfl) hst hpl ht) λσ H Q h=>Gf d hl (r:=λk xs S2=>frz S2.length (iT (g (.ref k::xs) S2))) (f:=uP) (λ_ _=>rfl) (λ_ _ _ q=>q) (λ{p S H k a xs vs} s ea r h=>⟨p,S,.ref k::xs,s,.cons ⟨a,ea,rfl⟩ (by rw[ia];exact r),zO (mV s h)⟩) h
end
section
variable{P:Program}{w:ah}{K:aa}{mg:Str->AE}{base:Heap}{cl:Str->Addr}{N:List Str}{qual:Str}{scope:Scope}{fo:Addr}{cd:Value}{A:aj}{outer:List Env}{AM:Shared}{AN:Hp}{E:XK}{C:Addr}{o e:ae}{es:List ae}{mo:ME}{ms:MA}{m:Str}{k k0:Nat}{ps:List Str}{g:FM}{pos apos:ai}{pl:bt Bool}
abbrev cZ(P:Program)(w:ah)(K:aa)(mg:Str->AE)(base:Heap)(N:List Str)(qual:Str)(scope:Scope)(fo:Addr)(cd:Value)(A:aj)(outer:List Env)(AM:Shared)(AN:Hp)(E:XK):Cx:=aK (aJ P w) P w K mg base N qual scope fo cd A outer AM AN E
theorem acW(d:DK K C)(M:Wb P w K mg base cl C m k ps g)(hl:oS m)(hr:bG k0 (cZ P w K mg base N qual scope fo cd A outer AM AN E).A)(hk:k<=k0)(ho:aI K cl E (cZ P w K mg base N qual scope fo cd A outer AM AN E) o mo)(ha:cM K cl E (cZ P w K mg base N qual scope fo cd A outer AM AN E) (e::es) ms)
  (hst:starEach (e::es) (cZ P w K mg base N qual scope fo cd A outer AM AN E).env=(false,eval e (cZ P w K mg base N qual scope fo cd A outer AM AN E).env)::starEach es (cZ P w K mg base N qual scope fo cd A outer AM AN E).env:=by rfl)(hpl:(backTo pos (starEach es (cZ P w K mg base N qual scope fo cd A outer AM AN E).env)).any (·.1)=false:=by rfl)
  (ht:eval (.Call (.Attribute o m apos) (e::es) [] pos) (cZ P w K mg base N qual scope fo cd A outer AM AN E).env=(do
   let ov <-eval o (cZ P w K mg base N qual scope fo cd A outer AM AN E).env
   standAt apos.atName
   let (f,first) <-holding [ov] (getMethod ov m pl)
   callWith pos f first (backTo pos (starEach (e::es) (cZ P w K mg base N qual scope fo cd A outer AM AN E).env)) (backToKw pos (keywordEach [] (cZ P w K mg base N qual scope fo cd A outer AM AN E).env))):=by rfl):aI K cl E (cZ P w K mg base N qual scope fo cd A outer AM AN E) (.Call (.Attribute o m apos) (e::es) [] pos) (gW g mo ms):=by
 obtain⟨a,fd,F,_,b,hM⟩:=M;intro hK;exact PE.imp (Ip (dvs:=[]) (ho hK) d.cl hM F (hr.mono hk) b .nil Ab (ha hK) hst hpl ht) λσ H Q h=>Gf (X:=cZ P w K mg base N qual scope fo cd A outer AM AN E) (E:=E) d hl (r:=λk xs S2=>frz S2.length (g (.ref k::xs) S2)) (f:=gW) (λ_ _=>rfl) (λ_ _ _ q=>q) (λ{p S H k a xs vs} s ea r h=>⟨p,S,.ref k::xs,s,.cons ⟨a,ea,rfl⟩ (by rw[ia];exact r),mV s h⟩) h
theorem aax(d:DK K C)(M:Wb P w K mg base cl C m k ps g)(hl:oS m)(hr:bG k0 (cZ P w K mg base N qual scope fo cd A outer AM AN E).A)(hk:k<=k0)(ho:aI K cl E (cZ P w K mg base N qual scope fo cd A outer AM AN E) o mo)
  (ht:eval (.Call (.Attribute o m apos) [] [] pos) (cZ P w K mg base N qual scope fo cd A outer AM AN E).env=(do
   let ov <-eval o (cZ P w K mg base N qual scope fo cd A outer AM AN E).env
   standAt apos.atName
   let (f,first) <-holding [ov] (getMethod ov m pl)
   callWith pos f first (backTo pos (starEach [] (cZ P w K mg base N qual scope fo cd A outer AM AN E).env)) (backToKw pos (keywordEach [] (cZ P w K mg base N qual scope fo cd A outer AM AN E).env))):=by rfl):aI K cl E (cZ P w K mg base N qual scope fo cd A outer AM AN E) (.Call (.Attribute o m apos) [] [] pos) (gW g mo aG):=by
 obtain⟨a,fd,F,_,b,hM⟩:=M;intro hK;exact PE.imp (M3 (dvs:=[]) (ho hK) d.cl hM F (hr.mono hk) b .nil Ab ht) λσ H Q h=>Gf (X:=cZ P w K mg base N qual scope fo cd A outer AM AN E) (E:=E) d hl (r:=λk xs S2=>frz S2.length (g (.ref k::xs) S2)) (f:=gW) (λ_ _=>rfl) (λσ H Q q=>by
  obtain⟨p,S,ρ,s,ev,q⟩:=q;exact aU.ret (R:=fY K) q s .nil) (λ{p S H k a xs vs} s ea r h=>⟨p,S,.ref k::xs,s,.cons ⟨a,ea,rfl⟩ (by rw[ia];exact r),mV s h⟩) h
end
end L2.Pp
namespace L2
open PySem PySem.Spec PyProof.Rows Bn
def kA(prog:Program)(w:ah)(K:aa)(mg:Str->AE)(x:Str)(ns:List Str)(us:AD):Prop:=ns.length=us.length/\∃a,mg x=some (.ref a)/\(a==sysModules)=false/\∀h:Heap,K.In h->h.DictOf (strKind prog w) a (ns.zip us)
theorem Sd{k:Str}:∀{ns:List Str}{us:AD},ns.length=us.length->(valueAt (ns.zip us) k).isSome=decide (k∈ns)
 |[],_,_=>by simp[valueAt]
 |n::ns,[],h=>by simp at h
 |n::ns,u::us,h=>by
  have ih:=Sd (k:=k) (ns:=ns) (us:=us) (by simpa using h);unfold valueAt at ih⊢;rw[jl,iy]
  by_cases z:n=k
  .simp[z]
  .simp only[z,decide_false,ih]
   simp[dw z]
section
variable{X:Cx}{x:Str}{ns:List Str}{us:AD}{e:ae}{es:List ae}{ta:TE}{t:TA}{pos p1 p2:ai}
theorem aac(G:kA X.prog X.w X.K X.mg x ns us)(hg:Gl X x)(ha:PE X e ta)(hd:(x==("__debug__":Str))=false:=by decide):PC X .In e (.Name x pos) (λσ H Q=>ta σ H λy H1=>∃k:Str,y=.str k/\Q (.bl (decide (k∈ns))) H1):=by
 obtain⟨hl,a,hm,hs,dd⟩:=G;intro AL s σ H Q I h;refine aR (ha AL s σ H _ I h) λiv s1 ⟨y,H1,I1,ry,k,ey,q1⟩=>aR (wK (v:=.ref a) hg hm rfl hd AL s1 σ H1 (λz H2=>z=.ref a/\Q (.bl (decide (k∈ns))) H2) I1 ⟨rfl,q1⟩) ?_
 rintro u s2 ⟨z,H2,I2,rz,ez,q2⟩
 subst ey ez;obtain⟨tk,rfl⟩:=ry;obtain rfl:u=az a:=rz;refine wpAny_in_of (ng _ _ k tk) hs (dd _ I2.kIn).mapOf ?_;rw[Sd hl];exact⟨.bl (decide (k∈ns)),H2,I2.tok _,rfl,q2⟩
theorem A7(G:kA X.prog X.w X.K X.mg x ns us)(hg:Gl X x)(ha:PE X e ta)(hd:(x==("__debug__":Str))=false:=by decide):PC X .NotIn e (.Name x pos) (λσ H Q=>ta σ H λy H1=>∃k:Str,y=.str k/\Q (.bl (!decide (k∈ns))) H1):=by
 obtain⟨hl,a,hm,hs,dd⟩:=G;intro AL s σ H Q I h;refine aR (ha AL s σ H _ I h) λiv s1 ⟨y,H1,I1,ry,k,ey,q1⟩=>aR (wK (v:=.ref a) hg hm rfl hd AL s1 σ H1 (λz H2=>z=.ref a/\Q (.bl (!decide (k∈ns))) H2) I1 ⟨rfl,q1⟩) ?_
 rintro u s2 ⟨z,H2,I2,rz,ez,q2⟩
 subst ey ez;obtain⟨tk,rfl⟩:=ry;obtain rfl:u=az a:=rz;refine wpAny_notIn_of (ng _ _ k tk) hs (dd _ I2.kIn).mapOf ?_;rw[Sd hl];exact⟨.bl (!decide (k∈ns)),H2,I2.tok _,rfl,q2⟩
theorem Go(G:kA X.prog X.w X.K X.mg x ns us)(hg:Gl X x)(hi:PE X e ta)(hs:mI e)(hd:(x==("__debug__":Str))=false:=by decide):PE X (.Subscript (.Name x p1) e pos) (λσ H Q=>ta σ H λy H1=>∃(k:Str)(u:Value)(v:V),y=.str k/\valueAt (ns.zip us) k=some u/\aT v u/\Q v H1):=by
 obtain⟨hl,a,hm,hz,dd⟩:=G;intro AL s σ H Q I h;refine Oo yy.lookup hs (aR (wK (v:=.ref a) hg hm rfl hd AL s σ H (λz H2=>z=.ref a/\ta σ H2 λy H1=>∃(k:Str)(u:Value)(v:V),y=.str k/\valueAt (ns.zip us) k=some u/\aT v u/\Q v H1) I ⟨rfl,h⟩) λu s1 ⟨z,H1,I1,rz,ez,q1⟩=>aR (hi AL s1 σ H1 _ I1 q1) λiv s2 hq=>?_);rcases hq with⟨y,H2,I2,ry,k,w,v,ey,hw,rw',q2⟩;subst ez ey;obtain⟨tk,rfl⟩:=ry;obtain rfl:u=az a:=rz;exact⟨(dd _ I2.kIn).typeIs,wpAny_getItem_of (ng _ _ k tk) (dd _ I2.kIn).mapOf hw ⟨v,H2,I2.tok _,rw',q2⟩⟩
theorem M7{CX:jA}{E:XK}{ti:TE}{i:ae}(G:kA X.prog X.w X.K X.mg x ns us)(hg:Gl X x)(hi:PE X i ti)(hs:mI i)(hx:fV CX X E)(ha:PA X (e::es) t)
  (hst:starEach (e::es) X.env=(false,eval e X.env)::starEach es X.env:=by rfl)(hpl:(backTo pos (starEach es X.env)).any (·.1)=false:=by rfl)(hd:(x==("__debug__":Str))=false:=by decide)
  (hk:backToKw pos (keywordEach [] X.env)=[]:=by rfl):PE X (.Call (.Subscript (.Name x p1) i p2) (e::es) [] pos) (λσ H Q=>ti σ H λy H1=>∃(n:Str)(u:Value)(v:V),y=.str n/\valueAt (ns.zip us) n=some u/\aT v u/\∃(f:Addr)(fd:ay)(ps:List Str)(sp:Sp)(k:Nat),v=.ref f/\bQ X.prog X.w X.K X.mg X.base CX k f fd ps sp/\bG k X.A/\dD X.K fd ps []/\bo X.K (.ref f)=true/\t σ H1 λvs H2=>sp (vs++[]) H2 Q E):=by
 intro AL s σ H Q I h;refine Call_ (aR (Go G hg hi hs hd AL s σ H (λv H1=>∃(f:Addr)(fd:ay)(ps:List Str)(sp:Sp)(k:Nat),v=.ref f/\bQ X.prog X.w X.K X.mg X.base CX k f fd ps sp/\bG k X.A/\dD X.K fd ps []/\bo X.K (.ref f)=true/\t σ H1 λvs H2=>sp (vs++[]) H2 Q E) I h) λu s1 hq=>?_);rcases hq with⟨v,H1,I1,rv,f,fd,ps,sp,k,ev,F,hr,hb,hkp,q1⟩;subst ev;obtain rfl:u=az f:=rv;rw[<-hk];refine ow (h₀:=X.base) I.ok.mod.kin hkp (aR (ha pos AL s1 σ H1 _ I1 q1) λus s2 ⟨vs,H2,I2,r,q⟩=>⟨I2.kIn,?_⟩) hst hpl;exact xH F hr hb .nil hx I2 r q
end
end L2
namespace L2.Pp
open PySem PySem.Spec PyProof.Rows Bn
def lG(neg:Bool)(ns:List Str)(m:ME):ME:=λρ S=>(m ρ S).bind λx S1=>match x with
 |.pv (.str k)=>.ok (.pv (.bl (if neg=true then !decide (k∈ns)else decide (k∈ns)))) S1
 |_=>.fail
def xY(ns:List Str)(fs:AH)(m:ME):ME:=λρ S=>(m ρ S).bind λx S1=>match x with
 |.pv (.str k)=>gA (iF ns fs k) S1
 |_=>.fail
def uO:List (Str×FM)->Str->Option FM
 |(n,g)::r,k=>if n=k then some g else uO r k
 |[],_=>none
def xF(gs:List (Str×FM))(mi:ME)(ms:MA):ME:=λρ S=>(mi ρ S).bind λx S1=>match x with
 |.pv (.str k)=>(match uO gs k with
  |some g=>(ms ρ S1).bind λxs S2=>frz S2.length (g xs S2)
  |none=>.fail)
 |_=>.fail
section
variable{K:aa}{cl:Str->Addr}{E:XK}{X:Cx}{x:Str}{ns:List Str}{us:AD}{e:ae}{m:ME}{pos p1:ai}
theorem qI{c:Addr->Prop}{H:Hp}{k:Str}{x:V}(r:aP K c H (.str k) x):x=.str k:=by
 unfold aP at r;exact r
theorem abk(G:kA X.prog X.w X.K X.mg x ns us)(hg:Gl X x)(ha:aI K cl E X e m)(h1:behindInMarks .In (.Name x p1)=false:=by first |exact zX _ (by decide) (by decide) |rfl)(hd:(x==("__debug__":Str))=false:=by decide):cR K cl E X (.Compare e [.In] [.Name x p1] pos) (aV (lG false ns m)):=by
 intro hK;subst hK;refine PT.imp (Ka (aac G hg (ha rfl) hd) h1) ?_
 rintro σ H Q ⟨p,S,ρ,s,ev,h⟩
 have h:aU X.K cl RB p H ((m ρ S).bind λx S1=>(match x with
  |.pv (.str k)=>bA.ok (AV.pv (.bl (if false=true then !decide (k∈ns)else decide (k∈ns)))) S1
  |_=>.fail).bind lL) Q E:=by
  unfold aV lG at h;cases z:m ρ S with
  |ok a S1=>rw[z]at h;exact h
  |exc n S1=>rw[z]at h;exact h
  |fail=>rw[z]at h;exact h
 refine aY s ev h λq H1 x y S1 st s1 e1 r1 h1=>?_;split at h1
 .rename_i k
  have r1:aP X.K q.c H1 (.str k) y:=r1;exact⟨k,qI r1,_,rfl,aU.ret (R:=RB) h1 s1 rfl⟩
 .exact h1.elim
theorem D3(G:kA X.prog X.w X.K X.mg x ns us)(hg:Gl X x)(ha:aI K cl E X e m)(h1:behindInMarks .NotIn (.Name x p1)=false:=by first |exact zX _ (by decide) (by decide) |rfl)(hd:(x==("__debug__":Str))=false:=by decide):cR K cl E X (.Compare e [.NotIn] [.Name x p1] pos) (aV (lG true ns m)):=by
 intro hK;subst hK;refine PT.imp (Ka (A7 G hg (ha rfl) hd) h1) ?_
 rintro σ H Q ⟨p,S,ρ,s,ev,h⟩
 have h:aU X.K cl RB p H ((m ρ S).bind λx S1=>(match x with
  |.pv (.str k)=>bA.ok (AV.pv (.bl (if true=true then !decide (k∈ns)else decide (k∈ns)))) S1
  |_=>.fail).bind lL) Q E:=by
  unfold aV lG at h;cases z:m ρ S with
  |ok a S1=>rw[z]at h;exact h
  |exc n S1=>rw[z]at h;exact h
  |fail=>rw[z]at h;exact h
 refine aY s ev h λq H1 x y S1 st s1 e1 r1 h1=>?_;split at h1
 .rename_i k
  have r1:aP X.K q.c H1 (.str k) y:=r1;exact⟨k,qI r1,_,rfl,aU.ret (R:=RB) h1 s1 rfl⟩
 .exact h1.elim
theorem Ln{k:Str}{w:PV}{c:Addr->Prop}{H:Hp}:∀{ns:List Str}{fs:AH}{vs:List V}{us:AD},aM K c H fs vs->aS vs us->iF ns fs k=some w->∃u v,valueAt (ns.zip us) k=some u/\aT v u/\aP K c H w v
 |[],fs,_,_,_,_,e=>by unfold iF at e;cases e
 |_::_,[],_,_,_,_,e=>by unfold iF at e;cases e
 |n::ns,f::fs,vs,us,r,rv,e=>by
  unfold aM at r;obtain⟨v,vs',rfl,h,t⟩:=r;cases rv with
  |@cons _ u _ us' g t2=>
   unfold iF at e;unfold valueAt;rw[jl,iy];split at e
   .rename_i z
    cases e;exact⟨u,v,by simp[z],g,h⟩
   .rename_i z
    obtain⟨u2,v2,a,b,c⟩:=Ln t t2 e;exact⟨u2,v2,by simpa[z,valueAt]using a,b,c⟩
theorem V5{fs:AH}{vs:List V}(G:kA X.prog X.w X.K X.mg x ns us)(hv:aS vs us)(hr:∀c H,aM K c H fs vs)(hg:Gl X x)(ha:aI K cl E X e m)(hs:mI e:=by intro _ _;rfl)(hd:(x==("__debug__":Str))=false:=by decide):aI K cl E X (.Subscript (.Name x p1) e pos) (xY ns fs m):=by
 intro hK;subst hK;refine PE.imp (Go G hg (ha rfl) hs hd) ?_
 rintro σ H Q ⟨p,S,ρ,s,ev,h⟩
 refine aY s ev h λq H1 x y S1 st s1 e1 r1 h1=>?_;split at h1
 .rename_i k
  have r1:aP X.K q.c H1 (.str k) y:=r1;cases z:iF ns fs k with
  |none=>rw[z]at h1;exact h1.elim
  |some w=>
   rw[z]at h1;obtain⟨u,v,a,b,c⟩:=Ln (hr q.c H1) hv z;exact⟨k,u,v,qI r1,a,b,aU.ret (R:=bI X.K) h1 s1 c⟩
 .exact h1.elim
end
end L2.Pp
namespace L2
open PySem PySem.Spec PySem.W PyProof.Rows Bn
section
variable{K:aa}{x t D C1 C2:Addr}{b1 b2:Bool}
theorem Ql{M:gg}{h:Heap}{C:Addr}(X:K.In h)(Zc:(clsIn K C).isSome=true)(be:mroIn K C (.type "BaseException")=some true):Looks M h (isExcClass (.ref C)) true:=by
 have ty:Looks M h (isType (.ref C)) true:=by
  obtain⟨cd,hc⟩:=mf.mp Zc;unfold clsIn at hc;split at hc
  .rename_i _ _ _ _ ho
   exact(va (X _ _ ho)).andThen .now
  .cases hc
 exact ty.andThen (ji X be)
theorem K4{M:gg}{A:aj}{E:Value->Shared->Prop}{s:Shared}{o:Obj}{nn:Nat}{Q:Bool->Shared->Prop}(X:K.In s.heap)(I:nK s.heap x D)(ho:s.heap.get? t=some o)(hc:o.cls=.type "tuple")(hd:o.data=.seq #[.ref C1,.ref C2] nn)
  (Z1:(clsIn K C1).isSome=true)(B1:mroIn K C1 (.type "BaseException")=some true)(Z2:(clsIn K C2).isSome=true)(B2:mroIn K C2 (.type "BaseException")=some true)(e1:mroIn K D (.ref C1)=some b1)(e2:mroIn K D (.ref C2)=some b2)(h:Q (b1||b2) s):wpAny M A (excMatches (.ref x) (.ref t)) Q E s:=by
 unfold excMatches;refine ag (wpAny_isInstance ⟨o,ho,hc⟩ isSubtype_tuple_tuple ?_);dsimp only;rw[if_pos rfl];refine ag (iu ho hd ?_);dsimp only[zt,Option.getD];refine ag (aq ?_);refine Looks.at ?_ h;refine dt (a:=wj) ?_ ?_
 .rw[ig]
  refine dt (a:=jy wj) (dt (Ql X Z1 B1) ?_) ?_
  .exact .now
  .dsimp only
   rw[ig];refine dt (a:=jy wj) (dt (Ql X Z2 B2) ?_) ?_
   .exact .now
   .exact .now
 .refine I.ty.andThen ?_
  cases b1 with
  |true=>
   refine dt (a:=(some true,())) ?_ .now;rw[ig];refine dt (a:=c6 (some true,())) (dt (ji X e1) ?_) ?_
   .exact .now
   .exact .now
  |false=>
   cases b2 with
   |true=>
    refine dt (a:=(some true,())) ?_ .now;rw[ig];refine dt (a:=jy (none,())) (dt (ji X e1) ?_) ?_
    .exact .now
    .dsimp only
     rw[ig];refine dt (a:=c6 (some true,())) (dt (ji X e2) ?_) ?_
     .exact .now
     .exact .now
   |false=>
    refine dt (a:=(none,())) ?_ .now;rw[ig];refine dt (a:=jy (none,())) (dt (ji X e1) ?_) ?_
    .exact .now
    .dsimp only
     rw[ig];refine dt (a:=jy (none,())) (dt (ji X e2) ?_) ?_
     .exact .now
     .exact .now
end
theorem Uw{B h h':Heap}{l:List Env}{y:Addr}{cls a0:Value}(fl:qa B l y cls a0 h)(k:∀b o,h.get? b=some o->h'.get? b=some o):qa B l y cls a0 h':=by
 obtain⟨f1,f2,f3,oe,vs,T,oT,ts,a1,a2,a3,a4,a5,a6,a7,a8⟩:=fl;exact⟨λb o q=>k _ _ (f1 b o q),f2,f3.of_keeps λb o q _=>⟨o,k b o q,rfl⟩,oe,vs,T,oT,ts,k _ _ a1,a2,a3,a4,a5,a6,k _ _ a7,a8⟩
structure pO(K:Frag)(cl:Str->Addr)(ns:List Str):Prop where
 db:∀c∈ns,(c==("__debug__":Str))=false
 ci:∀c∈ns,(clsIn K (cl c)).isSome=true
 be:∀c∈ns,mroIn K (cl c) (.type "BaseException")=some true
 no:∀c∈ns,∀d∈ns,mroIn K (cl c) (.ref (cl d))=some (decide (c=d))
 xc:∀c∈ns,rH K (cl c)
 ki:∀c∈ns,∀d∈ns,kitOne K (.ref (cl c)) (.ref (cl d))=some (decide (c=d))
inductive vR(X:Cx)(cl:Str->Addr)(ns:List Str)(n:Str):List ik->List ((Str×Str)×(Str->Addr->Obj->TS))->Prop
 |nil:vR X cl ns n [] []
 |cons {c1 c2:Str} {p1 p2 p3 p4:ai} {x1:_} {AR:Stmt} {body:List Stmt} {ts:Str->Addr->Obj->TS} {hs:List ik} {ms:List ((Str×Str)×(Str->Addr->Obj->TS))} (m1:c1∈ns) (m2:c2∈ns) (g1:Gl X c1) (g2:Gl X c2) (e1:X.mg c1=some (.ref (cl c1))) (e2:X.mg c2=some (.ref (cl c2)))
   (hp:∀c,c=c1\/c=c2->∀y oe,oe.cls=.ref (cl c)->dH (X.mk1 y [(y,oe)]) (AR::body) (ts c y oe)) (r:vR X cl ns n hs ms) (hst:starEach [.Name c1 p1,.Name c2 p2] X.env=[(false,eval (.Name c1 p1) X.env),(false,eval (.Name c2 p2) X.env)]:=by rfl):
   vR X cl ns n (.ExceptHandler (some (.Tuple [.Name c1 p1,.Name c2 p2] x1 p3)) (some n) (AR::body) p4::hs) (((c1,c2),ts)::ms)
def qO(m:Str):List ((Str×Str)×(Str->Addr->Obj->TS))->Option (Str->Addr->Obj->TS)
 |((a,b),t)::r=>if m=a\/m=b then some t else qO m r
 |[]=>none
section
variable{X:Cx}{cl:Str->Addr}{ns:List Str}{n m:Str}{i:Nat}{y:Addr}{tt:Value}{B:Heap}{AL:List (Addr×Obj)}{σ:St}{H':Hp}{s':Shared}{D:nP}
theorem Kr{ts:Str->Addr->Obj->TS}(N:pO X.K cl ns)(hm:m∈ns)(stk:X.stack=X.env::X.outer)(hN:X.N.Nodup)(hi:X.N[i]?=some n)(hk:X.env.scope.names.lookup n=some .local)(hfr:X.env.frame=some X.env.locals)(ok:X.Ok)
  (back:∀h5,B.StaysIn h5->s'.heap.UpToSlots h5->aF X AL σ H' {s' with heap:=h5})(hy:H' y=none):∀{hs:List ik}{ms:List ((Str×Str)×(Str->Addr->Obj->TS))}{h3:Heap},vR X cl ns n hs ms->qa B (X.env::X.outer) y (.ref (cl m)) tt h3->s'.heap.UpToSlots h3->qO m ms=some ts->
  (∀oe,oe.cls=.ref (cl m)->ts m y oe {nx:=λσ' H'=>D.nx (σ'.set i none) H',rt:=D.rt,bk:=λσ' H'=>D.bk (σ'.set i none) H',ct:=λσ' H'=>D.ct (σ'.set i none) H'} (σ.set i (some (.ref y))) H')->
  wpAny (model X.prog X.w) X.A (handleBy (.ref y) X.env hs) (SP X AL D) X.xe {s' with heap:=h3}
 |_,_,_,.nil,_,_,e,_=>by cases e
 |_,_,h3,.cons (c1:=c1) (c2:=c2) (ts:=ts0) m1 m2 g1 g2 e1 e2 hp r hst,fl3,up3,e,hts=>by
  have I3:=back h3 fl3.1 up3;refine wpAny_handleBy_cons ?_ (by intro z;cases z);refine codeAny_handlers_test (sy ?_);rw[hst];refine ko (qC (X:=X.mk1 y []) (I3.mk1 y [] λp hp=>nomatch hp) g1 e1 ?_ (N.db _ m1));refine ko (qC (X:=X.mk1 y []) (I3.mk1 y [] λp hp=>nomatch hp) g2 e2 ?_ (N.db _ m2));refine ou ⟨(by decide:2<=sizeLine),?_⟩;have kp:∀b o,h3.get? b=some o->(h3.push {cls:=.type "tuple",data:=.seq [az (cl c1),az (cl c2)].toArray}).get? b=some o:=λb o q=>ao _ q;have fl4:=Uw fl3 kp;have up4:=up3.trans (Heap.UpToSlots.of_keeps kp);have I4:=back _ fl4.1 up4;have of:nK (h3.push {cls:=.type "tuple",data:=.seq [az (cl c1),az (cl c2)].toArray}) y (cl m):=by
   obtain⟨oe,vs,TT,oT,tts,hoe,⟨hcls,_⟩,hdat,_⟩:=fl4.2.2.2;exact⟨oe,hoe,hcls⟩
  refine K4 I4.kIn of (bn _ rfl) rfl rfl (N.ci _ m1) (N.be _ m1) (N.ci _ m2) (N.be _ m2) (N.no _ hm _ m1) (N.no _ hm _ m2) ?_
  by_cases z:m=c1\/m=c2
  .have e:some ts0=some ts:=by
    rw[qO,if_pos z]at e;exact e
   cases e;have hb:(decide (m=c1)||decide (m=c2))=true:=by simpa using z
   rw[hb];refine codeAny_handlers_suite_as (lands_againW (base:=B) fl4 λh5 fl5 up5=>?_);have I5:=back h5 fl5.1 (up4.trans up5);obtain⟨oe,vs,TT,oT,tts,hoe,⟨hcls,_⟩,hdat,_⟩:=fl5.2.2.2;have I6:aF (X.mk1 y [(y,oe)]) AL σ H' {s' with heap:=h5}:=I5.mk1 y [(y,oe)] λp hp=>by
    rw[ja]at hp;subst hp;have nfr:y∉bP X.stack:=λz=>by
     obtain⟨_,o,ho,hd⟩:=I5.stack.mem z;have hoe':h5.get? y=some oe:=hoe;have ho':h5.get? y=some o:=ho;rw[hoe']at ho';cases ho';exact hd vs hdat
    refine⟨hoe,hy,?_,?_,λv z=>?_⟩
    .intro z
     refine nfr ?_;rw[stk];exact kj.mpr ⟨X.env,ce,by rw[hfr];exact congrArg some z.symm⟩
    .intro z
     refine nfr ?_;rw[stk];obtain⟨env,hm,hq⟩:=kj.mp z;exact kj.mpr ⟨env,cu _ hm,hq⟩
    .have:oe.data=.cell v:=z
     rw[hdat]at this;cases this
   refine tT (X:=X.mk1 y [(y,oe)]) (v:=.ref y) I6 hN hi (.inl hk) rfl (λs6 I7=>?_) (.inr hk);refine bv (hp m z y oe hcls AL s6 _ H' _ I7 (hts oe hcls)) (λfl s7 q7=>?_) λ_ _ z=>fg z;cases fl with
   |next=>obtain⟨σ',H7,I7,q⟩:=q7;exact zG (I7.unmk1 ok) hN hi hk λs8 I8=>⟨_,_,I8,q⟩
   |brk=>obtain⟨σ',H7,I7,q⟩:=q7;exact zG (I7.unmk1 ok) hN hi hk λs8 I8=>⟨_,_,I8,q⟩
   |cont=>obtain⟨σ',H7,I7,q⟩:=q7;exact zG (I7.unmk1 ok) hN hi hk λs8 I8=>⟨_,_,I8,q⟩
   |ret u=>obtain⟨v,σ',H7,I7,r,q⟩:=q7;exact zG (I7.unmk1 ok) hN hi hk λs8 I8=>⟨v,_,_,I8,r,q⟩
  .have hb:(decide (m=c1)||decide (m=c2))=false:=by simpa using z
   rw[hb];rw[qO,if_neg z]at e;exact Kr N hm stk hN hi hk hfr ok back hy r fl4 up4 e hts
variable{pos1 pos3:ai}{e:ae}{te:XK->TE}{h₀:ik}{hs:List ik}{ms:List ((Str×Str)×(Str->Addr->Obj->TS))}
theorem P9{jv:Nat}{xv:Str}{posv:ai}(N:pO X.K cl ns)(stk:X.stack=X.env::X.outer)(hN:X.N.Nodup)(hi:X.N[i]?=some n)(hk:X.env.scope.names.lookup n=some .local)
  (hd:vR X cl ns n (h₀::hs) ms)(he:mP X e te)(hjv:X.N[jv]?=some xv)(hxv:iJ X.env.scope xv)
  (hsw:swapsWith e (some (.Name xv posv)) pos1.line X.env=pure false:=by rfl)
  (hfv:X.fn xv=true\/X.env.scope.names.lookup xv=some .local:=by first |exact .inl rfl |exact .inr rfl |assumption)
  (hfr:X.env.frame=some X.env.locals:=by rfl):
  PS X (.Try [.Assign [.Name xv posv] e pos1] (h₀::hs) [] [] pos3)
   (λD σ H=>te (λcls _ H2=>∃m ts,cls=.ref (cl m)/\m∈ns/\qO m ms=some ts/\∀y oe,oe.cls=.ref (cl m)->ts m y oe {nx:=λσ' H'=>D.nx (σ'.set i none) H',rt:=D.rt,bk:=λσ' H'=>D.bk (σ'.set i none) H',ct:=λσ' H'=>D.ct (σ'.set i none) H'} (σ.set i (some (.ref y))) H2) σ H (λv H2=>D.nx (σ.set jv (some v)) H2)):=by
 intro AL s σ H D I h;refine wpAny_Try_except (sk (wpAny_Assign_Name (bv (he AL s σ H _ _ _ I h (λs1 H1 e' s' I1 cx=>?_)) (λv s1 q=>?_) λe' s1 z=>z) hsw));rotate_left
 .obtain⟨v,H1,I1,rv,q⟩:=q
  exact tT I1 hN hjv hxv rv (λs2 I2=>kh (kh ⟨_,H1,I2,q⟩)) hfv
 obtain⟨y,C',tt,B,H',rfl,os,bare,un,hok,fl,cov,m,ts,hC',hm,hpk,hts⟩:=cx;rw[stk]at fl;have fr:∀b∈bP X.stack,H' b=none:=λb hb=>by
  obtain⟨_,o,ho,hd⟩:=I1.stack.mem hb;exact un.free b o ho (I1.stkFree b hb) (by intro z;cases z)
 have ff:X.A.frames=some (X.env::X.outer):=by rw[I.ok.frames.1,stk]
 refine wpAny_looks_onW (base:=B) ff hfr fl λh2 held up2=>?_;refine wpAny_landsW (base:=B) held λh3 fl3 up3=>?_;cases hC';refine Kr N hm stk hN hi hk hfr I.ok (λh5 st up=>I1.flown os bare un hok cov fr st up) ?_ hd fl3 (R1 up2 up3) hpk λoe hc=>hts y oe hc;cases hq:H' y with
 |none=>rfl
 |some u=>
  obtain⟨o2,g⟩:=(hok y u hq).has;have:=cov y o2 g (.inl ⟨u,hq⟩);rw[fl3.2.1]at this;cases this
end
def Rs(i jv:Nat)(y:Addr)(k:Int)(b2 b1:Bool):TS:=λD σ H=>σ[i]?=some (some (.ref y))/\∀t,H t=none->D.nx (σ.set jv (some (.ref t))) (aN H t (.tup [.int (k+if b2=true then 1 else 0),.bl b1]))
section
variable{X:Cx}{cl:Str->Addr}{ns:List Str}{n c c1 c2 xv:Str}{i jv j:Nat}{k:Int}{y:Addr}{oe:Obj}{x1:_}{p1 p2 p3 p4 p5 p6 p7 p8 p9 q1 q2 q3 q4 q5 q6:ai}
theorem N6(N:pO X.K cl ns)(hc:oe.cls=.ref (cl c))(m:c∈ns)(m1:c1∈ns)(m2:c2∈ns)(g1:Gl X c1)(g2:Gl X c2)(e1:X.mg c1=some (.ref (cl c1)))(e2:X.mg c2=some (.ref (cl c2)))(gi:Gl X "int")(ei:X.mg "int"=none)(gs:Gl X "isinstance")(es:X.mg "isinstance"=none)
  (hN:X.N.Nodup)(hi:X.N[i]?=some n)(hv:lP X.env.scope n)(hj:X.N[jv]?=some xv)(hx:iJ X.env.scope xv)(hfv:X.fn xv=true\/X.env.scope.names.lookup xv=some .local:=by first |exact .inl rfl |exact .inr rfl |assumption)(dn:(n==("__debug__":Str))=false:=by decide)(dm:(n==("__classdict__":Str))=false:=by decide):
  dH (X.mk1 y [(y,oe)]) [.Assign [.Name xv p8] (.Tuple [.BinOp (.Constant (.int k) j p1) .Add (.Call (.Name "int" p2) [.Call (.Name "isinstance" p3) [.Name n p4,.Name c2 p5] [] p6] [] p7) p9,.Call (.Name "isinstance" q1) [.Name n q2,.Name c1 q3] [] q4] x1 q5) q6] (Rs i jv y k (decide (c=c2)) (decide (c=c1))):=by
 have is:∀{d:Str}{r1 r2 r3 r4:ai},d∈ns->Gl X d->X.mg d=some (.ref (cl d))->PE (X.mk1 y [(y,oe)]) (.Call (.Name "isinstance" r1) [.Name n r2,.Name d r3] [] r4) (λσ H Q=>σ[i]?=some (some (.ref y))/\Q (.bl (decide (c=d))) H):=λ{d r1 r2 r3 r4} md gd ed=>
  PE.imp (Oe (L6 (N.xc _ m) ce hc) gs es PyProof.Rows.boot_isinstance (nA (nC (X:=X.mk1 y [(y,oe)]) hi hv dn dm) (nA (wK (X:=X.mk1 y [(y,oe)]) (v:=.ref (cl d)) gd ed rfl (N.db _ md)) lZ)) (by decide) (by decide)) λσ H Q ⟨a,b⟩=>⟨_,a,_,_,.inr ⟨_,rfl,N.ki _ m _ md⟩,rfl,b⟩
 refine dH.imp (Fp (Gg hN hj hx (Xp (nA (Ss Yp Dr (zV Az gi ei PyProof.Rows.boot_int (nA (is m2 g2 e2) lZ))) (nA (is m1 g1 e1) lZ))) rfl hfv)) ?_
 rintro D σ H ⟨a,b⟩
 exact⟨a,.inr ⟨_,rfl,_,_,rfl,rfl,a,(by decide:2<=sizeLine),λt ht=>b t ht⟩⟩
end
end L2
namespace L2.Pp
open PySem PySem.Spec PyProof.Rows Bn
inductive pL(X:Cx)(cl:Str->Addr)(ns:List Str)(n xv:Str):List ik->List ((Str×Str)×Int)->Prop
 |nil:pL X cl ns n xv [] []
 |cons {c1 c2:Str} {k:Int} {j:Nat} {x1 x2:_} {p1 p2 p3 p4 p5 p6 p7 p8 p9 q1 q2 q3 q4 q5 q6 r1 r2 r3 r4:ai} {hs:List ik} {L:List ((Str×Str)×Int)} (m1:c1∈ns) (m2:c2∈ns) (g1:Gl X c1) (g2:Gl X c2) (e1:X.mg c1=some (.ref (cl c1))) (e2:X.mg c2=some (.ref (cl c2))) (r:pL X cl ns n xv hs L):
   pL X cl ns n xv (.ExceptHandler (some (.Tuple [.Name c1 r1,.Name c2 r2] x2 r3)) (some n) [.Assign [.Name xv p8] (.Tuple [.BinOp (.Constant (.int k) j p1) .Add (.Call (.Name "int" p2) [.Call (.Name "isinstance" p3) [.Name n p4,.Name c2 p5] [] p6] [] p7) p9,.Call (.Name "isinstance" q1) [.Name n q2,.Name c1 q3] [] q4] x1 q5) q6] r4::hs) (((c1,c2),k)::L)
def qS(m:Str):List ((Str×Str)×Int)->Option ((Str×Str)×Int)
 |l::r=>if m=l.1.1\/m=l.1.2 then some l else qS m r
 |[]=>none
def Qg(c:Str)(l:(Str×Str)×Int):AH:=[.int (l.2+if decide (c=l.1.2)=true then 1 else 0),.bl (decide (c=l.1.1))]
def Cb(me:ME)(L:List ((Str×Str)×Int))(nn i j:Nat):MS:=λρ S=>if ρ.length=nn then(match me ρ S with
 |.ok v S2=>.nx (ρ.set j (some v)) S2
 |.exc n S2=>(match qS n L with
  |some l=>.nx (((ρ.set i none).set j (some (.pv (.tup (Qg n l))))).set i none) S2
  |none=>.fail)
 |.fail=>.fail)else .fail
section
variable{K:aa}{cl:Str->Addr}{X:Cx}{ns:List Str}{n xv:Str}{i jv nn:Nat}{hs:List ik}{h₀:ik}{L:List ((Str×Str)×Int)}{e:ae}{me:ME}{pos1 pos3 posv:ai}
def Xh(i jv:Nat)(l:(Str×Str)×Int):Str->Addr->Obj->TS:=λc y _=>Rs i jv y l.2 (decide (c=l.1.2)) (decide (c=l.1.1))
theorem pL.to(N:pO X.K cl ns)(gi:Gl X "int")(ei:X.mg "int"=none)(gs:Gl X "isinstance")(es:X.mg "isinstance"=none)(hN:X.N.Nodup)(hi:X.N[i]?=some n)(hv:lP X.env.scope n)(hj:X.N[jv]?=some xv)(hx:iJ X.env.scope xv)(hfv:X.fn xv=true\/X.env.scope.names.lookup xv=some .local)(dn:(n==("__debug__":Str))=false)(dm:(n==("__classdict__":Str))=false):
  ∀{hs:List ik}{L:List ((Str×Str)×Int)},pL X cl ns n xv hs L->vR X cl ns n hs (L.map λl=>(l.1,Xh i jv l))
 |_,_,.nil=>.nil
 |_,_,.cons m1 m2 g1 g2 e1 e2 r=>.cons m1 m2 g1 g2 e1 e2 (λc z y oe hc=>N6 N hc (by rcases z with rfl |rfl<;>assumption) m1 m2 g1 g2 e1 e2 gi ei gs es hN hi hv hj hx hfv dn dm) (pL.to N gi ei gs es hN hi hv hj hx hfv dn dm r)
theorem Fm{m:Str}{l:(Str×Str)×Int}:∀{L:List ((Str×Str)×Int)},qS m L=some l->qO m (L.map λl=>(l.1,Xh i jv l))=some (Xh i jv l)
 |[],e=>by cases e
 |((a,b),k)::r,e=>by
  rw[qS]at e;rw[cn,qO];split at e
  .rename_i z
   cases e;rw[if_pos z]
  .rename_i z
   rw[if_neg z];exact Fm e
theorem Em{m:Str}{l:(Str×Str)×Int}:∀{L:List ((Str×Str)×Int)},qS m L=some l->m∈L.flatMap λl=>[l.1.1,l.1.2]
 |[],e=>by cases e
 |a::r,e=>by
  rw[qS]at e;rw[List.flatMap_cons];split at e
  .rename_i z
   exact kg _ (by rcases z with rfl |rfl<;>simp)
  .exact ck _ (Em e)
theorem K3(jP:ns=L.flatMap λl=>[l.1.1,l.1.2])(N:pO X.K cl ns)(stk:X.stack=X.env::X.outer)(hN:X.N.Nodup)(hi:X.N[i]?=some n)(hk:X.env.scope.names.lookup n=some .local)(gi:Gl X "int")(ei:X.mg "int"=none)(gs:Gl X "isinstance")(es:X.mg "isinstance"=none)
  (hd:pL X cl ns n xv (h₀::hs) L)(he:zE K cl X e me)(hjv:X.N[jv]?=some xv)(hxv:iJ X.env.scope xv)(il:i<nn)
  (hsw:swapsWith e (some (.Name xv posv)) pos1.line X.env=pure false:=by rfl)
  (hfv:X.fn xv=true\/X.env.scope.names.lookup xv=some .local:=by first |exact .inl rfl |exact .inr rfl |assumption)
  (hfr:X.env.frame=some X.env.locals:=by rfl)(dn:(n==("__debug__":Str))=false:=by decide)(dm:(n==("__classdict__":Str))=false:=by decide):
  cL K cl E0 X (.Try [.Assign [.Name xv posv] e pos1] (h₀::hs) [] [] pos3) (Cb me L nn i jv):=by
 intro hK;subst hK;refine PS.imp (P9 N stk hN hi hk (pL.to N gi ei gs es hN hi (.inl hk) hjv hxv hfv dn dm hd) (he rfl) hjv hxv hsw hfv hfr) ?_
 rintro D σ H ⟨p,S,ρ,s,ev,h⟩
 unfold Cb at h;split at h
 .rename_i hl
  refine⟨p,S,ρ,s,ev,?_⟩;cases z:me ρ S with
  |ok v S2=>
   simp only[z]at h;intro q2 H2 y st2 sm2 r2;exact h q2 H2 _ st2 sm2 ((st2.repE ev).set r2 jv)
  |exc m S2=>
   simp only[z]at h;cases w:qS m L with
   |none=>rw[w]at h;exact h.elim
   |some l=>
    rw[w]at h;intro q2 H2 st2 sm2;have hm:m∈ns:=by rw[jP];exact Em w
    refine⟨m,_,rfl,hm,Fm w,λy oe hc=>⟨?_,λt ht=>?_⟩⟩
    .rw[fw (by rw[<-ev.len,hl];exact il)]
    .exact h q2 _ _ (st2.trans (sm2.same (eP ht))) (sm2.ofSame (eP ht)) ((bR.setT (vs:=Qg m l) sm2 ((st2.repE ev).forget i (some (.ref y))) ht (by intro v hv;unfold Qg at hv;simp at hv;rcases hv with rfl |rfl<;>rfl) (by show 2<=_;decide) jv).forget i none)
  |fail=>simp only[z]at h;exact h.elim
 .exact h.elim
end
end L2.Pp
namespace L2
open PySem PySem.Spec PyProof.Rows Bn
section
variable{X:Cx}{C:Addr}{o e:ae}{es:List ae}{m:Str}{k:Nat}{f:Addr}{fd:ay}{ps:List Str}{sp:Sp}{dvs:List V}{ds:AD}{ta:TE}{t:TA}{pos apos:ai}
theorem N8{pl:bt Bool}(hxe:X.xe=λ_ _=>False)(he:PE X o ta)(c:kT X.K C)(hm:rF X.K C m f)(F:bQ X.prog X.w X.K X.mg X.base (aJ X.prog X.w) k f fd ps sp)(hr:bG k X.A)(hb:dD X.K fd ps ds)(hd:aS dvs ds)(ha:PA X (e::es) t)
  (hst:starEach (e::es) X.env=(false,eval e X.env)::starEach es X.env:=by rfl)(hpl:(backTo pos (starEach es X.env)).any (·.1)=false:=by rfl)
  (ht:eval (.Call (.Attribute o m apos) (e::es) [] pos) X.env=(do
   let ov <-eval o X.env
   standAt apos.atName
   let (f,first) <-holding [ov] (getMethod ov m pl)
   callWith pos f first (backTo pos (starEach (e::es) X.env)) (backToKw pos (keywordEach [] X.env))):=by rfl):
  mP X (.Call (.Attribute o m apos) (e::es) [] pos) (λE=>Gb C m sp dvs E ta t):=by
 intro AL s σ H Q E Ex I h hx;have xf:∀{v s},X.xe v s->Ex v s:=λz=>by rw[hxe]at z;exact z.elim
 refine ot (pl:=pl) (bv (he AL s σ H _ I h) (λu s1 hq=>?_) λ_ _ z=>xf z) ht;rcases hq with⟨x,H1,I1,rx,a,dx,fs,ex,ea,l,q⟩;subst ex;obtain rfl:u=az a:=rx;refine zL I1 ea c hm l ?_;refine ow (first:=[.ref a]) (h₀:=X.base) I.ok.mod.kin hm.kp (bv (ha pos AL s1 σ H1 _ I1 q) (λus s2 ⟨vs,H2,I2,r,q2⟩=>⟨I2.kIn,?_⟩) λ_ _ z=>xf z) hst hpl
 exact V6 (us:=.ref a::us) (vs:=.ref a::vs) F hr hb hd I2 (.cons rfl r) q2 λe s' c=>hx s2 H2 e s' I2 c
end
end L2
namespace L2.Pp
open PySem PySem.Spec PyProof.Rows Bn
section
variable{K:aa}{cl:Str->Addr}{E:XK}{X:Cx}{C:Addr}{o e:ae}{es:List ae}{mo:ME}{ms:MA}{m:Str}{k k0:Nat}{ps:List Str}{g:FM}{pos apos:ai}{pl:bt Bool}
theorem Ao{α β γ δ:Type}{R:Ph->Hp->α->β->Prop}{R':Ph->Hp->γ->δ->Prop}{f:bJ->aL->bA α}{g:α->aL->bA γ}{p:Ph}{S:aL}{H:Hp}{ρ:bJ}{σ:St}{Q:δ->Hp->Prop}{Q':β->Hp->Prop}(s:aO K p S H)(ev:bR K p H ρ σ)(h:aU K cl R' p H ((iT (f ρ S)).bind g) Q E)
  (k:∀q H1 x y S1,aZ p H q H1->aO K q S1 H1->bR K q H1 ρ σ->R q H1 x y->aU K cl R' q H1 (g x S1) Q E->Q' y H1):tP K cl E0 R f σ H Q':=by
 refine⟨p,S,ρ,s,ev,?_⟩;cases z:f ρ S with
 |ok x S1=>
  rw[z]at h;intro q H1 y st sm r;exact k q H1 x y S1 st sm (st.repE ev) r (aU.mono h st)
 |exc n S1=>rw[z]at h;exact h.elim
 |fail=>rw[z]at h;exact h.elim
theorem adp(hxe:X.xe=λ_ _=>False)(d:DK X.K C)(M:Wb X.prog X.w X.K X.mg X.base cl C m k ps g)(hl:oS m)(hr:bG k0 X.A)(hk:k<=k0)(ho:aI X.K cl E0 X o mo)(ha:cM X.K cl E0 X (e::es) ms)
  (hst:starEach (e::es) X.env=(false,eval e X.env)::starEach es X.env:=by rfl)(hpl:(backTo pos (starEach es X.env)).any (·.1)=false:=by rfl)
  (ht:eval (.Call (.Attribute o m apos) (e::es) [] pos) X.env=(do
   let ov <-eval o X.env
   standAt apos.atName
   let (f,first) <-holding [ov] (getMethod ov m pl)
   callWith pos f first (backTo pos (starEach (e::es) X.env)) (backToKw pos (keywordEach [] X.env))):=by rfl):zE X.K cl X (.Call (.Attribute o m apos) (e::es) [] pos) (gW g (λρ S=>iT (mo ρ S)) (λρ S=>iT (ms ρ S))):=by
 obtain⟨a,fd,F,_,b,hM⟩:=M;intro _;refine mP.imp (N8 (dvs:=[]) hxe (ho rfl) d.cl hM F (hr.mono hk) b .nil (ha rfl) hst hpl ht) λE σ H Q h=>?_;obtain⟨p,S,ρ,s,ev,h⟩:=h;unfold gW at h;refine Ao s ev h λq H1 x y S1 st s1 e1 r1 h1=>?_;cases x with
 |pv v=>exact h1.elim
 |ref j=>
  obtain⟨a,ea,rfl⟩:=r1;dsimp only at h1;cases z:S1[j]? with
  |none=>rw[z]at h1;exact h1.elim
  |some u=>
   cases u with
   |dsk h0 past fut=>
    rw[z]at h1;obtain⟨dx,bp,bf,u,us,fs,D⟩:=qE d s1 ea z;refine⟨a,dx,_,rfl,D.ins,hl _ _ _,Ao s1 e1 h1 λq2 H2 xs vs S2 st2 s2 e2 r2 h2=>?_⟩;exact⟨q2,S2,.ref j::xs,s2,.cons ⟨a,st2.at_ ea,rfl⟩ (by rw[ia];exact r2),mV s2 h2⟩
   |_=>rw[z]at h1;exact h1.elim
end
inductive mL(P:Program)(w:ah)(K:aa)(mg:Str->AE)(base:Heap)(cl:Str->Addr)(ns xs:List Str)(k0:Nat):List (Str×FM)->Prop
 |nil:mL P w K mg base cl ns xs k0 []
 |cons {n x:Str} {g:FM} {k:Nat} {ps:List Str} {gs:List (Str×FM)} (hx:(ns.zip xs).lookup n=some x) (hk:k<=k0) (C:rD P w K mg base cl x k ps g) (r:mL P w K mg base cl ns xs k0 gs):mL P w K mg base cl ns xs k0 ((n,g)::gs)
theorem Mi{mg:Str->AE}{n x:Str}:∀{ns xs:List Str}{us:AD},us.map some=xs.map mg->(ns.zip xs).lookup n=some x->∃u,mg x=some u/\valueAt (ns.zip us) n=some u
 |[],_,_,_,h=>by simp at h
 |_::_,[],_,_,h=>by simp at h
 |a::ns,b::xs,[],e,_=>by simp at e
 |a::ns,b::xs,u::us,e,h=>by
  rw[cn,cn]at e;obtain⟨e1,e2⟩:=nh e;unfold valueAt;rw[jl,gp]at h;rw[jl,iy];split at h
  .rename_i z
   cases h;have z:n=a:=by simpa using z
   exact⟨u,e1.symm,by simp[z]⟩
  .rename_i z
   have z:n≠a:=by simpa using z
   obtain⟨u2,a2,b2⟩:=Mi e2 h;refine⟨u2,a2,?_⟩;unfold valueAt at b2;simpa[dw z]using b2
section
variable{P:Program}{w:ah}{K:aa}{mg:Str->AE}{base:Heap}{cl:Str->Addr}{N:List Str}{qual:Str}{scope:Scope}{fo:Addr}{cd:Value}{A:aj}{outer:List Env}{AM:Shared}{AN:Hp}{E:XK}{e i:ae}{es:List ae}{mi:ME}{ms:MA}{x:Str}{ns xs:List Str}{us:AD}{k0:Nat}{gs:List (Str×FM)}{pos p1 p2:ai}
theorem mL.use(hu:us.map some=xs.map mg){n:Str}{g:FM}:∀{gs:List (Str×FM)},mL P w K mg base cl ns xs k0 gs->uO gs n=some g->∃(u:Value)(k:Nat)(ps:List Str)(a:Addr)(d:ay),u=.ref a/\valueAt (ns.zip us) n=some u/\k<=k0/\bQ P w K mg base (aJ P w) k a d ps (jM K cl g)/\dD K d ps []/\bo K (.ref a)=true
 |_,.nil,h=>by unfold uO at h;cases h
 |_,.cons hx hk C r,h=>by
  unfold uO at h;split at h
  .rename_i z
   subst z;cases h;obtain⟨a,d,GX,_,b,kk,nm⟩:=C;obtain⟨u,h1,h2⟩:=Mi hu hx;rw[nm]at h1;cases h1;exact⟨_,_,_,a,d,rfl,h2,hk,GX,b,kk⟩
  .exact mL.use hu r h
theorem F2(G:kA P w K mg x ns us)(hu:us.map some=xs.map mg)(T:mL P w K mg base cl ns xs k0 gs)(hr:bG k0 (cZ P w K mg base N qual scope fo cd A outer AM AN E).A)(hg:Gl (cZ P w K mg base N qual scope fo cd A outer AM AN E) x)(hi:aI K cl E (cZ P w K mg base N qual scope fo cd A outer AM AN E) i mi)(ha:cM K cl E (cZ P w K mg base N qual scope fo cd A outer AM AN E) (e::es) ms)(hs:mI i:=by intro _ _;rfl)
  (hst:starEach (e::es) (cZ P w K mg base N qual scope fo cd A outer AM AN E).env=(false,eval e (cZ P w K mg base N qual scope fo cd A outer AM AN E).env)::starEach es (cZ P w K mg base N qual scope fo cd A outer AM AN E).env:=by rfl)(hpl:(backTo pos (starEach es (cZ P w K mg base N qual scope fo cd A outer AM AN E).env)).any (·.1)=false:=by rfl)(hd:(x==("__debug__":Str))=false:=by decide)
  (hk:backToKw pos (keywordEach [] (cZ P w K mg base N qual scope fo cd A outer AM AN E).env)=[]:=by rfl):aI K cl E (cZ P w K mg base N qual scope fo cd A outer AM AN E) (.Call (.Subscript (.Name x p1) i p2) (e::es) [] pos) (xF gs mi ms):=by
 intro hK;refine PE.imp (M7 G hg (hi hK) hs Ab (ha hK) hst hpl hd hk) ?_
 rintro σ H Q ⟨p,S,ρ,s,ev,h⟩
 refine aY s ev h λq H1 y v S1 st s1 e1 r1 h1=>?_;split at h1
 .rename_i n
  have r1:aP K q.c H1 (.str n) v:=r1;cases z:uO gs n with
  |none=>rw[z]at h1;exact h1.elim
  |some g=>
   rw[z]at h1;obtain⟨u,k,ps,a,d,rfl,hv,hk,F,b,kk⟩:=T.use hu z;refine⟨n,_,.ref a,qI r1,hv,rfl,a,d,ps,_,k,rfl,F,hr.mono hk,b,kk,aY s1 e1 h1 λq2 H2 as vs S2 st2 s2 e2 r2 h2=>?_⟩;exact⟨q2,S2,as,s2,by rw[ia];exact r2,mV s2 h2⟩
 .exact h1.elim
end
end L2.Pp
namespace L2
open PySem PySem.Spec PyProof.Rows Bn
open L2.Pp
open PySem.W (KdlSrc)
def kB(a b:Str):Bool:=decide (a.cps.toList<b.cps.toList)
theorem V0{a b:Str}(h:a.cps.toList=b.cps.toList):a=b:=by
 cases a;cases b;simpa using h
theorem P8(x:Str):kB x x=false:=by
 unfold kB;simpa using List.lt_irrefl x.cps.toList
theorem Br{x y z:Str}(h:kB x y=true)(g:kB y z=true):kB x z=true:=by
 unfold kB at h g⊢;simp only[decide_eq_true_eq]at h g⊢;exact List.lt_trans h g
theorem Qo{x y:Str}(h:x≠y):kB x y=true\/kB y x=true:=by
 unfold kB;simp only[decide_eq_true_eq]
 by_cases p:x.cps.toList<y.cps.toList
 .exact .inl p
 .by_cases q:y.cps.toList<x.cps.toList
  .exact .inr q
  .exact absurd (V0 (List.le_antisymm (List.not_lt.mp q) (List.not_lt.mp p))) h
theorem Lo:Nc kB:=⟨P8,λ_ _ _=>Br,λ_ _=>Qo⟩
def yD(zs:List Str)(i j:Nat):Bool:=kB (zs.getD i gu) (zs.getD j gu)
theorem W9{zs:List Str}(nd:zs.Nodup):mO (yD zs) zs.length:=by
 refine⟨λi j k _ _ _ h g=>Br h g,λi j hi hj ne=>?_⟩;refine Qo λe=>?_;refine absurd (Pp.nodup_idx nd (i:=i) (j:=j) (a:=zs[i]) (by simp[hi]) ?_) ne;have e1:zs.getD i gu=zs[i]:=by simp[cw,hi]
 have e2:zs.getD j gu=zs[j]:=by simp[cw,hj]
 rw[<-e1,e,e2];simp[hj]
section
variable{prog:Program}{w:ah}{A:aj}{E:Value->Shared->Prop}{s:Shared}
theorem Hx{l:Addr}{P:AD->Prop}{n:Nat}{lt:Nat->Nat->Bool}{κ:qq}{Q:Value->Shared->Prop}(hP:∀vs,P vs->vs.length=n)(h64:n<64)(hS:mO lt n)(hk:∀vs,P vs->∀h1 tk a,2<=vs.length->Wu prog w A.in1.in1 κ lt vs {s with heap:=h1,toks:=tk} a)
  (hcol:∀(Q':AD->Shared->Prop)(E':Value->Shared->Prop),(∀vs,P vs->∀h1 tk,(∀b o',s.heap.get? b=some o'->h1.get? b=some o')->Q' vs {s with heap:=h1,toks:=tk})->wpAny (model prog w) A.in1 (collect (.ref l)) Q' E' s)
  (h:∀vs,P vs->∀(h1 h':Heap)(c:Nat)(tk:bg)(p:List Nat),p.Perm (ee n)->pN lt p->(∀b o',s.heap.get? b=some o'->h1.get? b=some o')->(∀b o',h1.get? b=some o'->h'.get? b=some o')->h'.get? h1.objs.size=some (seqObj "list" (gq (p.map λi=>vs.getD i bb)) c)->Q (.ref h1.objs.size) {s with heap:=h',toks:=tk}):
  wpAny (model prog w) A (call (.builtin "sorted") [.ref l]) Q E s:=by
 refine zu kind_sorted plain_sorted entry_sorted (args_sorted1 _) ?_;unfold Builtin.«sorted»;refine ag (m:=checkCount "sorted" 1 1 _) (aq ?_);refine ag (hcol _ _ λvs pv h1 tk k1=>?_);have ln:=hP vs pv;refine ag (qh ?_ (by rw[fe];omega));have hoL:(h1.push (seqObj "list" vs.toArray 0)).get? h1.objs.size=some (seqObj "list" vs.toArray 0):=bn _ rfl;show wpAny _ _ _ _ _ {s with heap:=h1.push (seqObj "list" vs.toArray 0),toks:=tk};refine ag (dh (ju slot_list_sort ⟨_,hoL,rfl⟩ entry_list_sort ?body (args_list_sort _)))
 case body=>
  have nn:s.heap.get? h1.objs.size=none:=by
   cases z:s.heap.get? h1.objs.size with
   |none=>rfl
   |some o=>exact absurd (au (k1 _ _ z)) (dz _)
  refine Lw (s:={s with heap:=h1.push (seqObj "list" vs.toArray 0),toks:=tk}) hoL (by rw[ln];exact h64) (by rw[ln];exact hS) (hk vs pv _ tk _) λp hp hu=>⟨_,rfl,aq ⟨_,rfl,?_⟩⟩;obtain⟨e1,ho1⟩:∃e1,((h1.push (seqObj "list" vs.toArray 0)).update h1.objs.size (gb λ_=>(#[]:Array Value))).get? h1.objs.size=some (seqObj "list" #[] e1):=⟨_,lm hoL λ_=>#[]⟩;have ho2:=ao (seqObj "list" #[] 0) (ao (seqObj "tuple" vs.toArray 0) ho1);obtain⟨e2,ho3⟩:∃e2,(sortedHeap (h1.push (seqObj "list" vs.toArray 0)) h1.objs.size vs (gq (p.map λi=>vs.getD i bb))).get? h1.objs.size=some (seqObj "list" (gq (p.map λi=>vs.getD i bb)) e2):=⟨_,lm ho2 λ_=>gq (p.map λi=>vs.getD i bb)⟩;refine h vs pv h1 _ e2 tk p (by rw[<-ln];exact hp) hu k1 (λb o' hb1=>?_) ho3;have hne:b≠h1.objs.size:=bc (au hb1);exact(lq _ _ _ _ hne).trans (ao _ (ao _ ((lq _ _ _ _ hne).trans (ao _ hb1))))
end
section
variable{X:Cx}{AL:List (Addr×Obj)}{σ:St}{H:Hp}{s:Shared}
theorem Zd(I:aF X AL σ H s){l:Addr}{zs:List Str}{Q:VK}(h64:zs.length<64)(nd:zs.Nodup)
  (hcol:∀(Q':AD->Shared->Prop)(E':Value->Shared->Prop),(∀its,aS (zs.map V.str) its->∀h1 tk,(∀b o',s.heap.get? b=some o'->h1.get? b=some o')->Q' its {s with heap:=h1,toks:=tk})->wpAny (model X.prog X.w) X.A.in1 (collect (.ref l)) Q' E' s)
  (q:∀l p,H l=none->p.Perm (ee zs.length)->pN (yD zs) p->Q (.ref l) (aN H l (.lst (p.map λi=>(zs.map V.str).getD i .non)))):
  wpAny (model X.prog X.w) X.A (call (.builtin "sorted") [.ref l]) (EP X AL σ Q) X.xe s:=by
 have hlen:∀its,aS (zs.map V.str) its->its.length=zs.length:=λits rv=>by
  have:=rv.length;rw[bh]at this;omega
 refine Hx (P:=λits=>aS (zs.map V.str) its) (κ:=oneType') (lt:=yD zs) hlen h64 (W9 nd) (λits rv h1 tk a h2=>?_) hcol λits rv h1 h' c tk p hp hu k1 k2 e=>?_
 .have hl:=hlen its rv
  have tu:∀i,i<its.length->∃t,its.getD i bb=.str (zs.getD i gu) t:=λi hi=>by
   have hi':i<zs.length:=by omega
   obtain⟨v,e2,rel⟩:=rv.get (i:=i) (x:=.str zs[i]) (by simp[hi']);obtain⟨t,rfl⟩:=rel;exact⟨t,by simp[cw,e2,hi']⟩
  intro h' tk2 E kp;refine⟨λQ q=>PySem.W.kas_kind (T:=.type "str") h2 (λv hv=>?_) (by decide) (by decide) q,λi j C hi hj hC=>?_⟩
  .obtain⟨i,hi,rfl⟩:=qd hv
   obtain⟨t,e⟩:=tu i hi;have e2:its[i]=its.getD i bb:=by simp[cw,hi]
   rw[e2,e];exact .now
  .obtain⟨t,e⟩:=tu i hi
   obtain⟨t2,e2⟩:=tu j hj;unfold PySem.W.kas_ask;rw[e,e2];exact PySem.W.kas_lt_str hC
 .have I1:aF X AL σ H {s with heap:=h1,toks:=tk}:=I.kept k1
  have hz2:(p.map λi=>(zs.map V.str).getD i .non).length<=sizeLine:=by
   rw[bh,hp.length_eq,we,fe];omega
  refine⟨.ref h1.objs.size,_,I1.laid (t':=tk) (o:=.lst (p.map λi=>(zs.map V.str).getD i .non)) k2 (ak _) ?_,rfl,q _ p (I1.hok.fresh (ak _)) hp hu⟩;exact⟨hz2,_,c,Ul rv p,e⟩
theorem Jr{P:Program}{w:ah}{A:aj}{a:Addr}{ns:List Str}{vs:List V}(hl:ns.length=vs.length)(ok:cT P w H s.heap)(e:H a=some (.dK (cA ns vs))):∃(kvs:List (bN×Value))(ep:Nat),(a==sysModules)=false/\kvs.length=ns.length/\kvs.length<=sizeLine/\s.heap.DictAt (fO P w) a kvs ep/\∀(acc:Array Value),ItemsOf (λi v=>∃k x,kvs[i]?=some (k,x)/\(fO P w).is k v=true) acc kvs.length->aS (ns.map V.str) acc.toList:=by
 obtain⟨z,hd,us,rel,dd⟩:=xU ok e;obtain⟨ep,da⟩:=dd.dictAt;have hk:us.map (·.1)=ns.map cp:=by
  rw[<-rel.keys];unfold cA;rw[c7 (by simp[hl])]
 have hn:us.length=ns.length:=by simpa using congrArg List.length hk
 refine⟨us,ep,hd,hn,by rw[<-rel.length];exact z,da,λacc hi=>?_⟩;have key:∀(l:AD)(ns:List Str) ,l.length=ns.length->(∀(i:Nat)(v:Value),l[i]?=some v->∃n,ns[i]?=some n/\∃t,v=ke n t)->aS (ns.map V.str) l:=by
  intro l
  induction l with
  |nil=>intro ns h _;cases ns with
   |nil=>exact .nil
   |cons _ _=>simp at h
  |cons v l ih=>intro ns h f;cases ns with
   |nil=>simp at h
   |cons n ns=>
    obtain⟨m,e1,t,e2⟩:=f 0 v rfl;cases e1;exact .cons ⟨t,e2⟩ (ih ns (by simpa using h) λi v e=>f (i+1) v e)
 refine key _ _ (by rw[jt,hi.1,hn]) λi v e=>?_;obtain⟨k,x,e1,e2⟩:=hi.2 i v (by rw[<-e,xq]);have e3:(us.map (·.1))[i]?=some k:=by rw[fm,e1];rfl
 rw[hk,fm]at e3;cases z:ns[i]? with
 |none=>rw[z]at e3;cases e3
 |some n=>
  rw[z]at e3;cases e3;refine⟨n,rfl,?_⟩;rcases lQ (k:=cp n) (v:=v) e2 with⟨j,t,e,_⟩|⟨y,t,e,e'⟩
  .cases e
  .cases e
   exact⟨t,e'⟩
def Ys(K:aa)(H:Hp)(a:Addr)(zs:List Str):Prop:=bL K H a (zs.map V.str)\/cJ K H a (zs.map V.str)\/∃vs,H a=some (.dK (cA zs vs))/\zs.length=vs.length
theorem Zx(hc:X.calm=true):fX X (.builtin "sorted") (λxs H Q=>∃(a:Addr)(zs:List Str),xs=[.ref a]/\Ys X.K H a zs/\zs.length<64/\zs.Nodup/\
  ∀l p,H l=none->p.Perm (ee zs.length)->pN (yD zs) p->Q (.ref l) (aN H l (.lst (p.map λi=>(zs.map V.str).getD i .non)))):=by
 intro AL s σ H xs us Q I r h;obtain⟨a,zs,rfl,hq,h64,nd,q⟩:=h;obtain⟨u,rfl,ru⟩:=gJ r;cases ru;rcases hq with hq |hq |⟨vs,e,hl⟩
 .obtain⟨its,rv,pl,hz⟩:=I.list hq
  obtain⟨o,ho,hc,n,hd⟩:=pl.isList;exact Zd I h64 nd (λQ' E' h=>vt a (.inl rfl) ho hc hd (λh1 k1=>h _ (by simpa using rv) h1 s.toks k1) (by rw[ax,<-rv.length];exact hz)) q
 .obtain⟨its,rv,⟨o,ho,hc,n,hd⟩,hz⟩:=I.tuple hq
  exact Zd I h64 nd (λQ' E' h=>vt a (.inr rfl) ho hc hd (λh1 k1=>h _ (by simpa using rv) h1 s.toks k1) (by rw[ax,<-rv.length];exact hz)) q
 .obtain⟨kvs,ep,hs,hn,hz,da,use⟩:=Jr (P:=X.prog) (w:=X.w) (A:=X.A) hl I.hok e
  refine Zd I h64 nd (λQ' E' h=>?_) q;exact Ox (c8 hs) (show X.A.in1.handled=none from I.ok.hd hc) da hz λh' tk acc k1 hi=>h _ (use acc hi) h' tk k1
theorem Oy(hc:X.calm=true):fX X (.type "list") (λxs H Q=>∃(a:Addr)(zs:List Str)(vs:List V),xs=[.ref a]/\H a=some (.dK (cA zs vs))/\zs.length=vs.length/\(zs.length<=sizeLine->∀l,H l=none->Q (.ref l) (aN H l (.lst (zs.map V.str))))):=by
 intro AL s σ H xs us Q I r h;obtain⟨a,zs,vs,rfl,e,hl,q⟩:=h;obtain⟨u,rfl,ru⟩:=gJ r;cases ru;obtain⟨kvs,ep,hs,hn,hz,da,use⟩:=Jr (P:=X.prog) (w:=X.w) (A:=X.A) hl I.hok e;refine PySem.W.kdl_call (c8 hs) (I.ok.hd hc) da hz λh' tk acc c hk hl2 hi=>?_;have ev:=use acc hi;refine⟨.ref s.heap.objs.size,_,I.laid (t':=tk) (o:=.lst (zs.map V.str)) hk (ak _) ⟨by rw[bh,<-hn];exact hz,acc.toList,c,ev,hl2⟩,rfl,q (by rw[<-hn];exact hz) _ (I.hok.fresh (ak _))⟩
end
end L2
namespace L2.Pp
open PySem PySem.Spec PyProof.Rows Bn
def uJ:AH->Option (List Str)
 |[]=>some []
 |.str x::r=>(uJ r).map (x:: ·)
 |_=>none
def uQ(d:AV)(S:aL):Option (List Str×AH):=match d with
 |.pv (.dct ns fs)=>some (ns,fs)
 |.ref j=>(match S[j]? with
  |some (.tdc ns fs)=>some (ns,fs)
  |_=>none)
 |_=>none
def Jb(d:AV)(S:aL):Option (List Str):=match d with
 |.pv (.lst xs)=>uJ xs
 |.pv (.tup xs)=>uJ xs
 |.pv (.dct ns _)=>some ns
 |.ref j=>(match S[j]? with
  |some (.tdc ns _)=>some ns
  |some (.lst xs)=>uJ xs
  |_=>none)
 |_=>none
def xC(ms:MA):ME:=λρ S=>(ms ρ S).bind λds S1=>match ds with
 |[d]=>(match Jb d S1 with
  |some zs=>if zs.length<64/\zs.Nodup then .ok (.pv (.lst ((yI kB zs).map .str))) S1 else .fail
  |none=>.fail)
 |_=>.fail
def Pa(ms:MA):ME:=λρ S=>(ms ρ S).bind λds S1=>match ds with
 |[d]=>(match uQ d S1 with
  |some (ns,_)=>.ok (.pv (.lst (ns.map .str))) S1
  |none=>.fail)
 |_=>.fail
section
variable{K:aa}
theorem Ba{c:Addr->Prop}{H:Hp}:∀{xs:AH}{zs:List Str}{vs:List V},uJ xs=some zs->aM K c H xs vs->vs=zs.map V.str
 |[],zs,vs,e,r=>by
  cases e;unfold aM at r;rw[r];rfl
 |.str x::r,zs,vs,e,rr=>by
  unfold uJ at e;obtain⟨l,e1,rfl⟩:=vg.mp e;unfold aM at rr;obtain⟨v,vs',rfl,h,t⟩:=rr;rw[Ba e1 t,qI h];rfl
 |.non::_,_,_,e,_=>by cases e
 |.bl _::_,_,_,e,_=>by cases e
 |.int _::_,_,_,e,_=>by cases e
 |.tup _::_,_,_,e,_=>by cases e
 |.lst _::_,_,_,e,_=>by cases e
 |.dct _ _::_,_,_,e,_=>by cases e
theorem Vd{p:Ph}{S:aL}{H:Hp}{d:AV}{x:V}{ns:List Str}{fs:AH}(s:aO K p S H)(r:bI K p H d x)(e:uQ d S=some (ns,fs)):∃a vs,x=.ref a/\H a=some (.dK (cA ns vs))/\ns.length=vs.length/\aM K p.c H fs vs:=by
 unfold uQ at e;split at e
 .cases e
  have r:aP K p.c H (.dct ns fs) x:=r;unfold aP at r;obtain⟨a,vs,rfl,h,l,r⟩:=r;exact⟨a,vs,rfl,h.1,l,r⟩
 .rename_i j
  obtain⟨a,ej,rfl⟩:=r;cases z:S[j]? with
  |none=>rw[z]at e;cases e
  |some o=>
   rw[z]at e;cases o with
   |tdc n f=>
    cases e;obtain⟨vs,h,l,r⟩:=s.obj j a _ ej z;exact⟨a,vs,rfl,h,l,r⟩
   |_=>cases e
 .cases e
theorem D8{p:Ph}{S:aL}{H:Hp}{d:AV}{x:V}{zs:List Str}(s:aO K p S H)(r:bI K p H d x)(e:Jb d S=some zs):∃a,x=.ref a/\Ys K H a zs:=by
 unfold Jb at e;split at e
 .rename_i xs
  obtain⟨a,vs,rfl,h,l,r⟩:=(show cY K p H (.lst xs) x from .inl r).lst;rw[Ba e r]at h;exact⟨a,rfl,.inl h⟩
 .rename_i xs
  obtain⟨a,vs,rfl,h,l,r⟩:=(show cY K p H (.tup xs) x from .inl r).tup;rw[Ba e r]at h;exact⟨a,rfl,.inr (.inl h)⟩
 .rename_i ns fs
  cases e;obtain⟨a,vs,rfl,h,l,_⟩:=Vd (d:=.pv (.dct zs fs)) (ns:=zs) (fs:=fs) s r rfl;exact⟨a,rfl,.inr (.inr ⟨vs,h,l⟩)⟩
 .rename_i j
  cases z:S[j]? with
  |none=>rw[z]at e;cases e
  |some o=>
   rw[z]at e;cases o with
   |tdc n f=>
    cases e;obtain⟨a,ej,rfl⟩:=r;obtain⟨vs,h,l,r⟩:=s.obj j a _ ej z;exact⟨a,rfl,.inr (.inr ⟨vs,h,l⟩)⟩
   |lst xs=>
    obtain⟨a,ej,rfl⟩:=r;obtain⟨vs,h,l,r⟩:=s.obj j a _ ej z;rw[Ba e r]at h;exact⟨a,rfl,.inl (bL.of h)⟩
   |_=>cases e
 .cases e
theorem Me{c:Addr->Prop}{H:Hp}:∀zs:List Str,aM K c H (zs.map PV.str) (zs.map V.str)
 |[]=>.nil
 |z::zs=>.cons (by unfold aP;rfl) (Me zs)
theorem O9{zs:List Str}{p:List Nat}(hp:p.Perm (ee zs.length))(hu:pN (yD zs) p)(nd:zs.Nodup):(yI kB zs).map V.str=p.map λi=>(zs.map V.str).getD i .non:=by
 have e0:p.map (λi=>(zs.map V.str).getD i .non)=(p.map λi=>zs.getD i gu).map V.str:=by
  rw[jm];refine List.map_congr_left λi hi=>?_;have:i<zs.length:=by
   have:=hp.subset hi;simpa using this
  simp[cw,this]
 rw[e0];congr 1;have e1:(ee zs.length).map (λi=>zs.getD i gu)=zs:=by
  refine List.ext_getElem (by simp) λi h1 h2=>?_;simp[cw,h2]
 have pm:(p.map λi=>zs.getD i gu).Perm zs:=by
  have:=hp.map (λi=>zs.getD i gu);rw[e1]at this;exact this
 refine P0 Lo ((zT zs).trans pm.symm) (Io Lo zs nd) ?_;rw[List.pairwise_map];exact hu
end
section
variable{K:aa}{cl:Str->Addr}{E:XK}{X:Cx}{e:ae}{ms:MA}{pos:ai}{x:Str}{px:ai}
theorem K1(hc:X.calm=true)(hg:Gl X x)(hm:X.mg x=none)(hv:bootBuiltins x=some (.builtin "sorted"))(ha:cM K cl E X [e] ms)(hn:x≠"__name__":=by decide)(hdb:(x==("__debug__":Str))=false:=by decide)
  (he:starEach [e] X.env=(false,eval e X.env)::starEach [] X.env:=by rfl)(hpl:(backTo pos (starEach [] X.env)).any (·.1)=false:=by rfl):aI K cl E X (.Call (.Name x px) [e] [] pos) (xC ms):=by
 intro hK;subst hK;refine PE.imp (Oe (Zx hc) hg hm hv (ha rfl) hn hdb he hpl) ?_
 rintro σ H Q ⟨p,S,ρ,s,ev,h⟩
 refine aY s ev h λq H1 ds xs S1 st s1 e1 r1 h1=>?_;cases r1 with
 |nil=>exact h1.elim
 |cons r1 rr=>
  cases rr with
  |cons _ _=>exact h1.elim
  |nil=>
   rename_i d x;dsimp only at h1;cases z:Jb d S1 with
   |none=>rw[z]at h1;exact h1.elim
   |some zs=>
    simp only[z]at h1;split at h1
    .rename_i hcc
     obtain⟨a,rfl,ta⟩:=D8 s1 r1 z;refine⟨a,zs,rfl,ta,hcc.1,hcc.2,λl ps hl hp hup=>?_⟩;rw[<-O9 hp hup hcc.2];refine h1 q _ _ (s1.same (eP hl)) (s1.ofSame (eP hl)) ?_;refine mZ s1 (Me _) ?_ hl;rw[bh,(zT zs).length_eq,fG];omega
    .exact h1.elim
theorem G9(hc:X.calm=true)(hg:Gl X x)(hm:X.mg x=none)(hv:bootBuiltins x=some (.type "list"))(ha:cM K cl E X [e] ms)(hn:x≠"__name__":=by decide)(hdb:(x==("__debug__":Str))=false:=by decide)
  (he:starEach [e] X.env=(false,eval e X.env)::starEach [] X.env:=by rfl)(hpl:(backTo pos (starEach [] X.env)).any (·.1)=false:=by rfl):aI K cl E X (.Call (.Name x px) [e] [] pos) (Pa ms):=by
 intro hK;subst hK;refine PE.imp (zV (Oy hc) hg hm hv (ha rfl) hn hdb he hpl) ?_
 rintro σ H Q ⟨p,S,ρ,s,ev,h⟩
 refine aY s ev h λq H1 ds xs S1 st s1 e1 r1 h1=>?_;cases r1 with
 |nil=>exact h1.elim
 |cons r1 rr=>
  cases rr with
  |cons _ _=>exact h1.elim
  |nil=>
   rename_i d x;dsimp only at h1;cases z:uQ d S1 with
   |none=>rw[z]at h1;exact h1.elim
   |some nf=>
    obtain⟨ns,fs⟩:=nf;simp only[z]at h1;obtain⟨a,vs,rfl,ea,hl,_⟩:=Vd s1 r1 z;refine⟨a,ns,vs,rfl,ea,hl,λhz l hn=>?_⟩;refine h1 q _ _ (s1.same (eP hn)) (s1.ofSame (eP hn)) ?_;exact mZ s1 (Me _) (by rw[bh];exact hz) hn
end
def uS(md mk:ME):ME:=λρ S=>(md ρ S).bind λd S1=>(mk ρ S1).bind λk S2=>match uQ d S2,k with
 |some (ns,fs),.pv (.str k)=>gA (iF ns fs k) S2
 |_,_=>.fail
def adu(d k v:AV)(S:aL):bA AV:=match d,k,v with
 |.ref j,.pv (.str k),.pv v=>(match S[j]? with
  |some (.tdc ns fs)=>if ns.length<16777216 then .ok (.pv .non) (S.set j (if k∈ns then .tdc ns (gL k v ns fs)else .tdc (ns++[k]) (fs++[v])))else .fail
  |_=>.fail)
 |_,_,_=>.fail
def oR(md mk mv:ME):MS:=λρ S=>bY.of (mv ρ S) λv S1=>bY.of (md ρ S1) λd S2=>bY.of (mk ρ S2) λk S3=>bY.of (adu d k v S3) λ_ S4=>.nx ρ S4
section
variable{K:aa}{cl:Str->Addr}{E:XK}{X:Cx}{p:Ph}{H:Hp}{S:aL}{a e o i v:ae}{md mk mv:ME}{pos:ai}{x:Str}
theorem V8(hu:X.A.units+1<cLine)(ho:aI K cl E X o md)(hi:aI K cl E X i mk)(hs:mI i:=by intro _ _;rfl):aI K cl E X (.Subscript o i pos) (uS md mk):=by
 intro hK;subst hK;refine PE.imp (Tp hu (ho rfl) (hi rfl) hs) ?_
 rintro σ H Q ⟨p,S,ρ,s,e,h⟩
 refine aY s e h λq H1 d x S1 st s1 e1 r1 h1=>aY s1 e1 h1 λq2 H2 k y S2 st2 s2 e2 r2 h2=>?_;split at h2
 .rename_i ns fs j hd
  obtain⟨a,vs,rfl,ea,hl,r⟩:=Vd s2 (st2.repA r1) hd;have r2:aP X.K q2.c H2 (.str j) y:=r2;cases qI r2;obtain⟨w,ew,k⟩:=mY s2 h2;obtain⟨u,hv,ru⟩:=Df r ew;refine⟨a,u,rfl,?_,k H2 _ (bX.refl _) ru⟩;rw[<-hv];exact mH.k (k:=cp j) ea
 .exact h2.elim
theorem Q0 {tpos : ai} (hu : X.A.units + 1 < cLine) (hv : aI K cl E X v mv) (ho : aI K cl E X o md) (hi : aI K cl E X i mk) (hs : swapsWith v (some (.Subscript o i tpos)) pos.line X.env = pure false := by rfl) : cL K cl E X (.Assign [.Subscript o i tpos] v pos) (oR md mk mv) := by
  intro hK;subst hK;refine PS.imp (L2.ps_dput hu (ho rfl) (hi rfl) (hv rfl) hs) ?_
  rintro D σ H ⟨p, S, ρ, s, ev, h⟩
  refine jQ s ev h λq H1 v x S1 st s1 e1 r1 h1 => ?_;refine jQ s1 e1 h1 λq2 H2 d y S2 st2 s2 e2 r2 h2 => ?_;refine jQ s2 e2 h2 λq3 H3 k z S3 st3 s3 e3 r3 h3 => ?_;have r2 := st3.repA r2;have r1 := st3.repA (st2.repA r1);cases d with
  | pv _ => exact h3.elim
  | ref j =>
   cases v with
   | ref _ => cases k with
     | ref _ => exact h3.elim
     | pv k => cases k <;> exact h3.elim
   | pv v =>
   cases k with
   | ref _ => exact h3.elim
   | pv k =>
   cases k with
   | str k =>
    have h3 : dA X.K cl q3 H3 (bY.of (match S3[j]? with
      | some (.tdc ns fs) => if ns.length < 16777216 then (.ok (.pv .non) (S3.set j (if k ∈ ns then .tdc ns (gL k v ns fs) else .tdc (ns ++ [k]) (fs ++ [v]))) : bA AV) else .fail
      | _ => .fail) λ_ S4 => .nx ρ S4) D E := h3
    cases hS : S3[j]? with
    | none => rw [hS] at h3; exact h3.elim
    | some o =>
      cases o with
      | tdc ns fs =>
        simp only [hS] at h3;split at h3
        · rename_i hl;obtain ⟨a, ej, rfl⟩ := r2;have r3 : aP X.K q3.c H3 (.str k) z := r3;cases qI r3;obtain ⟨vs, ea, ln, r⟩ := s3.obj j a _ ej hS;have hj := (cq.mp hS).1;refine ⟨a, _, rfl, vO.k (k := cp k) ea (by rw [Ga ln, fG]; exact hl), ?_⟩;have r1 : aP X.K q3.c H3 v x := r1;rw [Nf ln]
          by_cases hk : k ∈ ns
          · rw [if_pos hk] at h3 ⊢;obtain ⟨st4, sm4⟩ := s3.writeO (ho := .dK (cA ns (gL k x ns vs))) (o := .tdc ns (gL k v ns fs)) ej hj (show Mb (.dK _) from trivial) λst4 => ⟨_, cD, by rw [We ln]; exact ln, st4.reps (Ze r1 r)⟩;exact h3 _ _ σ st4 sm4 (st4.repE e3)
          · rw [if_neg hk] at h3 ⊢;obtain ⟨st4, sm4⟩ := s3.writeO (ho := .dK (cA (ns ++ [k]) (vs ++ [x]))) (o := .tdc (ns ++ [k]) (fs ++ [v])) ej hj (show Mb (.dK _) from trivial) λst4 => ⟨_, cD, by simp [ln], st4.reps (r.append (.cons r1 .nil))⟩;exact h3 _ _ σ st4 sm4 (st4.repE e3)
        · exact h3.elim
      | _ => simp only [hS] at h3; exact h3.elim
   | _ => exact h3.elim
end
end L2.Pp
namespace L2
open PySem PySem.Spec PyProof.Rows Bn
open L2.Pp
theorem Xl:∀{ks as:List Str}{ys us:List V},as.length=us.length->ks.length=ys.length->(as++ks).Nodup->lY (cA as us) (cA ks ys)=cA (as++ks) (us++ys)
 |[],as,[],us,_,_,_=>by simp[lY,cA]
 |[],_,_::_,_,_,h,_=>by simp at h
 |_::_,_,[],_,_,h,_=>by simp at h
 |k::ks,as,y::ys,us,h1,h2,nd=>by
  have nk:k∉as:=λz=>(lg.mp nd).2.2 k z k ce rfl;have e:lY (cA as us) (cA (k::ks) (y::ys))=lY (gU (cA as us) (cp k) y) (cA ks ys):=rfl;rw[e,Nf h1,if_neg nk,Xl (by simp[h1]) (by simpa using h2) (by simpa using nd)];simp
theorem Yk:∀{ks:List Str}{ys:List V},(ks.map V.str).zip ys=(cA ks ys).map λkv=>(kV kv.1,kv.2)
 |[],_=>rfl
 |_::_,[]=>rfl
 |k::ks,y::ys=>by
  rw[cn,jl,Yk,pY,cn];rfl
end L2
namespace L2.Pp
open PySem PySem.Spec PyProof.Rows Bn
def qW:List ME->MA
 |[]=>aG
 |m::ms=>aD m (qW ms)
def Zb(K:aa)(cl:Str->Addr)(E:XK):List Str->List ME->List (TE×TE)
 |k::ks,m::ms=>(tC (.str k),tP K cl E (bI K) m)::Zb K cl E ks ms
 |_,_=>[]
def Ua:AK->Option AH
 |[]=>some []
 |.pv v::r=>(Ua r).map (v:: ·)
 |_=>none
def Fg(ks:List Str)(ms:List ME):ME:=λρ S=>(qW ms ρ (S++[.tdc [] []])).bind λxs S1=>match Ua xs,S1[S.length]? with
 |some fs,some (.tdc [] _)=>if ks.Nodup/\ks.length<=15/\fs.length=ks.length then .ok (.ref S.length) (S1.set S.length (.tdc ks fs))else .fail
 |_,_=>.fail
section
variable{K:aa}{cl:Str->Addr}{E:XK}{X:Cx}{pos p1:ai}
theorem Ho{p:Ph}{H:Hp}:∀{xs:AK}{fs:AH}{ys:List V},Ua xs=some fs->fY K p H xs ys->aM K p.c H fs ys
 |[],fs,ys,e,r=>by
  cases e;cases r;exact .nil
 |.pv v::xs,fs,ys,e,r=>by
  unfold Ua at e;obtain⟨l,e1,rfl⟩:=vg.mp e;cases r with
  |cons h t=>exact .cons h (Ho e1 t)
 |.ref _::_,_,_,e,_=>by cases e
theorem bA.bind_bind{α β γ:Type}(r:bA α)(f:α->aL->bA β)(g:β->aL->bA γ):(r.bind f).bind g=r.bind λx S=>(f x S).bind g:=by
 cases r<;>rfl
theorem Ll{Qv:V->Hp->Prop}{ρ:bJ}{σ:St}:∀{ks:List Str}{ms:List ME}{p:Ph}{S:aL}{H:Hp}{Q:List (V×V)->Hp->Prop}{k:AK->aL->bA AV},ks.length=ms.length->aO K p S H->bR K p H ρ σ->aU K cl (bI K) p H ((qW ms ρ S).bind k) Qv E->
  (∀q H1 xs ys S1,aZ p H q H1->aO K q S1 H1->bR K q H1 ρ σ->fY K q H1 xs ys->aU K cl (bI K) q H1 (k xs S1) Qv E->Q ((ks.map V.str).zip ys) H1)->xB (Zb K cl E ks ms) σ H Q
 |[],[],p,S,H,Q,k,_,s,ev,h,f=>f p H [] [] S s.step s ev .nil h
 |[],_::_,_,_,_,_,_,h,_,_,_,_=>by simp at h
 |_::_,[],_,_,_,_,_,h,_,_,_,_=>by simp at h
 |a::ks,m::ms,p,S,H,Q,k,hl,s,ev,h,f=>by
  have h:aU K cl (bI K) p H ((m ρ S).bind λx S1=>(qW ms ρ S1).bind λxs S2=>k (x::xs) S2) Qv E:=by
   have e:(qW (m::ms) ρ S).bind k=(m ρ S).bind λx S1=>(qW ms ρ S1).bind λxs S2=>k (x::xs) S2:=by
    show(((m ρ S).bind λx S1=>(qW ms ρ S1).bind λxs S2=>.ok (x::xs) S2)).bind k=_;rw[bA.bind_bind];congr 1
    funext x S1
    rw[bA.bind_bind];rfl
   rw[<-e];exact h
  show tP K cl E (bI K) m σ H λy H2=>xB (Zb K cl E ks ms) σ H2 λps H3=>Q ((.str a,y)::ps) H3;refine aY s ev h λq H1 x y S1 st s1 e1 r1 h1=>?_;refine Ll (by simpa using hl) s1 e1 h1 λq2 H2 xs ys S2 st2 s2 e2 r2 h2=>?_;have:=f q2 H2 (x::xs) (y::ys) S2 (st.trans st2) s2 e2 (.cons (st2.repA r1) r2) h2;rw[cn,jl]at this;exact this
variable(K cl E X)
def Xc(pos:ai)(keys:List (Option ae))(values:List ae)(ks:List Str)(ms:List ME):Prop:=X.K=K->yU X pos keys values (Zb K cl E ks ms)/\keys.all (·.isSome)=true/\keys.length=values.length/\keys.length=ks.length/\ks.length=ms.length
variable{K cl E X}
theorem wO:Xc K cl E X pos [] [] [] []:=λ_=>⟨X3,rfl,rfl,rfl,rfl⟩
theorem jF{k:Str}{j:Nat}{v:ae}{keys:List (Option ae)}{values:List ae}{ks:List Str}{m:ME}{ms:List ME}(hv:aI K cl E X v m)(r:Xc K cl E X pos keys values ks ms):Xc K cl E X pos (some (.Constant (.str k) j p1)::keys) (v::values) (k::ks) (m::ms):=λhK=>
 let⟨a,b,c,d,e⟩:=r hK
 ⟨J2 Zf (hv hK) a,by rw[c9,b];rfl,by simp[c],by simp[d],by simp[e]⟩
theorem vX{keys:List (Option ae)}{values:List ae}{ks:List Str}{ms:List ME}(h:Xc K cl E X pos keys values ks ms)(h0:keys≠[]:=by intro z;cases z)(h15:keys.length<=15:=by decide):aI K cl E X (.Dict keys values pos) (Fg ks ms):=by
 intro hK;subst hK;obtain⟨a,b,c,d,e⟩:=h rfl;refine PE.imp (R6 a b c h0 h15) ?_
 rintro σ H Q ⟨p,S,ρ,s,ev,h⟩ t ht
 have ob:rE X.K ⟨p.f++[t],λa=>p.w a\/a=t,λa=>p.c a\/a=t⟩ (aN H t (.dK [])) t (.tdc [] []):=⟨[],cD,rfl,.nil⟩;obtain⟨st,sm⟩:=s.pushO ht (show Mb (.dK []) from trivial) ob;refine Ll e sm (st.repE ev) (aU.mono h st) λq H1 xs ys S1 st1 s1 e1 r1 h1=>?_;have ef:q.f[S.length]?=some t:=st1.at_ (by show(p.f++[t])[S.length]?=some t;rw[<-s.len,dg (ak _),ft];rfl);split at h1
 .rename_i fs g e2 e3
  split at h1
  .rename_i hc
   obtain⟨vs,et,ln,_⟩:=s1.obj _ t _ ef e3;have rf:=Ho e2 r1;have ly:ks.length=ys.length:=by rw[<-hc.2.2];exact rf.length
   refine⟨et,cA ks ys,Yk,by rw[Ga ly];exact hc.2.1,?_⟩;have em:lY [] (cA ks ys)=cA ks ys:=Xl (as:=[]) (us:=[]) rfl ly (by simpa using hc.1);rw[em];obtain⟨st4,sm4⟩:=s1.writeO (ho:=.dK (cA ks ys)) (o:=.tdc ks fs) ef (cq.mp e3).1 (show Mb (.dK _) from trivial) λst4=>⟨ys,cD,ly,st4.reps rf⟩;exact h1 _ _ (.ref t) st4 sm4 ⟨t,ef,rfl⟩
  .exact h1.elim
 .exact h1.elim
end
def HM(K:aa)(m q:Str)(st:Stmt)(D:Addr):Prop:=∃f fd,di K (.ref D) m=some (some (.ref f))/\km K (.ref f)=true/\iN K m q st f fd
theorem ace{K:aa}{m q:Str}{st:Stmt}{D f:Addr}{oc:Value}{od an:AF}{osl:Array AE}{kV doc pm cdv ct:Value}(i:di K (.ref D) m=some (some (.ref f)))(n:km K (.ref f)=true)(l:K.lookup f=some ⟨oc,od,.func (br m q (dU st) (cG st) (bD st) .none kV doc pm an cdv ct),osl⟩)
  (c:gh K cdv q=true)(k:bo K (.ref f)=true):HM K m q st D:=⟨_,_,i,n,Wf l c k⟩
structure iK(B:Bx)(D:Addr):Prop where
 d:DK B.K D
 ma:lx B.K D=true
 kp:bo B.K (.ref D)=true
 mg:B.mg "Desk"=some (.ref D)
def kR(B:Bx)(D:Addr)(m:Str)(k:Nat)(ps:List Str)(g:FM):Prop:=Wb B.P B.w B.K B.mg B.base B.cl D m k ps g/\oS m
def Rc(B:Bx)(D:Addr)(m:Str)(k:Nat)(ps:List Str)(g:FM):Prop:=Wr B.P B.w B.K B.mg B.base B.cl D m k ps g/\oS m
def Oc(B:Bx)(D:Addr)(k:Nat):Prop:=∃f fd ps,Mk B.K D f/\bQ B.P B.w B.K B.mg B.base dS k f fd ps (Tg D)/\dD B.K fd ps []
theorem Ym{m:Str}(h:m≠"heaps"/\m≠"past"/\m≠"future"):oS m:=λu v w=>by
 rw[gp,gp,gp,beq_eq_false_iff_ne.mpr h.1,beq_eq_false_iff_ne.mpr h.2.1,beq_eq_false_iff_ne.mpr h.2.2];rfl
section
variable{B:Bx}{m q nm:Str}{D:Addr}{st:Stmt}{N ps:List Str}{k np n:Nat}{b:MS}
theorem Lc(h:HM B.K m q st D)(S:gY N ps (bD st))(hb:N.Nodup->∀(f:Addr)(cdv:Value)(A:aj)(outer:List Env)(s:Shared)(H:Hp)(E:XK),bG k (A.deeper (envOfC q (bD st) s.heap.objs.size f cdv))->eX B.K B.cl E (aK (aJ B.P B.w) B.P B.w B.K B.mg B.base N q (bD st) f cdv A outer s H E) (cG st) b)(hnp:ps.length=np:=by rfl)(hn:N.length=n:=by rfl)
  (hm:m≠"heaps"/\m≠"past"/\m≠"future":=by decide)
  (hz:∀(kV doc pm:Value)(an:AF)(cdv ct:Value)(us:AD),us.length=ps.length->bindArgs (br m q (dU st) (cG st) (bD st) .none kV doc pm an cdv ct) ⟨us,[]⟩=pure (ps.zip us):=by intro _ _ _ _ _ _ us h;rcases us with _ |⟨_,_ |⟨_,_ |⟨_,_ |⟨_,_⟩⟩⟩⟩<;>first |(cases h;done) |rfl |(simp at h)):kR B D m (k+1) ps (bH np n b):=by
 obtain⟨f,fd,i,z,F⟩:=h;have G:=okX F S hnp hn λcdv A outer s H E hr=>hb S.nd f cdv A outer s H E hr;exact⟨⟨f,fd,G,x0 G,F.binds λkV doc pm an cdv ct us hl=>hz kV doc pm an cdv ct us hl,⟨i,z,F.kp⟩⟩,Ym hm⟩
theorem ada(h:HM B.K m q st D)(S:gY N ps (bD st))(hb:N.Nodup->∀(f:Addr)(cdv:Value)(A:aj)(outer:List Env)(s:Shared)(H:Hp)(E:XK),bG k (A.deeper (envOfC q (bD st) s.heap.objs.size f cdv))->eX B.K B.cl E0 (aK dS B.P B.w B.K B.mg B.base N q (bD st) f cdv A outer s H E).nox (cG st) b)(hnp:ps.length=np:=by rfl)(hn:N.length=n:=by rfl)
  (hm:m≠"heaps"/\m≠"past"/\m≠"future":=by decide)
  (hz:∀(kV doc pm:Value)(an:AF)(cdv ct:Value)(us:AD),us.length=ps.length->bindArgs (br m q (dU st) (cG st) (bD st) .none kV doc pm an cdv ct) ⟨us,[]⟩=pure (ps.zip us):=by intro _ _ _ _ _ _ us h;rcases us with _ |⟨_,_ |⟨_,_ |⟨_,_ |⟨_,_⟩⟩⟩⟩<;>first |(cases h;done) |rfl |(simp at h)):Rc B D m (k+1) ps (bH np n b):=by
 obtain⟨f,fd,i,z,F⟩:=h;exact⟨⟨f,fd,Oh F S hnp hn λcdv A outer s H E hr=>hb S.nd f cdv A outer s H E hr,F.binds λkV doc pm an cdv ct us hl=>hz kV doc pm an cdv ct us hl,⟨i,z,F.kp⟩⟩,Ym hm⟩
theorem adf(d:iK B D)(h:HM B.K "__init__" q st D)(S:gY [nm] [nm] (bD st))
  (hb:∀(f:Addr)(cdv:Value)(A:aj)(outer:List Env)(s:Shared)(H:Hp)(E:XK),bG k (A.deeper (envOfC q (bD st) s.heap.objs.size f cdv))->dH (aK dS B.P B.w B.K B.mg B.base [nm] q (bD st) f cdv A outer s H E).nox (cG st) (La B.K))
  (hz:∀(kV doc pm:Value)(an:AF)(cdv ct:Value)(us:AD),us.length=[nm].length->bindArgs (br "__init__" q (dU st) (cG st) (bD st) .none kV doc pm an cdv ct) ⟨us,[]⟩=pure ([nm].zip us):=by intro _ _ _ _ _ _ us h;rcases us with _ |⟨_,_ |⟨_,_⟩⟩<;>first |(cases h;done) |rfl |(simp at h)):Oc B D (k+1):=by
 obtain⟨f,fd,i,z,F⟩:=h;exact⟨f,fd,_,⟨d.ma,i,z,d.kp⟩,ac8 d.d F S λcdv A outer s H E hr=>hb f cdv A outer s H E hr,F.binds λkV doc pm an cdv ct us hl=>hz kV doc pm an cdv ct us hl⟩
end
section
variable{X:Cx}{cl:Str->Addr}{E:XK}{e o:ae}{es:List ae}{ms:MA}{mo:ME}{pos p1 apos:ai}{k k0:Nat}{g:FM}{m:Str}{ps:List Str}{D:Addr}{pl:bt Bool}
abbrev rB(X:Cx)(cl:Str->Addr):Bx:=⟨X.prog,X.w,X.K,X.mg,X.base,cl⟩
theorem aaD(d:iK (rB X cl) D)(I:Oc (rB X cl) D k)(hr:bG k0 X.A)(hk:k+1<=k0)(hg:Gl X "Desk"):aI X.K cl E X (.Call (.Name "Desk" p1) [] [] pos) xX:=by
 obtain⟨f,fd,ps,M,F,b⟩:=I;exact C0 d.d M F (hr.mono hk) hg d.mg b
theorem abF(hxe:X.xe=λ_ _=>False)(d:iK (rB X cl) D)(M:kR (rB X cl) D m k ps g)(hr:bG k0 X.A)(hk:k<=k0)(ho:aI X.K cl E0 X o mo)(ha:cM X.K cl E0 X (e::es) ms)
  (hst:starEach (e::es) X.env=(false,eval e X.env)::starEach es X.env:=by rfl)(hpl:(backTo pos (starEach es X.env)).any (·.1)=false:=by rfl)
  (ht:eval (.Call (.Attribute o m apos) (e::es) [] pos) X.env=(do
   let ov <-eval o X.env
   standAt apos.atName
   let (f,first) <-holding [ov] (getMethod ov m pl)
   callWith pos f first (backTo pos (starEach (e::es) X.env)) (backToKw pos (keywordEach [] X.env))):=by rfl):zE X.K cl X (.Call (.Attribute o m apos) (e::es) [] pos) (gW g (λρ S=>iT (mo ρ S)) (λρ S=>iT (ms ρ S))):=adp hxe d.d M.1 M.2 hr hk ho ha hst hpl ht
end
def rP(B:Bx)(x:Str)(ns xs:List Str):Prop:=∃us,kA B.P B.w B.K B.mg x ns us/\us.map some=xs.map B.mg
def zB(B:Bx)(x:Str)(ns:List Str)(fs:AH):Prop:=∃us vs,kA B.P B.w B.K B.mg x ns us/\aS vs us/\∀c H,aM B.K c H fs vs
section
variable{cl:Str->Addr}{E:XK}{X:Cx}{x:Str}{ns xs:List Str}{fs:AH}{e:ae}{m:ME}{pos p1:ai}
theorem abf(G:rP (rB X cl) x ns xs)(hg:Gl X x)(ha:aI X.K cl E X e m)(hd:(x==("__debug__":Str))=false:=by decide):cR X.K cl E X (.Compare e [.In] [.Name x p1] pos) (aV (lG false ns m)):=by
 obtain⟨us,G,_⟩:=G;exact abk G hg ha (hd:=hd)
theorem Q8(G:zB (rB X cl) x ns fs)(hg:Gl X x)(ha:aI X.K cl E X e m)(hd:(x==("__debug__":Str))=false:=by decide):cR X.K cl E X (.Compare e [.NotIn] [.Name x p1] pos) (aV (lG true ns m)):=by
 obtain⟨us,vs,G,_⟩:=G;exact D3 G hg ha (hd:=hd)
theorem X4(G:zB (rB X cl) x ns fs)(hg:Gl X x)(ha:aI X.K cl E X e m)(hs:mI e:=by intro _ _;rfl)(hd:(x==("__debug__":Str))=false:=by decide):aI X.K cl E X (.Subscript (.Name x p1) e pos) (xY ns fs m):=by
 obtain⟨us,vs,G,hv,hr⟩:=G;exact V5 G hv hr hg ha hs hd
end
section
variable{B:Bx}{N:List Str}{qual:Str}{scope:Scope}{fo:Addr}{cd:Value}{A:aj}{outer:List Env}{AM:Shared}{AN:Hp}{E:XK}{e i o:ae}{es:List ae}{mi mo:ME}{ms:MA}{x m:Str}{ns xs ps:List Str}{k k0:Nat}{gs:List (Str×FM)}{g:FM}{D:Addr}{pos p1 p2 apos:ai}{pl:bt Bool}
abbrev cC(B:Bx)(N:List Str)(qual:Str)(scope:Scope)(fo:Addr)(cd:Value)(A:aj)(outer:List Env)(AM:Shared)(AN:Hp)(E:XK):Cx:=aK (aJ B.P B.w) B.P B.w B.K B.mg B.base N qual scope fo cd A outer AM AN E
theorem V9(G:rP B x ns xs)(T:mL B.P B.w B.K B.mg B.base B.cl ns xs k0 gs)(hr:bG k0 (cC B N qual scope fo cd A outer AM AN E).A)(hg:Gl (cC B N qual scope fo cd A outer AM AN E) x)(hi:aI B.K B.cl E (cC B N qual scope fo cd A outer AM AN E) i mi)(ha:cM B.K B.cl E (cC B N qual scope fo cd A outer AM AN E) (e::es) ms)(hs:mI i:=by intro _ _;rfl)
  (hst:starEach (e::es) (cC B N qual scope fo cd A outer AM AN E).env=(false,eval e (cC B N qual scope fo cd A outer AM AN E).env)::starEach es (cC B N qual scope fo cd A outer AM AN E).env:=by rfl)(hpl:(backTo pos (starEach es (cC B N qual scope fo cd A outer AM AN E).env)).any (·.1)=false:=by rfl)(hd:(x==("__debug__":Str))=false:=by decide)
  (hk:backToKw pos (keywordEach [] (cC B N qual scope fo cd A outer AM AN E).env)=[]:=by rfl):aI B.K B.cl E (cC B N qual scope fo cd A outer AM AN E) (.Call (.Subscript (.Name x p1) i p2) (e::es) [] pos) (xF gs mi ms):=by
 obtain⟨us,G,hu⟩:=G;exact F2 G hu T hr hg hi ha hs hst hpl hd hk
theorem abq(d:iK B D)(M:kR B D m k ps g)(hr:bG k0 (cC B N qual scope fo cd A outer AM AN E).A)(hk:k<=k0)(ho:aI B.K B.cl E (cC B N qual scope fo cd A outer AM AN E) o mo)(ha:cM B.K B.cl E (cC B N qual scope fo cd A outer AM AN E) (e::es) ms)
  (hst:starEach (e::es) (cC B N qual scope fo cd A outer AM AN E).env=(false,eval e (cC B N qual scope fo cd A outer AM AN E).env)::starEach es (cC B N qual scope fo cd A outer AM AN E).env:=by rfl)(hpl:(backTo pos (starEach es (cC B N qual scope fo cd A outer AM AN E).env)).any (·.1)=false:=by rfl)
  (ht:eval (.Call (.Attribute o m apos) (e::es) [] pos) (cC B N qual scope fo cd A outer AM AN E).env=(do
   let ov <-eval o (cC B N qual scope fo cd A outer AM AN E).env
   standAt apos.atName
   let (f,first) <-holding [ov] (getMethod ov m pl)
   callWith pos f first (backTo pos (starEach (e::es) (cC B N qual scope fo cd A outer AM AN E).env)) (backToKw pos (keywordEach [] (cC B N qual scope fo cd A outer AM AN E).env))):=by rfl):aI B.K B.cl E (cC B N qual scope fo cd A outer AM AN E) (.Call (.Attribute o m apos) (e::es) [] pos) (gW g mo ms):=acW d.d M.1 M.2 hr hk ho ha hst hpl ht
theorem O4(d:iK B D)(M:kR B D m k ps g)(hr:bG k0 (cC B N qual scope fo cd A outer AM AN E).A)(hk:k<=k0)(ho:aI B.K B.cl E (cC B N qual scope fo cd A outer AM AN E) o mo)
  (ht:eval (.Call (.Attribute o m apos) [] [] pos) (cC B N qual scope fo cd A outer AM AN E).env=(do
   let ov <-eval o (cC B N qual scope fo cd A outer AM AN E).env
   standAt apos.atName
   let (f,first) <-holding [ov] (getMethod ov m pl)
   callWith pos f first (backTo pos (starEach [] (cC B N qual scope fo cd A outer AM AN E).env)) (backToKw pos (keywordEach [] (cC B N qual scope fo cd A outer AM AN E).env))):=by rfl):aI B.K B.cl E (cC B N qual scope fo cd A outer AM AN E) (.Call (.Attribute o m apos) [] [] pos) (gW g mo aG):=aax d.d M.1 M.2 hr hk ho ht
theorem aa1(d:iK B D)(M:Rc B D m k ps g)(hr:bG k0 (cC B N qual scope fo cd A outer AM AN E).A)(hk:k<=k0)(ho:aI B.K B.cl E (cC B N qual scope fo cd A outer AM AN E) o mo)(ha:cM B.K B.cl E (cC B N qual scope fo cd A outer AM AN E) (e::es) ms)
  (hst:starEach (e::es) (cC B N qual scope fo cd A outer AM AN E).env=(false,eval e (cC B N qual scope fo cd A outer AM AN E).env)::starEach es (cC B N qual scope fo cd A outer AM AN E).env:=by rfl)(hpl:(backTo pos (starEach es (cC B N qual scope fo cd A outer AM AN E).env)).any (·.1)=false:=by rfl)
  (ht:eval (.Call (.Attribute o m apos) (e::es) [] pos) (cC B N qual scope fo cd A outer AM AN E).env=(do
   let ov <-eval o (cC B N qual scope fo cd A outer AM AN E).env
   standAt apos.atName
   let (f,first) <-holding [ov] (getMethod ov m pl)
   callWith pos f first (backTo pos (starEach (e::es) (cC B N qual scope fo cd A outer AM AN E).env)) (backToKw pos (keywordEach [] (cC B N qual scope fo cd A outer AM AN E).env))):=by rfl):aI B.K B.cl E (cC B N qual scope fo cd A outer AM AN E) (.Call (.Attribute o m apos) (e::es) [] pos) (uP g mo ms):=abJ (X:=cC B N qual scope fo cd A outer AM AN E) d.d M.1 M.2 hr hk ho ha hst hpl ht
end
theorem yS{A:aj}{k:Nat}(hr:bG k A):A.units+1<cLine:=by
 have:=rQ hr;omega
theorem yM{X:Cx}{i:Nat}{x:Str}(a:X.N[i]?=some x:=by rfl)(b:lP X.env.scope x:=by first |exact cv rfl |exact cj (cv rfl) |exact cj (cj rfl))(c:(x==("__debug__":Str))=false:=by decide)(d:(x==("__classdict__":Str))=false:=by decide):pM X i x:=⟨a,b,c,d⟩
theorem adE{P:Program}{w:ah}{K:aa}{mg:Str->AE}{base:Heap}{cl:Str->Addr}{ns xs:List Str}{k0:Nat}{n x:Str}{g:FM}{k:Nat}{ps:List Str}{gs:List (Str×FM)}(C:rD P w K mg base cl x k ps g)(hk:k<=k0)(hx:(ns.zip xs).lookup n=some x)(r:mL P w K mg base cl ns xs k0 gs):mL P w K mg base cl ns xs k0 ((n,g)::gs):=.cons hx hk C r
section
variable{cl:Str->Addr}{E:XK}{X:Cx}{pos p:ai}{k k0:Nat}{ps:List Str}{g:FM}{x:Str}
theorem Y4(C:Yc X.prog X.w X.K X.mg X.base cl x k ps g)(hr:bG k0 X.A)(hk:k<=k0)(hg:Gl X x)(hdb:(x==("__debug__":Str))=false:=by decide):aI X.K cl E X (.Call (.Name x p) [] [] pos) (mB g [] aG):=by
 obtain⟨a,d,F,b,kp,n⟩:=C;intro _;refine PE.imp (M5 (dvs:=[]) F (hr.mono hk) hg n kp b .nil vB hdb) ?_
 rintro σ H Q ⟨p,S,ρ,s,ev,h⟩
 exact⟨p,S,[],s,.nil,zO h⟩
end
section
variable{P:Program}{w:ah}{K:aa}{mg:Str->AE}{x:Str}{a:Addr}
def yX(w:ah)(ns:List Str)(ts:List bg)(us:AD):List DictEntry:=(ns.zip (ts.zip us)).map λe=>⟨qw w.params e.1,.str e.1 e.2.1,e.2.2⟩
theorem Yy{ns:List Str}{ts:List bg}{us:AD}(h:ns.length=us.length)(g:ts.length=us.length):Pairs (strKind P w) (yX w ns ts us) (ns.zip us):=by
 induction us generalizing ns ts with
 |nil=>
  rw[ve,List.length_eq_zero_iff]at h;subst h;exact .nil
 |cons u us ih=>
  cases ns with
  |nil=>cases h
  |cons n ns=>
   cases ts with
   |nil=>cases g
   |cons t ts=>exact .cons (ng P w n t) rfl (ih (by simpa using h) (by simpa using g))
theorem Ag{ns:List Str}{ts:List bg}{us:AD}{n:Nat}(hm:mg x=some (.ref a))(l:K.lookup a=some ⟨.type "dict",none,.dict (yX w ns ts us).toArray n,#[]⟩)(hs:(a==sysModules)=false)(hl:ns.length=us.length)(ht:ts.length=us.length)(nd:ns.Nodup):kA P w K mg x ns us:=by
 refine⟨hl,a,hm,hs,λh X=>⟨_,_,n,X _ _ l,⟨rfl,rfl,rfl⟩,rfl,λe he=>?_,?_,?_⟩⟩
 .rw[List.mem_toArray]at he
  obtain⟨q,_,rfl⟩:=nr.mp he;exact⟨q.1,ng P w q.1 q.2.1,rfl⟩
 .exact Yy hl ht
 .rw[c7 (by omega)]
  exact nd
def Vb(K:aa)(xs:List Str)(us:AD):Bool:=(xs.zip us).all λe=>aw K mainGlobals e.1==some (some e.2)
theorem Aq{B:Bx}{h:Heap}(X:B.K.In h)(G:h.Ns mainGlobals B.mg){ns xs:List Str}{us:AD}(g:kA B.P B.w B.K B.mg x ns us)(hx:xs.length=us.length)(t:Vb B.K xs us=true):rP B x ns xs:=by
 refine⟨us,g,?_⟩;clear g
 induction us generalizing xs with
 |nil=>
  cases xs with
  |nil=>rfl
  |cons _ _=>simp at hx
 |cons u us ih=>
  cases xs with
  |nil=>simp at hx
  |cons y ys=>
   unfold Vb at t;rw[jl,c9,df,beq_iff_eq]at t;rw[cn,cn,ih (xs:=ys) (by simpa using hx) t.2,cc X G t.1]
def Wg(i:Int)(b:Bool)(o:Obj):Bool:=(o.cls== .type "tuple")&&o.dict.isNone&&(match o.data with
 |.seq its _=>(match its.toList with
  |[.int j _,.bool c]=>i==j&&b==c
  |_=>false)
 |_=>false)
def ib:PV->Option (Int×Bool)
 |.tup [.int i,.bl b]=>some (i,b)
 |_=>none
def yL(K:aa):AH->AD->Bool
 |[],us=>us.isEmpty
 |f::fs,us=>(match us with
  |.ref a::us=>(match ib f,K.lookup a with
   |some q,some o=>Wg q.1 q.2 o
   |_,_=>false)&&yL K fs us
  |_=>false)
theorem abY{f:PV}{q:Int×Bool}(h:ib f=some q):f=.tup [.int q.1,.bl q.2]:=by
 unfold ib at h;split at h
 .cases h
  rfl
 .cases h
theorem F6{i:Int}{b:Bool}{o:Obj}(e:K.lookup a=some o)(h:Wg i b o=true)(c:Addr->Prop)(H:Hp):aP K c H (.tup [.int i,.bl b]) (.ref a):=by
 unfold Wg at h;rw[df,df,beq_iff_eq,Option.isNone_iff_eq_none]at h;obtain⟨⟨h1,h2⟩,h3⟩:=h;split at h3
 .rename_i its n hd
  split at h3
  .rename_i j tk d hl
   rw[df,beq_iff_eq,beq_iff_eq]at h3;obtain⟨rfl,rfl⟩:=h3;unfold aP;refine⟨a,[.int i,.bl b],rfl,.inr ⟨o,its,n,e,⟨h1,h2⟩,hd,?_,?_⟩,by rw[fG];simp,?_⟩
   .have:its.size=2:=by rw[<-jt,hl];rfl
    rw[this,fG];decide
   .rw[hl]
    exact .cons ⟨tk,rfl⟩ (.cons rfl .nil)
   .exact .cons (by unfold aP;rfl) (.cons (by unfold aP;rfl) .nil)
  .cases h3
 .cases h3
theorem aaI{B:Bx}{ns:List Str}{fs:AH}{us:AD}(g:kA B.P B.w B.K B.mg x ns us)(t:yL B.K fs us=true):zB B x ns fs:=by
 have z:∃vs,aS vs us/\∀c H,aM B.K c H fs vs:=by
  clear g
  induction fs generalizing us with
  |nil=>
   unfold yL at t;rw[List.isEmpty_iff]at t;subst t;exact⟨[],.nil,λ_ _=>.nil⟩
  |cons f fs ih=>
   unfold yL at t;split at t
   .rename_i a us'
    rw[df]at t;obtain⟨t1,t2⟩:=t;obtain⟨vs,v1,v2⟩:=ih t2;split at t1
    .rename_i q o e1 e2
     have e3:=abY e1;subst e3;exact⟨.ref a::vs,.cons rfl v1,λc H=>.cons (F6 e2 t1 c H) (v2 c H)⟩
    .cases t1
   .cases t
 obtain⟨vs,v,r⟩:=z;exact⟨us,vs,g,v,r⟩
def Og(K:aa)(D:Addr):Prop:=DK K D/\lx K D=true/\bo K (.ref D)=true
theorem abn{B:Bx}{h:Heap}{D:Addr}(X:B.K.In h)(G:h.Ns mainGlobals B.mg)(d:Og B.K D):iK B D:=⟨d.1,d.2.1,d.2.2,cc X G d.1.nm⟩
def Ug(K:aa)(x:Str×Addr):Bool:=(di K (.ref x.2) "__getattribute__"==some (some (.builtin "BaseException.__getattribute__")))&&(di K (.ref x.2) "__getattr__"==some none)&&(qr K x.2 (.type "BaseException")==some true)&&(qr K x.2 (.type "object")==some true)&&(di K (.ref x.2) "__class__"==some (some (.builtin "object.__class__")))&&(PySem.W.clsIn K x.2).isSome
def Bi(K:aa)(tab:List (Str×Addr)):Bool:=(PySem.W.specialIn K (.builtin "object.__class__") "__get__"==some (some (.builtin "getset_descriptor.__get__")))&&(PySem.W.takesIn K (.builtin "object.__class__")==some true)&&tab.all λx=>Ug K x&&tab.all λy=>qr K x.2 (.ref y.2)==some (decide (x.1=y.1))&&qc K (.ref x.2) (.ref y.2)==some (decide (x.1=y.1))
def yW(cl:Str->Addr):List (Str×Addr)->Prop
 |[]=>True
 |x::r=>cl x.1=x.2/\yW cl r
theorem yW.use{cl:Str->Addr}:∀{tab:List (Str×Addr)},yW cl tab->∀C∈tab.map (·.1),(C,cl C)∈tab
 |x::r,⟨a,b⟩,C,h=>by
  rw[cn,bw]at h;rcases h with rfl |h
  .rw[a];exact ce
  .exact cu _ (yW.use b C h)
theorem ach{cl:Str->Addr}{tab:List (Str×Addr)}(h:Bi K tab=true)(hc:yW cl tab)(db:∀c∈tab.map (·.1),(c==("__debug__":Str))=false):pO K cl (tab.map (·.1)):=by
 unfold Bi at h;rw[df,df,jh]at h;obtain⟨⟨h1,h2⟩,h3⟩:=h;have g:∀C∈tab.map (·.1),Ug K (C,cl C)=true/\∀D∈tab.map (·.1),qr K (cl C) (.ref (cl D))=some (decide (C=D))/\qc K (.ref (cl C)) (.ref (cl D))=some (decide (C=D)):=λC hC=>by
  have z:=h3 _ (hc.use C hC);rw[df,jh]at z;refine⟨z.1,λD hD=>?_⟩;have y:=z.2 _ (hc.use D hD);rw[df,beq_iff_eq,beq_iff_eq]at y;exact y
 have g1:=λC hC=>(g C hC).1;simp only[Ug,df,beq_iff_eq]at g1 h1 h2;exact⟨db,λC h=>(g1 C h).2,λC h=>(g1 C h).1.1.1.2,λC h D h'=>((g C h).2 D h').1,λC h=>⟨(g1 C h).1.1.1.1.1,(g1 C h).1.1.1.1.2,(g1 C h).1.1.1.2,(g1 C h).1.1.2,(g1 C h).1.2,h1,h2,(g1 C h).2⟩,λC h D h'=>((g C h).2 D h').2⟩
end
theorem Cr:bootBuiltins "len"=some (.builtin "len"):=by decide+kernel
theorem abi:bootBuiltins "abs"=some (.builtin "abs"):=by decide+kernel
theorem aal:bootBuiltins "all"=some (.builtin "all"):=by decide+kernel
theorem abe:bootBuiltins "sum"=some (.builtin "sum"):=by decide+kernel
theorem Kl:bootBuiltins "sorted"=some (.builtin "sorted"):=by decide+kernel
theorem aa4:bootBuiltins "int"=some (.type "int"):=by decide+kernel
theorem Rp:bootBuiltins "list"=some (.type "list"):=by decide+kernel
theorem L8:bootBuiltins "tuple"=some (.type "tuple"):=by decide+kernel
end L2.Pp
set_option Elab.async false
set_option compiler.extract_closed false
set_option bootstrap.genMatcherCode false
set_option maxRecDepth 100000
set_option maxHeartbeats 4000000
namespace Sc
section
open PySem L2 Bn L2.Pp
abbrev Ji:Stmt:=aH 164
abbrev Dq:Stmt:=aH 21
abbrev Cm:Stmt:=aH 22
abbrev Xk:Stmt:=aH 23
abbrev wF:Stmt:=aH 33
abbrev Vk:Stmt:=aH 35
abbrev Oj:Stmt:=aH 165
abbrev vU:Stmt:=aH 25
abbrev Dj:Stmt:=aH 166
abbrev Kj:Stmt:=aH 167
abbrev Oi:Stmt:=aH 168
abbrev Uj:Stmt:=aH 170
abbrev Ms:Stmt:=aH 40
abbrev Yi:Stmt:=aH 39
abbrev Um:Stmt:=aH 41
abbrev Cj:Stmt:=aH 42
abbrev Pq:Stmt:=aH 43
abbrev Hl:Stmt:=aH 47
abbrev Xj:Stmt:=aH 171
abbrev Vs:Stmt:=aH 191
abbrev Ij:Stmt:=aH 162
abbrev Ti:Stmt:=aH 158
abbrev Si:Stmt:=aH 159
abbrev Pk:Stmt:=aH 34
abbrev Vi:Stmt:=aH 160
abbrev Hi:Stmt:=aH 161
abbrev Fj:Stmt:=aH 163
abbrev Mj:Stmt:=aH 200
abbrev Yq:Stmt:=aH 217
abbrev Wj:Stmt:=dQ 215 0
abbrev Nm:Stmt:=aH 213
abbrev Qk:Stmt:=aH 214
abbrev Di:Stmt:=dQ 215 4
abbrev Jj:Stmt:=dQ 215 2
abbrev Gi:Stmt:=dQ 215 5
abbrev Fi:Stmt:=dQ 215 3
abbrev Rj:Stmt:=dQ 215 1
abbrev Mp:Stmt:=aH 219
abbrev Pn:Stmt:=aH 224
abbrev An:Stmt:=aH 222
abbrev Vp:Stmt:=aH 218
abbrev Pj:Stmt:=aH 221
abbrev Jp:Stmt:=aH 223
abbrev Jk:Stmt:=aH 220
abbrev oV:Stmt:=aH 225
abbrev lU:List Str:=["put","walk","both","push","turn","prism","pyramid","drop","undo","again","names","shown","size","count","same","led","pushed","never"]
abbrev pZ:AH:=[.tup [.int 1,.bl true],.tup [.int 1,.bl true],.tup [.int 3,.bl false],.tup [.int 2,.bl true],.tup [.int 2,.bl true],.tup [.int 2,.bl true],.tup [.int 2,.bl true],.tup [.int 1,.bl false],.tup [.int 0,.bl false],.tup [.int 0,.bl false],.tup [.int 0,.bl false],.tup [.int 1,.bl false],.tup [.int 1,.bl false],.tup [.int 1,.bl true],.tup [.int 2,.bl false],.tup [.int 2,.bl false],.tup [.int 2,.bl false],.tup [.int 2,.bl false]]
abbrev Ff:List Str:=["put","walk","both","push","turn","prism","pyramid"]
abbrev Pf:List Str:=["put","walk","both","push","turn","raise_prism","raise_pyramid"]
abbrev zH:List Str:=["shown","size","count","same","led","pushed","never"]
abbrev Ed:List Str:=["tell_shown","tell_size","tell_count","tell_same","tell_led","tell_pushed","tell_never"]
def rW:MS:=(bV (nU (aV (aC 0))) (jR "NoText") cE)
def kW:FM:=bH 1 1 rW
def uC:MS:=(aQ (bV (aV (aE lO (aC 0) (mC (.int 0)))) (bC (mC (.int 1))) cE)
 (aQ (bV (aV (aE jZ (aC 0) (mC (.int 0)))) (bC (fA gO (mC (.int 1)))) cE)
 (bC (mC (.int 0)))))
def oO:FM:=bH 1 1 uC
def Yd:MS:=(aQ (qF (aV (aE dG (aC 1) (mC (.int 0)))) (aQ (aW 2 (aE eQ (aC 0) (aC 1)))
 (aQ (aW 0 (aC 1))
 (aW 1 (aC 2)))))
 (bC (mR oZ (aD (aC 0) aG))))
def pW:FM:=bH 2 3 Yd
def tM:MS:=(aQ (aW 1 (mC (.int 0)))
 (aQ (hX (cX (aC 0)) (gN 2) (aW 1 (bF pW [] (aD (aC 1) (aD (aC 2) aG)))))
 (bC (dJ ["number"] [(1,"common")] (cX (aC 0)) (gN 0) (aE kD (aC 0) (aC 1))))))
def tL:FM:=bH 1 3 tM
def uA:MS:=(aQ (bV (aV (aE cQ (aC 1) (mC (.int 0)))) (jR "NoPoint") cE)
 (bC (mR nB (aD (dJ ["number"] [(1,"bottom")] (cX (bF tL [] (aD (aE bT (mR uD (aD (aC 0) aG)) (mN lJ (aD (aC 1) aG))) aG))) (gN 0) (aE bO (bF oO [] (aD (aC 1) aG)) (aC 0))) aG))))
def qB:FM:=bH 2 2 uA
def tJ:MS:=(aQ (aW 1 (mC (.int 1)))
 (aQ (hX (cX (aC 0)) (gN 2) (aW 1 (aE bO (aC 1) (aE bE (aC 2) (mC (.int 1))))))
 (bC (cW qB [] (aD (dJ ["part"] [(1,"bottom")] (cX (aC 0)) (gN 0) (aE bO (aE bE (aC 0) (mC (.int 0))) (aE kD (aC 1) (aE bE (aC 0) (mC (.int 1)))))) (aD (aC 1) aG))))))
def tI:FM:=bH 1 3 tJ
def sT:MS:=(aQ (eW (cW kW [] (aD (vA (kX kP kP (mC (.int 1)) (mR mD (aD (aC 0) aG)) (mC (.int 60))) (mR kO (aD (dJ ["sign"] [] (yE (aC 0)) (gN 0) (aE oY (aC 0) (mC (.str "0123456789")))) aG))) aG)))
 (bC (mR Sa (aD (aC 0) aG))))
def pT:FM:=bH 1 1 sT
def tH:MS:=(aQ (bV (aV (aE cQ (aC 1) (mC (.int 0)))) (jR "NoNumber") cE)
 (aQ (aW 2 (aE bO (bF oO [] (aD (aC 1) aG)) (bF pW [] (aD (aC 0) (aD (aC 1) aG)))))
 (bC (mN bU (aD (aE kD (aC 0) (aC 2)) (aD (aE kD (aC 1) (aC 2)) aG))))))
def oH:FM:=bH 2 3 tH
def sL:MS:=(aQ (aW 1 (mF nE (aC 0) (aD (mC (.str "/")) aG)))
 (aQ (eW (cW kW [] (aD (aE kP (mR dX (aD (aC 1) aG)) (mC (.int 2))) aG)))
 (aQ (aW 2 (mF Ha (aE bE (aC 1) (mC (.int 0))) (aD (mC (.str "-")) aG)))
 (aQ (aW 3 (cW pT [] (aD (mQ (aV (aC 2)) (pD (aE bE (aC 1) (mC (.int 0))) (fE (mC (.int 1))) gB) (aE bE (aC 1) (mC (.int 0)))) aG)))
 (aQ (aW 4 (mQ (aV (aE cQ (mR dX (aD (aC 1) aG)) (mC (.int 2)))) (cW pT [] (aD (aE bE (aC 1) (mC (.int 1))) aG)) (mC (.int 1))))
 (aQ (eW (cW kW [] (aD (aE dG (aC 4) (mC (.int 0))) aG)))
 (bC (cW oH [] (aD (mQ (aV (aC 2)) (fA gO (aC 3)) (aC 3)) (aD (aC 4) aG))))))))))
def sJ:FM:=bH 1 5 sL
def sO:MS:=(aQ (aW 1 (iQ ["text"] [] (cX (mF nE (aC 0) (aD (mC (.str " ")) aG))) (gN 0) (cW sJ [] (aD (aC 0) aG))))
 (aQ (eW (cW kW [] (aD (yJ (aE cQ (mR dX (aD (aC 1) aG)) (mC (.int 2))) (aE cQ (mR dX (aD (aC 1) aG)) (mC (.int 3)))) aG)))
 (bC (bF tI [] (aD (aC 1) aG)))))
def sN:FM:=bH 1 2 sO
def sC:MS:=(aQ (aW 1 (iQ ["part"] [] (cX (mF nE (aC 0) (aD (mC (.str ", ")) aG))) (gN 0) (cW sN [] (aD (aC 0) aG))))
 (aQ (eW (cW kW [] (aD (mR kO (aD (dJ ["p"] [(1,"corners")] (cX (aC 1)) (gN 0) (aE cQ (mR dX (aD (aC 0) aG)) (mR dX (aD (aC 1) aG)))) aG)) aG)))
 (bC (aC 1))))
def sB:FM:=bH 1 2 sC
def tD:MS:=(bC (mQ (aV (aE cQ (aC 0) (mC (.str "none")))) (mN lJ aG) (mF nE (aC 0) (aD (mC (.str " + ")) aG))))
def sZ:FM:=bH 1 1 tD
def uX:MS:=(bC (mR Rb (aD (dJ ["one","other"] [] (Cc (aD (aC 0) (aD (aC 1) aG))) (gT 2 (fP (gN 0) (fP (gN 1) kF))) (aE bO (aC 0) (aC 1))) aG)))
def uZ:FM:=bH 2 2 uX
def sI:MS:=(bC (dJ ["near","far"] [(0,"start"),(1,"end")] (Cc (aD (jD (aC 0) gB (fE (fA gO (mC (.int 1))))) (aD (jD (aC 1) gB (fE (fA gO (mC (.int 1))))) aG))) (gT 2 (fP (gN 0) (fP (gN 1) kF))) (aE nS (aE bO (aC 1) (aE bE (aC 2) (fA gO (mC (.int 1))))) (aE bO (aC 0) (aE bE (aC 3) (fA gO (mC (.int 1))))))))
def sK:FM:=bH 2 2 sI
def tR:MS:=(aQ (aW 1 (aE bE (aC 0) (mC (.int 0))))
 (aQ (bV (aV (aE cQ (mR dX (aD (aC 0) aG)) (mC (.int 1)))) (bC (mN lJ (aD (fA gO (aE bE (aC 1) (mC (.int 1)))) (aD (aE bE (aC 1) (mC (.int 0))) aG)))) cE)
 (aQ (aW 2 (aE bE (aC 0) (mC (.int 1))))
 (bC (mN lJ (aD (aE nS (aE bO (aE bE (aC 1) (mC (.int 1))) (aE bE (aC 2) (mC (.int 2)))) (aE bO (aE bE (aC 1) (mC (.int 2))) (aE bE (aC 2) (mC (.int 1))))) (aD (aE nS (aE bO (aE bE (aC 1) (mC (.int 2))) (aE bE (aC 2) (mC (.int 0)))) (aE bO (aE bE (aC 1) (mC (.int 0))) (aE bE (aC 2) (mC (.int 2))))) (aD (aE nS (aE bO (aE bE (aC 1) (mC (.int 0))) (aE bE (aC 2) (mC (.int 1)))) (aE bO (aE bE (aC 1) (mC (.int 1))) (aE bE (aC 2) (mC (.int 0))))) aG))))))))
def tV:FM:=bH 1 3 tR
def sG:MS:=(aQ (aW 1 (dJ ["p"] [(0,"points")] (cX (jD (aC 0) (fE (mC (.int 1))) gB)) (gN 0) (bF sK [] (aD (aE bE (aC 1) (mC (.int 0))) (aD (aC 0) aG)))))
 (bC (bF uZ [] (aD (bF tV [] (aD (jD (aC 1) gB (fE (fA gO (mC (.int 1))))) aG)) (aD (aE bE (aC 1) (fA gO (mC (.int 1)))) aG)))))
def sM:FM:=bH 1 2 sG
def uH:MS:=(bC (bF oO [] (aD (bF sM [] (aD (aC 0) aG)) aG)))
def uI:FM:=bH 1 1 uH
def tQ:MS:=(aQ (aW 1 (mR uB (aD (aC 0) aG)))
 (aQ (aW 2 (bF uI [] (aD (aC 1) aG)))
 (aQ (bV (aV (aE cQ (aC 2) (mC (.int 0)))) (jR "Flat") cE)
 (aQ (bV (aV (aE jZ (aC 2) (mC (.int 0)))) (aW 1 (aE bT (jD (aC 1) gB (fE (fA gO (mC (.int 2))))) (mN lJ (aD (aE bE (aC 1) (fA gO (mC (.int 1)))) (aD (aE bE (aC 1) (fA gO (mC (.int 2)))) aG))))) cE)
 (bC (mR nB (aD (aC 1) aG)))))))
def tN:FM:=bH 1 3 tQ
def tE:MS:=(aQ (aW 1 (iQ ["text"] [] (cX (bF sZ [] (aD (aC 0) aG))) (gN 0) (cW sB [] (aD (aC 0) aG))))
 (aQ (eW (cW kW [] (aD (mR kO (aD (dJ ["corners"] [(1,"rows")] (cX (aC 1)) (gN 0) (aE cQ (mR dX (aD (aC 0) aG)) (mR dX (aD (aE bE (aC 1) (mC (.int 0))) aG)))) aG)) aG)))
 (bC (mR nB (aD (iQ ["corners"] [] (cX (aC 1)) (gN 0) (cW tN [] (aD (aC 0) aG))) aG)))))
def sX:FM:=bH 1 2 tE
def uT:MS:=(bC (cW sX [] (aD (aC 1) aG)))
def uV:FM:=bH 2 2 uT
def sS:MS:=(bC (mQ (Zg (aC 0)) (kE (mC (.str " + ")) (aD (aC 0) aG)) (mC (.str "none"))))
def sU:FM:=bH 1 1 sS
def sE:MS:=(aQ (bV (aV (aE rR (mR oZ (aD (aC 0) aG)) (aE jW (mC (.int 10)) (mC (.int 60))))) (jR "TooGreat") cE)
 (bC (mR Kb (aD (mR oZ (aD (aC 0) aG)) aG))))
def pS:FM:=bH 1 1 sE
def sA:MS:=(aQ (aW 1 (cW pS [] (aD (aE bE (aC 0) (mC (.int 0))) aG)))
 (aQ (bV (aV (aE jZ (aE bE (aC 0) (mC (.int 0))) (mC (.int 0)))) (aW 1 (aE jS (mC (.str "-")) (aC 1))) cE)
 (aQ (bV (aV (aE cQ (aE bE (aC 0) (mC (.int 1))) (mC (.int 1)))) (bC (aC 1)) cE)
 (bC (aE jS (aE jS (aC 1) (mC (.str "/"))) (cW pS [] (aD (aE bE (aC 0) (mC (.int 1))) aG)))))))
def sD:FM:=bH 1 2 sA
def tF:MS:=(bC (mR nB (aD (dJ ["number"] [(0,"p")] (cX (jD (aC 0) gB (fE (fA gO (mC (.int 1)))))) (gN 0) (cW oH [] (aD (aC 0) (aD (aE bE (aC 1) (fA gO (mC (.int 1)))) aG)))) aG)))
def tG:FM:=bH 1 1 tF
def sF:MS:=(bC (kE (mC (.str " ")) (aD (iQ ["number"] [] (cX (bF tG [] (aD (aC 0) aG))) (gN 0) (cW sD [] (aD (aC 0) aG))) aG)))
def sH:FM:=bH 1 1 sF
def rZ:MS:=(bC (kE (mC (.str ", ")) (aD (iQ ["p"] [] (cX (aC 0)) (gN 0) (cW sH [] (aD (aC 0) aG))) aG)))
def rX:FM:=bH 1 1 rZ
def sQ:MS:=(bC (bF sU [] (aD (iQ ["piece"] [] (cX (aC 0)) (gN 0) (cW rX [] (aD (aC 0) aG))) aG)))
def sW:FM:=bH 1 1 sQ
def sP:MS:=(bC (cW sW [] (aD (aE bE (aC 0) (mC (.int 0))) aG)))
def sV:FM:=bH 2 2 sP
def Dg:MS:=(aQ (aW 1 (Gc aG))
 (aQ (hX (Ta (aD (jD (aC 0) gB (fE (mC (.int 63)))) aG)) (gT 2 (fP (gN 2) (fP (gN 3) kF))) (bV (aV (aE rR (aC 3) (aE jW (mC (.int 10)) (mC (.int 18))))) (eW (oX (aC 1) (aD (aE nS (aC 3) (aE jW (mC (.int 10)) (mC (.int 18)))) aG))) (aQ (aW 4 (aE eQ (aE bO (aE bT (aE bT (aE bT (aC 3) (aE bO (aE bO (mC (.int 7)) (aC 2)) (aC 2))) (aE bO (mC (.int 13)) (aC 2))) (mC (.int 5))) (mC (.int 48271))) (mC (.int 2147483647))))
 (aQ (aW 5 (aE eQ (aE bO (aE bT (aE bT (aE bT (aC 3) (aE bO (aE bO (mC (.int 11)) (aC 2)) (aC 2))) (aE bO (mC (.int 17)) (aC 2))) (mC (.int 3))) (mC (.int 40692))) (mC (.int 2147483399))))
 (aQ (aW 6 (aE eQ (aE bO (aE bT (aE bT (aE bT (aC 3) (aE bO (aE bO (mC (.int 5)) (aC 2)) (aC 2))) (aE bO (mC (.int 29)) (aC 2))) (mC (.int 8))) (mC (.int 39373))) (mC (.int 2147483587))))
 (aQ (aW 4 (aE eQ (aE bO (aC 4) (mC (.int 52021))) (mC (.int 1000000007))))
 (aQ (aW 5 (aE eQ (aE bO (aC 5) (mC (.int 30011))) (mC (.int 998244353))))
 (aQ (aW 6 (aE eQ (aE bO (aC 6) (mC (.int 45989))) (mC (.int 1000000009))))
 (eW (oX (aC 1) (aD (aE bT (aE bO (aE bT (aE bO (aC 4) (mC (.int 998244353))) (aC 5)) (mC (.int 1000000009))) (aC 6)) aG)))))))))))
 (bC (aC 1))))
def xG:FM:=bH 1 7 Dg
def pX:MS:=(bC (vA (kX kP kP (mC (.int 1)) (mR mD (aD (aC 0) aG)) (mC (.int 12))) (mR kO (aD (dJ ["sign"] [] (yE (aC 0)) (gN 0) (aE oY (aC 0) (mC (.str "abcdefghijklmnopqrstuvwxyz")))) aG))))
def mU:FM:=bH 1 1 pX
def pV:MS:=(aQ (aW 1 (mF nE (aC 0) (aD (mC (.str " ")) aG)))
 (aQ (bV (aV (lG true lU (aE bE (aC 1) (mC (.int 0))))) (jR "NoRow") cE)
 (aQ (aW 2 (xY lU pZ (aE bE (aC 1) (mC (.int 0)))))
 (aQ (aW 3 (jD (aC 1) (fE (mC (.int 1))) (fE (aE bT (mC (.int 1)) (aE bE (aC 2) (mC (.int 0)))))))
 (aQ (aW 4 (jD (aC 1) (fE (aE bT (mC (.int 1)) (aE bE (aC 2) (mC (.int 0))))) gB))
 (aQ (bV (jO (aV (aE dG (aE lO (mR dX (aD (aC 4) aG)) (mC (.int 0))) (aE bE (aC 2) (mC (.int 1))))) (jO (aV (aE jZ (mR dX (aD (aC 3) aG)) (aE bE (aC 2) (mC (.int 0))))) (nU (aV (mR kO (aD (dJ ["word"] [] (cX (aC 3)) (gN 0) (bF mU [] (aD (aC 0) aG))) aG)))))) (jR "NoRow") cE)
 (bC (mN bU (aD (aE bE (aC 1) (mC (.int 0))) (aD (aC 3) (aD (kE (mC (.str " ")) (aD (aC 4) aG)) aG)))))))))))
def oF:FM:=bH 1 5 pV
def rT:MS:=(aQ (bV (nU (zA true (aC 0))) (jR "NoUndo") cE)
 (aQ (iL (kN false) 0)
 (iL (kK true) 0)))
def pQ:FM:=bH 1 1 rT
def sR:MS:=(aQ (bV (nU (aV (mR kO (aD (dJ ["name"] [(0,"self")] (cX (aC 1)) (gN 0) (aE Bc (aC 0) (vQ (aC 1)))) aG)))) (jR "NoName") cE)
 (bC (dJ ["name"] [(0,"self")] (cX (aC 1)) (gN 0) (aE yC (vQ (aC 1)) (aC 0)))))
def mS:FM:=bH 2 2 sR
def rY:MS:=(aQ (bV (nU (zA false (aC 0))) (jR "NoAgain") cE)
 (aQ (iL (kN true) 0)
 (iL (kK false) 0)))
def pR:FM:=bH 1 1 rY
def rS:MS:=(aQ (iL (kN true) 0)
 (aQ (iL nW 0)
 (uK 0 1 2 3)))
def oB:FM:=bH 3 4 rS
def pU:MS:=(aQ (aW 2 (cW oF [] (aD (aC 1) aG)))
 (aQ (aW 3 (aE bE (aC 2) (mC (.int 0))))
 (aQ (aW 4 (aE bE (aC 2) (mC (.int 1))))
 (aQ (bV (aV (lG false zH (aC 3))) (bC (xF [("shown",sV)] (aC 3) (aD (gW mS (aC 0) (aD (aC 4) aG)) (aD (aE bE (aC 2) (mC (.int 2))) aG)))) cE)
 (aQ (bV (aV (aE cQ (aC 3) (mC (.str "names")))) (bC (mQ (Ig (vQ (aC 0))) (kE (mC (.str " ")) (aD (xC (aD (vQ (aC 0)) aG)) aG)) (mC (.str "none")))) cE)
 (aQ (bV (aV (aE cQ (aC 3) (mC (.str "undo")))) (eW (gW pQ (aC 0) aG)) (bV (aV (aE cQ (aC 3) (mC (.str "again")))) (eW (gW pR (aC 0) aG)) (bV (aV (aE cQ (aC 3) (mC (.str "drop")))) (aQ (eW (gW mS (aC 0) (aD (aC 4) aG)))
 (eW (uP oB (aC 0) (aD (aE bE (aC 4) (mC (.int 0))) (aD (mC .non) aG))))) (eW (uP oB (aC 0) (aD (aE bE (aC 4) (mC (.int 0))) (aD (xF [("put",uV)] (aC 3) (aD (gW mS (aC 0) (aD (jD (aC 4) (fE (mC (.int 1))) gB) aG)) (aD (aE bE (aC 2) (mC (.int 2))) aG))) aG)))))))
 (bC (mC (.str "done")))))))))
def oE:FM:=bH 2 5 pU
def tW:MS:=(aQ (aW 2 (mC .non))
 (aQ (Cb (Va (mC (.int 0)) (gW oE (λρ S=>iT ((aC 0) ρ S)) (λρ S=>iT ((aD (aC 1) aG) ρ S)))) [(("NoRow","NoName"),1),(("NoText","Flat"),3),(("OtherKind","OnSide"),5),(("Backward","TooGreat"),7),(("NoUndo","NoAgain"),9)] 4 3 2)
 (bC (aC 2))))
def eB:FM:=bH 2 4 tW
def zW:MS:=(bC (dJ ["_law_line_here"] [(0,"_law_desk")] (cX (mN bU (aD (mC (.str "names")) (aD (mC (.str "shown a")) (aD (mC (.str "shown b")) (aD (mC (.str "shown none")) aG)))))) (gN 0) (bF eB [] (aD (aC 1) (aD (aC 0) aG)))))
def mW:FM:=bH 1 1 zW
def Ue:MS:=(aQ (aW 0 (Fg ["put","walk","push","turn"] [(mN bU (aD (mC (.int 1)) (aD (mC (.str "0 0, 1 0, 0 1")) aG))),(mN bU (aD (mC (.int 1)) (aD (mC (.str "0 0, 1 0, 0 1")) aG))),(mN bU (aD (mC (.int 2)) (aD (mC (.str "1 1")) aG))),(mN bU (aD (mC (.int 2)) (aD (mC (.str "0 1")) aG)))]))
 (aQ (oR (aC 0) (mC (.str "prism")) (mN bU (aD (mC (.int 2)) (aD (mC (.str "0 0 1")) aG))))
 (aQ (oR (aC 0) (mC (.str "pyramid")) (mN bU (aD (mC (.int 2)) (aD (mC (.str "0 0 1")) aG))))
 (aQ (oR (aC 0) (mC (.str "count")) (mN bU (aD (mC (.int 1)) (aD (mC (.str "1/4 1/4")) aG))))
 (aQ (oR (aC 0) (mC (.str "both")) (mN bU (aD (mC (.int 3)) (aD (mC .non) aG))))
 (aQ (hX (cX (mN bU (aD (mC (.str "drop")) (aD (mC (.str "shown")) (aD (mC (.str "size")) aG))))) (gN 1) (oR (aC 0) (aC 1) (mN bU (aD (mC (.int 1)) (aD (mC .non) aG)))))
 (aQ (hX (cX (mN bU (aD (mC (.str "same")) (aD (mC (.str "led")) (aD (mC (.str "pushed")) (aD (mC (.str "never")) aG)))))) (gN 1) (oR (aC 0) (aC 1) (mN bU (aD (mC (.int 2)) (aD (mC .non) aG)))))
 (bC (aC 0)))))))))
def zZ:FM:=bH 0 2 Ue
def Fa:MS:=(aQ (qF (mJ (aV (aE lO (mR dX (aD (aC 0) aG)) (mC (.int 0)))) (aV (aE cQ (aE bE (aC 0) (mC (.int 0))) (mC (.int 0))))) (eW (yG (aC 0) (aD (mC (.int 0)) aG))))
 (aQ (bV (aV (aE cQ (mR dX (aD (aC 0) aG)) (mC (.int 0)))) (bC (mC (.int 0))) cE)
 (aQ (aW 2 (aE eQ (aE bE (aC 0) (mC (.int 0))) (aC 1)))
 (aQ (qG (aC 0) (mC (.int 0)) (aE kD (aE bE (aC 0) (mC (.int 0))) (aC 1)))
 (bC (aC 2))))))
def gI:FM:=bH 2 3 Fa
def Cd:MS:=(aQ (aW 1 (mC (.str "abcdefghijklmnopqrstuvwxyz")))
 (aQ (aW 2 (mC (.str "!\"#$&'()*+,-./0123456789:;<=>?@ABCDEFGHIJKLMNOPQRSTUVWXYZ[\\]^_`{|}~")))
 (aQ (aW 3 (bF gI [] (aD (aC 0) (aD (mC (.int 8)) aG))))
 (aQ (aW 4 (aE pG (aC 2) (bF gI [] (aD (aC 0) (aD (mR mD (aD (aC 2) aG)) aG)))))
 (aQ (aW 5 (bF gI [] (aD (aC 0) (aD (mC (.int 12)) aG))))
 (aQ (aW 6 (bF gI [] (aD (aC 0) (aD (aE bT (aC 5) (mC (.int 1))) aG))))
 (aQ (aW 7 (kE (mC (.str "")) (aD (dJ ["_law_k"] [(1,"_law_letters"),(0,"_law_row_here")] (qA (aD (aC 5) aG)) (gN 0) (aE pG (aC 1) (bF gI [] (aD (aC 2) (aD (mC (.int 26)) aG))))) aG)))
 (aQ (bV (aV (aE cQ (aC 3) (mC (.int 0)))) (bC (mC (.str ""))) cE)
 (aQ (bV (aV (aE jZ (aC 3) (mC (.int 3)))) (bC (pD (aE jS (aC 7) (aC 1)) gB (fE (aE bT (mC (.int 13)) (aC 6))))) cE)
 (bC (aE jS (aE jS (pD (aC 7) gB (fE (aC 6))) (aC 4)) (pD (aC 7) (fE (aC 6)) gB))))))))))))
def Dd:FM:=bH 1 8 Cd
def tX:MS:=(aQ (aW 4 (qQ ["_law_k"] [(0,"_law_row_here")] (qA (aD (aC 2) aG)) (gN 0) (aE bE (mN bU (aD (mC (.str "a")) (aD (mC (.str "b")) (aD (mC (.str "none")) (aD (mC (.str "gone")) aG))))) (bF gI [] (aD (aC 1) (aD (mC (.int 4)) aG))))))
 (aQ (qG (aC 4) (bF gI [] (aD (aC 0) (aD (aC 2) aG))) (bF Dd [] (aD (aC 0) aG)))
 (aQ (aW 5 (kE (mC (.str " ")) (aD (aE bT (mN lJ (aD (aC 1) aG)) (aC 4)) aG)))
 (aQ (bV (aV (fA qY (aC 3))) (bC (aC 5)) cE)
 (bC (aE jS (aE jS (aC 5) (mC (.str " "))) (aE bE (mN bU (aD (aC 3) (aD (mC (.str "x")) (aD (mC (.str "0 0, 1 1, 2 2")) (aD (mC (.str "")) aG))))) (bF gI [] (aD (aC 0) (aD (mC (.int 4)) aG))))))))))
def wH:FM:=bH 4 6 tX
def zM:MS:=(bC (mN bU (aD (aC 0) (aD (aE cQ (aE eQ (aC 0) (mC (.int 2))) (mC (.int 1))) aG))))
def mT:FM:=bH 1 1 zM
def Ng:MS:=(aQ (aW 1 (mB xG [] (aD (aC 0) aG)))
 (aQ (aW 2 xX)
 (aQ (bV (aV (aE cQ (bF gI [] (aD (aC 1) (aD (mC (.int 2)) aG))) (mC (.int 1)))) (hX (cX (mN bU (aD (mC (.str "put a 0 0, 1 0, 0 1")) (aD (mC (.str "put b 0 0 0, 1 0 0, 0 1 0, 0 0 1")) (aD (mC (.str "put none none")) aG))))) (gN 3) (bV (aV (aE dG (bF eB [] (aD (aC 2) (aD (aC 3) aG))) (mN bU (aD (mC (.int 0)) (aD (mC (.str "done")) aG))))) (bC (mC (.bl false))) cE)) cE)
 (aQ (aW 4 (bF mW [] (aD (aC 2) aG)))
 (aQ (bV (jO (aV (aE dG (bF eB [] (aD (aC 2) (aD (mC (.str "put a none")) aG))) (mN bU (aD (mC (.int 0)) (aD (mC (.str "done")) aG))))) (aV (aE dG (bF eB [] (aD (aC 2) (aD (mC (.str "undo")) aG))) (mN bU (aD (mC (.int 0)) (aD (mC (.str "done")) aG)))))) (bC (mC (.bl false))) cE)
 (aQ (aW 5 (mB zZ [] aG))
 (aQ (hX (cX (xC (aD (Pa (aD (aC 5) aG)) aG))) (gN 6) (aQ (vH (gT 2 (fP (gN 7) (fP (gN 8) kF))) (uS (aC 5) (aC 6)))
 (aQ (aW 3 (bF wH [] (aD (aC 1) (aD (aC 6) (aD (aC 7) (aD (aC 8) aG))))))
 (bV (jO (aV (aE dG (bF eB [] (aD (aC 2) (aD (aC 3) aG))) (bF mT [] (aD (mC (.int 1)) aG)))) (aV (aE dG (bF mW [] (aD (aC 2) aG)) (aC 4)))) (bC (mC (.bl false))) cE))))
 (aQ (bV (jO (aV (aE dG (bF eB [] (aD (aC 2) (aD (mC (.str "again")) aG))) (mN bU (aD (mC (.int 0)) (aD (mC (.str "done")) aG))))) (aV (aE dG (bF eB [] (aD (aC 2) (aD (mC (.str "shown a")) aG))) (mN bU (aD (mC (.int 0)) (aD (mC (.str "none")) aG)))))) (bC (mC (.bl false))) cE)
 (bC (aE cQ (bF eB [] (aD (aC 2) (aD (mC (.str "again")) aG))) (bF mT [] (aD (mC (.int 10)) aG))))))))))))
def Yr:FM:=bH 1 9 Ng
abbrev rV(B:Bx):=gX B "refuse_unless" 1 ["fits"] kW
abbrev Ea(B:Bx):=fD B "sign" 1 ["number"] oO
abbrev Nd(B:Bx):=fD B "divisor" 1 ["one","other"] pW
abbrev Rk(B:Bx):=fD B "reduced" 2 ["numbers"] tL
abbrev Kn(B:Bx):=gX B "point" 3 ["numbers","bottom"] qB
abbrev Tj(B:Bx):=fD B "point_at" 4 ["parts"] tI
abbrev Ui(B:Bx):=gX B "read_whole" 2 ["text"] pT
abbrev Jd(B:Bx):=gX B "fraction" 2 ["top","bottom"] oH
abbrev Ni(B:Bx):=gX B "read_number" 3 ["line"] sJ
abbrev Bj(B:Bx):=gX B "read_point" 5 ["line"] sN
abbrev Ki(B:Bx):=gX B "read_corners" 6 ["text"] sB
abbrev Lj(B:Bx):=fD B "read_rows" 1 ["line"] sZ
abbrev Wp(B:Bx):=fD B "dot" 1 ["u","v"] uZ
abbrev Ri(B:Bx):=fD B "whole_arrow" 1 ["start","end"] sK
abbrev Dl(B:Bx):=fD B "normal" 1 ["arrows"] tV
abbrev Pi(B:Bx):=fD B "determinant" 2 ["points"] sM
abbrev No(B:Bx):=fD B "side" 3 ["points"] uI
abbrev Kk(B:Bx):=gX B "simplex" 4 ["points"] tN
abbrev Hj(B:Bx):=gX B "read_heap" 7 ["line"] sX
abbrev Hq(B:Bx):=gX B "put" 8 ["heaps","text"] uV
abbrev Xi(B:Bx):=fD B "shown_rows" 1 ["texts"] sU
abbrev Qi(B:Bx):=gX B "shown_whole" 1 ["number"] pS
abbrev Ii(B:Bx):=gX B "shown_number" 2 ["number"] sD
abbrev Ak(B:Bx):=fD B "measures" 3 ["p"] tG
abbrev Li(B:Bx):=gX B "shown_point" 4 ["p"] sH
abbrev Ei(B:Bx):=gX B "shown_simplex" 5 ["piece"] rX
abbrev Wi(B:Bx):=gX B "shown_heap" 6 ["heap"] sW
abbrev Aj(B:Bx):=gX B "tell_shown" 7 ["heaps","text"] sV
abbrev Uo(B:Bx):=fD B "_law_row" 1 ["_law_script"] xG
abbrev Uk(B:Bx):=fD B "is_name" 1 ["word"] mU
abbrev Bk(B:Bx):=gX B "read_row" 2 ["line"] oF
abbrev Af(B:Bx):=fD B "_law_tell" 10 ["_law_desk","_law_line_here"] eB
abbrev Am(B:Bx):=fD B "_law_looks" 11 ["_law_desk"] mW
abbrev Hm(B:Bx):=fD B "_law_texts" 1 [] zZ
abbrev zY(B:Bx):=fD B "_law_take" 1 ["_law_row_here","_law_many"] gI
abbrev Gj(B:Bx):=fD B "_law_bad_name" 2 ["_law_row_here"] Dd
abbrev Rn(B:Bx):=fD B "_law_line" 3 ["_law_row_here","_law_word","_law_many","_law_text"] wH
abbrev Ek(B:Bx):=fD B "_law_refusal" 1 ["_law_code"] mT
structure Mg(mg:Str->AE):Prop where
 m_abs:mg "abs"=none
 m_all:mg "all"=none
 m_dict:mg "dict"=none
 m_enumerate:mg "enumerate"=none
 m_int:mg "int"=none
 m_isinstance:mg "isinstance"=none
 m_len:mg "len"=none
 m_list:mg "list"=none
 m_range:mg "range"=none
 m_sorted:mg "sorted"=none
 m_str:mg "str"=none
 m_sum:mg "sum"=none
 m_tuple:mg "tuple"=none
 m_zip:mg "zip"=none
set_option hygiene false
local macro_rules | `(tactic|trivial)=> `(tactic|(first
 |(with_reducible show aI _ _ _ _ _ (vQ _));refine ab6 DD.d ?_
 |(with_reducible show cR _ _ _ _ _ (zA true _));refine Bs (b:=true) DD.d ?_
 |(with_reducible show cR _ _ _ _ _ (zA false _));refine Bs (b:=false) DD.d ?_
 |(with_reducible show cR _ _ _ _ _ (Ig _));refine W5 ?_
 |(with_reducible show aI _ _ _ _ _ (aE Bc _ _));refine oP (aaq (yS hr)) abX ?_ ?_ rfl
 |(with_reducible show aI _ _ _ _ _ (aE yC _ _));refine F3 (yS hr) ?_ ?_
 |(with_reducible show cR _ _ _ _ _ (aV (lG false _ _)));refine abf (by assumption) rfl ?_
 |(with_reducible show cR _ _ _ _ _ (aV (lG true _ _)));refine Q8 (by assumption) rfl ?_
 |(with_reducible show aI _ _ _ _ _ (xY _ _ _));refine X4 (by assumption) rfl ?_
 |(with_reducible show aI _ _ _ _ _ (xF _ _ _));refine V9 (by assumption) (adE (by assumption) (by decide) rfl .nil) hr rfl ?_ ?_
 |(with_reducible show aI _ _ _ _ _ (gW _ _ aG));refine O4 DD (by assumption) hr (by decide) ?_
 |(with_reducible show aI _ _ _ _ _ (gW _ _ _));refine abq DD (by assumption) hr (by decide) ?_ ?_
 |(with_reducible show aI _ _ _ _ _ (uP _ _ _));refine aa1 DD (by assumption) hr (by decide) ?_ ?_
 |(with_reducible show aI _ _ _ _ _ xX);exact aaD DD (by assumption) hr (by decide) rfl
 |(with_reducible show cL _ _ _ _ _ (iL (kN true) _));exact Wo (b:=true) DD.d rfl
 |(with_reducible show cL _ _ _ _ _ (iL (kN false) _));exact Wo (b:=false) DD.d rfl
 |(with_reducible show cL _ _ _ _ _ (iL nW _));exact W2 DD.d rfl
 |(with_reducible show cL _ _ _ _ _ (iL (kK true) _));exact Cp (b:=true) DD.d rfl
 |(with_reducible show cL _ _ _ _ _ (iL (kK false) _));exact Cp (b:=false) DD.d rfl
 |(with_reducible show eX _ _ _ _ _ (uK _ _ _ _));exact K5 DD.d (yS hr) yM yM yM yM nd (cv rfl) (cj rfl) rfl m.m_dict (by decide) (by decide) (by decide)
 |(with_reducible show aI _ _ _ _ _ (mB _ [] aG));exact Y4 (by assumption) hr (by decide) rfl
 |(with_reducible show aI _ _ _ _ _ (uS _ _));refine V8 (yS hr) ?_ ?_
 |(with_reducible show cL _ _ _ _ _ (oR _ _ _));refine Q0 (yS hr) ?_ ?_ ?_
 |(with_reducible show aI _ _ _ _ _ (Fg _ _));(first |refine vX (jF ?_ wO) |refine vX (jF ?_ (jF ?_ wO)) |refine vX (jF ?_ (jF ?_ (jF ?_ wO))) |refine vX (jF ?_ (jF ?_ (jF ?_ (jF ?_ wO)))))
 |(with_reducible show aI _ _ _ _ _ (xC _));refine K1 rfl rfl m.m_sorted Kl ?_
 |(with_reducible show aI _ _ _ _ _ (Pa _));refine G9 rfl rfl m.m_list Rp ?_
 |(with_reducible show aI _ _ _ _ _ (pD _ _ _));refine aa9 ?_ ?_ ?_
 |(with_reducible show aI _ _ _ _ _ (aE pG _ _));refine Y3 ?_ ?_
 |(with_reducible show aI _ _ _ _ _ (kE _ _));refine U3 ?_ ?_
 |(with_reducible show iA _ _ _ _ _ _ (yE _));refine P5 ?_
 |(with_reducible show aI _ _ _ _ _ (mR mD _));refine tU Pw aag rfl m.m_len Cr ?_
 |(with_reducible show aI _ _ _ _ _ (mR Sa _));refine zS Fw aa2 rfl m.m_int aa4 ?_
 |(with_reducible show aI _ _ _ _ _ (mR Kb _));refine zS Ww acB rfl m.m_str Z0 ?_
 |(with_reducible show aI _ _ _ _ _ (iQ _ _ _ _ _));refine N3 (by first |exact yA |exact xD) ?_ rfl (λ_ _ _ _=> ?_) (λ_ _ _ _ _ hp=> ?_)
 |(with_reducible show cL _ _ _ _ _ (aW _ (iQ _ _ _ _ _)));refine A0 nd rfl (by first |exact cv rfl |exact cj rfl) (by first |exact yA |exact xD) ?_ rfl (λ_ _ _ _=> ?_) (λ_ _ _ _ _ hp=> ?_)
 |(with_reducible show aI _ _ _ _ _ (mF nE _ _));refine Ar qo PySem.F.type_str_split M8 ?_ ?_
 |(with_reducible show aI _ _ _ _ _ (mF Ha _ _));refine Ar PySem.F.slot_str_startswith PySem.F.type_str_startswith Tz ?_ ?_
 |(with_reducible show aI _ _ _ _ _ (aE oY _ _));refine oP B7 abB ?_ ?_ rfl
 |(with_reducible show aI _ _ _ _ _ (kX kP kP _ _ _));refine wD xN yF xN yF ?_ ?_ ?_
 |(with_reducible show aI _ _ _ _ _ (kX kP jZ _ _ _));refine wD xN yF uR vP ?_ ?_ ?_
 |(with_reducible show aI _ _ _ _ _ (kX jZ kP _ _ _));refine wD uR vP xN yF ?_ ?_ ?_
 |(with_reducible show aI _ _ _ _ _ (kX jZ jZ _ _ _));refine wD uR vP uR vP ?_ ?_ ?_
 |(with_reducible show aI _ _ _ _ _ (kX cQ cQ _ _ _));refine wD (Ja (rQ hr)) Qb (Ja (rQ hr)) Qb ?_ ?_ ?_
 |(with_reducible show cM _ _ _ _ _ aG);exact tY
 |(with_reducible show cM _ _ _ _ _ (aD _ _));refine lS ?_ ?_
 |(with_reducible show aI _ _ _ _ _ (aC _));exact Ra _
 |(with_reducible show aI _ _ _ _ _ (mC (.int _)));(first |exact uE |exact Dp rfl (by assumption))
 |(with_reducible show aI _ _ _ _ _ (mC (.bl _)));exact ab4
 |(with_reducible show aI _ _ _ _ _ (mC (.str _)));(first |exact wU |exact Dp rfl (by assumption))
 |(with_reducible show aI _ _ _ _ _ (mC .non));exact Vq
 |(with_reducible show aI _ _ _ _ _ (fA gO _));refine abQ abb aca ?_
 |(with_reducible show aI _ _ _ _ _ (aE jS _ _));refine qT Ey aak ?_ ?_
 |(with_reducible show aI _ _ _ _ _ (aE bT _ _));refine qT R8 abA ?_ ?_
 |(with_reducible show aI _ _ _ _ _ (aE nS _ _));refine qT aad abG ?_ ?_
 |(with_reducible show aI _ _ _ _ _ (aE bO _ _));refine qT R5 acd ?_ ?_
 |(with_reducible show aI _ _ _ _ _ (aE kD _ _));refine qT E1 aaJ ?_ ?_
 |(with_reducible show aI _ _ _ _ _ (aE eQ _ _));refine qT X7 acA ?_ ?_
 |(with_reducible show aI _ _ _ _ _ (aE jW _ _));refine qT abg acG ?_ ?_
 |(with_reducible show aI _ _ _ _ _ (aE bE _ _));refine acb ?_ ?_
 |(with_reducible show aI _ _ _ _ _ (aE cQ _ _));refine oP (Ja (rQ hr)) Qb ?_ ?_ (lB _)
 |(with_reducible show aI _ _ _ _ _ (aE dG _ _));refine oP (Jq (rQ hr)) Bu ?_ ?_ (lB _)
 |(with_reducible show aI _ _ _ _ _ (aE jZ _ _));refine oP uR vP ?_ ?_ (lB _)
 |(with_reducible show aI _ _ _ _ _ (aE kP _ _));refine oP xN yF ?_ ?_ (lB _)
 |(with_reducible show aI _ _ _ _ _ (aE lO _ _));refine oP Qs Tt ?_ ?_ (lB _)
 |(with_reducible show aI _ _ _ _ _ (aE rR _ _));refine oP Qr Du ?_ ?_ (lB _)
 |(with_reducible show cR _ _ _ _ _ (aV (aE cQ _ _)));refine wI (Ja (rQ hr)) Qb ?_ ?_ (lB _)
 |(with_reducible show cR _ _ _ _ _ (aV (aE dG _ _)));refine wI (Jq (rQ hr)) Bu ?_ ?_ (lB _)
 |(with_reducible show cR _ _ _ _ _ (aV (aE jZ _ _)));refine wI uR vP ?_ ?_ (lB _)
 |(with_reducible show cR _ _ _ _ _ (aV (aE lO _ _)));refine wI Qs Tt ?_ ?_ (lB _)
 |(with_reducible show cR _ _ _ _ _ (aV (aE rR _ _)));refine wI Qr Du ?_ ?_ (lB _)
 |(with_reducible show cR _ _ _ _ _ (aV (fA qY _)));refine Y7 ?_
 |(with_reducible show cR _ _ _ _ _ (aV _));refine X2 ?_
 |(with_reducible show cR _ _ _ _ _ (Zg _));refine T8 ?_
 |(with_reducible show cR _ _ _ _ _ (nU _));refine O6 ?_
 |(with_reducible show cR _ _ _ _ _ (mJ _ _));refine jY.pt ?_
 |(with_reducible show cR _ _ _ _ _ (jO _ _));refine jY.pt ?_
 |(with_reducible show jY _ _ _ _ _ (mJ _ _));refine X0 ?_ ?_
 |(with_reducible show jY _ _ _ _ _ (jO _ _));refine aaS ?_ ?_
 |(with_reducible show jY _ _ _ _ _ _);(first |refine N5 ?_ |refine U2 ?_)
 |(with_reducible show aI _ _ _ _ _ (vA _ _));refine aaZ ?_ ?_
 |(with_reducible show aI _ _ _ _ _ (yJ _ _));refine abV ?_ ?_
 |(with_reducible show aI _ _ _ _ _ (mQ _ _ _));refine acy ?_ ?_ ?_
 |(with_reducible show aI _ _ _ _ _ (mN bU _));refine xJ ?_
 |(with_reducible show aI _ _ _ _ _ (mN lJ _));refine aaz ?_
 |(with_reducible show aI _ _ _ _ _ (Gc _));refine R4 ?_
 |(with_reducible show aI _ _ _ _ _ (jD _ _ _));refine acm ?_ ?_ ?_
 |(with_reducible show pJ _ _ _ _ _ gB);exact M6
 |(with_reducible show pJ _ _ _ _ _ (fE _));refine G7 ?_
 |(with_reducible show aI _ _ _ _ _ (oX _ _));refine A1 ?_ ?_
 |(with_reducible show aI _ _ _ _ _ (yG _ _));refine aaQ ?_ ?_
 |(with_reducible show aI _ _ _ _ _ (cW _ [] _));(first |refine ab7 (by assumption) hr (by decide) rfl ?_ |refine acz hp (by assumption) hr (by decide) rfl ?_ |refine ab0 (by assumption) hr (by decide) rfl ?_)
 |(with_reducible show aI _ _ _ _ _ (bF _ [] _));refine acp (by assumption) hr (by decide) rfl ?_
 |(with_reducible show aI _ _ _ _ _ (mB _ [] _));refine abZ (by assumption) hr (by decide) rfl ?_
 |(with_reducible show aI _ _ _ _ _ (mR dX _));refine tU Xw acn rfl m.m_len Cr ?_
 |(with_reducible show aI _ _ _ _ _ (mR oZ _));refine tU K8 acw rfl m.m_abs abi ?_
 |(with_reducible show aI _ _ _ _ _ (mR kO _));refine tU (E5 rfl) abS rfl m.m_all aal ?_
 |(with_reducible show aI _ _ _ _ _ (mR nB _));refine zS Kw R9 rfl m.m_tuple L8 ?_
 |(with_reducible show aI _ _ _ _ _ (mR uD _));refine zS Nw X5 rfl m.m_list Rp ?_
 |(with_reducible show aI _ _ _ _ _ (mR Rb _));refine tU (Ez rfl) acj rfl m.m_sum abe ?_
 |(with_reducible show aI _ _ _ _ _ (mR uB _));refine tU Qy abl rfl m.m_sorted Kl ?_
 |(with_reducible show aI _ _ _ _ _ (dJ _ _ _ _ _));refine U1 (by first |exact yA |exact xD) ?_ rfl (λ_ _ _ _=> ?_) (λ_ _ _ _=> ?_)
 |(with_reducible show iA _ _ _ _ _ _ (Cc _));refine S9 rfl m.m_zip ?_
 |(with_reducible show iA _ _ _ _ _ _ (Ta _));refine L1 rfl m.m_enumerate ?_
 |(with_reducible show iA _ _ _ _ _ _ (qA _));refine Ly rfl m.m_range ?_
 |(with_reducible show iA _ _ _ _ _ _ (cX _));refine O7 ?_
 |(with_reducible show kS _ _ _ (gN _));exact N2 (by first |exact nd |(show(bZ _ _).Nodup;decide+kernel)) rfl (by first |exact cv rfl |exact cj rfl)
 |(with_reducible show kS _ _ _ (gT _ _));refine Q7 rfl ?_
 |(with_reducible show vF _ _ _ kF);exact D7
 |(with_reducible show vF _ _ _ (fP _ _));refine B0 ?_ ?_
 |(with_reducible show eX _ _ _ _ _ cE);exact J8
 |(with_reducible show eX _ _ _ _ _ (aQ _ _));refine zP ?_ ?_
 |(with_reducible show eX _ _ _ _ _ _);refine Cn ?_
 |(with_reducible show cL _ _ _ _ _ (bC _));refine Gp ?_
 |(with_reducible show cL _ _ _ _ _ (bV _ _ _));refine aat ?_ ?_ ?_
 |(with_reducible show cL _ _ _ _ _ (eW _));refine E6 ?_
 |(with_reducible show cL _ _ _ _ _ (jR _));exact Vz rfl (by assumption) (by assumption)
 |(with_reducible show cL _ _ _ _ _ (aW _ (qQ _ _ _ _ _)));refine Gz nd rfl (by first |exact cv rfl |exact cj rfl) (by first |exact yA |exact xD) ?_ rfl (λ_ _ _ _=> ?_) (λ_ _ _ _=> ?_)
 |(with_reducible show cL _ _ _ _ _ (aW _ (dJ _ _ _ _ _)));(first |refine J9 nd rfl (by first |exact cv rfl |exact cj rfl) (by first |exact yA |exact xD) ?_ rfl (λ_ _ _ _=> ?_) (λ_ _ _ _=> ?_) |refine Da nd rfl (by first |exact cv rfl |exact cj rfl) ?_)
 |(with_reducible show cL _ _ _ _ _ (aW _ _));refine Da nd rfl (by first |exact cv rfl |exact cj rfl) ?_
 |(with_reducible show cL _ _ _ _ _ (vH _ _));refine S8 ?_ ?_
 |(with_reducible show cL _ _ _ _ _ (qG _ _ _));refine Jz ?_ ?_ ?_
 |(with_reducible show cL _ _ _ _ _ (qF _ _));refine Xz (by first |exact d3 |exact d4) ?_ ?_
 |(with_reducible show cL _ _ _ _ _ (hX _ _ _));refine P6 (by first |exact d3 |exact d4) rfl ?_ ?_ ?_)<;>trivial)
set_option hygiene true
section
variable{B:Bx}(X:XG B.K B.mg)(m:Mg B.mg)
include X m
theorem Mv(h:HF B.K "refuse_unless" Ji)(q_NoText:B.mg "NoText"=some (.ref (B.cl "NoText")))(x_NoText:bi B.K (B.cl "NoText") dC "ValueError.__new__"=true):rV B:=jB (N:=["fits"]) X h cB λnd _ _ _ _ _ _ _ hr=>by unfold rW;trivial
theorem W7(h:HF B.K "sign" Dq):Ea B:=fK (N:=["number"]) X h cB λnd _ _ _ _ _ _ _ hr=>by unfold uC;trivial
theorem Ay(h:HF B.K "divisor" Cm):Nd B:=fK (N:=["one","other","rest"]) X h cB λnd _ _ _ _ _ _ _ hr=>by unfold Yd;trivial
theorem Ry(h:HF B.K "reduced" Xk)(C_divisor:Nd B):Rk B:=fK (N:=["numbers","common","number"]) X h cB λnd _ _ _ _ _ _ _ hr=>by unfold tM;trivial
theorem M0{f:Addr}{fd:ay}{dsv:Array Value}(F:nV B.K "point" "point" wF f fd dsv)(C_reduced:Rk B)(C_sign:Ea B)(q_NoPoint:B.mg "NoPoint"=some (.ref (B.cl "NoPoint")))(x_NoPoint:bi B.K (B.cl "NoPoint") dC "ValueError.__new__"=true):bQ B.P B.w B.K B.mg B.base (aJ B.P B.w) 3 f fd ["numbers","bottom"] (jM B.K B.cl qB):=Vt (N:=["numbers","bottom"]) F cB λnd _ _ _ _ _ _ _ hr=>by unfold uA;trivial
theorem Fx(h:HF B.K "point_at" Vk)(H_point:Kn B):Tj B:=fK (N:=["parts","bottom","part"]) X h cB λnd _ _ _ _ _ _ _ hr=>by unfold tJ;trivial
theorem Ew(h:HF B.K "read_whole" Oj)(H_refuse_unless:rV B)(gt_FIGURES:kQ B.K B.mg "FIGURES" (.str "0123456789"))(gt_MOST_FIGURES:kQ B.K B.mg "MOST_FIGURES" (.int 60)):Ui B:=jB (N:=["text"]) X h cB λnd _ _ _ _ _ _ _ hr=>by unfold sT;trivial
theorem Jx{f:Addr}{fd:ay}{dsv:Array Value}(F:nV B.K "fraction" "fraction" vU f fd dsv)(C_sign:Ea B)(C_divisor:Nd B)(q_NoNumber:B.mg "NoNumber"=some (.ref (B.cl "NoNumber")))(x_NoNumber:bi B.K (B.cl "NoNumber") dC "ValueError.__new__"=true):bQ B.P B.w B.K B.mg B.base (aJ B.P B.w) 2 f fd ["top","bottom"] (jM B.K B.cl oH):=Vt (N:=["top","bottom","common"]) F cB λnd _ _ _ _ _ _ _ hr=>by unfold tH;trivial
theorem Xv(h:HF B.K "read_number" Dj)(H_refuse_unless:rV B)(H_read_whole:Ui B)(H_fraction:Jd B):Ni B:=jB (N:=["line","parts","below","top","bottom"]) X h cB λnd _ _ _ _ _ _ _ hr=>by unfold sL;trivial
theorem Gw(h:HF B.K "read_point" Kj)(H_read_number:Ni B)(H_refuse_unless:rV B)(C_point_at:Tj B):Bj B:=jB (N:=["line","parts"]) X h cB λnd _ _ _ _ _ _ _ hr=>by unfold sO;trivial
theorem Tv(h:HF B.K "read_corners" Oi)(H_read_point:Bj B)(H_refuse_unless:rV B):Ki B:=jB (N:=["text","corners"]) X h cB λnd _ _ _ _ _ _ _ hr=>by unfold sC;trivial
theorem Tw(h:HF B.K "read_rows" Uj)(gt_NOTHING:kQ B.K B.mg "NOTHING" (.str "none")):Lj B:=fK (N:=["line"]) X h cB λnd _ _ _ _ _ _ _ hr=>by unfold tD;trivial
theorem aan(h:HF B.K "dot" Ms):Wp B:=fK (N:=["u","v"]) X h cB λnd _ _ _ _ _ _ _ hr=>by unfold uX;trivial
theorem Aw(h:HF B.K "whole_arrow" Yi):Ri B:=fK (N:=["start","end"]) X h cB λnd _ _ _ _ _ _ _ hr=>by unfold sI;trivial
theorem Sz(h:HF B.K "normal" Um):Dl B:=fK (N:=["arrows","u","v"]) X h cB λnd _ _ _ _ _ _ _ hr=>by unfold tR;trivial
theorem Zv(h:HF B.K "determinant" Cj)(C_whole_arrow:Ri B)(C_dot:Wp B)(C_normal:Dl B):Pi B:=fK (N:=["points","rows"]) X h cB λnd _ _ _ _ _ _ _ hr=>by unfold sG;trivial
theorem V3(h:HF B.K "side" Pq)(C_sign:Ea B)(C_determinant:Pi B):No B:=fK (N:=["points"]) X h cB λnd _ _ _ _ _ _ _ hr=>by unfold uH;trivial
theorem Gy(h:HF B.K "simplex" Hl)(C_side:No B)(q_Flat:B.mg "Flat"=some (.ref (B.cl "Flat")))(x_Flat:bi B.K (B.cl "Flat") dC "ValueError.__new__"=true):Kk B:=jB (N:=["points","corners","turn"]) X h cB λnd _ _ _ _ _ _ _ hr=>by unfold tQ;trivial
theorem Rw(h:HF B.K "read_heap" Xj)(C_read_rows:Lj B)(H_read_corners:Ki B)(H_refuse_unless:rV B)(H_simplex:Kk B):Hj B:=jB (N:=["line","rows"]) X h cB λnd _ _ _ _ _ _ _ hr=>by unfold tE;trivial
theorem Z7(h:HF B.K "put" Vs)(H_read_heap:Hj B):Hq B:=jB (N:=["heaps","text"]) X h cB λnd _ _ _ _ _ _ _ hr=>by unfold uT;trivial
theorem Dw(h:HF B.K "shown_rows" Ij)(gt_NOTHING:kQ B.K B.mg "NOTHING" (.str "none")):Xi B:=fK (N:=["texts"]) X h cB λnd _ _ _ _ _ _ _ hr=>by unfold sS;trivial
theorem Vv(h:HF B.K "shown_whole" Ti)(q_TooGreat:B.mg "TooGreat"=some (.ref (B.cl "TooGreat")))(x_TooGreat:bi B.K (B.cl "TooGreat") dC "ValueError.__new__"=true):Qi B:=jB (N:=["number"]) X h cB λnd _ _ _ _ _ _ _ hr=>by unfold sE;trivial
theorem Sv(h:HF B.K "shown_number" Si)(H_shown_whole:Qi B):Ii B:=jB (N:=["number","text"]) X h cB λnd _ _ _ _ _ _ _ hr=>by unfold sA;trivial
theorem Ix(h:HF B.K "measures" Pk)(H_fraction:Jd B):Ak B:=fK (N:=["p"]) X h cB λnd _ _ _ _ _ _ _ hr=>by unfold tF;trivial
theorem Wv(h:HF B.K "shown_point" Vi)(C_measures:Ak B)(H_shown_number:Ii B):Li B:=jB (N:=["p"]) X h cB λnd _ _ _ _ _ _ _ hr=>by unfold sF;trivial
theorem Ov(h:HF B.K "shown_simplex" Hi)(H_shown_point:Li B):Ei B:=jB (N:=["piece"]) X h cB λnd _ _ _ _ _ _ _ hr=>by unfold rZ;trivial
theorem Iw(h:HF B.K "shown_heap" Fj)(C_shown_rows:Xi B)(H_shown_simplex:Ei B):Wi B:=jB (N:=["heap"]) X h cB λnd _ _ _ _ _ _ _ hr=>by unfold sQ;trivial
theorem Hw(h:HF B.K "tell_shown" Mj)(H_shown_heap:Wi B):Aj B:=jB (N:=["heaps","text"]) X h cB λnd _ _ _ _ _ _ _ hr=>by unfold sP;trivial
theorem X8(h:HF B.K "_law_row" Yq):Uo B:=fK (N:=["_law_script","_law_row_here","_law_k","_law_cell","_law_one","_law_two","_law_three"]) X h cB λnd _ _ _ _ _ _ _ hr=>by unfold Dg;trivial
theorem Vw{D:Addr}(DD:iK B D)(h:HM B.K "__init__" "Desk.__init__" Wj D):Oc B D 1:=adf (nm:="self") DD h cB λ_ _ _ _ _ _ _ _=>A4 DD.d yM
theorem Xx(h:HF B.K "is_name" Nm)(gt_LETTERS:kQ B.K B.mg "LETTERS" (.str "abcdefghijklmnopqrstuvwxyz"))(gt_LONGEST_NAME:kQ B.K B.mg "LONGEST_NAME" (.int 12)):Uk B:=fK (N:=["word"]) X h cB λnd _ _ _ _ _ _ _ hr=>by unfold pX;trivial
theorem Dx(gd_FORMS:zB B "FORMS" lU pZ)(h:HF B.K "read_row" Qk)(C_is_name:Uk B)(q_NoRow:B.mg "NoRow"=some (.ref (B.cl "NoRow")))(x_NoRow:bi B.K (B.cl "NoRow") dC "ValueError.__new__"=true):Bk B:=jB (N:=["line","words","form","names","rest"]) X h cB λnd _ _ _ _ _ _ _ hr=>by unfold pV;trivial
theorem Jv{D:Addr}(DD:iK B D)(h:HM B.K "take_back" "Desk.take_back" Di D)  (q_NoUndo:B.mg "NoUndo"=some (.ref (B.cl "NoUndo")))(x_NoUndo:bi B.K (B.cl "NoUndo") dC "ValueError.__new__"=true):kR B D "take_back" 1 ["self"] pQ:=Lc (N:=["self"]) h cB λnd _ _ _ _ _ _ _ hr=>by unfold rT;trivial
theorem Bw{D:Addr}(DD:iK B D)(h:HM B.K "found" "Desk.found" Jj D)  (q_NoName:B.mg "NoName"=some (.ref (B.cl "NoName")))(x_NoName:bi B.K (B.cl "NoName") dC "ValueError.__new__"=true):kR B D "found" 1 ["self","names"] mS:=Lc (N:=["self","names"]) h cB λnd _ _ _ _ _ _ _ hr=>by unfold sR;trivial
theorem Lv{D:Addr}(DD:iK B D)(h:HM B.K "do_again" "Desk.do_again" Gi D)  (q_NoAgain:B.mg "NoAgain"=some (.ref (B.cl "NoAgain")))(x_NoAgain:bi B.K (B.cl "NoAgain") dC "ValueError.__new__"=true):kR B D "do_again" 1 ["self"] pR:=Lc (N:=["self"]) h cB λnd _ _ _ _ _ _ _ hr=>by unfold rY;trivial
theorem Kv{D:Addr}(DD:iK B D)(h:HM B.K "let_stand" "Desk.let_stand" Fi D)  :Rc B D "let_stand" 1 ["self","name","heap"] oB:=ada (N:=["self","name","heap","heaps"]) h cB λnd _ _ _ _ _ _ _ hr=>by unfold rS;trivial
theorem Sw{D:Addr}(DD:iK B D)(M_Desk_found:kR B D "found" 1 ["self","names"] mS)(M_Desk_take_back:kR B D "take_back" 1 ["self"] pQ)(M_Desk_do_again:kR B D "do_again" 1 ["self"] pR)(M_Desk_let_stand:Rc B D "let_stand" 1 ["self","name","heap"] oB)(gd_DEEDS:rP B "DEEDS" Ff Pf)(gd_QUESTIONS:rP B "QUESTIONS" zH Ed)(h:HM B.K "tell" "Desk.tell" Rj D)(H_read_row:Bk B)(H_tell_shown:Aj B)(H_put:Hq B):kR B D "tell" 9 ["self","line"] oE:=Lc (N:=["self","line","row","word","names"]) h cB λnd _ _ _ _ _ _ _ hr=>by unfold pU;trivial
theorem O1{D:Addr}(DD:iK B D)(M_Desk_tell:kR B D "tell" 9 ["self","line"] oE)(XN:pO B.K B.cl ["NoRow","NoName","NoText","Flat","OtherKind","OnSide","Backward","TooGreat","NoUndo","NoAgain"])(h:HF B.K "_law_tell" Mp)(q_Backward:B.mg "Backward"=some (.ref (B.cl "Backward")))(q_Flat:B.mg "Flat"=some (.ref (B.cl "Flat")))(q_NoAgain:B.mg "NoAgain"=some (.ref (B.cl "NoAgain")))(q_NoName:B.mg "NoName"=some (.ref (B.cl "NoName")))(q_NoRow:B.mg "NoRow"=some (.ref (B.cl "NoRow")))(q_NoText:B.mg "NoText"=some (.ref (B.cl "NoText")))(q_NoUndo:B.mg "NoUndo"=some (.ref (B.cl "NoUndo")))(q_OnSide:B.mg "OnSide"=some (.ref (B.cl "OnSide")))(q_OtherKind:B.mg "OtherKind"=some (.ref (B.cl "OtherKind")))(q_TooGreat:B.mg "TooGreat"=some (.ref (B.cl "TooGreat"))):Af B:=fK (N:=["_law_desk","_law_line_here","_law_found","e"]) X h cB λnd _ _ _ _ _ _ _ hr=>by have m_int:=m.m_int;have m_isinstance:=m.m_isinstance;exact(zP (Da (i:=2) nd rfl (cv rfl) Vq) (zP (K3 (L:=[(("NoRow","NoName"),1),(("NoText","Flat"),3),(("OtherKind","OnSide"),5),(("Backward","TooGreat"),7),(("NoUndo","NoAgain"),9)]) rfl XN rfl nd rfl rfl rfl m_int rfl m_isinstance (.cons (.head _) (.tail _ (.head _)) rfl rfl q_NoRow q_NoName (.cons (.tail _ (.tail _ (.head _))) (.tail _ (.tail _ (.tail _ (.head _)))) rfl rfl q_NoText q_Flat (.cons (.tail _ (.tail _ (.tail _ (.tail _ (.head _))))) (.tail _ (.tail _ (.tail _ (.tail _ (.tail _ (.head _)))))) rfl rfl q_OtherKind q_OnSide (.cons (.tail _ (.tail _ (.tail _ (.tail _ (.tail _ (.tail _ (.head _))))))) (.tail _ (.tail _ (.tail _ (.tail _ (.tail _ (.tail _ (.tail _ (.head _)))))))) rfl rfl q_Backward q_TooGreat (.cons (.tail _ (.tail _ (.tail _ (.tail _ (.tail _ (.tail _ (.tail _ (.tail _ (.head _))))))))) (.tail _ (.tail _ (.tail _ (.tail _ (.tail _ (.tail _ (.tail _ (.tail _ (.tail _ (.head _)))))))))) rfl rfl q_NoUndo q_NoAgain .nil))))) (W0 rfl uE (abF rfl DD M_Desk_tell hr (by decide) (Ra 0) (lS (Ra 1) tY))) rfl (cv rfl) (by decide)) (Cn (Gp (Ra 2)))))
theorem A2(h:HF B.K "_law_looks" Pn)(C_wtell:Af B):Am B:=fK (N:=["_law_desk"]) X h cB λnd _ _ _ _ _ _ _ hr=>by unfold zW;trivial
theorem Uz(h:HF B.K "_law_texts" An):Hm B:=fK (N:=["_law_texts_here","_law_word"]) X h cB λnd _ _ _ _ _ _ _ hr=>by
 unfold Ue;refine zP ?_ ?_
 .refine Da (i:=0) (x:="_law_texts_here") ?a ?b ?c ?d ?e ?f
  case a=>exact nd
  case b=>rfl
  case c=>exact cv rfl
  case e=>rfl
  case f=>exact .inr rfl
  case d=>
   refine vX ?_;refine jF ?_ ?_
   .exact xJ (lS uE (lS wU tY))
   refine jF ?_ ?_
   .exact xJ (lS uE (lS wU tY))
   refine jF ?_ ?_
   .exact xJ (lS uE (lS wU tY))
   refine jF ?_ ?_
   .exact xJ (lS uE (lS wU tY))
   exact wO
 .trivial
theorem F9(h:HF B.K "_law_take" Vp):zY B:=fK (N:=["_law_row_here","_law_many","_law_found"]) X h cB λnd _ _ _ _ _ _ _ hr=>by unfold Fa;trivial
theorem Qw(h:HF B.K "_law_bad_name" Pj)(C_wtake:zY B):Gj B:=fK (N:=["_law_row_here","_law_letters","_law_signs","_law_way","_law_sign","_law_many","_law_at","_law_word"]) X h cB λnd _ _ _ _ _ _ _ hr=>by unfold Cd;trivial
theorem N9(h:HF B.K "_law_line" Jp)(C_wtake:zY B)(C_wbad_name:Gj B):Rn B:=fK (N:=["_law_row_here","_law_word","_law_many","_law_text","_law_some","_law_line_here"]) X h cB λnd _ _ _ _ _ _ _ hr=>by unfold tX;trivial
theorem Kx(h:HF B.K "_law_refusal" Jk):Ek B:=fK (N:=["_law_code"]) X h cB λnd _ _ _ _ _ _ _ hr=>by unfold zM;trivial
theorem aaw{D:Addr}(DD:iK B D)(M_Desk_init:Oc B D 1){f:Addr}{fd:ay}(F:iN B.K "law" "law" oV f fd)(C_wrow:Uo B)(C_wtake:zY B)(C_wtell:Af B)(C_wlooks:Am B)(C_wtexts:Hm B)(C_wline:Rn B)(C_wrefusal:Ek B):bQ B.P B.w B.K B.mg B.base dS 12 f fd ["_law_script"] (kL B.K B.cl Yr):=mkR (N:=["_law_script","_law_row_here","_law_desk","_law_line_here","_law_here","_law_texts_here","_law_word","_law_many","_law_text"]) F cB λnd _ _ _ _ _ _ _ hr=>by unfold Ng;trivial
end
theorem Bq(i j:Int):kP (.int i) (.int j)=some (.bl (decide (i<=j))):=rfl
theorem Hr(i j:Int):jZ (.int i) (.int j)=some (.bl (decide (i<j))):=rfl
theorem Vo(i j:Int):nS (.int i) (.int j)=some (.int (i-j)):=rfl
theorem Qq(i j:Int):lO (.int i) (.int j)=some (.bl (decide (j<i))):=rfl
theorem Kq(i j:Int):rR (.int i) (.int j)=some (.bl (decide (j<=i))):=rfl
theorem aaY(n:Nat)(a b:Int):bB n (.int a) (.int b)=some (a==b):=by cases n<;>rfl
local macro_rules
 | `(tactic|simp! [$l,*] $[$loc:location]?)=>`(tactic|simp[lW,aQ,bV,aV,nU,mJ,jO,vA,yJ,mQ,aE,fA,mR,mN,aD,aC,mC,aG,bA.bind,Za,iD,nG,qL,iR,rd,lD,gA,dX,bU,lJ,gO,Ht,lL,bY.of,bC,Ks,cE,eW,aW,qJ,nI,bF,cW,mB,oZ,nB,uD,cQ,dG,frz,iT,Bq,Hr,Vo,Qq,Kq,bT,aaY,$l,*] $[$loc]?)
 | `(tactic|dsimp! [$l,*] $[$loc:location]?)=>`(tactic|simp[lW,aQ,bV,aV,nU,mJ,jO,vA,yJ,mQ,aE,fA,mR,mN,aD,aC,mC,aG,bA.bind,Za,iD,nG,qL,iR,rd,lD,gA,dX,bU,lJ,gO,Ht,lL,bY.of,bC,Ks,cE,eW,aW,qJ,nI,bF,cW,mB,oZ,nB,uD,cQ,dG,frz,iT,Bq,Hr,Vo,Qq,Kq,bT,bE,bB,fL,iB,$(⟨l.elemsAndSeps⟩),*] $[$loc]?)
def lM(S:aL)(k:Nat)(ns:AA):Prop:=S[k]?=some (.lst (ns.map .int))
theorem lM.lt    (h:lM S k ns):k<S.length:=(cq.mp h).1
theorem lM.set    (h:lM S k ns)(ms:AA):lM (S.set k (.lst (ms.map .int))) k ms:=fw h.lt
theorem Nk{r:bJ}{k:Nat}{m:AV}:∀(ns:AA)(S:aL),lM S k ns->∃n ns',fI (mJ (aV (aE lO (mR dX (aD (aC 0) aG)) (mC (.int 0)))) (aV (aE cQ (aE bE (aC 0) (mC (.int 0))) (mC (.int 0))))) (eW (yG (aC 0) (aD (mC (.int 0)) aG))) n (some (.ref k)::some m::r) S=.nx (some (.ref k)::some m::r) (S.set k (.lst (ns'.map .int)))/\ns'.length<=ns.length/\(ns'=[]\/∃i t,ns'=i::t/\i≠0)
 |[],S,h=>by
  refine⟨1,[],?_,ak _,.inl rfl⟩;have h':S[k]?=some (.lst []):=h;have e:S.set k (.lst (([]:AA).map .int))=S:=wk λi=>by
   by_cases q:k=i
   .subst q;rw[fw h.lt,h'];rfl
   .rw[fj q]
  rw[e];simp[fI,mJ,aV,aE,mR,aD,aC,mC,aG,bA.bind,nG,iR,rd,h',gA,dX,iD,lO,i2,lL,bY.of]
 |i::t,S,h=>by
  have h':S[k]?=some (.lst (.int i::t.map .int)):=h
  by_cases hi:i=0
  .subst hi
   have hr:lM (S.set k (.lst (t.map .int))) k t:=h.set t;obtain⟨n,ns',e,l,q⟩:=Nk (r:=r) (m:=m) t _ hr;refine⟨n+1,ns',?_,by simp;omega,q⟩;rw[qt]at e;rw[<-e];have hl:(0:Int)<(t.length:Int)+1:=by omega
   simp[fI,mJ,aV,aE,mR,aD,aC,mC,aG,bA.bind,nG,iR,rd,h',gA,dX,iD,lO,i2,lL,bY.of,bE,fL,iB,cQ,bB,eW,yG,iV,xT,seqIndex?,hl]
  .refine⟨1,i::t,?_,ak _,.inr ⟨i,t,rfl,hi⟩⟩
   have e:S.set k (.lst ((i::t).map .int))=S:=wk λj=>by
    by_cases q:k=j
    .subst q;rw[fw h.lt,h'];rfl
    .rw[fj q]
   rw[e];have hl:(0:Int)<(t.length:Int)+1:=by omega
   simp[fI,mJ,aV,aE,mR,aD,aC,mC,aG,bA.bind,nG,iR,rd,h',gA,dX,iD,lO,i2,lL,bY.of,bE,fL,iB,cQ,bB,hl,hi]
theorem U7{S:aL}{k:Nat}{ns:AA}{m:Int}(h:lM S k ns)(hm:0<m)(b:Bd 8000 m):∃(v:Int)(ns':AA),gI [.ref k,.pv (.int m)] S=.ok (.pv (.int v)) (S.set k (.lst (ns'.map .int)))/\0<=v/\v<m/\ns'.length<=ns.length:=by
 obtain⟨n,ns',e,l,q⟩:=Nk (r:=[none]) (m:=.pv (.int m)) ns S h;have hr:=h.set ns';have hl1:(S.set k (.lst (ns'.map .int))).length=S.length:=by simp
 have hss:∀x,(S.set k (.lst (ns'.map .int))).set k x=S.set k x:=λx=>qt ..;generalize hS1:S.set k (.lst (ns'.map .int))=S1 at e hr hl1 hss;have w:=Dm e (by simp);rcases q with rfl |⟨i,t,rfl,hi⟩
 .refine⟨0,[],?_,Int.le_refl 0,hm,cg _⟩
  rw[hS1];have hr':S1[k]?=some (.lst []):=hr;have tk:List.take S.length S1=S1:=qu (by omega);unfold gI bH Fa;simp[lW,aQ,w,bV,aV,aE,mR,aD,aC,mC,aG,bA.bind,nG,iR,rd,hr',gA,dX,iD,cQ,bB,lL,bY.of,bC,qJ,nI,tk]
 .have hr':S1[k]?=some (.lst (.int i::t.map .int)):=hr
  refine⟨i.fmod m,i.fdiv m::t,?_,Int.fmod_nonneg_of_pos i hm,Int.fmod_lt_of_pos i hm,l⟩;rw[<-hss];have tk:∀x,List.take S.length (S1.set k x)=S1.set k x:=λx=>qu (by simp;omega);have hl:¬((t.length:Int)+1=0):=by omega
  have hq:xS i m:=⟨by omega,b⟩;have hm0:m≠0:=by omega
  unfold gI bH Fa;simp[lW,aQ,w,bV,aV,aE,mR,aD,aC,mC,aG,bA.bind,nG,iR,rd,hr',gA,dX,iD,cQ,bB,lL,bY.of,bC,qJ,nI,tk,cE,hl,aW,eQ,kD,i2,cI,bE,fL,iB,hm0,hq,qG,iV,qR]
theorem Kp  (h:uW i j):bO (.int i) (.int j)=some (.int (i*j)):=by
 simp[bO,i2,cI,h]
theorem M9  (h:xS i j):kD (.int i) (.int j)=some (.int (i.fdiv j)):=by
 simp[kD,i2,cI,h]
theorem oN{i j:Int}(h:j≠0):eQ (.int i) (.int j)=some (.int (i.fmod j)):=by
 simp[eQ,i2,cI,h]
theorem Bp  (h:Ic i j):jW (.int i) (.int j)=some (.int (i^j.toNat)):=by
 simp[jW,i2,cI,h]
theorem Zi(S:aL):∀(m:Nat)(a b:Int)(x:AJ),b.natAbs<=m->∃(n:Nat)(g:Int)(x':AJ),fI (aV (aE dG (aC 1) (mC (.int 0)))) (aQ (aW 2 (aE eQ (aC 0) (aC 1))) (aQ (aW 0 (aC 1)) (aW 1 (aC 2)))) n [some (.pv (.int a)),some (.pv (.int b)),x] S=.nx [some (.pv (.int g)),some (.pv (.int 0)),x'] S/\g.natAbs=jx a b
 |0,a,b,x,h=>by
  have hb:b=0:=by omega
  subst hb;refine⟨1,a,x,?_,by simp⟩;dsimp! [fI]
 |m+1,a,b,x,h=>by
  by_cases hb:b=0
  .subst hb
   refine⟨1,a,x,?_,by simp⟩;dsimp! [fI]
  .have hl:=Oz a hb
   obtain⟨n,g,x',e,q⟩:=Zi S m b (a.fmod b) (some (.pv (.int (a.fmod b)))) (by omega);refine⟨n+1,g,x',?_,by rw[q,H0]⟩;rw[<-e];dsimp! [fI,oN hb,hb]
theorem Uy(a b:Int)(S:aL):pW [.pv (.int a),.pv (.int b)] S=.ok (.pv (.int (jx a b:Nat))) S:=by
 obtain⟨n,g,x',e,q⟩:=Zi S b.natAbs a b none (ak _);have w:=Dm e (by simp);unfold pW bH Yd;have hg:(if g<0 then-g else g)=((jx a b:Nat):Int):=by rw[<-q];exact abx g
 dsimp! [w,hg]
theorem nH(i:Int){j:Int}(h1:-(2^64)<j)(h2:j<2^64):bO (.int i) (.int j)=some (.int (i*j)):=Kp (.inl (.inr ⟨h1,h2⟩))
theorem Fv:jW (.int 10) (.int 18)=some (.int 1000000000000000000):=Bp   ⟨by decide,by decide,by decide⟩
theorem Te{k:Nat}{a:AV}:∀(cs:AA)(n:Nat)(acc:AA)(S:aL)(v2 v3 v4 v5 v6:AJ),lM S k acc->acc.length+cs.length<=63->n+cs.length<=63->∃(acc':AA)(w2 w3 w4 w5 w6:AJ),fW [] (gT 2 (fP (gN 2) (fP (gN 3) kF))) ((bV (aV (aE rR (aC 3) (aE jW (mC (.int 10)) (mC (.int 18))))) (eW (oX (aC 1) (aD (aE nS (aC 3) (aE jW (mC (.int 10)) (mC (.int 18)))) aG))) (aQ (aW 4 (aE eQ (aE bO (aE bT (aE bT (aE bT (aC 3) (aE bO (aE bO (mC (.int 7)) (aC 2)) (aC 2))) (aE bO (mC (.int 13)) (aC 2))) (mC (.int 5))) (mC (.int 48271))) (mC (.int 2147483647))))
 (aQ (aW 5 (aE eQ (aE bO (aE bT (aE bT (aE bT (aC 3) (aE bO (aE bO (mC (.int 11)) (aC 2)) (aC 2))) (aE bO (mC (.int 17)) (aC 2))) (mC (.int 3))) (mC (.int 40692))) (mC (.int 2147483399))))
 (aQ (aW 6 (aE eQ (aE bO (aE bT (aE bT (aE bT (aC 3) (aE bO (aE bO (mC (.int 5)) (aC 2)) (aC 2))) (aE bO (mC (.int 29)) (aC 2))) (mC (.int 8))) (mC (.int 39373))) (mC (.int 2147483587))))
 (aQ (aW 4 (aE eQ (aE bO (aC 4) (mC (.int 52021))) (mC (.int 1000000007))))
 (aQ (aW 5 (aE eQ (aE bO (aC 5) (mC (.int 30011))) (mC (.int 998244353))))
 (aQ (aW 6 (aE eQ (aE bO (aC 6) (mC (.int 45989))) (mC (.int 1000000009))))
 (eW (oX (aC 1) (aD (aE bT (aE bO (aE bT (aE bO (aC 4) (mC (.int 998244353))) (aC 5)) (mC (.int 1000000009))) (aC 6)) aG))))))))))) (jT n (cs.map .int)) [some a,some (.ref k),v2,v3,v4,v5,v6] S=.nx [some a,some (.ref k),w2,w3,w4,w5,w6] (S.set k (.lst (acc'.map .int)))/\acc'.length<=63
 |[],n,acc,S,v2,v3,v4,v5,v6,h,hl,_=>by
  refine⟨acc,v2,v3,v4,v5,v6,?_,by simpa using hl⟩;have e:S.set k (.lst (acc.map .int))=S:=wk λj=>by
   by_cases q:k=j
   .subst q;rw[fw h.lt];exact h.symm
   .rw[fj q]
  rw[e];exact Xd
 |x::cs,n,acc,S,v2,v3,v4,v5,v6,h,hl,hn=>by
  simp only[bq]at hl hn;have h':S[k]?=some (.lst (acc.map .int)):=h;have hlen:acc.length<16777216:=by omega
  have hk1:-(2^64)<(n:Int):=by omega
  have hk2:(n:Int)<2^64:=by omega
  by_cases c:(1000000000000000000:Int)<=x
  .obtain⟨acc',w2,w3,w4,w5,w6,e,q⟩:=Te (k:=k) (a:=a) cs (n+1) (acc++[x-1000000000000000000]) (S.set k (.lst ((acc++[x-1000000000000000000]).map .int))) (some (.pv (.int n))) (some (.pv (.int x))) v4 v5 v6 (h.set _) (by simp;omega) (by omega)
   refine⟨acc',w2,w3,w4,w5,w6,?_,q⟩;rw[qt]at e;rw[<-e];show fW [] _ _ (.tup [.int n,.int x]::jT (n+1) (cs.map .int)) _ S=_;rw[zN];dsimp! [gT,fP,kF,gN,Fv,c,oX,iV,uY,h',hlen]
  .obtain⟨acc',w2,w3,w4,w5,w6,e,q⟩:=Te (k:=k) (a:=a) cs (n+1) (acc++[((((x+7*n*n+13*n+5)*48271).fmod 2147483647*52021).fmod 1000000007*998244353+(((x+11*n*n+17*n+3)*40692).fmod 2147483399*30011).fmod 998244353)*1000000009+(((x+5*n*n+29*n+8)*39373).fmod 2147483587*45989).fmod 1000000009]) _ (some (.pv (.int n))) (some (.pv (.int x))) (some (.pv (.int ((((x+7*n*n+13*n+5)*48271).fmod 2147483647*52021).fmod 1000000007)))) (some (.pv (.int ((((x+11*n*n+17*n+3)*40692).fmod 2147483399*30011).fmod 998244353)))) (some (.pv (.int ((((x+5*n*n+29*n+8)*39373).fmod 2147483587*45989).fmod 1000000009)))) (h.set _) (by simp;omega) (by omega)
   refine⟨acc',w2,w3,w4,w5,w6,?_,q⟩;rw[qt]at e;rw[<-e];show fW [] _ _ (.tup [.int n,.int x]::jT (n+1) (cs.map .int)) _ S=_;rw[zN];dsimp! [gT,fP,kF,gN,Fv,c,oX,iV,uY,h',hlen,nH _ hk1 hk2,nH _ (show-(2^64)<(48271:Int) by decide) (by decide),nH _ (show-(2^64)<(40692:Int) by decide) (by decide),nH _ (show-(2^64)<(39373:Int) by decide) (by decide),nH _ (show-(2^64)<(52021:Int) by decide) (by decide),nH _ (show-(2^64)<(30011:Int) by decide) (by decide),nH _ (show-(2^64)<(45989:Int) by decide) (by decide),nH _ (show-(2^64)<(998244353:Int) by decide) (by decide),nH _ (show-(2^64)<(1000000009:Int) by decide) (by decide),oN (show(2147483647:Int)≠0 by decide),oN (show(2147483399:Int)≠0 by decide),oN (show(2147483587:Int)≠0 by decide),oN (show(1000000007:Int)≠0 by decide),oN (show(998244353:Int)≠0 by decide),oN (show(1000000009:Int)≠0 by decide)]
theorem Y1(ns:AA)(S:aL)(h:ns.length<=63):∃ms:AA,xG [.pv (.lst (ns.map .int))] S=.ok (.ref S.length) (S++[.lst (ms.map .int)])/\ms.length<=63:=by
 have hr:lM (S++[.lst []]) S.length []:=by unfold lM;simp
 obtain⟨ms,w2,w3,w4,w5,w6,e,q⟩:=Te (a:=.pv (.lst (ns.map .int))) ns 0 [] (S++[.lst []]) none none none none none hr (by simpa using h) (by simpa using h);have ec:rC (ns.map .int) none (some 63)=ns.map .int:=by
  unfold rC;have e1:HT.sIx (ns.map PV.int).length 0 none=0:=rfl;have e2:HT.sIx (ns.map PV.int).length (ns.map PV.int).length (some 63)=(ns.map PV.int).length:=by
   have:=HT.sIx_nat (ns.map PV.int).length (ns.map PV.int).length 63;rw[show((63:Nat):Int)=63 from rfl]at this;rw[this,bh];omega
  rw[e1,e2,List.drop_zero,Nat.sub_zero,vp]
 refine⟨ms,?_,q⟩;have es:(S++[SO.lst []]).set S.length (.lst (ms.map .int))=S++[.lst (ms.map .int)]:=by simp
 rw[es]at e;unfold xG bH Dg;dsimp! [hX,Gc,Kg,Ta,jD,gB,fE,qD,rN,Eg,ec,e]
theorem sm8  (h0:0<=m)(h:m<1024):Bd 8000 m:=Bd.of  (by omega) (bj (show 1023<2^10 by decide) (xx (by decide) (by decide)))
abbrev v2(x y w:Int):PV:=.tup [.int x,.int y,.int w]
abbrev v3(x y z w:Int):PV:=.tup [.int x,.int y,.int z,.int w]
theorem R0       {S:aL}(h:iC G S):cS G g me (x::r) ρ S=(match g x ρ with
  |none=>.fail
  |some ρ1=>match me ρ1 S with
   |.ok (.pv y) S1=>match cS G g me r ρ1 S1 with
    |.ok ys S2=>.ok (y::ys) S2
    |_=>.fail
   |_=>.fail):=by
 rw[cS,if_pos h]
theorem K6     {S:aL}(h:iC G S):cS G g me [] ρ S=.ok [] S:=by
 rw[cS,if_pos h]
theorem cm(a b:Int){c:Int}(h:a*b=c):b*a=c:=by rw[Int.mul_comm];exact h
theorem Ie   (hG:iC G S){me:ME}{tail:bJ}{α:Type}(A B:α->PV):∀(L:List α)(x:AJ),(∀v∈L,me (some (.pv (A v))::tail) S=.ok (.pv (B v)) S)->cS G (gN 0) me (L.map A) (x::tail) S=.ok (L.map B) S
 |[],x,_=>K6 hG
 |v::L,x,h=>by
  have e:=h v ce;have e':=Ie hG A B L (some (.pv (A v))) λu hu=>h u (cu _ hu);rw[cn,R0 hG];simp[gN,e,e']
abbrev li(xs:AA):AH:=xs.map .int
abbrev tx(L:List Nat):Str:=⟨L.toArray⟩
theorem Lf(x:Str):tx x.cps.toList=x:=by
 cases x;simp[tx]
theorem iP(L:List Nat):(tx L).length=L.length:=by
 show L.toArray.size=L.length;simp
theorem xL(A B:List Nat):tx A++tx B=tx (A++B):=by
 have e:=PySem.W.KT.app_list (tx A) (tx B);rw[<-Lf (tx A++tx B),e]
theorem aao{A B:List Nat}(h:tx A=tx B):A=B:=by
 have e:=congrArg (λx:Str=>x.cps.toList) h;simpa using e
theorem aaj{L:List Nat}(h:∀c∈L,c<128):(tx L).cps.all (· <128)=true:=by
 simpa[tx]using h
theorem Wn(bs:List Bool):kO [.lst (bs.map .bl)]=some (.bl (bs.all id)):=by
 have e:qV (bs.map PV.bl)=some bs:=by
  induction bs with
  |nil=>rfl
  |cons v L ih=>
   show(match qV (L.map PV.bl)with |some bs=>some (v::bs) |none=>none)=_
   rw[ih]
 simp only[kO,e,Option.map_some]
theorem W4(L:List Nat)(i:Nat):ka (tx L) (some (i:Int)) none=tx (L.drop i):=by
 have hl:=iP L
 by_cases h:i<=L.length
 .rw[PyProof.Rows.slice_from_eq (b:=((tx L).length:Int)) (by omega) (by omega) rfl]
  have e1:((i:Int)).toNat=i:=by omega
  have e2:(((tx L).length:Int)-(i:Int)).toNat=L.length-i:=by omega
  rw[e1,e2];have:(tx L).cps.toList=L:=by simp[tx]
  rw[this,qu (by rw[ua];exact ak _)]
 .rw[PyProof.Rows.slice_beyond (by omega),List.drop_of_length_le (by omega)]
  rfl
theorem acX(L:List Nat)(i:Nat)(h:i<=L.length):ka (tx L) none (some (i:Int))=tx (L.take i):=by
 have hl:=iP L;have e:=beq_iff_eq.mp (PyProof.Rows.slice_closes_toL (x:=tx L) (j:=(i:Int)) (by omega) (by omega));rw[e];have e1:((i:Int)-0).toNat=i:=by omega
 have:(tx L).cps.toList=L:=by simp[tx]
 rw[e1,this];rfl
def bS(c:Nat):List (List Nat)->List Nat
 |[]=>[]
 |[p]=>p
 |p::q::r=>p++c::bS c (q::r)
theorem Sf(c:Nat):∀P:List (List Nat),qv (tx [c]) (P.map tx)=tx (bS c P)
 |[]=>rfl
 |[p]=>rfl
 |p::q::r=>by
  show tx p++tx [c]++qv (tx [c]) ((q::r).map tx)=tx (p++c::bS c (q::r));rw[Sf c (q::r),xL,xL,iw];rfl
theorem Fq(L:List Nat)(c:Nat):∃P:List (List Nat),gr (tx L) (tx [c])=P.map tx/\(∀p∈P,c∉p)/\bS c P=L/\P≠[]:=by
 refine⟨(gr (tx L) (tx [c])).map λx=>x.cps.toList,?_,?_,?_,?_⟩
 .rw[jm]
  have:(tx∘λx:Str=>x.cps.toList)=id:=by
   funext x
   exact Lf x
  rw[this,List.map_id]
 .intro p hp
  obtain⟨x,hx,rfl⟩:=nr.mp hp;exact StrLaws.split_free (tx L) c x hx
 .have e:=StrLaws.join_split (tx L) (tx [c])
  apply aao;rw[<-Sf,jm];have:(tx∘λx:Str=>x.cps.toList)=id:=by
   funext x
   exact Lf x
  rw[this,List.map_id];exact e
 .intro z
  have:=PyProof.Rows.split_pos (tx L) (tx [c]);rw[List.map_eq_nil_iff.mp z]at this;exact absurd this (by decide)
theorem Hk{c:Nat}:∀{A A' B B':List Nat},c∉A->c∉A'->A++c::B=A'++c::B'->A=A'/\B=B'
 |[],[],B,B',_,_,e=>⟨rfl,(nh e).2⟩
 |[],a::A',B,B',_,h,e=>absurd (by rw[(nh e).1];exact ce) h
 |a::A,[],B,B',h,_,e=>absurd (by rw[<-(nh e).1];exact ce) h
 |a::A,b::A',B,B',h,h',e=>by
  obtain⟨e1,e2⟩:=nh e;obtain⟨r1,r2⟩:=Hk (λz=>h (cu _ z)) (λz=>h' (cu _ z)) e2;exact⟨by rw[e1,r1],r2⟩
theorem Nl{c:Nat}:∀{P Q:List (List Nat)},P≠[]->Q≠[]->(∀p∈P,c∉p)->(∀p∈Q,c∉p)->bS c P=bS c Q->P=Q
 |[],_,h,_,_,_,_=>absurd rfl h
 |_,[],_,h,_,_,_=>absurd rfl h
 |[p],[q],_,_,_,_,e=>by
  have e:p=q:=e;rw[e]
 |[p],q::q'::r,_,_,hp,_,e=>by
  have e:p=q++c::bS c (q'::r):=e;exact absurd (by rw[e];simp) (hp p ce)
 |p::p'::r,[q],_,_,_,hq,e=>by
  have e:p++c::bS c (p'::r)=q:=e;exact absurd (by rw[<-e];simp) (hq q ce)
 |p::p'::r,q::q'::t,_,_,hp,hq,e=>by
  have e:p++c::bS c (p'::r)=q++c::bS c (q'::t):=e;obtain⟨e1,e2⟩:=Hk (hp p ce) (hq q ce) e;have:=Nl (by simp) (by simp) (λx hx=>hp x (cu _ hx)) (λx hx=>hq x (cu _ hx)) e2;rw[e1,this]
theorem L9{L:List Nat}{i:Int}{j:Nat}(hi:i=(j:Int))(h:L.length<=10000):Dh (.str (tx L)) (some i) none=some (.str (tx (L.drop j))):=by
 show(if(tx L).length<=16777216 then some (PV.str (ka (tx L) (some i) none))else none)=_;rw[if_pos (by rw[iP];omega),hi,W4]
theorem Xq{L:List Nat}{j:Nat}(hj:j<=L.length)(h:L.length<=10000):Dh (.str (tx L)) none (some (j:Int))=some (.str (tx (L.take j))):=by
 show(if(tx L).length<=16777216 then some (PV.str (ka (tx L) none (some (j:Int))))else none)=_;rw[if_pos (by rw[iP];omega),acX L j hj]
theorem Zl{c:Nat}:∀{P:List (List Nat)}{p:List Nat},p∈P->∀d∈p,d∈bS c P
 |[q],p,h,d,hd=>by
  have:p=q:=by simpa using h
  rw[<-this];exact hd
 |q::q'::r,p,h,d,hd=>by
  show d∈q++c::bS c (q'::r);rcases bw.mp h with rfl |h
  .exact kg _ hd
  .exact ck _ (cu _ (Zl h d hd))
theorem Km{c:Nat}:∀{P:List (List Nat)}{p:List Nat},p∈P->p.length<=(bS c P).length
 |[q],p,h=>by
  have:p=q:=by simpa using h
  rw[this];exact ak _
 |q::q'::r,p,h=>by
  show _<=(q++c::bS c (q'::r)).length;rw[cb,bq];rcases bw.mp h with rfl |h
  .omega
  .have:=Km (c:=c) h
   omega
theorem Qz{g:GM}{me:ME}{ρ:bJ}{S:aL}:fH [] g me [] ρ S=.ok [] S:=by
 unfold fH;rw[if_pos (oK S)]
theorem Ky{g:GM}{me:ME}{x:PV}{r:AH}{ρ:bJ}{S:aL}:fH [] g me (x::r) ρ S=(match g x ρ with
  |none=>.fail
  |some ρ1=>match me ρ1 S with
   |.ok (.pv y) S1=>match fH [] g me r ρ1 S1 with
    |.ok ys S2=>.ok (y::ys) S2
    |.exc n S2=>.exc n S2
    |.fail=>.fail
   |.ok (.ref _) _=>.fail
   |.exc n S1=>.exc n S1
   |.fail=>.fail):=by
 conv=>lhs;unfold fH
 rw[if_pos (oK S)]
 all_goals (rcases g x ρ with _ |ρ1<;>dsimp only<;>first |rfl |(rcases me ρ1 S with⟨a,S1⟩|⟨n,S1⟩|_<;>first |rfl |(cases a<;>rfl)))
theorem Kd:∀Ls:List (List Nat),lX (Ls.map λl=>PV.str (tx l))=some (Ls.map tx)
 |[]=>rfl
 |l::Ls=>by
  show(match lX (Ls.map λl=>PV.str (tx l))with |some xs=>some (tx l::xs) |none=>none)=_
  rw[Kd Ls];rfl
theorem Jf:(" ":Str)=tx [32]:=by kernel_rfl
theorem Vm{c B:Nat}:∀{P:List (List Nat)},(∀p∈P,p.length<=B)->(bS c P).length<=P.length*(B+1)
 |[],_=>cg _
 |[p],h=>by
  have:=h p (by simp);show p.length<=1*(B+1);omega
 |p::q::r,h=>by
  have h1:=h p (by simp);have h2:=Vm (c:=c) (P:=q::r) λx hx=>h x (cu _ hx);show(p++c::bS c (q::r)).length<=_;rw[cb,bq];have:(p::q::r).length*(B+1)=(q::r).length*(B+1)+(B+1):=by
   rw[bq (as:=q::r),Nat.succ_mul]
  omega
def jn(s:List Nat):List (List Nat)->List Nat
 |[]=>[]
 |[p]=>p
 |p::q::r=>p++(s++jn s (q::r))
theorem Ko(s:List Nat):∀P:List (List Nat),qv (tx s) (P.map tx)=tx (jn s P)
 |[]=>rfl
 |[p]=>rfl
 |p::q::r=>by
  show tx p++tx s++qv (tx s) ((q::r).map tx)=tx (p++(s++jn s (q::r)));rw[Ko s (q::r),xL,xL,iw]
theorem aaG{s:List Nat}{Ls:List (List Nat)}{B:Nat}(hs:s.length<=9)(hB:∀l∈Ls,l.length<=B)(hn:Ls.length<=200)(hb:B<=20000):qM (tx s) [.lst (Ls.map λl=>.str (tx l))]=some (.str (tx (jn s Ls))):=by
 have ok:jb (tx s) (Ls.map tx)=true:=by
  unfold jb;rw[d5 (B:=B) (λy hy=>by
   obtain⟨l,hl,rfl⟩:=nr.mp hy;rw[iP];exact hB l hl) (by
   rw[bh,iP];have h1:Ls.length*B<=200*20000:=wl hn hb;have h2:Ls.length*s.length<=200*9:=wl hn hs;show Ls.length*B+Ls.length*s.length<=16777216;omega)]
  rfl
 show(match lX (Ls.map λl=>PV.str (tx l))with |some ts=>if jb (tx s) ts=true then some (PV.str (kb (tx s) ts))else none |none=>none)=_
 rw[Kd];dsimp only;rw[if_pos ok];have:kb (tx s) (Ls.map tx)=tx (jn s Ls):=by
  show d6 (tx s) (Ls.map tx)=_;rw[d7,Ko]
 rw[this]
theorem wR{A B:List Nat}(h:A.length+B.length<=10000):jS (.str (tx A)) (.str (tx B))=some (.str (tx (A++B))):=by
 show(if(tx A).length+(tx B).length<=16777216 then some (PV.str (tx A++tx B))else none)=_;rw[if_pos (by rw[iP,iP];omega),xL]
theorem V2{c:Nat}{Ls:List (List Nat)}{B:Nat}(hB:∀l∈Ls,l.length<=B)(hn:Ls.length<=200)(hb:B<=20000):qM (tx [c]) [.lst (Ls.map λl=>.str (tx l))]=some (.str (tx (bS c Ls))):=by
 have ok:jb (tx [c]) (Ls.map tx)=true:=by
  unfold jb;rw[d5 (B:=B) (λy hy=>by
   obtain⟨l,hl,rfl⟩:=nr.mp hy;rw[iP];exact hB l hl) (by
   rw[bh,iP];have:Ls.length*B<=200*20000:=wl hn hb;show Ls.length*B+Ls.length*1<=16777216;omega)]
  rfl
 show(match lX (Ls.map λl=>PV.str (tx l))with |some ts=>if jb (tx [c]) ts=true then some (PV.str (kb (tx [c]) ts))else none |none=>none)=_
 rw[Kd];dsimp only;rw[if_pos ok];have:kb (tx [c]) (Ls.map tx)=tx (bS c Ls):=by
  show d6 (tx [c]) (Ls.map tx)=_;rw[d7,Sf]
 rw[this]
theorem Mx{L:List Nat}{Ps:List (List Nat)}(hs:gr (tx L) (tx [32])=Ps.map tx)(hL:L.length<=9000):nE (tx L) [.str " "]=some (.lst (Ps.map λp=>.str (tx p))):=by
 rw[Jf];show(if(tx [32]).length≠0/\(tx L).length+2<=16777216 then some (PV.lst ((gr (tx L) (tx [32])).map .str))else none)=_;rw[if_pos ⟨by rw[iP];decide,by rw[iP];omega⟩,hs,jm];rfl
theorem sq   {S S':aL}{r:bY}(h:a ρ S=.nx ρ' S')(g:b ρ' S'=r):aQ a b ρ S=r:=by
 rw[aQ,h];exact g
theorem xP  {b:MS}{xs:AK}{S S':aL}{v:AV}{r:bA AV}(hl:xs.length=np)(h:b (lW n xs) S=.rt v S')(hc:nI S.length v S'=r):bH np n b xs S=r:=by
 unfold bH;rw[if_pos hl,h];exact hc
theorem adn(L:AH){a:Nat}(h:a<=L.length):rN (.lst L) (some (a:Int)) none=some (.lst (L.drop a)):=by
 show some (PV.lst ((L.drop (min a _)).take (L.length-min a _)))=_;rw[wm h,qu (by simp_all)]
def xZ(g:GM)(me:ME):AH->bJ->aL->bA AH
 |[],_,S=>.ok [] S
 |x::r,ρ,S=>(match g x ρ with
  |none=>.fail
  |some ρ1=>match me ρ1 S with
   |.ok (.pv y) S1=>match xZ g me r ρ1 S1 with
    |.ok ys S2=>.ok (y::ys) S2
    |_=>.fail
   |_=>.fail)
theorem Qm{g:GM}{me:ME}:∀(xs:AH)(ρ:bJ)(S:aL),cS [] g me xs ρ S=xZ g me xs ρ S
 |[],_,_=>He
 |x::r,ρ,S=>by
  rw[Td];unfold xZ;cases g x ρ with
  |none=>rfl
  |some ρ1=>
   dsimp only;cases me ρ1 S with
   |ok a S1=>
    cases a with
    |pv y=>dsimp only;(rw[Qm r ρ1 S1])<;>cases xZ g me r ρ1 S1<;>rfl
    |ref k=>rfl
   |exc n S1=>rfl
   |fail=>rfl
def wS(g:GM)(me:ME):AH->bJ->aL->bA AH
 |[],_,S=>.ok [] S
 |x::r,ρ,S=>(match g x ρ with
  |none=>.fail
  |some ρ1=>match me ρ1 S with
   |.ok (.pv y) S1=>match wS g me r ρ1 S1 with
    |.ok ys S2=>.ok (y::ys) S2
    |.exc n S2=>.exc n S2
    |.fail=>.fail
   |.ok (.ref _) _=>.fail
   |.exc n S1=>.exc n S1
   |.fail=>.fail)
theorem Bl{g:GM}{me:ME}:∀(xs:AH)(ρ:bJ)(S:aL),fH [] g me xs ρ S=wS g me xs ρ S
 |[],_,_=>Qz
 |x::r,ρ,S=>by
  rw[Ky];unfold wS;cases g x ρ with
  |none=>rfl
  |some ρ1=>
   dsimp only;cases me ρ1 S with
   |ok a S1=>
    cases a with
    |pv y=>dsimp only;(rw[Bl r ρ1 S1])<;>cases wS g me r ρ1 S1<;>rfl
    |ref k=>rfl
   |exc n S1=>rfl
   |fail=>rfl
def xR(g:GM)(mb:MS):AH->bJ->aL->bY
 |[],ρ,S=>.nx ρ S
 |x::r,ρ,S=>(match g x ρ with
  |none=>.fail
  |some ρ1=>match mb ρ1 S with
   |.nx ρ2 S2=>xR g mb r ρ2 S2
   |.ct ρ2 S2=>xR g mb r ρ2 S2
   |.bk ρ2 S2=>.nx ρ2 S2
   |.rt v S2=>.rt v S2
   |.exc n S2=>.exc n S2
   |.fail=>.fail)
theorem Ke{g:GM}{mb:MS}:∀(xs:AH)(ρ:bJ)(S:aL),fW [] g mb xs ρ S=xR g mb xs ρ S
 |[],_,_=>Xd
 |x::r,ρ,S=>by
  rw[zN];unfold xR;cases g x ρ with
  |none=>rfl
  |some ρ1=>
   dsimp only;cases mb ρ1 S with
   |nx ρ2 S2=>dsimp only;rw[Ke r ρ2 S2]
   |ct ρ2 S2=>dsimp only;rw[Ke r ρ2 S2]
   |_=>rfl
def Vc{α:Type}(G:Gd)(a b:α):α:=match G with
 |[]=>a
 |_=>b
theorem Vf{α:Type}{G:Gd}{f:Gd->α}{a:α}(h:f []=a):f G=Vc G a (f G):=by
 cases G with
 |nil=>exact h
 |cons _ _=>rfl
def Fr(own:List Str)(cap:List (Nat×Str))(mi:MI)(g:GM)(me:ME):ME:=λρ S=>(mi ρ S).bind λxs S1=>(Vc xs.2 (xZ g me xs.1 (dW own cap ρ) S1) (cS xs.2 g me xs.1 (dW own cap ρ) S1)).bind λys S2=>.ok (.pv (.lst ys)) S2
theorem wM:@dJ=@Fr:=by
 funext own cap mi g me ρ S
 unfold dJ Fr;congr 1
 funext xs S1
 rw[<-Vf (f:=λG=>cS G g me xs.1 (dW own cap ρ) S1) (Qm _ _ _)]
def Ap(own:List Str)(cap:List (Nat×Str))(mi:MI)(g:GM)(me:ME):ME:=λρ S=>(mi ρ S).bind λxs S1=>(Vc xs.2 (wS g me xs.1 (dW own cap ρ) S1) (fH xs.2 g me xs.1 (dW own cap ρ) S1)).bind λys S2=>.ok (.pv (.lst ys)) S2
theorem vY:@iQ=@Ap:=by
 funext own cap mi g me ρ S
 unfold iQ Ap;congr 1
 funext xs S1
 rw[<-Vf (f:=λG=>fH G g me xs.1 (dW own cap ρ) S1) (Bl _ _ _)]
def Fs(mi:MI)(g:GM)(mb:MS):MS:=λρ S=>bY.of (mi ρ S) λxs S1=>Vc xs.2 (xR g mb xs.1 ρ S1) (fW xs.2 g mb xs.1 ρ S1)
theorem wY:@hX=@Fs:=by
 funext mi g mb ρ S
 unfold hX Fs;congr 1
 funext xs S1
 rw[<-Vf (f:=λG=>fW G g mb xs.1 ρ S1) (Ke _ _ _)]
def Ru(a b:Int):Bool:=decide (-1000<=a/\a<=1000/\-1000<=b/\b<=1000)
def yZ(f:PV->PV->AI)(c:Int->Int->Bool)(g:Int->Int->Int):PV->PV->AI
 |.int a,.int b=>bif c a b then some (.int (g a b))else f (.int a) (.int b)
 |x,y=>f x y
theorem Hg{f:PV->PV->AI}{c:Int->Int->Bool}{g:Int->Int->Int}(h:∀a b,c a b=true->f (.int a) (.int b)=some (.int (g a b))):f=yZ f c g:=by
 funext x y
 unfold yZ;split
 .rename_i a b
  cases e:c a b with
  |false=>rfl
  |true=>exact h a b e
 .rfl
def ab1:=bO
theorem wX:bO=yZ ab1 Ru (·*·):=Hg λa b h=>Kp (.inl (.inl (by
 have h:=of_decide_eq_true h;omega)))
theorem acR{a:Int}(h:-1000<=a/\a<=1000):Bd 8000 a:=by
 have:Bd 10 a:=by unfold Bd;omega
 exact this.mono (by decide)
def abm:=kD
theorem wG:kD=yZ abm (λa b=>Ru a b&& !decide (b=0)) Int.fdiv:=Hg λa b h=>by
 rw[df]at h;have h1:=of_decide_eq_true h.1;refine M9 ⟨by simpa using h.2,acR (by omega)⟩
def ac4:=pW
def Iu:FM:=λvs S=>match vs with
 |[.pv (.int a),.pv (.int b)]=>.ok (.pv (.int (jx a b:Nat))) S
 |vs=>ac4 vs S
theorem yB:pW=Iu:=by
 funext vs S
 unfold Iu;split
 .exact Uy _ _ _
 .rfl
theorem ack:jW (.int 10) (.int 60)=some (.int 1000000000000000000000000000000000000000000000000000000000000):=Bp (i:=10) (j:=60) ⟨by decide,by decide,by decide⟩
def aci:=jW
def Rt:PV->PV->AI
 |.int 10,.int 60=>some (.int 1000000000000000000000000000000000000000000000000000000000000)
 |x,y=>aci x y
theorem wV:jW=Rt:=by
 funext x y
 unfold Rt;split
 .exact ack
 .rfl
def Ia(uss:AB):Bool:=decide (2<=uss.length)&&decide (uss.length<64)&&kZ uss.length (iz uss.length)&&decide ((jG uss).length<=64)&&uss.all λus=>!us.isEmpty
theorem Mz{uss:AB}(h:Ia uss=true):Zs uss:=by
 simp only[Ia,df,decide_eq_true_eq,jh]at h;obtain⟨⟨⟨⟨a,b⟩,c⟩,d⟩,e⟩:=h;exact⟨a,b,c,d,λus hu z=>by have:=e us hu;rw[z]at this;cases this⟩
def Db(xs:AH):AI:=match oQ xs with
 |some uss=>bif Ia uss then some (.lst (Ws xs uss))else nM xs
 |none=>none
def On:AH->AI
 |[.lst xs]=>Db xs
 |[.tup xs]=>Db xs
 |_=>none
theorem vV:uB=On:=by
 have e:∀xs,nM xs=Db xs:=λxs=>by
  unfold nM Db;cases z:oQ xs with
  |none=>rfl
  |some uss=>
   dsimp only;cases y:Ia uss with
   |true=>rw[if_pos (Mz y)];rfl
   |false=>
    show _=nM xs;unfold nM;rw[z]
 funext vs
 unfold uB On;split<;>simp[e]
def ab8:=eQ
theorem wT:eQ=yZ ab8 (λ_ b=>!decide (b=0)) Int.fmod:=Hg λa b h=>oN (by simpa using h)
def aB(k:Nat):Nat->aL->Bool
 |_,[]=>true
 |i,o::r=>(decide (i=k)||Xf o)&&aB k (i+1) r
theorem Lr{k:Nat}:∀{S:aL}{i:Nat},aB k i S=true->∀(j:Nat)(o:SO),S[j]?=some o->i+j≠k->Xf o=true
 |[],_,_,j,o,e,_=>by simp at e
 |u::r,i,h,j,o,e,n=>by
  unfold aB at h;rw[df,d8,decide_eq_true_eq]at h;cases j with
  |zero=>
   rw[List.getElem?_cons_zero]at e;cases e;exact h.1.resolve_left n
  |succ j=>exact Lr h.2 j o (by simpa using e) (by omega)
theorem Ca{k:Nat}{S:aL}(h:aB k 0 S=true):jH k S:=λj o e n=>Lr h j o e (by omega)
def pK{α:Type}(b:Bool)(a c:α):α:=bif b then a else c
theorem Eb{α:Type}{C:Prop}{b:Bool}{x:α}(y:Option α)(h:b=true->C)(e:y=@ite _ C (lc _) (some x) none):y=pK b (some x) y:=by
 cases b with
 |false=>rfl
 |true=>rw[e,if_pos (h rfl)];rfl
def acL:=kN
def Xs(b:Bool)(k:Nat)(S:aL):Option aL:=match S[k]? with
 |some (.dsk h past fut)=>pK (aB k 0 S&&decide ((if b=true then past else fut).length<16777216)) (some (S.set k (if b=true then .dsk h (past++[h]) fut else .dsk h past (fut++[h])))) (acL b k S)
 |_=>none
theorem xK:kN=Xs:=by
 funext b k S
 unfold Xs;split
 .rename_i h past fut e
  refine Eb (C:=jH k S/\(if b=true then past else fut).length<16777216) _ (λz=>?_) ?_
  .rw[df]at z
   exact⟨Ca z.1,of_decide_eq_true z.2⟩
  .show kN b k S=_
   unfold kN;rw[e]
 .rename_i e
  unfold kN;split
  .rename_i h past fut e2
   exact absurd e2 (e h past fut)
  .rfl
def acU:=nW
def Ts(k:Nat)(S:aL):Option aL:=match S[k]? with
 |some (.dsk h past _)=>pK (aB k 0 S) (some (S.set k (.dsk h past []))) (acU k S)
 |_=>none
theorem xI:nW=Ts:=by
 funext k S
 unfold Ts;split
 .rename_i h past fut e
  refine Eb (C:=jH k S) _ Ca ?_;show nW k S=_;unfold nW;rw[e]
 .rename_i e
  unfold nW;split
  .rename_i h past fut e2
   exact absurd e2 (e h past fut)
  .rfl
def act:=kK
def Pr(b:Bool)(k:Nat)(S:aL):Option aL:=match S[k]? with
 |some (.dsk _ past fut)=>(match(if b=true then past else fut)[(if b=true then past else fut).length-1]? with
  |some w=>pK (aB k 0 S) (some (S.set k (if b=true then .dsk w past.dropLast fut else .dsk w past fut.dropLast))) (act b k S)
  |none=>none)
 |_=>none
theorem xM:kK=Pr:=by
 funext b k S
 unfold Pr;split
 .rename_i h past fut e
  split
  .rename_i w e2
   refine Eb (C:=jH k S) _ Ca ?_;show kK b k S=_;unfold kK;rw[e];dsimp only;rw[e2]
  .rename_i e2
   unfold kK;rw[e];dsimp only;rw[e2]
 .rename_i e
  unfold kK;split
  .rename_i h past fut e2
   exact absurd e2 (e h past fut)
  .rfl
def aco:=pI
def Jg(k:Nat)(n:Str)(v:PV)(S:aL):Option aL:=match S[k]? with
 |some (.dsk (.dct ns fs) past fut)=>pK (aB k 0 S&&decide (ns.length<16777216)&&(!qN v||decide (n∈ns))) (some (S.set k (.dsk (uL n v ns fs) past fut))) (aco k n v S)
 |_=>none
theorem aaV:pI=Jg:=by
 funext k n v S
 unfold Jg;split
 .rename_i ns fs past fut e
  refine Eb (C:=jH k S/\ns.length<16777216/\(qN v=true->n∈ns)) _ (λz=>?_) ?_
  .rw[df,df,d8,decide_eq_true_eq,decide_eq_true_eq]at z
   exact⟨Ca z.1.1,z.1.2,λy=>z.2.resolve_left (by rw[y];simp)⟩
  .show pI k n v S=_
   unfold pI;rw[e]
 .rename_i e
  unfold pI;split
  .rename_i ns fs past fut e2
   exact absurd e2 (e ns fs past fut)
  .rfl
def Np(i j l t:Nat):MS:=λρ S=>match ρ[i]?,ρ[j]?,ρ[l]? with
 |some (some (.ref k)),some (some (.pv (.str n))),some (some (.pv v))=>(match Jg k n v S with
  |some S1=>if t<ρ.length then .nx (ρ.set t none) S1 else .fail
  |none=>.fail)
 |_,_,_=>.fail
theorem wC:uK=Np:=by
 funext i j l t ρ S
 unfold uK Np
 (rw[aaV])<;>rfl
def nm(p:List Nat):Bool:=decide (1<=p.length)&&decide (p.length<=12)&&p.all λc=>decide (97<=c)&&decide (c<=122)
theorem K2:∀c:Nat,c<128->Ju "abcdefghijklmnopqrstuvwxyz" ⟨#[c]⟩=(decide (97<=c)&&decide (c<=122)):=by decide+kernel
theorem Kz(S:aL)(L:List Nat)(h:∀c∈L,c<128):cS [] (gN 0) (aE oY (aC 0) (mC (.str "abcdefghijklmnopqrstuvwxyz"))) (lK (tx L)) [none] S=.ok ((L.map λc=>decide (97<=c)&&decide (c<=122)).map .bl) S:=by
 have e:lK (tx L)=L.map λc=>PV.str ⟨#[c]⟩:=by unfold lK;simp
 rw[e,jm];refine Ie (oK S) (λc:Nat=>PV.str ⟨#[c]⟩) (λc=>.bl (decide (97<=c)&&decide (c<=122))) L none λc hc=>?_;have q:=K2 c (h c hc);simp[aE,aC,mC,bA.bind,iD,rd,oY,q,gA]
theorem acP(S:aL){L:List Nat}(ha:∀c∈L,c<128)(hl:L.length<=10000):mU [.pv (.str (tx L))] S=.ok (.pv (.bl (nm L))) S:=by
 have z:(tx L).length<=16777216:=by rw[iP];omega
 have ec:=Kz S L ha;have eb:=Wn (L.map λc=>decide (97<=c)&&decide (c<=122));have ll:((tx L).length:Int)=(L.length:Int):=by rw[iP]
 have a8:=aaj ha;have al:(L.map λc=>decide (97<=c)&&decide (c<=122)).all id=L.all λc=>decide (97<=c)&&decide (c<=122):=by simp[List.all_map,Function.comp_def]
 rw[al]at eb;unfold nm;unfold mU bH pX;generalize (aE oY (aC 0) (mC (.str "abcdefghijklmnopqrstuvwxyz")))=ME1 at *;generalize (L.map λc=>decide (97<=c)&&decide (c<=122)).map PV.bl=BL at *;generalize (L.all λc=>decide (97<=c)&&decide (c<=122))=B at *;generalize L.length=N at *;generalize tx L=T at*
 by_cases h1:(1:Int)<=(N:Int)
 .have h1':1<=N:=by omega
  by_cases h2:(N:Int)<=12
  .have h2':N<=12:=by omega
   cases B<;>dsimp! [kX,mD,z,ll,h1,h2,h1',h2',dJ,dW,yE,Lg,a8,ec,eb]
  .have h2':¬N<=12:=by omega
   dsimp! [kX,mD,z,ll,h1,h2,h1',h2']
 .have h1':¬1<=N:=by omega
  dsimp! [kX,mD,z,ll,h1,h1']
theorem Lx{Q:List (List Nat)}(h0:Q≠[])(h:∀p∈Q,32∉p):gr (tx (bS 32 Q)) (tx [32])=Q.map tx:=by
 obtain⟨P,e,f,g,n⟩:=Fq (bS 32 Q) 32;rw[e,Nl n h0 f h g]
theorem Mr{np n:Nat}{b:MS}{xs:AK}{S:aL}{e:Str}(hl:xs.length=np)(h:b (lW n xs) S=.exc e S):bH np n b xs S=.exc e S:=by
 unfold bH;rw[if_pos hl,h];simp[qJ]
theorem ado(L M R:AH):rN (.lst (L++M++R)) (some (L.length:Int)) (some ((L.length+M.length:Nat):Int))=some (.lst M):=by
 unfold rN;dsimp only;unfold rC;rw[HT.sIx_nat,HT.sIx_nat,wm (by simp),wm (by simp),iw,List.drop_left,show L.length+M.length-L.length=M.length by omega,zb]
theorem abw(S:aL){w:List Nat}{N R:List (List Nat)}{b:Bool}(hw:tx w∈lU)(hf:iF lU pZ (tx w)=some (.tup [.int (N.length:Nat),.bl b]))(ha:∀p∈w::(N++R),32∉p/\(∀c∈p,c<128)/\p.length<=9000)(hl:(bS 32 (w::(N++R))).length<=9000)(bad:∃p∈N,nm p=false):oF [.pv (.str (tx (bS 32 (w::(N++R)))))] S=.exc "NoRow" S:=by
 have sp:=Mx (Lx (Q:=w::(N++R)) (by simp) λp hp=>(ha p hp).1) hl;have c1:=ado [PV.str (tx w)] (N.map λp=>PV.str (tx p)) (R.map λp=>PV.str (tx p));have c2:=adn (([PV.str (tx w)]++(N.map λp=>PV.str (tx p)))++R.map λp=>PV.str (tx p)) (a:=1+N.length) (by simp;omega);have d2:(([PV.str (tx w)]++(N.map λp=>PV.str (tx p)))++R.map λp=>PV.str (tx p)).drop (1+N.length)=R.map λp=>PV.str (tx p):=List.drop_left' (by simp;omega);rw[d2]at c2;have eL:(w::(N++R)).map (λp=>PV.str (tx p))=[PV.str (tx w)]++(N.map λp=>PV.str (tx p))++R.map λp=>PV.str (tx p):=by simp
 rw[eL]at sp;have ix:bE (.lst ([PV.str (tx w)]++(N.map λp=>PV.str (tx p))++R.map λp=>PV.str (tx p))) (.int 0)=some (.str (tx w)):=by
  simp[bE,fL,iB];rw[if_pos (by omega)];rfl
 have cm:=Ie (oK S) (me:=bF mU [] (aD (aC 0) aG)) (tail:=[]) (λp:List Nat=>PV.str (tx p)) (λp=>.bl (nm p)) N none λp hp=>by
  have q:=acP S (ha p (by simp[hp])).2.1 (by have:=(ha p (by simp[hp])).2.2;omega);dsimp! [q]
 have eb:=Wn (N.map nm);rw[jm]at eb;have al:(N.map nm).all id=false:=by
  obtain⟨p,hp,e⟩:=bad;rw[e7];exact⟨nm p,List.mem_map_of_mem hp,by simp[e]⟩
 rw[al]at eb;have eb:kO [.lst (N.map λp=>PV.bl (nm p))]=some (.bl false):=eb;have lN:(N.map λp=>PV.str (tx p)).length=N.length:=by simp
 have lR:(R.map λp=>PV.str (tx p)).length=R.length:=by simp
 rw[lN]at c1;have c1:rN (.lst ([PV.str (tx w)]++(N.map λp=>PV.str (tx p))++R.map λp=>PV.str (tx p))) (some 1) (some (1+(N.length:Int)))=some (.lst (N.map λp=>PV.str (tx p))):=by
  rw[<-c1];rfl
 have c3:rN (.lst ([PV.str (tx w)]++(N.map λp=>PV.str (tx p))++R.map λp=>PV.str (tx p))) (some (1+(N.length:Int))) none=some (.lst (R.map λp=>PV.str (tx p))):=by
  rw[<-c2];rfl
 generalize tx (bS 32 (w::(N++R)))=T at *;generalize ([PV.str (tx w)]++(N.map λp=>PV.str (tx p))++R.map λp=>PV.str (tx p))=L at *;generalize (R.map λp=>PV.str (tx p))=R' at *;generalize (N.map λp=>PV.str (tx p))=N' at *;generalize (N.map λp=>PV.bl (nm p))=B' at *;generalize tx w=W at *;have fl:dX [.lst R']=some (.int (R.length:Nat)):=by rw[<-lR];rfl
 have fn:dX [.lst N']=some (.int (N.length:Nat)):=by rw[<-lN];rfl
 clear c1 c2 d2 eL lN lR;refine Mr rfl ?_;unfold pV;generalize lU=WF,pZ=VF at *;apply sq
 .simp! [mF,pF,sp];first |exact⟨rfl,rfl⟩|rfl
 apply sq
 .simp! [lG,ix,hw];first |exact⟨rfl,rfl⟩|rfl
 apply sq
 .simp! [xY,ix,hf];first |exact⟨rfl,rfl⟩|rfl
 have f0:bE (.tup [.int (N.length:Nat),.bl b]) (.int 0)=some (.int (N.length:Nat)):=rfl;have f1:bE (.tup [.int (N.length:Nat),.bl b]) (.int 1)=some (.bl b):=rfl;have fa:bT (.int 1) (.int (N.length:Nat))=some (.int (1+(N.length:Nat))):=rfl;apply sq
 .simp! [-bT,jD,fE,qD,f0,fa,c1];first |exact⟨rfl,rfl⟩|rfl
 apply sq
 .simp! [-bT,jD,fE,qD,gB,f0,fa,c3];first |exact⟨rfl,rfl⟩|rfl
 have en:∀x y:Bool,bB 8 (.bl x) (.bl y)=some (decide (x=y)):=by intro x y;cases x<;>cases y<;>rfl
 simp! [f0,f1,fl,fn,dJ,dW,cX,iW,cm,eb,jR,en]
theorem Q9{x y:SO}{R:aL}{h:PV}{p f:AH}{T:Str}(hy:y=.dsk h p f)(e:oF [.pv (.str T)] (x::y::R)=.exc "NoRow" (x::y::R)):eB [.ref 1,.pv (.str T)] (x::y::R)=.ok (.pv (.tup [.int 1,.bl true])) (x::y::R):=by
 have d:oE [.ref 1,.pv (.str T)] (x::y::R)=.exc "NoRow" (x::y::R):=by
  refine Mr rfl ?_;unfold pU;simp! [e]
 subst hy;generalize hS:x::SO.dsk h p f::R=S at *;have g1:S[1]?=some (.dsk h p f):=by rw[<-hS];rfl
 have tk:S.take S.length=S:=vp;refine xP (v:=.pv (.tup [.int 1,.bl true])) (S':=S) rfl ?_ (by simp[nI]);unfold tW;simp! [Cb,Va,gW,g1,d]<;>kernel_rfl
theorem nN{R:aL}(ns:AA){m:Int}(hm:0<m)(b:m<=1000):∃(v:Nat)(ns':AA),gI [.ref 0,.pv (.int m)] (.lst (li ns)::R)=.ok (.pv (.int (v:Int))) (.lst (li ns')::R)/\(v:Int)<m:=by
 obtain⟨v,n1,e,a,c,_⟩:=U7 (S:=.lst (li ns)::R) (k:=0) (ns:=ns) (m:=m) rfl hm (sm8 (by omega) (by omega));exact⟨v.toNat,n1,by rw[show((v.toNat:Nat):Int)=v by omega];exact e,by omega⟩
def Pb(c:Nat):Bool:=decide (97<=c)&&decide (c<=122)
theorem Oq{L:List Nat}(hl:L.length<=1000){v:Nat}(h:v<L.length):∃c∈L,pG (.str (tx L)) (.int (v:Int))=some (.str (tx [c])):=by
 refine⟨L[v],mn _,?_⟩;show(if(tx L).length<=16777216 then(fL (tx L).cps.toList (v:Int)).map (λc=>PV.str ⟨#[c]⟩)else none)=_;have e:(tx L).cps.toList=L:=by simp[tx]
 rw[if_pos (by rw[iP];omega),e,Do (j:=v) (ba h)];rfl
def iM:List Nat:=(ee 26).map (·+97)
theorem abE:("abcdefghijklmnopqrstuvwxyz":Str)=tx iM:=by kernel_rfl
def zF:List Nat:=[33,34,35,36,38,39,40,41,42,43,44,45,46,47,48,49,50,51,52,53,54,55,56,57,58,59,60,61,62,63,64,65,66,67,68,69,70,71,72,73,74,75,76,77,78,79,80,81,82,83,84,85,86,87,88,89,90,91,92,93,94,95,96,123,124,125,126]
theorem abD:("!\"#$&'()*+,-./0123456789:;<=>?@ABCDEFGHIJKLMNOPQRSTUVWXYZ[\\]^_`{|}~":Str)=tx zF:=by kernel_rfl
theorem Lq:∀c∈iM,Pb c=true/\c<128/\c≠32:=by decide
theorem Iq:∀c∈zF,Pb c=false/\c<128/\c≠32:=by decide
theorem Lp{R:aL}:∀(is:AH)(ns:AA)(x:AJ),∃(cs:List Nat)(ns':AA),cS [] (gN 0) (aE pG (aC 1) (bF gI [] (aD (aC 2) (aD (mC (.int 26)) aG)))) is [x,some (.pv (.str (tx iM))),some (.ref 0)] (.lst (li ns)::R)=.ok (cs.map λc=>.str (tx [c])) (.lst (li ns')::R)/\cs.length=is.length/\∀c∈cs,c∈iM
 |[],ns,x=>⟨[],ns,He,rfl,λ_ h=>by cases h⟩
 |i::is,ns,x=>by
  obtain⟨v,n1,e1,h1⟩:=nN (R:=R) ns (m:=26) (by decide) (by decide);obtain⟨c,hc,e2⟩:=Oq (L:=iM) (by decide) (v:=v) (by show v<26;omega);obtain⟨cs,n2,e3,l3,m3⟩:=Lp (R:=R) is n1 (some (.pv i));refine⟨c::cs,n2,?_,by simp[l3],λd hd=>?_⟩
  .generalize tx iM=A at*
   rw[Td];have a1:gI [.ref 0,.pv (.int 26)] (.lst (li ns)::R)=.ok (.pv (.int (v:Int))) (.lst (li n1)::R):=e1;simp! [gN,a1,e2,e3]
  .rcases bw.mp hd with rfl |hd
   .exact hc
   .exact m3 d hd
theorem Nq:∀cs:List Nat,jn [] (cs.map λc=>[c])=cs
 |[]=>rfl
 |[c]=>rfl
 |c::d::r=>by
  show[c]++([]++jn [] ((d::r).map λc=>[c]))=_;rw[Nq (d::r)];rfl
theorem acH{cs:List Nat}(h:cs.length<=200):qM (tx []) [.lst (cs.map λc=>.str (tx [c]))]=some (.str (tx cs)):=by
 have e:=aaG (s:=[]) (Ls:=cs.map λc=>[c]) (B:=1) (by decide) (λl hl=>by obtain⟨c,_,rfl⟩:=nr.mp hl;simp) (by simpa using h) (by decide);rw[jm,Nq]at e;exact e
structure Wd(p:List Nat):Prop where
 no:32∉p
 asc:∀c∈p,c<128
 len:p.length<=60
theorem xQ{p:List Nat}(h:∀c∈p,c<128/\c≠32)(l:p.length<=60):Wd p:=⟨λz=>(h _ z).2 rfl,λc hc=>(h c hc).1,l⟩
theorem abt{p:List Nat}{c:Nat}(hc:c∈p)(h:Pb c=false):nm p=false:=by
 unfold nm;rw[Bool.and_eq_false_iff];right;rw[e7];exact⟨c,hc,by unfold Pb at h;rw[h];decide⟩
theorem abr{p:List Nat}(h:12<p.length):nm p=false:=by
 unfold nm;rw[decide_eq_false (p:=p.length<=12) (by omega)];simp
theorem aba{R:aL}(ns:AA):∃(p:List Nat)(ns':AA),Dd [.ref 0] (.lst (li ns)::R)=.ok (.pv (.str (tx p))) (.lst (li ns')::R)/\Wd p/\nm p=false:=by
 obtain⟨v1,n1,e1,h1⟩:=nN (R:=R) ns (m:=8) (by decide) (by decide);obtain⟨v2,n2,e2,h2⟩:=nN (R:=R) n1 (m:=67) (by decide) (by decide);obtain⟨v3,n3,e3,h3⟩:=nN (R:=R) n2 (m:=12) (by decide) (by decide);obtain⟨v4,n4,e4,h4⟩:=nN (R:=R) n3 (m:=(v3:Int)+1) (by omega) (by omega);obtain⟨s,hs,es⟩:=Oq (L:=zF) (by decide) (v:=v2) (by show v2<67;omega);obtain⟨cs,n5,e5,l5,m5⟩:=Lp (R:=R) (lC 0 v3) n4 none;have l5:cs.length=v3:=by rw[l5];simp[lC]
 have ej:=acH (cs:=cs) (by omega);have ls:mD [.str (tx zF)]=some (.int 67):=by kernel_rfl
 have fa:bT (.int (v3:Int)) (.int 1)=some (.int ((v3:Int)+1)):=rfl;have wc:∀c∈cs,c<128/\c≠32:=λc hc=>(Lq c (m5 c hc)).2;have ws:=(Iq s hs).2;have t1:=wR (A:=cs) (B:=iM) (by show cs.length+26<=10000;omega);have t2:=Xq (L:=cs++iM) (j:=13+v4) (by rw[cb];show 13+v4<=cs.length+26;omega) (by rw[cb];show cs.length+26<=10000;omega);have t3:=Xq (L:=cs) (j:=v4) (by omega) (by omega);have t4:=L9 (L:=cs) (i:=(v4:Int)) (j:=v4) rfl (by omega);have t5:=wR (A:=cs.take v4) (B:=[s]) (by simp;omega);have t6:=wR (A:=cs.take v4++[s]) (B:=cs.drop v4) (by simp;omega);have rg:vK [.pv (.int (v3:Int))] (.lst (li n4)::R)=.ok (lC 0 v3,[]) (.lst (li n4)::R):=by
  unfold vK;dsimp only;rw[if_pos (by omega)];simp
 have a13:bT (.int 13) (.int (v4:Int))=some (.int (13+(v4:Int))):=rfl;rw[show((13+v4:Nat):Int)=13+(v4:Int) by omega]at t2;refine⟨if v1=0 then[] else if v1<3 then(cs++iM).take (13+v4)else cs.take v4++[s]++cs.drop v4,n5,?_,?_,?_⟩
 .refine xP (v:=.pv (.str (tx (if v1=0 then[] else if v1<3 then(cs++iM).take (13+v4)else cs.take v4++[s]++cs.drop v4)))) (S':=.lst (li n5)::R) rfl ?_ (by simp[nI])
  unfold Cd;rw[abE,abD,show("":Str)=tx [] by kernel_rfl];rw[apply_ite tx,apply_ite tx];generalize tx iM=TA,tx zF=TS,tx cs=TC at *;generalize tx []=T0,tx (cs++iM)=T1,tx ((cs++iM).take (13+v4))=T2,tx (cs.take v4)=T3,tx (cs.drop v4)=T4,tx [s]=T5,tx (cs.take v4++[s])=T6,tx (cs.take v4++[s]++cs.drop v4)=T7 at *;generalize (cs.map λc=>PV.str (tx [c]))=CS at *;apply sq
  .simp! [bT];exact⟨rfl,rfl⟩
  apply sq
  .simp! [bT];exact⟨rfl,rfl⟩
  apply sq
  .simp! [e1];exact⟨rfl,rfl⟩
  apply sq
  .simp! [ls,e2,es];exact⟨rfl,rfl⟩
  apply sq
  .simp! [e3];exact⟨rfl,rfl⟩
  apply sq
  .simp! [-bT,fa,e4];exact⟨rfl,rfl⟩
  apply sq
  .simp! [kE,pF,dJ,dW,qA,rg,e5,ej];exact⟨rfl,rfl⟩
  by_cases z1:v1=0
  .have y1:((v1:Int)=0):=by omega
   rw[if_pos z1];simp! [y1,z1]
  have y1:¬((v1:Int)=0):=by omega
  rw[if_neg z1];apply sq
  .simp! [y1,z1];first |exact⟨rfl,rfl⟩|rfl
  by_cases z2:v1<3
  .have y2:((v1:Int)<3):=by omega
   rw[if_pos z2];simp! [-bT,y2,z2,pD,t1,gB,fE,qD,a13,t2]
  .have y2:¬((v1:Int)<3):=by omega
   rw[if_neg z2];apply sq
   .simp! [y2,z2];first |exact⟨rfl,rfl⟩|rfl
   simp! [-bT,pD,gB,fE,qD,t3,t4,t5,t6]
 .have wA:∀c∈cs++iM,c<128/\c≠32:=λc hc=>(cf.mp hc).elim (wc c) λh=>(Lq c h).2
  have lA:iM.length=26:=rfl;split
  .exact xQ (by simp) (by simp)
  .split
   .exact xQ (λc hc=>wA c (wd hc)) (by rw[ku,cb];omega)
   .refine xQ (λc hc=>?_) (by simp;omega)
    rcases cf.mp hc with hc |hc
    .rcases cf.mp hc with hc |hc
     .exact wc c (wd hc)
     .rw[ja.mp hc];exact ws
    .exact wc c (b5 hc)
 .have lA:iM.length=26:=rfl
  split
  .rfl
  .split
   .exact abr (by rw[ku,cb];omega)
   .exact abt (c:=s) (by simp) (Iq s hs).1
theorem Yl{c:Nat}:∀{A B:List (List Nat)},A≠[]->B≠[]->bS c A++c::bS c B=bS c (A++B)
 |[],_,h,_=>absurd rfl h
 |_,[],_,h=>absurd rfl h
 |[p],q::r,_,_=>rfl
 |p::a::r,q::s,_,h=>by
  have ih:=Yl (c:=c) (A:=a::r) (B:=q::s) (by simp) h;show(p++c::bS c (a::r))++c::bS c (q::s)=p++c::bS c (a::r++q::s);rw[iw,List.cons_append,ih]
def G4:List (List Nat):=[[97],[98],[110,111,110,101],[103,111,110,101]]
theorem Nr:∀p∈G4,(∀c∈p,c<128/\c≠32)/\p.length<=60:=by decide
theorem adw:([.str "a",.str "b",.str "none",.str "gone"]:AH)=G4.map λp=>.str (tx p):=by kernel_rfl
theorem Qa{α:Type}(f:α->PV){L:List α}{v:Nat}(h:v<L.length):∃p∈L,bE (.tup (L.map f)) (.int (v:Int))=some (f p):=by
 refine⟨L[v],mn _,?_⟩;show fL (L.map f) (v:Int)=_;exact Do (by rw[fm,ba h];rfl)
theorem Xm{R:aL}:∀(is:AH)(ns:AA)(x:AJ),∃(N:List (List Nat))(ns':AA),cS [] (gN 0) (aE bE (mC (.tup (G4.map λp=>.str (tx p)))) (bF gI [] (aD (aC 1) (aD (mC (.int 4)) aG)))) is [x,some (.ref 0)] (.lst (li ns)::R)=.ok (N.map λp=>.str (tx p)) (.lst (li ns')::R)/\N.length=is.length/\∀p∈N,p∈G4
 |[],ns,x=>⟨[],ns,He,rfl,λ_ h=>by cases h⟩
 |i::is,ns,x=>by
  obtain⟨v,n1,e1,h1⟩:=nN (R:=R) ns (m:=4) (by decide) (by decide);obtain⟨p,hp,e2⟩:=Qa (λp:List Nat=>PV.str (tx p)) (L:=G4) (v:=v) (by show v<4;omega);obtain⟨N,n2,e3,l3,m3⟩:=Xm (R:=R) is n1 (some (.pv i));refine⟨p::N,n2,?_,by simp[l3],λd hd=>?_⟩
  .generalize (G4.map λp=>PV.str (tx p))=A at*
   rw[Td];simp! [gN,e1,e2,e3]
  .rcases bw.mp hd with rfl |hd
   .exact hp
   .exact m3 d hd
def T4(t:List Nat):List (List Nat):=[t,[120],[48,32,48,44,32,49,32,49,44,32,50,32,50],[]]
def tO:Option (List Nat)->PV
 |none=>.non
 |some t=>.str (tx t)
theorem V7{D T:SO}(ns:AA){w:List Nat}{k:Nat}{o:Option (List Nat)}(hw:Wd w)(hk:1<=k/\k<=3)(ho:∀t,o=some t->(∀c∈t,c<128)/\t.length<=60):∃(N R:List (List Nat))(ns':AA),wH [.ref 0,.pv (.str (tx w)),.pv (.int (k:Int)),.pv (tO o)] [.lst (li ns),D,T]=.ok (.pv (.str (tx (bS 32 (w::(N++R)))))) [.lst (li ns'),D,T]/\N.length=k/\(∀p∈w::(N++R),32∉p/\(∀c∈p,c<128)/\p.length<=9000)/\(bS 32 (w::(N++R))).length<=9000/\∃p∈N,nm p=false:=by
 obtain⟨N,n1,e1,l1,m1⟩:=Xm (R:=[D,T]) (lC 0 k) ns none;have l1:N.length=k:=by rw[l1];simp[lC]
 obtain⟨b,n2,e2,wb,nb⟩:=aba (R:=[D,T,.lst (N.map λp=>.str (tx p))]) n1;obtain⟨v,n3,e3,h3⟩:=nN (R:=[D,T,.lst (N.map λp=>.str (tx p))]) n2 (m:=(k:Int)) (by omega) (by omega);have hv:v<N.length:=by omega
 have wN:∀p∈N.set v b,Wd p:=λp hp=>(List.mem_or_eq_of_mem_set hp).elim (λh=>xQ (Nr p (m1 p h)).1 (Nr p (m1 p h)).2) λh=>h▸wb;have hb:b∈N.set v b:=List.mem_set hv b;have wW:∀p∈w::N.set v b,Wd p:=λp hp=>(bw.mp hp).elim (λh=>h▸hw) (wN p);have ej:=V2 (c:=32) (Ls:=w::N.set v b) (B:=60) (λp hp=>(wW p hp).len) (by simp;omega) (by decide);have lw:=Vm (c:=32) (P:=w::N.set v b) (B:=60) λp hp=>(wW p hp).len;have lw:(bS 32 (w::N.set v b)).length<=244:=by simp at lw;omega
 have rg:vK [.pv (.int (k:Int))] [.lst (li ns),D,T]=.ok (lC 0 k,[]) [.lst (li ns),D,T]:=by
  unfold vK;dsimp only;rw[if_pos (by omega)];simp
 have ixn:iB (N.map λp=>PV.str (tx p)).length (v:Int)=some v:=by
  unfold iB;rw[if_pos (by omega),if_pos (by simp;omega)];simp
 have sm:(N.map λp=>PV.str (tx p)).set v (.str (tx b))=(N.set v b).map λp=>.str (tx p):=by rw[List.map_set]
 have tupC:mN bU (aD (mC (.str "a")) (aD (mC (.str "b")) (aD (mC (.str "none")) (aD (mC (.str "gone")) aG))))=mC (.tup (G4.map λp=>.str (tx p))):=by
  rw[<-adw]
  funext ρ S
  simp! [bT]
 have hd:(λρ S=>tX ρ S)=tX:=rfl;have c4:nI 3 (.pv (.str (tx (bS 32 (w::N.set v b))))) [.lst (li n3),D,T,.lst ((N.set v b).map λp=>.str (tx p))]=.ok (.pv (.str (tx (bS 32 (w::N.set v b))))) [.lst (li n3),D,T]:=rfl;have fa:bT (.lst [.str (tx w)]) (.lst ((N.set v b).map λp=>.str (tx p)))=some (.lst ((w::N.set v b).map λp=>.str (tx p))):=by
  show(if 1+((N.set v b).map λp=>PV.str (tx p)).length<=16777216 then _ else _)=_;rw[if_pos (by simp;omega)];rfl
 rw[<-Jf]at ej;cases o with
 |none=>
  refine⟨N.set v b,[],n3,?_,by simp[l1],?_,by simpa using(by omega:(bS 32 (w::N.set v b)).length<=9000),b,hb,nb⟩
  .rw[ia]
   refine xP (v:=.pv (.str (tx (bS 32 (w::N.set v b))))) rfl ?_ c4;unfold tX;rw[tupC];generalize tx (bS 32 (w::N.set v b))=TL,tx w=TW,tx b=TB at *;generalize ((w::N.set v b).map λp=>PV.str (tx p))=L5,((N.set v b).map λp=>PV.str (tx p))=L4 at *;generalize (N.map λp=>PV.str (tx p))=L3,(G4.map λp=>PV.str (tx p))=L2 at *;apply sq
   .simp! [qQ,dW,qA,rg,e1];exact⟨rfl,rfl⟩
   apply sq
   .simp! [qG,e2,e3,iV,qR,ixn,sm];exact⟨rfl,rfl⟩
   apply sq
   .simp! [-bT,kE,pF,fa,ej];exact⟨rfl,rfl⟩
   simp! [tO,qY]
  .intro p hp
   rw[ia]at hp;exact⟨(wW p hp).no,(wW p hp).asc,by have:=(wW p hp).len;omega⟩
 |some t=>
  obtain⟨at_,lt_⟩:=ho t rfl;obtain⟨x,n4,e4,h4⟩:=nN (R:=[D,T,.lst ((N.set v b).map λp=>.str (tx p))]) n3 (m:=4) (by decide) (by decide);obtain⟨u,hu,e5⟩:=Qa (λp:List Nat=>PV.str (tx p)) (L:=T4 t) (v:=x) (by show x<4;omega);have wu:(∀c∈u,c<128)/\u.length<=60:=by
   have:∀p∈([[120],[48,32,48,44,32,49,32,49,44,32,50,32,50],[]]:List (List Nat)),(∀c∈p,c<128)/\p.length<=60:=by decide
   rcases bw.mp hu with rfl |h
   .exact⟨at_,lt_⟩
   .exact this u h
  obtain⟨P,_,f1,f2,f3⟩:=Fq u 32;have wP:∀p∈P,32∉p/\(∀c∈p,c<128)/\p.length<=9000:=λp hp=>⟨f1 p hp,λc hc=>wu.1 c (f2▸Zl hp c hc),by have:=Km (c:=32) hp;rw[f2]at this;omega⟩;have eF:=Yl (c:=32) (A:=w::N.set v b) (B:=P) (by simp) f3;rw[f2]at eF;have a1:=wR (A:=bS 32 (w::N.set v b)) (B:=[32]) (by simp;omega);have a2:=wR (A:=bS 32 (w::N.set v b)++[32]) (B:=u) (by simp;omega);rw[iw,List.singleton_append,eF]at a2;rw[<-Jf]at a1;have eT:[PV.str (tx t),.str "x",.str "0 0, 1 1, 2 2",.str ""]=(T4 t).map λp=>.str (tx p):=by kernel_rfl
  have lF:(bS 32 (w::N.set v b++P)).length<=9000:=by
   rw[<-eF,cb,bq];omega
  refine⟨N.set v b,P,n4,?_,by simp[l1],?_,by simpa using lF,b,hb,nb⟩
  .refine xP (v:=.pv (.str (tx (bS 32 (w::(N.set v b++P)))))) (S':=[.lst (li n4),D,T,.lst ((N.set v b).map λp=>.str (tx p))]) rfl ?_ rfl
   unfold tX;rw[tupC];have a2:jS (.str (tx (bS 32 (w::N.set v b)++[32]))) (.str (tx u))=some (.str (tx (bS 32 (w::(N.set v b++P))))):=a2;clear eF lF;generalize tx (bS 32 (w::(N.set v b++P)))=TF,tx (bS 32 (w::N.set v b)++[32])=TM,tx u=TU at *;show _=_;generalize tx (bS 32 (w::N.set v b))=TL,tx w=TW,tx b=TB at *;generalize ((w::N.set v b).map λp=>PV.str (tx p))=L5,((N.set v b).map λp=>PV.str (tx p))=L4 at *;generalize (N.map λp=>PV.str (tx p))=L3,(G4.map λp=>PV.str (tx p))=L2 at *;apply sq
   .simp! [qQ,dW,qA,rg,e1];exact⟨rfl,rfl⟩
   apply sq
   .simp! [qG,e2,e3,iV,qR,ixn,sm];exact⟨rfl,rfl⟩
   apply sq
   .simp! [-bT,kE,pF,fa,ej];exact⟨rfl,rfl⟩
   apply sq
   .simp! [tO,qY];exact⟨rfl,rfl⟩
   simp! [tO,a1,e4];rw[eT];simp! [e5,a2]
  .intro p hp
   rcases bw.mp hp with h |hp
   .exact⟨(wW p (h▸ce)).no,(wW p (h▸ce)).asc,by have:=(wW p (h▸ce)).len;omega⟩
   .rcases cf.mp hp with hp |hp
    .exact⟨(wN p hp).no,(wN p hp).asc,by have:=(wN p hp).len;omega⟩
    .exact wP p hp
def TN:List Str:=["put","walk","push","turn","prism","pyramid","count","both","drop","shown","size","same","led","pushed","never"]
def TV:AH:=[.tup [.int 1,.str "0 0, 1 0, 0 1"],.tup [.int 1,.str "0 0, 1 0, 0 1"],.tup [.int 2,.str "1 1"],.tup [.int 2,.str "0 1"],.tup [.int 2,.str "0 0 1"],.tup [.int 2,.str "0 0 1"],.tup [.int 1,.str "1/4 1/4"],.tup [.int 3,.non],.tup [.int 1,.non],.tup [.int 1,.non],.tup [.int 1,.non],.tup [.int 2,.non],.tup [.int 2,.non],.tup [.int 2,.non],.tup [.int 2,.non]]
def hA:PV:=.tup [.tup [.tup [.int 0,.int 0,.int 1],.tup [.int 1,.int 0,.int 1],.tup [.int 0,.int 1,.int 1]]]
def hB:PV:=.tup [.tup [.tup [.int 0,.int 0,.int 0,.int 1],.tup [.int 0,.int 0,.int 1,.int 1],.tup [.int 1,.int 0,.int 0,.int 1],.tup [.int 0,.int 1,.int 0,.int 1]]]
inductive Cs where
 |a |b
def cH:Cs->PV
 |.a=>.dct [] []
 |.b=>.dct ["a","b","none"] [hA,hB,.tup []]
def cP:Cs->AH
 |.a=>[]
 |.b=>[.dct [] [],.dct ["a"] [hA],.dct ["a","b"] [hA,hB]]
def cF:Cs->AH
 |.a=>[.dct ["a"] [.tup []]]
 |.b=>[.dct ["a","b","none"] [.tup [],hB,.tup []]]
def cV:Cs->PV
 |.a=>.lst [.tup [.int 0,.str "none"],.tup [.int 2,.bl false],.tup [.int 2,.bl false],.tup [.int 2,.bl false]]
 |.b=>.lst [.tup [.int 0,.str "a b none"],.tup [.int 0,.str "0 0, 1 0, 0 1"],.tup [.int 0,.str "0 0 0, 0 0 1, 1 0 0, 0 1 0"],.tup [.int 0,.str "none"]]
abbrev dk(c:Cs):SO:=.dsk (cH c) (cP c) (cF c)
abbrev tt:SO:=.tdc TN TV
theorem P3(a0:AJ)(r:AH):(hX (cX (mN bU (aD (mC (.str "put a 0 0, 1 0, 0 1")) (aD (mC (.str "put b 0 0 0, 1 0 0, 0 1 0, 0 0 1")) (aD (mC (.str "put none none")) aG))))) (gN 3) (bV (aV (aE dG (bF eB [] (aD (aC 2) (aD (aC 3) aG))) (mN bU (aD (mC (.int 0)) (aD (mC (.str "done")) aG))))) (bC (mC (.bl false))) cE)) [a0,some (.ref 0),some (.ref 1),none,none,none,none,none,none] [.lst r,.dsk (.dct [] []) [] []]=.nx [a0,some (.ref 0),some (.ref 1),some (.pv (.str "put none none")),none,none,none,none,none] [.lst r,.dsk (cH .b) (cP .b) []]:=by
 simp only[eB,tW,oE,pU,uV,uT,sX,tE,kW,rW,sB,sC,sN,sO,tI,tJ,qB,uA,oO,uC,tL,tM,sJ,sL,pT,sT,oH,tH,sZ,tD,tN,tQ,uI,uH,sM,sG,uZ,uX,sK,sI,tV,tR,sV,sP,sW,sQ,sU,sS,rX,rZ,sH,sF,sD,sA,pS,sE,tG,tF,oF,pV,mU,pX,pQ,rT,mS,sR,pR,rY,oB,rS,wM,vY,wY,wX,wG,wT,yB,wV,vV,xK,xI,xM,wC];kernel_rfl
theorem aau(c:Cs)(a0 x3:AJ)(r:AH)(X:MS):(aQ (aW 4 (bF mW [] (aD (aC 2) aG))) (aQ (bV (jO (aV (aE dG (bF eB [] (aD (aC 2) (aD (mC (.str "put a none")) aG))) (mN bU (aD (mC (.int 0)) (aD (mC (.str "done")) aG))))) (aV (aE dG (bF eB [] (aD (aC 2) (aD (mC (.str "undo")) aG))) (mN bU (aD (mC (.int 0)) (aD (mC (.str "done")) aG)))))) (bC (mC (.bl false))) cE) (aQ (aW 5 (mB zZ [] aG)) X))) [a0,some (.ref 0),some (.ref 1),x3,none,none,none,none,none] [.lst r,.dsk (cH c) (cP c) []]=X [a0,some (.ref 0),some (.ref 1),x3,some (.pv (cV c)),some (.ref 2),none,none,none] [.lst r,dk c,tt]:=by
 simp only[eB,tW,oE,pU,uV,uT,sX,tE,kW,rW,sB,sC,sN,sO,tI,tJ,qB,uA,oO,uC,tL,tM,sJ,sL,pT,sT,oH,tH,sZ,tD,tN,tQ,uI,uH,sM,sG,uZ,uX,sK,sI,tV,tR,sV,sP,sW,sQ,sU,sS,rX,rZ,sH,sF,sD,sA,pS,sE,tG,tF,oF,pV,mU,pX,pQ,rT,mS,sR,pR,rY,oB,rS,mW,zW,zZ,Ue,wM,vY,wY,wX,wG,wT,yB,wV,vV,xK,xI,xM,wC];cases c<;>kernel_rfl
theorem Q2(c:Cs)(r:AH):mW [.ref 1] [.lst r,dk c,tt]=.ok (.pv (cV c)) [.lst r,dk c,tt]:=by
 simp only[mW,zW,eB,tW,oE,pU,uV,uT,sX,tE,kW,rW,sB,sC,sN,sO,tI,tJ,qB,uA,oO,uC,tL,tM,sJ,sL,pT,sT,oH,tH,sZ,tD,tN,tQ,uI,uH,sM,sG,uZ,uX,sK,sI,tV,tR,sV,sP,sW,sQ,sU,sS,rX,rZ,sH,sF,sD,sA,pS,sE,tG,tF,oF,pV,mU,pX,pQ,rT,mS,sR,pR,rY,oB,rS,wM,vY,wY,wX,wG,wT,yB,wV,vV,xK,xI,xM,wC];cases c<;>kernel_rfl
theorem O2(c:Cs)(r:AH):mT [.pv (.int 1)] [.lst r,dk c,tt]=.ok (.pv (.tup [.int 1,.bl true])) [.lst r,dk c,tt]:=by
 simp only[mT,zM,wM,vY,wY,wX,wG,wT,yB,wV,vV,xK,xI,xM,wC];kernel_rfl
theorem U6(c:Cs):bB 8 (cV c) (cV c)=some true:=by
 cases c<;>kernel_rfl
theorem Y8(c:Cs)(a0 x3 x6 x7 x8:AJ)(r:AH):∃S,(aQ (bV (jO (aV (aE dG (bF eB [] (aD (aC 2) (aD (mC (.str "again")) aG))) (mN bU (aD (mC (.int 0)) (aD (mC (.str "done")) aG))))) (aV (aE dG (bF eB [] (aD (aC 2) (aD (mC (.str "shown a")) aG))) (mN bU (aD (mC (.int 0)) (aD (mC (.str "none")) aG)))))) (bC (mC (.bl false))) cE) (bC (aE cQ (bF eB [] (aD (aC 2) (aD (mC (.str "again")) aG))) (bF mT [] (aD (mC (.int 10)) aG))))) [a0,some (.ref 0),some (.ref 1),x3,some (.pv (cV c)),some (.ref 2),x6,x7,x8] [.lst r,dk c,tt]=.rt (.pv (.bl true)) ([.lst r,.dsk (S:PV×AH).1 S.2 [],tt]):=by
 refine⟨?p,?q⟩
 case p=>exact match c with
  |.a=>(.dct ["a"] [.tup []],[.dct [] []])
  |.b=>(.dct ["a","b","none"] [.tup [],hB,.tup []],[.dct [] [],.dct ["a"] [hA],.dct ["a","b"] [hA,hB],.dct ["a","b","none"] [hA,hB,.tup []]])
 case q=>
  simp only[eB,tW,oE,pU,uV,uT,sX,tE,kW,rW,sB,sC,sN,sO,tI,tJ,qB,uA,oO,uC,tL,tM,sJ,sL,pT,sT,oH,tH,sZ,tD,tN,tQ,uI,uH,sM,sG,uZ,uX,sK,sI,tV,tR,sV,sP,sW,sQ,sU,sS,rX,rZ,sH,sF,sD,sA,pS,sE,tG,tF,oF,pV,mU,pX,pQ,rT,mS,sR,pR,rY,oB,rS,mT,zM,wM,vY,wY,wX,wG,wT,yB,wV,vV,xK,xI,xM,wC];cases c<;>kernel_rfl
def WT:List (List Nat×Nat×Option (List Nat)):=[([98,111,116,104],3,none),
 ([99,111,117,110,116],1,some [49,47,52,32,49,47,52]),
 ([100,114,111,112],1,none),
 ([108,101,100],2,none),
 ([110,101,118,101,114],2,none),
 ([112,114,105,115,109],2,some [48,32,48,32,49]),
 ([112,117,115,104],2,some [49,32,49]),
 ([112,117,115,104,101,100],2,none),
 ([112,117,116],1,some [48,32,48,44,32,49,32,48,44,32,48,32,49]),
 ([112,121,114,97,109,105,100],2,some [48,32,48,32,49]),
 ([115,97,109,101],2,none),
 ([115,104,111,119,110],1,none),
 ([115,105,122,101],1,none),
 ([116,117,114,110],2,some [48,32,49]),
 ([119,97,108,107],1,some [48,32,48,44,32,49,32,48,44,32,48,32,49])]
theorem G6(c:Cs)(a0 x3 x6 x7 x8:AJ)(r:AH):(cX (xC (aD (Pa (aD (aC 5) aG)) aG))) [a0,some (.ref 0),some (.ref 1),x3,some (.pv (cV c)),some (.ref 2),x6,x7,x8] [.lst r,dk c,tt]=.ok (WT.map λe=>.str (tx e.1),[]) [.lst r,dk c,tt]:=by
 cases c<;>kernel_rfl
structure Ci(e:List Nat×Nat×Option (List Nat)):Prop where
 f1:tx e.1∈lU
 f2:iF lU pZ (tx e.1)=some (.tup [.int (e.2.1:Nat),.bl e.2.2.isSome])
 w:Wd e.1
 k:1<=e.2.1/\e.2.1<=3
 t:∀t,e.2.2=some t->(∀c∈t,c<128)/\t.length<=60
 d:iF TN TV (tx e.1)=some (.tup [.int (e.2.1:Nat),tO e.2.2])
theorem acC:∀e∈WT,Ci e:=by
 intro e he;unfold WT at he;simp only[bw,pw,or_false]at he;rcases he with rfl |rfl |rfl |rfl |rfl |rfl |rfl |rfl |rfl |rfl |rfl |rfl |rfl |rfl |rfl
 all_goals exact⟨by decide,by kernel_rfl,xQ (by decide) (by decide),by decide,λt h=>by cases h<;>decide,by kernel_rfl⟩
theorem R7(c:Cs){e:List Nat×Nat×Option (List Nat)}(h:Ci e)(ns:AA)(a0 x3 x7 x8:AJ):∃(ns':AA)(y3 y7 y8:AJ),(aQ (vH (gT 2 (fP (gN 7) (fP (gN 8) kF))) (uS (aC 5) (aC 6))) (aQ (aW 3 (bF wH [] (aD (aC 1) (aD (aC 6) (aD (aC 7) (aD (aC 8) aG)))))) (bV (jO (aV (aE dG (bF eB [] (aD (aC 2) (aD (aC 3) aG))) (bF mT [] (aD (mC (.int 1)) aG)))) (aV (aE dG (bF mW [] (aD (aC 2) aG)) (aC 4)))) (bC (mC (.bl false))) cE))) [a0,some (.ref 0),some (.ref 1),x3,some (.pv (cV c)),some (.ref 2),some (.pv (.str (tx e.1))),x7,x8] [.lst (li ns),dk c,tt]=.nx [a0,some (.ref 0),some (.ref 1),y3,some (.pv (cV c)),some (.ref 2),some (.pv (.str (tx e.1))),y7,y8] [.lst (li ns'),dk c,tt]:=by
 obtain⟨N,R,n1,e1,l1,ha,hl,bad⟩:=V7 (D:=dk c) (T:=tt) ns h.w h.k h.t;have er:=abw [.lst (li n1),dk c,tt] (w:=e.1) (N:=N) (R:=R) (b:=e.2.2.isSome) h.f1 (by rw[l1];exact h.f2) ha hl bad;have et:=Q9 (x:=.lst (li n1)) (y:=dk c) (R:=[tt]) rfl er;have lk:=Q2 c (n1.map .int);have rf:=O2 c (n1.map .int);have sm:=U6 c;have s1:bB 8 (.tup [.int 1,.bl true]) (.tup [.int 1,.bl true])=some true:=by kernel_rfl
 have g:uQ (.ref 2) [.lst (li ns),dk c,tt]=some (TN,TV):=rfl;have hd:=h.d;generalize cV c=V at *;generalize hk:dk c=D at *;generalize tx (bS 32 (e.1::(N++R)))=TL at *;generalize tO e.2.2=O at *;refine⟨n1,some (.pv (.str TL)),some (.pv (.int (e.2.1:Nat))),some (.pv O),?q⟩
 case q=>
  apply sq
  .simp! [uS,g,hd,vH,gT,fP,kF,gN];exact⟨rfl,rfl⟩
  apply sq
  .simp! [e1];exact⟨rfl,rfl⟩
  simp! [et,rf,s1,lk,sm]
theorem Ep(c:Cs)(a0:AJ):∀(L:List (List Nat×Nat×Option (List Nat))),(∀e∈L,Ci e)->∀(ns:AA)(x3 x6 x7 x8:AJ),∃(ns':AA)(y3 y6 y7 y8:AJ),fW [] (gN 6) (aQ (vH (gT 2 (fP (gN 7) (fP (gN 8) kF))) (uS (aC 5) (aC 6))) (aQ (aW 3 (bF wH [] (aD (aC 1) (aD (aC 6) (aD (aC 7) (aD (aC 8) aG)))))) (bV (jO (aV (aE dG (bF eB [] (aD (aC 2) (aD (aC 3) aG))) (bF mT [] (aD (mC (.int 1)) aG)))) (aV (aE dG (bF mW [] (aD (aC 2) aG)) (aC 4)))) (bC (mC (.bl false))) cE))) (L.map λe=>.str (tx e.1)) [a0,some (.ref 0),some (.ref 1),x3,some (.pv (cV c)),some (.ref 2),x6,x7,x8] [.lst (li ns),dk c,tt]=.nx [a0,some (.ref 0),some (.ref 1),y3,some (.pv (cV c)),some (.ref 2),y6,y7,y8] [.lst (li ns'),dk c,tt]
 |[],_,ns,x3,x6,x7,x8=>⟨ns,x3,x6,x7,x8,Xd⟩
 |e::L,h,ns,x3,x6,x7,x8=>by
  obtain⟨n1,y3,y7,y8,e1⟩:=R7 c (h e ce) ns a0 x3 x7 x8;obtain⟨n2,z3,z6,z7,z8,e2⟩:=Ep c a0 L (λu hu=>h u (cu _ hu)) n1 y3 (some (.pv (.str (tx e.1)))) y7 y8;refine⟨n2,z3,z6,z7,z8,?_⟩;rw[cn,zN];simp only[gN,List.set_cons_succ,List.set_cons_zero];rw[e1];exact e2
theorem F4(ns:AA)(a0:AJ):∃(c:Cs)(ns':AA)(x3:AJ),(bV (aV (aE cQ (bF gI [] (aD (aC 1) (aD (mC (.int 2)) aG))) (mC (.int 1)))) (hX (cX (mN bU (aD (mC (.str "put a 0 0, 1 0, 0 1")) (aD (mC (.str "put b 0 0 0, 1 0 0, 0 1 0, 0 0 1")) (aD (mC (.str "put none none")) aG))))) (gN 3) (bV (aV (aE dG (bF eB [] (aD (aC 2) (aD (aC 3) aG))) (mN bU (aD (mC (.int 0)) (aD (mC (.str "done")) aG))))) (bC (mC (.bl false))) cE)) cE) [a0,some (.ref 0),some (.ref 1),none,none,none,none,none,none] [.lst (li ns),.dsk (.dct [] []) [] []]=.nx [a0,some (.ref 0),some (.ref 1),x3,none,none,none,none,none] [.lst (li ns'),.dsk (cH c) (cP c) []]:=by
 obtain⟨v,n1,e1,h1⟩:=nN (R:=[.dsk (.dct [] []) [] []]) ns (m:=2) (by decide) (by decide)
 by_cases z:v=1
 .subst z
  refine⟨.b,n1,_,Eq.trans ?_ (P3 a0 (n1.map .int))⟩;generalize hF:(hX (cX (mN bU (aD (mC (.str "put a 0 0, 1 0, 0 1")) (aD (mC (.str "put b 0 0 0, 1 0 0, 0 1 0, 0 0 1")) (aD (mC (.str "put none none")) aG))))) (gN 3) (bV (aV (aE dG (bF eB [] (aD (aC 2) (aD (aC 3) aG))) (mN bU (aD (mC (.int 0)) (aD (mC (.str "done")) aG))))) (bC (mC (.bl false))) cE))=F;simp! [e1]
 .have z1:¬((v:Int)=1):=by omega
  refine⟨.a,n1,none,?_⟩;generalize hF:(hX (cX (mN bU (aD (mC (.str "put a 0 0, 1 0, 0 1")) (aD (mC (.str "put b 0 0 0, 1 0 0, 0 1 0, 0 0 1")) (aD (mC (.str "put none none")) aG))))) (gN 3) (bV (aV (aE dG (bF eB [] (aD (aC 2) (aD (aC 3) aG))) (mN bU (aD (mC (.int 0)) (aD (mC (.str "done")) aG))))) (bC (mC (.bl false))) cE))=F;simp! [e1,z,z1];exact⟨rfl,rfl⟩
theorem E4(ns:AA)(h:ns.length<=63):∃S,Yr [.pv (.lst (ns.map .int))] []=.ok (.pv (.bl true)) S:=by
 obtain⟨ms,e0,_⟩:=Y1 ns [] h;have e0:xG [.pv (.lst (ns.map .int))] []=.ok (.ref 0) [.lst (li ms)]:=e0;obtain⟨c,n1,x3,e1⟩:=F4 ms (some (.pv (.lst (ns.map .int))));obtain⟨n2,y3,y6,y7,y8,e2⟩:=Ep c (some (.pv (.lst (ns.map .int)))) WT acC n1 x3 none none none;obtain⟨Z,e3⟩:=Y8 c (some (.pv (.lst (ns.map .int)))) y3 y6 y7 y8 (n2.map .int);refine⟨_,xP (v:=.pv (.bl true)) (S':=[.lst (li n2),.dsk Z.1 Z.2 [],tt]) rfl ?_ rfl⟩;unfold Ng;apply sq
 .simp! [e0];exact⟨rfl,rfl⟩
 apply sq
 .simp! [xX];exact⟨rfl,rfl⟩
 refine sq e1 ?_;rw[aau];refine sq ?_ e3;rw[hX,G6];exact e2
theorem hF_k   {st:Stmt}{f:Addr}{oc:Value}{od an:AF}{osl:Array AE}{kV doc pm cdv ct:Value}(a:aw K mainGlobals x=some (some (.ref f)):=by k_is)(l:K.lookup f=some ⟨oc,od,.func (br x x (dU st) (cG st) (bD st) .none kV doc pm an cdv ct),osl⟩:=by k_is)(c:gh K cdv x=true:=by k_is)(k:bo K (.ref f)=true:=by k_is):HF K x st:=acs a l c k
theorem hD_k{K:aa}{D:Addr}(a:aw K mainGlobals "Desk"=some (some (.ref D)):=by k_is)(p:lv K D gu=true:=by first |k_is |kernel_rfl)(d:oj K D=true:=by first |k_is |kernel_rfl)(o:su K D=true:=by first |k_is |kernel_rfl)(t:di K (.ref D) "__setattr__"=some (some (.builtin "object.__setattr__")):=by first |k_is |kernel_rfl)(n0:di K (.ref D) "heaps"=some none:=by first |k_is |kernel_rfl)(n1:di K (.ref D) "past"=some none:=by first |k_is |kernel_rfl)(n2:di K (.ref D) "future"=some none:=by first |k_is |kernel_rfl)(m:lx K D=true:=by first |k_is |kernel_rfl)(k:bo K (.ref D)=true:=by first |k_is |kernel_rfl):Og K D:=⟨⟨a,⟨p,d,o,t⟩,n0,n1,n2⟩,m,k⟩
theorem hM_k{K:aa}{m q:Str}{st:Stmt}{D f:Addr}{oc:Value}{od an:AF}{osl:Array AE}{kV doc pm cdv ct:Value}(i:di K (.ref D) m=some (some (.ref f)):=by first |k_is |kernel_rfl)(n:km K (.ref f)=true:=by first |k_is |kernel_rfl)(l:K.lookup f=some ⟨oc,od,.func (br m q (dU st) (cG st) (bD st) .none kV doc pm an cdv ct),osl⟩:=by k_is)(c:gh K cdv q=true:=by first |k_is |kernel_rfl)(k:bo K (.ref f)=true:=by first |k_is |kernel_rfl):HM K m q st D:=ace i n l c k
theorem all_mk{l:kz}{w:ah}{K:aa}{h:Heap}{mg:Str->AE}{fa:Addr}(X:K.In h)(G:h.Ns mainGlobals mg)(hfa:mg "law"=some (.ref fa))
  (h217:HF K "_law_row" Yq)
  (h218:HF K "_law_take" Vp)
  (h213:HF K "is_name" Nm)
  (h214:HF K "read_row" Qk)
  (h162:HF K "shown_rows" Ij)
  (h21:HF K "sign" Dq)
  (h22:HF K "divisor" Cm)
  (h34:HF K "measures" Pk)
  (h158:HF K "shown_whole" Ti)
  (h159:HF K "shown_number" Si)
  (h160:HF K "shown_point" Vi)
  (h161:HF K "shown_simplex" Hi)
  (h163:HF K "shown_heap" Fj)
  (h200:HF K "tell_shown" Mj)
  (h170:HF K "read_rows" Uj)
  (h164:HF K "refuse_unless" Ji)
  (h165:HF K "read_whole" Oj)
  (h166:HF K "read_number" Dj)
  (h23:HF K "reduced" Xk)
  (h35:HF K "point_at" Vk)
  (h167:HF K "read_point" Kj)
  (h168:HF K "read_corners" Oi)
  (h39:HF K "whole_arrow" Yi)
  (h40:HF K "dot" Ms)
  (h41:HF K "normal" Um)
  (h42:HF K "determinant" Cj)
  (h43:HF K "side" Pq)
  (h47:HF K "simplex" Hl)
  (h171:HF K "read_heap" Xj)
  (h191:HF K "put" Vs)
  (h219:HF K "_law_tell" Mp)
  (h224:HF K "_law_looks" Pn)
  (h222:HF K "_law_texts" An)
  (h221:HF K "_law_bad_name" Pj)
  (h223:HF K "_law_line" Jp)
  (h220:HF K "_law_refusal" Jk)
  {WDesk:Addr}(hcDesk:Og K WDesk)
  (hmDesk_init:HM K "__init__" "Desk.__init__" Wj WDesk)
  (hmDesk_tell:HM K "tell" "Desk.tell" Rj WDesk)
  (hmDesk_found:HM K "found" "Desk.found" Jj WDesk)
  (hmDesk_let_stand:HM K "let_stand" "Desk.let_stand" Fi WDesk)
  (hmDesk_take_back:HM K "take_back" "Desk.take_back" Di WDesk)
  (hmDesk_do_again:HM K "do_again" "Desk.do_again" Gi WDesk)
  {f25:Addr}{od25 an25:AF}{sl25:Array AE}{oc25 kV25 dc25 pm25 cd25 ct25:Value}
  {T25:Addr}{tc25:Value}{td25:AF}{tl25:Array AE}{tn25:Nat}{tt25:bg}
  (a25:aw K mainGlobals "fraction"=some (some (.ref f25)))(l25:K.lookup f25=some ⟨oc25,od25,.func (br "fraction" "fraction" (dU vU) (cG vU) (bD vU) (.ref T25) kV25 dc25 pm25 an25 cd25 ct25),sl25⟩)(c25:gh K cd25 "fraction"=true)(k25:bo K (.ref f25)=true)
  (t25:K.lookup T25=some ⟨tc25,td25,.seq #[.int 1 tt25] tn25,tl25⟩)
  {f33:Addr}{od33 an33:AF}{sl33:Array AE}{oc33 kV33 dc33 pm33 cd33 ct33:Value}
  {T33:Addr}{tc33:Value}{td33:AF}{tl33:Array AE}{tn33:Nat}{tt33:bg}
  (a33:aw K mainGlobals "point"=some (some (.ref f33)))(l33:K.lookup f33=some ⟨oc33,od33,.func (br "point" "point" (dU wF) (cG wF) (bD wF) (.ref T33) kV33 dc33 pm33 an33 cd33 ct33),sl33⟩)(c33:gh K cd33 "point"=true)(k33:bo K (.ref f33)=true)
  (t33:K.lookup T33=some ⟨tc33,td33,.seq #[.int 1 tt33] tn33,tl33⟩)
  {f225:Addr}{od225 an225:AF}{sl225:Array AE}{oc225 kV225 dc225 pm225 cd225 ct225:Value}
  (a225:aw K mainGlobals "law"=some (some (.ref f225)))(l225:K.lookup f225=some ⟨oc225,od225,.func (br "law" "law" (dU oV) (cG oV) (bD oV) .none kV225 dc225 pm225 an225 cd225 ct225),sl225⟩)(c225:gh K cd225 "law"=true)(k225:bo K (.ref f225)=true)
  (z1:aw K mainGlobals "abs"=some none)
  (z2:aw K mainGlobals "all"=some none)
  (z3:aw K mainGlobals "dict"=some none)
  (z4:aw K mainGlobals "enumerate"=some none)
  (z5:aw K mainGlobals "int"=some none)
  (z6:aw K mainGlobals "isinstance"=some none)
  (z7:aw K mainGlobals "len"=some none)
  (z8:aw K mainGlobals "list"=some none)
  (z9:aw K mainGlobals "range"=some none)
  (z10:aw K mainGlobals "sorted"=some none)
  (z11:aw K mainGlobals "str"=some none)
  (z12:aw K mainGlobals "sum"=some none)
  (z13:aw K mainGlobals "tuple"=some none)
  (z14:aw K mainGlobals "zip"=some none)
  {C1 C2 C3 C4 C5 C6 C7 C8 C9 C10 C11 C12:Addr}
  (y1:aw K mainGlobals "Backward"=some (some (.ref C1)))
  (y2:aw K mainGlobals "Flat"=some (some (.ref C2)))(x2:bi K C2 dC "ValueError.__new__"=true)
  (y3:aw K mainGlobals "NoAgain"=some (some (.ref C3)))(x3:bi K C3 dC "ValueError.__new__"=true)
  (y4:aw K mainGlobals "NoName"=some (some (.ref C4)))(x4:bi K C4 dC "ValueError.__new__"=true)
  (y5:aw K mainGlobals "NoNumber"=some (some (.ref C5)))(x5:bi K C5 dC "ValueError.__new__"=true)
  (y6:aw K mainGlobals "NoPoint"=some (some (.ref C6)))(x6:bi K C6 dC "ValueError.__new__"=true)
  (y7:aw K mainGlobals "NoRow"=some (some (.ref C7)))(x7:bi K C7 dC "ValueError.__new__"=true)
  (y8:aw K mainGlobals "NoText"=some (some (.ref C8)))(x8:bi K C8 dC "ValueError.__new__"=true)
  (y9:aw K mainGlobals "NoUndo"=some (some (.ref C9)))(x9:bi K C9 dC "ValueError.__new__"=true)
  (y10:aw K mainGlobals "OnSide"=some (some (.ref C10)))
  (y11:aw K mainGlobals "OtherKind"=some (some (.ref C11)))
  (y12:aw K mainGlobals "TooGreat"=some (some (.ref C12)))(x12:bi K C12 dC "ValueError.__new__"=true)
  {gk1:bg}
  {gk2:bg}
  {gk3:bg}
  {gk4:bg}
  {gk5:bg}
  (v1:aw K mainGlobals "FIGURES"=some (some (.str "0123456789" gk1)))
  (v2:aw K mainGlobals "LETTERS"=some (some (.str "abcdefghijklmnopqrstuvwxyz" gk2)))
  (v3:aw K mainGlobals "LONGEST_NAME"=some (some (.int 12 gk3)))
  (v4:aw K mainGlobals "MOST_FIGURES"=some (some (.int 60 gk4)))
  (v5:aw K mainGlobals "NOTHING"=some (some (.str "none" gk5)))
  {AFORMS:Addr}{nFORMS:Nat}{tFORMS0 tFORMS1 tFORMS2 tFORMS3 tFORMS4 tFORMS5 tFORMS6 tFORMS7 tFORMS8 tFORMS9 tFORMS10 tFORMS11 tFORMS12 tFORMS13 tFORMS14 tFORMS15 tFORMS16 tFORMS17:bg}{uFORMS0 uFORMS1 uFORMS2 uFORMS3 uFORMS4 uFORMS5 uFORMS6 uFORMS7 uFORMS8 uFORMS9 uFORMS10 uFORMS11 uFORMS12 uFORMS13 uFORMS14 uFORMS15 uFORMS16 uFORMS17:Value}
  (gyFORMS:aw K mainGlobals "FORMS"=some (some (.ref AFORMS)))(glFORMS:K.lookup AFORMS=some ⟨.type "dict",none,.dict (yX w lU [tFORMS0,tFORMS1,tFORMS2,tFORMS3,tFORMS4,tFORMS5,tFORMS6,tFORMS7,tFORMS8,tFORMS9,tFORMS10,tFORMS11,tFORMS12,tFORMS13,tFORMS14,tFORMS15,tFORMS16,tFORMS17] [uFORMS0,uFORMS1,uFORMS2,uFORMS3,uFORMS4,uFORMS5,uFORMS6,uFORMS7,uFORMS8,uFORMS9,uFORMS10,uFORMS11,uFORMS12,uFORMS13,uFORMS14,uFORMS15,uFORMS16,uFORMS17]).toArray nFORMS,#[]⟩)(gsFORMS:(AFORMS==sysModules)=false)(gcFORMS:yL K pZ [uFORMS0,uFORMS1,uFORMS2,uFORMS3,uFORMS4,uFORMS5,uFORMS6,uFORMS7,uFORMS8,uFORMS9,uFORMS10,uFORMS11,uFORMS12,uFORMS13,uFORMS14,uFORMS15,uFORMS16,uFORMS17]=true)
  {ADEEDS:Addr}{nDEEDS:Nat}{tDEEDS0 tDEEDS1 tDEEDS2 tDEEDS3 tDEEDS4 tDEEDS5 tDEEDS6:bg}{uDEEDS0 uDEEDS1 uDEEDS2 uDEEDS3 uDEEDS4 uDEEDS5 uDEEDS6:Value}
  (gyDEEDS:aw K mainGlobals "DEEDS"=some (some (.ref ADEEDS)))(glDEEDS:K.lookup ADEEDS=some ⟨.type "dict",none,.dict (yX w Ff [tDEEDS0,tDEEDS1,tDEEDS2,tDEEDS3,tDEEDS4,tDEEDS5,tDEEDS6] [uDEEDS0,uDEEDS1,uDEEDS2,uDEEDS3,uDEEDS4,uDEEDS5,uDEEDS6]).toArray nDEEDS,#[]⟩)(gsDEEDS:(ADEEDS==sysModules)=false)(gcDEEDS:Vb K Pf [uDEEDS0,uDEEDS1,uDEEDS2,uDEEDS3,uDEEDS4,uDEEDS5,uDEEDS6]=true)
  {AQUESTIONS:Addr}{nQUESTIONS:Nat}{tQUESTIONS0 tQUESTIONS1 tQUESTIONS2 tQUESTIONS3 tQUESTIONS4 tQUESTIONS5 tQUESTIONS6:bg}{uQUESTIONS0 uQUESTIONS1 uQUESTIONS2 uQUESTIONS3 uQUESTIONS4 uQUESTIONS5 uQUESTIONS6:Value}
  (gyQUESTIONS:aw K mainGlobals "QUESTIONS"=some (some (.ref AQUESTIONS)))(glQUESTIONS:K.lookup AQUESTIONS=some ⟨.type "dict",none,.dict (yX w zH [tQUESTIONS0,tQUESTIONS1,tQUESTIONS2,tQUESTIONS3,tQUESTIONS4,tQUESTIONS5,tQUESTIONS6] [uQUESTIONS0,uQUESTIONS1,uQUESTIONS2,uQUESTIONS3,uQUESTIONS4,uQUESTIONS5,uQUESTIONS6]).toArray nQUESTIONS,#[]⟩)(gsQUESTIONS:(AQUESTIONS==sysModules)=false)(gcQUESTIONS:Vb K Ed [uQUESTIONS0,uQUESTIONS1,uQUESTIONS2,uQUESTIONS3,uQUESTIONS4,uQUESTIONS5,uQUESTIONS6]=true)
  (xnb:Bi K [("NoRow",C7),("NoName",C4),("NoText",C8),("Flat",C2),("OtherKind",C11),("OnSide",C10),("Backward",C1),("TooGreat",C12),("NoUndo",C9),("NoAgain",C3)]=true)
  :∃fd:ay,(∀(s:Shared)(v:Value),kq s fd ⟨[v],[]⟩ [("_law_script",v)])/\∀base:Heap,K.In base->base.Ns mainGlobals mg->bQ l.prog w K mg base dS 12 fa fd ["_law_script"] (Hb K):=by
 let cl:Str->Addr:=λn=>if n="Backward" then C1 else if n="Flat" then C2 else if n="NoAgain" then C3 else if n="NoName" then C4 else if n="NoNumber" then C5 else if n="NoPoint" then C6 else if n="NoRow" then C7 else if n="NoText" then C8 else if n="NoUndo" then C9 else if n="OnSide" then C10 else if n="OtherKind" then C11 else if n="TooGreat" then C12 else 0
 have e:=hfa.symm.trans (cc X G a225);cases e;have F25:=Jo (st:=vU) l25 c25 k25 t25 rfl;have b25:=F25.binds (ps:=["top","bottom"]) (dd:=[]) λ_ _ _ _ _ _ _ us hl=>match us,hl with |[_,_],_=>⟨_,rfl,rfl⟩
 have n25:=cc X G a25;have F33:=Jo (st:=wF) l33 c33 k33 t33 rfl;have b33:=F33.binds (ps:=["numbers","bottom"]) (dd:=[]) λ_ _ _ _ _ _ _ us hl=>match us,hl with |[_,_],_=>⟨_,rfl,rfl⟩
 have n33:=cc X G a33;have F225:=Wf (st:=oV) l225 c225 k225;have m:Mg mg:=⟨fy X G z1,fy X G z2,fy X G z3,fy X G z4,fy X G z5,fy X G z6,fy X G z7,fy X G z8,fy X G z9,fy X G z10,fy X G z11,fy X G z12,fy X G z13,fy X G z14⟩;have gt_FIGURES:kQ K mg "FIGURES" (.str "0123456789"):=⟨_,.str "0123456789",cc X G v1,⟨_,rfl⟩,Ve⟩;have gt_LETTERS:kQ K mg "LETTERS" (.str "abcdefghijklmnopqrstuvwxyz"):=⟨_,.str "abcdefghijklmnopqrstuvwxyz",cc X G v2,⟨_,rfl⟩,Ve⟩;have gt_LONGEST_NAME:kQ K mg "LONGEST_NAME" (.int 12):=⟨_,.int 12,cc X G v3,⟨_,rfl⟩,Yo⟩;have gt_MOST_FIGURES:kQ K mg "MOST_FIGURES" (.int 60):=⟨_,.int 60,cc X G v4,⟨_,rfl⟩,Yo⟩;have gt_NOTHING:kQ K mg "NOTHING" (.str "none"):=⟨_,.str "none",cc X G v5,⟨_,rfl⟩,Ve⟩;refine⟨br "law" "law" (dU oV) (cG oV) (bD oV) .none kV225 dc225 pm225 an225 cd225 ct225,λs v=>.of_eq rfl,λbase _ _=>?_⟩
 let B:Bx:=⟨l.prog,w,K,mg,base,cl⟩
 have Xg:XG B.K B.mg:=⟨h,X,G⟩;have m:Mg B.mg:=m;have q_Backward:B.mg "Backward"=some (.ref (B.cl "Backward")):=cc X G y1;have q_Flat:B.mg "Flat"=some (.ref (B.cl "Flat")):=cc X G y2;have x_Flat:bi B.K (B.cl "Flat") dC "ValueError.__new__"=true:=x2;have q_NoAgain:B.mg "NoAgain"=some (.ref (B.cl "NoAgain")):=cc X G y3;have x_NoAgain:bi B.K (B.cl "NoAgain") dC "ValueError.__new__"=true:=x3;have q_NoName:B.mg "NoName"=some (.ref (B.cl "NoName")):=cc X G y4;have x_NoName:bi B.K (B.cl "NoName") dC "ValueError.__new__"=true:=x4;have q_NoNumber:B.mg "NoNumber"=some (.ref (B.cl "NoNumber")):=cc X G y5;have x_NoNumber:bi B.K (B.cl "NoNumber") dC "ValueError.__new__"=true:=x5;have q_NoPoint:B.mg "NoPoint"=some (.ref (B.cl "NoPoint")):=cc X G y6;have x_NoPoint:bi B.K (B.cl "NoPoint") dC "ValueError.__new__"=true:=x6;have q_NoRow:B.mg "NoRow"=some (.ref (B.cl "NoRow")):=cc X G y7;have x_NoRow:bi B.K (B.cl "NoRow") dC "ValueError.__new__"=true:=x7;have q_NoText:B.mg "NoText"=some (.ref (B.cl "NoText")):=cc X G y8;have x_NoText:bi B.K (B.cl "NoText") dC "ValueError.__new__"=true:=x8;have q_NoUndo:B.mg "NoUndo"=some (.ref (B.cl "NoUndo")):=cc X G y9;have x_NoUndo:bi B.K (B.cl "NoUndo") dC "ValueError.__new__"=true:=x9;have q_OnSide:B.mg "OnSide"=some (.ref (B.cl "OnSide")):=cc X G y10;have q_OtherKind:B.mg "OtherKind"=some (.ref (B.cl "OtherKind")):=cc X G y11;have q_TooGreat:B.mg "TooGreat"=some (.ref (B.cl "TooGreat")):=cc X G y12;have x_TooGreat:bi B.K (B.cl "TooGreat") dC "ValueError.__new__"=true:=x12;have DD:iK B WDesk:=abn (B:=B) X G hcDesk;have gd_FORMS:zB B "FORMS" lU pZ:=aaI (B:=B) (Ag (cc X G gyFORMS) glFORMS gsFORMS rfl rfl (by decide)) gcFORMS;have gd_DEEDS:rP B "DEEDS" Ff Pf:=Aq (B:=B) X G (Ag (cc X G gyDEEDS) glDEEDS gsDEEDS rfl rfl (by decide)) rfl gcDEEDS;have gd_QUESTIONS:rP B "QUESTIONS" zH Ed:=Aq (B:=B) X G (Ag (cc X G gyQUESTIONS) glQUESTIONS gsQUESTIONS rfl rfl (by decide)) rfl gcQUESTIONS;have XN:pO B.K B.cl ["NoRow","NoName","NoText","Flat","OtherKind","OnSide","Backward","TooGreat","NoUndo","NoAgain"]:=ach xnb ⟨rfl,rfl,rfl,rfl,rfl,rfl,rfl,rfl,rfl,rfl,trivial⟩ (show ∀c∈(["NoRow","NoName","NoText","Flat","OtherKind","OnSide","Backward","TooGreat","NoUndo","NoAgain"]:List Str),(c==("__debug__":Str))=false by decide);have C217:=X8 Xg m h217;have C218:=F9 Xg m h218;have C213:=Xx Xg m h213 gt_LETTERS gt_LONGEST_NAME;have H214:=Dx Xg m gd_FORMS h214 C213 q_NoRow x_NoRow;have C162:=Dw Xg m h162 gt_NOTHING;have C21:=W7 Xg m h21;have C22:=Ay Xg m h22;have G25:=Jx Xg m F25 C21 C22 q_NoNumber x_NoNumber;have H25:Jd B:=Bh G25 b25 k25 n25;have C34:=Ix Xg m h34 H25;have H158:=Vv Xg m h158 q_TooGreat x_TooGreat;have H159:=Sv Xg m h159 H158;have H160:=Wv Xg m h160 C34 H159;have H161:=Ov Xg m h161 H160;have H163:=Iw Xg m h163 C162 H161;have H200:=Hw Xg m h200 H163;have C170:=Tw Xg m h170 gt_NOTHING;have H164:=Mv Xg m h164 q_NoText x_NoText;have H165:=Ew Xg m h165 H164 gt_FIGURES gt_MOST_FIGURES;have H166:=Xv Xg m h166 H164 H165 H25;have C23:=Ry Xg m h23 C22;have G33:=M0 Xg m F33 C23 C21 q_NoPoint x_NoPoint;have H33:Kn B:=Bh G33 b33 k33 n33;have C35:=Fx Xg m h35 H33;have H167:=Gw Xg m h167 H166 H164 C35;have H168:=Tv Xg m h168 H167 H164;have C39:=Aw Xg m h39;have C40:=aan Xg m h40;have C41:=Sz Xg m h41;have C42:=Zv Xg m h42 C39 C40 C41;have C43:=V3 Xg m h43 C21 C42;have H47:=Gy Xg m h47 C43 q_Flat x_Flat;have H171:=Rw Xg m h171 C170 H168 H164 H47;have H191:=Z7 Xg m h191 H171;have M215002:=Bw Xg m DD  hmDesk_found q_NoName x_NoName;have M215004:=Jv Xg m DD  hmDesk_take_back q_NoUndo x_NoUndo;have M215005:=Lv Xg m DD  hmDesk_do_again q_NoAgain x_NoAgain;have M215003:=Kv Xg m DD  hmDesk_let_stand;have M215001:=Sw Xg m DD M215002 M215004 M215005 M215003 gd_DEEDS gd_QUESTIONS  hmDesk_tell H214 H200 H191;have C219:=O1 Xg m DD M215001 XN h219 q_Backward q_Flat q_NoAgain q_NoName q_NoRow q_NoText q_NoUndo q_OnSide q_OtherKind q_TooGreat;have C224:=A2 Xg m h224 C219;have C222:=Uz Xg m h222;have C221:=Qw Xg m h221 C218;have C223:=N9 Xg m h223 C218 C221;have C220:=Kx Xg m h220;have M215000:=Vw Xg m DD  hmDesk_init;exact(aaw Xg m DD M215000 F225 C217 C218 C219 C224 C222 C223 C220).imp λvs H Q E h=>X1 E4 h
theorem walk{l:kz}{q:Program}{loose:List Str}{XP:(Str->AE)->Heap->Prop}{YP:ah->Heap->Prop}{d:DefRec}{K:jo->aa}(hn:l.most=some 63)(hdf:d.params.defaults=[])
  (hY:∀(w:ah)(h:Heap),YP w h->(K w.params).In h)
  (hSe:∀(w:ah)(h:Heap)(mg mb:Str->AE),YP w h->h.Ns mainGlobals mg->h.Ns builtinsNs mb->(∀x:Str,x≠"__name__"->mb x=bootBuiltins x)->h.NoSeer)(hTr:l.prog.given.tree=none)
  (F:∀(w:ah)(mg:Str->AE)(fa:Addr)(h:Heap),(K w.params).In h->h.Ns mainGlobals mg->mg d.name=some (.ref fa)->
   ∃fd:ay,(∀(s:Shared)(u:Value),kq s fd ⟨[u],[]⟩ [("_law_script",u)])/\∀base:Heap,(K w.params).In base->base.Ns mainGlobals mg->bQ l.prog w (K w.params) mg base dS 12 fa fd ["_law_script"] (Hb (K w.params))):
  PySem.W.WalkO q loose XP YP l.row.toRowW d [] (λf vs=>ul f vs):=
 L2.walk_of (n:=63) (k:=12) (x:="_law_script") (CX:=λ_=>dS) (sp:=λw=>Hb (K w.params)) hn (by decide) hdf ⟨rfl,by decide,by decide⟩ hY hSe hTr F (λ_ _ a ns hl _ hS=>⟨a,ns,rfl,hS,hl,λ_=>rfl⟩) λ_ _ _ _ _ z=>z
theorem seerK:∀P,L2.seerB (KK P)=true:=λ_=>by kernel_rfl
end
end Sc
open PySem PySem.W PyProof.Rows
set_option maxRecDepth 100000 in
set_option maxHeartbeats 0 in
theorem PySem.Challenge.cw_scissorhall_k87_desk_names_that_are_none_holds : PySem.Challenge.rw_scissorhall_k87_desk_names_that_are_none.Holds := by
 w_on; refine holds_law Sc.wsaid λsaid=>?_
 refine holds_open (q:=Sc.VW) (loose:=Sc.LO) (Xt:=λs=>xlAt Sc.VW [] s && recOk (rm (rn (rq fv))) s) (XP:=XL Sc.VW []) (Yf:=qz (kHook Sc.KK Sc.KA Sc.KE)) (Ya:=re (kHook Sc.KK Sc.KA Sc.KE)) (YP:=Hook.says (kHook Sc.KK Sc.KA Sc.KE)) (N:=22860) Sc.left (Hook.of (kHook Sc.KK Sc.KA Sc.KE)) (Hook.keeps (kHook Sc.KK Sc.KA Sc.KE)) (λs e=>xl_of s (e8.mp e).1) XL.keeps (by rfl) (by rfl) (by rfl) (λs e=>recFacts_of (e8.mp e).2) (by rfl) (by first | assumption | decide +kernel) (by decide +kernel) ⟨rfl,rfl,rfl,rfl,rfl,Sc.wtb⟩ ?hw ?hc
 case hw=>w_witness2
 k_fill
 refine Sc.walk (l:=fv) rfl rfl (λw h Y=>f6 Y) (λw h mg mb Y G B hb=>L2.seer_of (Sc.seerK w.params) (f6 Y) G B hb) rfl ?F
 case F =>
  intro w mg fa h KX G hmg;refine' Sc.all_mk KX G hmg Sc.hF_k Sc.hF_k Sc.hF_k Sc.hF_k Sc.hF_k Sc.hF_k Sc.hF_k Sc.hF_k Sc.hF_k Sc.hF_k Sc.hF_k Sc.hF_k Sc.hF_k Sc.hF_k Sc.hF_k Sc.hF_k Sc.hF_k Sc.hF_k Sc.hF_k Sc.hF_k Sc.hF_k Sc.hF_k Sc.hF_k Sc.hF_k Sc.hF_k Sc.hF_k Sc.hF_k Sc.hF_k Sc.hF_k Sc.hF_k Sc.hF_k Sc.hF_k Sc.hF_k Sc.hF_k Sc.hF_k Sc.hF_k Sc.hD_k Sc.hM_k Sc.hM_k Sc.hM_k Sc.hM_k Sc.hM_k Sc.hM_k ?a25 ?l25 ?c25 ?k25 ?t25 ?a33 ?l33 ?c33 ?k33 ?t33 ?a225 ?l225 ?c225 ?k225 ?z1 ?z2 ?z3 ?z4 ?z5 ?z6 ?z7 ?z8 ?z9 ?z10 ?z11 ?z12 ?z13 ?z14 ?y1 ?y2 ?x2 ?y3 ?x3 ?y4 ?x4 ?y5 ?x5 ?y6 ?x6 ?y7 ?x7 ?y8 ?x8 ?y9 ?x9 ?y10 ?y11 ?y12 ?x12 ?v1 ?v2 ?v3 ?v4 ?v5 ?gyFORMS ?glFORMS ?gsFORMS ?gcFORMS ?gyDEEDS ?glDEEDS ?gsDEEDS ?gcDEEDS ?gyQUESTIONS ?glQUESTIONS ?gsQUESTIONS ?gcQUESTIONS ?xnb
  (case a25 | l25 | c25 | k25 | t25 | a33 | l33 | c33 | k33 | t33 | a225 | l225 | c225 | k225 | z1 | z2 | z3 | z4 | z5 | z6 | z7 | z8 | z9 | z10 | z11 | z12 | z13 | z14 | y1 | y2=>k_is)
  (case x2=>k_exc)
  (case y3=>k_is)
  (case x3=>k_exc)
  (case y4=>k_is)
  (case x4=>k_exc)
  (case y5=>k_is)
  (case x5=>k_exc)
  (case y6=>k_is)
  (case x6=>k_exc)
  (case y7=>k_is)
  (case x7=>k_exc)
  (case y8=>k_is)
  (case x8=>k_exc)
  (case y9=>k_is)
  (case x9=>k_exc)
  (case y10 | y11 | y12=>k_is)
  (case x12=>k_exc)
  (case v1 | v2 | v3 | v4 | v5 | gyFORMS | glFORMS=>k_is)
  (case gsFORMS | gcFORMS=>kernel_rfl)
  (case gyDEEDS | glDEEDS=>k_is)
  (case gsDEEDS | gcDEEDS=>kernel_rfl)
  (case gyQUESTIONS | glQUESTIONS=>k_is)
  (case gsQUESTIONS | gcQUESTIONS | xnb=>kernel_rfl)
#print axioms PySem.Challenge.cw_scissorhall_k87_desk_names_that_are_none_holds
