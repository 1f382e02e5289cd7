import PyProof.Rows.All
import Wide.All
import OpenK.AllK
import Wide.FinOn
import Lean
import PyProof.EqAt
import PyProof.EqKinds
import PyProof.TupleCall
import PyProof.NeKinds
import PyProof.Rows.SortStr
import PyProof.Rows.SortWalk
import KE.KDictOf
import PyProof.AttrMissSeq
import KE.KDictSum
import PyProof.ListMulRoad
import PyProof.FactsAll.tuple_2
import OpenK.KRaise
import PyProof.ExcClass3
import PyProof.StationsW
import PyProof.PassesOwn
import PyProof.ExcBaseAll.ValueError
import OpenK.KOwn
import KE.KDictLaws
import PyProof.DictFindH
import PyProof.DictRoadsH
import PyProof.Rows.TupDisplay
import PyProof.DictWalks
import PySem.Challenge.RW_reelhall_k07_whole_what_is_done_is_a_way
set_option Elab.async false
set_option linter.all false
set_option maxRecDepth 100000
set_option maxHeartbeats 8000000
open Sum.inl renaming inj->oH
open Sum renaming inl->aC,inr->ID
open PySem.Within renaming cons->Bo
open PySem.W.Looks renaming here->v6
open PySem.W renaming mg_of->LA,keepIn->iB,mg_none_of->GB,findIn->KB,hideAll->OB,emptyDict->pC,isFn->FC,instObj->XC,hideAll_none->bD,hideAll_get->jD,fnOf->wD,kia_one->nE,plainGet->aF,codeIn->OF,of_hideAll->PF,hasDictIn->cG,methodObj->dG,funFrames_hide->QG,methodCall_KW->YG,lookIn->nH,plainGet_of->GH,callWith_K->fI,nsIn->EI,plainOver->FI,OpenLaw->rJ,makesIn->sJ,takerIn->tJ,WalkO->JK,excIn->LK,cellsFrom_some->FL,handedIn->mO
open PySem.Value renaming ref->pB,none->AD,bool->jF,int->OH,str->uJ,type->nO,isStrOf->JT,bytes->IX,float->JX,isInt->LX
open PySem.Str.mk renaming injEq->IT
open PySem.Str renaming ofString->fA,length->mD,empty->pI,append->GL
open PySem.Obj renaming mapFields->DE,data_mapFields->jG,mapSeq->mH,isFreed_of_fields->PN,data_mapDictKeys->lO
open PySem.Heap.UpToSlots renaming of_keeps->wX,refl->xX
open PySem.Heap.SameBut renaming update->QD
open PySem.Heap.IsSliceOf renaming new->vX
open PySem.Heap.DictOf renaming new->GM
open PySem.Heap renaming get?_push_of_some->sA,lt_size->EA,get?_push_size->KA,SameBut->RE,get?_update_other->UE,get?_update_self->iF,size_push->bG,FlyingW->dH,StaysIn->HM
open PySem.F renaming plainAttrs_list->IB,slot_dict_setdefault->fC,args_dict_setdefault_3->lD,entry_dict_setdefault->sD,slot_dict_valueiterator_next->xD,slot_list_append->lE,type_list_append->mE,plainAttrs_dict->vE,slot_list_pop->WE,type_list_pop->XE,args_tuple_add_2->lG,entry_tuple_add->xG,slot_tuple_add->OG,slot_dict_get->XG,type_dict_setdefault->pJ,args_dict_valueiterator_next_1->TJ,entry_dict_valueiterator_next->fK,slot_dict_values->GK,slot_list_extend->HK,type_list_extend->IK,args_dict_get_3->kL,entry_dict_get->EL,slot_dict_values_iter->LN,args_list_extend_2->cQ,entry_list_extend->OQ,slot_list_extend->TR,entry_list_pop->SV,slot_list_pop->uX
open PySem.Expr renaming Constant->AF
open PySem.Challenge renaming rw_reelhall_k07_whole_what_is_done_is_a_way->YV
open PySem.Calls renaming callWith_builtin->VG,evalArgs_plain->FH,Constant_str->CI,spliced_cons->DI,Name_function_global->CK,spliced_nil->bP
open PySem.Builtin.Tuple renaming tupleExact->XD,tupleItemsOf->BI,tupleIsExact->Z5
open PySem.Builtin.Str renaming strSliceIndices->IC
open PySem.Builtin.Slice renaming slicePlaces->JD,sliceAdjust->xF,sliceApplied->AI,sliceFields->X5,slicePartIndex->Y5
open PySem.Builtin.Range renaming rangeSize->W5
open PySem.Builtin.List renaming listTooLong->SC
open PySem.Builtin.Dict_items renaming ownsTuple->BC,dictOf->MQ,newIterator->NQ
open PySem.Builtin.Dict renaming updateFrom->jJ,pairItems->BJ,addKeywords->Bg,keyAndDefault->Bh,noArgs->Bi,selfAndRest->Bj,showsAll->Bk
open PySem renaming boot_len->nB,bootBuiltins->HB,foldedSetIterable->jC,mem_of_lookup->wC,mainGlobals->LC,swapsWith->gF,Scope->BF,call_meetsIn->CF,attributeBase->TF,codeAny->UF,call_meets->gI,closureFor->iI,seqIndex?->eJ,swappedStores->JJ,swapsWithSole->KJ,Keyword->EK,call->MK,callerA->NK,concat_meets->OK,noFill_tuple_add->HL,Within->pM,BindsTo->EM,typeLookup->nN,eval_ListComp->oO,seq_tuple_add->pO,Result->kQ,compPost->ZR,storedH_new->aS,KeyKind->GT,passOn->ZV,builtinsNs->aW,pairTrees_nil_walk->bW,wpAny_Name->cW,Value->GX,wpAny_pyIter_enum->MX,wpAny_pyIter_list->NX,wpAny_Dict_empty->x6,codeAny_builtin->Bp,size_of_entries->Bq,wpAny_looks_onW->Br,DefRec->Tn,GenState->To,recursionLimit->Tp
open PyProof.Rows renaming AllBare->vG,IntsAre->DK,IsTup->cP,subscriptTail_builtinR->lQ,StrsAre->HX
open Option.some renaming inj->wB,injEq->sE
open Option renaming bind_eq_some_iff->aA,map_eq_some_iff->bA,bind_some->cA,map_some->uA,map->uE,bind->kG,isSome_map->MI,getD_none->cJ,getD_some->dJ,isSome_some->QN,map_none->jQ,none->WV
open Nat renaming le_refl->wA,lt_of_lt_of_le->DA,le_trans->QA,ne_of_lt->VA,zero_le->nC,lt_irrefl->HC,le_of_ble_eq_true->WC,le_succ->GD,lt_succ_self->WG,ne_of_gt->lH,lt_of_le_of_lt->WI,le_of_eq->lJ,le_of_lt->mJ,lt_trans->nJ,zero_add->oJ,min_eq_left->FK,add_le_add->DL,max_le->iQ,succ_le_succ->YR,ble->k6,sub_zero->o6
open List.cons renaming injEq->uC
open List.Sublist renaming map->Bm,refl->Bn
open List.Perm renaming refl->xE,swap->gO
open List.Pairwise renaming imp->i6,nil->j6
open List renaming mem_cons_of_mem->dA,map_cons->eA,mem_singleton->gA,length_cons->iA,replicate->jA,length_map->kA,mem_cons_self->lA,mem_cons->nA,mem_append->oA,size_toArray->pA,length_append->rA,find?_cons->vA,mem_of_getElem?->xA,getElem?_eq_some_iff->BA,map_append->GA,length_singleton->HA,mem_append_right->IA,range->JA,pairwise_cons->NA,mem_map->OA,getElem?_cons_zero->UA,lookup_cons->XA,mem_filterMap->ZA,getElem?_set_ne->aB,mem_append_left->cB,filter_cons->dB,getElem?_append_left->eB,getElem?_cons_succ->fB,getElem?_map->gB,append_nil->kB,getElem?_set_self->lB,getElem?_append_right->oB,map_map->vB,flatMap_cons->AB,nodup_append->BB,nil_append->DB,append_assoc->EB,cons_append->MB,nodup_cons->NB,mem_map_of_mem->PB,getElem?_replicate->QB,forall_mem_cons->RB,length_nil->YB,map_congr_left->cC,mem_range->gC,mem_filter->iC,mem_flatMap->lC,map_nil->vC,filter_eq_self->AC,filterMap_cons->MC,forall_mem_nil->NC,any_cons->QC,filter_append->UC,lookup->eD,mem_replicate->ED,set_cons_zero->FD,length_filter_le->SD,length->dE,mem_iff_getElem->eE,all_eq_true->fE,cons_ne_nil->gE,getElem_mem->iE,drop_eq_getElem_cons->kE,foldl_cons->AE,nil_prefix->BE,length_eq_zero_iff->JE,not_lt->ME,filter_eq_nil_iff->VE,any_eq_true->nF,not_mem_nil->oF,take_length->pF,length_dropLast->EF,length_range->wG,getElem?_eq_getElem->CG,sum_cons->DG,lookup_nil->kH,cons_prefix_cons->xH,length_replicate->AH,singleton_append->BH,drop_zero->NH,getD->eI,map_eq_nil_iff->nI,set_cons_succ->LI,any_eq_false->bJ,eraseIdxIfInBounds_toArray->kJ,drop_length->CJ,isEmpty_iff->DJ,le_antisymm->EJ,length_drop->FJ,length_take->GJ,tail->IJ,forIn_cons->gK,of_mem_zip->iK,forIn_nil->fL,range_one->jL,mem_of_find?_eq_some->CL,range_succ_eq_map->IM,sum_nil->JM,take_of_length_le->KM,dropLast_eq_take->jN,dropLast_sublist->lN,getElem?_of_mem->MN,map->NN,mem_of_mem_take->ON,filter_sublist->iO,flatMap_append->jO,take_succ_cons->kO,filter_filter->dP,map_singleton->eP,filter_congr->eQ,foldl_append->fQ,take_sublist->gQ,countP_cons->PQ,flatMap_nil->QQ,mem_reverse->RQ,length_set->VR,prefix_nil->WR,range_zero->XR,lt_irrefl->FT,map_take->UV,all_map->BX,any_nil->DX,map_set->EX,set_set->FX
open Int renaming ofNat_inj->CB,toNat_natCast->JC,emod_lt_of_pos->VC,eq_ofNat_of_zero_le->vD,ofNat_lt->HD,emod_nonneg->OD,natCast_nonneg->IE,natCast_one->NF,zero_add->ZF,toNat_one->NG,lt_add_one_of_le->dI,ediv_one->fN,ofNat_le->iN,not_lt->dQ,max_eq_right->UR,min_eq_left->DT,natCast_add->ET,toNat_zero->TV,add_assoc->AX,le_trans->d6
open Bool renaming false_eq_true->RA,false_ne_true->YA,and_eq_true->LB,or_false->ND,beq_eq_decide_eq->PD,eq_iff_iff->JF,or_eq_true->KF,and_false->LH,false_and->MH,not_eq_false'->KI,and_self->VL,and_true->WL,true_and->YL,true_or->FM,false_or->RV,or_true->tX
open Array renaming length_toList->jE,getElem?_toList->fF,getElem?_eq_some_iff->BK,append_assoc->fO,toList_inj->bQ,toList->QV
set_option compiler.extract_closed false
set_option bootstrap.genMatcherCode false
noncomputable section
abbrev Fg:=PySem.W.Frag
abbrev NE:=PySem.Str->Option GX
abbrev oE:=List<|PySem.Addr×PySem.Obj
abbrev KD:=GX->PySem.Shared->Prop
namespace L2
open PySem
noncomputable def fV(s:Stmt):Arguments:=match s with
 |.FunctionDef _ a _ _ _ _ _ _ _ _=>a
 |_=>{ posonlyargs:=[],args:=[],vararg:=none,kwonlyargs:=[],kw_defaults:=[],kwarg:=none,defaults:=[] }
def yC(s:Stmt):List Stmt:=match s with
 |.FunctionDef _ _ b _ _ _ _ _ _ _=>b
 |_=>[]
noncomputable def zI(s:Stmt):BF:=match s with
 |.FunctionDef _ _ _ _ _ _ sc _ _ _=>sc
 |_=>{ kind:=.function,names:=[],isGenerator:=false,isCoroutine:=false }
end L2
namespace K07
open PySem PySem.Spec PyProof.Rows L2
noncomputable def top(i:Nat):Stmt:=PySem.Challenge.pw_reelhall_k07_whole_what_is_done_is_a_way.main.body.getD i<|.Pass ⟨0,0,0,0⟩
noncomputable def BR(j:Nat):Stmt->Stmt
 |.ClassDef _ _ _ body _ _ _ _ _ _ _=>body.getD j<|.Pass ⟨0,0,0,0⟩
 |s=>s
abbrev Mq:Stmt:=top 29
abbrev Kr:Stmt:=top 28
abbrev Jv:Stmt:=top 31
abbrev Jc:Stmt:=top 33
abbrev Lb:Stmt:=top 30
abbrev Jw:Stmt:=top 34
abbrev Lc:Stmt:=top 32
abbrev Jd:Stmt:=top 35
abbrev Kt:Stmt:=top 36
abbrev Kd:Stmt:=top 14
abbrev Mr:Stmt:=top 17
abbrev Jx:Stmt:=top 18
abbrev Ke:Stmt:=top 3
abbrev Pj:Stmt:=top 15
abbrev Ms:Stmt:=top 22
abbrev yX:Stmt:=top 23
abbrev Ld:Stmt:=top 19
abbrev Jp:Stmt:=top 20
abbrev Je:Stmt:=top 21
abbrev Mu:Stmt:=top 24
abbrev Qs:Stmt:=BR 0<|top 26
abbrev Le:Stmt:=top 38
abbrev Qt:Stmt:=BR 9<|top 26
abbrev Lf:Stmt:=BR 3<|top 26
abbrev Sk:Stmt:=BR 2<|top 26
abbrev Lg:Stmt:=BR 4<|top 26
abbrev Pk:Stmt:=BR 5<|top 26
abbrev Lh:Stmt:=top 2
abbrev Jy:Stmt:=BR 6<|top 26
abbrev Pm:Stmt:=BR 8<|top 26
abbrev KU:Stmt:=BR 7<|top 26
abbrev Mw:Stmt:=top 39
abbrev Kf:Stmt:=top 5
abbrev Li:Stmt:=top 6
abbrev Ja:Stmt:=top 7
abbrev Od:Stmt:=top 8
abbrev Kg:Stmt:=top 37
abbrev Lj:Stmt:=top 42
abbrev Ku:Stmt:=top 40
abbrev Kh:Stmt:=top 41
abbrev DR:Stmt:=top 43
abbrev nG(K:Fg)(f:Addr)(x q:Str)(st:Stmt):Prop:=∃oc od kV dc pm an cd ct sl,K.lookup f=some ⟨oc,od,.func<|wD x q (fV st) (yC st) (zI st) .none kV dc pm an cd ct,sl⟩/\OF K cd q=true/\iB K (.ref f)=true
abbrev Gb(K:Fg)(x:Str)(f:Addr):Prop:=EI K LC x=some (some<|.ref f)
abbrev Nb(K:Fg)(x:Str):Prop:=EI K LC x=some none
abbrev Ab(K:Fg)(C:Addr)(x:Str)(f:Addr):Prop:=KB K (.ref C) x=some (some<|.ref f)
def zRe(K:Fg):Prop:=∀P:Prop,(∀{C np f0 f1 f2 f3 f4 f5 f6 f7 f8 f9 Di Dj Dk Dl Dm Dn Do Dp Dq Dr mW Ds pY rY sY tY uY Dt vY wY xY Du Dv Dw Dx Dy Dz Ea Eb Ec S6:Addr}
  {Yj Cr:Option Addr} {Zw:Array (Option Value)} {Yi Gn Cz He Q6 Cv:Value}
  (aH:Gb K "Hall" C) (aN:Gb K "NoPart" np)
  (a0:Gb K "_law_mix" f0) (p0:nG K f0 "_law_mix" "_law_mix" Mq)
  (a1:Gb K "_law_cell" f1) (p1:nG K f1 "_law_cell" "_law_cell" Kr)
  (a2:Gb K "_law_is_late" f2) (p2:nG K f2 "_law_is_late" "_law_is_late" Jv)
  (a3:Gb K "_law_told_late" f3) (p3:nG K f3 "_law_told_late" "_law_told_late" Jc)
  (a4:Gb K "_law_word" f4) (p4:nG K f4 "_law_word" "_law_word" Lb)
  (a5:Gb K "_law_told_on" f5) (p5:nG K f5 "_law_told_on" "_law_told_on" Jw)
  (a6:Gb K "_law_size" f6) (p6:nG K f6 "_law_size" "_law_size" Lc)
  (a7:Gb K "_law_apart_two" f7) (p7:nG K f7 "_law_apart_two" "_law_apart_two" Jd)
  (a8:Gb K "_law_dance" f8) (p8:nG K f8 "_law_dance" "_law_dance" Kt)
  (a9:Gb K "takes_part" f9) (p9:nG K f9 "takes_part" "takes_part" Kd)
  (L6:Gb K "is_turn" Di) (Yl:nG K Di "is_turn" "is_turn" Mr)
  (M6:Gb K "turns_among" Dj) (Ym:nG K Dj "turns_among" "turns_among" Jx)
  (O6:Gb K "choices_of" Dk) (Yn:nG K Dk "choices_of" "choices_of" Ke)
  (Uq:Gb K "apart" Dl) (Yo:nG K Dl "apart" "apart" Pj)
  (Ur:Gb K "in_vain" Dm) (Yp:nG K Dm "in_vain" "in_vain" Ms)
  (Us:Gb K "refuse_waiting_in_vain" Dn) (Yq:nG K Dn "refuse_waiting_in_vain" "refuse_waiting_in_vain" yX)
  (Ut:Gb K "asked_at" Do) (Yr:nG K Do "asked_at" "asked_at" Ld)
  (Uu:Gb K "asked_at_all" Dp) (Ys:nG K Dp "asked_at_all" "asked_at_all" Jp)
  (Uv:Gb K "nexts_by_word" Dq) (Yt:nG K Dq "nexts_by_word" "nexts_by_word" Je)
  (Uw:Gb K "part_of" Dr) (Yu:nG K Dr "part_of" "part_of" Mu)
  (Ux:Ab K C "__init__" mW) (Yv:nG K mW "__init__" "Hall.__init__" Qs)
  (k20:iB K (.ref mW)=true) (Xu:FC K (.ref mW)=true)
  (Uy:Gb K "_law_hall" Ds) (Yw:nG K Ds "_law_hall" "_law_hall" Le)
  (Uz:Ab K C "done" pY) (Yx:nG K pY "done" "Hall.done" Qt)
  (Xj:iB K (.ref pY)=true) (Xv:FC K (.ref pY)=true)
  (Va:Ab K C "state_of" rY) (Yy:nG K rY "state_of" "Hall.state_of" Lf)
  (Xk:iB K (.ref rY)=true) (Xw:FC K (.ref rY)=true)
  (Vb:Ab K C "row" sY) (Yz:nG K sY "row" "Hall.row" Sk)
  (Xl:iB K (.ref sY)=true) (Xx:FC K (.ref sY)=true)
  (Vc:Ab K C "moves_of" tY) (Za:nG K tY "moves_of" "Hall.moves_of" Lg)
  (Xm:iB K (.ref tY)=true) (Xy:FC K (.ref tY)=true)
  (Vd:Ab K C "moves" uY) (Zb:nG K uY "moves" "Hall.moves" Pk)
  (Xn:iB K (.ref uY)=true) (Xz:FC K (.ref uY)=true)
  (Ve:Gb K "is_whole" Dt) (Zc:nG K Dt "is_whole" "is_whole" Lh)
  (Vf:Ab K C "can_be_done" vY) (Zd:nG K vY "can_be_done" "Hall.can_be_done" Jy)
  (Xo:iB K (.ref vY)=true) (Ya:FC K (.ref vY)=true)
  (Vg:Ab K C "go_on" wY) (Ze:nG K wY "go_on" "Hall.go_on" Pm)
  (Xp:iB K (.ref wY)=true) (Yb:FC K (.ref wY)=true)
  (Vh:Ab K C "do" xY) (Zf:nG K xY "do" "Hall.do" KU)
  (Xq:iB K (.ref xY)=true) (Yc:FC K (.ref xY)=true)
  (Vi:Gb K "_law_run" Du) (Zg:nG K Du "_law_run" "_law_run" Mw)
  (Vj:Gb K "words_told" Dv) (Zh:nG K Dv "words_told" "words_told" Kf)
  (Vk:Gb K "tells_on" Dw) (Zi:nG K Dw "tells_on" "tells_on" Li)
  (Vl:Gb K "nearest_teller" Dx) (Zj:nG K Dx "nearest_teller" "nearest_teller" Ja)
  (Vm:Gb K "way_of" Dy) (Zk:nG K Dy "way_of" "way_of" Od)
  (Vn:Gb K "_law_spoilt" Dz) (Zl:nG K Dz "_law_spoilt" "_law_spoilt" Kg)
  (Vo:Gb K "_law_goes" Ea) (Zm:nG K Ea "_law_goes" "_law_goes" Lj)
  (Vp:Gb K "_law_deeds" Eb) (Zn:nG K Eb "_law_deeds" "_law_deeds" Ku)
  (Vq:Gb K "_law_on_way" Ec) (Zo:nG K Ec "_law_on_way" "_law_on_way" Kh)
  (Vr:Gb K "law" S6) (Xt:K.lookup S6=some ⟨Yi,Yj,.func<|wD "law" "law" (fV DR) (yC DR) (zI DR) .none Gn Cz He Cr Q6 Cv,Zw⟩) (Vv:OF K Q6 "law" = true) (Xr:iB K (.ref S6)=true)
  (xT:Nb K "len")
  (JN:Nb K "range")
  (aJ:Nb K "enumerate")
  (nM:Nb K "sorted")
  (KN:Nb K "tuple")
  (WP:Nb K "list")
  (vT:Nb K "int")
  (VP:Nb K "dict")
  (xI:Nb K "isinstance")
  (tT:Nb K "all")
  (uT:Nb K "any")
  (oM:Nb K "str")
  (UP:Nb K "bool")
  (q1:aF K C pI=true)
  (q2:cG K C=true)
  (q3:FI K C=true)
  (q4:KB K (.ref C) "__setattr__" = some (some<|.builtin "object.__setattr__"))
  (q5:sJ K C=true)
  (q6:iB K (.ref C)=true)
  (q7:LK K np [.type "ValueError",.type "Exception",.type "BaseException",.type "object"] "ValueError.__new__" = true)
  (uN:KB K (.ref C) "parts" = some none)
  (RZ:KB K (.ref C) "at" = some none)
  (BP:KB K (.ref C) "rows" = some none)
  (xP:KB K (.ref C) "past" = some none)
  ,P)->P
open PySem.W
local macro_rules | `(tactic| refine $h:ident $a1 $a2 $a3 $a4 $a5 $a6 $a7 $a8 ?$z:ident $r*) => do let r := r.pop.push (← `($(Lean.mkIdent `wkT) rfl rfl (fun _ _ Y => kIn_of Y) ?hf)); `(tactic| refine' $h $a1 $a2 $a3 $a4 $a5 $a6 $a7 $a8 ?hx $r*)
set_option maxHeartbeats 0 in
theorem RY (wkT:∀{q:Program}{loose:List Str}{XP:(Str->Option Value)->Heap->Prop}{YP:World->Heap->Prop}{d:Tn}{K:Params->Fg},d.params.defaults=[]->d.name = "law"->(∀(w:World)(h:Heap),YP w h->(K w.params).In h)->(∀w:World,zRe<|K w.params) ->
  JK q loose XP YP PySem.Challenge.rw_reelhall_k07_whole_what_is_done_is_a_way.row.toRowW d [] (λf vs=>MK f vs)):PySem.Challenge.rw_reelhall_k07_whole_what_is_done_is_a_way.Holds:=by
 w_on;o_law;k_head
 .intro w;kernel_rfl
 (case hw=>w_witness2)
 k_fill
 intro w P k
 refine' k ?_ ?_ ?_ ?_ ?_ ?_ ?_ ?_ ?_ ?_ ?_ ?_ ?_ ?_ ?_ ?_ ?_ ?_ ?_ ?_ ?_ ?_ ?_ ?_ ?_ ?_ ?_ ?_ ?_ ?_ ?_ ?_ ?_ ?_ ?_ ?_ ?_ ?_ ?_ ?_ ?_ ?_ ?_ ?_ ?_ ?_ ?_ ?_ ?_ ?_ ?_ ?_ ?_ ?_ ?_ ?_ ?_ ?_ ?_ ?_ ?_ ?_ ?_ ?_ ?_ ?_ ?_ ?_ ?_ ?_ ?_ ?_ ?_ ?_ ?_ ?_ ?_ ?_ ?_ ?_ ?_ ?_ ?_ ?_ ?_ ?_ ?_ ?_ ?_ ?_ ?_ ?_ ?_ ?_ ?_ ?_ ?_ ?_ ?_ ?_ ?_ ?_ ?_ ?_ ?_ ?_ ?_ ?_ ?_ ?_ ?_ ?_ ?_ ?_ ?_ ?_ ?_ ?_ ?_ ?_ ?_ ?_ ?_ ?_ ?_ ?_ ?_ ?_
 all_goals try first|k_is|(show EI _ _ _=_;k_is)|(show KB _ _ _=_;k_is)|exact⟨_,_,_,_,_,_,_,_,_,by k_is,by k_is,by k_is⟩|kernel_rfl
end K07
namespace L2
open PySem PySem.Spec PyProof.Rows
abbrev XB:=Sum Int Str
noncomputable def vV:XB->Value->Bool
 |.inl k,v=>LX k v
 |.inr x,v=>JT x v
def Gq(w:World):XB->Int
 |.inl k=>hashInt k
 |.inr x=>hashStr w x
theorem yU:∀{k:XB}{v:Value},vV k v=true->(∃i t,k=aC i/\v=OH i t)\/(∃x t,k=ID x/\v=uJ x t)
 |.inl i,v,h=>by
  obtain⟨t,e⟩:=Value.isInt_shape (k:=i) (v:=v) h
  exact .inl ⟨i,t,rfl,e⟩
 |.inr x,v,h=>by
  obtain⟨t,e⟩:=Value.isStrOf_shape (x:=x) (v:=v) h;exact .inr ⟨x,t,rfl,e⟩
theorem zNA(i:Int)(t:Tok):vV (.inl i) (.int i t)=true:=by simp[vV,LX]
theorem zNB(x:Str)(t:Tok):vV (.inr x) (.str x t)=true:=by simp[vV,JT]
theorem zUj(a b:Int):decide ((aC a:XB)=aC b)=(a==b):=by
 by_cases e:a=b
 .subst e;simp
 .have h:¬ (aC a:XB)=aC b:=λq=>e (oH q)
  rw[decide_eq_false h];exact(beq_eq_false_iff_ne.mpr e).symm
theorem zUk(a b:Str):decide ((ID a:XB)=ID b)=decide (a=b):=by
 by_cases e:a=b
 .subst e;simp
 .have h:¬ (ID a:XB)=ID b:=λq=>e (Sum.inr.inj q)
  rw[decide_eq_false h,decide_eq_false e]
theorem zUl(a:Int)(b:Str):decide ((aC a:XB)=ID b)=false:=decide_eq_false (λq=>nomatch q)
theorem zUm(a:Str)(b:Int):decide ((ID a:XB)=aC b)=false:=decide_eq_false (λq=>nomatch q)
def zt(prog:Program)(w:World):GT prog w XB where
 is:=vV
 hash:=Gq w
 inj:=λv a b ha hb=>by
  rcases yU ha with⟨i,t,rfl,rfl⟩|⟨x,t,rfl,rfl⟩
  .rcases yU hb with⟨j,u,rfl,e⟩|⟨y,u,rfl,e⟩
   .injection e with e1 _;rw[e1]
   .exact nomatch e
  .rcases yU hb with⟨j,u,rfl,e⟩|⟨y,u,rfl,e⟩
   .exact nomatch e
   .injection e with e1 _;rw[e1]
 byValue:=λk v h=>by
  rcases yU h with⟨i,t,rfl,rfl⟩|⟨x,t,rfl,rfl⟩<;>rfl
 pyHash:=λhv h=>by
  rcases yU hv with⟨i,t,rfl,rfl⟩|⟨x,t,rfl,rfl⟩
  .exact wpAny_pyHash_int h
  .exact wpAny_pyHash_str h
 eqBool:=λhu hv h=>by
  rcases yU hu with⟨i,t,rfl,rfl⟩|⟨x,t,rfl,rfl⟩
  .rcases yU hv with⟨j,u,rfl,rfl⟩|⟨y,u,rfl,rfl⟩
   .rw[zUj]at h;exact wpAny_eqBool_int h
   .rw[zUl]at h;exact SeqAt.EqAt.int_str i t y u _ _ _ _ h
  .rcases yU hv with⟨j,u,rfl,rfl⟩|⟨y,u,rfl,rfl⟩
   .rw[zUm]at h;exact SeqAt.EqAt.str_int x t j u _ _ _ _ h
   .rw[zUk]at h;exact wpAny_eqBool_str h
 «strs»:=λk x t v h=>by
  rcases yU h with⟨i,u,rfl,e⟩|⟨y,u,rfl,e⟩
  .exact nomatch e
  .injection e with e1 _;subst e1;cases v<;>rfl
theorem zJt(prog:Program)(w:World)(i:Int)(t:Tok):(zt prog w).is (.inl i) (.int i t)=true:=zNA i t
theorem zJu(prog:Program)(w:World)(x:Str)(t:Tok):(zt prog w).is (.inr x) (.str x t)=true:=zNB x t
end L2
namespace L2
open PySem PySem.Spec PyProof.Rows
inductive V where
 |non|bl (b:Bool)|int (i:Int)|str (x:Str)|byt (b:Array UInt8)|flt (b:UInt64)|ref (a:Addr)|ty (n:String)
 deriving DecidableEq
def yk:V->Value->Prop
 |.non,u=>u=AD
 |.bl b,u=>u=jF b
 |.int i,u=>∃t,u=OH i t
 |.str x,u=>∃t,u=uJ x t
 |.byt b,u=>∃t,u=IX b t
 |.flt b,u=>∃t,u=JX b t
 |.ref a,u=>u=pB a
 |.ty n,u=>u=nO n
abbrev yO:List V->List Value->Prop:=Paired yk
theorem yO.length{xs:List V}{us:List Value}(r:yO xs us):xs.length=us.length:=Paired.length r
theorem yO.get:∀{xs:List V}{us:List Value}{i:Nat}{x:V},yO xs us->xs[i]?=some x->∃u,us[i]?=some u/\yk x u
 |_,_,_,_,.nil,e=>by simp at e
 |_,_,0,_,.cons r _,e=>by simp at e;subst e;exact⟨_,rfl,r⟩
 |_,_,i+1,x,.cons _ t,e=>by
  obtain⟨u,h1,h2⟩:=yO.get (i:=i) (x:=x) t (by simpa using e);exact⟨u,by simpa using h1,h2⟩
theorem yO.set(r:yk x u):∀{xs:List V}{us:List Value}(i:Nat),yO xs us->yO (xs.set i x) (us.set i u)
 |_,_,_,.nil=>.nil
 |_,_,0,.cons _ t=>.cons r t
 |_,_,i+1,.cons q t=>.cons q<|yO.set r i t
theorem yO.append:∀{xs ys:List V}{us ws:List Value},yO xs us->yO ys ws->yO (xs++ys) (us++ws)
 |_,_,_,_,.nil,s=>s
 |_,_,_,_,.cons r t,s=>.cons r<|yO.append t s
theorem yO.take:∀{xs:List V}{us:List Value}(n:Nat),yO xs us->yO (xs.take n) (us.take n)
 |_,_,0,_=>.nil
 |_,_,_+1,.nil=>.nil
 |_,_,n+1,.cons r t=>.cons r<|yO.take n t
theorem yO.drop:∀{xs:List V}{us:List Value}(n:Nat),yO xs us->yO (xs.drop n) (us.drop n)
 |_,_,0,r=>r
 |_,_,_+1,.nil=>.nil
 |_,_,n+1,.cons _ t=>yO.drop n t
def bK:Option V->Option Value->Prop
 |some v,some u=>yk v u
 |none,none=>True
 |_,_=>False
def KV{κ:Type}:List (κ×V)->List (κ×Value)->Prop:=Paired λ(p:κ×V) (q:κ×Value)=>p.1=q.1/\yk p.2 q.2
def kV:XB->V
 |.inl i=>.int i
 |.inr x=>.str x
inductive HO where
  |lst (xs:List V)
  |tup (xs:List V)
  |dK (kvs:List (XB×V))|dT (kvs:List (List XB×V))
  |set (S:Int->Bool) (n:Nat)
  |ins (C dx:Addr) (fs:List (Str×V))
  |own (x:Addr)
  |xd (fs:List (Str×V))
  |met (f x:Addr)
  |rng (lo hi:Int)
  |frz (o:Obj) (u:HO)
  |tbl (ps:Array Value)
  |ext (φ:Heap->Prop)
def VN(h:Heap)(a:Addr)(items:Array Value):Prop:=∃o,h.get? a=some o/\o.cls=.type "tuple"/\∃n,o.data=.seq items n/\o.dict=none
theorem VN.tup(x:VN h a items):cP h a items:=let ⟨o,e,c,n,d,_⟩:=x;⟨o,e,c,n,d⟩
theorem VN.lt{h:Heap}(x:VN h a items):a<h.objs.size:=x.tup.lt
theorem VN.new(h:Heap)(items:Array Value):VN (h.push { cls:=.type "tuple",data:=.seq items }) h.objs.size items:=⟨_,KA _ rfl,rfl,_,rfl,rfl⟩
abbrev Hp:=Addr->Option HO
noncomputable def upd(H:Hp)(a:Addr)(o:HO):Hp:=λb=>if b=a then some o else H b
theorem zL{H:Hp}{a:Addr}{o:HO}:upd H a o a=some o:=by unfold upd;rw[if_pos rfl]
theorem upd_ne{H:Hp}{a b:Addr}{o:HO}(h:b≠a):upd H a o b=H b:=by unfold upd;rw[if_neg h]
theorem Sm{H:Hp}{a b:Addr}{o u:HO}(h:H a=some o)(h':H b=some u)(d:o≠u):a≠b:=by
 intro e;subst e;rw[h]at h';exact d<|wB h'
theorem yY{H:Hp}{a b:Addr}{o:HO}(h:H a=some o)(h':H b=none):a≠b:=by
 intro e;subst e;rw[h]at h';cases h'
section
variable (P:Program)(w:World)
def yt(H:Hp)(h:Heap)(a:Addr):HO->Prop
 |.lst xs=>xs.length<=sizeLine/\∃(its:List Value)(n:Nat),yO xs its/\h.get? a=some { cls:=.type "list",data:=.seq its.toArray n }
 |.tup xs=>xs.length<=sizeLine/\∃its:List Value,yO xs its/\VN h a its.toArray
 |.dK kvs=>kvs.length<=sizeLine/\(a==sysModules)=false/\∃vs,KV kvs vs/\h.DictOf (zt P w) a vs
 |.dT kvs=>kvs.length<=sizeLine/\(a==sysModules)=false/\∃xs:List (List XB×Addr×Value),
   Paired (λ(p:List XB×V) (q:List XB×Addr×Value)=>p.1=q.1/\H q.2.1=some (.tup<|p.1.map kV)/\yk p.2 q.2.2) kvs xs /\
   ∃o es ep,h.get? a=some o/\o.ExactDict/\o.data=.dict es ep/\es.toList=xs.map (entryOfKey<|tupleKind<|zt P w)/\(xs.map (·.1)).Nodup
 |.set S n=>h.SetOf (intKind P w) a S n
 |.ins C dx fs=>H dx=some (.own a)/\fs.length<=1000/\dx≠a/\h.get? a=some (XC C dx) /\
   ∃mA,h.Ns1 dx mA/\(∀f,bK (fs.lookup f)<|mA f)/\pM mA (fs.map (·.1))
 |.own _=>∃o,h.get? a=some o
 |.xd fs=>∃mA,h.Ns1 a mA/\∀f,bK (fs.lookup f)<|mA f
 |.rng lo hi=>∃t u v,h.get? a=some { cls:=.type "range",data:=.fields #[.int lo t,.int hi u,.int 1 v] }
 |.frz o u=>h.get? a=some o/\yt H h a u
 |.tbl ps=>h.get? a=some { cls:=.none,data:=.fields ps }
 |.met f x=>h.get? a=some (dG (.ref f)<|.ref x)
 |.ext φ=>φ h/\(∃o,h.get? a=some o)/\∀h1 h2:Heap,φ h1->(∀o,h1.get? a=some o->h2.get? a=some o)->φ h2
def HOk(H:Hp)(h:Heap):Prop:=∀a o,H a=some o->yt P w H h a o
end
section
variable {P:Program}{w:World}{H H':Hp}{h h':Heap}{a:Addr}{o:HO}
theorem yt.lt(x:yt P w H h a o):a<h.objs.size:=by
 cases o with
 |lst xs=>obtain⟨_,_,_,_,e⟩:=x;exact EA e
 |tup xs=>obtain⟨_,_,_,p⟩:=x;exact p.lt
 |dK kvs=>obtain⟨_,_,_,_,o,_,_,e,_⟩:=x;exact EA e
 |dT kvs=>obtain⟨_,_,_,_,o,_,_,e,_⟩:=x;exact EA e
 |set S n=>obtain⟨o,_,_,_,e,_⟩:=x;exact EA e
 |ins C dx fs=>obtain⟨_,_,_,e,_⟩:=x;exact EA e
 |own y=>obtain⟨_,e⟩:=x;exact EA e
 |xd fs=>obtain⟨_,⟨_,_,_,e,_⟩,_⟩:=x;exact EA e
 |rng lo hi=>obtain⟨_,_,_,e⟩:=x;exact EA e
 |frz ob u=>obtain⟨e,_⟩:=x;exact EA e
 |tbl ps=>exact EA<|show h.get? a=some _ from x
 |met f y=>exact EA<|show h.get? a=some _ from x
 |ext j=>obtain⟨_,⟨_,e⟩,_⟩:=x;exact EA e
theorem Paired.mapP{j z:Type}{F G:j->z->Prop}:∀{l₁:List j}{l₂:List z},Paired F l₁ l₂->(∀a b,F a b->G a b)->Paired G l₁ l₂
 |_,_,.nil,_=>.nil
 |_,_,.cons r t,f=>.cons (f _ _ r)<|Paired.mapP t f
theorem yt.stay(x:yt P w H h a o)(k:∀b u,(b=a\/H b=some (.own a))->h.get? b=some u->h'.get? b=some u)
  (I:∀b,H b=some (.own a)->H' b=some (.own a)) (ht:∀b xs,H b=some (.tup xs)->H' b=some (.tup xs)):yt P w H' h' a o:=by
 induction o with
 |lst xs=>obtain⟨z,its,n,r,e⟩:=x;exact⟨z,its,n,r,k _ _ (.inl rfl) e⟩
 |tup xs=>obtain⟨z,its,r,ob,e,c⟩:=x;exact⟨z,its,r,ob,k _ _ (.inl rfl) e,c⟩
 |dK kvs=>obtain⟨z,y,vs,r,ob,es,ep,e,c⟩:=x;exact⟨z,y,vs,r,ob,es,ep,k _ _ (.inl rfl) e,c⟩
 |dT kvs=>
  obtain⟨z,y,xs,r,ob,es,ep,e,c⟩:=x
  exact⟨z,y,xs,Paired.mapP r λp q z=>⟨z.1,ht _ _ z.2.1,z.2.2⟩,ob,es,ep,k _ _ (.inl rfl) e,c⟩
 |set S n=>obtain⟨ob,es,ep,t,e,c⟩:=x;exact⟨ob,es,ep,t,k _ _ (.inl rfl) e,c⟩
 |ins C dx fs=>
  obtain⟨d,z,ne,e,mA,⟨od,es,ep,j,c⟩,r⟩:=x
  exact⟨I _ d,z,ne,k _ _ (.inl rfl) e,mA,⟨od,es,ep,k _ _ (.inr d) j,c⟩,r⟩
 |own y=>obtain⟨ob,e⟩:=x;exact⟨ob,k _ _ (.inl rfl) e⟩
 |xd fs=>obtain⟨mA,⟨od,es,ep,e,c⟩,r⟩:=x;exact⟨mA,⟨od,es,ep,k _ _ (.inl rfl) e,c⟩,r⟩
 |rng lo hi=>obtain⟨t,u,v,e⟩:=x;exact⟨t,u,v,k _ _ (.inl rfl) e⟩
 |frz ob u ih=>obtain⟨e,q⟩:=x;exact⟨k _ _ (.inl rfl) e,ih q⟩
 |tbl ps=>
  have e:h.get? a=some { cls:=.none,data:=.fields ps }:=x;show h'.get? a=some { cls:=.none,data:=.fields ps }
  exact k a _ (.inl rfl) e
 |met f y=>
  have e:h.get? a=some (dG (.ref f)<|.ref y):=x;show h'.get? a=some (dG (.ref f)<|.ref y)
  exact k a _ (.inl rfl) e
 |ext J=>obtain⟨p,⟨o,e⟩,st⟩:=x;exact⟨st _ _ p λo q=>k _ _ (.inl rfl) q,⟨o,k _ _ (.inl rfl) e⟩,st⟩
theorem HOk.lt(x:HOk P w H h)(e:H a=some o):a<h.objs.size:=(x a o e).lt
theorem HOk.fresh(x:HOk P w H h)(e:h.objs.size<=a):H a=none:=by
 cases q:H a with
 |none=>rfl
 |some u=>exact absurd (DA (x.lt q) e)<|HC _
theorem HOk.kept(x:HOk P w H h)(k:∀b u,h.get? b=some u->h'.get? b=some u):HOk P w H h':=λa o e=>
 (x a o e).stay (λb u _ q=>k b u q) (λ_ q=>q) λ_ _ q=>q
theorem HOk.laid(x:HOk P w H h)(k:∀b u,h.get? b=some u->h'.get? b=some u)(hp:h.objs.size<=a)(new:yt P w (upd H a o) h' a o):HOk P w (upd H a o) h':=λb u e=>by
 have j:=x.fresh hp;by_cases hb:b=a
 .subst hb;rw[zL]at e;cases e;exact new
 .rw[upd_ne hb]at e;exact(x b u e).stay (λc v _ q=>k c v q) (λc q=>by rw[upd_ne<|yY q j];exact q) λc xs q=>by rw[upd_ne<|yY q j];exact q
end
def Rd(H:Hp)(a:Addr)(u:HO):Prop:=H a=some u\/∃o,H a=some (.frz o u)
theorem Rd.ok(r:Rd H a u)(x:HOk P w H h):yt P w H h a u:=by
 rcases r with r|⟨o,r⟩
 .exact x a u r
 .obtain⟨_,q⟩:=x a _ r;exact q
def VX:Option HO->Prop
 |some (.lst _)=>True
 |some (.dK _)=>True
 |some (.dT _)=>True
 |some (.set _ _)=>True
 |some (.ins _ _ _)=>True
 |some (.ext _)=>True
 |_=>False
section
variable {P:Program}{w:World}{H:Hp}{h h':Heap}{x e:Addr}{o':HO}
theorem HOk.write(ok:HOk P w H h)(I:VX (H x))(he:e=x\/H e=some (.own x))(k:∀b u,b≠e->h.get? b=some u->h'.get? b=some u)(J:∃u,h'.get? e=some u)
  (new:yt P w (upd H x o') h' x o'):HOk P w (upd H x o') h':=λb u q=>by
 have HZ:∀c y,H c=some (.own y)->c≠x:=λc y r z=>by subst z;rw[r]at I;exact I
 have Gx:∀c xs,H c=some (.tup xs)->c≠x:=λc xs r z=>by subst z;rw[r]at I;exact I
 by_cases hb:b=x
 .subst hb;rw[zL]at q;cases q;exact new
 .rw[upd_ne hb]at q;by_cases j:b=e
  .have q':H b=some (.own x):=by
    rcases he with z|z
    .exact absurd (j.trans z) hb
    .rw[j];exact z
   rw[q]at q';cases q';obtain⟨v,hv⟩:=J;exact⟨v,by rw[j];exact hv⟩
  .refine(ok b u q).stay (λc v hc r=>k c v ?_ r) (λc r=>by rw[upd_ne<|HZ c b r];exact r) λc xs r=>by rw[upd_ne<|Gx c xs r];exact r
   rcases hc with rfl|hc
   .exact j
   .rintro rfl;rcases he with z|z
    .exact HZ c b hc z
    .rw[hc]at z;cases z;exact hb rfl
end
structure Un(fs ex:List Addr)(H H':Hp)(h h':Heap):Prop where
 keep:∀b o,h.get? b=some o->H b=none->b∉fs->b∉ex->h'.get? b=some o
 slot:∀b o,h.get? b=some o->H b=none->b∈fs->b∉ex->∃sl,h'.get? b=some { o with slots:=sl }
 free:∀b o,h.get? b=some o->H b=none->b∉ex->H' b=none
 there:∀b o,h.get? b=some o->b∉ex->∃o',h'.get? b=some o'
 tups:∀b xs,H b=some (.tup xs)->H' b=some (.tup xs)
 frzs:∀b o u,H b=some (.frz o u)->H' b=some (.frz o u)
 tbls:∀b ps,H b=some (.tbl ps)->∃more,H' b=some (.tbl<|ps++more)
section
variable {fs fs' ex ex':List Addr}{H H1 H2:Hp}{h h1 h2 h':Heap}{a x e:Addr}{o:HO}
theorem Un.any(u:Un fs ex H H1 h h1){b:Addr}{ob:Obj}(q:h.get? b=some ob)(n:H b=none)(hx:b∉ex):∃j,h1.get? b=some { ob with slots:=j }:=by
 by_cases hb:b∈fs
 .exact u.slot b ob q n hb hx
 .exact⟨ob.slots,u.keep b ob q n hb hx⟩
theorem Un.kept(k:∀b u,h.get? b=some u->h'.get? b=some u):Un fs ex H H h h':=
 ⟨λb ob q _ _ _=>k b ob q,λb ob q _ _ _=>⟨ob.slots,k b ob q⟩,λ_ _ _ n _=>n,λb ob q _=>⟨ob,k b ob q⟩,λ_ _ q=>q,λ_ _ _ q=>q,λ_ ps q=>⟨#[],by rw[q];simp⟩⟩
theorem Un.refl:Un fs ex H H h h:=Un.kept λ_ _ q=>q
theorem Un.laid(k:∀b u,h.get? b=some u->h'.get? b=some u)(hp:h.objs.size<=a)(j:H a=none):Un fs ex H (upd H a o) h h' where
 keep:=λb u q _ _ _=>k b u q
 slot:=λb u q _ _ _=>⟨u.slots,k b u q⟩
 free:=λb u q n _=>by rw[upd_ne<|VA<|DA (EA q) hp];exact n
 there:=λb u q _=>⟨u,k b u q⟩
 tups:=λb xs q=>by rw[upd_ne<|yY q j];exact q
 frzs:=λb u xs q=>by rw[upd_ne<|yY q j];exact q
 tbls:=λb ps q=>⟨#[],by rw[upd_ne<|yY q j,q];simp⟩
theorem Un.write(j:VX (H x))(he:e=x\/H e=some (.own x))(k:∀b u,b≠e->h.get? b=some u->h'.get? b=some u)(J:∃u,h'.get? e=some u):Un fs ex H (upd H x o) h h':=by
 have hx:∀b,H b=none->b≠x:=λb n z=>by subst z;rw[n]at j;exact j
 have hb:∀b,H b=none->b≠e:=λb n z=>by
  subst z;rcases he with r|r
  .exact hx b n r
  .rw[n]at r;cases r
 have hm:∀b u,H b=some u->¬ VX (some u)->b≠x:=λb u q nm z=>by subst z;rw[q]at j;exact nm j
 refine⟨λb u q n _ _=>k b u (hb b n) q,λb u q n _ _=>⟨u.slots,k b u (hb b n) q⟩,λb u q n _=>by rw[upd_ne<|hx b n];exact n,λb u q _=>?_,
  λb xs q=>by rw[upd_ne<|hm b _ q λz=>z];exact q,λb u xs q=>by rw[upd_ne<|hm b _ q λz=>z];exact q,λb ps q=>⟨#[],by rw[upd_ne<|hm b _ q λz=>z,q];simp⟩⟩
 by_cases I:b=e
 .subst I;exact J
 .exact⟨u,k b u I q⟩
end
noncomputable def TU(h:Heap)(H:Hp):List Addr:=(JA h.objs.size).filter λa=>(H a).isSome
def KR(h:Heap)(H:Hp):Heap:=OB h<|TU h H
theorem zNC(h:Heap)(H:Hp):(KR h H).objs.size=h.objs.size:=PySem.W.hideAll_size _ _
theorem zPz{h:Heap}(e:h.get? b=some o)(n:H b=none):(KR h H).get? b=some o:=
 jD _ e λhm=>by
  have q:(H b).isSome=true:=(iC.mp hm).2;rw[n]at q;simp at q
theorem zSP{h:Heap}(e:(KR h H).get? b=some o):h.get? b=some o/\H b=none:=by
 have e':h.get? b=some o:=PF (TU h H) e;refine⟨e',?_⟩
 cases q:H b with
 |none=>rfl
 |some x=>
  have hm:b∈TU h H:=iC.mpr ⟨gC.mpr<|EA e',by simp[q]⟩;have z:(KR h H).get? b=none:=bD (TU h H) hm;rw[z]at e;cases e
noncomputable def zSQ(g h:Heap)(L:Addr):oE:=(JA h.objs.size).filterMap λa=>if a=L\/(g.get? a).isSome=true then none else (h.get? a).map λo=>(a,o)
def rest(g h:Heap)(L d:Addr):oE:=(zSQ g h L).filter λp=>decide<|p.1≠d
end L2
namespace L2
open PySem PySem.Spec PyProof.Rows
structure Mod(K:Fg)(mg:NE)(base:Heap):Prop where
 kin:K.In base
 glob:base.Ns LC mg
 blt:∃mb,base.Ns aW mb/\∀x:Str,x ≠ "__name__"->mb x=HB x
 nolimit:base.NoLimit
structure Cx where
 prog:Program
 w:World
 K:Fg
 mg:NE
 base:Heap
 A:Around
 N:List Str
 s₀:Shared
 H₀:Hp
 env:Env
 outer:List Env
 stack:List Env
 ex:List Addr
 fn:Str->Bool
 calm:Bool
 pn:oE
 xe:KD
noncomputable def fH(l:List Env):List Addr:=l.filterMap (·.frame)
abbrev Cx.fs(X:Cx):List Addr:=fH X.outer
def Co(sc:BF)(x:Str):Prop:=sc.names.lookup x=some .local\/sc.names.lookup x=some .cell\/sc.names.lookup x=some .free
def Loc(sc:BF)(x:Str):Prop:=sc.names.lookup x=some .local\/sc.names.lookup x=some .cell
def Look(env:Env)(h:Heap)(m:NE)(x:Str)(u:Value):Prop:=
 (env.kindOf x=some .local/\m x=some u)\/((env.kindOf x=some .cell\/env.kindOf x=some .free)/\∃c,env.cells.lookup x=some c/\h.IsCell c (some u))
structure Cx.Ok(X:Cx):Prop where
 mod:Mod X.K X.mg X.base
 kind:X.env.scope.kind=.function
 glob:X.env.globals=LC
 blt:X.env.builtins=aW
 above:X.s₀.heap.objs.size<=X.env.locals
 inj:∀x y c,X.env.cells.lookup x=some c->X.env.cells.lookup y=some c->x=y
 has:∀x,(X.env.kindOf x=some .cell\/X.env.kindOf x=some .free)->∃c,X.env.cells.lookup x=some c
 cab:∀x c,X.fn x=true->X.env.cells.lookup x=some c->X.s₀.heap.objs.size<=c
 hd:X.calm=true->X.A.handled=none
 frames:X.A.frames=some X.stack
 stk:X.stack=X.outer\/(X.stack=X.env::X.outer/\X.env.frame=some X.env.locals)
 exf:∀b∈X.ex,b≠X.env.locals/\∀x c,X.env.cells.lookup x=some c->c≠b
 bs:∀b o,X.base.get? b=some o->X.s₀.heap.get? b=some o/\X.H₀ b=none
 bsz:X.base.objs.size<=X.s₀.heap.objs.size
 noex:∀b o,X.base.get? b=some o->b∉X.ex
 exfs:∀b∈X.ex,b∉X.fs
 funs:X.s₀.heap.FunFrames X.base X.outer
 frf:∀b∈X.fs,X.H₀ b=none
structure Inv(X:Cx)(pins:oE)(σ:List (Option V))(H:Hp)(s:Shared):Prop where
 ok:X.Ok
 os:s.os=X.s₀.os
 bare:vG s.gens
 base:Un X.fs X.ex X.H₀ H X.s₀.heap s.heap
 loc:∃m,s.heap.Ns X.env.locals m/\∀(i:Nat)(x:Str)(v:V),X.N[i]?=some x->σ[i]?=some (some v)->Co X.env.scope x->∃u,yk v u/\Look X.env s.heap m x u
 cell:∀x c,X.env.cells.lookup x=some c->∃v,s.heap.IsCell c v
 free:H X.env.locals=none
 freeC:∀x c,X.env.cells.lookup x=some c->H c=none
 pin:∀p∈X.pn++pins,s.heap.get? p.1=some p.2/\H p.1=none/\p.1≠X.env.locals/\p.1∉X.fs/\∀v,p.2.data≠.cell v
 hok:HOk X.prog X.w H s.heap
 len:σ.length=X.N.length
section
variable {X:Cx}{pins:oE}{σ:List (Option V)}{H H':Hp}{s:Shared}{h':Heap}
theorem Cx.Ok.nofr(ok:X.Ok)(e:X.base.get? b=some o):b∉X.fs:=λhb=>by
 have:=(ok.funs.mem hb).1;rw[e]at this;cases this
theorem Inv.bs(I:Inv X pins σ H s):∀b o,X.base.get? b=some o->s.heap.get? b=some o/\H b=none:=λb o e=>
 ⟨I.base.keep b o (I.ok.bs b o e).1 (I.ok.bs b o e).2 (I.ok.nofr e)<|I.ok.noex b o e,I.base.free b o (I.ok.bs b o e).1 (I.ok.bs b o e).2<|I.ok.noex b o e⟩
theorem Inv.bk(I:Inv X pins σ H s):∀b o,X.base.get? b=some o->s.heap.get? b=some o:=λb o e=>(I.bs b o e).1
theorem Inv.mod(I:Inv X pins σ H s):Mod X.K X.mg X.base:=I.ok.mod
theorem Inv.kIn(I:Inv X pins σ H s):X.K.In s.heap:=I.ok.mod.kin.keeps I.bk
theorem Inv.lt(I:Inv X pins σ H s):X.env.locals<s.heap.objs.size:=let ⟨_,hn,_⟩:=I.loc;hn.lt
theorem Inv.sz(I:Inv X pins σ H s):X.s₀.heap.objs.size<=s.heap.objs.size:=QA I.ok.above<|mJ I.lt
theorem Inv.nofs(I:Inv X pins σ H s)(h:s.heap.objs.size<=a):a∉X.fs:=λhb=>by
 obtain⟨_,o,j,_⟩:=I.ok.funs.mem hb;exact absurd (DA (EA j)<|QA I.sz h)<|HC _
theorem Inv.cne(I:Inv X pins σ H s):∀x c,X.env.cells.lookup x=some c->c≠X.env.locals:=λx c e z=>by
 obtain⟨v,o,j,hd⟩:=I.cell x c e;obtain⟨m,⟨o',es,ep,O,J,_⟩,_⟩:=I.loc;rw[z,O]at j;cases j;rw[J]at hd;cases hd
theorem Inv.funs(I:Inv X pins σ H s):s.heap.FunFrames X.base X.outer:=by
 have all:∀(l:List Env),(∀b∈fH l,b∈X.fs)->X.s₀.heap.FunFrames X.base l->s.heap.FunFrames X.base l:=by
  intro l
  induction l with
  |nil=>intro _ _;trivial
  |cons env r ih=>
   intro hs j;obtain⟨hk,⟨L,o,hf,J,O,hd⟩,hr⟩:=j;have hL:L∈X.fs:=hs L (by unfold fH;rw[MC,hf];exact lA);obtain⟨S,e⟩:=I.base.slot L o O (I.ok.frf L hL) hL λz=>I.ok.exfs L z hL
   exact⟨hk,⟨L,_,hf,J,e,hd⟩,ih (λb hb=>hs b (by unfold fH;rw[MC,hf];exact dA _ hb)) hr⟩
 exact all X.outer (λ_ hb=>hb) I.ok.funs
theorem Inv.stack(I:Inv X pins σ H s):s.heap.FunFrames X.base X.stack:=by
 rcases I.ok.stk with e|⟨e,hf⟩
 .rw[e];exact I.funs
 .rw[e];obtain⟨m,j,_⟩:=I.loc;refine .cons (by rw[I.ok.kind];decide) hf j ?_ I.funs;exact Heap.get?_none_of_le<|QA I.ok.bsz I.ok.above
theorem Inv.stkSub(I:Inv X pins σ H s):∀b∈fH X.stack,b∈X.env.locals::X.fs:=λb hb=>by
 rcases I.ok.stk with e|⟨e,hf⟩
 .rw[e]at hb;exact dA _ hb
 .rw[e]at hb;unfold fH at hb;rw[MC,hf]at hb;exact hb
theorem Inv.stkFree(I:Inv X pins σ H s):∀b∈fH X.stack,H b=none:=λb hb=>by
 rcases nA.mp (I.stkSub b hb) with e|hb
 .rw[e];exact I.free
 .obtain⟨_,o,j,_⟩:=I.ok.funs.mem hb;exact I.base.free b o j (I.ok.frf b hb) λz=>I.ok.exfs b z hb
theorem Inv.step{g':Array To}{t':Nat}{d':Drawn}{ch:List Addr}(I:Inv X pins σ H s)
  (Y:∀b∈ch,(b∈X.ex\/X.s₀.heap.objs.size<=b)/\b≠X.env.locals/\(∀x c,X.env.cells.lookup x=some c->c≠b)/\∀p∈X.pn++pins,p.1≠b)
  (keep:∀b o,b≠X.env.locals->b∉X.fs->b∉ch->s.heap.get? b=some o->H b=none->h'.get? b=some o)
  (slot:∀b o,b≠X.env.locals->b∈X.fs->b∉ch->s.heap.get? b=some o->H b=none->∃sl,h'.get? b=some { o with slots:=sl }) (free:∀b o,b∉ch->s.heap.get? b=some o->H b=none->H' b=none)
  (there:∀b o,b∉ch->s.heap.get? b=some o->∃o',h'.get? b=some o')
  (tups:∀b xs,H b=some (.tup xs)->H' b=some (.tup xs)) (frzs:∀b o u,H b=some (.frz o u)->H' b=some (.frz o u)) (tbls:∀b ps,H b=some (.tbl ps)->∃U,H' b=some (.tbl<|ps++U))
  (ns:∀m,s.heap.Ns X.env.locals m->h'.Ns X.env.locals m) (hok:HOk X.prog X.w H' h') (hg:vG g') :
  Inv X pins σ H' { s with heap:=h',gens:=g',drawn:=d',toks:=t' }:=by
 have DZ:∀b o,X.s₀.heap.get? b=some o->b≠X.env.locals:=λb o e=>VA<|DA (EA e) I.ok.above
 have iR:∀b o,X.s₀.heap.get? b=some o->b∉X.ex->b∉ch:=λb o e hx hb=>by
  rcases(Y b hb).1 with z|z
  .exact hx z
  .exact absurd (DA (EA e) z)<|HC _
 have j:∀x c,X.env.cells.lookup x=some c->∀v,s.heap.IsCell c v->h'.IsCell c v:=λx c e v=>by
  rintro⟨o,O,hd⟩;have Z:c∉ch:=λz=>(Y c z).2.2.1 x c e rfl
  by_cases hc:c∈X.fs
  .obtain⟨sl,q⟩:=slot c o (I.cne x c e) hc Z O<|I.freeC x c e;exact⟨_,q,hd⟩
  .exact⟨o,keep c o (I.cne x c e) hc Z O<|I.freeC x c e,hd⟩
 refine⟨I.ok,I.os,hg,⟨λb o e n hb hx=>?_,λb o e n hb hx=>?_,λb o e n hx=>?_,λb o e hx=>?_,λb xs e=>tups b xs<|I.base.tups b xs e,λb o xs e=>frzs b o xs<|I.base.frzs b o xs e,λb ps e=>?_⟩,?_,λx c e=>?_,?_,λx c e=>?_,λp hp=>?_,hok,I.len⟩
 .exact keep b o (DZ b o e) hb (iR b o e hx) (I.base.keep b o e n hb hx)<|I.base.free b o e n hx
 .obtain⟨sl,J⟩:=I.base.slot b o e n hb hx;obtain⟨BW,S⟩:=slot b _ (DZ b o e) hb (iR b o e hx) J<|I.base.free b o e n hx;exact⟨BW,S⟩
 .obtain⟨o',J⟩:=I.base.there b o e hx;exact free b o' (iR b o e hx) J<|I.base.free b o e n hx
 .obtain⟨o',J⟩:=I.base.there b o e hx;exact there b o' (iR b o e hx) J
 .obtain⟨m1,J⟩:=I.base.tbls b ps e;obtain⟨m2,S⟩:=tbls b _ J;exact⟨m1++m2,by rw[S,fO]⟩
 .obtain⟨m,hn,hl⟩:=I.loc;refine⟨m,ns m hn,λi x v J S e3=>?_⟩;obtain⟨u,r,l⟩:=hl i x v J S e3;refine⟨u,r,?_⟩;rcases l with l|⟨k,c,e,z⟩
  .exact .inl l
  .exact .inr ⟨k,c,e,j x c e _ z⟩
 .obtain⟨v,z⟩:=I.cell x c e;exact⟨v,j x c e v z⟩
 .obtain⟨m,⟨o,_,_,O,_⟩,_⟩:=I.loc;exact free _ o (λz=>(Y _ z).2.1 rfl) O I.free
 .obtain⟨v,o,O,hd⟩:=I.cell x c e;exact free c o (λz=>(Y c z).2.2.1 x c e rfl) O<|I.freeC x c e
 .obtain⟨e,n,ne,nf,d⟩:=I.pin p hp;have Z:p.1∉ch:=λz=>(Y p.1 z).2.2.2 p hp rfl
  exact⟨keep p.1 p.2 ne nf Z e n,free p.1 p.2 Z e n,ne,nf,d⟩
theorem Inv.stepN{g':Array To}{t':Nat}{d':Drawn}{ch:List Addr}(I:Inv X pins σ H s)
  (Y:∀b∈ch,(b∈X.ex\/X.s₀.heap.get? b=none)/\b≠X.env.locals/\(∀x c,X.env.cells.lookup x=some c->c≠b)/\∀p∈X.pn++pins,p.1≠b)
  (keep:∀b o,b≠X.env.locals->b∉X.fs->b∉ch->s.heap.get? b=some o->H b=none->h'.get? b=some o)
  (slot:∀b o,b≠X.env.locals->b∈X.fs->b∉ch->s.heap.get? b=some o->H b=none->∃sl,h'.get? b=some { o with slots:=sl }) (free:∀b o,b∉ch->s.heap.get? b=some o->H b=none->H' b=none)
  (there:∀b o,b∉ch->s.heap.get? b=some o->∃o',h'.get? b=some o')
  (tups:∀b xs,H b=some (.tup xs)->H' b=some (.tup xs)) (frzs:∀b o u,H b=some (.frz o u)->H' b=some (.frz o u)) (tbls:∀b ps,H b=some (.tbl ps)->∃U,H' b=some (.tbl<|ps++U))
  (ns:∀m,s.heap.Ns X.env.locals m->h'.Ns X.env.locals m) (hok:HOk X.prog X.w H' h') (hg:vG g') :
  Inv X pins σ H' { s with heap:=h',gens:=g',drawn:=d',toks:=t' }:=by
 have DZ:∀b o,X.s₀.heap.get? b=some o->b≠X.env.locals:=λb o e=>VA<|DA (EA e) I.ok.above
 have iR:∀b o,X.s₀.heap.get? b=some o->b∉X.ex->b∉ch:=λb o e hx hb=>by
  rcases(Y b hb).1 with z|z
  .exact hx z
  .rw[z]at e;cases e
 have j:∀x c,X.env.cells.lookup x=some c->∀v,s.heap.IsCell c v->h'.IsCell c v:=λx c e v=>by
  rintro⟨o,O,hd⟩;have Z:c∉ch:=λz=>(Y c z).2.2.1 x c e rfl
  by_cases hc:c∈X.fs
  .obtain⟨sl,q⟩:=slot c o (I.cne x c e) hc Z O<|I.freeC x c e;exact⟨_,q,hd⟩
  .exact⟨o,keep c o (I.cne x c e) hc Z O<|I.freeC x c e,hd⟩
 refine⟨I.ok,I.os,hg,⟨λb o e n hb hx=>?_,λb o e n hb hx=>?_,λb o e n hx=>?_,λb o e hx=>?_,λb xs e=>tups b xs<|I.base.tups b xs e,λb o xs e=>frzs b o xs<|I.base.frzs b o xs e,λb ps e=>?_⟩,?_,λx c e=>?_,?_,λx c e=>?_,λp hp=>?_,hok,I.len⟩
 .exact keep b o (DZ b o e) hb (iR b o e hx) (I.base.keep b o e n hb hx)<|I.base.free b o e n hx
 .obtain⟨sl,J⟩:=I.base.slot b o e n hb hx;obtain⟨BW,S⟩:=slot b _ (DZ b o e) hb (iR b o e hx) J<|I.base.free b o e n hx;exact⟨BW,S⟩
 .obtain⟨o',J⟩:=I.base.there b o e hx;exact free b o' (iR b o e hx) J<|I.base.free b o e n hx
 .obtain⟨o',J⟩:=I.base.there b o e hx;exact there b o' (iR b o e hx) J
 .obtain⟨m1,J⟩:=I.base.tbls b ps e;obtain⟨m2,S⟩:=tbls b _ J;exact⟨m1++m2,by rw[S,fO]⟩
 .obtain⟨m,hn,hl⟩:=I.loc;refine⟨m,ns m hn,λi x v J S e3=>?_⟩;obtain⟨u,r,l⟩:=hl i x v J S e3;refine⟨u,r,?_⟩;rcases l with l|⟨k,c,e,z⟩
  .exact .inl l
  .exact .inr ⟨k,c,e,j x c e _ z⟩
 .obtain⟨v,z⟩:=I.cell x c e;exact⟨v,j x c e v z⟩
 .obtain⟨m,⟨o,_,_,O,_⟩,_⟩:=I.loc;exact free _ o (λz=>(Y _ z).2.1 rfl) O I.free
 .obtain⟨v,o,O,hd⟩:=I.cell x c e;exact free c o (λz=>(Y c z).2.2.1 x c e rfl) O<|I.freeC x c e
 .obtain⟨e,n,ne,nf,d⟩:=I.pin p hp;have Z:p.1∉ch:=λz=>(Y p.1 z).2.2.2 p hp rfl
  exact⟨keep p.1 p.2 ne nf Z e n,free p.1 p.2 Z e n,ne,nf,d⟩
theorem Inv.un{t':Nat}(I:Inv X pins σ H s)(u:Un X.fs [] H H' s.heap h')(hok:HOk X.prog X.w H' h'):Inv X pins σ H' { s with heap:=h',toks:=t' }:=by
 obtain⟨m,⟨o,es,ep,J,r⟩,_⟩:=id I.loc;obtain⟨Z,hL⟩:=u.any J I.free (by simp)
 exact I.step (g':=s.gens) (d':=s.drawn) (ch:=[]) (λ_ z=>nomatch z) (λb o _ hb _ e n=>u.keep b o e n hb<|by simp) (λb o _ hb _ e n=>u.slot b o e n hb<|by simp) (λb o _ e n=>u.free b o e n<|by simp) (λb o _ e=>u.there b o e<|by simp) u.tups u.frzs u.tbls (λY hm=>by
  obtain⟨o',O,S,j,U⟩:=hm;rw[J]at j;cases j;exact⟨_,O,S,hL,U⟩) hok I.bare
theorem Inv.call{g':Array To}{t':Nat}{d':Drawn}{ch:List Addr}(I:Inv X pins σ H s)(u:Un (fH X.stack) ch H H' s.heap h')(hok:HOk X.prog X.w H' h')(U:vG g')
  (O:∀b∈ch,(b∈X.ex\/X.s₀.heap.objs.size<=b)/\b≠X.env.locals/\(∀x c,X.env.cells.lookup x=some c->c≠b)/\∀p∈X.pn++pins,p.1≠b) :
  Inv X pins σ H' { s with heap:=h',gens:=g',drawn:=d',toks:=t' }:=by
 obtain⟨m,⟨o,es,ep,J,r⟩,_⟩:=id I.loc;obtain⟨sl,hL⟩:=u.any J I.free λz=>(O _ z).2.1 rfl
 exact I.step (ch:=ch) O (λb o hL hb hc e n=>u.keep b o e n (λz=>(nA.mp<|I.stkSub b z).elim hL hb) hc) (λb o _ _ hc e n=>u.any e n hc) (λb o hc e n=>u.free b o e n hc) (λb o hc e=>u.there b o e hc) u.tups u.frzs u.tbls (λm' hm=>by
  obtain⟨o',S,Y,j,Z⟩:=hm;rw[J]at j;cases j;exact⟨_,S,Y,hL,Z⟩) hok U
theorem Inv.turned{t':Nat}{it:Addr}(I:Inv X pins σ H s)(k:∀b o,b≠it->s.heap.get? b=some o->h'.get? b=some o)(J:H it=none)(hL:it≠X.env.locals)
  (h1:it∈X.ex\/X.s₀.heap.objs.size<=it) (h2:∀x c,X.env.cells.lookup x=some c->c≠it) (h3:∀p∈X.pn++pins,p.1≠it):Inv X pins σ H { s with heap:=h',toks:=t' }:=by
 have j:∀b u,H b=some u->b≠it:=λb u e z=>by rw[z,J]at e;cases e
 refine I.step (g':=s.gens) (d':=s.drawn) (ch:=[it]) (λb hb=>?_) (λb o _ _ hc e _=>k b o (λz=>hc<|by simp[z]) e) (λb o _ _ hc e _=>⟨o.slots,k b o (λz=>hc<|by simp[z]) e⟩) (λ_ _ _ _ n=>n)
  (λb o hc e=>⟨o,k b o (λz=>hc<|by simp[z]) e⟩) (λ_ _ e=>e) (λ_ _ _ e=>e) (λb ps e=>⟨#[],by rw[e];simp⟩) (λm hm=>?_) (λb u e=>?_) I.bare
 .have e:b=it:=by simpa using hb
  subst e;exact⟨h1,hL,h2,h3⟩
 .obtain⟨o,es,ep,O,r⟩:=hm;exact⟨o,es,ep,k _ o (Ne.symm hL) O,r⟩
 .refine(I.hok b u e).stay (λc v hc q=>k c v ?_ q) (λ_ q=>q) λ_ _ q=>q
  rcases hc with z|z
  .rw[z];exact j b u e
  .exact j c _ z
theorem Inv.tok(I:Inv X pins σ H s)(t:Nat):Inv X pins σ H { s with toks:=t }:=I.un (h':=s.heap) (t':=t) Un.refl I.hok
theorem Inv.kept{t':Nat}(I:Inv X pins σ H s)(k:∀b u,s.heap.get? b=some u->h'.get? b=some u):Inv X pins σ H { s with heap:=h',toks:=t' }:=I.un (Un.kept k)<|I.hok.kept k
theorem Inv.laid{t':Nat}(I:Inv X pins σ H s)(k:∀b u,s.heap.get? b=some u->h'.get? b=some u)(hp:s.heap.objs.size<=a)(new:yt X.prog X.w (upd H a o) h' a o):
  Inv X pins σ (upd H a o) { s with heap:=h',toks:=t' }:=I.un (Un.laid k hp<|I.hok.fresh hp)<|I.hok.laid k hp new
theorem Inv.write{t':Nat}(I:Inv X pins σ H s)(j:VX (H x))(he:e=x\/H e=some (.own x))(k:∀b u,b≠e->s.heap.get? b=some u->h'.get? b=some u)(z:∃u,h'.get? e=some u)(new:yt X.prog X.w (upd H x o) h' x o):Inv X pins σ (upd H x o) { s with heap:=h',toks:=t' }:=I.un (Un.write j he k z)<|I.hok.write j he k z new
theorem Inv.pins_of(I:Inv X pins σ H s)(h:∀p∈j,s.heap.get? p.1=some p.2/\H p.1=none/\p.1≠X.env.locals/\p.1∉X.fs/\∀v,p.2.data≠.cell v):Inv X j σ H s:=
 ⟨I.ok,I.os,I.bare,I.base,I.loc,I.cell,I.free,I.freeC,λp hp=>(oA.mp hp).elim (λz=>I.pin p<|cB _ z)<|h p,I.hok,I.len⟩
theorem zKt{N:List Str}(J:N.Nodup){i j:Nat}{x:Str}(a:N[i]?=some x)(b:N[j]?=some x):i=j:=by
 obtain⟨h1,z⟩:=BA.mp a;obtain⟨h2,I⟩:=BA.mp b;exact(List.getElem_inj J).mp (z.trans I.symm)
theorem zIX{E:KD}{i:Nat}{x:Str}{u:Value}{Q:Unit->Shared->Prop}(I:Inv X pins σ H s)(hN:X.N.Nodup)(hi:X.N[i]?=some x)(hx:Loc X.env.scope x)(r:yk v u)(h:∀s',Inv X pins (σ.set i<|some v) H s'->(∃a,RE a s.heap s'.heap/\(a=X.env.locals\/X.env.cells.lookup x=some a))->Q () s')(hf:X.fn x=true\/X.env.scope.names.lookup x=some .local:=by first|exact .inl rfl|exact .inr rfl|assumption):wpAny M A (storeName X.env x u) Q E s:=by
 obtain⟨m,hn,hl⟩:=id I.loc;have Ey:(X.env.scope.kind==.class || (X.env.scope.kind==.module&&X.env.locals != X.env.globals))=false:=by rw[I.ok.kind];rfl
 have VY:i<σ.length:=by rw[I.len];exact(BA.mp hi).1
 have cne:=I.cne
 have O:∀{a:Addr}{h':Heap},(∃o,s.heap.get? a=some o/\H a=none)->RE a s.heap h'->HOk X.prog X.w H h':=λ{a h'} ha hs b ob e=>by
  obtain⟨_,_,pS⟩:=ha;refine(I.hok b ob e).stay (λc w' hc q=>(hs.2 c ?_).trans q) (λ_ q=>q) λ_ _ q=>q
  rintro rfl;rcases hc with rfl|hc
  .rw[pS]at e;cases e
  .rw[pS]at hc;cases hc
 rcases hx with hk|hk
 .refine wpAny_storeName_local hk hn (λh' Fo hs=>?_) Ey;obtain⟨oL,_,_,hoL,_⟩:=id hn;refine h _ ⟨I.ok,I.os,I.bare,⟨λb o e n hb hx=>?_,λb o e n hb hx=>?_,I.base.free,λb o e hx=>?_,I.base.tups,I.base.frzs,I.base.tbls⟩,⟨_,Fo,λj y v' J S e3=>?_⟩,λy c e=>?_,I.free,I.freeC,λp hp=>?_,O ⟨oL,hoL,I.free⟩ hs,by simpa using I.len⟩ ⟨_,hs,.inl rfl⟩
  .exact(hs.2 b<|VA<|DA (EA e) I.ok.above).trans (I.base.keep b o e n hb hx)
  .obtain⟨sl,J⟩:=I.base.slot b o e n hb hx;exact⟨sl,(hs.2 b<|VA<|DA (EA e) I.ok.above).trans J⟩
  .obtain⟨o',J⟩:=I.base.there b o e hx;exact⟨o',(hs.2 b<|VA<|DA (EA e) I.ok.above).trans J⟩
  .by_cases U:j=i
   .subst U;rw[hi]at J;cases J;rw[lB VY]at S;cases S;exact⟨u,r,.inl ⟨hk,by simp⟩⟩
   .rw[aB<|Ne.symm U]at S;obtain⟨u',r',q⟩:=hl j y v' J S e3;refine⟨u',r',?_⟩;rcases q with⟨k,e⟩|⟨k,c,e,z⟩
    .refine .inl ⟨k,?_⟩;have:y≠x:=λe=>U (zKt hN J<|e ▸ hi)
     simp[this,e]
    .exact .inr ⟨k,c,e,z.sameBut hs<|cne y c e⟩
  .obtain⟨w',z⟩:=I.cell y c e;exact⟨w',z.sameBut hs<|cne y c e⟩
  .obtain⟨e,n,ne,nf,d⟩:=I.pin p hp;exact⟨(hs.2 p.1 ne).trans e,n,ne,nf,d⟩
 .have Fc:X.fn x=true:=by
   rcases hf with z|z
   .exact z
   .rw[z]at hk;cases hk
  obtain⟨c,hc⟩:=I.ok.has x<|.inl hk;obtain⟨w',z⟩:=I.cell x c hc;refine wpAny_storeName_cell I.ok.kind hk hc z (λh' LY hs=>?_);obtain⟨oc,Ww,Fu⟩:=id z;refine h { s with heap:=h' } ⟨I.ok,I.os,I.bare,⟨λb o e n hb hx=>?_,λb o e n hb hx=>?_,I.base.free,λb o e hx=>?_,I.base.tups,I.base.frzs,I.base.tbls⟩,⟨m,hn.sameBut hs<|Ne.symm<|cne x c hc,λj y v' J S e3=>?_⟩,λy Y e=>?_,I.free,I.freeC,λp hp=>?_,O ⟨oc,Ww,I.freeC x c hc⟩ hs,by simpa using I.len⟩ ⟨c,hs,.inr hc⟩
  .exact(hs.2 b<|VA<|DA (EA e)<|I.ok.cab x c Fc hc).trans (I.base.keep b o e n hb hx)
  .obtain⟨sl,J⟩:=I.base.slot b o e n hb hx;exact⟨sl,(hs.2 b<|VA<|DA (EA e)<|I.ok.cab x c Fc hc).trans J⟩
  .obtain⟨o',J⟩:=I.base.there b o e hx;exact⟨o',(hs.2 b<|VA<|DA (EA e)<|I.ok.cab x c Fc hc).trans J⟩
  .by_cases U:j=i
   .subst U;rw[hi]at J;cases J;rw[lB VY]at S;cases S;exact⟨u,r,.inr ⟨.inl hk,c,hc,LY⟩⟩
   .rw[aB<|Ne.symm U]at S;obtain⟨u',r',q⟩:=hl j y v' J S e3;refine⟨u',r',?_⟩;rcases q with q|⟨k,Y,e,z'⟩
    .exact .inl q
    .refine .inr ⟨k,Y,e,z'.sameBut hs ?_⟩;rintro rfl;exact U<|zKt hN J<|I.ok.inj _ _ _ e hc ▸ hi
  .by_cases Z6:Y=c
   .subst Z6;exact⟨_,LY⟩
   .obtain⟨w2,z2⟩:=I.cell y Y e;exact⟨w2,z2.sameBut hs Z6⟩
  .obtain⟨e,n,ne,nf,d⟩:=I.pin p hp;refine⟨(hs.2 p.1 ?_).trans e,n,ne,nf,d⟩;intro q;rw[q,Ww]at e;have q':oc=p.2:=wB e;exact d w' (by rw[<- q'];exact Fu)
theorem Oe{E:KD}{Q:Unit->Shared->Prop}(I:Inv X pins σ H s)(z:X.N.Nodup)(hi:X.N[i]?=some x)(hx:Loc X.env.scope x)(r:yk v u)(h:∀s',Inv X pins (σ.set i<|some v) H s'->Q () s')(hf:X.fn x=true\/X.env.scope.names.lookup x=some .local:=by first|exact .inl rfl|exact .inr rfl|assumption):wpAny M A (storeName X.env x u) Q E s:=
 zIX I z hi hx r (λs' j _=>h s' j) hf
theorem Inv.call'{s':Shared}(I:Inv X pins σ H s)(z:s'.os=s.os)(u:Un (fH X.stack) ch H H' s.heap s'.heap)(hok:HOk X.prog X.w H' s'.heap)(j:vG s'.gens)(J:∀b∈ch,(b∈X.ex\/X.s₀.heap.objs.size<=b)/\b≠X.env.locals/\(∀x c,X.env.cells.lookup x=some c->c≠b)/\∀p∈X.pn++pins,p.1≠b):Inv X pins σ H' s':=by
 obtain⟨h',g',d',t',o'⟩:=s';have e:o'=s.os:=z;subst e;exact I.call (g':=g') (t':=t') (d':=d') u hok j J
end
abbrev XK:=Value->Option Addr->Hp->Prop
abbrev St:=List<|Option V
abbrev VK:=V->Hp->Prop
abbrev TE:=St->Hp->VK->Prop
abbrev TT:=St->Hp->(Bool->Hp->Prop)->Prop
abbrev TA:=St->Hp->(List V->Hp->Prop)->Prop
structure IQ where
 nx:St->Hp->Prop
 rt:VK
 bk:St->Hp->Prop:=λ_ _=>False
 ct:St->Hp->Prop:=λ_ _=>False
abbrev TS:=IQ->St->Hp->Prop
def EP(X:Cx)(pins:oE)(σ:St)(Q:VK)(u:Value)(s':Shared):Prop:=∃v H',Inv X pins σ H' s'/\yk v u/\Q v H'
def TP(X:Cx)(pins:oE)(σ:St)(Q:Bool->Hp->Prop)(b:Bool)(s':Shared):Prop:=∃H',Inv X pins σ H' s'/\Q b H'
def AP(X:Cx)(pins:oE)(σ:St)(Q:List V->Hp->Prop)(us:List Value)(s':Shared):Prop:=∃vs H',Inv X pins σ H' s'/\yO vs us/\Q vs H'
def SP(X:Cx)(pins:oE)(D:IQ)(f:Flow)(s':Shared):Prop:=
 match f with
 |.next=>∃EC H',Inv X pins EC H' s'/\D.nx EC H'
 |.brk=>∃EC H',Inv X pins EC H' s'/\D.bk EC H'
 |.cont=>∃EC H',Inv X pins EC H' s'/\D.ct EC H'
 |.ret u=>∃v EC H',Inv X pins EC H' s'/\yk v u/\D.rt v H'
def PE(X:Cx)(e:Expr)(t:TE):Prop:=
 ∀(pins:oE)(s:Shared)(σ:St)(H:Hp)(Q:VK),Inv X pins σ H s->t σ H Q->wpAny (model X.prog X.w) X.A (eval e X.env) (EP X pins σ Q) X.xe s
def PT(X:Cx)(e:Expr)(t:TT):Prop:=
 ∀(pins:oE)(s:Shared)(σ:St)(H:Hp)(Q:Bool->Hp->Prop),Inv X pins σ H s->t σ H Q->wpAny (model X.prog X.w) X.A (isTrue e X.env<|eval e X.env) (TP X pins σ Q) X.xe s
def PW(X:Cx)(e:Expr)(t:TT):Prop:=
 ∀(whole:Sem Value)(pins:oE)(s:Shared)(σ:St)(H:Hp)(Q:Bool->Hp->Prop),Inv X pins σ H s->t σ H Q->wpAny (model X.prog X.w) X.A (isTrue e X.env whole) (TP X pins σ Q) X.xe s
theorem PW.pt(h:PW X e t):PT X e t:=h _
def PA(X:Cx)(es:List Expr)(t:TA):Prop:=
 ∀(pos:Pos)(pins:oE)(s:Shared)(σ:St)(H:Hp)(Q:List V->Hp->Prop),Inv X pins σ H s->t σ H Q->wpAny (model X.prog X.w) X.A (spliced<|backTo pos<|starEach es X.env) (AP X pins σ Q) X.xe s
def PS(X:Cx)(st:Stmt)(t:TS):Prop:=
 ∀(pins:oE)(s:Shared)(σ:St)(H:Hp)(D:IQ),Inv X pins σ H s->t D σ H->wpAny (model X.prog X.w) X.A (exec st X.env) (SP X pins D) X.xe s
def IL(X:Cx)(st:List Stmt)(t:TS):Prop:=
 ∀(pins:oE)(s:Shared)(σ:St)(H:Hp)(D:IQ),Inv X pins σ H s->t D σ H->wpAny (model X.prog X.w) X.A (execs st X.env) (SP X pins D) X.xe s
theorem RC{z:Type}{t:Sem z}{Q j:z->Shared->Prop}{M:Model}{A:Around}{E:KD}{s:Shared}(h:wpAny M A t Q E s)(hQ:∀a s,Q a s->j a s):wpAny M A t j E s:=wpAny_mono h hQ λ_ _ x=>x
end L2
namespace L2
open PySem PySem.Spec PyProof.Rows
section
variable {X:Cx}
theorem bin(ha:PE X a ta)(hb:PE X b tb){pins:oE}{R:V->V->Hp->Prop}(I:Inv X pins σ H s)(h:ta σ H λx H1=>tb σ H1 λy H2=>R x y H2){j:Type}{Q:j->Shared->Prop}{f:Value->Value->Sem j}(hf:∀v u s2 x y H2,Inv X pins σ H2 s2->yk x v->yk y u->R x y H2->wpAny (model X.prog X.w) X.A (f v u) Q X.xe s2):
  wpAny (model X.prog X.w) X.A (eval a X.env) (λv J=>wpAny (model X.prog X.w) X.A (eval b X.env) (λu z=>wpAny (model X.prog X.w) X.A (f v u) Q X.xe z) X.xe J) X.xe s:=by
 refine RC (ha pins s σ H _ I h) λv s1 zz=>?_
 obtain⟨x,H1,I1,r1,O⟩:=zz;refine RC (hb pins s1 σ H1 _ I1 O) λu s2 zz=>?_
 obtain⟨y,H2,I2,r2,S⟩:=zz;exact hf v u s2 x y H2 I2 r1 r2 S
def RF(i:Nat):TE:=λσ H Q=>∃v,σ[i]?=some (some v)/\Q v H
def tC(v:V):TE:=λ_ H Q=>Q v H
theorem zUn(J:X.N[i]?=some x)(hv:Co X.env.scope x)(hd:(x==("__debug__" : Str))=false:=by decide)(z:(x==("__classdict__" : Str))=false:=by decide):PE X (.Name x pos) (RF i):=by
 intro pins s σ H Q I h;obtain⟨v,e,h⟩:=h;obtain⟨m,S,O⟩:=I.loc;obtain⟨u,r,l⟩:=O i x v J e hv;have fin:EP X pins σ Q u s:=⟨v,H,I,r,h⟩
 rcases l with⟨hk,hm⟩|⟨hk,c,hc,j⟩
 .exact cW (wpAny_loadName_local I.ok.kind hk S hm fin) hd
 .rcases hk with hk|hk
  .exact cW (wpAny_loadName_cell I.ok.kind hk hc j fin) hd
  .exact cW (wpAny_loadName_free I.ok.kind hk hc j fin z) hd
theorem O9{i j pos}:PE X (.Constant (.int i) j pos) (tC<|.int i):=λ_ _ _ H _ I h=>wpAny_Constant_int ⟨.int i,H,I.tok _,⟨_,rfl⟩,h⟩
theorem LZ{b j pos}:PE X (.Constant (.bool b) j pos) (tC<|.bl b):=λ_ _ _ H _ I h=>Constant_bool ⟨.bl b,H,I,rfl,h⟩
theorem zUo{j pos}:PE X (.Constant .none j pos) (tC .non):=λ_ _ _ H _ I h=>Constant_none ⟨.non,H,I,rfl,h⟩
theorem zRf{x j pos}:PE X (.Constant (.str x) j pos) (tC<|.str x):=λ_ _ _ H _ I h=>CI ⟨.str x,H,I.tok _,⟨_,rfl⟩,h⟩
def Gl(X:Cx)(x:Str):Prop:=X.env.kindOf x=some .globalImplicit
theorem B9{E:KD}{Q:KD}(I:Inv X pins σ H s)(j:Gl X x)(hm:X.mg x=some u)(h:Q u s)(hd:(x==("__debug__" : Str))=false:=by decide):wpAny (model X.prog X.w) X.A (eval (.Name x pos) X.env) Q E s:=
 CK I.ok.kind j (Calls.loadGlobal_global (by rw[I.ok.glob];exact I.mod.glob.keeps I.bk) hm h) hd
theorem UW{E:KD}{Q:KD}(I:Inv X pins σ H s)(j:Gl X x)(hm:X.mg x=none)(hv:HB x=some u)(h:Q u s)(z:x ≠ "__name__":=by decide)(hd:(x==("__debug__" : Str))=false:=by decide):wpAny (model X.prog X.w) X.A (eval (.Name x pos) X.env) Q E s:=by
 obtain⟨J,h1,h2⟩:=I.mod.blt;exact CK I.ok.kind j (Calls.loadGlobal_builtin (by rw[I.ok.glob];exact I.mod.glob.keeps I.bk) hm (by rw[I.ok.blt];exact h1.keeps I.bk) ((h2 x z).trans hv) h) hd
theorem zSR(j:Gl X x)(hm:X.mg x=none)(hv:HB x=some u)(r:yk v u)(z:x ≠ "__name__":=by decide)(hd:(x==("__debug__" : Str))=false:=by decide):PE X (.Name x pos) (tC v):=
 λ_ _ _ H _ I h=>UW I j hm hv ⟨v,H,I,r,h⟩ z hd
def t2I(ta tb:TE)(k:Int->Int->Hp->Prop):St->Hp->Prop:=λσ H=>ta σ H λx H1=>tb σ H1 λy H2=>∃i j,x=.int i/\y=.int j/\k i j H2
variable {a b:Expr}{ta tb:TE}{pos:Pos}
def PC(X:Cx)(op:CmpOp)(a b:Expr)(t:TE):Prop:=
 ∀(pins:oE)(s:Shared)(σ:St)(H:Hp)(Q:VK),Inv X pins σ H s->t σ H Q ->
  wpAny (model X.prog X.w) X.A (eval a X.env) (λv mC=>wpAny (model X.prog X.w) X.A (eval b X.env) (λu aI=>wpAny (model X.prog X.w) X.A (compareOp op v u) (EP X pins σ Q) X.xe aI) X.xe mC) X.xe s
theorem zKv(b:Expr)(h:op≠.In)(h2:op≠.NotIn):behindInMarks op b=false:=by
 have j:(op==CmpOp.In)=false:=by cases op<;>first|rfl|exact absurd rfl h
 have z:(op==CmpOp.NotIn)=false:=by cases op<;>first|rfl|exact absurd rfl h2
 cases b<;>simp[behindInMarks,j,z]
def Ia(p:Int->Int->Bool)(ta tb:TE):TE:=λσ H Q=>t2I ta tb (λi j H2=>Q (.bl<|p i j) H2) σ H
abbrev tGt:TE->TE->TE:=Ia λi j=>decide<|j<i
def tB(t:TE):TT:=λσ H Q=>t σ H λx H1=>∃c,x=.bl c/\Q c H1
theorem zUp(h:PC X op a b t)(h1:behindInMarks op b=false:=by first|exact zKv _ (by decide) (by decide)|rfl):PE X (.Compare a [op] [b] pos) t:=λpins s σ H Q I j=>wpAny_Compare1 (h pins s σ H Q I j) h1
theorem Qv{op:CmpOp}{t:TE}(h:PC X op a b t)(h1:behindInMarks op b=false:=by first|exact zKv _ (by decide) (by decide)|rfl):PT X (.Compare a [op] [b] pos) (tB t):=by
 intro pins s σ H Q I j;refine wpAny_isTrue_Compare1 (RC (h pins s σ H _ I j) λv s1 h1=>RC h1 λu s2 h2=>RC h2 λc s3 ⟨x,H1,I1,r1,z⟩=>?_) h1;obtain⟨d,rfl,q⟩:=z;cases r1;exact wpAny_truthy_bool ⟨H1,I1,q⟩
variable {tA v7:TT}{rest:List Expr}
def Hy(t u:TT):TT:=λσ H Q=>t σ H λc H1=>if c=true then u σ H1 Q else Q false H1
def tOr(t u:TT):TT:=λσ H Q=>t σ H λc H1=>if c=true then Q true H1 else u σ H1 Q
def Ij(t:TT):TT:=λσ H Q=>t σ H λc H1=>Q (!c) H1
theorem zSS(ha:PT X a tA):PW X (.BoolOp .And [a] pos) tA:=by
 intro j pins s σ H Q I h;refine isTrue_and (RC (ha pins s σ H Q I h) λc s1 e=>?_)
 cases c with
 |true=>exact isTrue_and_nil e
 |false=>exact e
theorem zUq(ha:PT X a tA):PW X (.BoolOp .Or [a] pos) tA:=by
 intro j pins s σ H Q I h;refine isTrue_or (RC (ha pins s σ H Q I h) λc s1 e=>?_)
 cases c with
 |false=>exact isTrue_or_nil e
 |true=>exact e
theorem zUr(ha:PT X a tA)(hb:PW X (.BoolOp .And (b::rest) pos) v7):PW X (.BoolOp .And (a::b::rest) pos) (Hy tA v7):=by
 intro z pins s σ H Q I h;refine isTrue_and (RC (ha pins s σ H _ I h) λc s1 zz=>?_);obtain⟨H1,I1,j⟩:=zz
 cases c with
 |true=>exact hb z pins s1 σ H1 Q I1 j
 |false=>exact⟨H1,I1,j⟩
theorem QZ(ha:PT X a tA)(hb:PW X (.BoolOp .Or (b::rest) pos) v7):PW X (.BoolOp .Or (a::b::rest) pos) (tOr tA v7):=by
 intro z pins s σ H Q I h;refine isTrue_or (RC (ha pins s σ H _ I h) λc s1 zz=>?_);obtain⟨H1,I1,j⟩:=zz
 cases c with
 |true=>exact⟨H1,I1,j⟩
 |false=>exact hb z pins s1 σ H1 Q I1 j
theorem zUs(ha:PT X a tA):PT X (.UnaryOp .Not a pos) (Ij tA):=by
 intro pins s σ H Q I h;exact isTrue_not (ha pins s σ H (λc H1=>Q (!c) H1) I h)
def E1(ta tb:TE):TE:=λσ H Q=>ta σ H λx H1=>∃c,x=.bl c/\if c=true then tb σ H1 Q else Q (.bl false) H1
def Ik(ta tb:TE):TE:=λσ H Q=>ta σ H λx H1=>∃c,x=.bl c/\if c=true then Q (.bl true) H1 else tb σ H1 Q
def V1(ta:TE):TE:=λσ H Q=>ta σ H λx H1=>∃c,x=.bl c/\Q (.bl<|!c) H1
theorem zUt{op}(h:PE X a t):PE X (.BoolOp op [a] pos) t:=λpins s σ H Q I j=>BoolOp_one<|h pins s σ H Q I j
theorem zUu(ha:PE X a ta)(hb:PE X (.BoolOp .And (b::rest) pos) tb):PE X (.BoolOp .And (a::b::rest) pos) (E1 ta tb):=by
 intro pins s σ H Q I h;refine BoolOp_and (RC (ha pins s σ H _ I h) λv s1 zz=>?_);obtain⟨x,H1,I1,r1,j⟩:=zz;obtain⟨c,rfl,j⟩:=j;cases r1;refine wpAny_truthy_bool ?_
 cases c with
 |true=>exact hb pins s1 σ H1 Q I1 j
 |false=>exact⟨.bl false,H1,I1,rfl,j⟩
theorem NZ(ha:PE X a ta)(hb:PE X (.BoolOp .Or (b::rest) pos) tb):PE X (.BoolOp .Or (a::b::rest) pos) (Ik ta tb):=by
 intro pins s σ H Q I h;refine BoolOp_or (RC (ha pins s σ H _ I h) λv s1 zz=>?_);obtain⟨x,H1,I1,r1,j⟩:=zz;obtain⟨c,rfl,j⟩:=j;cases r1;refine wpAny_truthy_bool ?_
 cases c with
 |false=>exact hb pins s1 σ H1 Q I1 j
 |true=>exact⟨.bl true,H1,I1,rfl,j⟩
theorem zUv(ha:PE X a ta):PE X (.UnaryOp .Not a pos) (V1 ta):=by
 intro pins s σ H Q I h;refine UnaryOp_ (RC (ha pins s σ H _ I h) λv s1 zz=>?_);obtain⟨x,H1,I1,r1,j⟩:=zz;obtain⟨c,rfl,j⟩:=j;cases r1;exact not_of<|wpAny_truthy_bool ⟨.bl<|!c,H1,I1,rfl,j⟩
def tIf(t:TT)(ta tb:TE):TE:=λσ H Q=>t σ H λc H1=>if c=true then ta σ H1 Q else tb σ H1 Q
theorem zP0{c:Expr}(hc:PT X c tA)(ha:PE X a ta)(hb:PE X b tb):PE X (.IfExp c a b pos) (tIf tA ta tb):=by
 intro pins s σ H Q I h;refine wpAny_IfExp (RC (hc pins s σ H _ I h) λd s1 zz=>?_);obtain⟨H1,I1,j⟩:=zz
 cases d with
 |true=>exact ha pins s1 σ H1 Q I1 j
 |false=>exact hb pins s1 σ H1 Q I1 j
end
end L2
namespace L2
open PySem PySem.Spec PyProof.Rows
def GF(K:Fg)(H:Hp)(a:Addr)(xs:List V):Prop:=
 Rd H a (.lst xs) \/
  ∃(o:Obj)(its:Array Value)(n:Nat),K.lookup a=some o/\o.cls=.type "list"/\o.dict=none/\o.data=.seq its n/\its.size<=sizeLine/\yO xs its.toList
def GI(K:Fg)(H:Hp)(a:Addr)(xs:List V):Prop:=
 Rd H a (.tup xs) \/
  ∃(o:Obj)(its:Array Value)(n:Nat),K.lookup a=some o/\o.cls=.type "tuple"/\o.dict=none/\o.data=.seq its n/\its.size<=sizeLine/\yO xs its.toList
noncomputable def Cq:Value->Option V
 |.none=>some .non
 |.bool b=>some<|.bl b
 |.int i _=>some<|.int i
 |.str x _=>some<|.str x
 |.bytes b _=>some<|.byt b
 |.float b _=>some<|.flt b
 |.ref a=>some<|.ref a
 |.type n=>some<|.ty n
 |_=>none
theorem yk.abs(r:yk x u):Cq u=some x:=by
 cases x with
 |non=>cases r;rfl
 |bl _=>cases r;rfl
 |int _=>obtain⟨t,rfl⟩:=r;rfl
 |str _=>obtain⟨t,rfl⟩:=r;rfl
 |byt _=>obtain⟨t,rfl⟩:=r;rfl
 |flt _=>obtain⟨t,rfl⟩:=r;rfl
 |ref _=>cases r;rfl
 |ty _=>cases r;rfl
theorem yk.inj{x y:V}{u:Value}(r:yk x u)(q:yk y u):x=y:=wB<|r.abs.symm.trans q.abs
theorem yO.inj:∀{xs ys:List V}{us:List Value},yO xs us->yO ys us->xs=ys
 |_,_,_,.nil,.nil=>rfl
 |_,_,_,.cons r t,.cons r' t'=>by rw[r.inj r',yO.inj t t']
section
variable {X:Cx}{pins:oE}{σ:St}{H:Hp}{s:Shared}{a:Addr}{xs ys:List V}
theorem GF.of{K:Fg}(h:H a=some (.lst xs)):GF K H a xs:=.inl<|.inl h
theorem GI.of{K:Fg}(h:H a=some (.tup xs)):GI K H a xs:=.inl<|.inl h
theorem Inv.list(I:Inv X pins σ H s)(h:GF X.K H a xs):∃its:List Value,yO xs its/\PlainL s.heap a its.toArray/\xs.length<=sizeLine:=by
 rcases h with h|⟨o,its,n,hk,hc,hd,hs,hz,r⟩
 .obtain⟨z,its,n,r,e⟩:=h.ok I.hok;exact⟨its,r,⟨_,n,e,rfl,rfl,rfl⟩,z⟩
 .refine⟨its.toList,r,⟨o,n,I.kIn a o hk,hc,hd,by simpa using hs⟩,?_⟩;have e:=r.length;simp only[jE]at e;omega
theorem Inv.tupleN(I:Inv X pins σ H s)(h:GI X.K H a xs):∃its:List Value,yO xs its/\VN s.heap a its.toArray/\xs.length<=sizeLine:=by
 rcases h with h|⟨o,its,n,hk,hc,hd,hs,hz,r⟩
 .obtain⟨z,its,r,p⟩:=h.ok I.hok;exact⟨its,r,p,z⟩
 .refine⟨its.toList,r,⟨o,I.kIn a o hk,hc,n,by simpa using hs,hd⟩,?_⟩;have e:=r.length;simp only[jE]at e;omega
theorem Inv.tuple(I:Inv X pins σ H s)(h:GI X.K H a xs):∃its:List Value,yO xs its/\cP s.heap a its.toArray/\xs.length<=sizeLine:=
 let ⟨its,r,p,z⟩:=I.tupleN h
 ⟨its,r,p.tup,z⟩
theorem Inv.list_inj(I:Inv X pins σ H s)(h:GF X.K H a xs)(h':GF X.K H a ys):xs=ys:=by
 obtain⟨its,r,⟨o,n,e,_,_,d⟩,_⟩:=I.list h;obtain⟨its',j,⟨o',z,e',_,_,d'⟩,_⟩:=I.list h';rw[e]at e';cases e';rw[d]at d';injection d' with d1 _;have:its=its':=by simpa using congrArg QV d1
 subst this;exact r.inj j
theorem Inv.tuple_inj(I:Inv X pins σ H s)(h:GI X.K H a xs)(h':GI X.K H a ys):xs=ys:=by
 obtain⟨its,r,⟨o,e,_,n,d⟩,_⟩:=I.tuple h;obtain⟨its',j,⟨o',e',_,z,d'⟩,_⟩:=I.tuple h';rw[e]at e';cases e';rw[d]at d';injection d' with d1 _;have:its=its':=by simpa using congrArg QV d1
 subst this;exact r.inj j
end
noncomputable abbrev Cx.wish(X:Cx)(E:KD):Cx:={ X with xe:=E }
abbrev Cx.nox(X:Cx):Cx:=X.wish λ_ _=>False
theorem Cx.Ok.wish{X:Cx}(ok:X.Ok)(E:KD):(X.wish E).Ok:=
 ⟨ok.mod,ok.kind,ok.glob,ok.blt,ok.above,ok.inj,ok.has,ok.cab,ok.hd,ok.frames,ok.stk,ok.exf,ok.bs,ok.bsz,ok.noex,ok.exfs,ok.funs,ok.frf⟩
theorem Cx.Ok.unwish{X:Cx}{E:KD}(ok:(X.wish E).Ok):X.Ok:=
 ⟨ok.mod,ok.kind,ok.glob,ok.blt,ok.above,ok.inj,ok.has,ok.cab,ok.hd,ok.frames,ok.stk,ok.exf,ok.bs,ok.bsz,ok.noex,ok.exfs,ok.funs,ok.frf⟩
section
variable {X:Cx}{pins:oE}{σ:St}{H:Hp}{s:Shared}{E:KD}
theorem Inv.wish(I:Inv X pins σ H s)(E:KD):Inv (X.wish E) pins σ H s:=⟨I.ok.wish E,I.os,I.bare,I.base,I.loc,I.cell,I.free,I.freeC,I.pin,I.hok,I.len⟩
theorem Inv.unwish(I:Inv (X.wish E) pins σ H s):Inv X pins σ H s:=⟨I.ok.unwish,I.os,I.bare,I.base,I.loc,I.cell,I.free,I.freeC,I.pin,I.hok,I.len⟩
theorem SP.unwish(h:SP (X.wish E) pins D f s'):SP X pins D f s':=by
 cases f with
 |next=>obtain⟨j,H',I,q⟩:=h;exact⟨j,H',I.unwish,q⟩
 |brk=>obtain⟨j,H',I,q⟩:=h;exact⟨j,H',I.unwish,q⟩
 |cont=>obtain⟨j,H',I,q⟩:=h;exact⟨j,H',I.unwish,q⟩
 |ret u=>obtain⟨v,j,H',I,r,q⟩:=h;exact⟨v,j,H',I.unwish,r,q⟩
theorem IL.nox{st:List Stmt}(h:IL X.nox st t):IL X st t:=λpins s σ H D I j=>
 wpAny_mono (h pins s σ H D (I.wish _) j) (λ_ _ q=>q.unwish) λ_ _ z=>False.elim z
end
section
variable {X:Cx}{st:Stmt}{rest:List Stmt}{t u:TS}{e:Expr}{te:TE}{pos:Pos}
def U1:TS:=λD σ H=>D.nx σ H
def Im(t u:TS):TS:=λD σ H=>t { D with nx:=u D } σ H
theorem zST:IL X [] U1:=λ_ _ σ H _ I h=>wpAny_execs_nil ⟨σ,H,I,h⟩
theorem zKw(h1:PS X st t)(h2:IL X rest u):IL X (st::rest) (Im t u):=by
 intro pins s σ H D I h;refine wpAny_execs_cons (RC (h1 pins s σ H { D with nx:=u D } I h) λf s1 q=>?_)
 cases f with
 |next=>
  obtain⟨j,H',z,q⟩:=q
  exact h2 pins s1 j H' D z q
 |ret v=>exact q
 |brk=>exact q
 |cont=>exact q
theorem zNE(h1:PS X st t):IL X [st] t:=by
 intro pins s σ H D I h;refine wpAny_execs_cons (RC (h1 pins s σ H D I h) λf s1 q=>?_)
 cases f with
 |next=>exact wpAny_execs_nil q
 |ret v=>exact q
 |brk=>exact q
 |cont=>exact q
def P1:TS:=λD σ H=>D.ct σ H
theorem zJv:PS X (.Continue pos) P1:=λ_ _ σ H _ I h=>wpAny_Continue ⟨σ,H,I,h⟩
theorem Inv.quiet{pins:oE}{σ:St}{H:Hp}{s:Shared}(I:Inv X pins σ H s):interactive X.env=false:=by simp[interactive,I.ok.kind]
def S1(te:TE):TS:=λD σ H=>te σ H λ_ H1=>D.nx σ H1
theorem rR(he:PE X e te)(hs:gF e none pos.line X.env=pure false:=by rfl):PS X (.Expr e pos) (S1 te):=by
 intro pins s σ H D I h;exact wpAny_Expr_any (RC (he pins s σ H _ I h) λv s1 ⟨x,H1,I1,r1,j⟩=>⟨σ,H1,I1,j⟩) I.quiet hs
def Il(te:TE):TS:=λD σ H=>te σ H D.rt
theorem VW(he:PE X e te):PS X (.Return (some e) pos) (Il te):=by
 intro pins s σ H D I h;exact wpAny_Return_some (RC (he pins s σ H _ I h) λv s1 ⟨x,H1,I1,r1,j⟩=>⟨x,σ,H1,I1,r1,j⟩)
def Ih(c:TT)(t u:TS):TS:=λD σ H=>c σ H λb H1=>if b=true then t D σ H1 else u D σ H1
theorem zUw{a b:List Stmt}(hc:PT X c tc)(ha:IL X a t)(hb:IL X b u):PS X (.If c a b pos) (Ih tc t u):=by
 intro pins s σ H D I h;refine wpAny_If (RC (hc pins s σ H _ I h) λd s1 zz=>?_);obtain⟨H1,I1,j⟩:=zz
 cases d with
 |true=>exact ha pins s1 σ H1 D I1 j
 |false=>exact hb pins s1 σ H1 D I1 j
def zUx:TS:=λ_ _ _=>False
theorem zP1:PS X st zUx:=λ_ _ _ _ _ _ h=>h.elim
end
abbrev TG:=V->St->Hp->(St->Hp->Prop)->Prop
abbrev VT:=List V->St->Hp->(St->Hp->Prop)->Prop
def PG(X:Cx)(target:Expr)(t:TG):Prop:=
 ∀(pins:oE)(s:Shared)(σ:St)(H:Hp)(v:V)(u:Value)(Q:St->Hp->Prop),Inv X pins σ H s->yk v u->t v σ H Q ->
  wpAny (model X.prog X.w) X.A (assign target X.env u) (λ_ s'=>∃EC H',Inv X pins EC H' s'/\Q EC H') X.xe s
def RT(X:Cx)(ts:List Expr)(t:VT):Prop:=
 ∀(pins:oE)(s:Shared)(σ:St)(H:Hp)(vs:List V)(us:List Value)(Q:St->Hp->Prop),Inv X pins σ H s->yO vs us->t vs σ H Q ->
  wpAny (model X.prog X.w) X.A (assignInOrder ((assignEach ts X.env).map (·.2)) us) (λ_ s'=>∃EC H',Inv X pins EC H' s'/\Q EC H') X.xe s
abbrev WT:=V->V->V->Hp->(Hp->Prop)->Prop
def WX(X:Cx)(t:WT):Prop:=
 ∀(pins:oE)(s:Shared)(σ:St)(H:Hp)(o i v:V)(ov iv u:Value)(Q:Hp->Prop),Inv X pins σ H s->yk o ov->yk i iv->yk v u->t o i v H Q ->
  wpAny (model X.prog X.w) X.A (setItem ov iv u) (λ_ s'=>∃H',Inv X pins σ H' s'/\Q H') X.xe s
section
variable {X:Cx}{pos:Pos}
def zUy(i:Nat):TG:=λv σ H Q=>Q (σ.set i<|some v) H
theorem zSU(z:X.N.Nodup)(hi:X.N[i]?=some x)(hx:Loc X.env.scope x)(hf:X.fn x=true\/X.env.scope.names.lookup x=some .local:=by first|exact .inl rfl|exact .inr rfl|assumption):PG X (.Name x pos) (zUy i):=by
 intro pins s σ H v u Q I r h;exact wpAny_assign_Name (Oe I z hi hx r (λs' j=>⟨_,H,j,h⟩) hf)
def Eg:VT:=λvs σ H Q=>vs=[]/\Q σ H
def CY(t:TG)(u:VT):VT:=λvs σ H Q=>∃v r,vs=v::r/\t v σ H λEC H'=>u r EC H' Q
theorem zSV:RT X [] Eg:=by
 intro pins s σ H vs us Q I r h;obtain⟨e,h⟩:=h;subst e;cases r;exact assignInOrder_nil ⟨σ,H,I,h⟩
theorem zP2{es:List Expr}(h1:PG X e t)(h2:RT X es u)(hs:(assignEach (e::es) X.env).map (·.2)=assign e X.env::(assignEach es X.env).map (·.2):=by rfl):RT X (e::es) (CY t u):=by
 intro pins s σ H vs us Q I r h;obtain⟨v,S,z,h⟩:=h;subst z
 cases r with
 |cons r O=>
  rw[hs];refine assignInOrder_cons (RC (h1 pins s σ H _ _ _ I r h) λ_ s1 zz=>?_);obtain⟨j,H1,I1,J⟩:=zz;exact h2 pins s1 j H1 _ _ Q I1 O J
def Ei(K:Fg)(n:Nat)(t:VT):TG:=λv σ H Q=>∃a xs,v=.ref a/\GI K H a xs/\xs.length=n/\t xs σ H Q
theorem zUz(hc:X.calm=true)(h:RT X es t)(S:(assignEach es X.env).length=n:=by rfl)(XJ:(assignEach es X.env).findIdx? (·.1)=none:=by rfl):PG X (.Tuple es k pos) (Ei X.K n t):=by
 intro pins s σ H v u Q I r j;obtain⟨a,xs,J,hq,O,j⟩:=j;subst J;cases r;obtain⟨its,z,ht,hz⟩:=I.tuple hq;refine assign_Tuple_tuple (I.ok.hd hc) ht (by simp[S,<- O,z.length]) XJ λh' hx=>?_
 have I1:Inv X pins σ H { s with heap:=h' }:=I.kept (t':=s.toks) λb o e=>hx b o (VA<|EA e) e
 exact h pins _ σ H xs _ Q I1 (by simpa using z) j
def Eh(to ti:TE)(t:WT):TG:=λv σ H Q=>to σ H λo H1=>ti σ H1 λi H2=>t o i v H2 λH3=>Q σ H3
theorem zRg{o i:Expr}{to J:TE}{t:WT}(U:PE X o to)(hi:PE X i J)(hs:WX X t)
  (ha:∀v,assign (.Subscript o i pos) X.env v=(do
   let j <- holding [v] (eval o X.env)
   let z <- holding [v,j] (eval i X.env)
   standAt pos
   holding [v,j,z] (setItem j z v)
   release [v,j,z] []):=by intro _;rfl):PG X (.Subscript o i pos) (Eh to J t):=by
 intro pins s σ H v u Q I r h;rw[ha];refine wpAny_bind (wpAny_holding<|RC (U pins s σ H _ I h) λj s1 zz=>?_);obtain⟨x,H1,I1,r1,Y⟩:=zz;refine wpAny_bind (wpAny_holding<|RC (hi pins s1 σ H1 _ I1 Y) λz s2 zz=>?_);obtain⟨y,H2,I2,r2,Z⟩:=zz;refine wpAny_bind (wpAny_standAt<|wpAny_bind<|wpAny_holding<|RC (hs pins s2 σ H2 x y v j z u _ I2 r1 r2 r Z) λ_ s3 zz=>?_);obtain⟨O,S,q3⟩:=zz;exact wpAny_release ⟨σ,O,S,q3⟩
def M1(te:TE)(g:TG):TS:=λD σ H=>te σ H λx H1=>g x σ H1 D.nx
theorem Qw{tg e:Expr}{te:TE}{g:TG}(he:PE X e te)(j:PG X tg g)(hs:KJ [tg] e pos.line X.env=pure false:=by rfl)(z:JJ [tg] e X.env=pure none:=by rfl)
  (h1:(assignEach [tg] X.env).map (·.2)=[assign tg X.env]:=by rfl):PS X (.Assign [tg] e pos) (M1 te g):=by
 intro pins s σ H D I h;refine wpAny_Assign_stores (RC (he pins s σ H _ I h) λv s1 ⟨x,H1,I1,r1,J⟩=>?_) hs z;rw[h1];exact RC (j pins s1 σ H1 x v _ I1 r1 J) λ_ s2 q=>q
theorem LO{i:Nat}{x:Str}(j:X.N.Nodup)(hi:X.N[i]?=some x)(hx:Loc X.env.scope x)(he:PE X e te)(hs:gF e (some<|.Name x pos') pos.line X.env=pure false:=by rfl)(hf:X.fn x=true\/X.env.scope.names.lookup x=some .local:=by first|exact .inl rfl|exact .inr rfl|assumption):
  PS X (.Assign [.Name x pos'] e pos) (M1 te<|zUy i):=by
 intro pins s σ H D I h;refine wpAny_Assign_Name (RC (he pins s σ H _ I h) λv s1 ⟨y,H1,I1,r1,z⟩=>?_) hs;exact Oe I1 j hi hx r1 (λs2 I2=>⟨_,H1,I2,z⟩) hf
end
section
variable {X:Cx}{pos:Pos}
def zU0(c:TT)(tb:TS):TS:=λD σ H=>∃W:Nat->St->Hp->Prop,(∃m,W m σ H)/\∀m σ H,W m σ H ->
 c σ H λb H1=>if b=true then ∃N:St->Hp->Prop,(∀EC H',N EC H'->∃m',m'<m/\W m' EC H')/\tb { D with nx:=N,ct:=N,bk:=D.nx } σ H1 else D.nx σ H1
theorem zKx{body:List Stmt}(hp:PassesOwn (model X.prog X.w) X.A X.env X.xe)(hc:PT X c tc)(hb:IL X body tb):PS X (.While c body [] pos) (zU0 tc tb):=by
 intro pins s σ H D I h;obtain⟨W,⟨m0,w0⟩,turn⟩:=h;refine wpAny_While (codeAny_whileLoop (λn s'=>∃EC H',Inv X pins EC H' s'/\W n EC H') ?_ m0 ⟨σ,H,I,w0⟩);rintro n s1 ⟨J,H1,I1,w1⟩;refine wpAny_passesOwn hp (RC (hc pins s1 J H1 _ I1<|turn n J H1 w1) λb s2 zz=>?_);obtain⟨H2,I2,O⟩:=zz
 cases b with
 |true=>
  obtain⟨N,hN,O⟩:=O;rw[if_pos rfl];refine wpAny_passesOwn hp (RC (hb pins s2 J H2 _ I2 O) λf s3 S=>?_)
  cases f with
  |next=>
   obtain⟨z,j,U,Z⟩:=S;obtain⟨Y,hm,w3⟩:=hN z j Z
   exact⟨Y,hm,z,j,U,w3⟩
  |cont=>
   obtain⟨z,j,U,Z⟩:=S;obtain⟨Y,hm,w3⟩:=hN z j Z
   exact⟨Y,hm,z,j,U,w3⟩
  |brk=>exact S
  |ret v=>exact S
 |false=>
  rw[if_neg YA];exact wpAny_execs_nil ⟨J,H2,I2,O⟩
end
structure It where
 go:Nat->Hp->Prop
 yld:Nat->Hp->V->Hp->Prop
 stop:Nat->Hp->Prop
def PH(X:Cx)(pins:oE)(H:Hp)(b:Addr):Prop:=
 H b=none/\b≠X.env.locals/\b∉X.fs/\(b∈X.ex\/X.s₀.heap.objs.size<=b)/\(∀x c,X.env.cells.lookup x=some c->c≠b)/\∀p∈X.pn++pins,p.1≠b
theorem Inv.fpOk{s:Shared}(I:Inv X pins σ H s)(hb:s.heap.objs.size<=b)(j:H' b=none):PH X pins H' b:=by
 refine⟨j,lH<|DA I.lt hb,I.nofs hb,.inr<|QA I.sz hb,λx c e z=>?_,λp hp z=>?_⟩
 .obtain⟨v,q⟩:=I.cell x c e;exact absurd (DA q.lt (by rw[z];exact hb))<|HC _
 .exact absurd (DA (EA (I.pin p hp).1) (by rw[z];exact hb))<|HC _
structure mT(P:Program)(w:World)(K:Fg)(tg:Expr)(J:It)(fp:List Addr)(it:Addr)(tn:Nat->Heap->Prop):Prop where
 mem:it∈fp
 obj:∀i h,tn i h->∀b∈fp,∃o,h.get? b=some o/\∀v,o.data≠.cell v
 keep:∀i h h',tn i h->(∀b∈fp,∀o,h.get? b=some o->h'.get? b=some o)->tn i h'
 item:∀(X:Cx),X.prog=P->X.w=w->X.K=K->X.calm=true->∀(i:Nat)(pins:oE)(s:Shared)(σ:St)(H:Hp)(E:KD),Inv X pins σ H s->(∀b∈fp,PH X pins H b)->tn i s.heap->J.go i H ->
  wpAny (model P w) X.A (pyNext<|.ref it) (λr s1=>∃u,r=some u /\
   wpAny (model P w) X.A (letOwnedTupleGo tg (.ref it) u) (λ_ s2=>∃x H',Inv X pins σ H' s2/\yk x u/\J.yld i H x H'/\tn (i+1) s2.heap/\∀b∈fp,H' b=none) E s1) E s
 done:∀(X:Cx),X.prog=P->X.w=w->X.K=K->X.calm=true->∀(i:Nat)(pins:oE)(s:Shared)(σ:St)(H:Hp)(E:KD),Inv X pins σ H s->(∀b∈fp,PH X pins H b)->tn i s.heap->J.stop i H ->
  wpAny (model P w) X.A (pyNext<|.ref it) (λr s1=>r=none/\Inv X pins σ H s1) E s
 self:∀(A:Around)(i:Nat)(s:Shared)(Q:KD)(E:KD),tn i s.heap->Q (.ref it) s->wpAny (model P w) A (pyIter<|.ref it) Q E s
abbrev TI:=St->Hp->(It->Hp->Prop)->Prop
def Up(X:Cx)(pins:oE)(σ:St)(tg:Expr)(R:It->Hp->Prop)(lZ:Value)(s2:Shared):Prop:=
 ∃(it:Addr)(fp:List Addr)(tn:Nat->Heap->Prop)(J:It)(H':Hp),lZ=.ref it/\Inv X pins σ H' s2/\mT X.prog X.w X.K tg J fp it tn/\tn 0 s2.heap/\(∀b∈fp,PH X pins H' b)/\R J H'
def PI(X:Cx)(tg iter:Expr)(wi:TI):Prop:=
 ∀(pins:oE)(s:Shared)(σ:St)(H:Hp)(R:It->Hp->Prop),Inv X pins σ H s->wi σ H R ->
  wpAny (model X.prog X.w) X.A (eval iter X.env) (λv s1=>wpAny (model X.prog X.w) X.A (pyIter v) (Up X pins σ tg R) X.xe s1) X.xe s
theorem Ah{E:KD}{s:Shared}{o:Obj}{Q:Unit->Shared->Prop}(z:s.heap.get? it=some o)(hc:o.cls=.type n)(hd:o.data=.fields vs)(j : ["enumerate","zip","dict_itemiterator","dict_reverseitemiterator","odict_iterator","itertools.zip_longest","itertools.pairwise"].contains n=false)(hQ:Q () s):wpAny M A (letOwnedTupleGo tg (.ref it) u) Q E s:=by
 unfold letOwnedTupleGo
 cases tg<;>first
  |exact wpAny_pure hQ
  |(cases u<;>first
    |exact wpAny_pure hQ
    |(refine wpAny_bind (wpAny_load z ?_)
      rw[hc,hd];show wpAny M A (if (["enumerate","zip","dict_itemiterator","dict_reverseitemiterator","odict_iterator","itertools.zip_longest","itertools.pairwise"].contains n&&vs[0]? == some (rawInt _))=true then _ else _) Q E s;rw[if_neg (by intro h;rw[j,MH]at h;cases h)];exact wpAny_pure hQ))
noncomputable def Ci(K:Fg)(a:Addr):It:=
 ⟨λi H=>∃xs x,GF K H a xs/\xs[i]?=some x,λi H x H'=>H'=H/\∀xs,GF K H a xs->xs[i]?=some x,λi H=>∃xs,GF K H a xs/\xs.length<=i⟩
noncomputable def Cj(K:Fg)(a:Addr):It:=
 ⟨λi H=>∃xs x,GI K H a xs/\xs[i]?=some x,λi H x H'=>H'=H/\∀xs,GI K H a xs->xs[i]?=some x,λi H=>∃xs,GI K H a xs/\xs.length<=i⟩
def RX(lo:Int)(n:Nat):It:=⟨λi _=>i<n,λi H x H'=>H'=H/\x=.int (lo+i),λi _=>n<=i⟩
theorem zNG{P:Program}{w:World}{K:Fg}{tg:Expr}(a it:Addr):mT P w K tg (Ci K a) [it] it (λi h=>h.IsListIter it a i) where
 mem:=by simp
 obj:=λi h st b hb=>by
  have e:b=it:=by simpa using hb
  subst e;obtain⟨o,e,c,d⟩:=st;exact⟨o,e,λv z=>by rw[d]at z;cases z⟩
 keep:=λi h h' st k=>st.at λo e=>k it (by simp) o e
 item:=by
  intro X Y hw hK hc i pins s σ H E I hf st Z;subst Y hw hK;obtain⟨xs,x,hq,hx⟩:=Z;obtain⟨its,rv,p,hz⟩:=I.list hq;obtain⟨u,hu,ru⟩:=rv.get hx;obtain⟨j,J,f2,O,S,U⟩:=hf it (by simp);refine wpAny_pyNext_list_item st p.isList (x:=u) (by simpa using hu) λh' CC sb=>?_
  have I1:Inv X pins σ H { s with heap:=h' }:=I.turned (t':=s.toks) (λb o hb e=>(sb.2 b hb).trans e) j J O S U;obtain⟨o,e,c,d⟩:=id CC;exact⟨u,rfl,Ah (s:={ s with heap:=h' }) e c d (by decide) ⟨x,H,I1,ru,⟨rfl,λys hy=>by rw[I.list_inj hy hq];exact hx⟩,CC,λb hb=>(hf b hb).1⟩⟩
 done:=by
  intro X Y hw hK hc i pins s σ H E I hf st Z;subst Y hw hK;obtain⟨xs,hq,hx⟩:=Z;obtain⟨its,rv,p,hz⟩:=I.list hq;obtain⟨j,J,f2,O,S,U⟩:=hf it (by simp);have hl:=rv.length;exact wpAny_pyNext_list_end (I.ok.hd hc) st p.isList (by simp;omega) λh' eb=>⟨rfl,I.turned (t':=s.toks) (λb o hb e=>eb b o hb e) j J O S U⟩
 self:=λ_ _ _ _ _ st h=>wpAny_pyIter_listiter st h
theorem zME{P:Program}{w:World}{K:Fg}{tg:Expr}(a it:Addr):mT P w K tg (Cj K a) [it] it (λi h=>h.IsTupleIter it a i) where
 mem:=by simp
 obj:=λi h st b hb=>by
  have e:b=it:=by simpa using hb
  subst e;obtain⟨o,e,c,d⟩:=st;exact⟨o,e,λv z=>by rw[d]at z;cases z⟩
 keep:=λi h h' st k=>st.at λo e=>k it (by simp) o e
 item:=by
  intro X Y hw hK hc i pins s σ H E I hf st Z;subst Y hw hK;obtain⟨xs,x,hq,hx⟩:=Z;obtain⟨its,rv,p,hz⟩:=I.tuple hq;obtain⟨u,hu,ru⟩:=rv.get hx;obtain⟨j,J,f2,O,S,U⟩:=hf it (by simp);refine wpAny_pyNext_tuple_item st (show s.heap.IsTuple a its.toArray from p) (x:=u) (by simpa using hu) λh' CC sb=>?_
  have I1:Inv X pins σ H { s with heap:=h' }:=I.turned (t':=s.toks) (λb o hb e=>(sb.2 b hb).trans e) j J O S U;obtain⟨o,e,c,d⟩:=id CC;exact⟨u,rfl,Ah (s:={ s with heap:=h' }) e c d (by decide) ⟨x,H,I1,ru,⟨rfl,λys hy=>by rw[I.tuple_inj hy hq];exact hx⟩,CC,λb hb=>(hf b hb).1⟩⟩
 done:=by
  intro X Y hw hK hc i pins s σ H E I hf st Z;subst Y hw hK;obtain⟨xs,hq,hx⟩:=Z;obtain⟨its,rv,p,hz⟩:=I.tuple hq;obtain⟨j,J,f2,O,S,U⟩:=hf it (by simp);have hl:=rv.length;exact wpAny_pyNext_tuple_end (I.ok.hd hc) st (show s.heap.IsTuple a its.toArray from p) (by simp;omega) λh' eb=>⟨rfl,I.turned (t':=s.toks) (λb o hb e=>eb b o hb e) j J O S U⟩
 self:=λ_ _ _ _ _ st h=>wpAny_pyIter_tupleiter st h
theorem zMF{P:Program}{w:World}{K:Fg}{tg:Expr}(it:Addr)(lo:Int)(n:Nat):mT P w K tg (RX lo n) [it] it (λi h=>IsRangeIter h it (lo+(i:Nat)*1) ((n:Int)-(i:Nat)) 1) where
 mem:=by simp
 obj:=λi h st b hb=>by
  have e:b=it:=by simpa using hb
  subst e
  exact⟨_,st,λv z=>by
   have z':Data.fields _=Data.cell v:=z;cases z'⟩
 keep:=λi h h' st k=>k it (by simp) _ st
 item:=by
  intro X Y hw hK hc i pins s σ H E I hf st Z;subst Y hw hK;obtain⟨j,J,f2,O,S,U⟩:=hf it (by simp);have W:=Walks.range (prog:=X.prog) (w:=X.w) (I.ok.hd hc) it lo 1 n;refine W.item i s _ _ Z st λv h' tk hv CC kk=>?_
  obtain⟨t,rfl⟩:=hv;have I1:Inv X pins σ H { s with heap:=h',toks:=tk }:=I.turned (λb o hb e=>kk b o (by simpa using hb) e) j J O S U;refine⟨_,rfl,Ah (s:={ s with heap:=h',toks:=tk }) (n:="range_iterator") CC rfl rfl (by decide) ⟨.int<|lo+i,H,I1,⟨t,?_⟩,⟨rfl,rfl⟩,CC,λb hb=>(hf b hb).1⟩⟩;rw[Int.mul_one]
 done:=by
  intro X Y hw hK hc i pins s σ H E I hf st Z;subst Y hw hK;obtain⟨j,J,f2,O,S,U⟩:=hf it (by simp);exact wpAny_pyNext_range_end (I.ok.hd hc) st (by have:n<=i:=Z;omega) λh' eb=>⟨rfl,I.turned (t':=s.toks) (λb o hb e=>eb b o hb e) j J O S U⟩
 self:=λ_ _ _ _ _ st h=>wpAny_pyIter_rangeiter st h
end L2
namespace L2
open PySem PySem.Spec PyProof.Rows
section
variable {X:Cx}{tg:Expr}
def gZ(K:Fg)(tl:TE):TI:=λσ H R=>tl σ H λx H1=>∃a,x=.ref a/\(∃xs,GF K H1 a xs)/\R (Ci K a) H1
def Gj(K:Fg)(tl:TE):TI:=λσ H R=>tl σ H λx H1=>∃a,x=.ref a/\(∃xs,GI K H1 a xs)/\R (Cj K a) H1
theorem zSW{l:Expr}{tl:TE}(j:PE X l tl):PI X tg l (gZ X.K tl):=by
 intro pins s σ H R I h;refine RC (j pins s σ H _ I h) λv s1 zz=>?_
 obtain⟨x,H1,I1,r1,z⟩:=zz;obtain⟨a,e,⟨xs,hq⟩,q⟩:=z;subst e;cases r1;obtain⟨its,J,p,hz⟩:=I1.list hq;refine NX p.isList ?_;refine⟨s1.heap.objs.size,[s1.heap.objs.size],_,_,H1,rfl,I1.kept (t':=s1.toks) λb o e=>sA _ e,zNG a _,⟨_,KA _ rfl,rfl,rfl⟩,λb hb=>?_,q⟩;have e:b=s1.heap.objs.size:=by simpa using hb
 subst e;exact I1.fpOk (wA _)<|I1.hok.fresh<|wA _
theorem zU1{l:Expr}{tl:TE}(j:PE X l tl):PI X tg l (Gj X.K tl):=by
 intro pins s σ H R I h;refine RC (j pins s σ H _ I h) λv s1 zz=>?_
 obtain⟨x,H1,I1,r1,z⟩:=zz;obtain⟨a,e,⟨xs,hq⟩,q⟩:=z;subst e;cases r1;obtain⟨its,J,p,hz⟩:=I1.tuple hq;refine wpAny_pyIter_tuple (show s1.heap.IsTuple a its.toArray from p) ?_;refine⟨s1.heap.objs.size,[s1.heap.objs.size],_,_,H1,rfl,I1.kept (t':=s1.toks) λb o e=>sA _ e,zME a _,⟨_,KA _ rfl,rfl,rfl⟩,λb hb=>?_,q⟩;have e:b=s1.heap.objs.size:=by simpa using hb
 subst e;exact I1.fpOk (wA _)<|I1.hok.fresh<|wA _
theorem zKy{pins:oE}{s:Shared}{R:It->Hp->Prop}{E:KD}{lo hi:Int}{t u v:Tok}{tk:Nat}(I:Inv X pins σ H s)(h1 : -(2 ^ 62)<=lo)(h2:lo<2 ^ 62)(h3 : -(2 ^ 62)<=hi)(J:hi<2 ^ 62)(q:R (RX lo (hi-lo).toNat) H):wpAny (model X.prog X.w) X.A (pyIter<|.ref s.heap.objs.size) (Up X pins σ tg R) E { s with heap:=s.heap.push { cls:=.type "range",data:=.fields #[.int lo t,.int hi u,.int 1 v] },toks:=tk }:=by
 refine wpAny_pyIter_range (IsRange.new ..) (small_one h1 h2 h3 J) ?_;have I1:Inv X pins σ H { s with heap:=s.heap.push { cls:=.type "range",data:=.fields #[.int lo t,.int hi u,.int 1 v] },toks:=tk }:=I.kept λb o e=>sA _ e
 refine⟨(s.heap.push { cls:=.type "range",data:=.fields #[.int lo t,.int hi u,.int 1 v] }).objs.size,[(s.heap.push { cls:=.type "range",data:=.fields #[.int lo t,.int hi u,.int 1 v] }).objs.size],_,_,H,rfl,
  I1.kept (t':=tk) λb o e=>sA _ e,zMF _ lo (hi-lo).toNat,?_,λb hb=>?_,q⟩
 .have j:lo+((0:Nat):Int)*1=lo:=by simp
  have z:(((hi-lo).toNat:Nat):Int)-((0:Nat):Int)=W5 lo hi 1:=by rw[rangeSize_one];split<;>omega
  show IsRangeIter _ _ (lo+((0:Nat):Int)*1) ((((hi-lo).toNat:Nat):Int)-((0:Nat):Int)) 1;rw[j,z];exact KA _ rfl
 .have e:b=(s.heap.push { cls:=.type "range",data:=.fields #[.int lo t,.int hi u,.int 1 v] }).objs.size:=by simpa using hb
  subst e;exact I1.fpOk (wA _)<|I1.hok.fresh<|wA _
def hZ(ta:TA):TI:=λσ H R=>ta σ H λvs H1=>∃j:Int,vs=[.int j]/\-(2 ^ 62)<=j/\j<2 ^ 62/\R (RX 0 j.toNat) H1
def iZ(ta:TA):TI:=λσ H R=>ta σ H λvs H1=>∃i j:Int,vs=[.int i,.int j]/\(-(2 ^ 62)<=i/\i<2 ^ 62/\-(2 ^ 62)<=j/\j<2 ^ 62)/\R (RX i (j-i).toNat) H1
theorem zNH(J:Gl X "range")(hm:X.mg "range" = none)(ha:PA X [a] ta)(hs:starEach [a] X.env=[(false,eval a X.env)]:=by rfl):PI X tg (.Call (.Name "range" p) [a] [] pos) (hZ ta):=by
 intro pins s σ H R I h;refine Call_ (UW I J hm boot_range<|PyProof.Rows.callWith_type1 (RC (ha pos pins s σ H _ I h) λus s1 ⟨vs,H1,I1,r1,z⟩=>?_) hs rfl);obtain⟨j,e,z,O,q⟩:=z;subst e
 cases r1 with
 |cons r S=>
  cases S;obtain⟨t,rfl⟩:=r;exact call_range_1 (zKy I1 (by omega) (by omega) z O<|by simpa using q)
theorem zNI(S:Gl X "range")(hm:X.mg "range" = none)(ha:PA X [a,b] ta)(hs:starEach [a,b] X.env=[(false,eval a X.env),(false,eval b X.env)]:=by rfl)(O:starEach [b] X.env=[(false,eval b X.env)]:=by rfl):
  PI X tg (.Call (.Name "range" p) [a,b] [] pos) (iZ ta):=by
 intro pins s σ H R I h;refine Call_ (UW I S hm boot_range<|PyProof.Rows.callWith_type1 (RC (ha pos pins s σ H _ I h) λus s1 ⟨vs,H1,I1,r1,z⟩=>?_) (by rw[hs,O]) (by rw[O];rfl));obtain⟨i,j,e,⟨z,U,Y,Z⟩,q⟩:=z;subst e
 cases r1 with
 |cons r J=>
  cases J with
  |cons r' J=>
   cases J;obtain⟨t,rfl⟩:=r;obtain⟨t',rfl⟩:=r';exact call_range_2<|zKy I1 z U Y Z q
def Ie(wi:TI)(g:TG)(tb:TS):TS:=λD σ H=>wi σ H λJ H1=>∃W:Nat->Nat->St->Hp->Prop,(∃m,W 0 m σ H1)/\∀i m σ H,W i m σ H ->
 (J.stop i H/\D.nx σ H)\/(J.go i H/\∃N:St->Hp->Prop,(∀EC H',N EC H'->∃m',m'<m/\W (i+1) m' EC H')/\∀x H',J.yld i H x H'->g x σ H' λPV H2=>tb { D with nx:=N,ct:=N,bk:=D.nx } PV H2)
def J4(fp:List Addr)(h:Heap):oE:=fp.filterMap λb=>(h.get? b).map λo=>(b,o)
theorem l8{h:Heap}(hb:b∈fp)(e:h.get? b=some o):(b,o)∈J4 fp h:=ZA.mpr ⟨b,hb,by rw[e];rfl⟩
theorem zNJ{h:Heap}{p:Addr×Obj}(hp:p∈J4 fp h):p.1∈fp/\h.get? p.1=some p.2:=by
 obtain⟨b,hb,e⟩:=ZA.mp hp
 cases q:h.get? b with
 |none=>rw[q]at e;cases e
 |some o=>
  rw[q]at e;have e':(b,o)=p:=wB e;subst e';exact⟨hb,q⟩
theorem Inv.pinned{s:Shared}(I:Inv X pins σ H s)(hf:∀b∈fp,PH X pins H b)(U:∀b∈fp,∃o,s.heap.get? b=some o/\∀v,o.data≠.cell v):Inv X (pins++J4 fp s.heap) σ H s:=
 I.pins_of λp hp=>(oA.mp hp).elim (λz=>I.pin p<|IA _ z) λz=>by
  obtain⟨hb,e⟩:=zNJ z;obtain⟨j,O,S,_⟩:=hf p.1 hb;obtain⟨o,e',d⟩:=U p.1 hb;rw[e]at e';cases e';exact⟨e,j,O,S,d⟩
theorem Inv.unpinned(I:Inv X (pins++pl) σ H s):Inv X pins σ H s:=I.pins_of λp hp=>I.pin p<|IA _<|cB _ hp
theorem zU2(hp:PassesOwn (model X.prog X.w) X.A X.env X.xe)(hc:X.calm=true)(hi:PI X tg iter wi)(hg:PG X tg g)(hb:IL X body tb)(hs:∀x,jC iter X.env x=pure x:=by intro _;rfl):PS X (.For tg iter body [] pos) (Ie wi g tb):=by
 intro pins s σ H D I h;refine wpAny_For (RC (hi pins s σ H _ I h) λv s1 h1=>RC h1 λlZ s2 h2=>?_) hs;obtain⟨it,fp,tn,J,H2,e,I2,T,lI,f2,W,⟨m0,w0⟩,turn⟩:=h2;subst e
 -- Iv stays true of the iterator's objects through the loop
 have XM:∀{H':Hp},(∀b∈fp,H' b=none)->∀b∈fp,PH X pins H' b:=λhn b hb=>⟨hn b hb,(f2 b hb).2⟩
 refine codeAny_forLoop_any (λn s'=>∃i Y H',Inv X pins Y H' s'/\tn i s'.heap/\(∀b∈fp,H' b=none)/\W i n Y H') ?_ m0 ⟨0,σ,H2,I2,lI,λb hb=>(f2 b hb).1,w0⟩;rintro n s3 ⟨i,Z,H3,I3,AO,Wf,w3⟩;rcases turn i n Z H3 w3 with⟨stop,qn⟩|⟨go,N,hN,step⟩
 .refine wpAny_passesOwn hp (RC (T.done X rfl rfl rfl hc i pins s3 Z H3 X.xe I3 (XM Wf) AO stop) λr s4 zz=>?_);obtain⟨hr,I4⟩:=zz;subst hr;exact wpAny_execs_nil ⟨Z,H3,I4,qn⟩
 .refine wpAny_passesOwn hp (RC (T.item X rfl rfl rfl hc i pins s3 Z H3 X.xe I3 (XM Wf) AO go) λr s4 zz=>?_);obtain⟨u,hr,h4⟩:=zz;subst hr;refine wpAny_passesOwn hp (RC h4 λ_ s5 zz=>?_);obtain⟨x,H5,I5,r5,y5,NL,U6⟩:=zz;have I5':=I5.pinned (XM U6)<|T.obj _ _ NL;refine wpAny_passesOwn hp (RC (hg _ s5 Z H5 x u _ I5' r5<|step x H5 y5) λ_ s6 zz=>?_);obtain⟨σ6,H6,I6,q6⟩:=zz;refine wpAny_passesOwn hp (RC (hb _ s6 σ6 H6 _ I6 q6) λf s7 S=>?_)
  have again:∀{O:St}{j:Hp},Inv X (pins++J4 fp s5.heap) O j s7->N O j->∃m,m<n/\∃i Y H',Inv X pins Y H' s7/\tn i s7.heap/\(∀b∈fp,H' b=none)/\W i m Y H':=λ{O j} z n7=>by
   obtain⟨m',hm,w7⟩:=hN O j n7;refine⟨m',hm,i+1,O,j,z.unpinned,T.keep _ _ _ NL λb hb o e=>(z.pin (b,o)<|IA _<|IA _<|l8 hb e).1,λb hb=>?_,w7⟩;obtain⟨o,e,d⟩:=T.obj _ _ NL b hb;exact(z.pin (b,o)<|IA _<|IA _<|l8 hb e).2.1
  cases f with
  |next=>obtain⟨O,j,z,n7⟩:=S;exact again z n7
  |cont=>obtain⟨O,j,z,n7⟩:=S;exact again z n7
  |brk=>obtain⟨O,j,z,S⟩:=S;exact⟨O,j,z.unpinned,S⟩
  |ret v=>obtain⟨x7,O,j,z,r7,S⟩:=S;exact⟨x7,O,j,z.unpinned,r7,S⟩
end
end L2
namespace L2
open PySem PySem.Spec PyProof.Rows
abbrev R2:=V->V->Hp->VK->Prop
def NI(X:Cx)(f:Value->Value->Sem Value)(r:R2):Prop:=
 ∀(pins:oE)(s:Shared)(σ:St)(H:Hp)(x y:V)(v u:Value)(Q:VK),Inv X pins σ H s->yk x v->yk y u->r x y H Q ->
  wpAny (model X.prog X.w) X.A (f v u) (EP X pins σ Q) X.xe s
def Cn(X:Cx)(f:Value->Sem Value)(r:V->Hp->VK->Prop):Prop:=
 ∀(pins:oE)(s:Shared)(σ:St)(H:Hp)(x:V)(v:Value)(Q:VK),Inv X pins σ H s->yk x v->r x H Q ->
  wpAny (model X.prog X.w) X.A (f v) (EP X pins σ Q) X.xe s
def tK(X:Cx)(f:Value)(r:List V->Hp->VK->Prop):Prop:=
 ∀(pins:oE)(s:Shared)(σ:St)(H:Hp)(xs:List V)(us:List Value)(Q:VK),Inv X pins σ H s->yO xs us->r xs H Q ->
  wpAny (model X.prog X.w) X.A (call f us) (EP X pins σ Q) X.xe s
def Cm(X:Cx)(r:V->Hp->(Bool->Hp->Prop)->Prop):Prop:=
 ∀(pins:oE)(s:Shared)(σ:St)(H:Hp)(x:V)(v:Value)(Q:Bool->Hp->Prop),Inv X pins σ H s->yk x v->r x H Q ->
  wpAny (model X.prog X.w) X.A (truthy v) (TP X pins σ Q) X.xe s
def RU(r:R2)(ta tb:TE):TE:=λσ H Q=>ta σ H λx H1=>tb σ H1 λy H2=>r x y H2 Q
def tUn(r:V->Hp->VK->Prop)(ta:TE):TE:=λσ H Q=>ta σ H λx H1=>r x H1 Q
def rI(C:Int->Int->Prop)(g:Int->Int->V):R2:=λx y H Q=>∃i j,x=.int i/\y=.int j/\C i j/\Q (g i j) H
def Zr(g:Int->Int->V):R2:=λx y H Q=>∃i j,x=.int i/\y=.int j/\Q (g i j) H
def rU(g:Int->V):V->Hp->VK->Prop:=λx H Q=>∃i,x=.int i/\Q (g i) H
section
variable {X:Cx}{a b c:Expr}{ta tb tc:TE}{pos:Pos}
theorem ZT(ha:PE X a ta)(hb:PE X b tb){R:V->V->Hp->Prop}(I:Inv X pins σ H s)(h:ta σ H λx H1=>tb σ H1 λy H2=>R x y H2){Q:KD}{f:Value->Value->Sem Value}(hf:∀v u s2 x y H2,Inv X pins σ H2 s2->yk x v->yk y u->R x y H2->wpAny (model X.prog X.w) X.A (f v u) Q X.xe s2):
  wpAny (model X.prog X.w) X.A (eval a X.env) (λv z=>wpAny (model X.prog X.w) X.A (eval b X.env) (λu j=>wpAny (model X.prog X.w) X.A (f v u) Q X.xe j) X.xe z) X.xe s:=by
 refine RC (ha pins s σ H _ I h) λv s1 zz=>?_
 obtain⟨x,H1,I1,r1,J⟩:=zz;refine RC (hb pins s1 σ H1 _ I1 J) λu s2 zz=>?_
 obtain⟨y,H2,I2,r2,O⟩:=zz;exact hf v u s2 x y H2 I2 r1 r2 O
theorem zU3(j:NI X (binaryOp op) r)(ha:PE X a ta)(hb:PE X b tb):PE X (.BinOp a op b pos) (RU r ta tb):=by
 intro pins s σ H Q I h;exact wpAny_BinOp (ZT ha hb I h λv u s2 x y H2 I2 z J q=>j pins s2 σ H2 x y v u Q I2 z J q)
theorem OZ{r:V->Hp->VK->Prop}(j:Cn X (unaryOp op) r)(ha:PE X a ta):PE X (.UnaryOp op a pos) (tUn r ta):=by
 intro pins s σ H Q I h;exact UnaryOp_ (RC (ha pins s σ H _ I h) λv s1 ⟨x,H1,I1,r1,z⟩=>j pins s1 σ H1 x v Q I1 r1 z)
theorem Hc{f:Value->Value->Sem Value}{C:Int->Int->Prop}{g:Int->Int->Int}
  (rule:∀(i j:Int)(t u:Tok)(s:Shared)(Q:KD)(E:KD),C i j->Q (.int (g i j) s.toks) { s with toks:=s.toks+1 }->wpAny (model X.prog X.w) X.A (f (.int i t)<|.int j u) Q E s) :
  NI X f (rI C λi j=>.int<|g i j):=by
 intro pins s σ H x y v u Q I z J h;obtain⟨i,j,rfl,rfl,hc,q⟩:=h;obtain⟨t,rfl⟩:=z;obtain⟨t',rfl⟩:=J;exact rule i j t t' s _ _ hc ⟨.int<|g i j,H,I.tok _,⟨_,rfl⟩,q⟩
theorem Hd{f:Value->Value->Sem Value}{g:Int->Int->Int}
  (rule:∀(i j:Int)(t u:Tok)(s:Shared)(Q:KD)(E:KD),Q (.int (g i j) s.toks) { s with toks:=s.toks+1 }->wpAny (model X.prog X.w) X.A (f (.int i t)<|.int j u) Q E s) :
  NI X f (Zr λi j=>.int<|g i j):=by
 intro pins s σ H x y v u Q I z J h;obtain⟨i,j,rfl,rfl,q⟩:=h;obtain⟨t,rfl⟩:=z;obtain⟨t',rfl⟩:=J;exact rule i j t t' s _ _ ⟨.int<|g i j,H,I.tok _,⟨_,rfl⟩,q⟩
def Bu(i j:Int):Prop:=0<j/\j<1073741824
def MT(i j:Int):Prop:=(-(2 ^ 64)<i/\i<2 ^ 64)\/(-(2 ^ 64)<j/\j<2 ^ 64)
theorem MT.ok(h:MT i j):IntMulOk i j:=by
 rcases h with⟨h1,h2⟩|⟨h1,h2⟩
 .exact .of_left<|intBits_le_64 h1 h2
 .exact .of_right<|intBits_le_64 h1 h2
theorem zU4:NI X (binaryOp .Sub) (Zr λi j=>.int<|i-j):=Hd λ_ _ _ _ _ _ _ q=>sub_int q
theorem zU5:NI X (binaryOp .Mult) (rI MT λi j=>.int<|i*j):=Hc λ_ _ _ _ _ _ _ hc q=>mul_int q hc.ok
theorem zSX:NI X (binaryOp .FloorDiv) (rI Bu λi j=>.int<|i/j):=Hc λi j _ _ _ _ _ hc q=>by
 have h1:(0:Int)<j:=hc.1;have h2:j<1073741824:=hc.2;exact floordiv_int (by omega) (by rw[Int.fdiv_eq_ediv_of_nonneg i<|by omega];exact q) (.inl<|PyProof.noPylong_small<|by omega)
theorem zU6:NI X (binaryOp .Mod) (rI (λ_ j=>0<j) λi j=>.int<|i%j):=Hc λi j _ _ _ _ _ hc q=>by
 have h1:(0:Int)<j:=hc;exact mod_int' (by omega) (by rw[Int.fmod_eq_emod_of_nonneg i<|by omega];exact q)
theorem unI{f:Value->Sem Value}{g:Int->Int}
  (rule:∀(i:Int)(t:Tok)(s:Shared)(Q:KD)(E:KD),Q (.int (g i) s.toks) { s with toks:=s.toks+1 }->wpAny (model X.prog X.w) X.A (f<|.int i t) Q E s) :
  Cn X f (rU λi=>.int<|g i):=by
 intro pins s σ H x v Q I j h;obtain⟨i,rfl,q⟩:=h;obtain⟨t,rfl⟩:=j;exact rule i t s _ _ ⟨.int<|g i,H,I.tok _,⟨_,rfl⟩,q⟩
theorem zU7:Cn X (unaryOp .USub) (rU λi=>.int (-i)):=unI λ_ _ _ _ _ q=>neg_int q
end
section
variable {X:Cx}{a b c:Expr}{ta tb tc:TE}{pos:Pos}
theorem uR(I:Inv X pins σ H s)(q:Q (.bl k) H)(e:k=k'):EP X pins σ Q (.bool k') s:=by
 subst e;exact⟨.bl k,H,I,rfl,q⟩
theorem zU8:NI X (compareOp .Is) (λx y H Q=>y=.non/\Q (.bl<|decide<|x=.non) H):=by
 intro pins s σ H x y v u Q I j z h;obtain⟨rfl,q⟩:=h;cases z;refine is_none_gen<|uR I q ?_
 cases x<;>first
  |(cases j;rfl)
  |(obtain⟨t,rfl⟩:=j;rfl)
theorem zi(b:Expr)(h:op≠.In:=by decide)(h2:op≠.NotIn:=by decide):behindInMarks op b=false:=by
 have j:(op==CmpOp.In)=false:=by cases op<;>first|rfl|exact absurd rfl h
 have z:(op==CmpOp.NotIn)=false:=by cases op<;>first|rfl|exact absurd rfl h2
 cases b<;>simp[behindInMarks,j,z]
theorem zNK(j:NI X (compareOp op) r)(ha:PE X a ta)(hb:PE X b tb)(hm:behindInMarks op b=false):PE X (.Compare a [op] [b] pos) (RU r ta tb):=by
 intro pins s σ H Q I h;exact wpAny_Compare1 (ZT ha hb I h λv u s2 x y H2 I2 z J q=>j pins s2 σ H2 x y v u Q I2 z J q) hm
def X1(t:TE):TT:=λσ H Q=>t σ H λx H'=>∃k,x=.bl k/\Q k H'
theorem Pn(O:NI X (compareOp op) r)(ha:PE X a ta)(hb:PE X b tb)(hm:behindInMarks op b=false):PT X (.Compare a [op] [b] pos) (X1<|RU r ta tb):=by
 intro pins s σ H Q I h
 refine wpAny_isTrue_Compare1 (RC (ha pins s σ H _ I h) λv s1 ⟨x,H1,I1,r1,S⟩=>RC (hb pins s1 σ H1 _ I1 S) λu s2 ⟨y,H2,I2,r2,U⟩=>
  RC (O pins s2 σ H2 x y v u _ I2 r1 r2 U) λc s3 ⟨z,j,J,r3,k,e,Y⟩=>?_) hm
 subst e;cases r3;exact wpAny_truthy_bool ⟨j,J,Y⟩
def bY(K:Fg)(x:V)(H:Hp)(k:Bool):Prop:=
 match x with
 |.non=>k=false
 |.bl b=>k=b
 |.int i=>k=(i != 0)
 |.str y=>y.length<=sizeLine/\k=((y.length:Int) != 0)
 |.byt y=>y.size<=sizeLine/\k=((y.size:Int) != 0)
 |.ref p=>(∃xs,GF K H p xs/\k = !xs.isEmpty)\/(∃xs,GI K H p xs/\k = !xs.isEmpty)\/∃kvs,H p=some (.dK kvs)/\k = !kvs.isEmpty
 |_=>False
theorem zMG{κ:Type}{kvs:List (κ×V)}{vs:List (κ×Value)}(r:KV kvs vs):(!vs.isEmpty) = !kvs.isEmpty:=by
 cases r<;>rfl
theorem zGt{xs:List V}{its:List Value}(r:yO xs its):(!its.toArray.isEmpty) = !xs.isEmpty:=by
 cases r<;>simp
theorem lV:(sizeLine:Nat)<2 ^ 63:=by rw[sizeLine_eq];decide
theorem zU9:Cm X (λx H Q=>∃k,bY X.K x H k/\Q k H):=by
 intro pins s σ H x v Q I z h;obtain⟨k,e,q⟩:=h;have O:=lV;have hs:sizeLine=16777216:=sizeLine_eq
 cases x with
 |non=>
  cases z;have e':k=false:=e;subst e'
  exact truthy_none ⟨H,I,q⟩
 |bl b=>
  cases z;have e':k=b:=e;subst e'
  exact wpAny_truthy_bool ⟨H,I,q⟩
 |int i=>
  obtain⟨t,rfl⟩:=z;have e':k=(i != 0):=e;subst e'
  exact PySem.P.truthy_int ⟨H,I,q⟩
 |str y=>
  obtain⟨t,rfl⟩:=z;obtain⟨hy,e'⟩:y.length<=sizeLine/\k=((y.length:Int) != 0):=e;subst e'
  exact PySem.P.truthy_str (by omega) ⟨H,I.tok _,q⟩
 |byt y=>
  obtain⟨t,rfl⟩:=z;obtain⟨hy,e'⟩:y.size<=sizeLine/\k=((y.size:Int) != 0):=e;subst e'
  exact PySem.W.truthy_bytes (by omega) ⟨H,I.tok _,q⟩
 |ref p=>
  cases z;have e':(∃xs,GF X.K H p xs/\k = !xs.isEmpty)\/(∃xs,GI X.K H p xs/\k = !xs.isEmpty)\/∃kvs,H p=some (.dK kvs)/\k = !kvs.isEmpty:=e;rcases e' with⟨xs,hx,e'⟩|⟨xs,hx,e'⟩|⟨kvs,hx,e'⟩
  .subst e';obtain⟨its,r,pl,hz⟩:=I.list hx;have j:=r.length;exact wpAny_truthy_list pl.isList (by simp only[pA];omega) ⟨H,I.tok _,by rw[zGt r];exact q⟩
  .subst e';obtain⟨its,r,pl,hz⟩:=I.tuple hx;have j:=r.length;exact truthy_tuple pl (by simp only[pA];omega) ⟨H,I.tok _,by rw[zGt r];exact q⟩
  .subst e';obtain⟨hz,J,vs,r,m⟩:kvs.length<=sizeLine/\(p==sysModules)=false/\∃vs,KV kvs vs/\s.heap.DictOf (zt X.prog X.w) p vs:=I.hok p _ hx;have j:kvs.length=vs.length:=Paired.length r
   exact wpAny_truthy_dict J m (by omega) ⟨H,I.tok _,by rw[zMG r];exact q⟩
 |_=>exact(show False from e).elim
theorem zP4(ha:PE X a ta)(he:∀j,isTrue a X.env j=(do let v <- j;standAt a.pos;holding [v] (truthy v))):
  PT X a (λσ H Q=>ta σ H λx H'=>∃k,bY X.K x H' k/\Q k H'):=by
 intro pins s σ H Q I h;exact isTrue_plain (RC (ha pins s σ H _ I h) λv s1 ⟨x,H1,I1,r1,z⟩=>zU9 pins s1 σ H1 x v Q I1 r1 z)<|he _
theorem zMH:NI X (binaryOp .Add) (λx y H Q=>∃i j,x=.str i/\y=.str j/\i.length+j.length<=sizeLine/\Q (.str<|i++j) H):=by
 intro pins s σ H x y v u Q I z J h;obtain⟨i,j,rfl,rfl,hz,q⟩:=h;obtain⟨t,rfl⟩:=z;obtain⟨t',rfl⟩:=J;exact add_str (λt' tk=>⟨.str<|i++j,H,I.tok _,⟨_,rfl⟩,q⟩) hz
theorem ZN(r:yO [x] us):∃u,us=[u]/\yk x u:=by
 cases r with
 |cons r1 r2=>cases r2;exact⟨_,rfl,r1⟩
theorem zVA(r:yO [x,y] us):∃u j,us=[u,j]/\yk x u/\yk y j:=by
 cases r with
 |cons r1 r2=>
  cases r2 with
  |cons r3 z=>cases z;exact⟨_,_,rfl,r1,r3⟩
theorem zIZ:tK X (.type "int") (λxs H Q=>(∃i,xs=[.int i]/\Q (.int i) H)\/∃k,xs=[.bl k]/\Q (.int<|if k then 1 else 0) H):=by
 intro pins s σ H xs us Q I r h;rcases h with⟨i,rfl,q⟩|⟨k,rfl,q⟩
 .obtain⟨u,rfl,t,rfl⟩:=ZN r;exact call_int_int ⟨.int i,H,I,⟨_,rfl⟩,q⟩
 .obtain⟨u,rfl,r1⟩:=ZN r;cases r1;exact call_int_bool ⟨.int<|if k then 1 else 0,H,I.tok _,⟨_,rfl⟩,q⟩
end
end L2
namespace L2
open PySem PySem.Spec PyProof.Rows
structure FV(h:Heap)(x dx C:Addr)(mA:NE):Prop where
 obj:h.get? x=some (XC C dx)
 ns:h.Ns1 dx mA
 ne:dx≠x
theorem zNL{h:Heap}{mA:NE}(n:h.Ns1 dx mA):∃od,h.get? dx=some od/\∀name,nH name od=some (mA name):=by
 obtain⟨o,es,ep,J,hd,hk,_,hm⟩:=n;refine⟨o,J,λname=>?_⟩;have e:=hm name;unfold nsFind findBy at e;rw[<- Array.find?_toList]at e;unfold nH;rw[hd];dsimp only;split
 .rename_i y q;rw[q]at e;exact congrArg some e
 .rename_i q;rw[q]at e
  have a:es.toList.any (·.refKey)=false:=by
   rw[bJ];intro y hy;obtain⟨z,t,j⟩:=hk y<|Array.mem_toList_iff.mp hy;simp[DictEntry.refKey,j]
  have I:¬ es.toList.any (·.refKey)=true:=by rw[a];exact YA
  rw[if_neg I];exact congrArg some e
theorem FV.look{mA:NE}(I:FV h x dx C mA):∃od,PySem.W.InstAt h x (XC C dx) C (some od)/\∀name,nH name od=some (mA name):=
 let ⟨od,ho,hl⟩:=zNL I.ns
 ⟨od,⟨I.obj,rfl,rfl,ho⟩,hl⟩
section
variable {prog:Program}{w:World}{A:Around}{E:KD}{s:Shared}{K:Fg}{x dx C f:Addr}{mA:NE}{name:Str}{v:Value}
theorem zSZ{Q:KD}(X:K.In s.heap)(I:FV s.heap x dx C mA)(z:aF K C name=true)(hh:cG K C=true)(ha:KB K (.ref C) name=some none)(hv:mA name=some v)(j:mO v=true)(h:Q v { s with toks:=s.toks+1 }):
  wpAny (model prog w) A (getAttr (.ref x) name expr) Q E s:=by
 obtain⟨od,J,O⟩:=I.look;exact PySem.W.get_value X J (GH z).1 (PySem.W.findObj_own hh ha rfl<|by rw[O,hv]) j h
theorem zP5{Q:Value×List Value->Shared->Prop}(X:K.In s.heap)(I:FV s.heap x dx C mA)(j:aF K C name=true)(hf:KB K (.ref C) name=some (some<|.ref f))(ht:FC K (.ref f)=true)(hv:mA name=none)(h:Q (.ref f,[.ref x]) s):
  wpAny (model prog w) A (getMethod (.ref x) name pl) Q E s:=by
 obtain⟨od,J,z⟩:=I.look;exact PySem.W.method_fn X J (GH j).1 (GH j).2 hf (beq_iff_eq.mp ht) (by show(nH name od).map (·.isSome)=some false;rw[z,hv];rfl) h
theorem zSa{ns:List Str}{Q:Unit->Shared->Prop}(X:K.In s.heap)(I:FV s.heap x dx C mA)
  (hs:KB K (.ref C) "__setattr__" = some (some<|.builtin "object.__setattr__")) (hp:FI K C=true) (ht:tJ K C name=some none) (hh:cG K C=true)
  (hw:pM mA ns) (hsz:ns.length<=sizeLine)
  (h:∀h',FV h' x dx C (λy=>if y=name then some v else mA y)->RE dx s.heap h'->Q () { s with heap:=h',toks:=s.toks+2 }) :
  wpAny (model prog w) A (setAttr (.ref x) name v) Q E s:=by
 obtain⟨od,J,hl⟩:=I.look;refine PySem.W.set_plain X J hs (PySem.W.osa_open (s:={ s with toks:=s.toks+1 }) (r:=none) X J hp ht λb=>?_);obtain⟨cd,hc,Y⟩:=PySem.W.any_some hh;have hx:s.heap.get? x=some ⟨.ref C,some dx,.plain,#[]⟩:=I.obj;refine wpAny_bind<|wpAny_pure<|wpAny_bind<|wpAny_bind<|wpAny_loadPart hx<|wpAny_bind<|v6 (s:={ s with toks:=s.toks+1 }) (PySem.W.looks_clsIn X hc) ?_;rw[Y];refine wpAny_pure (a:=some dx)<|wpAny_bind<|wpAny_pure<|wpAny_bind ?_;refine wpAny_nsSet1 (s:={ s with toks:=s.toks+1 }) I.ns λh' U S=>?_
 obtain⟨oD,esD,Z,O,z,j⟩:=U.count<|Bo name v hw;refine wpAny_bind (wpAny_lookBehind O (by rw[z];exact pastItsLine_dict<|QA j (by rw[iA];omega)) ?_);exact wpAny_pure<|h _ ⟨(S.2 _<|Ne.symm I.ne).trans I.obj,U,I.ne⟩ S
theorem zP6{R:kQ->Shared->Prop}(X:K.In s.heap)(hm:sJ K C=true)(hi:KB K (.ref C) "__init__" = some (some<|.ref f))(hf:PySem.W.typeIn K (.ref f)=some (.type "function")) (h:UF (model prog w) (A.under<|.builtin "type.__call__" ⟨.ref C::vs,kw⟩) (.call (.ref f) ⟨.ref (s.heap.objs.size+1)::vs,kw⟩) (PySem.W.InitBack (s.heap.objs.size+1) R)
   { s with heap:=(s.heap.push pC).push (XC C s.heap.objs.size) }) :
  UF (model prog w) A (.call (.ref C) ⟨vs,kw⟩) R s:=by
 obtain⟨hh,g,d,t,os⟩:=s;exact PySem.W.make_core (PySem.W.makes_of X hm) (PySem.W.looks_findIn X hi) (λself=>PySem.W.bind_fn X self hf) (.inl rfl) h
end
noncomputable def uH(f:Str)(v:V):List (Str×V)->List (Str×V)
 | []=>[(f,v)]
 |(g,x)::r=>if g=f then (g,v)::r else (g,x)::uH f v r
theorem W2(f g:Str)(v:V):∀fs:List (Str×V),(uH f v fs).lookup g=if g=f then some v else fs.lookup g
 |[]=>by
  show eD g [(f,v)]=_;by_cases h:g=f
  .have hb:(g==f)=true:=beq_iff_eq.mpr h;simp only[eD,hb,if_pos h]
  .have hb:(g==f)=false:=beq_eq_false_iff_ne.mpr h
   simp only[eD,hb,if_neg h]
 |(k,x)::r=>by
  have ih:=W2 f g v r;rw[show uH f v ((k,x)::r)=(if k=f then (k,v)::r else (k,x)::uH f v r) from rfl];by_cases hk:k=f
  .rw[if_pos hk];by_cases h:g=k
   .have hb:(g==k)=true:=beq_iff_eq.mpr h;simp only[eD,hb,if_pos<|h.trans hk]
   .have hb:(g==k)=false:=beq_eq_false_iff_ne.mpr h;simp only[eD,hb,if_neg (λe:g=f=>h<|e.trans hk.symm)]
  .rw[if_neg hk];by_cases h:g=k
   .have hb:(g==k)=true:=beq_iff_eq.mpr h;simp only[eD,hb,if_neg (λe:g=f=>hk<|h.symm.trans e)]
   .have hb:(g==k)=false:=beq_eq_false_iff_ne.mpr h;simp only[eD,hb];exact ih
theorem Mx(f:Str)(v:V):∀fs:List (Str×V),f∈(uH f v fs).map (·.1)/\∀g,g∈fs.map (·.1)->g∈(uH f v fs).map (·.1)
 | []=>⟨by simp[uH],λg h=>by simp at h⟩
 |(k,x)::r=>by
  obtain⟨j,i2⟩:=Mx f v r;rw[show uH f v ((k,x)::r)=(if k=f then (k,v)::r else (k,x)::uH f v r) from rfl];by_cases hk:k=f
  .rw[if_pos hk];subst hk;exact⟨by simp,λg h=>by simpa using h⟩
  .rw[if_neg hk];refine⟨?_,λg h=>?_⟩
   .rw[eA];exact dA _ j
   .rw[eA]at h ⊢;rcases nA.mp h with e|e
    .exact nA.mpr<|.inl e
    .exact dA _<|i2 g e
theorem Kv(f:Str)(v:V):∀fs:List (Str×V),(uH f v fs).length<=fs.length+1
 | []=>by simp[uH]
 |(k,x)::r=>by
  have ih:=Kv f v r;rw[show uH f v ((k,x)::r)=(if k=f then (k,v)::r else (k,x)::uH f v r) from rfl];by_cases hk:k=f
  .rw[if_pos hk,iA,iA];omega
  .rw[if_neg hk,iA,iA];omega
theorem bK.some_of(r:bK (some v) o):∃u,o=some u/\yk v u:=by
 cases o with
 |none=>exact(show False from r).elim
 |some u=>exact⟨u,rfl,r⟩
theorem bK.none_of(r:bK none o):o=none:=by
 cases o with
 |none=>rfl
 |some u=>exact(show False from r).elim
theorem zNM(r:yk v u):mO u=true:=by
 cases v with
 |non=>cases (show u=AD from r);rfl
 |bl b=>cases (show u=jF b from r);rfl
 |int i=>obtain⟨t,e⟩:=(show∃t,u=OH i t from r);cases e;rfl
 |str x=>obtain⟨t,e⟩:=(show∃t,u=uJ x t from r);cases e;rfl
 |byt b=>obtain⟨t,e⟩:=(show∃t,u=IX b t from r);cases e;rfl
 |flt b=>obtain⟨t,e⟩:=(show∃t,u=JX b t from r);cases e;rfl
 |ref a=>cases (show u=pB a from r);rfl
 |ty n=>cases (show u=nO n from r);rfl
section
variable {P:Program}{w:World}{H H':Hp}{h h':Heap}{a C dx:Addr}{fs fs':List (Str×V)}
theorem Po(hok:HOk P w H h)(e:H a=some (.ins C dx fs)):∃mA,FV h a dx C mA/\(∀f,bK (fs.lookup f)<|mA f)/\pM mA (fs.map (·.1))/\fs.length<=1000/\H dx=some (.own a):=by
 obtain⟨d,z,ne,ob,mA,n,r,q⟩:=(show yt P w H h a (.ins C dx fs) from hok a _ e)
 exact⟨mA,⟨ob,n,ne⟩,r,q,z,d⟩
end
structure fJ(K:Fg)(C:Addr):Prop where
 pg:aF K C pI=true
 hd:cG K C=true
 po:FI K C=true
 sa:KB K (.ref C) "__setattr__" = some (some<|.builtin "object.__setattr__")
theorem fJ.get{K:Fg}{C:Addr}(c:fJ K C)(f:Str):aF K C f=true:=c.pg
def qT(K:Fg)(C:Addr)(f:Str):Prop:=KB K (.ref C) f=some none
theorem qT.taker{K:Fg}{C:Addr}{f:Str}(n:qT K C f):tJ K C f=some none:=by
 unfold tJ;rw[show KB K (.ref C) f=some none from n];rfl
structure GV(K:Fg)(C:Addr)(m:Str)(f:Addr):Prop where
 at_:KB K (.ref C) m=some (some<|.ref f)
 fn:FC K (.ref f)=true
 kp:iB K (.ref f)=true
section
variable {X:Cx}{pins:oE}{σ:St}{H:Hp}{s:Shared}{a C dx:Addr}{fs:List (Str×V)}{f:Str}{v:V}{A:Around}{E:KD}
theorem zMI{Q:KD}(I:Inv X pins σ H s)(e:H a=some (.ins C dx fs))(c:fJ X.K C)(n:qT X.K C f)(l:fs.lookup f=some v)(h:∀u s',Inv X pins σ H s'->yk v u->Q u s'):wpAny (model X.prog X.w) A (getAttr (.ref a) f b) Q E s:=by
 obtain⟨mA,O,r,_,_,_⟩:=Po I.hok e;obtain⟨u,hu,j⟩:=bK.some_of (v:=v) (o:=mA f) (by rw[<- l];exact r f);exact zSZ I.kIn O (c.get f) c.hd n hu (zNM j)<|h u _ (I.tok _) j
theorem Lk{Q:Value×List Value->Shared->Prop}(I:Inv X pins σ H s)(e:H a=some (.ins C dx fs))(c:fJ X.K C)(k:GV X.K C m g)(l:fs.lookup m=none)(h:Q (.ref g,[.ref a]) s):wpAny (model X.prog X.w) A (getMethod (.ref a) m pl) Q E s:=by
 obtain⟨mA,O,r,_,_,_⟩:=Po I.hok e;have j:mA m=none:=bK.none_of (by rw[<- l];exact r m);exact zP5 I.kIn O (c.get m) k.at_ k.fn j h
theorem zMJ{Q:Unit->Shared->Prop}(I:Inv X pins σ H s)(e:H a=some (.ins C dx fs))(c:fJ X.K C)(n:qT X.K C f)(hl:fs.length<1000)(Y:yk y u)(h:∀s',Inv X pins σ (upd H a<|.ins C dx<|uH f y fs) s'->Q () s'):wpAny (model X.prog X.w) A (setAttr (.ref a) f u) Q E s:=by
 obtain⟨mA,O,r,S,_,J⟩:=Po I.hok e;have hz:(fs.map (·.1)).length<=sizeLine:=by rw[kA,sizeLine_eq];omega
 refine zSa I.kIn O c.sa c.po n.taker c.hd S hz λh' j Z=>h _ ?_
 have hd:∃o,h'.get? dx=some o:=let ⟨o,_,_,e',_⟩:=j.ns;⟨o,e'⟩;refine I.write (x:=a) (e:=dx) (by rw[e];exact True.intro) (.inr J) (λb q hb z=>(Z.2 b hb).trans z) hd ?_;refine⟨by rw[upd_ne O.ne];exact J,?_,O.ne,j.obj,_,j.ns,λg=>?_,λg U=>?_⟩
 .have:=Kv f y fs;omega
 .show bK ((uH f y fs).lookup g) (if g=f then some u else mA g);rw[W2];by_cases q:g=f
  .rw[if_pos q,if_pos q];exact Y
  .rw[if_neg q,if_neg q];exact r g
 .by_cases q:g=f
  .rw[q];exact(Mx f y fs).1
  .refine(Mx f y fs).2 g (S g λz=>U ?_);show(if g=f then some u else mA g)=none;rw[if_neg q];exact z
theorem Inv.made(I:Inv X pins σ H s):Inv X pins σ (upd (upd H s.heap.objs.size<|.own<|s.heap.objs.size+1) (s.heap.objs.size+1)<|.ins C s.heap.objs.size [])
  { s with heap:=(s.heap.push pC).push (XC C s.heap.objs.size) }:=by
 have j:(s.heap.push pC).get? s.heap.objs.size=some pC:=KA s.heap rfl
 have z:((s.heap.push pC).push<|XC C s.heap.objs.size).get? (s.heap.objs.size+1)=some (XC C s.heap.objs.size):=by
  have:=KA (s.heap.push pC) (o:=XC C s.heap.objs.size) rfl
  rwa [bG]at this
 have e3:(s.heap.push pC).Ns s.heap.objs.size (λ_=>none):=⟨pC,#[],_,j,rfl,(λe he=>absurd he<|by simp),λ_=>rfl⟩
 have I1:=I.laid (a:=s.heap.objs.size) (o:=.own<|s.heap.objs.size+1) (h':=s.heap.push pC) (t':=s.toks) (λb u q=>sA _ q) (wA _) ⟨_,j⟩;refine I1.laid (a:=s.heap.objs.size+1) (o:=.ins C s.heap.objs.size []) (t':=s.toks) (λb u q=>sA _ q) (lJ<|bG _ _) ?_;have ne:s.heap.objs.size≠s.heap.objs.size+1:=VA<|WG _;refine⟨by rw[upd_ne ne,zL],nC _,ne,z,λ_=>none,(Heap.Ns1.of_empty e3).at λo q=>sA _ q,λ_=>True.intro,λy hy=>absurd rfl hy⟩
theorem zSc{Q:KD}(hb:TF e f env (eval e env)=eval e env)(h:wpAny (model prog w) A (eval e env) (λo j=>wpAny (model prog w) A (getAttr o f true) Q E j) E s):wpAny (model prog w) A (eval (.Attribute e f pos) env) Q E s:=
 Attribute_any_ h (by rw[arm_eval_Attribute,hb])
end
def Ic(K:Fg)(ta:TE)(f:Str):TE:=λσ H Q=>ta σ H λx H1=>∃a C dx fs v,x=.ref a/\H1 a=some (.ins C dx fs)/\fJ K C/\qT K C f/\fs.lookup f=some v/\Q v H1
def Hk(K:Fg)(ta tv:TE)(f:Str):TS:=λD σ H=>tv σ H λy H1=>ta σ H1 λx H2=>∃a C dx fs,x=.ref a/\H2 a=some (.ins C dx fs)/\fJ K C/\qT K C f/\fs.length<1000 /\
 D.nx σ (upd H2 a<|.ins C dx<|uH f y fs)
section
variable {X:Cx}{o e value:Expr}{f:Str}{pos pos' HF:Pos}{ta tv:TE}
theorem mV(he:PE X e ta)(hb:TF e f X.env (eval e X.env)=eval e X.env):PE X (.Attribute e f pos) (Ic X.K ta f):=by
 intro pins s σ H Q I h;refine zSc hb (RC (he pins s σ H _ I h) λu s1 zz=>?_);obtain⟨x,H1,I1,J,a,C,dx,fs,v,ex,j,c,n,l,q⟩:=zz;subst ex;obtain rfl:u=pB a:=J;exact zMI I1 j c n l λu' s2 I2 z=>⟨v,H1,I2,z,q⟩
theorem Qx(ha:PE X o ta)(hv:PE X value tv)(hs:gF value (some<|.Attribute o f pos') pos.line X.env=pure false):PS X (.Assign [.Attribute o f pos'] value pos) (Hk X.K ta tv f):=by
 intro pins s σ H D I h;refine plainObj_wpAny_Assign_Attribute (RC (hv pins s σ H _ I h) λu s1 ⟨y,H1,I1,U,q⟩=>RC (ha pins s1 σ H1 _ I1 q) λJ s2 ⟨x,H2,I2,S,a,C,dx,fs,ex,z,c,n,l,O⟩=>?_) hs;subst ex;obtain rfl:J=pB a:=S;exact zMJ I2 z c n l U λs3 j=>⟨σ,_,j,O⟩
theorem zSd{apos:Pos}{Q:KD}(he:PE X e te)(I:Inv X pins σ H s) (h:te σ H λx H1=>∃a C dx fs g,x=.ref a/\H1 a=some (.ins C dx fs)/\fJ X.K C/\GV X.K C m g/\fs.lookup m=none /\
   ∀s1,Inv X pins σ H1 s1->wpAny (model X.prog X.w) X.A (callWith pos (.ref g) [.ref a] (backTo pos<|starEach args X.env)<|backToKw pos<|keywordEach [] X.env) Q X.xe s1) (ht:eval (.Call (.Attribute e m apos) args [] pos) X.env=(do
   let ov <- eval e X.env
   standAt apos.atName
   let (f,first) <- holding [ov] (getMethod ov m pl)
   callWith pos f first (backTo pos<|starEach args X.env) (backToKw pos<|keywordEach [] X.env))) :
  wpAny (model X.prog X.w) X.A (eval (.Call (.Attribute e m apos) args [] pos) X.env) Q X.xe s:=by
 refine YG (pl:=pl) (RC (he pins s σ H _ I h) λu s1 ⟨x,H1,I1,z,a,C,dx,fs,g,ex,j,c,k,l,q⟩=>?_) ht;subst ex;obtain rfl:u=pB a:=z;exact Lk I1 j c k l<|q s1 I1
end
section
variable {X:Cx}{pins:oE}{σ:St}{H:Hp}{s:Shared}{A:Around}{E:KD}{Q:KD}{c:Value}{b:Bool}
end
end L2
namespace L2
open PySem PySem.Spec PyProof.Rows
structure IF(k:Nat)(A:Around):Prop where
 hd:A.handled=none
 dp:A.depth+3*k+5<Tp
 un:A.units+16*k+200<cLine
theorem IF.mono(r:IF k A)(h:j<=k):IF j A:=⟨r.hd,by have:=r.dp;omega,by have:=r.un;omega⟩
theorem IF.deeper{A:Around}(r:IF (k+1) A)(env:Env):IF k (A.deeper env):=
 ⟨r.hd,by have:=r.dp;show A.depth+1+3*k+5<_;omega,by have:=r.un;show A.units+3+16*k+200<_;omega⟩
theorem zMK{A:Around}:(A.under<|.builtin "type.__call__" ⟨.ref C::us,kw⟩).depth=A.depth+1:=by
 first|rfl|simp[Around.under,Code.weight,Code.isCreation,Code.isGuard,Code.isCaller,Code.frames,Code.isFrame,guardIds]
theorem zML{A:Around}:(A.under<|.builtin "type.__call__" ⟨.ref C::us,kw⟩).units=A.units+1:=by
 first|rfl|simp[Around.under,Code.cUnits,Code.frames,Code.isFrame]
theorem IF.make{A:Around}(r:IF (k+1) A)(C:Addr)(us:List Value)(j:List (Str×Value)):IF k (A.under<|.builtin "type.__call__" ⟨.ref C::us,j⟩):=
 ⟨r.hd,by have:=r.dp;rw[zMK];omega,by have:=r.un;rw[zML];omega⟩
theorem IF.depth{A:Around}(r:IF k A):A.depth<Tp:=by have:=r.dp;omega
theorem IF.units{A:Around}(r:IF k A):A.units+64<cLine:=by have:=r.un;omega
def mR:TA:=λ_ H Q=>Q [] H
def Sn(ta:TE)(tr:TA):TA:=λσ H Q=>ta σ H λx H1=>tr σ H1 λxs H2=>Q (x::xs) H2
section
variable {X:Cx}{e:Expr}{es:List Expr}{te:TE}{t:TA}{pos:Pos}
theorem yl:PA X [] mR:=λ_ _ _ _ H Q I h=>bP ⟨[],H,I,.nil,h⟩
theorem zx(ha:PE X e te)(hr:PA X es t)(hs:starEach (e::es) X.env=(false,eval e X.env)::starEach es X.env:=by rfl):PA X (e::es) (Sn te t):=by
 intro pos pins s σ H Q I h;rw[hs];show wpAny _ _ (spliced ((false,eval e X.env)::backTo pos (starEach es X.env))) _ _ s;refine DI (RC (ha pins s σ H _ I h) λu s1 zz=>?_);obtain⟨x,H1,I1,r1,j⟩:=zz;exact RC (hr pos pins s1 σ H1 _ I1 j) λus s2 ⟨xs,H2,I2,r2,z⟩=>⟨x::xs,H2,I2,.cons r1 r2,z⟩
def Ip(t:TA):TE:=λσ H Q=>t σ H λxs H1=>xs.length<=sizeLine/\∀p,H1 p=none->Q (.ref p) (upd H1 p<|.tup xs)
def Ii(t:TA):TE:=λσ H Q=>t σ H λxs H1=>xs.length<=sizeLine/\∀p,H1 p=none->Q (.ref p) (upd H1 p<|.lst xs)
theorem zVB{x1}(h:PA X es t):PE X (.Tuple es x1 pos) (Ip t):=by
 intro pins s σ H Q I hq;refine wpAny_Tuple_spliced (RC (h pos pins s σ H _ I hq) λus s1 ⟨xs,H1,I1,r,z,q⟩=>⟨by rw[<- r.length];exact z,?_⟩);have hf:H1 s1.heap.objs.size=none:=I1.hok.fresh<|wA _;refine⟨.ref s1.heap.objs.size,upd H1 s1.heap.objs.size<|.tup xs,I1.laid (t':=s1.toks) (λb u e=>sA _ e) (wA _) ?_,rfl,q _ hf⟩;exact⟨z,us,r,⟨_,KA _ rfl,rfl,_,rfl,rfl⟩⟩
theorem Qy(h:PA X es t):PE X (.List es pos) (Ii t):=by
 intro pins s σ H Q I hq;refine wpAny_List_spliced (RC (h pos pins s σ H _ I hq) λus s1 ⟨xs,H1,I1,r,z,q⟩=>⟨by rw[<- r.length];exact z,?_⟩);have hf:H1 s1.heap.objs.size=none:=I1.hok.fresh<|wA _;refine⟨.ref s1.heap.objs.size,upd H1 s1.heap.objs.size<|.lst xs,I1.laid (t':=s1.toks) (λb u e=>sA _ e) (wA _) ?_,rfl,q _ hf⟩;exact⟨z,us,0,r,KA _ rfl⟩
end
abbrev Sp:=List V->Hp->VK->XK->Prop
abbrev mQ:=List Env->Hp->Shared->XK->Value->Shared->Prop
structure HV(P:Program)(w:World)(K:Fg)(mg:NE)(base:Heap)(A:Around)(outer:List Env)(s:Shared)(H:Hp):Prop where
 frames:A.frames=some outer
 mod:Mod K mg base
 bs:∀b o,base.get? b=some o->s.heap.get? b=some o/\H b=none
 bsz:base.objs.size<=s.heap.objs.size
 funs:s.heap.FunFrames base outer
 frf:∀b∈fH outer,H b=none
 hok:HOk P w H s.heap
 bare:vG s.gens
def CE(outer:List Env)(P:Program)(w:World)(H:Hp)(s:Shared)(Q:VK)(u:Value)(s':Shared):Prop:=
 ∃v H',s'.os=s.os/\vG s'.gens/\Un (fH outer) [] H H' s.heap s'.heap/\HOk P w H' s'.heap/\yk v u/\Q v H'
def CR(CX:mQ)(outer:List Env)(P:Program)(w:World)(H:Hp)(s:Shared)(Q:VK)(E:XK)(r:kQ)(s':Shared):Prop:=
 match r with
 |.ok (.ret u)=>CE outer P w H s Q u s'
 |.ok _=>False
 |.error e=>CX outer H s E e s'
structure bI(P:Program)(w:World)(K:Fg)(mg:NE)(base:Heap)(CX:mQ)(k:Nat)(f:Addr)(fd:FuncData)(ps:List Str)(sp:Sp):Prop where
 len:∀vs H Q E,sp vs H Q E->vs.length=ps.length
 run:∀(A:Around)(outer:List Env)(s:Shared)(H:Hp)(args:Args)(us:List Value)(vs:List V)(Q:VK)(E:XK),IF k A->HV P w K mg base A outer s H->EM s fd args (ps.zip us)->yO vs us->sp vs H Q E ->
  UF (model P w) A (.call (.ref f) args) (CR CX outer P w H s Q E) s
theorem HV.make{P:Program}{w:World}{K:Fg}{mg:NE}{base:Heap}{A:Around}{outer:List Env}{s:Shared}{H:Hp}(e:HV P w K mg base A outer s H)(C:Addr)(us:List Value)(j:List (Str×Value)):
  HV P w K mg base (A.under<|.builtin "type.__call__" ⟨.ref C::us,j⟩) outer s H:=⟨by first|exact e.frames|(simpa[Around.under,Code.envs,Code.isFrame,pushEnvs] using e.frames),e.mod,e.bs,e.bsz,e.funs,e.frf,e.hok,e.bare⟩
section
variable {X:Cx}{pins:oE}{σ:St}{H:Hp}{s s':Shared}
theorem Inv.env0(I:Inv X pins σ H s):HV X.prog X.w X.K X.mg X.base X.A X.stack s H:=
 ⟨I.ok.frames,I.ok.mod,I.bs,QA I.ok.bsz I.sz,I.stack,I.stkFree,I.hok,I.bare⟩
theorem Inv.after(I:Inv X pins σ H s)(h:CE X.stack X.prog X.w H s Q u s'):EP X pins σ Q u s':=by
 obtain⟨v,H',os,bare,un,hok,r,q⟩:=h;obtain⟨hh,g,d,t,j⟩:=s';obtain rfl:j=s.os:=os;exact⟨v,H',I.call (h':=hh) (g':=g) (d':=d) (t':=t) (ch:=[]) un hok bare (λb z=>absurd z<|by simp),r,q⟩
end
def O1(sp:Sp)(dvs:List V)(E:XK)(t:TA):TE:=λσ H Q=>t σ H λvs H1=>sp (vs++dvs) H1 Q E
def zVC(C:Addr)(m:Str)(sp:Sp)(dvs:List V)(E:XK)(ta:TE)(t:TA):TE:=λσ H Q=>ta σ H λx H1=>∃a dx fs,x=.ref a/\H1 a=some (.ins C dx fs)/\fs.lookup m=none /\
 t σ H1 λvs H2=>sp (x::(vs++dvs)) H2 Q E
def WK(K:Fg)(fd:FuncData)(ps:List Str)(ds:List Value):Prop:=
 ∀(s:Shared)(us:List Value),K.In s.heap->(us++ds).length=ps.length->EM s fd ⟨us,[]⟩ (ps.zip<|us++ds)
theorem WK.all{K:Fg}{fd:FuncData}{ps:List Str}(h:∀us:List Value,us.length=ps.length->bindArgs fd ⟨us,[]⟩=pure (ps.zip us)):WK K fd ps []:=λs us _ j=>by
 rw[kB]at j ⊢;exact .of_eq<|h us j
def WN(CX:mQ)(X:Cx)(E:XK):Prop:=∀(pins:oE)(σ:St)(H:Hp)(s:Shared)(e:Value)(s':Shared),Inv X pins σ H s->CX X.stack H s E e s'->X.xe e s'
section
variable {X:Cx}{CX:mQ}{k:Nat}{f C:Addr}{fd:FuncData}{ps:List Str}{sp:Sp}{dvs:List V}{ds:List Value}{E:XK}{x m:Str}{p pos apos:Pos}{e o:Expr}{es:List Expr}{ta:TE}{t:TA}
theorem Qz(F:bI X.prog X.w X.K X.mg X.base CX k f fd ps sp)(hr:IF k X.A)(hb:WK X.K fd ps ds)(hd:yO dvs ds)(hx:WN CX X E)(I:Inv X pins σ H s)(r:yO vs us)(h:sp (vs++dvs) H Q E):wpAny (model X.prog X.w) X.A (call (.ref f) us) (EP X pins σ Q) X.xe s:=by
 have r2:yO (vs++dvs) (us++ds):=r.append hd;have j:(us++ds).length=ps.length:=by rw[<- r2.length];exact F.len _ _ _ _ h
 refine wpAny_call (codeAny_mono (F.run X.A X.stack s H ⟨us,[]⟩ (us++ds) (vs++dvs) Q E hr I.env0 (hb s us I.kIn j) r2 h) λr s' hq=>?_)
 cases r with
 |error e=>exact hx pins σ H s e s' I hq
 |ok fl=>
  cases fl with
  |ret u=>exact I.after hq
  |next=>exact False.elim hq
  |brk=>exact False.elim hq
  |cont=>exact False.elim hq
theorem Z3(F:bI X.prog X.w X.K X.mg X.base CX k f fd ps sp)(hr:IF k X.A)(J:Gl X x)(hm:X.mg x=some (.ref f))(hk:iB X.K (.ref f)=true)(hb:WK X.K fd ps ds)(hd:yO dvs ds)(hx:WN CX X E)
  (ha:PA X (e::es) t) (z:(x==("__debug__" : Str))=false:=by decide) (he:starEach (e::es) X.env=(false,eval e X.env)::starEach es X.env:=by rfl) (j:(backTo pos<|starEach es X.env).any (·.1)=false:=by rfl) :
  PE X (.Call (.Name x p) (e::es) [] pos) (O1 sp dvs E t):=by
 intro pins s σ H Q I h;refine wpAny_Call_Name_kw<|B9 I J hm ?_ z;refine fI (h₀:=X.base) I.ok.mod.kin hk (RC (ha pos pins s σ H _ I h) λus s1 ⟨vs,H1,I1,r,q⟩=>⟨I1.kIn,?_⟩) he j;exact Qz F hr hb hd hx I1 r q
theorem Pp(he:PE X o ta)(c:fJ X.K C)(hm:GV X.K C m f)(F:bI X.prog X.w X.K X.mg X.base CX k f fd ps sp)(hr:IF k X.A)(hb:WK X.K fd ps ds)(hd:yO dvs ds)(hx:WN CX X E)(ha:PA X (e::es) t)(XJ:starEach (e::es) X.env=(false,eval e X.env)::starEach es X.env:=by rfl)(j:(backTo pos<|starEach es X.env).any (·.1)=false:=by rfl) (ht:eval (.Call (.Attribute o m apos) (e::es) [] pos) X.env=(do
   let ov <- eval o X.env
   standAt apos.atName
   let (f,first) <- holding [ov] (getMethod ov m pl)
   callWith pos f first (backTo pos<|starEach (e::es) X.env) (backToKw pos<|keywordEach [] X.env)):=by rfl) :
  PE X (.Call (.Attribute o m apos) (e::es) [] pos) (zVC C m sp dvs E ta t):=by
 intro pins s σ H Q I h;refine YG (pl:=pl) (RC (he pins s σ H _ I h) λu s1 ⟨x,H1,I1,O,a,dx,fs,ex,z,l,q⟩=>?_) ht;subst ex;obtain rfl:u=pB a:=O;refine Lk I1 z c hm l ?_;refine fI (first:=[.ref a]) (h₀:=X.base) I.ok.mod.kin hm.kp (RC (ha pos pins s1 σ H1 _ I1 q) λus s2 ⟨vs,H2,I2,r,J⟩=>⟨I2.kIn,?_⟩) XJ j;exact Qz (us:=.ref a::us) (vs:=.ref a::vs) F hr hb hd hx I2 (.cons rfl r) J
theorem zP7(he:PE X o ta)(c:fJ X.K C)(hm:GV X.K C m f)(F:bI X.prog X.w X.K X.mg X.base CX k f fd ps sp)(hr:IF k X.A)(hb:WK X.K fd ps ds)(hd:yO dvs ds)(hx:WN CX X E) (ht:eval (.Call (.Attribute o m apos) [] [] pos) X.env=(do
   let ov <- eval o X.env
   standAt apos.atName
   let (f,first) <- holding [ov] (getMethod ov m pl)
   callWith pos f first (backTo pos<|starEach [] X.env) (backToKw pos<|keywordEach [] X.env)):=by rfl) :
  PE X (.Call (.Attribute o m apos) [] [] pos) (zVC C m sp dvs E ta mR):=by
 intro pins s σ H Q I h;refine YG (pl:=pl) (RC (he pins s σ H _ I h) λu s1 ⟨x,H1,I1,z,a,dx,fs,ex,j,l,q⟩=>?_) ht;subst ex;obtain rfl:u=pB a:=z;refine Lk I1 j c hm l ?_;exact PySem.W.callWith_K0 (first:=[.ref a]) I1.kIn hm.kp<|Qz (us:=[.ref a]) (vs:=[.ref a]) F hr hb hd hx I1 (.cons rfl .nil) q
structure Mk(K:Fg)(C f:Addr):Prop where
 makes:sJ K C=true
 init:KB K (.ref C) "__init__" = some (some<|.ref f)
 fn:FC K (.ref f)=true
 kp:iB K (.ref C)=true
end
section
variable {X:Cx}{CX:mQ}{k:Nat}{f C:Addr}{fd:FuncData}{ps ks:List Str}{sp:Sp}{E:XK}{x m:Str}{p pos apos jbb:Pos}{e o:Expr}{es:List Expr}{kws:List EK}{te ta:TE}{t tk:TA}{nm:Option Str}
variable {g:List Value->List Value->List Value}{gV:List V->List V->List V}
end
structure zT(N P:List Str)(sc:BF):Prop where
 kind:sc.kind=.function
 co:sc.isCoroutine=false
 gen:sc.isGenerator=false
 nd:N.Nodup
 pre:N.take P.length=P
 par:∀x∈P,sc.names.lookup x=some .local\/sc.names.lookup x=some .cell
 nofree:∀y∈sc.names,y.2≠.free
theorem zIa{kindOf:Str->Option NameKind}:∀{binds:List (Str×Value)}{m:NE},(∀v,(x,v)∉binds)->bindL kindOf binds m x=m x
 | [],_,_=>rfl
 |(n,v)::r,m,h=>by
  unfold bindL;rw[zIa λw j=>h w<|dA _ j];split
  .have:x≠n:=by rintro rfl;exact h v lA
   simp[this]
  .rfl
theorem zIb{kindOf:Str->Option NameKind}:∀{binds:List (Str×Value)}{m:NE},(∀v,(x,v)∉binds)->bindC kindOf binds m x=m x
 | [],_,_=>rfl
 |(n,v)::r,m,h=>by
  unfold bindC;rw[zIb λw j=>h w<|dA _ j];split
  .rfl
  .have:x≠n:=by rintro rfl;exact h v lA
   simp[this]
theorem zIc{kindOf:Str->Option NameKind}:∀{P:List Str}{vs:List Value}{i:Nat}{m:NE},P.Nodup->P[i]?=some x->vs[i]?=some v->kindOf x=some .local ->
  bindL kindOf (P.zip vs) m x=some v
 | [],_,_,_,_,h,_,_=>by simp at h
 |_::_,[],_,_,_,_,h,_=>by simp at h
 |p::P,w::vs,0,m,nd,h1,h2,hk=>by
  simp at h1 h2;subst h1;subst h2;show bindL kindOf ((p,w)::P.zip vs) m p=_;unfold bindL;rw[zIa λv hv=>(NB.mp nd).1 (iK hv).1,if_pos hk]
  simp
 |p::P,w::vs,i+1,m,nd,h1,h2,hk=>by
  show bindL kindOf ((p,w)::P.zip vs) m x=_;unfold bindL;exact zIc (i:=i) (NB.mp nd).2 (by simpa using h1) (by simpa using h2) hk
theorem zId{kindOf:Str->Option NameKind}:∀{P:List Str}{vs:List Value}{i:Nat}{m:NE},P.Nodup->P[i]?=some x->vs[i]?=some v->kindOf x≠some .local ->
  bindC kindOf (P.zip vs) m x=some v
 | [],_,_,_,_,h,_,_=>by simp at h
 |_::_,[],_,_,_,_,h,_=>by simp at h
 |p::P,w::vs,0,m,nd,h1,h2,hk=>by
  simp at h1 h2;subst h1;subst h2;show bindC kindOf ((p,w)::P.zip vs) m p=_;unfold bindC;rw[zIb λv hv=>(NB.mp nd).1 (iK hv).1,if_neg hk]
  simp
 |p::P,w::vs,i+1,m,nd,h1,h2,hk=>by
  show bindC kindOf ((p,w)::P.zip vs) m x=_;unfold bindC;exact zId (i:=i) (NB.mp nd).2 (by simpa using h1) (by simpa using h2) hk
def wL(N:List Str)(vs:List V):St:=vs.map some++jA (N.length-vs.length) none
noncomputable def xK(CX:mQ)(P:Program)(w:World)(K:Fg)(mg:NE)(base:Heap)(N:List Str)(qual:Str)(scope:BF)(f:Addr)(cd:Value)(A:Around)(outer:List Env)(s:Shared)(H:Hp)(E:XK):Cx where
 prog:=P
 w:=w
 K:=K
 mg:=mg
 base:=base
 A:=A.deeper<|envOfC qual scope s.heap.objs.size f cd
 N:=N
 s₀:=s
 H₀:=H
 env:=envOfC qual scope s.heap.objs.size f cd
 outer:=outer
 stack:=envOfC qual scope s.heap.objs.size f cd::outer
 ex:=[]
 calm:=true
 fn:=λ_=>true
 pn:=[]
 xe:=λe s'=>wpAny (model P w) (A.deeper<|envOfC qual scope s.heap.objs.size f cd) (leaving (envOfC qual scope s.heap.objs.size f cd) e) (λ_ lR=>CX outer H s E e lR) (λe' lR=>CX outer H s E e' lR) s'
theorem zKz{j:BF}(h:j.names.lookup x=some .cell):∃c,(cellsFrom n j.names []).lookup x=some c:=by
 have q:=FL j.names n []<|.inl h;exact Option.isSome_iff_exists.mp q
theorem zNQ{CX:mQ}{P:Program}{w:World}{K:Fg}{mg:NE}{base:Heap}{N ps:List Str}{qual:Str}{scope:BF}{f:Addr}{cd:Value}{A:Around}{outer:List Env}{s s1:Shared}{H:Hp}{E:XK}{us:List Value}{vs:List V}
  (S:zT N ps scope) (hd:A.handled=none) (j:HV P w K mg base A outer s H) (U:vs.length=ps.length) (r:yO vs us)
  (x:InCallC s s.heap.objs.size (bindL (envOfC qual scope s.heap.objs.size f cd).kindOf (ps.zip us) λ_=>none) (cellsFrom (s.heap.objs.size+1) scope.names []) (bindC (envOfC qual scope s.heap.objs.size f cd).kindOf (ps.zip us) λ_=>none) s1) :
  Inv (xK CX P w K mg base N qual scope f cd A outer s H E) [] (wL N vs) H s1:=by
 have O:ps.length<=N.length:=by have:=congrArg dE S.pre;rw[GJ]at this;omega
 obtain⟨h1,tk,rfl,hk⟩:=x.done;have GZ:∀b:Addr,b∉(xK CX P w K mg base N qual scope f cd A outer s H E).ex:=λb z=>absurd (show b∈([]:List Addr) from z) (by simp)
 refine⟨⟨j.mod,S.kind,rfl,rfl,wA _,λy z c h1 h2=>?_,λy hy=>?_,λy c _ h=>?_,λ_=>hd,Around.frames_deeper j.frames,.inr ⟨rfl,rfl⟩,λb z=>absurd z<|GZ b,j.bs,j.bsz,λb _ _=>GZ b,λb z=>absurd z<|GZ b,j.funs,j.frf⟩,
  rfl,j.bare,Un.kept hk,⟨_,x.toInCall.ns,λi y v h1 h2 h3=>?_⟩,λy c h=>⟨_,x.cell y c h⟩,j.hok.fresh<|wA _,λy c h=>?_,λp hp=>absurd (show p∈([]:oE) from hp) (by simp),j.hok.kept hk,?_⟩
 .exact name_of_addr x.apart (wC h1)<|wC h2
 .have hy:scope.names.lookup y=some .cell\/scope.names.lookup y=some .free:=hy;rcases hy with hy|hy
  .exact zKz hy
  .exact absurd rfl<|S.nofree _<|wC hy
 .exact mJ<|x.above y c<|wC h
 .have hi:i<vs.length:=by
   unfold wL at h2;by_cases hi:i<vs.length
   .exact hi
   .rw[oB<|by simpa using hi]at h2;rw[QB]at h2;split at h2<;>cases h2
  have ha:vs[i]?=some v:=by
   unfold wL at h2;rw[eB (by simpa using hi),gB]at h2
   cases e:vs[i]? with
   |none=>rw[e]at h2;cases h2
   |some a=>rw[e]at h2;cases h2;rfl
  obtain⟨u,hu,J⟩:=r.get ha
  have hp:ps[i]?=some y:=by
   rw[<- S.pre,List.getElem?_take_of_lt<|by omega];exact h1
  have I:ps.Nodup:=by rw[<- S.pre];exact S.nd.sublist<|gQ _ _
  refine⟨u,J,?_⟩;rcases S.par y (xA hp) with k|k
  .exact .inl ⟨k,zIc I hp hu k⟩
  .obtain⟨c,e⟩:=zKz (n:=s.heap.objs.size+1) k;refine .inr ⟨.inl k,c,e,?_⟩;have q:=x.cell y c e;rw[zId I hp hu (by show scope.names.lookup y≠_;rw[k];decide)]at q;exact q
 .exact j.hok.fresh<|mJ<|x.above y c<|wC h
 .unfold wL;show _=N.length;rw[rA,kA,AH];omega
theorem Ai{K:Fg}{mg:NE}{k:Nat}{f:Addr}{name qual:Str}{body:List Stmt}{dV kV z pm j ct oc:Value}{an od:Option Addr}{vP:Array (Option Value)}{N ps:List Str}(lk:K.lookup f=some ⟨oc,od,.func<|wD name qual params body scope dV kV z pm an j ct,vP⟩)(cM:OF K j qual=true)(S:zT N ps scope)(len:∀vs H Q E,sp vs H Q E->vs.length=ps.length) (WD:∀(A:Around)(outer:List Env)(s:Shared)(H:Hp)(vs:List V)(Q:VK)(E:XK),IF k (A.deeper<|envOfC qual scope s.heap.objs.size f j)->sp vs H Q E ->
   ∃t,IL (xK CX P w K mg base N qual scope f j A outer s H E) body t/\t { nx:=λ_ H'=>Q .non H',rt:=Q } (wL N vs) H) :
  bI P w K mg base CX (k+1) f (wD name qual params body scope dV kV z pm an j ct) ps sp:=by
 refine⟨len,λA outer s H args us vs Q E hr O hb r vS=>?_⟩;have hl:=len _ _ _ _ vS;have KX:K.In s.heap:=O.mod.kin.keeps λb o e=>(O.bs b o e).1
 have Y:s.heap.NoLimit:=O.mod.nolimit.keeps λb o e=>(O.bs b o e).1
 have XY:∀y∈ps.zip us,scope.names.lookup y.1=some .local\/(scope.names.lookup y.1=some .cell/\((cellsFrom (s.heap.objs.size+1) scope.names []).lookup y.1).isSome=true):=by
  rintro⟨n,v⟩ hy;rcases S.par n (iK hy).1 with q|q
  .exact .inl q
  .exact .inr ⟨q,FL _ _ _<|.inl q⟩
 refine codeAny_call_function hr.depth (KX _ _ lk) rfl S.co S.gen rfl (PySem.W.codeRec_of KX cM)<|hb _ _ _ _ ?_;refine wpAny_newFunctionEnv_cells S.kind XY λenv he s1 x=>?_
 subst he;refine⟨Y.keeps x.toInCall.keep,codeAny_func ?_⟩;obtain⟨t,ht,hq⟩:=WD A outer s H vs Q E (hr.deeper _) vS;have I:Inv (xK CX P w K mg base N qual scope f j A outer s H E) [] (wL N vs) H s1:=zNQ S hr.hd O hl r x;refine wpAny_mono (ht [] s1 (wL N vs) H _ I hq) (λfl s' hs=>?_) λe s' hs=>hs
 have fin:∀{U:St}{H':Hp}{v:V}{u:Value},Inv (xK CX P w K mg base N qual scope f j A outer s H E) [] U H' s'->yk v u->Q v H'->CE outer P w H s Q u s':=
  λ{U H' v u} J Z q=>⟨v,H',J.os,J.bare,J.base,J.hok,Z,q⟩
 cases fl with
 |ret u=>
  obtain⟨v,U,H',J,Z,q⟩:=hs
  exact fin J Z q
 |next=>
  obtain⟨U,H',J,q⟩:=hs
  exact fin (v:=V.non) (u:=AD) J rfl q
 |brk=>
  obtain⟨_,_,_,q⟩:=hs
  exact False.elim q
 |cont=>
  obtain⟨_,_,_,q⟩:=hs;exact False.elim q
end L2
namespace L2
open PySem PySem.Spec PyProof.Rows
section
variable {X:Cx}{x:Str}{p pos:Pos}{e:Expr}{es:List Expr}{t:TA}{id T:String}{r:List V->Hp->VK->Prop}
def A7(r:List V->Hp->VK->Prop)(t:TA):TE:=λσ H Q=>t σ H λvs H1=>r vs H1 Q
theorem Q3(hc:tK X (.builtin id) r)(J:Gl X x)(hm:X.mg x=none)(hv:HB x=some (.builtin id))(ha:PA X (e::es) t)(O:x ≠ "__name__":=by decide)(z:(x==("__debug__" : Str))=false:=by decide)
  (he:starEach (e::es) X.env=(false,eval e X.env)::starEach es X.env:=by rfl) (j:(backTo pos<|starEach es X.env).any (·.1)=false:=by rfl):PE X (.Call (.Name x p) (e::es) [] pos) (A7 r t):=by
 intro pins s σ H Q I h;refine wpAny_Call_Name_kw<|UW I J hm hv ?_ O z;exact PyProof.Rows.callWith_builtin1 (RC (ha pos pins s σ H _ I h) λus s1 ⟨vs,H1,I1,r1,S⟩=>hc pins s1 σ H1 vs us Q I1 r1 S) he j
theorem My(hc:tK X (.type T) r)(J:Gl X x)(hm:X.mg x=none)(hv:HB x=some (.type T))(ha:PA X (e::es) t)(O:x ≠ "__name__":=by decide)(z:(x==("__debug__" : Str))=false:=by decide)
  (he:starEach (e::es) X.env=(false,eval e X.env)::starEach es X.env:=by rfl) (j:(backTo pos<|starEach es X.env).any (·.1)=false:=by rfl):PE X (.Call (.Name x p) (e::es) [] pos) (A7 r t):=by
 intro pins s σ H Q I h;refine wpAny_Call_Name_kw<|UW I J hm hv ?_ O z;exact PyProof.Rows.callWith_type1 (RC (ha pos pins s σ H _ I h) λus s1 ⟨vs,H1,I1,r1,S⟩=>hc pins s1 σ H1 vs us Q I1 r1 S) he j
end
end L2
namespace HT
open PySem PyProof.Rows
section
open PySem.SeqAt
open PySem.AutoSeq1 (wpAny_loadPart')
open PySem.MeetsSeq PySem.MeetsSeq2 PySem.MeetsSeq3
end
section
variable {prog:Program}{w:World}{A:Around}{E:KD}{s:Shared}
theorem zSg{vs ws:List Value}{Q:KD}(ht:cP s.heap t vs.toArray)(hb:cP s.heap b ws.toArray)(hv:vs≠[])(h1:ws=[]->Q (.ref t) s)(h2:ws≠[]->Q (.ref s.heap.objs.size) { s with heap:=s.heap.push { cls:=.type "tuple",data:=.seq (vs++ws).toArray } })(hsz:vs.length+ws.length<=sizeLine):wpAny (model prog w) A (binaryOp .Add (.ref t)<|.ref b) Q E s:=by
 obtain⟨⟨cls,dd,data,Z⟩,z,hc,n,hd⟩:=id ht;obtain⟨⟨fY,S,data2,O⟩,J,U,Y,j⟩:=id hb;simp only at hc hd U j;subst hc hd U j;have e:vs.toArray++ws.toArray=(vs++ws).toArray:=by simp
 by_cases I:ws=[]
 .exact OK ⟨_,z,rfl⟩ ⟨_,J,rfl⟩ HL pO OG xG (lG _ _)
   (tuple_addW1 t b vs.toArray ws.toArray n Y dd S Z O (by simpa using hv)<|by simp[I]) ⟨z,J,h1 I⟩
 .refine OK ⟨_,z,rfl⟩ ⟨_,J,rfl⟩ HL pO OG xG (lG _ _)
   (tuple_addW2 t b vs.toArray ws.toArray n Y dd S Z O (by simpa using hv) (by simpa using I) (by rw[pA,pA];exact hsz)) ⟨z,J,?_⟩
  rw[e];exact h2 I
noncomputable def MD(n d:Nat):Option Int->Nat
 |none=>d
 |some v=>if v<0 then (v+(n:Int)).toNat else min v.toNat n
theorem zVD(n d:Nat)(hd:d<=n)(o:Option Int):MD n d o<=n:=by
 cases o with
 |none=>exact hd
 |some v=>
  show(if v<0 then (v+(n:Int)).toNat else min v.toNat n)<=n;by_cases hv:v<0
  .rw[if_pos hv];omega
  .rw[if_neg hv];exact Nat.min_le_right _ _
theorem zNR(v:Int)(n d:Nat):(if v<0 then max (v+(n:Int)) 0 else min v (n:Int))=((MD n d (some v):Nat):Int):=by
 show(if v<0 then max (v+(n:Int)) 0 else min v (n:Int))=(((if v<0 then (v+(n:Int)).toNat else min v.toNat n):Nat):Int);by_cases hv:v<0
 .simp only[if_pos hv];omega
 .simp only[if_neg hv];omega
theorem zMM(lo hi:Option Int)(n:Nat):xF lo hi 1 (n:Int)=(((MD n 0 lo:Nat):Int),((MD n n hi:Nat):Int)):=by
 have h1:¬ ((1:Int)<0):=by omega
 unfold xF;simp only[h1,if_false];refine Prod.ext ?_ ?_
 .cases lo with
  |none=>rfl
  |some v=>exact zNR v n 0
 .cases hi with
  |none=>rfl
  |some v=>exact zNR v n n
theorem zMN(i j:Nat):JD (i:Int) (j:Int) 1=j-i:=by
 unfold JD;have h1:(1:Int)>0:=by omega
 simp only[h1,if_true,fN];split<;>omega
theorem zGu{Q:Option Int->Shared->Prop}(p:IsPart v o)(h:Q o s):wpAny (model prog w) A (Y5 v) Q E s:=by
 cases p with
 |none=>exact slicePart_none h
 |int i t=>exact slicePart_int h
theorem jj{O:Addr}{I J:Value}{lo hi:Option Int}{n:Nat}{Q:Int×Int×Nat->Shared->Prop}(hs:s.heap.IsSliceOf O I J .none)(pl:IsPart I lo)(S:IsPart J hi)
  (h:Q (((MD n 0 lo:Nat):Int),1,MD n n hi-MD n 0 lo) s):wpAny (model prog w) A (AI (.ref O)<|pure (n:Int)) Q E s:=by
 obtain⟨os,j,U,z⟩:=id hs;unfold AI X5;refine wpAny_bind<|wpAny_bind<|wpAny_field j z (x:=I) rfl<|wpAny_bind<|wpAny_field j z (x:=J) rfl<|wpAny_bind<|wpAny_field j z (x:=.none) rfl<|wpAny_pure ?_;refine wpAny_bind<|slicePart_none ?_;show wpAny _ _ (if ((1:Int)==0)=true then _ else _) _ _ s;rw[if_neg<|by decide];refine wpAny_bind<|zGu pl<|wpAny_bind<|zGu S<|wpAny_bind<|wpAny_pure ?_;show wpAny _ _ (match xF lo hi 1 (n:Int) with|(lo,hi)=>pure (lo,(1:Int),JD lo hi 1)) _ _ s;rw[zMM lo hi n];show wpAny _ _ (pure (((MD n 0 lo:Nat):Int),(1:Int),JD ((MD n 0 lo:Nat):Int) ((MD n n hi:Nat):Int) 1)) _ _ s;rw[zMN];exact wpAny_pure h
theorem zP9(xs:Array Value)(i k:Nat):((JA k).filterMap λ(m:Nat)=>xs[((i:Int)+(m:Int)*1).toNat]?).toArray=((xs.toList.drop i).take k).toArray:=by
 have e:(λ(m:Nat)=>xs[((i:Int)+(m:Int)*1).toNat]?)=λm=>xs[i+m]?:=by
  funext m
  have:((i:Int)+(m:Int)*1).toNat=i+m:=by omega
  rw[this]
 rw[e];have:=pick_run xs i k;rw[List.filterMap_map]at this;have j:((λx=>xs[x]?)∘λx=>i+x)=λm=>xs[i+m]?:=rfl
 rw[j]at this;rw[this]
theorem zEL{t z:Addr}{items:Array Value}{I J:Value}{lo hi:Option Int}{Q:KD}(ht:cP s.heap t items)(hs:s.heap.IsSliceOf z I J .none)(pl:IsPart I lo)(Z:IsPart J hi)
  (U:¬ (MD items.size 0 lo=0/\MD items.size items.size hi=items.size))
  (h:Q (.ref s.heap.objs.size) { s with heap:=s.heap.push { cls:=.type "tuple",data:=.seq ((items.toList.drop<|MD items.size 0 lo).take<|MD items.size items.size hi-MD items.size 0 lo).toArray } })
  (hsz:items.size<=sizeLine):wpAny (model prog w) A (getItem (.ref t)<|.ref z) Q E s:=by
 have j:sizeOk (.seq ((items.toList.drop<|MD items.size 0 lo).take<|MD items.size items.size hi-MD items.size 0 lo).toArray):=by
  show((items.toList.drop<|MD items.size 0 lo).take<|MD items.size items.size hi-MD items.size 0 lo).toArray.size<=sizeLine;rw[pA,GJ,FJ,jE];omega
 have hj:MD items.size items.size hi<=items.size:=zVD _ _ (wA _) hi;obtain⟨os,S,Y,OY⟩:=id hs;have O:s.TypeIs (.ref z) "slice":=⟨os,S,Y⟩
 unfold getItem
 try with_reducible refine wpAny_holding ?_
 first|refine wpAny_bind (wpAny_pure ?_)|skip
 refine wpAny_bind (wpAny_sequenceKey ht.typeIs (by decide) ?_)
 refine wpAny_bind (wpAny_callSpecial?_slot (name:=fA "__getitem__") ht.typeIs PyProof.Rows.slot_tuple_getitem
  (wpAny_call_entry PyProof.Rows.slot_tuple_getitem ht.typeIs entry_tuple_getitem ?_<|args_tuple_getitem _ _))
 show wpAny _ _ (BI (.ref t) >>= _) _ _ s;refine wpAny_bind<|tupleItemsOf_ ht ?_;refine wpAny_bind<|wpAny_typeOf O ?_;rw[if_pos<|by decide];refine wpAny_bind<|jj hs pl Z ?_
 have uU:¬ ((((MD items.size 0 lo:Nat):Int)==0&&(1:Int)==1&&(MD items.size items.size hi-MD items.size 0 lo)==items.size)=true):=by
  intro q;rw[LB,LB]at q;have q1:((MD items.size 0 lo:Nat):Int)=0:=eq_of_beq q.1.1;have q2:MD items.size items.size hi-MD items.size 0 lo=items.size:=eq_of_beq q.2;exact U ⟨by omega,by omega⟩
 show wpAny _ _ (if (((MD items.size 0 lo:Nat):Int)==0&&(1:Int)==1&&(MD items.size items.size hi-MD items.size 0 lo)==items.size)=true then _ else _) _ _ s;rw[if_neg uU,zP9]
 first
  |exact wpAny_bind (m:=XD _) (wpAny_newObj_type (wpAny_pure ⟨_,rfl,wpAny_pure h⟩) j)
  |exact wpAny_bind (m:=XD _) (wpAny_newObj_type (wpAny_bind<|wpAny_pure<|wpAny_pure ⟨_,rfl,wpAny_pure h⟩) j)
  |exact wpAny_bind (wpAny_bind (m:=XD _)<|wpAny_newObj_type (wpAny_pure<|wpAny_pure ⟨_,rfl,wpAny_pure h⟩) j)
  |exact wpAny_bind (wpAny_bind (m:=XD _)<|wpAny_newObj_type (wpAny_pure ⟨_,rfl,wpAny_pure h⟩) j)
end
end HT
namespace L2
open PySem PySem.Spec PyProof.Rows
abbrev TO:=St->Hp->(Option Int->Hp->Prop)->Prop
def PO(X:Cx)(e:Option Expr)(t:TO):Prop:=
 ∀(pins:oE)(s:Shared)(σ:St)(H:Hp)(Q:Option Int->Hp->Prop),Inv X pins σ H s->t σ H Q ->
  wpAny (model X.prog X.w) X.A (evalPart e X.env) (λu s'=>∃o H',Inv X pins σ H' s'/\IsPart u o/\Q o H') X.xe s
def zSh:TO:=λ_ H Q=>Q none H
def W1(t:TE):TO:=λσ H Q=>t σ H λx H1=>∃i,x=.int i/\Q (some i) H1
theorem zGv{ns:List Int}:∀{us:List Value},yO (ns.map V.int) us->DK us ns:=by
 induction ns with
 |nil=>intro us r;rw[vC]at r;cases r;exact .nil
 |cons n ns ih=>
  intro us r;rw[eA]at r
  cases r with
  |cons r1 r2=>
   obtain⟨t,e⟩:=r1;subst e;exact .cons n t<|ih r2
section
variable {X:Cx}{e:Expr}{te:TE}{lo hi:Option Expr}{tl th:TO}{pos p2:Pos}
theorem zSi:PO X none zSh:=by
 intro pins s σ H Q I h;rw[evalPart_none];exact wpAny_pure ⟨none,H,I,.none,h⟩
theorem zSj(h:PE X e te):PO X (some e) (W1 te):=by
 intro pins s σ H Q I j;rw[evalPart_some];refine RC (h pins s σ H _ I j) λu s1 zz=>?_
 obtain⟨x,H1,I1,r1,z⟩:=zz;obtain⟨i,rfl,q⟩:=z;obtain⟨t,rfl⟩:=r1;exact⟨some i,H1,I1,.int i t,q⟩
def J6(X:Cx)(r:V->Option Int->Option Int->Hp->VK->Prop):Prop:=
 ∀(pins:oE)(s:Shared)(σ:St)(H:Hp)(x:V)(v vl vu:Value)(lo hi:Option Int)(sl:Addr)(Q:VK),Inv X pins σ H s->yk x v->s.heap.IsSliceOf sl vl vu .none->IsPart vl lo->IsPart vu hi->r x lo hi H Q ->
  ∃T id,nN (.type T) "__getitem__" = pure (some<|.builtin id)/\s.TypeIs v T/\wpAny (model X.prog X.w) X.A (getItem v<|.ref sl) (EP X pins σ Q) X.xe s
def tSl(r:V->Option Int->Option Int->Hp->VK->Prop)(te:TE)(tl th:TO):TE:=λσ H Q=>te σ H λx H1=>tl σ H1 λl H2=>th σ H2 λu H3=>r x l u H3 Q
theorem zK0{r:V->Option Int->Option Int->Hp->VK->Prop}(hr:J6 X r)(he:PE X e te)(hl:PO X lo tl)(hu:PO X hi th):PE X (.Subscript e (.Slice lo hi none p2) pos) (tSl r te tl th):=by
 intro pins s σ H Q I h;refine Subscript_ (RC (he pins s σ H _ I h) λv s1 zz=>?_);obtain⟨x,H1,I1,r1,q1⟩:=zz;refine wpAny_Slice (RC (hl pins s1 σ H1 _ I1 q1) λj s2 ⟨l,H2,I2,pl,q2⟩=>RC (hu pins s2 σ H2 _ I2 q2) λz s3 zz=>?_);obtain⟨u,O,S,pu,q3⟩:=zz;rw[evalPart_none];refine wpAny_pure ?_;have U:Inv X pins σ O { s3 with heap:=s3.heap.push { cls:=.type "slice",data:=.fields #[j,z,.none] } }:=S.kept (t':=s3.toks) λb ob q=>sA _ q
 obtain⟨T,id,Y,ht,Z⟩:=hr pins { s3 with heap:=s3.heap.push { cls:=.type "slice",data:=.fields #[j,z,.none] } } σ O x v j z l u s3.heap.objs.size Q U r1 (vX ..) pl pu q3;show wpAny (model X.prog X.w) X.A (subscriptTail e (.Slice lo hi none p2) v<|.ref s3.heap.objs.size) (EP X pins σ Q) X.xe { s3 with heap:=s3.heap.push { cls:=.type "slice",data:=.fields #[j,z,.none] } };exact tail_any (ops:=[.ref s3.heap.objs.size,v]) ht Y Z (by with_unfolding_all rfl)
def pT(xs:List V)(lo hi:Option Int):List V:=(xs.drop<|HT.MD xs.length 0 lo).take<|HT.MD xs.length xs.length hi-HT.MD xs.length 0 lo
theorem wm(xs:List V)(lo hi:Option Int):(pT xs lo hi).length<=xs.length:=by
 unfold pT;rw[GJ,FJ];omega
def Hj(K:Fg):V->Option Int->Option Int->Hp->VK->Prop:=λx lo hi H Q=>∃a xs,x=.ref a/\GI K H a xs /\
 ¬ (HT.MD xs.length 0 lo=0/\HT.MD xs.length xs.length hi=xs.length)/\∀p,H p=none->Q (.ref p) (upd H p<|.tup<|pT xs lo hi)
theorem zVE:J6 X (Hj X.K):=by
 intro pins s σ H x v Y Z lo hi U Q I S hs pl O h;obtain⟨a,xs,rfl,hx,z,q⟩:=h;cases S;obtain⟨its,r,ht,hz⟩:=I.tuple hx;have j:its.toArray.size=xs.length:=by rw[pA];exact r.length.symm
 refine⟨"tuple",_,PyProof.Rows.slot_tuple_getitem.lookup,ht.typeIs,?_⟩;refine HT.zEL ht hs pl O (by rw[j];exact z) ?_ (by rw[j];exact hz);rw[j];refine⟨.ref s.heap.objs.size,_,I.laid (t':=s.toks) (o:=.tup<|pT xs lo hi) (λb ob q=>sA _ q) (wA _) ?_,rfl,q _<|I.hok.fresh<|wA _⟩;exact⟨QA (wm xs lo hi) hz,_,(r.drop<|HT.MD xs.length 0 lo).take<|HT.MD xs.length xs.length hi-HT.MD xs.length 0 lo,VN.new _ _⟩
def SZ(K:Fg):R2:=λx y H Q=>∃a b xs ys,x=.ref a/\y=.ref b/\GI K H a xs/\GI K H b ys/\xs≠[]/\xs.length+ys.length<=sizeLine /\
 (ys=[]->Q (.ref a) H)/\(ys≠[]->∀p,H p=none->Q (.ref p) (upd H p<|.tup<|xs++ys))
theorem yO.nil_iff(r:yO xs us):us=[]↔xs=[]:=by
 cases r with
 |nil=>simp
 |cons _ _=>simp
theorem zSk:NI X (binaryOp .Add) (SZ X.K):=by
 intro pins s σ H x y v u Q I O S h;obtain⟨a,b,xs,ys,rfl,rfl,ha,hb,hx,hz,j,J⟩:=h;cases O;cases S;obtain⟨its,r1,p1,_⟩:=I.tuple ha;obtain⟨U,r2,p2,_⟩:=I.tuple hb;refine HT.zSg p1 p2 (λz=>hx<|r1.nil_iff.mp z) (λz=>⟨.ref a,H,I,rfl,j<|r2.nil_iff.mp z⟩) (λz=>?_) (by rw[<- r1.length,<- r2.length];exact hz);refine⟨.ref s.heap.objs.size,_,I.laid (t':=s.toks) (o:=.tup<|xs++ys) (λb ob q=>sA _ q) (wA _) ?_,rfl,J (λw=>z<|r2.nil_iff.mpr w) _<|I.hok.fresh<|wA _⟩;exact⟨by rw[rA];exact hz,_,r1.append r2,VN.new _ _⟩
end
end L2
namespace L2
open PySem PySem.Spec PyProof.Rows
noncomputable def kI(n:Nat)(i:Int):Option Nat:=if 0<=i then (if i<n then some i.toNat else none) else if -(n:Int)<=i then some (i+n).toNat else none
def VF{α:Type}(xs:List α)(i:Int):Option α:=(kI xs.length i).bind λj=>xs[j]?
theorem zNS(h:kI n i=some j):eJ i n=some j/\j<n/\-(n:Int)<=i/\i<n:=by
 unfold kI at h;by_cases h0:0<=i
 .rw[if_pos h0]at h;by_cases h1:i<n
  .rw[if_pos h1]at h;have e:i.toNat=j:=wB h;exact⟨by rw[seqIndex_of h0 h1,e],by omega,by omega,h1⟩
  .rw[if_neg h1]at h;cases h
 .rw[if_neg h0]at h;by_cases h1 : -(n:Int)<=i
  .rw[if_pos h1]at h;have e:(i+n).toNat=j:=wB h;exact⟨by rw[seqIndex_neg (by omega) h1,e],by omega,h1,by omega⟩
  .rw[if_neg h1]at h;cases h
theorem Pq{z:Type}{xs:List z}{i:Int}{v:z}(h:VF xs i=some v):∃j,eJ i xs.length=some j/\xs[j]?=some v/\j<xs.length/\-(xs.length:Int)<=i/\i<xs.length:=by
 unfold VF at h
 cases e:kI xs.length i with
 |none=>rw[e]at h;cases h
 |some j=>
  rw[e]at h;obtain⟨h1,h2,h3,I⟩:=zNS e;exact⟨j,h1,h,h2,h3,I⟩
def zNT(b:Expr):Prop:=∀o i,subscripted b false o i=operate [o,i] (getItem o i)
def nQ(X:Cx)(r:R2):Prop:=
 ∀(value slice:Expr)(pins:oE)(s:Shared)(σ:St)(H:Hp)(x y:V)(v u:Value)(Q:VK),Inv X pins σ H s->yk x v->yk y u->r x y H Q ->
  subscripted slice false v u=operate [v,u] (getItem v u)->wpAny (model X.prog X.w) X.A (subscriptTail value slice v u) (EP X pins σ Q) X.xe s
def C6(X:Cx)(id:String)(r:V->List V->Hp->VK->Prop):Prop:=
 ∀(pins:oE)(s:Shared)(σ:St)(H:Hp)(x:V)(xs:List V)(v:Value)(us:List Value)(Q:VK),Inv X pins σ H s->yk x v->yO xs us->r x xs H Q ->
  wpAny (model X.prog X.w) X.A (call (.builtin id) (v::us)) (EP X pins σ Q) X.xe s
section
variable {X:Cx}{a b:Expr}{ta tb:TE}{pos:Pos}
theorem nQ.or(h:nQ X r)(h':nQ X r'):nQ X (λx y H Q=>r x y H Q\/r' x y H Q):=by
 intro value slice pins s σ H x y v u Q I j z q hs;rcases q with q|q
 .exact h value slice pins s σ H x y v u Q I j z q hs
 .exact h' value slice pins s σ H x y v u Q I j z q hs
theorem MZ(hr:nQ X r)(ha:PE X a ta)(hb:PE X b tb)(hs:zNT b):PE X (.Subscript a b pos) (RU r ta tb):=by
 intro pins s σ H Q I h;exact Subscript_ (ZT ha hb I h λv u s2 x y H2 I2 j z q=>hr a b pins s2 σ H2 x y v u Q I2 j z q<|hs _ _)
def TZ(K:Fg):R2:=λx y H Q=>∃p xs i v,x=.ref p/\y=.int i/\GF K H p xs/\VF xs i=some v/\Q v H
def VZ(K:Fg):R2:=λx y H Q=>∃p xs i v,x=.ref p/\y=.int i/\GI K H p xs/\VF xs i=some v/\Q v H
def UZ:R2:=λx y H Q=>∃z i c,x=.str z/\y=.int i/\z.length<=sizeLine/\VF z.cps.toList i=some c/\Q (.str ⟨#[c]⟩) H
theorem zSl:nQ X (TZ X.K):=by
 intro value slice pins s σ H x y v u Q I Z ry h hs;obtain⟨p,xs,i,z,rfl,rfl,hq,he,q⟩:=h;cases Z;obtain⟨t,rfl⟩:=ry;obtain⟨its,r,pl,hz⟩:=I.list hq;obtain⟨j,h1,h2,h3,S,U⟩:=Pq he;obtain⟨w,O,rw'⟩:=r.get h2;have Y:=r.length;have hn:=lV;have fin:EP X pins σ Q w s:=⟨z,H,I,rw',q⟩
 by_cases h0:0<=i
 .have J:i.toNat=j:=by
   rw[seqIndex_of h0 U]at h1;exact wB h1
  exact item_listR pl.isList h0 (by omega) (by rw[J];simpa using O) fin hs
 .have J:(i+(its.toArray.size:Int)).toNat=j:=by
   rw[seqIndex_neg (by omega) S]at h1;rw[pA,<- Y];exact wB h1
  exact lQ (x:=w) pl.isList.typeIs slot_list_getitem.lookup
   (wpAny_getItem_list_neg (Q:=λr s'=>r=w/\EP X pins σ Q r s') pl.isList (by omega) (by rw[pA]<;>omega) (by omega) (by rw[J];simpa using O) ⟨rfl,fin⟩) hs
theorem zVF:nQ X (VZ X.K):=by
 intro value slice pins s σ H x y v u Q I S U h hs;obtain⟨p,xs,i,z,rfl,rfl,hq,he,q⟩:=h;cases S;obtain⟨t,rfl⟩:=U;obtain⟨its,r,pl,hz⟩:=I.tuple hq;obtain⟨j,h1,h2,h3,Y,Z⟩:=Pq he;obtain⟨w,J,rw'⟩:=r.get h2;have O:=r.length;have hn:=lV;have fin:EP X pins σ Q w s:=⟨z,H,I,rw',q⟩
 exact lQ (x:=w) pl.typeIs slot_tuple_getitem.lookup
  (getItem_tuple (j:=j) (Q:=λr s'=>r=w/\EP X pins σ Q r s') pl (by omega) (by omega) (by rw[pA,<- O];exact h1) (by simpa using J) ⟨rfl,fin⟩) hs
theorem zVG:nQ X UZ:=by
 intro value slice pins s σ H x y v u Q I Z ry h hs;obtain⟨z,i,c,rfl,rfl,hz,he,q⟩:=h;obtain⟨t,rfl⟩:=Z;obtain⟨t',rfl⟩:=ry;obtain⟨j,h1,h2,h3,S,U⟩:=Pq he;have Y:z.cps.toList.length=z.length:=by simp[mD]
 rw[Y]at h1 S U;have hn:=lV
 exact tail_any (typeIs_str s z t) slot_str_getitem.lookup (getItem_str (c:=c) (by
  have J:decide (i < -(2 ^ 63:Int))=false:=decide_eq_false (by omega);have O:decide (i>=2 ^ 63)=false:=decide_eq_false (by omega);rw[J,O,ND]) (by rw[h1];simpa using h2) ⟨.str ⟨#[c]⟩,H,I.tok _,⟨_,rfl⟩,q⟩) hs
def rIx(K:Fg):R2:=λx y H Q=>TZ K x y H Q\/VZ K x y H Q\/UZ x y H Q
theorem Ra:nQ X (rIx X.K):=zSl.or<|zVF.or zVG
theorem zMO(its:List Value)(n j:Nat)(u:Value):mH (·.setIfInBounds j u) { cls:=.type "list",data:=.seq its.toArray n }={ cls:=.type "list",data:=.seq (its.set j u).toArray n }:=by
 simp[mH]
theorem Inv.lst{s:Shared}(I:Inv X pins σ H s)(h:H p=some (.lst xs)):
  ∃(its:List Value)(n:Nat),yO xs its/\s.heap.get? p=some { cls:=.type "list",data:=.seq its.toArray n }/\xs.length<=sizeLine:=by
 obtain⟨z,its,n,r,e⟩:=I.hok p _ h;exact⟨its,n,r,e,z⟩
theorem Inv.lstUpd{s:Shared}{xs ys:List V}{its its':List Value}{f:Obj->Obj}(I:Inv X pins σ H s)(h:H p=some (.lst xs))(j:s.heap.get? p=some { cls:=.type "list",data:=.seq its.toArray n })(hf:f { cls:=.type "list",data:=.seq its.toArray n }={ cls:=.type "list",data:=.seq its'.toArray n' })(r:yO ys its')(hz:ys.length<=sizeLine)(t:Nat):
  Inv X pins σ (upd H p<|.lst ys) { s with heap:=s.heap.update p f,toks:=t }:=by
 have e:(s.heap.update p f).get? p=some { cls:=.type "list",data:=.seq its'.toArray n' }:=by
  rw[iF f j (by rw[hf]<;>rfl),hf]
 refine I.write (x:=p) (e:=p) (by rw[h];trivial) (.inl rfl) (λb u hb q=>(UE _ _<|Ne.symm hb).trans q) ⟨_,e⟩ ?_;exact⟨hz,its',n',r,e⟩
def XZ:V->V->V->Hp->(Hp->Prop)->Prop:=λo i v H Q=>∃p xs k j,o=.ref p/\i=.int k/\H p=some (.lst xs)/\kI xs.length k=some j/\Q (upd H p<|.lst<|xs.set j v)
theorem zK1:WX X XZ:=by
 intro pins s σ H o i v ov iv u Q I ro Y Z h;obtain⟨p,xs,k,j,rfl,rfl,hp,U,q⟩:=h;cases ro;obtain⟨t,rfl⟩:=Y;obtain⟨its,n,r,J,hz⟩:=I.lst hp;obtain⟨h1,h2,h3,S⟩:=zNS U;have z:=r.length;have hn:=lV
 have O:Inv X pins σ (upd H p<|.lst<|xs.set j v) { s with heap:=s.heap.update p (mH (·.setIfInBounds j u)) }:=
  I.lstUpd hp J (zMO its n j u) (r.set Z j) (by rw[VR];exact hz) s.toks
 by_cases h0:0<=k
 .have hk:k.toNat=j:=by
   rw[seqIndex_of h0 S]at h1;exact wB h1
  exact PySem.W.ki_setAt J h0 (by omega) (by rw[pA,<- z];exact S) (by rw[hk];exact⟨_,O,q⟩)
 .have hk:(k+(its.toArray.size:Int)).toNat=j:=by
   rw[seqIndex_neg (by omega) h3]at h1;rw[pA,<- z];exact wB h1
  exact PySem.W.ki_setBack J (by omega) (by rw[pA,<- z];exact h3) (by omega) (by rw[hk];exact⟨_,O,q⟩)
theorem zIe(lo hi:Option Int)(n:Nat):(sliceBounds lo hi none n).1=((HT.MD n 0 lo:Nat):Int)/\(sliceBounds lo hi none n).2.1=((HT.MD n n hi:Nat):Int)/\(sliceBounds lo hi none n).2.2=1:=by
 refine⟨?_,?_,rfl⟩
 .cases lo with
  |none=>simp[sliceBounds,HT.MD]
  |some i=>
   simp only[sliceBounds,HT.MD,cJ,show(1:Int)>0 by decide,if_true];by_cases h:i<0
   .simp only[h,if_true]<;>omega
   .simp only[h,if_false]<;>omega
 .cases hi with
  |none=>simp[sliceBounds,HT.MD]
  |some i=>
   simp only[sliceBounds,HT.MD,cJ,show(1:Int)>0 by decide,if_true];by_cases h:i<0
   .simp only[h,if_true]<;>omega
   .simp only[h,if_false]<;>omega
theorem zHb(its:List Value)(lo hi:Option Int):slicePick its.toArray lo hi none=((its.drop<|HT.MD its.length 0 lo).take<|HT.MD its.length its.length hi-HT.MD its.length 0 lo).toArray:=by
 obtain⟨h1,h2,h3⟩:=zIe lo hi its.toArray.size;unfold slicePick;rw[h1,h2,h3];simp only[sliceRange_one,pick_run,pA]<;>rfl
def Hi(K:Fg):V->Option Int->Option Int->Hp->VK->Prop:=λx lo hi H Q=>∃a xs,x=.ref a/\GF K H a xs/\∀p,H p=none->Q (.ref p) (upd H p<|.lst<|pT xs lo hi)
theorem zSm:J6 X (Hi X.K):=by
 intro pins s σ H x v U Y lo hi S Q I O hs pl z h;obtain⟨a,xs,rfl,hx,q⟩:=h;cases O;obtain⟨its,r,ht,hz⟩:=I.list hx;have j:=r.length;refine⟨"list",_,slot_list_getitem.lookup,ht.isList.typeIs,?_⟩;refine wpAny_getItem_list_slice ht.isList hs pl z .none (by simp) ?_ (by rw[pA]<;>omega);rw[zHb,<- j];refine⟨.ref s.heap.objs.size,_,I.laid (t':=s.toks) (o:=.lst<|pT xs lo hi) (λb ob q=>sA _ q) (wA _) ?_,rfl,q _<|I.hok.fresh<|wA _⟩;exact⟨QA (wm xs lo hi) hz,_,0,(r.drop<|HT.MD xs.length 0 lo).take<|HT.MD xs.length xs.length hi-HT.MD xs.length 0 lo,KA _ rfl⟩
theorem vz:tK X (.builtin "len") (λxs H Q=>∃p ys,xs=[.ref p]/\(GF X.K H p ys\/GI X.K H p ys)/\Q (.int ys.length) H):=by
 intro pins s σ H xs us Q I r h;obtain⟨p,ys,rfl,hq,q⟩:=h;obtain⟨u,rfl,J⟩:=ZN r;cases J;have O:=lV;rcases hq with hq|hq
 .obtain⟨its,z,pl,hz⟩:=I.list hq;have j:=z.length;exact Calls.call_len_list pl.isList (by simp only[pA]<;>omega) ⟨.int ys.length,H,I.tok _,⟨s.toks+1,by rw[pA,j]⟩,q⟩
 .obtain⟨its,z,pl,hz⟩:=I.tuple hq;have j:=z.length;exact len_tuple pl (by simp only[pA]<;>omega) ⟨.int ys.length,H,I.tok _,⟨s.toks+1,by rw[pA,j]⟩,q⟩
theorem zIf:tK X (.builtin "len") (λxs H Q=>∃z,xs=[.str z]/\z.length<=sizeLine/\Q (.int z.length) H):=by
 intro pins s σ H xs us Q I r h;obtain⟨z,rfl,hz,q⟩:=h;obtain⟨u,rfl,t,rfl⟩:=ZN r;have j:=lV;exact len_str (by omega) ⟨.int z.length,H,I.tok _,⟨_,rfl⟩,q⟩
theorem wb:tK X (.type "list") (λxs H Q=>∃p ys,xs=[.ref p]/\(GF X.K H p ys\/GI X.K H p ys)/\∀l,H l=none->Q (.ref l) (upd H l<|.lst ys)):=by
 intro pins s σ H xs us Q I r h;obtain⟨p,ys,rfl,hq,q⟩:=h;obtain⟨u,rfl,S⟩:=ZN r;cases S
 have fin:∀(its:List Value),yO ys its->ys.length<=sizeLine->∀(h':Heap)(j:Nat),(∀b o',s.heap.get? b=some o'->h'.get? b=some o') ->
   h'.get? s.heap.objs.size=some { cls:=.type "list",dict:=none,data:=.seq its.toArray j,slots:=#[] }->EP X pins σ Q (.ref s.heap.objs.size) { s with heap:=h' }:=λits z hz h' j kp e=>
  ⟨.ref s.heap.objs.size,_,I.laid (t':=s.toks) kp (wA _)<|show yt X.prog X.w _ h' _ (.lst ys) from⟨hz,its,j,z,e⟩,rfl,q _<|I.hok.fresh<|wA _⟩
 rcases hq with hq|hq
 .obtain⟨its,z,pl,hz⟩:=I.list hq;have J:=z.length;obtain⟨o,O,hc,n,hd⟩:=pl.isList;exact call_list_seq p (.inl rfl) O hc hd (λh' j kp e=>fin its z hz h' j kp e) (by simp only[pA]<;>omega)
 .obtain⟨its,z,pl,hz⟩:=I.tuple hq;have J:=z.length;obtain⟨o,O,hc,n,hd⟩:=pl;exact call_list_seq p (.inr rfl) O hc hd (λh' j kp e=>fin its z hz h' j kp e) (by simp only[pA]<;>omega)
theorem kn:tK X (.type "tuple") (λxs H Q=>∃p ys,xs=[.ref p]/\((GF X.K H p ys/\∀l,H l=none->Q (.ref l) (upd H l<|.tup ys))\/(GI X.K H p ys/\Q (.ref p) H))):=by
 intro pins s σ H xs us Q I r h;obtain⟨p,ys,rfl,h⟩:=h;obtain⟨u,rfl,J⟩:=ZN r;cases J;rcases h with⟨hq,q⟩|⟨hq,q⟩
 .obtain⟨its,j,pl,hz⟩:=I.list hq;have z:=j.length;refine call_tuple_list pl.isList (λh' kp=>?_) (by simp only[pA]<;>omega);have I1:Inv X pins σ H { s with heap:=h' }:=I.kept (t':=s.toks) kp
  have I2:Inv X pins σ (upd H h'.objs.size<|.tup ys) { s with heap:=h'.push { cls:=.type "tuple",data:=.seq its.toArray } }:=
   I1.laid (t':=s.toks) (λb o e=>sA _ e) (wA _) (show yt X.prog X.w _ _ _ (.tup ys) from⟨hz,its,j,VN.new _ _⟩)
  exact⟨.ref h'.objs.size,_,I2,rfl,q _<|I1.hok.fresh<|wA _⟩
 .obtain⟨its,j,pl,hz⟩:=I.tuple hq;exact call_tuple_same pl ⟨.ref p,H,I,rfl,q⟩
def Iu(K:Fg)(T:String)(x:V)(H:Hp):Prop:=match x with
 |.str _=>T = "str"
 |.int _=>T = "int"
 |.ref p=>(T = "list"/\∃xs,GF K H p xs)\/(T = "tuple"/\∃o,K.lookup p=some o/\o.cls=.type "tuple"/\o.dict=none) \/
   (T = "dict"/\((∃kvs,H p=some (.dK kvs))\/∃kvs,H p=some (.dT kvs)))\/(T = "set"/\∃S n,H p=some (.set S n))
 |_=>False
theorem zRj{s:Shared}(I:Inv X pins σ H s)(r:yk x v)(ty:Iu X.K T x H):
  s.TypeIs v T/\∀a,v=.ref a->∃ob,s.heap.get? a=some ob/\ob.dict=none:=by
 cases x with
 |str z=>
  obtain⟨t,rfl⟩:=r;cases (show T = "str" from ty)
  exact⟨typeIs_str s z t,λ_ e=>nomatch e⟩
 |int i=>
  obtain⟨t,rfl⟩:=r;cases (show T = "int" from ty)
  exact⟨typeIs_int s i t,λ_ e=>nomatch e⟩
 |ref p=>
  cases r;rcases ty with⟨rfl,xs,hq⟩|⟨rfl,o,hk,hc,hd⟩|⟨rfl,hk⟩|⟨rfl,S,n,hk⟩
  .obtain⟨its,_,pl,_⟩:=I.list hq;refine⟨pl.isList.typeIs,λa e=>?_⟩;cases e;obtain⟨o,n,e,c,hd,_⟩:=pl;exact⟨o,e,hd⟩
  .refine⟨⟨o,I.kIn p o hk,hc⟩,λa e=>?_⟩;cases e;exact⟨o,I.kIn _ o hk,hd⟩
  .have z:∃o,s.heap.get? p=some o/\o.ExactDict:=by
    rcases hk with⟨kvs,hk⟩|⟨kvs,hk⟩
    .obtain⟨_,_,_,_,o,_,_,e,ex,_⟩:=I.hok p _ hk;exact⟨o,e,ex⟩
    .obtain⟨_,_,_,_,o,_,_,e,ex,_⟩:=I.hok p _ hk;exact⟨o,e,ex⟩
   obtain⟨o,e,ex⟩:=z;refine⟨⟨o,e,ex.1⟩,λa j=>?_⟩;cases j;exact⟨o,e,ex.2.1⟩
  .obtain⟨o,_,_,_,e,ex,_⟩:=I.hok p _ hk;refine⟨⟨o,e,ex.1⟩,λa j=>?_⟩;cases j
   exact⟨o,e,ex.2.1⟩
 |_=>exact False.elim ty
def Hz(K:Fg)(T:String)(r:V->List V->Hp->VK->Prop)(to:TE):TE:=λσ H Q=>to σ H λx H1=>Iu K T x H1/\r x [] H1 Q
def tBM(K:Fg)(T:String)(r:V->List V->Hp->VK->Prop)(to:TE)(t:TA):TE:=λσ H Q=>to σ H λx H1=>Iu K T x H1/\t σ H1 λxs H2=>r x xs H2 Q
variable {o e:Expr}{es:List Expr}{to:TE}{t:TA}{name:Str}{apos uB:Pos}{T id:String}{r:V->List V->Hp->VK->Prop}
theorem zRk(pa:PlainAttrs T)(slot:Slot T name id)(j:typeOf (.builtin id)=pure (.type "method_descriptor"))(hm:C6 X id r)(O:PE X o to)
  (z:TF o name X.env (eval o X.env)=eval o X.env:=by rfl) (J:(apos.endLine==uB.line)=true:=by rfl):PE X (.Call (.Attribute o name apos) [] [] uB) (Hz X.K T r to):=by
 intro pins s σ H Q I h;refine wpAny_Call_method0_late z J (RC (O pins s σ H _ I h) λv s1 zz=>?_);obtain⟨x,H1,I1,r1,ty,S⟩:=zz;obtain⟨h1,h2⟩:=zRj I1 r1 ty;exact⟨T,id,pa,slot,j,h1,h2,VG rfl<|PySem.evalArgs_none<|hm pins s1 σ H1 x [] v [] Q I1 r1 .nil S⟩
theorem OO(pa:PlainAttrs T)(slot:Slot T name id)(z:typeOf (.builtin id)=pure (.type "method_descriptor"))(hm:C6 X id r)(Y:PE X o to)(ha:PA X (e::es) t)
  (J:TF o name X.env (eval o X.env)=eval o X.env:=by rfl)
  (U:((backTo uB<|starEach (e::es) X.env).all (λx=>!x.1)&&(backToKw uB<|keywordEach [] X.env).all (λx=>x.1.isSome)
   && decide ((e::es).length+([]:List EK).length+(if ([]:List EK).isEmpty then 0 else 1)<30))=true:=by rfl)
  (O:(apos.endLine==uB.line)=true:=by rfl) (hs:starEach (e::es) X.env=(false,eval e X.env)::starEach es X.env:=by rfl) (S:(backTo uB<|starEach es X.env).any (·.1)=false:=by rfl) :
  PE X (.Call (.Attribute o name apos) (e::es) [] uB) (tBM X.K T r to t):=by
 intro pins s σ H Q I h;refine wpAny_Call_method_late J U O rfl (RC (Y pins s σ H _ I h) λv s1 zz=>?_);obtain⟨x,H1,I1,r1,ty,Z⟩:=zz;obtain⟨h1,h2⟩:=zRj I1 r1 ty;refine⟨T,id,pa,slot,z,h1,h2,?_⟩;have j:=ha uB pins s1 σ H1 _ I1 Z;rw[hs]at j ⊢;refine VG (by show(false || (backTo uB<|starEach es X.env).any (·.1))=false;rw[S]<;>rfl)<|FH ?_;exact RC j λus s2 ⟨vs,H2,I2,r2,q2⟩=>hm pins s2 σ H2 x vs v us Q I2 r1 r2 q2
end
end L2
namespace L2
open PySem PySem.Spec PyProof.Rows
def dW(X:Cx)(id:String)(r:V->List V->Hp->VK->Prop):Prop:=
 ∀(pins:oE)(s:Shared)(σ:St)(H:Hp)(x:V)(xs:List V)(v:Value)(us:List Value)(Q:VK),Inv X pins σ H s->yk x v->yO xs us->r x xs H Q ->
  wpAny (model X.prog X.w) X.A (call (.builtin id) (v::us)) (EP X pins σ Q) X.xe s
theorem yO.one:∀{x:V}{us:List Value},yO [x] us->∃u,us=[u]/\yk x u
 |_,_,.cons r .nil=>⟨_,rfl,r⟩
theorem yO.two:∀{x y:V}{us:List Value},yO [x,y] us->∃u v,us=[u,v]/\yk x u/\yk y v
 |_,_,_,.cons r (.cons q .nil)=>⟨_,_,rfl,r,q⟩
theorem yO.zero:∀{us:List Value},yO [] us->us=[]
 |_,.nil=>rfl
theorem yO.dropLast{xs:List V}{us:List Value}(h:yO xs us):yO xs.dropLast us.dropLast:=by
 induction h with
 |nil=>exact .nil
 |cons r t ih=>
  cases t with
  |nil=>exact .nil
  |cons q t'=>exact .cons r ih
theorem yO.eraseIdx:∀{xs:List V}{us:List Value}(i:Nat),yO xs us->yO (xs.eraseIdx i) (us.eraseIdx i)
 |_,_,_,.nil=>.nil
 |_,_,0,.cons _ t=>t
 |_,_,i+1,.cons r t=>.cons r<|yO.eraseIdx i t
theorem zMP{j:Type}(l:List j):l.eraseIdx (l.length-1)=l.dropLast:=by
 induction l with
 |nil=>rfl
 |cons a r ih=>
  cases r with
  |nil=>rfl
  |cons b r=>
   have e:(a::b::r).length-1=((b::r).length-1)+1:=by
    have h1:(a::b::r).length=r.length+2:=rfl;have h2:(b::r).length=r.length+1:=rfl;omega
   rw[e,List.eraseIdx_cons_succ,ih]
   all_goals rfl
theorem zIg{j:Type}:∀(l:List j)(i:Nat),(l.eraseIdx i).length<=l.length
 | [],_=>wA _
 |_::_,0=>GD _
 |_::r,i+1=>YR<|zIg r i
section
variable {X:Cx}{pins:oE}{σ:St}{H:Hp}{s:Shared}{l b:Addr}{xs ys zs:List V}
theorem Inv.lset{its its':List Value}{f:Array Value->Array Value}{t':Nat}(I:Inv X pins σ H s)(hH:H l=some (.lst xs))(e:s.heap.get? l=some { cls:=.type "list",data:=.seq its.toArray n })(hf:f its.toArray=its'.toArray)(hv:yO ys its')(hz:ys.length<=sizeLine):
  Inv X pins σ (upd H l<|.lst ys) { s with heap:=s.heap.update l<|mH f,toks:=t' }:=by
 have q:=PySem.IsL.update e f;rw[hf]at q;refine I.write (x:=l) (e:=l) (by rw[hH];exact trivial) (.inl rfl) (λb' u hb hu=>(UE s.heap (mH f)<|Ne.symm hb).trans hu) ⟨_,q⟩ ?_;exact⟨hz,its',_,hv,q⟩
theorem Inv.lnew{t':Nat}(I:Inv X pins σ H s)(hv:yO ys its)(hz:ys.length<=sizeLine):
  Inv X pins σ (upd H s.heap.objs.size<|.lst ys) { s with heap:=s.heap.push { cls:=.type "list",data:=.seq its.toArray },toks:=t' }:=
 I.laid (λ_ _ q=>sA _ q) (wA _) ⟨hz,its,0,hv,KA _ rfl⟩
theorem Inv.fresh(I:Inv X pins σ H s):H s.heap.objs.size=none:=I.hok.fresh<|wA _
theorem Inv.lstM(I:Inv X pins σ H s)(hH:H l=some (.lst xs)):xs.length<=sizeLine/\∃(its:List Value)(n:Nat),yO xs its/\xs.length=its.length/\s.heap.get? l=some { cls:=.type "list",data:=.seq its.toArray n }:=by
 obtain⟨z,its,n,r,e⟩:=I.hok l _ hH;exact⟨z,its,n,r,r.length,e⟩
theorem zK2(h:n<=sizeLine):SC n=false:=by
 unfold SC;exact decide_eq_false (by omega)
end
section
variable {X:Cx}
def zSn:V->List V->Hp->VK->Prop:=λx vs H Q=>∃l xs y,x=.ref l/\vs=[y]/\H l=some (.lst xs)/\xs.length<sizeLine/\Q .non (upd H l<|.lst<|xs++[y])
theorem D3:dW X "list.append" zSn:=by
 intro pins s σ H x vs v us Q I O J h;obtain⟨l,xs,y,rfl,rfl,hH,hz,q⟩:=h;cases O;obtain⟨u,rfl,j⟩:=J.one;obtain⟨z,its,n,r,S,e⟩:=I.lstM hH;refine gI F.slot_list_append ⟨_,e,rfl⟩ F.entry_list_append (F.args_list_append_2 _ _) (PySem.list_append l its.toArray n u (by rw[pA];omega)) ⟨e,?_⟩;refine⟨.non,_,I.lset (its':=its++[u]) hH e (by simp) (r.append<|.cons j .nil) ?_,rfl,q⟩;rw[rA,HA];omega
def zSo:V->List V->Hp->VK->Prop:=λx vs H Q=>∃l b xs zs,x=.ref l/\vs=[.ref b]/\H l=some (.lst xs)/\H b=some (.lst zs)/\xs.length+zs.length<=sizeLine/\Q .non (upd H l<|.lst<|xs++zs)
theorem zNV:dW X "list.extend" zSo:=by
 intro pins s σ H x vs v us Q I rx rv h;obtain⟨l,b,xs,zs,rfl,rfl,hH,O,hz,q⟩:=h;cases rx;obtain⟨u,rfl,Z⟩:=rv.one;cases Z;obtain⟨z,its,n,r,hl,e⟩:=I.lstM hH;obtain⟨z2,j,U,r2,S,J⟩:=I.lstM O;have hsz:its.toArray.size+j.toArray.size<=sizeLine:=by rw[pA,pA];omega
 have Y:¬ (!its.toArray.isEmpty&&SC (its.toArray.size+j.toArray.size))=true:=by
  rw[zK2 hsz,LH];exact YA
 refine gI TR ⟨_,e,rfl⟩ OQ (cQ _ _)
  (AutoSeq1.list_extend_list_list_0 l its.toArray n b j.toArray U Y (by rw[pA];omega)<|by omega) ⟨e,J,?_⟩
 refine⟨.non,_,I.lset (its':=its++j) hH e (by simp) (r.append r2) ?_,rfl,q⟩;rw[rA];omega
def Hh:V->List V->Hp->VK->Prop:=λx vs H Q=>∃l xs y,x=.ref l/\vs=[]/\H l=some (.lst xs)/\xs[xs.length-1]?=some y/\Q y (upd H l<|.lst xs.dropLast)
theorem zVH:dW X "list.pop" Hh:=by
 intro pins s σ H x vs v us Q I U S h;obtain⟨l,xs,y,rfl,rfl,hH,hy,q⟩:=h;cases U;have j:=S.zero;subst j;obtain⟨z,its,n,r,J,e⟩:=I.lstM hH;obtain⟨u,hu,O⟩:=r.get hy
 have Y:its.toArray[its.toArray.size-1]?=some u:=by
  show its.toArray[its.length-1]?=some u;rw[<- fF,<- J];exact hu
 refine gI uX ⟨_,e,rfl⟩ SV (F.args_list_pop_1 _) (MeetsSeq.list_pop_last l its.toArray n u Y (by rw[pA];omega)) ⟨e,?_⟩;refine⟨y,_,I.lset (its':=its.dropLast) hH e ?_ r.dropLast ?_,O,q⟩
 .show its.toArray.eraseIdxIfInBounds (its.toArray.size-1)=its.dropLast.toArray;rw[pA,kJ,zMP]
 .rw[EF];omega
def zVI:V->List V->Hp->VK->Prop:=λx vs H Q=>∃l xs i k y,x=.ref l/\vs=[.int i]/\H l=some (.lst xs)/\-(2 ^ 63)<=i/\i<2 ^ 63/\eJ i xs.length=some k/\xs[k]?=some y/\Q y (upd H l<|.lst<|xs.eraseIdx k)
theorem Of:dW X "list.pop" zVI:=by
 intro pins s σ H x vs v us Q I U S h;obtain⟨l,xs,i,k,y,rfl,rfl,hH,h1,h2,hk,hy,q⟩:=h;cases U;obtain⟨u,rfl,O⟩:=S.one;obtain⟨t,rfl⟩:=O;obtain⟨z,its,n,r,j,e⟩:=I.lstM hH;obtain⟨w,J,rw'⟩:=r.get hy
 refine gI uX ⟨_,e,rfl⟩ SV (F.args_list_pop_2 _ _)
  (MeetsSeq.list_pop_at l its.toArray n i t k w (fitsIndex_both h1 h2) (by rw[pA,<- j];exact hk) (by rw[<- fF];exact J) (by rw[pA];omega)) ⟨e,?_⟩
 refine⟨y,_,I.lset (its':=its.eraseIdx k) hH e ?_ (r.eraseIdx k) ?_,rw',q⟩
 .show its.toArray.eraseIdxIfInBounds k=(its.eraseIdx k).toArray;rw[kJ]
 .have:=zIg xs k;omega
end
section
variable {prog:Program}{w:World}{A:Around}{E:KD}{s:Shared}
end
section
variable {X:Cx}
end
end L2
namespace L2
open PySem PySem.Spec PyProof.Rows
section
variable {κ:Type}[DecidableEq κ]
def oG(kvs:List (κ×V))(k:κ):Option V:=(kvs.find? λkv=>decide<|kv.1=k).map (·.2)
noncomputable def vH(kvs:List (κ×V))(k:κ)(v:V):List (κ×V):=
 if (kvs.any λkv=>decide<|kv.1=k)=true then kvs.map (λkv=>if kv.1=k then (kv.1,v) else kv) else kvs++[(k,v)]
theorem V8{p:κ×V}(e:p.1=k):oG (p::r) k=some p.2:=by simp[oG,vA,e]
theorem R3{p:κ×V}(e:¬ p.1=k):oG (p::r) k=oG r k:=by simp[oG,vA,e]
theorem Og(k:κ):∀kvs:List (κ×V),(kvs.any λkv=>decide<|kv.1=k)=(oG kvs k).isSome
 | []=>rfl
 |p::r=>by
  rw[QC];by_cases e:p.1=k
  .simp only[V8 e,decide_eq_true e,FM,QN]
  .rw[R3 e,decide_eq_false e,RV];exact Og k r
theorem qo(kvs:List (κ×V))(k:κ)(v:V):(vH kvs k v).length<=kvs.length+1:=by
 unfold vH;split
 .rw[kA];omega
 .rw[rA,iA,YB];omega
theorem zK3{kvs:List (κ×V)}(v:V)(h:oG kvs k=none):vH kvs k v=kvs++[(k,v)]:=by
 unfold vH;rw[Og,h];exact if_neg (by decide)
theorem bK.isSome_eq{o:Option V}{u:Option Value}(r:bK o u):o.isSome=u.isSome:=by
 cases o with
 |none=>cases u with
  |none=>rfl
  |some _=>exact(show False from r).elim
 |some _=>cases u with
  |none=>exact(show False from r).elim
  |some _=>rfl
theorem bK.getD{o:Option V}{u:Option Value}(r:bK o u)(j:yk d d'):yk (o.getD d) (u.getD d'):=by
 cases o with
 |none=>cases u with
  |none=>exact j
  |some _=>exact(show False from r).elim
 |some _=>cases u with
  |none=>exact(show False from r).elim
  |some _=>exact r
theorem KV.val(r:KV kvs vs)(k:κ):bK (oG kvs k) (valueAt vs k):=by
 unfold KV at r
 induction r with
 |nil=>exact True.intro
 |@cons p q ps qs h t ih=>
  obtain⟨h1,h2⟩:=h;by_cases e:p.1=k
  .have e':q.1=k:=h1.symm.trans e;have b:valueAt (q::qs) k=some q.2:=by simp[valueAt,vA,e']
   rw[V8 e,b];exact h2
  .have e':¬ q.1=k:=λz=>e (h1.trans z)
   have b:valueAt (q::qs) k=valueAt qs k:=by simp[valueAt,vA,e']
   rw[R3 e,b];exact ih
theorem KV.any{kvs:List (κ×V)}{vs:List (κ×Value)}(r:KV kvs vs)(k:κ):(kvs.any λkv=>decide<|kv.1=k)=vs.any λkv=>decide (kv.1=k):=by
 unfold KV at r
 induction r with
 |nil=>rfl
 |cons h t ih=>rw[QC,QC,ih,h.1]
theorem KV.repl{kvs:List (κ×V)}{vs:List (κ×Value)}(r:KV kvs vs)(k:κ)(j:yk y u):
  KV (kvs.map λkv=>if kv.1=k then (kv.1,y) else kv) (vs.map λkv=>if kv.1=k then (kv.1,u) else kv):=by
 unfold KV at r|-
 induction r with
 |nil=>exact .nil
 |@cons p q ps qs h t ih=>
  rw[eA,eA];refine .cons ?_ ih;obtain⟨h1,h2⟩:=h;by_cases e:p.1=k
  .rw[if_pos e,if_pos<|h1.symm.trans e];exact⟨h1,j⟩
  .rw[if_neg e,if_neg<|λz=>e<|h1.trans z];exact⟨h1,h2⟩
theorem KV.put(r:KV kvs vs)(k:κ)(j:yk y u):KV (vH kvs k y) (stored vs k u):=by
 unfold vH stored;rw[r.any k];by_cases e:(vs.any λkv=>decide<|kv.1=k)=true
 .rw[if_pos e,if_pos e];exact r.repl k j
 .rw[if_neg e,if_neg e];exact Paired.snoc r ⟨rfl,j⟩
theorem KV.length{kvs:List (κ×V)}{vs:List (κ×Value)}(r:KV kvs vs):kvs.length=vs.length:=Paired.length r
end
theorem EQ(r:yk (kV k) u):(zt P w).is k u=true:=by
 cases k with
 |inl i=>obtain⟨t,e⟩:=(show∃t,u=OH i t from r);subst e;exact zJt P w i t
 |inr x=>obtain⟨t,e⟩:=(show∃t,u=uJ x t from r);subst e;exact zJu P w x t
theorem zVJ(e:kV a=kV b):a=b:=by
 cases a with
 |inl i=>cases b with
  |inl j=>have e':V.int i=V.int j:=e;injection e' with e';rw[e']
  |inr y=>exact nomatch (show V.int i=V.str y from e)
 |inr x=>cases b with
  |inl j=>exact nomatch (show V.str x=V.int j from e)
  |inr y=>have e':V.str x=V.str y:=e;injection e' with e';rw[e']
theorem zNW:∀{a b:List XB},a.map kV=b.map kV->a=b
 | [],[],_=>rfl
 | [],_::_,e=>by simp at e
 |_::_,[],e=>by simp at e
 |x::xs,y::ys,e=>by
  rw[eA,eA]at e;injection e with e1 e2;rw[zVJ e1,zNW e2]
theorem zIh:∀{ks:List XB}{us:List Value},yO (ks.map kV) us->ItemsAre (zt P w) ks us
 | [],_,r=>by rw[vC]at r;cases r;exact .nil
 |k::ks,_,r=>by
  rw[eA]at r
  cases r with
  |cons h t=>exact .cons (EQ h)<|zIh t
abbrev KT(H:Hp):List (List XB×V)->List (List XB×Addr×Value)->Prop:=Paired λp q=>p.1=q.1/\H q.2.1=some (.tup<|p.1.map kV)/\yk p.2 q.2.2
theorem KT.val(r:KT H kvs xs)(k:List XB):bK (oG kvs k) ((atKey xs k).map (·.2)):=by
 induction r with
 |nil=>exact True.intro
 |@cons p q ps qs h t ih=>
  obtain⟨h1,_,h2⟩:=h;by_cases e:p.1=k
  .have e':q.1=k:=h1.symm.trans e;have b:atKey (q::qs) k=some q.2:=by simp[atKey,vA,e']
   rw[V8 e,b];exact h2
  .have e':¬ q.1=k:=λz=>e (h1.trans z)
   have b:atKey (q::qs) k=atKey qs k:=by simp[atKey,vA,e']
   rw[R3 e,b];exact ih
theorem KT.repl{kvs:List (List XB×V)}{xs:List (List XB×Addr×Value)}(r:KT H kvs xs)(k:List XB)(j:yk y u):
  KT H (kvs.map λkv=>if kv.1=k then (kv.1,y) else kv) (xs.map<|putAt k u):=by
 induction r with
 |nil=>exact .nil
 |@cons p q ps qs h t ih=>
  rw[eA,eA];refine .cons ?_ ih;obtain⟨h1,h2,h3⟩:=h;unfold putAt;by_cases e:p.1=k
  .rw[if_pos e,if_pos<|h1.symm.trans e];exact⟨h1,h2,j⟩
  .rw[if_neg e,if_neg<|λz=>e<|h1.trans z];exact⟨h1,h2,h3⟩
theorem KT.put(r:KT H kvs xs)(k:List XB)(hb:H b=some (.tup<|k.map kV))(j:yk y u):
  KT H (vH kvs k y) (storedH xs k b u):=by
 have e:(kvs.any λkv=>decide<|kv.1=k)=(atKey xs k).isSome:=by
  rw[Og,(r.val k).isSome_eq,MI]
 unfold vH storedH;rw[e];by_cases q:(atKey xs k).isSome=true
 .rw[if_pos q,if_pos q];exact r.repl k j
 .rw[if_neg q,if_neg q];exact Paired.snoc r ⟨rfl,hb,j⟩
theorem KT.keeps(r:KT H kvs xs)(ht:∀b ys,H b=some (.tup ys)->H' b=some (.tup ys)):KT H' kvs xs:=
 Paired.mapP r λ_ _ z=>⟨z.1,ht _ _ z.2.1,z.2.2⟩
section
variable {P:Program}{w:World}{H:Hp}{h:Heap}{a:Addr}
theorem zVK(ok:HOk P w H h)(e:Rd H a u):yt P w H h a u:=e.ok ok
theorem US{kvs:List (XB×V)}(ok:HOk P w H h)(e:Rd H a (.dK kvs)):kvs.length<=sizeLine/\(a==sysModules)=false/\∃vs,KV kvs vs/\h.DictOf (zt P w) a vs:=
 show yt P w H h a (.dK kvs) from zVK ok e
theorem Ak{kvs:List (XB×V)}(ok:HOk P w H h)(e:H a=some (.dK kvs)):kvs.length<=sizeLine/\(a==sysModules)=false/\∃vs,KV kvs vs/\h.DictOf (zt P w) a vs:=US ok<|.inl e
theorem vR{ks:List XB}(ok:HOk P w H h)(e:H a=some (.tup<|ks.map kV)):(tupleKind<|zt P w).is h ks a:=by
 obtain⟨_,its,r,o,h1,h2,n,h3,_⟩:=(show yt P w H h a (.tup<|ks.map kV) from ok a _ e)
 exact⟨o,its.toArray,n,h1,h2,h3,by simpa using zIh r⟩
theorem VS{kvs:List (List XB×V)}(ok:HOk P w H h)(e:Rd H a (.dT kvs)):kvs.length<=sizeLine/\(a==sysModules)=false /\
  ∃xs,KT H kvs xs/\h.DictOfH (tupleKind<|zt P w) a xs:=by
 obtain⟨z,y,xs,r,o,es,ep,h1,h2,h3,j,I⟩:=(show yt P w H h a (.dT kvs) from zVK ok e)
 refine⟨z,y,xs,r,o,es,ep,h1,h2,h3,j,λx hx=>?_,I⟩
 have all:∀{l:List (List XB×V)}{m:List (List XB×Addr×Value)},KT H l m->∀x∈m,(tupleKind<|zt P w).is h x.1 x.2.1:=by
  intro l m q
  induction q with
  |nil=>intro x hx;exact nomatch hx
  |@cons p q ps qs hq t ih=>
   intro x hx;rcases nA.mp hx with e|hx
   .subst e;exact vR ok (by rw[<- hq.1];exact hq.2.1)
   .exact ih x hx
 exact all r x hx
theorem So{kvs:List (List XB×V)}(ok:HOk P w H h)(e:H a=some (.dT kvs)):kvs.length<=sizeLine/\(a==sysModules)=false /\
  ∃xs,KT H kvs xs/\h.DictOfH (tupleKind<|zt P w) a xs:=VS ok<|.inl e
end
def cI(H:Hp)(a:Addr)(y:V)(r:Option V):Prop:=
 (∃kvs k,Rd H a (.dK kvs)/\y=kV k/\r=oG kvs k)\/∃kvs k b,Rd H a (.dT kvs)/\y=.ref b/\H b=some (.tup<|k.map kV)/\r=oG kvs k
def OP(H:Hp)(a:Addr)(y v:V)(H':Hp):Prop:=
 (∃kvs k,H a=some (.dK kvs)/\y=kV k/\kvs.length<sizeLine/\H'=upd H a (.dK<|vH kvs k v)) \/
 ∃kvs k b,H a=some (.dT kvs)/\y=.ref b/\H b=some (.tup<|k.map kV)/\kvs.length<sizeLine/\H'=upd H a (.dT<|vH kvs k v)
theorem cI.k{H:Hp}{a:Addr}{kvs:List (XB×V)}{k:XB}(e:H a=some (.dK kvs)):cI H a (kV k) (oG kvs k):=.inl ⟨kvs,k,.inl e,rfl,rfl⟩
theorem cI.t{k:List XB}(e:H a=some (.dT kvs))(j:H b=some (.tup<|k.map kV)):cI H a (.ref b) (oG kvs k):=.inr ⟨kvs,k,b,.inl e,rfl,j,rfl⟩
theorem OP.k{H:Hp}{a:Addr}{kvs:List (XB×V)}{k:XB}{v:V}(e:H a=some (.dK kvs))(j:kvs.length<sizeLine):OP H a (kV k) v (upd H a<|.dK<|vH kvs k v):=.inl ⟨kvs,k,e,rfl,j,rfl⟩
theorem OP.t{kvs:List (List XB×V)}{k:List XB}(e:H a=some (.dT kvs))(j:H b=some (.tup<|k.map kV))(z:kvs.length<sizeLine):
  OP H a (.ref b) v (upd H a<|.dT<|vH kvs k v):=.inr ⟨kvs,k,b,e,rfl,j,z,rfl⟩
section
variable {X:Cx}{pins:oE}{σ:St}{H:Hp}{s:Shared}{a:Addr}{y v:V}{u r:Value}{o:Option V}{A:Around}{E:KD}
theorem Inv.big(I:Inv X pins σ H s):sysModules<s.heap.objs.size:=by
 have h:LC<s.heap.objs.size:=(I.mod.glob.keeps I.bk).lt;exact nJ (by decide) h
theorem zNY{Q:KD}(hu:A.units+1<cLine)(I:Inv X pins σ H s)(g:cI H a y (some v))(U:yk y u)(h:∀J s',Inv X pins σ H s'->yk v J->Q J s'):
  wpAny (model X.prog X.w) A (getItem (.ref a) u) Q E s:=by
 rcases g with⟨kvs,k,e,O,l⟩|⟨kvs,k,b,e,O,Z,l⟩
 .subst O;obtain⟨z,hd,vs,j,dd⟩:=US I.hok e;obtain⟨J,S,rw'⟩:=bK.some_of (v:=v) (o:=valueAt vs k) (by rw[l];exact j.val k);exact wpAny_getItem_of (EQ U) dd.mapOf S<|h J _ (I.tok _) rw'
 .subst O;cases (show u=pB b from U);obtain⟨z,hd,xs,j,dd⟩:=VS I.hok e;obtain⟨J,S,rw'⟩:=bK.some_of (v:=v) (o:=(atKey xs k).map (·.2)) (by rw[l];exact j.val k);obtain⟨p,hp,Y⟩:=bA.mp S;refine wpAny_getItem_heap (tupleKind_room_in1 hu) (vR I.hok Z) dd hp ?_;rw[Y];exact h J _ (I.tok _) rw'
theorem Cy{Q:KD}(hu:A.units+1<cLine)(I:Inv X pins σ H s)(g:cI H a y o)(O:yk y u)(h:∀s',Inv X pins σ H s'->Q (.bool o.isSome) s'):
  wpAny (model X.prog X.w) A (compareOp .In u<|.ref a) Q E s:=by
 rcases g with⟨kvs,k,e,J,l⟩|⟨kvs,k,b,e,J,S,l⟩
 .subst J;obtain⟨z,hd,vs,j,dd⟩:=US I.hok e;refine wpAny_in_of (EQ O) hd dd.mapOf ?_;rw[<- (j.val k).isSome_eq,<- l];exact h _<|I.tok _
 .subst J;cases (show u=pB b from O);obtain⟨z,hd,xs,j,dd⟩:=VS I.hok e;refine wpAny_in_heap (tupleKind_room_in1 hu) (vR I.hok S) hd dd ?_;have q:=(j.val k).isSome_eq;rw[MI]at q;rw[<- q,<- l];exact h _<|I.tok _
theorem zSq{Q:KD}(hu:A.units+1<cLine)(I:Inv X pins σ H s)(g:cI H a y o)(O:yk y u)(h:∀s',Inv X pins σ H s'->Q (.bool<|!o.isSome) s'):
  wpAny (model X.prog X.w) A (compareOp .NotIn u<|.ref a) Q E s:=by
 rcases g with⟨kvs,k,e,J,l⟩|⟨kvs,k,b,e,J,S,l⟩
 .subst J;obtain⟨z,hd,vs,j,dd⟩:=US I.hok e;refine wpAny_notIn_of (EQ O) hd dd.mapOf ?_;rw[<- (j.val k).isSome_eq,<- l];exact h _<|I.tok _
 .subst J;cases (show u=pB b from O);obtain⟨z,hd,xs,j,dd⟩:=VS I.hok e;refine wpAny_notIn_heap (tupleKind_room_in1 hu) (vR I.hok S) hd dd ?_;have q:=(j.val k).isSome_eq;rw[MI]at q;rw[<- q,<- l];exact h _<|I.tok _
theorem MW{h':Heap}{t':Nat}(I:Inv X pins σ H s)(j:VX (H a))(hs:RE a s.heap h')(he:∃q,h'.get? a=some q)(new:yt X.prog X.w (upd H a ob) h' a ob):
  Inv X pins σ (upd H a ob) { s with heap:=h',toks:=t' }:=
 I.write (x:=a) (e:=a) j (.inl rfl) (λb q hb z=>(hs.2 b hb).trans z) he new
theorem Rb{h':Heap}{kvs:List (XB×V)}(z:kvs.length<=sizeLine)(hd:(a==sysModules)=false)(j:KV kvs vs)(dd:h'.DictOf (zt P w) a vs):
  yt P w H' h' a (.dK kvs):=⟨z,hd,vs,j,dd⟩
theorem zNa{H':Hp}{Q:Unit->Shared->Prop}(hu:A.units+1<cLine)(I:Inv X pins σ H s)(g:OP H a y v H')(ry:yk y u)(rv:yk v r)(h:∀s',Inv X pins σ H' s'->Q () s'):
  wpAny (model X.prog X.w) A (setItem (.ref a) u r) Q E s:=by
 rcases g with⟨kvs,k,e,S,l,O⟩|⟨kvs,k,b,e,S,Y,l,O⟩
 .subst S O;obtain⟨z,hd,vs,j,dd⟩:=Ak I.hok e;have hz:vs.length<=sizeLine:=by rw[<- j.length];exact z
  have U:(vH kvs k v).length<=sizeLine:=by have:=qo kvs k v;omega
  refine wpAny_setItem_pairs (hsz:=hz) (EQ ry) dd λh' J hs=>h _ ?_
  have he:∃q,h'.get? a=some q:=let ⟨q,_,_,hq,_⟩:=J;⟨q,hq⟩;exact MW I (by rw[e];exact True.intro) hs he<|Rb U hd (j.put k rv) J
 .subst S O;cases (show u=pB b from ry);obtain⟨z,hd,xs,j,dd⟩:=So I.hok e;have hz:xs.length<=sizeLine:=by rw[<- Paired.length j];exact z
  have U:(vH kvs k v).length<=sizeLine:=by have:=qo kvs k v;omega
  refine wpAny_setItem_heap (hsz:=hz) (tupleKind_room_in1 hu) (vR I.hok Y) dd λh' J hs=>h _ ?_
  obtain⟨q,es,ep,hq,h2,h3,h4,_,h5⟩:=J;refine MW I (by rw[e];exact True.intro) hs ⟨q,hq⟩ ⟨U,hd,_,(j.put k Y rv).keeps λc ys Z=>?_,q,es,ep,hq,h2,h3,h4,h5⟩;rw[upd_ne<|Sm Z e<|λz=>nomatch z];exact Z
end
section
variable {X:Cx}{pins:oE}{σ:St}{H:Hp}{s:Shared}{a:Addr}{kvs:List (XB×V)}{k:XB}{u:Value}{A:Around}{E:KD}
end
def rT(i:Expr):Prop:=∀ov iv,subscripted i false ov iv=operate [ov,iv] (getItem ov iv)
theorem zSr{prog:Program}{w:World}{A:Around}{E:KD}{s:Shared}{env:Env}{value slice:Expr}{pos:Pos}{T id:String}{Q:KD}
  (U:nN (.type T) "__getitem__" = pure (some<|.builtin id)) (hs:rT slice)
  (h:wpAny (model prog w) A (eval value env) (λo O=>wpAny (model prog w) A (eval slice env) (λi j=>j.TypeIs o T/\wpAny (model prog w) A (getItem o i) Q E j) E O) E s) :
  wpAny (model prog w) A (eval (.Subscript value slice pos) env) Q E s:=by
 refine Subscript_ (wpAny_mono h (λo O Y=>wpAny_mono Y (λi j z=>?_) λ_ _ x=>x) λ_ _ x=>x);obtain⟨J,z⟩:=z;unfold subscriptTail;refine wpAny_bind ?_;rw[getitemInPython_of_ne J.not_modules];refine wpAny_bind<|wpAny_specialOf J U ?_
 have fin:wpAny (model prog w) A (subscripted slice false o i) (λr I=>wpAny (model prog w) A (letTemporaryGo value o r >>= λ_=>pure r) Q E I) E j:=by
  rw[hs o i];exact wpAny_operating (wpAny_mono z (λr I S=>wpAny_bind<|wpAny_letTemporaryGo<|wpAny_pure S) λ_ _ x=>x)
 first
  |exact wpAny_pure (wpAny_bind fin)
  |exact wpAny_bind (wpAny_pure<|wpAny_bind fin)
  |exact wpAny_bind fin
theorem zJ0{s:Shared}(I:Inv X pins σ H s)(g:cI H a y o):s.TypeIs (.ref a) "dict":=by
 rcases g with⟨kvs,k,e,_,_⟩|⟨kvs,k,b,e,_,_,_⟩
 .obtain⟨_,_,vs,_,dd⟩:=US I.hok e;exact dd.typeIs
 .obtain⟨_,_,xs,_,dd⟩:=VS I.hok e;exact dd.typeIs
def Q1(td ty:TE):TE:=λσ H Q=>td σ H λx H1=>ty σ H1 λy H2=>∃a v,x=.ref a/\cI H2 a y (some v)/\Q v H2
def Ib(ty td:TE):TE:=λσ H Q=>ty σ H λy H1=>td σ H1 λx H2=>∃a o,x=.ref a/\cI H2 a y o/\Q (.bl o.isSome) H2
def zSs(ty td:TE):TE:=λσ H Q=>ty σ H λy H1=>td σ H1 λx H2=>∃a o,x=.ref a/\cI H2 a y o/\Q (.bl<|!o.isSome) H2
def A0(td ty tv:TE):TS:=λD σ H=>tv σ H λv H1=>td σ H1 λx H2=>ty σ H2 λy H3=>∃a H4,x=.ref a/\OP H3 a y v H4/\D.nx σ H4
section
variable {X:Cx}{o i e value:Expr}{pos pos' HF:Pos}{td ty tv:TE}
theorem NW(hu:X.A.units+1<cLine)(z:PE X o td)(hi:PE X i ty)(hs:rT i):PE X (.Subscript o i pos) (Q1 td ty):=by
 intro pins s σ H Q I h;refine zSr PySem.F.slot_dict_getitem.lookup hs (RC (z pins s σ H _ I h) λu s1 ⟨x,H1,I1,S,J⟩=>RC (hi pins s1 σ H1 _ I1 J) λY s2 zz=>?_);obtain⟨y,H2,I2,U,a,v,ex,g,O⟩:=zz;subst ex;obtain rfl:u=pB a:=S;exact⟨zJ0 I2 g,zNY hu I2 g U λZ s3 j rw'=>⟨v,H2,j,rw',O⟩⟩
theorem zRm(hu:X.A.units+1<cLine)(hi:PE X i ty)(z:PE X o td):PC X .In i o (Ib ty td):=by
 intro pins s σ H Q I h;refine RC (hi pins s σ H _ I h) λZ s1 ⟨y,H1,I1,Y,O⟩=>RC (z pins s1 σ H1 _ I1 O) λu s2 zz=>?_
 obtain⟨x,H2,I2,U,a,J,ex,g,S⟩:=zz;subst ex;obtain rfl:u=pB a:=U;exact Cy hu I2 g Y λs3 j=>⟨.bl J.isSome,H2,j,rfl,S⟩
theorem zIk(hu:X.A.units+1<cLine)(hi:PE X i ty)(z:PE X o td):PC X .NotIn i o (zSs ty td):=by
 intro pins s σ H Q I h;refine RC (hi pins s σ H _ I h) λZ s1 ⟨y,H1,I1,Y,O⟩=>RC (z pins s1 σ H1 _ I1 O) λu s2 zz=>?_
 obtain⟨x,H2,I2,U,a,J,ex,g,S⟩:=zz;subst ex;obtain rfl:u=pB a:=U;exact zSq hu I2 g Y λs3 j=>⟨.bl<|!J.isSome,H2,j,rfl,S⟩
theorem zNb(hu:X.A.units+1<cLine)(O:PE X o td)(hi:PE X i ty)(hv:PE X value tv)(hs:gF value (some<|.Subscript o i pos') pos.line X.env=pure false):
  PS X (.Assign [.Subscript o i pos'] value pos) (A0 td ty tv):=by
 intro pins s σ H D I h;refine wpAny_Assign_Subscript (RC (hv pins s σ H _ I h) λr s1 ⟨v,H1,I1,Z,S⟩=>RC (O pins s1 σ H1 _ I1 S) λu s2 ⟨x,H2,I2,rx,U⟩=>RC (hi pins s2 σ H2 _ I2 U) λiv s3 ⟨y,H3,z,ry,a,j,ex,g,Y⟩=>?_) hs;subst ex;obtain rfl:u=pB a:=rx;exact zNa hu z g ry Z λs4 J=>⟨σ,j,J,Y⟩
end
theorem zK4(h:Heap)(hb:sysModules<h.objs.size):yt P w H (h.push { cls:=.type "dict",data:=.dict #[] }) h.objs.size (.dK []):=
 ⟨nC _,beq_eq_false_iff_ne.mpr<|Ne.symm<|VA hb,[],.nil,GM h⟩
theorem zK5(h:Heap)(hb:sysModules<h.objs.size):yt P w H (h.push { cls:=.type "dict",data:=.dict #[] }) h.objs.size (.dT []):=
 ⟨nC _,beq_eq_false_iff_ne.mpr<|Ne.symm<|VA hb,[],.nil,_,#[],0,KA _ rfl,⟨rfl,rfl,rfl⟩,rfl,rfl,List.nodup_nil⟩
def zVL:TE:=λ_ H Q=>∀p,H p=none->Q (.ref p) (upd H p<|.dK [])
def zVM:TE:=λ_ H Q=>∀p,H p=none->Q (.ref p) (upd H p<|.dT [])
section
variable {X:Cx}{pos:Pos}
theorem zK6:PE X (.Dict [] [] pos) zVL:=λpins s σ H Q I h=>
 x6 ⟨.ref s.heap.objs.size,_,I.laid (a:=s.heap.objs.size) (o:=.dK []) (t':=s.toks) (λ_ _ q=>sA _ q) (wA _)<|zK4 s.heap I.big,rfl,h _<|I.hok.fresh<|wA _⟩
theorem zQB:PE X (.Dict [] [] pos) zVM:=λpins s σ H Q I h=>
 x6 ⟨.ref s.heap.objs.size,_,I.laid (a:=s.heap.objs.size) (o:=.dT []) (t':=s.toks) (λ_ _ q=>sA _ q) (wA _)<|zK5 s.heap I.big,rfl,h _<|I.hok.fresh<|wA _⟩
end
def Re:List (TE×TE)->St->Hp->(List (V×V)->Hp->Prop)->Prop
 | [],_,H,Q=>Q [] H
 |(tk,tv)::r,σ,H,Q=>tk σ H λx H1=>tv σ H1 λy H2=>Re r σ H2 λps H3=>Q ((x,y)::ps) H3
abbrev VV:List (V×V)->List (Value×Value)->Prop:=Paired λp q=>yk p.1 q.1/\yk p.2 q.2
def D6(X:Cx)(pos:Pos)(keys:List (Option Expr))(values:List Expr)(UU:List (TE×TE)):Prop:=
 ∀(pins:oE)(s:Shared)(σ:St)(H:Hp)(Q:List (V×V)->Hp->Prop),Inv X pins σ H s->Re UU σ H Q ->
  wpAny (model X.prog X.w) X.A (evalPairs<|pairTrees keys values X.env pos) (λvs s'=>∃ps H',Inv X pins σ H' s'/\VV ps vs/\Q ps H') X.xe s
theorem zSt:D6 X pos [] [] []:=λpins s σ H Q I h=>bW ⟨[],H,I,.nil,h⟩
theorem zQC(hk:PE X k tk)(hv:PE X v tv)(hr:D6 X pos ks vs UU):
  D6 X pos (some k::ks) (v::vs) ((tk,tv)::UU):=λpins s σ H Q I h=>
 pairTrees_cons_walk (RC (hk pins s σ H _ I h) λu s1 ⟨x,H1,I1,Y,O⟩=>RC (hv pins s1 σ H1 _ I1 O) λw2 s2 ⟨y,H2,I2,Z,S⟩=>
  RC (hr pins s2 σ H2 _ I2 S) λws s3 ⟨ps,z,J,j,U⟩=>⟨(x,y)::ps,z,J,.cons ⟨Y,Z⟩ j,U⟩)
def L4(kvs more:List (XB×V)):List (XB×V):=more.foldl (λacc kv=>vH acc kv.1 kv.2) kvs
theorem KV.merge:∀{j:List (XB×V)}{rs:List (XB×Value)}{kvs:List (XB×V)}{vs:List (XB×Value)},KV j rs->KV kvs vs->KV (L4 kvs j) (merged vs rs):=by
 intro j rs kvs vs r;unfold KV at r
 induction r generalizing kvs vs with
 |nil=>intro q;exact q
 |@cons p q ps qs h t ih=>
  intro z
  have e:KV (vH kvs p.1 p.2) (stored vs q.1 q.2):=by
   have:=z.put p.1 h.2;rw[<- h.1];exact this
  exact ih e
theorem kq:∀(j kvs:List (XB×V)),(L4 kvs j).length<=kvs.length+j.length
 | [],kvs=>by show kvs.length<=kvs.length+0;omega
 |p::r,kvs=>by
  have h1:=kq r<|vH kvs p.1 p.2;have h2:=qo kvs p.1 p.2;show(L4 (vH kvs p.1 p.2) r).length<=_;rw[iA];omega
theorem zGw:∀{kvs:List (XB×V)}{ws:List (Value×Value)},VV (kvs.map λkv=>(kV kv.1,kv.2)) ws->∃rs,Carries (zt P w) ws rs/\KV kvs rs
 | [],_,r=>by rw[vC]at r;cases r;exact⟨[],True.intro,.nil⟩
 |p::kvs,_,r=>by
  rw[eA]at r
  cases r with
  |@cons a b as bs h t=>
   obtain⟨rs,c,q⟩:=zGw (P:=P) (w:=w) t;obtain⟨b1,b2⟩:=b;exact⟨(p.1,b2)::rs,⟨EQ h.1,rfl,c⟩,.cons ⟨rfl,h.2⟩ q⟩
def R1(UU:List (TE×TE)):TE:=λσ H Q=>∀p,H p=none->Re UU σ (upd H p<|.dK []) λps H2=>H2 p=some (.dK [])/\∃kvs:List (XB×V),ps=kvs.map (λkv=>(kV kv.1,kv.2))/\kvs.length<=15/\Q (.ref p) (upd H2 p<|.dK<|L4 [] kvs)
theorem zSu{j:List (Option Expr)}{values:List Expr}(h:D6 X pos j values UU)(U:j.all (·.isSome)=true)(Y:j.length=values.length)(h0:j≠[])(J:j.length<=15):PE X (.Dict j values pos) (R1 UU):=by
 intro pins s σ H Q I q;have Z:=I.hok.fresh<|wA s.heap.objs.size;have I1:=I.laid (a:=s.heap.objs.size) (o:=.dK []) (h':=s.heap.push { cls:=.type "dict",data:=.dict #[] }) (t':=s.toks) (λ_ _ q=>sA _ q) (wA _)<|zK4 s.heap I.big;refine wpAny_Dict_walk (knd:=zt X.prog X.w) U Y h0 J (RC (h pins _ σ _ _ I1<|q _ Z) λws s2 zz=>?_);obtain⟨ps,H2,I2,O,e,kvs,ep,lk,q2⟩:=zz;subst ep;obtain⟨rs,c,rk⟩:=zGw (P:=X.prog) (w:=X.w) O;obtain⟨z,hd,vs0,r0,dd⟩:=Ak I2.hok e;cases r0;refine⟨rs,c,dd,λh' S hs=>⟨.ref s.heap.objs.size,_,?_,rfl,q2⟩⟩
 have hz:(L4 [] kvs).length<=sizeLine:=by
  have h1:=kq kvs [];rw[YB]at h1;rw[sizeLine_eq];omega
 have he:∃q,h'.get? s.heap.objs.size=some q:=let ⟨q,_,_,hq,_⟩:=S;⟨q,hq⟩;exact MW I2 (by rw[e];exact True.intro) hs he<|Rb hz hd (rk.merge .nil) S
structure M2(X:Cx)(o:Expr)(m:Str)(apos:Pos)(e f:Expr)(uB:Pos):Prop where
 base:TF o m X.env (eval o X.env)=eval o X.env
 few:((backTo uB<|starEach [e,f] X.env).all (λx=>!x.1)&&(backToKw uB<|keywordEach [] X.env).all (λx=>x.1.isSome)
  && decide (([e,f]:List Expr).length+([]:List EK).length+(if ([]:List EK).isEmpty then 0 else 1)<30))=true
 line:(apos.endLine==uB.line)=true
 trees:backTo uB (starEach [e,f] X.env)=[(false,eval e X.env),(false,eval f X.env)]
def Um(H:Hp)(a:Addr):Prop:=(∃kvs,Rd H a<|.dK kvs)\/∃kvs,Rd H a<|.dT kvs
theorem zVN{s:Shared}(I:Inv X pins σ H s)(d:Um H a):
  s.TypeIs (.ref a) "dict"/\(∀b,pB a=.ref b->∃ob,s.heap.get? b=some ob/\ob.dict=none)/\(a==sysModules)=false:=by
 rcases d with⟨kvs,e⟩|⟨kvs,e⟩
 .obtain⟨_,hd,vs,_,dd⟩:=US I.hok e;refine⟨dd.typeIs,λb q=>?_,hd⟩;cases q;obtain⟨ob,_,_,h1,h2,_⟩:=dd;exact⟨ob,h1,h2.2.1⟩
 .obtain⟨_,hd,xs,_,dd⟩:=VS I.hok e;refine⟨dd.typeIs,λb q=>?_,hd⟩;cases q;obtain⟨ob,_,_,h1,h2,_⟩:=dd;exact⟨ob,h1,h2.2.1⟩
section
variable {X:Cx}{pins:oE}{σ:St}{H:Hp}{s:Shared}{a:Addr}{y d:V}{u r:Value}{o:Option V}{A:Around}{E:KD}
theorem zVO{Q:KD}(hu:A.units+1<cLine)(I:Inv X pins σ H s)(g:cI H a y o)(S:yk y u)(O:yk d r)(h:∀U s',Inv X pins σ H s'->yk (o.getD d) U->Q U s'):
  wpAny (model X.prog X.w) A (call (.builtin "dict.get") [.ref a,u,r]) Q E s:=by
 rcases g with⟨kvs,k,e,J,l⟩|⟨kvs,k,b,e,J,Y,l⟩
 .subst J;obtain⟨z,hd,vs,j,dd⟩:=US I.hok e;refine CF XG dd.typeIs EL (kL _ _ _) (meets_dict_get_default (zt X.prog X.w) a (EQ S) hd r) ⟨_,dd.mapOf,h _ _ (I.tok _) ?_⟩;rw[l];exact(j.val k).getD O
 .subst J;cases (show u=pB b from S);obtain⟨z,hd,xs,j,dd⟩:=VS I.hok e;refine CF XG dd.typeIs EL (kL _ _ _) (meetsH_dict_get_default (tupleKind<|zt X.prog X.w) a b hd r) ⟨tupleKind_room_in1 hu,k,xs,vR I.hok Y,dd,h _ _ (I.tok _) ?_⟩;rw[l];exact(j.val k).getD O
end
def zVP(td ty tx:TE):TE:=λσ H Q=>td σ H λx H1=>∃a,x=.ref a/\Um H1 a/\ty σ H1 λy H2=>tx σ H2 λz H3=>∃o,cI H3 a y o/\Q (o.getD z) H3
section
variable {X:Cx}{o e f:Expr}{apos uB:Pos}{td ty tx:TE}
theorem zK7(hu:X.A.units+1<cLine)(S:PE X o td)(he:PE X e ty)(hf:PE X f tx)(m:M2 X o "get" apos e f uB):PE X (.Call (.Attribute o "get" apos) [e,f] [] uB) (zVP td ty tx):=by
 intro pins s σ H Q I h;refine wpAny_Call_method m.base m.few m.line vE XG PySem.F.type_dict_get (RC (S pins s σ H _ I h) λu s1 zz=>?_);obtain⟨x,H1,I1,rx,a,ex,d,U⟩:=zz;subst ex;obtain rfl:u=pB a:=rx;obtain⟨t1,t2,_⟩:=zVN I1 d;refine⟨t1,t2,?_⟩;rw[m.trees]
 refine VG rfl (FH<|DI (RC (he pins s1 σ H1 _ I1 U) λiv s2 ⟨y,H2,I2,ry,Y⟩=>
  DI (RC (hf pins s2 σ H2 _ I2 Y) λfv s3 ⟨z,j,J,rz,ov,g,Z⟩=>bP ?_)))
 exact zVO hu J g ry rz λw' s4 O rw'=>⟨_,j,O,rw',Z⟩
end
section
variable {X:Cx}{pins:oE}{σ:St}{H:Hp}{s:Shared}{a:Addr}{kvs:List (XB×V)}{A:Around}{E:KD}
end
section
variable {X:Cx}{pins:oE}{σ:St}{H:Hp}{s:Shared}{a:Addr}{y:V}{u:Value}{A:Around}{E:KD}
end
end L2
namespace Att
open PySem PySem.W PySem.Calls PyProof.Rows
theorem zFf:∀(ns:List Int)(vs:List Value),WellAll P h vs (ns.map WData.int)->DK vs ns:=by
 intro ns
 induction ns with
 |nil=>
  intro vs w;rw[vC]at w;cases w
  exact .nil
 |cons n ns ih=>
  intro vs w;rw[eA]at w
  cases w with
  |cons a b=>
   cases a;exact .cons _ _<|ih _ b
theorem zNd{l:OpenLaw}(Y:l.most=some n){h:Heap}(O:l.row.toRowW.claim.pre args=true)(S:WellAll P h vals args):
  ∃a vs ns,vals=[pB a]/\args=[WData.list<|ns.map WData.int]/\h.get? a=some { cls:=.type "list",data:=.seq vs.toArray }/\DK vs ns/\ns.length<=n:=by
 have J:WShape.hasAll [] args [.list .int]=true:=(pre_splitW O).1;have hc:l.pre.holds [] { args:=args }=true:=(pre_splitW O).2;obtain⟨d,r,rfl,h1,h2⟩:=hasAllW_cons J;obtain rfl:=hasAllW_nil h2;obtain⟨xs,rfl,h3⟩:=hasW_list h1;obtain⟨ns,rfl⟩:=items_int h3
 have j:ns.length<=n:=by
  unfold OpenLaw.pre at hc
  have z:(WTm.not<|.lt (.lit<|.int (n:Int))<|.len<|.arg 0).holds [] { args:=[.list<|ns.map .int] }=true:=by
   have z:=(holds_andW hc).1;rw[Y]at z;exact z
  have I:=condW_of z<|w_not<|w_lt w_lit<|w_len_list<|w_arg rfl;rw[kA]at I;refine Nat.le_of_not_lt λq=>?_
  have q':(n:Int)<((ns.length:Nat):Int):=by omega
  first
   |(rw[decide_eq_true q']at I;exact absurd I<|by decide)
   |(simp at I;omega)
 cases S with
 |cons w1 w2=>
  cases w2
  cases w1 with
  |list Z U=>exact⟨_,_,ns,rfl,rfl,Z,zFf ns _ U,j⟩
theorem zNe(l:OpenLaw)(args:List WData):l.row.toRowW.claim.post args (.bool true) args=true:=
 postW_of (r:=l.row.toRowW) (X:=(true==true))
  (show WShape.has [] (.bool true) .bool=true by first|rfl|decide|simp[WShape.has,WShape.arms,WShape.armsAll])
  (show(WTm.eq .res<|.lit<|.bool true).value [] { args:=args,res:=some<|.bool true,after:=args }=some (.bool<|true==true) from w_eq_bool (w_res rfl) w_lit) rfl
theorem attach_call{l:OpenLaw}{Z:(Str->Option Value)->Heap->Prop}{YP:World->Heap->Prop}{d:Tn}(hn:l.most=some n)(mU:d.params.defaults=[]) (call:∀(w:World)(s₀ z:Shared)(mg S:NE)(fa:Addr)(o:Obj)(U cd I:Value)(a:Addr)(vs:List Value)(ns:List Int),
   Ground q loose [] Z w s₀ mg S z.heap->YP w z.heap ->
   z.heap.get? fa=some o->o.data=.func (docDef d.name d.params d.body d.scope U cd I)->z.heap.CodeRec cd d.name->mg d.name=some (.ref fa) ->
   z.heap.get? a=some { cls:=.type "list",data:=.seq vs.toArray }->DK vs ns->ns.length<=n->z.gens = #[] ->
   UF (model l.prog w) NK (.call (.ref fa) ⟨[.ref a],[]⟩) (λr s'=>r=.ok (.ret<|.bool true)/\OldK z.heap s'.heap/\s'.os=z.os/\vG s'.gens) z) :
  WalkO q loose Z YP l.row.toRowW d [] (λf vs=>MK f vs):=by
 intro w s₀ z mg S G Y fa o U cd I dV kV ho hd cM hD YY hg args vals as aR jba hrd Gc hlo;obtain rfl:dV=.none:=Dflts.none hD mU;obtain rfl:kV=.none:=Dflts.noKw hD;obtain⟨a,vs,ns,rfl,rfl,xU,J,O⟩:=zNd hn aR Gc;refine enter_call (codeAny_mono (call w s₀ z mg S fa o U cd I a vs ns G Y ho (fd_plain hd) cM YY xU J O hg) λr s' hq=>?_);obtain⟨rfl,h2,h3,h4⟩:=hq;exact⟨.inl ⟨.bool true,.bool true,[],rfl,λ_=>rfl,.bool true,zNe l _,λ_=>⟨j6,λ_ hm=>(nomatch hm)⟩⟩,h2,h3,h4⟩
section
variable {prog:Program}{w:World}{A:Around}{E:KD}{s:Shared}{K:Frag}
end
end Att
namespace L2
open PySem PySem.Spec PyProof.Rows
theorem zIm:∀{vs:List Value}{ns:List Int},DK vs ns->yO (ns.map V.int) vs
 |_,_,.nil=>.nil
 |_,_,.cons n t h=>.cons ⟨t,rfl⟩<|zIm h
def QT(H:Hp):Prop:=∀b,H b=none\/∃o xs,H b=some (.frz o<|.lst xs)
theorem zQD{K:Fg}{mg U:NE}{j:Shared}{vs:List Value}{ns:List Int}(Y:K.In j.heap)(Wv:j.heap.Ns LC mg)(hb:j.heap.Ns aW U)(S:∀x:Str,x ≠ "__name__"->U x=HB x)(Fk:j.heap.NoLimit)(hg:j.gens = #[])(ha:j.heap.get? a=some { cls:=.type "list",data:=.seq vs.toArray })(hi:DK vs ns)(hl:ns.length<=sizeLine)(hr:IF k NK)(F:∀base:Heap,K.In base->base.Ns LC mg->bI P w K mg base CX k fa fd [x] sp)(KY:∀(s:Shared)(u:Value),EM s fd ⟨[u],[]⟩ [(x,u)])(vS:∀H:Hp,QT H->GF K H a (ns.map V.int)->sp [.ref a] H (λv _=>v=.bl true) λ_ _ _=>False)(Ej:∀H e s',CX [] H j (λ_ _ _=>False) e s'->False):
  UF (model P w) NK (.call (.ref fa) ⟨[.ref a],[]⟩) (λr s'=>r=.ok (.ret<|.bool true)/\OldK j.heap s'.heap/\s'.os=j.os/\vG s'.gens) j:=by
 have rv:=zIm hi;have Gr:=hi.length
 -- from an abstract heap in which nothing but the script may be tracked
 have J:∀H:Hp,QT H->GF K H a (ns.map V.int)->HOk P w H j.heap->(∀b,H b≠none->b=a)->(H a≠none->K.lookup a=none) ->
   UF (model P w) NK (.call (.ref fa) ⟨[.ref a],[]⟩) (λr s'=>r=.ok (.ret<|.bool true)/\OldK j.heap s'.heap/\s'.os=j.os/\vG s'.gens) j:=by
  intro H hO hS hok hA hK;have I:∀{b:Addr}{o:Obj},j.heap.get? b=some o->H b=none->(KR j.heap H).get? b=some o:=λe n=>zPz e n
  have GZ:∀{b:Addr}{o:Obj}{es:Array DictEntry}{ep:Nat},j.heap.get? b=some o->o.data=.dict es ep->H b=none:=λ{b o es ep} e d=>by
   cases q:H b with
   |none=>rfl
   |some u=>
    have e':b=a:=hA b (by rw[q];simp);subst e';rw[ha]at e;cases e;have d':Data.seq vs.toArray _=Data.dict es ep:=d;cases d'
  have l7:∀{b:Addr}{m:NE},j.heap.Ns b m->(KR j.heap H).Ns b m:=λ{b m} ⟨o,es,ep,e,d,r⟩=>⟨o,es,ep,I e<|GZ e d,d,r⟩
  have Z:K.In (KR j.heap H):=λb o e=>I (Y b o e) (by
   cases q:H b with
   |none=>rfl
   |some u=>
    have e':b=a:=hA b (by rw[q];simp);subst e';rw[hK (by rw[q];simp)]at e;cases e)
  have hM:Mod K mg (KR j.heap H):=⟨Z,l7 Wv,⟨U,l7 hb,S⟩,let ⟨mc,h1,h2⟩:=Fk;⟨mc,l7 h1,h2⟩⟩
  have e0:HV P w K mg (KR j.heap H) NK [] j H:=⟨rfl,hM,λb o e=>zSP e,lJ<|zNC _ _,trivial,λb hb=>absurd (show b∈([]:List Addr) from hb) (by simp),hok,.of_eq hg⟩
  refine codeAny_mono ((F _ Z<|l7 Wv).run NK [] j H ⟨[.ref a],[]⟩ [.ref a] [.ref a] _ _ hr e0 (KY j<|.ref a) (.cons rfl .nil)<|vS H hO hS) λr s' h=>?_
  cases r with
  |error e=>exact(Ej H e s' h).elim
  |ok fl=>
   cases fl with
   |next=>exact False.elim h
   |brk=>exact False.elim h
   |cont=>exact False.elim h
   |ret u=>
    obtain⟨v,H',os,bare,un,oK,r',q⟩:=h;have q':v=.bl true:=q;subst q';obtain rfl:u=jF true:=r';refine⟨rfl,OldK.of_keep λb o e=>?_,os,bare⟩
    cases q:H b with
    |none=>exact un.keep b o e q (by intro z;exact absurd (show b∈([]:List Addr) from z)<|by simp) (by simp)
    |some u=>
     rcases hO b with z|⟨ob,xs,z⟩
     .rw[q]at z;cases z
     .have z2:=un.frzs b ob _ z;obtain⟨e1,_⟩:=hok b _ z;obtain⟨e2,_⟩:=oK b _ z2;rw[e]at e1;cases e1;exact e2
 cases hk:K.lookup a with
 |some o=>
  -- the script is one of the module's own objects
  have e:=Y a o hk;rw[ha]at e;cases e
  refine J (λ_=>none) (λ_=>.inl rfl) (.inr ⟨_,vs.toArray,_,hk,rfl,rfl,rfl,by rw[pA,Gr];exact hl,by simpa using rv⟩) (λb u z=>by have O:(none:Option HO)=some u:=z;cases O) (λb z=>absurd rfl z) λz=>absurd rfl z
 |none=>
  refine J (λb=>if b=a then some (.frz { cls:=.type "list",data:=.seq vs.toArray }<|.lst<|ns.map V.int) else none) (λb=>?_) (.inl<|.inr ⟨{ cls:=.type "list",data:=.seq vs.toArray },if_pos rfl⟩) (λb u z=>?_) (λb z=>?_) λ_=>hk
  .by_cases hb:b=a
   .exact .inr ⟨_,_,if_pos hb⟩
   .exact .inl<|if_neg hb
  .by_cases hb:b=a
   .have O:=(if_pos hb).symm.trans z;cases O;subst hb;exact⟨ha,by rw[kA];exact hl,vs,_,rv,ha⟩
   .have O:=(if_neg hb).symm.trans z;cases O
  .by_cases hb:b=a
   .exact hb
   .exact absurd (if_neg hb) z
end L2
namespace L2
open PySem PySem.Spec PyProof.Rows
theorem zNf{l:rJ}{S:(Str->Option Value)->Heap->Prop}{J:World->Heap->Prop}{d:Tn}{K:Params->Fg}{CX:World->mQ}{sp:World->Sp}(hn:l.most=some n)(h7:n<=sizeLine)(mU:d.params.defaults=[])(hr:IF k NK)(hY:∀(w:World)(h:Heap),J w h->(K w.params).In h) (F:∀(w:World)(mg:NE)(fa:Addr)(h:Heap),(K w.params).In h->h.Ns LC mg->mg d.name=some (.ref fa) ->
   ∃fd:FuncData,(∀(s:Shared)(u:Value),EM s fd ⟨[u],[]⟩ [(x,u)]) /\
    ∀base:Heap,(K w.params).In base->base.Ns LC mg->bI l.prog w (K w.params) mg base (CX w) k fa fd [x] (sp w)) (vS:∀(w:World)(H:Hp)(a:Addr)(ns:List Int),ns.length<=n->QT H->GF (K w.params) H a (ns.map V.int)->sp w [.ref a] H (λv _=>v=.bl true) λ_ _ _=>False) (O:∀(w:World)(H:Hp)(s:Shared)(e:Value)(s':Shared),CX w [] H s (λ_ _ _=>False) e s'->False) :
  JK q loose S J l.row.toRowW d [] (λf vs=>MK f vs):=by
 refine Att.attach_call hn mU λw s₀ mC mg mb fa o pm cd Z a vs ns G Y ho hd cM U xU z j hg=>?_
 have I:=hY w _ Y;obtain⟨fd,hb,hF⟩:=F w mg fa _ I G.T.g U;exact zQD I G.T.g G.T.b G.T.builtins G.T.nolimit hg xU z (QA j h7) hr hF hb (λH hO hS=>vS w H a ns j hO hS) λH e s'=>O w H mC e s'
end L2
namespace L2
open PySem PySem.Spec PyProof.Rows
abbrev CH:mQ:=λ_ _ _ _ _ _=>False
abbrev E0:XK:=λ_ _ _=>False
theorem sV:WN CH X E0:=λ_ _ _ _ _ _ _ h=>h.elim
structure rM(K:Fg)(x qual:Str)(st:Stmt)(f:Addr)(fd:FuncData):Prop where
 ex:∃(oc:Value)(od:Option Addr)(kV doc pm:Value)(an:Option Addr)(kC ct:Value)(vP:Array (Option Value)),
  fd=wD x qual (fV st) (yC st) (zI st) .none kV doc pm an kC ct/\K.lookup f=some ⟨oc,od,.func fd,vP⟩/\OF K kC qual=true
 kp:iB K (.ref f)=true
section
variable {P:Program}{w:World}{K:Fg}{mg:NE}{base:Heap}
theorem rM.ok{x qual:Str}{st:Stmt}{f:Addr}{fd:FuncData}{N ps:List Str}{k:Nat}{sp:Sp}(F:rM K x qual st f fd)(S:zT N ps (zI st))(len:∀vs H Q E,sp vs H Q E->vs.length=ps.length)
  (z:∀(j:Value)(A:Around)(outer:List Env)(s:Shared)(H:Hp)(vs:List V)(Q:VK)(E:XK),IF k (A.deeper<|envOfC qual (zI st) s.heap.objs.size f j)->sp vs H Q E ->
   ∃t,IL (xK CH P w K mg base N qual (zI st) f j A outer s H E).nox (yC st) t/\t { nx:=λ_ H'=>Q .non H',rt:=Q } (wL N vs) H):bI P w K mg base CH (k+1) f fd ps sp:=by
 obtain⟨U,od,kV,J,Y,O,j,ct,Z,rfl,lk,I⟩:=F.ex;refine Ai lk I S len λA outer s H vs Q E hr vS=>?_
 obtain⟨t,h,q⟩:=z j A outer s H vs Q E hr vS;exact⟨t,h.nox,q⟩
theorem rM.binds{x qual:Str}{st:Stmt}{f:Addr}{fd:FuncData}{ps:List Str}(F:rM K x qual st f fd)
  (h:∀(kV j J:Value)(z:Option Addr)(I ct:Value)(us:List Value),us.length=ps.length->bindArgs (wD x qual (fV st) (yC st) (zI st) .none kV j J z I ct) ⟨us,[]⟩=pure (ps.zip us)):WK K fd ps []:=by
 obtain⟨S,od,kV,j,J,z,I,ct,U,rfl,lk,O⟩:=F.ex;exact .all<|h kV j J z I ct
theorem zRn{x qual:Str}{st:Stmt}{f:Addr}{O:Value}{od I:Option Addr}{S:Array (Option Value)}{kV j J z ct:Value}(l:K.lookup f=some ⟨O,od,.func<|wD x qual (fV st) (yC st) (zI st) .none kV j J I z ct,S⟩)
  (c:OF K z qual=true) (k:iB K (.ref f)=true):rM K x qual st f (wD x qual (fV st) (yC st) (zI st) .none kV j J I z ct):=⟨⟨O,od,kV,j,J,I,z,ct,S,rfl,l,c⟩,k⟩
end
theorem aO{A:Around}(hr:IF k A):A.units+1<cLine:=WI (Nat.add_le_add_left (by decide:1<=64) _) hr.units
theorem zNg(h:n<=1000):n<sizeLine:=WI h (by decide)
section
variable {X:Cx}
theorem pv(i:Nat)(z:X.N[i]?=some x:=by rfl)(hv:Co X.env.scope x:=by first|exact Or.inl rfl|exact Or.inr (Or.inl rfl)|exact Or.inr (Or.inr rfl))(hd:(x==("__debug__" : Str))=false:=by decide)(j:(x==("__classdict__" : Str))=false:=by decide):PE X (.Name x pos) (RF i):=zUn z hv hd j
end
def zd(H H':Hp):Prop:=∀b o,H b=some o->H' b=some o
theorem zd.refl(H:Hp):zd H H:=λ_ _ h=>h
theorem zd.trans(a:zd H H1)(b:zd H1 H2):zd H H2:=λc o h=>b c o<|a c o h
theorem zd.free(e:zd H H')(h:H' l=WV):H l=WV:=by
 cases q:H l with
 |none=>rfl
 |some o=>
  rw[e l o q]at h;cases h
theorem zd.seq{K:Fg}{H H':Hp}{a:Addr}{xs:List V}(e:zd H H')(h:GF K H a xs):GF K H' a xs:=by
 rcases h with(h|⟨o,h⟩)|h
 .exact .inl<|.inl<|e _ _ h
 .exact .inl<|.inr ⟨o,e _ _ h⟩
 .exact .inr h
end L2
namespace L2
open PySem PySem.Spec PyProof.Rows
section
variable {κ:Type}[DecidableEq κ]
end
end L2
namespace RD
open PySem PySem.Spec PyProof.Rows L2
abbrev BG(X:Cx)(e:Expr)(r:List Expr):Prop:=starEach (e::r) X.env=(false,eval e X.env)::starEach r X.env
abbrev EH(X:Cx)(p:Pos)(l:List Expr):Prop:=(backTo p<|starEach l X.env).any (·.1)=false
abbrev RO(X:Cx)(p:Pos)(l:List Expr):Prop:=((backTo p<|starEach l X.env).all (λx=>!x.1)&&(backToKw p<|keywordEach [] X.env).all (λx=>x.1.isSome)&&decide (l.length+([]:List EK).length+(if ([]:List EK).isEmpty then 0 else 1)<30))=true
abbrev JL(X:Cx)(x:Str):Prop:=X.fn x=true\/X.env.scope.names.lookup x=some .local
abbrev WJ(X:Cx)(o:Expr)(f:Str):Prop:=TF o f X.env (eval o X.env)=eval o X.env
abbrev WM(p q:Pos):Prop:=(p.endLine==q.line)=true
abbrev LL(x:Str):Prop:=(x==("__debug__" : Str))=false
abbrev ZI(X:Cx)(e:Expr)(o:Option Expr)(p:Pos):Prop:=gF e o p.line X.env=pure false
inductive D where
 |non|bl (b:Bool)|int (i:Int)|str (x:Str)|tup (xs:List D)|lst (xs:List D)
section
variable (K:Fg)(G:Hp)
mutual
def Rep:D->V->Prop
 |.non,v=>v=.non
 |.bl b,v=>v=.bl b
 |.int i,v=>v=.int i
 |.str x,v=>v=.str x
 |.tup ds,v=>∃a vs,v=.ref a/\G a=some (.tup vs)/\CA ds vs
 |.lst ds,v=>∃a vs,v=.ref a/\GF K G a vs/\CA ds vs
def CA:List D->List V->Prop
 | [],vs=>vs=[]
 |d::ds,vs=>∃v r,vs=v::r/\Rep d v/\CA ds r
end
end
theorem qY{K:Fg}{H H':Hp}{a:Addr}{xs:List V}(e:zd H H')(h:GI K H a xs):GI K H' a xs:=by
 rcases h with(h|⟨o,h⟩)|h
 .exact .inl<|.inl<|e _ _ h
 .exact .inl<|.inr ⟨o,e _ _ h⟩
 .exact .inr h
mutual
theorem Rep.mono{K:Fg}{G G':Hp}(s:zd G G'):∀(d:D)(v:V),Rep K G d v->Rep K G' d v
 |.non,_,h=>by simpa[Rep] using h
 |.bl _,_,h=>by simpa[Rep] using h
 |.int _,_,h=>by simpa[Rep] using h
 |.str _,_,h=>by simpa[Rep] using h
 |.tup ds,_,h=>by
  simp only[Rep]at h ⊢;obtain⟨a,vs,e,q,r⟩:=h
  exact⟨a,vs,e,s _ _ q,CA.mono s ds vs r⟩
 |.lst ds,_,h=>by
  simp only[Rep]at h ⊢;obtain⟨a,vs,e,q,r⟩:=h;exact⟨a,vs,e,s.seq q,CA.mono s ds vs r⟩
theorem CA.mono{K:Fg}{G G':Hp}(s:zd G G'):∀(ds:List D)(vs:List V),CA K G ds vs->CA K G' ds vs
 | [],_,h=>by simpa[CA] using h
 |d::ds,_,h=>by
  simp only[CA]at h ⊢;obtain⟨v,r,e,a,b⟩:=h;exact⟨v,r,e,Rep.mono s d v a,CA.mono s ds r b⟩
end
section
variable {K:Fg}{G:Hp}
theorem BO:Rep K G .non v↔v=.non:=by simp[Rep]
theorem yZ{b:Bool}{v:V}:Rep K G (.bl b) v↔v=.bl b:=by simp[Rep]
theorem yE:Rep K G (.int i) v↔v=.int i:=by simp[Rep]
theorem FP:Rep K G (.str x) v↔v=.str x:=by simp[Rep]
theorem IS:Rep K G (.tup ds) v↔∃a vs,v=.ref a/\G a=some (.tup vs)/\CA K G ds vs:=by simp only[Rep]
theorem hV(h:Rep K G (.tup ds) v):∃a vs,v=.ref a/\GI K G a vs/\CA K G ds vs:=let ⟨a,vs,e,q,r⟩:=IS.mp h;⟨a,vs,e,GI.of q,r⟩
theorem CO:Rep K G (.lst ds) v↔∃a vs,v=.ref a/\GF K G a vs/\CA K G ds vs:=by simp only[Rep]
theorem yP:CA K G [] vs↔vs=[]:=by simp only[CA]
theorem zX:CA K G (d::ds) vs↔∃v r,vs=v::r/\Rep K G d v/\CA K G ds r:=by simp only[CA]
theorem CA.nil:CA K G [] []:=yP.mpr rfl
theorem CA.cons(h:Rep K G d v)(t:CA K G ds vs):CA K G (d::ds) (v::vs):=zX.mpr ⟨v,vs,rfl,h,t⟩
theorem CA.inv(h:CA K G (d::ds) (v::vs)):Rep K G d v/\CA K G ds vs:=by
 obtain⟨j,r,e,a,b⟩:=zX.mp h;cases e;exact⟨a,b⟩
theorem CA.length:∀{ds:List D}{vs:List V},CA K G ds vs->ds.length=vs.length
 | [],vs,h=>by rw[yP.mp h];rfl
 |d::ds,vs,h=>by
  obtain⟨v,r,rfl,_,t⟩:=zX.mp h;rw[iA,iA,CA.length t]
theorem CA.get:∀{ds:List D}{vs:List V}{i:Nat}{d:D},CA K G ds vs->ds[i]?=some d->∃v,vs[i]?=some v/\Rep K G d v
 | [],_,_,_,_,e=>by simp at e
 |d::ds,vs,0,d',h,e=>by
  obtain⟨v,r,rfl,a,_⟩:=zX.mp h;simp at e;subst e
  exact⟨v,rfl,a⟩
 |d::ds,vs,i+1,d',h,e=>by
  obtain⟨v,r,rfl,_,t⟩:=zX.mp h;obtain⟨I,j,z⟩:=CA.get (i:=i) t (by simpa using e);exact⟨I,by simpa using j,z⟩
theorem CA.got{ds:List D}{vs:List V}{i:Nat}(h:CA K G ds vs)(e:vs[i]?=some v):∃d,ds[i]?=some d/\Rep K G d v:=by
 have z:i<ds.length:=by rw[h.length];exact(BA.mp e).1
 obtain⟨I,j,r⟩:=h.get (i:=i) (d:=ds[i]) (by simp[z]);rw[e]at j;cases j;exact⟨ds[i],by simp[z],r⟩
theorem CA.append:∀{ds es:List D}{vs us:List V},CA K G ds vs->CA K G es us->CA K G (ds++es) (vs++us)
 | [],_,vs,_,h,t=>by rw[yP.mp h];exact t
 |d::ds,es,vs,us,h,t=>by
  obtain⟨v,r,rfl,a,b⟩:=zX.mp h;exact CA.cons a<|CA.append b t
theorem CA.take:∀{ds:List D}{vs:List V}(n:Nat),CA K G ds vs->CA K G (ds.take n) (vs.take n)
 |_,_,0,_=>by simpa using CA.nil
 | [],vs,n+1,h=>by rw[yP.mp h];simpa using CA.nil
 |d::ds,vs,n+1,h=>by
  obtain⟨v,r,rfl,a,b⟩:=zX.mp h;exact CA.cons a<|CA.take n b
theorem CA.drop:∀{ds:List D}{vs:List V}(n:Nat),CA K G ds vs->CA K G (ds.drop n) (vs.drop n)
 |_,_,0,h=>by simpa using h
 | [],vs,n+1,h=>by rw[yP.mp h];simpa using CA.nil
 |d::ds,vs,n+1,h=>by
  obtain⟨v,r,rfl,a,b⟩:=zX.mp h;exact CA.drop n b
theorem CA.set:∀{ds:List D}{vs:List V}(i:Nat){d:D}{v:V},CA K G ds vs->Rep K G d v->CA K G (ds.set i d) (vs.set i v)
 | [],vs,_,_,_,h,_=>by rw[yP.mp h];simpa using CA.nil
 |d::ds,vs,0,d',v',h,q=>by
  obtain⟨v,r,rfl,a,b⟩:=zX.mp h
  exact CA.cons q b
 |d::ds,vs,i+1,d',v',h,q=>by
  obtain⟨v,r,rfl,a,b⟩:=zX.mp h;exact CA.cons a<|CA.set i b q
theorem CA.dropLast:∀{ds:List D}{vs:List V},CA K G ds vs->CA K G ds.dropLast vs.dropLast:=λ{ds vs} h=>by
 rw[jN,jN,h.length];exact h.take _
theorem CA.ints:∀(ns:List Int),CA K G (ns.map D.int) (ns.map V.int)
 | []=>CA.nil
 |n::ns=>CA.cons (yE.mpr rfl)<|CA.ints ns
end
structure zb(G H G' H':Hp):Prop where
 g:zd G G'
 h:zd H H'
 s:zd G' H'
 f:∀b o,G' b=some o->G b=none->H b=none
theorem zb.refl(s:zd G H):zb G H G H:=⟨zd.refl _,zd.refl _,s,λb o e n=>by rw[n]at e;cases e⟩
theorem zb.trans{G H j H1 z H2:Hp}(a:zb G H j H1)(b:zb j H1 z H2):zb G H z H2:=
 ⟨a.g.trans b.g,a.h.trans b.h,b.s,λc o e n=>by
  cases q:j c with
  |some o'=>exact a.f c o' q n
  |none=>exact a.h.free<|b.f c o e q⟩
theorem yh(n:H p=none):zd H (upd H p o):=λb u e=>by rw[upd_ne<|yY e n];exact e
theorem zb.new{G H:Hp}(s:zd G H){p:Addr}{o:HO}(n:H p=none):zb G H (upd G p o) (upd H p o):=
 ⟨yh<|s.free n,yh n,λb u e=>by
  by_cases hb:b=p
  .subst hb;rw[zL]at e ⊢;exact e
  .rw[upd_ne hb]at e ⊢;exact s b u e,λb u e k=>by
  by_cases hb:b=p
  .subst hb;exact n
  .rw[upd_ne hb]at e;rw[e]at k;cases k⟩
theorem zb.newH(s:zd G H)(n:H p=none):zb G H G (upd H p o):=
 ⟨zd.refl _,yh n,s.trans<|yh n,λb u e k=>by rw[e]at k;cases k⟩
inductive Fd where
 |l (xs:List D)|m (kvs:List (XB×D))|t (kvs:List (List XB×D))|ml (kvs:List (XB×List D))|tl (kvs:List (List XB×List D))
inductive Fl where
 |v (d:D)|f (x:Fd)
inductive Ob where
 |p (f:Fd)|ins (C:Addr) (fs:List (Str×Fl))
def pG(K:Fg)(G:Hp)(kvs:List (XB×D))(ws:List (XB×V)):Prop:=kvs.map (·.1)=ws.map (·.1)/\CA K G (kvs.map (·.2)) (ws.map (·.2))
theorem pG.mono{K:Fg}{G G':Hp}(s:zd G G'){kvs:List (XB×D)}{ws:List (XB×V)}(h:pG K G kvs ws):pG K G' kvs ws:=⟨h.1,CA.mono s _ _ h.2⟩
noncomputable def Sq:V->Option Addr
 |.ref a=>some a
 |_=>none
theorem zQE(h:Sq v=some a):v=.ref a:=by
 cases v<;>first|(cases h;done)|(simp only[Sq,sE]at h;rw[h])
def eK{κ:Type}(ws:List (κ×V)):List Addr:=ws.filterMap λq=>Sq q.2
theorem qO{κ:Type}{ws:List (κ×V)}:a∈eK ws↔.ref a∈ws.map (·.2):=by
 unfold eK;rw[ZA,OA];constructor
 .rintro⟨q,h,e⟩;exact⟨q,h,zQE e⟩
 .rintro⟨q,h,e⟩;exact⟨q,h,by rw[e];rfl⟩
def j7:Option HO->List Addr
 |some (.dK ws)=>eK ws
 |some (.dT ws)=>eK ws
 |_=>[]
def LF(H:Hp):Fd->Addr->List Addr
 |.l _,a=>[a]
 |.m _,a=>[a]
 |.t _,a=>[a]
 |.ml _,a=>a::j7 (H a)
 |.tl _,a=>a::j7 (H a)
def SH(H:Hp):Fl->V->List Addr
 |.f x,.ref a=>LF H x a
 |_,_=>[]
def jI(H:Hp)(fs:List (Str×Fl))(ws:List (Str×V)):List Addr:=fs.flatMap λq=>match ws.lookup q.1 with
 |some u=>SH H q.2 u
 |none=>[]
def wW(H:Hp)(fs:List (Str×Fl)):Option HO->List Addr
 |some (.ins _ dx ws)=>dx::jI H fs ws
 |_=>[]
def OE(H:Hp):Ob->Addr->List Addr
 |.p f,a=>LF H f a
 |.ins _ fs,a=>a::wW H fs (H a)
section
variable (K:Fg)(G H:Hp)
def yA:List (List D)->List V->Prop
 | [],vs=>vs=[]
 |xs::r,vs=>∃b us t,vs=.ref b::t/\H b=some (.lst us)/\CA K G xs us/\yA r t
def BL:Fd->Addr->Prop
 |.l xs,a=>∃vs,H a=some (.lst vs)/\CA K G xs vs
 |.m kvs,a=>∃ws,H a=some (.dK ws)/\pG K G kvs ws
 |.t kvs,a=>∃ws,H a=some (.dT ws)/\kvs.map (·.1)=ws.map (·.1)/\CA K G (kvs.map (·.2)) (ws.map (·.2))
 |.ml kvs,a=>∃ws,H a=some (.dK ws)/\kvs.map (·.1)=ws.map (·.1)/\yA K G H (kvs.map (·.2)) (ws.map (·.2))
 |.tl kvs,a=>∃ws,H a=some (.dT ws)/\kvs.map (·.1)=ws.map (·.1)/\yA K G H (kvs.map (·.2)) (ws.map (·.2))
def UO:Fl->V->Prop
 |.v d,u=>Rep K G d u
 |.f x,u=>∃a,u=.ref a/\BL K G H x a
def PP:Ob->Addr->Prop
 |.p f,a=>BL K G H f a
 |.ins C fs,a=>∃dx ws,H a=some (.ins C dx ws)/\H dx=some (.own a)/\(∀q∈fs,∃u,ws.lookup q.1=some u/\UO K G H q.2 u)/\(∀x,fs.lookup x=none->ws.lookup x=none)/\ws.length<=fs.length
end
section
variable {K:Fg}{G G' H H':Hp}
theorem yA.there:∀{xs:List (List D)}{vs:List V},yA K G H xs vs->∀b,.ref b∈vs->∃o,H b=some o
 | [],_,h,b,m=>by simp only[yA]at h;subst h;cases m
 |x::xs,_,h,b,m=>by
  simp only[yA]at h;obtain⟨c,us,t,rfl,e,r,l⟩:=h;rcases nA.mp m with z|m
  .cases z;exact⟨_,e⟩
  .exact yA.there l b m
theorem yA.same(g:zd G G'):∀{xs:List (List D)}{vs:List V},yA K G H xs vs->(∀b,.ref b∈vs->∀o,H b=some o->H' b=some o)->yA K G' H' xs vs
 | [],_,h,_=>by simpa only[yA] using h
 |x::xs,_,h,m=>by
  simp only[yA]at h ⊢;obtain⟨c,us,t,rfl,e,r,l⟩:=h;exact⟨c,us,t,rfl,m c (lA ..) _ e,CA.mono g _ _ r,yA.same g l λb z=>m b<|dA _ z⟩
theorem BL.head:a∈LF H f a:=by cases f<;>simp[LF]
theorem BL.there{f:Fd}{a:Addr}(h:BL K G H f a):∀c∈LF H f a,∃o,H c=some o:=by
 intro c m
 cases f with
 |l xs=>obtain⟨vs,e,_⟩:=h;simp only[LF,gA]at m;subst m;exact⟨_,e⟩
 |m xs=>obtain⟨vs,e,_⟩:=h;simp only[LF,gA]at m;subst m;exact⟨_,e⟩
 |t xs=>obtain⟨vs,e,_⟩:=h;simp only[LF,gA]at m;subst m;exact⟨_,e⟩
 |ml xs=>
  obtain⟨ws,e,_,l⟩:=h;rcases nA.mp m with z|m
  .subst z;exact⟨_,e⟩
  .rw[e]at m;exact l.there c<|qO.mp m
 |tl xs=>
  obtain⟨ws,e,_,l⟩:=h;rcases nA.mp m with z|m
  .subst z;exact⟨_,e⟩
  .rw[e]at m;exact l.there c<|qO.mp m
theorem BL.same{f:Fd}{a:Addr}(g:zd G G')(h:BL K G H f a)(k:∀c∈LF H f a,∀o,H c=some o->H' c=some o):BL K G' H' f a/\LF H' f a=LF H f a:=by
 cases f with
 |l xs=>obtain⟨vs,e,r⟩:=h;exact⟨⟨vs,k a BL.head _ e,CA.mono g _ _ r⟩,rfl⟩
 |m xs=>obtain⟨vs,e,r⟩:=h;exact⟨⟨vs,k a BL.head _ e,r.mono g⟩,rfl⟩
 |t xs=>obtain⟨vs,e,q,r⟩:=h;exact⟨⟨vs,k a BL.head _ e,q,CA.mono g _ _ r⟩,rfl⟩
 |ml xs=>
  obtain⟨ws,e,q,l⟩:=h;have e':=k a BL.head _ e;refine⟨⟨ws,e',q,l.same g λb m o z=>k b ?_ o z⟩,by simp only[LF];rw[e,e']⟩
  simp only[LF];rw[e];exact dA _<|qO.mpr m
 |tl xs=>
  obtain⟨ws,e,q,l⟩:=h;have e':=k a BL.head _ e;refine⟨⟨ws,e',q,l.same g λb m o z=>k b ?_ o z⟩,by simp only[LF];rw[e,e']⟩;simp only[LF];rw[e];exact dA _<|qO.mpr m
theorem UO.there{f:Fl}{u:V}(h:UO K G H f u):∀c∈SH H f u,∃o,H c=some o:=by
 intro c m
 cases f with
 |v d=>cases u<;>cases m
 |f x=>obtain⟨a,rfl,r⟩:=h;exact r.there c m
theorem UO.same{f:Fl}{u:V}(g:zd G G')(h:UO K G H f u)(k:∀c∈SH H f u,∀o,H c=some o->H' c=some o):UO K G' H' f u/\SH H' f u=SH H f u:=by
 cases f with
 |v d=>exact⟨Rep.mono g _ _ h,by cases u<;>rfl⟩
 |f x=>obtain⟨a,rfl,r⟩:=h;exact⟨⟨a,rfl,(r.same g k).1⟩,(r.same g k).2⟩
theorem OW{ws:List (Str×V)}{q:Str×Fl}(hq:q∈fs)(hu:ws.lookup q.1=some u)(hc:c∈SH H q.2 u):c∈jI H fs ws:=
 lC.mpr ⟨q,hq,by rw[hu];exact hc⟩
theorem Oh{ws:List (Str×V)}:∀(k:∀q∈fs,∃u,ws.lookup q.1=some u/\SH H' q.2 u=SH H q.2 u),jI H' fs ws=jI H fs ws:=by
 induction fs with
 |nil=>intro _;rfl
 |cons q fs ih=>
  intro k;obtain⟨u,e,z⟩:=k q<|lA ..;have:=ih λp m=>k p<|dA _ m
  unfold jI at this|-;rw[AB,AB,this,e];simp only[z]
theorem PP.head:a∈OE H o a:=by
 cases o with
 |p f=>exact BL.head
 |ins C fs=>exact lA ..
theorem PP.there{o:Ob}{a:Addr}(h:PP K G H o a):∀c∈OE H o a,∃u,H c=some u:=by
 cases o with
 |p f=>exact BL.there h
 |ins C fs=>
  obtain⟨dx,ws,j,I,e3,_⟩:=h;intro c m;rcases nA.mp m with z|m
  .subst z;exact⟨_,j⟩
  .rw[j]at m;rcases nA.mp m with z|m
   .subst z;exact⟨_,I⟩
   .obtain⟨q,hq,m⟩:=lC.mp m;obtain⟨u,e,r⟩:=e3 q hq;rw[e]at m;exact r.there c m
theorem PP.same{o:Ob}{a:Addr}(g:zd G G')(h:PP K G H o a)(k:∀c∈OE H o a,∀u,H c=some u->H' c=some u):PP K G' H' o a/\OE H' o a=OE H o a:=by
 cases o with
 |p f=>exact BL.same g h k
 |ins C fs=>
  obtain⟨dx,ws,j,J,e3,O⟩:=h;have I:=k a PP.head _ j;have sub:∀c∈dx::jI H fs ws,∀u,H c=some u->H' c=some u:=λc m=>k c (by simp only[OE];rw[j];exact dA _ m)
  have fl:∀q∈fs,∃u,ws.lookup q.1=some u/\UO K G' H' q.2 u/\SH H' q.2 u=SH H q.2 u:=λq hq=>by
   obtain⟨u,e,r⟩:=e3 q hq;exact⟨u,e,r.same g λc m=>sub c<|dA _<|OW hq e m⟩
  refine⟨⟨dx,ws,I,sub dx (lA ..) _ J,λq hq=>?_,O⟩,?_⟩
  .obtain⟨u,e,r,_⟩:=fl q hq;exact⟨u,e,r⟩
  .simp only[OE];rw[j,I];simp only[wW];rw[Oh λq hq=>let ⟨u,e,_,z⟩:=fl q hq;⟨u,e,z⟩]
end
inductive Sl where
 |un|v (d:D)|l (xs:List D)|m (kvs:List (XB×D))
  |o (c:Option Addr) (x:Ob)|b (c:Addr) (x:Ob)
noncomputable def Sl.isOwn:Sl->Bool
 |.l _=>true
 |.m _=>true
 |.o _ _=>true
 |_=>false
def Sl.isPl:Sl->Bool
 |.l _=>true
 |.m _=>true
 |_=>false
def Sl.isObj:Sl->Bool
 |.l _=>true
 |.m _=>true
 |.o _ _=>true
 |.b _ _=>true
 |_=>false
theorem Sl.own_of_pl{s:Sl}(h:s.isPl=true):s.isOwn=true:=by cases s<;>first|rfl|cases h
theorem Sl.obj_of_own{s:Sl}(h:s.isOwn=true):s.isObj=true:=by cases s<;>first|rfl|cases h
abbrev mB:=List Sl
abbrev pD:=mB->Option (List D)
abbrev dC:=mB->Option D
abbrev kF:=mB->Option Bool
def bF(H:Hp):Sl->Addr->List Addr
 |.l _,a=>[a]
 |.m _,a=>[a]
 |.o _ x,a=>OE H x a
 |.b _ x,a=>OE H x a
 |_,_=>[]
def GN(K:Fg)(G H:Hp):Sl->Addr->Prop
 |.l xs,a=>∃vs,H a=some (.lst vs)/\CA K G xs vs
 |.m kvs,a=>∃ws,H a=some (.dK ws)/\pG K G kvs ws
 |.o c x,a=>(PP K G H x a/\(OE H x a).Nodup)/\∀c',c=some c'->a=c'
 |.b c x,a=>(PP K G H x a/\(OE H x a).Nodup)/\a=c
 |_,_=>False
section
variable {K:Fg}{G G' H H':Hp}{s:Sl}{a:Addr}
theorem M4(h:s.isPl=true):bF H s a=[a]:=by cases s<;>first|rfl|cases h
theorem cV(h:s.isObj=true):a∈bF H s a:=by
 cases s<;>first|(cases h;done)|exact gA.mpr rfl|exact PP.head
theorem GN.there(h:GN K G H s a):∀c∈bF H s a,∃u,H c=some u:=by
 cases s with
 |un=>cases h
 |v d=>cases h
 |l xs=>obtain⟨vs,e,_⟩:=h;intro c m;cases gA.mp m;exact⟨_,e⟩
 |m xs=>obtain⟨vs,e,_⟩:=h;intro c m;cases gA.mp m;exact⟨_,e⟩
 |o c x=>exact h.1.1.there
 |b c x=>exact h.1.1.there
theorem GN.same(g:zd G G')(h:GN K G H s a)(k:∀c∈bF H s a,∀u,H c=some u->H' c=some u):GN K G' H' s a/\bF H' s a=bF H s a:=by
 cases s with
 |un=>cases h
 |v d=>cases h
 |l xs=>obtain⟨vs,e,r⟩:=h;exact⟨⟨vs,k a (gA.mpr rfl) _ e,CA.mono g _ _ r⟩,rfl⟩
 |m xs=>obtain⟨vs,e,r⟩:=h;exact⟨⟨vs,k a (gA.mpr rfl) _ e,r.mono g⟩,rfl⟩
 |o c x=>have q:=h.1.1.same g k;exact⟨⟨⟨q.1,by rw[q.2];exact h.1.2⟩,h.2⟩,q.2⟩
 |b c x=>have q:=h.1.1.same g k;exact⟨⟨⟨q.1,by rw[q.2];exact h.1.2⟩,h.2⟩,q.2⟩
end
structure Er(K:Fg)(G H:Hp)(ρ:mB)(σ:L2.St):Prop where
 len:ρ.length=σ.length
 val:∀(i:Nat)(d:D),ρ[i]?=some (.v d)->∃v,σ[i]?=some (some v)/\Rep K G d v
 slot:∀(i:Nat)(s:Sl),ρ[i]?=some s->s.isObj=true->∃a,σ[i]?=some (some<|.ref a)/\GN K G H s a/\∀c∈bF H s a,G c=none
 sep:∀(i j:Nat)(s t:Sl)(a b:Addr),i≠j->ρ[i]?=some s->s.isOwn=true->ρ[j]?=some t->t.isObj=true->σ[i]?=some (some<|.ref a)->σ[j]?=some (some<|.ref b)->∀c∈bF H s a,c∉bF H t b
section
variable {K:Fg}{G H G' H':Hp}{ρ:mB}{σ:L2.St}
theorem Er.own(e:Er K G H ρ σ)(i:Nat)(xs:List D)(h:ρ[i]?=some (.l xs)):∃a vs,σ[i]?=some (some<|.ref a)/\G a=none/\H a=some (.lst vs)/\CA K G xs vs:=by
 obtain⟨a,h1,⟨vs,h2,h3⟩,j⟩:=e.slot i _ h rfl;exact⟨a,vs,h1,j a<|cV rfl,h2,h3⟩
theorem Er.dic(e:Er K G H ρ σ)(i:Nat)(kvs:List (XB×D))(h:ρ[i]?=some (.m kvs)):∃a ws,σ[i]?=some (some<|.ref a)/\G a=none/\H a=some (.dK ws)/\pG K G kvs ws:=by
 obtain⟨a,h1,⟨vs,h2,h3⟩,j⟩:=e.slot i _ h rfl;exact⟨a,vs,h1,j a<|cV rfl,h2,h3⟩
theorem Er.ownAt(e:Er K G H ρ σ){i:Nat}{s:Sl}(h:ρ[i]?=some s)(o:s.isOwn=true):∃a u,σ[i]?=some (some<|.ref a)/\G a=none/\H a=some u:=by
 obtain⟨a,h1,h2,h3⟩:=e.slot i s h<|Sl.obj_of_own o;obtain⟨u,q⟩:=h2.there a<|cV<|Sl.obj_of_own o;exact⟨a,u,h1,h3 a<|cV<|Sl.obj_of_own o,q⟩
theorem Er.hop(e:Er K G H ρ σ)(g:zd G G')(k:∀(i:Nat)(s:Sl)(a:Addr),ρ[i]?=some s->s.isObj=true->σ[i]?=some (some<|.ref a)->∀c∈bF H s a,(∀u,H c=some u->H' c=some u)/\G' c=none):Er K G' H' ρ σ:=by
 have all:∀(i:Nat)(s:Sl)(a:Addr),ρ[i]?=some s->s.isObj=true->σ[i]?=some (some<|.ref a)->GN K G' H' s a/\bF H' s a=bF H s a:=λi s a h o q=>by
  obtain⟨O,h1,h2,_⟩:=e.slot i s h o;rw[q]at h1;cases h1;exact h2.same g λc m=>(k i s a h o q c m).1
 refine⟨e.len,λi d h=>let ⟨v,a,b⟩:=e.val i d h;⟨v,a,Rep.mono g d v b⟩,λi s h o=>?_,λi j s t a b ne h1 z h2 o2 I J=>?_⟩
 .obtain⟨a,h1,h2,h3⟩:=e.slot i s h o;exact⟨a,h1,(all i s a h o h1).1,by rw[(all i s a h o h1).2];exactλc m=>(k i s a h o h1 c m).2⟩
 .rw[(all i s a h1 (Sl.obj_of_own z) I).2,(all j t b h2 o2 J).2];exact e.sep i j s t a b ne h1 z h2 o2 I J
theorem Er.there(e:Er K G H ρ σ){i:Nat}{s:Sl}{a:Addr}(h:ρ[i]?=some s)(o:s.isObj=true)(q:σ[i]?=some (some<|.ref a)){c:Addr}(m:c∈bF H s a):(∃u,H c=some u)/\G c=none:=by
 obtain⟨j,h1,h2,h3⟩:=e.slot i s h o;rw[q]at h1;cases h1;exact⟨h2.there c m,h3 c m⟩
theorem Er.step(e:Er K G H ρ σ)(t:zb G H G' H'):Er K G' H' ρ σ:=e.hop t.g λi s a h o q c m=>by
 obtain⟨⟨u,h1⟩,h2⟩:=e.there h o q m;refine⟨λu z=>t.h _ _ z,?_⟩
 cases z:G' c with
 |none=>rfl
 |some o=>have:=t.f c o z h2;rw[h1]at this;cases this
end
structure Bs(G0 H0 G H:Hp):Prop where
 gh:zd G H
 gg:zd G0 G
 hh:zd H0 H
 fr:∀b o,G b=some o->G0 b=none->H0 b=none
theorem Bs.step{G0 H0 G H G' H':Hp}(b:Bs G0 H0 G H)(t:zb G H G' H'):Bs G0 H0 G' H':=
 ⟨t.s,b.gg.trans t.g,b.hh.trans t.h,λc o e n=>by
  cases q:G c with
  |some o'=>exact b.fr c o' q n
  |none=>exact b.hh.free<|t.f c o e q⟩
structure UD(K:Fg)(G0 H0 G H:Hp)(ρ:mB)(σ:L2.St):Prop where
 er:Er K G H ρ σ
 bs:Bs G0 H0 G H
 ows:∀(i:Nat)(s:Sl)(a:Addr),ρ[i]?=some s->s.isOwn=true->σ[i]?=some (some<|.ref a)->∀c∈bF H s a,H0 c=none
section
variable {K:Fg}{G0 H0 G H G' H':Hp}{ρ:mB}{σ:L2.St}
theorem UD.ow(s:UD K G0 H0 G H ρ σ)(i:Nat)(u:Sl)(a:Addr)(h:ρ[i]?=some u)(o:u.isOwn=true)(q:σ[i]?=some (some<|.ref a)):H0 a=none:=s.ows i u a h o q a<|cV<|Sl.obj_of_own o
theorem Er.fp(e:Er K G H ρ σ)(t:zd H H'){i:Nat}{u:Sl}{a:Addr}(h:ρ[i]?=some u)(o:u.isObj=true)(q:σ[i]?=some (some<|.ref a)):bF H' u a=bF H u a:=by
 obtain⟨j,h1,h2,_⟩:=e.slot i u h o;rw[q]at h1;cases h1;exact(h2.same (zd.refl _) λc _ v z=>t _ _ z).2
theorem UD.step(s:UD K G0 H0 G H ρ σ)(t:zb G H G' H'):UD K G0 H0 G' H' ρ σ:=
 ⟨s.er.step t,s.bs.step t,λi u a h o q=>by rw[s.er.fp t.h h (Sl.obj_of_own o) q];exact s.ows i u a h o q⟩
end
theorem zu{I:Type}{l:List I}{i j:Nat}{x y:I}(h:(l.set i x)[j]?=some y):(j=i/\y=x/\i<l.length)\/(j≠i/\l[j]?=some y):=by
 by_cases e:j=i
 .subst e
  have z:j<l.length:=by
   have:=(BA.mp h).1;simpa using this
  rw[lB z]at h;cases h;exact .inl ⟨rfl,rfl,z⟩
 .rw[aB<|Ne.symm e]at h;exact .inr ⟨e,h⟩
section
variable {K:Fg}{G0 H0 G H G' H':Hp}{ρ:mB}{σ:L2.St}{i:Nat}
theorem UD.setV{d:D}{v:V}(s:UD K G0 H0 G H ρ σ)(r:Rep K G d v):UD K G0 H0 G H (ρ.set i<|.v d) (σ.set i<|some v) where
 bs:=s.bs
 er:={
  len:=by simpa using s.er.len
  val:=λj d' h=>by
   rcases zu h with⟨rfl,e,I⟩|⟨z,h⟩
   .cases e;exact⟨v,lB (by rw[<- s.er.len];exact I),r⟩
   .rw[aB<|Ne.symm z];exact s.er.val j d' h
  slot:=λj u h o=>by
   rcases zu h with⟨rfl,e,I⟩|⟨z,h⟩
   .subst e;cases o
   .rw[aB<|Ne.symm z];exact s.er.slot j u h o
  sep:=λj k u t a b ne h1 J h2 o2 O S=>by
   rcases zu h1 with⟨rfl,e,_⟩|⟨z,h1⟩
   .subst e;cases J
   rcases zu h2 with⟨rfl,e,_⟩|⟨hk,h2⟩
   .subst e;cases o2
   rw[aB<|Ne.symm z]at O;rw[aB<|Ne.symm hk]at S;exact s.er.sep j k u t a b ne h1 J h2 o2 O S }
 ows:=λj u a h o q=>by
  rcases zu h with⟨rfl,e,_⟩|⟨z,h⟩
  .subst e;cases o
  .rw[aB<|Ne.symm z]at q;exact s.ows j u a h o q
theorem UD.setNew{a:Addr}{w:Sl}(s:UD K G0 H0 G H ρ σ)(t:zb G H G' H')(hw:w.isOwn=true)(hr:GN K G' H' w a)(Z:∀c∈bF H' w a,H c=none/\G' c=none):
  UD K G0 H0 G' H' (ρ.set i w) (σ.set i<|some<|.ref a):=by
 have s':=s.step t
 have O:∀{j:Nat}{u:Sl}{b c:Addr},ρ[j]?=some u->u.isObj=true->σ[j]?=some (some<|.ref b)->c∈bF H' u b->c∉bF H' w a:=λ{j u b c} h o q m z=>by
  rw[s.er.fp t.h h o q]at m;obtain⟨⟨x,e⟩,_⟩:=s.er.there h o q m;rw[(Z c z).1]at e;cases e
 refine⟨⟨by simpa using s.er.len,λj d' h=>?_,λj u h o=>?_,λj k u v b b' ne h1 o1 h2 o2 S J=>?_⟩,s'.bs,λj u b h o q=>?_⟩
 .rcases zu h with⟨rfl,e,_⟩|⟨I,h⟩
  .subst e;cases hw
  .rw[aB<|Ne.symm I];exact s'.er.val j d' h
 .rcases zu h with⟨rfl,e,hi⟩|⟨I,h⟩
  .subst e;exact⟨a,lB (by rw[<- s.er.len];exact hi),hr,λc m=>(Z c m).2⟩
  .rw[aB<|Ne.symm I];exact s'.er.slot j u h o
 .rcases zu h1 with⟨ej,e,hi⟩|⟨I,OM⟩
  .rw[ej,lB (by rw[<- s.er.len];exact hi)]at S;cases S;subst e;rcases zu h2 with⟨Y,_,_⟩|⟨hk,U⟩
   .exact absurd (ej.trans Y.symm) ne
   .rw[aB<|Ne.symm hk]at J
    exactλc m z=>O U o2 J z m
  .rw[aB<|Ne.symm I]at S;rcases zu h2 with⟨Y,e,hi⟩|⟨hk,U⟩
   .rw[Y,lB (by rw[<- s.er.len];exact hi)]at J;cases J;subst e
    exactλc m z=>O OM (Sl.obj_of_own o1) S m z
   .rw[aB<|Ne.symm hk]at J;exact s'.er.sep j k u v b b' ne OM o1 U o2 S J
 .rcases zu h with⟨rfl,e,hi⟩|⟨I,h⟩
  .rw[lB (by rw[<- s.er.len];exact hi)]at q;cases q;subst e
   exactλc m=>s.bs.hh.free (Z c m).1
  .rw[aB<|Ne.symm I]at q;exact s'.ows j u b h o q
theorem UD.setOwn{w:Sl}(s:UD K G0 H0 G H ρ σ)(t:zb G H G' H')(j:w.isPl=true)(J:H a=none)(z:G' a=none)(I:∀xs,w=.l xs->∃vs,H' a=some (.lst vs)/\CA K G' xs vs)(hm:∀kvs,w=.m kvs->∃ws,H' a=some (.dK ws)/\pG K G' kvs ws):
  UD K G0 H0 G' H' (ρ.set i w) (σ.set i<|some<|.ref a):=by
 refine s.setNew t (Sl.own_of_pl j) ?_ λc m=>?_
 .cases w with
  |l xs=>exact I xs rfl
  |m xs=>exact hm xs rfl
  |_=>cases j
 .rw[M4 j]at m;cases gA.mp m;exact⟨J,z⟩
theorem UD.mutG{a:Addr}{u w:Sl}(s:UD K G0 H0 G H ρ σ)(hu:ρ[i]?=some u)(ou:u.isOwn=true)(hw:w.isOwn=true)(ha:σ[i]?=some (some<|.ref a))
  (hG:zd G G') (EY:zd G' H') (hf:∀b o,G' b=some o->G b=none->H b=none\/b∈bF H u a) (hH:∀b o,H b=some o->b∉bF H u a->H' b=some o)
  (hr:GN K G' H' w a) (hn:∀c∈bF H' w a,(c∈bF H u a\/H c=none)/\G' c=none):UD K G0 H0 G' H' (ρ.set i w) σ:=by
 have hi:i<ρ.length:=(BA.mp hu).1
 have off:∀{j:Nat}{u':Sl}{b c:Addr},j≠i->ρ[j]?=some u'->u'.isObj=true->σ[j]?=some (some<|.ref b)->c∈bF H u' b->c∉bF H u a:=λ{j u' b c} ne h o q m z=>
  s.er.sep i j u u' a b (Ne.symm ne) hu ou h o ha q c z m
 have all:∀{j:Nat}{u':Sl}{b:Addr},j≠i->ρ[j]?=some u'->u'.isObj=true->σ[j]?=some (some<|.ref b)->(GN K G' H' u' b/\bF H' u' b=bF H u' b)/\∀c∈bF H u' b,G' c=none:=λ{j u' b} ne h o q=>by
  obtain⟨b',h1,h2,h3⟩:=s.er.slot j u' h o;rw[q]at h1;cases h1;refine⟨h2.same hG λc m v z=>hH c v z<|off ne h o q m,λc m=>?_⟩
  cases z:G' c with
  |none=>rfl
  |some x=>
   rcases hf c x z (h3 c m) with y|y
   .obtain⟨v,e⟩:=h2.there c m;rw[y]at e;cases e
   .exact absurd y<|off ne h o q m
 have h0:∀c∈bF H u a,H0 c=none:=s.ows i u a hu ou ha;refine⟨⟨by simpa using s.er.len,λj d' h=>?_,λj v h o=>?_,λj k v J b b' ne h1 o1 h2 o2 O S=>?_⟩,⟨EY,s.bs.gg.trans hG,λb x e=>?_,λb x e n=>?_⟩,λj v b h o q=>?_⟩
 .rcases zu h with⟨rfl,e,_⟩|⟨I,h⟩
  .subst e;cases hw
  .obtain⟨v,e1,e2⟩:=s.er.val j d' h;exact⟨v,e1,Rep.mono hG _ _ e2⟩
 .rcases zu h with⟨rfl,e,_⟩|⟨I,h⟩
  .subst e;exact⟨a,ha,hr,λc m=>(hn c m).2⟩
  .obtain⟨b,h1,_,_⟩:=s.er.slot j v h o;have q:=all I h o h1;exact⟨b,h1,q.1.1,by rw[q.1.2];exact q.2⟩
 .have new:∀{k:Nat}{J:Sl}{b' c:Addr},k≠i->ρ[k]?=some J->J.isObj=true->σ[k]?=some (some<|.ref b')->c∈bF H' w a->c∉bF H' J b':=λ{k J b' c} nk h o q m z=>by
   rw[(all nk h o q).1.2]at z;rcases(hn c m).1 with y|y
   .exact off nk h o q z y
   .obtain⟨⟨x,e⟩,_⟩:=s.er.there h o q z;rw[y]at e;cases e
  rcases zu h1 with⟨ej,e,_⟩|⟨I,Y⟩
  .subst ej;subst e;rw[ha]at O;cases O;rcases zu h2 with⟨Z,_,_⟩|⟨hk,U⟩
   .exact absurd Z.symm ne
   .exactλc m=>new hk U o2 S m
  .rcases zu h2 with⟨Z,e,_⟩|⟨hk,U⟩
   .subst Z;subst e;rw[ha]at S;cases S
    exactλc m z=>new I Y (Sl.obj_of_own o1) O z m
   .rw[(all I Y (Sl.obj_of_own o1) O).1.2,(all hk U o2 S).1.2];exact s.er.sep j k v J b b' ne Y o1 U o2 O S
 .exact hH b x (s.bs.hh b x e) λz=>by rw[h0 b z]at e;cases e
 .cases q:G b with
  |some o'=>exact s.bs.fr b o' q n
  |none=>
   rcases hf b x e q with y|y
   .exact s.bs.hh.free y
   .exact h0 b y
 .rcases zu h with⟨rfl,e,_⟩|⟨I,h⟩
  .subst e;rw[ha]at q;cases q;intro c m;rcases(hn c m).1 with y|y
   .exact h0 c y
   .exact s.bs.hh.free y
  .rw[(all I h (Sl.obj_of_own o) q).1.2];exact s.ows j v b h o q
theorem UD.mut{a:Addr}{u w:Sl}(s:UD K G0 H0 G H ρ σ)(hu:ρ[i]?=some u)(j:u.isPl=true)(I:w.isPl=true)(ha:σ[i]?=some (some<|.ref a))(S:∀xs,w=.l xs->∃vs,o=.lst vs/\CA K G xs vs)(hm:∀kvs,w=.m kvs->∃ws,o=.dK ws/\pG K G kvs ws):
  UD K G0 H0 G (upd H a o) (ρ.set i w) σ:=by
 obtain⟨U,u',J,O,e3⟩:=s.er.ownAt hu<|Sl.own_of_pl j;rw[ha]at J;cases J;refine s.mutG hu (Sl.own_of_pl j) (Sl.own_of_pl I) ha (zd.refl _) (λb x e=>?_) (λb x e n=>by rw[n]at e;cases e) (λb x e n=>?_) ?_ λc m=>?_
 .rw[upd_ne (λz=>by rw[z,O]at e;cases e)];exact s.bs.gh b x e
 .rw[M4 j]at n;rw[upd_ne<|λz=>n<|gA.mpr z];exact e
 .cases w with
  |l xs=>obtain⟨vs,h1,h2⟩:=S xs rfl;exact⟨vs,by rw[zL,h1],h2⟩
  |m xs=>obtain⟨vs,h1,h2⟩:=hm xs rfl;exact⟨vs,by rw[zL,h1],h2⟩
  |_=>cases I
 .rw[M4 I]at m;cases gA.mp m;exact⟨.inl (by rw[M4 j];exact gA.mpr rfl),O⟩
end
def frz(i:Nat)(ρ:mB):mB:=match ρ[i]? with
 |some (.l xs)=>ρ.set i<|.v<|.lst xs
 |_=>ρ
section
variable {K:Fg}{G0 H0 G H G':Hp}{ρ:mB}{σ:L2.St}{i:Nat}
theorem UD.frzG{a:Addr}{u:Sl}{d:D}(s:UD K G0 H0 G H ρ σ)(hu:ρ[i]?=some u)(O:u.isOwn=true)(ha:σ[i]?=some (some<|.ref a))
  (hG:zd G G') (S:zd G' H) (hf:∀b o,G' b=some o->G b=none->b∈bF H u a) (hr:Rep K G' d (.ref a)):UD K G0 H0 G' H (ρ.set i<|.v d) σ:=by
 have off:∀{j:Nat}{u':Sl}{b c:Addr},j≠i->ρ[j]?=some u'->u'.isObj=true->σ[j]?=some (some<|.ref b)->c∈bF H u' b->c∉bF H u a:=λ{j u' b c} ne h o q m z=>
  s.er.sep i j u u' a b (Ne.symm ne) hu O h o ha q c z m
 refine⟨⟨by simpa using s.er.len,λj d' h=>?_,λj v h o=>?_,λj k v v' b b' ne h1 J h2 o2 Z q2=>?_⟩,⟨S,s.bs.gg.trans hG,s.bs.hh,λb x e n=>?_⟩,λj v b h o q=>?_⟩
 .rcases zu h with⟨rfl,e,_⟩|⟨I,h⟩
  .cases e;exact⟨_,ha,hr⟩
  .obtain⟨v,U,Y⟩:=s.er.val j d' h;exact⟨v,U,Rep.mono hG _ _ Y⟩
 .rcases zu h with⟨rfl,e,_⟩|⟨I,h⟩
  .subst e;cases o
  .obtain⟨b,h1,h2,h3⟩:=s.er.slot j v h o;refine⟨b,h1,(h2.same hG λc m x z=>z).1,λc m=>?_⟩
   cases z:G' c with
   |none=>rfl
   |some x=>exact absurd (hf c x z<|h3 c m)<|off I h o h1 m
 .rcases zu h1 with⟨rfl,e,_⟩|⟨I,h1⟩
  .subst e;cases J
  rcases zu h2 with⟨rfl,e,_⟩|⟨hk,h2⟩
  .subst e;cases o2
  exact s.er.sep j k v v' b b' ne h1 J h2 o2 Z q2
 .cases q:G b with
  |some o'=>exact s.bs.fr b o' q n
  |none=>exact s.ows i u a hu O ha b<|hf b x e q
 .rcases zu h with⟨rfl,e,_⟩|⟨I,h⟩
  .subst e;cases o
  .exact s.ows j v b h o q
theorem UD.frz(i:Nat)(s:UD K G0 H0 G H ρ σ):∃G',zd G G'/\UD K G0 H0 G' H (RD.frz i ρ) σ:=by
 have up:∀{a:Addr}{o:HO}{u:Sl},u.isPl=true->H a=some o->G a=none->zd (upd G a o) H/\∀b x,upd G a o b=some x->G b=none->b∈bF H u a:=λ{a o u} hp h n=>by
  refine⟨λb x e=>?_,λb x e k=>?_⟩
  .by_cases z:b=a
   .subst z;rw[zL]at e;cases e;exact h
   .rw[upd_ne z]at e;exact s.bs.gh b x e
  .by_cases z:b=a
   .subst z;rw[M4 hp];exact gA.mpr rfl
   .rw[upd_ne z,k]at e;cases e
 unfold RD.frz;split
 .rename_i xs h;obtain⟨a,vs,h1,h2,h3,j⟩:=s.er.own i xs h;have hG:zd G (upd G a<|.lst vs):=yh h2;exact⟨_,hG,s.frzG h rfl h1 hG (up (u:=.l xs) rfl h3 h2).1 (up (u:=.l xs) rfl h3 h2).2<|CO.mpr ⟨a,vs,rfl,GF.of zL,CA.mono hG _ _ j⟩⟩
 .exact⟨G,zd.refl _,s⟩
end
inductive wH(K:Fg)(G H:Hp):D->V->Prop where
 |fr {d:D} {v:V}:Rep K G d v->wH K G H d v
 |ow {xs:List D} {a:Addr} {vs:List V}:G a=none->H a=some (.lst vs)->CA K G xs vs->wH K G H (.lst xs) (.ref a)
theorem wH.step{K:Fg}{G H G' H':Hp}{d:D}{v:V}(r:wH K G H d v)(t:zb G H G' H'):wH K G' H' d v:=by
 cases r with
 |fr r=>exact .fr<|Rep.mono t.g _ _ r
 |ow h1 h2 h3=>
  refine .ow ?_ (t.h _ _ h2)<|CA.mono t.g _ _ h3;rename_i a _
  cases q:G' a with
  |none=>rfl
  |some o=>have:=t.f a o q h1;rw[h2]at this;cases this
section
variable {K:Fg}{G H:Hp}
theorem wH.list{xs:List D}{v:V}(r:wH K G H (.lst xs) v)(s:zd G H):∃a vs,v=.ref a/\GF K H a vs/\CA K G xs vs:=by
 cases r with
 |fr r=>obtain⟨a,vs,e,q,t⟩:=CO.mp r;exact⟨a,vs,e,s.seq q,t⟩
 |ow h1 h2 h3=>exact⟨_,_,rfl,GF.of h2,h3⟩
theorem wH.rep(r:wH K G H d v)(h:∀xs,d≠.lst xs):Rep K G d v:=by
 cases r with
 |fr r=>exact r
 |ow _ _ _=>exact absurd rfl<|h _
theorem wH.int{i:Int}{v:V}(r:wH K G H (.int i) v):v=.int i:=yE.mp (r.rep λ_ z=>by cases z)
theorem wH.bl{b:Bool}{v:V}(r:wH K G H (.bl b) v):v=.bl b:=yZ.mp (r.rep λ_ z=>by cases z)
theorem wH.str{x:Str}{v:V}(r:wH K G H (.str x) v):v=.str x:=FP.mp (r.rep λ_ z=>by cases z)
theorem wH.non{v:V}(r:wH K G H .non v):v=.non:=BO.mp (r.rep λ_ z=>by cases z)
theorem wH.tup{xs:List D}{v:V}(r:wH K G H (.tup xs) v)(s:zd G H):∃a vs,v=.ref a/\GI K H a vs/\CA K G xs vs:=by
 obtain⟨a,vs,e,q,t⟩:=hV (r.rep λ_ z=>by cases z);exact⟨a,vs,e,qY s q,t⟩
end
def tE(K:Fg)(f:dC):TE:=λσ H Q=>∃G ρ d,zd G H/\Er K G H ρ σ/\f ρ=some d/\∀v G' H',zb G H G' H'->Rep K G' d v->Q v H'
def tR(K:Fg)(f:dC):TE:=λσ H Q=>∃G ρ d,zd G H/\Er K G H ρ σ/\f ρ=some d/\∀v G' H',zb G H G' H'->wH K G' H' d v->Q v H'
def tF(K:Fg)(f:pD):TE:=λσ H Q=>∃G ρ xs,zd G H/\Er K G H ρ σ/\f ρ=some xs /\
 ∀a vs G' H',zb G H G' H'->H a=none->G' a=none->H' a=some (.lst vs)->CA K G' xs vs->Q (.ref a) H'
def Io(K:Fg)(f:kF):TT:=λσ H Q=>∃G ρ b,zd G H/\Er K G H ρ σ/\f ρ=some b/\∀G' H',zb G H G' H'->Q b H'
def tAs(K:Fg)(f:pD):TA:=λσ H Q=>∃G ρ ds,zd G H/\Er K G H ρ σ/\f ρ=some ds/\∀vs G' H',zb G H G' H'->CA K G' ds vs->Q vs H'
abbrev SE(X:Cx)(e:Expr)(f:dC):Prop:=PE X e<|tE X.K f
abbrev SR(X:Cx)(e:Expr)(f:dC):Prop:=PE X e<|tR X.K f
abbrev SF(X:Cx)(e:Expr)(f:pD):Prop:=PE X e<|tF X.K f
abbrev SB(X:Cx)(e:Expr)(f:kF):Prop:=PT X e<|Io X.K f
structure SA(X:Cx)(es:List Expr)(f:pD):Prop where
 pa:PA X es (tAs X.K f)
 len:∀ρ ds,f ρ=some ds->ds.length=es.length
theorem aG{X:Cx}{e:Expr}{t t':TE}(h:PE X e t)(w:∀σ H Q,t' σ H Q->t σ H Q):PE X e t':=λpins s σ H Q I q=>h pins s σ H Q I<|w σ H Q q
theorem WS{X:Cx}{e:Expr}{t t':TT}(h:PT X e t)(w:∀σ H Q,t' σ H Q->t σ H Q):PT X e t':=λpins s σ H Q I q=>h pins s σ H Q I<|w σ H Q q
theorem Al(h:PA X e t)(w:∀σ H Q,t' σ H Q->t σ H Q):PA X e t':=λpos pins s σ H Q I q=>h pos pins s σ H Q I<|w σ H Q q
theorem yN(h:PS X e t)(w:∀Q σ H,t' Q σ H->t Q σ H):PS X e t':=λpins s σ H Q I q=>h pins s σ H Q I<|w Q σ H q
theorem O4(h:IL X e t)(w:∀Q σ H,t' Q σ H->t Q σ H):IL X e t':=λpins s σ H Q I q=>h pins s σ H Q I<|w Q σ H q
section
variable {X:Cx}{e a b:Expr}{es:List Expr}{f g:dC}{fl:pD}{pos:Pos}
theorem zE(h:SE X e f):SR X e f:=aG h λσ H Q ⟨G,ρ,d,s,er,j,k⟩=>⟨G,ρ,d,s,er,j,λv G' H' t r=>k v G' H' t<|.fr r⟩
theorem Rf{a:Addr}{vs:List V}(t:zb G H G' H')(h1:H a=none)(h2:G' a=none)(h3:H' a=some (.lst vs)):zb G H (upd G' a<|.lst vs) H':=
 ⟨t.g.trans<|yh h2,t.h,λb u e=>by
  by_cases z:b=a
  .subst z;rw[zL]at e;cases e;exact h3
  .rw[upd_ne z]at e;exact t.s b u e,λb u e n=>by
  by_cases z:b=a
  .subst z;exact h1
  .rw[upd_ne z]at e;exact t.f b u e n⟩
theorem zg(h:SF X e fl):SE X e (λρ=>(fl ρ).map D.lst):=aG h λσ H Q=>by
 rintro⟨G,ρ,d,s,er,z,k⟩;obtain⟨xs,j,rfl⟩:=bA.mp z;refine⟨G,ρ,xs,s,er,j,λa vs G' H' t h1 h2 h3 r=>?_⟩;exact k (.ref a) (upd G' a<|.lst vs) H' (Rf t h1 h2 h3)<|CO.mpr ⟨a,vs,rfl,GF.of zL,CA.mono (yh h2) _ _ r⟩
noncomputable def jT(ρ:mB)(i:Nat):Option D:=match ρ[i]? with
 |some (.v d)=>some d
 |_=>none
noncomputable def EN(ρ:mB)(i:Nat):Option D:=match ρ[i]? with
 |some (.v d)=>some d
 |some (.l xs)=>some<|.lst xs
 |_=>none
abbrev gV(i:Nat):mB->Option D:=λρ=>jT ρ i
abbrev gR(i:Nat):mB->Option D:=λρ=>EN ρ i
noncomputable abbrev zN(n:Int):mB->Option D:=λ_=>some<|D.int n
abbrev zO:mB->Option (List D):=λ_=>some []
theorem zSw{ρ:mB}(h:jT ρ i=some d):ρ[i]?=some (.v d):=by
 unfold jT at h;split at h
 .cases h;assumption
 .cases h
theorem zNj{ρ:mB}(h:EN ρ i=some d):ρ[i]?=some (.v d)\/∃xs,d=.lst xs/\ρ[i]?=some (.l xs):=by
 unfold EN at h;split at h
 .cases h;left;assumption
 .cases h;right;exact⟨_,rfl,by assumption⟩
 .cases h
theorem zD(i:Nat)(h:PE X e (RF i)):SE X e (gV i):=aG h λσ H Q=>by
 rintro⟨G,ρ,d,s,er,z,k⟩;obtain⟨v,j,r⟩:=er.val i d<|zSw z;exact⟨v,j,k v G H (zb.refl s) r⟩
theorem zB(i:Nat)(h:PE X e (RF i)):SR X e (gR i):=aG h λσ H Q=>by
 rintro⟨G,ρ,d,s,er,O,k⟩;rcases zNj O with j|⟨xs,rfl,j⟩
 .obtain⟨v,z,r⟩:=er.val i d j;exact⟨v,z,k v G H (zb.refl s)<|.fr r⟩
 .obtain⟨a,vs,z,I,e3,J⟩:=er.own i xs j;exact⟨_,z,k _ G H (zb.refl s)<|.ow I e3 J⟩
theorem W8(h:PE X e (tC v))(r:∀K G,Rep K G d v):SE X e (λ_=>some d):=aG h λσ H Q=>by
 rintro⟨G,ρ,d',s,er,j,k⟩;cases j;exact k v G H (zb.refl s)<|r _ _
theorem zF{i j}:SE X (.Constant (.int i) j pos) (λ_=>some<|.int i):=W8 O9 λ_ _=>yE.mpr rfl
theorem tV{i j}:SE X (.Constant (.bool i) j pos) (λ_=>some<|.bl i):=W8 LZ λ_ _=>yZ.mpr rfl
theorem P4{j}:SE X (.Constant .none j pos) (λ_=>some .non):=W8 zUo λ_ _=>BO.mpr rfl
theorem z8{i j}:SE X (.Constant (.str i) j pos) (λ_=>some<|.str i):=W8 zRf λ_ _=>FP.mpr rfl
def rD(K:Fg)(op:D->D->Option D):R2:=λx y H Q=>∃G dx dy d,zd G H/\wH K G H dx x/\wH K G H dy y/\op dx dy=some d/\∀v G' H',zb G H G' H'->Rep K G' d v->Q v H'
noncomputable def b2(f g:dC)(op:D->D->Option D):dC:=λρ=>(f ρ).bind λx=>(g ρ).bind λy=>op x y
theorem Am{K:Fg}{op:D->D->Option D}{σ:L2.St}{H:Hp}{Q:VK}(h:tE K (b2 f g op) σ H Q):RU (rD K op) (tR K f) (tR K g) σ H Q:=by
 obtain⟨G,ρ,d,s,er,j,k⟩:=h;obtain⟨x,J,j⟩:=aA.mp j;obtain⟨y,O,j⟩:=aA.mp j;refine⟨G,ρ,x,s,er,J,λS z H1 t1 r1=>⟨z,ρ,y,t1.s,er.step t1,O,λU I H2 t2 r2=>?_⟩⟩;exact⟨I,x,y,d,t2.s,r1.step t2,r2,j,λv G' H' t r=>k v G' H' ((t1.trans t2).trans t) r⟩
theorem zZ{o2:D->D->Option D}(j:NI X (binaryOp op) (rD X.K o2))(ha:SR X a f)(hb:SR X b g):SE X (.BinOp a op b pos) (b2 f g o2):=aG (zU3 j ha hb) λ_ _ _ h=>Am h
theorem DQ{o2:D->D->Option D}(j:NI X (compareOp op) (rD X.K o2))(ha:SR X a f)(hb:SR X b g)(hm:behindInMarks op b=false):SE X (.Compare a [op] [b] pos) (b2 f g o2):=aG (zNK j ha hb hm) λ_ _ _ h=>Am h
noncomputable def dS:D->Option Bool
 |.bl b=>some b
 |_=>none
noncomputable def bB(f:dC):kF:=λρ=>(f ρ).bind dS
theorem Q4{d:D}{b:Bool}(h:dS d=some b):d=.bl b:=by
 cases d<;>first|(cases h;rfl)|cases h
theorem yF{op:CmpOp}{o2:D->D->Option D}(J:NI X (compareOp op) (rD X.K o2))(ha:SR X a f)(hb:SR X b g)(hm:behindInMarks op b=false):SB X (.Compare a [op] [b] pos) (bB<|b2 f g o2):=
 WS (Pn J ha hb hm) λσ H Q=>by
  rintro⟨G,ρ,d,s,er,I,k⟩;obtain⟨x,j,z⟩:=aA.mp I;have e3:=Q4 z;subst e3;exact Am ⟨G,ρ,_,s,er,j,λv G' H' t r=>⟨d,yZ.mp r,k G' H' t⟩⟩
def b3(f g h:dC)(o1 o2:D->D->Option D):dC:=λρ=>(f ρ).bind λx=>(g ρ).bind λy=>(o1 x y).bind λz=>(dS z).bind λk=>if k=true then (h ρ).bind λw=>o2 y w else some (.bl false)
noncomputable def Ba(f g:kF):kF:=λρ=>(f ρ).bind λb=>if b=true then g ρ else some false
noncomputable def P6(f g:kF):kF:=λρ=>(f ρ).bind λb=>if b=true then some true else g ρ
noncomputable def aP(f:kF):kF:=λρ=>(f ρ).map (!·)
abbrev SW(X:Cx)(e:Expr)(f:kF):Prop:=PW X e<|Io X.K f
theorem zVR(h:PW X e t)(w:∀σ H Q,t' σ H Q->t σ H Q):PW X e t':=λj pins s σ H Q I q=>h j pins s σ H Q I<|w σ H Q q
theorem E5{f:kF}(h:SW X e f):SB X e f:=h.pt
variable {p q:kF}{rest:List Expr}
theorem Pg(ha:SB X a p):SW X (.BoolOp .And [a] pos) p:=zSS ha
theorem zRo(ha:SB X a p):SW X (.BoolOp .Or [a] pos) p:=zUq ha
theorem Rg(ha:SB X a p)(hb:SW X (.BoolOp .And (b::rest) pos) q):SW X (.BoolOp .And (a::b::rest) pos) (Ba p q):=
 zVR (zUr ha hb) λσ H Q=>by
  rintro⟨G,ρ,d,s,er,j,k⟩;obtain⟨c,I,j⟩:=aA.mp j;refine⟨G,ρ,c,s,er,I,λz H1 t1=>?_⟩
  cases c with
  |false=>rw[if_neg YA]at j ⊢;cases j;exact k z H1 t1
  |true=>rw[if_pos rfl]at j ⊢;exact⟨z,ρ,d,t1.s,er.step t1,j,λG' H' t=>k G' H'<|t1.trans t⟩
theorem zVT(ha:SB X a p)(hb:SW X (.BoolOp .Or (b::rest) pos) q):SW X (.BoolOp .Or (a::b::rest) pos) (P6 p q):=
 zVR (QZ ha hb) λσ H Q=>by
  rintro⟨G,ρ,d,s,er,j,k⟩;obtain⟨c,I,j⟩:=aA.mp j;refine⟨G,ρ,c,s,er,I,λz H1 t1=>?_⟩
  cases c with
  |true=>rw[if_pos rfl]at j ⊢;cases j;exact k z H1 t1
  |false=>rw[if_neg YA]at j ⊢;exact⟨z,ρ,d,t1.s,er.step t1,j,λG' H' t=>k G' H'<|t1.trans t⟩
theorem nV(ha:SB X a p):SB X (.UnaryOp .Not a pos) (aP p):=WS (zUs ha) λσ H Q=>by
 rintro⟨G,ρ,d,s,er,I,k⟩;obtain⟨c,z,rfl⟩:=bA.mp I;exact⟨G,ρ,c,s,er,z,λj H1 t1=>k j H1 t1⟩
noncomputable def Bb:D->Option Bool
 |.non=>some false
 |.bl b=>some b
 |.int i=>some<|i != 0
 |.str x=>if x.length<=sizeLine then some ((x.length:Int) != 0) else none
 |.tup xs=>some<|!xs.isEmpty
 |.lst xs=>some<|!xs.isEmpty
theorem zGx{K:Fg}{G:Hp}{xs:List D}{vs:List V}(h:CA K G xs vs):xs.isEmpty=vs.isEmpty:=by
 have:=h.length;cases xs<;>cases vs<;>simp_all
noncomputable def RL(f:dC):kF:=λρ=>(f ρ).bind Bb
theorem MO(ha:SR X a f)(he:∀z,isTrue a X.env z=(do let v <- z;standAt a.pos;holding [v] (truthy v)):=by intro _;rfl):SB X a (RL f):=
 WS (zP4 ha he) λσ H Q=>by
  rintro⟨G,ρ,b,s,er,j,k⟩;obtain⟨d,J,j⟩:=aA.mp j;refine⟨G,ρ,d,s,er,J,λv I H1 t1 r1=>⟨b,?_,k I H1 t1⟩⟩
  cases d with
  |non=>cases j;rw[r1.non];exact rfl
  |bl c=>cases j;rw[r1.bl];exact rfl
  |int c=>cases j;rw[r1.int];exact rfl
  |str c=>
   simp only[Bb]at j;split at j
   .rename_i h;cases j;rw[r1.str];exact⟨h,rfl⟩
   .cases j
  |tup xs=>cases j;obtain⟨a,vs,rfl,q,r⟩:=r1.tup t1.s;exact .inr (.inl ⟨vs,q,by rw[zGx r]⟩)
  |lst xs=>cases j;obtain⟨a,vs,rfl,q,r⟩:=r1.list t1.s;exact .inl ⟨vs,q,by rw[zGx r]⟩
def IR(f g:dC):dC:=λρ=>(f ρ).bind λx=>(dS x).bind λb=>if b=true then g ρ else some (.bl false)
def jf(f g:dC):dC:=λρ=>(f ρ).bind λx=>(dS x).bind λb=>if b=true then some (.bl true) else g ρ
def Z1(f:dC):dC:=λρ=>(f ρ).bind λx=>(dS x).map λb=>.bl<|!b
theorem WW{op}(h:SE X a f):SE X (.BoolOp op [a] pos) f:=zUt h
theorem XW(ha:SE X a f)(hb:SE X (.BoolOp .And (b::rest) pos) g):SE X (.BoolOp .And (a::b::rest) pos) (IR f g):=
 aG (zUu ha hb) λσ H Q=>by
  rintro⟨G,ρ,d,s,er,S,k⟩;obtain⟨x,J,I⟩:=aA.mp S;obtain⟨c,O,j⟩:=aA.mp I;have e3:=Q4 O;subst e3;refine⟨G,ρ,_,s,er,J,λU z H1 t1 r1=>⟨c,yZ.mp r1,?_⟩⟩
  cases c with
  |false=>rw[if_neg YA]at j ⊢;cases j;exact k _ z H1 t1<|yZ.mpr rfl
  |true=>rw[if_pos rfl]at j ⊢;exact⟨z,ρ,d,t1.s,er.step t1,j,λv G' H' t r=>k v G' H' (t1.trans t) r⟩
theorem S0(ha:SE X a f)(hb:SE X (.BoolOp .Or (b::rest) pos) g):SE X (.BoolOp .Or (a::b::rest) pos) (jf f g):=
 aG (NZ ha hb) λσ H Q=>by
  rintro⟨G,ρ,d,s,er,U,k⟩;obtain⟨x,J,I⟩:=aA.mp U;obtain⟨c,O,j⟩:=aA.mp I;have e3:=Q4 O;subst e3;refine⟨G,ρ,_,s,er,J,λY z H1 t1 r1=>⟨c,yZ.mp r1,?_⟩⟩
  cases c with
  |true=>rw[if_pos rfl]at j ⊢;cases j;exact k _ z H1 t1<|yZ.mpr rfl
  |false=>rw[if_neg YA]at j ⊢;exact⟨z,ρ,d,t1.s,er.step t1,j,λv G' H' t r=>k v G' H' (t1.trans t) r⟩
theorem zVV(ha:SE X a f):SE X (.UnaryOp .Not a pos) (Z1 f):=aG (zUv ha) λσ H Q=>by
 rintro⟨G,ρ,d,s,er,j,k⟩;obtain⟨x,I,j⟩:=aA.mp j;obtain⟨c,J,rfl⟩:=bA.mp j;have e3:=Q4 J;subst e3;exact⟨G,ρ,_,s,er,I,λO z H1 t1 r1=>⟨c,yZ.mp r1,k _ z H1 t1<|yZ.mpr rfl⟩⟩
noncomputable def zC(f:dC)(g:pD):pD:=λρ=>(f ρ).bind λx=>(g ρ).map λxs=>x::xs
theorem zG:SA X [] zO:=⟨Al yl λσ H Q=>by rintro⟨G,ρ,d,s,er,j,k⟩;cases j;exact k [] G H (zb.refl s) CA.nil,λρ ds h=>by cases h;rfl⟩
theorem zA(ha:SE X e f)(hr:SA X es fl)(hs:BG X e es:=by rfl):SA X (e::es) (zC f fl):=by
 refine⟨Al (zx ha hr.pa hs) λσ H Q ⟨G,ρ,d,s,er,j,k⟩=>?_,λρ ds h=>?_⟩
 .obtain⟨x,I,j⟩:=aA.mp j;obtain⟨xs,z,rfl⟩:=bA.mp j;exact⟨G,ρ,x,s,er,I,λS J H1 t1 r1=>⟨J,ρ,xs,t1.s,er.step t1,z,λvs O H2 t2 r2=>k _ O H2 (t1.trans t2)<|CA.cons (Rep.mono t2.g _ _ r1) r2⟩⟩
 .obtain⟨x,I,j⟩:=aA.mp h;obtain⟨xs,z,rfl⟩:=bA.mp j;rw[iA,iA,hr.len ρ xs z]
theorem FS(h:n<=1000):n<=sizeLine:=mJ<|zNg h
theorem zV{x1}(h:SA X es fl)(I:es.length<=1000:=by decide):SE X (.Tuple es x1 pos) (λρ=>(fl ρ).map D.tup):=aG (zVB h.pa) λσ H Q=>by
 rintro⟨G,ρ,d,s,er,z,k⟩;obtain⟨xs,j,rfl⟩:=bA.mp z;refine⟨G,ρ,xs,s,er,j,λvs J H1 t1 r1=>⟨by rw[<- r1.length,h.len _ _ j];exact FS I,λp hp=>?_⟩⟩;exact k _ _ _ (t1.trans<|zb.new t1.s hp)<|IS.mpr ⟨p,vs,rfl,zL,CA.mono (yh<|t1.s.free hp) _ _ r1⟩
theorem yp(h:SA X es fl)(I:es.length<=1000:=by decide):SF X (.List es pos) fl:=aG (Qy h.pa) λσ H Q=>by
 rintro⟨G,ρ,xs,s,er,j,k⟩;refine⟨G,ρ,xs,s,er,j,λvs z H1 t1 r1=>⟨by rw[<- r1.length,h.len _ _ j];exact FS I,λp hp=>?_⟩⟩;exact k p vs z (upd H1 p<|.lst vs) (t1.trans<|zb.newH t1.s hp) (t1.h.free hp) (t1.s.free hp) zL r1
def MU(K:Fg)(f:List D->Option D)(n:Nat):Sp:=λvs H Q _=>∃G ds d,zd G H/\CA K G ds vs/\ds.length=n/\f ds=some d/\∀v G' H',zb G H G' H'->Rep K G' d v->Q v H'
theorem zSx{k n:Nat}{fa:Addr}{fd:FuncData}{ps:List Str}{F:List D->Option D}{x:Str}{p:Pos}(z:bI X.prog X.w X.K X.mg X.base CH k fa fd ps (MU X.K F n))(hr:IF k X.A)(Y:Gl X x)(hm:X.mg x=some (.ref fa))(hk:iB X.K (.ref fa)=true)
  (hb:WK X.K fd ps []) (hn:(e::es).length=n) (ha:SA X (e::es) fl) (O:LL x:=by decide) (he:BG X e es:=by rfl)
  (J:EH X pos es:=by rfl):SE X (.Call (.Name x p) (e::es) [] pos) (λρ=>(fl ρ).bind F):=
 aG (Z3 (E:=E0) z hr Y hm hk hb .nil sV ha.pa O he J) λσ H Q=>by
  rintro⟨G,ρ,d,s,er,U,k⟩;obtain⟨xs,j,S⟩:=aA.mp U;refine⟨G,ρ,xs,s,er,j,λvs I H1 t1 r1=>?_⟩;show MU X.K F n (vs++[]) H1 Q E0;rw[kB];exact⟨I,xs,d,t1.s,r1,by rw[ha.len _ _ j,hn],S,λv G' H' t r=>k v G' H' (t1.trans t) r⟩
def cR(K:Fg)(op:D->Option D):List V->Hp->VK->Prop:=λxs H Q=>∃G d1 d x,xs=[x]/\zd G H/\wH K G H d1 x/\op d1=some d/\∀v G' H',zb G H G' H'->Rep K G' d v->Q v H'
def cF(K:Fg)(op:D->Option (List D)):List V->Hp->VK->Prop:=λxs H Q=>∃G d1 ys x,xs=[x]/\zd G H/\wH K G H d1 x/\op d1=some ys /\
 ∀a vs G' H',zb G H G' H'->H a=none->G' a=none->H' a=some (.lst vs)->CA K G' ys vs->Q (.ref a) H'
variable {x:Str}{p1:Pos}{id T:String}
noncomputable def b1(f:dC)(op:D->Option D):dC:=λρ=>(f ρ).bind op
theorem zVW{K:Fg}{op:D->Option D}{σ:L2.St}{H:Hp}{Q:VK}(h:tE K (b1 f op) σ H Q):A7 (cR K op) (Sn (tR K f) mR) σ H Q:=by
 obtain⟨G,ρ,d,s,er,j,k⟩:=h;obtain⟨d1,I,j⟩:=aA.mp j;exact⟨G,ρ,d1,s,er,I,λJ z H1 t1 r1=>⟨z,d1,d,J,rfl,t1.s,r1,j,λv G' H' t r=>k v G' H' (t1.trans t) r⟩⟩
noncomputable def iW(f:dC)(op:D->Option (List D)):pD:=λρ=>(f ρ).bind op
theorem zRp{K:Fg}{op:D->Option (List D)}{σ:L2.St}{H:Hp}{Q:VK}(h:tF K (iW f op) σ H Q):A7 (cF K op) (Sn (tR K f) mR) σ H Q:=by
 obtain⟨G,ρ,d,s,er,j,k⟩:=h;obtain⟨d1,I,j⟩:=aA.mp j;exact⟨G,ρ,d1,s,er,I,λJ z H1 t1 r1=>⟨z,d1,d,J,rfl,t1.s,r1,j,λa vs G' H' t h1 h2 h3 r=>k a vs G' H' (t1.trans t) (t1.h.free h1) h2 h3 r⟩⟩
theorem zk{op:D->Option D}(hc:tK X (.builtin id) (cR X.K op))(I:Gl X x)(hm:X.mg x=none)(hv:HB x=some (.builtin id))(ha:SR X a f)(J:x ≠ "__name__":=by decide)(z:LL x:=by decide)
  (hs:BG X a []:=by rfl) (he:BG X a []:=by rfl) (j:EH X pos []:=by rfl):SE X (.Call (.Name x p1) [a] [] pos) (b1 f op):=
 aG (Q3 hc I hm hv (zx ha yl hs) J z he j) λ_ _ _ h=>zVW h
theorem yJ{op:D->Option D}(hc:tK X (.type T) (cR X.K op))(I:Gl X x)(hm:X.mg x=none)(hv:HB x=some (.type T))(ha:SR X a f)(J:x ≠ "__name__":=by decide)(z:LL x:=by decide)
  (hs:BG X a []:=by rfl) (he:BG X a []:=by rfl) (j:EH X pos []:=by rfl):SE X (.Call (.Name x p1) [a] [] pos) (b1 f op):=
 aG (My hc I hm hv (zx ha yl hs) J z he j) λ_ _ _ h=>zVW h
theorem zK9{op:D->Option (List D)}(hc:tK X (.builtin id) (cF X.K op))(I:Gl X x)(hm:X.mg x=none)(hv:HB x=some (.builtin id))(ha:SR X a f)(J:x ≠ "__name__":=by decide)(z:LL x:=by decide)
  (hs:BG X a []:=by rfl) (he:BG X a []:=by rfl) (j:EH X pos []:=by rfl):SF X (.Call (.Name x p1) [a] [] pos) (iW f op):=
 aG (Q3 hc I hm hv (zx ha yl hs) J z he j) λ_ _ _ h=>zRp h
theorem zNl{op:D->Option (List D)}(hc:tK X (.type T) (cF X.K op))(I:Gl X x)(hm:X.mg x=none)(hv:HB x=some (.type T))(ha:SR X a f)(J:x ≠ "__name__":=by decide)(z:LL x:=by decide)
  (hs:BG X a []:=by rfl) (he:BG X a []:=by rfl) (j:EH X pos []:=by rfl):SF X (.Call (.Name x p1) [a] [] pos) (iW f op):=
 aG (My hc I hm hv (zx ha yl hs) J z he j) λ_ _ _ h=>zRp h
end
inductive Out where
 |nx (ρ:mB)|rt (d:D)|bk (ρ:mB)|ct (ρ:mB)
  |ro (s:Sl)
  |rm (d:D) (ρ:mB)
abbrev VB:=mB->Option Out
def mX(K:Fg)(G0 H0:Hp)(E:IQ):Out->Prop
 |.nx ρ=>∀σ G H,UD K G0 H0 G H ρ σ->E.nx σ H
 |.bk ρ=>∀σ G H,UD K G0 H0 G H ρ σ->E.bk σ H
 |.ct ρ=>∀σ G H,UD K G0 H0 G H ρ σ->E.ct σ H
 |.rt d=>∀v G H,Bs G0 H0 G H->Rep K G d v->E.rt v H
 |.ro s=>∀a G H,Bs G0 H0 G H->GN K G H s a->(∀c∈bF H s a,G c=none/\H0 c=none)->E.rt (.ref a) H
 |.rm d ρ=>∀v σ G H,UD K G0 H0 G H ρ σ->Rep K G d v->E.rt v H
def tS(K:Fg)(F:VB):TS:=λE σ H=>∃G0 H0 G ρ o,UD K G0 H0 G H ρ σ/\F ρ=some o/\mX K G0 H0 E o
abbrev SS(X:Cx)(s:Stmt)(F:VB):Prop:=PS X s<|tS X.K F
abbrev XI(X:Cx)(s:List Stmt)(F:VB):Prop:=IL X s<|tS X.K F
section
variable {X:Cx}{e a b:Expr}{es:List Expr}{f g:dC}{fl:pD}{p:kF}{pos:Pos}{F F':VB}{st:Stmt}{rest:List Stmt}
noncomputable def sq(F F':VB):VB:=λρ=>(F ρ).bind λo=>match o with
 |.nx ρ'=>F' ρ'
 |o=>some o
theorem z9:XI X [] (λρ=>some<|.nx ρ):=O4 zST λQ σ H=>by rintro⟨G0,H0,G,ρ,o,st,j,k⟩;cases j;exact k σ G H st
theorem zH(h1:SS X st F)(h2:XI X rest F'):XI X (st::rest) (sq F F'):=O4 (zKw h1 h2) λQ σ H=>by
 rintro⟨G0,H0,G,ρ,o,st,J,k⟩;obtain⟨z,I,j⟩:=aA.mp J;refine⟨G0,H0,G,ρ,z,st,I,?_⟩
 cases z with
 |nx ρ'=>exactλS G' H' CC=>⟨G0,H0,G',ρ',o,CC,j,k⟩
 |rt d=>cases j;exact k
 |ro d=>cases j;exact k
 |rm d ρ=>cases j;exact k
 |bk d=>cases j;exact k
 |ct d=>cases j;exact k
theorem zJ(h1:SS X st F):XI X [st] F:=zNE h1
theorem zVX(i:Nat)(h:XI X rest F):XI X rest (λρ=>F<|frz i ρ):=O4 h λQ σ H=>by
 rintro⟨G0,H0,G,ρ,o,st,j,k⟩;obtain⟨G',z,CC⟩:=st.frz i;exact⟨G0,H0,G',frz i ρ,o,CC,j,k⟩
theorem zSy:SS X (.Continue pos) (λρ=>some<|.ct ρ):=yN zJv λQ σ H=>by rintro⟨G0,H0,G,ρ,o,st,j,k⟩;cases j;exact k σ G H st
noncomputable def lF(f:dC):VB:=λρ=>(f ρ).map .rt
theorem zn(he:SE X e f):SS X (.Return (some e) pos) (lF f):=yN (VW he) λQ σ H=>by
 rintro⟨G0,H0,G,ρ,o,st,z,k⟩;obtain⟨d,j,rfl⟩:=bA.mp z;exact⟨G,ρ,d,st.bs.gh,st.er,j,λv G' H' t r=>k v G' H' (st.bs.step t) r⟩
theorem zIs(i:Nat)(he:PE X e (RF i)):SS X (.Return (some e) pos) (lF λρ=>EN ρ i):=yN (VW he) λQ σ H=>by
 rintro⟨G0,H0,G,ρ,o,st,I,k⟩;obtain⟨d,j,rfl⟩:=bA.mp I;rcases zNj j with e3|⟨xs,rfl,e3⟩
 .obtain⟨v,q,r⟩:=st.er.val i d e3;exact⟨v,q,k v G H st.bs r⟩
 .obtain⟨G',J,CC⟩:=st.frz i;have z:frz i ρ=ρ.set i (.v<|.lst xs):=by unfold frz;rw[e3]
  rw[z]at CC;obtain⟨v,q,r⟩:=CC.er.val i (.lst xs)<|lB (BA.mp e3).1;exact⟨v,q,k v G' H CC.bs r⟩
noncomputable def QF(c:kF)(F F':VB):VB:=λρ=>(c ρ).bind λb=>if b=true then F ρ else F' ρ
theorem yu(hc:SB X c p)(ha:XI X A F)(hb:XI X B F'):SS X (.If c A B pos) (QF p F F'):=yN (zUw hc ha hb) λQ σ H=>by
 rintro⟨G0,H0,G,ρ,o,st,I,k⟩;obtain⟨d,z,j⟩:=aA.mp I;refine⟨G,ρ,d,st.bs.gh,st.er,z,λG' H' t=>?_⟩
 cases d with
 |true=>rw[if_pos rfl]at j ⊢;exact⟨G0,H0,G',ρ,o,st.step t,j,k⟩
 |false=>rw[if_neg YA]at j ⊢;exact⟨G0,H0,G',ρ,o,st.step t,j,k⟩
noncomputable def qC(i:Nat)(f:dC):VB:=λρ=>(f ρ).map λd=>.nx<|ρ.set i<|.v d
noncomputable def iJ(i:Nat)(f:pD):VB:=λρ=>(f ρ).map λd=>.nx<|ρ.set i<|.l d
variable {i:Nat}{x:Str}{pos':Pos}
theorem za(i:Nat)(he:SE X e f)(I:X.N.Nodup)(hi:X.N[i]?=some x)(hx:Loc X.env.scope x)(hs:ZI X e (some<|.Name x pos') pos:=by rfl)
  (hf:JL X x:=by first|exact .inl rfl|exact .inr rfl|assumption):SS X (.Assign [.Name x pos'] e pos) (qC i f):=
 yN (LO I hi hx he hs hf) λQ σ H=>by
  rintro⟨G0,H0,G,ρ,o,st,z,k⟩;obtain⟨d,j,rfl⟩:=bA.mp z;exact⟨G,ρ,d,st.bs.gh,st.er,j,λv G' H' t r=>k _ G' H'<|(st.step t).setV r⟩
theorem qJ(i:Nat)(he:SF X e fl)(J:X.N.Nodup)(hi:X.N[i]?=some x)(hx:Loc X.env.scope x)(hs:ZI X e (some<|.Name x pos') pos:=by rfl)
  (hf:JL X x:=by first|exact .inl rfl|exact .inr rfl|assumption):SS X (.Assign [.Name x pos'] e pos) (iJ i fl):=
 yN (LO J hi hx he hs hf) λQ σ H=>by
  rintro⟨G0,H0,G,ρ,o,st,I,k⟩;obtain⟨d,j,rfl⟩:=bA.mp I;refine⟨G,ρ,d,st.bs.gh,st.er,j,λa vs G' H' t h1 h2 h3 r=>k _ G' H'<|st.setOwn t rfl h1 h2 (λxs z=>?_) λ_ z=>by cases z⟩;cases z;exact⟨vs,h3,r⟩
def tGt(K:Fg)(g:D->mB->Option mB):TG:=λv σ H Q=>∃G0 H0 G ρ d ρ',UD K G0 H0 G H ρ σ/\Rep K G d v/\g d ρ=some ρ'/\∀EC,UD K G0 H0 G H ρ' EC->Q EC H
def Ig(K:Fg)(g:List D->mB->Option mB):VT:=λvs σ H Q=>∃G0 H0 G ρ ds ρ',UD K G0 H0 G H ρ σ/\CA K G ds vs/\g ds ρ=some ρ'/\∀EC,UD K G0 H0 G H ρ' EC->Q EC H
abbrev SG(X:Cx)(e:Expr)(g:D->mB->Option mB):Prop:=PG X e<|tGt X.K g
abbrev G6(X:Cx)(e:List Expr)(g:List D->mB->Option mB):Prop:=RT X e<|Ig X.K g
theorem zVY(h:PG X e t)(w:∀v σ H Q,t' v σ H Q->t v σ H Q):PG X e t':=λpins s σ H v u Q I r q=>h pins s σ H v u Q I r<|w v σ H Q q
theorem zRq{X:Cx}{e:List Expr}{t t':VT}(h:RT X e t)(w:∀v σ H Q,t' v σ H Q->t v σ H Q):RT X e t':=λpins s σ H v u Q I r q=>h pins s σ H v u Q I r<|w v σ H Q q
noncomputable def gN(i:Nat):D->mB->Option mB:=λd ρ=>some<|ρ.set i<|.v d
theorem zR(i:Nat)(j:X.N.Nodup)(hi:X.N[i]?=some x)(hx:Loc X.env.scope x)(hf:JL X x:=by first|exact .inl rfl|exact .inr rfl|assumption):SG X (.Name x pos) (gN i):=
 zVY (zSU j hi hx hf) λv σ H Q=>by
  rintro⟨G0,H0,G,ρ,d,ρ',st,r,e,k⟩;cases e;exact k _<|st.setV r
def mG:List D->mB->Option mB:=λds ρ=>match ds with
 | []=>some ρ
 |_=>none
noncomputable def bE(g:D->mB->Option mB)(gs:List D->mB->Option mB):List D->mB->Option mB:=λds ρ=>match ds with
 | []=>none
 |d::r=>(g d ρ).bind λρ'=>gs r ρ'
theorem GP:G6 X [] mG:=zRq zSV λv σ H Q=>by
 rintro⟨G0,H0,G,ρ,ds,ρ',st,r,e,k⟩
 cases ds with
 |nil=>cases e;exact⟨yP.mp r,k σ st⟩
 |cons _ _=>cases e
theorem zh{gd:D->mB->Option mB}{j:List D->mB->Option mB}(h1:SG X e gd)(h2:G6 X es j)(hs:(assignEach (e::es) X.env).map (·.2)=assign e X.env::(assignEach es X.env).map (·.2):=by rfl):G6 X (e::es) (bE gd j):=
 zRq (zP2 h1 h2 hs) λvs σ H Q=>by
  rintro⟨G0,H0,G,ρ,ds,ρ',st,r,e,k⟩
  cases ds with
  |nil=>cases e
  |cons d ds=>
   obtain⟨v,J,rfl,O,rs⟩:=zX.mp r;obtain⟨ρ1,z,I⟩:=aA.mp e;exact⟨v,J,rfl,G0,H0,G,ρ,d,ρ1,st,O,z,λS CC=>⟨G0,H0,G,ρ1,ds,ρ',CC,rs,I,k⟩⟩
noncomputable def gT(n:Nat)(gs:List D->mB->Option mB):D->mB->Option mB:=λd ρ=>match d with
 |.tup ds=>if ds.length=n then gs ds ρ else none
 |_=>none
theorem KP{j:List D->mB->Option mB}(hc:X.calm=true)(h:G6 X es j)(I:(assignEach es X.env).length=n:=by rfl)(XJ:(assignEach es X.env).findIdx? (·.1)=none:=by rfl):SG X (.Tuple es k pos) (gT n j):=
 zVY (zUz hc h I XJ) λv σ H Q=>by
  rintro⟨G0,H0,G,ρ,d,ρ',st,r,e,k⟩
  cases d with
  |tup ds=>
   simp only[gT]at e;split at e
   .rename_i z;obtain⟨a,vs,rfl,q,rs⟩:=hV r;exact⟨a,vs,rfl,qY st.bs.gh q,by rw[<- rs.length];exact z,G0,H0,G,ρ,ds,ρ',st,rs,e,k⟩
   .cases e
  |_=>cases e
noncomputable def lX(f:dC)(g:D->mB->Option mB):VB:=λρ=>(f ρ).bind λd=>(g d ρ).map .nx
theorem Rh{gd:D->mB->Option mB}(he:SE X e f)(O:SG X tg gd)(hs:KJ [tg] e pos.line X.env=pure false:=by rfl)(S:JJ [tg] e X.env=pure none:=by rfl)(h1:(assignEach [tg] X.env).map (·.2)=[assign tg X.env]:=by rfl):SS X (.Assign [tg] e pos) (lX f gd):=
 yN (Qw he O hs S h1) λQ σ H=>by
  rintro⟨G0,H0,G,ρ,o,st,J,k⟩;obtain⟨d,z,I⟩:=aA.mp J;obtain⟨ρ',e3,rfl⟩:=bA.mp I;exact⟨G,ρ,d,st.bs.gh,st.er,z,λv G' H' t r=>⟨G0,H0,G',ρ,d,ρ',st.step t,r,e3,λj CC=>k j G' H' CC⟩⟩
structure VO(K:Fg)(G:Hp)(J:It)(ds:List D):Prop where
 go:∀i H,zd G H->i<ds.length->J.go i H
 stop:∀i H,zd G H->ds.length<=i->J.stop i H
 yld:∀i G1 H x H',zd G G1->zd G1 H->i<ds.length->J.yld i H x H'->∃G2,zb G1 H G2 H'/\∀d,ds[i]?=some d->Rep K G2 d x
def tI(K:Fg)(f:pD):TI:=λσ H R=>∃G ρ ds,zd G H/\Er K G H ρ σ/\f ρ=some ds/\∀J G' H',zb G H G' H'->VO K G' J ds->R J H'
abbrev SI(X:Cx)(tg iter:Expr)(f:pD):Prop:=PI X tg iter<|tI X.K f
theorem An(h:PI X tg e t)(w:∀σ H Q,t' σ H Q->t σ H Q):PI X tg e t':=λpins s σ H Q I q=>h pins s σ H Q I<|w σ H Q q
noncomputable def zf(g:D->mB->Option mB)(F:VB):List D->mB->Option Out
 | [],ρ=>some<|.nx ρ
 |d::ds,ρ=>(g d ρ).bind λρ1=>(F ρ1).bind λo=>match o with
  |.nx ρ'=>zf g F ds ρ'
  |.ct ρ'=>zf g F ds ρ'
  |.bk ρ'=>some<|.nx ρ'
  |.rt d=>some<|.rt d
  |.ro s=>some<|.ro s
  |.rm d ρ=>some<|.rm d ρ
noncomputable def zl(f:pD)(g:D->mB->Option mB)(F:VB):VB:=λρ=>(f ρ).bind λds=>zf g F ds ρ
def qZ(H:Hp)(ρ:mB)(σ:L2.St):Hp:=λb=>@ite _ (∃(i:Nat)(s:Sl)(a:Addr),ρ[i]?=some s/\s.isOwn=true/\σ[i]?=some (some<|.ref a)/\b∈bF H s a) (Classical.propDecidable _) none (H b)
theorem wq:zd (qZ H ρ σ) H:=λb o e=>by
 unfold qZ at e;split at e
 .cases e
 .exact e
theorem Ll{ρ:mB}{σ:L2.St}{b a:Addr}{i:Nat}{s:Sl}(h:ρ[i]?=some s)(o:s.isOwn=true)(q:σ[i]?=some (some<|.ref a))(m:b∈bF H s a):qZ H ρ σ b=none:=by
 unfold qZ;rw[if_pos ⟨i,s,a,h,o,q,m⟩]
theorem UD.base{K:Fg}{G0 H0 G H:Hp}{ρ:mB}{σ:L2.St}(s:UD K G0 H0 G H ρ σ):UD K G (qZ H ρ σ) G H ρ σ/\zd G0 G/\zd H0 (qZ H ρ σ):=by
 refine⟨⟨s.er,⟨s.bs.gh,zd.refl _,wq,λb o e n=>by rw[e]at n;cases n⟩,λi u a h o q c m=>Ll h o q m⟩,s.bs.gg,λb o e=>?_⟩;unfold qZ;split
 .rename_i h;obtain⟨i,u,a,h1,h2,h3,j⟩:=h;rw[s.ows i u a h1 h2 h3 b j]at e;cases e
 .exact s.bs.hh b o e
theorem Bs.back(f:∀b o,G1 b=some o->G0 b=none->H0 b=none)(g:zd G0 G1)(h:zd H0 H1)(b:Bs G1 H1 G H):Bs G0 H0 G H:=
 ⟨b.gh,g.trans b.gg,h.trans b.hh,λc o e n=>by
  cases q:G1 c with
  |some o'=>exact f c o' q n
  |none=>exact h.free<|b.fr c o e q⟩
theorem UD.back{K:Fg}{G0 H0 j H1 G H:Hp}{ρ:mB}{σ:L2.St}(f:∀b o,j b=some o->G0 b=none->H0 b=none)(g:zd G0 j)(h:zd H0 H1)(s:UD K j H1 G H ρ σ):UD K G0 H0 G H ρ σ:=
 ⟨s.er,s.bs.back f g h,λi u a q o p c m=>h.free<|s.ows i u a q o p c m⟩
theorem mX.back{K:Fg}{G0 H0 j H1:Hp}{E:IQ}{o:Out}(f:∀b o,j b=some o->G0 b=none->H0 b=none)(g:zd G0 j)(h:zd H0 H1)(k:mX K G0 H0 E o):mX K j H1 E o:=by
 cases o with
 |nx ρ=>exactλσ G H s=>k σ G H<|s.back f g h
 |bk ρ=>exactλσ G H s=>k σ G H<|s.back f g h
 |ct ρ=>exactλσ G H s=>k σ G H<|s.back f g h
 |rt d=>exactλv G H b r=>k v G H (b.back f g h) r
 |ro s=>exactλa G H b r n=>k a G H (b.back f g h) r λc m=>⟨(n c m).1,h.free (n c m).2⟩
 |rm d ρ=>exactλv σ G H s r=>k v σ G H (s.back f g h) r
theorem qm{body:List Stmt}{gd:D->mB->Option mB}(hp:PassesOwn (model X.prog X.w) X.A X.env X.xe)(hc:X.calm=true)(hi:SI X tg iter fl)(hg:SG X tg gd)(hb:XI X body F)(hs:∀x,jC iter X.env x=pure x:=by intro _;rfl):SS X (.For tg iter body [] pos) (zl fl gd F):=
 yN (zU2 hp hc hi hg hb hs) λE σ H=>by
  rintro⟨G0,H0,G,ρ,o,st,ef,k⟩;obtain⟨ds,e1,e2⟩:=aA.mp ef;refine⟨G,ρ,ds,st.bs.gh,st.er,e1,λJ z H1 t1 it=>?_⟩;obtain⟨TN,sg,sh⟩:=(st.step t1).base;have k1:=k.back (st.step t1).bs.fr sg sh;generalize hH:qZ H1 ρ σ=O at TN k1 sh;refine⟨λi m S H'=>m=ds.length-i/\i<=ds.length/\∃G' ρ',UD X.K z O G' H' ρ' S/\zf gd F (ds.drop i) ρ'=some o,⟨ds.length,by simp,nC _,z,ρ,TN,by simpa using e2⟩,?_⟩;rintro i m PV H2 ⟨rfl,hi,G2,CT,lI,U⟩;by_cases HI:i<ds.length
  .right
   have ed:ds.drop i=ds[i]::ds.drop (i+1):=kE HI;rw[ed]at U;obtain⟨I,e3,e4⟩:=aA.mp U;obtain⟨o3,e5,j⟩:=aA.mp e4;refine⟨it.go i H2 (lI.bs.gg.trans lI.bs.gh) HI,λS H'=>∃G' ρ',UD X.K z O G' H' ρ' S/\zf gd F (ds.drop<|i+1) ρ'=some o,λS H' h=>⟨ds.length-(i+1),by omega,rfl,HI,h⟩,λx H' y=>?_⟩;obtain⟨G3,t3,r3⟩:=it.yld i G2 H2 x H' lI.bs.gg lI.bs.gh HI y;refine⟨z,O,G3,CT,ds[i],I,lI.step t3,r3 _ (by simp[HI]),e3,λσ4 Hw=>⟨z,O,G3,I,o3,Hw,e5,?_⟩⟩
   cases o3 with
   |nx ρ'=>exactλLQ Y H5 Z=>⟨Y,ρ',Z,j⟩
   |ct ρ'=>exactλLQ Y H5 Z=>⟨Y,ρ',Z,j⟩
   |bk ρ'=>cases j;exact k1
   |rt d=>cases j;exact k1
   |ro d=>cases j;exact k1
   |rm d ρ=>cases j;exact k1
  .left
   have e:i=ds.length:=by omega
   subst e;rw[CJ]at U;cases U;exact⟨it.stop _ H2 (lI.bs.gg.trans lI.bs.gh)<|wA _,k1 PV G2 H2 lI⟩
noncomputable def wN(c:kF)(F:VB):Nat->mB->Option Out
 |0,_=>none
 |n+1,ρ=>(c ρ).bind λb=>if b=true then (F ρ).bind λo=>match o with
   |.nx ρ'=>wN c F n ρ'
   |.ct ρ'=>wN c F n ρ'
   |.bk ρ'=>some<|.nx ρ'
   |.rt d=>some<|.rt d
   |.ro s=>some<|.ro s
   |.rm d ρ=>some<|.rm d ρ
  else some (.nx ρ)
theorem Oi(n:Nat)(hp:PassesOwn (model X.prog X.w) X.A X.env X.xe)(hc:SB X c p)(hb:XI X body F):SS X (.While c body [] pos) (λρ=>wN p F n ρ):=
 yN (zKx hp hc hb) λE σ H=>by
  rintro⟨G0,H0,G,ρ,o,st,ef,k⟩;refine⟨λm z H'=>∃G' ρ',UD X.K G0 H0 G' H' ρ' z/\wN p F m ρ'=some o,⟨n,G,ρ,st,ef⟩,?_⟩;rintro m PV H2 ⟨G2,S,lI,Y⟩
  cases m with
  |zero=>cases Y
  |succ m=>
   obtain⟨b,e1,I⟩:=aA.mp Y;refine⟨G2,S,b,lI.bs.gh,lI.er,e1,λU H3 t3=>?_⟩
   cases b with
   |false=>
    rw[if_neg YA]at I ⊢;cases I
    exact k PV U H3<|lI.step t3
   |true=>
    rw[if_pos rfl]at I ⊢;obtain⟨Z,e5,j⟩:=aA.mp I;refine⟨λz H'=>∃G' ρ',UD X.K G0 H0 G' H' ρ' z/\wN p F m ρ'=some o,λz H' h=>⟨m,WG _,h⟩,G0,H0,U,S,Z,lI.step t3,e5,?_⟩
    cases Z with
    |nx ρ'=>exactλLQ J H5 O=>⟨J,ρ',O,j⟩
    |ct ρ'=>exactλLQ J H5 O=>⟨J,ρ',O,j⟩
    |bk ρ'=>cases j;exact k
    |rt d=>cases j;exact k
    |ro d=>cases j;exact k
    |rm d ρ=>cases j;exact k
theorem zS0{K:Fg}{G:Hp}{a:Addr}{vs:List V}{ds:List D}(h:GF K G a vs)(r:CA K G ds vs):VO K G (Ci K a) ds where
 go:=λi H s hi=>⟨vs,vs[i]'(by rw[<- r.length];exact hi),s.seq h,by simp[<- r.length,hi]⟩
 stop:=λi H s hi=>⟨vs,s.seq h,by rw[<- r.length];exact hi⟩
 yld:=λi j H x H' s1 s hi y=>by
  obtain⟨rfl,y⟩:=y;refine⟨j,zb.refl s,λd e=>?_⟩;obtain⟨v,z,I⟩:=r.get e;have:=y vs<|(s1.trans s).seq h;rw[z]at this;cases this;exact Rep.mono s1 _ _ I
theorem zVZ{K:Fg}{G:Hp}{a:Addr}{vs:List V}{ds:List D}(h:GI K G a vs)(r:CA K G ds vs):VO K G (Cj K a) ds where
 go:=λi H s hi=>⟨vs,vs[i]'(by rw[<- r.length];exact hi),qY s h,by simp[<- r.length,hi]⟩
 stop:=λi H s hi=>⟨vs,qY s h,by rw[<- r.length];exact hi⟩
 yld:=λi j H x H' s1 s hi y=>by
  obtain⟨rfl,y⟩:=y;refine⟨j,zb.refl s,λd e=>?_⟩;obtain⟨v,z,I⟩:=r.get e;have:=y vs<|qY (s1.trans s) h;rw[z]at this;cases this;exact Rep.mono s1 _ _ I
noncomputable def rng(lo:Int)(n:Nat):List D:=(JA n).map λ(i:Nat)=>D.int<|lo+(i:Int)
theorem zRr{K:Fg}{G:Hp}(lo:Int)(n:Nat):VO K G (L2.RX lo n) (rng lo n) where
 go:=λi H s hi=>by show i<n;simpa[rng] using hi
 stop:=λi H s hi=>by show n<=i;simpa[rng] using hi
 yld:=λi j H x H' s1 s hi y=>by
  obtain⟨rfl,rfl⟩:=y;refine⟨j,zb.refl s,λd e=>?_⟩;simp only[rng,gB,kA,wG]at e hi;rw[List.getElem?_range hi]at e;cases e;exact yE.mpr rfl
def Vs:D->Option (List D)
 |.lst xs=>some xs
 |_=>none
def Vt:D->Option (List D)
 |.tup xs=>some xs
 |_=>none
noncomputable def iL(f:dC):pD:=λρ=>(f ρ).bind Vs
noncomputable def iT(f:dC):pD:=λρ=>(f ρ).bind Vt
variable {tg:Expr}
theorem iV(h:SE X e f):SI X tg e (iL f):=An (zSW h) λσ H R=>by
 rintro⟨G,ρ,ds,s,er,I,k⟩;obtain⟨d,z,j⟩:=aA.mp I
 cases d with
 |lst xs=>
  cases j;refine⟨G,ρ,_,s,er,z,λv G' H' t r=>?_⟩;obtain⟨a,vs,rfl,q,rs⟩:=CO.mp r
  exact⟨a,rfl,⟨vs,t.s.seq q⟩,k _ G' H' t<|zS0 q rs⟩
 |_=>cases j
theorem xN(h:SE X e f):SI X tg e (iT f):=An (zU1 h) λσ H R=>by
 rintro⟨G,ρ,ds,s,er,I,k⟩;obtain⟨d,z,j⟩:=aA.mp I
 cases d with
 |tup xs=>
  cases j;refine⟨G,ρ,_,s,er,z,λv G' H' t r=>?_⟩;obtain⟨a,vs,rfl,q,rs⟩:=hV r
  exact⟨a,rfl,⟨vs,qY t.s q⟩,k _ G' H' t<|zVZ q rs⟩
 |_=>cases j
def inR(j:Int):Bool:=decide (-(2 ^ 62)<=j)&&decide (j<2 ^ 62)
theorem QW(h:inR j=true): -(2 ^ 62)<=j/\j<2 ^ 62:=by simpa[inR] using h
noncomputable def QK(f:pD):pD:=λρ=>(f ρ).bind λds=>match ds with
 | [.int j]=>if inR j=true then some (rng 0 j.toNat) else none
 |_=>none
def Xg(f:pD):pD:=λρ=>(f ρ).bind λds=>match ds with
 | [.int i,.int j]=>if (inR i&&inR j)=true then some (rng i (j-i).toNat) else none
 |_=>none
theorem yv{p pos:Pos}(S:Gl X "range")(hm:X.mg "range" = none)(ha:SA X [a] fl)(hs:starEach [a] X.env=[(false,eval a X.env)]:=by rfl):SI X tg (.Call (.Name "range" p) [a] [] pos) (QK fl):=
 An (zNH S hm ha.pa hs) λσ H R=>by
  rintro⟨G,ρ,ds,s,er,O,k⟩;obtain⟨xs,J,z⟩:=aA.mp O;split at z
  .rename_i j;split at z
   .rename_i I;cases z;refine⟨G,ρ,_,s,er,J,λvs G' H' t r=>?_⟩;obtain⟨v,U,rfl,r1,r2⟩:=zX.mp r;have:=yP.mp r2;subst this;exact⟨j,by rw[yE.mp r1],(QW I).1,(QW I).2,k _ G' H' t<|zRr _ _⟩
   .cases z
  .cases z
theorem zNn{p pos:Pos}(U:Gl X "range")(hm:X.mg "range" = none)(ha:SA X [a,b] fl)(hs:starEach [a,b] X.env=[(false,eval a X.env),(false,eval b X.env)]:=by rfl)(J:starEach [b] X.env=[(false,eval b X.env)]:=by rfl):SI X tg (.Call (.Name "range" p) [a,b] [] pos) (Xg fl):=
 An (zNI U hm ha.pa hs J) λσ H R=>by
  rintro⟨G,ρ,ds,s,er,S,k⟩;obtain⟨xs,O,z⟩:=aA.mp S;split at z
  .rename_i i j;split at z
   .rename_i I;cases z;rw[LB]at I;refine⟨G,ρ,_,s,er,O,λvs G' H' t r=>?_⟩;obtain⟨v,r',rfl,r1,r2⟩:=zX.mp r;obtain⟨v',Y,rfl,r3,Z⟩:=zX.mp r2;have:=yP.mp Z;subst this;exact⟨i,j,by rw[yE.mp r1,yE.mp r3],⟨(QW I.1).1,(QW I.1).2,(QW I.2).1,(QW I.2).2⟩,k _ G' H' t<|zRr _ _⟩
   .cases z
  .cases z
noncomputable def gL(ρ:mB)(i:Nat):Option (List D):=match ρ[i]? with
 |some (.l xs)=>some xs
 |_=>none
theorem cX{ρ:mB}(h:gL ρ i=some xs):ρ[i]?=some (.l xs):=by
 unfold gL at h;split at h
 .cases h;assumption
 .cases h
end
noncomputable def JI(N:List Str)(F:VB)(ds:List D):Option D:=(F<|ds.map Sl.v++jA (N.length-ds.length) .un).bind λo=>match o with
 |.rt d=>some d
 |.nx _=>some .non
 |_=>none
theorem Oj{K:Fg}{G H:Hp}{N:List Str}{ds:List D}{vs:List V}(r:CA K G ds vs):Er K G H (ds.map Sl.v++jA (N.length-ds.length) .un) (L2.wL N vs):=by
 have O:=r.length
 have low:∀{i:Nat}{s:Sl},(ds.map Sl.v++jA (N.length-ds.length) .un)[i]?=some s->s=.un\/∃d,s=.v d/\ds[i]?=some d:=λ{i s} h=>by
  by_cases hi:i<ds.length
  .rw[eB (by simpa using hi),gB]at h
   cases q:ds[i]? with
   |none=>rw[q]at h;cases h
   |some d=>rw[q]at h;cases h;exact .inr ⟨d,rfl,rfl⟩
  .rw[oB (by simpa using hi),QB]at h;split at h<;>cases h;exact .inl rfl
 refine⟨by simp[L2.wL,O],λi d h=>?_,λi u h o=>?_,λi j s t a b ne h1 S h2 o2 U Y=>?_⟩
 .rcases low h with z|⟨d',z,q⟩
  .cases z
  .cases z;obtain⟨v,I,J⟩:=r.get q;have hi:i<vs.length:=(BA.mp I).1;refine⟨v,?_,J⟩;unfold L2.wL;rw[eB (by simpa using hi),gB,I];rfl
 .rcases low h with z|⟨d',z,q⟩<;>subst z<;>cases o
 .rcases low h1 with z|⟨d',z,q⟩<;>subst z<;>cases S
theorem zVa{P:Program}{w:World}{K:Fg}{mg:NE}{base:Heap}{x qual:Str}{st:Stmt}{fa:Addr}{fd:FuncData}{N ps:List Str}{k:Nat}{F:VB}{f:List D->Option D}
  (O:rM K x qual st fa fd) (S:zT N ps (zI st))
  (U:∀(z:Value)(A:Around)(outer:List Env)(s:Shared)(H:Hp),IF k (A.deeper<|envOfC qual (zI st) s.heap.objs.size fa z)->XI (xK CH P w K mg base N qual (zI st) fa z A outer s H E0).nox (yC st) F)
  (hf:∀ds d,ds.length=ps.length->f ds=some d->JI N F ds=some d):bI P w K mg base CH (k+1) fa fd ps (MU K f ps.length):=by
 refine O.ok S (λvs H Q E h=>?_) (λz A outer s H vs Q E hr h=>?_)
 .obtain⟨G,ds,d,_,r,I,_⟩:=h;rw[<- r.length,I]
 .obtain⟨G,ds,d,sm,r,I,Z,J⟩:=h;have h1:XI (xK CH P w K mg base N qual (zI st) fa z A outer s H E).nox (yC st) F:=U z A outer s H hr;refine⟨_,h1,?_⟩;obtain⟨o,Y,j⟩:=aA.mp<|hf ds d I Z;have er:=Oj (N:=N) (H:=H) r;refine⟨G,H,G,_,o,⟨er,⟨sm,zd.refl _,zd.refl _,λb o e n=>by rw[e]at n;cases n⟩,λi u a h1 h2 h3=>?_⟩,Y,?_⟩
  .obtain⟨a',u',e3,e4,e5⟩:=er.ownAt h1 h2;exfalso;by_cases hi:i<ds.length
   .rw[eB (by simpa using hi),gB]at h1
    cases q:ds[i]? with
    |none=>rw[q]at h1;cases h1
    |some d=>rw[q]at h1;cases h1;cases h2
   .rw[oB (by simpa using hi),QB]at h1;split at h1<;>cases h1;cases h2
  .cases o with
   |rt d'=>
    cases j
    exactλv G' H' b r'=>J v G' H' ⟨b.gg,b.hh,b.gh,b.fr⟩ r'
   |nx ρ=>
    cases j
    exactλEC G' H' CC=>J .non G' H' ⟨CC.bs.gg,CC.bs.hh,CC.bs.gh,CC.bs.fr⟩<|BO.mpr rfl
   |bk ρ=>cases j
   |ct ρ=>cases j
   |ro ρ=>cases j
   |rm d ρ=>cases j
end RD
namespace RD
open PySem PySem.Spec PyProof.Rows L2 SeqAt
mutual
def LD:D->D->Bool
 |.non,.non=>true
 |.bl a,.bl b=>a==b
 |.bl a,.int i=>(if a then 1 else 0)==i
 |.int i,.bl a=>i==(if a then 1 else 0)
 |.int i,.int j=>i==j
 |.str x,.str y=>x==y
 |.tup xs,.tup ys=>XF xs ys
 |.lst xs,.lst ys=>XF xs ys
 |_,_=>false
def XF:List D->List D->Bool
 | [],[]=>true
 |x::xs,y::ys=>LD x y&&XF xs ys
 |_,_=>false
end
mutual
def QH:D->Nat
 |.tup xs=>nK xs+1
 |.lst xs=>nK xs+1
 |_=>0
def nK:List D->Nat
 | []=>0
 |x::xs=>max (QH x)<|nK xs
end
mutual
theorem Ol:∀d:D,LD d d=true
 |.non=>by simp[LD]
 |.bl _=>by simp[LD]
 |.int _=>by simp[LD]
 |.str _=>by simp[LD]
 |.tup xs=>by simp only[LD];exact LJ xs
 |.lst xs=>by simp only[LD];exact LJ xs
theorem LJ:∀d:List D,XF d d=true
 | []=>by simp[XF]
 |x::xs=>by simp only[XF,Ol x,LJ xs];rfl
end
theorem S3:∀{xs:List D}{i:Nat}{d:D},xs[i]?=some d->QH d<=nK xs
 | [],_,_,h=>by simp at h
 |x::xs,0,d,h=>by simp at h;subst h;simp only[nK];omega
 |x::xs,i+1,d,h=>by
  have:=S3 (xs:=xs) (i:=i) (by simpa using h);simp only[nK];omega
noncomputable def sO(xs ys:List D)(j:Nat):Bool:=match xs[j]?,ys[j]? with
 |some x,some y=>LD x y
 |_,_=>true
theorem Ph:∀xs ys:List D,((JA<|min xs.length ys.length).all (sO xs ys)&&xs.length==ys.length)=XF xs ys
 | [],[]=>by simp[XF]
 | [],y::ys=>by simp[XF]
 |x::xs,[]=>by simp[XF]
 |x::xs,y::ys=>by
  have ih:=Ph xs ys;have j:min (x::xs).length (y::ys).length=min xs.length ys.length+1:=by simp only[iA];omega
  have z:((JA<|min xs.length ys.length).map Nat.succ).all (sO (x::xs) (y::ys))=(JA<|min xs.length ys.length).all (sO xs ys):=by
   rw[BX]
   congr 1
  rw[j,IM,List.all_cons,z];have e3:sO (x::xs) (y::ys) 0=LD x y:=by simp[sO]
  have I:((x::xs).length==(y::ys).length)=(xs.length==ys.length):=by
   simp only[iA];rw[JF];simp
  rw[e3,I,Bool.and_assoc,ih];simp only[XF]
theorem zQJ(xs ys:List D)(h:xs.length=ys.length):(JA xs.length).all (sO xs ys)=XF xs ys:=by
 rw[<- Ph xs ys,h,Nat.min_self];simp
theorem zNo:∀xs ys:List D,xs.length≠ys.length->XF xs ys=false
 | [],[],h=>absurd rfl h
 | [],y::ys,h=>by simp[XF]
 |x::xs,[],h=>by simp[XF]
 |x::xs,y::ys,h=>by
  simp only[XF,zNo xs ys (λz=>h<|by simp[z]),LH]
section
variable {X:Cx}{pins:oE}{σ:L2.St}{G H:Hp}{s:Shared}
theorem zLA(I:Inv X pins σ H s)(h1:GI X.K H a xs)(h2:GF X.K H a ys):False:=by
 obtain⟨_,_,⟨o,e,hc,_⟩,_⟩:=I.tuple h1;obtain⟨_,_,⟨o',z,e',j,_⟩,_⟩:=I.list h2;rw[e]at e';cases e';rw[hc]at j;exact absurd j (by decide +kernel)
mutual
theorem Rep.inj(I:Inv X pins σ H s)(sm:zd G H):∀(d d':D)(v:V),Rep X.K G d v->Rep X.K G d' v->d=d'
 |.non,d',v,h,h'=>by
  have e:=BO.mp h;subst e
  cases d'<;>simp_all [Rep]
 |.bl b,d',v,h,h'=>by
  have e:=yZ.mp h;subst e
  cases d'<;>simp_all [Rep]
 |.int b,d',v,h,h'=>by
  have e:=yE.mp h;subst e
  cases d'<;>simp_all [Rep]
 |.str b,d',v,h,h'=>by
  have e:=FP.mp h;subst e
  cases d'<;>simp_all [Rep]
 |.tup ds,d',v,h,h'=>by
  obtain⟨a,vs,rfl,q,r⟩:=hV h
  cases d' with
  |tup j=>
   obtain⟨J,jH,e,q',z⟩:=hV h';cases e;have O:=I.tuple_inj (qY sm q)<|qY sm q';subst O
   rw[CA.inj I sm ds j vs r z]
  |lst j=>
   obtain⟨J,jH,e,q',z⟩:=CO.mp h';cases e
   exact(zLA I (qY sm q)<|sm.seq q').elim
  |_=>simp[Rep]at h'
 |.lst ds,d',v,h,h'=>by
  obtain⟨a,vs,rfl,q,r⟩:=CO.mp h
  cases d' with
  |lst j=>
   obtain⟨J,jH,e,q',z⟩:=CO.mp h';cases e;have O:=I.list_inj (sm.seq q)<|sm.seq q';subst O
   rw[CA.inj I sm ds j vs r z]
  |tup j=>
   obtain⟨J,jH,e,q',z⟩:=hV h';cases e
   exact(zLA I (qY sm q')<|sm.seq q).elim
  |_=>simp[Rep]at h'
theorem CA.inj(I:Inv X pins σ H s)(sm:zd G H):∀(d d':List D)(v:List V),CA X.K G d v->CA X.K G d' v->d=d'
 |[],d',v,h,h'=>by
  have e:=yP.mp h;subst e
  cases d' with
  |nil=>rfl
  |cons _ _=>obtain⟨_,_,e,_⟩:=zX.mp h';cases e
 |d::ds,d',v,h,h'=>by
  obtain⟨x,r,rfl,a,b⟩:=zX.mp h
  cases d' with
  |nil=>cases yP.mp h'
  |cons d1 j=>
   obtain⟨O,J,e,z,b'⟩:=zX.mp h';cases e;rw[Rep.inj I sm d d1 x a z,CA.inj I sm ds j r b b']
end
theorem X8{xs:List V}{us:List Value}{i:Nat}{u:Value}(r:yO xs us)(e:us[i]?=some u):∃x,xs[i]?=some x/\yk x u:=by
 have z:i<xs.length:=by rw[r.length];exact(BA.mp e).1
 obtain⟨u',j,q⟩:=r.get (i:=i) (x:=xs[i]) (by simp[z]);rw[e]at j;cases j;exact⟨xs[i],by simp[z],q⟩
theorem zLB{xs ys:List D}{vs ws:List V}{its z:List Value}(r1:CA X.K G xs vs)(U:yO vs its)(r2:CA X.K G ys ws)(Y:yO ws z){j:Nat}(h1:j<its.toArray.size)(h2:j<z.toArray.size):
  ∃x y v w,xs[j]?=some x/\ys[j]?=some y/\Rep X.K G x v/\Rep X.K G y w/\yk v its.toArray[j]/\yk w z.toArray[j]:=by
 obtain⟨v,I,p1⟩:=X8 (i:=j) (u:=its.toArray[j]) U (by simp at h1|-);obtain⟨w,J,p2⟩:=X8 (i:=j) (u:=z.toArray[j]) Y (by simp at h2|-);obtain⟨x,e3,p3⟩:=r1.got I;obtain⟨y,O,S⟩:=r2.got J;exact⟨x,y,v,w,e3,O,p3,S,p1,p2⟩
theorem Mz(A:Around):A.in1.units=A.units+1:=rfl
theorem Ri(I:Inv X pins σ H s)(sm:zd G H):∀(n:Nat)(A:Around)(x y:D)(v w:V)(u1 u2:Value),min (QH x) (QH y)<=n->A.units+n<cLine->wH X.K G H x v->wH X.K G H y w->yk v u1->yk w u2 ->
  RcAt A s u1 u2 (LD x y)/\RcNeAt A s u1 u2 (!LD x y)/\(Rep X.K G x v->Rep X.K G y w->EqAt A s u1 u2 (LD x y)):=by
 intro n
 induction n with
 |zero=>?_
 |succ n ih=>?_
 all_goals
  intro A x y v w u1 u2 hd hu rx U Z O;have J:A.units<cLine:=by omega
  cases x with
  |non=>
   rw[rx.non]at Z;cases Z
   cases y with
   |non=>rw[U.non]at O;cases O;exact⟨RcAt.none_none,RcNeAt.none_none,λ_ _=>EqAt.same _⟩
   |bl b=>rw[U.bl]at O;cases O;exact⟨RcAt.none_bool b,RcNeAt.none_bool b,λ_ _=>EqAt.none_bool b⟩
   |int b=>rw[U.int]at O;obtain⟨t,rfl⟩:=O;exact⟨RcAt.none_int b t,RcNeAt.none_int b t,λ_ _=>EqAt.none_int b t⟩
   |str b=>rw[U.str]at O;obtain⟨t,rfl⟩:=O;exact⟨RcAt.none_str b t,RcNeAt.none_str b t,λ_ _=>EqAt.none_str b t⟩
   |tup ys=>obtain⟨a,vs,rfl,q,r⟩:=U.tup sm;cases O;obtain⟨its,_,p,_⟩:=I.tuple q;exact⟨RcAt.none_tuple p J,RcNeAt.none_tuple p J,λ_ _=>EqAt.none_tuple p J⟩
   |lst ys=>obtain⟨a,vs,rfl,q,r⟩:=U.list sm;cases O;obtain⟨its,_,p,_⟩:=I.list q;exact⟨RcAt.none_list p.isList J,RcNeAt.none_list p.isList J,λ_ _=>EqAt.none_list p.isList J⟩
  |bl c=>
   rw[rx.bl]at Z;cases Z
   cases y with
   |non=>rw[U.non]at O;cases O;exact⟨RcAt.bool_none c,RcNeAt.bool_none c,λ_ _=>EqAt.bool_none c⟩
   |bl b=>rw[U.bl]at O;cases O;exact⟨RcAt.bool_bool c b,RcNeAt.bool_bool c b,λ_ _=>EqAt.bool_bool c b⟩
   |int b=>rw[U.int]at O;obtain⟨t,rfl⟩:=O;exact⟨RcAt.bool_int c b t,RcNeAt.bool_int c b t,λ_ _=>EqAt.bool_int c b t⟩
   |str b=>rw[U.str]at O;obtain⟨t,rfl⟩:=O;exact⟨RcAt.bool_str c b t,RcNeAt.bool_str c b t,λ_ _=>EqAt.bool_str c b t⟩
   |tup ys=>obtain⟨a,vs,rfl,q,r⟩:=U.tup sm;cases O;obtain⟨its,_,p,_⟩:=I.tuple q;exact⟨RcAt.bool_tuple c p J,RcNeAt.bool_tuple c p J,λ_ _=>EqAt.bool_tuple c p J⟩
   |lst ys=>obtain⟨a,vs,rfl,q,r⟩:=U.list sm;cases O;obtain⟨its,_,p,_⟩:=I.list q;exact⟨RcAt.bool_list c p.isList J,RcNeAt.bool_list c p.isList J,λ_ _=>EqAt.bool_list c p.isList J⟩
  |int c=>
   rw[rx.int]at Z;obtain⟨t1,rfl⟩:=Z
   cases y with
   |non=>rw[U.non]at O;cases O;exact⟨RcAt.int_none c t1,RcNeAt.int_none c t1,λ_ _=>EqAt.int_none c t1⟩
   |bl b=>rw[U.bl]at O;cases O;exact⟨RcAt.int_bool c t1 b,RcNeAt.int_bool c t1 b,λ_ _=>EqAt.int_bool c t1 b⟩
   |int b=>rw[U.int]at O;obtain⟨t,rfl⟩:=O;exact⟨RcAt.int_int c t1 b t,RcNeAt.int_int c t1 b t,λ_ _=>EqAt.int_int c t1 b t⟩
   |str b=>rw[U.str]at O;obtain⟨t,rfl⟩:=O;exact⟨RcAt.int_str c t1 b t,RcNeAt.int_str c t1 b t,λ_ _=>EqAt.int_str c t1 b t⟩
   |tup ys=>obtain⟨a,vs,rfl,q,r⟩:=U.tup sm;cases O;obtain⟨its,_,p,_⟩:=I.tuple q;exact⟨RcAt.int_tuple c t1 p J,RcNeAt.int_tuple c t1 p J,λ_ _=>EqAt.int_tuple c t1 p J⟩
   |lst ys=>obtain⟨a,vs,rfl,q,r⟩:=U.list sm;cases O;obtain⟨its,_,p,_⟩:=I.list q;exact⟨RcAt.int_list c t1 p.isList J,RcNeAt.int_list c t1 p.isList J,λ_ _=>EqAt.int_list c t1 p.isList J⟩
  |str c=>
   rw[rx.str]at Z;obtain⟨t1,rfl⟩:=Z
   cases y with
   |non=>rw[U.non]at O;cases O;exact⟨RcAt.str_none c t1,RcNeAt.str_none c t1,λ_ _=>EqAt.str_none c t1⟩
   |bl b=>rw[U.bl]at O;cases O;exact⟨RcAt.str_bool c t1 b,RcNeAt.str_bool c t1 b,λ_ _=>EqAt.str_bool c t1 b⟩
   |int b=>rw[U.int]at O;obtain⟨t,rfl⟩:=O;exact⟨RcAt.str_int c t1 b t,RcNeAt.str_int c t1 b t,λ_ _=>EqAt.str_int c t1 b t⟩
   |str b=>rw[U.str]at O;obtain⟨t,rfl⟩:=O;exact⟨RcAt.str_str c t1 b t,RcNeAt.str_str c t1 b t,λ_ _=>EqAt.str_str c t1 b t⟩
   |tup ys=>obtain⟨a,vs,rfl,q,r⟩:=U.tup sm;cases O;obtain⟨its,_,p,_⟩:=I.tuple q;exact⟨RcAt.str_tuple c t1 p J,RcNeAt.str_tuple c t1 p J,λ_ _=>EqAt.str_tuple c t1 p J⟩
   |lst ys=>obtain⟨a,vs,rfl,q,r⟩:=U.list sm;cases O;obtain⟨its,_,p,_⟩:=I.list q;exact⟨RcAt.str_list c t1 p.isList J,RcNeAt.str_list c t1 p.isList J,λ_ _=>EqAt.str_list c t1 p.isList J⟩
  |tup xs=>
   obtain⟨a1,rK,rfl,Hf,YZ⟩:=rx.tup sm;cases Z;obtain⟨Y,j2,p1,_⟩:=I.tuple Hf
   cases y with
   |non=>rw[U.non]at O;cases O;exact⟨RcAt.tuple_none p1 J,RcNeAt.tuple_none p1 J,λ_ _=>EqAt.tuple_none p1 J⟩
   |bl b=>rw[U.bl]at O;cases O;exact⟨RcAt.tuple_bool b p1 J,RcNeAt.tuple_bool b p1 J,λ_ _=>EqAt.tuple_bool b p1 J⟩
   |int b=>rw[U.int]at O;obtain⟨t,rfl⟩:=O;exact⟨RcAt.tuple_int b t p1 J,RcNeAt.tuple_int b t p1 J,λ_ _=>EqAt.tuple_int b t p1 J⟩
   |str b=>rw[U.str]at O;obtain⟨t,rfl⟩:=O;exact⟨RcAt.tuple_str b t p1 J,RcNeAt.tuple_str b t p1 J,λ_ _=>EqAt.tuple_str b t p1 J⟩
   |lst ys=>obtain⟨a,vs,rfl,q,r⟩:=U.list sm;cases O;obtain⟨its,_,p,_⟩:=I.list q;exact⟨RcAt.tuple_list p1 p.isList J,RcNeAt.tuple_list p1 p.isList J,λ_ _=>EqAt.tuple_list p1 p.isList J⟩
   |tup ys=>
    first
    |(exfalso;simp only[QH]at hd;omega)
    |(obtain⟨a2,UN,rfl,Hg,ZZ⟩:=U.tup sm;cases O;obtain⟨rE,pR,p2,_⟩:=I.tuple Hg
      have he:∀j (h1:j<Y.toArray.size) (h2:j<rE.toArray.size),EqAt A.in1 s Y.toArray[j] rE.toArray[j] (sO xs ys j):=λj h1 h2=>by
       obtain⟨x,y,v,w,e1,e2,r1,r2,z1,z2⟩:=zLB YZ j2 ZZ pR h1 h2;have d1:=S3 e1;have d2:=S3 e2;have:=(ih A.in1 x y v w _ _ (by simp only[QH]at hd;omega) (by rw[Mz];omega) (.fr r1) (.fr r2) z1 z2).2.2 r1 r2;simpa only[sO,e1,e2] using this
      have el:((JA<|min Y.toArray.size rE.toArray.size).all (sO xs ys)&&Y.toArray.size==rE.toArray.size)=LD (.tup xs) (.tup ys):=by
       have l1:=YZ.length;have l2:=ZZ.length;have l3:=j2.length;have l4:=pR.length;rw[pA,pA,<- l3,<- l4,<- l1,<- l2];simp only[LD];exact Ph xs ys
      have e1:RcAt A s (.ref a1) (.ref a2) (LD (.tup xs)<|.tup ys):=by rw[<- el];exact RcAt.tuples p1 p2 J he
      have e2:RcNeAt A s (.ref a1) (.ref a2) (!LD (.tup xs) (.tup ys)):=by rw[<- el];exact RcNeAt.tuples p1 p2 J he
      refine⟨e1,e2,λh1 h2=>?_⟩;by_cases z:a1=a2
      .subst z;have:=Rep.inj I sm _ _ _ h1 h2;rw[<- this,Ol];exact EqAt.same _
      .exact EqAt.of_refs z e1)
  |lst xs=>
   obtain⟨a1,rK,rfl,Hf,YZ⟩:=rx.list sm;cases Z;obtain⟨Y,j2,p1,_⟩:=I.list Hf
   cases y with
   |non=>rw[U.non]at O;cases O;exact⟨RcAt.list_none p1.isList J,RcNeAt.list_none p1.isList J,λ_ _=>EqAt.list_none p1.isList J⟩
   |bl b=>rw[U.bl]at O;cases O;exact⟨RcAt.list_bool b p1.isList J,RcNeAt.list_bool b p1.isList J,λ_ _=>EqAt.list_bool b p1.isList J⟩
   |int b=>rw[U.int]at O;obtain⟨t,rfl⟩:=O;exact⟨RcAt.list_int b t p1.isList J,RcNeAt.list_int b t p1.isList J,λ_ _=>EqAt.list_int b t p1.isList J⟩
   |str b=>rw[U.str]at O;obtain⟨t,rfl⟩:=O;exact⟨RcAt.list_str b t p1.isList J,RcNeAt.list_str b t p1.isList J,λ_ _=>EqAt.list_str b t p1.isList J⟩
   |tup ys=>obtain⟨a,vs,rfl,q,r⟩:=U.tup sm;cases O;obtain⟨its,_,p,_⟩:=I.tuple q;exact⟨RcAt.list_tuple p1.isList p J,RcNeAt.list_tuple p1.isList p J,λ_ _=>EqAt.list_tuple p1.isList p J⟩
   |lst ys=>
    first
    |(exfalso;simp only[QH]at hd;omega)
    |(obtain⟨a2,UN,rfl,Hg,ZZ⟩:=U.list sm;cases O;obtain⟨rE,pR,p2,_⟩:=I.list Hg
      have l1:=YZ.length;have l2:=ZZ.length;have l3:=j2.length;have l4:=pR.length
      have he:∀j (h1:j<Y.toArray.size) (h2:j<rE.toArray.size),EqAt A.in1 s Y.toArray[j] rE.toArray[j] (sO xs ys j):=λj h1 h2=>by
       obtain⟨x,y,v,w,e1,e2,r1,r2,z1,z2⟩:=zLB YZ j2 ZZ pR h1 h2;have d1:=S3 e1;have d2:=S3 e2;have:=(ih A.in1 x y v w _ _ (by simp only[QH]at hd;omega) (by rw[Mz];omega) (.fr r1) (.fr r2) z1 z2).2.2 r1 r2;simpa only[sO,e1,e2] using this
      have Dc:RcAt A s (.ref a1) (.ref a2) (LD (.lst xs)<|.lst ys)/\RcNeAt A s (.ref a1) (.ref a2) (!LD (.lst xs) (.lst ys)):=by
       by_cases hz:Y.length=rE.length
       .have hsz:Y.toArray.size=rE.toArray.size:=by rw[pA,pA];exact hz
        have el:(JA Y.toArray.size).all (sO xs ys)=LD (.lst xs) (.lst ys):=by
         rw[pA,<- l3,<- l1];simp only[LD];exact zQJ xs ys (by omega)
        rw[<- el];exact⟨RcAt.lists p1.isList p2.isList hsz J he,RcNeAt.lists p1.isList p2.isList hsz J he⟩
       .have hsz:(Y.toArray.size != rE.toArray.size)=true:=by rw[pA,pA];simpa using hz
        have el:LD (.lst xs) (.lst ys)=false:=by simp only[LD];exact zNo xs ys (by omega)
        rw[el];exact⟨RcAt.lists_lengths p1.isList p2.isList hsz J,RcNeAt.lists_lengths p1.isList p2.isList hsz J⟩
      refine⟨Dc.1,Dc.2,λh1 h2=>?_⟩;by_cases z:a1=a2
      .subst z;have:=Rep.inj I sm _ _ _ h1 h2;rw[<- this,Ol];exact EqAt.same _
      .exact EqAt.of_refs z Dc.1)
end
def WB(x y:D):Option D:=if min (QH x) (QH y)<=20 then some (.bl<|LD x y) else none
def EZ(x y:D):Option D:=if min (QH x) (QH y)<=20 then some (.bl<|!LD x y) else none
section
variable {X:Cx}
theorem yK(hu:X.A.units+30<cLine):NI X (compareOp .Eq) (rD X.K WB):=by
 intro pins s σ H x y v u Q I z J ⟨G,dx,j,d,sm,r1,r2,e,k⟩;unfold WB at e;split at e
 .rename_i hd;cases e;exact(Ri I sm 20 X.A dx j x y v u hd (by omega) r1 r2 z J).1 _ _ _ _ (uR I (k _ G H (zb.refl sm)<|yZ.mpr rfl) rfl)
 .cases e
theorem zVb(hu:X.A.units+30<cLine):NI X (compareOp .NotEq) (rD X.K EZ):=by
 intro pins s σ H x y v u Q I z J ⟨G,dx,j,d,sm,r1,r2,e,k⟩;unfold EZ at e;split at e
 .rename_i hd;cases e;exact(Ri I sm 20 X.A dx j x y v u hd (by omega) r1 r2 z J).2.1 _ _ _ _ (uR I (k _ G H (zb.refl sm)<|yZ.mpr rfl) rfl)
 .cases e
open Classical in
def XQ(ds:List D)(us:List Value)(dx:D)(u:Value):Bool:=decide (∃(i:Nat)(d:D),us[i]?=some u/\ds[i]?=some d/\LD d dx=true)
open Classical in
theorem Pi{pins:oE}(I:Inv X pins σ H s)(sm:zd G H){ds:List D}{vs:List V}{us:List Value}(r:CA X.K G ds vs)(q:yO vs us)(dx:D){i:Nat}{u:Value}(h:us[i]?=some u)(hd:ds[i]?=some d):XQ ds us dx u=LD d dx:=by
 unfold XQ
 cases e:LD d dx with
 |true=>exact decide_eq_true ⟨i,d,h,hd,e⟩
 |false=>
  refine decide_eq_false ?_;rintro⟨j,d',h',J,e'⟩;obtain⟨v1,O,r1⟩:=r.get hd;obtain⟨v2,S,r2⟩:=r.get J;obtain⟨Z,e3,U⟩:=q.get O;obtain⟨u2,z,Y⟩:=q.get S;rw[h]at e3;cases e3;rw[h']at z;cases z;have:=U.inj Y;subst this;have:=Rep.inj I sm _ _ _ r1 r2;subst this;rw[e]at e';cases e'
theorem zLC{pins:oE}(I:Inv X pins σ H s)(sm:zd G H){ds:List D}{vs:List V}{us:List Value}(r:CA X.K G ds vs)(q:yO vs us)(dx:D):us.toArray.any (XQ ds us dx)=ds.any λd=>LD d dx:=by
 rw[JF];simp only[List.any_toArray,nF];constructor
 .rintro⟨u,hu,h⟩;obtain⟨i,hi,rfl⟩:=eE.mp hu;obtain⟨v,z,p1⟩:=X8 (i:=i) (u:=us[i]) q (by simp[hi]);obtain⟨d,j,p2⟩:=r.got z;rw[Pi I sm r q dx (i:=i) (u:=us[i]) (by simp[hi]) j]at h;exact⟨d,xA j,h⟩
 .rintro⟨d,hd,h⟩;obtain⟨i,hi,rfl⟩:=eE.mp hd;obtain⟨v,z,p1⟩:=r.get (i:=i) (d:=ds[i]) (by simp[hi]);obtain⟨u,j,p2⟩:=q.get z;refine⟨u,xA j,?_⟩;rw[Pi I sm r q dx (i:=i) (d:=ds[i]) j<|by simp[hi]];exact h
noncomputable def uM(x y:D):Option D:=if QH x<=20 then match y with
  |.tup ys=>some (.bl<|ys.any λd=>LD d x)
  |.lst ys=>some (.bl<|ys.any λd=>LD d x)
  |_=>none
 else none
def Zs(K:Fg)(op:D->D->Option D):R2:=λx y H Q=>∃G dx dy d,zd G H/\Rep K G dx x/\wH K G H dy y/\op dx dy=some d/\∀v G' H',zb G H G' H'->Rep K G' d v->Q v H'
theorem zLD{pins:oE}(I:Inv X pins σ H s)(sm:zd G H)(hu:X.A.units+30<cLine){ds:List D}{vs:List V}{us:List Value}(r:CA X.K G ds vs)(q:yO vs us){u:Value}(j:Rep X.K G dx x)(O:yk x u)(hd:QH dx<=20):∀y,y∈us.toArray->EqAt X.A.in1 s y u (XQ ds us dx y):=λy hy=>by
 obtain⟨i,hi,rfl⟩:=eE.mp (by simpa using hy);obtain⟨v,z,p1⟩:=X8 (i:=i) (u:=us[i]) q (by simp[hi]);obtain⟨d,J,p2⟩:=r.got z;rw[Pi I sm r q dx (i:=i) (u:=us[i]) (by simp[hi]) J];exact(Ri I sm 20 X.A.in1 d dx v x us[i] u (by omega) (by rw[Mz];omega) (.fr p2) (.fr j) p1 O).2.2 p2 j
theorem zRs(hu:X.A.units+30<cLine):NI X (compareOp .In) (Zs X.K uM):=by
 intro pins s σ H x y v u Q I z J ⟨G,dx,O,d,sm,r1,r2,e,k⟩;unfold uM at e;split at e
 .rename_i hd
  cases O with
  |tup ys=>
   cases e;obtain⟨a,vs,rfl,q,r⟩:=r2.tup sm;cases J;obtain⟨its,j,p,_⟩:=I.tuple q;refine in_tupleAt _ p (zLD I sm hu r j r1 z hd) ?_;rw[zLC I sm r j]
   exact(uR I (k _ G H (zb.refl sm)<|yZ.mpr rfl) rfl)
  |lst ys=>
   cases e;obtain⟨a,vs,rfl,q,r⟩:=r2.list sm;cases J;obtain⟨its,j,p,_⟩:=I.list q;refine in_listAt _ p.isList (zLD I sm hu r j r1 z hd) ?_;rw[zLC I sm r j]
   exact(uR I (k _ G H (zb.refl sm)<|yZ.mpr rfl) rfl)
  |_=>cases e
 .cases e
variable {a b:Expr}{f g:dC}{pos:Pos}
theorem zRt{K:Fg}{op:D->D->Option D}{σ:L2.St}{H:Hp}{Q:VK}(h:tE K (b2 f g op) σ H Q):RU (Zs K op) (tE K f) (tR K g) σ H Q:=by
 obtain⟨G,ρ,d,s,er,j,k⟩:=h;obtain⟨x,J,j⟩:=aA.mp j;obtain⟨y,O,j⟩:=aA.mp j;refine⟨G,ρ,x,s,er,J,λS z H1 t1 r1=>⟨z,ρ,y,t1.s,er.step t1,O,λU I H2 t2 r2=>?_⟩⟩;exact⟨I,x,y,d,t2.s,Rep.mono t2.g _ _ r1,r2,j,λv G' H' t r=>k v G' H' ((t1.trans t2).trans t) r⟩
theorem zVc(hu:X.A.units+30<cLine)(ha:SE X a f)(hb:SR X b g)(hm:behindInMarks .In b=false):SE X (.Compare a [.In] [b] pos) (b2 f g uM):=aG (zNK (zRs hu) ha hb hm) λ_ _ _ h=>zRt h
theorem R0(hu:X.A.units+30<cLine)(ha:SE X a f)(hb:SR X b g)(hm:behindInMarks .In b=false):SB X (.Compare a [.In] [b] pos) (bB<|b2 f g uM):=
 WS (Pn (zRs hu) ha hb hm) λσ H Q=>by
  rintro⟨G,ρ,d,s,er,I,k⟩;obtain⟨x,j,z⟩:=aA.mp I;have e3:=Q4 z;subst e3;exact zRt ⟨G,ρ,_,s,er,j,λv G' H' t r=>⟨d,yZ.mp r,k G' H' t⟩⟩
noncomputable def Gs:D->D->Option D
 |.int i,.int j=>some<|.bl<|decide<|i<j
 |.str i,.str j=>some<|.bl<|decide<|i.cps.toList<j.cps.toList
 |_,_=>none
def jP:D->D->Option D
 |.int i,.int j=>some<|.bl<|decide<|j<i
 |_,_=>none
theorem zRu:NI X (compareOp .Lt) (rD X.K Gs):=by
 intro pins s σ H x y v u Q I z J ⟨G,dx,O,d,sm,r1,r2,e,k⟩
 cases dx with
 |int i=>cases O with
  |int j=>cases e;rw[r1.int]at z;rw[r2.int]at J;obtain⟨t,rfl⟩:=z;obtain⟨t',rfl⟩:=J;exact lt_int<|uR I (k _ G H (zb.refl sm)<|yZ.mpr rfl) rfl
  |_=>cases e
 |str i=>cases O with
  |str j=>cases e;rw[r1.str]at z;rw[r2.str]at J;obtain⟨t,rfl⟩:=z;obtain⟨t',rfl⟩:=J;exact lt_str<|uR I (k _ G H (zb.refl sm)<|yZ.mpr rfl) rfl
  |_=>cases e
 |_=>cases e
theorem NS:NI X (compareOp .Gt) (rD X.K jP):=by
 intro pins s σ H x y v u Q I z J ⟨G,dx,O,d,sm,r1,r2,e,k⟩
 cases dx with
 |int i=>cases O with
  |int j=>cases e;rw[r1.int]at z;rw[r2.int]at J;obtain⟨t,rfl⟩:=z;obtain⟨t',rfl⟩:=J;exact gt_int<|uR I (k _ G H (zb.refl sm)<|yZ.mpr rfl) rfl
  |_=>cases e
 |_=>cases e
noncomputable def Xi(x y:D):Option D:=match y with
 |.non=>some (.bl (match x with | .non=>true|_=>false))
 |.bl b=>some (.bl (match x with | .bl c=>c==b|_=>false))
 |_=>none
theorem zVd:NI X (compareOp .Is) (rD X.K Xi):=by
 intro pins s σ H x y v u Q I j z ⟨G,dx,O,d,sm,r1,r2,e,k⟩;have fin:∀{c J:Bool},d=.bl c->c=J->EP X pins σ Q (.bool J) s:=λ{c J} S U=>by subst U;subst S;exact(uR I (k _ G H (zb.refl sm)<|yZ.mpr rfl) rfl)
 cases O with
 |non=>
  rw[r2.non]at z;cases z;refine is_none_gen ?_
  cases dx with
  |non=>rw[r1.non]at j;cases j;cases e;exact fin rfl rfl
  |bl _=>rw[r1.bl]at j;cases j;cases e;exact fin rfl rfl
  |int _=>rw[r1.int]at j;obtain⟨t,rfl⟩:=j;cases e;exact fin rfl rfl
  |str _=>rw[r1.str]at j;obtain⟨t,rfl⟩:=j;cases e;exact fin rfl rfl
  |tup _=>obtain⟨a,vs,rfl,_⟩:=r1.tup sm;cases j;cases e;exact fin rfl rfl
  |lst _=>obtain⟨a,vs,rfl,_⟩:=r1.list sm;cases j;cases e;exact fin rfl rfl
 |bl b=>
  rw[r2.bl]at z;cases z
  cases dx with
  |non=>rw[r1.non]at j;cases j;cases e;exact wpAny_is_plain rfl<|fin rfl rfl
  |bl c=>rw[r1.bl]at j;cases j;cases e;exact wpAny_is_plain rfl (fin rfl (by cases b<;>cases c<;>rfl))
  |int _=>rw[r1.int]at j;obtain⟨t,rfl⟩:=j;cases e;exact wpAny_is_plain rfl<|fin rfl rfl
  |str _=>rw[r1.str]at j;obtain⟨t,rfl⟩:=j;cases e;exact wpAny_is_plain rfl<|fin rfl rfl
  |tup _=>obtain⟨a,vs,rfl,_⟩:=r1.tup sm;cases j;cases e;exact wpAny_is_plain rfl<|fin rfl rfl
  |lst _=>obtain⟨a,vs,rfl,_⟩:=r1.list sm;cases j;cases e;exact wpAny_is_plain rfl<|fin rfl rfl
 |_=>cases e
end
end RD
namespace RD
open PySem PySem.Spec PyProof.Rows L2 SeqAt
section
variable {X:Cx}{a b:Expr}{f g:dC}{fl:pD}{pos:Pos}
theorem uV{n:Nat}(h:n<=1000000):n<=sizeLine:=QA h (by decide)
noncomputable def qI:D->D->Option D
 |.int i,.int j=>some<|.int<|i+j
 |.str i,.str j=>if i.length+j.length<=1000000 then some (.str<|i++j) else none
 |.tup xs,.tup ys=>if xs.length+ys.length<=1000000 then some (.tup<|xs++ys) else none
 |_,_=>none
def FN:D->D->Option D
 |.int i,.int j=>some<|.int<|i-j
 |_,_=>none
noncomputable def JR:D->D->Option D
 |.int i,.int j=>if (-(2 ^ 64)<i/\i<2 ^ 64)\/(-(2 ^ 64)<j/\j<2 ^ 64) then some (.int<|i*j) else none
 |_,_=>none
def SL:D->D->Option D
 |.int i,.int j=>if 0<j then some (.int<|i%j) else none
 |_,_=>none
noncomputable def Sh:D->D->Option D
 |.int i,.int j=>if 0<j/\j<1073741824 then some (.int<|i/j) else none
 |_,_=>none
theorem zS1{prog:Program}{w:World}{A:Around}{E:KD}{s:Shared}{t b:Addr}{ws:List Value}{Q:KD}(ht:cP s.heap t ([]:List Value).toArray)(hb:cP s.heap b ws.toArray)(h1:Q (.ref b) s):
  wpAny (model prog w) A (binaryOp .Add (.ref t)<|.ref b) Q E s:=by
 obtain⟨⟨cls,dd,data,Y⟩,z,hc,n,hd⟩:=id ht;obtain⟨⟨Z,S,data2,O⟩,J,I,U,j⟩:=id hb;simp only at hc hd I j;subst hc hd I j
 exact OK ⟨_,z,rfl⟩ ⟨_,J,rfl⟩ HL pO OG xG (lG _ _)
   (tuple_addW0 t b _ ws.toArray n U dd S Y O rfl) ⟨z,J,h1⟩
theorem zW:NI X (binaryOp .Add) (rD X.K qI):=by
 intro pins s σ H x y v u Q I J O ⟨G,dx,S,d,sm,r1,r2,e,k⟩
 cases dx with
 |int i=>cases S with
  |int j=>cases e;rw[r1.int]at J;rw[r2.int]at O;obtain⟨t,rfl⟩:=J;obtain⟨t',rfl⟩:=O;exact add_int ⟨.int<|i+j,H,I.tok _,⟨_,rfl⟩,k _ G H (zb.refl sm)<|yE.mpr rfl⟩
  |_=>cases e
 |str i=>cases S with
  |str j=>
   simp only[qI]at e;split at e
   .rename_i hz;cases e;rw[r1.str]at J;rw[r2.str]at O;exact zMH pins s σ H _ _ v u Q I J O ⟨i,j,rfl,rfl,uV hz,k _ G H (zb.refl sm)<|FP.mpr rfl⟩
   .cases e
  |_=>cases e
 |tup xs=>cases S with
  |tup ys=>
   simp only[qI]at e;split at e
   .rename_i hz;cases e;obtain⟨a1,Z,rfl,U,w1⟩:=r1.tup sm;obtain⟨a2,UN,rfl,Y,w2⟩:=r2.tup sm;have l1:=w1.length;have l2:=w2.length
    cases Z with
    |nil=>
     cases J;cases O;obtain⟨its,vv,p1,_⟩:=I.tuple U;obtain⟨rE,pR,p2,_⟩:=I.tuple Y;cases vv;have hx:xs=[]:=JE.mp l1;subst hx;refine zS1 p1 p2 ⟨.ref a2,H,I,rfl,k _ G H (zb.refl sm) ?_⟩
     simpa using r2.rep (λ_ z=>by cases z)
    |cons v1 Z=>
     refine zSk pins s σ H _ _ v u Q I J O ⟨a1,a2,_,UN,rfl,rfl,U,Y,by simp,uV<|by omega,λz=>?_,λ_ p hp=>?_⟩
     .subst z;have hy:ys=[]:=JE.mp l2;subst hy;refine k _ G H (zb.refl sm) ?_;simpa using r1.rep (λ_ z=>by cases z)
     .exact k _ _ _ (zb.new sm hp)<|IS.mpr ⟨p,_,rfl,zL,CA.mono (yh<|sm.free hp) _ _<|w1.append w2⟩
   .cases e
  |_=>cases e
 |_=>cases e
theorem HP:NI X (binaryOp .Sub) (rD X.K FN):=by
 intro pins s σ H x y v u Q I J O ⟨G,dx,z,d,sm,r1,r2,e,k⟩
 cases dx with
 |int i=>cases z with
  |int j=>cases e;exact zU4 pins s σ H x y v u Q I J O ⟨i,j,r1.int,r2.int,k _ G H (zb.refl sm)<|yE.mpr rfl⟩
  |_=>cases e
 |_=>cases e
theorem jV:NI X (binaryOp .Mult) (rD X.K JR):=by
 intro pins s σ H x y v u Q I J O ⟨G,dx,z,d,sm,r1,r2,e,k⟩
 cases dx with
 |int i=>cases z with
  |int j=>
   simp only[JR]at e;split at e
   .rename_i hz;cases e;exact zU5 pins s σ H x y v u Q I J O ⟨i,j,r1.int,r2.int,hz,k _ G H (zb.refl sm)<|yE.mpr rfl⟩
   .cases e
  |_=>cases e
 |_=>cases e
theorem DO:NI X (binaryOp .Mod) (rD X.K SL):=by
 intro pins s σ H x y v u Q I J O ⟨G,dx,z,d,sm,r1,r2,e,k⟩
 cases dx with
 |int i=>cases z with
  |int j=>
   simp only[SL]at e;split at e
   .rename_i hz;cases e;exact zU6 pins s σ H x y v u Q I J O ⟨i,j,r1.int,r2.int,hz,k _ G H (zb.refl sm)<|yE.mpr rfl⟩
   .cases e
  |_=>cases e
 |_=>cases e
theorem zQL:NI X (binaryOp .FloorDiv) (rD X.K Sh):=by
 intro pins s σ H x y v u Q I J O ⟨G,dx,z,d,sm,r1,r2,e,k⟩
 cases dx with
 |int i=>cases z with
  |int j=>
   simp only[Sh]at e;split at e
   .rename_i hz;cases e;exact zSX pins s σ H x y v u Q I J O ⟨i,j,r1.int,r2.int,hz,k _ G H (zb.refl sm)<|yE.mpr rfl⟩
   .cases e
  |_=>cases e
 |_=>cases e
def BV:D->Option D
 |.int i=>some<|.int (-i)
 |_=>none
theorem R4(ha:SR X a f):SE X (.UnaryOp .USub a pos) (b1 f BV):=aG (OZ (r:=λx H Q=>∃i,x=.int i/\Q (.int (-i)) H) zU7 ha) λσ H Q=>by
 rintro⟨G,ρ,d,s,er,j,k⟩;obtain⟨d1,I,j⟩:=aA.mp j
 cases d1 with
 |int i=>cases j;exact⟨G,ρ,_,s,er,I,λJ z H1 t1 r1=>⟨i,r1.int,k _ z H1 t1<|yE.mpr rfl⟩⟩
 |_=>cases j
noncomputable def zy(x y:D):Option (List D):=match x,y with
 |.lst xs,.lst ys=>if xs.length+ys.length<=1000000 then some (xs++ys) else none
 |_,_=>none
noncomputable def YT(f g:dC)(op:D->D->Option (List D)):pD:=λρ=>(f ρ).bind λx=>(g ρ).bind λy=>op x y
def rF(K:Fg)(op:D->D->Option (List D)):R2:=λx y H Q=>∃G dx dy xs,zd G H/\wH K G H dx x/\wH K G H dy y/\op dx dy=some xs/\∀a vs G' H',zb G H G' H'->H a=none->G' a=none->H' a=some (.lst vs)->CA K G' xs vs->Q (.ref a) H'
theorem zVe{K:Fg}{op:D->D->Option (List D)}{σ:L2.St}{H:Hp}{Q:VK}(h:tF K (YT f g op) σ H Q):RU (rF K op) (tR K f) (tR K g) σ H Q:=by
 obtain⟨G,ρ,d,s,er,j,k⟩:=h;obtain⟨x,J,j⟩:=aA.mp j;obtain⟨y,O,j⟩:=aA.mp j;refine⟨G,ρ,x,s,er,J,λS z H1 t1 r1=>⟨z,ρ,y,t1.s,er.step t1,O,λU I H2 t2 r2=>?_⟩⟩;exact⟨I,x,y,d,t2.s,r1.step t2,r2,j,λa vs G' H' t h1 h2 h3 r=>k a vs G' H' ((t1.trans t2).trans t) ((t1.trans t2).h.free h1) h2 h3 r⟩
theorem zS2:NI X (binaryOp .Add) (rF X.K zy):=by
 intro pins s σ H x y v u Q I rx ry ⟨G,dx,dy,d,sm,r1,r2,e,k⟩
 cases dx with
 |lst xs=>cases dy with
  |lst ys=>
   simp only[zy]at e;split at e
   .rename_i hz;cases e;obtain⟨a1,rK,rfl,q1,w1⟩:=r1.list sm;obtain⟨a2,UN,rfl,q2,Z⟩:=r2.list sm;have l1:=w1.length;have l2:=Z.length;cases rx;cases ry;obtain⟨its,Y,⟨o1,n1,p1,c1,d1,O⟩,_⟩:=I.list q1;obtain⟨j,U,⟨o2,n2,p2,z,J,S⟩,_⟩:=I.list q2;have l3:=Y.length;have l4:=U.length;obtain⟨cls,dd,data,sl⟩:=o1;obtain⟨fY,jY,data2,CS⟩:=o2;simp only at c1 d1 O z J S;subst c1 d1 O z J S
    refine OK ⟨_,p1,rfl⟩ ⟨_,p2,rfl⟩ noFill_list_add seq_list_add PySem.F.slot_list_add PySem.F.entry_list_add (PySem.F.args_list_add_2 _ _)
     (list_addW a1 a2 its.toArray j.toArray n1 n2 none none sl CS (by rw[pA,pA];exact uV<|by omega)) ⟨p1,p2,?_⟩
    have ea:its.toArray++j.toArray=(its++j).toArray:=by simp
    rw[ea];refine⟨.ref _,_,I.lnew (t':=s.toks) (Y.append U) (by rw[rA];exact uV<|by omega),rfl,?_⟩;exact k _ (rK++UN) G _ (zb.newH sm I.fresh) I.fresh (sm.free I.fresh) zL<|w1.append Z
   .cases e
  |_=>cases e
 |_=>cases e
theorem S4(ha:SR X a f)(hb:SR X b g):SF X (.BinOp a .Add b pos) (YT f g zy):=aG (zU3 zS2 ha hb) λ_ _ _ h=>zVe h
def WA:D->D->Option D
 |.lst xs,.int i=>VF xs i
 |.tup xs,.int i=>VF xs i
 |.str z,.int i=>if z.length<=1000000 then (VF z.cps.toList i).map λc=>.str ⟨#[c]⟩ else none
 |_,_=>none
theorem zNq{K:Fg}{G:Hp}{xs:List D}{vs:List V}{i:Int}{d:D}(r:CA K G xs vs)(h:VF xs i=some d):∃v,VF vs i=some v/\Rep K G d v:=by
 unfold VF at h|-;rw[<- r.length];obtain⟨j,z,I⟩:=aA.mp h;rw[z];exact r.get I
theorem Gm:nQ X (rD X.K WA):=by
 intro value slice pins s σ H x y v u Q I U Y ⟨G,dx,dy,d,sm,r1,r2,e,k⟩ hs
 cases dy with
 |int i=>
  have hy:=r2.int;subst hy
  cases dx with
  |lst xs=>
   obtain⟨a1,S,rfl,O,w1⟩:=r1.list sm;obtain⟨Z,j,J⟩:=zNq w1 e
   exact Ra value slice pins s σ H _ _ v u Q I U Y (.inl ⟨a1,S,i,Z,rfl,rfl,O,j,k _ G H (zb.refl sm) J⟩) hs
  |tup xs=>
   obtain⟨a1,S,rfl,O,w1⟩:=r1.tup sm;obtain⟨Z,j,J⟩:=zNq w1 e
   exact Ra value slice pins s σ H _ _ v u Q I U Y (.inr<|.inl ⟨a1,S,i,Z,rfl,rfl,O,j,k _ G H (zb.refl sm) J⟩) hs
  |str z=>
   have hx:=r1.str;subst hx;simp only[WA]at e;split at e
   .rename_i hz;obtain⟨c,j,rfl⟩:=bA.mp e;exact Ra value slice pins s σ H _ _ v u Q I U Y (.inr<|.inr ⟨z,i,c,rfl,rfl,uV hz,j,k _ G H (zb.refl sm)<|FP.mpr rfl⟩) hs
   .cases e
  |_=>cases e
 |_=>cases dx<;>cases e
theorem zS(ha:SR X a f)(hb:SR X b g)(hs:zNT b:=by intro _ _;rfl):SE X (.Subscript a b pos) (b2 f g WA):=aG (MZ Gm ha hb hs) λ_ _ _ h=>Am h
abbrev zr(xs:List D)(lo hi:Option Int):List D:=(xs.drop<|HT.MD xs.length 0 lo).take<|HT.MD xs.length xs.length hi-HT.MD xs.length 0 lo
theorem zNr{K:Fg}{G:Hp}{xs:List D}{vs:List V}(lo hi:Option Int)(r:CA K G xs vs):CA K G (zr xs lo hi) (pT vs lo hi):=by
 unfold zr pT;rw[r.length];exact(r.drop _).take _
def tOs(K:Fg)(f:mB->Option (Option Int)):TO:=λσ H Q=>∃G ρ d,zd G H/\Er K G H ρ σ/\f ρ=some d/\∀G' H',zb G H G' H'->Q d H'
abbrev SO(X:Cx)(e:Option Expr)(f:mB->Option (Option Int)):Prop:=PO X e<|tOs X.K f
theorem zVf(h:PO X e t)(w:∀σ H Q,t' σ H Q->t σ H Q):PO X e t':=λpins s σ H Q I q=>h pins s σ H Q I<|w σ H Q q
noncomputable def asI:D->Option Int
 |.int i=>some i
 |_=>none
def oI(f:dC):mB->Option (Option Int):=λρ=>(f ρ).bind λd=>(asI d).map some
theorem qp:SO X none (λ_=>some none):=zVf zSi λσ H Q=>by rintro⟨G,ρ,d,s,er,j,k⟩;cases j;exact k G H<|zb.refl s
theorem qR(h:SE X a f):SO X (some a) (oI f):=zVf (zSj h) λσ H Q=>by
 rintro⟨G,ρ,d,s,er,z,k⟩;obtain⟨x,O,z⟩:=aA.mp z;obtain⟨i,I,rfl⟩:=bA.mp z
 cases x with
 |int j=>cases I;exact⟨G,ρ,_,s,er,O,λS J H1 t1 r1=>⟨i,yE.mp r1,k J H1 t1⟩⟩
 |_=>cases I
variable {lo hi:Option Expr}{ol oh:mB->Option (Option Int)}{p2:Pos}
def vL(x:D)(lo hi:Option Int):Option D:=match x with
 |.tup xs=>some<|.tup<|zr xs lo hi
 |.str z=>if z.length<=1000000 then some (.str<|Txt.slice z lo hi) else none
 |_=>none
def Ho(x:D)(lo hi:Option Int):Option (List D):=match x with
 |.lst xs=>some<|zr xs lo hi
 |_=>none
noncomputable def VJ{α:Type}(f:dC)(ol oh:mB->Option (Option Int))(op:D->Option Int->Option Int->Option α):mB->Option α:=λρ=>(f ρ).bind λx=>(ol ρ).bind λl=>(oh ρ).bind λh=>op x l h
theorem zDK{E:KD}{s:Shared}{t j:Addr}{items:Array Value}{I J:Value}{lo hi:Option Int}{Q:KD}(ht:cP s.heap t items)(hs:s.heap.IsSliceOf j I J .none)(pl:IsPart I lo)(pu:IsPart J hi)(z:HT.MD items.size 0 lo=0/\HT.MD items.size items.size hi=items.size)(h:Q (.ref t) s):wpAny (model prog w) A (getItem (.ref t)<|.ref j) Q E s:=by
 obtain⟨os,U,Y,OY⟩:=id hs;have O:s.TypeIs (.ref j) "slice":=⟨os,U,Y⟩
 unfold getItem
 try with_reducible refine wpAny_holding ?_
 first|refine wpAny_bind (wpAny_pure ?_)|skip
 refine wpAny_bind (wpAny_sequenceKey ht.typeIs (by decide) ?_)
 refine wpAny_bind (wpAny_callSpecial?_slot (name:=fA "__getitem__") ht.typeIs PyProof.Rows.slot_tuple_getitem
  (wpAny_call_entry PyProof.Rows.slot_tuple_getitem ht.typeIs entry_tuple_getitem ?_<|args_tuple_getitem _ _))
 show wpAny _ _ (BI (.ref t) >>= _) _ _ s;refine wpAny_bind<|tupleItemsOf_ ht ?_;refine wpAny_bind<|wpAny_typeOf O ?_;rw[if_pos<|by decide];refine wpAny_bind<|HT.jj hs pl pu ?_
 have S:(((HT.MD items.size 0 lo:Nat):Int)==0&&(1:Int)==1&&(HT.MD items.size items.size hi-HT.MD items.size 0 lo)==items.size)=true:=by
  rw[z.1,z.2];simp
 show wpAny _ _ (if (((HT.MD items.size 0 lo:Nat):Int)==0&&(1:Int)==1&&(HT.MD items.size items.size hi-HT.MD items.size 0 lo)==items.size)=true then _ else _) _ _ s;rw[if_pos S];unfold Z5
 first
  |exact wpAny_bind (wpAny_bind<|wpAny_typeOf ht.typeIs<|wpAny_pure (by rw[if_pos<|by decide];exact wpAny_bind<|wpAny_rule<|wpAny_pure ⟨_,rfl,wpAny_pure h⟩))
  |exact wpAny_bind (wpAny_bind<|wpAny_typeOf ht.typeIs<|wpAny_pure (by rw[if_pos<|by decide];exact wpAny_bind<|wpAny_rule<|wpAny_bind<|wpAny_pure<|wpAny_pure ⟨_,rfl,wpAny_pure h⟩))
  |exact wpAny_bind (wpAny_bind<|wpAny_bind<|wpAny_typeOf ht.typeIs<|wpAny_pure (by rw[if_pos<|by decide];exact wpAny_bind<|wpAny_rule<|wpAny_pure<|wpAny_pure ⟨_,rfl,wpAny_pure h⟩))
def rSD(K:Fg):V->Option Int->Option Int->Hp->VK->Prop:=λx lo hi H Q=>∃G dx d,zd G H/\wH K G H dx x/\vL dx lo hi=some d/\∀v G' H',zb G H G' H'->Rep K G' d v->Q v H'
theorem part_of(p:IsPart v o):∃l:Option (Int×Tok),v=partValue l/\l.map (·.1)=o:=by
 cases p with
 |none=>exact⟨none,rfl,rfl⟩
 |int i t=>exact⟨some (i,t),rfl,rfl⟩
theorem Hq:J6 X (rSD X.K):=by
 intro pins s σ H x v vl vu lo hi sl Q I U hs pl Y ⟨G,dx,d,sm,r1,e,k⟩
 cases dx with
 |tup xs=>
  cases e;obtain⟨a1,j,rfl,Z,w1⟩:=r1.tup sm;by_cases S:HT.MD j.length 0 lo=0/\HT.MD j.length j.length hi=j.length
  .cases U;obtain⟨its,vv,ht,hz⟩:=I.tuple Z;have O:its.toArray.size=j.length:=by rw[pA];exact vv.length.symm
   refine⟨"tuple",_,PyProof.Rows.slot_tuple_getitem.lookup,ht.typeIs,zDK ht hs pl Y (by rw[O];exact S) ⟨.ref a1,H,I,rfl,k _ G H (zb.refl sm) ?_⟩⟩
   have e1:zr xs lo hi=xs:=by
    unfold zr;rw[w1.length,S.1,S.2,NH,o6,<- w1.length,pF]
   rw[e1];exact r1.rep λ_ z=>by cases z
  .exact zVE pins s σ H _ v vl vu lo hi sl Q I U hs pl Y ⟨a1,j,rfl,Z,S,λp hp=>k _ _ _ (zb.new sm hp)<|IS.mpr ⟨p,_,rfl,zL,CA.mono (yh<|sm.free hp) _ _<|zNr lo hi w1⟩⟩
 |str z=>
  simp only[vL]at e;split at e
  .rename_i hz;cases e;rw[r1.str]at U;obtain⟨t,rfl⟩:=U;obtain⟨l,rfl,el⟩:=part_of pl;obtain⟨u,rfl,eu⟩:=part_of Y;refine⟨"str",_,F.slot_str_getitem.lookup,typeIs_str _ _ _,wpAny_getItem_str_slice (l:=l) (u:=u) (st:=none) hs rfl ?_⟩;subst el eu;refine post_val_or_str ⟨QA (Txt.slice_le z _ _)<|uV hz,λt' k'=>⟨.str _,H,I.tok _,⟨_,rfl⟩,k _ G H (zb.refl sm)<|FP.mpr rfl⟩⟩
  .cases e
 |_=>cases e
theorem qP(ha:SR X a f)(U:SO X lo ol)(hh:SO X hi oh):SE X (.Subscript a (.Slice lo hi none p2) pos) (VJ f ol oh vL):=aG (zK0 Hq ha U hh) λσ H Q=>by
 rintro⟨G,ρ,d,s,er,j,k⟩;obtain⟨x,O,j⟩:=aA.mp j;obtain⟨l,S,j⟩:=aA.mp j;obtain⟨h,e3,j⟩:=aA.mp j;exact⟨G,ρ,x,s,er,O,λZ z H1 t1 r1=>⟨z,ρ,l,t1.s,er.step t1,S,λI H2 t2=>⟨I,ρ,h,t2.s,er.step<|t1.trans t2,e3,λJ Y t3=>⟨J,x,d,t3.s,r1.step<|t2.trans t3,j,λv G' H' t r=>k v G' H' (((t1.trans t2).trans t3).trans t) r⟩⟩⟩⟩
theorem zLE(ha:SR X a f)(U:SO X lo ol)(hh:SO X hi oh):SF X (.Subscript a (.Slice lo hi none p2) pos) (VJ f ol oh Ho):=aG (zK0 zSm ha U hh) λσ H Q=>by
 rintro⟨G,ρ,d,s,er,j,k⟩;obtain⟨x,O,j⟩:=aA.mp j;obtain⟨l,S,j⟩:=aA.mp j;obtain⟨h,e3,j⟩:=aA.mp j
 cases x with
 |lst xs=>
  cases j;refine⟨G,ρ,_,s,er,O,λv1 z H1 t1 r1=>⟨z,ρ,l,t1.s,er.step t1,S,λI H2 t2=>⟨I,ρ,h,t2.s,er.step<|t1.trans t2,e3,λJ H3 t3=>?_⟩⟩⟩;have tt:=(t1.trans t2).trans t3;obtain⟨a1,Z,rfl,Y,w1⟩:=(r1.step<|t2.trans t3).list t3.s
  exact⟨a1,Z,rfl,Y,λp hp=>k p _ J _ (tt.trans<|zb.newH t3.s hp) (tt.h.free hp) (t3.s.free hp) zL<|zNr l h w1⟩
 |_=>cases j
noncomputable def KH:D->Option D
 |.tup xs=>some<|.int xs.length
 |.lst xs=>some<|.int xs.length
 |.str z=>if z.length<=1000000 then some (.int z.length) else none
 |_=>none
theorem zj:tK X (.builtin "len") (cR X.K KH):=by
 intro pins s σ H xs us Q I r h;obtain⟨G,d1,d,x,rfl,sm,r1,e,k⟩:=h
 cases d1 with
 |tup ys=>
  cases e;obtain⟨a,vs,rfl,q,w⟩:=r1.tup sm;refine vz pins s σ H _ us Q I r ⟨a,vs,rfl,.inr q,?_⟩;rw[<- w.length]
  exact k _ G H (zb.refl sm)<|yE.mpr rfl
 |lst ys=>
  cases e;obtain⟨a,vs,rfl,q,w⟩:=r1.list sm;refine vz pins s σ H _ us Q I r ⟨a,vs,rfl,.inl q,?_⟩;rw[<- w.length]
  exact k _ G H (zb.refl sm)<|yE.mpr rfl
 |str z=>
  simp only[KH]at e;split at e
  .rename_i hz;cases e;have hx:=r1.str;subst hx;exact zIf pins s σ H _ us Q I r ⟨z,rfl,uV hz,k _ G H (zb.refl sm)<|yE.mpr rfl⟩
  .cases e
 |_=>cases e
def CM:D->Option D
 |.tup xs=>some<|.tup xs
 |.lst xs=>some<|.tup xs
 |_=>none
theorem ym:tK X (.type "tuple") (cR X.K CM):=by
 intro pins s σ H xs us Q I r h;obtain⟨G,d1,d,x,rfl,sm,r1,e,k⟩:=h
 cases d1 with
 |tup ys=>
  cases e;obtain⟨a,vs,rfl,q,w⟩:=r1.tup sm
  exact kn pins s σ H _ us Q I r ⟨a,vs,rfl,.inr ⟨q,k _ G H (zb.refl sm)<|r1.rep λ_ z=>by cases z⟩⟩
 |lst ys=>
  cases e;obtain⟨a,vs,rfl,q,w⟩:=r1.list sm
  exact kn pins s σ H _ us Q I r ⟨a,vs,rfl,.inl ⟨q,λp hp=>k _ _ _ (zb.new sm hp)<|IS.mpr ⟨p,_,rfl,zL,CA.mono (yh<|sm.free hp) _ _ w⟩⟩⟩
 |_=>cases e
def CV:D->Option (List D)
 |.tup xs=>some xs
 |.lst xs=>some xs
 |_=>none
theorem zNs:tK X (.type "list") (cF X.K CV):=by
 intro pins s σ H xs us Q I r h;obtain⟨G,d1,ys,x,rfl,sm,r1,e,k⟩:=h
 cases d1 with
 |tup zs=>
  cases e;obtain⟨a,vs,rfl,q,w⟩:=r1.tup sm
  exact wb pins s σ H _ us Q I r ⟨a,vs,rfl,.inr q,λp hp=>k p vs G _ (zb.newH sm hp) hp (sm.free hp) zL w⟩
 |lst zs=>
  cases e;obtain⟨a,vs,rfl,q,w⟩:=r1.list sm
  exact wb pins s σ H _ us Q I r ⟨a,vs,rfl,.inl q,λp hp=>k p vs G _ (zb.newH sm hp) hp (sm.free hp) zL w⟩
 |_=>cases e
noncomputable def Bc:D->Option D
 |.int i=>some<|.int i
 |.bl b=>some<|.int<|if b then 1 else 0
 |_=>none
theorem Na:tK X (.type "int") (cR X.K Bc):=by
 intro pins s σ H xs us Q I r h;obtain⟨G,d1,d,x,rfl,sm,r1,e,k⟩:=h
 cases d1 with
 |int i=>cases e;have hx:=r1.int;subst hx;exact zIZ pins s σ H _ us Q I r<|.inl ⟨i,rfl,k _ G H (zb.refl sm)<|yE.mpr rfl⟩
 |bl b=>cases e;have hx:=r1.bl;subst hx;exact zIZ pins s σ H _ us Q I r<|.inr ⟨b,rfl,k _ G H (zb.refl sm)<|yE.mpr rfl⟩
 |_=>cases e
def bN(x:Int):List Int->List Int
 | []=>[x]
 |y::ys=>if x<=y then x::y::ys else y::bN x ys
noncomputable def OL:List Int->List Int
 | []=>[]
 |x::xs=>bN x<|OL xs
def fR(a b:Str):Bool:=decide<|a.cps.toList<b.cps.toList
noncomputable def cN(x:Str):List Str->List Str
 | []=>[x]
 |y::ys=>if fR y x then y::cN x ys else x::y::ys
def AM:List Str->List Str
 | []=>[]
 |x::xs=>cN x<|AM xs
def dX:List D->Option (List Int)
 | []=>some []
 |.int i::r=>(dX r).map (i :: ·)
 |_=>none
noncomputable def ER:List D->Option (List Str)
 | []=>some []
 |.str i::r=>(ER r).map (i :: ·)
 |_=>none
def FQ:D->Option (List D):=λd=>(CV d).bind λxs=>if xs.length<64 then match dX xs with
  |some is=>some<|(OL is).map .int
  |none=>(ER xs).map λss=>(AM ss).map .str
 else none
end
noncomputable def AJ(names:List (Str×NameKind))(cells:List (Str×Addr)):List (Str×Addr):=((names.filter λy=>y.2==.free).reverse).map λy=>(y.1,(cells.lookup y.1).getD 0)
theorem wc{env:Env}:∀(names:List (Str×NameKind))(acc:List (Str×Addr)),(∀y∈names,y.2=.free->∃c,env.cells.lookup y.1=some c) ->
  (forIn names acc<|λ(x:Str×NameKind) (cs:List (Str×Addr))=>(if x.2==.free then (do let c <- cellOf env x.1;pure (ForInStep.yield ((x.1,c)::cs))) else pure (ForInStep.yield cs):Sem (ForInStep<|List<|Str×Addr)))=pure (AJ names env.cells++acc)
 | [],acc,_=>by simp[AJ]
 |(n,k)::r,acc,h=>by
  have ih:=λacc=>wc r acc λy hy=>h y<|dA _ hy
  rw[gK];by_cases hk:(k==NameKind.free)=true
  .obtain⟨c,hc⟩:=h (n,k) lA (by simpa using hk);simp only[hk,if_true];have j:cellOf env n=pure c:=by unfold cellOf;rw[hc]
   rw[j];show(forIn r ((n,c)::acc) _:Sem (List<|Str×Addr))=_;rw[ih]
   congr 1
   simp[AJ,hk,hc]
  .simp only[hk,if_false];show(forIn r acc _:Sem (List<|Str×Addr))=_;rw[ih]
   congr 1
   simp[AJ,hk]
theorem Y7{scope:BF}{env:Env}(h:∀y∈scope.names,y.2=.free->∃c,env.cells.lookup y.1=some c):iI scope env=pure (AJ scope.names env.cells):=by
 have:=wc scope.names [] h;rw[kB]at this;unfold iI;show(forIn scope.names [] _ >>= λcs=>pure cs)=_;have j:(forIn scope.names ([]:List (Str×Addr))<|λ(x:Str×NameKind) (cs:List (Str×Addr))=>(match x with|(name,kind)=>if kind==.free then (do let c <- cellOf env name;pure (ForInStep.yield ((name,c)::cs))) else pure (ForInStep.yield cs):Sem (ForInStep<|List<|Str×Addr)))=pure (AJ scope.names env.cells):=this
 first
  |exact(congrArg (λt=>t >>= λcs=>pure cs) j).trans rfl
  |(erw [j];rfl)
theorem wt{cells:List (Str×Addr)}(h:(AJ names cells).lookup x=some c):(x,NameKind.free)∈names/\c=(cells.lookup x).getD 0:=by
 have hm:=wC h;obtain⟨y,hy,e⟩:=OA.mp hm;obtain⟨h1,h2⟩:=iC.mp<|RQ.mp hy;cases e;obtain⟨n,k⟩:=y;have:k=.free:=by simpa using h2
 subst this;exact⟨h1,rfl⟩
theorem kr{F:Str->Addr}:∀(l:List (Str×NameKind)){x:Str},(∃k,(x,k)∈l)->(l.map λy=>(y.1,F y.1)).lookup x=some (F x)
 | [],_,h=>by obtain⟨_,h⟩:=h;cases h
 |(n,k)::r,x,h=>by
  rw[eA,XA];by_cases e:x=n
  .subst e;simp
  .have:(x==n)=false:=by simpa using e
   rw[this];refine kr r ?_;obtain⟨k',h⟩:=h;rcases nA.mp h with q|q
   .cases q;exact absurd rfl e
   .exact⟨k',q⟩
theorem zLF{cells:List (Str×Addr)}(h:(x,NameKind.free)∈names):(AJ names cells).lookup x=some ((cells.lookup x).getD 0):=by
 unfold AJ;exact kr (F:=λx=>(cells.lookup x).getD 0) _ ⟨.free,RQ.mpr<|iC.mpr ⟨h,by simp⟩⟩
noncomputable def lM(N nm:List Str)(inner outer:List (Str×NameKind)):Bool:=
 inner.all (λy=>y.2 != .cell&&y.1 != "" && (y.2 != .local || inner.lookup y.1==some .local)&&(y.2 != .free || outer.lookup y.1==some .cell || outer.lookup y.1==some .free)) &&
 N.all (λx=>nm.contains x || match inner.lookup x with|none=>true|some .free=>true|some .globalImplicit=>true|some .globalExplicit=>true|_=>false)
def XS(N nm:List Str):List Str:=N.map (λy=>if nm.contains y then ("" : Str) else y)++nm
def zc(X:Cx)(nm:List Str)(scope:BF)(C:Addr)(MA:Shared)(rB:Hp)(ex:List Addr):Cx:=
 { X with N:=XS X.N nm,s₀:=MA,H₀:=rB,env:=compEnvC scope (AJ scope.names X.env.cells) C X.env,outer:=X.stack,ex:=ex,fn:=λ_=>false,pn:=[],xe:=λ_ _=>False }
theorem Jq{env:Env}{x:Str}{k:NameKind}:∀{names:List (Str×NameKind)},(names.map λ(n,k)=>if (k==NameKind.free&&env.scope.kind==.function&&env.kindOf n==some .cell) then (n,NameKind.cell) else (n,k)).lookup x=some k ->
  ∃k',names.lookup x=some k'/\(k=k'\/(k=.cell/\k'=.free))
 | [],h=>by simp at h
 |(n,k0)::r,h=>by
  have ih:=@Jq env x k r;rw[eA]at h;dsimp only at h;rw[XA];by_cases e:x=n
  .subst e;simp only[BEq.rfl];refine⟨k0,rfl,?_⟩;by_cases hc:(k0==NameKind.free&&env.scope.kind==.function&&env.kindOf x==some .cell)=true
   .rw[if_pos hc,XA]at h;simp only[BEq.rfl]at h;cases h;simp only[LB,beq_iff_eq]at hc;exact .inr ⟨rfl,hc.1.1⟩
   .rw[if_neg hc,XA]at h;simp only[BEq.rfl]at h;cases h;exact .inl rfl
  .have e':(x==n)=false:=by simpa using e
   rw[e'];refine ih ?_;by_cases hc:(k0==NameKind.free&&env.scope.kind==.function&&env.kindOf n==some .cell)=true
   .rw[if_pos hc,XA,e']at h;exact h
   .rw[if_neg hc,XA,e']at h;exact h
noncomputable def zQ(g:D->mB->Option mB)(p:kF)(f:dC):List D->mB->Option (List D)
 | [],_=>some []
 |d::ds,ρ=>(g d ρ).bind λρ1=>(p ρ1).bind λb=>if b=true then (f ρ1).bind λx=>(zQ g p f ds ρ).map (x :: ·) else zQ g p f ds ρ
noncomputable def zM(m:Nat)(fl:pD)(g:D->mB->Option mB)(p:kF)(f:dC):pD:=λρ=>(fl ρ).bind λds=>if ds.length<=1000000 then zQ g p f ds (ρ++jA m .un) else none
def UT(X:Cx)(ifs:List Expr)(p:kF):Prop:=(ifs=[]/\p=λ_=>some true)\/∃c,ifs=[c]/\SB X c p
def SJ(H:Hp)(ρ:mB)(σ:L2.St)(a:Addr):Prop:=∀(j:Nat)(u:Sl)(b:Addr),ρ[j]?=some u->u.isObj=true->σ[j]?=some (some<|.ref b)->a∉bF H u b
theorem Er.app{K:Fg}{G H:Hp}{ρ:mB}{σ:L2.St}(e:Er K G H ρ σ)(m:Nat)(τ:L2.St)(I:τ.length=m):Er K G H (ρ++jA m .un) (σ++τ):=by
 have low:∀{i:Nat}{s:Sl},(ρ++jA m .un)[i]?=some s->s=.un\/(i<ρ.length/\ρ[i]?=some s):=λ{i s} h=>by
  by_cases hi:i<ρ.length
  .rw[eB hi]at h;exact .inr ⟨hi,h⟩
  .rw[oB<|by omega,QB]at h;split at h<;>cases h;exact .inl rfl
 have up:∀{i:Nat},i<ρ.length->(σ++τ)[i]?=σ[i]?:=λ{i} hi=>eB (by rw[<- e.len];exact hi)
 refine⟨by simp[e.len,I],λi d h=>?_,λi u h o=>?_,λi j s t a b ne h1 J h2 o2 O S=>?_⟩
 .rcases low h with z|⟨hi,q⟩
  .cases z
  .rw[up hi];exact e.val i d q
 .rcases low h with z|⟨hi,q⟩
  .subst z;cases o
  .rw[up hi];exact e.slot i u q o
 .rcases low h1 with z|⟨hi,q⟩
  .subst z;cases J
  rcases low h2 with z|⟨U,q'⟩
  .subst z;cases o2
  rw[up hi]at O;rw[up U]at S;exact e.sep i j s t a b ne q J q' o2 O S
section
variable {X:Cx}{tg iter elt:Expr}{ifs:List Expr}{scope:BF}{pos:Pos}{nm:List Str}{fl:pD}{gd:D->mB->Option mB}{p:kF}{f:dC}
theorem yQ{inner outer:List (Str×NameKind)}(h:lM N nm inner outer=true){y:Str×NameKind}(hy:y∈inner):
  y.2≠.cell/\y.1 ≠ ""/\(y.2=.local->inner.lookup y.1=some .local)/\(y.2=.free->outer.lookup y.1=some .cell\/outer.lookup y.1=some .free):=by
 unfold lM at h;rw[LB,fE]at h;have:=h.1 y hy;simp only[LB,KF,bne_iff_ne,ne_eq,beq_iff_eq]at this;obtain⟨⟨⟨h1,h2⟩,h3⟩,j⟩:=this;refine⟨h1,h2,λe=>?_,λe=>?_⟩
 .rcases h3 with z|z
  .exact absurd e z
  .exact z
 .rcases j with(z|z)|z
  .exact absurd e z
  .exact .inl z
  .exact .inr z
theorem zQM{N nm:List Str}{inner outer:List (Str×NameKind)}(h:lM N nm inner outer=true)(hx:x∈N)(j:¬ nm.contains x=true)(hk:inner.lookup x=some k):k≠.local/\k≠.cell:=by
 unfold lM at h;rw[LB,fE,fE]at h;have:=h.2 x hx;rw[KF]at this;rcases this with z|z
 .exact absurd z j
 .rw[hk]at z;cases k<;>first|exact⟨by decide,by decide⟩|exact absurd z (by decide)
theorem zNt{s:Shared}(I:Inv X pins σ H s)(hk:scope.kind=.function)(hok:lM X.N nm scope.names X.env.scope.names=true)(j:∀b∈ex,PH X pins H b)(HI:∀b∈ex,b<s.heap.objs.size):
  (zc X nm scope s.heap.objs.size s H ex).Ok:=by
 have pH:∀x c,(AJ scope.names X.env.cells).lookup x=some c->X.env.cells.lookup x=some c:=λx c e=>by
  obtain⟨h1,h2⟩:=wt e;have h3:=(yQ hok h1).2.2.2 rfl;obtain⟨Y,J⟩:=I.ok.has x h3;rw[J]at h2;rw[J,h2];rfl
 refine⟨I.ok.mod,?_,I.ok.glob,I.ok.blt,wA _,λx y c h1 h2=>I.ok.inj x y c (pH x c h1)<|pH y c h2,λx hx=>?_,λx c z=>(by cases z),I.ok.hd,I.ok.frames,.inl rfl,λb hb=>⟨?_,λx c e=>?_⟩,I.bs,QA I.ok.bsz I.sz,λb o e hb=>?_,λb hb hf=>?_,I.stack,I.stkFree⟩
 .show(relabel scope X.env).kind=.function;exact hk
 .have:∃k,(relabel scope X.env).names.lookup x=some k/\(k=.cell\/k=.free):=by
   rcases hx with z|z
   .exact⟨_,z,.inl rfl⟩
   .exact⟨_,z,.inr rfl⟩
  obtain⟨k,e,U⟩:=this;obtain⟨k',O,S⟩:=Jq e;have hm:=wC O;have hc:=(yQ hok hm).1
  have hf:k'=.free:=by
   rcases S with z|⟨_,z⟩
   .subst z;rcases U with z|z
    .exact absurd z hc
    .exact z
   .exact z
  subst hf;exact⟨_,zLF hm⟩
 .exact VA<|HI b hb
 .exact(j b hb).2.2.2.2.1 x c (pH x c e)
 .have h1:=(j b hb).2.2.2.1;rcases h1 with z|z
  .exact I.ok.noex b o e z
  .exact absurd (DA (EA (I.ok.bs b o e).1) z)<|HC _
 .have h1:=I.stkSub b hf;rcases nA.mp h1 with z|z
  .exact(j b hb).2.1 z
  .exact(j b hb).2.2.1 z
theorem zNu(N nm:List Str):(XS N nm).length=N.length+nm.length:=by simp[XS]
theorem zMT{s:Shared}(I:Inv X pins σ H s)(hk:scope.kind=.function)(hok:lM X.N nm scope.names X.env.scope.names=true)(Z:∀b∈ex,PH X pins H b)(HI:∀b∈ex,b<s.heap.objs.size){uG:Heap}{j:NE}{tk:Nat}(hn:uG.Ns s.heap.objs.size j)(keep:∀b o,s.heap.get? b=some o->uG.get? b=some o):
  Inv (zc X nm scope s.heap.objs.size s H ex) [] (σ++jA nm.length none) H { s with heap:=uG,toks:=tk }:=by
 have ok:=zNt (nm:=nm) (scope:=scope) I hk hok Z HI
 have pH:∀x c,(AJ scope.names X.env.cells).lookup x=some c->X.env.cells.lookup x=some c:=λx c e=>by
  obtain⟨h1,h2⟩:=wt e;have h3:=(yQ hok h1).2.2.2 rfl;obtain⟨c',h4⟩:=I.ok.has x h3;rw[h4]at h2;rw[h4,h2];rfl
 refine⟨ok,rfl,I.bare,Un.kept keep,⟨j,hn,λi x v e1 J e3=>?_⟩,λx c e=>?_,I.hok.fresh<|wA _,λx c e=>I.freeC x c<|pH x c e,λp hp=>(by simp[zc]at hp),I.hok.kept keep,?_⟩
 .have hi:i<X.N.length:=by
   by_cases hi:i<σ.length
   .rw[<- I.len];exact hi
   .rw[oB<|by omega,QB]at J;split at J<;>cases J
  have HH:(X.N.map<|λy=>if nm.contains y then ("" : Str) else y)[i]?=some x:=by
   have:(XS X.N nm)[i]?=some x:=e1;unfold XS at this
   rwa [eB<|by simpa using hi]at this
  have SN:σ[i]?=some (some v):=by rwa [eB (by rw[I.len];exact hi)]at J
  rw[gB]at HH;obtain⟨y,ey,O⟩:=bA.mp HH
  have kY:∃k,(relabel scope X.env).names.lookup x=some k/\(k=.local\/k=.cell\/k=.free):=by
   rcases e3 with z|z|z
   .exact⟨_,z,.inl rfl⟩
   .exact⟨_,z,.inr<|.inl rfl⟩
   .exact⟨_,z,.inr<|.inr rfl⟩
  obtain⟨k,U,WY⟩:=kY;obtain⟨k',Wr,Ws⟩:=Jq U;have hm:=wC Wr;by_cases hc:nm.contains y=true
  .rw[if_pos hc]at O;exact absurd O.symm (yQ hok hm).2.1
  .rw[if_neg hc]at O;subst O;obtain⟨n1,n2⟩:=zQM hok (xA ey) hc Wr
   have hf:k'=.free:=by
    rcases Ws with z|⟨_,z⟩
    .subst z;rcases WY with z|z|z
     .exact absurd z n1
     .exact absurd z n2
     .exact z
    .exact z
   subst hf;have ho:=(yQ hok hm).2.2.2 rfl;obtain⟨m0,Wu,hl0⟩:=I.loc;obtain⟨u,r,l⟩:=hl0 i y v ey SN (by rcases ho with z|z;exact .inr<|.inl z;exact .inr<|.inr z);refine⟨u,r,?_⟩;rcases l with⟨z,_⟩|⟨_,c,Y,lU⟩
   .have S:X.env.scope.names.lookup y=some .local:=z;rcases ho with q|q
    .rw[q]at S;cases S
    .rw[q]at S;cases S
   .right
    refine⟨?_,c,?_,?_⟩
    .rcases WY with z|z|z
     .subst z;rcases Ws with q|⟨q,_⟩<;>cases q
     .exact .inl (by rw[<- z];exact U)
     .exact .inr (by rw[<- z];exact U)
    .show(AJ scope.names X.env.cells).lookup y=some c;rw[zLF hm,Y];rfl
    .obtain⟨o,q1,q2⟩:=lU;exact⟨o,keep _ _ q1,q2⟩
 .obtain⟨v,o,q1,q2⟩:=I.cell x c<|pH x c e;exact⟨v,o,keep _ _ q1,q2⟩
 .show _=(XS X.N nm).length;rw[zNu,rA,AH,I.len]
def XN(n:Nat)(g:D->mB->Option mB):Prop:=∀d ρ ρ1,g d ρ=some ρ1->ρ1.length=ρ.length/\(∀i,i<n->ρ1[i]?=ρ[i]?)/\∀(i:Nat)(s:Sl),ρ1[i]?=some s->ρ[i]?=some s\/∃d,s=.v d
theorem yB(h:n<=i):XN n (gN i):=λd ρ ρ1 e=>by
 cases e;exact⟨by simp,λj I=>aB<|by omega,λj u h=>(zu h).elim (λz=>.inr ⟨d,z.2.1⟩) λz=>.inl z.2⟩
def C9(n:Nat)(g:List D->mB->Option mB):Prop:=∀d ρ ρ1,g d ρ=some ρ1->ρ1.length=ρ.length/\(∀i,i<n->ρ1[i]?=ρ[i]?)/\∀(i:Nat)(s:Sl),ρ1[i]?=some s->ρ[i]?=some s\/∃d,s=.v d
theorem zIx:C9 n mG:=λd ρ ρ1 e=>by
 cases d with
 |nil=>cases e;exact⟨rfl,λ_ _=>rfl,λ_ _ h=>.inl h⟩
 |cons _ _=>cases e
theorem L8{g:D->mB->Option mB}{j:List D->mB->Option mB}(h1:XN n g)(h2:C9 n j):C9 n (bE g j):=λd ρ ρ1 e=>by
 cases d with
 |nil=>cases e
 |cons d ds=>
  obtain⟨O,I,J⟩:=aA.mp e;obtain⟨a1,a2,z⟩:=h1 _ _ _ I;obtain⟨b1,b2,b3⟩:=h2 _ _ _ J;exact⟨b1.trans a1,λi hi=>(b2 i hi).trans<|a2 i hi,λi u h=>(b3 i u h).elim (z i u) .inr⟩
theorem zLG{j:List D->mB->Option mB}(h2:C9 n j):XN n (gT k j):=λd ρ ρ1 e=>by
 cases d with
 |tup ds=>
  simp only[gT]at e;split at e
  .exact h2 _ _ _ e
  .cases e
 |_=>cases e
theorem Er.drop{K:Fg}{G H:Hp}{ρ ρ1:mB}{σ:L2.St}{m:Nat}(e:Er K G H ρ1 σ)(J:ρ1.length=(ρ++jA m Sl.un).length)(hk:∀i,i<ρ.length->ρ1[i]?=(ρ++jA m Sl.un)[i]?):Er K G H (ρ++jA m .un) σ:=by
 have low:∀{i:Nat}{s:Sl},(ρ++jA m .un)[i]?=some s->s=.un\/ρ1[i]?=some s:=λ{i s} h=>by
  by_cases hi:i<ρ.length
  .right;rw[hk i hi];exact h
  .rw[oB<|by omega,QB]at h;split at h<;>cases h;exact .inl rfl
 refine⟨J.symm.trans e.len,λi d h=>?_,λi u h o=>?_,λi j s t a b ne h1 I h2 o2 O S=>?_⟩
 .rcases low h with z|q
  .cases z
  .exact e.val i d q
 .rcases low h with z|q
  .subst z;cases o
  .exact e.slot i u q o
 .rcases low h1 with z|q
  .subst z;cases I
  rcases low h2 with z|q'
  .subst z;cases o2
  exact e.sep i j s t a b ne q I q' o2 O S
theorem Er.toSt{K:Fg}{G H:Hp}{ρ:mB}{σ:L2.St}(e:Er K G H ρ σ)(s:zd G H):UD K G (qZ H ρ σ) G H ρ σ:=
 ⟨e,⟨s,zd.refl _,wq,λb o e n=>by rw[e]at n;cases n⟩,λi u a h o q c m=>Ll h o q m⟩
theorem SJ.grow{K:Fg}{G H H':Hp}{ρ:mB}{σ:L2.St}{a:Addr}(e:Er K G H ρ σ)(t:zd H H')(n:SJ H ρ σ a):SJ H' ρ σ a:=λj u b h o q=>by rw[e.fp t h o q];exact n j u b h o q
theorem SJ.upd{K:Fg}{G H:Hp}{ρ:mB}{σ:L2.St}{a:Addr}{o:HO}(e:Er K G H ρ σ)(n:SJ H ρ σ a):SJ (L2.upd H a o) ρ σ a:=λj u b h ob q=>by
 obtain⟨b',h1,h2,_⟩:=e.slot j u h ob;rw[q]at h1;cases h1;rw[(h2.same (zd.refl _) λc m v z=>by rw[upd_ne<|λy=>n j u b h ob q (by rw[<- y];exact m)];exact z).2];exact n j u b h ob q
theorem SJ.new{K:Fg}{G H:Hp}{ρ:mB}{σ:L2.St}{a:Addr}(e:Er K G H ρ σ)(n:H a=none):SJ H ρ σ a:=λj u b h o q m=>by
 obtain⟨⟨x,z⟩,_⟩:=e.there h o q m;rw[n]at z;cases z
theorem Er.updOther{K:Fg}{G H:Hp}{ρ:mB}{σ:L2.St}{a:Addr}{o:HO}(e:Er K G H ρ σ)(n:SJ H ρ σ a):Er K G (upd H a o) ρ σ:=e.hop (zd.refl _) λi s b h ob q c m=>
 ⟨λu z=>by rw[upd_ne<|λy=>n i s b h ob q (by rw[<- y];exact m)];exact z,(e.there h ob q m).2⟩
theorem SJ.app{K:Fg}{G H H':Hp}{ρ:mB}{σ τ:L2.St}{a:Addr}{m:Nat}(n:SJ H' ρ σ a)(e:Er K G H ρ σ):SJ H' (ρ++jA m .un) (σ++τ) a:=λj u b h1 h2 h3=>by
 by_cases z:j<ρ.length
 .rw[eB z]at h1;rw[eB (by rw[<- e.len];exact z)]at h3;exact n j u b h1 h2 h3
 .rw[oB<|by omega,QB]at h1;split at h1<;>cases h1;cases h2
theorem SJ.drop{ρ ρ1:mB}(n:SJ H ρ1 σ a)(hk:∀i,i<ρ.length->ρ1[i]?=(ρ++jA m Sl.un)[i]?):SJ H (ρ++jA m .un) σ a:=λj u b h1 h2 h3=>by
 by_cases z:j<ρ.length
 .exact n j u b (by rw[hk j z];exact h1) h2 h3
 .rw[oB<|by omega,QB]at h1;split at h1<;>cases h1;cases h2
theorem zQN{K:Fg}{G H:Hp}{ρ ρ1:mB}{σ I:L2.St}{a:Addr}{o:HO}(e:Er K G H ρ σ)(n:SJ H ρ σ a)(st:UD K G (qZ H ρ σ) G H ρ1 I)(k:∀(i:Nat)(s:Sl),ρ1[i]?=some s->ρ[i]?=some s\/∃d,s=.v d)(h:H a=some o):SJ H ρ1 I a:=λj u b h1 h2 h3 m=>by
 cases J:u.isOwn with
 |true=>
  have q:=st.ows j u b h1 J h3 a m;unfold qZ at q;split at q
  .rename_i hh;obtain⟨Z,u',O,w1,w2,w3,w4⟩:=hh;exact n Z u' O w1 (Sl.obj_of_own w2) w3 w4
  .rw[h]at q;cases q
 |false=>
  rcases k j u h1 with z|⟨d,z⟩
  .cases u with
   |b c x=>
    obtain⟨a1,S,U,_⟩:=e.slot j _ z rfl;obtain⟨a2,e3,Y,_⟩:=st.er.slot j _ h1 rfl;rw[h3]at e3;cases e3;have y1:=U.2;have y2:=Y.2;subst y1;subst y2
    exact n j _ _ z rfl S m
   |_=>first|(cases h2;done)|(cases J;done)
  .subst z;cases h2
theorem zIy{R:kQ->Shared->Prop}(W:Nat->Shared->Prop) (turn:∀n s,W n s->wpAny (model prog w) A (pyNext it) (λr j=>match r with
   |none=>R (.ok .next) j
   |some v=>wpAny (model prog w) A (letOwnedTupleGo tg it v) (λ_ j=>wpAny (model prog w) A (assign tg env v) (λ_ S=>
     wpAny (model prog w) A (forIn ifs true λc r=>if r=true then do let ok <- isTrue c env (eval c env);pure (ForInStep.yield ok) else pure (ForInStep.yield r)) (λok I=>
      if ok=true then wpAny (model prog w) A (eval elt env) (λx O=>
       wpAny (model prog w) A (call (.builtin "list.append") [acc,x]) (λ_ J=>∃m,m<n/\W m J) (notedBy (model prog w) A env λe s'=>R (.error e) s') O) (notedBy (model prog w) A env λe s'=>R (.error e) s') I
      else ∃m,m<n/\W m I) (notedBy (model prog w) A env λe s'=>R (.error e) s') S) (notedBy (model prog w) A env λe s'=>R (.error e) s') j) (notedBy (model prog w) A env λe s'=>R (.error e) s') j) (notedBy (model prog w) A env λe s'=>R (.error e) s') s) (n:Nat) (h:W n s) :
  UF (model prog w) A (.compLoop (.ListComp elt [⟨tg,iter,ifs,0⟩] scope pos) 0 it acc env) R s:=by
 refine codeAny_loop rfl W (λn s hI=>?_) n h;show wpAny _ A ((compTurn (.ListComp elt [⟨tg,iter,ifs,0⟩] scope pos) 0 it acc env).onRaise<|λx=>do noteFrame x env;theTreesLotGoes x) _ _ s;refine wpAny_noted ?_;rw[compTurn_list];refine wpAny_bind (wpAny_standAt<|wpAny_bind<|wpAny_mono (turn n s hI) (λr j z=>?_) λ_ _ h'=>h')
 cases r with
 |none=>exact wpAny_pure z
 |some v=>
  refine wpAny_bind (wpAny_mono z (λ_ j z=>?_) λ_ _ h'=>h');refine wpAny_bind (wpAny_mono z (λ_ S RG=>wpAny_bind<|wpAny_mono RG (λok I U=>?_) λ_ _ h'=>h') λ_ _ h'=>h')
  cases ok with
  |false=>exact wpAny_pure ⟨rfl,U⟩
  |true=>
   exact wpAny_bind (wpAny_bind<|wpAny_mono U (λx O Y=>wpAny_bind<|wpAny_mono Y (λ_ J Z=>wpAny_pure<|wpAny_pure ⟨rfl,Z⟩) λ_ _ h'=>h') λ_ _ h'=>h')
theorem zNv{X:Cx}{E:KD}(hx:X.xe=λ_ _=>False)(ht:UT X ifs p)(I:Inv X pins σ H s)(sm:zd G H)(er:Er X.K G H ρ σ)(hp:p ρ=some b){Q:Bool->Shared->Prop}(hQ:∀G' H' s',Inv X pins σ H' s'->zb G H G' H'->Q b s'):
  wpAny (model X.prog X.w) X.A (forIn ifs true λc r=>if r=true then do let ok <- isTrue c X.env (eval c X.env);pure (ForInStep.yield ok) else pure (ForInStep.yield r)) Q E s:=by
 rcases ht with⟨rfl,rfl⟩|⟨c,rfl,hb⟩
 .cases hp;rw[fL];exact wpAny_pure<|hQ G H s I<|zb.refl sm
 .rw[gK];simp only[if_true];have:=hb pins s σ H (λk H'=>k=b/\∃G',zb G H G' H') I ⟨G,ρ,b,sm,er,hp,λG' H' t=>⟨rfl,G',t⟩⟩;rw[hx]at this;refine wpAny_bind (wpAny_bind<|wpAny_mono this (λk s1 h1=>?_) λ_ _ z=>z.elim);obtain⟨H',j,rfl,G',t⟩:=h1;refine wpAny_pure ?_;show wpAny _ _ (forIn [] _ _) _ _ _;rw[fL];exact wpAny_pure<|hQ G' H' s1 j t
end
end RD
namespace RD
open PySem PySem.Spec PyProof.Rows L2 SeqAt
theorem Nc(x:Int):∀xs,(bN x xs).Perm (x::xs)
 | []=>xE _
 |y::ys=>by
  unfold bN;split
  .exact xE _
  .exact((Nc x ys).cons y).trans (gO x y ys)
theorem X2:∀xs,(OL xs).Perm xs
 | []=>xE _
 |x::xs=>(Nc x _).trans<|(X2 xs).cons x
theorem zNw(x:Int):∀xs,xs.Pairwise (·<=·)->(bN x xs).Pairwise (·<=·)
 | [],_=>by simp[bN]
 |y::ys,h=>by
  unfold bN;split
  .rename_i j;refine NA.mpr ⟨λz hz=>?_,h⟩;rcases nA.mp hz with rfl|hz
   .exact j
   .exact d6 j<|(NA.mp h).1 z hz
  .rename_i j;refine NA.mpr ⟨λz hz=>?_,zNw x ys (NA.mp h).2⟩;rcases nA.mp ((Nc x ys).mem_iff.mp hz) with rfl|hz
   .omega
   .exact(NA.mp h).1 z hz
theorem Om:∀xs,(OL xs).Pairwise (·<=·)
 | []=>by simp[OL]
 |x::xs=>zNw x _<|Om xs
theorem kx:∀(a b:List Int),a.Perm b->a.Pairwise (·<=·)->b.Pairwise (·<=·)->a=b:=λa b p h1 h2=>
 p.eq_of_pairwise (λx y _ _ h3 j=>Int.le_antisymm h3 j) h1 h2
def SK(a b:Str):Prop:=fR b a=false
theorem zIz(h1:SK a b)(h2:SK b a):a=b:=by
 unfold SK fR at h1 h2;have z:¬ b.cps.toList<a.cps.toList:=by simpa using h1
 have j:¬ a.cps.toList<b.cps.toList:=by simpa using h2
 have h3:a.cps.toList=b.cps.toList:=EJ (ME.mp z)<|ME.mp j;cases a;cases b;simp only[IT];exact bQ.mp h3
theorem zI0(h1:SK a b)(h2:SK b c):SK a c:=by
 unfold SK fR at *;have z:¬ b.cps.toList<a.cps.toList:=by simpa using h1
 have j:¬ c.cps.toList<b.cps.toList:=by simpa using h2
 have:=List.le_trans (ME.mp z)<|ME.mp j;simpa using ME.mpr this
theorem zNx(h:fR a b=true):SK a b:=by
 unfold SK fR at *;have h':a.cps.toList<b.cps.toList:=by simpa using h
 simpa using ME.mpr (List.le_of_lt h')
theorem Nd(x:Str):∀xs,(cN x xs).Perm (x::xs)
 | []=>xE _
 |y::ys=>by
  unfold cN;split
  .exact((Nd x ys).cons y).trans (gO x y ys)
  .exact xE _
theorem Y2:∀xs,(AM xs).Perm xs
 | []=>xE _
 |x::xs=>(Nd x _).trans<|(Y2 xs).cons x
theorem zNy(x:Str):∀xs,xs.Pairwise SK->(cN x xs).Pairwise SK
 | [],_=>by simp[cN]
 |y::ys,h=>by
  unfold cN;split
  .rename_i j;refine NA.mpr ⟨λz hz=>?_,zNy x ys (NA.mp h).2⟩;rcases nA.mp ((Nd x ys).mem_iff.mp hz) with rfl|hz
   .exact zNx j
   .exact(NA.mp h).1 z hz
  .rename_i j;have I:SK x y:=by unfold SK;simpa using j
   refine NA.mpr ⟨λz hz=>?_,h⟩;rcases nA.mp hz with rfl|hz
   .exact I
   .exact zI0 I<|(NA.mp h).1 z hz
theorem On:∀xs,(AM xs).Pairwise SK
 | []=>by simp[AM]
 |x::xs=>zNy x _<|On xs
theorem xh:∀{l:List Str},risingS p l=true->(p::l).Pairwise SK
 | [],_=>by simp
 |x::r,h=>by
  have h':(!ltCps x.cps.toList p.cps.toList&&risingS x r)=true:=h;rw[LB]at h';have h2:=xh h'.2
  have h1:SK p x:=by
   unfold SK fR;have:=h'.1;rw[ltCps_eq]at this;simpa using this
  refine NA.mpr ⟨λz hz=>?_,h2⟩;rcases nA.mp hz with rfl|hz
  .exact h1
  .exact zI0 h1<|(NA.mp h2).1 z hz
theorem xj{l:List Str}(h:sortedS l=true):l.Pairwise SK:=by
 cases l with
 |nil=>simp
 |cons p l=>exact xh h
theorem vc(a b:List Str)(p:a.Perm b)(h1:a.Pairwise SK)(h2:b.Pairwise SK):a=b:=
 p.eq_of_pairwise (λx y _ _ h3 j=>zIz h3 j) h1 h2
theorem Nf:∀{xs:List D}{is:List Int},dX xs=some is->xs=is.map .int
 | [],is,h=>by cases h;rfl
 |d::r,is,h=>by
  cases d with
  |int i=>
   obtain⟨j,e,rfl⟩:=bA.mp h
   rw[eA,<- Nf e]
  |_=>cases h
theorem M8:∀{xs:List D}{is:List Str},ER xs=some is->xs=is.map .str
 | [],is,h=>by cases h;rfl
 |d::r,is,h=>by
  cases d with
  |str i=>
   obtain⟨j,e,rfl⟩:=bA.mp h
   rw[eA,<- M8 e]
  |_=>cases h
section
variable {K:Fg}{G:Hp}
theorem zI1:∀{is:List Int}{vs:List V},CA K G (is.map .int) vs->vs=is.map V.int
 | [],vs,h=>yP.mp h
 |i::is,vs,h=>by
  obtain⟨v,r,rfl,h1,h2⟩:=zX.mp h;rw[yE.mp h1,zI1 h2];rfl
theorem Ng:∀{is:List Str}{vs:List V},CA K G (is.map .str) vs->vs=is.map V.str
 | [],vs,h=>yP.mp h
 |i::is,vs,h=>by
  obtain⟨v,r,rfl,h1,h2⟩:=zX.mp h;rw[FP.mp h1,Ng h2];rfl
theorem CA.strs:∀(ns:List Str),CA K G (ns.map D.str) (ns.map V.str)
 | []=>CA.nil
 |n::ns=>CA.cons (FP.mpr rfl)<|CA.strs ns
end
theorem m8:∀{ss:List Str}{us:List Value},yO (ss.map V.str) us->HX us ss
 | [],us,r=>by cases r;exact .nil
 |s::ss,us,r=>by
  cases r with
  |cons r1 r2=>obtain⟨t,rfl⟩:=r1;exact .cons s t<|m8 r2
theorem Lm:∀{ss:List Str}{us:List Value},HX us ss->yO (ss.map V.str) us
 |_,_,.nil=>.nil
 |_,_,.cons y t h=>.cons ⟨t,rfl⟩<|Lm h
theorem Ln:∀{ns:List Int}{us:List Value},DK us ns->yO (ns.map V.int) us
 |_,_,.nil=>.nil
 |_,_,.cons y t h=>.cons ⟨t,rfl⟩<|Ln h
section
variable {X:Cx}{a b:Expr}{f g:dC}{fl:pD}{pos:Pos}
def wR:D->Option (List D)
 |.lst xs=>FQ<|.lst xs
 |_=>none
theorem xk:tK X (.builtin "sorted") (cF X.K wR):=by
 intro pins s σ H xs us Q I r h;obtain⟨G,d1,ys,x,rfl,sm,r1,e,k⟩:=h;obtain⟨u,rfl,ru⟩:=ZN r
 cases d1 with
 |lst zs=>
  simp only[wR,FQ,CV,cA]at e;obtain⟨a,vs,rfl,q,w⟩:=r1.list sm;cases ru;obtain⟨its,U,p,hz⟩:=I.list q;split at e
  .rename_i Z;have l1:=w.length;have l2:=U.length
   have fin:∀{out:Array Value}{jH:List V}{j:List D},yO jH out.toList->CA X.K G j jH->jH.length<=sizeLine->ys=j->EP X pins σ Q (.ref<|s.heap.objs.size+1) { s with heap:=sortedAll s.heap its out }:=λ{out jH j} h1 h2 h3 h4=>by
    subst h4;have S:H (s.heap.objs.size+1)=none:=I.hok.fresh<|GD _;obtain⟨e',he⟩:=sortedAll_at s.heap its out;refine⟨.ref<|s.heap.objs.size+1,upd H (s.heap.objs.size+1)<|.lst jH,I.laid (t':=s.toks) (λ_ _=>sortedAll_old) (GD _) ⟨h3,out.toList,e',h1,?_⟩,rfl,k _ jH G _ (zb.newH sm S) S (sm.free S) zL h2⟩;rw[he]
   split at e
   .rename_i is hi;cases e;have:=Nf hi;subst this;have hv:=zI1 w;subst hv;refine sorted_ints p.isList (zGv U) (by omega) λout Gw a1 a2 z=>?_
    have J:=kx _ _ (a2.trans (X2 is).symm) z<|Om is;subst J;refine fin (Ln a1) (CA.ints _) ?_ rfl;have:=(X2 is).length_eq;rw[kA]at l1 ⊢;simp only[kA]at Z;exact FS (by omega)
   .rename_i hi;obtain⟨ss,e2,rfl⟩:=bA.mp e;have:=M8 e2;subst this;have hv:=Ng w;subst hv;refine sorted_strs p.isList (m8 U) (by omega) λout Gw a1 a2 z=>?_
    have J:=vc _ _ (a2.trans (Y2 ss).symm) (xj z)<|On ss;subst J;refine fin (Lm a1) (CA.strs _) ?_ rfl;have:=(Y2 ss).length_eq;rw[kA]at l1 ⊢;simp only[kA]at Z;exact FS (by omega)
  .cases e
 |_=>cases e
def eX(sep:Str):D->Option D
 |.lst xs=>(ER xs).bind λss=>if (ss.map (·.length)).sum+ss.length*sep.length<=1000000 then some (.str<|Txt.join sep ss) else none
 |_=>none
theorem zS3(ha:SR X a f)(S:WJ X (.Constant (.str sep) j p1) "join":=by rfl)(gG:RO X uB [a]:=by rfl)(U:WM apos uB:=by rfl)(hs:BG X a []:=by rfl)(Y:EH X uB []:=by rfl):
  SE X (.Call (.Attribute (.Constant (.str sep) j p1) "join" apos) [a] [] uB) (b1 f<|eX sep):=by
 have hm:C6 X "str.join" (λx xs H Q=>x=.str sep/\cR X.K (eX sep) xs H Q):=by
  intro pins s σ H x xs v us Q I rx r ⟨ex,G,d1,d,y,Z,sm,r1,e,k⟩;subst ex Z;obtain⟨t,rfl⟩:=rx;obtain⟨u,rfl,ru⟩:=ZN r
  cases d1 with
  |lst zs=>
   obtain⟨ss,z,e⟩:=aA.mp e;split at e
   .rename_i hl;cases e;obtain⟨a,vs,rfl,q,w⟩:=r1.list sm;cases ru;obtain⟨its,vv,p,hz⟩:=I.list q;have:=M8 z;subst this;have hv:=Ng w;subst hv;exact join_list p.isList (m8 vv) (by omega) λt' k'=>⟨.str _,H,I.tok _,⟨_,rfl⟩,k _ G H (zb.refl sm)<|FP.mpr rfl⟩
   .cases e
  |_=>cases e
 refine aG (OO PySem.F.plainAttrs_str PySem.F.slot_str_join PySem.F.type_str_join hm zRf (zx ha yl hs) S gG U hs Y) λσ H Q h=>?_
 refine⟨rfl,?_⟩;obtain⟨G,ρ,d,s,er,J,k⟩:=h;obtain⟨d1,z,J⟩:=aA.mp J;exact⟨G,ρ,d1,s,er,z,λv1 O H1 t1 r1=>⟨rfl,O,d1,d,v1,rfl,t1.s,r1,J,λv G' H' t r=>k v G' H' (t1.trans t) r⟩⟩
noncomputable def aK(i:Nat)(f:dC):VB:=λρ=>(gL ρ i).bind λxs=>if xs.length<16000000 then (f ρ).map λd=>.nx (ρ.set i<|.l<|xs++[d]) else none
variable {o:Expr}{i:Nat}{apos uB:Pos}
theorem yL(i:Nat)(ho:PE X o (RF i))(ha:SE X a f)
  (Y:WJ X o "append":=by rfl)
  (gG:RO X uB [a]:=by rfl)
  (Z:WM apos uB:=by rfl) (hs:BG X a []:=by rfl) (dD:EH X uB []:=by rfl)
  (U:ZI X (.Call (.Attribute o "append" apos) [a] [] uB) none pos:=by rfl) :
  SS X (.Expr (.Call (.Attribute o "append" apos) [a] [] uB) pos) (aK i f):=
 yN (rR (OO IB lE mE D3 ho (zx ha yl hs) Y gG Z hs dD) U) λE σ H=>by
  rintro⟨G0,H0,G,ρ,o,st,j,k⟩;obtain⟨xs,e1,j⟩:=aA.mp j;split at j
  .rename_i hl;obtain⟨d,e2,rfl⟩:=bA.mp j;have I:=cX e1;obtain⟨a1,vs,J,q2,q3,q4⟩:=st.er.own i xs I;refine⟨_,J,.inl ⟨rfl,vs,GF.of q3⟩,G,ρ,d,st.bs.gh,st.er,e2,λv G' H' t r=>?_⟩;have CC:=st.step t;obtain⟨a2,S,w1,w2,w3,O⟩:=CC.er.own i xs I;rw[J]at w1;cases w1;exact⟨a1,S,v,rfl,rfl,w3,DA (by rw[<- O.length];exact hl)<|by decide,k σ G' _<|CC.mut I rfl rfl J (λys z=>by cases z;exact⟨_,rfl,O.append<|CA.cons r CA.nil⟩) λ_ z=>by cases z⟩
  .cases j
def zNz(i:Nat)(fi f:dC):VB:=λρ=>(f ρ).bind λd=>(gL ρ i).bind λxs=>(fi ρ).bind λdi=>match di with
 |.int n=>(kI xs.length n).map λj=>.nx<|ρ.set i<|.l<|xs.set j d
 |_=>none
theorem zQO{fi:dC}(i:Nat)(ho:PE X o (RF i))(hi:SE X ie fi)(ha:SE X a f) (hg:∀v,assign (.Subscript o ie HF) X.env v=(do
   let ov <- holding [v] (eval o X.env)
   let iv <- holding [v,ov] (eval ie X.env)
   standAt HF
   holding [v,ov,iv] (setItem ov iv v)
   release [v,ov,iv] []):=by intro _;rfl) (hs:KJ [.Subscript o ie HF] a pos.line X.env=pure false:=by rfl) (hw:JJ [.Subscript o ie HF] a X.env=pure none:=by rfl) (h1:(assignEach [.Subscript o ie HF] X.env).map (·.2)=[assign (.Subscript o ie HF) X.env]:=by rfl):SS X (.Assign [.Subscript o ie HF] a pos) (zNz i fi f):=
 yN (Qw ha (zRg ho hi zK1 hg) hs hw h1) λE σ H=>by
  rintro⟨G0,H0,G,ρ,o,st,I,k⟩;obtain⟨d,e1,I⟩:=aA.mp I;obtain⟨xs,e2,I⟩:=aA.mp I;obtain⟨di,e3,I⟩:=aA.mp I;have J:=cX e2
  cases di with
  |int n=>
   obtain⟨j,e4,rfl⟩:=bA.mp I;refine⟨G,ρ,d,st.bs.gh,st.er,e1,λv U H1 t1 r1=>?_⟩;obtain⟨a1,vs,O,q2,q3,q4⟩:=(st.step t1).er.own i xs J;refine⟨_,O,U,ρ,_,t1.s,st.er.step t1,e3,λv2 Y H2 t2 r2=>?_⟩;have CC:=(st.step t1).step t2;obtain⟨a2,Z,w1,w2,w3,S⟩:=CC.er.own i xs J;rw[O]at w1;cases w1
   exact⟨a1,Z,n,j,rfl,yE.mp r2,w3,by rw[<- S.length];exact e4,k σ Y _<|CC.mut J rfl rfl O (λys z=>by cases z;exact⟨_,rfl,S.set j<|Rep.mono t2.g _ _ r1⟩) λ_ z=>by cases z⟩
  |_=>cases I
end
def Uo(K:Fg)(a:Addr):It:=
 ⟨λi H=>∃xs x,GF K H a xs/\xs[i]?=some x,λi H x H'=>∃p y,H p=none/\x=.ref p/\H'=upd H p (.tup [.int i,y])/\∀xs,GF K H a xs->xs[i]?=some y,λi H=>∃xs,GF K H a xs/\xs.length<=i⟩
noncomputable def NO:Nat->List D->List D
 |_,[]=>[]
 |n,x::xs=>D.tup [.int (n:Int),x]::NO (n+1) xs
theorem Nh:∀(n:Nat)(xs:List D),(NO n xs).length=xs.length
 |_,[]=>rfl
 |n,x::xs=>by simp[NO,Nh (n+1) xs]
theorem zI2:∀(n:Nat)(xs:List D)(i:Nat)(d:D),(NO n xs)[i]?=some d->∃x,xs[i]?=some x/\d=D.tup [.int ((n+i:Nat):Int),x]
 |_,[],_,_,h=>by simp[NO]at h
 |n,x::xs,0,d,h=>by simp[NO]at h;exact⟨x,rfl,by simp[h.symm]⟩
 |n,x::xs,i+1,d,h=>by
  obtain⟨y,j,z⟩:=zI2 (n+1) xs i d (by simpa[NO] using h);exact⟨y,by simpa using j,by rw[z];congr 3;omega⟩
section
variable {P:Program}{w:World}{K:Fg}
theorem zN0(a e it:Addr)(Wo:e≠it):mT P w K (.Tuple es k HF) (Uo K a) [e,it] e (λi h=>(∃j,IsEnum h e it i j)/\h.IsListIter it a i) where
 mem:=by simp
 obj:=λi h st b hb=>by
  obtain⟨⟨j,he⟩,o,U,hc,hd⟩:=st;rcases nA.mp hb with rfl|hb
  .exact⟨_,he,λv z=>by cases z⟩
  .have S:b=it:=by simpa using hb
   subst S;exact⟨o,U,λv z=>by rw[hd]at z;cases z⟩
 keep:=λi h h' st hk=>by
  obtain⟨⟨j,he⟩,o,U,hc,hd⟩:=st;exact⟨⟨j,hk e (by simp) _ he⟩,o,hk it (by simp) o U,hc,hd⟩
 item:=by
  intro X S e2 e3 GE i pins s σ H E I hf st go;subst S e2 e3;obtain⟨⟨j,he⟩,J⟩:=st;obtain⟨xs,x,hq,hx⟩:=go;obtain⟨its,vv,p,hz⟩:=I.list hq;obtain⟨u,hu,ru⟩:=vv.get hx;have fe:=hf e (by simp);have fi:=hf it (by simp);have rS:∀b o,H b=some o->b≠e:=λb o q z=>by rw[z,fe.1]at q;cases q
  have sS:∀b o,H b=some o->b≠it:=λb o q z=>by rw[z,fi.1]at q;cases q
  refine wpAny_pyNext_enum_item he J p.isList (by simpa using hu) Wo λh' U Fi hT hsz hk=>⟨_,rfl,?_⟩
  refine wpAny_letOwnedTupleGo_enum U λZ Fb Y=>?_
  have hn:H s.heap.objs.size=none:=I.hok.fresh<|wA _;have O:∀b o,b≠e->b≠it->s.heap.get? b=some o->Z.get? b=some o:=λb o h1 h2 q=>(Y.2 b h1).trans<|hk b o h1 h2 q
  have TY:e<s.heap.objs.size:=EA he;have hTe:s.heap.objs.size≠e:=lH TY;have Et:Z.get? s.heap.objs.size=some { cls:=.type "tuple",data:=.seq #[.int i s.toks,u] }:=(Y.2 _ hTe).trans hT;have eM:∀b o,H b=some o->b≠s.heap.objs.size:=λb o q z=>by rw[z,hn]at q;cases q
  have Fe:it<s.heap.objs.size:=by obtain⟨o,q,_⟩:=J;exact EA q
  have fch:∀b∈[e,it],(b∈X.ex\/X.s₀.heap.objs.size<=b)/\b≠X.env.locals/\(∀x c,X.env.cells.lookup x=some c->c≠b)/\∀p∈X.pn++pins,p.1≠b:=λb hb=>⟨(hf b hb).2.2.2.1,(hf b hb).2.1,(hf b hb).2.2.2.2.1,(hf b hb).2.2.2.2.2⟩
  have off:∀b,b∉[e,it]->b≠e/\b≠it:=λb hb=>⟨λz=>hb (by simp[z]),λz=>hb<|by simp[z]⟩
  have I':Inv X pins σ (upd H s.heap.objs.size<|.tup [.int i,x]) { s with heap:=Z,toks:=s.toks+1 }:=by
   refine I.step (g':=s.gens) (d':=s.drawn) (ch:=[e,it]) fch (λb o _ _ hc q _=>O b o (off b hc).1 (off b hc).2 q) (λb o _ _ hc q _=>⟨o.slots,O b o (off b hc).1 (off b hc).2 q⟩)
    (λb o _ q n=>by rw[upd_ne<|VA<|EA q];exact n) (λb o hc q=>⟨o,O b o (off b hc).1 (off b hc).2 q⟩)
    (λb ys q=>by rw[upd_ne<|eM b _ q];exact q) (λb o' u' q=>by rw[upd_ne<|eM b _ q];exact q) (λb ps q=>⟨#[],by rw[upd_ne<|eM b _ q,q];simp⟩)
    (λm hm=>?_) (λb u' q=>?_) I.bare
   .obtain⟨o,dU,ep,ZQ,r⟩:=hm;exact⟨o,dU,ep,O _ o (Ne.symm fe.2.1) (Ne.symm fi.2.1) ZQ,r⟩
   .by_cases hb:b=s.heap.objs.size
    .subst hb;rw[zL]at q;cases q;exact⟨by show 2<=sizeLine;decide,[.int i s.toks,u],.cons ⟨_,rfl⟩<|.cons ru .nil,⟨_,Et,rfl,_,rfl,rfl⟩⟩
    .rw[upd_ne hb]at q;refine(I.hok b u' q).stay (λc v hc r=>?_) (λc r=>by rw[upd_ne<|eM c _ r];exact r) λc ys r=>by rw[upd_ne<|eM c _ r];exact r
     rcases hc with z|z
     .subst z;exact O c v (rS c _ q) (sS c _ q) r
     .exact O c v (rS c _ z) (sS c _ z) r
  refine⟨.ref s.heap.objs.size,_,I',rfl,⟨s.heap.objs.size,x,hn,rfl,rfl,λys hy=>?_⟩,⟨⟨_,by simpa using Fb⟩,?_⟩,λb hb=>?_⟩
  .rw[<- I.list_inj hq hy];exact hx
  .obtain⟨o,q1,q2⟩:=Fi;exact⟨o,(Y.2 it<|Ne.symm Wo).trans q1,q2⟩
  .have:b≠s.heap.objs.size:=by
    rcases nA.mp hb with z|z
    .rw[z];exact VA TY
    .have z':b=it:=by simpa using z
     rw[z'];exact VA Fe
   rw[upd_ne this];exact(hf b hb).1
 done:=by
  intro X S e2 e3 GE i pins s σ H E I hf st stop;subst S e2 e3;obtain⟨⟨j,he⟩,J⟩:=st;obtain⟨xs,hq,hx⟩:=stop;obtain⟨its,vv,p,hz⟩:=I.list hq;have fi:=hf it (by simp);refine wpAny_pyNext_enum_end (I.ok.hd GE) he J p.isList (by simp;rw[<- vv.length];exact hx) λh' hk=>⟨rfl,?_⟩
  exact I.turned (t':=s.toks) (λb o hb q=>hk b o hb q) fi.1 fi.2.1 fi.2.2.2.1 fi.2.2.2.2.1 fi.2.2.2.2.2
 self:=λA i s Q E st h=>by
  obtain⟨⟨j,he⟩,_⟩:=st;exact MX he h
end
theorem zS4{K:Fg}{G:Hp}{a:Addr}{vs:List V}{ds:List D}(h:GF K G a vs)(r:CA K G ds vs):VO K G (Uo K a) (NO 0 ds) where
 go:=λi H s hi=>by
  rw[Nh]at hi;exact⟨vs,vs[i]'(by rw[<- r.length];exact hi),s.seq h,by simp[<- r.length,hi]⟩
 stop:=λi H s hi=>by
  rw[Nh]at hi;exact⟨vs,s.seq h,by rw[<- r.length];exact hi⟩
 yld:=λi I H x H' s1 s hi y=>by
  obtain⟨p,y,hp,rfl,rfl,hy⟩:=y;refine⟨_,zb.new s hp,λd e=>?_⟩;obtain⟨d',j,rfl⟩:=zI2 0 ds i d e;obtain⟨v,z,e3⟩:=r.get j;have:=hy vs<|(s1.trans s).seq h;rw[z]at this;cases this;refine IS.mpr ⟨p,_,rfl,zL,CA.cons (yE.mpr<|by simp)<|CA.cons ?_ CA.nil⟩;exact Rep.mono (yh<|s.free hp) _ _<|Rep.mono s1 _ _ e3
section
variable {X:Cx}{a:Expr}{f:dC}{es:List Expr}{k:Nat}{HF p pos:Pos}
def i7(f:dC):pD:=λρ=>(f ρ).bind λd=>match d with
 |.lst xs=>some<|NO 0 xs
 |_=>none
theorem Pr(hg:Gl X "enumerate")(hm:X.mg "enumerate" = none)(ha:SE X a f)(hs:BG X a []:=by rfl)(S:EH X pos []:=by rfl):
  SI X (.Tuple es k HF) (.Call (.Name "enumerate" p) [a] [] pos) (i7 f):=by
 intro pins s σ H R I ⟨G,ρ,ds,sm,er,Y,kk⟩;obtain⟨d,U,J⟩:=aA.mp Y
 cases d with
 |lst xs=>
  cases J;refine wpAny_Call_Name_kw<|UW I hg hm boot_enumerate ?_;refine PyProof.Rows.callWith_type1 (RC (zx ha yl hs pos pins s σ H (λvs H'=>∃G' v,vs=[v]/\zb G H G' H'/\Rep X.K G' (.lst xs) v) I ⟨G,ρ,_,sm,er,U,λv G' H' t r=>⟨G',v,rfl,t,r⟩⟩) λus s1 ⟨vs,H1,I1,rv,O,v,Z,t1,r1⟩=>?_) hs S;subst Z;obtain⟨u,rfl,ru⟩:=ZN rv;obtain⟨l,vs,rfl,q,w⟩:=CO.mp r1;cases ru;obtain⟨its,vv,pl,hz⟩:=I1.list<|t1.s.seq q;refine call_enumerate_list pl.isList λh' he j hsz hk=>?_
  refine MX he ?_;have HI:=λb o (e:s1.heap.get? b=some o)=>hk b o e
  have I2:Inv X pins σ H1 { s1 with heap:=h' }:=I1.kept (t':=s1.toks) hk;have n1:H1 s1.heap.objs.size=none:=I1.hok.fresh<|wA _;have n2:H1 (s1.heap.objs.size+1)=none:=I1.hok.fresh<|GD _;refine⟨s1.heap.objs.size+1,[s1.heap.objs.size+1,s1.heap.objs.size],_,_,H1,rfl,I2,zN0 l (s1.heap.objs.size+1) s1.heap.objs.size<|Nat.succ_ne_self _,⟨⟨_,he⟩,j⟩,λb hb=>?_,kk _ O H1 t1<|zS4 q w⟩;rcases nA.mp hb with z|z
  .rw[z];exact I1.fpOk (GD _) n2
  .have z':b=s1.heap.objs.size:=by simpa using z
   rw[z'];exact I1.fpOk (wA _) n1
 |_=>cases J
end
theorem qr:HB "tuple" = some (.type "tuple"):=by decide +kernel
theorem Ao:HB "int" = some (.type "int"):=by decide +kernel
theorem zVh:HB "list" = some (.type "list"):=by decide +kernel
theorem zVi:HB "dict" = some (.type "dict"):=by decide +kernel
theorem Y8:HB "sorted" = some (.builtin "sorted"):=by decide +kernel
theorem zVj:HB "all" = some (.builtin "all"):=by decide +kernel
theorem zVk:HB "any" = some (.builtin "any"):=by decide +kernel
theorem zVl:HB "bool" = some (.type "bool"):=by decide +kernel
theorem eY:HB "str" = some (.type "str"):=by decide +kernel
theorem zI3:HB "isinstance" = some (.builtin "isinstance"):=by decide +kernel
structure Bl(mg:NE):Prop where
 len:mg "len" = none
 range:mg "range" = none
 enumerate:mg "enumerate" = none
 sorted:mg "sorted" = none
 tuple:mg "tuple" = none
 list:mg "list" = none
 int:mg "int" = none
 dict:mg "dict" = none
 isinstance:mg "isinstance" = none
 all:mg "all" = none
 any:mg "any" = none
 str:mg "str" = none
 bool:mg "bool" = none
theorem gl{X:Cx}(h:X.env.kindOf x=some .globalImplicit):Gl X x:=h
theorem aL{A:Around}(hr:IF k A):A.units+30<cLine:=by have:=hr.un;omega
structure zv(P:Program)(w:World)(K:Fg)(mg:NE)(base:Heap)(k:Nat)(x:Str)(n:Nat)(F:List D->Option D):Prop where
 ex:∃f fd ps,bI P w K mg base CH k f fd ps (MU K F n)/\mg x=some (.ref f)/\iB K (.ref f)=true/\L2.WK K fd ps []
section
variable {X:Cx}{e:Expr}{es:List Expr}{fl:pD}{pos:Pos}
theorem zK{F:List D->Option D}(h:zv X.prog X.w X.K X.mg X.base k x n F)(hr:IF k X.A)(J:X.env.kindOf x=some .globalImplicit)(O:(e::es).length=n)(ha:SA X (e::es) fl)(I:LL x:=by decide)(he:BG X e es:=by rfl)(z:EH X pos es:=by rfl):SE X (.Call (.Name x p) (e::es) [] pos) (λρ=>(fl ρ).bind F):=by
 obtain⟨f,fd,ps,j,hm,hk,hb⟩:=h.ex;exact zSx j hr J hm hk hb O ha I he z
end
theorem qL{P:Program}{w:World}{K:Fg}{mg:NE}{base:Heap}{x qual:Str}{st:Stmt}{fa:Addr}{fd:FuncData}{N ps:List Str}{k:Nat}{F:VB}{f:List D->Option D}
  (j:rM K x qual st fa fd) (hm:mg x=some (.ref fa)) (hb:L2.WK K fd ps []) (S:zT N ps (zI st))
  (I:∀(z:Value)(A:Around)(outer:List Env)(s:Shared)(H:Hp),IF k (A.deeper<|envOfC qual (zI st) s.heap.objs.size fa z)->XI (xK CH P w K mg base N qual (zI st) fa z A outer s H E0).nox (yC st) F)
  (hf:∀ds d,ds.length=ps.length->f ds=some d->JI N F ds=some d):zv P w K mg base (k+1) x ps.length f:=
 ⟨fa,fd,ps,zVa j S I hf,hm,j.kp,hb⟩
theorem yV(h:decide (XS N nm).Nodup=true):(XS N nm).Nodup:=of_decide_eq_true h
end RD
namespace PySem
open PySem.Spec PyProof.Rows
theorem zN1:nN (.type "tuple") "keys" = pure none:=am_miss_of_fast (by decide +kernel)
set_option maxHeartbeats 1000000 in
theorem zDL{A:Around}{E:KD}{s:Shared}{o:Obj}{name:Str}{Q:Option Value->Shared->Prop}(hx:s.heap.get? a=some o)(hc:o.cls=.type "tuple")(j:o.data=.seq xs k)(hd:o.dict=none)(O:nN (.type "tuple") name=pure none)(S:(["__module__","__name__","__qualname__","__doc__","__annotations__"]:List Str).contains name=false)(Z:A.handled=none)(h:∀h' tk,(∀b ob,s.heap.get? b=some ob->h'.get? b=some ob)->Q none { s with heap:=h',toks:=tk })(hsz:name.length+100<=sizeLine:=by size_fits):
  wpAny (model prog w) A (getAttr? (.ref a) name) Q E s:=by
 obtain⟨c,Y,U,sl⟩:=o;simp only at hc j hd;subst hc j hd;obtain⟨hp,g,d,tk,os⟩:=s;have z:∀I,(⟨hp,g,d,I,os⟩:Shared).TypeIs (.ref a) "tuple":=λ_=>⟨_,hx,rfl⟩
 have f1:=sub_AttributeError;have f3:=F.slot_tuple_getattribute.lookup;have f4:=F.slot_tuple_getattribute.bind<|.ref a;have f5:=am_tuple_getattr_none;unfold getAttr? getAttrBy? getAttrBy
 repeat (any_goals (first|assumption|exact z _|((with_reducible show wpAny _ _ (call (Value.builtin "tuple.__getattribute__") _ _) _ _ _);refine gI F.slot_tuple_getattribute (z _) am_entry_tuple_getattribute (F.args_tuple_getattribute_2 _ _) (meets_getattribute_miss_tuple a xs k sl name _ O S hsz) ⟨hx,Z,λh' I e J=>?_⟩)|wp_step))
 obtain⟨t',u',he⟩:=J.there;show wpAny _ _ (getattributeRaised _ _ _ _ _ _ _) _ _ _;unfold getattributeRaised
 repeat (any_goals (first|assumption|wp_step))
 exact h _ _ J.keeps
end PySem
namespace PySem
open PySem.Spec PyProof.Rows
namespace F
theorem entry_dict_update_loop:entryFor table "dict.update.loop" = some Builtin.«dict.update.loop»:=entryFor_of_tree (by kernel_rfl)
theorem plain_dict_update_loop:plainId "dict.update.loop" = true:=by decide +kernel
end F
section
variable {prog:Program}{w:World}{K:Type}[DecidableEq K]{knd:KeyKind prog w K}{A:Around}{R:kQ->Shared->Prop}
theorem zFB(hA:A.handled=none){items:Array Value}(hda:d≠a)(Ez:d≠it)(hai:a≠it)(ps:List (K×Value))(hl:ps.length=items.size):
  ∀(n i:Nat)(s:Shared)(kvs:List (K×Value)),items.size-i=n->i<=items.size->s.heap.IsTupleIter it a i->s.heap.IsTuple a items->s.heap.DictOf knd d kvs->kvs.length<=i ->
   (∀j (hj:j<items.size),i<=j->∃b I,items[j]=.ref b/\b≠d/\b≠it/\s.heap.IsTuple b #[I,(ps[j]'(by omega)).2]/\knd.is (ps[j]'(by omega)).1 I=true)->items.size<=1000 ->
   (∀h' tk,h'.DictOf knd d ((ps.drop i).foldl (λacc p=>stored acc p.1 p.2) kvs)->(∀b o,b≠d->b≠it->s.heap.get? b=some o->h'.get? b=some o)->R (.ok<|.ret .none) { s with heap:=h',toks:=tk }) ->
   UF (model prog w) A (.builtin "dict.update.loop" ⟨[.ref d,.ref it,rawInt i,.none],[]⟩) R s:=by
 intro n
 induction n with
 |zero=>
  intro i s kvs hk hi J ht hd hlk AU hsz O;have Ff:i=items.size:=by omega
  subst Ff;refine Bp F.entry_dict_update_loop ?_;rw[Around.under_plainId F.plain_dict_update_loop _];show wpAny _ A.in1 (pyNext (.ref it) >>= _) _ _ s;refine wpAny_bind (wpAny_pyNext_tuple_end hA J ht (by simp) λh' rQ=>?_);show wpAny _ A.in1 (Bg d [] >>= λ_=>ret AD) _ _ _;refine wpAny_bind<|wpAny_pure<|wpAny_pure ?_;have e:ps.drop items.size=[]:=by rw[<- hl];exact CJ
  rw[e]at O;refine O h' s.toks ?_ λb o h1 h2 q=>rQ b o h2 q
  obtain⟨o,es,ep,ho,rest⟩:=hd
  exact⟨o,es,ep,rQ d o Ez ho,rest⟩
 |succ n ih=>
  intro i s kvs hk hi J ht hd hlk AU hsz O;have HI:i<items.size:=by omega
  have hlp:i<ps.length:=by omega
  obtain⟨b,I,kS,hb2,jU,hb4,hb5⟩:=AU i HI<|wA _;refine Bp F.entry_dict_update_loop ?_;rw[Around.under_plainId F.plain_dict_update_loop _];show wpAny _ A.in1 (pyNext (.ref it) >>= _) _ _ s;refine wpAny_bind (wpAny_pyNext_tuple_item J ht (x:=.ref b) (by rw[<- kS];simp[HI]) λU oU sP=>?_)
  have lS:U.IsTuple b #[I,(ps[i]'hlp).2]:=by
   obtain⟨o,q,r⟩:=hb4;exact⟨o,(sP.2 b jU).trans q,r⟩
  have PY:U.DictOf knd d kvs:=by
   obtain⟨o,es,ep,ho,rest⟩:=hd;exact⟨o,es,ep,(sP.2 d Ez).trans ho,rest⟩
  have hT:(⟨U,s.gens,s.drawn,s.toks,s.os⟩:Shared).TypeIs (.ref b) "tuple":=by
   obtain⟨o,q,c,_⟩:=lS;exact⟨o,q,c⟩
  obtain⟨ob,qb,cb,nb,db⟩:=id lS;show wpAny _ A.in1 (holding [pB b] _ >>= _) _ _ _;refine wpAny_bind<|wpAny_holding ?_;refine wpAny_bind ?_
  have h6:wpAny (model prog w) A.in1 (BJ<|.ref b) (λl s'=>l=[I,(ps[i]'hlp).2]/\s'=⟨U,s.gens,s.drawn,s.toks,s.os⟩) (λ_ _=>False) ⟨U,s.gens,s.drawn,s.toks,s.os⟩:=by
   unfold BJ;refine wpAny_bind<|wpAny_typeOf hT ?_;rw[if_pos<|by decide];refine wpAny_bind (wpAny_seqItems qb db<|wpAny_pure ⟨by simp,rfl⟩)
  refine wpAny_tryCatch (wpAny_mono h6 (λl s' hl'=>?_) λ_ _ z=>z.elim);obtain⟨rfl,rfl⟩:=hl';show wpAny _ _ (holding [I,(ps[i]'hlp).2]<|dictSet d I (ps[i]'hlp).2) _ _ _;refine wpAny_holding (wpAny_dictSet_pairs (hsz:=QA (show kvs.length<=1000 by omega)<|by decide) hb5 PY λY QY xS=>?_);refine wpAny_pure ⟨plainId_quiet F.plain_dict_update_loop _,?_⟩
  have pU:Y.IsTupleIter it a (i+1):=by
   obtain⟨o,q,r⟩:=oU;exact⟨o,(xS.2 it<|Ne.symm Ez).trans q,r⟩
  have kp:∀b o,b≠d->b≠it->s.heap.get? b=some o->Y.get? b=some o:=λb o Z q2 q3=>(xS.2 b Z).trans<|(sP.2 b q2).trans q3
  have dZ:Y.IsTuple a items:=by
   obtain⟨o,q,r⟩:=ht;exact⟨o,kp a o (Ne.symm hda) hai q,r⟩
  have S:(stored kvs (ps[i]'hlp).1 (ps[i]'hlp).2).length<=i+1:=by
   unfold stored;split
   .rw[kA];omega
   .rw[rA];simp;omega
  have:=ih (i+1) ⟨Y,s.gens,s.drawn,s.toks+1,s.os⟩ (stored kvs (ps[i]'hlp).1 (ps[i]'hlp).2) (by omega) HI pU dZ QY S (λj hj hij=>by
   obtain⟨b',Gp,c1,c2,c3,⟨o',c4,c5⟩,c6⟩:=AU j hj (by omega);exact⟨b',Gp,c1,c2,c3,⟨o',kp b' o' c2 c3 c4,c5⟩,c6⟩) hsz (λh' tk AG rQ=>by
   have e:ps.drop i=ps[i]'hlp::ps.drop (i+1):=kE hlp;rw[e,AE]at O;exact O h' tk AG λb o Z q2 q3=>rQ b o Z q2<|kp b o Z q2 q3)
  have e2:((i+1:Nat):Int)=(i:Int)+1:=by push_cast;rfl
  rw[e2]at this;exact this
end
end PySem
namespace RD
open PySem PySem.Spec PyProof.Rows L2
noncomputable def cH:D->Option XB
 |.int i=>some<|.inl i
 |.str x=>some<|.inr x
 |_=>none
noncomputable def RW:List D->Option (List<|XB×D)
 | []=>some []
 |.tup [k,v]::r=>(cH k).bind λk'=>(RW r).map ((k',v) :: ·)
 |_=>none
noncomputable def dN(kvs:List (XB×D))(k:XB)(v:D):List (XB×D):=if (kvs.any λkv=>decide<|kv.1=k)=true then kvs.map (λkv=>if kv.1=k then (kv.1,v) else kv) else kvs++[(k,v)]
def wJ(kvs:List (XB×D))(k:XB):Option D:=(kvs.find? λkv=>decide<|kv.1=k).map (·.2)
def GQ:D->Option (List<|XB×D)
 |.tup xs=>if xs.length<=1000 then (RW xs).map λps=>ps.foldl (λacc p=>dN acc p.1 p.2) [] else none
 |_=>none
section
variable {K:Fg}{G:Hp}
theorem HW:pG K G [] []:=⟨rfl,CA.nil⟩
theorem FW(r:Rep K G d v)(h:pG K G kvs ws):pG K G ((k,d)::kvs) ((k,v)::ws):=⟨by simp[h.1],CA.cons r h.2⟩
theorem U3{p:XB×D}(h:pG K G (p::kvs) ws):∃v r,ws=(p.1,v)::r/\Rep K G p.2 v/\pG K G kvs r:=by
 obtain⟨h1,h2⟩:=h
 cases ws with
 |nil=>simp at h1
 |cons q ws=>
  obtain⟨k,v⟩:=q;simp only[eA,uC]at h1;obtain⟨j,z⟩:=h1;obtain⟨r1,r2⟩:=CA.inv h2;exact⟨v,ws,by simp[j],r1,z,r2⟩
theorem pG.length{kvs:List (XB×D)}{ws:List (XB×V)}(h:pG K G kvs ws):kvs.length=ws.length:=by
 have:=congrArg dE h.1;simpa using this
theorem pG.any:∀{kvs:List (XB×D)}{ws:List (XB×V)},pG K G kvs ws->(kvs.any λkv=>decide<|kv.1=k)=ws.any λkv=>decide (kv.1=k)
 |[],ws,h=>by
  have:=h.length
  cases ws with
  |nil=>rfl
  |cons _ _=>simp at this
 |p::kvs,ws,h=>by
  obtain⟨v,r,rfl,_,h2⟩:=U3 h;rw[QC,QC,pG.any h2]
theorem pG.snoc(r:Rep K G d v):∀{kvs:List (XB×D)}{ws:List (XB×V)},pG K G kvs ws->pG K G (kvs++[(k,d)]) (ws++[(k,v)])
 |[],ws,h=>by
  have:=h.length
  cases ws with
  |nil=>exact FW r HW
  |cons _ _=>simp at this
 |p::kvs,ws,h=>by
  obtain⟨z,j,rfl,h1,h2⟩:=U3 h;exact FW (k:=p.1) h1<|pG.snoc r h2
theorem pG.repl(r:Rep K G d v):∀{kvs:List (XB×D)}{ws:List (XB×V)},pG K G kvs ws->pG K G (kvs.map λkv=>if kv.1=k then (kv.1,d) else kv) (ws.map λkv=>if kv.1=k then (kv.1,v) else kv)
 |[],ws,h=>by
  have:=h.length
  cases ws with
  |nil=>exact HW
  |cons _ _=>simp at this
 |p::kvs,ws,h=>by
  obtain⟨z,j,rfl,h1,h2⟩:=U3 h;rw[eA,eA];by_cases e:p.1=k
  .rw[if_pos e,if_pos e];exact FW r<|pG.repl r h2
  .rw[if_neg e,if_neg e];exact FW (k:=p.1) h1<|pG.repl r h2
theorem pG.put(r:Rep K G d v)(h:pG K G kvs ws):pG K G (dN kvs k d) (vH ws k v):=by
 unfold dN vH;rw[h.any];split
 .exact h.repl r
 .exact h.snoc r
theorem pG.get:∀{kvs:List (XB×D)}{ws:List (XB×V)},pG K G kvs ws->(wJ kvs k=none/\oG ws k=none)\/∃d v,wJ kvs k=some d/\oG ws k=some v/\Rep K G d v
 |[],ws,h=>by
  have:=h.length
  cases ws with
  |nil=>exact .inl ⟨rfl,rfl⟩
  |cons _ _=>simp at this
 |p::kvs,ws,h=>by
  obtain⟨j,z,rfl,h1,h2⟩:=U3 h;by_cases e:p.1=k
  .exact .inr ⟨p.2,j,by simp[wJ,vA,e],V8 e,h1⟩
  .rcases pG.get (k:=k) h2 with⟨a,b⟩|⟨d,v,a,b,c⟩
   .exact .inl ⟨by simpa[wJ,vA,e] using a,by rw[R3 e];exact b⟩
   .exact .inr ⟨d,v,by simpa[wJ,vA,e] using a,by rw[R3 e];exact b,c⟩
theorem pG.fold{ps:List (XB×D)}:∀{ws:List (XB×V)}{kvs:List (XB×D)}{us:List (XB×V)},pG K G ps ws->pG K G kvs us->pG K G (ps.foldl (λacc p=>dN acc p.1 p.2) kvs) (ws.foldl (λacc p=>vH acc p.1 p.2) us):=by
 induction ps with
 |nil=>
  intro ws kvs us h h';have:=h.length
  cases ws with
  |nil=>exact h'
  |cons _ _=>simp at this
 |cons p ps ih=>
  intro ws kvs us h h';obtain⟨z,j,rfl,h1,h2⟩:=U3 h;show pG K G (ps.foldl _<|dN kvs p.1 p.2) (j.foldl _<|vH us p.1 z);exact ih (ws:=j) h2<|h'.put h1
end
theorem zS5{ws:List (XB×V)}:∀{qs:List (XB×Value)}{us:List (XB×V)}{vs:List (XB×Value)},KV ws qs->KV us vs->KV (ws.foldl (λacc p=>vH acc p.1 p.2) us) (qs.foldl (λacc p=>stored acc p.1 p.2) vs):=by
 induction ws with
 |nil=>intro qs us vs h h';cases h;exact h'
 |cons p ps ih=>
  intro qs us vs h h'
  cases h with
  |cons h1 h2=>
   obtain⟨e,r⟩:=h1;rw[AE,AE,<- e];exact ih h2<|h'.put p.1 r
theorem zQQ{ws:List (XB×V)}:∀{us:List (XB×V)},(ws.foldl (λacc p=>vH acc p.1 p.2) us).length<=us.length+ws.length:=by
 induction ws with
 |nil=>intro us;simp
 |cons p ps ih=>
  intro us;rw[AE];have h1:=ih (us:=vH us p.1 p.2);have h2:=qo us p.1 p.2;simp only[iA];omega
section
variable {X:Cx}
theorem EO{K:Fg}{G:Hp}{d:D}{k:XB}{v:V}(h:cH d=some k)(r:Rep K G d v):v=kV k:=by
 cases d with
 |int i=>cases h;exact yE.mp r
 |str x=>cases h;exact FP.mp r
 |_=>cases h
theorem xl{pins:oE}{s:Shared}(I:Inv X pins σ H s)(sm:zd G H):∀{xs:List D}{vs:List V}{its:List Value}{ps:List (XB×D)},RW xs=some ps->CA X.K G xs vs->yO vs its ->
  ∃(ws:List (XB×V))(qs:List (XB×Value)),pG X.K G ps ws/\KV ws qs/\qs.length=its.length /\
   ∀j (J:j<its.length) (hq:j<qs.length),∃b z,its[j]=.ref b/\s.heap.IsTuple b #[z,qs[j].2]/\(zt X.prog X.w).is qs[j].1 z=true
 |[],vs,its,ps,h,r,q=>by
  cases h;have:=yP.mp r;subst this;cases q
  exact⟨[],[],HW,.nil,rfl,λj J=>by simp at J⟩
 |d::xs,vs,its,ps,h,r,q=>by
  unfold RW at h;split at h
  .cases ‹_=[]›
  .rename_i k v r' O;cases O;obtain⟨k',Z,h⟩:=aA.mp h;obtain⟨PZ,e2,rfl⟩:=bA.mp h;obtain⟨v0,jH,rfl,r1,r2⟩:=zX.mp r
   cases q with
   |cons q1 q2=>
    rename_i u0 WU;obtain⟨ws,qs,a1,a2,U,Y⟩:=xl I sm e2 r2 q2;obtain⟨b,S,rfl,sb,rb⟩:=hV r1;cases q1;obtain⟨w1,t1,rfl,rk,t2⟩:=zX.mp rb;obtain⟨w2,t3,rfl,rv,t4⟩:=zX.mp t2;have:=yP.mp t4;subst this;have ek:=EO Z rk;subst ek;obtain⟨itb,S,tb,_⟩:=I.tuple<|qY sm sb;obtain⟨u1,u2,rfl,p1,p2⟩:=zVA S;refine⟨(k',w2)::ws,(k',u2)::qs,FW rv a1,.cons ⟨rfl,p2⟩ a2,by simp[U],λj J hq=>?_⟩
    cases j with
    |zero=>exact⟨b,u1,rfl,tb,EQ p1⟩
    |succ j=>exact Y j (by simpa using J) (by simpa using hq)
  .cases h
def cFD(K:Fg)(op:D->Option (List<|XB×D)):List V->Hp->VK->Prop:=λxs H Q=>∃G d1 kvs x,xs=[x]/\zd G H/\wH K G H d1 x/\op d1=some kvs /\
 ∀a ws G' H',zb G H G' H'->H a=none->G' a=none->H' a=some (.dK ws)->pG K G' kvs ws->Q (.ref a) H'
theorem zMV(GE:X.calm=true):tK X (.type "dict") (cFD X.K GQ):=by
 intro pins s σ H xs us Q I r h;obtain⟨G,d1,kvs,x,rfl,sm,r1,e,k⟩:=h;obtain⟨u,rfl,ru⟩:=ZN r
 cases d1 with
 |tup zs=>
  simp only[GQ]at e;split at e
  .rename_i hl;obtain⟨ps,e1,rfl⟩:=bA.mp e;obtain⟨a,vs,rfl,q,w⟩:=r1.tup sm;cases ru;obtain⟨its,vv,tn,hz⟩:=I.tupleN q;obtain⟨ws,qs,a1,a2,a3,a4⟩:=xl I sm e1 w vv;have l1:=w.length;have l2:=vv.length;have Fq:H s.heap.objs.size=none:=I.hok.fresh<|wA _;refine callType_codes (Q₁:=λobj mC=>obj=.ref s.heap.objs.size/\mC={ s with heap:=s.heap.push { cls:=.type "dict",data:=.dict #[] } }) F.kt_called_dict (F.kt_typeCall_dict_1 _) F.entry_dict_init (kt_code_dict_new _ ⟨rfl,rfl⟩) ?_;rintro obj mC ⟨rfl,rfl⟩;have tU:(s.heap.push { cls:=.type "dict",data:=.dict #[] }).DictOf (zt X.prog X.w) s.heap.objs.size []:=GM s.heap;have S:a<s.heap.objs.size:=tn.lt
   have jc:VN (s.heap.push { cls:=.type "dict",data:=.dict #[] }) a its.toArray:=by
    obtain⟨o,z,O⟩:=tn;exact⟨o,sA _ z,O⟩
   have sz1:(s.heap.push { cls:=.type "dict",data:=.dict #[] }).objs.size=s.heap.objs.size+1:=bG ..;refine⟨tU.typeIs,F.args_dict_init_2 _ _,?_⟩;unfold Builtin.«dict.__init__»;refine wpAny_bind ?_;unfold Bj;refine wpAny_bind<|wpAny_notOrdered_dict tU.typeIs ?_;show wpAny _ _ (pure (s.heap.objs.size,[pB a])) _ _ _;refine wpAny_pure ?_;show wpAny _ _ (jJ "dict.__init__" s.heap.objs.size (.ref a) [] .none) _ _ _;unfold jJ;refine wpAny_bind<|wpAny_typeOf (T:="tuple") jc.tup.typeIs ?_;rw[if_pos<|by decide];obtain⟨o,ho,hc,n,hd,nS⟩:=id jc;refine wpAny_bind (zDL ho hc hd nS zN1 (by decide +kernel) (I.ok.hd GE) (λJ Y1 k₂=>?_)<|by decide);show wpAny _ _ (rule _ >>= _) _ _ _;refine wpAny_bind<|wpAny_rule ?_;have tn2:VN J a its.toArray:=⟨o,k₂ a o ho,hc,n,hd,nS⟩
   refine wpAny_bind<|wpAny_pyIter_tuple (show J.IsTuple a its.toArray from tn2.tup) ?_
   have Z:s.heap.objs.size<J.objs.size:=by
    have z:(s.heap.push { cls:=.type "dict",data:=.dict #[] }).get? s.heap.objs.size=some { cls:=.type "dict",data:=.dict #[] }:=KA _ rfl;exact EA<|k₂ _ _ z
   have kp:∀b ob,s.heap.get? b=some ob->(J.push { cls:=.type "tuple_iterator",data:=.fields #[.ref a,.int 0 0] }).get? b=some ob:=λb ob q=>sA _<|k₂ b ob<|sA _ q
   have kD:(J.push { cls:=.type "tuple_iterator",data:=.fields #[.ref a,.int 0 0] }).DictOf (zt X.prog X.w) s.heap.objs.size []:=by
    obtain⟨od,es,ep,z,O⟩:=tU;exact⟨od,es,ep,sA _<|k₂ _ _ z,O⟩
   have tn3:(J.push { cls:=.type "tuple_iterator",data:=.fields #[.ref a,.int 0 0] }).IsTuple a its.toArray:=⟨o,sA _<|k₂ a o ho,hc,n,hd⟩
   refine wpAny_pure ⟨plainId_quiet F.plain_dict_update_loop _,?_⟩;refine zFB (A:=X.A.in1) (knd:=zt X.prog X.w) (a:=a) (items:=its.toArray) (I.ok.hd GE) (lH S) (VA Z) (VA<|nJ S Z) qs (by rw[a3];simp) _ 0 ⟨J.push { cls:=.type "tuple_iterator",data:=.fields #[.ref a,.int 0 0] },s.gens,s.drawn,Y1,s.os⟩ [] rfl (nC _) ⟨_,KA _ rfl,rfl,rfl⟩ tn3 kD (wA _) (λj hj _=>?_) (by rw[pA,<- l2,<- l1];exact hl) λh' tk AG rQ=>?_
   .obtain⟨b,key,b1,b2,b3⟩:=a4 j (by simpa using hj) (by rw[a3];simpa using hj);obtain⟨ob,z,O⟩:=b2;have blt:=EA z;exact⟨b,key,by simpa using b1,VA blt,VA<|nJ blt Z,⟨ob,kp b ob z,O⟩,b3⟩
   .have kp':∀b ob,s.heap.get? b=some ob->h'.get? b=some ob:=λb ob q=>rQ b ob (VA<|EA q) (VA<|nJ (EA q) Z) (kp b ob q)
    rw[NH]at AG
    have U:(ws.foldl (λacc p=>vH acc p.1 p.2) []).length<=sizeLine:=by
     have z:=zQQ (ws:=ws) (us:=[]);have O:=Paired.length a2;simp only[YB]at z;exact FS (by omega)
    have new:yt X.prog X.w (upd H s.heap.objs.size<|.dK<|ws.foldl (λacc p=>vH acc p.1 p.2) []) h' s.heap.objs.size (.dK<|ws.foldl (λacc p=>vH acc p.1 p.2) []):=
     ⟨U,beq_eq_false_iff_ne.mpr<|Ne.symm<|VA I.big,_,zS5 a2 .nil,AG⟩
    exact⟨rfl,⟨.ref s.heap.objs.size,_,I.laid (t':=tk) kp' (wA _) new,rfl,k _ _ G _ (zb.newH sm Fq) Fq (sm.free Fq) zL<|pG.fold a1 HW⟩⟩
  .cases e
 |_=>cases e
variable {a e:Expr}{f:dC}{i:Nat}{x:Str}{pos pos' p1:Pos}
def tFD(K:Fg)(f:mB->Option (List<|XB×D)):TE:=λσ H Q=>∃G ρ kvs,zd G H/\Er K G H ρ σ/\f ρ=some kvs /\
 ∀a ws G' H',zb G H G' H'->H a=none->G' a=none->H' a=some (.dK ws)->pG K G' kvs ws->Q (.ref a) H'
noncomputable def Si(i:Nat)(f:mB->Option (List<|XB×D)):VB:=λρ=>(f ρ).map λd=>.nx<|ρ.set i<|.m d
theorem zS6{j:mB->Option (List<|XB×D)}(i:Nat)(he:PE X e (tFD X.K j))(O:X.N.Nodup)(hi:X.N[i]?=some x)(hx:Loc X.env.scope x)(hs:ZI X e (some<|.Name x pos') pos:=by rfl)
  (hf:JL X x:=by first|exact .inl rfl|exact .inr rfl|assumption):SS X (.Assign [.Name x pos'] e pos) (Si i j):=
 yN (LO O hi hx he hs hf) λQ σ H=>by
  rintro⟨G0,H0,G,ρ,o,st,J,k⟩;obtain⟨d,I,rfl⟩:=bA.mp J;refine⟨G,ρ,d,st.bs.gh,st.er,I,λa vs G' H' t h1 h2 h3 r=>k _ G' H'<|st.setOwn t rfl h1 h2 (λ_ z=>by cases z) λxs z=>?_⟩;cases z;exact⟨vs,h3,r⟩
def zU(i:Nat)(f:dC):VB:=Si i λρ=>(f ρ).bind GQ
def Sj(i:Nat):VB:=Si i λ_=>some []
theorem xm(i:Nat)(z:X.N.Nodup)(hi:X.N[i]?=some x)(hx:Loc X.env.scope x)(hs:ZI X (.Dict [] [] p1) (some<|.Name x pos') pos:=by rfl)
  (hf:JL X x:=by first|exact .inl rfl|exact .inr rfl|assumption):SS X (.Assign [.Name x pos'] (.Dict [] [] p1) pos) (Sj i):=
 zS6 i (aG zK6 λσ H Q=>by rintro⟨G,ρ,kvs,sm,er,j,k⟩;cases j;exactλp hp=>k p [] G _ (zb.newH sm hp) hp (sm.free hp) zL HW) z hi hx hs hf
noncomputable def gM(ρ:mB)(i:Nat):Option (List<|XB×D):=match ρ[i]? with
 |some (.m kvs)=>some kvs
 |_=>none
theorem Ap{ρ:mB}(h:gM ρ i=some xs):ρ[i]?=some (.m xs):=by
 unfold gM at h;split at h
 .cases h;assumption
 .cases h
def B5(i:Nat)(f:dC):dC:=λρ=>(gM ρ i).bind λkvs=>(f ρ).bind λd=>(cH d).bind λk=>wJ kvs k
theorem zN2{b o:Expr}(hu:X.A.units+1<cLine)(i:Nat)(ho:PE X o (RF i))(hb:SE X b f)(hs:rT b:=by intro _ _;rfl):SE X (.Subscript o b pos) (B5 i f):=aG (NW hu ho hb hs) λσ H Q=>by
 rintro⟨G,ρ,d,s,er,ef,k⟩;obtain⟨kvs,Z,U⟩:=aA.mp ef;obtain⟨Y,e2,S⟩:=aA.mp U;obtain⟨j,e3,I⟩:=aA.mp S;have J:=Ap Z;obtain⟨a1,ws,O,q2,q3,q4⟩:=er.dic i kvs J;refine⟨_,O,G,ρ,Y,s,er,e2,λv G' H' t r=>?_⟩;obtain⟨a2,ES,w1,w2,w3,w4⟩:=(er.step t).dic i kvs J;rw[O]at w1;cases w1;have ek:=EO e3 r;subst ek;rcases w4.get (k:=j) with⟨z,_⟩|⟨d',v',z1,z2,z3⟩
 .rw[z]at I;cases I
 .rw[z1]at I;cases I;exact⟨a1,v',rfl,by rw[<- z2];exact cI.k (k:=j) w3,k _ G' H' t z3⟩
def jW(neg:Bool)(i:Nat)(f:dC):kF:=λρ=>(f ρ).bind λd=>(gM ρ i).bind λkvs=>(cH d).map λk=>if neg then !(wJ kvs k).isSome else (wJ kvs k).isSome
theorem zN3{I:Bool}{Q:Bool->Hp->Prop}(h:Io X.K (jW I i f) σ H Q):
  tE X.K f σ H λy H1=>RF i σ H1 λx H2=>∃a o,x=.ref a/\cI H2 a y o/\Q (if I then !o.isSome else o.isSome) H2:=by
 obtain⟨G,ρ,b,s,er,ef,k⟩:=h;obtain⟨U,Z,S⟩:=aA.mp ef;obtain⟨kvs,Y,O⟩:=aA.mp S;obtain⟨j,e3,rfl⟩:=bA.mp O;have J:=Ap Y;refine⟨G,ρ,U,s,er,Z,λv G' H' t r=>?_⟩;obtain⟨a2,ES,w1,w2,w3,w4⟩:=(er.step t).dic i kvs J;have ek:=EO e3 r;subst ek;refine⟨_,w1,a2,_,rfl,cI.k (k:=j) w3,?_⟩;rcases w4.get (k:=j) with⟨z,z'⟩|⟨d',v',z1,z2,z3⟩
 .rw[z'] ;have:=k G' H' t;rw[z]at this;exact this
 .rw[z2];have:=k G' H' t;rw[z1]at this;exact this
theorem zS7(hu:X.A.units+1<cLine)(i:Nat)(I:PE X o (RF i))(ha:SE X a f)(hm:behindInMarks .NotIn o=false:=by rfl):SB X (.Compare a [.NotIn] [o] pos) (jW true i f):=
 WS (Qv (zIk hu ha I) hm) λσ H Q h=>by
  obtain⟨G,ρ,j,s,er,z,k⟩:=zN3 h;refine⟨G,ρ,j,s,er,z,λv G' H' t r=>?_⟩;obtain⟨Y,J,a2,o2,O,S,U⟩:=k v G' H' t r;exact⟨Y,J,a2,o2,O,S,_,rfl,U⟩
theorem zVm(hu:X.A.units+1<cLine)(i:Nat)(I:PE X o (RF i))(ha:SE X a f)(hm:behindInMarks .In o=false:=by rfl):SB X (.Compare a [.In] [o] pos) (jW false i f):=
 WS (Qv (zRm hu ha I) hm) λσ H Q h=>by
  obtain⟨G,ρ,j,s,er,z,k⟩:=zN3 h;refine⟨G,ρ,j,s,er,z,λv G' H' t r=>?_⟩;obtain⟨Y,J,a2,o2,O,S,U⟩:=k v G' H' t r;exact⟨Y,J,a2,o2,O,S,_,rfl,U⟩
def Z4(i:Nat)(fk f:dC):VB:=λρ=>(f ρ).bind λd=>(gM ρ i).bind λkvs=>(fk ρ).bind λdk=>(cH dk).bind λk=>if kvs.length<1000000 then some (.nx<|ρ.set i<|.m<|dN kvs k d) else none
theorem Pt{o O:Expr}{fk:dC}{HF:Pos}(hu:X.A.units+1<cLine)(i:Nat)(ho:PE X o (RF i))(hi:SE X O fk)(ha:SE X a f)(hs:ZI X a (some<|.Subscript o O HF) pos:=by rfl):
  SS X (.Assign [.Subscript o O HF] a pos) (Z4 i fk f):=
 yN (zNb hu ho hi ha hs) λE σ H=>by
  rintro⟨G0,H0,G,ρ,o,st,ef,k⟩;obtain⟨d,e1,bM⟩:=aA.mp ef;obtain⟨kvs,e2,IH⟩:=aA.mp bM;obtain⟨dk,e3,kW⟩:=aA.mp IH;obtain⟨S,e4,I⟩:=aA.mp kW;split at I
  .rename_i hl;cases I;have J:=Ap e2;refine⟨G,ρ,d,st.bs.gh,st.er,e1,λv G1 H1 t1 r1=>?_⟩;obtain⟨a1,ws,U,q2,q3,q4⟩:=(st.step t1).er.dic i kvs J;refine⟨_,U,G1,ρ,dk,t1.s,st.er.step t1,e3,λv2 G2 H2 t2 r2=>?_⟩;have CC:=(st.step t1).step t2;obtain⟨a2,ES,w1,w2,w3,Y⟩:=CC.er.dic i kvs J;rw[U]at w1;cases w1;have ek:=EO e4 r2;subst ek;have j:ES.length<sizeLine:=DA (by rw[<- Y.length];exact hl) (by decide);exact⟨a1,_,rfl,OP.k (k:=S) w3 j,k σ G2 _ (CC.mut J rfl rfl U (λys z=>by cases z) λys z=>by cases z;exact⟨_,rfl,Y.put<|Rep.mono t2.g _ _ r1⟩)⟩
  .cases I
end
def Qr(n:Nat)(p:kF)(F:VB):VB:=λρ=>wN p F n ρ
section
variable {X:Cx}{e a b:Expr}{es:List Expr}{f g:dC}{fl:pD}{p:kF}{pos:Pos}{o:Expr}{apos uB pos':Pos}{x:Str}
def J5(i j:Nat):VB:=λρ=>(gL ρ j).bind λxs=>(xs[xs.length-1]?).map λd=>.nx<|(ρ.set j<|.l xs.dropLast).set i<|.v d
theorem zVo(i j:Nat)(ho:PE X o (RF j))(hN:X.N.Nodup)(hi:X.N[i]?=some x)(hx:Loc X.env.scope x)
  (Z:WJ X o "pop":=by rfl) (aD:WM apos uB:=by rfl)
  (hs:ZI X (.Call (.Attribute o "pop" apos) [] [] uB) (some<|.Name x pos') pos:=by rfl)
  (hf:JL X x:=by first|exact .inl rfl|exact .inr rfl|assumption) :
  SS X (.Assign [.Name x pos'] (.Call (.Attribute o "pop" apos) [] [] uB) pos) (J5 i j):=
 yN (LO hN hi hx (zRk IB WE XE zVH ho Z aD) hs hf) λE σ H=>by
  rintro⟨G0,H0,G,ρ,o,st,I,k⟩;obtain⟨xs,e1,I⟩:=aA.mp I;obtain⟨d,e2,rfl⟩:=bA.mp I;have S:=cX e1;obtain⟨a1,vs,U,q2,Y,O⟩:=st.er.own j xs S;obtain⟨v,e3,r⟩:=O.get e2;rw[O.length]at e3;refine⟨_,U,.inl ⟨rfl,vs,GF.of Y⟩,a1,vs,v,rfl,rfl,Y,e3,?_⟩;exact k _ G _ ((st.mut S rfl rfl U (λys z=>by cases z;exact⟨_,rfl,O.dropLast⟩) λ_ z=>by cases z).setV r)
def L5(i:Nat)(fl:pD):VB:=λρ=>(gL ρ i).bind λxs=>(fl ρ).bind λys=>if xs.length+ys.length<=1000000 then some (.nx<|ρ.set i<|.l<|xs++ys) else none
theorem zI4(i:Nat)(ho:PE X o (RF i))(ha:SF X a fl)
  (Y:WJ X o "extend":=by rfl)
  (gG:RO X uB [a]:=by rfl)
  (Z:WM apos uB:=by rfl) (hs:BG X a []:=by rfl) (dD:EH X uB []:=by rfl)
  (U:ZI X (.Call (.Attribute o "extend" apos) [a] [] uB) none pos:=by rfl) :
  SS X (.Expr (.Call (.Attribute o "extend" apos) [a] [] uB) pos) (L5 i fl):=
 yN (rR (OO IB HK IK zNV ho (zx ha yl hs) Y gG Z hs dD) U) λE σ H=>by
  rintro⟨G0,H0,G,ρ,o,st,j,k⟩;obtain⟨xs,e1,j⟩:=aA.mp j;obtain⟨ys,e2,j⟩:=aA.mp j;split at j
  .rename_i hl;cases j;have I:=cX e1;obtain⟨a1,vs,J,q2,q3,q4⟩:=st.er.own i xs I;refine⟨_,J,.inl ⟨rfl,vs,GF.of q3⟩,G,ρ,ys,st.bs.gh,st.er,e2,λb us G' H' t h1 h2 h3 r=>?_⟩;have CC:=st.step t;obtain⟨a2,S,w1,w2,w3,O⟩:=CC.er.own i xs I;rw[J]at w1;cases w1;refine⟨a1,b,S,us,rfl,rfl,w3,h3,?_,k σ G' _<|CC.mut I rfl rfl J (λzs z=>by cases z;exact⟨_,rfl,O.append r⟩) λ_ z=>by cases z⟩;rw[<- O.length,<- r.length];exact QA hl (by decide)
  .cases j
end
section
variable {prog:Program}{w:World}{A:Around}{E:KD}{s:Shared}
theorem zGi{vs:List Value}{P:Fin->Shared->Prop}(J:s.heap.get? a=some (seqObj "list" vs.toArray n))(z:HX vs ss)(I:vs.length<64)(h:∀(out:Array Value)(j:List Str),HX out.toList j->j.Perm ss->sortedS j=true->P (.done<|.ret .none) { s with heap:=sortedHeap s.heap a vs out }):
  wpAny (model prog w) A (Builtin.«list.sort» ⟨[.ref a],[]⟩) P E s:=by
 refine list_sort_treeK strKind_oneLt J z.keysOf (λO S rest e=>keyKind_strs (by rw[<- e];exact z)) I λCC hp hs=>?_
 obtain⟨j,h1,h2,h3⟩:=sorted_out_str z hp hs;exact h _ j h1 h2 h3
theorem zKE{kvs:List (XB×Value)}{Q:KD}(lo:(d==sysModules)=false)(hh:A.handled=none)(hd:s.heap.DictAt (zt prog w) d kvs ep)(O:kvs.length<64) (h:∀(h':Heap)(tk:Nat)(vs:List Value),(∀b o,s.heap.get? b=some o->h'.get? b=some o)->vs.length=kvs.length->(∀(j:Nat)(v:Value),vs[j]?=some v->∃k x,kvs[j]?=some (k,x)/\(zt prog w).is k v=true) ->
   wpAny (model prog w) A.in1.in1 (Builtin.«list.sort» ⟨[.ref h'.objs.size],[]⟩) (λfin s'=>∃v,fin=.done (.ret v)/\Q (.ref h'.objs.size) s') E { s with heap:=h'.push<|seqObj "list" vs.toArray 0,toks:=tk }) :
  wpAny (model prog w) A (call (.builtin "sorted") [.ref d]) Q E s:=by
 refine Calls.call_function_entry kind_sorted plain_sorted entry_sorted (args_sorted1 _) ?_;unfold Builtin.«sorted»;refine wpAny_bind (m:=checkCount "sorted" 1 1 _)<|wpAny_pure ?_;refine wpAny_bind (PySem.W.kdu_collect (A:=A.in1) (PySem.W.kdl_dict lo) hh hd (by rw[sizeLine_eq];omega) λh' tk acc hk z=>?_);have I:acc.toList.length=kvs.length:=by rw[jE];exact z.1
 refine wpAny_bind (wpAny_newList ?_ (by rw[I,sizeLine_eq];omega));have J:=h h' tk acc.toList hk I (λj v e=>z.2 j v (by rw[<- fF];exact e));refine wpAny_bind (wpAny_holding<|wpAny_call_entry slot_list_sort ⟨_,KA _ rfl,rfl⟩ entry_list_sort (wpAny_mono J (λfin s' x=>?_) λ_ _ e=>e)<|args_list_sort _);obtain⟨v,rfl,q⟩:=x;exact⟨_,rfl,wpAny_pure ⟨_,rfl,q⟩⟩
end
noncomputable def WO:XB->D
 |.inl i=>.int i
 |.inr x=>.str x
def Aq(kvs:List (XB×D)):List D:=kvs.map λq=>WO q.1
theorem zLI:∀{xs:List V}{us:List Value},xs.length=us.length->(∀(j:Nat)(u:Value),us[j]?=some u->∃x,xs[j]?=some x/\yk x u)->yO xs us
 | [],[],_,_=>.nil
 |x::xs,u::us,hl,h=>by
  obtain⟨y,e,r⟩:=h 0 u rfl;simp at e;subst e
  exact .cons r (zLI (by simpa using hl) λj u' e=>by simpa using h (j+1) u' (by simpa using e))
 | [],_::_,hl,_=>by simp at hl
 |_::_,[],hl,_=>by simp at hl
theorem zS8(h:vV k v=true):yk (kV k) v:=by
 rcases yU h with⟨i,t,rfl,rfl⟩|⟨x,t,rfl,rfl⟩
 .exact⟨t,rfl⟩
 .exact⟨t,rfl⟩
def toV:D->V
 |.int i=>.int i
 |.str x=>.str x
 |_=>.non
theorem zVq(k:XB):kV k=toV (WO k):=by cases k<;>rfl
theorem zS9{j:Type}(kvs:List (XB×j)):(kvs.map λq=>kV q.1)=(kvs.map λq=>WO q.1).map toV:=by
 rw[vB];exact cC λq _=>zVq q.1
theorem zRx{z:Type}:∀{kvs:List (z×V)}{vs:List (z×Value)}{j:Nat}{k:z}{x:Value},KV kvs vs->vs[j]?=some (k,x)->∃y,kvs[j]?=some (k,y)
 |_,_,j,k,x,.nil,e=>by simp at e
 |(k0,y0)::_,(k1,u0)::_,0,k,x,.cons h t,e=>by
  simp at e;have h1:k0=k1:=h.1
  exact⟨y0,by simp[h1,e.1]⟩
 |_::_,_::_,j+1,k,x,.cons h t,e=>by simpa using zRx (j:=j) t (by simpa using e)
section
variable {X:Cx}
theorem vd(GE:X.calm=true):tK X (.builtin "sorted") (λxs H Q=>∃a kvs ys,xs=[.ref a]/\H a=some (.dK kvs)/\FQ (.lst<|kvs.map λq=>WO q.1)=some ys/\∀l us,H l=none->(∀K G,CA K G ys us)->Q (.ref l) (upd H l<|.lst us)):=by
 intro pins s σ H xs us Q I r h;obtain⟨a,kvs,ys,rfl,hH,e,k⟩:=h;obtain⟨u,rfl,ru⟩:=ZN r;cases ru;obtain⟨hz,lo,vs,kv,dd⟩:=Ak I.hok hH;obtain⟨ep,da⟩:=dd.dictAt;simp only[FQ,CV,cA]at e;split at e
 .rename_i hl;rw[kA]at hl;have l1:vs.length=kvs.length:=kv.length.symm;refine zKE (kvs:=vs) lo (I.ok.hd GE) da (by omega) λh' tk its keep hlen J=>?_
  have I1:Inv X pins σ H { s with heap:=h',toks:=tk }:=I.kept (t':=tk) keep;have hn:H h'.objs.size=none:=I1.hok.fresh<|wA _
  have O:yO (kvs.map λq=>kV q.1) its:=zLI (by rw[kA];omega) λj u eu=>by
   obtain⟨kk,xx,z,U⟩:=J j u eu;obtain⟨y,e3⟩:=zRx kv z;refine⟨kV kk,by rw[gB,e3];rfl,zS8 ?_⟩;exact U
  rw[zS9]at O
  have fin:∀{out:Array Value}{jH:List V},yO jH out.toList->(∀K G,CA K G ys jH)->jH.length<=sizeLine->EP X pins σ Q (.ref h'.objs.size) { s with heap:=sortedHeap (h'.push<|seqObj "list" its.toArray 0) h'.objs.size its out,toks:=tk }:=λ{out jH} h1 h2 h3=>by
   obtain⟨e',he⟩:=sortedHeap_at (h:=h'.push<|seqObj "list" its.toArray 0) (a:=h'.objs.size) (vs:=its) (n:=0) (out:=out)<|KA _ rfl;refine⟨.ref h'.objs.size,upd H h'.objs.size<|.lst jH,I1.laid (t':=tk) (λb ob eb=>?_) (wA _) ⟨h3,out.toList,e',h1,?_⟩,rfl,k _ _ hn h2⟩
   .have blt:=EA eb;rw[sortedHeap_old (VA blt)<|DA blt (by rw[bG];exact GD _)];exact sA _ eb
   .rw[he]
  split at e
  .rename_i is hi;cases e;have z:=Nf hi;rw[z,vB]at O;refine wpAny_mono (list_sort_tree (P:=λfin s'=>∃v,fin=.done (.ret v)/\EP X pins σ Q (.ref h'.objs.size) s') (n:=0) (KA _ rfl) (zGv (ns:=is) O) (by omega) λout Gw a1 a2 S=>⟨_,rfl,?_⟩) (λ_ _ x=>x) λ_ _ x=>x
   have Z:=kx _ _ (a2.trans (X2 is).symm) S<|Om is;subst Z;refine fin (Ln a1) (λK G=>CA.ints _) ?_;have:=(X2 is).length_eq;have:=congrArg dE z;simp only[kA]at this ⊢;exact FS (by omega)
  .rename_i hi;obtain⟨ss,U,rfl⟩:=bA.mp e;have z:=M8 U;rw[z,vB]at O;refine wpAny_mono (zGi (P:=λfin s'=>∃v,fin=.done (.ret v)/\EP X pins σ Q (.ref h'.objs.size) s') (n:=0) (KA _ rfl) (m8 (ss:=ss) O) (by omega) λout Gw a1 a2 S=>⟨_,rfl,?_⟩) (λ_ _ x=>x) λ_ _ x=>x
   have Z:=vc _ _ (a2.trans (Y2 ss).symm) (xj S)<|On ss;subst Z;refine fin (Lm a1) (λK G=>CA.strs _) ?_;have:=(Y2 ss).length_eq;have:=congrArg dE z;simp only[kA]at this ⊢;exact FS (by omega)
 .cases e
variable {e:Expr}{x:Str}{p1 pos:Pos}
def Su(i:Nat):pD:=λρ=>(gM ρ i).bind λkvs=>FQ<|.lst<|Aq kvs
theorem zQV(i:Nat)(GE:X.calm=true)(U:Gl X "sorted")(hm:X.mg "sorted" = none)(Z:PE X e (RF i))
  (hs:BG X e []:=by rfl) (I:EH X pos []:=by rfl):SF X (.Call (.Name "sorted" p1) [e] [] pos) (Su i):=
 aG (Q3 (vd GE) U hm Y8 (zx Z yl hs) (by decide) (by decide) hs I) λσ H Q=>by
  rintro⟨G,ρ,ys,s,er,S,k⟩;obtain⟨kvs,J,O⟩:=aA.mp S;obtain⟨a,ws,q1,q2,q3,q4⟩:=er.dic i kvs<|Ap J;refine⟨_,q1,a,ws,ys,rfl,q3,?_,λl us j r=>?_⟩
  .rw[<- O]
   have z:(ws.map λq=>WO q.1)=Aq kvs:=by
    have:=congrArg (NN WO) q4.1;rw[vB,vB]at this;exact this.symm
   rw[z]
  .exact k l us G _ (zb.newH s j) j (s.free j) zL<|r _ _
end
noncomputable def E7:D->String
 |.non=>"NoneType" | .bl _=>"bool" | .int _=>"int" | .str _=>"str" | .tup _=>"tuple" | .lst _=>"list"
def M5(T:String)(d:D):Bool:=E7 d==T || (E7 d == "bool" && T == "int")
def EV(T:String)(d:D):Option D:=some<|.bl<|M5 T d
noncomputable def eR(T:String):Bool:=T == "tuple" || T == "int" || T == "bool" || T == "str" || T == "list"
theorem zVs{K:Fg}{T:String}(z:eR T=true)(d:D):PySem.W.kitOne K (.type<|E7 d) (.type T)=some (M5 T d):=by
 have j:T = "tuple"\/T = "int"\/T = "bool"\/T = "str"\/T = "list":=by simpa[eR,or_assoc] using z
 rcases j with rfl|rfl|rfl|rfl|rfl<;>cases d<;>first|rfl|kernel_rfl
section
variable {X:Cx}{a:Expr}{f:dC}{p1 p2 pos:Pos}
theorem zQW{T:String}(J:eR T=true):tK X (.builtin "isinstance") (λxs H Q=>∃G d x,xs=[x,.ty T]/\zd G H/\wH X.K G H d x/\Q (.bl<|M5 T d) H):=by
 intro pins s σ H xs us Q I r h;obtain⟨G,d,x,rfl,sm,j,q⟩:=h;obtain⟨u,O,rfl,r1,r2⟩:=zVA r;cases (show O=nO T from r2);have e:=zVs (K:=X.K) J d;have fin:∀tk,EP X pins σ Q (.bool<|M5 T d) { s with toks:=tk }:=λtk=>⟨.bl _,H,I.tok tk,rfl,q⟩
 cases d with
 |non=>have:=j.non;subst this;cases (show u=AD from r1);exact nE PySem.W.kitx_none I.kIn True.intro e (λz=>nomatch z) fin
 |bl b=>have:=j.bl;subst this;cases (show u=jF b from r1);exact nE PySem.W.kitx_bool I.kIn True.intro e (λz=>nomatch z) fin
 |int i=>have:=j.int;subst this;obtain⟨t,q⟩:=(show∃t,u=OH i t from r1);cases q;exact nE PySem.W.kitx_int I.kIn True.intro e (λz=>nomatch z) fin
 |str i=>have:=j.str;subst this;obtain⟨t,q⟩:=(show∃t,u=uJ i t from r1);cases q;exact nE PySem.W.kitx_str I.kIn True.intro e (λz=>nomatch z) fin
 |tup ys=>
  obtain⟨b,vs,rfl,sq,_⟩:=j.tup sm;cases (show u=pB b from r1);obtain⟨its,_,⟨o,h1,h2,_⟩,_⟩:=I.tuple sq
  exact nE PySem.W.kitx_tuple I.kIn ⟨o,h1,h2⟩ e (λz=>nomatch z) fin
 |lst ys=>
  obtain⟨b,vs,rfl,sq,_⟩:=j.list sm;cases (show u=pB b from r1);obtain⟨its,_,⟨o,n,h1,h2,_⟩,_⟩:=I.list sq;exact nE PySem.W.kitx_list I.kIn ⟨o,h1,h2⟩ e (λz=>nomatch z) fin
theorem S9(hT:eR T=true)(hg:Gl X "isinstance")(hm:X.mg "isinstance" = none)(J:Gl X y)(O:X.mg y=none)(z:HB y=some (.type T))(ha:SR X a f)(U:y ≠ "__name__":=by decide)(I:LL y:=by decide)(hs:BG X a [.Name y p2]:=by rfl)(UM:BG X (.Name y p2) []:=by rfl)(Z:EH X pos [.Name y p2]:=by rfl):SE X (.Call (.Name "isinstance" p1) [a,.Name y p2] [] pos) (b1 f<|EV T):=
 aG (Q3 (zQW hT) hg hm zI3 (zx ha (zx (zSR (v:=.ty T) J O z rfl U I) yl UM) hs) (by decide) (by decide) hs Z) λσ H Q=>by
  rintro⟨G,ρ,d,s,er,j,k⟩;obtain⟨d1,e1,j⟩:=aA.mp j;cases j;exact⟨G,ρ,d1,s,er,e1,λv1 Y H1 t1 r1=>⟨Y,d1,v1,rfl,t1.s,r1,k _ Y H1 t1<|yZ.mpr rfl⟩⟩
end
noncomputable def wQ:List D->Option (List Bool)
 | []=>some []
 |.bl b::r=>(wQ r).map (b :: ·)
 |_=>none
def Bd:D->Option D
 |.lst xs=>(wQ xs).map λbs=>.bl<|bs.all id
 |_=>none
def Be:D->Option D
 |.lst xs=>(wQ xs).map λbs=>.bl<|bs.any id
 |_=>none
theorem Lo:∀{xs:List D}{bs:List Bool},wQ xs=some bs->xs=bs.map .bl
 | [],bs,h=>by cases h;rfl
 |d::r,bs,h=>by
  cases d with
  |bl b=>
   obtain⟨j,e,rfl⟩:=bA.mp h
   rw[eA,<- Lo e]
  |_=>cases h
theorem Lp{K:Fg}{G:Hp}:∀{bs:List Bool}{vs:List V},CA K G (bs.map .bl) vs->vs=bs.map V.bl
 | [],vs,h=>yP.mp h
 |b::bs,vs,h=>by
  obtain⟨v,r,rfl,h1,h2⟩:=zX.mp h;rw[yZ.mp h1,Lp h2];rfl
theorem xn:∀{bs:List Bool}{us:List Value},yO (bs.map V.bl) us->us=bs.map jF
 | [],us,r=>by cases r;rfl
 |b::bs,us,r=>by
  cases r with
  |cons r1 r2=>cases (show _=jF b from r1);rw[xn r2];rfl
theorem zN4(bs:List Bool):(JA bs.length).all (λi=>bs.getD i false)=bs.all id:=by
 rw[JF];simp only[fE,gC];constructor
 .intro h b hb;obtain⟨i,hi,rfl⟩:=eE.mp hb;simpa[eI,hi] using h i hi
 .intro h i hi;have:=h bs[i] (iE hi);simpa[eI,hi] using this
theorem zN5(bs:List Bool):(JA bs.length).any (λi=>bs.getD i false)=bs.any id:=by
 rw[JF];simp only[nF,gC];constructor
 .rintro⟨i,hi,h⟩;exact⟨bs[i],iE hi,by simpa[eI,hi] using h⟩
 .rintro⟨b,hb,h⟩;obtain⟨i,hi,rfl⟩:=eE.mp hb;exact⟨i,hi,by simpa[eI,hi] using h⟩
section
variable {X:Cx}
theorem xp{pins:oE}{xs:List D}{bs:List Bool}{u:Value}{A:Around}{E:KD}{Q:Bool->Value->Shared->Prop}(GE:A.handled=none)(I:Inv X pins σ H s)(sm:zd G H)(r1:wH X.K G H (.lst xs) v)(ru:yk v u)(e:wQ xs=some bs)(R:List Bool->Bool)(tr:Nat->Bool)(z:tr=λi=>bs.getD i false)(h:∀(J:Addr)(fp U:List Addr)(n:Nat)(P:Nat->Value->Prop)(St:Nat->Heap->Prop)(h2:Heap),n=bs.length->Walks X.prog X.w A J fp U n P St->St 0 h2->TruthOf X.prog X.w A P tr->(∀h' tk,(∀b o,b∉U->h2.get? b=some o->h'.get? b=some o)->Inv X pins σ H { s with heap:=h',toks:=tk })->Q true (.ref J) { s with heap:=h2 }):
  wpAny (model X.prog X.w) A (pyIter u) (Q true) E s:=by
 have Z:=Lo e;subst Z;obtain⟨a,vs,rfl,q,w⟩:=r1.list sm;cases ru;obtain⟨its,vv,p,hz⟩:=I.list q;have hv:=Lp w;subst hv;have hu:=xn vv;subst hu;have j:=p.isList;have Y:a<s.heap.objs.size:=by obtain⟨_,e,_⟩:=j;exact EA e
 refine NX j ?_;refine h s.heap.objs.size _ _ _ _ _ _ ?_ (Walks.list GE s.heap.objs.size a (VA Y) (bs.map jF).toArray) ⟨⟨_,KA _ rfl,rfl,rfl⟩,j.push _⟩ ?_ ?_
 .simp
 .intro i v s' Q' E' hP hQ
  have:∃b,bs[i]?=some b/\v=.bool b:=by
   have O:(bs.map jF)[i]?=some v:=by simpa only[List.getElem?_toArray] using hP
   rw[gB]at O;obtain⟨b,h1,h2⟩:=bA.mp O;exact⟨b,h1,h2.symm⟩
  obtain⟨b,hb,rfl⟩:=this;rw[z]at hQ;simp only[eI,hb,dJ]at hQ;exact wpAny_truthy_bool hQ
 .intro h' tk hk;refine I.kept (t':=tk) λb o S=>hk b o ?_ (sA _ S)
  intro hm;have:=EA S;rw[gA.mp hm]at this;exact HC _ this
theorem zI5(GE:X.calm=true):tK X (.builtin "all") (cR X.K Bd):=by
 intro pins s σ H xs us Q I r h;obtain⟨G,d1,d,x,rfl,sm,r1,e,k⟩:=h;obtain⟨u,rfl,O⟩:=ZN r
 cases d1 with
 |lst zs=>
  obtain⟨bs,z,rfl⟩:=bA.mp e;refine call_all_walk ?_;refine xp (Q:=λ_=>_) (A:=X.A.in1) (I.ok.hd GE) I sm r1 O z (λ_=>true) _ rfl λj fp S n P St h2 J W st ht hk=>?_
  refine⟨j,fp,S,n,P,St,_,rfl,W,st,ht,λh' tk hh=>?_⟩;subst J;rw[zN4]
  exact⟨.bl _,H,hk h' tk hh,rfl,k _ G H (zb.refl sm)<|yZ.mpr rfl⟩
 |_=>cases e
theorem zI6(GE:X.calm=true):tK X (.builtin "any") (cR X.K Be):=by
 intro pins s σ H xs us Q I r h;obtain⟨G,d1,d,x,rfl,sm,r1,e,k⟩:=h;obtain⟨u,rfl,O⟩:=ZN r
 cases d1 with
 |lst zs=>
  obtain⟨bs,z,rfl⟩:=bA.mp e;refine call_any_walk ?_;refine xp (Q:=λ_=>_) (A:=X.A.in1) (I.ok.hd GE) I sm r1 O z (λ_=>true) _ rfl λj fp S n P St h2 J W st ht hk=>?_
  refine⟨j,fp,S,n,P,St,_,rfl,W,st,ht,λh' tk hh=>?_⟩;subst J;rw[zN5]
  exact⟨.bl _,H,hk h' tk hh,rfl,k _ G H (zb.refl sm)<|yZ.mpr rfl⟩
 |_=>cases e
variable {x:Str}{pos:Pos}
end
section
variable {X:Cx}{tg e:Expr}{f:dC}
end
section
variable {X:Cx}
end
theorem HOk.on{h h':Heap}(x:L2.HOk P w H h)(k:∀b u o,H b=some o->h.get? b=some u->h'.get? b=some u):L2.HOk P w H h':=λa o e=>
 (x a o e).stay (λb u hb q=>by
  rcases hb with rfl|hb
  .exact k _ u _ e q
  .exact k b u _ hb q) (λ_ q=>q) λ_ _ q=>q
theorem wx{h:Heap}(x:yt P w H h a o):∃u,h.get? a=some u:=by
 cases o with
 |lst xs=>obtain⟨_,_,_,_,e⟩:=x;exact⟨_,e⟩
 |tup xs=>obtain⟨_,_,_,ob,e,_⟩:=x;exact⟨_,e⟩
 |dK kvs=>obtain⟨_,_,_,_,ob,_,_,e,_⟩:=x;exact⟨_,e⟩
 |dT kvs=>obtain⟨_,_,_,_,ob,_,_,e,_⟩:=x;exact⟨_,e⟩
 |set S n=>obtain⟨ob,_,_,_,e,_⟩:=x;exact⟨_,e⟩
 |ins C dx fs=>obtain⟨_,_,_,e,_⟩:=x;exact⟨_,e⟩
 |own y=>exact x
 |xd fs=>obtain⟨_,⟨_,_,_,e,_⟩,_⟩:=x;exact⟨_,e⟩
 |rng lo hi=>obtain⟨_,_,_,e⟩:=x;exact⟨_,e⟩
 |frz ob u=>exact⟨_,x.1⟩
 |tbl ps=>exact⟨_,(show h.get? a=some { cls:=.none,data:=.fields ps } from x)⟩
 |met f y=>exact⟨_,(show h.get? a=some (dG (.ref f)<|.ref y) from x)⟩
 |ext j=>exact x.2.1
def PX(l:List Env)(x T:Addr)(cls:Value)(h:Heap):Prop:=∃a0,dH (OB h (x::T::fH l)) l x cls a0 h
theorem zVv{B h:Heap}(f:dH B l x cls a0 h):∃T,PX l x T cls h/\B.get? T=none/\T≠x/\(∃o ts,h.get? T=some o/\o.data=.fields ts):=by
 obtain⟨f1,f2,O,Z,vs,T,J,ts,g1,g2,g3,S,U,j,z,I,Y⟩:=f;refine⟨T,⟨a0,λb o e=>PF _ e,bD _ (by simp),?_,Z,vs,T,J,ts,g1,g2,g3,S,bD _ (by simp),j,z,I,Y⟩,U,j,J,ts,z,I⟩;exact QG O λenv he a ha=>dA _<|dA _<|ZA.mpr ⟨env,he,ha⟩
def jK(P:Program)(w:World):mQ:=λouter H s E e s'=>∃x T C H',e=.ref x/\s'.os=s.os/\vG s'.gens/\L2.Un (fH outer) [] H H' s.heap s'.heap/\L2.HOk P w H' s'.heap/\PX outer x T (.ref C) s'.heap /\
 s.heap.get? x=none/\s.heap.get? T=none/\H' x=none/\H' T=none/\E (.ref C) none H'
section
variable {P:Program}{w:World}{K:Fg}{mg:NE}{base:Heap}{N:List Str}{qual:Str}{scope:BF}{f:Addr}{cd:Value}{A:Around}{outer:List Env}{s₀:Shared}{H₀:Hp}{E:XK}
abbrev YD(P:Program)(w:World)(K:Fg)(mg:NE)(base:Heap)(N:List Str)(qual:Str)(scope:BF)(f:Addr)(cd:Value)(A:Around)(outer:List Env)(s₀:Shared)(H₀:Hp)(E:XK):Cx:=xK (jK P w) P w K mg base N qual scope f cd A outer s₀ H₀ E
theorem zN6{s:Shared}{h':Heap}(I:Inv (YD P w K mg base N qual scope f cd A outer s₀ H₀ E) pins σ H s)(hb:∀b∈j,b∈fH (envOfC qual scope s₀.heap.objs.size f cd::outer)\/(s₀.heap.get? b=none/\H b=none))(x1:dH (OB s.heap j) outer x (.ref C) a0 h')(x2:∀b∈fH outer,∀o,s.heap.get? b=some o->(∀vs,o.data≠.fields vs)->∃sl,h'.get? b=some { o with slots:=sl })(Ge:s₀.heap.get? x=none)(FY:H x=none)(hE:E (.ref C) none H):
  jK P w outer H₀ s₀ E (.ref x) { s with heap:=h' }:=by
 obtain⟨T,fl,t1,t2,oT,ts,t3,t4⟩:=zVv x1
 have hL:s₀.heap.get? s₀.heap.objs.size=none:=by
  cases q:s₀.heap.get? s₀.heap.objs.size with
  |none=>rfl
  |some o=>exact absurd (EA q)<|HC _
 -- a thing of the entry's heap that is j is a caller's frame
 have TQ:∀b o,s₀.heap.get? b=some o->b∈j->b∈fH outer:=λb o e m=>by
  rcases hb b m with q|⟨q,_⟩
  .rcases ZA.mp q with⟨env,he,hf⟩
   rcases nA.mp he with rfl|he
   .have z:s₀.heap.objs.size=b:=wB hf;rw[<- z,hL]at e;cases e
   .exact ZA.mpr ⟨env,he,hf⟩
  .rw[q]at e;cases e
 have stay:∀b o,s.heap.get? b=some o->b∉j->h'.get? b=some o:=λb o e nb=>x1.1 b o<|jD _ e nb
 have Z:∀b,b∈fH outer->∃o,s.heap.get? b=some o/\∀vs,o.data≠.fields vs:=λb m=>by
  obtain⟨_,o,ho,hd⟩:=I.stack.mem (ZA.mpr (by
   obtain⟨env,he,hf⟩:=ZA.mp m;exact⟨env,dA _ he,hf⟩))
  exact⟨o,ho,hd⟩
 have TU:∀b o,H b=some o->b∉j:=λb o e m=>by
  rcases hb b m with q|⟨_,q⟩
  .have:=I.stkFree b q;rw[this]at e;cases e
  .rw[q]at e;cases e
 have U:s₀.heap.get? T=none:=by
  cases q:s₀.heap.get? T with
  |none=>rfl
  |some o=>
   exfalso;obtain⟨o',q'⟩:=I.base.there T o q (by show T∉([]:List Addr);simp);by_cases m:T∈j
   .obtain⟨_,ob,g1,g2⟩:=x1.2.2.1.mem<|TQ T o q m;rw[t3]at g1;cases g1;exact g2 _ t4
   .rw[jD _ q' m]at t1;cases t1
 have S:H T=none:=by
  cases q:H T with
  |none=>rfl
  |some o=>
   exfalso;obtain⟨u,hu⟩:=wx<|I.hok T o q;rw[jD _ hu<|TU T o q]at t1;cases t1
 refine⟨x,T,C,H,rfl,I.os,I.bare,⟨λb o e n nf _=>?_,λb o e n m _=>?_,λb o e n nx=>I.base.free b o e n nx,λb o e _=>?_,I.base.tups,I.base.frzs,I.base.tbls⟩,?_,fl,Ge,U,FY,S,hE⟩
 .exact stay b o (I.base.keep b o e n nf (by show b∉([]:List Addr);simp)) λm=>nf<|TQ b o e m
 .obtain⟨sl,J⟩:=I.base.slot b o e n m (by show b∉([]:List Addr);simp);obtain⟨ob,O,hd⟩:=Z b m;rw[J]at O;cases O;obtain⟨Y,e3⟩:=x2 b m _ J hd;exact⟨Y,e3⟩
 .obtain⟨o',J⟩:=I.base.there b o e (by show b∉([]:List Addr);simp);by_cases m:b∈j
  .obtain⟨ob,O,hd⟩:=Z b<|TQ b o e m;rw[J]at O;cases O;obtain⟨Y,e3⟩:=x2 b (TQ b o e m) _ J hd;exact⟨_,e3⟩
  .exact⟨o',stay b o' J m⟩
 .exact HOk.on I.hok λb u o e q=>stay b u q<|TU b o e
theorem zRz{s:Shared}(I:Inv (YD P w K mg base N qual scope f cd A outer s₀ H₀ E) pins σ H s)(hb:∀b∈j,b∈fH (envOfC qual scope s₀.heap.objs.size f cd::outer)\/(s₀.heap.get? b=none/\H b=none))(x1:dH (OB s.heap j) outer x (.ref C) a0 h')(S:s.heap.UpToSlots h')(J:s₀.heap.get? x=none)(z:H x=none)(O:E (.ref C) none H):
  jK P w outer H₀ s₀ E (.ref x) { s with heap:=h' }:=
 zN6 I hb x1 (λb _=>S b) J z O
theorem zN7:WN (jK P w) (YD P w K mg base N qual scope f cd A outer s₀ H₀ E) E:=by
 intro pins σ H s e s' I h;obtain⟨x,T,C,H',rfl,os,bare,un,hok,⟨a0,fl⟩,nx,nT,hx,O,z⟩:=h;have J:Inv (YD P w K mg base N qual scope f cd A outer s₀ H₀ E) pins σ H' s':=I.call' os un hok bare λb m=>absurd m (by simp)
 have j:∀b,s.heap.get? b=none->s₀.heap.get? b=none:=λb n=>by
  cases q:s₀.heap.get? b with
  |none=>rfl
  |some o=>
   obtain⟨o',q'⟩:=I.base.there b o q (by show b∉([]:List Addr);simp);rw[n]at q';cases q'
 show wpAny (model P w) (A.deeper<|envOfC qual scope s₀.heap.objs.size f cd) (leaving (envOfC qual scope s₀.heap.objs.size f cd)<|.ref x) _ _ s';refine wpAny_leaves_onW (J.ok.frames) (L:=s₀.heap.objs.size) rfl fl λh' x1 S=>?_
 refine zRz J (λb m=>?_) x1 S (j x nx) hx z;rcases nA.mp m with rfl|m
 .exact .inr ⟨j _ nx,hx⟩
 rcases nA.mp m with rfl|m
 .exact .inr ⟨j _ nT,O⟩
 .exact .inl m
theorem zTB{s:Shared}(I:Inv (YD P w K mg base N qual scope f cd A outer s₀ H₀ E) pins σ H s)(m:Heap.MadeExcOf s.heap h' x (.ref C) args)(O:E (.ref C) none H):(YD P w K mg base N qual scope f cd A outer s₀ H₀ E).xe (.ref x) { s with heap:=h' }:=by
 show wpAny (model P w) (A.deeper<|envOfC qual scope s₀.heap.objs.size f cd) (leaving (envOfC qual scope s₀.heap.objs.size f cd)<|.ref x) _ _ _;have J:∀env∈(envOfC qual scope s₀.heap.objs.size f cd::outer),∀a,env.frame=some a->a∈fH (envOfC qual scope s₀.heap.objs.size f cd::outer):=λenv he a ha=>ZA.mpr ⟨env,he,ha⟩
 have st:s.heap.FunFrames (OB s.heap<|fH (envOfC qual scope s₀.heap.objs.size f cd::outer)) (envOfC qual scope s₀.heap.objs.size f cd::outer):=QG I.stack J;refine wpAny_leaves_madeW (s:={ s with heap:=h' }) (I.ok.frames) (L:=s₀.heap.objs.size) rfl (λb o e=>PF _ e) st m λY t x1 _ _ U=>?_
 have j:s₀.heap.get? x=none:=by
  cases q:s₀.heap.get? x with
  |none=>rfl
  |some o=>
   obtain⟨o',q'⟩:=I.base.there x o q (by show x∉([]:List Addr);simp);rw[m.new]at q';cases q'
 have z:H x=none:=by
  cases q:H x with
  |none=>rfl
  |some o=>
   obtain⟨u,hu⟩:=wx<|I.hok x o q;rw[m.new]at hu;cases hu
 exact zRz (s:=s) I (λb S=>.inl S) x1 ((wX m.keeps).trans U) j z O
end
noncomputable abbrev Vu:List Value:=[.type "ValueError",.type "Exception",.type "BaseException",.type "object"]
def IV(K:Fg)(C:Addr):Prop:=LK K C Vu "ValueError.__new__" = true
theorem zN8{K:Fg}(q:IV K C):∃bm N nm J bs hdct sn sub ab col dd k0 k1 k2 k3 k5 oN,
  K.lookup C=some (excClassObj nm J C N bs bm hdct sn sub ab col dd k0 k1 k2 k3 k5 "ValueError.__new__")/\K.lookup N=some oN/\(∀h,K.In h->h.isNs N=true/\h.nsMap N "__init__" = none/\OwnTail h Vu bm):=by
 have q':=q;unfold IV LK at q';split at q'
 .next dd cd sl ho=>
  split at q'
  .next C' bm k0 k1 k2 k3 n k5 hm hs=>
   rw[LB,LB,LB,LB,LB]at q';obtain⟨⟨⟨⟨⟨Y,Z⟩,e3⟩,e4⟩,j⟩,e6⟩:=q';have S:C'=C:=by simpa using Y
   have U:n = "ValueError.__new__":=by simpa using Z
   have O:EI K cd.ns "__init__" = some none:=by simpa using e6
   subst S U
   cases cd with
   |mk nm bs mro ns J hd sn sub ab col I=>
    simp only at hm e3 j O;have kY:I=false:=by simpa using e3
    subst hm kY
    cases sl with
    |mk l=>
     simp only at hs;subst hs;have z:=j;unfold PySem.W.nsOkIn at z;split at z
     .next hN=>exact⟨bm,ns,nm,J,bs,hd,sn,sub,ab,col,dd,k0,k1,k2,k3,k5,_,ho,hN,λh X=>⟨PySem.W.isNs_of_in X j,PySem.W.nsMap_none_of_in X j O,PySem.W.tail_of_in X e4⟩⟩
     .cases z
  .cases q'
 .cases q'
section
variable {P:Program}{w:World}{K:Fg}{mg:NE}{base:Heap}{N:List Str}{qual:Str}{scope:BF}{f:Addr}{cd:Value}{A:Around}{outer:List Env}{s₀:Shared}{H₀:Hp}{E:XK}
theorem zQX(hC:IV K C)(hg:Gl (YD P w K mg base N qual scope f cd A outer s₀ H₀ E) x)(hm:mg x=some (.ref C))(ha:PA (YD P w K mg base N qual scope f cd A outer s₀ H₀ E) [e] t)(hd:LL x:=by decide)(he:starEach [e] (YD P w K mg base N qual scope f cd A outer s₀ H₀ E).env=(false,eval e (YD P w K mg base N qual scope f cd A outer s₀ H₀ E).env)::starEach [] (YD P w K mg base N qual scope f cd A outer s₀ H₀ E).env:=by rfl)(Y:(backTo uB<|starEach [] (YD P w K mg base N qual scope f cd A outer s₀ H₀ E).env).any (·.1)=false:=by rfl):
  PS (YD P w K mg base N qual scope f cd A outer s₀ H₀ E) (.Raise (some<|.Call (.Name x np) [e] [] uB) none pos) (λ_ σ H=>t σ H λvs H1=>vs.length<=sizeLine/\E (.ref C) none H1):=by
 intro pins s σ H D I h;obtain⟨bm,J,nm,qn,bs,hdct,sn,sub,ab,col,dd,k0,k1,k2,k3,k5,oN,o1,z,U⟩:=zN8 hC;obtain⟨o2,o3,o4⟩:=U _ I.kIn;have j:bm.contains (.type "BaseException")=true:=o4.hasType (by decide);have O:=PySem.F.excBase_ValueError;refine wpAny_Raise_call_subU (C:=C) (nm:=nm) (q:=qn) (N:=J) (bs:=bs) (bm:=bm) (hdct:=hdct) (sn:=sn) (sub:=sub) (ab:=ab) (col:=col) (dd:=dd) (k0:=k0) (k1:=k1) (k2:=k2) (k3:=k3) (k5:=k5) (mN:=s.heap.nsMap J) O (by decide) O j (I.ok.hd rfl) (by rw[he];show(false || (backTo uB<|starEach [] _).any (·.1))=false;rw[Y];rfl) o3 ?_;refine B9 I hg hm ⟨rfl,?_⟩ hd;have S:=ha uB pins s σ H _ I h;rw[he]at S ⊢;refine FH ?_;refine RC S λus s2 zz=>?_
 obtain⟨vs,H1,I1,rv,hl,Z⟩:=zz;exact⟨rfl,by show us.length<=_;rw[<- rv.length];exact hl,I1.kIn _ _ o1,(Heap.Ns.of_isNs o2).at' (λo e=>by rw[I.kIn _ _ z]at e;cases e;exact I1.kIn _ _ z),(U _ I1.kIn).2.2,λh' x m=>zTB I1 m Z⟩
end
inductive YF where
 |o (x:Out)|ex (c:Nat)
def XX(K:Fg)(κ:Nat->Addr)(W:XK)(G0 H0:Hp)(E:IQ):YF->Prop
 |.o x=>mX K G0 H0 E x
 |.ex c=>∀G H,Bs G0 H0 G H->W (.ref<|κ c) none H
def Zz(K:Fg)(κ:Nat->Addr)(W:XK)(F:mB->Option YF):TS:=λE σ H=>∃G0 H0 G ρ o,UD K G0 H0 G H ρ σ/\F ρ=some o/\XX K κ W G0 H0 E o
abbrev SX(X:Cx)(κ:Nat->Addr)(W:XK)(s:Stmt)(F:mB->Option YF):Prop:=PS X s<|Zz X.K κ W F
abbrev fP(X:Cx)(κ:Nat->Addr)(W:XK)(s:List Stmt)(F:mB->Option YF):Prop:=IL X s<|Zz X.K κ W F
section
variable {X:Cx}{κ:Nat->Addr}{W:XK}{e a b:Expr}{es:List Expr}{f g:dC}{fl:pD}{p:kF}{pos:Pos}{F F':mB->Option YF}{F0:VB}{st:Stmt}{rest:List Stmt}
noncomputable def oX(F:VB):mB->Option YF:=λρ=>(F ρ).map .o
theorem RS(h:SS X st F0):SX X κ W st (oX F0):=yN h λQ σ H=>by
 rintro⟨G0,H0,G,ρ,o,st,z,k⟩;obtain⟨x,j,rfl⟩:=bA.mp z;exact⟨G0,H0,G,ρ,x,st,j,k⟩
theorem OS(h:XI X rest F0):fP X κ W rest (oX F0):=O4 h λQ σ H=>by
 rintro⟨G0,H0,G,ρ,o,st,z,k⟩;obtain⟨x,j,rfl⟩:=bA.mp z;exact⟨G0,H0,G,ρ,x,st,j,k⟩
noncomputable def UG(F F':mB->Option YF):mB->Option YF:=λρ=>(F ρ).bind λo=>match o with
 |.o (.nx ρ')=>F' ρ'
 |o=>some o
theorem qt(h1:SX X κ W st F)(h2:fP X κ W rest F'):fP X κ W (st::rest) (UG F F'):=O4 (zKw h1 h2) λQ σ H=>by
 rintro⟨G0,H0,G,ρ,o,st,J,k⟩;obtain⟨z,I,j⟩:=aA.mp J;refine⟨G0,H0,G,ρ,z,st,I,?_⟩
 cases z with
 |o x=>
  cases x with
  |nx ρ'=>exactλS G' H' CC=>⟨G0,H0,G',ρ',o,CC,j,k⟩
  |rt d=>cases j;exact k
  |ro d=>cases j;exact k
  |rm d ρ=>cases j;exact k
  |bk d=>cases j;exact k
  |ct d=>cases j;exact k
 |ex c=>cases j;exact k
theorem Qu(h1:SX X κ W st F):fP X κ W [st] F:=zNE h1
noncomputable def kT(c:kF)(F F':mB->Option YF):mB->Option YF:=λρ=>(c ρ).bind λb=>if b=true then F ρ else F' ρ
theorem zVw(hc:SB X c p)(ha:fP X κ W A F)(hb:fP X κ W B F'):SX X κ W (.If c A B pos) (kT p F F'):=yN (zUw hc ha hb) λQ σ H=>by
 rintro⟨G0,H0,G,ρ,o,st,I,k⟩;obtain⟨d,z,j⟩:=aA.mp I;refine⟨G,ρ,d,st.bs.gh,st.er,z,λG' H' t=>?_⟩
 cases d with
 |true=>rw[if_pos rfl]at j ⊢;exact⟨G0,H0,G',ρ,o,st.step t,j,k⟩
 |false=>rw[if_neg YA]at j ⊢;exact⟨G0,H0,G',ρ,o,st.step t,j,k⟩
noncomputable def AY(g:D->mB->Option mB)(F:mB->Option YF):List D->mB->Option YF
 | [],ρ=>some<|.o<|.nx ρ
 |d::ds,ρ=>(g d ρ).bind λρ1=>(F ρ1).bind λo=>match o with
  |.o (.nx ρ')=>AY g F ds ρ'
  |.o (.ct ρ')=>AY g F ds ρ'
  |.o (.bk ρ')=>some<|.o<|.nx ρ'
  |.o (.rt d)=>some<|.o<|.rt d
  |.o (.ro s)=>some<|.o<|.ro s
  |.o (.rm d ρ)=>some<|.o<|.rm d ρ
  |.ex c=>some<|.ex c
noncomputable def AN(c:kF)(F:mB->Option YF):Nat->mB->Option YF
 |0,_=>none
 |n+1,ρ=>(c ρ).bind λb=>if b=true then (F ρ).bind λo=>match o with
   |.o (.nx ρ')=>AN c F n ρ'
   |.o (.ct ρ')=>AN c F n ρ'
   |.o (.bk ρ')=>some<|.o<|.nx ρ'
   |.o (.rt d)=>some<|.o<|.rt d
   |.o (.ro s)=>some<|.o<|.ro s
   |.o (.rm d ρ)=>some<|.o<|.rm d ρ
   |.ex c=>some<|.ex c
  else some (.o<|.nx ρ)
def j4(n:Nat)(p:kF)(F:mB->Option YF):mB->Option YF:=λρ=>AN p F n ρ
theorem zQY(n:Nat)(hp:PassesOwn (model X.prog X.w) X.A X.env X.xe)(hc:SB X c p)(hb:fP X κ W body F):SX X κ W (.While c body [] pos) (j4 n p F):=
 yN (zKx hp hc hb) λE σ H=>by
  rintro⟨G0,H0,G,ρ,o,st,ef,k⟩;refine⟨λm I H'=>∃G' ρ',UD X.K G0 H0 G' H' ρ' I/\AN p F m ρ'=some o,⟨n,G,ρ,st,ef⟩,?_⟩;rintro m PV H2 ⟨G2,U,lI,Z⟩
  cases m with
  |zero=>cases Z
  |succ m=>
   obtain⟨b,e1,J⟩:=aA.mp Z;refine⟨G2,U,b,lI.bs.gh,lI.er,e1,λY H3 t3=>?_⟩
   cases b with
   |false=>
    rw[if_neg YA]at J ⊢;cases J
    exact k PV Y H3<|lI.step t3
   |true=>
    rw[if_pos rfl]at J ⊢;obtain⟨o3,e5,z⟩:=aA.mp J;refine⟨λI H'=>∃G' ρ',UD X.K G0 H0 G' H' ρ' I/\AN p F m ρ'=some o,λI H' h=>⟨m,WG _,h⟩,G0,H0,Y,U,o3,lI.step t3,e5,?_⟩
    cases o3 with
    |o x3=>
     cases x3 with
     |nx ρ'=>exactλLQ O H5 S=>⟨O,ρ',S,z⟩
     |ct ρ'=>exactλLQ O H5 S=>⟨O,ρ',S,z⟩
     |bk ρ'=>cases z;exact k
     |rt d=>cases z;exact k
     |ro d=>cases z;exact k
     |rm d ρ=>cases z;exact k
    |ex c=>cases z;exact k
end
def Hv(K:Fg)(κ:Nat->Addr)(f:List D->Option (Except Nat D))(n:Nat):Sp:=λvs H Q E=>∃G ds r,zd G H/\CA K G ds vs/\ds.length=n/\f ds=some r/\match r with
 |.ok d=>∀v G' H',zb G H G' H'->Rep K G' d v->Q v H'
 |.error c=>∀G' H',zb G H G' H'->E (.ref<|κ c) none H'
noncomputable def JV(N:List Str)(F:mB->Option YF)(ds:List D):Option (Except Nat D):=(F<|ds.map Sl.v++jA (N.length-ds.length) .un).bind λo=>match o with
 |.o (.rt d)=>some<|.ok d
 |.o (.nx _)=>some<|.ok .non
 |.ex c=>some<|.error c
 |_=>none
section
variable {P:Program}{w:World}{K:Fg}{mg:NE}{base:Heap}{κ:Nat->Addr}
theorem zR1{x qual:Str}{st:Stmt}{fa:Addr}{fd:FuncData}{N ps:List Str}{k:Nat}{F:mB->Option YF}{f:List D->Option (Except Nat D)}
  (O:rM K x qual st fa fd) (S:zT N ps (zI st))
  (U:∀(z:Value)(A:Around)(outer:List Env)(s:Shared)(H:Hp)(E:XK),IF k (A.deeper<|envOfC qual (zI st) s.heap.objs.size fa z)->fP (YD P w K mg base N qual (zI st) fa z A outer s H E) κ E (yC st) F)
  (hf:∀ds r,ds.length=ps.length->f ds=some r->JV N F ds=some r):bI P w K mg base (jK P w) (k+1) fa fd ps (Hv K κ f ps.length):=by
 obtain⟨oc,od,kV,Z,pm,an,z,ct,vP,rfl,lk,Y⟩:=O.ex;refine Ai lk Y S (λvs H Q E h=>?_) λA outer s H vs Q E hr h=>?_
 .obtain⟨G,ds,d,_,r,I,_⟩:=h;rw[<- r.length,I]
 .obtain⟨G,ds,r,sm,rp,I,ef,J⟩:=h;refine⟨_,U z A outer s H E hr,?_⟩;obtain⟨o,e1,j⟩:=aA.mp<|hf ds r I ef;have er:=Oj (N:=N) (H:=H) rp;refine⟨G,H,G,_,o,⟨er,⟨sm,zd.refl _,zd.refl _,λb o e n=>by rw[e]at n;cases n⟩,λi u a h1 h2 h3=>?_⟩,e1,?_⟩
  .exfalso;by_cases hi:i<ds.length
   .rw[eB (by simpa using hi),gB]at h1
    cases q:ds[i]? with
    |none=>rw[q]at h1;cases h1
    |some d=>rw[q]at h1;cases h1;cases h2
   .rw[oB (by simpa using hi),QB]at h1;split at h1<;>cases h1;cases h2
  .cases o with
   |o x=>
    cases x with
    |rt d'=>
     cases j
     exactλv G' H' b r'=>J v G' H' ⟨b.gg,b.hh,b.gh,b.fr⟩ r'
    |nx ρ=>
     cases j
     exactλEC G' H' CC=>J .non G' H' ⟨CC.bs.gg,CC.bs.hh,CC.bs.gh,CC.bs.fr⟩<|BO.mpr rfl
    |bk ρ=>cases j
    |ct ρ=>cases j
    |ro ρ=>cases j
    |rm d ρ=>cases j
   |ex c=>
    cases j
    exactλG' H' b=>J G' H' ⟨b.gg,b.hh,b.gh,b.fr⟩
end
structure O5(P:Program)(w:World)(K:Fg)(mg:NE)(base:Heap)(κ:Nat->Addr)(k:Nat)(x:Str)(n:Nat)(F:List D->Option (Except Nat D)):Prop where
 ex:∃f fd ps,bI P w K mg base (jK P w) k f fd ps (Hv K κ F n)/\mg x=some (.ref f)/\iB K (.ref f)=true/\L2.WK K fd ps []
section
variable {X:Cx}{κ:Nat->Addr}{W:XK}{e:Expr}{es:List Expr}{fl:pD}{pos p uB:Pos}{x y:Str}{k n:Nat}{f:List D->Option (Except Nat D)}
def PU(K:Fg)(κ:Nat->Addr)(W:XK)(g:mB->Option (Except Nat D)):TE:=λσ H Q=>∃G ρ r,zd G H/\Er K G H ρ σ/\g ρ=some r/\match r with
 |.ok d=>∀v G' H',zb G H G' H'->Rep K G' d v->Q v H'
 |.error c=>∀G' H',zb G H G' H'->W (.ref<|κ c) none H'
theorem zOA(h:O5 X.prog X.w X.K X.mg X.base κ k x n f)(hP:WN (jK X.prog X.w) X W)(hr:IF k X.A)(hg:X.env.kindOf x=some .globalImplicit)(hn:(e::es).length=n)(ha:SA X (e::es) fl)(S:LL x:=by decide)
  (he:BG X e es:=by rfl) (J:EH X pos es:=by rfl) :
  PE X (.Call (.Name x p) (e::es) [] pos) (PU X.K κ W λρ=>(fl ρ).bind f):=by
 obtain⟨fa,fd,ps,z,hm,hk,hb⟩:=h.ex;refine aG (Z3 (E:=W) z hr hg hm hk hb .nil hP ha.pa S he J) λσ H Q zz=>?_
 obtain⟨G,ρ,r,s,er,Y,k⟩:=zz;obtain⟨xs,j,U⟩:=aA.mp Y;refine⟨G,ρ,xs,s,er,j,λvs I H1 t1 r1=>?_⟩;show Hv X.K κ f n (vs++[]) H1 Q W;rw[kB];refine⟨I,xs,r,t1.s,r1,by rw[ha.len _ _ j,hn],U,?_⟩
 cases r with
 |ok d=>exactλv G' H' t r=>k v G' H' (t1.trans t) r
 |error c=>exactλG' H' t=>k G' H'<|t1.trans t
noncomputable def Rm(g:mB->Option (Except Nat D)):mB->Option YF:=λρ=>(g ρ).map λr=>match r with
 |.ok _=>.o<|.nx ρ
 |.error c=>.ex c
theorem zTE{g:mB->Option (Except Nat D)}(h:PE X e (PU X.K κ W g))(hs:ZI X e none pos:=by rfl):SX X κ W (.Expr e pos) (Rm g):=
 yN (rR h hs) λE σ H=>by
  rintro⟨G0,H0,G,ρ,o,st,z,k⟩;obtain⟨r,j,rfl⟩:=bA.mp z;refine⟨G,ρ,r,st.bs.gh,st.er,j,?_⟩
  cases r with
  |ok d=>exactλv G' H' t r=>k σ G' H'<|st.step t
  |error c=>exactλG' H' t=>k G' H'<|st.bs.step t
noncomputable def Ar(i:Nat)(g:mB->Option (Except Nat D)):mB->Option YF:=λρ=>(g ρ).map λr=>match r with
 |.ok d=>.o<|.nx<|ρ.set i<|.v d
 |.error c=>.ex c
theorem zVy(i:Nat){g:mB->Option (Except Nat D)}(h:PE X e (PU X.K κ W g))(I:X.N.Nodup)(hi:X.N[i]?=some y)(hx:Loc X.env.scope y)(hs:ZI X e (some<|.Name y pos') pos:=by rfl)(hf:JL X y:=by first|exact .inl rfl|exact .inr rfl|assumption):SX X κ W (.Assign [.Name y pos'] e pos) (Ar i g):=
 yN (LO I hi hx h hs hf) λE σ H=>by
  rintro⟨G0,H0,G,ρ,o,st,z,k⟩;obtain⟨r,j,rfl⟩:=bA.mp z;refine⟨G,ρ,r,st.bs.gh,st.er,j,?_⟩
  cases r with
  |ok d=>exactλv G' H' t r=>k _ G' H'<|(st.step t).setV r
  |error c=>exactλG' H' t=>k G' H'<|st.bs.step t
end
section
variable {P:Program}{w:World}{K:Fg}{mg:NE}{base:Heap}{N:List Str}{qual:Str}{scope:BF}{fa:Addr}{cd:Value}{A:Around}{outer:List Env}{s₀:Shared}{H₀:Hp}{E:XK}{κ:Nat->Addr}
def QS(c:Nat)(fl:pD):mB->Option YF:=λρ=>(fl ρ).map λ_=>.ex c
theorem zLK(c:Nat){fl:pD}(hC:IV K (κ c))(O:Gl (YD P w K mg base N qual scope fa cd A outer s₀ H₀ E) x)(hm:mg x=some (.ref<|κ c))(ha:SA (YD P w K mg base N qual scope fa cd A outer s₀ H₀ E) [e] fl)(hd:LL x:=by decide)(he:starEach [e] (YD P w K mg base N qual scope fa cd A outer s₀ H₀ E).env=(false,eval e (YD P w K mg base N qual scope fa cd A outer s₀ H₀ E).env)::starEach [] (YD P w K mg base N qual scope fa cd A outer s₀ H₀ E).env:=by rfl)(I:(backTo uB<|starEach [] (YD P w K mg base N qual scope fa cd A outer s₀ H₀ E).env).any (·.1)=false:=by rfl):
  SX (YD P w K mg base N qual scope fa cd A outer s₀ H₀ E) κ E (.Raise (some<|.Call (.Name x np) [e] [] uB) none pos) (QS c fl):=
 yN (zQX hC O hm ha.pa hd he I) λQ σ H=>by
  rintro⟨G0,H0,G,ρ,o,st,J,k⟩;obtain⟨xs,j,rfl⟩:=bA.mp J;refine⟨G,ρ,xs,st.bs.gh,st.er,j,λvs z H1 t1 r1=>⟨?_,k z H1<|st.bs.step t1⟩⟩;rw[<- r1.length,ha.len _ _ j];exact FS (by simp)
end
section
variable {X:Cx}{e:Expr}{f:dC}{pos p1 p2 p3:Pos}{j1 j3}
noncomputable def gS(a b:Str):D->Option D
 |.int i=>if 0<=i/\i<1000000/\(pI++a++((toString i:String):Str)++b).length<=1000000 then some (.str<|pI++a++((toString i:String):Str)++b) else none
 |_=>none
theorem zOC{i:Int}(h0:0<=i)(h1:i<1000000):i.natAbs.log2<1920:=by
 by_cases z:i.natAbs=0
 .rw[z];decide
 .have h2:i.natAbs<2 ^ 20:=by omega
  have h3:=(Nat.log2_lt z).mpr h2;omega
theorem app_len(a b:Str):(a++b).length=a.length+b.length:=by
 show(GL a b).length=_;simp[GL,mD]
theorem zOD(ha:SR X e f):SE X (.JoinedStr [.Constant (.str a) j1 p1,.FormattedValue e (-1) none p2,.Constant (.str b) j3 p3] pos) (b1 f<|gS a b):=by
 intro pins s σ H Q I h;obtain⟨G,ρ,d,sm,er,z,k⟩:=h;obtain⟨d1,J,z⟩:=aA.mp z
 cases d1 with
 |int i=>
  simp only[gS]at z;split at z
  .rename_i hc;obtain⟨h0,h1,h2⟩:=hc;cases z;rw[app_len,app_len,app_len]at h2;refine JoinedStr_many (joinParts_cons<|CI ⟨by rw[app_len,sizeLine_eq];omega,?_⟩);refine joinParts_cons (FormattedValue_plain<|RC (ha pins _ σ H (λv H'=>∃G',zb G H G' H'/\wH X.K G' H' (.int i) v) (I.tok _) ⟨G,ρ,_,sm,er,J,λv G' H' t r=>⟨G',t,r⟩⟩) λv s2 zz=>?_);obtain⟨x,H1,I1,O,G',t1,r1⟩:=zz;have hx:=r1.int;subst hx;obtain⟨tk,rfl⟩:=(show∃t,v=OH i t from O)
   refine formatField_int_small (zOC h0 h1) ⟨by rw[app_len,app_len,sizeLine_eq];omega,?_⟩;refine joinParts_cons (CI ⟨by rw[app_len,app_len,app_len,sizeLine_eq];omega,joinParts_nil ?_ (by rw[app_len,app_len,app_len,sizeLine_eq];omega)⟩);exact⟨.str _,H1,I1.tok _,⟨_,rfl⟩,k _ G' H1 t1<|FP.mpr rfl⟩
  .cases z
 |_=>cases z
end
structure wV(X:Cx)(pins:oE)(H:Hp)(x:Addr):Prop where
 h0:X.s₀.heap.get? x=none
 hH:H x=none
 hL:x≠X.env.locals
 hC:∀y c,X.env.cells.lookup y=some c->c≠x
 hp:∀p∈X.pn++pins,p.1≠x
section
variable {X:Cx}{pins:oE}{σ:L2.St}{H H':Hp}{s s':Shared}
theorem zVz(I:Inv X pins σ H s)(J:X.ex=[])(n:s.heap.get? x=none)(hH:H' x=none):wV X pins H' x:=by
 refine⟨?_,hH,λz=>?_,λy c e z=>?_,λp hp z=>?_⟩
 .cases q:X.s₀.heap.get? x with
  |none=>rfl
  |some o=>
   obtain⟨o',q'⟩:=I.base.there x o q (by rw[J];simp);rw[n]at q';cases q'
 .obtain⟨m,⟨o,_,_,j,_⟩,_⟩:=I.loc;rw[z,j]at n;cases n
 .obtain⟨v,o,j,_⟩:=I.cell y c e;rw[z,n]at j;cases j
 .have:=(I.pin p hp).1;rw[z,n]at this;cases this
theorem zOE(I:Inv X pins σ H s)(nx:wV X pins H x)(nT:wV X pins H T)(st:HM (OB s.heap (x::T::fH X.stack)) h')(up:s.heap.UpToSlots h'):Inv X pins σ H { s with heap:=h' }:=by
 have keep:∀b o,s.heap.get? b=some o->b≠x->b≠T->b∉fH X.stack->h'.get? b=some o:=λb o e n1 S Y=>st b o (jD _ e<|by simp[n1,S,Y])
 have fr:∀b o,s.heap.get? b=some o->b∈fH X.stack->∃O,h'.get? b=some { o with slots:=O }:=λb o e m=>by
  obtain⟨_,ob,U,hd⟩:=I.stack.mem m;rw[e]at U;cases U;exact up b o e hd
 have any:∀b o,s.heap.get? b=some o->b≠x->b≠T->∃O,h'.get? b=some { o with slots:=O }:=λb o e n1 S=>by
  by_cases m:b∈fH X.stack
  .exact fr b o e m
  .exact⟨o.slots,keep b o e n1 S m⟩
 refine I.stepN (g':=s.gens) (t':=s.toks) (d':=s.drawn) (ch:=[x,T]) (λb hb=>?_) (λb o hL Z J e n=>?_) (λb o _ _ J e n=>?_) (λb o _ e n=>n) (λb o J e=>?_) (λ_ _ e=>e) (λ_ _ _ e=>e) (λb ps e=>⟨#[],by rw[e];simp⟩) (λm hm=>?_) ?_ I.bare
 .have:b=x\/b=T:=by simpa using hb
  rcases this with rfl|rfl
  .exact⟨.inr nx.h0,nx.hL,nx.hC,nx.hp⟩
  .exact⟨.inr nT.h0,nT.hL,nT.hC,nT.hp⟩
 .have j:b≠x/\b≠T:=by simpa using J
  exact keep b o e j.1 j.2 λz=>(nA.mp<|I.stkSub b z).elim hL Z
 .have j:b≠x/\b≠T:=by simpa using J
  exact any b o e j.1 j.2
 .have j:b≠x/\b≠T:=by simpa using J
  obtain⟨O,q⟩:=any b o e j.1 j.2;exact⟨_,q⟩
 .exact up.ns hm
 .refine HOk.on I.hok λb u o e q=>?_
  refine keep b u q (λz=>?_) (λz=>?_) λz=>?_
  .rw[z,nx.hH]at e;cases e
  .rw[z,nT.hH]at e;cases e
  .rw[I.stkFree b z]at e;cases e
end
section
variable {X:Cx}{κ:Nat->Addr}{e:Expr}{es:List Expr}{fl:pD}{pos p:Pos}{x:Str}{k n:Nat}{f:List D->Option (Except Nat D)}
end
abbrev MY(X:Cx)(y:Addr):Cx:={ X with A:=X.A.mark<|some<|.ref y,calm:=false }
theorem zR2(I:Inv X pins σ H s)(y:Addr):Inv (MY X y) pins σ H s:=
 ⟨⟨I.ok.mod,I.ok.kind,I.ok.glob,I.ok.blt,I.ok.above,I.ok.inj,I.ok.has,I.ok.cab,λz=>(by cases z),I.ok.frames,I.ok.stk,I.ok.exf,I.ok.bs,I.ok.bsz,I.ok.noex,I.ok.exfs,I.ok.funs,I.ok.frf⟩,I.os,I.bare,I.base,I.loc,I.cell,I.free,I.freeC,I.pin,I.hok,I.len⟩
theorem Z8{X:Cx}(ok:X.Ok)(I:Inv (MY X y) pins σ H s):Inv X pins σ H s:=
 ⟨ok,I.os,I.bare,I.base,I.loc,I.cell,I.free,I.freeC,I.pin,I.hok,I.len⟩
theorem zTF{X:Cx}{pins:oE}{D:IQ}{f:Flow}{s:Shared}{y:Addr}(ok:X.Ok)(h:SP (MY X y) pins D f s):SP X pins D f s:=by
 cases f with
 |next=>obtain⟨j,H',I,q⟩:=h;exact⟨j,H',Z8 ok I,q⟩
 |brk=>obtain⟨j,H',I,q⟩:=h;exact⟨j,H',Z8 ok I,q⟩
 |cont=>obtain⟨j,H',I,q⟩:=h;exact⟨j,H',Z8 ok I,q⟩
 |ret u=>obtain⟨v,j,H',I,r,q⟩:=h;exact⟨v,j,H',Z8 ok I,r,q⟩
section
variable {X:Cx}{C:Addr}{xc:Str}{np rP:Pos}{RN:Stmt}{UK:List Stmt}{rest:List ExceptHandler}{th:TS}
theorem zV0(hC:IV X.K C)(hg:Gl X xc)(hm:X.mg xc=some (.ref C))(XJ:X.stack=X.env::X.outer)(UY:X.env.frame=some X.env.locals){pins:oE}{σ:L2.St}{H:Hp}{s:Shared}{y T:Addr}(I:Inv X pins σ H s)(fl:PX X.stack y T (.ref C) s.heap)(ny:wV X pins H y)(nT:wV X pins H T)
  (hb:IL (MY X y).nox (RN::UK) th) {D:IQ} (ht:th D σ H) {E:KD} (hd:LL xc:=by decide) :
  wpAny (model X.prog X.w) X.A (noteFrame (.ref y) X.env) (λ_ aI=>wpAny (model X.prog X.w) X.A (setFlight (.ref y) none) (λ_ MA=>
   wpAny (model X.prog X.w) X.A (handleBy (.ref y) X.env (.ExceptHandler (some<|.Name xc np) none (RN::UK) rP::rest)) (SP X pins D) E MA) E aI) E s:=by
 obtain⟨a0,fl⟩:=fl;have Wd:=fl;rw[XJ]at fl;have Z:=I.ok.frames;rw[XJ]at Z;have Zy:∀h',HM (OB s.heap (y::T::fH (X.env::X.outer))) h'->HM (OB s.heap (y::T::fH X.stack)) h':=λh' z=>by rw[XJ];exact z
 refine Br Z UY fl λh4 SY J7=>?_
 refine wpAny_landsW (s:={ s with heap:=h4 }) SY λh5 j jd=>?_
 have O:Inv X pins σ H { s with heap:=h5 }:=zOE I ny nT (Zy _ j.1)<|J7.trans jd;obtain⟨ob,U,Ft⟩:=j.there;refine wpAny_handleBy_cons (codeAny_handlers_test ?_) (by intro q;cases q);refine B9 (zR2 O y) hg hm ?_ hd;obtain⟨bm,Nn,nm,qn,bs,hdct,sn,sub,ab,col,dd,k0,k1,k2,k3,k5,oN,o1,Gz,jR⟩:=zN8 hC;have o4:=(jR _ O.kIn).2.2;refine wpAny_excMatches_sub_self (O.kIn _ _ o1) U Ft (o4.hasType<|by decide)<|codeAny_handlers_suite ?_;refine lands_againW (s:={ s with heap:=h5 }) j λh6 S Y=>?_
 have I6:Inv X pins σ H { s with heap:=h6 }:=zOE I ny nT (Zy _ S.1)<|(J7.trans jd).trans Y;exact wpAny_mono (hb pins _ σ H D ((zR2 I6 y).wish _) ht) (λfw s2 q=>zTF I.ok<|SP.unwish q) λ_ _ z=>False.elim z
end
section
variable {X:Cx}{κ:Nat->Addr}{e:Expr}{es:List Expr}{fl:pD}{pos p uB cU np rP:Pos}{x xc y:Str}{k n:Nat}{f:List D->Option (Except Nat D)}{RN:Stmt}{UK:List Stmt}{Fh:VB}
end
noncomputable def bO(ρ:mB)(i:Nat):Option Ob:=match ρ[i]? with
 |some (.o _ x)=>some x
 |some (.b _ x)=>some x
 |_=>none
noncomputable def BN(C:Addr)(f:Str):Ob->Option Fl
 |.ins C' fs=>if C'=C then fs.lookup f else none
 |_=>none
def TL(C:Addr)(i:Nat)(f:Str)(ρ:mB):Option Fl:=(bO ρ i).bind<|BN C f
def eU:Fl->Option D
 |.v d=>some d
 |_=>none
def fS:Fl->Option D
 |.v d=>some d
 |.f (.l xs)=>some<|.lst xs
 |_=>none
theorem n8{j:Type}{f:Str}{x:j}:∀{fs:List (Str×j)},fs.lookup f=some x->(f,x)∈fs
 | [],h=>by cases h
 |(g,y)::fs,h=>by
  rw[XA]at h;split at h
  .rename_i e;have:=eq_of_beq e;subst this;cases h;exact lA ..
  .exact dA _<|n8 h
structure At(K:Fg)(G H:Hp)(x:Ob)(a:Addr):Prop where
 rep:PP K G H x a
 nd:(OE H x a).Nodup
 fr:∀c∈OE H x a,G c=none
section
variable {K:Fg}{G H G' H':Hp}{ρ:mB}{σ:L2.St}{i:Nat}{x:Ob}{a C:Addr}{f:Str}{fl:Fl}
theorem IW(e:Er K G H ρ σ)(h:bO ρ i=some x):∃a,σ[i]?=some (some<|.ref a)/\At K G H x a:=by
 unfold bO at h;split at h
 .rename_i c y q;cases h;obtain⟨a,h1,h2,h3⟩:=e.slot i _ q rfl;exact⟨a,h1,h2.1.1,h2.1.2,h3⟩
 .rename_i c y q;cases h;obtain⟨a,h1,h2,h3⟩:=e.slot i _ q rfl;exact⟨a,h1,h2.1.1,h2.1.2,h3⟩
 .cases h
theorem At.step(h:At K G H x a)(t:zb G H G' H'):At K G' H' x a:=by
 have q:=h.rep.same t.g λc m u z=>t.h _ _ z
 refine⟨q.1,by rw[q.2];exact h.nd,λc m=>?_⟩;rw[q.2]at m;obtain⟨u,e⟩:=h.rep.there c m
 cases z:G' c with
 |none=>rfl
 |some o=>have:=t.f c o z<|h.fr c m;rw[e]at this;cases this
theorem At.fld(h:At K G H x a)(e:BN C f x=some fl):∃dx ws u,H a=some (.ins C dx ws)/\ws.lookup f=some u/\UO K G H fl u/\∀c∈SH H fl u,G c=none:=by
 cases x with
 |p y=>cases e
 |ins J fs=>
  simp only[BN]at e;split at e
  .rename_i z;subst z;obtain⟨dx,ws,h1,h2,h3,O⟩:=h.rep;obtain⟨u,j,I⟩:=h3 _<|n8 e;refine⟨dx,ws,u,h1,j,I,λc m=>h.fr c ?_⟩;simp only[OE];rw[h1];exact dA _<|dA _<|OW (n8 e) j m
  .cases e
end
section
variable {X:Cx}{o:Expr}{pos:Pos}{C:Addr}{f:Str}{i:Nat}
theorem U9(i:Nat)(c:fJ X.K C)(n:qT X.K C f)(Y:PE X o (RF i))(hb:WJ X o f:=by rfl):SR X (.Attribute o f pos) (λρ=>(TL C i f ρ).bind fS):=
 aG (mV Y hb) λσ H Q=>by
  rintro⟨G,ρ,d,s,er,S,k⟩;obtain⟨fl,J,j⟩:=aA.mp S;obtain⟨x,e3,O⟩:=aA.mp J;obtain⟨a,Z,A⟩:=IW er e3;obtain⟨dx,ws,u,w1,w2,I,w4⟩:=A.fld O;refine⟨_,Z,a,C,dx,ws,u,rfl,w1,c,n,w2,k u G H (zb.refl s) ?_⟩
  cases fl with
  |v d'=>cases j;exact .fr I
  |f y=>
   cases y with
   |l xs=>
    cases j;obtain⟨b,rfl,vs,z1,z2⟩:=I
    exact .ow (w4 b<|gA.mpr rfl) z1 z2
   |_=>cases j
theorem zV1(i:Nat)(c:fJ X.K C)(n:qT X.K C f)(O:PE X o (RF i))(hb:WJ X o f:=by rfl):SE X (.Attribute o f pos) (λρ=>(TL C i f ρ).bind eU):=
 aG (mV O hb) λσ H Q=>by
  rintro⟨G,ρ,d,s,er,J,k⟩;obtain⟨fl,z,j⟩:=aA.mp J;obtain⟨x,e3,I⟩:=aA.mp z;obtain⟨a,S,A⟩:=IW er e3;obtain⟨dx,ws,u,w1,U,Y,Z⟩:=A.fld I;refine⟨_,S,a,C,dx,ws,u,rfl,w1,c,n,U,k u G H (zb.refl s) ?_⟩
  cases fl with
  |v d'=>cases j;exact Y
  |f y=>cases j
end
def Hr(K:Fg)(f:Ob->List D->Option D)(n:Nat):Sp:=λvs H Q _=>∃G x a ds ws d,vs=.ref a::ws/\zd G H/\At K G H x a/\CA K G ds ws/\ds.length+1=n/\f x ds=some d/\∀v G' H',zb G H G' H'->Rep K G' d v->Q v H'
noncomputable def JQ(N:List Str)(F:VB)(a:Addr)(x:Ob)(ds:List D):Option D:=(F<|(.b a x::ds.map Sl.v)++jA (N.length-(ds.length+1)) .un).bind λo=>match o with
 |.rt d=>some d
 |.nx _=>some .non
 |_=>none
theorem v4{K:Fg}{G H:Hp}{w:Sl}{a:Addr}{ds:List D}{vs:List V}(J:w.isObj=true)(hr:GN K G H w a)(hf:∀c∈bF H w a,G c=none)(r:CA K G ds vs):Er K G H (w::ds.map Sl.v) ((V.ref a::vs).map some):=by
 have low:∀{i:Nat}{s:Sl},(w::ds.map Sl.v)[i]?=some s->s.isObj=true->i=0/\s=w:=λ{i s} h o=>by
  cases i with
  |zero=>simp at h;exact⟨rfl,h.symm⟩
  |succ i=>
   simp only[fB,gB]at h
   cases q:ds[i]? with
   |none=>rw[q]at h;cases h
   |some d=>rw[q]at h;cases h;cases o
 refine⟨by simp[r.length],λi d h=>?_,λi s h o=>?_,λi j s t b c ne h1 O h2 o2=>?_⟩
 .cases i with
  |zero=>simp at h;subst h;cases J
  |succ i=>
   simp only[fB,gB]at h
   cases q:ds[i]? with
   |none=>rw[q]at h;cases h
   |some d'=>
    rw[q]at h;cases h;obtain⟨v,z,I⟩:=r.get q;exact⟨v,by simp[z],I⟩
 .obtain⟨rfl,rfl⟩:=low h o;exact⟨a,rfl,hr,hf⟩
 .exact absurd ((low h1<|Sl.obj_of_own O).1.trans (low h2 o2).1.symm) ne
theorem JW{N:List Str}{vs:List V}:L2.wL N vs=vs.map some++jA (N.length-vs.length) none:=by
 unfold L2.wL;rfl
theorem E4{P:Program}{w:World}{K:Fg}{mg:NE}{base:Heap}{x qual:Str}{st:Stmt}{fa:Addr}{fd:FuncData}{N ps:List Str}{k:Nat}{F:VB}{f:Ob->List D->Option D}
  (Y:rM K x qual st fa fd) (S:zT N ps (zI st))
  (WD:∀(I:Value)(A:Around)(outer:List Env)(s:Shared)(H:Hp),IF k (A.deeper<|envOfC qual (zI st) s.heap.objs.size fa I)->XI (xK CH P w K mg base N qual (zI st) fa I A outer s H E0).nox (yC st) F)
  (hf:∀a y ds d,ds.length+1=ps.length->f y ds=some d->JQ N F a y ds=some d):bI P w K mg base CH (k+1) fa fd ps (Hr K f ps.length):=by
 refine Y.ok S (λvs H Q E h=>?_) (λI A outer s H vs Q E hr h=>?_)
 .obtain⟨G,y,a,ds,ws,d,rfl,_,_,r,O,_⟩:=h;rw[iA,<- r.length,O]
 .obtain⟨G,y,a,ds,ws,d,rfl,sm,J,r,O,ef,U⟩:=h;have h1:XI (xK CH P w K mg base N qual (zI st) fa I A outer s H E).nox (yC st) F:=WD I A outer s H hr;refine⟨_,h1,?_⟩;obtain⟨o,e1,j⟩:=aA.mp<|hf a y ds d O ef;have Z:Er K G H (.b a y::ds.map Sl.v) ((V.ref a::ws).map some):=v4 rfl ⟨⟨J.rep,J.nd⟩,rfl⟩ J.fr r;have er:=Z.app (N.length-(ds.length+1)) (jA (N.length-(ds.length+1)) none) (by simp)
  have er:Er K G H ((.b a y::ds.map Sl.v)++jA (N.length-(ds.length+1)) .un) (L2.wL N (.ref a::ws)):=by
   rw[JW,iA,<- r.length];exact er
  have uP:∀(i:Nat)(u:Sl),((.b a y::ds.map Sl.v)++jA (N.length-(ds.length+1)) Sl.un)[i]?=some u->u.isOwn=true->False:=λi u h1 h2=>by
   have hm:=xA h1;rcases oA.mp hm with m|m
   .rcases nA.mp m with z|m
    .subst z;cases h2
    .obtain⟨d',_,rfl⟩:=OA.mp m;cases h2
   .rw[(ED.mp m).2]at h2;cases h2
  refine⟨G,H,G,_,o,⟨er,⟨sm,zd.refl _,zd.refl _,λb o e n=>by rw[e]at n;cases n⟩,λi u b h1 h2 h3=>(uP i u h1 h2).elim⟩,e1,?_⟩
  cases o with
  |rt d'=>
   cases j
   exactλv G' H' b r'=>U v G' H' ⟨b.gg,b.hh,b.gh,b.fr⟩ r'
  |nx ρ=>
   cases j
   exactλEC G' H' CC=>U .non G' H' ⟨CC.bs.gg,CC.bs.hh,CC.bs.gh,CC.bs.fr⟩<|BO.mpr rfl
  |bk ρ=>cases j
  |ct ρ=>cases j
  |ro ρ=>cases j
  |rm d ρ=>cases j
structure HN(P:Program)(w:World)(K:Fg)(mg:NE)(base:Heap)(C:Addr)(k:Nat)(m:Str)(n:Nat)(F:Ob->List D->Option D):Prop where
 ex:∃f fd ps,bI P w K mg base CH k f fd ps (Hr K F n)/\GV K C m f/\L2.WK K fd ps []
noncomputable def PL(C:Addr)(m:Str):Ob->Bool
 |.ins C' fs=>decide (C'=C)&&(fs.lookup m).isNone
 |_=>false
def uK(C:Addr)(m:Str)(i:Nat)(fl:pD)(F:Ob->List D->Option D):dC:=λρ=>(bO ρ i).bind λx=>if PL C m x=true then (fl ρ).bind λds=>F x ds else none
section
variable {X:Cx}{o e:Expr}{es:List Expr}{pos apos:Pos}{C:Addr}{m:Str}{i k n:Nat}{F:Ob->List D->Option D}{fl:pD}
theorem V9{K:Fg}{G H:Hp}{x:Ob}{a:Addr}(h:At K G H x a)(e:PL C m x=true):∃dx ws,H a=some (.ins C dx ws)/\ws.lookup m=none:=by
 cases x with
 |p y=>cases e
 |ins z fs=>
  simp only[PL,LB,decide_eq_true_eq,Option.isNone_iff_eq_none]at e;obtain⟨rfl,e⟩:=e;obtain⟨dx,ws,h1,_,_,j⟩:=h.rep;exact⟨dx,ws,h1,j.1 m e⟩
theorem D9{pl:Sem Bool}(i:Nat)(h:HN X.prog X.w X.K X.mg X.base C k m n F)(c:fJ X.K C)(hr:IF k X.A)(Y:PE X o (RF i))(ha:SA X (e::es) fl)(U:(e::es).length+1=n)
  (XJ:BG X e es:=by rfl) (O:EH X pos es:=by rfl)
  (ht:eval (.Call (.Attribute o m apos) (e::es) [] pos) X.env=(do
   let ov <- eval o X.env
   standAt apos.atName
   let (f,first) <- holding [ov] (getMethod ov m pl)
   callWith pos f first (backTo pos<|starEach (e::es) X.env) (backToKw pos<|keywordEach [] X.env)):=by rfl) :
  SE X (.Call (.Attribute o m apos) (e::es) [] pos) (uK C m i fl F):=by
 obtain⟨f,fd,ps,I,hm,hb⟩:=h.ex;refine aG (Pp (pl:=pl) (dvs:=[]) (ds:=[]) (E:=E0) Y c hm I hr hb .nil sV ha.pa XJ O ht) λσ H Q zz=>?_
 obtain⟨G,ρ,d,s,er,j,Z⟩:=zz;obtain⟨x,S,j⟩:=aA.mp j;split at j
 .rename_i hx;obtain⟨ds,z,e3⟩:=aA.mp j;obtain⟨a,q1,A⟩:=IW er S;obtain⟨dx,ws,q2,q3⟩:=V9 A hx;refine⟨_,q1,a,dx,ws,rfl,q2,q3,G,ρ,ds,s,er,z,λvs G' H' t r=>?_⟩;show Hr X.K F n (V.ref a::(vs++[])) H' Q E0;rw[kB];exact⟨G',x,a,ds,vs,d,rfl,t.s,A.step t,r,by rw[ha.len _ _ z];exact U,e3,λv J H2 t2 r2=>Z v J H2 (t.trans t2) r2⟩
 .cases j
theorem Oo{pl:Sem Bool}(i:Nat)(h:HN X.prog X.w X.K X.mg X.base C k m 1 F)(c:fJ X.K C)(hr:IF k X.A)(J:PE X o (RF i))
  (ht:eval (.Call (.Attribute o m apos) [] [] pos) X.env=(do
   let ov <- eval o X.env
   standAt apos.atName
   let (f,first) <- holding [ov] (getMethod ov m pl)
   callWith pos f first (backTo pos<|starEach [] X.env) (backToKw pos<|keywordEach [] X.env)):=by rfl) :
  SE X (.Call (.Attribute o m apos) [] [] pos) (uK C m i zO F):=by
 obtain⟨f,fd,ps,z,hm,hb⟩:=h.ex;refine aG (zP7 (pl:=pl) (dvs:=[]) (ds:=[]) (E:=E0) J c hm z hr hb .nil sV ht) λσ H Q zz=>?_
 obtain⟨G,ρ,d,s,er,j,O⟩:=zz;obtain⟨x,I,j⟩:=aA.mp j;split at j
 .rename_i hx;obtain⟨a,S,A⟩:=IW er I;obtain⟨dx,ws,U,Y⟩:=V9 A hx;exact⟨_,S,a,dx,ws,rfl,U,Y,G,x,a,[],[],d,rfl,s,A,CA.nil,rfl,j,O⟩
 .cases j
end
noncomputable def qu(f:Str)(v:Fl):List (Str×Fl)->List (Str×Fl)
 | []=>[]
 |(g,y)::r=>if g==f then (g,v)::r else (g,y)::qu f v r
theorem Kw:∀{fs:List (Str×Fl)},fs.lookup f=some y->∃l1 j,fs=l1++(f,y)::j/\qu f v fs=l1++(f,v)::j
 | [],h=>by cases h
 |(g,z)::fs,h=>by
  rw[XA]at h;by_cases e:g=f
  .subst e;rw[beq_self_eq_true]at h;cases h;exact⟨[],fs,rfl,by simp[qu]⟩
  .have e':(f==g)=false:=beq_eq_false_iff_ne.mpr<|Ne.symm e;have I:(g==f)=false:=beq_eq_false_iff_ne.mpr e;rw[e']at h;obtain⟨l1,j,h1,h2⟩:=Kw (v:=v) h;exact⟨(g,z)::l1,j,by rw[h1];rfl,by simp only[qu,I,h2];rfl⟩
theorem xf{z I:Type}:∀{fs:List (Str×z)}{j:List (Str×I)},fs.map (·.1)=j.map (·.1)->fs.lookup x=none->j.lookup x=none
 | [],[],_,_=>rfl
 | [],_::_,h,_=>by cases h
 |_::_,[],h,_=>by cases h
 |(a,p)::fs,(b,q)::j,h,e=>by
  simp only[eA,uC]at h;obtain⟨rfl,h⟩:=h;rw[XA]at e ⊢;split at e
  .cases e
  .exact xf h e
theorem zMX{U:Type}{P S j B:List U}(h:(P++(S++B)).Nodup)(O:j.Nodup)(k:∀c∈j,c∈S\/(c∉P/\c∉B)):(P++(j++B)).Nodup:=by
 rw[BB]at h ⊢;obtain⟨h1,h2,h3⟩:=h;rw[BB]at h2 ⊢;obtain⟨Y,I,J⟩:=h2;refine⟨h1,⟨O,I,λa ha b hb=>?_⟩,λa ha b hb=>?_⟩
 .rcases k a ha with q|⟨_,q⟩
  .exact J a q b hb
  .intro z;subst z;exact q hb
 .rcases oA.mp hb with hb|hb
  .rcases k b hb with q|⟨q,_⟩
   .exact h3 a ha b<|cB _ q
   .intro z;subst z;exact q ha
  .exact h3 a ha b<|IA _ hb
theorem Pu{ws:List (Str×V)}(e:ws.lookup f=some u):jI H (l1++(f,y)::l2) ws=jI H l1 ws++(SH H y u++jI H l2 ws):=by
 unfold jI;rw[jO,AB,e]
section
variable {K:Fg}{G0 H0 G H H':Hp}{ρ:mB}{σ:L2.St}{i:Nat}{a b C dx:Addr}{c:Option Addr}{f:Str}{fs:List (Str×Fl)}{ws:List (Str×V)}{y y':Fd}
theorem At.mutF(h:At K G H (.ins C fs) a)(ha:H a=some (.ins C dx ws))(hl:fs.lookup f=some (.f y))(hw:ws.lookup f=some (.ref b))
  (hH:∀p u,p∉LF H y b->H p=some u->H' p=some u) (hr:BL K G H' y' b) (hn:(LF H' y' b).Nodup) (hf:∀p∈LF H' y' b,(p∈LF H y b\/H p=none)/\G p=none) :
  At K G H' (.ins C<|qu f (.f y') fs) a/\∀p∈OE H' (.ins C<|qu f (.f y') fs) a,p∈OE H (.ins C fs) a\/H p=none:=by
 obtain⟨l1,I,U,Y⟩:=Kw (v:=.f y') hl;obtain⟨Vx,M7,z1,z2,z3,z4⟩:=h.rep;rw[ha]at z1;cases z1;have sU:=h.nd
 have J:OE H (.ins C fs) a=(a::dx::jI H l1 ws)++(LF H y b++jI H I ws):=by
  simp only[OE];rw[ha];simp only[wW];rw[U,Pu hw];rfl
 rw[J]at sU;have fr:=h.fr;rw[J]at fr;have S:=h.rep.there;rw[J]at S;obtain⟨n1,n2,n3⟩:=BB.mp sU;obtain⟨n4,n5,n6⟩:=BB.mp n2;have O:∀p,p∈a::dx::jI H l1 ws->p∉LF H y b:=λp m q=>n3 p m p (cB _ q) rfl
 have Ha:∀p,p∈jI H I ws->p∉LF H y b:=λp m q=>n6 p q p m rfl
 have stay:∀(q:Str×Fl),(q∈l1\/q∈I)->∃u,ws.lookup q.1=some u/\UO K G H' q.2 u/\SH H' q.2 u=SH H q.2 u:=λq m=>by
  obtain⟨u,r1,r2⟩:=z3 q (by rw[U];rcases m with m|m;exact cB _ m;exact IA _<|dA _ m);refine⟨u,r1,r2.same (zd.refl _) λp mp v zz=>hH p v ?_ zz⟩;rcases m with m|m
  .exact O p<|dA _<|dA _<|OW m r1 mp
  .exact Ha p<|OW m r1 mp
 have GY:H' a=some (.ins C dx ws):=hH a _ (O a<|lA ..) ha;have AG:H' dx=some (.own a):=hH dx _ (O dx<|dA _<|lA ..) z2;have w1:jI H' l1 ws=jI H l1 ws:=Oh λq m=>let ⟨u,r1,_,r3⟩:=stay q<|.inl m;⟨u,r1,r3⟩
 have w2:jI H' I ws=jI H I ws:=Oh λq m=>let ⟨u,r1,_,r3⟩:=stay q<|.inr m;⟨u,r1,r3⟩
 have Z:OE H' (.ins C<|qu f (.f y') fs) a=(a::dx::jI H l1 ws)++(LF H' y' b++jI H I ws):=by
  simp only[OE];rw[GY];simp only[wW];rw[Y,Pu hw,w1,w2];rfl
 have j:fs.map (·.1)=(qu f (.f y') fs).map (·.1):=by rw[Y,U];simp
 refine⟨⟨⟨dx,ws,GY,AG,λq m=>?_,λx e=>z4.1 x<|xf j.symm e,by have:=congrArg dE j;simp only[kA]at this;rw[<- this];exact z4.2⟩,?_,λp m=>?_⟩,λp m=>?_⟩
 .rw[Y]at m;rcases oA.mp m with m|m
  .obtain⟨u,r1,r2,_⟩:=stay q<|.inl m;exact⟨u,r1,r2⟩
  .rcases nA.mp m with m|m
   .subst m;exact⟨_,hw,b,rfl,hr⟩
   .obtain⟨u,r1,r2,_⟩:=stay q<|.inr m;exact⟨u,r1,r2⟩
 .rw[Z];refine zMX sU hn λp m=>?_
  rcases(hf p m).1 with q|q
  .exact .inl q
  .refine .inr ⟨λz=>?_,λz=>?_⟩
   .obtain⟨u,e⟩:=S p<|cB _ z;rw[q]at e;cases e
   .obtain⟨u,e⟩:=S p<|IA _<|IA _ z;rw[q]at e;cases e
 .rw[Z]at m;rcases oA.mp m with m|m
  .exact fr p<|cB _ m
  .rcases oA.mp m with m|m
   .exact(hf p m).2
   .exact fr p<|IA _<|IA _ m
 .rw[Z]at m;rw[J];rcases oA.mp m with m|m
  .exact .inl<|cB _ m
  .rcases oA.mp m with m|m
   .rcases(hf p m).1 with q|q
    .exact .inl<|IA _<|cB _ q
    .exact .inr q
   .exact .inl<|IA _<|IA _ m
theorem zTG(ha:H a=some (.ins C dx ws))(j:fs.lookup f=some (.f y))(z:ws.lookup f=some (.ref b)):∀p∈LF H y b,p∈OE H (.ins C fs) a:=λp m=>by
 simp only[OE];rw[ha];exact dA _<|dA _<|OW (n8 j) z m
theorem UD.mutF(s:UD K G0 H0 G H ρ σ)(hu:ρ[i]?=some (.o c<|.ins C fs))(J:fs.lookup f=some (.f y))(I:σ[i]?=some (some<|.ref a))(ha:H a=some (.ins C dx ws))(O:ws.lookup f=some (.ref b))
  (S:zd G H') (hH:∀p u,p∉LF H y b->H p=some u->H' p=some u) (hr:BL K G H' y' b) (U:(LF H' y' b).Nodup) (hf:∀p∈LF H' y' b,(p∈LF H y b\/H p=none)/\G p=none) :
  UD K G0 H0 G H' (ρ.set i<|.o c<|.ins C<|qu f (.f y') fs) σ:=by
 obtain⟨Y,h1,h2,h3⟩:=s.er.slot i _ hu rfl;rw[I]at h1;cases h1;have A:At K G H (.ins C fs) a:=⟨h2.1.1,h2.1.2,h3⟩
 obtain⟨j,sub⟩:=A.mutF ha J O hH hr U hf;exact s.mutG hu rfl rfl I (zd.refl _) S (λp o e n=>by rw[n]at e;cases e) (λp o e n=>hH p o (λz=>n<|zTG ha J O p z) e) ⟨⟨j.rep,j.nd⟩,h2.2⟩ λp m=>⟨sub p m,j.fr p m⟩
theorem UD.fldAt(s:UD K G0 H0 G H ρ σ)(hu:ρ[i]?=some (.o c<|.ins C fs))(j:fs.lookup f=some (.f y)):∃a dx ws b,σ[i]?=some (some<|.ref a)/\H a=some (.ins C dx ws)/\ws.lookup f=some (.ref b)/\BL K G H y b/\(∀p∈LF H y b,G p=none)/\(LF H y b).Nodup:=by
 obtain⟨a,h1,h2,h3⟩:=s.er.slot i _ hu rfl;have A:At K G H (.ins C fs) a:=⟨h2.1.1,h2.1.2,h3⟩
 obtain⟨dx,ws,u,z,I,⟨b,rfl,S⟩,U⟩:=A.fld (C:=C) (f:=f) (fl:=.f y)<|(if_pos rfl).trans j;refine⟨a,dx,ws,b,h1,z,I,S,U,?_⟩;obtain⟨l1,O,J,Y⟩:=Kw (v:=.f y) j;have nd:=A.nd;simp only[OE]at nd;rw[z]at nd;simp only[wW]at nd;rw[J,Pu I]at nd;have nd:((a::dx::jI H l1 ws)++(LF H y b++jI H O ws)).Nodup:=nd;exact(BB.mp (BB.mp nd).2.1).1
end
end RD
namespace PySem
theorem zCB{prog:Program}{w:World}{K:Type}[DecidableEq K]{knd:HeapKind prog w K}{A:Around}{E:KD}{s:Shared}{d a:Addr}{xs:List (K×Addr×Value)}{k:K}{v:Value}{Q:KD}(hu:knd.room A)(J:knd.is s.heap k a)(hm:s.heap.DictOfH knd d xs)
  (h1:∀p,atKey xs k=some p->Q p.2 { s with toks:=s.toks+knd.draws k })
  (hQ:atKey xs k=none->∀h',h'.DictOfH knd d (storedH xs k a v)->RE d s.heap h'->Q v { s with heap:=h',toks:=s.toks+knd.draws k })
  (hsz:xs.length<=sizeLine):wpAny (model prog w) A (dictSetDefault d (.ref a) v) Q E s:=by
 obtain⟨o,es,ep,z,hc,hd,he,S,O⟩:=hm;unfold dictSetDefault
 try with_reducible refine wpAny_holding ?_
 refine wpAny_bind<|knd.pyHash hu J<|wpAny_bind<|wpAny_dictFind_heap (s:={ s with toks:=s.toks+knd.draws k }) hu J z hd he S O ?_ ?_
 .intro I;have Y:k∉xs.map (·.1):=not_mem_keys_of_get I
  refine wpAny_bind (wpAny_rule<|wpAny_bind<|wpAny_updateDictKeys (hz:=by have e:=Bq he;omega) (s:={ s with toks:=s.toks+knd.draws k }) z hd<|wpAny_pure<|hQ (atKey_none_of_get I) _ ⟨_,_,ep+1,iF _ z<|Obj.isFreed_of_dict<|lO hd _,
   hc.mapDictKeys _,lO hd _,?_,?_,?_⟩<|QD ..)
  .rw[aS<|atKey_none_of_get I];simp[he,entryOfKey]
  .rw[aS<|atKey_none_of_get I];intro x hx;rcases oA.mp hx with hx|hx
   .exact knd.keeps (S x hx) z hd<|QD ..
   .simp only[gA]at hx;subst hx;exact knd.keeps J z hd<|QD ..
  .rw[aS<|atKey_none_of_get I];rw[GA,BB];refine⟨O,by simp,?_⟩;intro x hx y hy;simp only[eA,vC,gA]at hy;subst hy
   exactλe=>Y<|e ▸ hx
 .intro j p U;refine wpAny_bind<|wpAny_dictEntries (s:={ s with toks:=s.toks+knd.draws k }) z hd ?_;rw[entry_at he j,U];exact wpAny_bind<|wpAny_rule<|wpAny_pure<|h1 p<|atKey_of_get O U
theorem qU{prog:Program}{w:World}{K:Type}[DecidableEq K](knd:HeapKind prog w K)(d a:Addr)(hd:(d==sysModules)=false)(dflt:Value):
  MeetsIn prog w (Builtin.«dict.setdefault» ⟨[.ref d,.ref a,dflt],[]⟩) (λA R s=>knd.room A.in1/\∃k xs,knd.is s.heap k a/\s.heap.DictOfH knd d xs/\xs.length<=sizeLine /\
   (∀p,atKey xs k=some p->R (.ok<|.ret p.2) { s with toks:=s.toks+knd.draws k }) /\
   (atKey xs k=none->∀h',h'.DictOfH knd d (storedH xs k a dflt)->RE d s.heap h'->R (.ok<|.ret dflt) { s with heap:=h',toks:=s.toks+knd.draws k })):=
 .of_wp λA R s=>by
  rintro⟨hu,k,xs,z,hm,hz,h1,h2⟩;unfold Builtin.«dict.setdefault»;refine wpAny_bind ?_;unfold Bh;refine wpAny_bind<|wpAny_notOrdered_dict hm.typeIs ?_;show wpAny _ _ (pure (d,pB a,some dflt)) _ _ s;refine wpAny_pure ?_;show wpAny _ _ (if (d==sysModules)=true then _ else (dictSetDefault d (.ref a) dflt >>= _)) _ _ s;rw[if_neg (by rw[hd];exact YA)];exact wpAny_bind (zCB hu z hm (λv hv=>wpAny_pure ⟨_,rfl,h1 v hv⟩) (λJ h' j I=>wpAny_pure ⟨dflt,rfl,h2 J h' j I⟩) hz)
end PySem
namespace RD
open PySem PySem.Spec PyProof.Rows L2
def WZ:V->List V->Hp->VK->Prop:=λx vs H Q=>∃a y z,x=.ref a/\vs=[y,z]/\((∃v,cI H a y (some v)/\((∃kvs,H a=some (.dK kvs))\/∃kvs,H a=some (.dT kvs))/\Q v H)\/(cI H a y none/\∃H',OP H a y z H'/\Q z H'))
section
variable {X:Cx}
theorem vf(hu:X.A.units+1<cLine):dW X "dict.setdefault" WZ:=by
 intro pins s σ H x vs v us Q I rx rv h;obtain⟨a,y,z,rfl,rfl,h⟩:=h;cases rx;obtain⟨u,r,rfl,ru,rr⟩:=rv.two;rcases h with⟨v,g,hm,q⟩|⟨g,H',hp,q⟩
 .rcases hm with⟨sI,em⟩|⟨sI,em⟩
  .rcases g with⟨kvs,k,e,J,l⟩|⟨kvs,k,b,e,J,S,l⟩
   .subst J;obtain⟨zz,hd,vs,j,dd⟩:=US I.hok e;have hz:vs.length<=sizeLine:=by rw[<- j.length];exact zz
    obtain⟨w',hw,rw'⟩:=bK.some_of (v:=v) (o:=valueAt vs k) (by rw[l];exact j.val k)
    exact CF fC dd.typeIs sD (lD _ _ _) (kt_meets_setdefault (zt X.prog X.w) a (EQ ru) hd r)
     ⟨vs,dd,hz,(λv' Z=>by rw[hw]at Z;cases Z;exact⟨v,H,I.tok _,rw',q⟩),(λO=>by rw[hw]at O;cases O)⟩
   .rcases e with e|⟨o,e⟩<;>(rw[em]at e;cases e)
  .rcases g with⟨kvs,k,e,J,l⟩|⟨kvs,k,b,e,J,S,l⟩
   .rcases e with e|⟨o,e⟩<;>(rw[em]at e;cases e)
   .subst J;cases (show u=pB b from ru);obtain⟨zz,hd,xs,j,dd⟩:=VS I.hok e;have hz:xs.length<=sizeLine:=by rw[<- Paired.length j];exact zz
    obtain⟨w',hw,rw'⟩:=bK.some_of (v:=v) (o:=(atKey xs k).map (·.2)) (by rw[l];exact j.val k);obtain⟨p,hp,Fv⟩:=bA.mp hw
    exact CF fC dd.typeIs sD (lD _ _ _) (qU (tupleKind<|zt X.prog X.w) a b hd r)
     ⟨tupleKind_room_in1 hu,k,xs,vR I.hok S,dd,hz,(λp' Y=>by rw[hp]at Y;cases Y;exact⟨v,H,I.tok _,by rw[Fv];exact rw',q⟩),(λO=>by rw[hp]at O;cases O)⟩
 .rcases hp with⟨kvs,k,e,J,l,eH⟩|⟨kvs,k,b,e,J,S,l,eH⟩
  .subst J eH
   have hv:oG kvs k=none:=by
    rcases g with⟨sI,k',e',U,l'⟩|⟨sI,k',b',e',U,De,l'⟩
    .rcases e' with e' | ⟨o,e'⟩
     .rw[e]at e';cases e';have:k=k':=by cases k<;>cases k'<;>simp[kV]at U<;>rw[U]
      subst this;exact l'.symm
     .rw[e]at e';cases e'
    .rcases e' with e' | ⟨o,e'⟩<;>(rw[e]at e';cases e')
   obtain⟨zz,hd,vs,j,dd⟩:=Ak I.hok e;have hz:vs.length<=sizeLine:=by rw[<- j.length];exact zz
   have hl:(vH kvs k z).length<=sizeLine:=by have:=qo kvs k z;omega
   have O:valueAt vs k=none:=bK.none_of (by rw[<- hv];exact j.val k)
   refine CF fC dd.typeIs sD (lD _ _ _) (kt_meets_setdefault (zt X.prog X.w) a (EQ ru) hd r)
     ⟨vs,dd,hz,(λv' Z=>by rw[O]at Z;cases Z),(λ_ h' pN hs=>?_)⟩
   have he:∃q,h'.get? a=some q:=let ⟨q,_,_,hq,_⟩:=pN;⟨q,hq⟩;exact⟨z,_,MW I (by rw[e];exact True.intro) hs he<|Rb hl hd (j.put k rr) pN,rr,q⟩
  .subst J eH;cases (show u=pB b from ru)
   have hv:oG kvs k=none:=by
    rcases g with⟨sI,k',e',U,l'⟩|⟨sI,k',b',e',U,De,l'⟩
    .rcases e' with e' | ⟨o,e'⟩<;>(rw[e]at e';cases e')
    .cases U;rcases e' with e' | ⟨o,e'⟩
     .rw[e]at e';cases e';rw[S]at De;have:k.map kV=k'.map kV:=by injection De with z;injection z
      have:k=k':=zNW this;subst this;exact l'.symm
     .rw[e]at e';cases e'
   obtain⟨zz,hd,xs,j,dd⟩:=So I.hok e;have hz:xs.length<=sizeLine:=by rw[<- Paired.length j];exact zz
   have hl:(vH kvs k z).length<=sizeLine:=by have:=qo kvs k z;omega
   have O:atKey xs k=none:=by
    have:=bK.none_of (o:=(atKey xs k).map (·.2)) (by rw[<- hv];exact j.val k);simpa using this
   refine CF fC dd.typeIs sD (lD _ _ _) (qU (tupleKind<|zt X.prog X.w) a b hd r)
     ⟨tupleKind_room_in1 hu,k,xs,vR I.hok S,dd,hz,(λp' Y=>by rw[O]at Y;cases Y),(λ_ h' pN hs=>?_)⟩
   obtain⟨q',es,ep,hq,h2,h3,h4,_,h5⟩:=pN;refine⟨z,_,MW (ob:=.dT<|vH kvs k z) I (by rw[e];exact True.intro) hs ⟨q',hq⟩ ⟨hl,hd,_,(j.put k S rr).keeps λc ys ec=>?_,q',es,ep,hq,h2,h3,h4,h5⟩,rr,q⟩;rw[upd_ne<|Sm ec e<|λz=>nomatch z];exact ec
end
noncomputable def d5:List D->Option (List XB)
 | []=>some []
 |d::r=>(cH d).bind λk=>(d5 r).map (k :: ·)
def QP:D->Option (List XB)
 |.tup ds=>d5 ds
 |_=>none
theorem zI9{K:Fg}{G:Hp}:∀{ds:List D}{ks:List XB}{vs:List V},d5 ds=some ks->CA K G ds vs->vs=ks.map kV
 | [],ks,vs,h,r=>by cases h;exact yP.mp r
 |d::ds,ks,vs,h,r=>by
  obtain⟨k,j,h⟩:=aA.mp h;obtain⟨l,z,rfl⟩:=bA.mp h;obtain⟨v,t,rfl,a,b⟩:=zX.mp r;rw[EO j a,zI9 z b];rfl
theorem eV{K:Fg}{G:Hp}{d:D}{ks:List XB}{v:V}(h:QP d=some ks)(r:Rep K G d v):∃b,v=.ref b/\G b=some (.tup<|ks.map kV):=by
 cases d with
 |tup ds=>
  obtain⟨a,vs,e,q,w⟩:=IS.mp r;rw[zI9 h w]at q
  exact⟨a,e,q⟩
 |_=>cases h
noncomputable def yj{κ:Type}[DecidableEq κ]{α:Type}(kvs:List (κ×α))(k:κ):Option α:=(kvs.find? λkv=>decide<|kv.1=k).map (·.2)
noncomputable def rG{κ:Type}[DecidableEq κ]{α:Type}(k:κ)(x:α):List (κ×α)->List (κ×α)
 | []=>[]
 |q::r=>if q.1=k then (q.1,x)::r else q::rG k x r
theorem setT_keys{κ:Type}[DecidableEq κ]{j:Type}{k:κ}{x:j}:∀(kvs:List (κ×j)),(rG k x kvs).map (·.1)=kvs.map (·.1)
 | []=>rfl
 |q::r=>by
  unfold rG;split
  .rfl
  .simp[setT_keys r]
section
variable {K:Fg}{G H H':Hp}{κ:Type}[DecidableEq κ]
theorem yA.get:∀{kvs:List (κ×List D)}{ws:List (κ×V)},kvs.map (·.1)=ws.map (·.1)->yA K G H (kvs.map (·.2)) (ws.map (·.2))->(yj kvs k=none/\oG ws k=none)\/∃xs b us,yj kvs k=some xs/\oG ws k=some (.ref b)/\H b=some (.lst us)/\CA K G xs us/\b∈eK ws
 | [],[],_,_=>.inl ⟨rfl,rfl⟩
 | [],_::_,h,_=>by cases h
 |_::_,[],h,_=>by cases h
 |(k1,x)::kvs,(k2,w)::ws,h,r=>by
  simp only[eA,uC]at h;obtain⟨rfl,h⟩:=h;simp only[eA,yA]at r;obtain⟨b,us,t,e,J,r1,r2⟩:=r;cases e;by_cases hk:k1=k
  .right
   refine⟨x,b,us,?_,?_,J,r1,qO.mpr<|lA ..⟩
   .simp[yj,hk]
   .simp[oG,hk]
  .rcases yA.get (k:=k) h r2 with⟨j,z⟩|⟨xs,b',I,j,z,O,S,U⟩
   .left
    constructor
    .simpa[yj,hk] using j
    .simpa[oG,hk] using z
   .right
    refine⟨xs,b',I,?_,?_,O,S,qO.mpr<|dA _<|qO.mp U⟩
    .simpa[yj,hk] using j
    .simpa[oG,hk] using z
theorem yA.set(hb:H' b=some (.lst L7))(hr:CA K G uQ L7)(hH:∀p o,p≠b->H p=some o->H' p=some o):∀{kvs:List (κ×List D)}{ws:List (κ×V)},kvs.map (·.1)=ws.map (·.1)->yA K G H (kvs.map (·.2)) (ws.map (·.2))->(eK ws).Nodup->oG ws k=some (.ref b)->yA K G H' ((rG k uQ kvs).map (·.2)) (ws.map (·.2))
 | [],[],_,_,_,h=>by cases h
 | [],_::_,h,_,_,_=>by cases h
 |_::_,[],h,_,_,_=>by cases h
 |(k1,x)::kvs,(k2,w)::ws,h,r,n,g=>by
  simp only[eA,uC]at h;obtain⟨rfl,h⟩:=h;simp only[eA,yA]at r;obtain⟨c,us,t,e,J,r1,r2⟩:=r;cases e;have O:(c::eK ws).Nodup:=n;have I:=NB.mp O;by_cases hk:k1=k
  .have:c=b:=by
    simp[oG,hk]at g;exact g
   subst this;have es:rG k uQ ((k1,x)::kvs)=(k1,uQ)::kvs:=by simp[rG,hk]
   rw[es];simp only[eA,yA];refine⟨c,L7,_,rfl,hb,hr,r2.same (zd.refl _) λp m o z=>hH p o (λq=>?_) z⟩;subst q;exact I.1<|qO.mpr m
  .have g':oG ws k=some (.ref b):=by simpa[oG,hk] using g
   have es:rG k uQ ((k1,x)::kvs)=(k1,x)::rG k uQ kvs:=by simp[rG,hk]
   rw[es];simp only[eA,yA]
   have hc:c≠b:=λq=>by
    subst q;rcases yA.get (k:=k) h r2 with⟨_,j⟩|⟨_,b',_,_,j,_,_,S⟩
    .rw[g']at j;cases j
    .rw[g']at j;cases j;exact I.1 S
   exact⟨c,us,_,rfl,hH c _ hc J,r1,yA.set hb hr hH h r2 I.2 g'⟩
theorem yA.snoc(hb:H b=some (.lst us))(hr:CA K G xs us):∀{l:List (List D)}{vs:List V},yA K G H l vs->yA K G H (l++[xs]) (vs++[.ref b])
 | [],_,h=>by simp only[yA]at h;subst h;simp only[DB,yA];exact⟨b,us,[],rfl,hb,hr,rfl⟩
 |x::l,_,h=>by
  simp only[yA]at h;obtain⟨c,jH,t,rfl,e,r,q⟩:=h;simp only[MB,yA];exact⟨c,jH,_,rfl,e,r,yA.snoc hb hr q⟩
end
noncomputable def YS(C:Addr)(i:Nat)(f:Str)(ρ:mB):Option (Option Addr×List (Str×Fl)×Fd):=match ρ[i]? with
 |some (.o c<|.ins C' fs)=>if C'=C then (match fs.lookup f with
  |some (.f y)=>some (c,fs,y)
  |_=>none) else none
 |_=>none
theorem d9{ρ:mB}{fs:List (Str×Fl)}(h:YS C i f ρ=some (c,fs,y)):ρ[i]?=some (.o c<|.ins C fs)/\fs.lookup f=some (.f y):=by
 unfold YS at h;split at h
 .rename_i q;split at h
  .rename_i z;subst z;split at h
   .rename_i l;cases h;exact⟨q,l⟩
   .cases h
  .cases h
 .cases h
def MP(C:Addr)(i:Nat)(f:Str)(c:Option Addr)(fs:List (Str×Fl))(y:Fd)(ρ:mB):mB:=ρ.set i<|.o c<|.ins C<|qu f (.f y) fs
section
variable {X:Cx}{o a:Expr}{pos apos uB:Pos}{C:Addr}{f:Str}{fe:dC}
def As(C:Addr)(i:Nat)(f:Str)(fe:dC):VB:=λρ=>(YS C i f ρ).bind λq=>match q.2.2 with
 |.l xs=>if xs.length<1000000 then (fe ρ).map λd=>.nx (MP C i f q.1 q.2.1 (.l<|xs++[d]) ρ) else none
 |_=>none
theorem zTH(i:Nat)(c:fJ X.K C)(n:qT X.K C f)(ho:PE X o (RF i))(ha:SE X a fe)(hb:WJ X o f:=by rfl)(ZC:WJ X (.Attribute o f tG) "append":=by rfl)(gG:RO X uB [a]:=by rfl)(aD:WM apos uB:=by rfl)(hs:BG X a []:=by rfl)(dD:EH X uB []:=by rfl)(VI:ZI X (.Call (.Attribute (.Attribute o f tG) "append" apos) [a] [] uB) none pos:=by rfl):
  SS X (.Expr (.Call (.Attribute (.Attribute o f tG) "append" apos) [a] [] uB) pos) (As C i f fe):=
 yN (rR (OO IB lE mE D3 (mV ho hb) (zx ha yl hs) ZC gG aD hs dD) VI) λE σ H=>by
  rintro⟨G0,H0,G,ρ,o,st,j,k⟩;obtain⟨⟨c',fs,y⟩,e1,j⟩:=aA.mp j;obtain⟨hu,J⟩:=d9 e1
  cases y with
  |l xs=>
   simp only at j;split at j
   .rename_i I;obtain⟨d,e2,rfl⟩:=bA.mp j;obtain⟨a1,dx,ws,b,O,S,U,⟨vs,q4,q5⟩,q6,q7⟩:=st.fldAt hu J;refine⟨_,O,a1,C,dx,ws,_,rfl,S,c,n,U,.inl ⟨rfl,vs,GF.of q4⟩,G,ρ,d,st.bs.gh,st.er,e2,λv G' H' t r=>?_⟩;have CC:=st.step t
    have Z:G' b=none:=by
     obtain⟨a2,dx2,ES,b2,w1,w2,w3,_,w6,_⟩:=CC.fldAt hu J;rw[O]at w1;cases w1;rw[t.h _ _ S]at w2;cases w2;rw[U]at w3;cases w3;exact w6 b<|gA.mpr rfl
    have Y:=t.h _ _ q4;refine⟨b,vs,v,rfl,rfl,Y,DA (by rw[<- q5.length];exact I)<|by decide,k σ G' _<|CC.mutF (y':=.l<|xs++[d]) hu J O (t.h _ _ S) U (λp x e=>?_) (λp x np e=>?_) ⟨_,zL,(CA.mono t.g _ _ q5).append<|CA.cons r CA.nil⟩ (by simp[LF]) λp m=>?_⟩
    .rw[upd_ne (λz=>by rw[z,Z]at e;cases e)];exact t.s _ _ e
    .rw[upd_ne<|λz=>np<|gA.mpr z];exact e
    .cases gA.mp m;exact⟨.inl<|gA.mpr rfl,Z⟩
   .cases j
  |_=>cases j
def Sv(C:Addr)(i:Nat)(f:Str)(fi fe:dC):VB:=λρ=>(fe ρ).bind λd=>(YS C i f ρ).bind λq=>match q.2.2 with
 |.l xs=>(fi ρ).bind λdi=>match di with
  |.int n=>(kI xs.length n).map λj=>.nx<|MP C i f q.1 q.2.1 (.l<|xs.set j d) ρ
  |_=>none
 |_=>none
theorem zTJ{fi:dC}(i:Nat)(c:fJ X.K C)(n:qT X.K C f)(ho:PE X o (RF i))(hi:SE X ie fi)(ha:SE X a fe)(hb:WJ X o f:=by rfl) (hg:∀v,assign (.Subscript (.Attribute o f tG) ie HF) X.env v=(do
   let ov <- holding [v] (eval (.Attribute o f tG) X.env)
   let iv <- holding [v,ov] (eval ie X.env)
   standAt HF
   holding [v,ov,iv] (setItem ov iv v)
   release [v,ov,iv] []):=by intro _;rfl) (hs:KJ [.Subscript (.Attribute o f tG) ie HF] a pos.line X.env=pure false:=by rfl) (hw:JJ [.Subscript (.Attribute o f tG) ie HF] a X.env=pure none:=by rfl) (h1:(assignEach [.Subscript (.Attribute o f tG) ie HF] X.env).map (·.2)=[assign (.Subscript (.Attribute o f tG) ie HF) X.env]:=by rfl):SS X (.Assign [.Subscript (.Attribute o f tG) ie HF] a pos) (Sv C i f fi fe):=
 yN (Qw ha (zRg (mV ho hb) hi zK1 hg) hs hw h1) λE σ H=>by
  rintro⟨G0,H0,G,ρ,o,st,I,k⟩;obtain⟨d,e1,I⟩:=aA.mp I;obtain⟨⟨c',fs,y⟩,e2,I⟩:=aA.mp I;obtain⟨hu,J⟩:=d9 e2
  cases y with
  |l xs=>
   obtain⟨di,e3,I⟩:=aA.mp I
   cases di with
   |int m=>
    obtain⟨j,e4,rfl⟩:=bA.mp I;refine⟨G,ρ,d,st.bs.gh,st.er,e1,λv G1 H1 t1 r1=>?_⟩;obtain⟨a1,dx,ws,b,O,S,U,_,_,_⟩:=(st.step t1).fldAt hu J;refine⟨_,O,a1,C,dx,ws,_,rfl,S,c,n,U,G1,ρ,_,t1.s,st.er.step t1,e3,λv2 Y H2 t2 r2=>?_⟩;have CC:=(st.step t1).step t2;obtain⟨a2,dx2,ES,b2,w1,w2,w3,⟨vs,w4,w5⟩,w6,_⟩:=CC.fldAt hu J;rw[O]at w1;cases w1;rw[t2.h _ _ S]at w2;cases w2;rw[U]at w3;cases w3;have Z:Y b=none:=w6 b<|gA.mpr rfl;refine⟨b,vs,m,j,rfl,yE.mp r2,w4,by rw[<- w5.length];exact e4,k σ Y _<|CC.mutF (y':=.l<|xs.set j d) hu J O (t2.h _ _ S) U (λp x e=>?_) (λp x np e=>?_) ⟨_,zL,w5.set j<|Rep.mono t2.g _ _ r1⟩ (by simp[LF]) λp mm=>?_⟩
    .rw[upd_ne (λz=>by rw[z,Z]at e;cases e)];exact t2.s _ _ e
    .rw[upd_ne<|λz=>np<|gA.mpr z];exact e
    .cases gA.mp mm;exact⟨.inl<|gA.mpr rfl,Z⟩
   |_=>cases I
  |_=>cases I
end
def kR(C:Addr)(i:Nat)(f:Str)(fk fd:dC):dC:=λρ=>(TL C i f ρ).bind λfl=>match fl with
 |.f (.tl kvs)=>(fk ρ).bind λkd=>(QP kd).bind λk=>(fd ρ).map λd=>match yj kvs k with
  |some xs=>.lst xs
  |none=>d
 |_=>none
section
variable {X:Cx}{o a ke de:Expr}{pos apos uB tG:Pos}{C:Addr}{f:Str}{fe fk fd:dC}
theorem zTK(i:Nat)(hu:X.A.units+1<cLine)(c:fJ X.K C)(n:qT X.K C f)(ho:PE X o (RF i))(hk:SE X ke fk)(hd:SE X de fd)(m:M2 X (.Attribute o f tG) "get" apos ke de uB)(hb:WJ X o f:=by rfl):
  SR X (.Call (.Attribute (.Attribute o f tG) "get" apos) [ke,de] [] uB) (kR C i f fk fd):=
 aG (zK7 hu (mV ho hb) hk hd m) λσ H Q=>by
  rintro⟨G,ρ,d,s,er,j,k⟩;obtain⟨fl,e1,j⟩:=aA.mp j;obtain⟨x,e3,U⟩:=aA.mp e1;obtain⟨a,q1,A⟩:=IW er e3
  cases fl with
  |v d'=>cases j
  |f y=>
   cases y with
   |tl kvs=>
    obtain⟨kd,e5,j⟩:=aA.mp j;obtain⟨kk,e6,j⟩:=aA.mp j;obtain⟨dd,e7,rfl⟩:=bA.mp j;obtain⟨dx,ws,u,w1,w2,⟨b,rfl,vs,I,z2,z3⟩,w4⟩:=A.fld U;refine⟨_,q1,a,C,dx,ws,_,rfl,w1,c,n,w2,b,rfl,.inr ⟨vs,.inl I⟩,G,ρ,kd,s,er,e5,λv1 G1 H1 t1 r1=>?_⟩;refine⟨G1,ρ,dd,t1.s,er.step t1,e7,λv2 O H2 t2 r2=>?_⟩;obtain⟨kb,rfl,dM⟩:=eV e6 r1;have tt:=t1.trans t2;have A2:=A.step tt;obtain⟨Vx,M7,u',Y,Z,⟨b',e',jH,S,Iy,Iz⟩,J⟩:=A2.fld U;rw[tt.h _ _ w1]at Y;cases Y;rw[w2]at Z;cases Z;cases e';rw[tt.h _ _ I]at S;cases S;refine⟨oG vs kk,cI.t (tt.h _ _ I)<|t2.h _ _<|t1.s _ _ dM,?_⟩;rcases yA.get (k:=kk) Iy Iz with⟨g1,g2⟩|⟨xs,b',us,g1,g2,g3,g4,g5⟩
    .rw[g2];have:=k v2 O H2 tt (.fr (by simp only[g1];exact r2));exact this
    .rw[g2];refine k (.ref b') O H2 tt ?_;simp only[g1];refine .ow (J b' ?_) g3 g4;simp only[SH,LF];rw[tt.h _ _ I]
     exact dA _ g5
   |_=>cases j
end
theorem xg:∀(fs:List (Str×Fl)),qu f v (qu f u fs)=qu f v fs
 | []=>rfl
 |(g,y)::r=>by
  by_cases e:(g==f)=true
  .simp[qu,e]
  .have e:(g==f)=false:=by simpa using e
   simp[qu,e,xg r]
theorem vj:∀{fs:List (Str×Fl)},fs.lookup f=some y->(qu f v fs).lookup f=some v
 | [],h=>by cases h
 |(g,z)::r,h=>by
  by_cases e:g=f
  .subst e;simp[qu]
  .have I:(g==f)=false:=beq_eq_false_iff_ne.mpr e;have j:(f==g)=false:=beq_eq_false_iff_ne.mpr<|Ne.symm e;rw[XA,j]at h;simp only[qu,I,RA,if_false,XA,j];exact vj h
theorem Oq{κ:Type}[DecidableEq κ]{j:Type}{k:κ}{x y:j}:∀{kvs:List (κ×j)},yj kvs k=none->rG k y (kvs++[(k,x)])=kvs++[(k,y)]
 | [],_=>by simp[rG]
 |q::r,h=>by
  by_cases e:q.1=k
  .simp[yj,e]at h
  .have h':yj r k=none:=by simpa[yj,e] using h
   simp only[MB,rG,if_neg e,Oq h']
theorem Os{κ:Type}[DecidableEq κ]{k:κ}{v:V}:∀{kvs:List (κ×V)},oG kvs k=none->oG (kvs++[(k,v)]) k=some v
 | [],_=>by simp[oG]
 |q::r,h=>by
  by_cases e:q.1=k
  .simp[oG,e]at h
  .have h':oG r k=none:=by simpa[oG,e] using h
   have:=Os (v:=v) h';simpa[oG,e] using this
theorem zOH{κ:Type}{ws:List (κ×V)}{k:κ}{p:Addr}:eK (ws++[(k,.ref p)])=eK ws++[p]:=by
 unfold eK;rw[List.filterMap_append];rfl
def LM(K:Fg){κ:Type}(mk:List (κ×V)->HO)(G H:Hp)(b:Addr)(kvs:List (κ×List D))(vs:List (κ×V)):Prop:=
 H b=some (mk vs)/\kvs.map (·.1)=vs.map (·.1)/\yA K G H (kvs.map (·.2)) (vs.map (·.2))/\(b::eK vs).Nodup/\∀p∈b::eK vs,G p=none
def UX(K:Fg){κ:Type}(mk:List (κ×V)->HO)(G H:Hp)(b:Addr)(vs:List (κ×V))(H':Hp)(sI:List (κ×List D))(jH:List (κ×V)):Prop:=
 LM K mk G H' b sI jH/\zd G H'/\(∀p x,p∉b::eK vs->H p=some x->H' p=some x)/\∀q∈b::eK jH,q∈b::eK vs\/H q=none
section
variable {K:Fg}{κ:Type}{mk:List (κ×V)->HO}{G H G' H':Hp}{b b' p:Addr}{kvs:List (κ×List D)}{vs:List (κ×V)}{k:κ}{xs:List D}{us:List V}
theorem LM.step(m:LM K mk G H b kvs vs)(t:zb G H G' H'):LM K mk G' H' b kvs vs:=by
 obtain⟨m1,j,m3,m4,m5⟩:=m;refine⟨t.h _ _ m1,j,m3.same t.g λq _ o z=>t.h _ _ z,m4,λq h=>?_⟩
 cases e:G' q with
 |none=>rfl
 |some x=>
  have e:=t.f q x e<|m5 q h;rcases nA.mp h with h|h
  .rw[h,m1]at e;cases e
  .obtain⟨o,z⟩:=m3.there q<|qO.mp h;rw[e]at z;cases z
theorem LM.new(m:LM K mk G H b kvs vs)(s:zd G H)(hp:H p=none):UX K mk G H b vs (upd (upd H p<|.lst []) b<|mk<|vs++[(k,.ref p)]) (kvs++[(k,[])]) (vs++[(k,.ref p)]):=by
 obtain⟨m1,I,m3,m4,m5⟩:=m;have nd:=NB.mp m4;have j:p≠b:=λz=>by rw[z,m1]at hp;cases hp
 have hq:∀{q:Addr}{x:HO},q≠b->H q=some x->upd (upd H p<|.lst []) b (mk<|vs++[(k,.ref p)]) q=some x:=λn e=>by
  rw[upd_ne n,upd_ne (λz=>by rw[z,hp]at e;cases e)];exact e
 have hr:b::eK (vs++[(k,.ref p)])=(b::eK vs)++[p]:=by rw[zOH];rfl
 unfold UX LM;rw[hr]
 refine⟨⟨zL,by simp[I],by rw[GA,GA];exact yA.snoc (by rw[upd_ne j,zL]) CA.nil<|m3.same (zd.refl _) λq m o z=>hq (λzz=>nd.1<|zz ▸ qO.mpr m) z,BB.mpr ⟨m4,by simp,λx hx y hy z=>?_⟩,λq h=>?_⟩,
  λq x e=>hq (λz=>by rw[z,m5 b<|lA ..]at e;cases e)<|s _ _ e,λq x n e=>hq (λz=>n<|z ▸ lA ..) e,λq h=>?_⟩
 .cases gA.mp hy;subst z;rcases nA.mp hx with z|hx
  .exact j z
  .obtain⟨o,e⟩:=m3.there _<|qO.mp hx;rw[hp]at e;cases e
 .rcases oA.mp h with h|h
  .exact m5 q h
  .cases gA.mp h;exact s.free hp
 .rcases oA.mp h with h|h
  .exact .inl h
  .cases gA.mp h;exact .inr hp
variable [DecidableEq κ]
theorem LM.put(m:LM K mk G H b kvs vs)(s:zd G H)(g:oG vs k=some (.ref b'))(r:CA K G xs us):UX K mk G H b vs (upd H b'<|.lst us) (rG k xs kvs) vs:=by
 obtain⟨m1,I,m3,m4,m5⟩:=m;have nd:=NB.mp m4
 have j:b'∈eK vs:=by
  rcases yA.get (k:=k) I m3 with⟨_,q⟩|⟨_,_,_,_,q,_,_,j⟩<;>rw[g]at q<;>cases q;exact j
 have J:=dA b j
 exact⟨⟨(upd_ne λz=>nd.1 (by rw[z];exact j)).trans m1,by rw[setT_keys];exact I,yA.set zL r (λq x np e=>(upd_ne np).trans e) I m3 nd.2 g,m4,m5⟩,
  λq x e=>(upd_ne λz=>by rw[z,m5 _ J]at e;cases e).trans<|s _ _ e,λq x np e=>(upd_ne λz=>np (by rw[z];exact J)).trans e,λq h=>.inl h⟩
theorem LM.gone(m:LM K mk G H b kvs vs)(g:yj kvs k=none)(j:kvs.length<1000000):oG vs k=none/\vs.length<sizeLine:=by
 constructor
 .rcases yA.get (k:=k) m.2.1 m.2.2.1 with⟨_,q⟩|⟨_,_,_,q,_⟩
  .exact q
  .rw[g]at q;cases q
 .have:=congrArg dE m.2.1;simp only[kA]at this;rw[<- this];exact DA j (by decide)
end
section
variable {K:Fg}{G0 H0 G H H':Hp}{ρ:mB}{σ:L2.St}{i:Nat}{c:Option Addr}{C a dx b:Addr}{f:Str}{fs:List (Str×Fl)}{ws:List (Str×V)}{kvs sI:List (List XB×List D)}{vs jH:List (List XB×V)}
theorem i5(h:H b=some (.dT vs)):LF H (.tl kvs) b=b::eK vs:=by simp only[LF];rw[h];rfl
theorem UD.mlF(s:UD K G0 H0 G H ρ σ)(hu:ρ[i]?=some (.o c<|.ins C fs))(O:fs.lookup f=some (.f<|.tl kvs)):∃a dx ws b vs,σ[i]?=some (some<|.ref a)/\H a=some (.ins C dx ws)/\ws.lookup f=some (.ref b)/\LM K .dT G H b kvs vs:=by
 obtain⟨a,dx,ws,b,S,U,Y,⟨vs,J,Z,z3⟩,j,I⟩:=s.fldAt hu O;rw[i5 J]at j I;exact⟨a,dx,ws,b,vs,S,U,Y,J,Z,z3,I,j⟩
theorem UD.chF(s:UD K G0 H0 G H ρ σ)(hu:ρ[i]?=some (.o c<|.ins C fs))(S:fs.lookup f=some (.f<|.tl kvs))(U:σ[i]?=some (some<|.ref a))(Y:H a=some (.ins C dx ws))(Z:ws.lookup f=some (.ref b))(m:LM K .dT G H b kvs vs)(h:UX K .dT G H b vs H' sI jH):
  UD K G0 H0 G H' (ρ.set i<|.o c<|.ins C<|qu f (.f<|.tl sI) fs) σ:=by
 obtain⟨⟨j,z2,z3,z4,z5⟩,I,J,O⟩:=h;exact s.mutF hu S U Y Z I (by rw[i5 m.1];exact J) ⟨jH,j,z2,z3⟩ (by rw[i5 j];exact z4) (by rw[i5 m.1,i5 j];exactλq h=>⟨O q h,z5 q h⟩)
end
section
variable {X:Cx}{o a ke:Expr}{pos apos uB tG:Pos}{C:Addr}{f:Str}{fe fk:dC}
def j5(C:Addr)(i:Nat)(f:Str)(fk:dC):VB:=λρ=>(YS C i f ρ).bind λq=>match q.2.2 with
 |.tl kvs=>(fk ρ).bind λkd=>(QP kd).bind λk=>match yj kvs k with
  |some (_::xs)=>some<|.nx<|MP C i f q.1 q.2.1 (.tl<|rG k xs kvs) ρ
  |_=>none
 |_=>none
theorem zTL{j}(i:Nat)(hu:X.A.units+1<cLine)(c:fJ X.K C)(n:qT X.K C f)(ho:PE X o (RF i))(hk:SE X ke fk)(Fy:rT ke:=by intro _ _;rfl)(hb:WJ X o f:=by rfl)(ZC:WJ X (.Subscript (.Attribute o f tG) ke kp) "pop":=by rfl)(gG:RO X uB [AF (.int 0) j ipos]:=by rfl)(aD:WM apos uB:=by rfl)(hs:starEach [AF (.int 0) j ipos] X.env=(false,eval (.Constant (.int 0) j ipos) X.env)::starEach [] X.env:=by rfl)(dD:EH X uB []:=by rfl)(VI:ZI X (.Call (.Attribute (.Subscript (.Attribute o f tG) ke kp) "pop" apos) [.Constant (.int 0) j ipos] [] uB) none pos:=by rfl):
  SS X (.Expr (.Call (.Attribute (.Subscript (.Attribute o f tG) ke kp) "pop" apos) [.Constant (.int 0) j ipos] [] uB) pos) (j5 C i f fk):=
 yN (rR (OO IB WE XE Of (NW hu (mV ho hb) hk Fy) (zx O9 yl hs) ZC gG aD hs dD) VI) λE σ H=>by
  rintro⟨G0,H0,G,ρ,o,st,z,k⟩;obtain⟨⟨c',fs,y⟩,e1,z⟩:=aA.mp z;obtain⟨I,J⟩:=d9 e1
  cases y with
  |tl kvs=>
   obtain⟨kd,e5,z⟩:=aA.mp z;obtain⟨S,e6,z⟩:=aA.mp z
   cases g0:yj kvs S with
   |none=>rw[g0]at z;cases z
   |some l=>
    cases l with
    |nil=>rw[g0]at z;cases z
    |cons d xs=>
     rw[g0]at z;cases z;obtain⟨a1,dx,ws,b,vs,U,Y,Z,m⟩:=st.mlF I J;refine⟨_,U,a1,C,dx,ws,_,rfl,Y,c,n,Z,G,ρ,kd,st.bs.gh,st.er,e5,λv1 G1 H1 t1 r1=>?_⟩;obtain⟨kb,rfl,dM⟩:=eV e6 r1;have m:=m.step t1;rcases yA.get (k:=S) m.2.1 m.2.2.1 with⟨g1,_⟩|⟨uQ,b',us,g1,g2,g3,g4,_⟩<;>rw[g0]at g1<;>cases g1;obtain⟨v0,WU,rfl,r0,rs⟩:=zX.mp g4
     exact⟨b,.ref b',rfl,by rw[<- g2];exact cI.t m.1<|t1.s _ _ dM,.inl ⟨rfl,_,GF.of g3⟩,b',v0::WU,0,0,v0,rfl,rfl,g3,by decide,by decide,by simp[eJ],rfl,k σ G1 _<|(st.step t1).chF I J U (t1.h _ _ Y) Z m<|m.put t1.s g2 rs⟩
  |_=>cases z
def l5(C:Addr)(i:Nat)(f:Str)(fk fe:dC):VB:=λρ=>(YS C i f ρ).bind λq=>match q.2.2 with
 |.tl kvs=>(fk ρ).bind λkd=>(QP kd).bind λk=>match yj kvs k with
  |some xs=>if xs.length<1000000 then (fe ρ).map λd=>.nx (MP C i f q.1 q.2.1 (.tl<|rG k (xs++[d]) kvs) ρ) else none
  |none=>if kvs.length<1000000 then (fe<|MP C i f q.1 q.2.1 (.tl<|kvs++[(k,[])]) ρ).map λd=>.nx (MP C i f q.1 q.2.1 (.tl<|kvs++[(k,[d])]) ρ) else none
 |_=>none
theorem zTM{sp dp S:Pos}(i:Nat)(hu:X.A.units+1<cLine)(c:fJ X.K C)(n:qT X.K C f)(ho:PE X o (RF i))(hk:SE X ke fk)(ha:SE X a fe)(hb:WJ X o f:=by rfl)
  (RM:WJ X (.Attribute o f tG) "setdefault":=by rfl)
  (nP:RO X dp [ke,.List [] S]:=by rfl)
  (TM:WM sp dp:=by rfl) (vO:BG X ke [.List [] S]:=by rfl) (UM:BG X (.List [] S) []:=by rfl) (rL:EH X dp [.List [] S]:=by rfl)
  (ZC:WJ X (.Call (.Attribute (.Attribute o f tG) "setdefault" sp) [ke,.List [] S] [] dp) "append":=by rfl)
  (gG:RO X uB [a]:=by rfl)
  (aD:WM apos uB:=by rfl) (hs:BG X a []:=by rfl) (dD:EH X uB []:=by rfl)
  (VI:gF (.Call (.Attribute (.Call (.Attribute (.Attribute o f tG) "setdefault" sp) [ke,.List [] S] [] dp) "append" apos) [a] [] uB) none pos.line X.env=pure false:=by rfl) :
  SS X (.Expr (.Call (.Attribute (.Call (.Attribute (.Attribute o f tG) "setdefault" sp) [ke,.List [] S] [] dp) "append" apos) [a] [] uB) pos) (l5 C i f fk fe):=
 yN (rR (OO IB lE mE D3
     (OO vE fC pJ (vf hu) (mV ho hb) (zx hk (zx (Qy yl) yl UM) vO) RM nP TM vO rL) (zx ha yl hs) ZC gG aD hs dD) VI) λE σ H=>by
  rintro⟨G0,H0,G,ρ,o,st,j,k⟩;obtain⟨⟨c',fs,y⟩,e1,j⟩:=aA.mp j;obtain⟨DU,hl⟩:=d9 e1
  cases y with
  |tl kvs=>
   obtain⟨kd,e5,j⟩:=aA.mp j;obtain⟨Y,e6,j⟩:=aA.mp j;obtain⟨a1,dx,ws,b,vs,q1,J,q3,m⟩:=st.mlF DU hl;refine⟨_,q1,a1,C,dx,ws,_,rfl,J,c,n,q3,.inr<|.inr<|.inl ⟨rfl,.inr ⟨vs,m.1⟩⟩,G,ρ,kd,st.bs.gh,st.er,e5,λv1 G1 H1 t1 r1=>⟨nC _,λp hp=>?_⟩⟩;obtain⟨kb,rfl,U⟩:=eV e6 r1;have TN:=st.step t1;have J:=t1.h _ _ J;have m:=m.step t1;have t2:zb G1 H1 G1 (upd H1 p<|.lst []):=zb.newH t1.s hp;have O:=m.step t2;have U:=t2.h _ _<|t1.s _ _ U
   cases g0:yj kvs Y with
   |some xs=>
    rw[g0]at j;simp only at j;split at j
    .rename_i I;obtain⟨d,e7,rfl⟩:=bA.mp j;rcases yA.get (k:=Y) O.2.1 O.2.2.1 with⟨g1,_⟩|⟨uQ,b',us,g1,g2,g3,g4,_⟩<;>rw[g0]at g1<;>cases g1
     exact⟨b,.ref kb,.ref p,rfl,rfl,.inl ⟨.ref b',by rw[<- g2];exact cI.t O.1 U,.inr ⟨vs,O.1⟩,.inl ⟨rfl,us,GF.of g3⟩,G1,ρ,d,t2.s,(TN.step t2).er,e7,λv G3 H3 t3 r3=>⟨b',us,v,rfl,rfl,t3.h _ _ g3,DA (by rw[<- g4.length];exact I)<|by decide,
      k σ G3 _ (((TN.step t2).step t3).chF DU hl q1 (t3.h _ _<|t2.h _ _ J) q3 (O.step t3)<|(O.step t3).put t3.s g2<|(CA.mono t3.g _ _ g4).append<|CA.cons r3 CA.nil)⟩⟩⟩
    .cases j
   |none=>
    rw[g0]at j;simp only at j;split at j
    .rename_i I;obtain⟨d,e7,rfl⟩:=bA.mp j;obtain⟨hv,Fn⟩:=m.gone g0 I;have ch:=m.new (k:=Y) t1.s hp;have AO:=TN.chF DU hl q1 J q3 m ch;have bZ:upd (upd H1 p<|.lst []) b (.dT<|vs++[(Y,.ref p)]) p=some (.lst []):=by rw[upd_ne (λz=>by rw[z,m.1]at hp;cases hp),zL]
     have q4:upd (upd H1 p<|.lst []) b (.dT<|vs++[(Y,.ref p)]) a1=some (.ins C dx ws):=by
      rw[upd_ne (λz=>by rw[z,m.1]at J;cases J),upd_ne (λz=>by rw[z,hp]at J;cases J)];exact J
     refine⟨b,.ref kb,.ref p,rfl,rfl,.inr ⟨by rw[<- hv];exact cI.t O.1 U,_,OP.t O.1 U Fn,?_⟩⟩;rw[zK3 _ hv];refine⟨.inl ⟨rfl,[],GF.of bZ⟩,G1,_,d,AO.bs.gh,AO.er,e7,λv G4 H4 Z r4=>⟨p,[],v,rfl,rfl,Z.h _ _ bZ,by decide,?_⟩⟩;have m4:=ch.1.step Z;have fin:=(AO.step Z).chF (lB (BA.mp DU).1) (vj hl) q1 (Z.h _ _ q4) q3 m4<|m4.put Z.s (Os hv)<|CA.cons r4 CA.nil;rw[Oq g0,FX,xg]at fin;exact k σ G4 _ fin
    .cases j
  |_=>cases j
end
structure OX(K:Fg)(G H G' H':Hp)(x x':Ob)(a:Addr):Prop where
 g:zd G G'
 gh:zd G' H'
 fr:∀b o,G' b=some o->G b=none->H b=none\/b∈OE H x a
 h:∀b o,H b=some o->b∉OE H x a->H' b=some o
 at_:At K G' H' x' a
 new:∀c∈OE H' x' a,c∈OE H x a\/H c=none
def Ht(K:Fg)(f:Ob->List D->Option Ob)(n:Nat):Sp:=λvs H Q _=>∃G x a ds ws x',vs=.ref a::ws/\zd G H/\At K G H x a/\CA K G ds ws/\ds.length+1=n/\f x ds=some x'/\∀G' H',OX K G H G' H' x x' a->Q .non H'
noncomputable def YN(a:Addr)(ρ:mB):Option Ob:=match (ρ[(0:Nat)]?:Option Sl) with
 |some (.o c y)=>if c=some a then some y else none
 |_=>none
def IU(N:List Str)(F:VB)(a:Addr)(x:Ob)(ds:List D):Option Ob:=(F<|(.o (some a) x::ds.map Sl.v)++jA (N.length-(ds.length+1)) .un).bind λo=>match o with
 |.nx ρ=>YN a ρ
 |_=>none
section
variable {K:Fg}{G H:Hp}{a:Addr}{x:Ob}{ds:List D}{ws:List V}{m:Nat}{τ:L2.St}
theorem zQb{u:Sl}(h:((Sl.o (some a) x::ds.map Sl.v)++jA m Sl.un)[i]?=some u)(o:u.isOwn=true):i=0/\u=.o (some a) x:=by
 cases i with
 |zero=>simp at h;exact⟨rfl,h.symm⟩
 |succ i=>
  exfalso
  have hm:u∈(ds.map Sl.v++jA m Sl.un):=by
   have:((Sl.o (some a) x::ds.map Sl.v)++jA m Sl.un)[i+1]?=(ds.map Sl.v++jA m Sl.un)[i]?:=by simp
   rw[this]at h;exact xA h
  rcases oA.mp hm with q|q
  .obtain⟨d',_,rfl⟩:=OA.mp q;cases o
  .rw[(ED.mp q).2]at o;cases o
theorem Kx(j:((V.ref a::ws).map some++τ)[0]?=some (some<|.ref a)):(b∈OE H x a->qZ H ((Sl.o (some a) x::ds.map Sl.v)++jA m Sl.un) ((V.ref a::ws).map some++τ) b=none) /\
  (b∉OE H x a->qZ H ((Sl.o (some a) x::ds.map Sl.v)++jA m Sl.un) ((V.ref a::ws).map some++τ) b=H b):=by
 refine⟨λh=>Ll (i:=0) (s:=.o (some a) x) (a:=a) (by simp) rfl j h,λh=>?_⟩;unfold qZ;rw[if_neg];rintro⟨i,s,c,h1,h2,h3,z⟩;obtain⟨rfl,rfl⟩:=zQb h1 h2;rw[j]at h3;cases h3;exact h z
end
theorem zR3{P:Program}{w:World}{K:Fg}{mg:NE}{base:Heap}{x qual:Str}{st:Stmt}{fa:Addr}{fd:FuncData}{N ps:List Str}{k:Nat}{F:VB}{f:Ob->List D->Option Ob}
  (Z:rM K x qual st fa fd) (S:zT N ps (zI st))
  (WD:∀(I:Value)(A:Around)(outer:List Env)(s:Shared)(H:Hp),IF k (A.deeper<|envOfC qual (zI st) s.heap.objs.size fa I)->XI (xK CH P w K mg base N qual (zI st) fa I A outer s H E0).nox (yC st) F)
  (hf:∀a y ds y',ds.length+1=ps.length->f y ds=some y'->IU N F a y ds=some y'):bI P w K mg base CH (k+1) fa fd ps (Ht K f ps.length):=by
 refine Z.ok S (λvs H Q E h=>?_) (λI A outer s H vs Q E hr h=>?_)
 .obtain⟨G,y,a,ds,ws,y',rfl,_,_,r,U,_⟩:=h;rw[iA,<- r.length,U]
 .obtain⟨G,y,a,ds,ws,y',rfl,sm,O,r,U,ef,kk⟩:=h;have h1:XI (xK CH P w K mg base N qual (zI st) fa I A outer s H E).nox (yC st) F:=WD I A outer s H hr;refine⟨_,h1,?_⟩;obtain⟨o,e1,j⟩:=aA.mp<|hf a y ds y' U ef;have UQ:Er K G H (.o (some a) y::ds.map Sl.v) ((V.ref a::ws).map some):=v4 rfl ⟨⟨O.rep,O.nd⟩,λc' e=>by cases e;rfl⟩ O.fr r;have er:=UQ.app (N.length-(ds.length+1)) (jA (N.length-(ds.length+1)) none) (by simp);have es:L2.wL N (.ref a::ws)=(V.ref a::ws).map some++jA (N.length-(ds.length+1)) none:=by rw[JW,iA,<- r.length]
  have YJ:((V.ref a::ws).map some++jA (N.length-(ds.length+1)) none)[0]?=some (some<|.ref a):=by simp
  have no:=λb=>Kx (H:=H) (x:=y) (ds:=ds) (m:=N.length-(ds.length+1)) (b:=b) YJ
  rw[es];refine⟨G,qZ H _ _,G,_,o,er.toSt sm,e1,?_⟩
  cases o with
  |nx ρ=>
   have j:YN a ρ=some y':=j;unfold YN at j;split at j
   .rename_i c y1 Y;split at j
    .rename_i hc;cases j;subst hc;intro EC G' H' CC;obtain⟨J,g1,g2,g3⟩:=CC.er.slot 0 _ Y rfl;have:J=a:=g2.2 a rfl;subst this;refine kk G' H' ⟨CC.bs.gg,CC.bs.gh,λb o e n=>?_,λb o e n=>CC.bs.hh b o (by rw[(no b).2 n];exact e),⟨g2.1.1,g2.1.2,g3⟩,λc m=>?_⟩
     .have z:=CC.bs.fr b o e n;by_cases hb:b∈OE H y J
      .exact .inr hb
      .rw[(no b).2 hb]at z;exact .inl z
     .have z:=CC.ows 0 _ J Y rfl g1 c m;by_cases hb:c∈OE H y J
      .exact .inl hb
      .rw[(no c).2 hb]at z;exact .inr z
    .cases j
   .cases j
  |rt d=>cases j
  |bk ρ=>cases j
  |ct ρ=>cases j
  |ro ρ=>cases j
  |rm d ρ=>cases j
structure C5(P:Program)(w:World)(K:Fg)(mg:NE)(base:Heap)(C:Addr)(k:Nat)(m:Str)(n:Nat)(F:Ob->List D->Option Ob):Prop where
 ex:∃f fd ps,bI P w K mg base CH k f fd ps (Ht K F n)/\GV K C m f/\L2.WK K fd ps []
def FR(C:Addr)(m:Str)(i:Nat)(fl:pD)(F:Ob->List D->Option Ob):VB:=λρ=>match ρ[i]? with
 |some (.o c x)=>if PL C m x=true then (fl ρ).bind λds=>(F x ds).map λx'=>.nx (ρ.set i<|.o c x') else none
 |_=>none
section
variable {X:Cx}{o e a b:Expr}{es:List Expr}{pos pos' apos p1 p2:Pos}{C:Addr}{m:Str}{i k n:Nat}{F:Ob->List D->Option Ob}{fl:pD}{f g:dC}
theorem Pv(i:Nat)(h:C5 X.prog X.w X.K X.mg X.base C k m n F)(c:fJ X.K C)(hr:IF k X.A)(ho:PE X o (RF i))(ha:SA X (e::es) fl)(hn:(e::es).length+1=n)(XJ:BG X e es:=by rfl)(QE:EH X pos es:=by rfl)(VI:ZI X (.Call (.Attribute o m apos) (e::es) [] pos) none pos':=by rfl) (ht:eval (.Call (.Attribute o m apos) (e::es) [] pos) X.env=(do
   let ov <- eval o X.env
   standAt apos.atName
   let (f,first) <- holding [ov] (getMethod ov m pl)
   callWith pos f first (backTo pos<|starEach (e::es) X.env) (backToKw pos<|keywordEach [] X.env)):=by rfl) :
  SS X (.Expr (.Call (.Attribute o m apos) (e::es) [] pos) pos') (FR C m i fl F):=by
 obtain⟨f,fd,ps,U,hm,hb⟩:=h.ex;refine yN (rR (Pp (pl:=pl) (dvs:=[]) (ds:=[]) (E:=E0) ho c hm U hr hb .nil sV ha.pa XJ QE ht) VI) λE σ H zz=>?_
 obtain⟨G0,H0,G,ρ,out,st,j,kk⟩:=zz;unfold FR at j;split at j
 .rename_i c' x J;split at j
  .rename_i hx;obtain⟨ds,z,j⟩:=aA.mp j;obtain⟨S,e3,rfl⟩:=bA.mp j;obtain⟨a,O,r1,r2⟩:=st.er.slot i _ J rfl;have A:At X.K G H x a:=⟨r1.1.1,r1.1.2,r2⟩
   obtain⟨dx,ws,q2,q3⟩:=V9 A hx;refine⟨_,O,a,dx,ws,rfl,q2,q3,G,ρ,ds,st.bs.gh,st.er,z,λvs Y H1 t r=>?_⟩;show Ht X.K F n (V.ref a::(vs++[])) H1 _ E0;rw[kB];refine⟨Y,x,a,ds,vs,S,rfl,t.s,A.step t,r,by rw[ha.len _ _ z];exact hn,e3,λZ H2 ch=>?_⟩;have CC:=st.step t;exact kk σ Z H2 (CC.mutG J rfl (w:=.o c' S) rfl O ch.g ch.gh ch.fr ch.h ⟨⟨ch.at_.rep,ch.at_.nd⟩,r1.2⟩ λp I=>⟨ch.new p I,ch.at_.fr p I⟩)
  .cases j
 .cases j
def bU(f g:dC):dC:=λρ=>(f ρ).bind λx=>(GQ x).bind λkvs=>(g ρ).bind λy=>(cH y).bind λk=>wJ kvs k
theorem Ni(hu:X.A.units+1<cLine)(hg:Gl X "dict")(hm:X.mg "dict" = none)(ha:SE X a f)(hb:SE X b g)(GE:X.calm=true:=by rfl)
  (O:BG X a []:=by rfl) (QE:EH X p1 []:=by rfl) (hs:rT b:=by intro _ _;rfl) :
  SE X (.Subscript (.Call (.Name "dict" p2) [a] [] p1) b pos) (bU f g):=
 aG (NW hu (My (zMV GE) hg hm zVi (zx (zE ha) yl O) (by decide) (by decide) O QE) hb hs) λσ H Q=>by
  rintro⟨G,ρ,d,sm,er,j,k⟩;obtain⟨x,e1,j⟩:=aA.mp j;obtain⟨kvs,e2,j⟩:=aA.mp j;obtain⟨y,e3,j⟩:=aA.mp j;obtain⟨J,e4,I⟩:=aA.mp j;refine⟨G,ρ,x,sm,er,e1,λv1 S H1 t1 r1=>⟨S,x,kvs,v1,rfl,t1.s,r1,e2,λa ws U H2 t2 h1 h2 h3 rk=>?_⟩⟩;have tt:=t1.trans t2;refine⟨U,ρ,y,t2.s,er.step tt,e3,λv3 Y Z t3 r3=>?_⟩;have ev:=EO e4 r3;rcases(rk.mono t3.g).get (k:=J) with⟨z,_⟩|⟨d',v,z1,z2,z3⟩
  .rw[z]at I;cases I
  .rw[I]at z1;cases z1;refine⟨a,v,rfl,?_,k v Y Z (tt.trans t3) z3⟩;rw[ev,<- z2];exact cI.k<|t3.h _ _ h3
end
section
variable {X:Cx}{e:Expr}{es:List Expr}{pos p uB:Pos}{fl:pD}
def o5(i:Nat):VB:=λρ=>(ρ[i]?).bind λs=>if s.isOwn=true then some (.ro s) else none
theorem Pw(i:Nat)(he:PE X e (RF i)):SS X (.Return (some e) pos) (o5 i):=yN (VW he) λQ σ H=>by
 rintro⟨G0,H0,G,ρ,o,st,j,k⟩;obtain⟨s,z,j⟩:=aA.mp j;split at j
 .rename_i I;cases j;obtain⟨a,J,O,S⟩:=st.er.slot i s z<|Sl.obj_of_own I;exact⟨_,J,k a G H st.bs O λc m=>⟨S c m,st.ows i s a z I J c m⟩⟩
 .cases j
end
def YX(K:Fg)(G' H' H:Hp)(s:Sl)(v:V):Prop:=(∃d,s=.v d/\Rep K G' d v)\/(s.isOwn=true/\∃a,v=.ref a/\GN K G' H' s a/\∀c∈bF H' s a,H c=none/\G' c=none)
theorem UD.setRet{K:Fg}{G0 H0 G H G' H':Hp}{ρ:mB}{σ:L2.St}{i:Nat}{s:Sl}{v:V}(st:UD K G0 H0 G H ρ σ)(t:zb G H G' H')(r:YX K G' H' H s v):UD K G0 H0 G' H' (ρ.set i s) (σ.set i<|some v):=by
 rcases r with⟨d,rfl,r⟩|⟨j,a,rfl,r,n⟩
 .exact(st.step t).setV r
 .exact st.setNew t j r n
def Hu(K:Fg)(f:List D->Option Sl)(n:Nat):Sp:=λvs H Q _=>∃G ds s,zd G H/\CA K G ds vs/\ds.length=n/\f ds=some s/\∀v G' H',zb G H G' H'->YX K G' H' H s v->Q v H'
def nX:Out->Option Sl
 |.rt d=>some<|.v d
 |.ro s=>if s.isOwn=true then some s else none
 |.nx _=>some<|.v .non
 |_=>none
def LV(N:List Str)(F:VB)(ds:List D):Option Sl:=(F<|ds.map Sl.v++jA (N.length-ds.length) .un).bind nX
theorem zOM{N:List Str}{ds:List D}{i:Nat}{u:Sl}(h:(ds.map Sl.v++jA (N.length-ds.length) Sl.un)[i]?=some u)(o:u.isOwn=true):False:=by
 rcases oA.mp (xA h) with q|q
 .obtain⟨d',_,rfl⟩:=OA.mp q;cases o
 .rw[(ED.mp q).2]at o;cases o
theorem W9{P:Program}{w:World}{K:Fg}{mg:NE}{base:Heap}{x qual:Str}{st:Stmt}{fa:Addr}{fd:FuncData}{N ps:List Str}{k:Nat}{F:VB}{f:List D->Option Sl}
  (U:rM K x qual st fa fd) (S:zT N ps (zI st))
  (Y:∀(z:Value)(A:Around)(outer:List Env)(s:Shared)(H:Hp),IF k (A.deeper<|envOfC qual (zI st) s.heap.objs.size fa z)->XI (xK CH P w K mg base N qual (zI st) fa z A outer s H E0).nox (yC st) F)
  (hf:∀ds d,ds.length=ps.length->f ds=some d->LV N F ds=some d):bI P w K mg base CH (k+1) fa fd ps (Hu K f ps.length):=by
 refine U.ok S (λvs H Q E h=>?_) (λz A outer s H vs Q E hr h=>?_)
 .obtain⟨G,ds,d,_,r,I,_⟩:=h;rw[<- r.length,I]
 .obtain⟨G,ds,d,sm,r,I,ef,J⟩:=h;have h1:XI (xK CH P w K mg base N qual (zI st) fa z A outer s H E).nox (yC st) F:=Y z A outer s H hr;refine⟨_,h1,?_⟩;obtain⟨o,Z,j⟩:=aA.mp<|hf ds d I ef;have er:=Oj (N:=N) (H:=H) r;refine⟨G,H,G,_,o,⟨er,⟨sm,zd.refl _,zd.refl _,λb o e n=>by rw[e]at n;cases n⟩,λi u a h1 h2 h3=>(zOM h1 h2).elim⟩,Z,?_⟩
  cases o with
  |rt d'=>
   cases j
   exactλv G' H' b O=>J v G' H' ⟨b.gg,b.hh,b.gh,b.fr⟩<|.inl ⟨_,rfl,O⟩
  |nx ρ=>
   cases j
   exactλEC G' H' CC=>J .non G' H' ⟨CC.bs.gg,CC.bs.hh,CC.bs.gh,CC.bs.fr⟩<|.inl ⟨_,rfl,BO.mpr rfl⟩
  |ro s'=>
   simp only[nX]at j;split at j
   .rename_i ho;cases j
    exactλa G' H' b O n=>J _ G' H' ⟨b.gg,b.hh,b.gh,b.fr⟩ (.inr ⟨ho,a,rfl,O,λc m=>⟨(n c m).2,(n c m).1⟩⟩)
   .cases j
  |bk ρ=>cases j
  |ct ρ=>cases j
  |rm d ρ=>cases j
structure LR(P:Program)(w:World)(K:Fg)(mg:NE)(base:Heap)(k:Nat)(x:Str)(n:Nat)(F:List D->Option Sl):Prop where
 ex:∃f fd ps,bI P w K mg base CH k f fd ps (Hu K F n)/\mg x=some (.ref f)/\iB K (.ref f)=true/\L2.WK K fd ps []
section
variable {X:Cx}{e:Expr}{es:List Expr}{pos p uB:Pos}{fl:pD}{k n:Nat}{F:List D->Option Sl}{x y:Str}
noncomputable def NP(i:Nat)(fl:pD)(F:List D->Option Sl):VB:=λρ=>(fl ρ).bind λds=>(F ds).map λs=>.nx<|ρ.set i s
theorem E9(i:Nat)(h:LR X.prog X.w X.K X.mg X.base k x n F)(hr:IF k X.A)(hg:X.env.kindOf x=some .globalImplicit)(hn:(e::es).length=n)(ha:SA X (e::es) fl)(Y:X.N.Nodup)(hi:X.N[i]?=some y)(hy:Loc X.env.scope y)(hs:ZI X (.Call (.Name x p) (e::es) [] uB) (some<|.Name y pos') pos:=by rfl)(hf:JL X y:=by first|exact .inl rfl|exact .inr rfl|assumption)(S:LL x:=by decide)(he:BG X e es:=by rfl)(O:EH X uB es:=by rfl):
  SS X (.Assign [.Name y pos'] (.Call (.Name x p) (e::es) [] uB) pos) (NP i fl F):=by
 obtain⟨f,fd,ps,I,hm,hk,hb⟩:=h.ex;refine yN (LO Y hi hy (Z3 (E:=E0) I hr hg hm hk hb .nil sV ha.pa S he O) hs hf) λE σ H zz=>?_
 obtain⟨G0,H0,G,ρ,o,st,j,kk⟩:=zz;obtain⟨ds,z,j⟩:=aA.mp j;obtain⟨s,U,rfl⟩:=bA.mp j;refine⟨G,ρ,ds,st.bs.gh,st.er,z,λvs J H1 t1 r1=>?_⟩;show Hu X.K F n (vs++[]) H1 _ E0;rw[kB];exact⟨J,ds,s,t1.s,r1,by rw[ha.len _ _ z,hn],U,λv G' H' t r=>kk _ G' H'<|(st.step t1).setRet t r⟩
end
noncomputable def MV{κ:Type}[DecidableEq κ]{α:Type}(kvs:List (κ×α))(k:κ)(v:α):List (κ×α):=if (kvs.any λkv=>decide<|kv.1=k)=true then kvs.map (λkv=>if kv.1=k then (kv.1,v) else kv) else kvs++[(k,v)]
section
variable {K:Fg}{G H:Hp}{κ:Type}[DecidableEq κ]
theorem Ot{k:κ}:∀{kvs:List (κ×D)}{ws:List (κ×V)},kvs.map (·.1)=ws.map (·.1)->CA K G (kvs.map (·.2)) (ws.map (·.2))->(yj kvs k=none/\oG ws k=none)\/∃d v,yj kvs k=some d/\oG ws k=some v/\Rep K G d v
 | [],[],_,_=>.inl ⟨rfl,rfl⟩
 | [],_::_,h,_=>by cases h
 |_::_,[],h,_=>by cases h
 |(k1,x)::kvs,(k2,w)::ws,h,r=>by
  simp only[eA,uC]at h;obtain⟨rfl,h⟩:=h;obtain⟨r1,r2⟩:=CA.inv r;by_cases hk:k1=k
  .right
   exact⟨x,w,by simp[yj,hk],by simp[oG,hk],r1⟩
  .rcases Ot (k:=k) h r2 with⟨j,z⟩|⟨d,v,j,z,I⟩
   .left
    exact⟨by simpa[yj,hk] using j,by simpa[oG,hk] using z⟩
   .right
    exact⟨d,v,by simpa[yj,hk] using j,by simpa[oG,hk] using z,I⟩
theorem zLP{j z:Type}:∀{kvs:List (κ×j)}{ws:List (κ×z)},kvs.map (·.1)=ws.map (·.1)->(kvs.any λkv=>decide<|kv.1=k)=ws.any λkv=>decide (kv.1=k)
 | [],[],_=>rfl
 | [],_::_,h=>by cases h
 |_::_,[],h=>by cases h
 |(k1,x)::kvs,(k2,w)::ws,h=>by
  simp only[eA,uC]at h;obtain⟨rfl,h⟩:=h;simp only[QC,zLP h]
theorem zJB(r:Rep K G d v):∀{kvs:List (κ×D)}{ws:List (κ×V)},kvs.map (·.1)=ws.map (·.1)->CA K G (kvs.map (·.2)) (ws.map (·.2)) ->
  (kvs.map λkv=>if kv.1=k then (kv.1,d) else kv).map (·.1)=(ws.map λkv=>if kv.1=k then (kv.1,v) else kv).map (·.1)/\CA K G ((kvs.map λkv=>if kv.1=k then (kv.1,d) else kv).map (·.2)) ((ws.map λkv=>if kv.1=k then (kv.1,v) else kv).map (·.2))
 | [],[],_,_=>⟨rfl,CA.nil⟩
 | [],_::_,h,_=>by cases h
 |_::_,[],h,_=>by cases h
 |(k1,x)::kvs,(k2,w)::ws,h,q=>by
  simp only[eA,uC]at h;obtain⟨rfl,h⟩:=h;obtain⟨r1,r2⟩:=CA.inv q;obtain⟨j,i2⟩:=zJB r h r2;by_cases hk:k1=k
  .simp only[eA,hk,if_true];exact⟨by rw[j],CA.cons r i2⟩
  .simp only[eA,hk,if_false];exact⟨by rw[j],CA.cons r1 i2⟩
theorem zQd{k:κ}{d:D}{v:V}(r:Rep K G d v){kvs:List (κ×D)}{ws:List (κ×V)}(h:kvs.map (·.1)=ws.map (·.1))(q:CA K G (kvs.map (·.2)) (ws.map (·.2))):
  (MV kvs k d).map (·.1)=(vH ws k v).map (·.1)/\CA K G ((MV kvs k d).map (·.2)) ((vH ws k v).map (·.2)):=by
 unfold MV vH;rw[zLP h];split
 .exact zJB r h q
 .rw[GA,GA,GA,GA];exact⟨by rw[h];rfl,q.append<|CA.cons r CA.nil⟩
end
noncomputable def iS(ρ:mB)(i:Nat):Option (List<|List XB×D):=match ρ[i]? with
 |some (.o _<|.p<|.t kvs)=>some kvs
 |_=>none
theorem Sw{ρ:mB}{i:Nat}{kvs:List (List XB×D)}(h:iS ρ i=some kvs):∃c,ρ[i]?=some (.o c<|.p<|.t kvs):=by
 unfold iS at h;split at h
 .rename_i c l q;cases h;exact⟨c,q⟩
 .cases h
theorem nR{K:Fg}{G H:Hp}{ρ:mB}{σ:L2.St}{i:Nat}{c:Option Addr}{kvs:List (List XB×D)}(e:Er K G H ρ σ)(h:ρ[i]?=some (.o c<|.p<|.t kvs)):∃a ws,σ[i]?=some (some<|.ref a)/\G a=none/\H a=some (.dT ws)/\kvs.map (·.1)=ws.map (·.1)/\CA K G (kvs.map (·.2)) (ws.map (·.2))/\∀j,c=some j->a=j:=by
 obtain⟨a,J,I,O⟩:=e.slot i _ h rfl;obtain⟨ws,S,U,Y⟩:=I.1.1;exact⟨a,ws,J,O a<|gA.mpr rfl,S,U,Y,I.2⟩
section
variable {X:Cx}{o a b ke:Expr}{pos pos' HF:Pos}{i:Nat}{f fk:dC}{x:Str}
def QU(i:Nat)(fk:dC):dC:=λρ=>(iS ρ i).bind λkvs=>(fk ρ).bind λd=>(QP d).bind λk=>yj kvs k
theorem zTQ(hu:X.A.units+1<cLine)(i:Nat)(ho:PE X o (RF i))(hk:SE X ke fk)(hs:rT ke:=by intro _ _;rfl):SE X (.Subscript o ke pos) (QU i fk):=aG (NW hu ho hk hs) λσ H Q=>by
 rintro⟨G,ρ,d,s,er,j,k⟩;obtain⟨kvs,I,j⟩:=aA.mp j;obtain⟨Y,Z,j⟩:=aA.mp j;obtain⟨J,e3,O⟩:=aA.mp j;obtain⟨c,I⟩:=Sw I;obtain⟨a,ws,q1,q2,q3,q4,q5,_⟩:=nR er I;refine⟨_,q1,G,ρ,Y,s,er,Z,λv G' H' t r=>?_⟩;obtain⟨kb,rfl,U⟩:=eV e3 r;rcases Ot (k:=J) q4 (CA.mono t.g _ _ q5) with⟨z,_⟩|⟨d',v',S,z2,z3⟩
 .rw[O]at z;cases z
 .rw[O]at S;cases S;exact⟨a,v',rfl,by rw[<- z2];exact cI.t (t.h _ _ q3)<|t.s _ _ U,k _ G' H' t z3⟩
def D5(i:Nat)(fk:dC):kF:=λρ=>(fk ρ).bind λd=>(iS ρ i).bind λkvs=>(QP d).map λk=>!(yj kvs k).isSome
theorem zTR(hu:X.A.units+1<cLine)(i:Nat)(Y:PE X o (RF i))(hk:SE X ke fk)(hm:behindInMarks .NotIn o=false:=by rfl):SB X (.Compare ke [.NotIn] [o] pos) (D5 i fk):=
 WS (Qv (zIk hu hk Y) hm) λσ H Q=>by
  rintro⟨G,ρ,bb,s,er,j,k⟩;obtain⟨S,U,j⟩:=aA.mp j;obtain⟨kvs,I,j⟩:=aA.mp j;obtain⟨J,e3,rfl⟩:=bA.mp j;obtain⟨c,I⟩:=Sw I;refine⟨G,ρ,S,s,er,U,λv G' H' t r=>?_⟩;obtain⟨kb,rfl,O⟩:=eV e3 r;obtain⟨a,ws,Z,q2,q3,q4,q5,_⟩:=nR (er.step t) I;refine⟨_,Z,a,_,rfl,cI.t q3<|t.s _ _ O,_,rfl,?_⟩;rcases Ot (k:=J) q4 q5 with⟨z,z'⟩|⟨d',v',z1,z2,z3⟩
  .rw[z'];have:=k G' H' t;rw[z]at this;exact this
  .rw[z2];have:=k G' H' t;rw[z1]at this;exact this
def Au(i:Nat)(fk f:dC):VB:=λρ=>(f ρ).bind λd=>(iS ρ i).bind λkvs=>(fk ρ).bind λdk=>(QP dk).bind λk=>if kvs.length<16000000 then some (.nx<|ρ.set i<|.o none<|.p<|.t<|MV kvs k d) else none
theorem zTS(hu:X.A.units+1<cLine)(i:Nat)(ho:PE X o (RF i))(hk:SE X ke fk)(ha:SE X a f)(hs:ZI X a (some<|.Subscript o ke HF) pos:=by rfl):
  SS X (.Assign [.Subscript o ke HF] a pos) (Au i fk f):=
 yN (zNb hu ho hk ha hs) λE σ H=>by
  rintro⟨G0,H0,G,ρ,o,st,j,k⟩;obtain⟨d,e1,j⟩:=aA.mp j;obtain⟨kvs,I,j⟩:=aA.mp j;obtain⟨dk,e3,j⟩:=aA.mp j;obtain⟨O,e4,j⟩:=aA.mp j;split at j
  .rename_i hl;cases j;obtain⟨c,I⟩:=Sw I;refine⟨G,ρ,d,st.bs.gh,st.er,e1,λv G1 H1 t1 r1=>?_⟩;obtain⟨a1,ws,S,q2,q3,q4,q5,_⟩:=nR (st.step t1).er I;refine⟨_,S,G1,ρ,dk,t1.s,st.er.step t1,e3,λv2 G2 H2 t2 r2=>?_⟩;have CC:=(st.step t1).step t2;obtain⟨a2,Z,w1,U,w3,Y,w5,w6⟩:=nR CC.er I;rw[S]at w1;cases w1;obtain⟨kb,rfl,dM⟩:=eV e4 r2
   have J:Z.length<sizeLine:=by
    have:=congrArg dE Y;simp only[kA]at this;rw[<- this];exact DA hl (by decide)
   obtain⟨p1,p2⟩:=zQd (k:=O) (Rep.mono t2.g _ _ r1) Y w5;refine⟨a1,_,rfl,OP.t w3 (t2.s _ _ dM) J,k σ G2 _<|CC.mutG (u:=.o c<|.p<|.t kvs) (w:=.o none<|.p<|.t<|MV kvs O d) I rfl rfl S (zd.refl _) (λb x e=>?_) (λb x e n=>by rw[n]at e;cases e) (λb x e n=>?_) ⟨⟨⟨_,zL,p1,p2⟩,by simp[OE,LF]⟩,λ_ z=>by cases z⟩ λp m=>?_⟩
   .rw[upd_ne (λz=>by rw[z,U]at e;cases e)];exact t2.s _ _ e
   .rw[upd_ne<|λz=>n<|gA.mpr z];exact e
   .cases gA.mp m;exact⟨.inl<|gA.mpr rfl,U⟩
  .cases j
def zTT(tk tv:TE):TE:=λσ H Q=>∀p,H p=none->tk σ (upd H p<|.dT []) λx H1=>tv σ H1 λy H2=>∃kb ks,x=.ref kb/\H2 kb=some (.tup<|ks.map kV)/\H2 p=some (.dT [])/\Q (.ref p) (upd H2 p<|.dT [(ks,y)])
theorem zON(hu:X.A.units+1<cLine)(hk:PE X ke tk)(hv:PE X a tv):PE X (.Dict [some ke] [a] pos) (zTT tk tv):=by
 intro pins s σ H Q I q;have hn:=I.hok.fresh<|wA s.heap.objs.size;have I1:=I.laid (a:=s.heap.objs.size) (o:=.dT []) (h':=s.heap.push { cls:=.type "dict",data:=.dict #[] }) (t':=s.toks) (λ_ _ q=>sA _ q) (wA _)<|zK5 s.heap I.big;refine wpAny_Dict_any rfl rfl (by simp) (by simp) (pairTrees_cons_walk<|RC (hk pins _ σ _ _ I1<|q _ hn) λu s1 ⟨x,H1,I1,rx,q1⟩=>RC (hv pins s1 σ H1 _ I1 q1) λw2 s2 ⟨y,H2,I2,ry,S,ks,ex,J,j,q2⟩=>bW ?_);subst ex;cases rx;obtain⟨z,hd,xs,O,dd⟩:=So I2.hok j;cases O;unfold storeAll;simp only[gK,fL];refine wpAny_bind (wpAny_bind<|wpAny_dictSet_heap (knd:=tupleKind<|zt X.prog X.w) (show X.A.units<cLine by omega) (vR I2.hok J) dd (λh' pN hs=>wpAny_pure<|wpAny_pure ?_)<|nC _);obtain⟨U,es,ep,hq,h2,h3,Y,_,Z⟩:=pN;refine⟨.ref s.heap.objs.size,_,?_,rfl,q2⟩;refine MW (ob:=.dT [(ks,y)]) I2 (by rw[j];exact True.intro) hs ⟨U,hq⟩ ⟨by rw[HA,sizeLine_eq];omega,hd,[(ks,S,w2)],.cons ⟨rfl,?_,ry⟩ .nil,U,es,ep,hq,h2,h3,Y,Z⟩;show upd H2 s.heap.objs.size _ S=_;rw[upd_ne<|Sm J j<|λz=>nomatch z];exact J
def fX(i:Nat)(fk f:dC):VB:=λρ=>(fk ρ).bind λdk=>(f ρ).bind λd=>(QP dk).map λk=>.nx<|ρ.set i<|.o none<|.p<|.t [(k,d)]
theorem zTU(hu:X.A.units+1<cLine)(i:Nat)(hk:SE X ke fk)(ha:SE X a f)(hN:X.N.Nodup)(hi:X.N[i]?=some x)(hx:Loc X.env.scope x)(hs:ZI X (.Dict [some ke] [a] p1) (some<|.Name x pos') pos:=by rfl)(hf:JL X x:=by first|exact .inl rfl|exact .inr rfl|assumption):SS X (.Assign [.Name x pos'] (.Dict [some ke] [a] p1) pos) (fX i fk f):=
 yN (LO hN hi hx (zON hu hk ha) hs hf) λQ σ H=>by
  rintro⟨G0,H0,G,ρ,o,st,I,k⟩;obtain⟨Z,e1,I⟩:=aA.mp I;obtain⟨d,e2,I⟩:=aA.mp I;obtain⟨j,e3,rfl⟩:=bA.mp I;intro p hp;have J:zb G H G (upd H p<|.dT []):=zb.newH st.bs.gh hp;refine⟨G,ρ,Z,J.s,st.er.step J,e1,λv1 U H1 t1 r1=>?_⟩;refine⟨U,ρ,d,t1.s,(st.er.step J).step t1,e2,λv2 O H2 t2 r2=>?_⟩;obtain⟨kb,rfl,Y⟩:=eV e3 r1;have tt:=t1.trans t2;have ep:H2 p=some (.dT []):=tt.h _ _ zL
  have S:O p=none:=by
   cases q:O p with
   |none=>rfl
   |some o=>have:=tt.f p o q<|st.bs.gh.free hp;rw[zL]at this;cases this
  refine⟨kb,j,rfl,t2.h _ _<|t1.s _ _ Y,ep,?_⟩
  have t3:zb G H O (upd H2 p<|.dT [(j,v2)]):=⟨tt.g,λb u e=>by
    rw[upd_ne<|yY e hp];exact(J.trans tt).h _ _ e,λb u e=>by
    rw[upd_ne (λz=>by rw[z,S]at e;cases e)];exact t2.s _ _ e,(J.trans tt).f⟩
  exact k _ O _ (st.setNew t3 (w:=.o none<|.p<|.t [(j,d)]) rfl ⟨⟨⟨_,zL,rfl,CA.cons r2 CA.nil⟩,by simp[OE,LF]⟩,λ_ z=>by cases z⟩ λc m=>by
   cases gA.mp m;exact⟨hp,S⟩)
end
noncomputable def tO(ρ:mB)(i:Nat):Option (List<|XB×List D):=match ρ[i]? with
 |some (.o _<|.p<|.ml kvs)=>some kvs
 |_=>none
theorem U4{ρ:mB}(h:tO ρ i=some kvs):∃c,ρ[i]?=some (.o c<|.p<|.ml kvs):=by
 unfold tO at h;split at h
 .rename_i c l q;cases h;exact⟨c,q⟩
 .cases h
section
variable {K:Fg}{G0 H0 G H H':Hp}{ρ:mB}{σ:L2.St}{i:Nat}{c:Option Addr}{b:Addr}{kvs sI:List (XB×List D)}{vs jH:List (XB×V)}
theorem v5(h:H b=some (.dK vs)):bF H (.o c<|.p<|.ml kvs) b=b::eK vs:=by simp only[bF,OE,LF];rw[h];rfl
theorem gX(e:Er K G H ρ σ)(h:ρ[i]?=some (.o c<|.p<|.ml kvs)):∃a ws,σ[i]?=some (some<|.ref a)/\LM K .dK G H a kvs ws:=by
 obtain⟨a,J,⟨⟨⟨ws,I,O,S⟩,nd⟩,_⟩,j⟩:=e.slot i _ h rfl;have nd:(bF H (.o c<|.p<|.ml kvs) a).Nodup:=nd;rw[v5 I]at nd j;exact⟨a,ws,J,I,O,S,nd,j⟩
theorem UD.chM(s:UD K G0 H0 G H ρ σ)(hu:ρ[i]?=some (.o c<|.p<|.ml kvs))(S:σ[i]?=some (some<|.ref b))(m:LM K .dK G H b kvs vs)(h:UX K .dK G H b vs H' sI jH):UD K G0 H0 G H' (ρ.set i<|.o none<|.p<|.ml sI) σ:=by
 obtain⟨⟨j,U,Y,Z,z5⟩,I,J,O⟩:=h;have nd:(bF H' (.o none<|.p<|.ml sI) b).Nodup:=by rw[v5 j];exact Z
 exact s.mutG hu rfl rfl S (zd.refl _) I (λq x e n=>by rw[n]at e;cases e) (by rw[v5 m.1];exactλq x e n=>J q x n e) ⟨⟨⟨jH,j,U,Y⟩,nd⟩,λ_ z=>by cases z⟩ (by rw[v5 m.1,v5 j];exactλq h=>⟨O q h,z5 q h⟩)
end
section
variable {X:Cx}{o a b ke e:Expr}{pos pos' p1:Pos}{i:Nat}{f fk:dC}{x:Str}
def X9(i:Nat):VB:=λρ=>some<|.nx<|ρ.set i<|.o none<|.p<|.ml []
theorem zLR(i:Nat)(J:X.N.Nodup)(hi:X.N[i]?=some x)(hx:Loc X.env.scope x)(hs:ZI X (.Dict [] [] p1) (some<|.Name x pos') pos:=by rfl)
  (hf:JL X x:=by first|exact .inl rfl|exact .inr rfl|assumption):SS X (.Assign [.Name x pos'] (.Dict [] [] p1) pos) (X9 i):=
 yN (LO J hi hx zK6 hs hf) λQ σ H=>by
  rintro⟨G0,H0,G,ρ,o,st,I,k⟩;cases I;intro p hp
  exact k _ G _ (st.setNew (zb.newH st.bs.gh hp) (w:=.o none<|.p<|.ml []) rfl ⟨⟨⟨_,zL,rfl,rfl⟩,by simp[OE,LF,zL,j7,eK]⟩,λ_ z=>by cases z⟩ λc m=>by
   have:c=p:=by simpa[bF,OE,LF,zL,j7,eK] using m
   subst this;exact⟨hp,st.bs.gh.free hp⟩)
def Rn(i:Nat):pD:=λρ=>(tO ρ i).bind λkvs=>FQ (.lst<|kvs.map λq=>WO q.1)
theorem zOQ(i:Nat)(GE:X.calm=true)(Z:Gl X "sorted")(hm:X.mg "sorted" = none)(ho:PE X e (RF i))
  (hs:BG X e []:=by rfl) (J:EH X pos []:=by rfl):SF X (.Call (.Name "sorted" p1) [e] [] pos) (Rn i):=
 aG (Q3 (vd GE) Z hm Y8 (zx ho yl hs) (by decide) (by decide) hs J) λσ H Q=>by
  rintro⟨G,ρ,ys,s,er,S,k⟩;obtain⟨kvs,j,O⟩:=aA.mp S;obtain⟨c,j⟩:=U4 j;obtain⟨a,ws,q1,q3,q4,_⟩:=gX er j;refine⟨_,q1,a,ws,ys,rfl,q3,?_,λl us I r=>?_⟩
  .rw[<- O]
   have z:(ws.map λq=>WO q.1)=(kvs.map λq=>WO q.1):=by
    have:=congrArg (NN WO) q4;rw[vB,vB]at this;exact this.symm
   rw[z]
  .exact k l us G _ (zb.newH s I) I (s.free I) zL<|r _ _
def Sx(i:Nat)(fk:dC):dC:=λρ=>(tO ρ i).bind λkvs=>(fk ρ).bind λd=>(cH d).bind λk=>(yj kvs k).map .lst
theorem zQf(hu:X.A.units+1<cLine)(i:Nat)(ho:PE X o (RF i))(hk:SE X ke fk)(hs:rT ke:=by intro _ _;rfl):SR X (.Subscript o ke pos) (Sx i fk):=aG (NW hu ho hk hs) λσ H Q=>by
 rintro⟨G,ρ,d,s,er,j,k⟩;obtain⟨kvs,J,j⟩:=aA.mp j;obtain⟨Y,Z,j⟩:=aA.mp j;obtain⟨I,e3,j⟩:=aA.mp j;obtain⟨xs,O,rfl⟩:=bA.mp j;obtain⟨c,J⟩:=U4 J;obtain⟨a,ws,S,q3,_⟩:=gX er J;refine⟨_,S,G,ρ,Y,s,er,Z,λv G' H' t r=>?_⟩;have ev:=EO e3 r;subst ev;obtain⟨a2,ES,w1,w3,w4,w5,w6,w7⟩:=gX (er.step t) J;rw[S]at w1;cases w1;rcases yA.get (k:=I) w4 w5 with⟨z,_⟩|⟨uQ,b',us,g1,g2,g3,g4,g5⟩
 .rw[O]at z;cases z
 .rw[O]at g1;cases g1;exact⟨a,.ref b',rfl,by rw[<- g2];exact cI.k (k:=I) w3,k _ G' H' t<|.ow (w7 b'<|dA _ g5) g3 g4⟩
end
section
variable {X:Cx}{o a ke:Expr}{pos apos uB:Pos}{fe fk:dC}
def YW(i:Nat)(fk fe:dC):VB:=λρ=>(tO ρ i).bind λkvs=>(fk ρ).bind λkd=>(cH kd).bind λk=>match yj kvs k with
  |some xs=>if xs.length<1000000 then (fe ρ).map λd=>.nx (ρ.set i<|.o none<|.p<|.ml<|rG k (xs++[d]) kvs) else none
  |none=>if kvs.length<1000000 then (fe<|ρ.set i<|.o none<|.p<|.ml<|kvs++[(k,[])]).map λd=>.nx (ρ.set i<|.o none<|.p<|.ml<|kvs++[(k,[d])]) else none
theorem zLS(i:Nat)(hu:X.A.units+1<cLine)(ho:PE X o (RF i))(hk:SE X ke fk)(ha:SE X a fe)(RM:WJ X o "setdefault":=by rfl)(nP:RO X dp [ke,.List [] lp]:=by rfl)(TM:WM sp dp:=by rfl)(vO:BG X ke [.List [] lp]:=by rfl)(UM:BG X (.List [] lp) []:=by rfl)(rL:EH X dp [.List [] lp]:=by rfl)(ZC:WJ X (.Call (.Attribute o "setdefault" sp) [ke,.List [] lp] [] dp) "append":=by rfl)(gG:RO X uB [a]:=by rfl)(aD:WM apos uB:=by rfl)(hs:BG X a []:=by rfl)(dD:EH X uB []:=by rfl)(VI:ZI X (.Call (.Attribute (.Call (.Attribute o "setdefault" sp) [ke,.List [] lp] [] dp) "append" apos) [a] [] uB) none pos:=by rfl):
  SS X (.Expr (.Call (.Attribute (.Call (.Attribute o "setdefault" sp) [ke,.List [] lp] [] dp) "append" apos) [a] [] uB) pos) (YW i fk fe):=
 yN (rR (OO IB lE mE D3
     (OO vE fC pJ (vf hu) ho (zx hk (zx (Qy yl) yl UM) vO) RM nP TM vO rL) (zx ha yl hs) ZC gG aD hs dD) VI) λE σ H=>by
  rintro⟨G0,H0,G,ρ,o,st,j,k⟩;obtain⟨kvs,S,j⟩:=aA.mp j;obtain⟨kd,e5,j⟩:=aA.mp j;obtain⟨O,e6,j⟩:=aA.mp j;obtain⟨c,S⟩:=U4 S;obtain⟨b,vs,Z,m⟩:=gX st.er S;refine⟨_,Z,.inr<|.inr<|.inl ⟨rfl,.inl ⟨vs,m.1⟩⟩,G,ρ,kd,st.bs.gh,st.er,e5,λv1 Y H1 t1 r1=>⟨nC _,λp hp=>?_⟩⟩;have ev:=EO e6 r1;subst ev;have TN:=st.step t1;have m:=m.step t1;have t2:zb Y H1 Y (upd H1 p<|.lst []):=zb.newH t1.s hp;have J:=m.step t2
  cases g0:yj kvs O with
  |some xs=>
   rw[g0]at j;simp only at j;split at j
   .rename_i I;obtain⟨d,e7,rfl⟩:=bA.mp j;rcases yA.get (k:=O) J.2.1 J.2.2.1 with⟨g1,_⟩|⟨uQ,b',us,g1,g2,g3,g4,_⟩<;>rw[g0]at g1<;>cases g1
    exact⟨b,_,.ref p,rfl,rfl,.inl ⟨.ref b',by rw[<- g2];exact cI.k (k:=O) J.1,.inl ⟨vs,J.1⟩,.inl ⟨rfl,us,GF.of g3⟩,Y,ρ,d,t2.s,(TN.step t2).er,e7,λv G3 H3 t3 r3=>⟨b',us,v,rfl,rfl,t3.h _ _ g3,DA (by rw[<- g4.length];exact I)<|by decide,
     k σ G3 _ (((TN.step t2).step t3).chM S Z (J.step t3)<|(J.step t3).put t3.s g2<|(CA.mono t3.g _ _ g4).append<|CA.cons r3 CA.nil)⟩⟩⟩
   .cases j
  |none=>
   rw[g0]at j;simp only at j;split at j
   .rename_i I;obtain⟨d,e7,rfl⟩:=bA.mp j;obtain⟨hv,Fn⟩:=m.gone g0 I;have ch:=m.new (k:=O) t1.s hp;have AO:=TN.chM S Z m ch;have bZ:upd (upd H1 p<|.lst []) b (.dK<|vs++[(O,.ref p)]) p=some (.lst []):=by rw[upd_ne (λz=>by rw[z,m.1]at hp;cases hp),zL]
    refine⟨b,_,.ref p,rfl,rfl,.inr ⟨by rw[<- hv];exact cI.k (k:=O) J.1,_,OP.k (k:=O) J.1 Fn,?_⟩⟩;rw[zK3 _ hv];refine⟨.inl ⟨rfl,[],GF.of bZ⟩,Y,_,d,AO.bs.gh,AO.er,e7,λv G4 H4 t4 r4=>⟨p,[],v,rfl,rfl,t4.h _ _ bZ,by decide,?_⟩⟩;have m4:=ch.1.step t4;have fin:=(AO.step t4).chM (lB (BA.mp S).1) Z m4<|m4.put t4.s (Os hv)<|CA.cons r4 CA.nil;rw[Oq g0,FX]at fin;exact k σ G4 _ fin
   .cases j
end
noncomputable def IP(ρ:mB)(i:Nat):Option Ob:=match ρ[i]? with
 |some (.l xs)=>some<|.p<|.l xs
 |some (.m kvs)=>some<|.p<|.m kvs
 |some (.o _ x)=>some x
 |some (.b _ x)=>some x
 |_=>none
theorem Ou{K:Fg}{G H:Hp}{ρ:mB}{σ:L2.St}{i:Nat}{x:Ob}(e:Er K G H ρ σ)(h:IP ρ i=some x):∃a,σ[i]?=some (some<|.ref a)/\At K G H x a:=by
 unfold IP at h;split at h
 .rename_i xs q;cases h;obtain⟨a,h1,h2,h3⟩:=e.slot i _ q rfl;exact⟨a,h1,h2,by simp[OE,LF],h3⟩
 .rename_i xs q;cases h;obtain⟨a,h1,h2,h3⟩:=e.slot i _ q rfl;exact⟨a,h1,h2,by simp[OE,LF],h3⟩
 .rename_i c y q;cases h;obtain⟨a,h1,h2,h3⟩:=e.slot i _ q rfl;exact⟨a,h1,h2.1.1,h2.1.2,h3⟩
 .rename_i c y q;cases h;obtain⟨a,h1,h2,h3⟩:=e.slot i _ q rfl;exact⟨a,h1,h2.1.1,h2.1.2,h3⟩
 .cases h
section
variable {X:Cx}{o a e:Expr}{es:List Expr}{pos:Pos}{i:Nat}{f:dC}{fl:pD}
def XU(i:Nat)(f:dC):dC:=λρ=>(f ρ).bind λd=>(IP ρ i).bind λx=>match x with
 |.p (.m kvs)=>(cH d).map λk=>.bl (wJ kvs k).isSome
 |_=>none
theorem zV4(hu:X.A.units+1<cLine)(i:Nat)(ho:PE X o (RF i))(ha:SE X a f)(hm:behindInMarks .In o=false:=by rfl):SE X (.Compare a [.In] [o] pos) (XU i f):=
 aG (zUp (zRm hu ha ho) hm) λσ H Q=>by
  rintro⟨G,ρ,d,s,er,j,k⟩;obtain⟨U,Y,j⟩:=aA.mp j;obtain⟨x,Z,j⟩:=aA.mp j
  cases x with
  |ins C fs=>cases j
  |p y=>
   cases y with
   |m kvs=>
    obtain⟨I,e3,rfl⟩:=bA.mp j;refine⟨G,ρ,U,s,er,Y,λv G' H' t r=>?_⟩;obtain⟨S,q1,A⟩:=Ou (er.step t) Z;obtain⟨ws,z1,z2⟩:=A.rep;have ek:=EO e3 r;subst ek;refine⟨_,q1,S,_,rfl,cI.k (k:=I) z1,?_⟩;rcases z2.get (k:=I) with⟨J,O⟩|⟨d',v',J,O,y3⟩
    .rw[O];exact k _ G' H' t (by rw[J];exact yZ.mpr rfl)
    .rw[O];exact k _ G' H' t (by rw[J];exact yZ.mpr rfl)
   |_=>cases j
def tAo(K:Fg)(i:Nat)(f:pD):TA:=λσ H Q=>∃G ρ ds x,zd G H/\Er K G H ρ σ/\f ρ=some ds/\IP ρ i=some x/\∀vs a G' H',zb G H G' H'->CA K G' ds vs->At K G' H' x a->Q (vs++[.ref a]) H'
structure ZX(X:Cx)(es:List Expr)(i:Nat)(f:pD):Prop where
 pa:PA X es (tAo X.K i f)
 len:∀ρ ds,f ρ=some ds->ds.length+1=es.length
theorem Px(i:Nat)(z:PE X o (RF i))(hs:BG X o []:=by rfl):ZX X [o] i zO where
 pa:=Al (zx z yl hs) λσ H Q=>by
  rintro⟨G,ρ,ds,x,s,er,j,ex,k⟩;cases j;obtain⟨a,I,A⟩:=Ou er ex;exact⟨_,I,k [] a G H (zb.refl s) CA.nil A⟩
 len:=λρ ds h=>by cases h;rfl
def gP(f:dC)(g:pD):pD:=λρ=>(f ρ).bind λd=>(g ρ).map (d :: ·)
theorem KW(ha:SE X e f)(hr:ZX X es i fl)(hs:BG X e es:=by rfl):ZX X (e::es) i (gP f fl) where
 pa:=Al (zx ha hr.pa hs) λσ H Q=>by
  rintro⟨G,ρ,ds,x,s,er,z,ex,k⟩;obtain⟨d,J,z⟩:=aA.mp z;obtain⟨I,j,rfl⟩:=bA.mp z;refine⟨G,ρ,d,s,er,J,λv O H1 t1 r1=>⟨O,ρ,I,x,t1.s,er.step t1,j,ex,λvs a G' H' t r A=>?_⟩⟩;exact k (v::vs) a G' H' (t1.trans t) (CA.cons (Rep.mono t.g _ _ r1) r) A
 len:=λρ ds h=>by
  obtain⟨d,J,h⟩:=aA.mp h;obtain⟨I,j,rfl⟩:=bA.mp h;have:=hr.len _ _ j;simp only[iA];omega
end
def OU(K:Fg)(κ:Nat->Addr)(f:List D->Ob->Option (Except Nat D))(n:Nat):Sp:=λvs H Q E=>∃G ds x a ws r,vs=ws++[.ref a]/\zd G H/\At K G H x a/\CA K G ds ws/\ds.length+1=n/\f ds x=some r/\match r with
 |.ok d=>∀v G' H',zb G H G' H'->Rep K G' d v->Q v H'
 |.error c=>∀G' H',zb G H G' H'->E (.ref<|κ c) none H'
noncomputable def LP(N:List Str)(F:mB->Option YF)(a:Addr)(ds:List D)(x:Ob):Option (Except Nat D):=(F<|(ds.map Sl.v++[.b a x])++jA (N.length-(ds.length+1)) .un).bind λo=>match o with
 |.o (.rt d)=>some<|.ok d
 |.o (.nx _)=>some<|.ok .non
 |.ex c=>some<|.error c
 |_=>none
theorem zQg{K:Fg}{G H:Hp}{a:Addr}{x:Ob}{ds:List D}{vs:List V}(A:At K G H x a)(r:CA K G ds vs):Er K G H (ds.map Sl.v++[.b a x]) ((vs++[V.ref a]).map some):=by
 have J:=r.length
 have low:∀{i:Nat}{s:Sl},(ds.map Sl.v++[Sl.b a x])[i]?=some s->(∃d,s=.v d/\ds[i]?=some d)\/(i=ds.length/\s=.b a x):=λ{i s} h=>by
  by_cases hi:i<ds.length
  .rw[eB (by simpa using hi),gB]at h
   cases q:ds[i]? with
   |none=>rw[q]at h;cases h
   |some d=>rw[q]at h;cases h;exact .inl ⟨d,rfl,rfl⟩
  .rw[oB<|by simpa using hi]at h;have hm:=xA h;have HI:=(BA.mp h).1;simp only[kA,HA]at HI;exact .inr ⟨by omega,gA.mp hm⟩
 refine⟨by simp[J],λi d h=>?_,λi s h o=>?_,λi j s t b c ne h1 S h2 o2=>?_⟩
 .rcases low h with⟨d',z,q⟩|⟨_,z⟩
  .cases z;obtain⟨v,I,O⟩:=r.get q;have hi:i<vs.length:=(BA.mp I).1;exact⟨v,by rw[GA,eB (by simpa using hi),gB,I];rfl,O⟩
  .cases z
 .rcases low h with⟨d',z,q⟩|⟨hi,z⟩
  .subst z;cases o
  .subst z;refine⟨a,?_,⟨⟨A.rep,A.nd⟩,rfl⟩,A.fr⟩;rw[hi,J,GA,oB<|by simp];simp
 .rcases low h1 with⟨d',z,q⟩|⟨hi,z⟩<;>(subst z;cases S)
section
variable {P:Program}{w:World}{K:Fg}{mg:NE}{base:Heap}{κ:Nat->Addr}
theorem Py{x qual:Str}{st:Stmt}{fa:Addr}{fd:FuncData}{N ps:List Str}{k:Nat}{F:mB->Option YF}{f:List D->Ob->Option (Except Nat D)}
  (U:rM K x qual st fa fd) (S:zT N ps (zI st))
  (Y:∀(z:Value)(A:Around)(outer:List Env)(s:Shared)(H:Hp)(E:XK),IF k (A.deeper<|envOfC qual (zI st) s.heap.objs.size fa z)->fP (YD P w K mg base N qual (zI st) fa z A outer s H E) κ E (yC st) F)
  (hf:∀a ds y r,ds.length+1=ps.length->f ds y=some r->LP N F a ds y=some r):bI P w K mg base (jK P w) (k+1) fa fd ps (OU K κ f ps.length):=by
 obtain⟨oc,od,kV,doc,pm,an,z,ct,vP,rfl,lk,Z⟩:=U.ex;refine Ai lk Z S (λvs H Q E h=>?_) λA outer s H vs Q E hr h=>?_
 .obtain⟨G,ds,y,a,ws,d,rfl,_,_,r,I,_⟩:=h;rw[rA,HA,<- r.length,I]
 .obtain⟨G,ds,y,a,ws,r,rfl,sm,hA,O,I,ef,J⟩:=h;refine⟨_,Y z A outer s H E hr,?_⟩;obtain⟨o,e1,j⟩:=aA.mp<|hf a ds y r I ef;have er:=(zQg hA O).app (N.length-(ds.length+1)) (jA (N.length-(ds.length+1)) none) (by simp);have es:L2.wL N (ws++[.ref a])=(ws++[V.ref a]).map some++jA (N.length-(ds.length+1)) none:=by rw[JW,rA,HA,<- O.length]
  rw[es];refine⟨G,H,G,_,o,⟨er,⟨sm,zd.refl _,zd.refl _,λb o e n=>by rw[e]at n;cases n⟩,λi u b h1 h2 h3=>?_⟩,e1,?_⟩
  .exfalso;rcases oA.mp (xA h1) with q|q
   .rcases oA.mp q with q|q
    .obtain⟨d',_,rfl⟩:=OA.mp q;cases h2
    .rw[gA.mp q]at h2;cases h2
   .rw[(ED.mp q).2]at h2;cases h2
  .cases o with
   |o x=>
    cases x with
    |rt d'=>
     cases j
     exactλv G' H' b r'=>J v G' H' ⟨b.gg,b.hh,b.gh,b.fr⟩ r'
    |nx ρ=>
     cases j
     exactλEC G' H' CC=>J .non G' H' ⟨CC.bs.gg,CC.bs.hh,CC.bs.gh,CC.bs.fr⟩<|BO.mpr rfl
    |bk ρ=>cases j
    |ct ρ=>cases j
    |ro ρ=>cases j
    |rm d ρ=>cases j
   |ex c=>
    cases j
    exactλG' H' b=>J G' H' ⟨b.gg,b.hh,b.gh,b.fr⟩
end
structure ZS(P:Program)(w:World)(K:Fg)(mg:NE)(base:Heap)(κ:Nat->Addr)(k:Nat)(x:Str)(n:Nat)(F:List D->Ob->Option (Except Nat D)):Prop where
 ex:∃f fd ps,bI P w K mg base (jK P w) k f fd ps (OU K κ F n)/\mg x=some (.ref f)/\iB K (.ref f)=true/\L2.WK K fd ps []
section
variable {X:Cx}{κ:Nat->Addr}{W:XK}{e:Expr}{es:List Expr}{fl:pD}{pos p uB:Pos}{x y:Str}{k n i:Nat}{f:List D->Ob->Option (Except Nat D)}
def xV(i:Nat)(fl:pD)(f:List D->Ob->Option (Except Nat D)):mB->Option (Except Nat D):=λρ=>(fl ρ).bind λds=>(IP ρ i).bind λx=>f ds x
theorem zLT(h:ZS X.prog X.w X.K X.mg X.base κ k x n f)(Y:WN (jK X.prog X.w) X W)(hr:IF k X.A)(hg:X.env.kindOf x=some .globalImplicit)(hn:(e::es).length=n)(ha:ZX X (e::es) i fl)(S:LL x:=by decide)
  (he:BG X e es:=by rfl) (O:EH X pos es:=by rfl) :
  PE X (.Call (.Name x p) (e::es) [] pos) (PU X.K κ W<|xV i fl f):=by
 obtain⟨fa,fd,ps,I,hm,hk,hb⟩:=h.ex;refine aG (Z3 (E:=W) I hr hg hm hk hb .nil Y ha.pa S he O) λσ H Q zz=>?_
 obtain⟨G,ρ,r,s,er,j,k⟩:=zz;obtain⟨xs,z,j⟩:=aA.mp j;obtain⟨y,U,e3⟩:=aA.mp j;refine⟨G,ρ,xs,y,s,er,z,U,λvs a J H1 t1 r1 A=>?_⟩;show OU X.K κ f n ((vs++[.ref a])++[]) H1 Q W;rw[kB];refine⟨J,xs,y,a,vs,r,rfl,t1.s,A,r1,by rw[ha.len _ _ z,hn],e3,?_⟩
 cases r with
 |ok d=>exactλv G' H' t r=>k v G' H' (t1.trans t) r
 |error c=>exactλG' H' t=>k G' H'<|t1.trans t
end
section
variable {X:Cx}{c a b:Expr}{pos:Pos}{p:kF}{f g:dC}
def YU(p:kF)(f g:dC):dC:=λρ=>(p ρ).bind λk=>if k=true then f ρ else g ρ
theorem zQh(hc:SB X c p)(ha:SE X a f)(hb:SE X b g):SE X (.IfExp c a b pos) (YU p f g):=aG (zP0 hc ha hb) λσ H Q=>by
 rintro⟨G,ρ,d,s,er,O,k⟩;obtain⟨I,J,j⟩:=aA.mp O;refine⟨G,ρ,I,s,er,J,λz H1 t1=>?_⟩
 cases I with
 |true=>rw[if_pos rfl]at j ⊢;exact⟨z,ρ,d,t1.s,er.step t1,j,λv G' H' t r=>k v G' H' (t1.trans t) r⟩
 |false=>rw[if_neg YA]at j ⊢;exact⟨z,ρ,d,t1.s,er.step t1,j,λv G' H' t r=>k v G' H' (t1.trans t) r⟩
end
theorem jr{j z:Type}{f g:j->List z}:∀{l:List j},(∀x∈l,f x=g x)->l.flatMap f=l.flatMap g
 | [],_=>rfl
 |x::l,h=>by rw[AB,AB,h x<|lA ..,jr λy m=>h y<|dA _ m]
section
variable {K:Fg}{G0 H0 G H:Hp}{ρ:mB}{σ:L2.St}{i:Nat}{a C dx:Addr}{c:Option Addr}{f:Str}{fs:List (Str×Fl)}{ws:List (Str×V)}{fl:Fl}{u:V}
theorem zJE{j:Type}{q:Str×j}:∀{fs:List (Str×j)},fs.lookup f=none->q∈fs->q.1≠f
 | [],_,m=>by cases m
 |(g,y)::r,h,m=>by
  rw[XA]at h;split at h
  .cases h
  .rename_i e;rcases nA.mp m with z|m
   .subst z;exactλz=>by subst z;simp at e
   .exact zJE h m
theorem wf{j:Type}{x g:Str}{y:j}:∀{fs:List (Str×j)},(fs++[(g,y)]).lookup x=none->fs.lookup x=none/\x≠g
 |[],h=>by
  refine⟨rfl,λz=>?_⟩;subst z
  simp at h
 |(k,z)::r,h=>by
  rw[MB,XA]at h;rw[XA];split at h
  .cases h
  .exact wf h
theorem At.addL(h:At K G H (.ins C fs) a)(ha:H a=some (.ins C dx ws))(hl:fs.lookup f=none)(hr:UO K G H fl u)(hn:(SH H fl u).Nodup)(hf:∀p∈SH H fl u,p∉OE H (.ins C fs) a/\G p=none):
  At K G (upd H a<|.ins C dx<|uH f u ws) (.ins C<|fs++[(f,fl)]) a/\OE (upd H a<|.ins C dx<|uH f u ws) (.ins C<|fs++[(f,fl)]) a=OE H (.ins C fs) a++SH H fl u:=by
 obtain⟨Vx,M7,Y,z2,z3,Z⟩:=h.rep;rw[ha]at Y;cases Y;have j:OE H (.ins C fs) a=a::dx::jI H fs ws:=by simp only[OE];rw[ha];rfl
 have J:=h.nd;have fr:=h.fr;rw[j]at J fr;have n1:=NB.mp J;have n2:=NB.mp n1.2;have O:upd H a (.ins C dx<|uH f u ws) a=some (.ins C dx<|uH f u ws):=zL;have Ew:dx≠a:=λz=>n1.1 (by rw[z];exact lA ..)
 have lk:∀(q:Str×Fl),q∈fs->(uH f u ws).lookup q.1=ws.lookup q.1:=λq m=>by rw[W2,if_neg<|zJE hl m]
 have stay:∀(q:Str×Fl),q∈fs->∃v,ws.lookup q.1=some v/\UO K G (upd H a<|.ins C dx<|uH f u ws) q.2 v/\SH (upd H a<|.ins C dx<|uH f u ws) q.2 v=SH H q.2 v:=λq m=>by
  obtain⟨v,r1,r2⟩:=z3 q m;refine⟨v,r1,r2.same (zd.refl _) λp mp o zz=>?_⟩;rw[upd_ne<|λz=>n1.1 (by rw[<- z];exact dA _<|OW m r1 mp)];exact zz
 have U:=hr.same (zd.refl _) (H':=upd H a<|.ins C dx<|uH f u ws) λp mp o zz=>by
  rw[upd_ne<|λz=>(hf p mp).1 (by rw[j,z];exact lA ..)];exact zz
 have S:(uH f u ws).lookup f=some u:=by rw[W2,if_pos rfl]
 have wO:jI (upd H a<|.ins C dx<|uH f u ws) fs (uH f u ws)=jI H fs ws:=by
  unfold jI;refine jr λq m=>?_
  obtain⟨v,r1,_,r3⟩:=stay q m;rw[lk q m,r1];exact r3
 have I:OE (upd H a<|.ins C dx<|uH f u ws) (.ins C<|fs++[(f,fl)]) a=(a::dx::jI H fs ws)++SH H fl u:=by
  simp only[OE];rw[O];simp only[wW]
  have:jI (upd H a<|.ins C dx<|uH f u ws) (fs++[(f,fl)]) (uH f u ws)=jI H fs ws++SH H fl u:=by
   rw[<- wO,<- U.2];unfold jI;rw[jO,AB,QQ,kB];simp only[S]
  rw[this];rfl
 refine⟨⟨⟨dx,_,O,by rw[upd_ne Ew];exact z2,λq m=>?_,λx e=>?_,?_⟩,?_,λp m=>?_⟩,by rw[I,j]⟩
 .rcases oA.mp m with m|m
  .obtain⟨v,r1,r2,_⟩:=stay q m;exact⟨v,by rw[lk q m];exact r1,r2⟩
  .cases gA.mp m;exact⟨u,S,U.1⟩
 .obtain⟨e1,e2⟩:=wf e;rw[W2,if_neg e2];exact Z.1 x e1
 .have:=Kv f u ws;rw[rA,HA];have:=Z.2;omega
 .rw[I,BB];refine⟨J,hn,λp m q mq=>?_⟩;intro z;subst z;exact(hf p mq).1 (by rw[j];exact m)
 .rw[I]at m;rcases oA.mp m with m|m
  .exact fr p m
  .exact(hf p m).2
theorem UD.addL(s:UD K G0 H0 G H ρ σ)(hu:ρ[i]?=some (.o c<|.ins C fs))(I:σ[i]?=some (some<|.ref a))(ha:H a=some (.ins C dx ws))(hl:fs.lookup f=none)(hr:UO K G H fl u)(hn:(SH H fl u).Nodup)
  (hf:∀p∈SH H fl u,G p=none/\H0 p=none/\∀(j:Nat)(v:Sl)(b:Addr),ρ[j]?=some v->v.isObj=true->σ[j]?=some (some<|.ref b)->p∉bF H v b) :
  UD K G0 H0 G (upd H a<|.ins C dx<|uH f u ws) (ρ.set i<|.o c<|.ins C<|fs++[(f,fl)]) σ:=by
 obtain⟨a',h1,h2,h3⟩:=s.er.slot i _ hu rfl;rw[I]at h1;cases h1;have A:At K G H (.ins C fs) a:=⟨h2.1.1,h2.1.2,h3⟩
 obtain⟨A',eF⟩:=A.addL ha hl hr hn λp m=>⟨(hf p m).2.2 i _ a hu rfl I,(hf p m).1⟩
 have hi:i<ρ.length:=(BA.mp hu).1;have hG:G a=none:=h3 a<|cV rfl;have xW:∀{j:Nat}{v:Sl}{b:Addr},j≠i->ρ[j]?=some v->v.isObj=true->σ[j]?=some (some<|.ref b)->a∉bF H v b:=λ{j v b} ne h o q m=>s.er.sep i j _ v a b (Ne.symm ne) hu rfl h o I q a (cV rfl) m
 have all:∀{j:Nat}{v:Sl}{b:Addr},j≠i->ρ[j]?=some v->v.isObj=true->σ[j]?=some (some<|.ref b)->GN K G (upd H a<|.ins C dx<|uH f u ws) v b/\bF (upd H a<|.ins C dx<|uH f u ws) v b=bF H v b:=λ{j v b} ne h o q=>by
  obtain⟨b',g1,g2,g3⟩:=s.er.slot j v h o;rw[q]at g1;cases g1;exact g2.same (zd.refl _) λp m x z=>by rw[upd_ne<|λy=>xW ne h o q (by rw[<- y];exact m)];exact z
 have eS:bF (upd H a<|.ins C dx<|uH f u ws) (.o c<|.ins C<|fs++[(f,fl)]) a=bF H (.o c<|.ins C fs) a++SH H fl u:=eF;refine⟨⟨by simpa using s.er.len,λj d' h=>?_,λj v h o=>?_,λj k v O b b' ne h1 o1 h2 o2 S U=>?_⟩,⟨λb x e=>?_,s.bs.gg,λb x e=>?_,s.bs.fr⟩,λj v b h o q=>?_⟩
 .rcases zu h with⟨rfl,e,_⟩|⟨J,h⟩
  .cases e
  .exact s.er.val j d' h
 .rcases zu h with⟨rfl,e,_⟩|⟨J,h⟩
  .subst e;exact⟨a,I,⟨⟨A'.rep,A'.nd⟩,h2.2⟩,A'.fr⟩
  .obtain⟨b,g1,_,g3⟩:=s.er.slot j v h o;have q:=all J h o g1;exact⟨b,g1,q.1,by rw[q.2];exact g3⟩
 .have new:∀{k:Nat}{O:Sl}{b' p:Addr},k≠i->ρ[k]?=some O->O.isObj=true->σ[k]?=some (some<|.ref b')->p∈bF H (.o c<|.ins C fs) a++SH H fl u->p∉bF H O b':=λ{k O b' p} nk h o q m=>by
   rcases oA.mp m with m|m
   .exact s.er.sep i k _ O a b' (Ne.symm nk) hu rfl h o I q p m
   .exact(hf p m).2.2 k O b' h o q
  rcases zu h1 with⟨ej,e,_⟩|⟨J,Z⟩
  .subst ej;subst e;rw[I]at S;cases S;rcases zu h2 with⟨ek,_,_⟩|⟨hk,Y⟩
   .exact absurd ek.symm ne
   .rw[eS,(all hk Y o2 U).2]
    exactλp m=>new hk Y o2 U m
  .rcases zu h2 with⟨ek,e,_⟩|⟨hk,Y⟩
   .subst ek;subst e;rw[I]at U;cases U;rw[eS,(all J Z (Sl.obj_of_own o1) S).2]
    exactλp m z=>new J Z (Sl.obj_of_own o1) S z m
   .rw[(all J Z (Sl.obj_of_own o1) S).2,(all hk Y o2 U).2];exact s.er.sep j k v O b b' ne Z o1 Y o2 S U
 .rw[upd_ne (λz=>by rw[z,hG]at e;cases e)];exact s.bs.gh b x e
 .rw[upd_ne (λz=>by rw[z,s.ow i _ a hu rfl I]at e;cases e)];exact s.bs.hh b x e
 .rcases zu h with⟨rfl,e,_⟩|⟨J,h⟩
  .subst e;rw[I]at q;cases q;rw[eS];intro p m;rcases oA.mp m with m|m
   .exact s.ows j _ a hu rfl I p m
   .exact(hf p m).2.1
  .rw[(all J h (Sl.obj_of_own o) q).2];exact s.ows j v b h o q
end
section
variable {X:Cx}{o value:Expr}{pos pos':Pos}{C:Addr}{f:Str}{fv:dC}{fl:pD}
noncomputable def CN(C:Addr)(i:Nat)(f:Str)(x:Fl)(ρ:mB):Option Out:=match ρ[i]? with
 |some (.o c<|.ins C' fs)=>if C'=C/\(fs.lookup f).isNone=true/\fs.length<900 then some (.nx<|ρ.set i<|.o c<|.ins C<|fs++[(f,x)]) else none
 |_=>none
theorem Ov{ρ:mB}(h:CN C i f x ρ=some out):∃c fs,ρ[i]?=some (.o c<|.ins C fs)/\fs.lookup f=none/\fs.length<900/\out=.nx (ρ.set i<|.o c<|.ins C<|fs++[(f,x)]):=by
 unfold CN at h;split at h
 .rename_i c j fs q;split at h
  .rename_i hh;obtain⟨rfl,h2,h3⟩:=hh;cases h;exact⟨c,fs,q,by simpa using h2,h3,rfl⟩
  .cases h
 .cases h
theorem zLU(i:Nat)(c:fJ X.K C)(n:qT X.K C f)(ho:PE X o (RF i))(hv:SF X value fl)(hs:ZI X value (some<|.Attribute o f pos') pos:=by rfl):
  SS X (.Assign [.Attribute o f pos'] value pos) (λρ=>(fl ρ).bind λxs=>CN C i f (.f<|.l xs) ρ):=
 yN (Qx ho hv hs) λE σ H=>by
  rintro⟨G0,H0,G,ρ,out,st,I,k⟩;obtain⟨xs,e1,I⟩:=aA.mp I;obtain⟨c',fs,hu,hl,O,rfl⟩:=Ov I;refine⟨G,ρ,xs,st.bs.gh,st.er,e1,λb vs G' H' t h1 h2 h3 r=>?_⟩;have CC:=st.step t;obtain⟨a,U,q2,q3⟩:=CC.er.slot i _ hu rfl;obtain⟨dx,ws,Z,z2,z3,z4,z5⟩:=q2.1.1;refine⟨_,U,a,C,dx,ws,rfl,Z,c,n,by omega,k σ G' _<|CC.addL (fl:=.f<|.l xs) (u:=.ref b) hu U Z hl ⟨b,rfl,vs,h3,r⟩ (by simp[SH,LF]) λp m=>?_⟩;have:p=b:=by simpa[SH,LF] using m
  subst this;refine⟨h2,st.bs.hh.free h1,λj v b' J S Y m=>?_⟩;rw[st.er.fp t.h J S Y]at m;obtain⟨⟨x,e⟩,_⟩:=st.er.there J S Y m;rw[h1]at e;cases e
theorem zQi(i:Nat)(c:fJ X.K C)(n:qT X.K C f)(ho:PE X o (RF i))(hs:ZI X (.Dict [] [] p1) (some<|.Attribute o f pos') pos:=by rfl):
  SS X (.Assign [.Attribute o f pos'] (.Dict [] [] p1) pos) (λρ=>CN C i f (.f<|.tl []) ρ):=
 yN (Qx ho zQB hs) λE σ H=>by
  rintro⟨G0,H0,G,ρ,out,st,ef,k⟩;obtain⟨c',fs,hu,hl,O,rfl⟩:=Ov ef;intro b hb;have t:zb G H G (upd H b<|.dT []):=zb.newH st.bs.gh hb;have CC:=st.step t;obtain⟨a,U,q2,q3⟩:=CC.er.slot i _ hu rfl;obtain⟨dx,ws,Z,z2,z3,z4,z5⟩:=q2.1.1;have I:SH (upd H b<|.dT []) (.f<|.tl []) (.ref b)=[b]:=by simp only[SH,LF];rw[zL];rfl
  refine⟨_,U,a,C,dx,ws,rfl,Z,c,n,by omega,k σ G _<|CC.addL (fl:=.f<|.tl []) (u:=.ref b) hu U Z hl ⟨b,rfl,[],zL,rfl,rfl⟩ (by rw[I];simp) λp m=>?_⟩;rw[I]at m;have:p=b:=by simpa using m
  subst this;refine⟨st.bs.gh.free hb,st.bs.hh.free hb,λj v b' J S Y m=>?_⟩;rw[st.er.fp t.h J S Y]at m;obtain⟨⟨x,e⟩,_⟩:=st.er.there J S Y m;rw[hb]at e;cases e
end
section
variable {X:Cx}{o:Expr}{es:List Expr}{pos p pos':Pos}{fl:pD}{k n i:Nat}{F:Ob->List D->Option D}{F':Ob->List D->Option Ob}{x:Str}
end
section
variable {X:Cx}{κ:Nat->Addr}{e o:Expr}{es:List Expr}{pos p uB pos':Pos}{fl:pD}{k n i:Nat}{f:List D->Option (Except Nat D)}{x y:Str}{C fa:Addr}{F:Ob->List D->Option Ob}
theorem zV5:WN (jK X.prog X.w) X E0:=λpins σ H s e s' I h=>by
 obtain⟨x,T,C,H',_,_,_,_,_,_,_,_,_,_,z⟩:=h;exact z.elim
def IZ:Except Nat D->Option D
 |.ok d=>some d
 |.error _=>none
end
section
variable {X:Cx}{e:Expr}{pos:Pos}{f:dC}
def Sy(f:dC):VB:=λρ=>(f ρ).map λd=>.rm d ρ
theorem zTX(he:SE X e f):SS X (.Return (some e) pos) (Sy f):=yN (VW he) λQ σ H=>by
 rintro⟨G0,H0,G,ρ,o,st,z,k⟩;obtain⟨d,j,rfl⟩:=bA.mp z;exact⟨G,ρ,d,st.bs.gh,st.er,j,λv G' H' t r=>k v σ G' H' (st.step t) r⟩
end
def NU(K:Fg)(f:Ob->List D->Option (D×Ob))(n:Nat):Sp:=λvs H Q _=>∃G x a ds ws r,vs=.ref a::ws/\zd G H/\At K G H x a/\CA K G ds ws/\ds.length+1=n/\f x ds=some r/\∀v G' H',OX K G H G' H' x r.2 a->Rep K G' r.1 v->Q v H'
def Sz(a:Addr):Out->Option (D×Ob)
 |.rm d ρ=>(YN a ρ).map λy=>(d,y)
 |.nx ρ=>(YN a ρ).map λy=>(.non,y)
 |_=>none
def zV6(N:List Str)(F:VB)(a:Addr)(x:Ob)(ds:List D):Option (D×Ob):=(F<|(.o (some a) x::ds.map Sl.v)++jA (N.length-(ds.length+1)) .un).bind<|Sz a
theorem zTZ{P:Program}{w:World}{K:Fg}{mg:NE}{base:Heap}{x qual:Str}{st:Stmt}{fa:Addr}{fd:FuncData}{N ps:List Str}{k:Nat}{F:VB}{f:Ob->List D->Option (D×Ob)}
  (FF:rM K x qual st fa fd) (S:zT N ps (zI st))
  (WD:∀(I:Value)(A:Around)(outer:List Env)(s:Shared)(H:Hp),IF k (A.deeper<|envOfC qual (zI st) s.heap.objs.size fa I)->XI (xK CH P w K mg base N qual (zI st) fa I A outer s H E0).nox (yC st) F)
  (hf:∀a y ds r,ds.length+1=ps.length->f y ds=some r->zV6 N F a y ds=some r):bI P w K mg base CH (k+1) fa fd ps (NU K f ps.length):=by
 refine FF.ok S (λvs H Q E h=>?_) (λI A outer s H vs Q E hr h=>?_)
 .obtain⟨G,y,a,ds,ws,y',rfl,_,_,r,Z,_⟩:=h;rw[iA,<- r.length,Z]
 .obtain⟨G,y,a,ds,ws,⟨d0,y'⟩,rfl,sm,Y,r,Z,ef,kk⟩:=h;have h1:XI (xK CH P w K mg base N qual (zI st) fa I A outer s H E).nox (yC st) F:=WD I A outer s H hr;refine⟨_,h1,?_⟩;obtain⟨o,e1,j⟩:=aA.mp<|hf a y ds _ Z ef;have UQ:Er K G H (.o (some a) y::ds.map Sl.v) ((V.ref a::ws).map some):=v4 rfl ⟨⟨Y.rep,Y.nd⟩,λc' e=>by cases e;rfl⟩ Y.fr r;have er:=UQ.app (N.length-(ds.length+1)) (jA (N.length-(ds.length+1)) none) (by simp);have es:L2.wL N (.ref a::ws)=(V.ref a::ws).map some++jA (N.length-(ds.length+1)) none:=by rw[JW,iA,<- r.length]
  have YJ:((V.ref a::ws).map some++jA (N.length-(ds.length+1)) none)[0]?=some (some<|.ref a):=by simp
  have no:=λb=>Kx (H:=H) (x:=y) (ds:=ds) (m:=N.length-(ds.length+1)) (b:=b) YJ
  rw[es];refine⟨G,qZ H _ _,G,_,o,er.toSt sm,e1,?_⟩
  have fin:∀{ρ:mB}{J:L2.St}{G' H':Hp},YN a ρ=some y'->UD K G (qZ H ((Sl.o (some a) y::ds.map Sl.v)++jA (N.length-(ds.length+1)) Sl.un)<|(V.ref a::ws).map some++jA (N.length-(ds.length+1)) none) G' H' ρ J->OX K G H G' H' y y' a:=λ{ρ J G' H'} j CC=>by
   unfold YN at j;split at j
   .rename_i c y1 q0;split at j
    .rename_i hc;cases j;subst hc;obtain⟨O,g1,g2,g3⟩:=CC.er.slot 0 _ q0 rfl;have:O=a:=g2.2 a rfl;subst this;refine⟨CC.bs.gg,CC.bs.gh,λb o e n=>?_,λb o e n=>CC.bs.hh b o (by rw[(no b).2 n];exact e),⟨g2.1.1,g2.1.2,g3⟩,λc m=>?_⟩
     .have z:=CC.bs.fr b o e n;by_cases hb:b∈OE H y O
      .exact .inr hb
      .rw[(no b).2 hb]at z;exact .inl z
     .have z:=CC.ows 0 _ O q0 rfl g1 c m;by_cases hb:c∈OE H y O
      .exact .inl hb
      .rw[(no c).2 hb]at z;exact .inr z
    .cases j
   .cases j
  cases o with
  |nx ρ=>
   obtain⟨y2,e3,U⟩:=bA.mp j;cases U
   exactλJ G' H' CC=>kk .non G' H' (fin e3 CC)<|BO.mpr rfl
  |rm d ρ=>
   obtain⟨y2,e3,U⟩:=bA.mp j;cases U
   exactλv J G' H' CC r'=>kk v G' H' (fin e3 CC) r'
  |rt d=>cases j
  |bk ρ=>cases j
  |ct ρ=>cases j
  |ro ρ=>cases j
structure Ta(P:Program)(w:World)(K:Fg)(mg:NE)(base:Heap)(k:Nat)(x:Str)(n:Nat)(F:Ob->List D->Option (D×Ob)):Prop where
 ex:∃f fd ps,bI P w K mg base CH k f fd ps (NU K F n)/\mg x=some (.ref f)/\iB K (.ref f)=true/\L2.WK K fd ps []
section
variable {X:Cx}{o:Expr}{es:List Expr}{pos p pos' uB:Pos}{fl:pD}{k n i:Nat}{F:Ob->List D->Option (D×Ob)}{x y:Str}
noncomputable def V4(i j:Nat)(fl:pD)(F:Ob->List D->Option (D×Ob)):VB:=λρ=>match ρ[i]? with
 |some (.o c x)=>(fl ρ).bind λds=>(F x ds).map λr=>.nx<|(ρ.set i<|.o c r.2).set j<|.v r.1
 |_=>none
theorem zQj(i j:Nat)(h:Ta X.prog X.w X.K X.mg X.base k x n F)(hr:IF k X.A)(hg:X.env.kindOf x=some .globalImplicit)(hn:(o::es).length=n)(ho:PE X o (RF i))(ha:SA X es fl)(hN:X.N.Nodup)(hj:X.N[j]?=some y)(hy:Loc X.env.scope y)
  (hs:ZI X (.Call (.Name x p) (o::es) [] uB) (some<|.Name y pos') pos:=by rfl)
  (hf:JL X y:=by first|exact .inl rfl|exact .inr rfl|assumption) (YH:LL x:=by decide)
  (he:BG X o es:=by rfl) (QE:EH X uB es:=by rfl) :
  SS X (.Assign [.Name y pos'] (.Call (.Name x p) (o::es) [] uB) pos) (V4 i j fl F):=by
 obtain⟨f,fd,ps,FO,hm,hk,hb⟩:=h.ex;refine yN (LO hN hj hy (Z3 (E:=E0) FO hr hg hm hk hb .nil sV (zx ho ha.pa he) YH he QE) hs hf) λE σ H zz=>?_
 obtain⟨G0,H0,G,ρ,out,st,I,kk⟩:=zz;unfold V4 at I;split at I
 .rename_i c' z S;obtain⟨ds,J,I⟩:=aA.mp I;obtain⟨Y,e3,rfl⟩:=bA.mp I;obtain⟨a,U,r1,r2⟩:=st.er.slot i _ S rfl;have A:At X.K G H z a:=⟨r1.1.1,r1.1.2,r2⟩
  refine⟨_,U,G,ρ,ds,st.bs.gh,st.er,J,λvs G1 H1 t r=>?_⟩;show NU X.K F n ((V.ref a::vs)++[]) H1 _ E0;rw[kB];refine⟨G1,z,a,ds,vs,Y,rfl,t.s,A.step t,r,by rw[ha.len _ _ J];exact hn,e3,λv G2 H2 ch rv=>?_⟩;have CC:=st.step t;exact kk _ G2 H2 ((CC.mutG S rfl (w:=.o c' Y.2) rfl U ch.g ch.gh ch.fr ch.h ⟨⟨ch.at_.rep,ch.at_.nd⟩,r1.2⟩ λp O=>⟨ch.new p O,ch.at_.fr p O⟩).setV rv)
 .cases I
end
section
variable {X:Cx}{e:Expr}{pos:Pos}{fl:pD}
def aT(fl:pD):VB:=λρ=>(fl ρ).map λxs=>.ro<|.l xs
theorem Pz(he:SF X e fl):SS X (.Return (some e) pos) (aT fl):=yN (VW he) λQ σ H=>by
 rintro⟨G0,H0,G,ρ,o,st,z,k⟩;obtain⟨xs,j,rfl⟩:=bA.mp z
 exact⟨G,ρ,xs,st.bs.gh,st.er,j,λa vs G' H' t h1 h2 h3 r=>k a G' H' (st.bs.step t) ⟨vs,h3,r⟩ λc m=>by
  cases gA.mp m;exact⟨h2,st.bs.hh.free h1⟩⟩
end
def LU(K:Fg)(f:Ob->List D->Option (List D))(n:Nat):Sp:=λvs H Q _=>∃G x a ds ws xs,vs=.ref a::ws/\zd G H/\At K G H x a/\CA K G ds ws/\ds.length+1=n/\f x ds=some xs /\
 ∀b us G' H',zb G H G' H'->H b=none->G' b=none->H' b=some (.lst us)->CA K G' xs us->Q (.ref b) H'
noncomputable def hX:Out->Option (List D)
 |.ro (.l xs)=>some xs
 |_=>none
def zV7(N:List Str)(F:VB)(a:Addr)(x:Ob)(ds:List D):Option (List D):=(F<|(.b a x::ds.map Sl.v)++jA (N.length-(ds.length+1)) .un).bind hX
theorem zTb{P:Program}{w:World}{K:Fg}{mg:NE}{base:Heap}{x qual:Str}{st:Stmt}{fa:Addr}{fd:FuncData}{N ps:List Str}{k:Nat}{F:VB}{f:Ob->List D->Option (List D)}
  (U:rM K x qual st fa fd) (S:zT N ps (zI st))
  (Z:∀(I:Value)(A:Around)(outer:List Env)(s:Shared)(H:Hp),IF k (A.deeper<|envOfC qual (zI st) s.heap.objs.size fa I)->XI (xK CH P w K mg base N qual (zI st) fa I A outer s H E0).nox (yC st) F)
  (hf:∀a y ds d,ds.length+1=ps.length->f y ds=some d->zV7 N F a y ds=some d):bI P w K mg base CH (k+1) fa fd ps (LU K f ps.length):=by
 refine U.ok S (λvs H Q E h=>?_) (λI A outer s H vs Q E hr h=>?_)
 .obtain⟨G,y,a,ds,ws,d,rfl,_,_,r,O,_⟩:=h;rw[iA,<- r.length,O]
 .obtain⟨G,y,a,ds,ws,d,rfl,sm,J,r,O,ef,kk⟩:=h;have h1:XI (xK CH P w K mg base N qual (zI st) fa I A outer s H E).nox (yC st) F:=Z I A outer s H hr;refine⟨_,h1,?_⟩;obtain⟨o,e1,j⟩:=aA.mp<|hf a y ds d O ef;have Y:Er K G H (.b a y::ds.map Sl.v) ((V.ref a::ws).map some):=v4 rfl ⟨⟨J.rep,J.nd⟩,rfl⟩ J.fr r;have er:=Y.app (N.length-(ds.length+1)) (jA (N.length-(ds.length+1)) none) (by simp)
  have er:Er K G H ((.b a y::ds.map Sl.v)++jA (N.length-(ds.length+1)) .un) (L2.wL N (.ref a::ws)):=by
   rw[JW,iA,<- r.length];exact er
  have uP:∀(i:Nat)(u:Sl),((.b a y::ds.map Sl.v)++jA (N.length-(ds.length+1)) Sl.un)[i]?=some u->u.isOwn=true->False:=λi u h1 h2=>by
   have hm:=xA h1;rcases oA.mp hm with m|m
   .rcases nA.mp m with z|m
    .subst z;cases h2
    .obtain⟨d',_,rfl⟩:=OA.mp m;cases h2
   .rw[(ED.mp m).2]at h2;cases h2
  refine⟨G,H,G,_,o,⟨er,⟨sm,zd.refl _,zd.refl _,λb o e n=>by rw[e]at n;cases n⟩,λi u b h1 h2 h3=>(uP i u h1 h2).elim⟩,e1,?_⟩
  cases o with
  |ro s'=>
   cases s' with
   |l xs=>
    cases j
    exactλb G' H' bs r' n=>let ⟨us,q1,q2⟩:=r';kk b us G' H' ⟨bs.gg,bs.hh,bs.gh,bs.fr⟩ (n b<|gA.mpr rfl).2 (n b<|gA.mpr rfl).1 q1 q2
   |_=>cases j
  |rt d'=>cases j
  |nx ρ=>cases j
  |bk ρ=>cases j
  |ct ρ=>cases j
  |rm d ρ=>cases j
structure Tb(P:Program)(w:World)(K:Fg)(mg:NE)(base:Heap)(C:Addr)(k:Nat)(m:Str)(n:Nat)(F:Ob->List D->Option (List D)):Prop where
 ex:∃f fd ps,bI P w K mg base CH k f fd ps (LU K F n)/\GV K C m f/\L2.WK K fd ps []
def Y9(C:Addr)(m:Str)(i:Nat)(fl:pD)(F:Ob->List D->Option (List D)):pD:=λρ=>(bO ρ i).bind λx=>if PL C m x=true then (fl ρ).bind λds=>F x ds else none
section
variable {X:Cx}{o e:Expr}{es:List Expr}{pos apos:Pos}{C:Addr}{m:Str}{i k n:Nat}{F:Ob->List D->Option (List D)}{fl:pD}
theorem zTd(i:Nat)(h:Tb X.prog X.w X.K X.mg X.base C k m n F)(c:fJ X.K C)(hr:IF k X.A)(Z:PE X o (RF i))(ha:SA X (e::es) fl)(U:(e::es).length+1=n)(XJ:BG X e es:=by rfl)(O:EH X pos es:=by rfl) (ht:eval (.Call (.Attribute o m apos) (e::es) [] pos) X.env=(do
   let ov <- eval o X.env
   standAt apos.atName
   let (f,first) <- holding [ov] (getMethod ov m pl)
   callWith pos f first (backTo pos<|starEach (e::es) X.env) (backToKw pos<|keywordEach [] X.env)):=by rfl) :
  SF X (.Call (.Attribute o m apos) (e::es) [] pos) (Y9 C m i fl F):=by
 obtain⟨f,fd,ps,I,hm,hb⟩:=h.ex;refine aG (Pp (pl:=pl) (dvs:=[]) (ds:=[]) (E:=E0) Z c hm I hr hb .nil sV ha.pa XJ O ht) λσ H Q zz=>?_
 obtain⟨G,ρ,d,s,er,j,kk⟩:=zz;obtain⟨x,S,j⟩:=aA.mp j;split at j
 .rename_i hx;obtain⟨ds,z,e3⟩:=aA.mp j;obtain⟨a,q1,A⟩:=IW er S;obtain⟨dx,ws,q2,q3⟩:=V9 A hx;refine⟨_,q1,a,dx,ws,rfl,q2,q3,G,ρ,ds,s,er,z,λvs G' H' t r=>?_⟩;show LU X.K F n (V.ref a::(vs++[])) H' Q E0;rw[kB];exact⟨G',x,a,ds,vs,d,rfl,t.s,A.step t,r,by rw[ha.len _ _ z];exact U,e3,λb us J H2 t2 h1 h2 h3 r2=>kk b us J H2 (t.trans t2) (t.h.free h1) h2 h3 r2⟩
 .cases j
end
section
variable {X:Cx}{o:Expr}{es:List Expr}{pos p np uB:Pos}{fl:pD}{k n:Nat}{F:Ob->List D->Option (D×Ob)}{x:Str}{A B:List Stmt}{FA FB:VB}
end
def mM{α:Type}(f:Addr->Option α):Option α:=by
 classical exact if h:∃r,∀a,f a=some r then some h.choose else none
theorem yw{j:Type}{f:Addr->Option j}{r:j}(h:∀a,f a=some r):mM f=some r:=by
 have e:∃r,∀a,f a=some r:=⟨r,h⟩
 unfold mM;rw[dif_pos e];have:=e.choose_spec 0;rw[h 0]at this;exact this.symm
theorem qD{j:Type}{f:Addr->Option j}{r:j}(h:mM f=some r):∀a,f a=some r:=by
 unfold mM at h;split at h
 .rename_i e;cases h;exact e.choose_spec
 .cases h
noncomputable def Gk(i:Nat):kF:=λρ=>match ρ[i]? with
 |some (.v .non)=>some true
 |some (.o _ _)=>some false
 |_=>none
noncomputable def Ro(i:Nat):VB:=λρ=>match ρ[i]? with
 |some (.v d)=>some<|.rt d
 |some (.o c x)=>some<|.ro<|.o c x
 |_=>none
def zV8(N:List Str)(F:mB->Option YF)(a:Addr)(x:Ob)(ds:List D):Option (Except Nat Ob):=(F<|(.o (some a) x::ds.map Sl.v)++jA (N.length-(ds.length+1)) .un).bind λo=>match o with
 |.o (.nx ρ)=>(YN a ρ).map .ok
 |.ex c=>some<|.error c
 |_=>none
noncomputable def ZW(C:Addr)(i:Nat)(fl:pD)(F:Ob->List D->Option (Except Nat Ob))(cc:Nat)(Fh:VB):VB:=λρ=>(fl ρ).bind λds=>(F (.ins C []) ds).bind λr=>match r with
 |.ok x=>some<|.nx<|ρ.set i<|.o none x
 |.error c=>if c=cc then Fh ρ else none
noncomputable def iX(g:D->mB->Option mB)(f:mB->Option (Except Nat D)):List D->mB->Option (Except Nat<|List D)
 | [],_=>some<|.ok []
 |d::ds,ρ=>(g d ρ).bind λρ1=>(f ρ1).bind λr=>match r with
  |.ok y=>(iX g f ds ρ).map λq=>match q with
   |.ok ys=>.ok (y::ys)
   |.error c=>.error c
  |.error c=>some<|.error c
def aX(m:Nat)(fl:pD)(g:D->mB->Option mB)(f:mB->Option (Except Nat D)):mB->Option (Except Nat<|List D):=λρ=>(fl ρ).bind λds=>if ds.length<=1000000 then iX g f ds (ρ++jA m .un) else none
def W4(C:Addr)(i:Nat)(f:Str)(q:mB->Option (Except Nat<|List D)):mB->Option YF:=λρ=>(q ρ).bind λr=>match r with
 |.ok xs=>(CN C i f (.v<|.lst xs) ρ).map .o
 |.error c=>some<|.ex c
section
variable {X:Cx}{e o:Expr}{pos:Pos}{st:Stmt}
theorem zQk:SS X st (λ_=>none):=yN zP1 λE σ H=>by rintro⟨_,_,_,_,_,_,j,_⟩;cases j
theorem zV9(i:Nat){j}(O:PE X o (RF i))(hm:behindInMarks .Is (.Constant .none j np)=false:=by rfl):SB X (.Compare o [.Is] [.Constant .none j np] pos) (Gk i):=
 WS (Pn zU8 O P4 hm) λσ H Q=>by
  rintro⟨G,ρ,b,s,er,z,k⟩;unfold Gk at z;split at z
  .rename_i q;cases z;obtain⟨v,I,J⟩:=er.val i .non q;have J:=BO.mp J;subst J;exact⟨_,I,G,ρ,.non,s,er,rfl,λv G' H' t r=>⟨BO.mp r,true,by simp,k G' H' t⟩⟩
  .rename_i c x q;cases z;obtain⟨a,I,_⟩:=er.slot i _ q rfl;exact⟨_,I,G,ρ,.non,s,er,rfl,λv G' H' t r=>⟨BO.mp r,false,by simp,k G' H' t⟩⟩
  .cases z
theorem zQl(i:Nat)(he:PE X e (RF i)):SS X (.Return (some e) pos) (Ro i):=yN (VW he) λQ σ H=>by
 rintro⟨G0,H0,G,ρ,o,st,j,k⟩;unfold Ro at j;split at j
 .rename_i d q;cases j;obtain⟨v,z,I⟩:=st.er.val i d q;exact⟨v,z,k v G H st.bs I⟩
 .rename_i c x q;cases j;obtain⟨a,z,I,J⟩:=st.er.slot i _ q rfl;exact⟨_,z,k a G H st.bs I λc m=>⟨J c m,st.ows i _ a q rfl z c m⟩⟩
 .cases j
end
section
variable {P:Program}{w:World}{K:Fg}{mg:NE}{base:Heap}{N:List Str}{qual:Str}{scope:BF}{f:Addr}{cd:Value}{A:Around}{outer:List Env}{s₀:Shared}{H₀:Hp}{E:XK}
theorem o8:PassesOwn (model (YD P w K mg base N qual scope f cd A outer s₀ H₀ E).prog (YD P w K mg base N qual scope f cd A outer s₀ H₀ E).w) (YD P w K mg base N qual scope f cd A outer s₀ H₀ E).A (YD P w K mg base N qual scope f cd A outer s₀ H₀ E).env (YD P w K mg base N qual scope f cd A outer s₀ H₀ E).xe:=PassesOwn.leaving
end
theorem zGj{env j:Env}(h:env.frame=j.frame):noteFrame e env=noteFrame e j:=by
 unfold noteFrame PySem.frameOf;rw[h]
section
variable {M:Model}{A:Around}{E:KD}{s:Shared}{bs:Heap}{env:Env}{outer:List Env}{L e:Addr}{cls a0 fl:Value}
structure MR(bs:Heap)(l:List Env)(e:Addr)(cls a0 fl:Value)(h:Heap):Prop where
 st:bs.StaysIn h
 no:bs.get? e=none
 ff:h.FunFrames bs l
 tr:h.TracedAtW bs e cls a0 fl
theorem MR.mark{h:Heap}(x:MR bs l e cls a0 fl h):∃j vs T J ts,h.get? e=some j/\(j.cls=cls/\vs[0]?=some a0)/\j.data=.fields vs/\vs[1]?=some (.ref T)/\T≠e/\h.get? T=some J/\J.data=.fields ts/\3<ts.size/\ts[3]?=some fl /\
  ∀u,MR bs l e cls a0 u (h.update T (DE (·.setIfInBounds 3 u)))/\∀b o,h.get? b=some o->(∀q,o.data≠.fields q)->(h.update T (DE (·.setIfInBounds 3 u))).get? b=some o:=by
 obtain⟨j,vs,T,J,ts,g1,g2,g3,Y,Z,S,U,I,g9⟩:=x.tr;have sz:3<ts.size:=(BK.mp g9).1;refine⟨j,vs,T,J,ts,g1,g2,g3,Y,S,U,I,sz,g9,λu=>?_⟩;have O:∀b,b≠T->(h.update T (DE (·.setIfInBounds 3 u))).get? b=h.get? b:=λb nb=>UE _ _ λz=>nb z.symm
 have nT:∀b o,h.get? b=some o->(∀q,o.data≠.fields q)->b≠T:=λb o e n z=>by
  subst z;rw[U]at e;cases e;exact n _ I
 refine⟨⟨λb o e=>?_,x.no,x.ff.of_keeps λb o e n=>⟨o,by rw[O b<|nT b o e n];exact e,rfl⟩,j,vs,T,_,_,?_,g2,g3,Y,Z,S,iF _ U<|PN<|jG I _,jG I _,by simp[sz]⟩,λb o e n=>by rw[O b<|nT b o e n];exact e⟩
 .rw[O b λz=>by subst z;rw[Z]at e;cases e];exact x.st b o e
 .rw[O e λz=>S z.symm];exact g1
theorem zKN{h:Heap}(x:h.FunFrames bs (l::outer)):h.FunFrames bs outer:=by
 obtain⟨_,_,k⟩:=x;exact k
theorem wg{h h':Heap}:∀{l:List Env},(∀b o,b∈fH l->h.get? b=some o->h'.get? b=some o)->h.FunFrames bs l->h'.FunFrames bs l
 | [],_,_=>trivial
 |v::l,k,x=>by
  obtain⟨x1,⟨j,o,z,J,O,S⟩,I⟩:=x
  exact⟨x1,⟨j,o,z,J,k j o (ZA.mpr ⟨v,lA ..,z⟩) O,S⟩,wg (λb o m=>k b o (by
   obtain⟨u,hu,hf⟩:=ZA.mp m;exact ZA.mpr ⟨u,dA _ hu,hf⟩)) I⟩
theorem zOS(U:A.frames=some (env::outer))(hf:env.frame=some L)(x:MR bs (env::outer) e cls a0 fl s.heap){Q:Unit->Shared->Prop}
  (hQ:∀h',dH bs outer e cls a0 h'->s.heap.UpToSlots h'->Q () { s with heap:=h' }):wpAny M A (leaving env<|.ref e) Q E s:=by
 have land:∀(h1:Heap)(j:Value),MR bs (env::outer) e cls a0 j h1->s.heap.UpToSlots h1->wpAny M A (setFlight (.ref e) none) Q E { s with heap:=h1 }:=λh1 j y up=>
  wpAny_setFlight_noneW (s:={ s with heap:=h1 }) y.st y.ff y.tr λh' k1 k2 k3 k4=>hQ h' ⟨k1,y.no,zKN k2,k3⟩ (up.trans λb o z n=>⟨o.slots,k4 b o z n⟩)
 obtain⟨oe,vs,T,oT,ts,g1,g2,g3,I,Y,J,O,sz,Z,mk⟩:=x.mark;unfold leaving;refine wpAny_bind ?_;unfold noteFrame;simp only[hf];refine wpAny_bind<|wpAny_field g1 g3 I ?_;rw[if_pos<|by simp];refine wpAny_bind<|wpAny_field J O Z ?_;by_cases c:(fl==rawInt L)=true
 .rw[if_pos c];exact wpAny_pure<|land s.heap fl x<|xX _
 .rw[if_neg c];obtain⟨y,keep⟩:=mk .none;refine wpAny_bind<|wpAny_setField J O sz ?_;have ge:(s.heap.update T (DE (·.setIfInBounds 3 .none))).get? e=some oe:=by rw[UE _ _ Y];exact g1
  refine wpAny_entryW (s:={ s with heap:=s.heap.update T (DE (·.setIfInBounds 3 .none)) }) U y.ff hf ge y.st y.no g3 (BK.mp I).1 g2.2 λh' nt=>?_
  obtain⟨n1,n2,S,n4⟩:=nt;rw[g2.1]at S;exact land h' _ ⟨n1,y.no,n2,S⟩ λb o z n=>n4 b o (keep b o z n) n
theorem zQn{z:Type}(x:MR bs l e cls a0 fl s.heap){Q:z->Shared->Prop}(S:∀h' I,MR bs l e cls a0 I h'->(∀b o,s.heap.get? b=some o->(∀q,o.data≠.fields q)->h'.get? b=some o)->E (.ref e) { s with heap:=h' }):wpAny M A (ZV Iv (.ref e) ZL:Sem z) Q E s:=by
 obtain⟨oe,vs,T,Z,ts,g1,g2,g3,j,U,J,O,sz,Y,mk⟩:=x.mark;unfold ZV;refine wpAny_bind<|wpAny_field g1 g3 j ?_;rw[if_neg<|by simp];refine wpAny_bind ?_;unfold setFlight;refine wpAny_bind<|wpAny_field g1 g3 j ?_;rw[if_pos<|by simp];refine wpAny_setField J O sz<|wpAny_throw ?_;obtain⟨y,keep⟩:=mk (ZL.frame.elim .none λf=>rawInt f);exact S _ _ y keep
end
noncomputable def xQ(g:D->mB->Option mB)(p:kF)(f:mB->Option (Except Nat D)):List D->mB->Option (Except Nat<|List D)
 | [],_=>some<|.ok []
 |d::ds,ρ=>(g d ρ).bind λρ1=>(p ρ1).bind λb=>if b=true then (f ρ1).bind λr=>match r with
   |.ok y=>(xQ g p f ds ρ).map λq=>match q with
    |.ok ys=>.ok (y::ys)
    |.error c=>.error c
   |.error c=>some<|.error c
  else xQ g p f ds ρ
theorem zLW{g:D->mB->Option mB}{f:mB->Option (Except Nat D)}:∀ds:List D,xQ g (λ_=>some true) f ds ρ=iX g f ds ρ
 | []=>rfl
 |d::ds=>by
  rw[xQ,iX,zLW ds];rfl
theorem Ow{g:D->mB->Option mB}{p:kF}{f:dC}:∀{ds ys:List D},zQ g p f ds ρ=some ys->xQ g p (λρ=>(f ρ).map .ok) ds ρ=some (.ok ys)
 | [],_,h=>by cases h;rfl
 |d::ds,ys,h=>by
  obtain⟨ρ1,j,h⟩:=aA.mp h;obtain⟨b,z,h⟩:=aA.mp h;rw[xQ,j,cA,z,cA]
  cases b with
  |false=>rw[if_neg YA]at h ⊢;exact Ow h
  |true=>
   rw[if_pos rfl]at h ⊢;obtain⟨x,e3,h⟩:=aA.mp h;obtain⟨zs,I,rfl⟩:=bA.mp h;rw[e3,uA,cA];simp only[Ow I,uA]
noncomputable def P5(zs:List D):Except Nat (List D)->Except Nat (List D)
 |.ok ys=>.ok<|zs++ys
 |.error c=>.error c
section
variable {X:Cx}{tg iter elt:Expr}{scope:BF}{pos:Pos}{nm:List Str}{fl:pD}{gd:D->mB->Option mB}{f:mB->Option (Except Nat D)}{κ:Nat->Addr}{W:XK}
theorem zHD{p:kF}{s:Shared}{ds:List D}{tn:Nat->Heap->Prop}{E:KD}{RR:Value->Addr->kQ->Shared->Prop}(hc:X.calm=true)(hk:scope.kind=.function)(hok:lM X.N nm scope.names X.env.scope.names=true)(pL:XN X.N.length gd)(hg:∀C j rB ex,SG (zc X nm scope C j rB ex) tg gd)(ht:∀C j rB ex,UT (zc X nm scope C j rB ex) ifs p)(he:∀(C:Addr)(j:Shared)(rB:Hp)(ex:List Addr)(EE:KD),WN (jK X.prog X.w) ((zc X nm scope C j rB ex).wish EE) W->PE ((zc X nm scope C j rB ex).wish EE) elt (PU X.K κ W f))(hex:∀u o H',W u o H'->X.ex=[])(I:Inv X pins σ H s)(T:mT X.prog X.w X.K tg J fp it tn)(h0:tn 0 s.heap)(uO:∀b∈fp,PH X pins H b)(sm:zd G H)(er:Er X.K G H ρ σ)(iM:VO X.K G J ds)(hl:ds.length<=1000000)(Gg:xQ gd p f ds (ρ++jA nm.length .un)=some r)(hW:∀c,r=.error c->∀G' H',zb G H G' H'->W (.ref<|κ c) none H') (Ep:∀ys,r=.ok ys->∀(D C:Addr)(s':Shared)(H' G':Hp)(vs:List V)(m':NE),Inv X pins σ H' s'->zb G H G' H'->H D=none->G' D=none->H' D=some (.lst vs)->CA X.K G' ys vs->s'.heap.Ns C m'->H' C=none->C≠X.env.locals ->
   X.s₀.heap.objs.size<=C->(∀x c,X.env.cells.lookup x=some c->c≠C)->(∀p∈X.pn++pins,p.1≠C)->RR (.ref D) C (.ok .next) s') (Em:∀(acc:Value)(C:Addr)(s':Shared)(H':Hp)(x T' C0:Addr)(m':NE),Inv X pins σ H' s'->PX X.stack x T' (.ref C0) s'.heap->X.s₀.heap.get? x=none->X.s₀.heap.get? T'=none->H' x=none->H' T'=none->W (.ref C0) none H'->s'.heap.Ns C m'->H' C=none->C≠X.env.locals ->
   X.s₀.heap.objs.size<=C->(∀x c,X.env.cells.lookup x=some c->c≠C)->(∀p∈X.pn++pins,p.1≠C)->x≠C->T'≠C->notedBy (model X.prog X.w) X.A (compEnvC scope (AJ scope.names X.env.cells) C X.env) (λe lR=>RR acc C (.error e) lR) (.ref x) s') :
  wpAny (model X.prog X.w) X.A (newList []) (λacc j=>wpAny (model X.prog X.w) X.A (newFunctionEnv scope X.env.globals (AJ scope.names X.env.cells) [] X.env.qual none .none<|some X.env) (λZL RJ=>
   UF (model X.prog X.w) X.A (.compStart (.ListComp elt [⟨tg,iter,ifs,0⟩] scope pos) 0 (.ref it) acc { ZL with scope:=relabel scope X.env }) (RR acc ZL.locals) RJ) E j) E s:=by
 have oS:∀b∈fp,b<s.heap.objs.size:=λb hb=>by
  obtain⟨o,e,_⟩:=T.obj 0 s.heap h0 b hb;exact EA e
 refine wpAny_newObj_type ?_;have gJ:Inv X pins σ (upd H s.heap.objs.size<|.lst []) { s with heap:=s.heap.push { cls:=.type "list",data:=.seq ([]:List Value).toArray } }:=I.lnew (t':=s.toks) (ys:=[]) (its:=[]) .nil<|nC _;have nD:H s.heap.objs.size=none:=I.fresh;generalize AS:({ s with heap:=s.heap.push { cls:=.type "list",data:=.seq ([]:List Value).toArray } }:Shared)=j at gJ|-;have Fz:j.heap.objs.size=s.heap.objs.size+1:=by rw[<- AS];exact bG ..
 have nU:∀b∈fp,PH X pins (upd H s.heap.objs.size<|.lst []) b:=λb hb=>⟨by rw[upd_ne<|VA<|oS b hb];exact(uO b hb).1,(uO b hb).2⟩
 have Fm:∀b∈fp,b<j.heap.objs.size:=λb hb=>by rw[Fz];exact Nat.lt_succ_of_lt<|oS b hb
 have AO:tn 0 j.heap:=T.keep 0 s.heap _ h0 λb hb o e=>by rw[<- AS];exact sA _ e
 refine wpAny_newFunctionEnv (λy hy=>(yQ hok hy).1) (by intro y hy;simp at hy) (λuG vU CU=>?_) hk;have keep:∀b o,j.heap.get? b=some o->uG.get? b=some o:=λb o e=>CU.extBut b o (VA<|EA e)<|sA _ e
 have I4:=zMT (nm:=nm) (scope:=scope) (tk:=j.toks+([]:List (Str×Value)).length) gJ hk hok nU Fm vU keep;have Hw:tn 0 uG:=T.keep 0 _ _ AO λb hb o e=>keep b o e
 generalize cZ:({ j with heap:=uG,toks:=j.toks+([]:List (Str×Value)).length }:Shared)=RJ at I4;have Y0:tn 0 RJ.heap:=by rw[<- cZ];exact Hw
 show UF _ _ (.compStart _ 0 (.ref it) (.ref s.heap.objs.size)<|compEnvC scope (AJ scope.names X.env.cells) j.heap.objs.size X.env) (RR (.ref s.heap.objs.size) j.heap.objs.size) RJ
 have jU:∀b∈fp,PH (zc X nm scope j.heap.objs.size j (upd H s.heap.objs.size<|.lst []) fp) [] (upd H s.heap.objs.size<|.lst []) b:=λb hb=>
  ⟨(nU b hb).1,(I4.ok.exf b hb).1,λz=>I4.ok.exfs b hb z,.inl hb,(I4.ok.exf b hb).2,λp hp=>(by simp[zc]at hp)⟩
 have XM:∀{H':Hp},(∀b∈fp,H' b=none)->∀b∈fp,PH (zc X nm scope j.heap.objs.size j (upd H s.heap.objs.size<|.lst []) fp) [] H' b:=λhn b hb=>⟨hn b hb,(jU b hb).2⟩
 have hr:ρ.length=X.N.length:=by rw[er.len,I.len]
 have loop:UF (model X.prog X.w) X.A (.compLoop (.ListComp elt [⟨tg,iter,ifs,0⟩] scope pos) 0 (.ref it) (.ref s.heap.objs.size)<|compEnvC scope (AJ scope.names X.env.cells) j.heap.objs.size X.env) (RR (.ref s.heap.objs.size) j.heap.objs.size) RJ:=by
  refine zIy (λn s'=>∃i Z H1 G1 zs vs rest,n=ds.length-i/\i<=ds.length/\Inv (zc X nm scope j.heap.objs.size j (upd H s.heap.objs.size<|.lst []) fp) [] Z H1 s'/\tn i s'.heap/\(∀b∈fp,H1 b=none) /\
    zb G H G1 H1/\Er X.K G1 H1 (ρ++jA nm.length .un) Z/\SJ H1 (ρ++jA nm.length .un) Z s.heap.objs.size/\G1 s.heap.objs.size=none/\H1 s.heap.objs.size=some (.lst vs)/\CA X.K G1 zs vs/\zs.length<=i /\
    xQ gd p f (ds.drop i) (ρ++jA nm.length .un)=some rest/\r=P5 zs rest) ?_ ds.length
   ⟨0,_,_,G,[],[],r,by simp,nC _,I4,Y0,λb hb=>(nU b hb).1,zb.newH sm nD,(er.step<|zb.newH sm nD).app nm.length _ (by simp),((SJ.new er nD).grow er<|yh nD).app er,sm.free nD,zL,CA.nil,wA _,by simpa using Gg,by cases r<;>rfl⟩
  rintro n s5 ⟨i,LQ,H5,G5,zs,vs,rest,rfl,hi,I5,NL,U6,t5,Wa,nd5,Wi,X6,o7,lz5,O,oY⟩;by_cases HI:i<ds.length
  .have ed:ds.drop i=ds[i]::ds.drop (i+1):=kE HI;rw[ed]at O;obtain⟨OR,e6,O⟩:=aA.mp O;obtain⟨b6,e7,O⟩:=aA.mp O;refine wpAny_mono (T.item (zc X nm scope j.heap.objs.size j (upd H s.heap.objs.size<|.lst []) fp) rfl rfl rfl hc i [] s5 LQ H5 (notedBy (model X.prog X.w) X.A _ λe s'=>RR (.ref s.heap.objs.size) j.heap.objs.size (.error e) s') I5 (XM U6) NL<|iM.go i H5 (t5.g.trans t5.s) HI) (λr s6 zz=>?_) λ_ _ z=>z
   obtain⟨u,Fw,h6⟩:=zz;subst Fw;refine wpAny_mono h6 (λ_ s7 zz=>?_) λ_ _ z=>z
   obtain⟨x7,H7,I7,rx7,y7,Hx,fr7⟩:=zz;obtain⟨G7,t7,r7⟩:=iM.yld i G5 H5 x7 H7 t5.g t5.s HI y7;have I7':=I7.pinned (XM fr7)<|T.obj _ _ Hx;have Wb:=Wa.step t7;have hx:(zc X nm scope j.heap.objs.size j (upd H s.heap.objs.size<|.lst []) fp).xe=λ_ _=>False:=rfl
   obtain⟨k1,k2,k3⟩:=pL _ _ _ e6;rw[<- hr]at k2;have nd7:=nd5.grow Wa t7.h
   have hgr:=hg j.heap.objs.size j (upd H s.heap.objs.size<|.lst []) fp _ s7 LQ H7 x7 u (λdO H8=>H8=H7/\Er X.K G7 H7 OR dO/\SJ H7 OR dO s.heap.objs.size) I7' rx7
    ⟨G7,qZ H7 _ LQ,G7,_,ds[i],OR,Wb.toSt t7.s,r7 _ (by simp[HI]),e6,λdO Zx=>⟨rfl,Zx.er,zQN Wb nd7 Zx k3<|t7.h _ _ X6⟩⟩
   refine wpAny_mono hgr (λ_ s8 ⟨dO,H8,I8,e8,VQ,Ye⟩=>?_) λ_ _ z=>(by rw[hx]at z;exact z.elim)
   subst e8
   have again:∀{G9 H9:Hp}{s9:Shared}{V5:List D}{jH:List V}{TK:Except Nat (List D)},Inv (zc X nm scope j.heap.objs.size j (upd H s.heap.objs.size<|.lst []) fp) ([]++J4 fp s7.heap) dO H9 s9->zb G H G9 H9->Er X.K G9 H9 OR dO->SJ H9 OR dO s.heap.objs.size->G9 s.heap.objs.size=none->H9 s.heap.objs.size=some (.lst jH)->CA X.K G9 V5 jH ->
     V5.length<=i+1->xQ gd p f (ds.drop<|i+1) (ρ++jA nm.length .un)=some TK->r=P5 V5 TK->∃m,m<ds.length-i/\∃i Z H1 G1 zs vs rest,m=ds.length-i/\i<=ds.length/\Inv (zc X nm scope j.heap.objs.size j (upd H s.heap.objs.size<|.lst []) fp) [] Z H1 s9/\tn i s9.heap/\(∀b∈fp,H1 b=none) /\
    zb G H G1 H1/\Er X.K G1 H1 (ρ++jA nm.length .un) Z/\SJ H1 (ρ++jA nm.length .un) Z s.heap.objs.size/\G1 s.heap.objs.size=none/\H1 s.heap.objs.size=some (.lst vs)/\CA X.K G1 zs vs/\zs.length<=i /\
    xQ gd p f (ds.drop i) (ρ++jA nm.length .un)=some rest/\r=P5 zs rest:=λ{G9 H9 s9 V5 jH TK} I9 S er9 n9 g9 h9 r9 l9 c9 y9=>by
    refine⟨ds.length-(i+1),by omega,i+1,dO,H9,G9,V5,jH,TK,rfl,HI,I9.unpinned,T.keep _ _ _ Hx λb hb o e=>(I9.pin (b,o)<|IA _<|IA _<|l8 hb e).1,λb hb=>?_,S,er9.drop k1 k2,n9.drop k2,g9,h9,r9,l9,c9,y9⟩;obtain⟨o,e,d⟩:=T.obj _ _ Hx b hb;exact(I9.pin (b,o)<|IA _<|IA _<|l8 hb e).2.1
   refine zNv (X:=zc X nm scope j.heap.objs.size j (upd H s.heap.objs.size<|.lst []) fp) hx (ht j.heap.objs.size j (upd H s.heap.objs.size<|.lst []) fp) I8 t7.s VQ e7 λG9 H9 s9 I9 S=>?_
   have tt:=(t5.trans t7).trans S
   have Wj:G9 s.heap.objs.size=none:=by
    cases q:G9 s.heap.objs.size with
    |none=>rfl
    |some o=>
     have:=(t7.trans S).f _ o q Wi;rw[X6]at this;cases this
   have El:H9 s.heap.objs.size=some (.lst vs):=(t7.trans S).h _ _ X6
   cases b6 with
   |false=>
    rw[if_neg YA]at O ⊢
    exact again I9 tt (VQ.step S) (Ye.grow VQ S.h) Wj El (CA.mono (t7.trans S).g _ _ o7) (by omega) O oY
   |true=>
   rw[if_pos rfl]at O ⊢;obtain⟨rr,Vy,O⟩:=aA.mp O;have hP:WN (jK X.prog X.w) ((zc X nm scope j.heap.objs.size j (upd H s.heap.objs.size<|.lst []) fp).wish λe s'=>∃uI Z Hs s0,Inv (zc X nm scope j.heap.objs.size j (upd H s.heap.objs.size<|.lst []) fp) uI Z Hs s0/\jK X.prog X.w X.stack Hs s0 W e s') W:=λuI Z Hs s0 e s' J h=>⟨uI,Z,Hs,s0,J.unwish,h⟩
   have pW:=he j.heap.objs.size j (upd H s.heap.objs.size<|.lst []) fp _ hP
   have bad:∀e s',(∃uI Z Hs s0,Inv (zc X nm scope j.heap.objs.size j (upd H s.heap.objs.size<|.lst []) fp) uI Z Hs s0/\jK X.prog X.w X.stack Hs s0 W e s')->notedBy (model X.prog X.w) X.A (compEnvC scope (AJ scope.names X.env.cells) j.heap.objs.size X.env) (λe lR=>RR (.ref s.heap.objs.size) j.heap.objs.size (.error e) lR) e s':=λe s' z=>by
    obtain⟨uI,Z,Hs,s0,J0,x,T',C0,H',rfl,os,bare,un,oK,fU,nx,nT,uW,Es,hE⟩:=z;have cS:Inv X pins σ Hs s0:=gJ.call' (ch:=fp) J0.os J0.base J0.hok J0.bare λb hb=>⟨(uO b hb).2.2.2.1,(uO b hb).2.1,(uO b hb).2.2.2.2.1,(uO b hb).2.2.2.2.2⟩
    have NT:Inv X pins σ H' s':=cS.call' os un oK bare λb m=>absurd m (by simp)
    have J1:Inv (zc X nm scope j.heap.objs.size j (upd H s.heap.objs.size<|.lst []) fp) uI Z H' s':=J0.call' os un oK bare λb m=>absurd m (by simp)
    obtain⟨m0,Wu,_⟩:=J0.loc;obtain⟨m1,Fp,_⟩:=J1.loc;have there:∃o,s0.heap.get? j.heap.objs.size=some o:=by obtain⟨o,_,_,q,_⟩:=Wu;exact⟨o,q⟩
    obtain⟨oC,W6⟩:=there
    have old:∀b,s0.heap.get? b=none->X.s₀.heap.get? b=none:=λb n=>by
     cases q:X.s₀.heap.get? b with
     |none=>rfl
     |some o=>
      obtain⟨o',q'⟩:=cS.base.there b o q (by rw[hex _ _ _ hE];simp);rw[n]at q';cases q'
    exact Em (.ref s.heap.objs.size) j.heap.objs.size s' H' x T' C0 m1 NT fU (old x nx) (old T' nT) uW Es hE Fp J1.free (lH gJ.lt) gJ.sz (λx c e=>VA (by obtain⟨v,q⟩:=gJ.cell x c e;exact q.lt)) (λp hp=>VA<|EA (gJ.pin p hp).1) (λz=>by subst z;rw[nx]at W6;cases W6) (λz=>by subst z;rw[nT]at W6;cases W6)
   cases rr with
   |error c=>
    simp only[sE]at O;have er':r=.error c:=by rw[oY,<- O];rfl
    have pW:=pW _ s9 dO H9 (λ_ _=>False) (I9.wish _) ⟨G9,OR,_,S.s,VQ.step S,Vy,λG' H' t=>hW c er' G' H'<|tt.trans t⟩;refine wpAny_mono pW (λuy s10 ⟨vy,bS,B6,Zt,z⟩=>z.elim) λe s' z=>?_
    exact bad e s' z
   |ok y=>
    obtain⟨TK,e11,O⟩:=bA.mp O;have pW:=pW _ s9 dO H9 (λv H'=>∃G',zb G9 H9 G' H'/\Rep X.K G' y v) (I9.wish _) ⟨G9,OR,_,S.s,VQ.step S,Vy,λv G' H' t r=>⟨G',t,r⟩⟩;refine wpAny_mono pW (λuy s10 ⟨vy,bS,B6,Zt,QX,DS,ry⟩=>?_) λe s' z=>?_
    .have B6:=B6.unwish
     have DY:QX s.heap.objs.size=none:=by
      cases q:QX s.heap.objs.size with
      |none=>rfl
      |some o=>
       have:=DS.f _ o q Wj;rw[El]at this;cases this
     have Ek:bS s.heap.objs.size=some (.lst vs):=DS.h _ _ El;have VU:=tt.trans DS;have lv:vs.length=zs.length:=o7.length.symm
     have hap:=D3 (X:=zc X nm scope j.heap.objs.size j (upd H s.heap.objs.size<|.lst []) fp) _ s10 dO bS (.ref s.heap.objs.size) [vy] (.ref s.heap.objs.size) [uy] (λ_ H'=>H'=upd bS s.heap.objs.size (.lst<|vs++[vy])) B6 rfl (.cons Zt .nil)
      ⟨s.heap.objs.size,vs,vy,rfl,rfl,Ek,DA (by omega:vs.length<1000001)<|by decide,rfl⟩
     refine wpAny_mono hap (λ_ s11 ⟨_,H11,I11,_,Da⟩=>?_) λ_ _ z=>(by rw[hx]at z;exact z.elim)
     subst Da
     have sG:zd QX (upd bS s.heap.objs.size<|.lst<|vs++[vy]):=λb o e=>by
      rw[upd_ne (λz=>by rw[z,DY]at e;cases e)];exact DS.s b o e
     have t11:zb G H QX (upd bS s.heap.objs.size<|.lst<|vs++[vy]):=⟨VU.g,λb o e=>by rw[upd_ne<|yY e nD];exact VU.h b o e,sG,VU.f⟩
     have CZ:SJ bS OR dO s.heap.objs.size:=(Ye.grow VQ S.h).grow (VQ.step S) DS.h;have Dh:Er X.K QX (upd bS s.heap.objs.size<|.lst<|vs++[vy]) OR dO:=((VQ.step S).step DS).updOther CZ;exact again I11 t11 Dh (CZ.upd<|(VQ.step S).step DS) DY zL ((CA.mono ((t7.trans S).trans DS).g _ _ o7).append<|CA.cons ry CA.nil) (by simp only[rA,iA,YB];omega) e11 (by rw[oY,<- O];cases TK<;>simp[P5])
    .exact bad e s' z
  .have e:i=ds.length:=by omega
   subst e;rw[CJ]at O;cases O;simp only[P5,kB]at oY;refine wpAny_mono (T.done (zc X nm scope j.heap.objs.size j (upd H s.heap.objs.size<|.lst []) fp) rfl rfl rfl hc _ [] s5 LQ H5 (notedBy (model X.prog X.w) X.A _ λe s'=>RR (.ref s.heap.objs.size) j.heap.objs.size (.error e) s') I5 (XM U6) NL<|iM.stop _ H5 (t5.g.trans t5.s)<|wA _) (λr s6 zz=>?_) λ_ _ z=>z
   obtain⟨Fw,I6⟩:=zz;subst Fw;have NT:Inv X pins σ H5 s6:=gJ.call' (ch:=fp) I6.os I6.base I6.hok I6.bare λb hb=>⟨(uO b hb).2.2.2.1,(uO b hb).2.1,(uO b hb).2.2.2.2.1,(uO b hb).2.2.2.2.2⟩
   obtain⟨m6,hn6,_⟩:=I6.loc;exact Ep zs oY s.heap.objs.size j.heap.objs.size s6 H5 G5 vs m6 NT t5 nD Wi X6 o7 hn6 I6.free (lH gJ.lt) gJ.sz (λx c e=>VA (by obtain⟨v,q⟩:=gJ.cell x c e;exact q.lt)) λp hp=>VA<|EA (gJ.pin p hp).1
 exact codeAny_compStart_list loop<|T.self _ 0 RJ _ _ Y0 loop
theorem Mm{p:kF}{f:dC}{s:Shared}{ds ys:List D}{Y:Nat->Heap->Prop}{E:KD}{RR:Value->Addr->kQ->Shared->Prop}(hc:X.calm=true)(hk:scope.kind=.function)(hok:lM X.N nm scope.names X.env.scope.names=true)(pL:XN X.N.length gd)(hg:∀C j S ex,SG (zc X nm scope C j S ex) tg gd)(ht:∀C j S ex,UT (zc X nm scope C j S ex) ifs p)(he:∀C j S ex,SE (zc X nm scope C j S ex) elt f)(I:Inv X pins σ H s)(T:mT X.prog X.w X.K tg J fp it Y)(h0:Y 0 s.heap)(uO:∀b∈fp,PH X pins H b)(sm:zd G H)(er:Er X.K G H ρ σ)(iM:VO X.K G J ds)(hl:ds.length<=1000000)(Gg:zQ gd p f ds (ρ++jA nm.length .un)=some ys) (Z:∀(D C:Addr)(s':Shared)(H' G':Hp)(vs:List V)(m':NE),Inv X pins σ H' s'->zb G H G' H'->H D=none->G' D=none->H' D=some (.lst vs)->CA X.K G' ys vs->s'.heap.Ns C m'->H' C=none->C≠X.env.locals ->
   X.s₀.heap.objs.size<=C->(∀x c,X.env.cells.lookup x=some c->c≠C)->(∀p∈X.pn++pins,p.1≠C)->RR (.ref D) C (.ok .next) s') :
  wpAny (model X.prog X.w) X.A (newList []) (λacc j=>wpAny (model X.prog X.w) X.A (newFunctionEnv scope X.env.globals (AJ scope.names X.env.cells) [] X.env.qual none .none<|some X.env) (λU RJ=>
   UF (model X.prog X.w) X.A (.compStart (.ListComp elt [⟨tg,iter,ifs,0⟩] scope pos) 0 (.ref it) acc { U with scope:=relabel scope X.env }) (RR acc U.locals) RJ) E j) E s:=by
 refine zHD (κ:=λ_=>0) (W:=λ_ _ _=>False) (f:=λρ=>(f ρ).map .ok) hc hk hok pL hg ht (λC j S ex EE _=>?_) (λ_ _ _ z=>z.elim) I T h0 uO sm er iM hl (Ow Gg) (λc z=>by cases z) (λO7 z=>by cases z;exact Z) λ_ _ _ _ _ _ _ _ _ _ _ _ _ _ z=>z.elim
 intro pins s σ H Q I h;obtain⟨G,ρ,r,s',er,ef,k⟩:=h;obtain⟨d,e1,rfl⟩:=bA.mp ef;exact wpAny_mono (he C j S ex pins s σ H Q I.unwish ⟨G,ρ,d,s',er,e1,k⟩) (λu s2 ⟨v,H2,I2,q⟩=>⟨v,H2,I2.wish _,q⟩) λ_ _ z=>z.elim
end
def tCF(K:Fg)(κ:Nat->Addr)(W:XK)(g:mB->Option (Except Nat<|List D)):TE:=λσ H Q=>∃G ρ r,zd G H/\Er K G H ρ σ/\g ρ=some r/\match r with
 |.ok ys=>∀a vs G' H',zb G H G' H'->H a=none->G' a=none->H' a=some (.lst vs)->CA K G' ys vs->Q (.ref a) H'
 |.error c=>∀G' H',zb G H G' H'->W (.ref<|κ c) none H'
section
variable {P:Program}{w:World}{K:Fg}{mg:NE}{base:Heap}{N:List Str}{qual:Str}{iG:BF}{fa:Addr}{cd:Value}{A:Around}{outer:List Env}{s₀:Shared}{H₀:Hp}{E:XK}{tg iter elt o:Expr}{scope:BF}{pos pos' pK:Pos}{nm:List Str}{fl:pD}{gd:D->mB->Option mB}{g:mB->Option (Except Nat D)}{κ:Nat->Addr}{C:Addr}{fld:Str}
theorem zQo(hm:nm.length=m)(hk:scope.kind=.function)(hok:lM N nm scope.names iG.names=true)(hi:SI (YD P w K mg base N qual iG fa cd A outer s₀ H₀ E) tg iter fl)(pL:XN N.length gd)(hg:∀C MA rB ex,SG (zc (YD P w K mg base N qual iG fa cd A outer s₀ H₀ E) nm scope C MA rB ex) tg gd)(he:∀(C:Addr)(MA:Shared)(rB:Hp)(ex:List Addr)(EE:KD),WN (jK P w) ((zc (YD P w K mg base N qual iG fa cd A outer s₀ H₀ E) nm scope C MA rB ex).wish EE) E->PE ((zc (YD P w K mg base N qual iG fa cd A outer s₀ H₀ E) nm scope C MA rB ex).wish EE) elt (PU K κ E g))(hs:∀x,jC iter (YD P w K mg base N qual iG fa cd A outer s₀ H₀ E).env x=pure x:=by intro _;rfl):PE (YD P w K mg base N qual iG fa cd A outer s₀ H₀ E) (.ListComp elt [⟨tg,iter,[],0⟩] scope pos) (tCF K κ E<|aX m fl gd g):=by
 intro pins s σ H Q I h;obtain⟨G,ρ,r,sm,er,ef,k⟩:=h;obtain⟨ds,e1,e2⟩:=aA.mp ef;split at e2
 .rename_i hl;subst hm;have oK:lM (YD P w K mg base N qual iG fa cd A outer s₀ H₀ E).N nm scope.names (YD P w K mg base N qual iG fa cd A outer s₀ H₀ E).env.scope.names=true:=hok;have NJ:iI scope (YD P w K mg base N qual iG fa cd A outer s₀ H₀ E).env=pure (AJ scope.names (YD P w K mg base N qual iG fa cd A outer s₀ H₀ E).env.cells):=Y7 λy hy hf=>I.ok.has y.1 ((yQ oK hy).2.2.2 hf)
  rw[oO];refine wpAny_comprehension_free (use:=none) rfl hs NJ hk (λy hy=>(yQ oK hy).2.2.1) (RC (hi pins s σ H _ I ⟨G,ρ,ds,sm,er,e1,λJ G' H' t it=>(⟨G',t,it⟩:∃G',zb G H G' H'/\VO K G' J ds)⟩) λv s1 h1=>RC h1 λlZ s2 h2=>?_);obtain⟨it,fp,tn,J,H2,rfl,I2,T,lI,f2,G2,t2,kZ⟩:=h2;refine zHD (X:=(YD P w K mg base N qual iG fa cd A outer s₀ H₀ E)) (W:=E) (κ:=κ) (RR:=λacc C=>ZR (model P w) (YD P w K mg base N qual iG fa cd A outer s₀ H₀ E).A (YD P w K mg base N qual iG fa cd A outer s₀ H₀ E).xe none (EP (YD P w K mg base N qual iG fa cd A outer s₀ H₀ E) pins σ Q) acc C) rfl hk oK pL hg (λ_ _ _ _=>.inl ⟨rfl,rfl⟩) he (λ_ _ _ _=>rfl) I2 T lI f2 t2.s (er.step t2) kZ hl ((zLW ds).trans e2) (λc hc G' H' t=>?_) (λys hy D C s' H' G' vs m' O t' nD gD hD rD hn kP oQ pQ WQ jS=>?_) λacc C s' H' x j C0 m' O fU nx nT hx hT hE hn kP oQ pQ WQ jS xC TC=>?_
  .subst hc;exact k G' H'<|t2.trans t
  .subst hy;refine⟨m',hn,λh' bR=>⟨.ref D,H',?_,rfl,k D vs G' H' (t2.trans t') (t2.h.free nD) gD hD rD⟩⟩;exact O.turned (t':=s'.toks) (λb o hb e=>bR.extBut b o hb e) kP oQ (.inr pQ) WQ jS
  .obtain⟨a0,f1,f2',f3,f4⟩:=fU;have BY:(YD P w K mg base N qual iG fa cd A outer s₀ H₀ E).A.frames=some ((YD P w K mg base N qual iG fa cd A outer s₀ H₀ E).env::outer):=O.ok.frames;have f3':s'.heap.FunFrames (OB s'.heap (C::x::j::fH (YD P w K mg base N qual iG fa cd A outer s₀ H₀ E).stack)) ((YD P w K mg base N qual iG fa cd A outer s₀ H₀ E).env::outer):=QG f3 λenv he a ha=>dA _ (dA _<|dA _<|ZA.mpr ⟨env,he,ha⟩)
   obtain⟨oe,vs,T2,oT,ts,g1,g2,g3,g4,g5,g6,g7,g8,g9⟩:=f4
   have eT:(OB s'.heap (C::x::j::fH (YD P w K mg base N qual iG fa cd A outer s₀ H₀ E).stack)).get? T2=none:=by
    cases q:(OB s'.heap (C::x::j::fH (YD P w K mg base N qual iG fa cd A outer s₀ H₀ E).stack)).get? T2 with
    |none=>rfl
    |some o=>
     exfalso
     have m2:T2∉x::j::fH (YD P w K mg base N qual iG fa cd A outer s₀ H₀ E).stack:=λz=>by
      rw[bD _<|dA _ z]at q;cases q
     rw[jD _ g7 m2]at g5;cases g5
   have S:MR (OB s'.heap (C::x::j::fH (YD P w K mg base N qual iG fa cd A outer s₀ H₀ E).stack)) ((YD P w K mg base N qual iG fa cd A outer s₀ H₀ E).env::outer) x (.ref C0) a0 .none s'.heap:=
    ⟨λb o e=>PF _ e,bD _ (by simp),f3',oe,vs,T2,oT,ts,g1,g2,g3,g4,eT,g6,g7,g8,g9⟩
   show wpAny (model P w) (YD P w K mg base N qual iG fa cd A outer s₀ H₀ E).A (noteFrame (.ref x) _) _ _ s';rw[show noteFrame (.ref x) (compEnvC scope (AJ scope.names (YD P w K mg base N qual iG fa cd A outer s₀ H₀ E).env.cells) C (YD P w K mg base N qual iG fa cd A outer s₀ H₀ E).env)=noteFrame (.ref x) (YD P w K mg base N qual iG fa cd A outer s₀ H₀ E).env from zGj rfl];refine Br BY (L:=s₀.heap.objs.size) rfl ⟨S.st,S.no,S.ff,S.tr⟩ λh1 U up1=>?_
   refine⟨m',up1.ns hn,λh2 sb ZL hcl=>?_⟩;have Z:∀b o,b≠C->h1.get? b=some o->h2.get? b=some o:=λb o nb e=>sb.extBut b o nb e
   obtain⟨w1,w2,w3,oe1,rK,T1,oT1,ts1,y1,y2,y3,y4,y5,y6,y7,y8,y9⟩:=U;have bC:(OB s'.heap (C::x::j::fH (YD P w K mg base N qual iG fa cd A outer s₀ H₀ E).stack)).get? C=none:=bD _ (by simp)
   have T1C:T1≠C:=λz=>by
    subst z;obtain⟨oc,_,_,q1,q2,_⟩:=up1.ns hn;rw[y7]at q1;cases q1;rw[y8]at q2;cases q2
   have Wg:C∉fH (YD P w K mg base N qual iG fa cd A outer s₀ H₀ E).stack:=λz=>by
    rcases ZA.mp z with⟨env,he,hf⟩
    rcases nA.mp he with rfl|he
    .exact oQ (wB hf).symm
    .obtain⟨_,o,q,_⟩:=O.ok.funs.mem<|ZA.mpr ⟨env,he,hf⟩;exact absurd (DA (EA q) pQ)<|HC _
   have L2':MR (OB s'.heap (C::x::j::fH (YD P w K mg base N qual iG fa cd A outer s₀ H₀ E).stack)) ((YD P w K mg base N qual iG fa cd A outer s₀ H₀ E).env::outer) x (.ref C0) a0 (rawInt s₀.heap.objs.size) h2:=
    ⟨λb o e=>Z b o (λz=>by subst z;rw[bC]at e;cases e)<|w1 b o e,S.no,wg (λb o m e=>Z b o (λz=>Wg<|z ▸ m) e) w3,oe1,rK,T1,oT1,ts1,Z x _ xC y1,y2,y3,y4,y5,y6,Z T1 _ T1C y7,y8,y9⟩
   refine zQn (s:={ s' with heap:=h2 }) L2' λh3 fl3 L3 rZ=>?_
   show wpAny (model P w) (YD P w K mg base N qual iG fa cd A outer s₀ H₀ E).A (leaving (YD P w K mg base N qual iG fa cd A outer s₀ H₀ E).env<|.ref x) _ _ _;refine zOS (s:={ s' with heap:=h3 }) BY (L:=s₀.heap.objs.size) rfl L3 λh4 Ef J7=>?_
   refine zN6 (s:=s') O (λb m=>?_) Ef (λb m o e n=>?_) nx hx hE
   .rcases nA.mp m with rfl|m
    .exact .inr ⟨by
      cases q:s₀.heap.get? b with
      |none=>rfl
      |some o=>exact absurd (DA (EA q) pQ)<|HC _,kP⟩
    rcases nA.mp m with rfl|m
    .exact .inr ⟨nx,hx⟩
    rcases nA.mp m with rfl|m
    .exact .inr ⟨nT,hT⟩
    .exact .inl m
   .obtain⟨sl1,HH⟩:=up1 b o e n;have bC':b≠C:=λz=>Wg (by subst z;exact ZA.mpr (by obtain⟨env,he,hf⟩:=ZA.mp m;exact⟨env,dA _ he,hf⟩))
    have SN:=Z b _ bC' HH;have kY:=rZ b _ SN n;obtain⟨sl4,e4'⟩:=J7 b _ kY n;exact⟨sl4,e4'⟩
 .cases e2
theorem zQp(i:Nat)(c:fJ K C)(n:qT K C fld)(ho:PE (YD P w K mg base N qual iG fa cd A outer s₀ H₀ E) o (RF i))(hm:nm.length=m)(hk:scope.kind=.function)(hok:lM N nm scope.names iG.names=true)(hi:SI (YD P w K mg base N qual iG fa cd A outer s₀ H₀ E) tg iter fl)(pL:XN N.length gd)(hg:∀C j J ex,SG (zc (YD P w K mg base N qual iG fa cd A outer s₀ H₀ E) nm scope C j J ex) tg gd)(he:∀(C:Addr)(j:Shared)(J:Hp)(ex:List Addr)(S:KD),WN (jK P w) ((zc (YD P w K mg base N qual iG fa cd A outer s₀ H₀ E) nm scope C j J ex).wish S) E->PE ((zc (YD P w K mg base N qual iG fa cd A outer s₀ H₀ E) nm scope C j J ex).wish S) elt (PU K κ E g))(hs:∀x,jC iter (YD P w K mg base N qual iG fa cd A outer s₀ H₀ E).env x=pure x:=by intro _;rfl)(VI:gF (.ListComp elt [⟨tg,iter,[],0⟩] scope pos) (some<|.Attribute o fld pos') pK.line (YD P w K mg base N qual iG fa cd A outer s₀ H₀ E).env=pure false:=by rfl):
  SX (YD P w K mg base N qual iG fa cd A outer s₀ H₀ E) κ E (.Assign [.Attribute o fld pos'] (.ListComp elt [⟨tg,iter,[],0⟩] scope pos) pK) (W4 C i fld<|aX m fl gd g):=
 yN (Qx ho (zQo hm hk hok hi pL hg he hs) VI) λE' σ H=>by
  rintro⟨G0,H0,G,ρ,out,st,I,Y⟩;obtain⟨r,e1,I⟩:=aA.mp I;refine⟨G,ρ,r,st.bs.gh,st.er,e1,?_⟩
  cases r with
  |error c0=>
   cases I
   exactλG' H' t=>Y G' H'<|st.bs.step t
  |ok ys=>
   obtain⟨o',O,rfl⟩:=bA.mp I;obtain⟨c',fs,hu,hl,U,rfl⟩:=Ov O;intro b vs G' H' t h1 h2 h3 rp;have t':=Rf t h1 h2 h3;have rep:Rep K (upd G' b<|.lst vs) (.lst ys) (.ref b):=CO.mpr ⟨b,vs,rfl,GF.of zL,CA.mono (yh h2) _ _ rp⟩;have CC:=st.step t';obtain⟨a,Z,q2,q3⟩:=CC.er.slot i _ hu rfl;obtain⟨dx,ws,z1,z2,z3,z4,z5⟩:=q2.1.1;exact⟨_,Z,a,C,dx,ws,rfl,z1,c,n,by omega,Y σ _ _<|CC.addL (fl:=.v<|.lst ys) (u:=.ref b) hu Z z1 hl rep (by simp[SH]) λp m=>by cases m⟩
end
structure Left(G H G' H':Hp)(l:List Addr):Prop where
 g:zd G G'
 gh:zd G' H'
 fr:∀b o,G' b=some o->G b=none->H b=none\/b∈l
 h:∀b o,H b=some o->b∉l->H' b=some o
def Q5(K:Fg)(κ:Nat->Addr)(f:Ob->List D->Option (Except Nat Ob))(n:Nat):Sp:=λvs H Q E=>∃G x a ds ws r,vs=.ref a::ws/\zd G H/\At K G H x a/\CA K G ds ws/\ds.length+1=n/\f x ds=some r/\match r with
 |.ok x'=>∀G' H',OX K G H G' H' x x' a->Q .non H'
 |.error c=>∀G' H',Left G H G' H' (OE H x a)->E (.ref<|κ c) none H'
theorem zTe{P:Program}{w:World}{K:Fg}{mg:NE}{base:Heap}{κ:Nat->Addr}{x qual:Str}{st:Stmt}{fa:Addr}{fd:FuncData}{N ps:List Str}{k:Nat}{F:mB->Option YF}{f:Ob->List D->Option (Except Nat Ob)}
  (FF:rM K x qual st fa fd) (S:zT N ps (zI st))
  (WD:∀(J:Value)(A:Around)(outer:List Env)(s:Shared)(H:Hp)(E:XK),IF k (A.deeper<|envOfC qual (zI st) s.heap.objs.size fa J)->fP (YD P w K mg base N qual (zI st) fa J A outer s H E) κ E (yC st) F)
  (hf:∀a y ds r,ds.length+1=ps.length->f y ds=some r->zV8 N F a y ds=some r):bI P w K mg base (jK P w) (k+1) fa fd ps (Q5 K κ f ps.length):=by
 obtain⟨oc,od,kV,doc,pm,an,J,ct,vP,rfl,lk,cM⟩:=FF.ex;refine Ai lk cM S (λvs H Q E h=>?_) λA outer s H vs Q E hr h=>?_
 .obtain⟨G,y,a,ds,ws,y',rfl,_,_,r,U,_⟩:=h;rw[iA,<- r.length,U]
 .obtain⟨G,y,a,ds,ws,res,rfl,sm,O,r,U,ef,Y⟩:=h;refine⟨_,WD J A outer s H E hr,?_⟩;obtain⟨o,e1,j⟩:=aA.mp<|hf a y ds res U ef;have UQ:Er K G H (.o (some a) y::ds.map Sl.v) ((V.ref a::ws).map some):=v4 rfl ⟨⟨O.rep,O.nd⟩,λc' e=>by cases e;rfl⟩ O.fr r;have er:=UQ.app (N.length-(ds.length+1)) (jA (N.length-(ds.length+1)) none) (by simp);have es:L2.wL N (.ref a::ws)=(V.ref a::ws).map some++jA (N.length-(ds.length+1)) none:=by rw[JW,iA,<- r.length]
  have YJ:((V.ref a::ws).map some++jA (N.length-(ds.length+1)) none)[0]?=some (some<|.ref a):=by simp
  have no:=λb=>Kx (H:=H) (x:=y) (ds:=ds) (m:=N.length-(ds.length+1)) (b:=b) YJ
  rw[es];refine⟨G,qZ H _ _,G,_,o,er.toSt sm,e1,?_⟩
  cases o with
  |ex c=>
   cases j;intro G' H' b;refine Y G' H' ⟨b.gg,b.gh,λd o e n=>?_,λd o e n=>b.hh d o (by rw[(no d).2 n];exact e)⟩;have z:=b.fr d o e n;by_cases hb:d∈OE H y a
   .exact .inr hb
   .rw[(no d).2 hb]at z;exact .inl z
  |o out=>
   cases out with
   |nx ρ=>
    obtain⟨y',e3,rfl⟩:=bA.mp j;clear j;unfold YN at e3;split at e3
    .rename_i c y1 Z;split at e3
     .rename_i hc;cases e3;subst hc;intro EC G' H' CC;obtain⟨I,g1,g2,g3⟩:=CC.er.slot 0 _ Z rfl;have:I=a:=g2.2 a rfl;subst this;refine Y G' H' ⟨CC.bs.gg,CC.bs.gh,λb o e n=>?_,λb o e n=>CC.bs.hh b o (by rw[(no b).2 n];exact e),⟨g2.1.1,g2.1.2,g3⟩,λc m=>?_⟩
      .have z:=CC.bs.fr b o e n;by_cases hb:b∈OE H y I
       .exact .inr hb
       .rw[(no b).2 hb]at z;exact .inl z
      .have z:=CC.ows 0 _ I Z rfl g1 c m;by_cases hb:c∈OE H y I
       .exact .inl hb
       .rw[(no c).2 hb]at z;exact .inr z
     .cases e3
    .cases e3
   |rt d=>cases j
   |bk ρ=>cases j
   |ct ρ=>cases j
   |ro ρ=>cases j
   |rm d ρ=>cases j
section
variable {X:Cx}{tg iter elt:Expr}{ifs:List Expr}{scope:BF}{pos:Pos}{nm:List Str}{fl:pD}{gd:D->mB->Option mB}{p:kF}{f:dC}
theorem GO(hm:nm.length=m)(hc:X.calm=true)(hk:scope.kind=.function)(hok:lM X.N nm scope.names X.env.scope.names=true)(hi:SI X tg iter fl)(pL:XN X.N.length gd)(hg:∀C j z ex,SG (zc X nm scope C j z ex) tg gd)(ht:∀C j z ex,UT (zc X nm scope C j z ex) ifs p)(he:∀C j z ex,SE (zc X nm scope C j z ex) elt f)(hs:∀x,jC iter X.env x=pure x:=by intro _;rfl):SF X (.ListComp elt [⟨tg,iter,ifs,0⟩] scope pos) (zM m fl gd p f):=by
 intro pins s σ H Q I h;obtain⟨G,ρ,ys,sm,er,ef,k⟩:=h;obtain⟨ds,e1,O⟩:=aA.mp ef;split at O
 .rename_i hl;subst hm;have U:iI scope X.env=pure (AJ scope.names X.env.cells):=Y7 λy hy hf=>I.ok.has y.1 ((yQ hok hy).2.2.2 hf)
  rw[oO];refine wpAny_comprehension_free (use:=none) rfl hs U hk (λy hy=>(yQ hok hy).2.2.1) (RC (hi pins s σ H _ I ⟨G,ρ,ds,sm,er,e1,λJ G' H' t it=>(⟨G',t,it⟩:∃G',zb G H G' H'/\VO X.K G' J ds)⟩) λv s1 h1=>RC h1 λlZ s2 h2=>?_);obtain⟨it,fp,tn,J,H2,rfl,I2,T,lI,f2,G2,t2,kZ⟩:=h2;refine Mm (RR:=λacc C=>ZR (model X.prog X.w) X.A X.xe none (EP X pins σ Q) acc C) hc hk hok pL hg ht he I2 T lI f2 t2.s (er.step t2) kZ hl O λD C s' H' G' vs m' S t' nD gD hD rD hn kP oQ pQ Z jS=>?_
  refine⟨m',hn,λh' bR=>⟨.ref D,H',?_,rfl,k D vs G' H' (t2.trans t') (t2.h.free nD) gD hD rD⟩⟩;exact S.turned (t':=s'.toks) (λb o hb e=>bR.extBut b o hb e) kP oQ (.inr pQ) Z jS
 .cases O
theorem zLX{py pK:Pos}{fo:mB->List D->Out}(hm:nm.length=m)(hc:X.calm=true)(hk:scope.kind=.function)(hok:lM X.N nm scope.names X.env.scope.names=true)(hi:SI X tg iter fl)(pL:XN X.N.length gd)(hg:∀C j O ex,SG (zc X nm scope C j O ex) tg gd)(ht:∀C j O ex,UT (zc X nm scope C j O ex) ifs p)(he:∀C j O ex,SE (zc X nm scope C j O ex) elt f)(hN:X.N.Nodup)(hx:X.N[i]?=some x)(oP:Loc X.env.scope x)(VI:gF (.ListComp elt [⟨tg,iter,ifs,0⟩] scope pos) (some<|.Name x py) pK.line X.env=pure true)(hf:JL X x)(hs:∀x,jC iter X.env x=pure x)(hfo:∀{G0 H0 G H G' H':Hp}{ρ:mB}{σ:L2.St}{a:Addr}{vs:List V}{ys:List D}{E:IQ},UD X.K G0 H0 G H ρ σ->zb G H G' H'->H a=none->G' a=none->H' a=some (.lst vs)->CA X.K G' ys vs->mX X.K G0 H0 E (fo ρ ys)->E.nx (σ.set i<|some<|.ref a) H'):
  SS X (.Assign [.Name x py] (.ListComp elt [⟨tg,iter,ifs,0⟩] scope pos) pK) (λρ=>(zM m fl gd p f ρ).map<|fo ρ):=by
 intro pins s σ H E I h;obtain⟨G0,H0,G,ρ,o,st,ef,k⟩:=h;obtain⟨ys,bM,rfl⟩:=bA.mp ef;obtain⟨ds,e1,Z⟩:=aA.mp bM;split at Z
 .rename_i hl;subst hm;have NJ:iI scope X.env=pure (AJ scope.names X.env.cells):=Y7 λy hy hf=>I.ok.has y.1 ((yQ hok hy).2.2.2 hf)
  rw[exec_Assign_Name_used _ _ _ _ VI];refine wpAny_bind<|wpAny_standAt<|wpAny_bind ?_;show wpAny _ X.A (do let _ <- comprehension (.ListComp elt [⟨tg,iter,ifs,0⟩] scope pos) scope X.env _ (newList []) false (eval iter X.env) (some<|assign (.Name x py) X.env)) _ _ s
  refine wpAny_bind (wpAny_mono (wpAny_comprehension_free (use:=some<|assign (.Name x py) X.env) (Q:=λ_ s'=>SP X pins E .next s') rfl hs NJ hk (λy hy=>(yQ hok hy).2.2.1)
   (RC (hi pins s σ H _ I ⟨G,ρ,ds,st.bs.gh,st.er,e1,λJ G' H' t it=>(⟨G',t,it⟩:∃G',zb G H G' H'/\VO X.K G' J ds)⟩) λv s1 h1=>RC h1 λlZ s2 h2=>?_)) (λ_ s' hq=>wpAny_pure<|wpAny_pure hq) λ_ _ e=>e)
  obtain⟨it,fp,tn,J,H2,rfl,I2,T,lI,f2,G2,t2,kZ⟩:=h2;refine Mm (RR:=λacc C=>ZR (model X.prog X.w) X.A X.xe (some<|assign (.Name x py) X.env) (λ_ s'=>SP X pins E .next s') acc C) hc hk hok pL hg ht he I2 T lI f2 t2.s (st.er.step t2) kZ hl Z λD C s' H' G' vs m' I' t' nD gD hD rD hn kP oQ pQ WQ jS=>?_
  show wpAny _ _ (assign (.Name x py) X.env<|.ref D) _ _ _;refine wpAny_assign_Name (zIX (v:=.ref D) I' hN hx oP rfl (λlR U S=>?_) hf);obtain⟨a,S,ha⟩:=S
  have hCa:C≠a:=by
   rcases ha with z|z
   .rw[z];exact oQ
   .exact(WQ x a z).symm
  refine⟨m',hn.sameBut S hCa,λh' bR=>⟨_,H',U.turned (t':=lR.toks) (λb o hb e=>bR.extBut b o hb e) kP oQ (.inr pQ) WQ jS,?_⟩⟩;exact hfo st (t2.trans t') (t2.h.free nD) gD hD rD k
 .cases Z
variable {m:Nat}{x:Str}{py pK:Pos}
theorem r8(i:Nat)(hm:nm.length=m)(hc:X.calm=true)(hk:scope.kind=.function)(hok:lM X.N nm scope.names X.env.scope.names=true)(hi:SI X tg iter fl)(Y:XN X.N.length gd)
  (S:∀C j z ex,SG (zc X nm scope C j z ex) tg gd) (ht:∀C j z ex,UT (zc X nm scope C j z ex) ifs p) (he:∀C j z ex,SE (zc X nm scope C j z ex) elt f)
  (O:X.N.Nodup) (hx:X.N[i]?=some x) (U:Loc X.env.scope x)
  (J:gF (.ListComp elt [⟨tg,iter,ifs,0⟩] scope pos) (some<|.Name x py) pK.line X.env=pure true:=by rfl)
  (hf:JL X x:=by first|exact .inl rfl|exact .inr rfl|assumption) (hs:∀x,jC iter X.env x=pure x:=by intro _;rfl) :
  SS X (.Assign [.Name x py] (.ListComp elt [⟨tg,iter,ifs,0⟩] scope pos) pK) (qC i λρ=>(zM m fl gd p f ρ).map .lst):=by
 have:=zLX (fo:=λρ ys=>.nx<|ρ.set i<|.v<|.lst ys) hm hc hk hok hi Y S ht he O hx U J hf hs (λ{G0 H0 G H G' H' ρ σ a vs ys E} st t h1 h2 h3 r k=>k _ _ _<|(st.step<|Rf t h1 h2 h3).setV<|CO.mpr ⟨a,vs,rfl,GF.of zL,CA.mono (yh h2) _ _ r⟩);refine yN this λQ σ H ⟨G0,H0,G,ρ,o,st,I,k⟩=>⟨G0,H0,G,ρ,o,st,?_,k⟩
 unfold qC at I;rw[Option.map_map]at I;exact I
theorem zKO(i:Nat)(hm:nm.length=m)(hc:X.calm=true)(hk:scope.kind=.function)(hok:lM X.N nm scope.names X.env.scope.names=true)(hi:SI X tg iter fl)(Y:XN X.N.length gd)
  (S:∀C j I ex,SG (zc X nm scope C j I ex) tg gd) (ht:∀C j I ex,UT (zc X nm scope C j I ex) ifs p) (he:∀C j I ex,SE (zc X nm scope C j I ex) elt f)
  (O:X.N.Nodup) (hx:X.N[i]?=some x) (U:Loc X.env.scope x)
  (J:gF (.ListComp elt [⟨tg,iter,ifs,0⟩] scope pos) (some<|.Name x py) pK.line X.env=pure true:=by rfl)
  (hf:JL X x:=by first|exact .inl rfl|exact .inr rfl|assumption) (hs:∀x,jC iter X.env x=pure x:=by intro _;rfl) :
  SS X (.Assign [.Name x py] (.ListComp elt [⟨tg,iter,ifs,0⟩] scope pos) pK) (iJ i<|zM m fl gd p f):=
 zLX (fo:=λρ ys=>.nx<|ρ.set i<|.l ys) hm hc hk hok hi Y S ht he O hx U J hf hs (λ{G0 H0 G H G' H' ρ σ a vs ys E} st t h1 h2 h3 r k=>k _ _ _<|st.setOwn t rfl h1 h2 (λxs z=>by cases z;exact⟨vs,h3,r⟩) λ_ z=>by cases z)
end
section
variable {X:Cx}{κ:Nat->Addr}{C fi:Addr}{fd:FuncData}{ps:List Str}{e:Expr}{es:List Expr}{fl:pD}{pos p uB cU np rP:Pos}{x xc y:Str}{k n:Nat}{F:Ob->List D->Option (Except Nat Ob)}{RN:Stmt}{UK:List Stmt}{Fh:VB}
theorem zTf(M:Mk X.K C fi)(FO:bI X.prog X.w X.K X.mg X.base (jK X.prog X.w) k fi fd ps (Q5 X.K κ F n))(hb:WK X.K fd ps [])(hr:IF (k+1) X.A)(hg:Gl X x)(hm:X.mg x=some (.ref C))(hn:(e::es).length+1=n)(ha:SA X.nox (e::es) fl)(U:X.ex=[])(I:Inv X pins σ H s){Q Xe:KD}(sm:zd G H)(er:Er X.K G H ρ σ)(e1:fl ρ=some ds)(e2:F (.ins C []) ds=some r)(hok:∀O,r=.ok O->∀a G' H' s',zb G H G' H'->At X.K G' H' O a->(∀c∈OE H' O a,H c=none)->Inv X pins σ H' s'->Q (.ref a) s')(Ex:∀c,r=.error c->∀G' H' s' y T,zb G H G' H'->Inv X pins σ H' s'->PX X.stack y T (.ref<|κ c) s'.heap->wV X pins H' y->wV X pins H' T->Xe (.ref y) s')(YH:LL x:=by decide)(he:BG X e es:=by rfl)(QE:EH X pos es:=by rfl):
  wpAny (model X.prog X.w) X.A (eval (.Call (.Name x p) (e::es) [] pos) X.env) Q Xe s:=by
 refine wpAny_Call_Name_kw<|B9 I hg hm ?_ YH;have hA:=ha.pa pos pins s σ H (λvs H1=>∃j,zb G H j H1/\CA X.K j ds vs) (I.wish _) ⟨G,ρ,ds,sm,er,e1,λvs j H1 t1 r1=>⟨j,t1,r1⟩⟩;refine fI (h₀:=X.base) I.ok.mod.kin M.kp (wpAny_mono hA (λus s1 ⟨vs,H1,I1,rv,j,t1,r1⟩=>⟨I1.unwish.kIn,?_⟩) λ_ _ z=>False.elim z) he QE;have I1:=I1.unwish;have Y6:H1 (s1.heap.objs.size+1)=none:=I1.hok.fresh<|GD _;have c7:H1 s1.heap.objs.size=none:=I1.hok.fresh<|wA _;have sW:s1.heap.objs.size≠s1.heap.objs.size+1:=VA<|WG _;have I2:=Inv.made (C:=C) I1;generalize hav:s1.heap.objs.size+1=a at Y6 sW I2;generalize hdv:s1.heap.objs.size=dx at c7 sW I2;have g1:j a=none:=t1.s.free Y6;have g2:j dx=none:=t1.s.free c7
 have hH:∀b u,H1 b=some u->upd (upd H1 dx<|.own a) a (.ins C dx []) b=some u:=λb u e=>by
  rw[upd_ne<|yY e Y6,upd_ne<|yY e c7];exact e
 have ea:upd (upd H1 dx<|.own a) a (.ins C dx []) a=some (.ins C dx []):=zL;have ed:upd (upd H1 dx<|.own a) a (.ins C dx []) dx=some (.own a):=by rw[upd_ne sW,zL]
 have fe:OE (upd (upd H1 dx<|.own a) a<|.ins C dx []) (.ins C []) a=[a,dx]:=by simp only[OE];rw[ea];rfl
 have AA:At X.K j (upd (upd H1 dx<|.own a) a<|.ins C dx []) (.ins C []) a:=⟨⟨dx,[],ea,ed,(λq m=>by cases m),(λ_ _=>rfl),wA _⟩,by rw[fe];simp[Ne.symm sW],λp m=>by
  rw[fe]at m;rcases nA.mp m with z|m
  .subst z;exact g1
  .cases gA.mp m;exact g2⟩
 have low:∀b,b∈OE (upd (upd H1 dx<|.own a) a<|.ins C dx []) (.ins C []) a->H1 b=none:=λb m=>by
  rw[fe]at m;rcases nA.mp m with z|m
  .subst z;exact Y6
  .cases gA.mp m;exact c7
 have FU:∀b,upd (upd H1 dx<|.own a) a (.ins C dx []) b=none->H1 b=none:=λb h=>by
  cases q:H1 b with
  |none=>rfl
  |some u=>rw[hH b u q]at h;cases h
 have up:∀b,H1 b=none->H b=none:=λb h=>by
  cases q:H b with
  |none=>rfl
  |some u=>rw[t1.h b u q]at h;cases h
 have hq:Q5 X.K κ F n (V.ref a::vs) (upd (upd H1 dx<|.own a) a<|.ins C dx []) (λv H2=>v=.non/\∃O G',r=.ok O/\OX X.K j (upd (upd H1 dx<|.own a) a<|.ins C dx []) G' H2 (.ins C []) O a)
   (λu _ H2=>∃c G',r=.error c/\u=.ref (κ c)/\Left j (upd (upd H1 dx<|.own a) a<|.ins C dx []) G' H2 (OE (upd (upd H1 dx<|.own a) a<|.ins C dx []) (.ins C []) a)):=by
  refine⟨j,.ins C [],a,ds,vs,r,rfl,λb u e=>hH b u<|t1.s b u e,AA,r1,by rw[ha.len _ _ e1];exact hn,e2,?_⟩
  cases r with
  |ok O=>exactλG' H' ch=>⟨rfl,O,G',rfl,ch⟩
  |error c=>exactλG' H' S=>⟨c,G',rfl,rfl,S⟩
 have r2:yO (V.ref a::vs) (pB a::us):=.cons rfl rv
 have hl:(pB a::us++[]).length=ps.length:=by
  have e:=r2.length;rw[FO.len _ _ _ _ hq]at e;rw[kB];exact e.symm
 subst hav;subst hdv;have bt:=hb _ (pB (s1.heap.objs.size+1)::us) I2.kIn (by simpa using hl);rw[kB]at bt
 refine wpAny_call (zP6 (f:=fi) I1.kIn M.makes M.init (beq_iff_eq.mp M.fn)<|codeAny_mono (FO.run _ X.stack _ _ ⟨pB (s1.heap.objs.size+1)::us,[]⟩ (pB (s1.heap.objs.size+1)::us) _ _ _ (hr.make C us [])
  (I2.env0.make C us []) bt r2 hq) λrr s' Z=>?_)
 cases rr with
 |error u=>
  obtain⟨y,T,C0,H',rfl,os,bare,un,oK,fU,ny,nT,hy,hT,c,G',rfl,eC,S⟩:=Z;cases eC;have J:Inv X pins σ H' s':=I2.call' os un oK bare λb m=>absurd m (by simp)
  have t2:zb j H1 G' H':=⟨S.g,λb u e=>S.h b u (hH b u e) (λm=>by rw[low b m]at e;cases e),S.gh,λb u e n=>(S.fr b u e n).elim (FU b)<|low b⟩
  exact Ex c rfl G' H' s' y T (t1.trans t2) J fU (zVz I2 U ny hy)<|zVz I2 U nT hT
 |ok fw=>
  cases fw with
  |ret u=>
   obtain⟨v,H',I3,rv',ev,O,G',rfl,ch⟩:=I2.after Z;subst ev;have t2:zb j H1 G' H':=⟨ch.g,λb u e=>ch.h b u (hH b u e) (λm=>by rw[low b m]at e;cases e),ch.gh,λb u e n=>(ch.fr b u e n).elim (FU b)<|low b⟩
   exact⟨rv',hok O rfl _ G' H' s' (t1.trans t2) ch.at_ (λc m=>up c<|(ch.new c m).elim (low c)<|FU c) I3⟩
  |next=>exact False.elim Z
  |brk=>exact False.elim Z
  |cont=>exact False.elim Z
theorem zQq(i:Nat)(S:Nat)(M:Mk X.K C fi)(FO:bI X.prog X.w X.K X.mg X.base (jK X.prog X.w) k fi fd ps (Q5 X.K κ F n))(hb:WK X.K fd ps [])(hr:IF (k+1) X.A)(hg:Gl X x)(hm:X.mg x=some (.ref C))(hn:(e::es).length+1=n)(ha:SA X.nox (e::es) fl)(Y:X.ex=[])(hC:IV X.K (κ S))(hgc:Gl X xc)(hmc:X.mg xc=some (.ref<|κ S))(XJ:X.stack=X.env::X.outer)(UY:X.env.frame=some X.env.locals)(hh:∀y,XI (MY X y).nox (RN::UK) Fh)(hN:X.N.Nodup)(hi:X.N[i]?=some y)(hy:Loc X.env.scope y)(hs:ZI X (.Call (.Name x p) (e::es) [] uB) (some<|.Name y pos') cU:=by rfl)(hf:JL X y:=by first|exact .inl rfl|exact .inr rfl|assumption)(YH:LL x:=by decide)(U:LL xc:=by decide)(he:BG X e es:=by rfl)(QE:EH X uB es:=by rfl):
  SS X (.Try [.Assign [.Name y pos'] (.Call (.Name x p) (e::es) [] uB) cU] [.ExceptHandler (some<|.Name xc np) none (RN::UK) rP] [] [] pos) (ZW C i fl F S Fh):=by
 intro pins s σ H D I h;obtain⟨G0,H0,G,ρ,o,st,ef,k⟩:=h;obtain⟨ds,e1,bM⟩:=aA.mp ef;obtain⟨r,e2,j⟩:=aA.mp bM;refine wpAny_Try_except (wpAny_execs_cons<|wpAny_Assign_Name (zTf M FO hb hr hg hm hn ha Y I st.bs.gh st.er e1 e2 (λx' hx a G' H' s' t O nw J=>?_) (λc hc G' H' s' y T t J fU ny nT=>?_) YH he QE) hs)
 .subst hx;cases j;exact Oe J hN hi hy (v:=.ref a) rfl (λs2 I2=>wpAny_execs_nil<|wpAny_execs_nil ⟨_,H',I2,k _ G' H'<|st.setNew t (w:=.o none x') rfl ⟨⟨O.rep,O.nd⟩,λ_ z=>by cases z⟩ λc m=>⟨nw c m,O.fr c m⟩⟩) hf
 .subst hc;simp only at j;split at j
  .rename_i Z6;subst Z6;exact zV0 hC hgc hmc XJ UY J fU ny nT (hh y) ⟨G0,H0,G',ρ,o,st.step t,j,k⟩ U
  .cases j
end
section
variable {prog:Program}{w:World}{A:Around}{E:KD}{s:Shared}{v it d:Addr}{od:Obj}{es:Array DictEntry}{ep i:Nat}
theorem zMc(d:Addr)(hd:(d==sysModules)=false):MeetsIn prog w (Builtin.«dict.values» ⟨[.ref d],[]⟩) (λ_ R s=>s.TypeIs (.ref d) "dict"/\R (.ok<|.ret<|.ref s.heap.objs.size) { s with heap:=s.heap.push { cls:=.type "dict_values",data:=.fields #[.ref d] } }):=by
 refine .of_wp λA R s hh=>wpAny_bind ?_
 obtain⟨j,k⟩:=hh;unfold Bi;refine wpAny_bind<|wpAny_notOrdered_dict j ?_;refine wpAny_pure<|wpAny_bind ?_;unfold Bk;simp only[hd,RA,if_false];exact wpAny_pure<|wpAny_bind<|wpAny_newObj_type<|wpAny_pure ⟨_,rfl,k⟩
theorem zOT{Q:KD}(hv:s.heap.IsValuesView v d)(z:s.heap.get? d=some od)(hd:od.data=.dict es ep)
  (hQ:Q (.ref s.heap.objs.size) { s with heap:=s.heap.push { cls:=.type "dict_valueiterator",data:=.fields #[.ref d,.int 0 0,.int es.size 0,.int ep 0] } }):wpAny (model prog w) A (pyIter<|.ref v) Q E s:=by
 have j:=hv.typeIs;obtain⟨I,h1,_,h3⟩:=hv;refine wpAny_pyIter_slot j LN<|wpAny_call_entry LN j F.entry_dict_values_iter ?_<|F.args_dict_values_iter_1 _;unfold Builtin.«dict_values.__iter__» MQ NQ;have no:BC "dict_valueiterator" = false:=by decide
 refine wpAny_bind<|wpAny_pure<|wpAny_bind<|wpAny_bind<|wpAny_field h1 h3 (x:=.ref d) rfl<|wpAny_pure<|wpAny_bind<|wpAny_bind<|wpAny_dictEntries z hd<|wpAny_bind<|wpAny_dictEpoch z hd ?_;simp only[no,RA,if_false];exact wpAny_newObj_type<|wpAny_pure ⟨_,rfl,"dict_valueiterator",_,⟨_,KA _ rfl,rfl⟩,F.slot_dict_valueiterator_next.lookup,hQ⟩
theorem zOU{Q:Option Value->Shared->Prop}(z:s.heap.IsValIter it d i es.size ep)(I:s.heap.get? d=some od)(hd:od.data=.dict es ep){e:DictEntry}(hx:es[i]?=some e)
  (hQ:∀h',h'.IsValIter it d (i+1) es.size ep->RE it s.heap h'->Q (some e.val) { s with heap:=h' }):wpAny (model prog w) A (pyNext<|.ref it) Q E s:=by
 have j:=z.typeIs;obtain⟨S,g1,g2,g3⟩:=z;have no:BC "dict_valueiterator" = false:=by decide
 have base:∀{s':Shared}{R:Nat->Shared->Prop},s'.TypeIs (.ref it) "dict_valueiterator"->R 0 s'->∀{J:Around}{O:KD},wpAny (model prog w) J (do return if BC (<- typeNameOfWhole (.ref it)) then 2 else 0) R O s':=λt r=>wpAny_bind (wpAny_typeNameOfWhole_valiter t (by rw[no];exact wpAny_pure r))
 have new:(s.heap.update it (DE (·.setIfInBounds 1 (rawInt<|(i:Int)+1)))).IsValIter it d (i+1) es.size ep:=
  ⟨_,iF _ g1<|PN<|jG g3 _,(Obj.cls_mapFields ..).trans g2,by rw[jG g3];simp[rawInt]⟩
 unfold pyNext;refine wpAny_bind<|wpAny_attempt<|wpAny_callSpecial?_slot (name:=fA "__next__") j xD<|wpAny_call_entry xD j fK ?_<|TJ _;refine wpAny_bind<|wpAny_pure<|wpAny_bind<|wpAny_bind<|base j<|wpAny_bind<|wpAny_fieldsOf g1 g3 ?_;show wpAny _ _ (if (pB d==AD)=true then _ else _) _ _ s;have nn:¬ ((pB d==AD)=true):=YA;rw[if_neg nn];refine wpAny_bind<|wpAny_pure<|wpAny_bind<|wpAny_dictEntries I hd ?_;rw[if_neg<|by simp];refine wpAny_bind<|wpAny_pure<|wpAny_bind<|wpAny_dictEpoch I hd ?_;rw[if_neg<|by simp];refine wpAny_pure ?_;have hi:¬ ((i:Int)<0):=by omega
 simp only[hi,if_false,JC,hx];refine wpAny_bind<|base j<|wpAny_bind<|wpAny_isOneOf_valiter j ?_;show wpAny _ _ (setField (.ref it) 1 (rawInt<|(i:Int)+1) >>= _) _ _ s;refine wpAny_bind (wpAny_setField g1 g3 (by simp)<|wpAny_bind<|wpAny_holding ?_);have nT:({ s with heap:=s.heap.update it (DE (·.setIfInBounds 1 (rawInt<|(i:Int)+1))) }:Shared).TypeIs (.ref it) "dict_valueiterator":=new.typeIs;refine wpAny_bind<|wpAny_isOneOf_valiter nT<|wpAny_bind<|wpAny_isOneOf_valiter nT ?_;show wpAny _ _ (pure e.val) _ _ _;exact wpAny_pure<|wpAny_pure ⟨_,rfl,wpAny_pure<|hQ _ new<|QD ..⟩
theorem zQr{Q:Option Value->Shared->Prop}(hh:A.handled=none)(j:s.heap.IsValIter it d i es.size ep)(I:s.heap.get? d=some od)(hd:od.data=.dict es ep)(hx:es.size<=i)
  (hQ:∀h',Heap.ExtBut it s.heap h'->Q none { s with heap:=h' }):wpAny (model prog w) A (pyNext<|.ref it) Q E s:=by
 have z:=j.typeIs;obtain⟨S,g1,g2,g3⟩:=j;have no:BC "dict_valueiterator" = false:=by decide
 have base:∀{s':Shared}{R:Nat->Shared->Prop},s'.TypeIs (.ref it) "dict_valueiterator"->R 0 s'->∀{J:Around}{O:KD},wpAny (model prog w) J (do return if BC (<- typeNameOfWhole (.ref it)) then 2 else 0) R O s':=λt r=>wpAny_bind (wpAny_typeNameOfWhole_valiter t (by rw[no];exact wpAny_pure r))
 unfold pyNext;refine wpAny_bind<|wpAny_attempt<|wpAny_callSpecial?_slot (name:=fA "__next__") z xD<|wpAny_call_entry xD z fK ?_<|TJ _;refine wpAny_bind<|wpAny_pure<|wpAny_bind<|wpAny_bind<|base z<|wpAny_bind<|wpAny_fieldsOf g1 g3 ?_;show wpAny _ _ (if (pB d==AD)=true then _ else _) _ _ s;have nn:¬ ((pB d==AD)=true):=YA;rw[if_neg nn];refine wpAny_bind<|wpAny_pure<|wpAny_bind<|wpAny_dictEntries I hd ?_;rw[if_neg<|by simp];refine wpAny_bind<|wpAny_pure<|wpAny_bind<|wpAny_dictEpoch I hd ?_;rw[if_neg<|by simp];refine wpAny_pure ?_;have hi:¬ ((i:Int)<0):=by omega
 simp only[hi,if_false,JC,Array.getElem?_eq_none hx];refine wpAny_bind (base z<|wpAny_bind<|wpAny_setField g1 g3 (by simp)<|wpAny_bind ?_);simp only[newExc,newTuple,raiseNew];refine wpAny_bind (wpAny_newObj_type (wpAny_bind (m:=firstArgMember _ _)<|wpAny_of_eq (a:=AD) rfl<|wpAny_newObj_type ?_<|by size_fits)<|by size_fits);refine wpAny_bind<|wpAny_handled ?_;rw[show A.in1.handled=none from hh];refine wpAny_bind<|wpAny_pure<|wpAny_throw ?_;refine wpAny_bind<|wpAny_isInstance (T:="StopIteration") (b:=true) ⟨_,KA _ rfl,rfl⟩ isSubtype_stop<|wpAny_pure<|hQ _ ?_;exact((QD ..).extBut.push _).push _
end
section
variable {X:Cx}{pins:oE}{σ:L2.St}{H:Hp}{s:Shared}
theorem zOV(I:Inv X pins σ H s)(hd:H d=some u)(J:∀xs,u≠.tup xs)(O:∀ps,u≠.tbl ps)(no:∀y,u≠.own y)(hz:∀o v,X.H₀ d≠some (.frz o v))(new:yt X.prog X.w (upd H d u') s.heap d u'):Inv X pins σ (upd H d u') s:=by
 have nn:∀b,H b=none->b≠d:=λb n z=>by rw[z,hd]at n;cases n
 have ne:∀{b:Addr}{v:HO},H b=some v->v≠u->b≠d:=λq n z=>by rw[z,hd]at q;cases q;exact n rfl
 refine⟨I.ok,I.os,I.bare,⟨I.base.keep,I.base.slot,λb o e n hx=>?_,I.base.there,λb xs e=>?_,λb o v e=>?_,λb ps e=>?_⟩,I.loc,I.cell,?_,λx c e=>?_,λp hp=>?_,λb o e=>?_,I.len⟩
 .have q:=I.base.free b o e n hx;rw[upd_ne<|nn b q];exact q
 .have q:=I.base.tups b xs e;rw[upd_ne<|ne q λz=>J _ z.symm];exact q
 .by_cases c:b=d
  .subst c;exact absurd e<|hz o v
  .rw[upd_ne c];exact I.base.frzs b o v e
 .obtain⟨j,q⟩:=I.base.tbls b ps e;exact⟨j,by rw[upd_ne<|ne q λz=>O _ z.symm];exact q⟩
 .rw[upd_ne<|nn _ I.free];exact I.free
 .rw[upd_ne<|nn _<|I.freeC x c e];exact I.freeC x c e
 .obtain⟨p1,p2,p3,S,U⟩:=I.pin p hp;exact⟨p1,by rw[upd_ne<|nn _ p2];exact p2,p3,S,U⟩
 .by_cases c:b=d
  .subst c;rw[zL]at e;cases e;exact new
  .rw[upd_ne c]at e;exact(I.hok b o e).stay (λ_ _ _ q=>q) (λc q=>by rw[upd_ne<|ne q λz=>no _ z.symm];exact q) λc xs q=>by rw[upd_ne<|ne q λz=>J _ z.symm];exact q
def DV(u:HO)(vals:List V):Prop:=(∃vs:List (XB×V),u=.dK vs/\vals=vs.map (·.2))\/∃vs:List (List XB×V),u=.dT vs/\vals=vs.map (·.2)
theorem zQs{prog:Program}{w:World}{κ:Type}[DecidableEq κ]{knd:GT prog w κ}{es:List DictEntry}{kvs:List (κ×Value)}(h:Pairs knd es kvs):∀(i:Nat)(q:κ×Value),kvs[i]?=some q->∃e,es[i]?=some e/\e.val=q.2:=by
 induction h with
 |nil=>intro i q e;simp at e
 |cons h1 h2 _ ih=>
  intro i q e
  cases i with
  |zero=>simp at e;subst e;exact⟨_,rfl,h2⟩
  |succ i=>simpa using ih i q (by simpa using e)
theorem zHE{j z:Type}{F:j->z->Prop}{l₁:List j}{l₂:List z}(h:Paired F l₁ l₂):∀(i:Nat)(a:j),l₁[i]?=some a->∃b,l₂[i]?=some b/\F a b:=by
 induction h with
 |nil=>intro i a e;simp at e
 |cons r _ ih=>
  intro i a e
  cases i with
  |zero=>simp at e;subst e;exact⟨_,rfl,r⟩
  |succ i=>simpa using ih i a (by simpa using e)
theorem Av{h:Heap}{d:Addr}{I:List V}(D:DV u I)(ok:yt P w H h d u):(d==sysModules)=false/\∃od es ep,h.get? d=some od/\od.cls=.type "dict"/\od.data=.dict es ep/\es.size=I.length/\∀(i:Nat)(v:V),I[i]?=some v->∃e:DictEntry,es[i]?=some e/\yk v e.val:=by
 rcases D with⟨vs,rfl,rfl⟩|⟨vs,rfl,rfl⟩
 .obtain⟨z,hd,xs,j,o,es,ep,h1,h2,h3,_,S,_⟩:=(show yt P w H h d (.dK vs) from ok)
  refine⟨hd,o,es,ep,h1,h2.1,h3,?_,λi v e=>?_⟩
  .rw[<- jE,S.length,kA,<- Paired.length j]
  .rw[gB]at e;obtain⟨p,J,rfl⟩:=bA.mp e;obtain⟨q,O,r⟩:=zHE j i p J;obtain⟨e',e3,Y⟩:=zQs S i q O;exact⟨e',by rw[<- fF];exact e3,by rw[Y];exact r.2⟩
 .obtain⟨z,hd,xs,j,o,es,ep,h1,h2,h3,U,S⟩:=(show yt P w H h d (.dT vs) from ok)
  refine⟨hd,o,es,ep,h1,h2.1,h3,?_,λi v e=>?_⟩
  .rw[Bq U,kA,<- Paired.length j]
  .rw[gB]at e;obtain⟨p,J,rfl⟩:=bA.mp e;obtain⟨q,O,r⟩:=zHE j i p J;exact⟨_,by rw[entry_at U,O];rfl,r.2.2⟩
theorem DV.ne(D:DV u vals):(∀xs,u≠.tup xs)/\(∀ps,u≠.tbl ps)/\(∀y,u≠.own y)/\(∀xs,u≠.lst xs)/\∀o v,u≠.frz o v:=by
 rcases D with⟨vs,rfl,rfl⟩|⟨vs,rfl,rfl⟩<;>exact⟨λ_ z=>(by cases z),λ_ z=>(by cases z),λ_ z=>(by cases z),λ_ z=>(by cases z),λ_ _ z=>(by cases z)⟩
theorem zTg:C6 X "dict.values" (λx xs H Q=>∃d u j,x=.ref d/\xs=[]/\H d=some u/\DV u j/\∀p,H p=none->Q (.ref p) (upd H p<|.ext λh=>h.IsValuesView p d)):=by
 intro pins s σ H x xs v us Q I O J h;obtain⟨d,u,j,rfl,rfl,e,D,k⟩:=h;cases O;cases J;obtain⟨hd,od,es,ep,h1,h2,_⟩:=Av D<|I.hok d _ e;have tI:s.TypeIs (.ref d) "dict":=⟨od,h1,h2⟩
 refine CF GK tI PySem.F.entry_dict_values (PySem.F.args_dict_values_1 _) (zMc d hd) ⟨tI,?_⟩;refine⟨.ref s.heap.objs.size,_,I.laid (o:=.ext λh=>h.IsValuesView s.heap.objs.size d) (t':=s.toks) (λ_ _ q=>sA _ q) (wA _) ⟨⟨_,KA _ rfl,rfl,rfl⟩,⟨_,KA _ rfl⟩,λh1 h2 p q=>?_⟩,rfl,k _ I.fresh⟩;obtain⟨o,h3,z⟩:=p;exact⟨o,q o h3,z⟩
end
noncomputable def Ck(d:Addr)(od:Obj)(u:HO)(vs:List V):It:=⟨λi H=>H d=some (.frz od u)/\i<vs.length,λi H x H'=>H'=H/\vs[i]?=some x,λi H=>H d=some (.frz od u)/\vs.length<=i⟩
theorem zOW{P:Program}{w:World}{K:Fg}{tg:Expr}(d it:Addr){od:Obj}{u:HO}{vs:List V}(D:DV u vs){es:Array DictEntry}{ep:Nat}(hd:od.data=.dict es ep):mT P w K tg (Ck d od u vs) [it] it (λi h=>h.IsValIter it d i es.size ep) where
 mem:=gA.mpr rfl
 obj:=λi h st b hb=>by
  cases gA.mp hb;obtain⟨o,e,c,q⟩:=st;exact⟨o,e,λv z=>by rw[q]at z;cases z⟩
 keep:=λi h h' st k=>by
  obtain⟨o,e,c,q⟩:=st;exact⟨o,k it (gA.mpr rfl) o e,c,q⟩
 item:=by
  intro X hP hw hK hc i pins s σ H E I hf st hg;subst hP hw hK;obtain⟨hq,hi⟩:=hg;obtain⟨O,ok⟩:=(show yt X.prog X.w H s.heap d (.frz od u) from I.hok d _ hq)
  obtain⟨_,o,dU,mY,j,_,J,_,al⟩:=Av D ok;rw[O]at j;cases j;rw[hd]at J;cases J;obtain⟨S,U,f2,Y,Z,f5⟩:=hf it<|gA.mpr rfl;obtain⟨p,hp⟩:∃p,vs[i]?=some p:=⟨vs[i],by simp[hi]⟩
  obtain⟨e,he,rv⟩:=al i p hp;refine zOU st O hd he λh' CC sb=>?_
  have I1:Inv X pins σ H { s with heap:=h' }:=I.turned (t':=s.toks) (λb o hb e=>(sb.2 b hb).trans e) S U Y Z f5;obtain⟨o,e,c,q0⟩:=id CC;exact⟨_,rfl,Ah (s:={ s with heap:=h' }) e c q0 (by decide) ⟨p,H,I1,rv,⟨rfl,hp⟩,CC,λb hb=>(hf b hb).1⟩⟩
 done:=by
  intro X hP hw hK hc i pins s σ H E I hf st hg;subst hP hw hK;obtain⟨hq,hi⟩:=hg;obtain⟨O,ok⟩:=(show yt X.prog X.w H s.heap d (.frz od u) from I.hok d _ hq)
  obtain⟨_,o,dU,mY,j,_,J,e3,_⟩:=Av D ok;rw[O]at j;cases j;rw[hd]at J;cases J;obtain⟨S,U,f2,Y,Z,f5⟩:=hf it<|gA.mpr rfl;exact zQr (I.ok.hd hc) st O hd (by omega) λh' eb=>⟨rfl,I.turned (t':=s.toks) (λb o hb e=>eb b o hb e) S U Y Z f5⟩
 self:=λA i s Q E st h=>wpAny_pyIter_valiter st h
theorem Ox{K:Fg}{G H:Hp}:∀{xs:List (List D)}{vs:List V}(i:Nat){x:List D},yA K G H xs vs->xs[i]?=some x->∃b us,vs[i]?=some (.ref b)/\H b=some (.lst us)/\CA K G x us
 | [],_,i,x,h,e=>by simp at e
 |y::ys,_,0,x,h,e=>by
  simp only[yA]at h;obtain⟨b,us,t,rfl,h1,h2,h3⟩:=h;simp at e;subst e
  exact⟨b,us,rfl,h1,h2⟩
 |y::ys,_,i+1,x,h,e=>by
  simp only[yA]at h;obtain⟨b,us,t,rfl,h1,h2,h3⟩:=h;exact Ox i h3 (by simpa using e)
theorem O8{K:Fg}{G H:Hp}:∀{xs:List (List D)}{vs:List V},yA K G H xs vs->vs.length=xs.length
 | [],_,h=>by simp only[yA]at h;subst h;rfl
 |y::ys,_,h=>by
  simp only[yA]at h;obtain⟨b,us,t,rfl,h1,h2,h3⟩:=h;simp[O8 h3]
theorem zTh{K:Fg}{G:Hp}{b:Addr}{od:Obj}{u:HO}{vs:List V}{xs:List (List D)}(h:G b=some (.frz od u))(r:yA K G G xs vs):VO K G (Ck b od u vs) (xs.map .lst) where
 go:=λi H s hi=>⟨s _ _ h,by have:=O8 r;simp at hi;omega⟩
 stop:=λi H s hi=>⟨s _ _ h,by have:=O8 r;simp at hi;omega⟩
 yld:=λi j H x H' s1 s hi y=>by
  obtain⟨rfl,y⟩:=y;refine⟨j,zb.refl s,λd e=>?_⟩;rw[gB]at e;obtain⟨q,z,rfl⟩:=bA.mp e;obtain⟨c,us,I,e3,J⟩:=Ox i r z;rw[I]at y;cases y;exact CO.mpr ⟨c,us,rfl,GF.of<|s1 _ _ e3,CA.mono s1 _ _ J⟩
theorem zLY{K:Fg}{G:Hp}:∀bs:List Bool,CA K G (bs.map .bl) (bs.map V.bl)
 | []=>.nil
 |b::bs=>.cons (yZ.mpr rfl)<|zLY bs
theorem nY{K:Fg}{G H:Hp}{σ:L2.St}{n:Nat}(h:n=σ.length):Er K G H (jA n .un) σ:=by
 have no:∀{i:Nat}{s:Sl},(jA n Sl.un)[i]?=some s->s=.un:=λ{i s} e=>(ED.mp<|xA e).2
 exact⟨by simp[h],(λi d e=>by cases no e),(λi s e z=>by rw[no e]at z;cases z),λi j s t a b _ e z=>by rw[no e]at z;cases z⟩
theorem zOX{X:Cx}{tg elt oe:Expr}{scope:BF}{pos apos uB:Pos}{nm:List Str}{gd:D->mB->Option mB}{fe:dC}{m:Nat}{td:TE}(ho:PE X oe td)
  (hm:nm.length=m) (hk:scope.kind=.function) (hok:lM X.N nm scope.names X.env.scope.names=true) (pL:XN X.N.length gd)
  (hg:∀C MA rB ex,SG (zc X nm scope C MA rB ex) tg gd) (he:∀C MA rB ex,SE (zc X nm scope C MA rB ex) elt fe) (hc:X.calm=true)
  (ZC:WJ X oe "values") (aD:WM apos uB)
  (hs:∀x,jC (.Call (.Attribute oe "values" apos) [] [] uB) X.env x=pure x)
  {pins:oE} {s:Shared} {σ:L2.St} {H:Hp} {Q:V->Hp->Prop} (I:Inv X pins σ H s) {G:Hp} {ρ:mB} (sm:zd G H) (er:Er X.K G H ρ σ)
  {b:Addr} {u:HO} {vs:List V} {O2:List (List D)} (S:H b=some u) (Z:DV u vs) (z3:yA X.K G H O2 vs) (htd:∀Q:V->Hp->Prop,Q (.ref b) H->td σ H Q)
  (gb:G b=none) (gr:∀c,.ref c∈vs->G c=none) (hl:O2.length<=1000000) {Iw:List D} (e5:zQ gd (λ_=>some true) fe (O2.map .lst) (jA (ρ.length+m) .un)=some Iw) {bs:List Bool} (e6:wQ Iw=some bs)
  (k:∀D us G' H',zb G H G' H'->H D=none->G' D=none->H' D=some (.lst us)->CA X.K G' (bs.map .bl) us->Q (.ref D) H') :
  wpAny (model X.prog X.w) X.A (eval (.ListComp elt [⟨tg,.Call (.Attribute oe "values" apos) [] [] uB,[],0⟩] scope pos) X.env) (EP X pins σ Q) X.xe s:=by
 subst hm;obtain⟨nt,nb,no,nl,nz⟩:=Z.ne;have hz:∀o v,X.H₀ b≠some (.frz o v):=λo v e=>by rw[I.base.frzs b o v e]at S;cases S;exact nz _ _ rfl
 have NJ:iI scope X.env=pure (AJ scope.names X.env.cells):=Y7 λy hy hf=>I.ok.has y.1<|(yQ hok hy).2.2.2 hf
 rw[oO]
 refine wpAny_comprehension_free (use:=none) rfl hs NJ hk (λy hy=>(yQ hok hy).2.2.1) (RC (zRk vE GK PySem.F.type_dict_values zTg ho ZC aD pins s σ H (λv H'=>∃p,v=.ref p/\H p=none/\H'=upd H p (.ext λh=>h.IsValuesView p b)) I
  (htd _ ⟨.inr<|.inr<|.inl ⟨rfl,by
   rcases Z with⟨ws,rfl,_⟩|⟨ws,rfl,_⟩
   .exact .inl ⟨ws,S⟩
   .exact .inr ⟨ws,S⟩⟩,b,u,vs,rfl,rfl,S,Z,λp hp=>⟨p,rfl,hp,rfl⟩⟩)) λv s1 h1=>?_)
 obtain⟨v1,H1,I1,rv1,p,rfl,hp,rfl⟩:=h1;cases rv1;have bp:b≠p:=λz=>by rw[z,hp]at S;cases S
 have U:upd H p (.ext λh=>h.IsValuesView p b) b=some u:=by rw[upd_ne bp];exact S
 obtain⟨vw,_,_⟩:=(show yt X.prog X.w _ s1.heap p (.ext λh=>h.IsValuesView p b) from I1.hok p _ zL)
 obtain⟨_,od,es,ep,l4,_,l6,_,_⟩:=Av Z<|I1.hok b _ U;refine zOT vw l4 l6 ?_;have I2:=I1.kept (h':=s1.heap.push { cls:=.type "dict_valueiterator",data:=.fields #[.ref b,.int 0 0,.int es.size 0,.int ep 0] }) (t':=s1.toks) λb o e=>sA _ e
 have n2:upd H p (.ext λh=>h.IsValuesView p b) s1.heap.objs.size=none:=I1.fresh;have lI:({ s1 with heap:=s1.heap.push { cls:=.type "dict_valueiterator",data:=.fields #[.ref b,.int 0 0,.int es.size 0,.int ep 0] } }:Shared).heap.IsValIter s1.heap.objs.size b 0 es.size ep:=⟨_,KA _ rfl,rfl,rfl⟩
 have We:∀H':Hp,H' s1.heap.objs.size=none->PH X pins H' s1.heap.objs.size:=λH'=>I1.fpOk<|wA _
 generalize s1.heap.objs.size=it at n2 lI We|-;have Xs:({ s1 with heap:=s1.heap.push { cls:=.type "dict_valueiterator",data:=.fields #[.ref b,.int 0 0,.int es.size 0,.int ep 0] } }:Shared).heap.get? b=some od:=sA _ l4;generalize ({ s1 with heap:=s1.heap.push { cls:=.type "dict_valueiterator",data:=.fields #[.ref b,.int 0 0,.int es.size 0,.int ep 0] } }:Shared)=s2 at I2 lI Xs|-;have stay:∀{J:Hp}{h3:Heap}{u':HO},(∀c xs,J c=some (.tup xs)->c≠b)->(∀c,J c=some (.own b)->c≠b)->yt X.prog X.w J h3 b u->yt X.prog X.w (upd J b u') h3 b u:=λne no w=>w.stay (λ_ _ _ q=>q) (λc q=>by rw[upd_ne<|no c q];exact q) λc xs q=>by rw[upd_ne<|ne c xs q];exact q
 have I3:=zOV (u':=.frz od u) I2 U nt nb no hz ⟨Xs,stay (λc xs q z=>by rw[z,U]at q;exact nt _<|wB q) (λc q z=>by rw[z,U]at q;exact no _<|wB q)<|I2.hok b _ U⟩;generalize En:upd (upd H p<|.ext λh=>h.IsValuesView p b) b (.frz od u)=J at I3;have jU:J b=some (.frz od u):=by rw[<- En,zL]
 have ne3:∀c o,c≠b->H c=some o->J c=some o:=λc o n e=>by rw[<- En,upd_ne n,upd_ne (λz=>by rw[z,hp]at e;cases e)];exact e
 have nn3:∀c,J c=none->H c=none/\c≠b:=λc e=>by
  have n:c≠b:=λz=>by rw[z,jU]at e;cases e
  refine⟨?_,n⟩
  cases q:H c with
  |none=>rfl
  |some o=>rw[ne3 c o n q]at e;cases e
 have dec:∀c,Decidable<|V.ref c∈vs:=λ_=>Classical.propDecidable _
 let G3:Hp:=λc=>if c=b then some (.frz od u) else if V.ref c∈vs then H c else G c
 have g33:zd G3 J:=λc o e=>by
  simp only[G3]at e;split at e
  .rename_i z;rw[z,jU];exact e
  .rename_i z;split at e
   .exact ne3 c o z e
   .exact ne3 c o z<|sm c o e
 have Wk:zd G G3:=λc o e=>by
  simp only[G3];rw[if_neg (λz=>by rw[z,gb]at e;cases e),if_neg (λz=>by rw[gr c z]at e;cases e)];exact e
 have it3:VO X.K G3 (Ck b od u vs) (O2.map .lst):=zTh (by simp[G3]) (z3.same Wk λc m o e=>by
  simp only[G3];obtain⟨j,hj⟩:=MN m;have lj:j<O2.length:=by rw[<- O8 z3];exact(BA.mp hj).1
  obtain⟨c',us,e7,e8,_⟩:=Ox j z3<|CG lj;rw[hj]at e7;cases e7;rw[if_neg (λz=>by rw[z,S]at e8;exact nl _<|wB e8),if_pos m];exact e)
 have fo:∀c∈[it],PH X pins J c:=λc m=>by
  cases gA.mp m;exact We _ (by rw[<- En,upd_ne (λz=>by rw[z,U]at n2;cases n2)];exact n2)
 refine Mm (RR:=λacc C=>ZR (model X.prog X.w) X.A X.xe none (EP X pins σ Q) acc C) (p:=λ_=>some true) hc hk hok pL hg (λ_ _ _ _=>.inl ⟨rfl,rfl⟩) he I3 (zOW b it Z l6) lI fo g33 (nY er.len) it3 (by simpa using hl) (by rw[List.replicate_append_replicate];exact e5) λD C s' H' G' us m' I' t' nD gD hD rD hn kP oQ pQ WQ jS=>?_
 have IY:=t'.h _ _ jU;obtain⟨_,w'⟩:=(show yt X.prog X.w H' s'.heap b (.frz od u) from I'.hok b _ IY)
 have I4:=zOV (u':=u) I' IY (λ_ z=>by cases z) (λ_ z=>by cases z) (λ_ z=>by cases z) hz (stay (λc xs q z=>by rw[z,IY]at q;cases q) (λc q z=>by rw[z,IY]at q;cases q) w');obtain⟨Yd,nD2⟩:=nn3 D nD;have b1:=Lo e6;subst b1;refine⟨m',hn,λh' bR=>⟨.ref D,upd H' b u,I4.turned (t':=s'.toks) (λb o hb e=>bR.extBut b o hb e) (by rw[upd_ne (λz=>by rw[z,IY]at kP;cases kP)];exact kP) oQ (.inr pQ) WQ jS,rfl,k D us G _ ⟨zd.refl _,?_,?_,λc o e n=>by rw[n]at e;cases e⟩ Yd (sm.free Yd) (by rw[upd_ne nD2];exact hD) ?_⟩⟩
 .intro c o e;by_cases z:c=b
  .rw[z]at e ⊢;rw[zL,<- e,S]
  .rw[upd_ne z];exact t'.h _ _<|ne3 c o z e
 .intro c o e;rw[upd_ne (λz=>by rw[z,gb]at e;cases e)];exact t'.s _ _<|t'.g _ _<|Wk _ _ e
 .rw[Lp rD];exact zLY bs
def A9(m i:Nat)(g:D->mB->Option mB)(e:dC):pD:=λρ=>(tO ρ i).bind λkvs=>if kvs.length<=1000000 then (zQ g (λ_=>some true) e (kvs.map λq=>.lst q.2)<|jA (ρ.length+m) .un).bind λys=>(wQ ys).map λbs=>bs.map D.bl else none
theorem zOY{X:Cx}{scope:BF}{nm:List Str}{gd:D->mB->Option mB}{fe:dC}(i:Nat)(ho:PE X o (RF i))(hm:nm.length=m)(hk:scope.kind=.function)(hok:lM X.N nm scope.names X.env.scope.names=true)(pL:XN X.N.length gd)(hg:∀C J S ex,SG (zc X nm scope C J S ex) tg gd)(he:∀C J S ex,SE (zc X nm scope C J S ex) elt fe)(hc:X.calm=true:=by rfl)(Y:WJ X o "values":=by rfl)(Z:WM apos uB:=by rfl)(hs:∀x,jC (.Call (.Attribute o "values" apos) [] [] uB) X.env x=pure x:=by intro _;rfl):
  SF X (.ListComp elt [⟨tg,.Call (.Attribute o "values" apos) [] [] uB,[],0⟩] scope pos) (A9 m i gd fe):=by
 intro pins s σ H Q I h;obtain⟨G,ρ,ys,sm,er,j,k⟩:=h;obtain⟨kvs,O,j⟩:=aA.mp j;obtain⟨c,O⟩:=U4 O;obtain⟨b,ws,q1,z1,z2,z3,nd,fr⟩:=gX er O;split at j
 .rename_i hl;obtain⟨Iw,e5,j⟩:=aA.mp j;obtain⟨bs,e6,rfl⟩:=bA.mp j;refine zOX ho hm hk hok pL hg he hc Y Z hs I sm er z1 (.inl ⟨ws,rfl,rfl⟩) z3 (λQ q=>⟨_,q1,q⟩) (fr b<|lA ..) (λc m=>fr c<|dA _<|qO.mpr m) (by rw[kA];exact hl) (by rw[vB];exact e5) e6 λD us G' H' t nD gD hD r=>k D us G' H' t nD gD hD r
 .cases j
section
variable {X:Cx}{κ:Nat->Addr}{a e o ke de:Expr}{es:List Expr}{pos p uB apos pos' p1:Pos}{fl:pD}{k n i:Nat}{f:List D->Ob->Option (Except Nat D)}{x:Str}{fk fd fe:dC}
theorem zJJ(h:ZS X.prog X.w X.K X.mg X.base κ k x n f)(hr:IF k X.A)(S:X.env.kindOf x=some .globalImplicit)(U:(e::es).length=n)(ha:ZX X (e::es) i fl)(I:LL x:=by decide)
  (he:BG X e es:=by rfl) (z:EH X pos es:=by rfl) :
  SE X (.Call (.Name x p) (e::es) [] pos) (λρ=>(xV i fl f ρ).bind IZ):=
 aG (zLT h zV5 hr S U ha I he z) λσ H Q=>by
  rintro⟨G,ρ,d,s,er,O,Y⟩;obtain⟨r,J,j⟩:=aA.mp O;refine⟨G,ρ,r,s,er,J,?_⟩
  cases r with
  |ok d'=>cases j;exact Y
  |error c=>cases j
def R5(i:Nat)(fk fd:dC):dC:=λρ=>(IP ρ i).bind λx=>match x with
 |.p (.ml kvs)=>(fk ρ).bind λkd=>(cH kd).bind λk=>(fd ρ).map λd=>match yj kvs k with
  |some xs=>.lst xs
  |none=>d
 |_=>none
theorem zTi(i:Nat)(hu:X.A.units+1<cLine)(ho:PE X o (RF i))(hk:SE X ke fk)(hd:SE X de fd)(m:M2 X o "get" apos ke de uB):
  SR X (.Call (.Attribute o "get" apos) [ke,de] [] uB) (R5 i fk fd):=
 aG (zK7 hu ho hk hd m) λσ H Q=>by
  rintro⟨G,ρ,d,s,er,j,k⟩;obtain⟨x,e1,j⟩:=aA.mp j;obtain⟨a,q1,A⟩:=Ou er e1
  cases x with
  |ins C fs=>cases j
  |p y=>
   cases y with
   |ml kvs=>
    obtain⟨kd,e5,j⟩:=aA.mp j;obtain⟨U,e6,j⟩:=aA.mp j;obtain⟨dd,e7,rfl⟩:=bA.mp j;obtain⟨vs,I,z2,z3⟩:=A.rep;refine⟨_,q1,a,rfl,.inl ⟨vs,.inl I⟩,G,ρ,kd,s,er,e5,λv1 Y H1 t1 r1=>?_⟩;refine⟨Y,ρ,dd,t1.s,er.step t1,e7,λv2 O H2 t2 r2=>?_⟩;have ev:=EO e6 r1;subst ev;have tt:=t1.trans t2;have J:=A.step tt;obtain⟨jH,S,Z,Iz⟩:=J.rep;rw[tt.h _ _ I]at S;cases S;refine⟨oG vs U,cI.k<|tt.h _ _ I,?_⟩;rcases yA.get (k:=U) Z Iz with⟨g1,g2⟩|⟨xs,b',us,g1,g2,g3,g4,g5⟩
    .rw[g2];have:=k v2 O H2 tt (.fr (by simp only[g1];exact r2));exact this
    .rw[g2];refine k (.ref b') O H2 tt ?_;simp only[g1];refine .ow (J.fr b' ?_) g3 g4;simp only[OE,LF];rw[tt.h _ _ I]
     exact dA _ g5
   |_=>cases j
def Zv(i:Nat)(fk f:dC):VB:=λρ=>(fk ρ).bind λdk=>(f ρ).bind λd=>(cH dk).map λk=>.nx<|ρ.set i<|.m [(k,d)]
theorem X0(hu:X.A.units+1<cLine)(i:Nat)(hk:SE X ke fk)(ha:SE X a fe)(hN:X.N.Nodup)(hi:X.N[i]?=some x)(hx:Loc X.env.scope x)(hs:ZI X (.Dict [some ke] [a] p1) (some<|.Name x pos') pos:=by rfl)
  (hf:JL X x:=by first|exact .inl rfl|exact .inr rfl|assumption):SS X (.Assign [.Name x pos'] (.Dict [some ke] [a] p1) pos) (Zv i fk fe):=
 yN (LO hN hi hx (zSu (zQC hk ha zSt) rfl rfl (λz=>by cases z)<|by simp) hs hf) λQ σ H=>by
  rintro⟨G0,H0,G,ρ,o,st,I,k⟩;obtain⟨Z,e1,I⟩:=aA.mp I;obtain⟨d,e2,I⟩:=aA.mp I;obtain⟨j,e3,rfl⟩:=bA.mp I;intro p hp;have J:zb G H G (upd H p<|.dK []):=zb.newH st.bs.gh hp;refine⟨G,ρ,Z,J.s,st.er.step J,e1,λv1 Y H1 t1 r1=>?_⟩;refine⟨Y,ρ,d,t1.s,(st.er.step J).step t1,e2,λU O H2 t2 r2=>?_⟩;have ev:=EO e3 r1;subst ev;have tt:=t1.trans t2;have ep:H2 p=some (.dK []):=tt.h _ _ zL
  have S:O p=none:=by
   cases q:O p with
   |none=>rfl
   |some o=>have:=tt.f p o q<|st.bs.gh.free hp;rw[zL]at this;cases this
  refine⟨ep,[(j,U)],rfl,by simp,?_⟩
  have t3:zb G H O (upd H2 p<|.dK [(j,U)]):=⟨tt.g,λb u e=>by
    rw[upd_ne<|yY e hp];exact(J.trans tt).h _ _ e,λb u e=>by
    rw[upd_ne (λz=>by rw[z,S]at e;cases e)];exact t2.s _ _ e,(J.trans tt).f⟩
  exact k _ O _ (st.setNew t3 (w:=.m [(j,d)]) rfl ⟨_,zL,FW r2 HW⟩ λc m=>by
   cases gA.mp m;exact⟨hp,S⟩)
def zWD(i j:Nat):VB:=λρ=>(gL ρ j).bind λxs=>match xs with
 |d::ys=>some<|.nx<|(ρ.set j<|.l ys).set i<|.v d
 | []=>none
theorem zTj(i j:Nat)(ho:PE X o (RF j))(hN:X.N.Nodup)(hi:X.N[i]?=some x)(hx:Loc X.env.scope x)(ZC:WJ X o "pop":=by rfl)(gG:RO X uB [AF (.int 0) j' ipos]:=by rfl)(aD:WM apos uB:=by rfl)(hs:starEach [AF (.int 0) j' ipos] X.env=(false,eval (.Constant (.int 0) j' ipos) X.env)::starEach [] X.env:=by rfl)(dD:EH X uB []:=by rfl)(VI:ZI X (.Call (.Attribute o "pop" apos) [.Constant (.int 0) j' ipos] [] uB) (some<|.Name x pos') pos:=by rfl)(hf:JL X x:=by first|exact .inl rfl|exact .inr rfl|assumption):
  SS X (.Assign [.Name x pos'] (.Call (.Attribute o "pop" apos) [.Constant (.int 0) j' ipos] [] uB) pos) (zWD i j):=
 yN (LO hN hi hx (OO IB WE XE Of ho (zx O9 yl hs) ZC gG aD hs dD) VI hf) λE σ H=>by
  rintro⟨G0,H0,G,ρ,o,st,I,k⟩;obtain⟨xs,e1,I⟩:=aA.mp I;have J:=cX e1;obtain⟨a1,vs,U,q2,Y,q4⟩:=st.er.own j xs J
  cases xs with
  |nil=>cases I
  |cons d ys=>
   cases I;obtain⟨Z,S,rfl,r0,rs⟩:=zX.mp q4;refine⟨_,U,.inl ⟨rfl,_,GF.of Y⟩,a1,Z::S,0,0,Z,rfl,rfl,Y,by decide,by decide,by simp[eJ],rfl,?_⟩;exact k _ G (upd H a1<|.lst S) ((st.mut (w:=.l ys) J rfl rfl U (λzs z=>by cases z;exact⟨_,rfl,rs⟩) λ_ z=>by cases z).setV r0)
def Rp(i j:Nat)(fk:dC):VB:=λρ=>(tO ρ j).bind λkvs=>(fk ρ).bind λkd=>(cH kd).bind λk=>match yj kvs k with
 |some (d::xs)=>some<|.nx<|(ρ.set j<|.o none<|.p<|.ml<|rG k xs kvs).set i<|.v d
 |_=>none
theorem zQu(i j:Nat)(hu:X.A.units+1<cLine)(ho:PE X o (RF j))(hk:SE X ke fk)(hN:X.N.Nodup)(hi:X.N[i]?=some x)(hx:Loc X.env.scope x)(Z:rT ke:=by intro _ _;rfl)(ZC:WJ X (.Subscript o ke kp) "pop":=by rfl)(gG:RO X uB [AF (.int 0) j' ipos]:=by rfl)(aD:WM apos uB:=by rfl)(hs:starEach [AF (.int 0) j' ipos] X.env=(false,eval (.Constant (.int 0) j' ipos) X.env)::starEach [] X.env:=by rfl)(dD:EH X uB []:=by rfl)(VI:ZI X (.Call (.Attribute (.Subscript o ke kp) "pop" apos) [.Constant (.int 0) j' ipos] [] uB) (some<|.Name x pos') pos:=by rfl)(hf:JL X x:=by first|exact .inl rfl|exact .inr rfl|assumption):
  SS X (.Assign [.Name x pos'] (.Call (.Attribute (.Subscript o ke kp) "pop" apos) [.Constant (.int 0) j' ipos] [] uB) pos) (Rp i j fk):=
 yN (LO hN hi hx (OO IB WE XE Of (NW hu ho hk Z) (zx O9 yl hs) ZC gG aD hs dD) VI hf) λE σ H=>by
  rintro⟨G0,H0,G,ρ,o,st,z,k⟩;obtain⟨kvs,I,z⟩:=aA.mp z;obtain⟨kd,e5,z⟩:=aA.mp z;obtain⟨J,e6,z⟩:=aA.mp z;obtain⟨c,I⟩:=U4 I
  cases g0:yj kvs J with
  |none=>rw[g0]at z;cases z
  |some l=>
   cases l with
   |nil=>rw[g0]at z;cases z
   |cons d xs=>
    rw[g0]at z;cases z;obtain⟨b,vs,S,m⟩:=gX st.er I;refine⟨_,S,G,ρ,kd,st.bs.gh,st.er,e5,λv1 G1 H1 t1 r1=>?_⟩;have ev:=EO e6 r1;subst ev;have m:=m.step t1;rcases yA.get (k:=J) m.2.1 m.2.2.1 with⟨g1,_⟩|⟨uQ,b',us,g1,g2,g3,g4,_⟩<;>rw[g0]at g1<;>cases g1;obtain⟨Y,WU,rfl,r0,rs⟩:=zX.mp g4;exact⟨b,.ref b',rfl,by rw[<- g2];exact cI.k m.1,.inl ⟨rfl,_,GF.of g3⟩,b',Y::WU,0,0,Y,rfl,rfl,g3,by decide,by decide,by simp[eJ],rfl,k _ G1 _<|((st.step t1).chM I S m<|m.put t1.s g2 rs).setV r0⟩
theorem zTk(l:Addr)(items:Array Value)(n:Nat)(b:Addr)(j:Array Value)(O:Nat)(S:Array (Option Value))(J:¬(!items.isEmpty&&SC (items.size+j.size))=true)(U:items.size<=sizeLine)(z:items.size+j.size<=sizeLine+1):
  Meets (Builtin.«list.extend» ⟨[.ref l,.ref b],[]⟩) (λ_ R s=>s.heap.get? l=some { cls:=.type "list",dict:=none,data:=.seq items n,slots:=#[] }/\s.heap.get? b=some { cls:=.type "tuple",dict:=none,data:=.seq j O,slots:=S }/\R (.ok<|.ret AD) { s with heap:=s.heap.update l<|mH λx=>x++j,toks:=s.toks }):=
 .of_wp λ_ _ _ R s=>by
  rintro⟨gl,I,r⟩;have zz:(items++j).size<=sizeLine+1:=Array.size_append ▸ z;cases s;have:=AutoSeq1.sub_tuple_tuple;have:=AutoSeq1.sub_list_list;have:=AutoSeq1.sub_tuple_list;have:=AutoSeq1.sub_list_tuple
  wp_walk using(wpAny_updateSeq gl rfl (hz:=U) (_hz':=zz)),AutoSeq1.wpAny_loadPart' gl,AutoSeq1.wpAny_loadPart' I
  exact⟨_,rfl,r⟩
theorem zTl:dW X "list.extend" (λx vs H Q=>∃l b xs zs,x=.ref l/\vs=[.ref b]/\H l=some (.lst xs)/\H b=some (.tup zs)/\xs.length+zs.length<=sizeLine/\Q .non (upd H l<|.lst<|xs++zs)):=by
 intro pins s σ H x vs v us Q I rx rv h;obtain⟨l,b,xs,zs,rfl,rfl,hH,hB,hz,q⟩:=h;cases rx;obtain⟨u,rfl,ru⟩:=rv.one;cases ru;obtain⟨z,its,n,r,hl,e⟩:=I.lstM hH;obtain⟨j,r2,⟨⟨c2,d2,Y,U⟩,Z,J,n2,O,S⟩,_⟩:=I.tupleN<|GI.of hB;simp only at J O S;subst J O S;have hl2:=r2.length;have hsz:its.toArray.size+j.toArray.size<=sizeLine:=by rw[pA,pA];omega
 have pP:¬ (!its.toArray.isEmpty&&SC (its.toArray.size+j.toArray.size))=true:=by
  rw[zK2 hsz,LH];exact YA
 refine gI TR ⟨_,e,rfl⟩ OQ (cQ _ _)
  (zTk l its.toArray n b j.toArray n2 U pP (by rw[pA];omega)<|by omega) ⟨e,Z,?_⟩
 refine⟨.non,_,I.lset (its':=its++j) hH e (by simp) (r.append r2) ?_,rfl,q⟩;rw[rA];omega
def Tc(i:Nat)(f:dC):VB:=λρ=>(gL ρ i).bind λxs=>(f ρ).bind λd=>match d with
 |.tup ys=>if xs.length+ys.length<=1000000 then some (.nx<|ρ.set i<|.l<|xs++ys) else none
 |_=>none
theorem zTn(i:Nat)(ho:PE X o (RF i))(ha:SE X a fe)
  (Y:WJ X o "extend":=by rfl)
  (gG:RO X uB [a]:=by rfl)
  (Z:WM apos uB:=by rfl) (hs:BG X a []:=by rfl) (dD:EH X uB []:=by rfl)
  (U:ZI X (.Call (.Attribute o "extend" apos) [a] [] uB) none pos:=by rfl) :
  SS X (.Expr (.Call (.Attribute o "extend" apos) [a] [] uB) pos) (Tc i fe):=
 yN (rR (OO IB HK IK zTl ho (zx ha yl hs) Y gG Z hs dD) U) λE σ H=>by
  rintro⟨G0,H0,G,ρ,o,st,j,k⟩;obtain⟨xs,e1,j⟩:=aA.mp j;obtain⟨d,e2,j⟩:=aA.mp j
  cases d with
  |tup ys=>
   simp only at j;split at j
   .rename_i hl;cases j;have I:=cX e1;obtain⟨a1,vs,J,q2,q3,q4⟩:=st.er.own i xs I;refine⟨_,J,.inl ⟨rfl,vs,GF.of q3⟩,G,ρ,.tup ys,st.bs.gh,st.er,e2,λv G' H' t r=>?_⟩;obtain⟨b,us,rfl,h3,r⟩:=IS.mp r;have CC:=st.step t;obtain⟨a2,S,w1,w2,w3,O⟩:=CC.er.own i xs I;rw[J]at w1;cases w1;refine⟨a1,b,S,us,rfl,rfl,w3,t.s _ _ h3,?_,k σ G' _<|CC.mut I rfl rfl J (λzs z=>by cases z;exact⟨_,rfl,O.append r⟩) λ_ z=>by cases z⟩;rw[<- O.length,<- r.length];exact QA hl (by decide)
   .cases j
  |_=>cases j
end
end RD
section
local macro_rules | `(tactic| exists $es,*) => let l := ("RD.gV RD.gR RD.zN RD.zO RD.JI RD.lF RD.sq RD.QF RD.bB RD.b1 RD.b2 RD.b3 RD.iW RD.YT RD.VJ RD.jT RD.EN RD.gL RD.IR RD.jf RD.Z1 RD.Ba RD.P6 RD.aP RD.RL RD.Bb RD.dS RD.asI RD.oI RD.zC RD.qC RD.iJ RD.lX RD.Qr RD.iL RD.iT RD.Xg RD.i7 RD.NO RD.Vs RD.Vt RD.aK RD.zNz RD.frz RD.qI RD.FN RD.JR RD.SL RD.Sh RD.BV RD.KH RD.CM RD.CV RD.Bc RD.Gs RD.jP RD.Xi RD.jW RD.B5 RD.Si RD.Sj RD.Z4 RD.Bd RD.Be RD.EV RD.vL RD.Ho cA Option.bind_none uA jQ UA fB List.getElem?_nil FD LI iA YB eA vC MB DB kB List.replicate_succ List.replicate_zero Nat.reduceAdd Nat.reduceSub Nat.reduceLeDiff Nat.reduceLT if_true if_false ite_true ite_false true_and and_true RA decide_true decide_false Bool.not_true Bool.not_false XR TV kA rA AH oJ ZF reduceIte reduceCtorEq Int.reduceLT Int.reduceLE Int.reducePow Int.reduceNeg Int.reduceMul Int.reduceAdd Int.reduceSub Int.reduceToNat true_or or_true and_self or_self VL YL WL FM tX MH RV Nat.reduceMul Nat.reducePow Int.reduceEq Nat.reduceEqDiff Int.natCast_zero Int.cast_ofNat_Int Int.ofNat_eq_natCast RD.zl RD.gM RD.QK RD.zM RD.rng RD.zy RD.QH RD.EZ RD.inR RD.nK RD.zU".splitOn " ").toArray.map (fun s => (⟨Lean.mkIdent s.toName⟩ : Lean.Term)) ++ es.getElems; `(tactic| simp (config := { decide := true }) only [$[$l:term],*])
local macro_rules | `(tactic| exists 0, $es,*) => let l := ("RD.zQ RD.mG RD.gN RD.zr RD.bE RD.zf RD.LD RD.gT RD.XF".splitOn " ").toArray.map (fun s => (⟨Lean.mkIdent s.toName⟩ : Lean.Term)) ++ es.getElems; `(tactic| exists $[$l:term],*)
namespace LG
open PySem L2 RD
abbrev Lq:List Str:=["_law_script","_law_k"]
def v8:VB:=(sq (QF (bB<|b2 (gR 1) (b1 (gR 0) KH) Gs) (lF<|b2 (gR 0) (gR 1) WA)<|λρ=>some<|Out.nx ρ)<|lF<|zN 0)
def z7(ds:List D):Option D:=JI Lq v8 ds
abbrev Mn:List Str:=["_law_cell_here","_law_prime","_law_many"]
def Mo:VB:=(lF<|b2 (b2 (b2 (gR 0) (zN 48271) JR) (gR 1) SL) (gR 2) SL)
def zP(ds:List D):Option D:=JI Mn Mo ds
def Ki:VB:=(sq (qC 5<|λρ=>((zC (gV 0)<|zC (zN 9883)<|zC (b2 (b1 (gR 4) KH) (zN 1) qI) zO) ρ).bind zP)<|lF<|b2 (b2 (VJ (gR 4) (λ_=>some none) (oI<|gV 5) vL) (gR 3) qI) (VJ (gR 4) (oI<|gV 5) (λ_=>some none) vL) qI)
def Q2:VB:=(sq (qC 4<|b1 (λρ=>((zM 1 (QK<|zC (λρ=>((zC (gV 0)<|zC (zN 9887)<|zC (zN 3) zO) ρ).bind zP) zO) (gN 6) (λ_=>some true)<|b2 (gR 2) (λρ=>((zC (b2 (gR 0) (b2 (zN 3) (gR 6) JR) qI)<|zC (zN 9941)<|zC (zN 26) zO) ρ).bind zP) WA) ρ).map D.lst)<|eX "") Ki)
noncomputable abbrev Lr:List Str:=["_law_cell_here","_law_j","_law_letters","_law_sign","_law_tail","_law_at"]
def Ls:VB:=(sq (qC 2<|λ_=>some<|D.str "abcdefghijklmnopqrstuvwxyz")<|sq (qC 3<|b2 (gR 2) (b2 (b2 (λρ=>((zC (gV 0)<|zC (zN 9923)<|zC (zN 26) zO) ρ).bind zP) (b2 (zN 9) (gR 1) JR) qI) (zN 26) SL) WA) Q2)
def yI(ds:List D):Option D:=JI Lr Ls ds
abbrev Jz:List Str:=["_law_cell_here","_law_many"]
def Z7:VB:=(lF<|IR (b2 (b2 (gR 0) (zN 4) SL) (zN 2) WB)<|b2 (gR 1) (zN 2) jP)
def yR(ds:List D):Option D:=JI Jz Z7 ds
abbrev Lu:List Str:=["_law_cell_here","_law_many","_law_rows"]
def Lw:VB:=(sq (qC 2<|b2 (b2 (gR 1) (zN 2) FN) (b1 (λρ=>((zC (gV 0)<|zC (gV 1) zO) ρ).bind yR) Bc) qI)<|lF<|b2 (b2 (zN 1) (b2 (b2 (zN 1) (λρ=>((zC (gV 0)<|zC (zN 9949)<|zC (zN 3) zO) ρ).bind zP) qI) (gR 2) JR) qI) (b1 (b2 (λρ=>((zC (gV 0)<|zC (zN 9931)<|zC (zN 3) zO) ρ).bind zP) (zN 0) jP) Bc) qI)
def Z2(ds:List D):Option D:=JI Lu Lw ds
def zEc:VB:=(sq (qC 12<|b2 (λρ=>((zC (b2 (b2 (gR 10) (gR 11) qI) (zN 1) qI)<|zC (b2 (gR 1) (gR 8) WA) zO) ρ).map D.lst) (b1 (b2 (gR 11) (b2 (gR 7) (zN 1) FN) WB) Bc) WA)<|aK 5<|λρ=>((zC (λ_=>some<|D.str "tell")<|zC (b2 (gR 3) (zN 0) WA)<|zC (b2 (gR 3) (gR 11) WA)<|zC (λρ=>((zC (λρ=>((zC (gV 9)<|zC (gV 12) zO) ρ).map D.tup) zO) ρ).map D.tup) zO) ρ).map D.tup)
def zEd:VB:=(sq (qC 10<|b2 (b2 (gR 0) (zN 1) qI) (b2 (gR 8) (gR 7) JR) qI)<|sq (aK 6<|λρ=>((zC (gV 9)<|zC (gV 10) zO) ρ).map D.tup)<|sq (aK 5<|λρ=>((zC (λ_=>some<|D.str "tell")<|zC (gV 2)<|zC (b2 (gR 3) (zN 1) WA)<|zC (λρ=>((zC (λρ=>((zC (b2 (gR 4) (zN 0) WA)<|zC (b2 (gR 10) (zN 1) qI) zO) ρ).map D.tup) zO) ρ).map D.tup) zO) ρ).map D.tup)<|zl (Xg<|zC (zN 1)<|zC (gV 7) zO) (gN 11) zEc)
noncomputable abbrev Jf:List Str:=["_law_start","_law_goals","_law_one","_law_others","_law_words","_law_rows","_law_choices","_law_size_here","_law_j","_law_word_here","_law_at","_law_k","_law_after"]
def jx:VB:=(sq (iJ 5 zO)<|sq (iJ 6 zO)<|sq (qC 7<|b1 (gR 3) KH)<|sq (zl (i7<|gV 4) (gT 2<|bE (gN 8)<|bE (gN 9) mG) zEd)<|lF<|λρ=>((YT (λρ=>((zC (λρ=>((zC (λ_=>some<|D.str "tell")<|zC (gV 2)<|zC (b2 (gR 3) (zN 0) WA)<|zC (b1 (gR 6) CM) zO) ρ).map D.tup) zO) ρ).map D.lst) (gR 5) zy) ρ).map D.lst)
def yx(ds:List D):Option D:=JI Jf jx ds
def zF6:VB:=(aK 7<|λρ=>((zC (λ_=>some<|D.str "tell")<|zC (gV 4)<|zC (b2 (gR 5) (b2 (gR 12) (zN 1) qI) WA)<|zC (λρ=>((zC (λρ=>((zC (gV 10)<|zC (b2 (gR 11) (b2 (gR 12) (zN 1) qI) WA) zO) ρ).map D.tup) zO) ρ).map D.tup) zO) ρ).map D.tup)
def zF7:VB:=(sq (qC 11<|λρ=>((YT (λρ=>((zM 1 (QK<|zC (b2 (gR 2) (zN 2) FN) zO) (gN 13) (λ_=>some true)<|b2 (b2 (b2 (gR 1) (zN 1) qI) (b2 (gR 9) (b2 (gR 2) (zN 2) FN) JR) qI) (gR 13) qI) ρ).map D.lst) (λρ=>((zC (b2 (gR 3) (gR 9) WA) zO) ρ).map D.lst) zy) ρ).map D.lst)<|sq (aK 8<|λρ=>((zC (gV 10)<|zC (b2 (gR 11) (zN 0) WA) zO) ρ).map D.tup)<|zl (QK<|zC (b2 (gR 2) (zN 2) FN) zO) (gN 12) zF6)
def Jg:VB:=(sq (iJ 7 zO)<|sq (iJ 8 zO)<|sq (zl (i7<|gV 6) (gT 2<|bE (gN 9)<|bE (gN 10) mG) zF7)<|lF<|λρ=>((YT (λρ=>((zC (λρ=>((zC (λ_=>some<|D.str "tell")<|zC (gV 4)<|zC (b2 (gR 5) (zN 0) WA)<|zC (b1 (gR 8) CM) zO) ρ).map D.tup) zO) ρ).map D.lst) (gR 7) zy) ρ).map D.lst)
def ya:VB:=(sq (QF (RL<|λρ=>((zC (gV 0)<|zC (gV 2) zO) ρ).bind yR) (lF<|λρ=>((zC (gV 1)<|zC (gV 3)<|zC (gV 4)<|zC (gV 5)<|zC (gV 6) zO) ρ).bind yx)<|λρ=>some<|Out.nx ρ) Jg)
def Jh:VB:=(sq (qC 6<|λρ=>((iW (λρ=>((zM 1 (QK<|zC (b2 (zN 1) (λρ=>((zC (gV 0)<|zC (zN 9949)<|zC (zN 3) zO) ρ).bind zP) qI) zO) (gN 13) (λ_=>some true)<|λρ=>((zC (gV 0)<|zC (gV 13) zO) ρ).bind yI) ρ).map D.lst) wR) ρ).map D.lst) ya)
noncomputable abbrev Ka:List Str:=["_law_cell_here","_law_start","_law_many","_law_goals","_law_one","_law_others","_law_words","_law_rows","_law_choices","_law_j","_law_word_here","_law_afters","_law_k"]
def vg:VB:=(sq (qC 4<|λρ=>((zC (gV 0)<|zC (zN 9929)<|zC (gV 2) zO) ρ).bind zP)<|sq (qC 5 λρ=>((zM 1 (QK<|zC (b2 (gR 2) (zN 1) FN) zO) (gN 13) (λ_=>some true)<|b2 (b2 (b2 (gR 4) (zN 1) qI) (b2 (b2 (gR 13) (λρ=>((zC (gV 0)<|zC (zN 9901)<|zC (b2 (gR 2) (zN 1) FN) zO) ρ).bind zP) qI) (b2 (gR 2) (zN 1) FN) SL) qI) (gR 2) SL) ρ).map D.lst) Jh)
def qc(ds:List D):Option D:=JI Ka vg ds
noncomputable abbrev Ji:List Str:=["_law_cell_here","_law_here","_law_many","_law_goal","_law_one","_law_other","_law_words"]
def qd:VB:=(sq (qC 4<|λρ=>((zC (gV 0)<|zC (zN 9871)<|zC (gV 2) zO) ρ).bind zP)<|sq (qC 5<|b2 (b2 (b2 (gR 4) (zN 1) qI) (λρ=>((zC (gV 0)<|zC (zN 9859)<|zC (b2 (gR 2) (zN 1) FN) zO) ρ).bind zP) qI) (gR 2) SL)<|sq (qC 6<|λρ=>((iW (λρ=>((zC (λρ=>((zC (b2 (gR 0) (zN 1) qI)<|zC (zN 0) zO) ρ).bind yI)<|zC (λρ=>((zC (b2 (gR 0) (zN 1) qI)<|zC (zN 1) zO) ρ).bind yI) zO) ρ).map D.lst) wR) ρ).map D.lst)<|sq (QF (bB<|b2 (λρ=>((zC (gV 0)<|zC (zN 9931)<|zC (zN 3) zO) ρ).bind zP) (zN 1) WB) (lF<|λρ=>((zC (λ_=>some<|D.str "tell")<|zC (gV 4)<|zC (gV 5)<|zC (λρ=>((zC (λρ=>((zC (b2 (gR 6) (zN 0) WA)<|zC (gV 3) zO) ρ).map D.tup) zO) ρ).map D.tup) zO) ρ).map D.tup)<|λρ=>some<|Out.nx ρ)<|lF<|λρ=>((zC (λ_=>some<|D.str "tell")<|zC (gV 4)<|zC (gV 5)<|zC (λρ=>((zC (λρ=>((zC (b2 (gR 6) (zN 0) WA)<|zC (b2 (λρ=>((zC (gV 1)<|zC (gV 3) zO) ρ).map D.lst) (b2 (gR 0) (zN 2) SL) WA) zO) ρ).map D.tup)<|zC (λρ=>((zC (b2 (gR 6) (zN 1) WA)<|zC (b2 (λρ=>((zC (gV 3)<|zC (gV 1) zO) ρ).map D.lst) (b2 (gR 0) (zN 2) SL) WA) zO) ρ).map D.tup) zO) ρ).map D.tup) zO) ρ).map D.tup)
def yb(ds:List D):Option D:=JI Ji qd ds
def qE:VB:=(aK 3<|b2 (b2 (gR 3) (b1 (zN 1) BV) WA) (λρ=>((zC (gV 4)<|zC (gV 1) zO) ρ).bind Z2) qI)
def qe:VB:=(sq (iJ 7<|zM 1 (QK<|zC (zN 3) zO) (gN 9) (λ_=>some true)<|b2 (gR 3) (λρ=>((zC (b2 (gR 4) (b2 (zN 7) (gR 9) JR) qI)<|zC (zN 9907)<|zC (b1 (gR 3) KH) zO) ρ).bind zP) WA)<|sq (qC 8<|b2 (gR 7) (zN 0) WA)<|sq (QF (bB<|b2 (λρ=>((zC (gV 4)<|zC (zN 9931)<|zC (zN 3) zO) ρ).bind zP) (zN 0) jP) (zNz 7 (zN 0)<|b2 (b2 (gR 3) (b2 (gR 6) (zN 1) qI) WA) (zN 1) FN)<|λρ=>some<|Out.nx ρ)<|λρ=>(sq (iJ 5<|YT (gR 5) (λρ=>((zC (gV 4)<|zC (b2 (gR 3) (gR 6) WA)<|zC (gV 1)<|zC (gV 7) zO) ρ).bind qc) zy)<|QF (bB<|b2 (λρ=>((zC (gV 4)<|zC (zN 9931)<|zC (zN 3) zO) ρ).bind zP) (zN 0) jP) (aK 5<|λρ=>((zC (gV 4)<|zC (b2 (b2 (gR 3) (b2 (gR 6) (zN 1) qI) WA) (zN 1) FN)<|zC (gV 1)<|zC (gV 8) zO) ρ).bind yb)<|λρ=>some<|Out.nx ρ)<|frz 7 ρ)
noncomputable abbrev Ky:List Str:=["_law_script","_law_many","_law_cells","_law_starts","_law_cell_here","_law_places","_law_k","_law_goals","_law_after"]
def j8:VB:=(sq (qC 1<|b2 (zN 2) (λρ=>((zC (λρ=>((zC (gV 0)<|zC (zN 0) zO) ρ).bind z7)<|zC (zN 9973)<|zC (zN 3) zO) ρ).bind zP) qI)<|sq (qC 2 λρ=>((zM 1 (QK<|zC (b2 (zN 1) (λρ=>((zC (λρ=>((zC (gV 0)<|zC (zN 0) zO) ρ).bind z7)<|zC (zN 9967)<|zC (zN 3) zO) ρ).bind zP) qI) zO) (gN 9) (λ_=>some true)<|λρ=>((zC (gV 0)<|zC (b2 (zN 1) (gR 9) qI) zO) ρ).bind z7) ρ).map D.lst)<|sq (iJ 3<|zC (zN 0) zO)<|sq (zl (iL<|gV 2) (gN 4) qE)<|sq (iJ 5 zO)<|sq (zl (i7<|gV 2) (gT 2<|bE (gN 6)<|bE (gN 4) mG) qe)<|lF<|λρ=>((zC (gV 1)<|zC (b1 (λρ=>((YT (gR 5) (λρ=>((zC (λρ=>((zC (λ_=>some<|D.str "end") zO) ρ).map D.tup) zO) ρ).map D.lst) zy) ρ).map D.lst) CM) zO) ρ).map D.tup)
def qv(ds:List D):Option D:=JI Ky j8 ds
noncomputable def HE(c p m:Int):Int:=c*48271%p%m
theorem yz(c p:Int){m:Int}(h:0<m):0<=HE c p m:=OD _ (by omega)
theorem qA(c p:Int){m:Int}(h:0<m):HE c p m<m:=VC _ h
theorem Td{d:Int}(h0:0<=d)(h1:d<3):d=0\/d=1\/d=2:=by
 obtain⟨n,rfl⟩:=vD h0;exact(by decide:∀n:Nat,n<3->(n:Int)=0\/(n:Int)=1\/(n:Int)=2) n (HD.mp h1)
theorem AL{c p m:Int}(hp:0<p)(hm:0<m):zP [.int c,.int p,.int m]=some (.int<|HE c p m):=by
 exists 0,zP,Mo,hp,hm,HE,VF,kI,WA,WB
theorem zTp{ns:List Int}{k:Int}(h0:0<=k)(h:k<ns.length):VF (ns.map D.int) k=some (.int<|ns.getD k.toNat 0):=by
 have h2:k.toNat<ns.length:=by omega
 simp[VF,kI,h0,h,h2]
theorem Rq{ns:List Int}{k:Int}(h0:0<=k):z7 [.lst<|ns.map D.int,.int k]=some (.int<|ns.getD k.toNat 0):=by
 by_cases h:k<ns.length
 .exists 0,z7,v8,h,zTp h0 h,WA,WB
 .have h2:ns.getD k.toNat 0=0:=by
   have:ns[k.toNat]?=none:=by simp;omega
   simp[eI,this]
  exists 0,z7,v8,h,h2,WA,WB
def XO(c m:Int):Bool:=decide (c%4=2)&&decide (2<m)
theorem Rr:yR [.int c,.int m]=some (.bl<|XO c m):=by
 by_cases e:c%4=2
 .simp[yR,Z7,JI,lF,b2,EN,SL,IR,WB,QH,LD,dS,jP,e,XO]
 .simp[yR,Z7,JI,lF,b2,EN,SL,IR,WB,QH,LD,dS,jP,e,XO]
def lc(k:Int):Nat:=(97+k).toNat
theorem zTq(h0:0<=i)(h1:i<26):VF (fA "abcdefghijklmnopqrstuvwxyz").cps.toList i=some (lc i):=by
 have q:∀k:Fin 26,VF (fA "abcdefghijklmnopqrstuvwxyz").cps.toList (k.1:Int)=some (lc (k.1:Int)):=by decide +kernel
 have q:=q ⟨i.toNat,by omega⟩
 rwa [show((i.toNat:Nat):Int)=i from Int.toNat_of_nonneg h0]at q
theorem zKP:(fA "abcdefghijklmnopqrstuvwxyz").length<=1000000:=by decide +kernel
theorem Mp{i:Int}(h0:0<=i)(h1:i<26):WA (.str<|fA "abcdefghijklmnopqrstuvwxyz") (.int i)=some (.str ⟨#[lc i]⟩):=by
 simp only[WA,zKP,if_true,zTq h0 h1,uA]
theorem Te{i:Int}(h0:0<=i)(h1:i<26):97<=lc i/\lc i<=122:=by unfold lc;omega
def sg(c j:Int):Nat:=lc<|(HE c 9923 26+9*j)%26
theorem U0(c j:Int):97<=sg c j/\sg c j<=122:=Te (OD _<|by decide) (VC _<|by decide)
theorem Dg:(fA "")=⟨#[]⟩:=by decide +kernel
theorem pick(l:List Nat):∀(k i:Nat),i+k<=l.length->((JA k).map<|λm=>i+m).filterMap (λj=>l.toArray[j]?)=(l.drop i).take k
 |0,i,_=>by simp
 |k+1,i,h=>by
  have hi:i<l.length:=by omega
  have e:(JA<|k+1).map (λm=>i+m)=i::(JA k).map (λm=>i+1+m):=by
   rw[IM,eA,vB]
   congr 1
   apply cC;intro a _;simp only[Function.comp];omega
  rw[e,MC,pick l k (i+1)<|by omega];have z:l.toArray[i]?=some l[i]:=by simp[hi]
  rw[z,kE hi,kO]
theorem zJK(a:Int)(n i:Nat)(h:a=(i:Int)):(JA n).map (λ(k:Nat)=>(a+1*(k:Int)).toNat)=(JA n).map (λm=>i+m):=by
 apply cC;intro k _;subst h;omega
theorem zHF(l:List Nat)(n:Nat)(h:n<=l.length):Txt.slice ⟨l.toArray⟩ none (some (n:Int))=⟨(l.take n).toArray⟩:=by
 have z:IC none (some (n:Int)) 1 l.length=(JA n).map (λm=>0+m):=by
  unfold IC sliceRange;have h1:(1:Int)>0:=by decide
  have h2:¬ ((n:Int)<0):=dQ.mpr<|IE n;have h3:max 0 (min (n:Int) (l.length:Int))=(n:Int):=by rw[DT<|iN.mpr h,UR<|IE n]
  simp only[h1,if_true,h2,if_false,h3]
  have I:(if (0:Int)<(n:Int) then ((n:Int)-0+1-1)/1 else 0).toNat=n:=by
   split
   .rw[fN];omega
   .omega
  rw[I];exact zJK 0 n 0 rfl
 unfold Txt.slice;have j:(⟨l.toArray⟩:Str).length=l.length:=by simp[mD]
 rw[j,z];split
 .rename_i q;have:n=l.length:=by simpa using q
  subst this;rw[pF]
 .have:=pick l n 0 (by omega);rw[NH]at this;exact congrArg (λx=>(⟨x.toArray⟩:Str)) this
theorem zMd(l:List Nat)(n:Nat)(h:n<=l.length):Txt.slice ⟨l.toArray⟩ (some (n:Int)) none=⟨(l.drop n).toArray⟩:=by
 have z:IC (some (n:Int)) none 1 l.length=(JA<|l.length-n).map (λm=>n+m):=by
  unfold IC sliceRange;have h1:(1:Int)>0:=by decide
  have h2:¬ ((n:Int)<0):=dQ.mpr<|IE n;have h3:max 0 (min (n:Int) (l.length:Int))=(n:Int):=by rw[DT<|iN.mpr h,UR<|IE n]
  simp only[h1,if_true,h2,if_false,h3]
  have I:(if (n:Int)<(l.length:Int) then ((l.length:Int)-(n:Int)+1-1)/1 else 0).toNat=l.length-n:=by
   rw[fN,Int.add_sub_cancel];split
   .exact Int.toNat_sub ..
   .rename_i q;exact(Nat.sub_eq_zero_of_le<|iN.mp<|dQ.mp q).symm
  rw[I];exact zJK (n:Int) _ n rfl
 unfold Txt.slice;have j:(⟨l.toArray⟩:Str).length=l.length:=by simp[mD]
 rw[j,z];split
 .rename_i q
  have:n=0:=by
   have q':l.length-n=l.length:=by simpa using q
   cases l with
   |nil=>simpa using h
   |cons _ _=>simp at q';omega
  subst this;rfl
 .have:=pick l (l.length-n) n (by omega)
  have e3:(l.drop n).take (l.length-n)=l.drop n:=by
   rw[<- FJ];exact pF
  rw[e3]at this;exact congrArg (λx=>(⟨x.toArray⟩:Str)) this
theorem zOc(a b:List Nat):(⟨a.toArray⟩:Str)++(⟨b.toArray⟩:Str)=⟨(a++b).toArray⟩:=by
 show GL _ _=_;simp[GL]
theorem Qa(a:List Nat):(⟨a.toArray⟩:Str).length=a.length:=by simp[mD]
theorem nZ:Txt.join ⟨#[]⟩ []=⟨([]:List Nat).toArray⟩:=rfl
theorem oZ(A:Nat):Txt.join ⟨#[]⟩ [⟨#[A]⟩]=⟨[A].toArray⟩:=rfl
theorem pZ(A B:Nat):Txt.join ⟨#[]⟩ [⟨#[A]⟩,⟨#[B]⟩]=⟨[A,B].toArray⟩:=rfl
theorem Qb(A:Nat):(⟨#[A]⟩:Str).length=1:=rfl
theorem Qc:(⟨#[]⟩:Str).length=0:=rfl
theorem zQv(A:Nat):(⟨#[A]⟩:Str)=⟨[A].toArray⟩:=rfl
theorem zOd(c:Int):∃T:List Nat,(∀x∈T,97<=x/\x<=122)/\T.length<=2/\∀s1 s3 s4 s5:Sl,Q2 [.v<|.int c,s1,.v<|.str<|fA "abcdefghijklmnopqrstuvwxyz",s3,s4,s5]=Ki [.v<|.int c,s1,.v<|.str<|fA "abcdefghijklmnopqrstuvwxyz",s3,.v<|.str ⟨T.toArray⟩,s5]:=by
 have h1:=yz c 9887 (m:=3) (by decide);have h2:=qA c 9887 (m:=3) (by decide);have g0:=Mp (yz (c+0) 9941 (m:=26)<|by decide) (qA (c+0) 9941 (m:=26)<|by decide);have g1:=Mp (yz (c+3) 9941 (m:=26)<|by decide) (qA (c+3) 9941 (m:=26)<|by decide);have j:=Te (yz (c+0) 9941 (m:=26)<|by decide) (qA (c+0) 9941 (m:=26)<|by decide);have z:=Te (yz (c+3) 9941 (m:=26)<|by decide) (qA (c+3) 9941 (m:=26)<|by decide);have r2:JA 2=[0,1]:=rfl;rcases Td h1 h2 with e|e|e
 .exact⟨[],by simp,by simp,λs1 s3 s4 s5=>by exists 0,Q2,AL,e,r2,eX,ER,Dg,nZ,Qb,Qc,DG,JM,NG,XR,WB⟩
 .exact⟨[lc<|HE (c+0) 9941 26],by simpa using j,by simp,λs1 s3 s4 s5=>by exists 0,Q2,AL,e,r2,eX,ER,Dg,oZ,Qb,Qc,DG,JM,NG,jL,g0,WB⟩
 .exact⟨[lc<|HE (c+0) 9941 26,lc<|HE (c+3) 9941 26],by simpa using And.intro j z,by simp,λs1 s3 s4 s5=>by exists 0,Q2,AL,e,r2,eX,ER,Dg,pZ,Qb,Qc,DG,JM,NG,NF,g0,g1,WB⟩
theorem zTs(c:Int):∃pre post:List Nat,(∀x∈pre++post,97<=x/\x<=122)/\pre.length+post.length<=2/\∀j:Int,yI [.int c,.int j]=some (.str ⟨(pre++sg c j::post).toArray⟩):=by
 obtain⟨T,o,Z,ht⟩:=zOd c;have h1:=yz c 9883 (m:=(T.length:Int)+1) (by omega);have h2:=qA c 9883 (m:=(T.length:Int)+1) (by omega);obtain⟨n,O⟩:∃n:Nat,HE c 9883 ((T.length:Int)+1)=(n:Int):=⟨(HE c 9883<|(T.length:Int)+1).toNat,by omega⟩
 have z:n<=T.length:=by omega
 have hs:∀j:Int,WA (.str<|fA "abcdefghijklmnopqrstuvwxyz") (.int<|(HE c 9923 26+9*j)%26)=some (.str ⟨#[sg c j]⟩):=λj=>Mp (OD _<|by decide) (VC _<|by decide)
 have I:=zHF T n z;have J:=zMd T n z;have U:T.length<=1000000:=by omega
 have Y:(0:Int)<(T.length:Int)+1:=by omega
 have l1:(T.take n).length<=999999:=by simp;omega
 have S:(T.take n).length+1+(T.drop n).length<=1000000:=by simp;omega
 refine⟨T.take n,T.drop n,by rwa [List.take_append_drop],by simp;omega,λj=>?_⟩
 exists 0,yI,Ls,Ki,ht,AL,hs,Qa,O,I,J,zQv,zOc,U,Y,l1,S,HA,EB,WB
def Lt(a b:Str):Prop:=fR a b=true
theorem Lt.def{a b:Str}:Lt a b↔a.cps.toList<b.cps.toList:=by simp[Lt,fR]
theorem zOe{a b:Str}(h:a.cps.toList=b.cps.toList):a=b:=by
 cases a;cases b;simp only[IT];exact bQ.mp h
theorem Lt.trans(h:Lt a b)(k:Lt b c):Lt a c:=by
 rw[Lt.def]at *;exact List.lt_trans h k
theorem Lt.irrefl:¬ Lt a a:=by rw[Lt.def];exact FT _
theorem Lt.total(h:¬ Lt b a)(n:a≠b):Lt a b:=by
 rw[Lt.def]at *;rcases List.le_total (l₁:=a.cps.toList) (l₂:=b.cps.toList) with q|q
 .rcases Classical.em (a.cps.toList<b.cps.toList) with z|z
  .exact z
  .exact absurd (zOe<|EJ q<|ME.mp z) n
 .exact absurd (zOe<|EJ (ME.mp h) q) n
theorem Lt.ne(h:Lt a b):a≠b:=λe=>by subst e;exact Lt.irrefl h
abbrev qV(l:List Str):Prop:=l.Pairwise Lt
theorem Nv:∀{l:List Str},y∈cN x l↔y=x\/y∈l
 | []=>by simp[cN]
 |z::l=>by
  simp only[cN];split
  .simp only[nA,Nv (l:=l)];constructor
   .rintro(h|h|h)<;>simp[h]
   .rintro(h|h|h)<;>simp[h]
  .simp
theorem wj:∀{l:List Str},qV l->(∀y∈l,x≠y)->qV (cN x l)
 | [],_,_=>by simp[cN]
 |z::l,h,n=>by
  obtain⟨h1,h2⟩:=NA.mp h;simp only[cN];split
  .rename_i q;refine NA.mpr ⟨λy hy=>?_,wj h2 λy hy=>n y<|dA _ hy⟩;rcases Nv.mp hy with rfl|hy
   .exact q
   .exact h1 y hy
  .rename_i q;have hz:Lt x z:=Lt.total (by simpa[Lt] using q) (n z lA)
   exact NA.mpr ⟨λy hy=>by
    rcases nA.mp hy with rfl|hy
    .exact hz
    .exact hz.trans<|h1 y hy,h⟩
theorem P8:∀{l:List Str},y∈AM l↔y∈l
 | []=>by simp[AM]
 |x::l=>by simp only[AM,Nv,P8 (l:=l),nA]
theorem zLZ:∀{l:List Str},(cN x l).length=l.length+1
 | []=>rfl
 |z::l=>by simp only[cN];split<;>simp[zLZ (l:=l)]
theorem Q8:∀{l:List Str},(AM l).length=l.length
 | []=>rfl
 |x::l=>by simp only[AM,zLZ,Q8 (l:=l),iA]
theorem Kj:∀{l:List Str},l.Nodup->qV (AM l)
 | [],_=>by simp[AM]
 |x::l,h=>by
  obtain⟨h1,h2⟩:=NB.mp h;exact wj (Kj h2) λy hy e=>h1 (by subst e;exact P8.mp hy)
theorem zQw(l:List Str):RD.ER (l.map D.str)=some l:=by
 induction l with
 |nil=>rfl
 |cons x xs ih=>simp[RD.ER,ih]
theorem zJL{l:List Str}(h:l.length<64):wR (.lst<|l.map D.str)=some ((AM l).map D.str):=by
 cases l with
 |nil=>rfl
 |cons x xs=>
  have e:=zQw (x::xs);simp only[eA]at e;simp only[wR,FQ,CV,cA,eA,iA,kA,dX];rw[if_pos (by simpa using h),e];simp
def ML(w:Str):Prop:=1<=w.length/\w.length<=3/\∀x∈w.cps.toList,97<=x/\x<=122
theorem NV{j:Type}{l:List j}(h:l.length=3):∃a b c,l=[a,b,c]:=by
 match l,h with
 | [a,b,c],_=>exact⟨a,b,c,rfl⟩
theorem lT{j:Type}{l:List j}(h:l.length=2):∃a b,l=[a,b]:=by
 match l,h with
 | [a,b],_=>exact⟨a,b,rfl⟩
theorem pX{j:Type}{l:List j}(h:l.length=1):∃a,l=[a]:=by
 match l,h with
 | [a],_=>exact⟨a,rfl⟩
theorem zQx(c:Int):∃W:Int->Str,(∀j,ML<|W j)/\(∀j,yI [.int c,.int j]=some (.str<|W j))/\W 0≠W 1/\W 0≠W 2/\W 1≠W 2:=by
 obtain⟨pre,post,h1,h2,h3⟩:=zTs c
 have inj:∀i j:Int,sg c i≠sg c j->(⟨(pre++sg c i::post).toArray⟩:Str)≠⟨(pre++sg c j::post).toArray⟩:=λi j n e=>by
  have I:=congrArg (λs:Str=>s.cps.toList) e;simp at I;exact n I
 have b0:=yz c 9923 (m:=26) (by decide);have b1:=qA c 9923 (m:=26) (by decide);obtain⟨n,J⟩:=vD b0;rw[J]at b1;have z:=(by decide:∀n:Nat,n<26->lc (((n:Int)+9*0)%26)≠lc (((n:Int)+9*1)%26)/\lc (((n:Int)+9*0)%26)≠lc (((n:Int)+9*2)%26)/\lc (((n:Int)+9*1)%26)≠lc (((n:Int)+9*2)%26)) n<|HD.mp b1;rw[<- J]at z;refine⟨λj=>⟨(pre++sg c j::post).toArray⟩,λj=>⟨by simp[mD];omega,by simp[mD];omega,λx hx=>?_⟩,h3,inj 0 1 z.1,inj 0 2 z.2.1,inj 1 2 z.2.2⟩
 .simp at hx;rcases hx with hx|rfl|hx
  .exact h1 x (by simp[hx])
  .exact U0 c j
  .exact h1 x (by simp[hx])
inductive Pl where
 |fin|tell (a b:Int) (ch:List (Str×Int))
noncomputable def aE(p:Str×Int):D:=.tup [.str p.1,.int p.2]
def TB:Pl->D
 |.fin=>.tup [.str "end"]
 |.tell a b ch=>.tup [.str "tell",.int a,.int b,.tup<|ch.map aE]
structure tN(m:Int)(P:Int->Prop)(a b:Int)(ch:List (Str×Int)):Prop where
 a0:0<=a
 a1:a<m
 b0:0<=b
 b1:b<m
 ne:a≠b
 l0:1<=ch.length
 l1:ch.length<=3
 rs:qV (ch.map (·.1))
 wd:∀p∈ch,ML p.1
 nx:∀p∈ch,P p.2
def wM(m:Int)(P:Int->Prop):Pl->Prop
 |.fin=>True
 |.tell a b ch=>tN m P a b ch
theorem wM.mono{P Q:Int->Prop}(h:∀n,P n->Q n):∀{p:Pl},wM m P p->wM m Q p
 |.fin,_=>trivial
 |.tell a b ch,k=>⟨k.a0,k.a1,k.b0,k.b1,k.ne,k.l0,k.l1,k.rs,k.wd,λp hp=>h _<|k.nx p hp⟩
def MG(m:Int)(P:Int->Prop)(ds:List D):Prop:=∃ps:List Pl,ds=ps.map TB/\∀p∈ps,wM m P p/\p≠.fin
noncomputable def pr(e h a b:Int):Nat:=if a=e/\b=h then 1 else 0
theorem Tf(e h a b:Int):pr e h a b<=1:=by unfold pr;split<;>omega
theorem AQ{e h a b j b':Int}(n:a≠j\/b≠b'):pr e h a b+pr e h j b'<=1:=by unfold pr;split<;>split<;>omega
def aU(e h:Int):D->Nat
 |.tup [_,.int a,.int b,.tup ch]=>ch.length*pr e h a b
 |_=>0
def II(e h:Int):List D->Nat
 | []=>0
 |d::ds=>aU e h d+II e h ds
theorem e9(e h:Int):∀xs ys:List D,II e h (xs++ys)=II e h xs+II e h ys
 | [],_=>by simp[II]
 |x::xs,ys=>by simp only[MB,II,e9 e h xs ys];omega
theorem MG.nil{P:Int->Prop}:MG m P []:=⟨[],rfl,by simp⟩
theorem MG.app{P:Int->Prop}(h:MG m P xs)(k:MG m P ys):MG m P (xs++ys):=by
 obtain⟨p,rfl,h⟩:=h;obtain⟨q,rfl,k⟩:=k;refine⟨p++q,by simp,λx hx=>?_⟩;rcases oA.mp hx with hx|hx
 .exact h x hx
 .exact k x hx
theorem MG.mono{P Q:Int->Prop}(h:MG m P ds)(k:∀n,P n->Q n):MG m Q ds:=by
 obtain⟨ps,e,h⟩:=h;exact⟨ps,e,λp hp=>⟨(h p hp).1.mono k,(h p hp).2⟩⟩
theorem MG.cons{P:Int->Prop}(p:Pl)(hp:wM m P p)(h:MG m P ds)(hf:p≠.fin:=by simp):MG m P (TB p::ds):=by
 obtain⟨ps,rfl,h⟩:=h
 exact⟨p::ps,rfl,λq hq=>by
  rcases nA.mp hq with rfl|hq
  .exact⟨hp,hf⟩
  .exact h q hq⟩
theorem MG.t1{P:Int->Prop}(h1:0<=a/\a<m)(h2:0<=b/\b<m)(h3:a≠b)(z:ML w)(j:P n)(h:MG m P ds):
  MG m P (.tup [.str "tell",.int a,.int b,.tup [.tup [.str w,.int n]]]::ds):=
 MG.cons (.tell a b [(w,n)]) ⟨h1.1,h1.2,h2.1,h2.2,h3,by simp,by simp,by simp,by simpa using z,by simpa using j⟩ h
theorem r2:JA 2=[0,1]:=rfl
theorem r3:JA 3=[0,1,2]:=rfl
theorem zWE{N:List Str}{F:VB}{ds:List D}{d:D}(h:F (ds.map Sl.v++jA (N.length-ds.length) .un)=some (.rt d)):JI N F ds=some d:=by unfold JI;rw[h];rfl
theorem zY{F G:VB}{ρ ρ':mB}(h:F ρ=some (.nx ρ')):sq F G ρ=G ρ':=by simp only[sq,h,cA]
theorem zWF{F G:VB}(h:F ρ=some (.rt d)):sq F G ρ=some (.rt d):=by simp only[sq,h,cA]
def b2i(b:Bool):Int:=if b then 1 else 0
theorem DH{j:Type}{a:j}{l:List j}:VF (a::l) 0=some a:=by simp[VF,kI]
theorem UJ{j:Type}{a b:j}{l:List j}:VF (a::b::l) 1=some b:=by
 unfold VF kI;rw[if_pos<|by decide,if_pos (by simp;omega)];rfl
theorem at2{j:Type}{a b c:j}{l:List j}:VF (a::b::c::l) 2=some c:=by
 unfold VF kI;rw[if_pos<|by decide,if_pos (by simp;omega)];rfl
theorem gW{j:Type}{a b c d:j}{l:List j}:VF (a::b::c::d::l) 3=some d:=by
 unfold VF kI;rw[if_pos<|by decide,if_pos (by simp;omega)];rfl
theorem zOf{j:Type}(l:List j)(x:j):VF (l++[x]) (-1)=some x:=by
 unfold VF kI;rw[if_neg<|by decide,if_pos (by simp;omega)];have e:(-1+(((l++[x]).length:Nat):Int)).toNat=l.length:=by simp;omega
 rw[cA,e];simp
theorem oV{j:Type}{xs:List j}{i:Nat}{x:j}(h:xs[i]?=some x):VF xs (i:Int)=some x:=by
 have z:=(BA.mp h).1;unfold VF kI;rw[if_pos<|by omega,if_pos<|by omega,cA];simpa using h
theorem zJM{n:Nat}(h:n<=1000000):RD.inR (n:Int)=true:=by
 simp[RD.inR];omega
theorem JO{f:pD}{g:D->mB->Option mB}{B:VB}(h:f ρ=some ds):zl f g B ρ=zf g B ds ρ:=by simp only[zl,h,cA]
theorem pV{f:pD}{ρ:mB}{n:Nat}(h:f ρ=some [.int (n:Int)])(j:n<=1000000):QK f ρ=some (rng 0 n):=by
 unfold QK;rw[h,cA];exact(if_pos<|zJM j).trans (by rw[JC])
theorem yc{i:Nat}{f:dC}{ρ:mB}{d:D}(h:f ρ=some d):qC i f ρ=some (.nx<|ρ.set i<|.v d):=by unfold qC;rw[h,uA]
theorem zTv{f:dC}(h:f ρ=some d):lF f ρ=some (.rt d):=by unfold lF;rw[h,uA]
theorem qK{A B:dC}{op:D->D->Option D}{ρ:mB}{a b:D}{r:Option D}(h1:A ρ=some a)(h2:B ρ=some b)(h:op a b=r):b2 A B op ρ=r:=by
 rw[<- h];simp only[b2,h1,h2,cA]
theorem yS{A:dC}{B:pD}{ρ:mB}{a:D}{bs:List D}(h:A ρ=some a)(k:B ρ=some bs):(zC A B) ρ=some (a::bs):=by unfold zC;rw[h,k];rfl
theorem i9{m:Nat}{f:pD}{g:D->mB->Option mB}{p:kF}{e:dC}{ρ:mB}{ds ys:List D}(h1:f ρ=some ds)(h2:ds.length<=1000000)(h3:zQ g p e ds (ρ++jA m .un)=some ys):zM m f g p e ρ=some ys:=by unfold zM;rw[h1,cA,if_pos h2,h3]
theorem Nj{j:Type}{g:D->mB->Option mB}{f:dC}{ρ:mB}(emb out:j->D):∀xs:List j,(∀x∈xs,∃ρ1,g (emb x) ρ=some ρ1/\f ρ1=some (out x))->zQ g (λ_=>some true) f (xs.map emb) ρ=some (xs.map out)
 | [],_=>rfl
 |x::xs,h=>by
  obtain⟨ρ1,z,I⟩:=h x lA;have ih:=Nj emb out xs λy hy=>h y<|dA _ hy
  simp only[eA,zQ,z,cA,if_true,I,ih,uA]
theorem qw{g:D->mB->Option mB}{F:VB}(h:g d ρ=some ρ1)(k:F ρ1=some (.nx ρ')):zf g F (d::ds) ρ=zf g F ds ρ':=by simp only[zf,h,k,cA]
theorem zWG(c:Int){n:Nat}(Y:n<=3):∃(W:Int->Str)(ws:List Str),(∀j,yI [.int c,.int j]=some (.str<|W j))/\ws.length=n/\qV ws/\(∀w∈ws,ML w)/\wR (.lst<|((JA n).map λ(k:Nat)=>W<|0+(k:Int)).map D.str)=some (ws.map D.str):=by
 obtain⟨W,O,S,z,I,J⟩:=zQx c;refine⟨W,AM<|(JA n).map λ(k:Nat)=>W<|0+(k:Int),S,by rw[Q8];simp,Kj ?_,λw U=>?_,zJL (by simp;omega)⟩
 .have:n=0\/n=1\/n=2\/n=3:=by omega
  rcases this with rfl|rfl|rfl|rfl<;>simp[r2,r3,z,I,J]
 .obtain⟨k,_,rfl⟩:=OA.mp<|P8.mp U;exact O _
theorem V0(c:Int):∃(W:Int->Str)(z w1:Str),(∀j,yI [.int c,.int j]=some (.str<|W j))/\qV [z,w1]/\ML z/\ML w1/\wR (.lst [.str<|W 0,.str<|W 1])=some [.str z,.str w1]:=by
 obtain⟨W,ws,I,l,rs,ok,J⟩:=zWG c (n:=2) (by decide);obtain⟨z,w1,rfl⟩:=lT l;exact⟨W,z,w1,I,rs,ok z (by simp),ok w1 (by simp),by simpa[r2] using J⟩
theorem D2(c:Int):∃ws:List Str,(ws.length:Int)=1+HE c 9949 3/\qV ws/\(∀w∈ws,ML w)/\∀a1 a2 j I J d,ya [.v<|.int c,a1,a2,j,I,J,.v<|.lst<|ws.map D.str,.un,.un,.un,.un,.un,.un]=some (.rt d)->Jh [.v<|.int c,a1,a2,j,I,J,.un,.un,.un,.un,.un,.un,.un]=some (.rt d):=by
 have h0:=yz c 9949 (m:=3) (by decide);have h1:=qA c 9949 (m:=3) (by decide);obtain⟨n,U⟩:∃n:Nat,1+HE c 9949 3=(n:Int):=⟨(1+HE c 9949 3).toNat,by omega⟩
 obtain⟨W,ws,S,l,rs,ok,O⟩:=zWG c (n:=n) (by omega);refine⟨ws,by omega,rs,ok,λa1 a2 j I J d z=>(zY<|yc (d:=.lst<|ws.map D.str) ?_).trans z⟩;have k:zP [.int c,.int 9949,.int 3]=some (.int<|HE c 9949 3):=AL (by decide) (by decide);have e:=Nj (g:=gN 13) (f:=λρ=>((zC (gV 0)<|zC (gV 13) zO) ρ).bind yI) (ρ:=[.v<|.int c,a1,a2,j,I,J,.un,.un,.un,.un,.un,.un,.un,.un]) (λ(i:Nat)=>D.int<|0+(i:Int)) (λi=>D.str<|W<|0+(i:Int)) (JA n) λi _=>⟨_,rfl,S _⟩
 have q:zM 1 (QK<|zC (b2 (zN 1) (λρ=>((zC (gV 0)<|zC (zN 9949)<|zC (zN 3) zO) ρ).bind zP) qI) zO) (gN 13) (λ_=>some true) (λρ=>((zC (gV 0)<|zC (gV 13) zO) ρ).bind yI) [.v<|.int c,a1,a2,j,I,J,.un,.un,.un,.un,.un,.un,.un]=_:=i9 (pV (n:=n) (yS (qK (a:=.int 1) rfl k<|congrArg (λx=>some<|D.int x) U) rfl)<|by omega) (by simp[rng];omega) e;refine(congrArg (λo=>uE D.lst<|kG (uE D.lst o) wR) q).trans ?_;rw[vB]at O;rw[uA,cA];exact congrArg (uE D.lst) O
theorem md{m one r:Int}(hm:m=2\/m=3\/m=4)(a0:0<=one)(a1:one<m)(b0:0<=r)(b1:r<m-1):0<=(one+1+r)%m/\(one+1+r)%m<m/\one≠(one+1+r)%m:=
 ⟨OD _<|by omega,VC _<|by omega,by rcases hm with rfl|rfl|rfl<;>omega⟩
theorem Hb(c m:Int)(hm:m=2\/m=3\/m=4):∃(one:Int)(os:List Int),(0<=one/\one<m)/\(os.length:Int)=m-1/\os.Nodup/\(∀o∈os,0<=o/\o<m/\one≠o)/\∀st j d,Jh [.v<|.int c,.v st,.v<|.int m,.v j,.v<|.int one,.v<|.lst<|os.map D.int,.un,.un,.un,.un,.un,.un,.un]=some (.rt d)->qc [.int c,st,.int m,j]=some d:=by
 have m0:0<m:=by omega
 have m1:0<m-1:=by omega
 have a0:=yz c 9929 m0;have a1:=qA c 9929 m0;have b0:=yz c 9901 m1;have b1:=qA c 9901 m1;have k1:=AL (c:=c) (p:=9929) (by decide) m0;have k2:=AL (c:=c) (p:=9901) (by decide) m1;generalize HE c 9929 m=one at a0 a1 k1;generalize HE c 9901 (m-1)=r at b0 b1 k2;refine⟨one,(JA (m-1).toNat).map λ(k:Nat)=>(one+1+(0+(k:Int)+r)%(m-1))%m,⟨a0,a1⟩,by simp;omega,?_,?_,λst j d z=>zWE<|(zY<|yc k1).trans<|(zY<|yc (d:=.lst<|((JA (m-1).toNat).map λ(k:Nat)=>(one+1+(0+(k:Int)+r)%(m-1))%m).map D.int) ?_).trans z⟩
 .obtain⟨x,rfl⟩:=vD a0;obtain⟨y,rfl⟩:=vD b0;have z:∀n:Nat,n<5->∀x:Nat,x<n->∀y:Nat,y<n-1->((JA ((n:Int)-1).toNat).map λ(k:Nat)=>((x:Int)+1+(0+(k:Int)+(y:Int))%((n:Int)-1))%(n:Int)).Nodup:=by decide +kernel
  rcases hm with rfl|rfl|rfl
  .exact z 2 (by decide) x (HD.mp a1) y<|HD.mp b1
  .exact z 3 (by decide) x (HD.mp a1) y<|HD.mp b1
  .exact z 4 (by decide) x (HD.mp a1) y<|HD.mp b1
 .intro o I;obtain⟨k,hk,rfl⟩:=OA.mp I;exact md hm a0 a1 (OD _<|by omega)<|VC _ m1
 .have e:=Nj (g:=gN 13) (f:=b2 (b2 (b2 (gR 4) (zN 1) qI) (b2 (b2 (gR 13) (λρ=>((zC (gV 0)<|zC (zN 9901)<|zC (b2 (gR 2) (zN 1) FN) zO) ρ).bind zP) qI) (b2 (gR 2) (zN 1) FN) SL) qI) (gR 2) SL) (ρ:=[.v<|.int c,.v st,.v<|.int m,.v j,.v<|.int one,.un,.un,.un,.un,.un,.un,.un,.un,.un]) (λ(i:Nat)=>D.int<|0+(i:Int)) (λk=>D.int<|(one+1+(0+(k:Int)+r)%(m-1))%m) (JA (m-1).toNat) λi _=>⟨_,rfl,by exists 0,k2,m0,m1,VF,kI,WA,WB⟩
  rw[vB];exact congrArg (uE D.lst) (i9 (pV (n:=(m-1).toNat) (congrArg (λx=>some [D.int x])<|show m-1=(((m-1).toNat:Nat):Int) by omega)<|by omega) (by simp[rng];omega) e)
def tl(a b:Int)(l:List (Str×Int)):D:=TB<|.tell a b l
theorem X4{e h a b:Int}{l:List (Str×Int)}:aU e h (tl a b l)=l.length*pr e h a b:=by
 show(l.map aE).length*_=_;rw[kA]
theorem zTw{e h a x y z:Int}(h1:x≠y)(h2:x≠z)(h3:y≠z):pr e h a x+pr e h a y+pr e h a z<=1:=by
 have:=@AQ e h a x a y (.inr h1);have:=@AQ e h a x a z (.inr h2);have:=@AQ e h a y a z (.inr h3);omega
theorem zR5{e h a x y:Int}(n1:a≠x)(j:x≠y):pr e h a x+pr e h a y+pr e h x y<=1:=by
 have:=@AQ e h a x a y (.inr j);have:=@AQ e h a x x y (.inl n1);have:=@AQ e h a y x y (.inl n1);omega
theorem zWH{e h a x y z:Int}(n1:a≠x)(j:x≠y)(I:y≠z):pr e h a x+pr e h a y+pr e h x y+pr e h x z<=1:=by
 have:=@zR5 e h a x y n1 j;have:=@AQ e h a x x z (.inl n1);have:=@AQ e h a y x z (.inl n1);have:=@AQ e h x y x z (.inr I);omega
theorem MG.tW{m:Int}{P:Int->Prop}{ds:List D}{a b:Int}{l:List (Str×Int)}(h1:0<=a/\a<m)(h2:0<=b/\b<m)(h3:a≠b)(j:k6 1 l.length=true/\k6 l.length 3=true)(hr:qV (l.map (·.1)))(I:∀w∈l.map (·.1),ML w)(z:∀n∈l.map (·.2),P n)(h:MG m P ds):MG m P (tl a b l::ds):=
 MG.cons (.tell a b l) ⟨h1.1,h1.2,h2.1,h2.2,h3,WC j.1,WC j.2,hr,λ_ k=>I _<|PB k,λ_ k=>z _<|PB k⟩ h
theorem Rt{l:List (Str×Int)}(k:k6 l.length 2=true):II e h [tl a b l]<=2:=by
 rw[II,X4];exact Nat.mul_le_mul (WC k)<|Tf e h a b
theorem i2{s a b L:Int}{P:Prop}(h:0<a+b/\a+b<L):(s<s+a+b/\s+a+b<s+L)\/P:=.inl (by omega)
theorem i3{s a b c L:Int}{P:Prop}(h:0<a+b+c/\a+b+c<L):(s<s+a+b+c/\s+a+b+c<s+L)\/P:=.inl (by omega)
theorem i4{s a b c d L:Int}{P:Prop}(h:0<a+b+c+d/\a+b+c+d<L):(s<s+a+b+c+d/\s+a+b+c+d<s+L)\/P:=.inl (by omega)
theorem FZ(j:XO c m=false)(z:Jg [.v<|.int c,a1,.v<|.int m,a3,a4,a5,a6,.un,.un,.un,.un,.un,.un]=some (.rt d)):ya [.v<|.int c,a1,.v<|.int m,a3,a4,a5,a6,.un,.un,.un,.un,.un,.un]=some (.rt d):=by
 unfold ya;refine(zY ?_).trans z
 exists 0,NF,r2,r3,jL,NG,List.set,Rr,j,VF,kI,WA,WB
theorem tZ(j:XO c m=true)(e:yx [a1,a3,a4,a5,a6]=some d):ya [.v<|.int c,.v a1,.v<|.int m,.v a3,.v a4,.v a5,.v a6,.un,.un,.un,.un,.un,.un]=some (.rt d):=by
 unfold ya;refine zWF ?_
 exists 0,NF,r2,r3,jL,NG,List.set,Rr,j,e,VF,kI,WA,WB
theorem xO{a b c:Prop}(h:a/\b/\c):(a/\b)/\c:=⟨⟨h.1,h.2.1⟩,h.2.2⟩
def TG(m st g0 g1 g2:Int)(ds:List D):Prop:=MG m (λn=>(st<n/\n<st+(ds.length:Int))\/n=g0\/n=g1\/n=g2) ds/\∀e h,II e h ds<=3
theorem zTx{st g0 g1 g2 one m:Int}{os:List Int}{ws:List Str}(rs:qV ws)(S:∀w∈ws,ML w)(h1:0<=one/\one<m)(nd:os.Nodup)(O:∀o∈os,0<=o/\o<m/\one≠o)(lo:os.length=2\/os.length=3)(lw:ws.length=1\/ws.length=2\/ws.length=3):
  ∃ds,yx [.int st,.lst [.int g0,.int g1,.int g2],.int one,.lst<|os.map D.int,.lst<|ws.map D.str]=some (.lst ds)/\(ds.length:Int)=1+(ws.length:Int)*(os.length:Int)/\TG m st g0 g1 g2 ds:=by
 rcases lo with lo|lo
 case' inl=>
  obtain⟨z,I,rfl⟩:=lT lo;obtain⟨Y,n0⟩:=xO (O z<|by simp);obtain⟨Z,n1⟩:=xO (O I<|by simp);have d0:z≠I:=by simpa using nd
 case' inr=>
  obtain⟨z,I,o2,rfl⟩:=NV lo;obtain⟨Y,n0⟩:=xO (O z<|by simp);obtain⟨Z,n1⟩:=xO (O I<|by simp);obtain⟨q2,n2⟩:=xO (O o2<|by simp);obtain⟨⟨d0,d1⟩,U⟩:(z≠I/\z≠o2)/\I≠o2:=by simpa using nd
 all_goals rcases lw with lw|lw|lw
 case' inl.inl=>
  obtain⟨j,rfl⟩:=pX lw;refine⟨[tl one z [(j,st+1+0)],tl one I [(j,st+1+0+1)],tl z I [(j,g0)]],by kernel_rfl,rfl,?_,λe h=>?_⟩
 case' inl.inr.inl=>
  obtain⟨j,w1,rfl⟩:=lT lw;refine⟨[tl one z [(j,st+1+0),(w1,st+1+2)],tl one I [(j,st+1+0+1)],tl z I [(j,g0)],tl one I [(j,st+1+2+1)],tl z I [(w1,g1)]],by kernel_rfl,rfl,?_,λe h=>?_⟩
 case' inl.inr.inr=>
  obtain⟨j,w1,J,rfl⟩:=NV lw;refine⟨[tl one z [(j,st+1+0),(w1,st+1+2),(J,st+1+4)],tl one I [(j,st+1+0+1)],tl z I [(j,g0)],tl one I [(j,st+1+2+1)],tl z I [(w1,g1)],tl one I [(j,st+1+4+1)],tl z I [(J,g2)]],by kernel_rfl,rfl,?_,λe h=>?_⟩
 case' inr.inl=>
  obtain⟨j,rfl⟩:=pX lw;refine⟨[tl one z [(j,st+1+0)],tl one I [(j,st+1+0+1)],tl z I [(j,st+1+0+1+1)],tl z o2 [(j,g0)]],by kernel_rfl,rfl,?_,λe h=>?_⟩
 case' inr.inr.inl=>
  obtain⟨j,w1,rfl⟩:=lT lw;refine⟨[tl one z [(j,st+1+0),(w1,st+1+3)],tl one I [(j,st+1+0+1)],tl z I [(j,st+1+0+1+1)],tl z o2 [(j,g0)],tl one I [(j,st+1+3+1)],tl z I [(w1,st+1+3+1+1)],tl z o2 [(w1,g1)]],by kernel_rfl,rfl,?_,λe h=>?_⟩
 case' inr.inr.inr=>
  obtain⟨j,w1,J,rfl⟩:=NV lw;refine⟨[tl one z [(j,st+1+0),(w1,st+1+3),(J,st+1+6)],tl one I [(j,st+1+0+1)],tl z I [(j,st+1+0+1+1)],tl z o2 [(j,g0)],tl one I [(j,st+1+3+1)],tl z I [(w1,st+1+3+1+1)],tl z o2 [(w1,g1)],tl one I [(j,st+1+6+1)],tl z I [(J,st+1+6+1+1)],tl z o2 [(J,g2)]],by kernel_rfl,rfl,?_,λe h=>?_⟩
 all_goals simp only[iA,YB,II,X4]
 all_goals first|(have:=@zR5 e h _ _ _ n0 d0;omega)|(have:=@zWH e h _ _ _ _ n0 d0 U;omega)|(repeat first|exact MG.nil|refine MG.tW (by assumption) (by assumption) (by assumption) ⟨rfl,rfl⟩ rs S ?_ ?_|refine MG.t1 (by assumption) (by assumption) (by assumption) (S _<|by repeat constructor) ?_ ?_|exact NC _|refine RB.mpr ⟨?_,?_⟩|exact .inr (.inl rfl)|exact .inr (.inr<|.inl rfl)|exact .inr (.inr<|.inr rfl)|exact i2 (by decide)|exact i3 (by decide)|exact i4 (by decide))
theorem zQy{c st g0 g1 g2 one m:Int}{os:List Int}{ws:List Str}(rs:qV ws)(S:∀w∈ws,ML w)(h1:0<=one/\one<m)(nd:os.Nodup)(O:∀o∈os,0<=o/\o<m/\one≠o)(lo:(os.length:Int)=m-1)(hm:m=2\/m=3\/m=4)(lw:ws.length=1\/ws.length=2\/ws.length=3):
  ∃ds,Jg [.v<|.int c,.v<|.int st,.v<|.int m,.v<|.lst [.int g0,.int g1,.int g2],.v<|.int one,.v<|.lst<|os.map D.int,.v<|.lst<|ws.map D.str,.un,.un,.un,.un,.un,.un]=some (.rt<|.lst ds)/\(ds.length:Int)=1+(ws.length:Int)*(m-2)/\TG m st g0 g1 g2 ds:=by
 rcases hm with rfl|rfl|rfl
 case' inl=>
  obtain⟨z,rfl⟩:=pX (l:=os) (by omega);obtain⟨U,n0⟩:=xO (O z<|by simp)
 case' inr.inl=>
  obtain⟨z,I,rfl⟩:=lT (l:=os) (by omega);obtain⟨U,n0⟩:=xO (O z<|by simp);obtain⟨Z,n1⟩:=xO (O I<|by simp);have d0:z≠I:=by simpa using nd
 case' inr.inr=>
  obtain⟨z,I,o2,rfl⟩:=NV (l:=os) (by omega);obtain⟨U,n0⟩:=xO (O z<|by simp);obtain⟨Z,n1⟩:=xO (O I<|by simp);obtain⟨q2,n2⟩:=xO (O o2<|by simp);obtain⟨⟨d0,d1⟩,Y⟩:(z≠I/\z≠o2)/\I≠o2:=by simpa using nd
 all_goals rcases lw with lw|lw|lw
 case' inl.inl=>
  obtain⟨j,rfl⟩:=pX lw;refine⟨[tl one z [(j,g0)]],by kernel_rfl,rfl,?_,λe h=>?_⟩
 case' inl.inr.inl=>
  obtain⟨j,w1,rfl⟩:=lT lw;refine⟨[tl one z [(j,g0),(w1,g1)]],by kernel_rfl,rfl,?_,λe h=>?_⟩
 case' inl.inr.inr=>
  obtain⟨j,w1,J,rfl⟩:=NV lw;refine⟨[tl one z [(j,g0),(w1,g1),(J,g2)]],by kernel_rfl,rfl,?_,λe h=>?_⟩
 case' inr.inl.inl=>
  obtain⟨j,rfl⟩:=pX lw;refine⟨[tl one z [(j,st+1+0+0)],tl one I [(j,g0)]],by kernel_rfl,rfl,?_,λe h=>?_⟩
 case' inr.inl.inr.inl=>
  obtain⟨j,w1,rfl⟩:=lT lw;refine⟨[tl one z [(j,st+1+0+0),(w1,st+1+1+0)],tl one I [(j,g0)],tl one I [(w1,g1)]],by kernel_rfl,rfl,?_,λe h=>?_⟩
 case' inr.inl.inr.inr=>
  obtain⟨j,w1,J,rfl⟩:=NV lw;refine⟨[tl one z [(j,st+1+0+0),(w1,st+1+1+0),(J,st+1+2+0)],tl one I [(j,g0)],tl one I [(w1,g1)],tl one I [(J,g2)]],by kernel_rfl,rfl,?_,λe h=>?_⟩
 case' inr.inr.inl=>
  obtain⟨j,rfl⟩:=pX lw;refine⟨[tl one z [(j,st+1+0+0)],tl one I [(j,st+1+0+1)],tl one o2 [(j,g0)]],by kernel_rfl,rfl,?_,λe h=>?_⟩
 case' inr.inr.inr.inl=>
  obtain⟨j,w1,rfl⟩:=lT lw;refine⟨[tl one z [(j,st+1+0+0),(w1,st+1+2+0)],tl one I [(j,st+1+0+1)],tl one o2 [(j,g0)],tl one I [(w1,st+1+2+1)],tl one o2 [(w1,g1)]],by kernel_rfl,rfl,?_,λe h=>?_⟩
 case' inr.inr.inr.inr=>
  obtain⟨j,w1,J,rfl⟩:=NV lw;refine⟨[tl one z [(j,st+1+0+0),(w1,st+1+2+0),(J,st+1+4+0)],tl one I [(j,st+1+0+1)],tl one o2 [(j,g0)],tl one I [(w1,st+1+2+1)],tl one o2 [(w1,g1)],tl one I [(J,st+1+4+1)],tl one o2 [(J,g2)]],by kernel_rfl,rfl,?_,λe h=>?_⟩
 all_goals simp only[iA,YB,II,X4]
 all_goals first|(have:=Tf e h one z;omega)|(have:=@AQ e h one z one I (.inr d0);omega)|(have:=@zTw e h one z I o2 d0 d1 Y;omega)|(repeat first|exact MG.nil|refine MG.tW (by assumption) (by assumption) (by assumption) ⟨rfl,rfl⟩ rs S ?_ ?_|refine MG.t1 (by assumption) (by assumption) (by assumption) (S _<|by repeat constructor) ?_ ?_|exact NC _|refine RB.mpr ⟨?_,?_⟩|exact .inr (.inl rfl)|exact .inr (.inr<|.inl rfl)|exact .inr (.inr<|.inr rfl)|exact i2 (by decide)|exact i3 (by decide)|exact i4 (by decide))
theorem Qd(c st g0 g1 g2 m:Int)(hm:m=2\/m=3\/m=4):
  ∃ds,qc [.int c,.int st,.int m,.lst [.int g0,.int g1,.int g2]]=some (.lst ds)/\(ds.length:Int)=1+(1+HE c 9949 3)*(m-2+b2i (XO c m))/\TG m st g0 g1 g2 ds:=by
 have x0:=yz c 9949 (m:=3) (by decide);have x1:=qA c 9949 (m:=3) (by decide);obtain⟨one,os,h1,O,nd,I,run⟩:=Hb c m hm;obtain⟨ws,lw,rs,z,wd⟩:=D2 c;have J:ws.length=1\/ws.length=2\/ws.length=3:=by omega
 rw[<- lw]
 cases j:XO c m with
 |false=>
  obtain⟨ds,e,l,g⟩:=zQy (c:=c) (st:=st) (g0:=g0) (g1:=g1) (g2:=g2) rs z h1 nd I O hm J
  exact⟨ds,run _ _ _<|wd _ _ _ _ _ _<|FZ j e,by rw[l];simp[b2i],g⟩
 |true=>
  have m3:2<m:=by simp[XO]at j;exact j.2
  obtain⟨ds,e,l,g⟩:=zTx (st:=st) (g0:=g0) (g1:=g1) (g2:=g2) rs z h1 nd I (by omega) J;exact⟨ds,run _ _ _<|wd _ _ _ _ _ _<|tZ j e,by rw[l,show m-2+b2i true=(os.length:Int) by simp[b2i];omega],g⟩
def YK(c m:Int):Int:=1+(1+HE c 9949 3)*(m-2+b2i (XO c m))+b2i (decide<|0<HE c 9931 3)
theorem zWI(hm:m=2\/m=3\/m=4):Z2 [.int c,.int m]=some (.int<|YK c m):=by
 have h1:=yz c 9949 (m:=3) (by decide);have h2:=qA c 9949 (m:=3) (by decide);have h3 : -18446744073709551616<1+HE c 9949 3:=by omega
 have j:1+HE c 9949 3<18446744073709551616:=by omega
 exists 0,Z2,Lw,Rr,AL,YK,b2i,h3,j,decide_eq_true_eq,VF,kI,WA,WB
theorem zWJ(c z j m:Int)(hm:m=2\/m=3\/m=4):∃d,yb [.int c,.int z,.int m,.int j]=some d/\MG m (λn=>n=z\/n=j) [d]/\∀e h,II e h [d]<=2:=by
 obtain⟨W,I,w1,Y,S,U,J,hs⟩:=V0<|c+1;have m0:0<m:=by omega
 have m1:0<m-1:=by omega
 have a0:=yz c 9871 m0;have a1:=qA c 9871 m0;have b0:=yz c 9859 m1;have b1:=qA c 9859 m1;generalize Z:HE c 9871 m=one at a0 a1;generalize hr:HE c 9859 (m-1)=r at b0 b1;obtain⟨O,n0⟩:=xO<|md hm a0 a1 b0 b1;have cp:c%2=0\/c%2=1:=by omega
 by_cases e:HE c 9931 3=1
 .refine⟨tl one ((one+1+r)%m) [(I,j)],?_,MG.tW ⟨a0,a1⟩ O n0 ⟨rfl,rfl⟩ (by simp) (RB.mpr ⟨U,NC _⟩) (RB.mpr ⟨.inr rfl,NC _⟩) MG.nil,λe h=>Rt rfl⟩
  exists 0,yb,qd,AL,m0,m1,Y,hs,Z,hr,e,beq_iff_eq,beq_self_eq_true,VF,kI,WA,WB
  rfl
 .have ok:∀w∈[I,w1],ML w:=RB.mpr ⟨U,RB.mpr ⟨J,NC _⟩⟩;rcases cp with cp|cp
  case' inl=>refine⟨tl one ((one+1+r)%m) [(I,z),(w1,j)],?_,MG.tW ⟨a0,a1⟩ O n0 ⟨rfl,rfl⟩ S ok (RB.mpr ⟨.inl rfl,RB.mpr ⟨.inr rfl,NC _⟩⟩) MG.nil,λe h=>Rt rfl⟩
  case' inr=>refine⟨tl one ((one+1+r)%m) [(I,j),(w1,z)],?_,MG.tW ⟨a0,a1⟩ O n0 ⟨rfl,rfl⟩ S ok (RB.mpr ⟨.inr rfl,RB.mpr ⟨.inl rfl,NC _⟩⟩) MG.nil,λe h=>Rt rfl⟩
  all_goals
   exists 0,yb,qd,AL,m0,m1,Y,hs,Z,hr,beq_iff_eq,beq_self_eq_true,cp,(beq_eq_false_iff_ne.mpr e),VF,kI,WA,WB
   rfl
theorem mZ:kI 3 0=some 0:=rfl
theorem Tg{S:List Int}(z:∀x∈S,0<=x/\x<=T)(I:1<=S.length):∃g,VF (S.map D.int) (HE x 9907 (S.length:Int))=some (.int g)/\0<=g/\g<=T:=by
 have j:(0:Int)<(S.length:Int):=by omega
 have a0:=yz x 9907 j;have a1:=qA x 9907 j;obtain⟨i,hi⟩:∃i:Nat,HE x 9907 (S.length:Int)=(i:Int):=⟨(HE x 9907 (S.length:Int)).toNat,by omega⟩
 rw[hi]at a1 ⊢;have HI:i<S.length:=by omega
 exact⟨S[i],oV (by simp[HI]),z _<|iE _⟩
theorem Nw(hm:m=2\/m=3\/m=4)(h:(n:Int)=1+(1+HE c 9949 3)*(m-2+b2i (XO c m))):1<=(n:Int)/\(n:Int)<=10/\YK c m=(n:Int)+b2i (decide<|0<HE c 9931 3):=by
 have h1:=yz c 9949 (m:=3) (by decide);have h2:=qA c 9949 (m:=3) (by decide);refine⟨?_,?_,by rw[h];rfl⟩
 all_goals
  rw[h];have cs:=Td h1 h2;have bs:b2i (XO c m)=0\/b2i (XO c m)=1:=by unfold b2i;split<;>simp
  rcases hm with rfl|rfl|rfl<;>rcases cs with e|e|e<;>rcases bs with e' | e'<;>rw[e,e']<;>decide
theorem Qe(hm:m=2\/m=3\/m=4):1<=YK c m/\YK c m<=11:=by
 obtain⟨ds,_,l,_,_⟩:=Qd c 0 0 0 0 m hm;obtain⟨a,b,e⟩:=Nw hm l;have:b2i (decide<|0<HE c 9931 3)=0\/b2i (decide<|0<HE c 9931 3)=1:=by unfold b2i;split<;>simp
 omega
theorem Xh{T a L g0 g1 g2 n:Int}(a0:0<=a)(l:a+L<=T+1)(j:0<=g0/\g0<=T)(z:0<=g1/\g1<=T)(I:0<=g2/\g2<=T)(h:(a<n/\n<a+L)\/n=g0\/n=g1\/n=g2):0<=n/\n<T+1:=by
 rcases h with h|rfl|rfl|rfl
 .exact⟨d6 a0<|Int.le_of_lt h.1,Int.lt_of_lt_of_le h.2 l⟩
 .exact⟨j.1,dI j.2⟩
 .exact⟨z.1,dI z.2⟩
 .exact⟨I.1,dI I.2⟩
theorem zQz{m:Int}(hm:m=2\/m=3\/m=4){S:List Int}{T:Int}(j:∀x∈S,0<=x/\x<=T)(Y:1<=S.length){k:Nat}{a c:Int}(h1:S[k]?=some a)(h2:S[k+1]?=some (a+YK c m)){ds:List D}(hd:ds.length<=100)(s0 s2 s7 s8:Sl):
  ∃es vI CP,qe [s0,.v<|.int m,s2,.l<|S.map D.int,.v<|.int c,.l ds,.v<|.int k,s7,s8]=some (.nx [s0,.v<|.int m,s2,.l<|S.map D.int,.v<|.int c,.l<|ds++es,.v<|.int k,vI,CP]) /\
   (es.length:Int)=YK c m/\MG m (λn=>0<=n/\n<T+1) es/\∀e h,II e h es<=5:=by
 have hn:(0:Int)<(S.length:Int):=by omega
 have ha:=j a<|xA h1;have hb:=j _<|xA h2;obtain⟨g0,p0,u0⟩:=Tg (x:=c+0) j Y;obtain⟨g1,p1,u1⟩:=Tg (x:=c+7) j Y;obtain⟨g2,p2,u2⟩:=Tg (x:=c+14) j Y;have q1:VF (S.map D.int) (k:Int)=some (.int a):=oV (by simp[h1]);have q2:VF (S.map D.int) ((k:Int)+1)=some (.int<|a+YK c m):=oV (i:=k+1) (by simp[h2]);by_cases t:0<HE c 9931 3
 .obtain⟨es,U,l1,O,J⟩:=Qd c a (a+YK c m-1) g1 g2 m hm;obtain⟨x,e2,G2,C2⟩:=zWJ c (a+YK c m-1) g0 m hm;obtain⟨y0,y1,Z⟩:=Nw hm l1;rw[show b2i (decide<|0<HE c 9931 3)=1 by simp[b2i,t]]at Z;have z0:es.length<=10:=by omega
  have I:ds.length+es.length<=1000000:=QA (DL hd z0) (by decide);have z2:ds.length+es.length<16000000:=WI I (by decide);refine⟨es++[x],.v<|.lst [.int<|a+YK c m-1,.int g1,.int g2],.v<|.int g0,?_,by simp;omega,(O.mono λn h=>Xh ha.1 (by omega) ⟨by omega,by omega⟩ u1 u2 h).app (G2.mono λn h=>by rcases h with rfl|rfl<;>omega),λe h=>?_⟩
  .exists 0,qe,AL,hn,p0,p1,p2,q1,q2,U,e2,t,I,z2,DH,mZ,r3,AX,EB,WA,WB
  .rw[e9];exact DL (J e h)<|C2 e h
 .obtain⟨es,U,l1,O,J⟩:=Qd c a g0 g1 g2 m hm;obtain⟨y0,y1,Z⟩:=Nw hm l1;rw[show b2i (decide<|0<HE c 9931 3)=0 by simp[b2i,t]]at Z;have z0:es.length<=10:=by omega
  have I:ds.length+es.length<=1000000:=QA (DL hd z0) (by decide);refine⟨es,.v<|.lst [.int g0,.int g1,.int g2],.v<|.int g0,?_,by omega,O.mono λn h=>Xh ha.1 (by omega) u0 u1 u2 h,λe h=>QA (J e h)<|by decide⟩
  exists 0,qe,AL,hn,p0,p1,p2,q1,q2,U,t,I,DH,mZ,r3,AX,WA,WB
def ZD(m a:Int):List Int->List Int
 | []=>[a]
 |c::cs=>a::ZD m (a+YK c m) cs
theorem zOh(m:Int):∀(cs:List Int)(a:Int),(ZD m a cs).length=cs.length+1
 | [],_=>rfl
 |c::cs,a=>by rw[ZD,iA,zOh m cs,iA]
theorem zR6(hm:m=2\/m=3\/m=4):∀(cs:List Int)(a x:Int),x∈ZD m a cs->a<=x/\x<=a+11*(cs.length:Int)
 | [],a,x,h=>by simp[ZD]at h;subst h;simp
 |c::cs,a,x,h=>by
  have sz:=Qe (c:=c) hm;rcases nA.mp h with rfl|h
  .simp only[iA];omega
  .have:=zR6 hm cs _ x h;simp only[iA];omega
def tot(m a:Int):List Int->Int
 | []=>a
 |c::cs=>tot m (a+YK c m) cs
theorem zR7(hm:m=2\/m=3\/m=4):∀(cs:List Int)(a:Int),a+cs.length<=tot m a cs/\tot m a cs<=a+11*(cs.length:Int)/\∀x∈ZD m a cs,x<=tot m a cs
 | [],a=>by simp[tot,ZD]
 |c::cs,a=>by
  have sz:=Qe (c:=c) hm;obtain⟨j,i2,i3⟩:=zR7 hm cs<|a+YK c m;simp only[tot,ZD,iA];refine⟨by omega,by omega,λx hx=>?_⟩;rcases nA.mp hx with rfl|hx
  .omega
  .exact i3 x hx
theorem zLa(hm:m=2\/m=3\/m=4):∀(cs pre:List Int)(a:Int)(s0 s2 s4 s5 s6 s7 s8:Sl),pre.length+cs.length<=100->∃j,zf (gN 4) qE (cs.map D.int) [s0,.v<|.int m,s2,.l<|(pre++[a]).map D.int,s4,s5,s6,s7,s8]=some (.nx [s0,.v<|.int m,s2,.l<|(pre++ZD m a cs).map D.int,j,s5,s6,s7,s8])
 | [],pre,a,s0,s2,s4,s5,s6,s7,s8,_=>⟨s4,rfl⟩
 |c::cs,pre,a,s0,s2,s4,s5,s6,s7,s8,hl=>by
  rw[iA]at hl;obtain⟨j,ih⟩:=zLa hm cs (pre++[a]) (a+YK c m) s0 s2 (.v<|.int c) s5 s6 s7 s8 (by simp;omega);refine⟨j,?_⟩;have z:=zWI (c:=c) hm;have I:=zOf (pre.map D.int)<|D.int a;have J:pre.length+1<16000000:=by omega
  have st:qE [s0,.v<|.int m,s2,.l<|(pre++[a]).map D.int,.v<|.int c,s5,s6,s7,s8]=some (.nx [s0,.v<|.int m,s2,.l<|(pre++[a]++[a+YK c m]).map D.int,.v<|.int c,s5,s6,s7,s8]):=by
   exists 0,qE,GA,I,z,J,WA,WB
  have go:zf (gN 4) qE (D.int c::cs.map D.int) [s0,.v<|.int m,s2,.l<|(pre++[a]).map D.int,s4,s5,s6,s7,s8]=zf (gN 4) qE (cs.map D.int) [s0,.v<|.int m,s2,.l<|(pre++[a]++[a+YK c m]).map D.int,.v<|.int c,s5,s6,s7,s8]:=by
   rw[zf,show gN 4 (D.int c) [s0,.v<|.int m,s2,.l<|(pre++[a]).map D.int,s4,s5,s6,s7,s8]=some [s0,.v<|.int m,s2,.l<|(pre++[a]).map D.int,.v<|.int c,s5,s6,s7,s8] from rfl,cA,st];rfl
  rw[eA,go,ih,ZD,EB];rfl
theorem zR8{m:Int}(hm:m=2\/m=3\/m=4){S:List Int}{T:Int}(J:∀x∈S,0<=x/\x<=T)(O:1<=S.length):∀(cs:List Int)(k:Nat)(a:Int)(ds:List D)(s0 s2 s4 s6 s7 s8:Sl),S.drop k=ZD m a cs->(ds.length:Int)=a->ds.length+11*cs.length<=100->MG m (λn=>0<=n/\n<T+1) ds ->
  ∃j U Y I z,zf (gT 2<|bE (gN 6)<|bE (gN 4) mG) qe (NO k<|cs.map D.int) [s0,.v<|.int m,s2,.l<|S.map D.int,s4,.l ds,s6,s7,s8]=some (.nx [s0,.v<|.int m,s2,.l<|S.map D.int,U,.l j,Y,I,z]) /\
   (j.length:Int)=tot m a cs/\MG m (λn=>0<=n/\n<T+1) j/\∀e h,II e h j<=II e h ds+5*cs.length
 | [],k,a,ds,s0,s2,s4,s6,s7,s8,_,hd,_,hG=>⟨ds,s4,s6,s7,s8,rfl,hd,hG,λ_ _=>wA _⟩
 |c::cs,k,a,ds,s0,s2,s4,s6,s7,s8,hk,hd,hb,hG=>by
  have sz:=Qe (c:=c) hm;rw[iA]at hb
  have h1:S[k]?=some a:=by
   have:=congrArg (λl=>l[0]?) hk;simpa[ZD] using this
  have h2:S[k+1]?=some (a+YK c m):=by
   have:=congrArg (λl=>l[1]?) hk;simp only[List.getElem?_drop,ZD,fB]at this;rw[this];cases cs<;>rfl
  have rQ:S.drop (k+1)=ZD m (a+YK c m) cs:=by
   rw[<- List.drop_drop,hk];rfl
  obtain⟨es,I,z,Z,e2,e3,e4⟩:=zQz hm J O h1 h2 (ds:=ds) (by omega) s0 s2 s7 s8;obtain⟨j,t4,t6,t7,t8,i1,i2,i3,i4⟩:=zR8 hm J O cs (k+1) (a+YK c m) (ds++es) s0 s2 (.v<|.int c) (.v<|.int k) I z rQ (by simp;omega) (by simp;omega)<|hG.app e3;refine⟨j,t4,t6,t7,t8,?_,i2,i3,λe h=>?_⟩
  .rw[eA,NO,zf,show gT 2 (bE (gN 6)<|bE (gN 4) mG) (.tup [.int k,.int c]) [s0,.v<|.int m,s2,.l<|S.map D.int,s4,.l ds,s6,s7,s8]=some [s0,.v<|.int m,s2,.l<|S.map D.int,.v<|.int c,.l ds,.v<|.int k,s7,s8] from rfl,cA,Z];exact i1
  .have a1:=i4 e h;have a2:=e4 e h;rw[e9]at a1;rw[iA];omega
theorem zHG(ns:List Int)(ρ:mB)(j:ρ=[.v<|.lst<|ns.map D.int,s1,.un,.un,.un,.un,.un,.un,.un,.un]):∀(is:List Nat),zQ (gN 9) (λ_=>some true) (λρ=>((zC (gV 0)<|zC (b2 (zN 1) (gR 9) qI) zO) ρ).bind z7) (is.map λ(i:Nat)=>D.int<|0+(i:Int)) ρ=some ((is.map λi=>ns.getD (1+i) 0).map D.int)
 | []=>rfl
 |i::is=>by
  have ih:=zHG ns ρ j is;subst j;have k:=Rq (ns:=ns) (k:=1+(0+(i:Int))) (by omega);rw[show(1+(0+(i:Int))).toNat=1+i by omega,ZF]at k;rw[eA,zQ,ih]
  exists k,VF,kI,WA,WB,LD,XF,gN,gT,bE,mG,zr,zf
theorem zQ0(ns:List Int):∃m ds,(2<=m/\m<=4)/\qv [.lst<|ns.map D.int]=some (.tup [.int m,.tup<|ds++[.tup [.str "end"]]])/\1<=ds.length/\ds.length<=39/\MG m (λn=>0<=n/\n<(ds.length:Int)+1) ds/\∀e h,II e h ds<=15:=by
 have xa:=yz (ns.getD 0 0) 9973 (m:=3) (by decide);have xb:=qA (ns.getD 0 0) 9973 (m:=3) (by decide);have xc:=yz (ns.getD 0 0) 9967 (m:=3) (by decide);have xd:=qA (ns.getD 0 0) 9967 (m:=3) (by decide);have k0:z7 [.lst<|ns.map D.int,.int 0]=some (.int<|ns.getD 0 0):=Rq (by decide);have hm:2+HE (ns.getD 0 0) 9973 3=2\/2+HE (ns.getD 0 0) 9973 3=3\/2+HE (ns.getD 0 0) 9973 3=4:=by rcases Td xa xb with e|e|e<;>rw[e]<;>decide
 obtain⟨r,hr⟩:∃r:Nat,1+HE (ns.getD 0 0) 9967 3=(r:Int):=⟨(1+HE (ns.getD 0 0) 9967 3).toNat,by omega⟩
 have I:1<=r/\r<=3:=by omega
 generalize em:2+HE (ns.getD 0 0) 9973 3=m at hm;have cl:=zHG (s1:=.v<|.int m) ns _ rfl<|JA r;generalize nW:((JA r).map λi=>ns.getD (1+i) 0)=cs at cl;have lc:cs.length=r:=by rw[<- nW];simp
 obtain⟨t1,t2,t3⟩:=zR7 hm cs 0;have ls:=zOh m cs 0;have U:∀x∈ZD m 0 cs,0<=x/\x<=tot m 0 cs:=λx hx=>⟨(zR6 hm cs 0 x hx).1,t3 x hx⟩
 obtain⟨s4,l1⟩:=zLa hm cs [] 0 (.v<|.lst<|ns.map D.int) (.v<|.lst<|cs.map D.int) .un .un .un .un .un (by simp;omega);obtain⟨ds,u4,u6,u7,u8,Z,d1,O,S⟩:=zR8 hm U (by omega) cs 0 0 [] (.v<|.lst<|ns.map D.int) (.v<|.lst<|cs.map D.int) s4 .un .un .un rfl rfl (by simp;omega) MG.nil;have Y:ds.length<=33:=by omega
 have z1:ds.length+1<=1000000:=QA (YR Y) (by decide);have z2:r<=1000000:=QA I.2 (by decide);refine⟨m,ds,by omega,?_,by omega,by omega,O.mono λn h=>by omega,λe h=>by have:=S e h;simp only[II]at this;omega⟩;rw[DB,DB,eA,vC]at l1;have rl:(rng 0 r).length<=1000000:=by simp[rng];omega
 show(j8 [.v<|.lst<|ns.map D.int,.un,.un,.un,.un,.un,.un,.un,.un]).bind _=_;unfold j8;rw[zY (ρ':=[.v<|.lst<|ns.map D.int,.v<|.int m,.un,.un,.un,.un,.un,.un,.un]) ?g1,zY (ρ':=[.v<|.lst<|ns.map D.int,.v<|.int m,.v<|.lst<|cs.map D.int,.un,.un,.un,.un,.un,.un]) ?g2,zY (ρ':=[.v<|.lst<|ns.map D.int,.v<|.int m,.v<|.lst<|cs.map D.int,.l [.int 0],.un,.un,.un,.un,.un]) rfl,zY<|(JO (ds:=cs.map D.int) rfl).trans l1,zY (ρ':=[.v<|.lst<|ns.map D.int,.v<|.int m,.v<|.lst<|cs.map D.int,.l<|(ZD m 0 cs).map D.int,s4,.l [],.un,.un,.un]) rfl,zY<|(JO (ds:=NO 0<|cs.map D.int) rfl).trans Z,zTv (d:=.tup [.int m,.tup<|ds++[.tup [.str "end"]]]) ?g3]
 .rfl
 case g1=>
  refine(yc (d:=.int m) ?_).trans rfl
  exists 0,k0,AL,em,VF,kI,WA,WB
 case g2=>
  refine(yc (d:=.lst<|cs.map D.int) ?_).trans rfl
  have J:QK (zC (b2 (zN 1) (λρ=>((zC (λρ=>((zC (gV 0)<|zC (zN 0) zO) ρ).bind z7)<|zC (zN 9967)<|zC (zN 3) zO) ρ).bind zP) qI) zO) [.v<|.lst<|ns.map D.int,.v<|.int m,.un,.un,.un,.un,.un,.un,.un]=some (rng 0 r):=by
   refine pV ?_ z2;rw[<- hr]
   exists 0,k0,AL,VF,kI,WA,WB
  unfold zM;rw[J,cA,if_pos rl];exact congrArg (uE D.lst) cl
 case g3=>
  exists 0,z1,VF,kI,WA,WB
abbrev Kk:List Str:=["place"]
def P7:VB:=(sq (QF (bB<|b2 (b2 (gR 0) (zN 0) WA) (λ_=>some<|D.str "end") WB) (lF<|λρ=>(zO ρ).map D.tup)<|λρ=>some<|Out.nx ρ)<|lF<|b2 (gR 0) (zN 3) WA)
def yG(ds:List D):Option D:=JI Kk P7 ds
structure yD(m:Int)(ps:List Pl):Prop where
 m0:2<=m
 m1:m<=4
 n0:1<=ps.length
 n1:ps.length<=40
 ok:∀p∈ps,wM m (λn=>0<=n/\n<(ps.length:Int)) p
def xB(m:Int)(ps:List Pl):D:=.tup [.int m,.tup<|ps.map TB]
theorem zQ1(ns:List Int):∃m ps,qv [.lst<|ns.map D.int]=some (xB m ps)/\yD m ps/\(∃rows,ps=rows++[.fin]/\1<=rows.length/\∀p∈rows,p≠.fin)/\∀e h,II e h (ps.map TB)<=15:=by
 obtain⟨m,ds,hm,e,h1,h2,⟨ps,rfl,h3⟩,j⟩:=zQ0 ns;rw[kA]at h1 h2 h3;refine⟨m,ps++[.fin],by rw[e];simp[xB,TB],⟨hm.1,hm.2,by simp,by simp;omega,λp hp=>?_⟩,⟨ps,rfl,h1,λp hp=>(h3 p hp).2⟩,λe h=>by rw[GA,e9];exact j e h⟩;rw[rA,HA];rcases oA.mp hp with hp|hp
 .exact(h3 p hp).1
 .simp at hp;subst hp;trivial
def WF:Pl->List (Str×Int)
 |.fin=>[]
 |.tell _ _ ch=>ch
theorem Qf:((fA "tell" : Str)==fA "end")=false:=by decide +kernel
theorem Nk(p:Pl):yG [TB p]=some (.tup<|(WF p).map aE):=by
 cases p with
 |fin=>exists 0,yG,P7,TB,DH,WF,beq_self_eq_true,WA,WB
 |tell a b ch=>exists 0,yG,P7,TB,DH,gW,WF,Qf,WA,WB
theorem bT{ps:List Pl}{n:Int}(h0:0<=n)(h1:n<(ps.length:Int)):∃p,p∈ps/\ps[n.toNat]?=some p/\VF (ps.map TB) n=some (TB p):=by
 have h2:n.toNat<ps.length:=by omega
 refine⟨ps[n.toNat],iE _,by simp[h2],?_⟩;simp[VF,kI,h0,h1,h2]
theorem wM.next{P:Int->Prop}(h:wM m P p){q:Str×Int}(hq:q∈WF p):P q.2:=by
 cases p with
 |fin=>simp[WF]at hq
 |tell a b ch=>exact h.nx q hq
theorem wM.rise{P:Int->Prop}(h:wM m P p):qV ((WF p).map (·.1)):=by
 cases p with
 |fin=>simp[WF]
 |tell a b ch=>exact h.rs
theorem wM.few{P:Int->Prop}(h:wM m P p):(WF p).length<=3:=by
 cases p with
 |fin=>simp[WF]
 |tell a b ch=>exact h.l1
theorem zw{z:Type}{g:D->mB->Option mB}{p:kF}{f:dC}{emb:z->D}(j:z->Bool)(out:z->D):
  ∀(xs:List z),(∀x∈xs,∃ρ1,g (emb x) ρ=some ρ1/\p ρ1=some (j x)/\(j x=true->f ρ1=some (out x)))->zQ g p f (xs.map emb) ρ=some ((xs.filter j).map out)
 | [],_=>rfl
 |x::xs,h=>by
  have ih:=zw j out xs λy hy=>h y<|dA _ hy
  obtain⟨ρ1,I,J,e3⟩:=h x lA;rw[eA,dB];show(g (emb x) ρ).bind _=_;rw[I,cA,J,cA]
  cases t:j x with
  |true=>rw[if_pos rfl,e3 t,cA,ih,if_pos rfl];rfl
  |false=>rw[if_neg YA,ih,if_neg YA]
theorem zTz{j:Type}(f:j->D)(xs:List j)(lo hi:Option Int):∃ys:List j,zr (xs.map f) lo hi=ys.map f/\ys.length<=xs.length/\∀y∈ys,y∈xs:=by
 refine⟨(xs.drop<|HT.MD (xs.map f).length 0 lo).take<|HT.MD (xs.map f).length (xs.map f).length hi-HT.MD (xs.map f).length 0 lo,?_,?_,λy hy=>List.mem_of_mem_drop<|ON hy⟩
 .unfold zr;simp only[UV,List.map_drop]
 .exact((gQ _ _).trans<|List.drop_sublist _ _).length_le
theorem zWK(p:Pl):LD (TB p) (.tup [.str "end"])=(match p with | .fin=>true|_=>false):=by
 cases p with
 |fin=>simp[TB,LD,XF]
 |tell a b ch=>simp[TB,LD,XF]
abbrev Kl:List Str:=["place","dancer"]
def Q7:VB:=(lF<|IR (b2 (b2 (gR 0) (zN 0) WA) (λ_=>some<|D.str "tell") WB)<|b2 (gV 1) (λρ=>((zC (b2 (gR 0) (zN 1) WA)<|zC (b2 (gR 0) (zN 2) WA) zO) ρ).map D.tup) uM)
def yf(ds:List D):Option D:=JI Kl Q7 ds
def E3:kF:=(bB<|b2 (b1 (gR 5) KH) (zN 0) jP)
def ZU:VB:=(sq (J5 6 5)<|sq (QF (jW false 4<|gV 6) (λρ=>some<|Out.ct ρ)<|λρ=>some<|Out.nx ρ)<|sq (Z4 4 (gV 6)<|λ_=>some<|D.bl true)<|QF (aP<|RL<|λρ=>((zC (b2 (gR 3) (gR 6) WA)<|zC (gV 1) zO) ρ).bind yf) (L5 5<|zM 1 (iT<|λρ=>((zC (b2 (gR 3) (gR 6) WA) zO) ρ).bind yG) (gN 7) (λ_=>some true)<|b2 (gR 7) (zN 1) WA)<|λρ=>some<|Out.nx ρ)
abbrev Qg:List Str:=["dance","dancer","some","places","come_to","waiting","number"]
def Qh:VB:=(sq (qC 3<|b2 (gR 0) (zN 1) WA)<|sq (Sj 4)<|sq (iJ 5<|iW (gR 2) CV)<|sq (Qr 300 E3 ZU)<|lF<|b1 (λρ=>((Su 4) ρ).map D.lst) CM)
def qg(ds:List D):Option D:=JI Qg Qh ds
def Jr:VB:=(lF<|λρ=>((zC (gV 2)<|zC (b2 (b2 (VJ (gR 3) (λ_=>some none) (oI<|gV 4) vL) (λρ=>((zC (gV 5) zO) ρ).map D.tup) qI) (VJ (gR 3) (oI<|b2 (gR 4) (zN 1) qI) (λ_=>some none) vL) qI) zO) ρ).map D.tup)
def zGk:VB:=(sq (QF (bB<|b2 (gR 6) (zN 4) WB) (qC 5<|λρ=>((zC (λ_=>some<|D.str "end") zO) ρ).map D.tup)<|λρ=>some<|Out.nx ρ) Jr)
def jt:VB:=(sq (QF (bB<|b2 (gR 6) (zN 3) WB) (qC 5<|b2 (VJ (gR 5) (λ_=>some none) (oI<|zN 3) vL) (λρ=>((zC (VJ (b2 (gR 5) (zN 3) WA) (oI<|b1 (zN 1) BV) (λ_=>some none) vL) zO) ρ).map D.tup) qI)<|λρ=>some<|Out.nx ρ) zGk)
def jv:VB:=(sq (QF (bB<|b2 (gR 6) (zN 2) WB) (qC 5<|b2 (VJ (gR 5) (λ_=>some none) (oI<|zN 3) vL) (λρ=>((zC (b2 (VJ (b2 (gR 5) (zN 3) WA) (λ_=>some none) (oI<|b1 (zN 1) BV) vL) (λρ=>((zC (λρ=>((zC (b2 (VJ (gR 7) (λ_=>some none) (oI<|zN 2) vL) (λ_=>some<|D.str "z") qI)<|zC (gV 8) zO) ρ).map D.tup) zO) ρ).map D.tup) qI) zO) ρ).map D.tup) qI)<|λρ=>some<|Out.nx ρ) jt)
def zGl:VB:=(sq (QF (bB<|b2 (gR 6) (zN 1) WB) (qC 5<|λρ=>((zC (λ_=>some<|D.str "tell")<|zC (b2 (gR 5) (zN 2) WA)<|zC (b2 (gR 5) (zN 1) WA)<|zC (b2 (gR 5) (zN 3) WA) zO) ρ).map D.tup)<|λρ=>some<|Out.nx ρ) jv)
def q9:VB:=(sq (QF (bB<|b2 (gR 6) (zN 0) WB) (qC 5<|b2 (VJ (gR 5) (λ_=>some none) (oI<|zN 3) vL) (λρ=>((zC (b2 (VJ (b2 (gR 5) (zN 3) WA) (λ_=>some none) (oI<|b1 (zN 1) BV) vL) (λρ=>((zC (λρ=>((zC (gV 7)<|zC (λρ=>((zC (gV 1)<|zC (zN 9833)<|zC (b1 (gR 3) KH) zO) ρ).bind zP) zO) ρ).map D.tup) zO) ρ).map D.tup) qI) zO) ρ).map D.tup) qI)<|λρ=>some<|Out.nx ρ) zGl)
def W7:VB:=(sq (qC 6<|λρ=>((zC (gV 1)<|zC (zN 9839)<|zC (zN 5) zO) ρ).bind zP)<|sq (lX (b2 (b2 (gR 5) (zN 3) WA) (b1 (zN 1) BV) WA)<|gT 2<|bE (gN 7)<|bE (gN 8) mG) q9)
noncomputable abbrev Km:List Str:=["_law_dance_here","_law_cell_here","_law_many","_law_places","_law_at","_law_place","_law_kind","_law_word_here","_law_after"]
def R7:VB:=(sq (lX (gV 0)<|gT 2<|bE (gN 2)<|bE (gN 3) mG)<|sq (qC 4<|λρ=>((zC (gV 1)<|zC (zN 9857)<|zC (b1 (gR 3) KH) zO) ρ).bind zP)<|sq (qC 5<|b2 (gR 3) (gR 4) WA)<|sq (QF (bB<|b2 (gR 5) (λρ=>((zC (λ_=>some<|D.str "end") zO) ρ).map D.tup) WB) (qC 5<|λρ=>((zC (λ_=>some<|D.str "tell")<|zC (b2 (gR 1) (gR 2) SL)<|zC (b2 (b2 (gR 1) (zN 1) qI) (gR 2) SL)<|zC (λρ=>((zC (λρ=>((zC (λ_=>some<|D.str "z")<|zC (λρ=>((zC (gV 1)<|zC (zN 9851)<|zC (b1 (gR 3) KH) zO) ρ).bind zP) zO) ρ).map D.tup) zO) ρ).map D.tup) zO) ρ).map D.tup)<|λρ=>some<|Out.nx ρ) W7)
def qW(ds:List D):Option D:=JI Km R7 ds
theorem zQ2(l:List D)(x:D):zr (l++[x]) none (some (-1))=l:=by
 have e:(-1+((l.length:Int)+1)).toNat=l.length:=by omega
 simp[zr,HT.MD,e]
theorem zQ3(l:List D)(x:D):zr (l++[x]) (some (-1)) none=[x]:=by
 have e:(-1+((l.length:Int)+1)).toNat=l.length:=by omega
 simp[zr,HT.MD,e]
theorem cut_take(l:List D)(k:Nat)(h:k<=l.length):zr l none (some (k:Int))=l.take k:=by
 have:¬ ((k:Int)<0):=by omega
 simp[zr,HT.MD,this,FK h]
theorem zQ4(l:List D)(k:Nat)(h:k<=l.length):zr l (some (k:Int)) none=l.drop k:=by
 have:¬ ((k:Int)<0):=by omega
 simp only[zr,HT.MD,this,if_false,JC,FK h];rw[KM<|by simp]
theorem zOi{z:Type}{l:List z}(h:1<=l.length):∃RK x,l=RK++[x]:=by
 have j:l≠[]:=by intro e;subst e;simp at h
 exact⟨l.dropLast,l.getLast j,(List.dropLast_concat_getLast j).symm⟩
theorem zWL(w:Str):Txt.slice w none (some 2)=⟨(w.cps.toList.take 2).toArray⟩:=by
 obtain⟨⟨l⟩⟩:=w
 match l with
 | []=>rfl
 |[a]=>
  have e:IC none (some 2) 1 1=[0]:=by decide +kernel
  simp[Txt.slice,mD,e]
 |a::b::l=>exact zHF (a::b::l) 2 (by simp)
def wz(w:Str):Str:=⟨(w.cps.toList.take 2++[122]).toArray⟩
theorem oM:(fA "z")=⟨[122].toArray⟩:=by decide +kernel
theorem J2(h:ML w):ML (wz w):=by
 obtain⟨h1,h2,h3⟩:=h;obtain⟨⟨l⟩⟩:=w;simp only[mD,pA]at h1 h2;simp only at h3;refine⟨by simp[wz,mD],by simp[wz,mD];omega,λx hx=>?_⟩;simp[wz]at hx;rcases hx with hx|rfl
 .exact h3 x<|ON hx
 .decide
theorem okz:ML (fA "z"):=by
 rw[oM];exact⟨by decide,by decide,λx hx=>by simp at hx;subst hx;decide⟩
theorem E2(h:ML w)(k:Lt v w):Lt v (wz w):=by
 obtain⟨h1,h2,h3⟩:=h;obtain⟨⟨l⟩⟩:=w;simp only[mD,pA]at h1 h2;simp only at h3;by_cases e:(⟨⟨l⟩⟩:Str)=wz ⟨⟨l⟩⟩
 .rw[<- e];exact k
 .refine k.trans<|Lt.total ?_ e;rw[Lt.def]
  match l with
  | []=>simp at h1
  | [a]=>simp[wz]
  | [a,b]=>simp[wz]
  |[a,b,c]=>
   have hc:=(h3 c<|by simp).2;simp only[wz,kO,List.take_zero,MB,DB];intro q;simp only[List.cons_lt_cons_iff,HC,false_or,true_and]at q;rcases q with q|q
   .omega
   .exact absurd q.2<|FT _
  |a::b::c::d::l=>simp at h2
theorem yD.set{ps:List Pl}(h:yD m ps)(k:Nat)(p:Pl)(hp:wM m (λn=>0<=n/\n<(ps.length:Int)) p):yD m (ps.set k p):=by
 refine⟨h.m0,h.m1,by simpa using h.n0,by simpa using h.n1,λq hq=>?_⟩;rw[VR];rcases List.mem_or_eq_of_mem_set hq with hq|rfl
 .exact h.ok q hq
 .exact hp
theorem zWM(ps:List Pl)(k:Nat)(p:Pl)(h:k<ps.length):(ps.map TB).take k++([TB p]++(ps.map TB).drop (k+1))=(ps.set k p).map TB:=by
 rw[List.set_eq_take_append_cons_drop,if_pos h];simp
theorem zKY(h:qV (l++[w]))(k:∀v,Lt v w->Lt v w'):qV (l++[w']):=by
 rw[qV,List.pairwise_append]at h ⊢;refine⟨h.1,by simp,λa ha b hb=>?_⟩;simp at hb;subst hb;exact k a (h.2.2 a ha w<|by simp)
theorem AV{c:kF}{F F':VB}(h:c ρ=some true)(k:F ρ=r):QF c F F' ρ=r:=by
 rw[<- k];simp only[QF,h,cA,if_true]
theorem Aj{l r:List D}(h:l.length+r.length<=1000000):qI (.tup l) (.tup r)=some (.tup<|l++r):=if_pos h
theorem cY{l r:Str}(h:l.length+r.length<=1000000):qI (.str l) (.str r)=some (.str<|l++r):=if_pos h
theorem zWN{A:dC}(h:A ρ=some a):((zC A zO) ρ).map D.tup=some (.tup [a]):=by simp only[zC,h,cA,uA]
theorem Sr{A B:dC}(h:A ρ=some a)(k:B ρ=some b):((zC A<|zC B zO) ρ).map D.tup=some (.tup [a,b]):=by simp only[zC,h,k,cA,uA]
theorem zR9{f:dC}{g:D->mB->Option mB}(h:f ρ=some d)(k:g d ρ=some ρ'):lX f g ρ=some (.nx ρ'):=by simp only[lX,h,k,cA,uA]
theorem zWO{ps:List Pl}(h:yD m ps)(j:at'<ps.length)(p:Pl)(hd:TB p=d):
  Jr [s0,s1,.v<|.int m,.v<|.tup<|ps.map TB,.v<|.int at',.v d,s6,s7,s8]=some (.rt<|xB m<|ps.set at' p):=by
 subst hd;have I:=h.n1;have l1:((ps.map TB).take at').length<=40:=by simp;omega
 have J:((ps.map TB).drop<|at'+1).length<=40:=by simp;omega
 have e:=Sr (ρ:=[s0,s1,.v<|.int m,.v<|.tup<|ps.map TB,.v<|.int at',.v<|TB p,s6,s7,s8]) (A:=λρ=>jT ρ 2) (a:=.int m) rfl (qK (op:=qI) (qK (op:=qI) (A:=VJ (gR 3) (λ_=>some none) (oI<|gV 4) vL) (B:=λρ=>((zC (gV 5) zO) ρ).map D.tup)
  (Eq.trans (by kernel_rfl)<|congrArg (λz=>some<|D.tup z)<|cut_take (ps.map TB) at' (by simp;omega)) rfl (Aj (r:=[TB p]) (by simp only[HA];omega)))
  (B:=VJ (gR 3) (oI<|b2 (gR 4) (zN 1) qI) (λ_=>some none) vL) (Eq.trans (by kernel_rfl)<|congrArg (λz=>some<|D.tup z)<|zQ4 (ps.map TB) (at'+1) (by simp;omega)) (Aj (by simp only[rA,HA];omega)))
 rw[EB,zWM ps at' p j]at e;exact congrArg (uE Out.rt) e
theorem Ru{E:dC}(j:E [s0,s1,s2,s3,s4,.v<|.tup [k,a,b,x],s6,s7,s8]=some e):
  qC 5 (b2 (VJ (gR 5) (λ_=>some none) (oI<|λ_=>some<|.int 3) vL) (λρ=>((zC E zO) ρ).map .tup) qI) [s0,s1,s2,s3,s4,.v<|.tup [k,a,b,x],s6,s7,s8]=some (.nx [s0,s1,s2,s3,s4,.v<|.tup [k,a,b,e],s6,s7,s8]):=
 yc (qK (a:=.tup [k,a,b]) (by kernel_rfl) (zWN j)<|by kernel_rfl)
theorem zSA{l:List D}{B:dC}(j:l.length<=3)(h:B [s0,s1,s2,s3,s4,.v<|.tup [k,a,b,.tup<|l++[x]],s6,s7,s8]=some y):
  b2 (VJ (b2 (gR 5) (zN 3) WA) (λ_=>some none) (oI<|b1 (zN 1) BV) vL) (λρ=>((zC B zO) ρ).map D.tup) qI [s0,s1,s2,s3,s4,.v<|.tup [k,a,b,.tup<|l++[x]],s6,s7,s8]=some (.tup<|l++[y]):=
 qK (a:=.tup l) (Eq.trans (by kernel_rfl)<|congrArg (λz=>some<|D.tup z)<|zQ2 l x) (zWN h) (Aj (by simp only[HA];omega))
theorem sk2(s0 s1 s2 s3 s4 s5 s7 s8:Sl):q9 [s0,s1,s2,s3,s4,s5,.v<|.int 2,s7,s8]=jv [s0,s1,s2,s3,s4,s5,.v<|.int 2,s7,s8]:=by kernel_rfl
theorem sk3(s0 s1 s2 s3 s4 s5 s7 s8:Sl):q9 [s0,s1,s2,s3,s4,s5,.v<|.int 3,s7,s8]=jt [s0,s1,s2,s3,s4,s5,.v<|.int 3,s7,s8]:=by kernel_rfl
theorem zOk{ps:List Pl}(h:yD m ps)(k:tN m (λn=>0<=n/\n<(ps.length:Int)) a b (RK++[(w,x)]))(at':Nat)(U:at'<ps.length):
  ∃p,wM m (λn=>0<=n/\n<(ps.length:Int)) p/\W7 [.v<|xB m ps,.v<|.int c,.v<|.int m,.v<|.tup<|ps.map TB,.v<|.int at',.v<|TB<|.tell a b<|RK++[(w,x)],.un,.un,.un]=some (.rt<|xB m<|ps.set at' p):=by
 have I:(0:Int)<(ps.length:Int):=by omega
 have y1:0<=HE c 9833 (ps.length:Int)/\HE c 9833 (ps.length:Int)<(ps.length:Int):=⟨yz _ _ I,qA _ _ I⟩
 have j:ML w:=k.wd (w,x) (by simp);have ki:∀q∈RK,q∈RK++[(w,x)]:=λq hq=>cB _ hq
 have l1:=k.l1;have rs:=k.rs;simp only[rA,HA,GA,eA,vC]at l1 rs;have O:(RK.map aE).length<=3:=by simp;omega
 have S:w.length<=1000000:=by have:=j.2.1;omega
 have Y:(w.cps.toList.take 2).length<=2:=List.length_take_le 2 _;have e3:∀y,(RK++[y]).map aE=RK.map aE++[aE y]:=λy=>by simp
 have hp:∀y,TB (.tell a b<|RK++[y])=.tup [.str "tell",.int a,.int b,.tup<|RK.map aE++[aE y]]:=λy=>by rw[<- e3];rfl
 have st:W7 [.v<|xB m ps,.v<|.int c,.v<|.int m,.v<|.tup<|ps.map TB,.v<|.int at',.v<|TB<|.tell a b<|RK++[(w,x)],.un,.un,.un]=q9 [.v<|xB m ps,.v<|.int c,.v<|.int m,.v<|.tup<|ps.map TB,.v<|.int at',.v<|.tup [.str "tell",.int a,.int b,.tup<|RK.map aE++[.tup [.str w,.int x]]],.v<|.int<|HE c 9839 5,.v<|.str w,.v<|.int x]:=by
  rw[hp];refine(zY (ρ':=[.v<|xB m ps,.v<|.int c,.v<|.int m,.v<|.tup<|ps.map TB,.v<|.int at',.v<|.tup [.str "tell",.int a,.int b,.tup<|RK.map aE++[aE (w,x)]],.v<|.int<|HE c 9839 5,.un,.un])<|yc<|AL (by decide)<|by decide).trans (zY ?_);exact zR9 (qK (a:=.tup<|RK.map aE++[aE (w,x)]) (b:=.int (-1)) (by kernel_rfl) rfl<|zOf _ _) rfl
 rw[st];have rt:∀(i:Int)(p:Pl){d:D},TB p=d->Jr [.v<|xB m ps,.v<|.int c,.v<|.int m,.v<|.tup<|ps.map TB,.v<|.int at',.v d,.v<|.int i,.v<|.str w,.v<|.int x]=some (.rt<|xB m<|ps.set at' p):=λi p d hd=>zWO h U p hd
 have e0:=yz c 9839 (m:=5) (by decide);have e1:=qA c 9839 (m:=5) (by decide);have cs:HE c 9839 5=0\/HE c 9839 5=1\/HE c 9839 5=2\/HE c 9839 5=3\/HE c 9839 5=4:=by omega
 have Z:1<=RK.length+1:=by omega
 rcases cs with e|e|e|e|e<;>rw[e]
 .have hm:zP [.int c,.int 9833,.int ((ps.map TB).length:Int)]=some (.int<|HE c 9833 ps.length):=by rw[kA];exact AL (by decide) I
  refine⟨.tell a b<|RK++[(w,HE c 9833 (ps.length:Int))],⟨k.a0,k.a1,k.b0,k.b1,k.ne,by simp,by simpa using l1,by simpa using rs,λq hq=>?_,λq hq=>?_⟩,
   (zY<|AV (by kernel_rfl)<|Ru<|zSA O<|Sr (a:=.str w) rfl<|Eq.trans (by kernel_rfl) hm).trans (Eq.trans (by kernel_rfl)<|rt 0 _<|hp _)⟩
  .rcases oA.mp hq with hq|hq
   .exact k.wd q<|ki q hq
   .cases gA.mp hq;exact j
  .rcases oA.mp hq with hq|hq
   .exact k.nx q<|ki q hq
   .cases gA.mp hq;exact y1
 .exact⟨.tell b a<|RK++[(w,x)],⟨k.b0,k.b1,k.a0,k.a1,λe=>k.ne e.symm,k.l0,k.l1,k.rs,k.wd,k.nx⟩,Eq.trans (by kernel_rfl)<|rt 1 _<|congrArg (λl=>D.tup [.str "tell",.int b,.int a,.tup l])<|e3 (w,x)⟩
 .refine⟨.tell a b<|RK++[(wz w,x)],⟨k.a0,k.a1,k.b0,k.b1,k.ne,by simp,by simpa using l1,by simpa using zKY rs (λv hv=>E2 j hv),λq hq=>?_,λq hq=>?_⟩,
   (sk2 ..).trans ((zY<|AV (by kernel_rfl)<|Ru<|zSA O<|Sr (a:=.str<|wz w) ?_ rfl).trans<|Eq.trans (by kernel_rfl)<|rt 2 _<|hp _)⟩
  .rcases oA.mp hq with hq|hq
   .exact k.wd q<|ki q hq
   .cases gA.mp hq;exact J2 j
  .rcases oA.mp hq with hq|hq
   .exact k.nx q<|ki q hq
   .cases gA.mp hq;exact k.nx (w,x) (by simp)
  .exact qK (a:=.str<|Txt.slice w none<|some 2) (b:=.str<|fA "z") (if_pos S) rfl (by
    rw[zWL,oM];exact(cY (by rw[Qa,Qa];exact QA (Nat.add_le_add_right Y 1)<|by decide)).trans (by rw[zOc];rfl))
 .exact⟨.tell a b [(w,x)],⟨k.a0,k.a1,k.b0,k.b1,k.ne,by simp,by simp,by simp,λq hq=>k.wd q (by simp at hq;simp[hq]),λq hq=>k.nx q (by simp at hq;simp[hq])⟩,
   (sk3 ..).trans ((zY<|AV (by kernel_rfl)<|Ru<|Eq.trans (by kernel_rfl)<|congrArg (λz=>some<|D.tup z)<|zQ3 (RK.map aE)<|.tup [.str w,.int x]).trans<|Eq.trans (by kernel_rfl)<|rt 3 _ rfl)⟩
 .exact⟨.fin,trivial,Eq.trans (by kernel_rfl)<|rt 4 .fin rfl⟩
theorem zOl{ps:List Pl}(h:yD m ps)(c:Int):∃J,yD m J/\J.length=ps.length/\(∃k p,J=ps.set k p/\(WF p).length<=3)/\qW [xB m ps,.int c]=some (xB m J):=by
 have j:(0:Int)<(ps.length:Int):=by have:=h.n0;omega
 have a0:=yz c 9857 j;have a1:=qA c 9857 j;obtain⟨at',S⟩:∃at':Nat,HE c 9857 (ps.length:Int)=(at':Int):=⟨(HE c 9857 (ps.length:Int)).toNat,by omega⟩
 rw[S]at a0 a1;have Z:at'<ps.length:=by omega
 obtain⟨p,hp,e1,O⟩:=bT a0 a1;have ok:=h.ok p hp;have m0:0<m:=by have:=h.m0;omega
 have fin:∀a b ch,tN m (λn=>0<=n/\n<(ps.length:Int)) a b ch->∃p,wM m (λn=>0<=n/\n<(ps.length:Int)) p/\W7 [.v<|xB m ps,.v<|.int c,.v<|.int m,.v<|.tup<|ps.map TB,.v<|.int at',.v<|TB<|.tell a b ch,.un,.un,.un]=some (.rt<|xB m<|ps.set at' p):=λa b ch k=>by
  obtain⟨RK,⟨w,x⟩,rfl⟩:=zOi k.l0;exact zOk h k at' Z
 cases p with
 |fin=>
  have y0:=yz c 9851 j;have y1:=qA c 9851 j
  have q1:c%m≠(c+1)%m:=by
   have:=h.m0;have:=h.m1;have:m=2\/m=3\/m=4:=by omega
   rcases this with rfl|rfl|rfl<;>omega
  obtain⟨Y,z,I⟩:=fin (c%m) ((c+1)%m) [(fA "z",HE c 9851 (ps.length:Int))] ⟨OD _<|by omega,VC _ m0,OD _<|by omega,VC _ m0,q1,by simp,by simp,by simp,by simpa using okz,by simpa using⟨y0,y1⟩⟩;refine⟨_,h.set at' Y z,by simp,⟨_,_,rfl,z.few⟩,?_⟩;simp only[xB,TB,eA,vC,aE]at I O ⊢
  exists qW,R7,AL,j,S,O,m0,beq_self_eq_true,I,WA,WB,LD,XF,zQ,gN,gT,bE,mG,zf
 |tell a b ch=>
  obtain⟨Y,z,I⟩:=fin a b ch ok;refine⟨_,h.set at' Y z,by simp,⟨_,_,rfl,z.few⟩,?_⟩
  have U:WB (TB<|.tell a b ch) (.tup [.str "end"])=some (.bl false):=by
   have hd:QH (.tup [.str "end"])<=20:=by decide
   unfold WB;rw[if_pos<|by omega,zWK]
  simp only[xB]at I ⊢
  exists qW,R7,AL,j,S,O,U,I,WA,LD,XF,zQ,gN,gT,bE,mG,zf
noncomputable def tp(p:Pl)(d:Int):Bool:=match p with
 |.fin=>false
 |.tell a b _=>decide (d=a) || decide (d=b)
theorem zQ6:((fA "end" : Str)==fA "tell")=false:=by decide +kernel
theorem in2(d a b:Int):uM (.int d) (.tup [.int a,.int b])=some (.bl (decide (d=a) || decide (d=b))):=by
 have j:(a==d)=decide (d=a):=by rw[PD];exact decide_eq_decide.mpr ⟨λh=>h.symm,λh=>h.symm⟩
 have z:(b==d)=decide (d=b):=by rw[PD];exact decide_eq_decide.mpr ⟨λh=>h.symm,λh=>h.symm⟩
 have I:LD (.int a) (.int d)=(a==d):=by unfold LD;rfl
 have J:LD (.int b) (.int d)=(b==d):=by unfold LD;rfl
 unfold uM;rw[if_pos<|by simp[QH]];show some (D.bl (LD (.int a) (.int d) || (LD (.int b) (.int d) || false)))=_;rw[I,J,j,z,ND]
theorem Qi(p:Pl)(d:Int):yf [TB p,.int d]=some (.bl<|tp p d):=by
 cases p with
 |fin=>exists 0,yf,Q7,TB,DH,tp,zQ6,WA,WB
 |tell a b ch=>
  exists 0,yf,Q7,TB,DH,UJ,at2,tp,beq_self_eq_true,in2,WA,WB
def bL(ps:List Pl)(d n:Int):List Int:=match ps[n.toNat]? with
 |some p=>if tp p d then [] else (WF p).map (·.2)
 |none=>[]
noncomputable def run(ps:List Pl)(d:Int):Nat->List Int->List Int->Option (List Int)
 |0,_,_=>none
 |k+1,found,ws=>match ws.getLast? with
  |none=>some found
  |some n=>if n∈found then run ps d k found ws.dropLast else run ps d k (found++[n]) (ws.dropLast++bL ps d n)
theorem R8{c:kF}{F:VB}(h:c ρ=some true)(e:F ρ=some (.nx ρ')\/F ρ=some (.ct ρ')):wN c F (k+1) ρ=wN c F k ρ':=by
 rcases e with e|e<;>simp only[wN,h,cA,if_true,e]
theorem Lx{c:kF}{F:VB}(h:c ρ=some false):wN c F (k+1) ρ=some (.nx ρ):=by
 simp[wN,h]
theorem V3{j:Type}{ws:List j}{n:j}(h:ws.getLast?=some n):ws=ws.dropLast++[n]/\0<ws.length:=by
 obtain⟨ys,rfl⟩:=List.getLast?_eq_some_iff.mp h;simp
def tk(found:List Int):List (XB×D):=found.map λn=>(aC n,D.bl true)
theorem Rv(n:Int):∀(found:List Int),(wJ (tk found)<|.inl n).isSome=decide (n∈found)
 | []=>rfl
 |x::found=>by
  have ih:=Rv n found;unfold wJ tk at ih|-;simp only[eA,vA];by_cases e:x=n
  .subst e;simp
  .have e':¬ (aC x:XB)=aC n:=λz=>e (by simpa using z)
   have j:¬ n=x:=λz=>e z.symm
   simp only[e',decide_false,nA,j,false_or];exact ih
theorem zSB(h:n∉found):dN (tk found) (.inl n) (.bl true)=tk (found++[n]):=by
 unfold dN;rw[if_neg]
 .simp[tk]
 .simp[tk];exact h
def sM(ps:List Pl)(ws:List Int):Prop:=∀n∈ws,0<=n/\n<(ps.length:Int)
theorem zOn(h:yD m ps)(d n:Int):sM ps (bL ps d n)/\(bL ps d n).length<=3:=by
 unfold bL;split
 .rename_i p e;have ok:=h.ok p<|xA e;split
  .exact⟨λ_ h=>by simp at h,by simp⟩
  .refine⟨λx hx=>?_,by simpa using ok.few⟩;obtain⟨q,hq,rfl⟩:=OA.mp hx;exact ok.next hq
 .exact⟨λ_ h=>by simp at h,by simp⟩
theorem zQ7(ρ:mB)(j:ρ.length=7)(ch:List (Str×Int)):zQ (gN 7) (λ_=>some true) (b2 (gR 7) (zN 1) WA) (ch.map aE) (ρ++[.un])=some ((ch.map (·.2)).map D.int):=by
 have:=zw (g:=gN 7) (p:=λ_=>some true) (f:=b2 (gR 7) (zN 1) WA) (emb:=aE) (ρ:=ρ++[.un]) (λ_=>true) (λq=>D.int q.2) ch λq _=>by
  refine⟨_,rfl,rfl,λ_=>?_⟩;have e:((ρ++[Sl.un]).set 7<|.v<|aE q)[7]?=some (.v<|aE q):=lB (by simp[j]);simp only[aE]at e ⊢
  exists 0,UJ,e,WA,WB
 rw[this,AC.mpr (by simp),vB];rfl
theorem zMe{m:Int}{ps:List Pl}(h:yD m ps){d:Int}{found ws:List Int}{n:Int}(hf:found.length<=1000)(hw:ws.length<=1000)(Y:ws.getLast?=some n)(Z:0<=n/\n<(ps.length:Int)):
  (ZU [s0,.v<|.int d,s2,.v<|.tup<|ps.map TB,.m<|tk found,.l<|ws.map D.int,s6]=some (.nx [s0,.v<|.int d,s2,.v<|.tup<|ps.map TB,.m<|tk<|if n∈found then found else found++[n],.l<|(if n∈found then ws.dropLast else ws.dropLast++bL ps d n).map D.int,.v<|.int n]) \/
  ZU [s0,.v<|.int d,s2,.v<|.tup<|ps.map TB,.m<|tk found,.l<|ws.map D.int,s6]=some (.ct [s0,.v<|.int d,s2,.v<|.tup<|ps.map TB,.m<|tk<|if n∈found then found else found++[n],.l<|(if n∈found then ws.dropLast else ws.dropLast++bL ps d n).map D.int,.v<|.int n])):=by
 obtain⟨p,hp,S,U⟩:=bT Z.1 Z.2;have ok:=h.ok p hp;obtain⟨ew,rP⟩:=V3 Y
 have g1:(ws.map D.int)[ws.length-1]?=some (.int n):=by
  rw[gB,<- List.getLast?_eq_getElem?,Y];rfl
 have j:=Rv n found;have tl:(tk found).length<1000000:=by simp[tk];omega
 have hd:(ws.map D.int).dropLast=ws.dropLast.map D.int:=by rw[List.map_dropLast]
 have few:=ok.few;have I:(WF p).length<=1000000:=by omega
 have O:ws.length-1+(WF p).length<=1000000:=by omega
 by_cases hm:n∈found
 .right
  rw[decide_eq_true hm]at j;simp only[hm,if_true]
  exists 0,ZU,J5,g1,cH,j,hd,WA,WB
 .left
  rw[decide_eq_false hm]at j;have pt:=zSB hm;simp only[hm,if_false]
  cases ht:tp p d with
  |true=>
   have z:bL ps d n=[]:=by simp[bL,S,ht]
   exists 0,ZU,J5,g1,cH,j,tl,pt,hd,U,Qi,ht,z,WA,WB
  |false=>
   have z:bL ps d n=(WF p).map (·.2):=by simp[bL,S,ht]
   have cs:=zQ7 [s0,.v<|.int d,s2,.v<|.tup<|ps.map TB,.m<|tk<|found++[n],.l<|ws.dropLast.map D.int,.v<|.int n] rfl<|WF p;unfold ZU;generalize (b2 (gR 7) (zN 1) WA)=el at cs|-;simp only[MB,DB]at cs
   exists J5,g1,cH,j,tl,pt,hd,U,Qi,ht,z,L5,Nk,I,cs,EF,O,GA,WA,WB,LD,XF,gN,gT,bE,mG,zr,zf
noncomputable def CW(n:Nat)(found:List Int):Nat:=(JA n).countP λ(i:Nat)=>!decide ((i:Int)∈found)
theorem xq{j:Type}{p q:j->Bool}:∀{l:List j}{x:j},(∀y∈l,q y=true->p y=true)->x∈l->p x=true->q x=false->l.countP q+1<=l.countP p
 | [],x,_,hx,_,_=>by simp at hx
 |y::l,x,h,hx,h1,h2=>by
  rw[PQ,PQ];have mono:l.countP q<=l.countP p:=List.countP_mono_left λz hz hq=>h z (dA _ hz) hq
  rcases nA.mp hx with rfl|hx
  .rw[h1,h2];simp;exact mono
  .have ih:=xq (l:=l) (λz hz=>h z<|dA _ hz) hx h1 h2;have hy:=h y lA
   cases e:q y with
   |true=>rw[hy e];simp;omega
   |false=>simp;split<;>omega
theorem zQ8{n:Nat}{found:List Int}{k:Int}(h0:0<=k)(h1:k<(n:Int))(h:k∉found):CW n (found++[k])+1<=CW n found:=by
 refine xq (x:=k.toNat) (λy _ hy=>?_) (by simp;omega) ?_ ?_
 .simp at hy|-;exact hy.1
 .have:((k.toNat:Nat):Int)=k:=by omega
  simp[this,h]
 .have:((k.toNat:Nat):Int)=k:=by omega
  simp[this]
theorem zWP(n:Nat)(found:List Int):CW n found<=n:=by
 have:=List.countP_le_length (l:=JA n) (p:=λ(i:Nat)=>!decide ((i:Int)∈found));simpa[CW] using this
theorem aY{ws:List Int}:E3 [s0,s1,s2,s3,s4,.l<|ws.map D.int,s6]=some (decide<|0<ws.length):=by
 exists 0,E3,WA,WB
 congr 1
 exact decide_eq_decide.mpr (by omega)
theorem vk{ws:List Int}(h:ws.getLast?=none):ws=[]:=by
 cases ws with
 |nil=>rfl
 |cons a l=>simp[List.getLast?_cons]at h
theorem Ss{m:Int}{ps:List Pl}(h:yD m ps)(d:Int):∀(k:Nat)(found ws:List Int),sM ps ws->found.length+CW ps.length found<=40->4*CW ps.length found+ws.length<k->k<=1000->∃f,run ps d k found ws=some f/\f.length<=40 /\
  (∀s0 s2 s6,∃j,wN E3 ZU k [s0,.v<|.int d,s2,.v<|.tup<|ps.map TB,.m<|tk found,.l<|ws.map D.int,s6]=some (.nx [s0,.v<|.int d,s2,.v<|.tup<|ps.map TB,.m<|tk f,.l [],j]))
 |0,_,_,_,_,hk,_=>by omega
 |k+1,found,ws,hi,hf,hk,WY=>by
  unfold run
  cases e:ws.getLast? with
  |none=>
   have:=vk e;subst this
   exact⟨found,rfl,by omega,λs0 s2 s6=>⟨s6,Lx aY⟩⟩
  |some n=>
   obtain⟨J,hp⟩:=V3 e;have z:=hi n (by rw[J];simp);have I:sM ps ws.dropLast:=λx hx=>hi x<|(lN _).subset hx
   have tA:=λ(s0 s2 s6:Sl)=>zMe h (d:=d) (s0:=s0) (s2:=s2) (s6:=s6) (found:=found) (by omega) (by omega) e z
   have go:∀s0 s1 s2 s3 s4 s6,E3 [s0,s1,s2,s3,s4,.l<|ws.map D.int,s6]=some true:=λ_ _ _ _ _ _=>by rw[aY];simp[hp]
   simp only;by_cases hm:n∈found
   .simp only[hm,if_true]at tA ⊢;obtain⟨f,r1,r2,r3⟩:=Ss h d k found ws.dropLast I hf (by rw[EF];omega) (by omega);refine⟨f,r1,r2,λs0 s2 s6=>?_⟩;obtain⟨j,e'⟩:=r3 s0 s2<|.v<|.int n;exact⟨j,by rw[R8 (go _ _ _ _ _ _)<|tA s0 s2 s6,e']⟩
   .simp only[hm,if_false]at tA ⊢;have u:=zQ8 (n:=ps.length) z.1 z.2 hm;obtain⟨O,o2⟩:=zOn h d n
    obtain⟨f,r1,r2,r3⟩:=Ss h d k (found++[n]) (ws.dropLast++bL ps d n) (λx hx=>by
     rcases oA.mp hx with hx|hx
     .exact I x hx
     .exact O x hx) (by simp;omega) (by rw[rA,EF];omega) (by omega)
    refine⟨f,r1,r2,λs0 s2 s6=>?_⟩;obtain⟨j,e'⟩:=r3 s0 s2<|.v<|.int n;exact⟨j,by rw[R8 (go _ _ _ _ _ _)<|tA s0 s2 s6,e']⟩
theorem zQ9(l:List Int):RD.dX (l.map D.int)=some l:=by
 induction l with
 |nil=>rfl
 |cons x xs ih=>simp[RD.dX,ih]
theorem zOo{l:List Int}(h:l.length<64):FQ (.lst<|l.map D.int)=some ((OL l).map D.int):=by
 simp only[FQ,CV,cA,kA,h,if_true,zQ9]
theorem zT2(f:List Int):Aq (tk f)=f.map D.int:=by simp[Aq,tk,WO]
theorem Nx(h:yD m ps)(d:Int)(some':List Int)(hs:sM ps some')(J:some'.length<=100):∃f,run ps d 300 [] some'=some f/\f.length<=40/\qg [xB m ps,.int d,.tup<|some'.map D.int]=some (.tup<|(OL f).map D.int):=by
 have hu:=zWP ps.length [];have O:=h.n1;obtain⟨f,r1,r2,r3⟩:=Ss h d 300 [] some' hs (by simp;omega) (by omega) (by omega);refine⟨f,r1,r2,?_⟩;obtain⟨I,e⟩:=r3 (.v<|xB m ps) (.v<|.tup<|some'.map D.int) .un;have z:WA (xB m ps) (.int 1)=some (.tup<|ps.map TB):=by simp only[xB,WA,UJ]
 have j:tk []=[]:=rfl;rw[j]at e
 exists 0,qg,Qh,z,e,Su,zT2,zOo<|show f.length<64 by omega,WB
abbrev Nl:List Str:=["place","dancer"]
def S8:VB:=(lF<|jf (b2 (b2 (gR 0) (zN 0) WA) (λ_=>some<|D.str "end") WB)<|λρ=>((zC (gV 0)<|zC (gV 1) zO) ρ).bind yf)
def GW(ds:List D):Option D:=JI Nl S8 ds
def Jj:dC:=(b2 (b2 (gR 0) (zN 1) WA) (gR 4) WA)
def Jk:kF:=(RL<|λρ=>((zC (gV 4)<|zC (gV 1) zO) ρ).bind GW)
def Jl:dC:=(gV 4)
abbrev Kb:List Str:=["dance","dancer","some","places"]
def Kc:VB:=(sq (qC 3 λρ=>((zM 1 (iT<|gV 2) (gN 4) (λ_=>some true) Jj) ρ).map D.lst)<|lF<|λρ=>((zM 1 (iL<|gV 3) (gN 4) Jk Jl) ρ).map D.lst)
def yT(ds:List D):Option D:=JI Kb Kc ds
def Kn:dC:=(b2 (gR 2) (zN 0) WA)
abbrev Ly:List Str:=["turn","dancer"]
def w8:VB:=(sq (QF (bB<|b2 (b2 (gR 0) (zN 0) WA) (λ_=>some<|D.str "end") WB) (lF<|λρ=>((zC (λ_=>some<|D.str "end") zO) ρ).map D.tup)<|λρ=>some<|Out.nx ρ)<|sq (QF (bB<|b2 (b2 (gR 0) (zN 1) WA) (gR 1) WB) (lF<|λρ=>((zC (λ_=>some<|D.str "tells")<|zC (b2 (gR 0) (zN 2) WA)<|zC (b1 (λρ=>((zM 1 (iT<|b2 (gR 0) (zN 3) WA) (gN 2) (λ_=>some true) Kn) ρ).map D.lst) CM) zO) ρ).map D.tup)<|λρ=>some<|Out.nx ρ)<|lF<|λρ=>((zC (λ_=>some<|D.str "hears")<|zC (b2 (gR 0) (zN 1) WA) zO) ρ).map D.tup)
def qy(ds:List D):Option D:=JI Ly w8 ds
def qQ:dC:=(b2 (λρ=>((zC (gV 3)<|zC (gV 1) zO) ρ).bind qy) (gR 2) WB)
abbrev Js:List Str:=["turns","dancer","asked"]
def X7:mB->Option YF:=(UG (oX<|QF (bB<|b2 (b1 (gR 0) KH) (zN 0) WB) (lF<|λρ=>((zC (λ_=>some<|D.str "rests") zO) ρ).map D.tup)<|λρ=>some<|Out.nx ρ)<|UG (oX<|qC 2<|λρ=>((zC (b2 (gR 0) (zN 0) WA)<|zC (gV 1) zO) ρ).bind qy)<|UG (kT (aP<|RL<|b1 (λρ=>((zM 1 (iL<|gV 0) (gN 3) (λ_=>some true) qQ) ρ).map D.lst) Bd) (QS 0<|zC (b1 (gR 1)<|gS "dancer " " can't know which of unlike turns it is at") zO)<|oX λρ=>some<|Out.nx ρ)<|oX<|lF<|gV 2)
def yH(ds:List D):Option (Except Nat D):=JV Js X7 ds
def yd:VB:=(YW 1 (gV 3)<|gV 4)
def qF:VB:=(zl (iT<|λρ=>((zC (gV 2) zO) ρ).bind yG) (gT 2<|bE (gN 3)<|bE (gN 4) mG) yd)
abbrev Jm:List Str:=["turns","nexts","turn","word","number"]
def Jn:VB:=(sq (X9 1)<|sq (zl (iL<|gV 0) (gN 2) qF)<|o5 1)
def qB(ds:List D):Option Sl:=LV Jm Jn ds
def qz:VB:=(QF (bB<|b2 (b1 (λρ=>((zC (gV 0)<|zC (gV 1)<|zC (λρ=>((zC (gV 0)<|zC (gV 1)<|zC (λρ=>((zC (gV 3) zO) ρ).map D.tup) zO) ρ).bind qg) zO) ρ).bind yT) KH) (zN 0) WB) (Z4 2 (gV 3)<|λ_=>some<|D.bl true)<|λρ=>some<|Out.nx ρ)
abbrev Nm:List Str:=["dance","dancer","found","number"]
def J3:VB:=(sq (Sj 2)<|sq (zl (QK<|zC (b1 (b2 (gR 0) (zN 1) WA) KH) zO) (gN 3) qz)<|o5 2)
def HS(ds:List D):Option Sl:=LV Nm J3 ds
def z6:dC:=(XU 3<|gV 4)
abbrev ye:List Str:=["dancer","some","turns","vain"]
def zo:mB->Option YF:=(kT (Ba (bB<|b2 (b1 (gR 2) KH) (zN 0) jP)<|RL<|b1 (λρ=>((zM 1 (iT<|gV 1) (gN 4) (λ_=>some true) z6) ρ).map D.lst) Be) (QS 0<|zC (b1 (gR 0)<|gS "dancer " " may wait in vain for its turn") zO)<|oX λρ=>some<|Out.nx ρ)
def zq(ds:List D)(x:Ob):Option (Except Nat D):=mM λa=>LP ye zo a ds x
def k8:VB:=(sq (qC 12<|λρ=>((zC (gV 0)<|zC (gV 1)<|zC (b1 (Sx 9<|gV 11) CM) zO) ρ).bind qg)<|sq (QF (D5 4<|gV 12) (sq (Au 4 (gV 12)<|b1 (gR 3) KH)<|aK 3<|gV 12)<|λρ=>some<|Out.nx ρ)<|aK 10<|λρ=>((zC (gV 11)<|zC (QU 4<|gV 12) zO) ρ).map D.tup)
def qS:kF:=(bB<|b2 (b1 (gR 5) KH) (b1 (gR 3) KH) Gs)
def yW:mB->Option YF:=(UG (oX<|qC 6<|b2 (gR 3) (b1 (gR 5) KH) WA)<|UG (oX<|qC 7<|λρ=>((zC (gV 0)<|zC (gV 1)<|zC (gV 6) zO) ρ).bind yT)<|UG (Rm<|xV 2 (gP (gV 1)<|gP (gV 6)<|gP (gV 7) zO) zq)<|UG (Ar 8<|λρ=>((zC (gV 7)<|zC (gV 1) zO) ρ).bind yH)<|oX<|sq (NP 9 (zC (gV 7) zO) qB)<|sq (iJ 10 zO)<|sq (zl (iL<|λρ=>((Rn 9) ρ).map D.lst) (gN 11) k8)<|aK 5<|YU (bB<|b2 (b2 (gR 8) (zN 0) WA) (λρ=>((zC (λ_=>some<|D.str "tells")<|zC (λ_=>some<|D.str "hears") zO) ρ).map D.tup) uM) (λρ=>((zC (b2 (gR 8) (zN 0) WA)<|zC (b2 (gR 8) (zN 1) WA)<|zC (b1 (gR 10) CM) zO) ρ).map D.tup)<|gV 8)
noncomputable abbrev Np:List Str:=["dance","dancer","vain","known","numbers","part","some","turns","asked","nexts","pairs","word","come_to"]
def Nq:mB->Option YF:=(UG (oX<|NP 2 (zC (gV 0)<|zC (gV 1) zO) HS)<|UG (oX<|iJ 3<|zC (λρ=>((zC (gV 0)<|zC (gV 1)<|zC (λρ=>((zC (zN 0) zO) ρ).map D.tup) zO) ρ).bind qg) zO)<|UG (oX<|fX 4 (b2 (gR 3) (zN 0) WA)<|zN 0)<|UG (oX<|iJ 5 zO)<|UG (j4 20000000 qS yW)<|oX<|lF<|b1 (gR 5) CM)
def qM(ds:List D):Option (Except Nat D):=JV Np Nq ds
def vM(p:Pl)(d:Int):Bool:=match p with
 |.fin=>true
 |p=>tp p d
theorem zWQ(p:Pl)(d:Int):GW [TB p,.int d]=some (.bl<|vM p d):=by
 have e:=Qi p d
 cases p with
 |fin=>exists 0,GW,S8,TB,DH,vM,beq_self_eq_true,WA,WB
 |tell a b ch=>
  have x0:WA (TB<|.tell a b ch) (.int 0)=some (.str "tell"):=by simp only[TB,WA,DH]
  exists 0,GW,S8,x0,vM,Qf,e,WB
def xR(ps:List Pl)(S:List Int):List Pl:=S.filterMap λn=>ps[n.toNat]?
def turns(ps:List Pl)(d:Int)(S:List Int):List Pl:=(xR ps S).filter λp=>vM p d
theorem zJP(ps:List Pl)(S:List Int):(xR ps S).length<=S.length:=List.length_filterMap_le ..
theorem zLb(h0:s0=.v (xB m ps)):∀(S:List Int),sM ps S->zQ (gN 4) (λ_=>some true) Jj (S.map D.int) [s0,s1,s2,s3,.un]=some ((xR ps S).map TB)
 | [],_=>rfl
 |n::S,hi=>by
  subst h0;have j:=hi n lA;obtain⟨p,hp,I,J⟩:=bT j.1 j.2;have ih:=zLb (s1:=s1) (s2:=s2) (s3:=s3) (m:=m) rfl S λx hx=>hi x<|dA _ hx
  have z:WA (xB m ps) (.int 1)=some (.tup<|ps.map TB):=by simp only[xB,WA,UJ]
  have O:WA (.tup<|ps.map TB) (.int n)=some (TB p):=J;have ep:xR ps (n::S)=p::xR ps S:=by simp[xR,I]
  rw[ep,eA,eA];unfold zQ;rw[ih]
  exists Jj,z,O,WB,LD,XF,gN,gT,bE,mG,zr,zf
theorem zMf(h1:s1=.v (.int d))(qs:List Pl):zQ (gN 4) Jk Jl (qs.map TB) [s0,s1,s2,s3,.un]=some ((qs.filter λp=>vM p d).map TB):=by
 subst h1;refine zw (λp=>vM p d) TB qs λp _=>⟨_,rfl,?_,λ_=>?_⟩
 .have:=zWQ p d
  exists 0,Jk,this,WA,WB
 .exists 0,Jl,WA,WB
theorem zOp(d:Int){S:List Int}(hi:sM ps S)(z:S.length<=1000):yT [xB m ps,.int d,.tup<|S.map D.int]=some (.lst<|(turns ps d S).map TB):=by
 have h1:=zLb (s0:=.v<|xB m ps) (s1:=.v<|.int d) (s2:=.v<|.tup<|S.map D.int) (s3:=.un) (m:=m) rfl S hi;have h2:=zMf (s0:=.v<|xB m ps) (s1:=.v<|.int d) (s2:=.v<|.tup<|S.map D.int) (s3:=.v<|.lst<|(xR ps S).map TB) (d:=d) rfl<|xR ps S;have l1:S.length<=1000000:=by omega
 have j:(xR ps S).length<=1000000:=by have:=zJP ps S;omega
 unfold yT Kc
 exists h1,h2,l1,j,turns,WA,WB,LD,XF,gT,bE,mG,zr,zf
noncomputable def sT(p:Pl)(d:Int):D:=match p with
 |.fin=>.tup [.str "end"]
 |.tell a b ch=>if a=d then .tup [.str "tells",.int b,.tup<|ch.map λq=>.str q.1] else .tup [.str "hears",.int a]
theorem zRA{f:dC}(ρ:mB)(ch:List (Str×Int))(i:Nat)(hf:∀q:Str×Int,f ((ρ++[Sl.un]).set i<|.v<|aE q)=some (.str q.1)):zQ (gN i) (λ_=>some true) f (ch.map aE) (ρ++[Sl.un])=some (ch.map λq=>D.str q.1):=by
 have:=zw (g:=gN i) (p:=λ_=>some true) (f:=f) (emb:=aE) (ρ:=ρ++[Sl.un]) (λ_=>true) (λq=>D.str q.1) ch λq _=>⟨_,rfl,rfl,λ_=>hf q⟩
 rw[this,AC.mpr<|by simp]
theorem zOq(p:Pl)(d:Int)(S:(WF p).length<=3):qy [TB p,.int d]=some (sT p d):=by
 cases p with
 |fin=>exists 0,qy,w8,TB,DH,sT,beq_self_eq_true,WA,WB
 |tell a b ch=>
  have x0:WA (TB<|.tell a b ch) (.int 0)=some (.str "tell"):=by simp only[TB,WA,DH]
  have x1:WA (TB<|.tell a b ch) (.int 1)=some (.int a):=by simp only[TB,WA,UJ]
  have J:WA (TB<|.tell a b ch) (.int 2)=some (.int b):=by simp only[TB,WA,at2]
  have O:WA (TB<|.tell a b ch) (.int 3)=some (.tup<|ch.map aE):=by simp only[TB,WA,gW]
  have j:WB (.int a) (.int d)=some (.bl<|decide<|a=d):=by
   unfold WB;rw[if_pos<|by simp[QH]];unfold LD;rw[PD]
  have es:WB (.str "tell") (.str "end")=some (.bl false):=by
   unfold WB;rw[if_pos<|by simp[QH]];unfold LD;rw[Qf]
  have l1:ch.length<=1000000:=by simp only[WF]at S;omega
  have I:=zRA (f:=Kn) [.v<|TB<|.tell a b ch,.v<|.int d] ch 2 λq=>by
   exists 0,Kn,aE,DH,WA,WB
  unfold qy w8;simp only[MB,DB]at I;by_cases h:a=d
  .rw[decide_eq_true h]at j;have z:sT (.tell a b ch) d=.tup [.str "tells",.int b,.tup<|ch.map λq=>.str q.1]:=by simp[sT,h]
   rw[z]
   exists x0,x1,J,O,j,es,I,l1,LD,XF,gT,bE,mG,zr,zf
  .rw[decide_eq_false h]at j;have z:sT (.tell a b ch) d=.tup [.str "hears",.int a]:=by simp[sT,h]
   rw[z]
   exists x0,x1,J,O,j,es,I,l1,LD,XF,gT,bE,mG,zr,zf
inductive Ask where
 |fin|tells (b:Int) (ws:List Str)|hears (a:Int)
deriving DecidableEq
noncomputable def ask(p:Pl)(d:Int):Ask:=match p with
 |.fin=>.fin
 |.tell a b ch=>if a=d then .tells b (ch.map (·.1)) else .hears a
noncomputable def xJ:Ask->D
 |.fin=>.tup [.str "end"]
 |.tells b ws=>.tup [.str "tells",.int b,.tup<|ws.map D.str]
 |.hears a=>.tup [.str "hears",.int a]
theorem zOr(p:Pl)(d:Int):sT p d=xJ (ask p d):=by
 cases p with
 |fin=>rfl
 |tell a b ch=>
  unfold sT ask;by_cases h:a=d
  .simp[h,xJ]
  .simp[h,xJ]
theorem Ny:∀(l r:List Str),XF (l.map D.str) (r.map D.str)=decide (l=r)
 | [],[]=>by simp[XF]
 | [],_::_=>by simp[XF]
 |_::_,[]=>by simp[XF]
 |a::l,b::r=>by
  rw[eA,eA,XF,Ny l r,LD];by_cases h:a=b
  .subst h;simp
  .simp[h]
theorem P0:((fA "tells" : Str)==fA "end")=false:=by decide +kernel
theorem L0:((fA "end" : Str)==fA "tells")=false:=by decide +kernel
theorem M0:((fA "hears" : Str)==fA "end")=false:=by decide +kernel
theorem D0:((fA "end" : Str)==fA "hears")=false:=by decide +kernel
theorem Q0:((fA "tells" : Str)==fA "hears")=false:=by decide +kernel
theorem O0:((fA "hears" : Str)==fA "tells")=false:=by decide +kernel
theorem x4(a b:Int):(a==b)=decide (a=b):=by rw[PD]
theorem zWR(x y:Ask):LD (xJ x) (xJ y)=decide (x=y):=by
 cases x<;>cases y<;>simp only[xJ,LD,XF,beq_self_eq_true,P0,L0,M0,D0,Q0,O0,Ny,x4,WL,YL,MH,LH,decide_true,decide_false,reduceCtorEq]
 .rename_i b ws b' j;by_cases h:b=b'<;>by_cases h':ws=j<;>simp[h,h']
 .rename_i a z;by_cases h:a=z<;>simp[h]
theorem zT3(x:Ask):QH (xJ x)<=20:=by
 have ds:∀ws:List Str,nK (ws.map D.str)<=1:=λws=>by
  induction ws with
  |nil=>exact nC _
  |cons w ws ih=>exact iQ.mpr ⟨nC _,ih⟩
 cases x with
 |fin=>decide
 |tells b ws=>have:=ds ws;simp only[xJ,QH,nK];omega
 |hears a=>exact WC rfl
theorem zT4(x y:Ask):WB (xJ x) (xJ y)=some (.bl<|decide<|x=y):=by
 unfold WB;rw[if_pos (by have:=zT3 x;omega),zWR]
theorem M3(l:List Bool):RD.wQ (l.map D.bl)=some l:=by
 induction l with
 |nil=>rfl
 |cons x xs ih=>simp[RD.wQ,ih]
theorem four{d:Int}(h0:0<=d)(h1:d<4):d=0\/d=1\/d=2\/d=3:=by
 obtain⟨n,rfl⟩:=vD h0;exact(by decide:∀n:Nat,n<4->(n:Int)=0\/(n:Int)=1\/(n:Int)=2\/(n:Int)=3) n (HD.mp h1)
theorem zWS(h:0<=i/\i<1000000/\(pI++a++((toString i:String):Str)++b).length<=1000000):∃x,gS a b (.int i)=some x:=by
 refine⟨.str<|pI++a++((toString i:String):Str)++b,?_⟩;simp only[gS];rw[if_pos h]
theorem zWT{d:Int}(h0:0<=d)(h1:d<4):∃x,gS "dancer " " can't know which of unlike turns it is at" (.int d)=some x:=by
 rcases four h0 h1 with rfl|rfl|rfl|rfl<;>exact zWS (by decide +kernel)
theorem zWU{d:Int}(h0:0<=d)(h1:d<4):∃x,gS "dancer " " may wait in vain for its turn" (.int d)=some x:=by
 rcases four h0 h1 with rfl|rfl|rfl|rfl<;>exact zWS (by decide +kernel)
def Z9(ts:List Pl)(d:Int):Except Nat D:=match ts with
 | []=>.ok<|.tup [.str "rests"]
 |t::ts=>if (t::ts).all (λu=>decide<|ask u d=ask t d) then .ok (xJ<|ask t d) else .error 0
theorem zKb(h0:0<=d)(h1:d<4)(ts:List Pl)(S:ts.length<=1000)(hc:∀t∈ts,(WF t).length<=3):
  yH [.lst<|ts.map TB,.int d]=some (Z9 ts d):=by
 unfold Z9;obtain⟨x,hx⟩:=zWT h0 h1
 cases ts with
 |nil=>
  exists 0,yH,X7,JV,UG,oX,WA,WB
 |cons t ts=>
  have O:WA (.lst (TB t::ts.map TB)) (.int 0)=some (TB t):=by simp only[WA,DH]
  have m0:=zOq t d<|hc t lA;rw[zOr]at m0
  have z:zQ (gN 3) (λ_=>some true) qQ ((t::ts).map TB) [.v<|.lst (TB t::ts.map TB),.v<|.int d,.v<|xJ<|ask t d,.un]=some (((t::ts).map λu=>decide<|ask u d=ask t d).map D.bl):=by
   have:=zw (g:=gN 3) (p:=λ_=>some true) (f:=qQ) (emb:=TB) (ρ:=[.v<|.lst (TB t::ts.map TB),.v<|.int d,.v<|xJ<|ask t d,.un]) (λ_=>true) (λu=>D.bl<|decide<|ask u d=ask t d) (t::ts) λu hu=>by
    refine⟨_,rfl,rfl,λ_=>?_⟩;have m1:=zOq u d<|hc u hu;rw[zOr]at m1
    exists 0,qQ,m1,zT4,WA
   rw[this,AC.mpr (by simp),vB];rfl
  rw[eA]at z
  have J:WB (.int<|(ts.length:Int)+1) (.int 0)=some (.bl false):=by
   unfold WB;rw[if_pos<|by simp[QH]];unfold LD;rw[x4,decide_eq_false<|by omega]
  have l1:ts.length+1<=1000000:=by simp only[iA]at S;omega
  have I:=M3 ((t::ts).map λu=>decide<|ask u d=ask t d)
  have j:((t::ts).map λu=>decide<|ask u d=ask t d).all id=(t::ts).all λu=>decide (ask u d=ask t d):=by
   rw[BX];rfl
  generalize ((t::ts).map λu=>decide<|ask u d=ask t d)=bs at z I j;unfold yH X7
  cases ha:(t::ts).all λu=>decide (ask u d=ask t d) with
  |true=>
   rw[ha]at j
   exists JV,UG,oX,kT,QS,O,m0,z,J,l1,I,j,kA,ET,NF,LD,XF,gT,bE,mG,zr,zf
   rw[ha];rfl
  |false=>
   rw[ha]at j
   exists JV,UG,oX,kT,QS,O,m0,z,J,l1,I,j,kA,ET,NF,hx,LD,XF,gT,bE,mG,zr,zf
   rw[ha];rfl
noncomputable def mI(qs:List (Str×Int)):List Str:=qs.foldl (λacc q=>if q.1∈acc then acc else acc++[q.1]) []
def sel(w:Str)(qs:List (Str×Int)):List Int:=(qs.filter λq=>decide<|q.1=w).map (·.2)
def yi(qs:List (Str×Int)):List (XB×List D):=(mI qs).map λw=>(ID w,(sel w qs).map D.int)
theorem W3(qs:List (Str×Int))(q:Str×Int):mI (qs++[q])=if q.1∈mI qs then mI qs else mI qs++[q.1]:=by
 unfold mI;rw[fQ,AE,List.foldl_nil]
theorem Nz(w:Str)(qs:List (Str×Int))(q:Str×Int):sel w (qs++[q])=sel w qs++(if q.1=w then [q.2] else []):=by
 unfold sel;rw[UC,GA];by_cases h:q.1=w<;>simp[h]
theorem j9{z:Type}{P:List z->Prop}(h0:P [])(h1:∀l a,P l->P (l++[a]))(l:List z):P l:=by
 have:∀n (l:List z),l.length=n->P l:=by
  intro n
  induction n with
  |zero=>intro l e;rw[JE.mp e];exact h0
  |succ n ih=>
   intro l e;obtain⟨i,x,rfl⟩:=zOi (l:=l) (by omega);exact h1 i x (ih i<|by simpa using e)
 exact this _ l rfl
theorem zJQ(qs:List (Str×Int)):(mI qs).Nodup:=by
 refine j9 (P:=λqs=>(mI qs).Nodup) (by simp[mI]) (λl q ih=>?_) qs;rw[W3];split
 .exact ih
 .rename_i h;exact BB.mpr ⟨ih,by simp,λa ha b hb=>by simp at hb;subst hb;exactλe=>h<|e ▸ ha⟩
theorem Qj(qs:List (Str×Int)):(mI qs).length<=qs.length:=by
 refine j9 (P:=λqs=>(mI qs).length<=qs.length) (by simp[mI]) (λl q ih=>?_) qs;rw[W3];split<;>simp<;>omega
theorem A4:w∈mI qs↔∃q∈qs,q.1=w:=by
 refine j9 (P:=λqs=>w∈mI qs↔∃q∈qs,q.1=w) (by simp[mI]) (λl q ih=>?_) qs;rw[W3];split
 .rename_i h;rw[ih];constructor
  .rintro⟨x,hx,e⟩;exact⟨x,by simp[hx],e⟩
  .rintro⟨x,hx,e⟩;rcases oA.mp hx with hx|hx
   .exact⟨x,hx,e⟩
   .simp at hx;subst hx;exact ih.mp<|e ▸ h
 .rw[oA,ih];constructor
  .rintro(⟨x,hx,e⟩|hx)
   .exact⟨x,by simp[hx],e⟩
   .simp at hx;exact⟨q,by simp,hx.symm⟩
  .rintro⟨x,hx,e⟩;rcases oA.mp hx with hx|hx
   .exact .inl ⟨x,hx,e⟩
   .simp at hx;subst hx;exact .inr (by simp[e])
theorem zT5(w:Str)(qs:List (Str×Int)):(sel w qs).length<=qs.length:=by
 unfold sel;rw[kA];exact SD ..
theorem k9(g:Str->List D)(w:Str):∀L:List Str,yj (L.map λv=>((ID v:XB),g v)) (.inr w)=if w∈L then some (g w) else none
 | []=>rfl
 |v::L=>by
  have ih:=k9 g w L;unfold yj at ih|-;rw[eA,vA];by_cases e:v=w
  .subst e;simp
  .have j:¬ (ID v:XB)=ID w:=λz=>e (by simpa using z)
   have I:¬ w=v:=λz=>e z.symm
   simp only[j,decide_false,nA,I,false_or];exact ih
theorem zLd(g:Str->List D)(w:Str)(x:List D):∀L:List Str,L.Nodup->w∈L->rG (.inr w) x (L.map λv=>((ID v:XB),g v))=L.map λv=>((ID v:XB),if v=w then x else g v)
 | [],_,h=>by simp at h
 |v::L,hn,h=>by
  obtain⟨h1,h2⟩:=NB.mp hn;rw[eA,eA];by_cases e:v=w
  .subst e;simp only[rG,if_true,uC,true_and];refine cC λu hu=>?_
   have:u≠v:=λz=>h1<|z ▸ hu
   simp[this]
  .have j:¬ (ID v:XB)=ID w:=λz=>e (by simpa using z)
   simp only[rG,j,e,if_false,uC,true_and];rcases nA.mp h with h|h
   .exact absurd h.symm e
   .exact zLd g w x L h2 h
theorem zT6{q:Str×Int}(h:q.1∈mI qs):yj (yi qs) (.inr q.1)=some ((sel q.1 qs).map D.int)/\rG (.inr q.1) ((sel q.1 qs).map D.int++[.int q.2]) (yi qs)=yi (qs++[q]):=by
 refine⟨by unfold yi;rw[k9<|λw=>(sel w qs).map D.int,if_pos h],?_⟩;unfold yi;rw[zLd (λw=>(sel w qs).map D.int) _ _ _ (zJQ qs) h,W3,if_pos h];refine cC λv _=>?_
 rw[Nz];by_cases e:v=q.1
 .simp[e]
 .simp[e,Ne.symm e]
theorem zT7{q:Str×Int}(h:q.1∉mI qs):yj (yi qs) (.inr q.1)=none/\yi qs++[(.inr q.1,[.int q.2])]=yi (qs++[q]):=by
 refine⟨by unfold yi;rw[k9<|λw=>(sel w qs).map D.int,if_neg h],?_⟩;unfold yi;rw[W3,if_neg h,GA]
 have s0:sel q.1 qs=[]:=by
  unfold sel;rw[nI,VE];intro x hx z;exact h (A4.mpr ⟨x,hx,by simpa using z⟩)
 congr 1
 .refine cC λv hv=>?_
  have:q.1≠v:=λz=>h<|z ▸ hv
  rw[Nz,if_neg this,kB]
 .simp[Nz,s0]
theorem zT8{qs:List (Str×Int)}{q:Str×Int}(z:qs.length<=1000):yd [s0,.o none<|.p<|.ml<|yi qs,s2,.v<|.str q.1,.v<|.int q.2]=some (.nx [s0,.o none<|.p<|.ml<|yi<|qs++[q],s2,.v<|.str q.1,.v<|.int q.2]):=by
 have l1:(sel q.1 qs).length<1000000:=by have:=zT5 q.1 qs;omega
 have j:(yi qs).length<1000000:=by have:=Qj qs;simp[yi];omega
 by_cases h:q.1∈mI qs
 .obtain⟨h1,h2⟩:=zT6 h
  exists 0,yd,YW,tO,cH,h1,h2,l1,WA,WB
 .obtain⟨h1,h2⟩:=zT7 h
  exists 0,yd,YW,tO,cH,h1,h2,j,WA,WB
theorem zLe:∀(rs qs:List (Str×Int))(s3 s4:Sl),(qs++rs).length<=1000->∃z j,zf (gT 2<|bE (gN 3)<|bE (gN 4) mG) yd (rs.map aE) [s0,.o none<|.p<|.ml<|yi qs,s2,s3,s4]=some (.nx [s0,.o none<|.p<|.ml<|yi<|qs++rs,s2,z,j])
 | [],qs,s3,s4,_=>⟨s3,s4,by simp[zf]⟩
 |q::rs,qs,s3,s4,hl=>by
  obtain⟨z,j,ih⟩:=zLe rs (qs++[q]) (.v<|.str q.1) (.v<|.int q.2) (by simpa using hl);refine⟨z,j,?_⟩;have hs:=zT8 (s0:=s0) (s2:=s2) (qs:=qs) (q:=q) (by simp at hl;omega);rw[eA,qw (ρ1:=[s0,.o none<|.p<|.ml<|yi qs,s2,.v<|.str q.1,.v<|.int q.2]) (by exists 0,aE,WA,WB) hs,ih];simp
theorem zLf:∀(ts:List Pl)(qs:List (Str×Int))(s2 s3 s4:Sl),(qs++ts.flatMap WF).length<=1000->∃J z j,zf (gN 2) qF (ts.map TB) [s0,.o none<|.p<|.ml<|yi qs,s2,s3,s4]=some (.nx [s0,.o none<|.p<|.ml<|yi<|qs++ts.flatMap WF,J,z,j])
 | [],qs,s2,s3,s4,_=>⟨s2,s3,s4,by simp[zf]⟩
 |t::ts,qs,s2,s3,s4,hl=>by
  rw[AB,<- EB]at hl ⊢;obtain⟨z,j,I⟩:=zLe (s0:=s0) (s2:=.v<|TB t) (WF t) qs s3 s4 (by rw[rA]at hl;omega);obtain⟨a,b,c,ih⟩:=zLf (s0:=s0) ts (qs++WF t) (.v<|TB t) z j hl;refine⟨a,b,c,?_⟩
  have hs:qF [s0,.o none<|.p<|.ml<|yi qs,.v<|TB t,s3,s4]=some (.nx [s0,.o none<|.p<|.ml<|yi<|qs++WF t,.v<|TB t,z,j]):=by
   unfold qF
   exists Nk,I,WA,WB,LD,XF,zQ,zr
  rw[eA,qw (ρ1:=[s0,.o none<|.p<|.ml<|yi qs,.v<|TB t,s3,s4]) (by exists 0,WA,WB) hs,ih]
theorem zT9{ts:List Pl}(j:(ts.flatMap WF).length<=1000):qB [.lst<|ts.map TB]=some (.o none<|.p<|.ml<|yi<|ts.flatMap WF):=by
 obtain⟨a,b,c,e⟩:=zLf (s0:=.v<|.lst<|ts.map TB) ts [] .un .un .un (by simpa using j);have k0:yi []=[]:=rfl;rw[k0,DB]at e
 exists qB,Jn,LV,nX,X9,o5,Sl.isOwn,e,WA,WB,LD,XF,zQ,gT,bE,mG,zr
def VD(ps:List Pl)(d:Int)(S:List Int):List Int:=OL<|(run ps d 300 [] S).getD []
theorem Oa:∀{l:List Int},y∈bN x l↔y=x\/y∈l
 | []=>by simp[bN]
 |z::l=>by
  simp only[bN];split
  .simp
  .simp only[nA,Oa (l:=l)];constructor
   .rintro(h|h|h)<;>simp[h]
   .rintro(h|h|h)<;>simp[h]
theorem aV:∀{l:List Int},y∈OL l↔y∈l
 | []=>by simp[OL]
 |x::l=>by simp only[OL,Oa,aV (l:=l),nA]
theorem zLg:∀{l:List Int},(bN x l).length=l.length+1
 | []=>rfl
 |z::l=>by simp only[bN];split<;>simp[zLg (l:=l)]
theorem zJR:∀{l:List Int},(OL l).length=l.length
 | []=>rfl
 |x::l=>by simp only[OL,zLg,zJR (l:=l),iA]
theorem zOs:∀{l:List Int},l.Pairwise (· < ·)->x∉l->(bN x l).Pairwise (· < ·)
 | [],_,_=>by simp[bN]
 |z::l,h,n=>by
  obtain⟨h1,h2⟩:=NA.mp h;have I:x≠z:=λe=>n (by simp[e])
  have j:x∉l:=λe=>n (by simp[e])
  simp only[bN];split
  .rename_i q;have hz:x<z:=by omega
   exact NA.mpr ⟨λy hy=>by
    rcases nA.mp hy with rfl|hy
    .exact hz
    .have:=h1 y hy;omega,h⟩
  .rename_i q;refine NA.mpr ⟨λy hy=>?_,zOs h2 j⟩;rcases Oa.mp hy with rfl|hy
   .omega
   .exact h1 y hy
theorem zLh:∀{l:List Int},l.Nodup->(OL l).Pairwise (· < ·)
 | [],_=>by simp[OL]
 |x::l,h=>by
  obtain⟨h1,h2⟩:=NB.mp h;exact zOs (zLh h2) λhy=>h1<|aV.mp hy
theorem Rw(h:yD m ps)(d:Int):∀(k:Nat)(found ws f:List Int),sM ps found->found.Nodup->sM ps ws->run ps d k found ws=some f->sM ps f/\f.Nodup
 |0,_,_,_,_,_,_,e=>by simp[run]at e
 |k+1,found,ws,f,hf,hn,hi,e=>by
  unfold run at e
  cases q:ws.getLast? with
  |none=>rw[q]at e;cases e;exact⟨hf,hn⟩
  |some n=>
   rw[q]at e;simp only at e;obtain⟨J,hp⟩:=V3 q;have I:=hi n (by rw[J];simp);have j:sM ps ws.dropLast:=λx hx=>hi x<|(lN _).subset hx
   split at e
   .exact Rw h d k found ws.dropLast f hf hn j e
   .rename_i hm;refine Rw h d k (found++[n]) _ f (λx hx=>?_) ?_ (λx hx=>?_) e
    .rcases oA.mp hx with hx|hx
     .exact hf x hx
     .simp at hx;subst hx;exact I
    .exact BB.mpr ⟨hn,by simp,λa ha b hb=>by simp at hb;subst hb;exactλz=>hm<|z ▸ ha⟩
    .rcases oA.mp hx with hx|hx
     .exact j x hx
     .exact(zOn h d n).1 x hx
structure AR(ps:List Pl)(K:List Int):Prop where
 inn:sM ps K
 up:K.Pairwise (· < ·)
 len:K.length<=40
theorem Y4(h:yD m ps)(d:Int){S:List Int}(hs:sM ps S)(J:S.length<=100):AR ps (VD ps d S)/\qg [xB m ps,.int d,.tup<|S.map D.int]=some (.tup<|(VD ps d S).map D.int):=by
 obtain⟨f,j,z,e3⟩:=Nx h d S hs J;have I:VD ps d S=OL f:=by simp[VD,j]
 obtain⟨U,i2⟩:=Rw h d 300 [] S f (λ_ hx=>by simp at hx) (by simp) hs j;rw[I];exact⟨⟨λn O=>U n<|aV.mp O,zLh i2,by rw[zJR];exact z⟩,e3⟩
theorem zUA:dN (tk found) (.inl n) (.bl true)=tk (if n∈found then found else found++[n]):=by
 by_cases h:n∈found
 .rw[if_pos h];unfold dN;rw[if_pos]
  .unfold tk;rw[vB];refine cC λx _=>?_
   simp only[Function.comp_def];split
   .rename_i e;simp at e;simp[e]
   .rfl
  .simp[tk];exact h
 .rw[if_neg h];exact zSB h
theorem zOu(ps:List Pl)(d:Int)(S:List Int):(turns ps d S).length<=S.length:=QA (SD ..)<|zJP ps S
theorem zOv{ps:List Pl}(h:yD m ps)(O:0<=n/\n<(ps.length:Int)){found:List Int}(S:found.length<=1000):
  ∃j,j.length<=found.length+1/\(∀y∈found,y∈j)/\(turns ps d (VD ps d [n])=[]->n∈j)/\qz [.v<|xB m ps,.v<|.int d,.m<|tk found,.v<|.int n]=some (.nx [.v<|xB m ps,.v<|.int d,.m<|tk j,.v<|.int n]):=by
 have hi:sM ps [n]:=λx hx=>by simp at hx;subst hx;exact O
 obtain⟨a1,a2⟩:=Y4 h d hi (by simp);have J:=zOp (m:=m) d a1.inn (by have:=a1.len;omega);simp only[eA,vC]at a2;have l1:(tk found).length<1000000:=by simp[tk];omega
 have I:WB (.int (turns ps d<|VD ps d [n]).length) (.int 0)=some (.bl<|decide<|((turns ps d<|VD ps d [n]).length:Int)=0):=by
  unfold WB;rw[if_pos<|by simp[QH]];unfold LD;rw[x4]
 have pt:=zUA (n:=n) (found:=found);by_cases c:((turns ps d<|VD ps d [n]).length:Int)=0
 .rw[decide_eq_true c]at I;refine⟨if n∈found then found else found++[n],by split<;>simp,λy hy=>by split<;>simp[hy],λ_=>by split<;>simp_all,?_⟩
  exists 0,qz,a2,J,I,cH,l1,pt,WA
 .rw[decide_eq_false c]at I;refine⟨found,by omega,λy hy=>hy,λz=>absurd (by rw[z];rfl) c,?_⟩
  exists 0,qz,a2,J,I,cH,l1,pt,WA
theorem zUB(lo:Int)(n:Nat):(rng lo n).length=n:=by simp[rng]
theorem zOw{ps:List Pl}(h:yD m ps)(d:Int):∀n:Nat,n<=ps.length->∃(found:List Int)(s3:Sl),(∀i:Nat,i<n->turns ps d (VD ps d [(i:Int)])=[]->(i:Int)∈found)/\zf (gN 3) qz (rng 0 n) [.v<|xB m ps,.v<|.int d,.m<|tk [],.un]=some (.nx [.v<|xB m ps,.v<|.int d,.m<|tk found,s3]):=by
 have hp:=h.n1
 have I:∀(is:List Nat)(found:List Int)(s3:Sl)(B:Nat->Prop),(∀i∈is,i<ps.length)->found.length+is.length<=1000->(∀i,B i->turns ps d (VD ps d [(i:Int)])=[]->(i:Int)∈found)->∃(J:List Int)(xM:Sl),(∀i:Nat,B i\/i∈is->turns ps d (VD ps d [(i:Int)])=[]->(i:Int)∈J)/\zf (gN 3) qz (is.map λ(i:Nat)=>D.int<|0+(i:Int)) [.v<|xB m ps,.v<|.int d,.m<|tk found,s3]=some (.nx [.v<|xB m ps,.v<|.int d,.m<|tk J,xM]):=by
  intro is
  induction is with
  |nil=>exactλfound s3 B _ _ al=>⟨found,s3,λi hi=>al i (hi.resolve_right<|λz=>nomatch z),rfl⟩
  |cons n is ih=>
   intro found s3 B hi Z al;have O:=hi n lA;rw[iA]at Z;obtain⟨U,l',sub,new,e'⟩:=zOv h (d:=d) (n:=(n:Int)) (by omega) (found:=found) (by omega)
   obtain⟨Y,s2,j,S⟩:=ih U (.v<|.int (n:Int)) (λi=>B i\/i=n) (λi q=>hi i<|dA _ q) (by omega) (λi q z=>by
    rcases q with q|rfl
    .exact sub _<|al i q z
    .exact new z)
   refine⟨Y,s2,λi q=>j i (by rcases q with q|q;exact .inl<|.inl q;rcases nA.mp q with q|q;exact .inl<|.inr q;exact .inr q),?_⟩;rw[eA,ZF,qw rfl e',S]
 intro n O;obtain⟨f,s3,al,e⟩:=I (JA n) [] .un (λ_=>False) (λi q=>DA (gC.mp q) O) (by simp;omega) (λi q=>q.elim);exact⟨f,s3,λi q=>al i<|.inr<|gC.mpr q,e⟩
theorem zWV{ps:List Pl}(h:yD m ps)(d:Int):∃found,(∀n:Int,0<=n->n<(ps.length:Int)->turns ps d (VD ps d [n])=[]->n∈found)/\HS [xB m ps,.int d]=some (.m<|tk found):=by
 have hp:=h.n1;obtain⟨found,s3,al,e⟩:=zOw h d ps.length<|wA _;refine⟨found,λn n0 n1 z=>?_,?_⟩
 .have:=al n.toNat (by omega);rw[show((n.toNat:Nat):Int)=n by omega]at this;exact this z
 have I:WA (xB m ps) (.int 1)=some (.tup<|ps.map TB):=by simp only[xB,WA,UJ]
 have j:tk []=[]:=rfl;rw[j]at e;have S:RD.inR (ps.length:Int)=true:=zJM (by omega);unfold HS LV
 have O:J3 [.v<|xB m ps,.v<|.int d,.un,.un]=some (.ro<|.m<|tk found):=by
  unfold J3;refine(zY (ρ':=[.v<|xB m ps,.v<|.int d,.m [],.un]) rfl).trans ((zY<|(JO<|pV (n:=ps.length) ?_<|by omega).trans e).trans rfl);simp only[zC,b1,b2,EN,I,KH,UA,cA,kA,uA]
 show(J3 [.v<|xB m ps,.v<|.int d,.un,.un]).bind nX=_;rw[O];rfl
theorem zRB(h0:0<=d)(h1:d<4)(K:List Int)(ts:List Pl)(found:List Int)(U:K.length<=1000):∃r,((r=.ok .non/\(ts=[]\/∀n∈K,n∉found))\/r=.error 0)/\zq [.int d,.tup<|K.map D.int,.lst<|ts.map TB] (.p<|.m<|tk found)=some r:=by
 obtain⟨x,hx⟩:=zWU h0 h1
 have I:∀a:Addr,zQ (gN 4) (λ_=>some true) z6 (K.map D.int) [.v<|.int d,.v<|.tup<|K.map D.int,.v<|.lst<|ts.map TB,.b a<|.p<|.m<|tk found,.un]=some ((K.map λn=>decide<|n∈found).map D.bl):=λa=>by
  have:=zw (g:=gN 4) (p:=λ_=>some true) (f:=z6) (emb:=D.int) (ρ:=[.v<|.int d,.v<|.tup<|K.map D.int,.v<|.lst<|ts.map TB,.b a<|.p<|.m<|tk found,.un]) (λ_=>true) (λn=>D.bl<|decide<|n∈found) K λn _=>by
   refine⟨_,rfl,rfl,λ_=>?_⟩;have O:=Rv n found
   exists 0,z6,XU,IP,cH,O,WA,WB
  rw[this,AC.mpr (by simp),vB];rfl
 have j:=M3 (K.map λn=>decide<|n∈found)
 have kf:(K.map λn=>decide<|n∈found).any id=false->∀n∈K,n∉found:=λq n S hf=>by
  rw[bJ]at q;exact q _ (PB S)<|decide_eq_true hf
 generalize (K.map λn=>decide<|n∈found)=bs at I j kf;have l1:K.length<=1000000:=by omega
 by_cases c:ts.length=0
 .refine⟨.ok .non,.inl ⟨rfl,.inl<|JE.mp c⟩,yw λa=>?_⟩
  exists LP,zo,kT,oX,QS,c,WA,WB,LD,XF,gT,bE,mG,zr,zf
 .have J:(0:Int)<(ts.length:Int):=by omega
  cases hb:bs.any id with
  |true=>
   refine⟨.error 0,.inr rfl,yw λa=>?_⟩
   exists LP,zo,kT,oX,QS,J,I,l1,j,hb,hx,WA,WB,LD,XF,gT,bE,mG,zr,zf
  |false=>
   refine⟨.ok .non,.inl ⟨rfl,.inr<|kf hb⟩,yw λa=>?_⟩
   exists LP,zo,kT,oX,QS,J,I,l1,j,hb,hx,WA,WB,LD,XF,gT,bE,mG,zr,zf
def YO{α:Type}:List α->List (List α)
 | []=>[[]]
 |x::l=>YO l++(YO l).map (x :: ·)
theorem zLi{j:Type}:∀l:List j,(YO l).length=2 ^ l.length
 | []=>rfl
 |x::l=>by rw[YO,rA,kA,zLi l,iA,Nat.pow_succ];omega
theorem zLj{j:Type}{s l:List j}(h:s.Sublist l):s∈YO l:=by
 induction h with
 |slnil=>simp[YO]
 |cons a _ ih=>exact oA.mpr<|.inl ih
 |cons_cons a _ ih=>exact oA.mpr<|.inr<|OA.mpr ⟨_,ih,rfl⟩
theorem X3{j:Type}[DecidableEq j]:∀{l L:List j},l.Nodup->(∀x∈l,x∈L)->l.length<=L.length
 | [],_,_,_=>nC _
 |x::l,L,h,k=>by
  obtain⟨h1,h2⟩:=NB.mp h;have hx:=k x lA;have ih:=X3 (l:=l) (L:=L.erase x) h2 λy hy=>(List.mem_erase_of_ne<|λ(e:y=x)=>h1<|e ▸ hy).mpr<|k y<|dA _ hy
  rw[List.length_erase_of_mem hx]at ih;have:0<L.length:=List.length_pos_of_mem hx;rw[iA];omega
noncomputable def SU(e h:Int):Pl->List Int
 |.fin=>[]
 |.tell a b ch=>if a=e/\b=h then ch.map (·.2) else []
def oR(ps:List Pl)(e h:Int):List Int:=ps.flatMap<|SU e h
theorem B4(e h:Int):∀ps:List Pl,(oR ps e h).length=II e h (ps.map TB)
 | []=>rfl
 |p::ps=>by
  have ih:=B4 e h ps;unfold oR at ih|-;rw[AB,rA,ih,eA,II]
  congr 1
  cases p with
  |fin=>rfl
  |tell a b ch=>
   refine Eq.trans ?_ X4.symm;simp only[SU,pr];split<;>simp
def rX(ps:List Pl)(d:Int):List (List Int):=VD ps d [0]::[0,1,2,3].flatMap λ(e:Int)=>(YO<|oR ps e d).map (VD ps d)++(YO<|oR ps d e).map (VD ps d)
def kK(ps:List Pl):Prop:=∀e h,II e h (ps.map TB)<=20
theorem zLk(hf:kK ps)(d:Int):(rX ps d).length<=8388609:=by
 have p:∀e h,(YO<|oR ps e h).length<=1048576:=λe h=>by
  rw[zLi,B4];exact QA (Nat.pow_le_pow_right (by decide)<|hf e h) (by decide)
 have a0:=p 0 d;have a1:=p 1 d;have a2:=p 2 d;have j:=p 3 d;have b0:=p d 0;have b1:=p d 1;have b2:=p d 2;have b3:=p d 3;simp only[rX,AB,QQ,iA,rA,kA,YB];omega
theorem zRC{j z:Type}{g:j->List z}{s l:List j}(h:s.Sublist l):(s.flatMap g).Sublist (l.flatMap g):=by
 induction h with
 |slnil=>simp
 |cons a _ ih=>rw[AB];exact ih.trans<|List.sublist_append_right ..
 |cons_cons a _ ih=>rw[AB,AB];exact(Bn _).append ih
theorem zLl{j z:Type}{f g:j->Option z}:∀{l:List j},(∀x∈l,f x=g x)->l.filterMap f=l.filterMap g
 | [],_=>rfl
 |x::l,h=>by rw[MC,MC,h x lA,zLl λy hy=>h y<|dA _ hy]
theorem zJT:∀(ps:List Pl)(off:Int)(K:List Int),K.Pairwise (· < ·)->(∀n∈K,off<=n/\n<off+(ps.length:Int))->(K.filterMap λn=>ps[(n-off).toNat]?).Sublist ps
 |[],off,K,_,h=>by
  cases K with
  |nil=>simp
  |cons n K=>have:=h n lA;simp at this;omega
 |p::ps,off,K,hp,h=>by
  have up:∀K:List Int,K.Pairwise (· < ·)->(∀n∈K,off<n/\n<off+((p::ps).length:Int))->(K.filterMap λn=>(p::ps)[(n-off).toNat]?).Sublist ps:=λK hp h=>by
   have:=zJT ps (off+1) K hp λn j=>by have:=h n j;simp only[iA]at this;omega
   rw[show(K.filterMap λn=>(p::ps)[(n-off).toNat]?)=K.filterMap λn=>ps[(n-(off+1)).toNat]? from zLl λn j=>by
    have:=h n j;rw[show(n-off).toNat=(n-(off+1)).toNat+1 by omega,fB]]
   exact this
  cases K with
  |nil=>simp
  |cons n K=>
   obtain⟨h1,h2⟩:=NA.mp hp;have j:=h n lA;by_cases e:n=off
   .subst e;rw[MC];simp only[Int.sub_self,TV,UA];exact(up K h2 λx hx=>⟨h1 x hx,(h x<|dA _ hx).2⟩).cons_cons p
   .refine(up (n::K) hp λx hx=>⟨?_,(h x hx).2⟩).cons p;rcases nA.mp hx with rfl|hx
    .omega
    .have:=h1 x hx;omega
theorem zOx(h:AR ps K)(d:Int):(turns ps d K).Sublist ps:=by
 have:=zJT ps 0 K h.up λn j=>by have:=h.inn n j;omega
 simp only[Int.sub_zero]at this;exact(iO).trans this
def wI(ps:List Pl)(d:Int)(K:List Int):List (Str×Int):=(turns ps d K).flatMap WF
def YM(ps:List Pl)(d:Int)(K:List Int)(w:Str):List Int:=VD ps d<|sel w<|wI ps d K
def ZM(ps:List Pl)(d:Int)(K:List Int):Bool:=match turns ps d K with
 | []=>true
 |t::ts=>(t::ts).all λu=>decide<|ask u d=ask t d
theorem zSD(h:AR ps K)(ha:ZM ps d K=true):wI ps d K=[]\/∃e h,(e=d\/h=d)/\(∃t∈turns ps d K,∃ch,t=.tell e h ch)/\((wI ps d K).map (·.2)).Sublist (oR ps e h):=by
 have sub:=zOx h d;have tt:∀t∈turns ps d K,vM t d=true:=λt ht=>(iC.mp ht).2
 unfold wI;unfold ZM at ha
 cases e:turns ps d K with
 |nil=>left;rfl
 |cons t ts=>
  rw[e]at ha sub tt;simp only[fE,decide_eq_true_eq]at ha
  have fin:∀e h,(∀u∈t::ts,∃ch,u=.tell e h ch)->((((t::ts).flatMap WF)).map (·.2)).Sublist (oR ps e h):=λe h k=>by
   have O:((t::ts).flatMap WF).map (·.2)=(t::ts).flatMap (SU e h):=by
    rw[List.map_flatMap]
    have J:∀(l:List Pl),(∀u∈l,∃ch,u=.tell e h ch)->l.flatMap (λa=>(WF a).map (·.2))=l.flatMap (SU e h):=by
     intro l
     induction l with
     |nil=>intro _;rfl
     |cons u l ih=>
      intro k;obtain⟨ch,rfl⟩:=k u lA;rw[AB,AB,ih λv hv=>k v<|dA _ hv];simp[WF,SU]
    exact J _ k
   rw[O];exact zRC sub
  cases t with
  |fin=>
   left
   rw[List.flatMap_eq_nil_iff];intro u hu;have:=ha u hu
   cases u with
   |fin=>rfl
   |tell a b ch=>simp only[ask]at this;split at this<;>cases this
  |tell a b ch=>
   right
   by_cases c:a=d
   .subst c;refine⟨a,b,.inl rfl,⟨_,lA,ch,rfl⟩,fin a b λu hu=>?_⟩;have:=ha u hu
    cases u with
    |fin=>simp[ask]at this
    |tell I b' j=>
     simp only[ask,if_true]at this;split at this
     .rename_i z;subst z;injection this with this _;subst this;exact⟨_,rfl⟩
     .cases this
   .have hb:b=d:=by
     have:=tt _ lA;simp only[vM,tp,KF,decide_eq_true_eq]at this;rcases this with z|z
     .exact absurd z.symm c
     .exact z.symm
    subst hb;refine⟨a,b,.inr rfl,⟨_,lA,ch,rfl⟩,fin a b λu hu=>?_⟩;have:=ha u hu;have t2:=tt u hu
    cases u with
    |fin=>simp[ask,c]at this
    |tell I b' j=>
     simp only[ask,c,if_false]at this;split at this
     .cases this
     .rename_i z;cases this;simp only[vM,tp,KF,decide_eq_true_eq]at t2;rcases t2 with q|q
      .exact absurd q.symm z
      .subst q;exact⟨_,rfl⟩
theorem zUC(w:Str)(qs:List (Str×Int)):(sel w qs).Sublist (qs.map (·.2)):=Bm _<|iO
theorem m9{ps:List Pl}(h:yD m ps)(ht:t∈turns ps d K):wM m (λn=>0<=n/\n<(ps.length:Int)) t:=by
 have:=(iC.mp ht).1;obtain⟨n,_,e⟩:=ZA.mp this;exact h.ok t<|xA e
theorem zWW{ps:List Pl}(h:yD m ps){q:Str×Int}(hq:q∈wI ps d K):(0<=q.2/\q.2<(ps.length:Int))/\ML q.1:=by
 obtain⟨t,ht,hc⟩:=lC.mp hq;have ok:=m9 h ht;refine⟨ok.next hc,?_⟩
 cases t with
 |fin=>simp[WF]at hc
 |tell a b ch=>exact ok.wd q hc
theorem zOy(h:yD m ps)(hf:kK ps)(hd:0<=d/\d<m)(hk:AR ps K)(ha:ZM ps d K=true)(w:Str)(S:w∈mI (wI ps d K)):
  YM ps d K w∈rX ps d/\sM ps (sel w<|wI ps d K)/\(sel w<|wI ps d K).length<=20:=by
 have inn:sM ps (sel w<|wI ps d K):=λn O=>by
  obtain⟨q,hq,rfl⟩:=OA.mp O;exact(zWW h (iC.mp hq).1).1
 obtain⟨q,hq,_⟩:=A4.mp S;rcases zSD hk ha with z|⟨e,e',j,⟨t,ht,ch,rfl⟩,s⟩
 .rw[z]at hq;simp at hq
 .have s':=(zUC w<|wI ps d K).trans s;have ok:tN m _ e e' ch:=m9 h ht;have hm:=h.m1;refine⟨?_,inn,QA s'.length_le (by rw[B4];exact hf _ _)⟩;refine dA _<|lC.mpr ?_;have I:=ok.a0;have U:=ok.a1;have J:=ok.b0;have e3:=ok.b1;rcases j with rfl|rfl
  .exact⟨e',by rcases four J (by omega) with z|z|z|z<;>simp[z],oA.mpr<|.inr<|OA.mpr ⟨_,zLj s',rfl⟩⟩
  .exact⟨e,by rcases four I (by omega) with z|z|z|z<;>simp[z],oA.mpr<|.inl<|OA.mpr ⟨_,zLj s',rfl⟩⟩
theorem zSE(hf:kK ps)(hk:AR ps K)(ha:ZM ps d K=true):(wI ps d K).length<=20:=by
 rcases zSD hk ha with z|⟨e,e',_,_,s⟩
 .rw[z];simp
 .have:=s.length_le;rw[kA,B4]at this;exact QA this<|hf _ _
def mF(K:List Int):D:=.tup<|K.map D.int
noncomputable def UL(Ks:List (List Int))(K:List Int):Nat:=match Ks with
 | []=>0
 |K'::r=>if K'=K then 0 else UL r K+1
theorem zOz:∀{Ks:List (List Int)},K∈Ks->UL Ks K<Ks.length
 | [],h=>by simp at h
 |K'::r,h=>by
  unfold UL;split
  .simp
  .rename_i n;rcases nA.mp h with e|h
   .exact absurd e.symm n
   .have:=zOz h;rw[iA];omega
theorem Oc(r:List (List Int)):∀{Ks:List (List Int)},K∈Ks->UL (Ks++r) K=UL Ks K
 | [],h=>by simp at h
 |K'::Ks,h=>by
  rw[MB];unfold UL;split
  .rfl
  .rename_i n;rcases nA.mp h with e|h
   .exact absurd e.symm n
   .rw[Oc r h]
theorem zLm:∀{Ks:List (List Int)},K∈Ks->Ks[UL Ks K]?=some K
 | [],h=>by simp at h
 |K'::r,h=>by
  unfold UL;split
  .rename_i e;simp[e]
  .rename_i n;rcases nA.mp h with e|h
   .exact absurd e.symm n
   .rw[fB];exact zLm h
noncomputable def cO(i:Nat):List (List Int)->List (List XB×D)
 | []=>[]
 |K::r=>(K.map aC,.int i)::cO (i+1) r
abbrev yM(Ks:List (List Int)):List (List XB×D):=cO 0 Ks
theorem zO0{K K':List Int}:K.map (aC:Int->XB)=K'.map aC↔K=K':=by
 constructor
 .intro h
  induction K generalizing K' with
  |nil=>cases K' with
   |nil=>rfl
   |cons=>simp at h
  |cons a K ih=>cases K' with
   |nil=>simp at h
   |cons b K'=>simp only[eA,uC,Sum.inl.injEq]at h;rw[h.1,ih h.2]
 .rintro rfl;rfl
theorem Oy{K:List Int}:∀(Ks:List (List Int))(i:Nat),yj (cO i Ks) (K.map aC)=if K∈Ks then some (.int ((i+UL Ks K:Nat):Int)) else none
 | [],i=>rfl
 |K'::r,i=>by
  have ih:=Oy (K:=K) r<|i+1;unfold yj at ih|-;rw[cO,vA];by_cases e:K'=K
  .subst e;simp[UL]
  .have j:¬ (K'.map (aC:Int->XB))=K.map aC:=λz=>e (zO0.mp z)
   have I:¬ K=K':=λz=>e z.symm
   simp only[j,decide_false,nA,I,false_or,UL,e,if_false];rw[ih];split
   .congr 3;omega
   .rfl
theorem zRD{K:List Int}{Ks:List (List Int)}(h:K∉Ks):MV (yM Ks) (K.map aC) (.int (Ks.length:Int))=yM (Ks++[K]):=by
 have g:∀(Ks:List (List Int))(i:Nat),K∉Ks->((cO i Ks).any λkv=>decide<|kv.1=K.map aC)=false/\cO i Ks++[(K.map aC,.int ((i+Ks.length:Nat):Int))]=cO i (Ks++[K]):=by
  intro Ks
  induction Ks with
  |nil=>intro i _;exact⟨rfl,rfl⟩
  |cons K' r ih=>
   intro i h;obtain⟨h1,h2⟩:=ih (i+1) λz=>h<|dA _ z
   refine⟨?_,?_⟩
   .rw[cO,QC,h1,ND];exact decide_eq_false λz=>h (by rw[zO0.mp z];simp)
   .rw[cO,MB,MB,cO,<- h2,iA,show i+(r.length+1)=i+1+r.length by omega]
 obtain⟨h1,h2⟩:=g Ks 0 h;unfold MV;rw[h1,if_neg<|by simp];rw[oJ]at h2;exact h2
theorem zLn:∀(Ks:List (List Int))(i:Nat),(cO i Ks).length=Ks.length
 | [],_=>rfl
 |K::r,i=>by rw[cO,iA,zLn r,iA]
theorem zO1(K:List Int):QP (mF K)=some (K.map aC):=by
 have:∀K:List Int,d5 (K.map D.int)=some (K.map aC):=by
  intro K
  induction K with
  |nil=>rfl
  |cons n K ih=>simp[d5,cH,ih]
 exact this K
theorem zWX(w:Str)(n:Int):D.tup [.str w,.int n]=aE (w,n):=rfl
def cL(Ks:List (List Int))(N:List Int):List (List Int):=if N∈Ks then Ks else Ks++[N]
theorem zLo(Ks:List (List Int))(N:List Int):N∈cL Ks N:=by unfold cL;split<;>simp[*]
theorem zRE(Ks:List (List Int))(N:List Int):∃r,cL Ks N=Ks++r:=by
 unfold cL;split
 .exact⟨[],by simp⟩
 .exact⟨[N],rfl⟩
theorem zUD{Ks:List (List Int)}(h:Ks.Nodup):(cL Ks N).Nodup:=by
 unfold cL;split
 .exact h
 .rename_i n;exact BB.mpr ⟨h,by simp,λa ha b hb=>by simp at hb;subst hb;exactλz=>n<|z ▸ ha⟩
theorem zO2{Ks:List (List Int)}{qs prs:List (Str×Int)}(S:w∈mI qs)(ha:qg [xB m ps,.int d,.tup<|(sel w qs).map D.int]=some (mF<|VD ps d<|sel w qs))(hk:Ks.length<16000000)(hp:prs.length<16000000):
  k8 [.v<|xB m ps,.v<|.int d,s2,.l<|Ks.map mF,.o none<|.p<|.t<|yM Ks,s5,s6,s7,s8,.o none<|.p<|.ml<|yi qs,.l<|prs.map aE,.v<|.str w,s12] =
   some (.nx [.v<|xB m ps,.v<|.int d,s2,.l<|(cL Ks<|VD ps d<|sel w qs).map mF,.o none<|.p<|.t<|yM<|cL Ks<|VD ps d<|sel w qs,s5,s6,s7,s8,.o none<|.p<|.ml<|yi qs,.l<|(prs++[(w,(UL (cL Ks<|VD ps d<|sel w qs) (VD ps d<|sel w qs):Int))]).map aE,.v<|.str w,.v<|mF<|VD ps d<|sel w qs]):=by
 have g:yj (yi qs) (.inr w)=some ((sel w qs).map D.int):=by unfold yi;rw[k9<|λw=>(sel w qs).map D.int,if_pos S]
 generalize VD ps d (sel w qs)=N at *;have I:=zO1 N;have j:=Oy (K:=N) Ks 0;have J:=Oy (K:=N) (cL Ks N) 0;rw[if_pos<|zLo Ks N,oJ]at J;have U:=zLn Ks 0;unfold k8;refine(zY (ρ':=[.v<|xB m ps,.v<|.int d,s2,.l<|Ks.map mF,.o none<|.p<|.t<|yM Ks,s5,s6,s7,s8,.o none<|.p<|.ml<|yi qs,.l<|prs.map aE,.v<|.str w,.v<|mF N]) ?_).trans ?_
 .exists 0,Sx,tO,cH,g,ha,WA,WB
 .have s1:(QF (D5 4<|gV 12) (sq (Au 4 (gV 12)<|b1 (gR 3) KH)<|aK 3<|gV 12)<|λρ=>some<|Out.nx ρ) [.v<|xB m ps,.v<|.int d,s2,.l<|Ks.map mF,.o none<|.p<|.t<|yM Ks,s5,s6,s7,s8,.o none<|.p<|.ml<|yi qs,.l<|prs.map aE,.v<|.str w,.v<|mF N] =
   some (.nx [.v<|xB m ps,.v<|.int d,s2,.l<|(cL Ks N).map mF,.o none<|.p<|.t<|yM<|cL Ks N,s5,s6,s7,s8,.o none<|.p<|.ml<|yi qs,.l<|prs.map aE,.v<|.str w,.v<|mF N]):=by
   by_cases c:N∈Ks
   .rw[if_pos c]at j;have z:cL Ks N=Ks:=by simp[cL,c]
    rw[z]
    exists 0,D5,iS,I,j,QN,WA,WB
   .rw[if_neg c]at j;have z:cL Ks N=Ks++[N]:=by simp[cL,c]
    have np:=zRD c;rw[z];have O:(cO 0 Ks).length<16000000:=by rw[U];exact hk
    exists 0,D5,iS,Au,I,j,Option.isSome_none,O,hk,np,GA,WA,WB
  refine(zY s1).trans ?_
  exists 0,QU,iS,I,J,hp,GA,zWX,WA,WB
theorem zHJ(B:Nat)(hB:B<12000000)(pl:List (List Int))(Z:pl.length<=B)(ha:∀w∈mI qs,VD ps d (sel w qs)∈pl/\qg [xB m ps,.int d,.tup<|(sel w qs).map D.int]=some (mF<|VD ps d<|sel w qs)):
  ∀(ws:List Str)(Ks:List (List Int))(prs:List (Str×Int))(s11 s12:Sl),(∀w∈ws,w∈mI qs)->Ks.Nodup->(∀K∈Ks,K∈pl)->prs.length+ws.length<16000000 ->
   ∃r J O,(Ks++r).Nodup/\(∀K∈Ks++r,K∈pl)/\(∀w∈ws,VD ps d (sel w qs)∈Ks++r) /\
    zf (gN 11) k8 (ws.map D.str) [.v<|xB m ps,.v<|.int d,s2,.l<|Ks.map mF,.o none<|.p<|.t<|yM Ks,s5,s6,s7,s8,.o none<|.p<|.ml<|yi qs,.l<|prs.map aE,s11,s12] =
     some (.nx [.v<|xB m ps,.v<|.int d,s2,.l<|(Ks++r).map mF,.o none<|.p<|.t<|yM<|Ks++r,s5,s6,s7,s8,.o none<|.p<|.ml<|yi qs,.l<|(prs++ws.map λw=>(w,(UL (Ks++r) (VD ps d<|sel w qs):Int))).map aE,J,O])
 | [],Ks,prs,s11,s12,_,hn,hs,_=>⟨[],s11,s12,by simpa using hn,by simpa using hs,by simp,by simp[zf]⟩
 |w::ws,Ks,prs,s11,s12,hw,hn,hs,hl=>by
  have S:=hw w lA;obtain⟨a1,a2⟩:=ha w S;rw[iA]at hl;have kl:=X3 hn hs;obtain⟨r1,z⟩:=zRE Ks<|VD ps d<|sel w qs;have st:=zO2 (s2:=s2) (s5:=s5) (s6:=s6) (s7:=s7) (s8:=s8) (s12:=s12) (Ks:=Ks) (prs:=prs) S a2 (by omega) (by omega);have Y:=zUD (N:=VD ps d<|sel w qs) hn;have j:=zLo Ks<|VD ps d<|sel w qs
  have vO:∀K∈cL Ks (VD ps d<|sel w qs),K∈pl:=λK hK=>by
   unfold cL at hK;split at hK
   .exact hs K hK
   .rcases oA.mp hK with hK|hK
    .exact hs K hK
    .simp at hK;subst hK;exact a1
  obtain⟨r,J,O,I,i2,i3,i4⟩:=zHJ B hB pl Z ha ws (cL Ks<|VD ps d<|sel w qs) (prs++[(w,(UL (cL Ks<|VD ps d<|sel w qs) (VD ps d<|sel w qs):Int))]) (.v<|.str w) (.v<|mF<|VD ps d<|sel w qs) (λv hv=>hw v<|dA _ hv) Y vO (by simp;omega);have U:=Oc r j;rw[z]at st I i2 i3 i4 U j;rw[EB]at I i2 i3;refine⟨r1++r,J,O,I,i2,λv hv=>?_,?_⟩
  .rcases nA.mp hv with rfl|hv
   .rw[<- EB];exact oA.mpr<|.inl j
   .exact i3 v hv
  .rw[eA,qw (ρ1:=[.v<|xB m ps,.v<|.int d,s2,.l<|Ks.map mF,.o none<|.p<|.t<|yM Ks,s5,s6,s7,s8,.o none<|.p<|.ml<|yi qs,.l<|prs.map aE,.v<|.str w,s12]) rfl st,i4,<- EB,<- U];simp
theorem BQ{F G:mB->Option YF}(h:F ρ=some (.o<|.nx ρ')):UG F G ρ=G ρ':=by simp only[UG,h,cA]
theorem Aa{F G:mB->Option YF}(h:F ρ=some (.ex c)):UG F G ρ=some (.ex c):=by simp only[UG,h,cA]
theorem cT{F:VB}(h:F ρ=some o):oX F ρ=some (.o o):=by simp only[oX,h,uA]
inductive St where
 |fin|rests|act (t:Bool) (o:Int) (prs:List (Str×Int))
def dF:St->D
 |.fin=>.tup [.str "end"]
 |.rests=>.tup [.str "rests"]
 |.act t o prs=>.tup [.str<|if t then "tells" else "hears",.int o,.tup<|prs.map aE]
def JP(ps:List Pl)(d:Int)(K:List Int):List Str:=AM<|mI<|wI ps d K
def DN(ps:List Pl)(d:Int)(Ks:List (List Int))(K:List Int):List (Str×Int):=(JP ps d K).map λw=>(w,(UL Ks (YM ps d K w):Int))
def AK(ps:List Pl)(d:Int)(Ks:List (List Int))(K:List Int):St:=match turns ps d K with
 | []=>.rests
 |t::_=>match ask t d with
  |.fin=>.fin
  |.tells b _=>.act true b<|DN ps d Ks K
  |.hears a=>.act false a<|DN ps d Ks K
def Ac(ps:List Pl)(d:Int)(Ks:List (List Int))(K:List Int):Prop:=∀w∈JP ps d K,YM ps d K w∈Ks
theorem zRF(h:Ac ps d Ks K)(r:List (List Int)):AK ps d (Ks++r) K=AK ps d Ks K:=by
 have:DN ps d (Ks++r) K=DN ps d Ks K:=cC λw j=>by rw[Oc r<|h w j]
 unfold AK;rw[this]
theorem Rj(x:Ask):uM (match x with | .fin=>D.str "end" | .tells _ _=>D.str "tells" | .hears _=>D.str "hears") (.tup [.str "tells",.str "hears"])=some (.bl (match x with | .fin=>false|_=>true)):=by
 cases x<;>(unfold uM;rw[if_pos<|by simp[QH]];simp only[QC,DX,LD,beq_self_eq_true,P0,M0,Q0,ND,tX,FM])
theorem zRG:uM (D.str "rests") (.tup [.str "tells",.str "hears"])=some (.bl false):=by
 have a:((fA "tells" : Str)==fA "rests")=false:=by decide +kernel
 have b:((fA "hears" : Str)==fA "rests")=false:=by decide +kernel
 unfold uM;rw[if_pos<|by simp[QH]];simp only[QC,DX,LD,a,b,ND]
def CQ(ps:List Pl)(d:Int)(K:List Int):D:=match turns ps d K with
 | []=>.tup [.str "rests"]
 |t::_=>xJ<|ask t d
theorem zUE{ZD:List St}(I:ZD.length<16000000):
  (aK 5<|YU (bB<|b2 (b2 (gR 8) (zN 0) WA) (λρ=>((zC (λ_=>some<|D.str "tells")<|zC (λ_=>some<|D.str "hears") zO) ρ).map D.tup) uM) (λρ=>((zC (b2 (gR 8) (zN 0) WA)<|zC (b2 (gR 8) (zN 1) WA)<|zC (b1 (gR 10) CM) zO) ρ).map D.tup)<|gV 8)
   [s0,s1,s2,s3,s4,.l<|ZD.map dF,s6,s7,.v<|CQ ps d K,s9,.l<|(DN ps d Ks K).map aE,s11,s12] =
   some (.nx [s0,s1,s2,s3,s4,.l<|(ZD++[AK ps d Ks K]).map dF,s6,s7,.v<|CQ ps d K,s9,.l<|(DN ps d Ks K).map aE,s11,s12]):=by
 unfold CQ AK
 cases turns ps d K with
 |nil=>
  have j:WA (.tup [.str "rests"]) (.int 0)=some (.str "rests"):=by simp only[WA,DH]
  exists 0,YU,j,zRG,I,GA,dF,WB
 |cons t ts=>
  simp only;generalize ask t d=x
  cases x with
  |fin=>
   have j:WA (xJ .fin) (.int 0)=some (.str "end"):=by simp only[xJ,WA,DH]
   have z:=Rj .fin
   exists 0,YU,j,z,I,GA,dF,WB
   rfl
  |tells b ws=>
   have j:WA (xJ<|.tells b ws) (.int 0)=some (.str "tells"):=by simp only[xJ,WA,DH]
   have J:WA (xJ<|.tells b ws) (.int 1)=some (.int b):=by simp only[xJ,WA,UJ]
   have z:=Rj<|.tells b ws
   exists 0,YU,j,J,z,I,GA,dF,WB
  |hears a=>
   have j:WA (xJ<|.hears a) (.int 0)=some (.str "hears"):=by simp only[xJ,WA,DH]
   have J:WA (xJ<|.hears a) (.int 1)=some (.int a):=by simp only[xJ,WA,UJ]
   have z:=Rj<|.hears a
   exists 0,YU,j,J,z,I,GA,dF,WB
theorem S2:w∈JP ps d K↔w∈mI (wI ps d K):=P8
theorem zRH(qs:List (Str×Int)):(yi qs).map (λq=>WO q.1)=(mI qs).map D.str:=by
 unfold yi;rw[vB];rfl
theorem zO4{l:List Str}(h:l.length<64):FQ (.lst<|l.map D.str)=some ((AM l).map D.str):=zJL h
theorem zWY{ps:List Pl}(h:yD m ps)(j:n∈oR ps e e'):0<=n/\n<(ps.length:Int):=by
 obtain⟨p,hp,hm⟩:=lC.mp j
 cases p with
 |fin=>simp[SU]at hm
 |tell a b ch=>
  simp only[SU]at hm;split at hm
  .obtain⟨q,hq,rfl⟩:=OA.mp hm;exact(h.ok _ hp:tN _ _ _ _ _).nx q hq
  .simp at hm
theorem Qk{j:Type}{s:List j}:∀{l:List j},s∈YO l->s.Sublist l
 | [],h=>by simp[YO]at h;subst h;simp
 |x::l,h=>by
  rcases oA.mp h with h|h
  .exact(Qk h).cons x
  .obtain⟨s',h',rfl⟩:=OA.mp h;exact(Qk h').cons_cons x
theorem zRI(h:yD m ps)(hf:kK ps)(hK:K∈rX ps d):AR ps K:=by
 have one:∀e e' S,S∈YO (oR ps e e')->AR ps (VD ps d S):=λe e' S j=>by
  have s:=Qk j;refine(Y4 h d (λn z=>zWY h<|s.subset z) ?_).1;have:=s.length_le;rw[B4]at this;have:=hf e e';omega
 rcases nA.mp hK with rfl|hK
 .exact(Y4 h d (λn z=>by simp at z;subst z;have:=h.n0;omega)<|by simp).1
 .obtain⟨e,_,hK⟩:=lC.mp hK;rcases oA.mp hK with hK|hK
  .obtain⟨S,j,rfl⟩:=OA.mp hK;exact one _ _ S j
  .obtain⟨S,j,rfl⟩:=OA.mp hK;exact one _ _ S j
structure PS(m:Int)(ps:List Pl)(d:Int):Prop where
 dn:yD m ps
 few:kK ps
 d0:0<=d
 d1:d<m
structure OV(ps:List Pl)(d:Int)(vs:List Int)(Ks:List (List Int))(ZD:List St):Prop where
 nd:Ks.Nodup
 pl:∀K∈Ks,K∈rX ps d
 st:∀K∈Ks,AR ps K
 le:ZD.length<=Ks.length
 cl:∀K∈Ks.take ZD.length,Ac ps d Ks K/\ZM ps d K=true/\(turns ps d K=[]\/∀n∈K,n∉vs)
 eq:ZD=(Ks.take ZD.length).map (AK ps d Ks)
theorem OV.len{ps:List Pl}{d:Int}{vs:List Int}{Ks:List (List Int)}{ZD:List St}(I:OV ps d vs Ks ZD)(hf:kK ps):Ks.length<=8388609:=QA (X3 I.nd I.pl)<|zLk hf d
theorem zWZ{xs ys:List D}:qS [s0,s1,s2,.l xs,s4,.l ys,s6,s7,s8,s9,s10,s11,s12]=some (decide<|ys.length<xs.length):=by
 exists 0,qS,WA,WB
 congr 1
 exact decide_eq_decide.mpr (by omega)
theorem zO5(h:PS m ps d){Ks:List (List Int)}{ZD:List St}(I:OV ps d vs Ks ZD)(hl:ZD.length<Ks.length)(s6 s7 s8 s9 s10 s11 s12:Sl):
  yW [.v<|xB m ps,.v<|.int d,.m<|tk vs,.l<|Ks.map mF,.o none<|.p<|.t<|yM Ks,.l<|ZD.map dF,s6,s7,s8,s9,s10,s11,s12]=some (.ex 0) \/
  ∃r st bH vI CP j0 JU tL uL,OV ps d vs (Ks++r) (ZD++[st])/\yW [.v<|xB m ps,.v<|.int d,.m<|tk vs,.l<|Ks.map mF,.o none<|.p<|.t<|yM Ks,.l<|ZD.map dF,s6,s7,s8,s9,s10,s11,s12] =
   some (.o<|.nx [.v<|xB m ps,.v<|.int d,.m<|tk vs,.l<|(Ks++r).map mF,.o none<|.p<|.t<|yM<|Ks++r,.l<|(ZD++[st]).map dF,bH,vI,CP,j0,JU,tL,uL]):=by
 have d4:d<4:=by have:=h.dn.m1;have:=h.d1;omega
 have hK:Ks[ZD.length]?=some Ks[ZD.length]:=by simp[hl]
 generalize Ks[ZD.length]=K at hK;have mK:K∈Ks:=xA hK;have O:=I.st K mK;have lK:=O.len;have kl:=I.len h.few
 have i1:WA (.lst<|Ks.map mF) (.int (ZD.length:Int))=some (mF K):=by
  have:¬ ((ZD.length:Int)<0):=by omega
  have hg:Ks[ZD.length]=K:=by rw[CG hl]at hK;exact wB hK
  simp[WA,VF,kI,hl,hg]
 have mt:=zOp (m:=m) d O.inn (by omega);obtain⟨r,hr,mr⟩:=zRB h.d0 d4 K (turns ps d K) vs (by omega);have tl:=zOu ps d K;have ma:=zKb h.d0 d4 (turns ps d K) (by omega) λt ht=>(m9 h.dn ht).few
 have TN:yW [.v<|xB m ps,.v<|.int d,.m<|tk vs,.l<|Ks.map mF,.o none<|.p<|.t<|yM Ks,.l<|ZD.map dF,s6,s7,s8,s9,s10,s11,s12]=yW [.v<|xB m ps,.v<|.int d,.m<|tk vs,.l<|Ks.map mF,.o none<|.p<|.t<|yM Ks,.l<|ZD.map dF,s6,s7,s8,s9,s10,s11,s12]:=rfl;unfold yW
 have q1:∀G:mB->Option YF,UG (oX<|qC 6<|b2 (gR 3) (b1 (gR 5) KH) WA) G [.v<|xB m ps,.v<|.int d,.m<|tk vs,.l<|Ks.map mF,.o none<|.p<|.t<|yM Ks,.l<|ZD.map dF,s6,s7,s8,s9,s10,s11,s12]=G [.v<|xB m ps,.v<|.int d,.m<|tk vs,.l<|Ks.map mF,.o none<|.p<|.t<|yM Ks,.l<|ZD.map dF,.v<|mF K,s7,s8,s9,s10,s11,s12]:=λG=>
  BQ (cT (by exists 0,i1,WB))
 have q2:∀G:mB->Option YF,UG (oX<|qC 7<|λρ=>((zC (gV 0)<|zC (gV 1)<|zC (gV 6) zO) ρ).bind yT) G [.v<|xB m ps,.v<|.int d,.m<|tk vs,.l<|Ks.map mF,.o none<|.p<|.t<|yM Ks,.l<|ZD.map dF,.v<|mF K,s7,s8,s9,s10,s11,s12]=G [.v<|xB m ps,.v<|.int d,.m<|tk vs,.l<|Ks.map mF,.o none<|.p<|.t<|yM Ks,.l<|ZD.map dF,.v<|mF K,.v<|.lst<|(turns ps d K).map TB,s8,s9,s10,s11,s12]:=λG=>
  BQ (cT (by exists 0,mF,mt,WB))
 have e3:(Rm<|xV 2 (gP (gV 1)<|gP (gV 6)<|gP (gV 7) zO) zq) [.v<|xB m ps,.v<|.int d,.m<|tk vs,.l<|Ks.map mF,.o none<|.p<|.t<|yM Ks,.l<|ZD.map dF,.v<|mF K,.v<|.lst<|(turns ps d K).map TB,s8,s9,s10,s11,s12]=(some r:Option (Except Nat D)).map (λr=>match r with | .ok _=>.o (.nx [.v<|xB m ps,.v<|.int d,.m<|tk vs,.l<|Ks.map mF,.o none<|.p<|.t<|yM Ks,.l<|ZD.map dF,.v<|mF K,.v<|.lst<|(turns ps d K).map TB,s8,s9,s10,s11,s12]) | .error c=>.ex c):=by
  rw[<- mr];rfl
 rw[q1,q2];rcases hr with⟨rfl,nv⟩|rfl
 .rw[BQ e3];by_cases al:ZM ps d K=true
  .right
   have U:yH [.lst<|(turns ps d K).map TB,.int d]=some (.ok<|CQ ps d K):=by
    rw[ma];unfold ZM at al;unfold CQ Z9
    cases e:turns ps d K with
    |nil=>rfl
    |cons t ts=>rw[e]at al;simp only at al|-;rw[if_pos al]
   have qf:=zSE h.few O al;have nx:=λw z=>zOy h.dn h.few ⟨h.d0,h.d1⟩ O al w z
   have ap:=λw (z:w∈mI (wI ps d K))=>Y4 h.dn d (nx w z).2.1 (by have:=(nx w z).2.2;omega)
   have mn:=zT9 (ts:=turns ps d K) (by show(wI ps d K).length<=1000;omega);have wl:=Qj<|wI ps d K;have sl:(JP ps d K).length<=20:=by unfold JP;rw[Q8];omega
   have so:=zO4 (l:=mI<|wI ps d K) (by omega);obtain⟨J,tL,uL,p1,p2,p3,p4⟩:=zHJ (m:=m) (ps:=ps) (d:=d) (s2:=.m<|tk vs) (s5:=.l<|ZD.map dF) (s6:=.v<|mF K) (s7:=.v<|.lst<|(turns ps d K).map TB) (s8:=.v<|CQ ps d K) (qs:=wI ps d K) 8388609 (by decide) (rX ps d) (zLk h.few d) (λw z=>⟨(nx w z).1,(ap w z).2⟩) (JP ps d K) Ks [] s11 s12 (λw z=>S2.mp z) I.nd I.pl (by simp;omega);have ePr:([]++(JP ps d K).map λw=>(w,(UL (Ks++J) (VD ps d<|sel w<|wI ps d K):Int)))=DN ps d (Ks++J) K:=by rw[DB];rfl
   rw[ePr,vC]at p4;refine⟨J,AK ps d (Ks++J) K,.v<|mF K,.v<|.lst<|(turns ps d K).map TB,.v<|CQ ps d K,.o none<|.p<|.ml<|yi<|wI ps d K,.l<|(DN ps d (Ks++J) K).map aE,tL,uL,?_,?_⟩
   .have cK:Ac ps d (Ks++J) K:=p3
    have B7:(Ks++J).take (ZD++[AK ps d (Ks++J) K]).length=Ks.take ZD.length++[K]:=by
     rw[rA,HA,List.take_append_of_le_length<|by omega,List.take_succ,hK];rfl
    refine⟨p1,p2,λK' PM=>?_,by simp;omega,λK' PM=>?_,?_⟩
    .rcases oA.mp PM with PM | PM
     .exact I.st K' PM
     .exact zRI h.dn h.few<|p2 K'<|oA.mpr<|.inr PM
    .rw[B7]at PM;rcases oA.mp PM with PM | PM
     .obtain⟨c1,c2⟩:=I.cl K' PM;exact⟨λw z=>oA.mpr<|.inl<|c1 w z,c2⟩
     .simp at PM;subst PM;exact⟨cK,al,nv⟩
    .rw[B7,GA,eP]
     congr 1
     rw[show(Ks.take ZD.length).map (AK ps d<|Ks++J)=(Ks.take ZD.length).map (AK ps d Ks) from cC λK' PM=>zRF (I.cl K' PM).1 J];exact I.eq
   .refine(BQ (ρ':=[.v<|xB m ps,.v<|.int d,.m<|tk vs,.l<|Ks.map mF,.o none<|.p<|.t<|yM Ks,.l<|ZD.map dF,.v<|mF K,.v<|.lst<|(turns ps d K).map TB,.v<|CQ ps d K,s9,s10,s11,s12]) ?_).trans ?_
    .exists 0,Ar,U,WB
    .refine cT ?_;refine(zY (ρ':=[.v<|xB m ps,.v<|.int d,.m<|tk vs,.l<|Ks.map mF,.o none<|.p<|.t<|yM Ks,.l<|ZD.map dF,.v<|mF K,.v<|.lst<|(turns ps d K).map TB,.v<|CQ ps d K,.o none<|.p<|.ml<|yi<|wI ps d K,s10,s11,s12]) ?_).trans ?_
     .exists 0,NP,mn,WB
      rfl
     .refine(zY (ρ':=[.v<|xB m ps,.v<|.int d,.m<|tk vs,.l<|Ks.map mF,.o none<|.p<|.t<|yM Ks,.l<|ZD.map dF,.v<|mF K,.v<|.lst<|(turns ps d K).map TB,.v<|CQ ps d K,.o none<|.p<|.ml<|yi<|wI ps d K,.l [],s11,s12]) rfl).trans ?_;refine(zY<|(JO (ds:=(JP ps d K).map D.str) ?_).trans p4).trans ?_
      .exists 0,Rn,tO,zRH,so,JP,WB
      .exact zUE (by omega)
  .left
   refine Aa ?_
   have U:yH [.lst<|(turns ps d K).map TB,.int d]=some (.error 0):=by
    rw[ma];unfold ZM at al;unfold Z9
    cases e:turns ps d K with
    |nil=>rw[e]at al;exact absurd rfl al
    |cons t ts=>rw[e]at al;simp only at al|-;rw[if_neg al]
   exists 0,Ar,U,WB
 .left;exact Aa e3
theorem zO6{c:kF}{F:mB->Option YF}(h:c ρ=some true)(e:F ρ=some (.o<|.nx ρ')):AN c F (k+1) ρ=AN c F k ρ':=by
 simp only[AN,h,cA,if_true,e]
theorem zO7{c:kF}{F:mB->Option YF}(h:c ρ=some true)(e:F ρ=some (.ex n)):AN c F (k+1) ρ=some (.ex n):=by
 simp only[AN,h,cA,if_true,e]
theorem zMg{c:kF}{F:mB->Option YF}(h:c ρ=some false):AN c F (k+1) ρ=some (.o<|.nx ρ):=by
 simp[AN,h]
theorem zJV(h:PS m ps d)(vs:List Int):∀(n:Nat)(Ks:List (List Int))(ZD:List St)(s6 s7 s8 s9 s10 s11 s12:Sl),OV ps d vs Ks ZD->8388609<n+ZD.length ->
  AN qS yW n [.v<|xB m ps,.v<|.int d,.m<|tk vs,.l<|Ks.map mF,.o none<|.p<|.t<|yM Ks,.l<|ZD.map dF,s6,s7,s8,s9,s10,s11,s12]=some (.ex 0) \/
  ∃r DP bH vI S j0 Y tL uL,OV ps d vs (Ks++r) DP/\DP.length=(Ks++r).length/\AN qS yW n [.v<|xB m ps,.v<|.int d,.m<|tk vs,.l<|Ks.map mF,.o none<|.p<|.t<|yM Ks,.l<|ZD.map dF,s6,s7,s8,s9,s10,s11,s12] =
   some (.o<|.nx [.v<|xB m ps,.v<|.int d,.m<|tk vs,.l<|(Ks++r).map mF,.o none<|.p<|.t<|yM<|Ks++r,.l<|DP.map dF,bH,vI,S,j0,Y,tL,uL])
 |0,Ks,ZD,s6,s7,s8,s9,s10,s11,s12,I,hn=>by have:=I.len h.few;have:=I.le;omega
 |n+1,Ks,ZD,s6,s7,s8,s9,s10,s11,s12,I,hn=>by
  have tp:=zWZ (s0:=.v<|xB m ps) (s1:=.v<|.int d) (s2:=.m<|tk vs) (s4:=.o none<|.p<|.t<|yM Ks) (s6:=s6) (s7:=s7) (s8:=s8) (s9:=s9) (s10:=s10) (s11:=s11) (s12:=s12) (xs:=Ks.map mF) (ys:=ZD.map dF);rw[kA,kA]at tp;by_cases z:ZD.length<Ks.length
  .rw[decide_eq_true z]at tp;rcases zO5 h (vs:=vs) I z s6 s7 s8 s9 s10 s11 s12 with e|⟨r,st,a6,a7,a8,a9,Z,M6,O6,U,e⟩
   .left;exact zO7 tp e
   .rw[zO6 tp e];rcases zJV h vs n (Ks++r) (ZD++[st]) a6 a7 a8 a9 Z M6 O6 U (by simp;omega) with e' | ⟨r',DP,b6,b7,b8,b9,Cs,Ct,Cu,J,jl,e'⟩
    .left;exact e'
    .right
     rw[EB]at J jl e';exact⟨r++r',DP,b6,b7,b8,b9,Cs,Ct,Cu,J,jl,e'⟩
  .rw[decide_eq_false z]at tp
   right
   refine⟨[],ZD,s6,s7,s8,s9,s10,s11,s12,by simpa using I,by have:=I.le;simp;omega,?_⟩;rw[zMg tp,kB]
structure IsPart(ps:List Pl)(d:Int)(Ks:List (List Int)):Prop where
 nd:Ks.Nodup
 ze:Ks[0]?=some (VD ps d [0])
 st:∀K∈Ks,AR ps K
 cl:∀K∈Ks,Ac ps d Ks K
 al:∀K∈Ks,ZM ps d K=true
 nv:∀K∈Ks,turns ps d K≠[]->∀x∈K,turns ps d (VD ps d [x])≠[]
 le:Ks.length<=8388609
def zWa(ps:List Pl)(d:Int)(Ks:List (List Int)):D:=.tup<|(Ks.map<|AK ps d Ks).map dF
theorem zUG{N:List Str}{F:mB->Option YF}{ds:List D}(h:ds.map Sl.v++jA (N.length-ds.length) .un=ρ):JV N F ds=(F ρ).bind λo=>match o with
  |.o (.rt d)=>some<|.ok d
  |.o (.nx _)=>some<|.ok .non
  |.ex c=>some<|.error c
  |_=>none:=by subst h;rfl
theorem o9{fl:pD}{F:List D->Option Sl}{ρ:mB}(h1:fl ρ=some ds)(h2:F ds=some s):NP i fl F ρ=some (.nx<|ρ.set i s):=by
 unfold NP;rw[h1,cA,h2,uA]
theorem zWb(h:PS m ps d)(N:Nat)(Z:8388609<N):
  (UG (oX<|NP 2 (zC (gV 0)<|zC (gV 1) zO) HS)<|UG (oX<|iJ 3<|zC (λρ=>((zC (gV 0)<|zC (gV 1)<|zC (λρ=>((zC (zN 0) zO) ρ).map D.tup) zO) ρ).bind qg) zO)<|UG (oX<|fX 4 (b2 (gR 3) (zN 0) WA)<|zN 0)<|UG (oX<|iJ 5 zO)<|UG (j4 N qS yW)<|oX<|lF<|b1 (gR 5) CM) [.v<|xB m ps,.v<|.int d,.un,.un,.un,.un,.un,.un,.un,.un,.un,.un,.un]=some (.ex 0) \/
  ∃Ks,IsPart ps d Ks/\(UG (oX<|NP 2 (zC (gV 0)<|zC (gV 1) zO) HS)<|UG (oX<|iJ 3<|zC (λρ=>((zC (gV 0)<|zC (gV 1)<|zC (λρ=>((zC (zN 0) zO) ρ).map D.tup) zO) ρ).bind qg) zO)<|UG (oX<|fX 4 (b2 (gR 3) (zN 0) WA)<|zN 0)<|UG (oX<|iJ 5 zO)<|UG (j4 N qS yW)<|oX<|lF<|b1 (gR 5) CM) [.v<|xB m ps,.v<|.int d,.un,.un,.un,.un,.un,.un,.un,.un,.un,.un,.un]=some (.o<|.rt<|zWa ps d Ks):=by
 obtain⟨vs,hvs,mv⟩:=zWV h.dn d;obtain⟨s0,a0⟩:=Y4 h.dn d (S:=[0]) (λn O=>by simp at O;subst O;have:=h.dn.n0;omega) (by simp);simp only[eA,vC]at a0;have kz:=zO1<|VD ps d [0];have U:OV ps d vs [VD ps d [0]] []:=⟨by simp,λK hK=>by simp at hK;subst hK;exact lA,λK hK=>by simp at hK;subst hK;exact s0,by simp,by simp,by simp⟩
 have pre:∀G:mB->Option YF,(UG (oX<|NP 2 (zC (gV 0)<|zC (gV 1) zO) HS)<|UG (oX<|iJ 3<|zC (λρ=>((zC (gV 0)<|zC (gV 1)<|zC (λρ=>((zC (zN 0) zO) ρ).map D.tup) zO) ρ).bind qg) zO)<|UG (oX<|fX 4 (b2 (gR 3) (zN 0) WA)<|zN 0)<|UG (oX<|iJ 5 zO) G) [.v<|xB m ps,.v<|.int d,.un,.un,.un,.un,.un,.un,.un,.un,.un,.un,.un] =
   G [.v<|xB m ps,.v<|.int d,.m<|tk vs,.l<|[VD ps d [0]].map mF,.o none<|.p<|.t<|yM [VD ps d [0]],.l<|([]:List St).map dF,.un,.un,.un,.un,.un,.un,.un]:=λG=>by
  refine(BQ (ρ':=[.v<|xB m ps,.v<|.int d,.m<|tk vs,.un,.un,.un,.un,.un,.un,.un,.un,.un,.un])<|cT ?_).trans ((BQ (ρ':=[.v<|xB m ps,.v<|.int d,.m<|tk vs,.l [mF<|VD ps d [0]],.un,.un,.un,.un,.un,.un,.un,.un,.un])<|cT ?_).trans<|(BQ (ρ':=[.v<|xB m ps,.v<|.int d,.m<|tk vs,.l [mF<|VD ps d [0]],.o none<|.p<|.t<|yM [VD ps d [0]],.un,.un,.un,.un,.un,.un,.un,.un])<|cT ?_).trans<|BQ<|cT rfl)
  .exact o9 rfl mv
  .exists 0,a0,WB
   rfl
  .have i0:WA (.lst [mF<|VD ps d [0]]) (.int 0)=some (mF<|VD ps d [0]):=by simp only[WA,DH]
   exists 0,fX,i0,kz,WB
   rfl
 have lp:=zJV h vs N [VD ps d [0]] [] .un .un .un .un .un .un .un U (by simpa using Z);rw[pre];unfold j4;rcases lp with e|⟨r,ZD,s6,s7,s8,s9,s10,s11,s12,I,hl,e⟩
 .left
  exact Aa e
 .right
  have J:([VD ps d [0]]++r).take ZD.length=[VD ps d [0]]++r:=by rw[hl];exact pF
  refine⟨[VD ps d [0]]++r,⟨I.nd,rfl,I.st,λK hK=>(I.cl K (by rw[J];exact hK)).1,λK hK=>(I.cl K (by rw[J];exact hK)).2.1,λK hK ht x hx z=>((I.cl K (by rw[J];exact hK)).2.2.resolve_left ht) x hx<|hvs x ((I.st K hK).inn x hx).1 ((I.st K hK).inn x hx).2 z,I.len h.few⟩,?_⟩;have es:=I.eq;rw[J]at es;rw[BQ e];show some (YF.o<|Out.rt<|D.tup<|ZD.map dF)=some (YF.o<|Out.rt<|D.tup<|(([VD ps d [0]]++r).map<|AK ps d<|[VD ps d [0]]++r).map dF);rw[<- es]
theorem zUH(h:PS m ps d):qM [xB m ps,.int d]=some (.error 0)\/∃Ks,IsPart ps d Ks/\qM [xB m ps,.int d]=some (.ok<|zWa ps d Ks):=by
 have q:=zWb h 20000000 (by decide);unfold qM;rw[zUG (ρ:=[.v<|xB m ps,.v<|.int d,.un,.un,.un,.un,.un,.un,.un,.un,.un,.un,.un]) rfl];unfold Nq;rcases q with e|⟨Ks,hk,e⟩
 .left;rw[e];rfl
 .right;refine⟨Ks,hk,?_⟩;rw[e];rfl
abbrev Lz:List Str:=["thing"]
def Ma:VB:=(lF<|IR (b1 (gR 0)<|EV "int")<|Z1<|b1 (gR 0)<|EV "bool")
def DW(ds:List D):Option D:=JI Lz Ma ds
def Y3(C:Addr):mB->Option (Except Nat D):=(λρ=>((zC (gV 1)<|zC (gV 2) zO) ρ).bind qM)
def LW(C:Addr):dC:=(zN 0)
abbrev Rk:List Str:=["self","dance"]
def bX(C:Addr):mB->Option YF:=(UG (W4 C 0 "parts"<|aX 1 (QK<|zC (b2 (gR 1) (zN 0) WA) zO) (gN 2)<|Y3 C)<|oX<|sq (λρ=>((zM 1 (iL<|λρ=>(TL C 0 "parts" ρ).bind eU) (gN 2) (λ_=>some true)<|LW C) ρ).bind λxs=>CN C 0 "at" (.f<|.l xs) ρ)<|sq (λρ=>CN C 0 "rows" (.f<|.tl []) ρ)<|λρ=>(zO ρ).bind λxs=>CN C 0 "past" (.f<|.l xs) ρ)
def rV(C:Addr)(x:Ob)(ds:List D):Option (Except Nat Ob):=mM λa=>zV8 Rk (bX C) a x ds
abbrev Th:List Str:=["self","one","other"]
def Aw(C:Addr):VB:=(lF<|b1 (kR C 0 "rows" (λρ=>((zC (gV 1)<|zC (gV 2) zO) ρ).map D.tup)<|λρ=>(zO ρ).map D.tup) CM)
def jX(C:Addr)(x:Ob)(ds:List D):Option D:=mM λa=>JQ Th (Aw C) a x ds
abbrev Mb:List Str:=["self","dancer"]
def Mc(C:Addr):VB:=(lF<|b2 (b2 (λρ=>(TL C 0 "parts" ρ).bind fS) (gR 1) WA) (b2 (λρ=>(TL C 0 "at" ρ).bind fS) (gR 1) WA) WA)
def qG(C:Addr)(x:Ob)(ds:List D):Option D:=mM λa=>JQ Mb (Mc C) a x ds
def S7(C:Addr):dC:=(λρ=>((zC (λ_=>some<|D.str "tell")<|zC (gV 1)<|zC (b2 (gR 2) (zN 1) WA)<|zC (gV 4) zO) ρ).map D.tup)
def U7(C:Addr):kF:=(bB<|b2 (λρ=>((zC (gV 4) zO) ρ).map D.tup) (gR 3) WB)
def V7(C:Addr):dC:=(λρ=>((zC (λ_=>some<|D.str "hear")<|zC (b2 (gR 2) (zN 1) WA)<|zC (gV 1)<|zC (gV 4) zO) ρ).map D.tup)
abbrev Md:List Str:=["self","dancer","state","first"]
def x8(C:Addr):VB:=(sq (qC 2<|uK C "state_of" 0 (zC (gV 1) zO)<|qG C)<|sq (QF (bB<|b2 (b2 (gR 2) (zN 0) WA) (λ_=>some<|D.str "tells") WB) (aT<|zM 2 (iT<|b2 (gR 2) (zN 2) WA) (gT 2<|bE (gN 4)<|bE (gN 5) mG) (λ_=>some true)<|S7 C)<|λρ=>some<|Out.nx ρ)<|sq (QF (bB<|b2 (b2 (gR 2) (zN 0) WA) (λ_=>some<|D.str "hears") WB) (sq (qC 3<|VJ (uK C "row" 0 (zC (b2 (gR 2) (zN 1) WA)<|zC (gV 1) zO)<|jX C) (λ_=>some none) (oI<|zN 1) vL)<|aT<|zM 2 (iT<|b2 (gR 2) (zN 2) WA) (gT 2<|bE (gN 4)<|bE (gN 5) mG) (U7 C)<|V7 C)<|λρ=>some<|Out.nx ρ)<|aT zO)
def A3(C:Addr)(x:Ob)(ds:List D):Option (List D):=mM λa=>zV7 Md (x8 C) a x ds
def U8(C:Addr):VB:=(L5 1<|Y9 C "moves_of" 0 (zC (gV 2) zO)<|A3 C)
abbrev Ql:List Str:=["self","found","dancer"]
def J9(C:Addr):VB:=(sq (iJ 1 zO)<|sq (zl (QK<|zC (b1 (λρ=>(TL C 0 "parts" ρ).bind fS) KH) zO) (gN 2)<|U8 C)<|lF<|b1 (gR 1) CM)
def sR(C:Addr)(x:Ob)(ds:List D):Option D:=mM λa=>JQ Ql (J9 C) a x ds
abbrev Jo:List Str:=["self","move"]
def c8(C:Addr):VB:=(lF<|IR (b2 (gV 1) (uK C "moves" 0 zO<|sR C) uM)<|IR (λρ=>((zC (b2 (gR 1) (zN 1) WA) zO) ρ).bind DW)<|λρ=>((zC (b2 (gR 1) (zN 2) WA) zO) ρ).bind DW)
def qH(C:Addr)(x:Ob)(ds:List D):Option D:=mM λa=>JQ Jo (c8 C) a x ds
abbrev Qm:List Str:=["self","dancer","word"]
def C4(C:Addr):VB:=(Sv C 0 "at" (gV 1)<|bU (b2 (uK C "state_of" 0 (zC (gV 1) zO)<|qG C) (zN 2) WA)<|gV 2)
def JS(C:Addr)(x:Ob)(ds:List D):Option Ob:=mM λa=>IU Qm (C4 C) a x ds
abbrev GU:List Str:=["self","move","pair"]
def S5(C:Addr):VB:=(sq (QF (aP<|RL<|uK C "can_be_done" 0 (zC (gV 1) zO)<|qH C) (λ_=>none)<|λρ=>some<|Out.nx ρ)<|sq (qC 2<|λρ=>((zC (b2 (gR 1) (zN 1) WA)<|zC (b2 (gR 1) (zN 2) WA) zO) ρ).map D.tup)<|sq (QF (bB<|b2 (b2 (gR 1) (zN 0) WA) (λ_=>some<|D.str "tell") WB) (sq (l5 C 0 "rows" (gV 2)<|b2 (gR 1) (zN 3) WA)<|FR C "go_on" 0 (zC (b2 (gR 1) (zN 1) WA)<|zC (b2 (gR 1) (zN 3) WA) zO)<|JS C)<|sq (j5 C 0 "rows"<|gV 2)<|FR C "go_on" 0 (zC (b2 (gR 1) (zN 2) WA)<|zC (b2 (gR 1) (zN 3) WA) zO)<|JS C)<|As C 0 "past"<|gV 1)
def U5(C:Addr)(x:Ob)(ds:List D):Option Ob:=mM λa=>IU GU (S5 C) a x ds
abbrev Rl:List Str:=["self"]
def Rx(C:Addr):VB:=(lF<|b1 (λρ=>(TL C 0 "past" ρ).bind fS) CM)
def Ad(C:Addr)(x:Ob)(ds:List D):Option D:=mM λa=>JQ Rl (Rx C) a x ds
abbrev Me:List Str:=["_law_dance_here","_law_hall_here"]
def A8(C:Addr):VB:=(sq (qC 1<|λ_=>some D.non)<|sq (ZW C 1 (zC (gV 0) zO) (rV C) 0<|qC 1<|λ_=>some D.non)<|Ro 1)
def qX(C:Addr)(ds:List D):Option Sl:=LV Me (A8 C) ds
def kv(q:Str×Int):XB×D:=(.inr q.1,.int q.2)
theorem zLs:∀(ch:List (Str×Int)),RW (ch.map aE)=some (ch.map kv)
 | []=>rfl
 |q::ch=>by simp[RW,aE,cH,zLs ch,kv]
theorem zRK(h:∀q∈kvs,q.1≠k):dN kvs k v=kvs++[(k,v)]:=by
 unfold dN;rw[if_neg];simp only[nF,decide_eq_true_eq,not_exists,not_and];exact h
theorem zLt:∀(ch:List (Str×Int))(acc:List (XB×D)),(ch.map (·.1)).Pairwise (·≠·)->(∀q∈ch,∀a∈acc,a.1≠(kv q).1)->(ch.map kv).foldl (λacc p=>dN acc p.1 p.2) acc=acc++ch.map kv
 | [],acc,_,_=>by simp
 |q::ch,acc,h,k=>by
  rw[eA]at h;obtain⟨h1,h2⟩:=NA.mp h;simp only[eA,AE];rw[zRK<|k q lA,zLt ch _ h2]
  .simp
  .intro q' j a ha;rcases oA.mp ha with ha|ha
   .exact k q' (dA _ j) a ha
   .simp at ha;subst ha;intro e;have:q.1=q'.1:=by simpa[kv] using e
    exact h1 q'.1 (PB j) this
theorem Qn{ch:List (Str×Int)}(h:qV (ch.map (·.1)))(j:ch.length<=1000):GQ (.tup<|ch.map aE)=some (ch.map kv):=by
 unfold GQ;simp only[kA];rw[if_pos<|by omega,zLs];simp only[uA];rw[zLt ch [] (i6 (λh=>h.ne) h)<|by simp];simp
theorem Ae(w:Str):∀(ch:List (Str×Int)),wJ (ch.map kv) (.inr w)=((ch.find? λq=>decide<|q.1=w).map (·.2)).map D.int
 | []=>rfl
 |q::ch=>by
  have ih:=Ae w ch;unfold wJ at ih|-;simp only[eA,vA];by_cases e:q.1=w
  .simp[kv,e]
  .have e':¬ (ID q.1:XB)=ID w:=λz=>e (by simpa using z)
   simp only[kv,e,e',decide_false];exact ih
structure Mv where
 t:Bool
 a:Int
 b:Int
 w:Str
deriving DecidableEq
noncomputable def ZK(t:Bool):Str:=if t then "tell" else "hear"
def JB(v:Mv):D:=.tup [.str<|ZK v.t,.int v.a,.int v.b,.str v.w]
structure Hl where
 P:List (List St)
 at':List Int
 R:List ((Int×Int)×List Str)
 past:List Mv
noncomputable def sL(k:Int×Int):List XB:=[.inl k.1,.inl k.2]
def ZH(R:List ((Int×Int)×List Str)):List (List XB×List D):=R.map λq=>(sL q.1,q.2.map D.str)
def tH(p:List St):D:=.tup<|p.map dF
def DC(C:Addr)(h:Hl):Ob:=.ins C [("parts",.v<|.lst<|h.P.map tH),("at",.f<|.l<|h.at'.map D.int),("rows",.f<|.tl<|ZH h.R),("past",.f<|.l<|h.past.map JB)]
theorem xr:(fA "at" == fA "parts")=false:=by decide +kernel
theorem vh:(fA "rows" == fA "parts")=false:=by decide +kernel
theorem kc:(fA "past" == fA "parts")=false:=by decide +kernel
theorem zHL:(fA "rows" == fA "at")=false:=by decide +kernel
theorem zHM:(fA "past" == fA "at")=false:=by decide +kernel
theorem vm:(fA "past" == fA "rows")=false:=by decide +kernel
theorem zKh:(fA "parts" == fA "at")=false:=by decide +kernel
theorem zIC:(fA "parts" == fA "rows")=false:=by decide +kernel
theorem zID:(fA "parts" == fA "past")=false:=by decide +kernel
theorem zMi:(fA "at" == fA "rows")=false:=by decide +kernel
theorem zMj:(fA "at" == fA "past")=false:=by decide +kernel
theorem zJW:(fA "rows" == fA "past")=false:=by decide +kernel
theorem zJX(C:Addr)(h:Hl):BN C "parts" (DC C h)=some (.v<|.lst<|h.P.map tH):=by
 simp only[BN,DC,if_true,XA,beq_self_eq_true]
theorem zSF(C:Addr)(h:Hl):BN C "at" (DC C h)=some (.f<|.l<|h.at'.map D.int):=by
 simp only[BN,DC,if_true,XA,beq_self_eq_true,xr]
theorem zLv(C:Addr)(h:Hl):BN C "rows" (DC C h)=some (.f<|.tl<|ZH h.R):=by
 simp only[BN,DC,if_true,XA,beq_self_eq_true,vh,zHL]
theorem zLw(C:Addr)(h:Hl):BN C "past" (DC C h)=some (.f<|.l<|h.past.map JB):=by
 simp only[BN,DC,if_true,XA,beq_self_eq_true,kc,zHM,vm]
theorem KS(C:Addr)(h:Hl)(m:Str)(h1:(m==fA "parts")=false)(h2:(m==fA "at")=false)(h3:(m==fA "rows")=false)(j:(m==fA "past")=false):PL C m (DC C h)=true:=by
 simp only[PL,DC,decide_true,XA,h1,h2,h3,j,kH,Option.isNone_none,VL]
theorem xt(C:Addr)(h:Hl):PL C "state_of" (DC C h)=true:=KS C h _ (by decide +kernel) (by decide +kernel) (by decide +kernel) (by decide +kernel)
theorem zWe(C:Addr)(h:Hl):PL C "row" (DC C h)=true:=KS C h _ (by decide +kernel) (by decide +kernel) (by decide +kernel) (by decide +kernel)
theorem zKi(C:Addr)(h:Hl):PL C "moves_of" (DC C h)=true:=KS C h _ (by decide +kernel) (by decide +kernel) (by decide +kernel) (by decide +kernel)
theorem zLx(C:Addr)(h:Hl):PL C "moves" (DC C h)=true:=KS C h _ (by decide +kernel) (by decide +kernel) (by decide +kernel) (by decide +kernel)
theorem zWf(C:Addr)(h:Hl):PL C "can_be_done" (DC C h)=true:=KS C h _ (by decide +kernel) (by decide +kernel) (by decide +kernel) (by decide +kernel)
theorem JZ(C:Addr)(h:Hl):PL C "do" (DC C h)=true:=KS C h _ (by decide +kernel) (by decide +kernel) (by decide +kernel) (by decide +kernel)
theorem zLy(C:Addr)(h:Hl):PL C "go_on" (DC C h)=true:=KS C h _ (by decide +kernel) (by decide +kernel) (by decide +kernel) (by decide +kernel)
theorem zUJ(C:Addr)(h:Hl):PL C "done" (DC C h)=true:=KS C h _ (by decide +kernel) (by decide +kernel) (by decide +kernel) (by decide +kernel)
structure OT(n:Nat)(o:Int)(prs:List (Str×Int)):Prop where
 few:prs.length<=20
 rs:qV (prs.map (·.1))
 wd:∀q∈prs,ML q.1
 nx:∀q∈prs,0<=q.2/\q.2<(n:Int)
def SQ(n:Nat):St->Prop
 |.act _ o prs=>OT n o prs
 |_=>True
structure HOk(k:Nat)(h:Hl):Prop where
 len:h.at'.length=h.P.length
 m4:h.P.length<=4
 inn:∀(i:Nat)(p:List St)(n:Int),h.P[i]?=some p->h.at'[i]?=some n->0<=n/\n<(p.length:Int)
 st:∀p∈h.P,∀s∈p,SQ p.length s
 rn:h.R.length<=k
 rl:∀q∈h.R,q.2.length<=k
 pl:h.past.length<=k
noncomputable def ZO(h:Hl)(i:Nat):Option St:=(h.P[i]?).bind λp=>(h.at'[i]?).bind λn=>p[n.toNat]?
theorem D4{h:Hl}(H:HOk k h)(hi:i<h.P.length):∃p n s,h.P[i]?=some p/\h.at'[i]?=some n/\p[n.toNat]?=some s/\ZO h i=some s/\(0<=n/\n<(p.length:Int))/\SQ p.length s:=by
 have j:h.P[i]?=some h.P[i]:=by simp[hi]
 have I:i<h.at'.length:=by rw[H.len];exact hi
 have z:h.at'[i]?=some h.at'[i]:=by simp[I]
 generalize h.P[i]=p at j;generalize h.at'[i]=n at z;have b:=H.inn i p n j z;have J:n.toNat<p.length:=by omega
 have e3:p[n.toNat]?=some p[n.toNat]:=by simp[J]
 refine⟨p,n,p[n.toNat],j,z,e3,by simp[ZO,j,z,e3],b,H.st p (xA j) _<|iE _⟩
theorem zPB(H:HOk k h)(C:Addr)(hs:ZO h i=some s):qG C (DC C h) [.int i]=some (dF s):=by
 refine yw λa=>?_
 obtain⟨p,j,hs⟩:=aA.mp hs;obtain⟨n,z,e3⟩:=aA.mp hs;have b:=H.inn i p n j z;have O:WA (.lst<|h.P.map tH) (.int i)=some (tH p):=oV (by simp[j]);have i2:WA (.lst<|h.at'.map D.int) (.int i)=some (.int n):=oV (by simp[z])
 have i3:WA (tH p) (.int n)=some (dF s):=by
  have:=oV (xs:=p.map dF) (i:=n.toNat) (x:=dF s) (by simp[e3]);rw[show((n.toNat:Nat):Int)=n by omega]at this;exact this
 have I:=zJX C h;have J:=zSF C h
 exists 0,JQ,Mc,TL,bO,fS,I,J,O,i2,i3,WB
def vK(h:Hl)(a b:Int):List Str:=((h.R.find? λq=>decide<|q.1=(a,b)).map (·.2)).getD []
theorem zSG:sL k=sL k'↔k=k':=by
 obtain⟨a,b⟩:=k;obtain⟨j,b'⟩:=k';simp[sL]
theorem Af(k:Int×Int):∀R:List ((Int×Int)×List Str),yj (ZH R) (sL k)=((R.find? λq=>decide<|q.1=k).map (·.2)).map (NN D.str)
 | []=>rfl
 |q::R=>by
  have ih:=Af k R;unfold yj ZH at ih|-;rw[eA,vA,vA];by_cases e:q.1=k
  .simp[e]
  .have j:¬ sL q.1=sL k:=λz=>e (zSG.mp z)
   simp only[j,e,decide_false];exact ih
theorem zUK(C:Addr)(h:Hl)(a b:Int):jX C (DC C h) [.int a,.int b]=some (.tup<|(vK h a b).map D.str):=by
 refine yw λad=>?_
 have j:=zLv C h;have g:=Af (a,b) h.R;have z:QP (.tup [.int a,.int b])=some (sL (a,b)):=rfl;unfold vK
 cases e:h.R.find? λq=>decide (q.1=(a,b)) with
 |none=>
  rw[e]at g
  exists 0,JQ,Aw,kR,TL,bO,j,z,g,cJ,WB
 |some q=>
  rw[e]at g
  exists 0,JQ,Aw,kR,TL,bO,j,z,g,dJ,WB
theorem bV{fl:pD}{F:Ob->List D->Option D}(h1:bO ρ i=some x)(h2:PL C m x=true)(h3:fl ρ=some ds)(j:F x ds=some r):uK C m i fl F ρ=some r:=by
 unfold uK;rw[h1,cA,if_pos h2,h3,cA,j]
theorem zPC{fl:pD}{F:Ob->List D->Option (List D)}(h1:bO ρ i=some x)(h2:PL C m x=true)(h3:fl ρ=some ds)(j:F x ds=some r):Y9 C m i fl F ρ=some r:=by
 unfold Y9;rw[h1,cA,if_pos h2,h3,cA,j]
def QO(h:Hl)(i:Nat):List Mv:=match ZO h i with
 |some (.act true o prs)=>prs.map λq=>⟨true,i,o,q.1⟩
 |some (.act false o prs)=>(prs.filter λq=>decide<|[q.1]=(vK h o i).take 1).map λq=>⟨false,o,i,q.1⟩
 |_=>[]
theorem Z0(t:Bool)(o:Int)(prs:List (Str×Int)):WA (dF<|.act t o prs) (.int 0)=some (.str<|if t then "tells" else "hears"):=by simp only[dF,WA,DH]
theorem Ti(t:Bool)(o:Int)(prs:List (Str×Int)):WA (dF<|.act t o prs) (.int 1)=some (.int o):=by simp only[dF,WA,UJ]
theorem zWg(t:Bool)(o:Int)(prs:List (Str×Int)):WA (dF<|.act t o prs) (.int 2)=some (.tup<|prs.map aE):=by simp only[dF,WA,at2]
theorem LS(a b:Str):WB (.str a) (.str b)=some (.bl<|a==b):=by unfold WB;rw[if_pos<|by simp[QH]];unfold LD;rfl
theorem Hn:((fA "rests" : Str)==fA "tells")=false:=by decide +kernel
theorem Hm:((fA "rests" : Str)==fA "hears")=false:=by decide +kernel
theorem zMk(l:List Str):zr (l.map D.str) none (some 1)=(l.take 1).map D.str:=by
 cases l with
 |nil=>rfl
 |cons a l=>
  have:¬ ((1:Int)<0):=by decide
  simp[zr,HT.MD]
theorem zWh(w:Str)(l:List Str):WB (.tup [.str w]) (.tup<|(l.take 1).map D.str)=some (.bl<|decide<|[w]=l.take 1):=by
 have:=Ny [w]<|l.take 1;unfold WB;rw[if_pos<|by simp[QH,nK]];unfold LD;rw[show[D.str w]=[w].map D.str from rfl,this]
theorem zPD(C:Addr)(i:Nat)(o:Int)(prs:List (Str×Int))(x s3:Sl)(a:Addr):zQ (gT 2<|bE (gN 4)<|bE (gN 5) mG) (λ_=>some true) (S7 C) (prs.map aE) [x,.v<|.int i,.v<|dF<|.act true o prs,s3,.un,.un]=some ((prs.map λq=>(⟨true,i,o,q.1⟩:Mv)).map JB):=by
 have j:=Ti true o prs
 have:=zw (g:=gT 2<|bE (gN 4)<|bE (gN 5) mG) (p:=λ_=>some true) (f:=S7 C) (emb:=aE) (ρ:=[x,.v<|.int i,.v<|dF<|.act true o prs,s3,.un,.un]) (λ_=>true) (λq=>JB ⟨true,i,o,q.1⟩) prs λq _=>by
  refine⟨[x,.v<|.int i,.v<|dF<|.act true o prs,s3,.v<|.str q.1,.v<|.int q.2],rfl,rfl,λ_=>?_⟩
  exists 0,S7,JB,ZK,j,WB
 rw[this,AC.mpr (by simp),vB];rfl
theorem zPE(C:Addr)(i:Nat)(o:Int)(prs:List (Str×Int))(l:List Str)(x:Sl):zQ (gT 2<|bE (gN 4)<|bE (gN 5) mG) (U7 C) (V7 C) (prs.map aE) [x,.v<|.int i,.v<|dF<|.act false o prs,.v<|.tup<|(l.take 1).map D.str,.un,.un]=some (((prs.filter λq=>decide<|[q.1]=l.take 1).map λq=>(⟨false,o,i,q.1⟩:Mv)).map JB):=by
 have j:=Ti false o prs
 have:=zw (g:=gT 2<|bE (gN 4)<|bE (gN 5) mG) (p:=U7 C) (f:=V7 C) (emb:=aE) (ρ:=[x,.v<|.int i,.v<|dF<|.act false o prs,.v<|.tup<|(l.take 1).map D.str,.un,.un]) (λq=>decide<|[q.1]=l.take 1) (λq=>JB ⟨false,o,i,q.1⟩) prs λq _=>by
  refine⟨[x,.v<|.int i,.v<|dF<|.act false o prs,.v<|.tup<|(l.take 1).map D.str,.v<|.str q.1,.v<|.int q.2],rfl,?_,λ_=>?_⟩
  .have e:=zWh q.1 l
   exists U7,e,zQ,gN,gT,bE,mG,zr,zf
  .exists 0,V7,JB,ZK,j,WB
 rw[this,vB];rfl
theorem zRL{h:Hl}(H:HOk k h)(C:Addr)(hi:i<h.P.length):A3 C (DC C h) [.int i]=some ((QO h i).map JB):=by
 refine yw λa=>?_
 obtain⟨p,n,s,e1,e2,e3,es,b,ok⟩:=D4 H hi;have ms:=zPB H C es
 have U:qC 2 (uK C "state_of" 0 (zC (gV 1) zO)<|qG C) [.b a<|DC C h,.v<|.int i,.un,.un]=some (.nx [.b a<|DC C h,.v<|.int i,.v<|dF s,.un]):=
  (yc<|bV rfl (xt C h) rfl ms).trans rfl
 show(x8 C [.b a<|DC C h,.v<|.int i,.un,.un]).bind hX=_;unfold x8 QO;rw[zY U,es];generalize Y:DC C h=O at *
 cases s with
 |fin=>
  have j:WA (dF .fin) (.int 0)=some (.str "end"):=by simp only[dF,WA,DH]
  exists hX,aT,j,LS,L0,D0,zQ,gN,gT,bE,mG,zr,zf
 |rests=>
  have j:WA (dF .rests) (.int 0)=some (.str "rests"):=by simp only[dF,WA,DH]
  exists hX,aT,j,LS,Hn,Hm,zQ,gN,gT,bE,mG,zr,zf
 |act t o prs=>
  have j:=Z0 t o prs;have i1:=Ti t o prs;have i2:=zWg t o prs;have I:prs.length<=1000000:=by have:=(ok:OT _ _ _).few;omega
  cases t with
  |true=>
   have cp:=zPD C i o prs (.b a O) .un a;simp only[if_true]at j
   exists hX,aT,j,i2,LS,beq_self_eq_true,cp,I,zr,zf
  |false=>
   have cp:=zPE C i o prs (vK h o i)<|.b a O;have z:WA (dF<|.act false o prs) (.int 0)=some (.str "hears"):=j
   have J:uK C "row" 0 (zC (b2 (gR 2) (zN 1) WA)<|zC (gV 1) zO) (jX C) [.b a O,.v<|.int i,.v<|dF<|.act false o prs,.un]=some (.tup<|(vK h o i).map D.str):=by
    subst Y;refine bV (ds:=[.int o,.int i]) rfl (zWe C h) ?_<|zUK C h o i
    exists 0,i1,WB
   have S:=zMk<|vK h o i;generalize uK C "row" 0 (zC (b2 (gR 2) (zN 1) WA)<|zC (gV 1) zO) (jX C)=f1 at J|-
   exists hX,aT,z,i2,LS,O0,beq_self_eq_true,J,S,cp,I,zf
def sH(h:Hl):List Mv:=(JA h.P.length).flatMap<|QO h
theorem zPF(H:HOk k h)(i:Nat):(QO h i).length<=20:=by
 by_cases hi:i<h.P.length
 .obtain⟨p,n,s,j,z,e3,es,b,ok⟩:=D4 H hi;unfold QO;rw[es]
  cases s with
  |fin=>simp
  |rests=>simp
  |act t o prs=>
   have:=(ok:OT _ _ _).few
   cases t with
   |true=>simpa using this
   |false=>simp only[kA];exact QA (SD ..) this
 .have:h.P[i]?=none:=by simp;omega
  simp[QO,ZO,this]
theorem zHN{h:Hl}(H:HOk k h)(C:Addr)(a:Addr):∀(is:List Nat)(acc:List Mv)(s2:Sl),(∀i∈is,i<h.P.length)->acc.length+20*is.length<=1000->∃I,zf (gN 2) (U8 C) (is.map λ(i:Nat)=>D.int<|0+(i:Int)) [.b a<|DC C h,.l<|acc.map JB,s2]=some (.nx [.b a<|DC C h,.l<|(acc++is.flatMap (QO h)).map JB,I])
 | [],acc,s2,_,_=>⟨s2,by simp[zf]⟩
 |i::is,acc,s2,hi,hl=>by
  have z:=hi i lA;have l1:=zPF H i;rw[iA]at hl;obtain⟨I,ih⟩:=zHN H C a is (acc++QO h i) (.v<|.int<|0+(i:Int)) (λj J=>hi j<|dA _ J) (by rw[rA];omega);refine⟨I,?_⟩;have O:=zRL H C z
  have st:U8 C [.b a<|DC C h,.l<|acc.map JB,.v<|.int<|0+(i:Int)]=some (.nx [.b a<|DC C h,.l<|(acc++QO h i).map JB,.v<|.int<|0+(i:Int)]):=by
   have e:=zPC (C:=C) (m:="moves_of") (i:=0) (fl:=zC (gV 2) zO) (F:=A3 C) (ρ:=[.b a<|DC C h,.l<|acc.map JB,.v<|.int<|0+(i:Int)]) rfl (zKi C h) rfl (by rw[ZF];exact O);unfold U8 L5;have q:acc.length+(QO h i).length<=1000000:=by omega
   simp only[gL,fB,UA,cA,e,kA,if_pos q,LI,FD,GA]
  rw[eA,qw (ρ1:=[.b a<|DC C h,.l<|acc.map JB,.v<|.int<|0+(i:Int)]) rfl st,ih,AB,EB]
theorem zWi(H:HOk k h)(C:Addr):sR C (DC C h) []=some (.tup<|(sH h).map JB):=by
 refine yw λa=>?_
 have m4:=H.m4;obtain⟨z,e⟩:=zHN H C a (JA h.P.length) [] .un (λi hi=>gC.mp hi) (by simp;omega);rw[vC,DB]at e;have j:=zJX C h;show(J9 C [.b a<|DC C h,.un,.un]).bind _=_;unfold J9;rw[zY (ρ':=[.b a<|DC C h,.l [],.un]) rfl,zY<|(JO<|pV (n:=h.P.length) ?_<|by omega).trans e]
 .rfl
 .exists 0,TL,bO,fS,j,WB
theorem zRM(C:Addr)(h:Hl):Ad C (DC C h) []=some (.tup<|h.past.map JB):=by
 refine yw λa=>?_
 have j:=zLw C h
 exists 0,JQ,Rx,TL,bO,fS,j,WB
theorem zJY:∀a b:Bool,(ZK a==ZK b)=decide (a=b):=by
 have a:((fA "tell" : Str)==fA "hear")=false:=by decide +kernel
 have b:((fA "hear" : Str)==fA "tell")=false:=by decide +kernel
 intro x y;cases x<;>cases y<;>simp[ZK,a,b]
theorem zWj(u v:Mv):LD (JB u) (JB v)=decide (u=v):=by
 obtain⟨t,a,b,w⟩:=u;obtain⟨t',j,b',I⟩:=v;simp only[JB,LD,XF,zJY,x4,WL,Mv.mk.injEq];by_cases h1:t=t'<;>by_cases h2:a=j<;>by_cases h3:b=b'<;>by_cases z:w=I<;>simp[h1,h2,h3,z]
theorem zWk(v:Mv):QH (JB v)<=20:=WC rfl
theorem jZ(v:Mv)(l:List Mv):uM (JB v) (.tup<|l.map JB)=some (.bl<|decide<|v∈l):=by
 unfold uM;rw[if_pos<|zWk v];simp only[List.any_map,Function.comp_def,zWj]
 congr 2
 by_cases h:v∈l
 .rw[decide_eq_true h,nF];exact⟨v,h,by simp⟩
 .rw[decide_eq_false h,bJ];intro u hu z;simp at z;exact h<|z ▸ hu
theorem zJZ(n:Int):DW [.int n]=some (.bl true):=by
 exists 0,DW,Ma,EV,M5,E7,WA,WB
 rfl
theorem AZ(v:Mv):WA (JB v) (.int 0)=some (.str<|ZK v.t):=by simp only[JB,WA,DH]
theorem zWl(v:Mv):WA (JB v) (.int 1)=some (.int v.a):=by simp only[JB,WA,UJ]
theorem zWm(v:Mv):WA (JB v) (.int 2)=some (.int v.b):=by simp only[JB,WA,at2]
theorem BZ(v:Mv):WA (JB v) (.int 3)=some (.str v.w):=by simp only[JB,WA,gW]
theorem uZ(H:HOk k h)(C:Addr)(v:Mv):qH C (DC C h) [JB v]=some (.bl<|decide<|v∈sH h):=by
 refine yw λa=>?_
 have z:uK C "moves" 0 zO (sR C) [.b a<|DC C h,.v<|JB v]=some (.tup<|(sH h).map JB):=bV rfl (zLx C h) rfl<|zWi H C;have j:=jZ v<|sH h;have I:=zWl v;have i2:=zWm v;have w1:=zJZ v.a;have J:=zJZ v.b;show(c8 C [.b a<|DC C h,.v<|JB v]).bind _=_;unfold c8;generalize uK C "moves" 0 zO (sR C)=S at z|-;generalize U:DC C h=O at z|-
 cases e:decide (v∈sH h) with
 |true=>
  rw[e]at j
  exists 0,z,j,I,i2,w1,J,WB
 |false=>
  rw[e]at j
  exists 0,z,j,I,i2,w1,J,WB
noncomputable abbrev NM(a b c d:Fl):List (Str×Fl):=[(fA "parts",a),(fA "at",b),(fA "rows",c),(fA "past",d)]
def MS(h:Hl)(i:Nat)(w:Str):Option Int:=match ZO h i with
 |some (.act _ _ prs)=>(prs.find? λq=>decide<|q.1=w).map (·.2)
 |_=>none
theorem zUM(h:i<n):kI n (i:Int)=some i:=by unfold kI;rw[if_pos<|by omega,if_pos<|by omega];simp
theorem zWn(C:Addr)(h:Hl)(xs:List Int):qu "at" (.f<|.l<|xs.map D.int) (NM (.v<|.lst<|h.P.map tH) (.f<|.l<|h.at'.map D.int) (.f<|.tl<|ZH h.R)<|.f<|.l<|h.past.map JB)=(NM (.v<|.lst<|h.P.map tH) (.f<|.l<|xs.map D.int) (.f<|.tl<|ZH h.R)<|.f<|.l<|h.past.map JB):=by
 simp only[NM,qu,zKh,beq_self_eq_true,if_true,RA,if_false]
theorem zRN(C:Addr)(h:Hl)(y:Fd):qu "rows" (.f y) (NM (.v<|.lst<|h.P.map tH) (.f<|.l<|h.at'.map D.int) (.f<|.tl<|ZH h.R)<|.f<|.l<|h.past.map JB)=(NM (.v<|.lst<|h.P.map tH) (.f<|.l<|h.at'.map D.int) (.f y)<|.f<|.l<|h.past.map JB):=by
 simp only[NM,qu,zIC,zMi,beq_self_eq_true,if_true,RA,if_false]
theorem zRO(C:Addr)(h:Hl)(y:Fd):qu "past" (.f y) (NM (.v<|.lst<|h.P.map tH) (.f<|.l<|h.at'.map D.int) (.f<|.tl<|ZH h.R)<|.f<|.l<|h.past.map JB)=(NM (.v<|.lst<|h.P.map tH) (.f<|.l<|h.at'.map D.int) (.f<|.tl<|ZH h.R)<|.f y):=by
 simp only[NM,qu,zID,zMj,zJW,beq_self_eq_true,if_true,RA,if_false]
theorem Ry{h:Hl}{ρ:mB}(e:ρ[i]?=some (.o c<|DC C h))(hf:BN C f (DC C h)=some (.f y)):YS C i f ρ=some (c,(NM (.v<|.lst<|h.P.map tH) (.f<|.l<|h.at'.map D.int) (.f<|.tl<|ZH h.R)<|.f<|.l<|h.past.map JB),y):=by
 unfold YS;rw[e];simp only[BN,DC,if_true]at hf ⊢;rw[hf]
theorem zWo(H:HOk k h)(C:Addr)(j:MS h i w=some n):JS C (DC C h) [.int i,.str w]=some (DC C { h with at':=h.at'.set i n }):=by
 refine yw λa=>?_
 have hi:i<h.P.length:=by
  unfold MS ZO at j;by_cases q:i<h.P.length
  .exact q
  .have:h.P[i]?=none:=by simp;omega
   rw[this]at j;simp at j
 obtain⟨p,Y,s,S,U,e3,es,b,ok⟩:=D4 H hi;unfold MS at j;rw[es]at j
 cases s with
 |fin=>simp at j
 |rests=>simp at j
 |act t o prs=>
  have ok:OT _ _ _:=ok;simp only at j;have O:=zPB H C es;have sm:uK C "state_of" 0 (zC (gV 1) zO) (qG C) [.o (some a)<|DC C h,.v<|.int i,.v<|.str w]=some (dF<|.act t o prs):=bV rfl (xt C h) rfl O;have I:=Qn ok.rs (by have:=ok.few;omega);have z:=Ae w prs;rw[j]at z;have of:=Ry (C:=C) (h:=h) (f:="at") (ρ:=[.o (some a)<|DC C h,.v<|.int i,.v<|.str w]) (i:=0) (c:=some a) rfl<|zSF C h;have J:=zUM (n:=(h.at'.map D.int).length) (i:=i) (by rw[kA,H.len];exact hi);have i2:=zWg t o prs
  have d1:bU (b2 (uK C "state_of" 0 (zC (gV 1) zO)<|qG C) (zN 2) WA) (gV 2) [.o (some a)<|DC C h,.v<|.int i,.v<|.str w]=some (.int n):=by
   unfold bU b2;rw[sm,cA,cA,i2,cA,I,cA];exact z
  have st:C4 C [.o (some a)<|DC C h,.v<|.int i,.v<|.str w]=some (.nx [.o (some a)<|DC C { h with at':=h.at'.set i n },.v<|.int i,.v<|.str w]):=by
   unfold C4 Sv;rw[d1,cA,of,cA];simp only[jT,fB,UA,cA,J,uA,MP,FD];have sa:=zWn C h<|h.at'.set i n;rw[EX]at sa;rw[sa];simp only[DC,EX]
  show(C4 C [.o (some a)<|DC C h,.v<|.int i,.v<|.str w]).bind _=_;rw[st];simp only[cA,YN,UA,if_true]
noncomputable def DM(k:Int×Int)(f:List Str->List Str):List ((Int×Int)×List Str)->List ((Int×Int)×List Str)
 | []=>[]
 |q::r=>if q.1=k then (q.1,f q.2)::r else q::DM k f r
def RP(k:Int×Int)(w:Str)(R:List ((Int×Int)×List Str)):List ((Int×Int)×List Str):=match R.find? λq=>decide (q.1=k) with
 |some _=>DM k (· ++ [w]) R
 |none=>R++[(k,[w])]
theorem Rz{f:List Str->List Str}:∀{R:List ((Int×Int)×List Str)},((R.find? λq=>decide<|q.1=k).map (·.2))=some xs->rG (sL k) ((f xs).map D.str) (ZH R)=ZH (DM k f R)
 | [],h=>by simp at h
 |q::R,h=>by
  rw[vA]at h;by_cases e:q.1=k
  .simp only[e,decide_true,uA,sE]at h;simp only[ZH,eA,rG,DM,e,if_true,h]
  .simp only[e,decide_false]at h;have j:¬ sL q.1=sL k:=λz=>e (zSG.mp z)
   have ih:=Rz (f:=f) (R:=R) h;simp only[ZH]at ih;simp only[ZH,eA,rG,DM,e,j,if_false,ih]
theorem Oz(k:Int×Int)(f:List Str->List Str):∀R:List ((Int×Int)×List Str),(DM k f R).length=R.length
 | []=>rfl
 |q::R=>by unfold DM;split<;>simp[Oz k f R]
theorem Pa{f:List Str->List Str}:∀{R:List ((Int×Int)×List Str)}{q:(Int×Int)×List Str},q∈DM k f R->q∈R\/∃q'∈R,q=(q'.1,f q'.2)
 | [],q,h=>by simp[DM]at h
 |r::R,q,h=>by
  unfold DM at h;split at h
  .rcases nA.mp h with rfl|h
   .exact .inr ⟨r,lA,rfl⟩
   .exact .inl<|dA _ h
  .rcases nA.mp h with rfl|h
   .exact .inl lA
   .rcases Pa h with h|⟨q',h',e⟩
    .exact .inl<|dA _ h
    .exact .inr ⟨q',dA _ h',e⟩
theorem Nr{f:List Str->List Str}:∀R:List ((Int×Int)×List Str),((DM k f R).find? λq=>decide<|q.1=k').map (·.2)=((R.find? λq=>decide<|q.1=k').map (·.2)).map λxs=>if k'=k then f xs else xs
 | []=>rfl
 |r::R=>by
  have ih:=Nr (k:=k) (k':=k') (f:=f) R;unfold DM;by_cases e:r.1=k
  .rw[if_pos e,vA,vA];by_cases e':r.1=k'
   .simp[e',e'.symm.trans e]
   .have:¬ k'=k:=λz=>e' (e.trans z.symm)
    simp[e',this];rfl
  .rw[if_neg e,vA,vA];by_cases e':r.1=k'
   .have:¬ k'=k:=λz=>e (e'.trans z)
    simp[e',this]
   .simp only[e',decide_false];exact ih
theorem zWp{w:Str}:(match yj (ZH R) (sL k) with
  |some xs=>rG (sL k) (xs++[.str w])<|ZH R
  |none=>ZH R++[(sL k,[.str w])])=ZH (RP k w R):=by
 rw[Af];unfold RP
 cases e:R.find? λq=>decide (q.1=k) with
 |none=>simp[ZH]
 |some q=>
  have:=Rz (k:=k) (f:=(· ++ [w])) (xs:=q.2) (R:=R) (by rw[e];rfl);simpa using this
theorem zPJ(h:Hl)(k:Int×Int)(w:Str)(a b:Int):vK { h with R:=RP k w h.R } a b=if (a,b)=k then vK h a b++[w] else vK h a b:=by
 unfold vK RP
 cases e:h.R.find? λq=>decide (q.1=k) with
 |none=>
  simp only[List.find?_append];by_cases c:(a,b)=k
  .rw[c,e];simp
  .have:¬ k=(a,b):=λz=>c z.symm
   simp[c,this]
 |some q=>
  simp only;rw[Nr];by_cases c:(a,b)=k
  .rw[c,e];simp
  .simp[c];rfl
theorem zPK(h:Hl)(k:Int×Int)(a b:Int):vK { h with R:=DM k IJ h.R } a b=if (a,b)=k then (vK h a b).tail else vK h a b:=by
 unfold vK;simp only;rw[Nr];by_cases c:(a,b)=k
 .simp only[c,if_true]
  cases h.R.find? λq=>decide (q.1=k) with
  |none=>rfl
  |some q=>rfl
 .simp only[c,if_false]
  cases h.R.find? λq=>decide (q.1=(a,b)) with
  |none=>rfl
  |some q=>rfl
theorem app_len(k:Int×Int)(w:Str)(R:List ((Int×Int)×List Str)):(RP k w R).length<=R.length+1:=by
 unfold RP;split
 .rw[Oz];omega
 .simp
theorem zUN{q:(Int×Int)×List Str}(h:q∈RP k w R):q∈R\/(∃q'∈R,q.2.length=q'.2.length+1)\/q.2.length=1:=by
 unfold RP at h;split at h
 .rcases Pa h with h|⟨q',h',e⟩
  .exact .inl h
  .exact .inr (.inl ⟨q',h',by rw[e];simp⟩)
 .rcases oA.mp h with h|h
  .exact .inl h
  .simp at h;subst h;exact .inr<|.inr rfl
def Mv.who(v:Mv):Nat:=(if v.t then v.a else v.b).toNat
def qN(v:Mv)(R:List ((Int×Int)×List Str)):List ((Int×Int)×List Str):=if v.t then RP (v.a,v.b) v.w R else DM (v.a,v.b) IJ R
def iP(h:Hl)(v:Mv)(n:Int):Hl:=⟨h.P,h.at'.set v.who n,qN v h.R,h.past++[v]⟩
theorem Qo{h:Hl}(H:HOk k h){v:Mv}(hv:v∈sH h):∃o prs n,v.who<h.P.length/\ZO h v.who=some (.act v.t o prs)/\(v.w,n)∈prs/\MS h v.who v.w=some n /\
  (if v.t=true then v.a=(v.who:Int)/\v.b=o else v.b=(v.who:Int)/\v.a=o/\[v.w]=(vK h v.a v.b).take 1):=by
 obtain⟨i,hi,hm⟩:=lC.mp hv;have hi:=gC.mp hi;obtain⟨p,I,s,j,z,e3,es,b,ok⟩:=D4 H hi
 have nx:∀(t:Bool)(o:Int)(prs:List (Str×Int))(q:Str×Int),s=.act t o prs->q∈prs->MS h i q.1=some q.2:=λt o prs q hs hq=>by
  subst hs;have ok:OT _ _ _:=ok;unfold MS;rw[es];simp only;have nd:(prs.map (·.1)).Pairwise (·≠·):=ok.rs.imp λh=>h.ne
  have:∀(l:List (Str×Int)),(l.map (·.1)).Pairwise (·≠·)->q∈l->(l.find? λx=>decide<|x.1=q.1).map (·.2)=some q.2:=by
   intro l
   induction l with
   |nil=>intro _ h;simp at h
   |cons x l ih=>
    intro hp hq;rw[eA]at hp;obtain⟨h1,h2⟩:=NA.mp hp;rw[vA];rcases nA.mp hq with rfl|hq
    .simp
    .have:x.1≠q.1:=h1 q.1<|PB hq;simp only[this,decide_false];exact ih h2 hq
  exact this prs nd hq
 unfold QO at hm;rw[es]at hm
 cases s with
 |fin=>simp at hm
 |rests=>simp at hm
 |act t o prs=>
  cases t with
  |true=>
   simp only at hm;obtain⟨q,hq,rfl⟩:=OA.mp hm;refine⟨o,prs,q.2,?_⟩;simp only[Mv.who,if_true,JC]
   exact⟨hi,es,hq,nx true o prs q rfl hq,by simp⟩
  |false=>
   simp only at hm;obtain⟨q,hq,rfl⟩:=OA.mp hm;obtain⟨hq,hr⟩:=iC.mp hq;refine⟨o,prs,q.2,?_⟩;simp only[Mv.who,RA,if_false,JC];exact⟨hi,es,hq,nx false o prs q rfl hq,by simpa using hr⟩
theorem Pb{fl:pD}{F:Ob->List D->Option Ob}{ρ:mB}(h1:ρ[i]?=some (.o c x))(h2:PL C m x=true)(h3:fl ρ=some ds)(j:F x ds=some x'):FR C m i fl F ρ=some (.nx<|ρ.set i<|.o c x'):=by
 unfold FR;rw[h1];simp only[h2,if_true,h3,cA,j,uA]
theorem HOk.rows(H:HOk k h){R:List ((Int×Int)×List Str)}(hk:k<=k')(h1:R.length<=k')(h2:∀q∈R,q.2.length<=k'):HOk k' { h with R:=R }:=
 ⟨H.len,H.m4,H.inn,H.st,h1,h2,QA H.pl hk⟩
theorem zJa{h:Hl}(H:HOk k h)(v:Mv):(qN v h.R).length<=k+1/\∀q∈qN v h.R,q.2.length<=k+1:=by
 have h1:=H.rn;have h2:=H.rl;unfold qN;split
 .refine⟨QA (app_len ..)<|by omega,λq hq=>?_⟩;rcases zUN hq with hq|⟨q',j,e⟩|e
  .have:=h2 q hq;omega
  .have:=h2 q' j;omega
  .omega
 .refine⟨by rw[Oz];omega,λq hq=>?_⟩;rcases Pa hq with hq|⟨q',j,e⟩
  .have:=h2 q hq;omega
  .have:=h2 q' j;rw[e];simp only[List.length_tail];omega
theorem zSH(H:HOk k h){v:Mv}(hs:ZO h v.who=some (.act v.t o prs))(O:(v.w,n)∈prs):HOk (k+1) (iP h v n):=by
 obtain⟨r1,r2⟩:=zJa H v;have Z:=H.pl;refine⟨by simp[iP,H.len],H.m4,λi p S z j=>?_,H.st,r1,r2,by simp[iP];omega⟩;simp only[iP]at z j;by_cases c:v.who=i
 .subst c
  have HI:v.who<h.at'.length:=by
   have:=(BA.mp j).1;simpa using this
  rw[lB HI]at j;cases j;obtain⟨p',n0,s,a1,a2,U,I,Y,J⟩:=D4 H (i:=v.who) (by rw[<- H.len];exact HI);rw[z]at a1;cases a1;rw[hs]at I;cases I;exact(J:OT _ _ _).nx _ O
 .rw[aB c]at j;exact H.inn i p S z j
theorem zWq{h:Hl}(H:HOk k h)(hk:k<=1000)(C:Addr){v:Mv}(hv:v∈sH h):∃n o prs,v.who<h.P.length/\ZO h v.who=some (.act v.t o prs)/\(v.w,n)∈prs/\MS h v.who v.w=some n/\U5 C (DC C h) [JB v]=some (DC C<|iP h v n):=by
 obtain⟨o,prs,n,w1,w2,w3,w4,Z⟩:=Qo H hv;refine⟨n,o,prs,w1,w2,w3,w4,yw λa=>?_⟩;have r1:=H.rn;have r2:=H.rl;have r3:=H.pl;have mc:=uZ H C v;rw[decide_eq_true hv]at mc;have i0:=AZ v;have i1:=zWl v;have i2:=zWm v;have i3:=BZ v;have b1':uK C "can_be_done" 0 (zC (gV 1) zO) (qH C) [.o (some a)<|DC C h,.v<|JB v,.un]=some (.bl true):=bV rfl (zWf C h) rfl mc
 have s1:(QF (aP<|RL<|uK C "can_be_done" 0 (zC (gV 1) zO)<|qH C) (λ_=>none)<|λρ=>some<|Out.nx ρ) [.o (some a)<|DC C h,.v<|JB v,.un]=some (.nx [.o (some a)<|DC C h,.v<|JB v,.un]):=by
  unfold QF aP RL;rw[b1'];rfl
 have s2:qC 2 (λρ=>((zC (b2 (gR 1) (zN 1) WA)<|zC (b2 (gR 1) (zN 2) WA) zO) ρ).map D.tup) [.o (some a)<|DC C h,.v<|JB v,.un]=some (.nx [.o (some a)<|DC C h,.v<|JB v,.v<|.tup [.int v.a,.int v.b]]):=by
  refine(yc (d:=.tup [.int v.a,.int v.b]) ?_).trans rfl
  exists 0,i1,i2,WB
 have kt:QP (.tup [.int v.a,.int v.b])=some (sL (v.a,v.b)):=rfl;obtain⟨y1,y2⟩:=zJa H v;have H1:HOk (k+1) { h with R:=qN v h.R }:=H.rows (by omega) y1 y2;have of:=Ry (C:=C) (h:=h) (f:="rows") (ρ:=[.o (some a)<|DC C h,.v<|JB v,.v<|.tup [.int v.a,.int v.b]]) (i:=0) (c:=some a) rfl<|zLv C h;have I:=Af (v.a,v.b) h.R
 have pf:∀y ρ',MP C 0 "rows" (some a) (NM (.v<|.lst<|h.P.map tH) (.f<|.l<|h.at'.map D.int) (.f<|.tl<|ZH h.R)<|.f<|.l<|h.past.map JB) (.tl<|ZH y) [.o (some a)<|DC C h,.v<|JB v,ρ']=[.o (some a)<|DC C { h with R:=y },.v<|JB v,ρ']:=λy ρ'=>by
  unfold MP;rw[zRN C h];rfl
 have sF:∀(h1:Hl),HOk (k+1) h1->As C 0 "past" (gV 1) [.o (some a)<|DC C h1,.v<|JB v,.v<|.tup [.int v.a,.int v.b]]=some (.nx [.o (some a)<|DC C { h1 with past:=h1.past++[v] },.v<|JB v,.v<|.tup [.int v.a,.int v.b]]):=λh1 H1=>by
  have of:=Ry (C:=C) (h:=h1) (f:="past") (ρ:=[.o (some a)<|DC C h1,.v<|JB v,.v<|.tup [.int v.a,.int v.b]]) (i:=0) (c:=some a) rfl<|zLw C h1;have l1:(h1.past.map JB).length<1000000:=by have:=H1.pl;rw[kA];omega
  unfold As;rw[of,cA];simp only[if_pos l1,jT,fB,UA,uA,MP,FD];rw[zRO C h1];simp[DC,NM]
 have go:∀(i:Nat),i=v.who->JS C (DC C { h with R:=qN v h.R }) [.int i,.str v.w]=some (DC C ⟨h.P,h.at'.set v.who n,qN v h.R,h.past⟩):=λi e=>by
  subst e;exact zWo H1 C w4
 have fin:(S5 C [.o (some a)<|DC C h,.v<|JB v,.un])=some (.nx [.o (some a)<|DC C<|iP h v n,.v<|JB v,.v<|.tup [.int v.a,.int v.b]]):=by
  unfold S5;rw[zY s1,zY s2]
  have s3:(QF (bB<|b2 (b2 (gR 1) (zN 0) WA) (λ_=>some<|D.str "tell") WB) (sq (l5 C 0 "rows" (gV 2)<|b2 (gR 1) (zN 3) WA)<|FR C "go_on" 0 (zC (b2 (gR 1) (zN 1) WA)<|zC (b2 (gR 1) (zN 3) WA) zO)<|JS C)<|sq (j5 C 0 "rows"<|gV 2)<|FR C "go_on" 0 (zC (b2 (gR 1) (zN 2) WA)<|zC (b2 (gR 1) (zN 3) WA) zO)<|JS C) [.o (some a)<|DC C h,.v<|JB v,.v<|.tup [.int v.a,.int v.b]]=some (.nx [.o (some a)<|DC C ⟨h.P,h.at'.set v.who n,qN v h.R,h.past⟩,.v<|JB v,.v<|.tup [.int v.a,.int v.b]]):=by
   have ek:WB (.str<|ZK v.t) (.str "tell")=some (.bl v.t):=by
    rw[LS,show fA "tell" = ZK true from rfl,zJY];cases v.t<;>rfl
   have tst:(bB<|b2 (b2 (gR 1) (zN 0) WA) (λ_=>some<|D.str "tell") WB) [.o (some a)<|DC C h,.v<|JB v,.v<|.tup [.int v.a,.int v.b]]=some v.t:=by
    exists i0,ek,XF,zQ,gN,gT,bE,mG,zr,zf
   unfold QF;rw[tst,cA]
   cases ht:v.t with
   |true=>
    rw[if_pos rfl];rw[ht]at Z;simp only[if_true]at Z;have Y:=zWp (k:=(v.a,v.b)) (w:=v.w) (R:=h.R);have rb:qN v h.R=RP (v.a,v.b) v.w h.R:=by simp[qN,ht]
    have t1:l5 C 0 "rows" (gV 2) (b2 (gR 1) (zN 3) WA) [.o (some a)<|DC C h,.v<|JB v,.v<|.tup [.int v.a,.int v.b]]=some (.nx [.o (some a)<|DC C { h with R:=qN v h.R },.v<|JB v,.v<|.tup [.int v.a,.int v.b]]):=by
     rw[rb];unfold l5;rw[of,cA]
     have e3:∀s0,(b2 (gR 1) (zN 3) WA) [s0,.v<|JB v,.v<|.tup [.int v.a,.int v.b]]=some (.str v.w):=λs0=>by
      exists 0,i3,WB
     simp only[jT,fB,UA,cA,kt]
     cases eg:yj (ZH h.R) (sL (v.a,v.b)) with
     |some xs=>
      rw[eg]at Y I;simp only at Y
      have lx:xs.length<1000000:=by
       cases J:h.R.find? λq=>decide (q.1=(v.a,v.b)) with
       |none=>rw[J]at I;simp at I
       |some q=>
        rw[J]at I;simp only[uA,sE]at I;have:=r2 q<|CL J;rw[I,kA];omega
      simp only[if_pos lx,e3,uA,Y,pf]
     |none=>
      rw[eg]at Y;simp only at Y;have lx:(ZH h.R).length<1000000:=by unfold ZH;rw[kA];omega
      simp only[if_pos lx];have e4:=e3<|.o (some a)<|.ins C<|qu "rows" (.f<|.tl<|ZH h.R++[(sL (v.a,v.b),[])])<|NM (.v<|.lst<|h.P.map tH) (.f<|.l<|h.at'.map D.int) (.f<|.tl<|ZH h.R)<|.f<|.l<|h.past.map JB;rw[show MP C 0 "rows" (some a) (NM (.v<|.lst<|h.P.map tH) (.f<|.l<|h.at'.map D.int) (.f<|.tl<|ZH h.R)<|.f<|.l<|h.past.map JB) (.tl<|ZH h.R++[(sL (v.a,v.b),[])]) [.o (some a)<|DC C h,.v<|JB v,.v<|.tup [.int v.a,.int v.b]]=[.o (some a)<|.ins C<|qu "rows" (.f<|.tl<|ZH h.R++[(sL (v.a,v.b),[])])<|NM (.v<|.lst<|h.P.map tH) (.f<|.l<|h.at'.map D.int) (.f<|.tl<|ZH h.R)<|.f<|.l<|h.past.map JB,.v<|JB v,.v<|.tup [.int v.a,.int v.b]] from rfl,e4];simp only[uA,Y,pf]
    rw[zY t1];refine(Pb (ds:=[.int (v.who:Int),.str v.w]) rfl (zLy C _) ?_<|go v.who rfl).trans rfl;rw[<- Z.1]
    exists 0,i1,i3,WB
   |false=>
    rw[if_neg<|by simp];rw[ht]at Z;simp only[RA,if_false]at Z;obtain⟨z1,z2,O⟩:=Z;have rb:qN v h.R=DM (v.a,v.b) IJ h.R:=by simp[qN,ht]
    have t1:j5 C 0 "rows" (gV 2) [.o (some a)<|DC C h,.v<|JB v,.v<|.tup [.int v.a,.int v.b]]=some (.nx [.o (some a)<|DC C { h with R:=qN v h.R },.v<|JB v,.v<|.tup [.int v.a,.int v.b]]):=by
     rw[rb];unfold j5;rw[of,cA];simp only[jT,fB,UA,cA,kt];unfold vK at O
     cases J:h.R.find? λq=>decide (q.1=(v.a,v.b)) with
     |none=>rw[J]at O;simp at O
     |some q=>
      rw[J]at O I;simp only[uA,dJ]at O I
      cases hq:q.2 with
      |nil=>rw[hq]at O;simp at O
      |cons x xs=>
       rw[hq,eA]at I;rw[I];have rs:=Rz (k:=(v.a,v.b)) (f:=IJ) (xs:=x::xs) (R:=h.R) (by rw[J];simp[hq]);simp only[List.tail_cons]at rs;simp only[rs,pf]
    rw[zY t1];refine(Pb (ds:=[.int (v.who:Int),.str v.w]) rfl (zLy C _) ?_<|go v.who rfl).trans rfl;rw[<- z1]
    exists 0,i2,i3,WB
  rw[zY s3];refine(sF ⟨h.P,h.at'.set v.who n,qN v h.R,h.past⟩ ?_).trans rfl;have:=zSH H w2 w3;exact⟨this.len,this.m4,this.inn,this.st,this.rn,this.rl,by show h.past.length<=k+1;omega⟩
 show(S5 C [.o (some a)<|DC C h,.v<|JB v,.un]).bind _=_;rw[fin];simp only[cA,YN,UA,if_true]
theorem zUO(h:PS m ps d){Ks:List (List Int)}(k:IsPart ps d Ks)(hK:K∈Ks):SQ Ks.length (AK ps d Ks K):=by
 have few:=zSE h.few (k.st K hK)<|k.al K hK;have z:=Qj<|wI ps d K;have mp:(DN ps d Ks K).map (·.1)=JP ps d K:=by unfold DN;rw[vB];exact List.map_id _
 have ok:∀o,OT Ks.length o<|DN ps d Ks K:=λo=>by
  refine⟨by unfold DN JP;rw[kA,Q8];omega,by rw[mp];exact Kj<|zJQ _,λq hq=>?_,λq hq=>?_⟩
  .obtain⟨w,j,rfl⟩:=OA.mp hq;obtain⟨x,hx,e⟩:=A4.mp<|S2.mp j;rw[<- e];exact(zWW h.dn hx).2
  .obtain⟨w,j,rfl⟩:=OA.mp hq;have:=zOz<|k.cl K hK w j;exact⟨by simp,by simpa using this⟩
 unfold AK
 cases turns ps d K with
 |nil=>trivial
 |cons t ts=>
  simp only
  cases ask t d with
  |fin=>trivial
  |tells b ws=>exact ok b
  |hears a=>exact ok a
def Cg(ps:List Pl)(i:Nat)(p:List St):Prop:=∃Ks,IsPart ps i Ks/\p=Ks.map (AK ps i Ks)
def vQ(ps:List Pl):List Nat->List (List St)->Prop
 | [],P=>P=[]
 |i::is,P=>∃p r,P=p::r/\Cg ps i p/\vQ ps is r
theorem vQ.get:∀{is:List Nat}{P:List (List St)},vQ ps is P->P.length=is.length/\∀(j:Nat)(p:List St),P[j]?=some p->∃i,is[j]?=some i/\Cg ps i p
 | [],P,h=>by simp only[vQ]at h;subst h;exact⟨rfl,λj p e=>by simp at e⟩
 |i::is,P,h=>by
  obtain⟨p,r,rfl,h1,h2⟩:=h;obtain⟨l,g⟩:=h2.get;refine⟨by simp[l],λj q e=>?_⟩
  cases j with
  |zero=>simp at e;subst e;exact⟨i,rfl,h1⟩
  |succ j=>simp at e;simpa using g j q e
noncomputable def NR:List (Except Nat D)->Except Nat (List D)
 | []=>.ok []
 |.error c::_=>.error c
 |.ok y::r=>match NR r with
  |.ok ys=>.ok (y::ys)
  |.error c=>.error c
theorem zL0{Y:mB->Option (Except Nat D)}{r:Nat->Except Nat D}:∀(is:List Nat),(∀i∈is,Y [s0,s1,.v<|.int (i:Int)]=some (r i))->iX (gN 2) Y (is.map λ(i:Nat)=>D.int<|0+(i:Int)) [s0,s1,.un]=some (NR<|is.map r)
 | [],_=>rfl
 |i::is,h=>by
  have ih:=zL0 is λj z=>h j<|dA _ z
  have hi:=h i lA;have g:gN 2 (D.int<|0+(i:Int)) [s0,s1,.un]=some [s0,s1,.v<|.int (i:Int)]:=by rw[ZF];rfl
  rw[eA,iX,g,cA,hi,cA,eA,ih]
  cases r i with
  |error c=>rfl
  |ok y=>
   simp only[NR,uA]
   all_goals (cases NR (is.map r)<;>rfl)
def HQ(m:Int)(ps:List Pl)(i:Nat):Except Nat D:=(qM [xB m ps,.int (i:Int)]).getD<|.error 0
theorem zL1{m:Int}{ps:List Pl}(hd:yD m ps)(hf:kK ps){i:Nat}(hi:(i:Int)<m):qM [xB m ps,.int (i:Int)]=some (HQ m ps i)/\(HQ m ps i=.error 0\/∃p,Cg ps i p/\HQ m ps i=.ok (tH p)):=by
 unfold HQ;rcases zUH (m:=m) (ps:=ps) (d:=(i:Int)) ⟨hd,hf,by omega,hi⟩ with e|⟨Ks,hk,e⟩
 .rw[e];exact⟨rfl,.inl rfl⟩
 .rw[e];exact⟨rfl,.inr ⟨_,⟨Ks,hk,rfl⟩,rfl⟩⟩
theorem zMl{f:pD}(M:List D->Option (Except Nat D))(h:f ρ=some ds):(λρ=>(f ρ).bind M) ρ=M ds:=by
 show(f ρ).bind M=M ds;rw[h];rfl
theorem Cp(C:Addr)(m:Int)(ps:List Pl)(s0:Sl)(d:D):Y3 C [s0,.v<|xB m ps,.v d]=qM [xB m ps,d]:=by
 unfold Y3;exact zMl qM rfl
theorem zJb(hd:yD m ps)(hf:kK ps):∀(is:List Nat),(∀i∈is,(i:Int)<m)->NR (is.map<|HQ m ps)=.error 0\/∃P,vQ ps is P/\is.map (HQ m ps)=P.map (λp=>.ok<|tH p)/\NR (is.map<|HQ m ps)=.ok (P.map tH)
 | [],_=>.inr ⟨[],rfl,rfl,rfl⟩
 |i::is,h=>by
  have hi:=h i lA;have ih:=zJb hd hf is λj I=>h j<|dA _ I
  rw[eA];rcases(zL1 hd hf hi).2 with e|⟨p,hp,e⟩
  .left;rw[e];rfl
  .rw[e];rcases ih with e' | ⟨P,z,hq,e'⟩
   .left;simp only[NR,e']
   .right
    exact⟨p::P,⟨_,_,rfl,hp,z⟩,by rw[eA,hq],by simp only[NR,e',eA]⟩
def QL(P:List (List St)):Hl:=⟨P,P.map λ_=>0,[],[]⟩
theorem zRQ{m:Int}(hd:yD m ps)(hf:kK ps){P:List (List St)}(h:vQ ps (JA m.toNat) P):HOk 0 (QL P)/\P.length=m.toNat:=by
 obtain⟨l,g⟩:=h.get;rw[wG]at l;have hm:=hd.m1;have O:=hd.m0
 have one:∀(j:Nat)(p:List St),P[j]?=some p->0<p.length/\∀s∈p,SQ p.length s:=λj p e=>by
  obtain⟨i,J,Ks,hk,rfl⟩:=g j p e;have hi:=gC.mp<|xA J;refine⟨?_,λs hs=>?_⟩
  .have:=(BA.mp hk.ze).1;simpa using this
  .obtain⟨K,hK,rfl⟩:=OA.mp hs;rw[kA];exact zUO (m:=m) ⟨hd,hf,by omega,by omega⟩ hk hK
 refine⟨⟨by simp[QL],by simp only[QL];omega,λi p n I z=>?_,λp hp=>?_,by simp[QL],by simp[QL],by simp[QL]⟩,l⟩
 .simp only[QL,gB]at I z;rw[I]at z;simp at z;subst z;have:=(one i p I).1;omega
 .obtain⟨j,e⟩:=MN hp;exact(one j p e).2
theorem P9{fs:List (Str×Fl)}(h1:fs.lookup f=none)(h2:fs.length<900):CN C 0 f x [.o c<|.ins C fs,s1]=some (.nx [.o c<|.ins C<|fs++[(f,x)],s1]):=by
 have h3:(eD f fs).isNone=true:=by rw[h1];rfl
 simp only[CN,UA,h3,h2,and_self,if_true,FD]
theorem zPL(C:Addr)(s0 s1:Sl)(P:List (List St)):zQ (gN 2) (λ_=>some true) (LW C) (P.map tH) [s0,s1,.un]=some ((P.map λ_=>(0:Int)).map D.int):=by
 have:=zw (g:=gN 2) (p:=λ_=>some true) (f:=LW C) (emb:=tH) (ρ:=[s0,s1,.un]) (λ_=>true) (λ_=>D.int 0) P λp _=>⟨_,rfl,rfl,λ_=>rfl⟩
 rw[this,AC.mpr (by simp),vB];rfl
theorem zPM{m:Int}{ps:List Pl}(hd:yD m ps)(hf:kK ps)(C:Addr):rV C (.ins C []) [xB m ps]=some (.error 0)\/∃P,vQ ps (JA m.toNat) P/\(JA m.toNat).map (HQ m ps)=P.map (λp=>.ok<|tH p)/\rV C (.ins C []) [xB m ps]=some (.ok<|DC C<|QL P):=by
 have hm:=hd.m1;have Wt:=hd.m0;have inr:∀i∈JA m.toNat,(i:Int)<m:=λi hi=>by have:=gC.mp hi;omega
 have rg:∀s0,QK (zC (b2 (gR 1) (zN 0) WA) zO) [s0,.v<|xB m ps]=some (rng 0 m.toNat):=λs0=>by
  refine pV ?_ (by omega);have i0:WA (xB m ps) (.int 0)=some (.int m):=by simp only[xB,WA,DH]
  rw[show((m.toNat:Nat):Int)=m by omega]
  exists 0,i0,WB
 have rl:(rng 0 m.toNat).length<=1000000:=by rw[zUB];omega
 have S:∀a,aX 1 (QK<|zC (b2 (gR 1) (zN 0) WA) zO) (gN 2) (Y3 C) [.o (some a)<|.ins C [],.v<|xB m ps]=some (NR<|(JA m.toNat).map<|HQ m ps):=λa=>by
  unfold aX;rw[rg,cA,if_pos rl];exact zL0 _ λi hi=>(Cp C m ps _ _).trans (zL1 hd hf<|inr i hi).1
 rcases zJb hd hf (JA m.toNat) inr with e|⟨P,O,hq,e⟩
 .left
  refine yw λa=>?_
  show(bX C [.o (some a)<|.ins C [],.v<|xB m ps]).bind _=_;unfold bX;rw[Aa (c:=0) (by unfold W4;rw[S a,e];rfl)];rfl
 .right
  obtain⟨hl,_⟩:=O.get;rw[wG]at hl;refine⟨P,O,hq,yw λa=>?_⟩;show(bX C [.o (some a)<|.ins C [],.v<|xB m ps]).bind _=_;unfold bX
  have t1:W4 C 0 "parts" (aX 1 (QK<|zC (b2 (gR 1) (zN 0) WA) zO) (gN 2)<|Y3 C) [.o (some a)<|.ins C [],.v<|xB m ps]=some (.o<|.nx [.o (some a)<|.ins C [(fA "parts",.v<|.lst<|P.map tH)],.v<|xB m ps]):=by
   unfold W4;rw[S a,e,cA];simp only;rw[P9 rfl<|by decide];rfl
  rw[BQ t1]
  have J:(λρ=>(TL C 0 (fA "parts") ρ).bind eU) [.o (some a)<|.ins C [(fA "parts",.v<|.lst<|P.map tH)],.v<|xB m ps]=some (.lst<|P.map tH):=by
   simp only[TL,bO,UA,cA,BN,if_true,XA,beq_self_eq_true,eU]
  have Z:=zPL C (.o (some a)<|.ins C [(fA "parts",.v<|.lst<|P.map tH)]) (.v<|xB m ps) P;have j:eD (fA "at") [(fA "parts",Fl.v<|.lst<|P.map tH)]=none:=by simp only[XA,xr,kH]
  have t2:(λρ=>((zM 1 (iL<|λρ=>(TL C 0 (fA "parts") ρ).bind eU) (gN 2) (λ_=>some true)<|LW C) ρ).bind λxs=>CN C 0 (fA "at") (.f<|.l xs) ρ) [.o (some a)<|.ins C [(fA "parts",.v<|.lst<|P.map tH)],.v<|xB m ps]=some (.nx [.o (some a)<|.ins C [(fA "parts",.v<|.lst<|P.map tH),(fA "at",.f<|.l<|(P.map λ_=>(0:Int)).map D.int)],.v<|xB m ps]):=by
   have U:zM 1 (iL<|λρ=>(TL C 0 (fA "parts") ρ).bind eU) (gN 2) (λ_=>some true) (LW C) [.o (some a)<|.ins C [(fA "parts",.v<|.lst<|P.map tH)],.v<|xB m ps]=some ((P.map λ_=>(0:Int)).map D.int):=by
    unfold zM iL;simp only at J;simp only[J,Vs,cA];rw[if_pos (by rw[kA];omega)];exact Z
   simp only[U,cA];rw[P9 j<|by simp];rfl
  have z:eD (fA "rows") [(fA "parts",Fl.v<|.lst<|P.map tH),(fA "at",.f<|.l<|(P.map λ_=>(0:Int)).map D.int)]=none:=by simp only[XA,vh,zHL,kH]
  have I:eD (fA "past") [(fA "parts",Fl.v<|.lst<|P.map tH),(fA "at",.f<|.l<|(P.map λ_=>(0:Int)).map D.int),(fA "rows",.f<|.tl [])]=none:=by simp only[XA,kc,zHM,vm,kH]
  have t3:=P9 (C:=C) (f:=fA "rows") (x:=.f<|.tl []) (c:=some a) (s1:=.v<|xB m ps) z (by simp);have t4:=P9 (C:=C) (f:=fA "past") (x:=.f<|.l []) (c:=some a) (s1:=.v<|xB m ps) I (by simp)
  have t5:(oX<|sq (λρ=>((zM 1 (iL<|λρ=>(TL C 0 (fA "parts") ρ).bind eU) (gN 2) (λ_=>some true)<|LW C) ρ).bind λxs=>CN C 0 (fA "at") (.f<|.l xs) ρ)<|sq (λρ=>CN C 0 (fA "rows") (.f<|.tl []) ρ)<|λρ=>(zO ρ).bind λxs=>CN C 0 (fA "past") (.f<|.l xs) ρ) [.o (some a)<|.ins C [(fA "parts",.v<|.lst<|P.map tH)],.v<|xB m ps]=some (.o<|.nx [.o (some a)<|DC C<|QL P,.v<|xB m ps]):=by
   refine cT ?_;rw[zY t2,zY t3];exact t4
  rw[t5];simp only[cA,YN,UA,if_true,uA]
theorem zPN{m:Int}(hd:yD m ps)(hf:kK ps)(C:Addr):qX C [xB m ps]=some (.v .non)\/∃P,vQ ps (JA m.toNat) P/\(JA m.toNat).map (HQ m ps)=P.map (λp=>.ok<|tH p)/\qX C [xB m ps]=some (.o none<|DC C<|QL P):=by
 have s1:qC 1 (λ_=>some D.non) [.v<|xB m ps,.un]=some (.nx [.v<|xB m ps,.v .non]):=rfl;have go:qX C [xB m ps]=(A8 C [.v<|xB m ps,.un]).bind nX:=rfl;rw[go];unfold A8;rw[zY s1];rcases zPM hd hf C with e|⟨P,j,hq,e⟩
 .left
  have t:ZW C 1 (zC (gV 0) zO) (rV C) 0 (qC 1<|λ_=>some D.non) [.v<|xB m ps,.v .non]=some (.nx [.v<|xB m ps,.v .non]):=by
   unfold ZW;rw[show(zC (gV 0) zO) [.v<|xB m ps,.v .non]=some [xB m ps] from rfl,cA,e];rfl
  rw[zY t];rfl
 .right
  refine⟨P,j,hq,?_⟩
  have t:ZW C 1 (zC (gV 0) zO) (rV C) 0 (qC 1<|λ_=>some D.non) [.v<|xB m ps,.v .non]=some (.nx [.v<|xB m ps,.o none<|DC C<|QL P]):=by
   unfold ZW;rw[show(zC (gV 0) zO) [.v<|xB m ps,.v .non]=some [xB m ps] from rfl,cA,e];rfl
  rw[zY t];rfl
theorem zRR{m:Int}(hd:yD m ps)(hf:kK ps)(C:Addr):qX C [xB m ps]=some (.v .non)\/∃P,vQ ps (JA m.toNat) P/\qX C [xB m ps]=some (.o none<|DC C<|QL P):=
 (zPN hd hf C).imp_right λ⟨P,a,_,c⟩=>⟨P,a,c⟩
end LG
namespace K06
open PySem L2 RD LG
def upd{α:Type}(f:Nat->α)(i:Nat)(v:α):Nat->α:=λj=>if j=i then v else f j
theorem UB{j:Type}(f:Nat->j)(i:Nat)(v:j):upd f i v i=v:=if_pos rfl
theorem upd_ne{z:Type}{f:Nat->z}{i j:Nat}{v:z}(h:j≠i):upd f i v j=f j:=if_neg h
def Cd(ps:List Pl)(d:Int)(K:List Int):Prop:=∀x∈K,∀y∈bL ps d x,y∈K
def eW(ps:List Pl)(d:Int)(K:List Int)(v:Mv):Prop:=∃t∈turns ps d K,(∃q∈WF t,q.1=v.w)/\if v.t=true then v.a=d/\∃ws,LG.ask t d=.tells v.b ws else v.b=d/\LG.ask t d=.hears v.a
def Vw(ps:List Pl)(d:Int):List Int->List Mv->Prop
 |_,[]=>True
 |K,v::l=>eW ps d K v/\Vw ps d (YM ps d K v.w) l
structure Gd(ps:List Pl)(d:Int)(G:List Int->Prop):Prop where
 al:∀K,G K->ZM ps d K=true
 cd:∀K,G K->Cd ps d K
 nx:∀K w,G K->w∈mI (wI ps d K)->G (YM ps d K w)/\∀y∈sel w (wI ps d K),y∈YM ps d K w
 nv:∀K x,G K->x∈K->turns ps d K≠[]->turns ps d (VD ps d [x])≠[]
theorem v9{ps:List Pl}{x:Int}(hx:x∈K)(hp:ps[x.toNat]?=some p)(ht:vM p d=true):p∈turns ps d K:=
 iC.mpr ⟨ZA.mpr ⟨x,hx,hp⟩,ht⟩
theorem w9(al:ZM ps d K=true)(ht:t∈turns ps d K)(hu:u∈turns ps d K):LG.ask t d=LG.ask u d:=by
 unfold ZM at al
 cases e:turns ps d K with
 |nil=>rw[e]at ht;cases ht
 |cons s ts=>
  rw[e]at al ht hu;have q:=λu h=>of_decide_eq_true<|fE.mp al u h
  rw[q t ht,q u hu]
theorem Mf{ps:List Pl}{d b:Int}{K:List Int}(al:ZM ps d K=true){x:Int}(hx:x∈K){ch:List (Str×Int)}(hp:ps[x.toNat]?=some (.tell d b ch)){v:Mv}(ok:eW ps d K v):v.t=true/\v.a=d/\v.b=b/\∃y,(v.w,y)∈ch:=by
 obtain⟨t,ht,⟨q,hq,eq⟩,h⟩:=ok;have e:=w9 al ht (v9 hx hp<|by simp[vM,tp]);have e':LG.ask (.tell d b ch) d=.tells b (ch.map (·.1)):=by simp[LG.ask]
 rw[e']at e
 cases hv:v.t with
 |false=>rw[hv]at h;simp only[RA,if_false]at h;rw[e]at h;cases h.2
 |true=>
  rw[hv]at h;simp only[if_true]at h;obtain⟨h1,ws,h2⟩:=h;rw[e]at h2;cases h2;refine⟨rfl,h1,rfl,?_⟩
  have:(WF t).map (·.1)=ch.map (·.1):=by
   cases t with
   |fin=>simp[LG.ask]at e
   |tell j b' z=>
    unfold LG.ask at e;by_cases c:j=d
    .simp only[c,if_true]at e;injection e
    .simp only[c,if_false]at e;cases e
  have hm:v.w∈ch.map (·.1):=by rw[<- this,<- eq];exact PB hq
  obtain⟨r,hr,er⟩:=OA.mp hm;exact⟨r.2,by rw[<- er];exact hr⟩
theorem Mg{ps:List Pl}{a d:Int}(ne:a≠d){K:List Int}(al:ZM ps d K=true){x:Int}(hx:x∈K){ch:List (Str×Int)}(hp:ps[x.toNat]?=some (.tell a d ch)){v:Mv}(ok:eW ps d K v):v.t=false/\v.b=d/\v.a=a:=by
 obtain⟨t,ht,_,h⟩:=ok;have e:=w9 al ht (v9 hx hp<|by simp[vM,tp]);have e':LG.ask (.tell a d ch) d=.hears a:=by simp[LG.ask,ne]
 rw[e']at e
 cases hv:v.t with
 |true=>rw[hv]at h;simp only[if_true]at h;obtain⟨_,ws,h2⟩:=h;rw[e]at h2;cases h2
 |false=>
  rw[hv]at h;simp only[RA,if_false]at h;rw[e]at h;exact⟨rfl,h.1,by injection h.2 with z;exact z.symm⟩
def yg(b:Int)(l:List Mv):List Str:=(l.filter λv=>decide<|v.t=true/\v.b=b).map (·.w)
def zm(a:Int)(l:List Mv):List Str:=(l.filter λv=>decide<|v.t=false/\v.a=a).map (·.w)
def Mt(rem:Nat->List Mv):Prop:=∀a b:Nat,zm a (rem b) <+: yg b (rem a)
def tot(rem:Nat->List Mv):Nat:=(rem 0).length+(rem 1).length+(rem 2).length+(rem 3).length
theorem Sa{ps:List Pl}{d:Int}{K:List Int}{x:Int}(hx:x∈K){a b:Int}{ch:List (Str×Int)}(hp:ps[x.toNat]?=some (.tell a b ch))(ht:d=a\/d=b){w:Str}{y:Int}(j:(w,y)∈ch):w∈mI (wI ps d K)/\y∈sel w (wI ps d K):=by
 have hq:(w,y)∈wI ps d K:=lC.mpr ⟨_,v9 hx hp (by simpa[vM,tp] using ht),j⟩;exact⟨A4.mpr ⟨_,hq,rfl⟩,OA.mpr ⟨(w,y),iC.mpr ⟨hq,decide_eq_true rfl⟩,rfl⟩⟩
theorem Sb{ps:List Pl}{d x:Int}{a b:Int}{ch:List (Str×Int)}(hp:ps[x.toNat]?=some (.tell a b ch))(ha:d≠a)(hb:d≠b){w:Str}{y:Int}(j:(w,y)∈ch):y∈bL ps d x:=by
 unfold bL;rw[hp];simp only[tp,ha,hb,decide_false,ND,RA,if_false];exact OA.mpr ⟨_,j,rfl⟩
theorem zUP{rem:Nat->List Mv}(mt:Mt rem){a:Nat}{v:Mv}{l:List Mv}(e:rem a=v::l)(hv:v.t=true){b:Nat}(hb:v.b=(b:Int))(O:zm a (rem b)=[]):Mt (upd rem a l):=by
 intro i j;by_cases S:i=a
 .subst S;rw[UB];by_cases z:j=i
  .subst z;rw[UB];have m:=mt j j;rw[e]at m;have I:zm (j:Int) (v::l)=zm j l:=by unfold zm;rw[dB,if_neg<|by simp[hv]]
   rw[I]at m;by_cases c:(b:Int)=(j:Int)
   .have:b=j:=CB.mp c;subst this;rw[e,I]at O;rw[O];exact BE
   .have J:yg (j:Int) (v::l)=yg j l:=by unfold yg;rw[dB,if_neg<|by simp[hv,hb,c]]
    rwa [J]at m
  .rw[upd_ne z];have m:=mt i j;rw[e]at m;by_cases c:(b:Int)=(j:Int)
   .have:b=j:=CB.mp c;subst this;rw[O];exact BE
   .have J:yg (j:Int) (v::l)=yg j l:=by unfold yg;rw[dB,if_neg<|by simp[hv,hb,c]]
    rwa [J]at m
 .rw[upd_ne S];by_cases z:j=a
  .subst z;rw[UB];have m:=mt i j;rw[e]at m;have I:zm (i:Int) (v::l)=zm i l:=by unfold zm;rw[dB,if_neg<|by simp[hv]]
   rwa [I]at m
  .rw[upd_ne z];exact mt i j
theorem zUQ{rem:Nat->List Mv}{a b:Nat}(ne:a≠b){v u:Mv}{l r:List Mv}(e:rem a=v::l)(e':rem b=u::r)(hv:v.t=true)(U:v.b=(b:Int))(hu:u.t=false)(S:u.a=(a:Int)):
  yg b (rem a)=v.w::yg b l/\zm a (rem b)=u.w::zm a r/\(∀i j:Nat,yg (j:Int) (upd (upd rem a l) b r i)=if i=a/\j=b then yg b l else yg j (rem i)) /\
   ∀i j:Nat,zm (i:Int) (upd (upd rem a l) b r j)=if i=a/\j=b then zm a r else zm i (rem j):=by
 have t1:yg (b:Int) (v::l)=v.w::yg b l:=by unfold yg;rw[dB,if_pos<|by simp[hv,U]];rfl
 have t2:∀j:Nat,j≠b->yg (j:Int) (v::l)=yg j l:=λj Y=>by
  unfold yg;rw[dB,if_neg (by simp only[hv,U,decide_eq_true_eq,not_and];exactλ_ z=>Y<|CB.mp z.symm)]
 have t3:∀i:Int,zm i (v::l)=zm i l:=λi=>by unfold zm;rw[dB,if_neg<|by simp[hv]]
 have h1:zm (a:Int) (u::r)=u.w::zm a r:=by unfold zm;rw[dB,if_pos<|by simp[hu,S]];rfl
 have h2:∀i:Nat,i≠a->zm (i:Int) (u::r)=zm i r:=λi hi=>by
  unfold zm;rw[dB,if_neg (by simp only[hu,S,decide_eq_true_eq,not_and];exactλ_ z=>hi<|CB.mp z.symm)]
 have h3:∀j:Int,yg j (u::r)=yg j r:=λj=>by unfold yg;rw[dB,if_neg<|by simp[hu]]
 refine⟨by rw[e,t1],by rw[e',h1],λi j=>?_,λi j=>?_⟩
 .by_cases c:i=b
  .subst c;rw[UB,if_neg<|λz=>ne z.1.symm,e',h3]
  .rw[upd_ne c];by_cases I:i=a
   .subst I;rw[UB];by_cases O:j=b
    .subst O;rw[if_pos ⟨rfl,rfl⟩]
    .rw[if_neg<|λz=>O z.2,e,t2 j O]
   .rw[upd_ne I,if_neg<|λz=>I z.1]
 .by_cases c:j=b
  .subst c;rw[UB];by_cases J:i=a
   .subst J;rw[if_pos ⟨rfl,rfl⟩]
   .rw[if_neg<|λz=>J z.1,e',h2 i J]
  .rw[upd_ne c,if_neg<|λz=>c z.2];by_cases I:j=a
   .subst I;rw[UB,e,t3]
   .rw[upd_ne I]
noncomputable def cur(ps:List Pl)(d:Int):List Int->List Mv->List Int
 |K,[]=>K
 |K,v::l=>cur ps d (YM ps d K v.w) l
structure Zp(ps:List Pl)(m:Nat)(G:Nat->List Int->Prop)(K:Nat->List Int)(rem:Nat->List Mv):Prop where
 g:∀d,d<m->G d (K d)
 vw:∀d,d<m->Vw ps d (K d) (rem d)
 mt:Mt rem
theorem both{ps:List Pl}{m:Nat}{G:Nat->List Int->Prop}(HG:∀d:Nat,d<m->Gd ps d (G d)){K:Nat->List Int}{rem:Nat->List Mv}(z:Zp ps m G K rem){x:Int}{a b:Nat}(ha:a<m)(hb:b<m)(ne:a≠b){ch:List (Str×Int)}(hp:ps[x.toNat]?=some (.tell a b ch))(xa:x∈K a)(xb:x∈K b){v u:Mv}{l r:List Mv}(e:rem a=v::l)(e':rem b=u::r):
  v.t=true/\v.b=(b:Int)/\u.t=false/\u.a=(a:Int)/\u.w=v.w/\∃y,(v.w,y)∈ch/\Zp ps m G (upd (upd K a<|YM ps a (K a) v.w) b<|YM ps b (K b) v.w) (upd (upd rem a l) b r) /\
   ∀d:Nat,d<m->x∈K d->y∈upd (upd K a<|YM ps a (K a) v.w) b (YM ps b (K b) v.w) d:=by
 have O:=z.vw a ha;have S:=z.vw b hb;rw[e]at O;rw[e']at S;obtain⟨v1,v2,v3,y,hy⟩:=Mf ((HG a ha).al _<|z.g a ha) xa hp O.1;have J:(a:Int)≠(b:Int):=λq=>ne<|CB.mp q
 obtain⟨u1,u2,u3⟩:=Mg J ((HG b hb).al _<|z.g b hb) xb hp S.1;obtain⟨w1,w2,A,B⟩:=zUQ ne e e' v1 v3 u1 u3;have m:=z.mt a b;rw[w1,w2]at m;obtain⟨ww,m'⟩:=xH.mp m;have Z:=Sa xa hp (.inl rfl) hy;have qb:=Sa xb hp (.inr rfl) hy;have U:=(HG a ha).nx _ _ (z.g a ha) Z.1;have Y:=(HG b hb).nx _ _ (z.g b hb) qb.1;refine⟨v1,v3,u1,u3,ww,y,hy,⟨λd hd=>?_,λd hd=>?_,λi j=>?_⟩,λd hd hx=>?_⟩
 .by_cases c:d=b
  .subst c;rw[UB];exact Y.1
  .rw[upd_ne c];by_cases I:d=a
   .subst I;rw[UB];exact U.1
   .rw[upd_ne I];exact z.g d hd
 .by_cases c:d=b
  .subst c;rw[UB,UB,<- ww];exact S.2
  .rw[upd_ne c,upd_ne c];by_cases I:d=a
   .subst I;rw[UB,UB];exact O.2
   .rw[upd_ne I,upd_ne I];exact z.vw d hd
 .rw[A i j,B i j];split
  .exact m'
  .exact z.mt i j
 .by_cases c:d=b
  .subst c;rw[UB];exact Y.2 y qb.2
  .rw[upd_ne c];by_cases I:d=a
   .subst I;rw[UB];exact U.2 y Z.2
   .rw[upd_ne I];exact(HG d hd).cd _ (z.g d hd) x hx y (Sb hp (λq=>I<|CB.mp q) (λq=>c<|CB.mp q) hy)
def Rc(ps:List Pl)(d:Int):Nat->Int->Int->Prop
 |0,s,z=>s=z
 |k+1,s,z=>∃y∈bL ps d s,Rc ps d k y z
def E6(ps:List Pl)(d:Int):Nat->Int->Prop
 |0,x=>∃p,ps[x.toNat]?=some p/\vM p d=true
 |k+1,x=>∃y∈bL ps d x,E6 ps d k y
theorem Rc.pth{ps:List Pl}{z:Int}(hp:ps[z.toNat]?=some p)(ht:vM p d=true):∀{k:Nat}{s:Int},Rc ps d k s z->E6 ps d k s
 |0,s,h=>by cases h;exact⟨p,hp,ht⟩
 |k+1,s,h=>by
  obtain⟨y,hy,h⟩:=h;exact⟨y,hy,Rc.pth hp ht h⟩
theorem Sd:∀(k:Nat)(found ws f:List Int),LG.run ps d k found ws=some f->∀z∈f,z∈found\/∃s∈ws,∃j,Rc ps d j s z
 |0,found,ws,f,h=>by simp[LG.run]at h
 |k+1,found,ws,f,h=>by
  unfold LG.run at h
  cases e:ws.getLast? with
  |none=>rw[e]at h;cases h;exactλz hz=>.inl hz
  |some n=>
   rw[e]at h;simp only at h;have J:=(V3 e).1;have O:n∈ws:=by rw[J];exact IA _<|gA.mpr rfl
   have I:∀s∈ws.dropLast,s∈ws:=λs hs=>by rw[J];exact cB _ hs
   split at h
   .intro z hz;rcases Sd k found ws.dropLast f h z hz with q|⟨s,hs,j,r⟩
    .exact .inl q
    .exact .inr ⟨s,I s hs,j,r⟩
   .intro z hz;rcases Sd k (found++[n]) (ws.dropLast++bL ps d n) f h z hz with q|⟨s,hs,j,r⟩
    .rcases oA.mp q with q|q
     .exact .inl q
     .cases gA.mp q;exact .inr ⟨n,O,0,rfl⟩
    .rcases oA.mp hs with hs|hs
     .exact .inr ⟨s,I s hs,j,r⟩
     .exact .inr ⟨n,O,j+1,s,hs,r⟩
theorem zWr{ps:List Pl}(hd:yD M ps)(x0:0<=x)(x1:x<(ps.length:Int))(h:turns ps d (VD ps d [x])≠[]):∃k,E6 ps d k x:=by
 obtain⟨t,ht⟩:=List.exists_mem_of_ne_nil _ h;obtain⟨h1,h2⟩:=iC.mp ht;obtain⟨z,hz,hp⟩:=ZA.mp h1;obtain⟨f,I,_,_⟩:=Nx hd d [x] (λy hy=>by cases gA.mp hy;exact⟨x0,x1⟩) (by simp);have J:VD ps d [x]=OL f:=by simp[VD,I]
 rw[J]at hz;rcases Sd 300 [] [x] f I z (aV.mp hz) with q|⟨s,hs,j,r⟩
 .cases q
 .cases gA.mp hs;exact⟨j,r.pth hp h2⟩
end K06
namespace K06
open PySem L2 RD LG
noncomputable def fM(t:Bool)(a b:Int)(v:Mv):Bool:=decide<|v.t=t/\v.a=a/\v.b=b
def KO(t:Bool)(a b:Int)(l:List Mv):List Str:=(l.filter<|fM t a b).map (·.w)
def Se(h:Hl):Prop:=∀a b,KO false a b h.past++vK h a b=KO true a b h.past
theorem zPS(t:Bool)(a b:Int)(l:List Mv)(v:Mv):KO t a b (l++[v])=KO t a b l++(if fM t a b v=true then [v.w] else []):=by
 unfold KO;rw[UC,GA];by_cases c:fM t a b v=true<;>simp[c]
theorem zRS(H:HOk k h)(hr:Se h)(hv:v∈sH h)(n:Int):Se (iP h v n):=by
 obtain⟨o,prs,U,w1,Y,Z,w4,S⟩:=Qo H hv;intro a b;have J:=hr a b;have ro:vK (iP h v n) a b=vK { h with R:=qN v h.R } a b:=rfl;rw[ro];show KO false a b (h.past++[v])++_=KO true a b (h.past++[v]);rw[zPS,zPS]
 cases ht:v.t with
 |true=>
  rw[show qN v h.R=RP (v.a,v.b) v.w h.R by simp[qN,ht],zPJ];have O:fM false a b v=false:=by simp[fM,ht]
  rw[O];by_cases c:(a,b)=(v.a,v.b)
  .have j:a=v.a/\b=v.b:=by simpa using c
   have i2:fM true a b v=true:=by simp[fM,ht,j.1,j.2]
   rw[i2,if_pos c,if_pos rfl,<- J];simp
  .have i2:fM true a b v=false:=by
    simp only[fM,ht,true_and,decide_eq_false_iff_not];intro z;exact c (by rw[z.1,z.2])
   rw[i2,if_neg c]
   simpa using J
 |false=>
  rw[show qN v h.R=DM (v.a,v.b) IJ h.R by simp[qN,ht],zPK];have O:fM true a b v=false:=by simp[fM,ht]
  rw[O];by_cases c:(a,b)=(v.a,v.b)
  .have j:a=v.a/\b=v.b:=by simpa using c
   have i2:fM false a b v=true:=by simp[fM,ht,j.1,j.2]
   rw[ht]at S;simp only[RA,if_false]at S;obtain⟨_,_,I⟩:=S;rw[<- j.1,<- j.2]at I;rw[i2,if_pos c,if_pos rfl]
   cases er:vK h a b with
   |nil=>rw[er]at I;simp at I
   |cons x xs=>
    rw[er]at I J;simp at I;rw[<- J,I];simp
  .have i2:fM false a b v=false:=by
    simp only[fM,ht,true_and,decide_eq_false_iff_not];intro z;exact c (by rw[z.1,z.2])
   rw[i2,if_neg c];simpa using J
theorem Sf:∀(k:Nat)(found ws f:List Int),run ps d k found ws=some f->(∀x∈found,x∈f)/\(∀x∈ws,x∈f)/\∀x∈f,x∉found->∀y∈bL ps d x,y∈f
 |0,found,ws,f,h=>by simp[LG.run]at h
 |k+1,found,ws,f,h=>by
  unfold LG.run at h
  cases e:ws.getLast? with
  |none=>
   rw[e]at h;cases h;rw[vk e]
   exact⟨λx hx=>hx,λx hx=>(nomatch hx),λx hx nx=>absurd hx nx⟩
  |some n=>
   rw[e]at h;simp only at h;have j:=(V3 e).1;split at h
   .rename_i I;obtain⟨a,b,c⟩:=Sf k found ws.dropLast f h;refine⟨a,λx hx=>?_,c⟩;rw[j]at hx;rcases oA.mp hx with hx|hx
    .exact b x hx
    .cases gA.mp hx;exact a n I
   .obtain⟨a,b,c⟩:=Sf k (found++[n]) (ws.dropLast++bL ps d n) f h;refine⟨λx hx=>a x<|cB _ hx,λx hx=>?_,λx hx nx y hy=>?_⟩
    .rw[j]at hx;rcases oA.mp hx with hx|hx
     .exact b x<|cB _ hx
     .cases gA.mp hx;exact a n<|IA _<|gA.mpr rfl
    .by_cases q:x=n
     .subst q;exact b y<|IA _ hy
     .exact c x hx (λz=>(oA.mp z).elim nx λz=>q<|gA.mp z) y hy
theorem zSI(h:yD m ps)(d:Int){S:List Int}(hs:sM ps S)(J:S.length<=100):(∀x∈S,x∈VD ps d S)/\Cd ps d (VD ps d S):=by
 obtain⟨f,j,_,_⟩:=Nx h d S hs J;obtain⟨_,b,c⟩:=Sf 300 [] S f j;have I:VD ps d S=OL f:=by simp[VD,j]
 rw[I];exact⟨λx hx=>aV.mpr<|b x hx,λx hx y hy=>aV.mpr<|c x (aV.mp hx) (λz=>nomatch z) y hy⟩
def rO(h:Hl)(v:Mv):Hl:=iP h v<|(MS h v.who v.w).getD 0
theorem zWs(H:HOk k h)(hk:k<=1000)(C:Addr)(hv:v∈sH h):U5 C (DC C h) [JB v]=some (DC C<|rO h v)/\HOk (k+1) (rO h v):=by
 obtain⟨n,o,prs,O,j,z,I,J⟩:=zWq H hk C hv;have e:rO h v=iP h v n:=by unfold rO;rw[I];rfl
 rw[e];exact⟨J,zSH H j z⟩
noncomputable def own(d:Int)(v:Mv):Bool:=if v.t then decide (v.a=d) else decide (v.b=d)
def JH(d:Int)(l:List Mv):List Mv:=l.filter<|own d
theorem zUR(a b:Int)(l:List Mv):yg b (JH a l)=KO true a b l:=by
 unfold yg JH KO;rw[dP]
 congr 1
 refine eQ λv _=>?_
 cases hv:v.t<;>simp[own,fM,hv,Bool.and_comm,and_comm]
theorem zRT(a b:Int)(l:List Mv):zm a (JH b l)=KO false a b l:=by
 unfold zm JH KO;rw[dP]
 congr 1
 refine eQ λv _=>?_
 cases hv:v.t<;>simp[own,fM,hv,and_comm]
theorem zL3{v:Mv}:∀{l:List Mv}{K:List Int},cur ps d K (l++[v])=YM ps d (cur ps d K l) v.w
 | [],K=>rfl
 |u::l,K=>by rw[MB,cur,cur,zL3]
theorem Vw.snoc:∀{l:List Mv}{K:List Int},Vw ps d K l->eW ps d (cur ps d K l) v->Vw ps d K (l++[v])
 | [],K,_,k=>⟨k,trivial⟩
 |u::l,K,h,k=>⟨h.1,Vw.snoc h.2 k⟩
def GS(ps:List Pl)(P:List (List LG.St))(i:Nat)(K:List Int):Prop:=∃Ks,P[i]?=some (Ks.map<|AK ps i Ks)/\IsPart ps i Ks/\K∈Ks/\Cd ps i K
theorem GS.gd{M:Int}{ps:List Pl}(hd:yD M ps)(hf:kK ps){P:List (List LG.St)}{i:Nat}(hi:(i:Int)<M):Gd ps i (GS ps P i):=by
 refine⟨λK g=>?_,λK g=>?_,λK w g j=>?_,λK x g hx ht=>?_⟩<;>obtain⟨Ks,e,pt,hK,cd⟩:=g
 .exact pt.al K hK
 .exact cd
 .have no:=zOy hd hf ⟨IE i,hi⟩ (pt.st K hK) (pt.al K hK) w j;obtain⟨c1,z⟩:=zSI hd i no.2.1 (by have:=no.2.2;omega);exact⟨⟨Ks,e,pt,pt.cl K hK w<|S2.mpr j,z⟩,c1⟩
 .exact pt.nv K hK ht x hx
structure HJ(M:Int)(ps:List Pl)(h:Hl):Prop where
 pt:∀i:Nat,(i:Int)<M->∃Ks,∃n:Nat,h.P[i]?=some (Ks.map<|AK ps i Ks)/\IsPart ps i Ks/\h.at'[i]?=some (n:Int)/\Ks[n]?=some (cur ps i (VD ps i [0])<|JH i h.past)/\Vw ps i (VD ps i [0]) (JH i h.past)
 ro:Se h
 len:h.P.length=M.toNat
theorem A1{ps:List Pl}{h:Hl}{i:Nat}{Ks:List (List Int)}{n:Nat}{K:List Int}(j:h.P[i]?=some (Ks.map<|AK ps i Ks))(z:h.at'[i]?=some (n:Int))(e3:Ks[n]?=some K):ZO h i=some (AK ps i Ks K):=by
 unfold ZO;rw[j,z];simp only[cA,JC,gB,e3,uA]
theorem zWt(al:ZM ps d K=true)(e:AK ps d Ks K=.act b o prs):
  (∃t∈turns ps d K,if b=true then ∃ws,LG.ask t d=.tells o ws else LG.ask t d=.hears o)/\prs=DN ps d Ks K/\∀w n,(w,n)∈prs->w∈mI (wI ps d K)/\n=(UL Ks (YM ps d K w):Int)/\∃t∈turns ps d K,(∃q∈WF t,q.1=w)/\if b=true then ∃ws,LG.ask t d=.tells o ws else LG.ask t d=.hears o:=by
 have main:prs=DN ps d Ks K/\∃t∈turns ps d K,if b=true then ∃ws,LG.ask t d=.tells o ws else LG.ask t d=.hears o:=by
  unfold AK at e
  cases O:turns ps d K with
  |nil=>rw[O]at e;cases e
  |cons t ts=>
   rw[O]at e;simp only at e
   cases j:LG.ask t d with
   |fin=>rw[j]at e;cases e
   |tells b' ws=>rw[j]at e;cases e;exact⟨rfl,t,lA,by rw[if_pos rfl];exact⟨ws,j⟩⟩
   |hears Y=>rw[j]at e;cases e;exact⟨rfl,t,lA,by rw[if_neg<|by simp];exact j⟩
 obtain⟨rfl,t,ht,ha⟩:=main;refine⟨⟨t,ht,ha⟩,rfl,λw n U=>?_⟩;obtain⟨Z,z,e'⟩:=OA.mp U;cases e';have J:=S2.mp z;obtain⟨q,hq,rfl⟩:=A4.mp J;obtain⟨t',I,hc⟩:=lC.mp hq;refine⟨J,rfl,t',I,⟨q,hc,rfl⟩,?_⟩;rw[w9 al I ht];exact ha
theorem HJ.step{M:Int}{ps:List Pl}(hd:yD M ps)(hf:kK ps){k:Nat}{h:Hl}(H:HOk k h)(I:HJ M ps h){v:Mv}(hv:v∈sH h):HJ M ps (rO h v)/\eW ps v.who (cur ps v.who (VD ps v.who [0])<|JH v.who h.past) v/\(v.who:Int)<M/\(rO h v).R=qN v h.R:=by
 obtain⟨o,prs,n,w1,w2,w3,w4,z⟩:=Qo H hv;have hM:=hd.m0;have jbc:=I.len;have hi:(v.who:Int)<M:=by omega
 obtain⟨Ks,n0,e1,pt,e2,e3,vw⟩:=I.pt v.who hi;have hs:=A1 e1 e2 e3;rw[w2]at hs;have al:=pt.al _<|xA e3;obtain⟨ta,_,ac⟩:=zWt al (wB hs).symm;obtain⟨c1,rfl,t,ht,hw,ha⟩:=ac _ _ w3;have nk:=pt.cl _ (xA e3) v.w<|S2.mpr c1;have J:rO h v=iP h v (UL Ks (YM ps v.who (cur ps v.who (VD ps v.who [0])<|JH v.who h.past) v.w):Int):=by unfold rO;rw[w4];rfl
 have ow:∀j:Nat,own j v=decide (j=v.who):=λj=>by
  cases O:v.t with
  |true=>
   rw[O]at z;simp only[if_true]at z;simp only[own,O,if_true];rw[z.1]
   exact decide_eq_decide.mpr ⟨λq=>(CB.mp q).symm,λq=>by rw[q]⟩
  |false=>
   rw[O]at z;simp only[RA,if_false]at z;simp only[own,O,RA,if_false];rw[z.1];exact decide_eq_decide.mpr ⟨λq=>(CB.mp q).symm,λq=>by rw[q]⟩
 have Y:∀j:Nat,JH j (rO h v).past=if j=v.who then JH j h.past++[v] else JH j h.past:=λj=>by
  rw[J];show(h.past++[v]).filter (own j)=_;rw[UC,dB,List.filter_nil,ow j];by_cases c:j=v.who
  .simp[c,JH]
  .simp[c,JH]
 have Yk:eW ps v.who (cur ps v.who (VD ps v.who [0])<|JH v.who h.past) v:=by
  refine⟨t,ht,hw,?_⟩
  cases O:v.t with
  |true=>
   rw[O]at z ha;simp only[if_true]at z ha ⊢
   exact⟨z.1,by rw[z.2];exact ha⟩
  |false=>
   rw[O]at z ha;simp only[RA,if_false]at z ha ⊢;exact⟨z.1,by rw[z.2.1];exact ha⟩
 have hlen:h.at'.length=h.P.length:=H.len;refine⟨⟨λj hj=>?_,by rw[J];exact zRS H I.ro hv _,by rw[J];exact I.len⟩,Yk,hi,by rw[J];rfl⟩
 .rw[Y j];by_cases c:j=v.who
  .subst c;rw[if_pos rfl];refine⟨Ks,_,by rw[J];exact e1,pt,?_,by rw[zL3];exact zLm nk,vw.snoc Yk⟩;rw[J];exact lB (by omega)
  .rw[if_neg c];obtain⟨U,n',f1,Z,f2,f3,vw'⟩:=I.pt j hj;refine⟨U,n',by rw[J];exact f1,Z,?_,f3,vw'⟩;rw[J];show(h.at'.set v.who _)[j]?=_;rw[aB<|Ne.symm c];exact f2
end K06
namespace K06
open PySem L2 RD LG
theorem zPU(hd:yD M ps)(i:Int):0∈VD ps i [0]/\Cd ps i (VD ps i [0]):=by
 obtain⟨c1,j⟩:=zSI hd i (S:=[0]) (λx hx=>by cases gA.mp hx;have:=hd.n0;omega) (by simp);exact⟨c1 0 (by simp),j⟩
theorem HJ.zero{M:Int}(hd:yD M ps)(J:vQ ps (JA M.toNat) P):HJ M ps (QL P):=by
 obtain⟨l,g⟩:=J.get;rw[wG]at l;refine⟨λi hi=>?_,λa b=>by simp[QL,KO,vK],l⟩;have z:i<P.length:=by omega
 obtain⟨j,I,Ks,pt,ep⟩:=g i P[i] (by simp[z])
 have:j=i:=by
  obtain⟨h1,h2⟩:=BA.mp I;rw[<- h2,List.getElem_range]
 subst this;exact⟨Ks,0,by show P[j]?=_;rw[CG z,ep],pt,by simp[QL,z],pt.ze,trivial⟩
theorem HJ.zp{M:Int}(hd:yD M ps){h:Hl}(I:HJ M ps h):Zp ps M.toNat (GS ps h.P) (λi=>VD ps i [0]) (λi=>JH i h.past):=by
 refine⟨λi hi=>?_,λi hi=>?_,λa b=>?_⟩
 .obtain⟨Ks,n,j,pt,_⟩:=I.pt i (by omega);exact⟨Ks,j,pt,xA pt.ze,(zPU hd i).2⟩
 .obtain⟨_,_,_,_,_,_,vw⟩:=I.pt i (by omega);exact vw
 .show zm a (JH b h.past) <+: yg b (JH a h.past);rw[zUR,zRT,<- I.ro a b];exact List.prefix_append _ _
end K06
namespace LG
open PySem L2 RD
def Jt:VB:=(QF (bB<|b2 (b2 (gR 2) (zN 0) WA) (λ_=>some<|D.str "tell") WB) (YW 1 (b2 (gR 2) (zN 1) WA)<|b2 (gR 2) (zN 3) WA)<|λρ=>some<|Out.nx ρ)
abbrev Ko:List Str:=["done","told","move"]
def U2:VB:=(sq (X9 1)<|sq (zl (iT<|gV 0) (gN 2) Jt)<|o5 1)
def h8(ds:List D):Option Sl:=LV Ko U2 ds
abbrev Mh:List Str:=["place","told"]
def EW:mB->Option YF:=(oX<|lF<|IR (b2 (b2 (gR 0) (zN 0) WA) (λ_=>some<|D.str "tell") WB)<|b2 (b1 (R5 1 (b2 (gR 0) (zN 1) WA)<|λρ=>(zO ρ).map D.tup) KH) (zN 0) jP)
def B8(ds:List D)(x:Ob):Option (Except Nat D):=mM λa=>LP Mh EW a ds x
def qh:VB:=(QF (jW true 3<|gV 7) (sq (Z4 3 (gV 7)<|b2 (B5 3<|gV 5) (λρ=>((zC (gV 6) zO) ρ).map D.tup) qI)<|aK 4<|gV 7)<|λρ=>some<|Out.nx ρ)
def yq:kF:=(aP<|RL<|λρ=>(xV 2 (gP (b2 (b2 (gR 0) (zN 1) WA) (b2 (gR 4) (zN 0) WA) WA) zO) B8 ρ).bind IZ)
def yr:VB:=(sq (zWD 5 4)<|zl (iT<|λρ=>((zC (b2 (b2 (gR 0) (zN 1) WA) (gR 5) WA) zO) ρ).bind yG) (gT 2<|bE (gN 6)<|bE (gN 7) mG) qh)
def jp:VB:=(lF<|λρ=>((zC (b2 (gR 4) (zN 0) WA)<|zC (B5 3<|b2 (gR 4) (zN 0) WA) zO) ρ).map D.tup)
def qi:VB:=(sq (Qr 1000 yq yr) jp)
abbrev Jb:List Str:=["dance","start","told","words_to","waiting","number","word","come_to"]
def yn:mB->Option YF:=(oX<|sq (Zv 3 (gV 1)<|λρ=>(zO ρ).map D.tup)<|sq (iJ 4<|zC (gV 1) zO) qi)
def yo(ds:List D)(x:Ob):Option (Except Nat D):=mM λa=>LP Jb yn a ds x
def C8:dC:=(b2 (b1 (gR 8) KH) (zN 0) jP)
def D8:kF:=(RL<|b1 (λρ=>((A9 1 2 (gN 8) C8) ρ).map D.lst) Be)
def Mi:VB:=(sq (qC 5<|λρ=>(xV 2 (gP (gV 0)<|gP (gV 3) zO) yo ρ).bind IZ)<|sq (Tc 4<|b2 (gR 5) (zN 1) WA)<|sq (qC 6<|b2 (b2 (gR 0) (zN 1) WA) (b2 (gR 5) (zN 0) WA) WA)<|sq (Rp 7 2<|b2 (gR 6) (zN 1) WA)<|sq (aK 4<|gV 7)<|qC 3<|bU (b2 (gR 6) (zN 3) WA)<|gV 7)
def zHO:VB:=(sq (Qr 1000 D8 Mi)<|lF<|b1 (gR 4) CM)
abbrev Pc:List Str:=["dance","done","told","number","way","found","place","word"]
def O3:VB:=(sq (NP 2 (zC (gV 1) zO) h8)<|sq (qC 3<|zN 0)<|sq (iJ 4 zO) zHO)
def P3(ds:List D):Option D:=JI Pc O3 ds
end LG
namespace K07
open PySem L2 RD LG
def Kz(C:Addr):VB:=(sq (qC 4<|uK C "moves" 0 zO<|sR C)<|QF (RL<|gR 4) (FR C "do" 0 (zC (b2 (gR 4) (λρ=>((zC (gV 3)<|zC (zN 9829)<|zC (b1 (gR 4) KH) zO) ρ).bind zP) WA) zO)<|U5 C)<|λρ=>some<|Out.nx ρ)
abbrev Nt:List Str:=["_law_hall_here","_law_script","_law_k","_law_cell_here","_law_moves"]
def G8(C:Addr):VB:=(sq (zl (iL<|λρ=>((VJ (gR 1) (oI<|gV 2) (oI<|b2 (gR 2) (zN 40) qI) Ho) ρ).map D.lst) (gN 3)<|Kz C)<|Sy<|uK C "done" 0 zO<|Ad C)
def J8(C:Addr)(x:Ob)(ds:List D):Option (D×Ob):=mM λa=>zV6 Nt (G8 C) a x ds
def qk:VB:=(QF (P6 (Ba (bB<|b2 (gR 3) (λ_=>some<|D.str "tell") WB)<|bB<|b2 (gR 4) (gR 0) WB)<|Ba (bB<|b2 (gR 3) (λ_=>some<|D.str "hear") WB)<|bB<|b2 (gR 5) (gR 0) WB) (aK 2<|λρ=>((zC (gV 3)<|zC (gV 4)<|zC (gV 5)<|zC (gV 6) zO) ρ).map D.tup)<|λρ=>some<|Out.nx ρ)
noncomputable abbrev La:List Str:=["_law_dancer","_law_done","_law_found","_law_kind","_law_one","_law_other","_law_word_here"]
def d8:VB:=(sq (iJ 2 zO)<|sq (zl (iT<|gV 1) (gT 4<|bE (gN 3)<|bE (gN 4)<|bE (gN 5)<|bE (gN 6) mG) qk)<|lF λρ=>EN ρ 2)
def q8(ds:List D):Option D:=JI La d8 ds
def Ju:VB:=(sq (lX (b2 (b2 (gR 0) (zN 1) WA) (gR 4) WA)<|gT 4<|bE (gN 6)<|bE (gN 7)<|bE (gN 8)<|bE (gN 9) mG)<|sq (QF (bB<|b2 (gR 7) (gR 1) WB) (aK 3<|λρ=>((zC (λ_=>some<|D.str "tell")<|zC (gV 7)<|zC (gV 8)<|zC (gV 5) zO) ρ).map D.tup)<|λρ=>some<|Out.nx ρ)<|sq (QF (bB<|b2 (gR 8) (gR 1) WB) (aK 3<|λρ=>((zC (λ_=>some<|D.str "hear")<|zC (gV 7)<|zC (gV 8)<|zC (gV 5) zO) ρ).map D.tup)<|λρ=>some<|Out.nx ρ)<|qC 4<|bU (gV 9)<|gV 5)
noncomputable abbrev Kp:List Str:=["_law_dance_here","_law_dancer","_law_way","_law_found","_law_at","_law_word_here","_law_kind","_law_one","_law_other","_law_choices"]
def i8:VB:=(sq (iJ 3 zO)<|sq (qC 4<|zN 0)<|sq (zl (iT<|gV 2) (gN 5) Ju)<|lF λρ=>EN ρ 3)
def V2(ds:List D):Option D:=JI Kp i8 ds
def vn:kF:=(bB<|b2 (b2 (gR 6) (zN 0) WA) (gR 3) WB)
def vp:dC:=(b2 (gR 6) (zN 1) WA)
def Kq:VB:=(sq (qC 4<|b2 (b2 (gR 0) (zN 1) WA) (gR 2) WA)<|sq (qC 5 λρ=>((zM 1 (iT<|b2 (b2 (gR 4) (λρ=>((zC (λρ=>(zO ρ).map D.tup)<|zC (λρ=>(zO ρ).map D.tup)<|zC (λρ=>(zO ρ).map D.tup) zO) ρ).map D.tup) qI) (zN 3) WA) (gN 6) vn vp) ρ).map D.lst)<|sq (QF (aP<|RL<|gR 5) (lF<|λ_=>some D.non)<|λρ=>some<|Out.nx ρ)<|qC 2<|b2 (gR 5) (zN 0) WA)
noncomputable abbrev Mj:List Str:=["_law_dance_here","_law_way","_law_at","_law_word_here","_law_place","_law_afters"]
def E8:VB:=(sq (qC 2<|zN 0)<|sq (zl (iT<|gV 1) (gN 3) Kq)<|lF<|gV 2)
def C3(ds:List D):Option D:=JI Mj E8 ds
def zPV(C:Addr):dC:=(b1 (gR 7)<|EV "str")
def Qp(C:Addr):VB:=(sq (qC 6<|λρ=>((zC (gV 5)<|zC (gV 3) zO) ρ).bind q8)<|QF (bB<|b2 (λρ=>((VJ (λρ=>((zC (gV 1)<|zC (gV 5)<|zC (gV 4) zO) ρ).bind V2) (λ_=>some none) (oI<|b1 (gR 6) KH) Ho) ρ).map D.lst) (gR 6) EZ) (lF<|λ_=>some<|D.bl false)<|λρ=>some<|Out.nx ρ)
def zPW(C:Addr):VB:=(sq (zl (QK<|zC (b2 (gR 1) (zN 0) WA) zO) (gN 5)<|Qp C)<|lF<|λ_=>some<|D.bl true)
def zPX(C:Addr):VB:=(sq (QF (bB<|b2 (λρ=>((zC (gV 1)<|zC (gV 4) zO) ρ).bind C3) (λ_=>some D.non) Xi) (lF<|λ_=>some<|D.bl false)<|λρ=>some<|Out.nx ρ)<|zPW C)
def zPY(C:Addr):VB:=(sq (QF (P6 (aP<|RL<|b1 (gR 4)<|EV "tuple")<|aP<|RL<|b1 (λρ=>((zM 1 (iT<|gV 4) (gN 7) (λ_=>some true)<|zPV C) ρ).map D.lst) Bd) (lF<|λ_=>some<|D.bl false)<|λρ=>some<|Out.nx ρ)<|zPX C)
def zPZ(C:Addr):VB:=(sq (qC 4<|λρ=>((zC (gV 1)<|zC (gV 3) zO) ρ).bind P3)<|zPY C)
def zPa(C:Addr):VB:=(sq (V4 2 3 (zC (gV 0)<|zC (zN 5) zO)<|J8 C)<|zPZ C)
def zPb(C:Addr):VB:=(sq (NP 2 (zC (gV 1) zO)<|qX C)<|sq (QF (Gk 2) (lF<|λ_=>some<|D.bl true)<|λρ=>some<|Out.nx ρ)<|zPa C)
noncomputable abbrev Tj:List Str:=["_law_script","_law_dance_here","_law_hall_here","_law_done","_law_way","_law_dancer","_law_deeds_here"]
def Ax(C:Addr):VB:=(sq (qC 1<|λρ=>((zC (gV 0) zO) ρ).bind qv)<|sq (QF (bB<|b2 (b2 (λρ=>((zC (gV 0)<|zC (zN 4) zO) ρ).bind z7) (zN 3) SL) (zN 0) WB) (qC 1<|λρ=>((zC (gV 1)<|zC (b2 (λρ=>((zC (gV 0)<|zC (zN 4) zO) ρ).bind z7) (zN 3) Sh) zO) ρ).bind qW)<|λρ=>some<|Out.nx ρ)<|zPb C)
def vZ(C:Addr)(ds:List D):Option D:=JI Tj (Ax C) ds
end K07
namespace K12
open PySem L2 RD LG K06
noncomputable def tw(l:List Mv):List Str:=(l.filter (·.t)).map (·.w)
theorem L9(v:Mv)(l:List Mv):tw (v::l)=if v.t=true then v.w::tw l else tw l:=by
 unfold tw;rw[dB];split<;>rfl
structure Wy(ps:List Pl)(m:Nat)(G:Nat->List Int->Prop)(K:Nat->List Int)(rem:Nat->List Mv)(x:Int):Prop where
 z:Zp ps m G K rem
 x0:0<=x
 x1:x<(ps.length:Int)
 hx:∀d:Nat,d<m->rem d≠[]->x∈K d
section
variable {M:Int}{ps:List Pl}(hd:yD M ps){m:Nat}(hm:(m:Int)=M){G:Nat->List Int->Prop}(HG:∀d:Nat,d<m->Gd ps d (G d)){K:Nat->List Int}{rem:Nat->List Mv}{x:Int}
include HG in
theorem Wy.off(W:Wy ps m G K rem x)(ha:a<m)(hb:b<m)(ne:(a:Int)≠b)(hp:ps[x.toNat]?=some (.tell a b ch))(h:tw (rem a)=[]):rem a=[]/\rem b=[]:=by
 have j:rem a=[]:=by
  cases e:rem a with
  |nil=>rfl
  |cons v l=>
   have I:=W.z.vw a ha;rw[e]at I h;obtain⟨U,_⟩:=Mf ((HG a ha).al _<|W.z.g a ha) (W.hx a ha (by rw[e];exact gE _ _)) hp I.1;rw[L9,if_pos U]at h;cases h
 refine⟨j,?_⟩
 cases e':rem b with
 |nil=>rfl
 |cons u r=>
  exfalso;have J:=W.z.vw b hb;rw[e']at J;obtain⟨O,Y,S⟩:=Mg ne ((HG b hb).al _<|W.z.g b hb) (W.hx b hb (by rw[e'];exact gE _ _)) hp J.1;have m:=W.z.mt a b;have h1:zm (a:Int) (u::r)=u.w::zm a r:=by unfold zm;rw[dB,if_pos<|by simp[O,S]];rfl
  rw[j,e',h1]at m;exact absurd (WR.mp m)<|gE _ _
include hd hm HG in
theorem Wy.go_off(W:Wy ps m G K rem x)(ha:a<m)(hb:b<m)(hp:ps[x.toNat]?=some (.tell a b ch))(h:tw (rem a)=[])(hy:(w,y)∈ch):Wy ps m G K rem y:=by
 have ok:tN M _ a b ch:=hd.ok _<|xA hp;obtain⟨e,J⟩:=W.off HG ha hb ok.ne hp h;have I:=ok.nx _ hy;exact⟨W.z,I.1,I.2,λd j hr=>(HG d j).cd _ (W.z.g d j) x (W.hx d j hr) y<|Sb hp (λq=>hr (by rw[CB.mp q];exact e)) (λq=>hr (by rw[CB.mp q];exact J)) hy⟩
include hd hm HG in
theorem Wy.go_on(W:Wy ps m G K rem x)(ha:a<m)(hb:b<m)(hp:ps[x.toNat]?=some (.tell a b ch))(h:tw (rem a)=w::ts):
  ∃y K' J,(w,y)∈ch/\Wy ps m G K' J y/\tw (J a)=ts/\(∀d,d≠a->tw (J d)=tw (rem d))/\rem a=⟨true,a,b,w⟩::J a/\(rem b=[]\/rem b=⟨false,a,b,w⟩::J b)/\∀d,d≠a->d≠b->J d=rem d:=by
 have m4:m<=4:=by have:=hd.m1;omega
 have ok:tN M _ a b ch:=hd.ok _<|xA hp;have O:=ok.ne;have ne:a≠b:=λq=>O (by rw[q])
 have z:=W.z;have hx:=W.hx
 cases e:rem a with
 |nil=>rw[e]at h;cases h
 |cons v l=>
  have U:=hx a ha (by rw[e];exact gE _ _);have Z:=z.vw a ha;rw[e]at Z h;obtain⟨Y,v2,v3,y,hy⟩:=Mf ((HG a ha).al _<|z.g a ha) U hp Z.1;rw[L9,if_pos Y]at h;obtain⟨rfl,rfl⟩:=List.cons.inj h;have ev:v=⟨true,a,b,v.w⟩:=by rw[<- Y,<- v2,<- v3]
  cases e':rem b with
  |cons u r=>
   have xb:=hx b hb (by rw[e'];exact gE _ _);obtain⟨_,_,u1,u3,ww,y,hy,z',uW⟩:=both HG z ha hb ne hp U xb e e';have vb:=z.vw b hb;rw[e']at vb;have u2:=(Mg O ((HG b hb).al _<|z.g b hb) xb hp vb.1).2.1;have eu:u=⟨false,a,b,v.w⟩:=by rw[<- u1,<- u3,<- u2,<- ww]
   have S:=ok.nx _ hy;refine⟨y,_,_,hy,⟨z',S.1,S.2,λd I hr=>uW d I ?_⟩,by rw[K06.upd_ne ne,K06.UB],λd c=>?_,by rw[K06.upd_ne ne,K06.UB,<- ev],.inr (by rw[K06.UB,<- eu]),λd c j=>by rw[K06.upd_ne j,K06.upd_ne c]⟩
   .by_cases c:d=b
    .subst c;exact xb
    .by_cases j:d=a
     .subst j;exact U
     .rw[K06.upd_ne c,K06.upd_ne j]at hr;exact hx d I hr
   .by_cases j:d=b
    .subst j;rw[K06.UB,e',L9,u1];rfl
    .rw[K06.upd_ne j,K06.upd_ne c]
  |nil=>
   have qa:=Sa U hp (.inl rfl) hy;have na:=(HG a ha).nx _ _ (z.g a ha) qa.1;have S:=ok.nx _ hy;refine⟨y,K06.upd K a<|YM ps a (K a) v.w,K06.upd rem a l,hy,⟨⟨λd I=>?_,λd I=>?_,zUP z.mt e Y v3 (by rw[e'];rfl)⟩,S.1,S.2,λd I hr=>?_⟩,by rw[K06.UB],λd c=>by rw[K06.upd_ne c],by rw[K06.UB,<- ev],.inl rfl,λd c _=>K06.upd_ne c⟩
   .by_cases j:d=a
    .subst j;rw[K06.UB];exact na.1
    .rw[K06.upd_ne j];exact z.g d I
   .by_cases j:d=a
    .subst j;rw[K06.UB,K06.UB];exact Z.2
    .rw[K06.upd_ne j,K06.upd_ne j];exact z.vw d I
   .by_cases j:d=a
    .subst j;rw[K06.UB];exact na.2 y qa.2
    .rw[K06.upd_ne j]at hr ⊢;exact(HG d I).cd _ (z.g d I) x (hx d I hr) y (Sb hp (λq=>j<|CB.mp q) (λq=>hr (by rw[CB.mp q];exact e')) hy)
noncomputable def sQ(tl:Int->List Str):Pl->Bool
 |.tell a _ _=>!(tl a).isEmpty
 |.fin=>false
def YI(ps:List Pl)(tl:Int->List Str)(x:Int):Bool:=match ps[x.toNat]? with
 |some p=>sQ tl p
 |none=>false
def fW(ps:List Pl)(T:Int->Bool):Nat->Int->Prop
 |0,x=>T x=true
 |k+1,x=>∃p,ps[x.toNat]?=some p/\∃q∈WF p,fW ps T k q.2
def hJ(ps:List Pl)(T:Int->Bool):Int->List Str->Int->Prop
 |x,[],y=>x=y
 |x,w::ws,y=>T x=false/\∃p z,ps[x.toNat]?=some p/\(w,z)∈WF p/\hJ ps T z ws y
theorem hJ.any{T:Int->Bool}:∀{ws:List Str}{x y:Int},hJ ps T x ws y->hJ ps (λ_=>false) x ws y
 | [],_,_,h=>h
 |_::_,_,_,⟨_,p,z,h1,h2,h3⟩=>⟨rfl,p,z,h1,h2,h3.any⟩
theorem hJ.app{T:Int->Bool}:∀{ws vs:List Str}{x y z:Int},hJ ps T x ws y->hJ ps T y vs z->hJ ps T x (ws++vs) z
 | [],_,_,_,_,h,k=>by cases h;exact k
 |_::_,_,_,_,_,⟨h0,p,z,h1,h2,h3⟩,k=>⟨h0,p,z,h1,h2,h3.app k⟩
theorem hJ.snoc{T:Int->Bool}{s n z:Int}(h:hJ ps T s ws n)(t:T n=false)(hp:ps[n.toNat]?=some p)(j:(w,z)∈WF p):hJ ps T s (ws++[w]) z:=h.app ⟨t,p,z,hp,j,rfl⟩
abbrev sX(rem:Nat->List Mv)(a:Int):List Str:=tw<|rem a.toNat
include hd hm HG in
theorem Wy.walk:∀{ws:List Str}{x y:Int},Wy ps m G K rem x->hJ ps (YI ps<|sX rem) x ws y->Wy ps m G K rem y
 | [],x,y,W,h=>by cases h;exact W
 |w::ws,x,y,W,h=>by
  obtain⟨h0,p,z,h1,h2,h3⟩:=h
  cases p with
  |fin=>cases h2
  |tell j b' ch=>
   have ok:tN M _ j b' ch:=hd.ok _<|xA h1;have a0:=ok.a0;have a1:=ok.a1;have b0:=ok.b0;have b1:=ok.b1;obtain⟨a,rfl⟩:∃a:Nat,j=(a:Int):=⟨j.toNat,by omega⟩
   obtain⟨b,rfl⟩:∃b:Nat,b'=(b:Int):=⟨b'.toNat,by omega⟩
   unfold YI at h0;rw[h1]at h0;simp only[sQ,KI,DJ]at h0;exact Wy.walk (W.go_off hd hm HG (by omega) (by omega) h1 h0 h2) h3
include hd hm HG in
theorem Wy.pth(J:o<m)(O:rem o≠[]):∀{k:Nat}{x:Int},E6 ps o k x->Wy ps m G K rem x->∃j,fW ps (YI ps<|sX rem) j x:=by
 intro k
 induction k with
 |zero=>?_
 |succ k ih=>?_
 all_goals
  intro x pth W;by_cases c:YI ps (sX rem) x=true
  .exact⟨0,c⟩
  obtain⟨p,hp,I,_⟩:=bT W.x0 W.x1;have xo:=W.hx o J O
  cases p with
  |fin=>
   exfalso;have vw:=W.z.vw o J
   cases e:rem o with
   |nil=>exact O e
   |cons v l=>
    rw[e]at vw;obtain⟨t,ht,_,h⟩:=vw.1;have q:=w9 ((HG o J).al _<|W.z.g o J) ht<|v9 xo I rfl;have:LG.ask Pl.fin o=.fin:=rfl;rw[this]at q;rw[q]at h;split at h
    .obtain⟨_,ws,h⟩:=h;cases h
    .cases h.2
  |tell U b' ch=>
   have ok:tN M _ U b' ch:=hd.ok _ hp;have a0:=ok.a0;have a1:=ok.a1;have b0:=ok.b0;have b1:=ok.b1;obtain⟨a,rfl⟩:∃a:Nat,U=(a:Int):=⟨U.toNat,by omega⟩
   obtain⟨b,rfl⟩:∃b:Nat,b'=(b:Int):=⟨b'.toNat,by omega⟩
   have ha:a<m:=by omega
   have hb:b<m:=by omega
   have h0:tw (rem a)=[]:=by
    unfold YI at c;rw[I]at c;simp only[sQ,Bool.not_eq_true,KI,DJ]at c;exact c
   obtain⟨e,eb⟩:=W.off HG ha hb ok.ne I h0;have Z:(o:Int)≠a:=λq=>O (by rw[CB.mp q];exact e)
   have ob:(o:Int)≠b:=λq=>O (by rw[CB.mp q];exact eb)
   first
   |exfalso
    obtain⟨p',q1,q2⟩:=pth;rw[I]at q1;cases q1;simp only[vM,tp,Z,ob,decide_false,ND]at q2
    cases q2
   |obtain⟨y,hy,pth⟩:=pth
    have S:∃Y,(Y,y)∈ch:=by
     unfold bL at hy;rw[I]at hy;simp only[tp,Z,ob,decide_false,ND,RA,if_false]at hy;obtain⟨q,h1,h2⟩:=OA.mp hy;exact⟨q.1,by rw[<- h2];exact h1⟩
    obtain⟨Y,S⟩:=S;obtain⟨j,r⟩:=ih pth<|W.go_off hd hm HG ha hb I h0 S;exact⟨j+1,_,I,(Y,y),S,r⟩
include hd hm HG in
theorem Wy.reach(W:Wy ps m G K rem x)(I:o<m)(h:tw (rem o)≠[]):∃j,fW ps (YI ps<|sX rem) j x:=by
 have J:rem o≠[]:=λq=>h (by rw[q];rfl)
 have vw:=W.z.vw o I
 cases e:rem o with
 |nil=>exact absurd e J
 |cons v l=>
  rw[e]at vw;obtain⟨t,ht,_,_⟩:=vw.1;obtain⟨k,pth⟩:=zWr hd W.x0 W.x1<|(HG o I).nv _ x (W.z.g o I) (W.hx o I J)<|List.ne_nil_of_mem ht;exact Wy.pth hd hm HG I J pth W
theorem zWu(h:tw l=[])(b:Int):yg b l=[]:=by
 unfold tw at h;have h:=nI.mp h;unfold yg;rw[nI,VE];intro v hv c;simp only[decide_eq_true_eq]at c;exact VE.mp h v hv c.1
include hd hm HG in
theorem Wy.fin(W:Wy ps m G K rem x)(h:∀a:Nat,a<m->tw (rem a)=[])(j:d<m):rem d=[]:=by
 have vw:=W.z.vw d j
 cases e:rem d with
 |nil=>rfl
 |cons v l=>
  exfalso;have tv:=h d j;rw[e]at vw tv;obtain⟨t,ht,_,k⟩:=vw.1;rw[L9]at tv
  cases c:v.t with
  |true=>rw[if_pos c]at tv;cases tv
  |false=>
   rw[c]at k;simp only[RA,if_false]at k
   cases t with
   |fin=>cases k.2
   |tell a b ch=>
    have ok:tN M _ a b ch:=m9 hd ht
    have O:a=v.a:=by
     have q:=k.2;unfold LG.ask at q;by_cases I:a=(d:Int)
     .simp only[I,if_true]at q;cases q
     .simp only[I,if_false]at q;injection q
    have a0:=ok.a0;have a1:=ok.a1;obtain⟨o,J⟩:∃o:Nat,v.a=(o:Int):=⟨v.a.toNat,by omega⟩
    have mt:=W.z.mt o d;have h1:zm (o:Int) (v::l)=v.w::zm o l:=by unfold zm;rw[dB,if_pos<|by simp[c,J]];rfl
    rw[e,h1,zWu<|h o<|by omega]at mt;exact absurd (WR.mp mt)<|gE _ _
end
def Gy(ch:List (Str×Int))(w:Str):Int:=((ch.find? λq=>decide<|q.1=w).map (·.2)).getD 0
noncomputable def dds(ps:List Pl)(d:Int):Int->List Str->List Mv
 |_,[]=>[]
 |x,w::ws=>match ps[x.toNat]? with
  |some (.tell a b ch)=>(if a=d then [⟨true,a,b,w⟩] else [])++((if b=d then [⟨false,a,b,w⟩] else [])++dds ps d (Gy ch w) ws)
  |_=>[]
theorem M9:∀{ch:List (Str×Int)},qV (ch.map (·.1))->(w,y)∈ch->ch.find? (λq=>decide<|q.1=w)=some (w,y)
 | [],_,h=>nomatch h
 |q::ch,r,h=>by
  rw[eA]at r;obtain⟨r1,r2⟩:=NA.mp r;rw[vA];rcases nA.mp h with rfl|h
  .simp
  .have:q.1≠w:=(r1 w<|OA.mpr ⟨_,h,rfl⟩).ne;simp only[this,decide_false];exact M9 r2 h
theorem Pd{ps:List Pl}(hd:yD M ps){x a b y:Int}(hp:ps[x.toNat]?=some (.tell a b ch))(hy:(w,y)∈ch)(d:Int)(ws:List Str):dds ps d x (w::ws)=(if a=d then [⟨true,a,b,w⟩] else [])++((if b=d then [⟨false,a,b,w⟩] else [])++dds ps d y ws):=by
 have ok:tN M _ a b ch:=hd.ok _<|xA hp;rw[dds,hp];have:Gy ch w=y:=by unfold Gy;rw[M9 ok.rs hy];rfl
 simp only[this]
section
variable {M:Int}{ps:List Pl}(hd:yD M ps){m:Nat}(hm:(m:Int)=M){G:Nat->List Int->Prop}(HG:∀d:Nat,d<m->Gd ps d (G d)){K:Nat->List Int}{rem:Nat->List Mv}
include hd hm HG in
theorem Wy.dds{rest:List Str}:∀{vs:List Str}{x y:Int},Wy ps m G K rem x->hJ ps (YI ps<|sX rem) x vs y->(∀d:Nat,d<m->rem d <+: K12.dds ps d y rest)->∀d:Nat,d<m->rem d <+: K12.dds ps d x (vs++rest)
 | [],x,y,W,h,k=>by cases h;exact k
 |w::vs,x,y,W,h,k=>by
  obtain⟨h0,p,z,h1,h2,h3⟩:=h
  cases p with
  |fin=>cases h2
  |tell j b' ch=>
   have ok:tN M _ j b' ch:=hd.ok _<|xA h1;have a0:=ok.a0;have a1:=ok.a1;have b0:=ok.b0;have b1:=ok.b1;obtain⟨a,rfl⟩:∃a:Nat,j=(a:Int):=⟨j.toNat,by omega⟩
   obtain⟨b,rfl⟩:∃b:Nat,b'=(b:Int):=⟨b'.toNat,by omega⟩
   unfold YI at h0;rw[h1]at h0;simp only[sQ,KI,DJ]at h0;obtain⟨S,U⟩:=W.off HG (by omega) (by omega) ok.ne h1 h0;have ih:=Wy.dds (W.go_off hd hm HG (by omega) (by omega) h1 h0 h2) h3 k;intro d O;by_cases I:a=d
   .subst I;rw[S];exact BE
   .by_cases J:b=d
    .subst J;rw[U];exact BE
    .rw[MB,Pd hd h1 h2,if_neg<|λz=>I<|CB.mp z,if_neg<|λz=>J<|CB.mp z];exact ih d O
end
end K12
namespace K12
open PySem L2 RD LG K06
def tD(tl:List (Int×List Str)):List (XB×List D):=tl.map λq=>(aC q.1,q.2.map D.str)
def look(tl:List (Int×List Str))(a:Int):List Str:=(yj tl a).getD []
theorem Q9(a:Int):∀tl:List (Int×List Str),yj (tD tl) (.inl a)=(yj tl a).map λl=>l.map D.str
 | []=>rfl
 |q::tl=>by
  have ih:=Q9 a tl;unfold yj tD at ih|-;rw[eA,vA,vA];by_cases c:q.1=a
  .simp[c]
  .have j:¬ ((aC q.1:XB)=aC a):=λh=>c (oH h)
   simp only[c,j,decide_false];exact ih
theorem Sg(a:Int)(ts:List Str):∀tl:List (Int×List Str),rG (.inl a) (ts.map D.str) (tD tl)=tD (rG a ts tl)
 | []=>rfl
 |q::tl=>by
  have ih:=Sg a ts tl;unfold tD at ih|-;rw[eA,rG,rG];by_cases c:q.1=a
  .simp[c]
  .have j:¬ ((aC q.1:XB)=aC a):=λh=>c (oH h)
   rw[if_neg c,if_neg j,eA,ih]
theorem zUT(p:Pl)(tl:List (Int×List Str)):B8 [TB p] (.p<|.ml<|tD tl)=some (.ok<|.bl<|sQ (look tl) p):=by
 cases p with
 |fin=>
  refine yw λa=>?_
  exists 0,LP,EW,oX,TB,DH,beq_self_eq_true,sQ,WA,WB
 |tell a b ch=>
  refine yw λad=>?_
  have g:=Q9 a tl;unfold sQ look
  cases e:yj tl a with
  |none=>
   rw[e]at g
   exists 0,LP,EW,oX,TB,R5,IP,cH,DH,UJ,beq_self_eq_true,g,WA,WB
   rw[e]
   rfl
  |some l=>
   rw[e]at g
   cases l with
   |nil=>
    exists 0,LP,EW,oX,TB,R5,IP,cH,DH,UJ,beq_self_eq_true,g,WA,WB
    rw[e]
    rfl
   |cons w ws=>
    have c:(0:Int)<((ws.length+1:Nat):Int):=by omega
    exists 0,LP,EW,oX,TB,R5,IP,cH,DH,UJ,beq_self_eq_true,g,eA,WA,WB
    rw[e,decide_eq_true c];rfl
def fD(F:List (Int×List Str)):List (XB×D):=F.map λq=>(aC q.1,D.tup<|q.2.map D.str)
theorem R9(a:Int):∀F:List (Int×List Str),wJ (fD F) (.inl a)=(yj F a).map λl=>D.tup (l.map D.str)
 | []=>rfl
 |q::F=>by
  have ih:=R9 a F;unfold wJ fD at ih|-;unfold yj at ih|-;rw[eA,vA,vA];by_cases c:q.1=a
  .simp[c]
  .have j:¬ ((aC q.1:XB)=aC a):=λh=>c (oH h)
   simp only[c,j,decide_false];exact ih
theorem zWv{l:List Str}{F:List (Int×List Str)}(h:a∉F.map (·.1)):dN (fD F) (.inl a) (.tup<|l.map D.str)=fD (F++[(a,l)]):=by
 unfold dN;rw[if_neg]
 .simp[fD]
 .simp only[nF,not_exists,not_and,decide_eq_true_eq];intro q hq e;obtain⟨r,hr,rfl⟩:=OA.mp hq;exact h (by rw[<- oH e];exact PB hr)
theorem Pe{j:Type}{a:Int}{l:j}:∀{F:List (Int×j)},(F.map (·.1)).Nodup->(a,l)∈F->yj F a=some l
 | [],_,h=>nomatch h
 |q::F,nd,h=>by
  rw[eA,NB]at nd;unfold yj;rw[vA];rcases nA.mp h with rfl|h
  .simp
  .have:¬ q.1=a:=λz=>nd.1 (by rw[z];exact PB (f:=(·.1)) h)
   simp only[this,decide_false];exact Pe nd.2 h
theorem zJc{j:Type}:∀{F:List (Int×j)},a∉F.map (·.1)->yj F a=none
 | [],_=>rfl
 |q::F,h=>by
  rw[eA,nA,not_or]at h;unfold yj;rw[vA];have c:¬ q.1=a:=λz=>h.1 z.symm
  simp only[c,decide_false];exact zJc h.2
theorem zPd{j:Type}{a:Int}{l:j}{F:List (Int×j)}(h:yj F a=some l):(a,l)∈F:=by
 obtain⟨q,e,rfl⟩:=bA.mp h;have:=List.find?_some e;simp at this;subst this;exact CL e
structure Bf(ps:List Pl)(T:Int->Bool)(s:Int)(E:List Int)(F:List (Int×List Str))(W:List Int):Prop where
 nd:(F.map (·.1)).Nodup
 wk:∀q∈F,hJ ps T s q.2 q.1/\0<=q.1/\q.1<(ps.length:Int)/\q.2.length+W.length<=F.length
 wn:W.Nodup
 ws:∀x∈W,x∈F.map (·.1)
 st:s∈F.map (·.1)
 ex:∀x∈F.map (·.1),x∉W->x∉E->T x=false/\∀p,ps[x.toNat]?=some p->∀q∈WF p,q.2∈F.map (·.1)
theorem Bf.flen{ps:List Pl}{T:Int->Bool}{E W:List Int}{F:List (Int×List Str)}(B:Bf ps T s E F W):F.length<=ps.length/\W.length<=F.length:=by
 constructor
 .have:=X3 (L:=(JA ps.length).map λ(i:Nat)=>(i:Int)) B.nd λx hx=>by
   obtain⟨q,hq,rfl⟩:=OA.mp hx;obtain⟨_,h0,h1,_⟩:=B.wk q hq;exact OA.mpr ⟨q.1.toNat,gC.mpr<|by omega,by omega⟩
  simpa using this
 .have:=X3 B.wn B.ws;simpa using this
theorem Bf.ne{T:Int->Bool}{F:List (Int×List Str)}(B:Bf ps T s [] F []):∀{j:Nat}{x:Int},x∈F.map (·.1)->¬ fW ps T j x
 |0,x,hx,h=>by
  have:=(B.ex x hx (oF)<|oF).1;rw[show T x=true from h]at this
  cases this
 |j+1,x,hx,⟨p,hp,q,hq,r⟩=>B.ne ((B.ex x hx (oF)<|oF).2 p hp q hq) r
end K12
namespace K12
open PySem L2 RD LG K06
theorem fT{c:kF}{F F':VB}(h:c ρ=some false)(k:F' ρ=r):QF c F F' ρ=r:=by
 rw[<- k];simp only[QF,h,cA,RA,if_false]
theorem Pf{j:Type}{F:List (Int×j)}(h:a∈F.map (·.1)):∃l,yj F a=some l/\(a,l)∈F:=by
 cases e:yj F a with
 |some l=>exact⟨l,rfl,zPd e⟩
 |none=>
  exfalso;obtain⟨q,hq,rfl⟩:=OA.mp h;have:=List.find?_eq_none.mp (Option.map_eq_none_iff.mp e) q hq;simp at this
theorem zPe{F:List (Int×List Str)}{W:List Int}{pth:List Str}(O:yj F n=some pth)(Y:pth.length<=1000)(hf:F.length<=1000)(hw:W.length<=1000):
  qh [s0,s1,s2,.m<|fD F,.l<|W.map D.int,.v<|.int n,.v<|.str w,.v<|.int z]=some (.nx [s0,s1,s2,.m (fD (if z∈F.map (·.1) then F else F++[(z,pth++[w])])),.l ((if z∈F.map (·.1) then W else W++[z]).map D.int),.v<|.int n,.v<|.str w,.v<|.int z]):=by
 have g1:=R9 n F;have g2:=R9 z F;rw[O]at g1;by_cases c:z∈F.map (·.1)
 .obtain⟨l,e,_⟩:=Pf c;rw[e]at g2;rw[if_pos c,if_pos c];refine fT ?_ rfl;show((some<|D.int z).bind λd=>(some<|fD F).bind λkvs=>(cH d).map λk=>if true then !(wJ kvs k).isSome else (wJ kvs k).isSome)=_;simp[cH,g2]
 .rw[zJc c]at g2;rw[if_neg c,if_neg c];have j:=zWv (l:=pth++[w]) c;have l1:(fD F).length<1000000:=by unfold fD;rw[kA];omega
  have S:(pth.map D.str).length + [D.str w].length<=1000000:=by simp;omega
  have U:(W.map D.int).length<16000000:=by simp;omega
  rw[GA,eP]at j
  have I:jW true 3 (gV 7) [s0,s1,s2,.m<|fD F,.l<|W.map D.int,.v<|.int n,.v<|.str w,.v<|.int z]=some true:=by
   show((some<|D.int z).bind λd=>(some<|fD F).bind λkvs=>(cH d).map λk=>if true then !(wJ kvs k).isSome else (wJ kvs k).isSome)=_;simp[cH,g2]
  have J:(b2 (B5 3<|gV 5) (λρ=>((zC (gV 6) zO) ρ).map D.tup) qI) [s0,s1,s2,.m<|fD F,.l<|W.map D.int,.v<|.int n,.v<|.str w,.v<|.int z]=some (.tup<|pth.map D.str++[.str w]):=by
   show((wJ (fD F)<|.inl n).bind λa=>(some<|D.tup [.str w]).bind λb=>qI a b)=_;rw[g1];exact Aj S
  refine AV I<|(zY (ρ':=[s0,s1,s2,.m<|fD<|F++[(z,pth++[w])],.l<|W.map D.int,.v<|.int n,.v<|.str w,.v<|.int z]) ?_).trans ?_
  .unfold Z4;rw[J,cA];show(if (fD F).length<1000000 then some (Out.nx _) else none)=_;rw[if_pos l1,j];rfl
  .unfold aK;show(if (W.map D.int).length<16000000 then some (Out.nx _) else none)=_;rw[if_pos U,GA];rfl
theorem Ml{ps:List Pl}{T:Int->Bool}{s n:Int}(hp:ps[n.toNat]?=some p)(U:T n=false){pth:List Str}(Y:ps.length<=40)(S:∀q∈WF p,0<=q.2/\q.2<(ps.length:Int)):∀(rs:List (Str×Int))(F:List (Int×List Str))(W:List Int),(∀q∈rs,q∈WF p)->Bf ps T s [n] F W->(n,pth)∈F->pth.length+1+W.length<=F.length ->
  ∃ext,(∀s0 s1 s2 s6 s7:Sl,∃j I,zf (gT 2<|bE (gN 6)<|bE (gN 7) mG) qh (rs.map aE) [s0,s1,s2,.m<|fD F,.l<|W.map D.int,.v<|.int n,s6,s7]=some (.nx [s0,s1,s2,.m<|fD<|F++ext,.l ((W++ext.map (·.1)).map D.int),.v<|.int n,j,I]))/\Bf ps T s [n] (F++ext) (W++ext.map (·.1))/\∀q∈rs,q.2∈(F++ext).map (·.1)
 | [],F,W,_,B,_,_=>⟨[],λs0 s1 s2 s6 s7=>⟨s6,s7,by simp[zf]⟩,by simpa using B,λq hq=>nomatch hq⟩
 |q::rs,F,W,hrs,B,J,hl=>by
  have fl:=B.flen;have XJ:=λs0 s1 s2=>zPe (s0:=s0) (s1:=s1) (s2:=s2) (z:=q.2) (w:=q.1) (Pe B.nd J) (by omega) (by omega:F.length<=1000) (by omega:W.length<=1000)
  have hg:∀s0 s1 s2 s6 s7:Sl,gT 2 (bE (gN 6)<|bE (gN 7) mG) (aE q) [s0,s1,s2,.m<|fD F,.l<|W.map D.int,.v<|.int n,s6,s7]=some [s0,s1,s2,.m<|fD F,.l<|W.map D.int,.v<|.int n,.v<|.str q.1,.v<|.int q.2]:=λ_ _ _ _ _=>rfl
  rw[eA];have hq:=hrs q lA;by_cases c:q.2∈F.map (·.1)
  .rw[if_pos c,if_pos c]at XJ;obtain⟨ext,e,O,k⟩:=Ml hp U Y S rs F W (λr hr=>hrs r<|dA _ hr) B J hl;refine⟨ext,λs0 s1 s2 s6 s7=>?_,O,λr hr=>?_⟩
   .obtain⟨j,I,e⟩:=e s0 s1 s2 (.v<|.str q.1)<|.v<|.int q.2;exact⟨j,I,(qw (hg s0 s1 s2 s6 s7)<|XJ s0 s1 s2).trans e⟩
   rcases nA.mp hr with rfl|hr
   .rw[GA];exact cB _ c
   .exact k r hr
  .rw[if_neg c,if_neg c]at XJ
   have B1:Bf ps T s [n] (F++[(q.2,pth++[q.1])]) (W++[q.2]):=by
    have mk:∀{x:Int},x∈(F++[(q.2,pth++[q.1])]).map (·.1)↔x∈F.map (·.1)\/x=q.2:=λ{x}=>by simp
    have cw:q.2∉W:=λh=>c<|B.ws _ h
    refine⟨?_,λr hr=>?_,?_,λx hx=>?_,mk.mpr<|.inl B.st,λx hx h1 h2=>?_⟩
    .rw[GA,BB];refine⟨B.nd,by simp,λx hx y hy=>?_⟩;simp at hy;subst hy
     exactλz=>c (by rw[<- z];exact hx)
    .simp only[rA,HA];rcases oA.mp hr with hr|hr
     .obtain⟨a1,a2,a3,a4⟩:=B.wk r hr;exact⟨a1,a2,a3,by omega⟩
     .cases gA.mp hr;have Z:=S q hq;refine⟨(B.wk _ J).1.snoc U hp hq,Z.1,Z.2,?_⟩;simp only[rA,HA];omega
    .rw[BB];refine⟨B.wn,by simp,λx hx y hy=>?_⟩;simp at hy;subst hy
     exactλz=>cw (by rw[<- z];exact hx)
    .rcases oA.mp hx with hx|hx
     .exact mk.mpr<|.inl<|B.ws x hx
     .exact mk.mpr<|.inr<|gA.mp hx
    .rw[oA,not_or]at h1;rcases mk.mp hx with hx|hx
     .obtain⟨k1,k2⟩:=B.ex x hx h1.1 h2;exact⟨k1,λp' PK r hr=>mk.mpr<|.inl<|k2 p' PK r hr⟩
     .exact absurd (gA.mpr hx) h1.2
   obtain⟨ext,e,O,k⟩:=Ml hp U Y S rs _ _ (λr hr=>hrs r<|dA _ hr) B1 (cB _ J) (by simp only[rA,HA];omega);refine⟨(q.2,pth++[q.1])::ext,λs0 s1 s2 s6 s7=>?_,?_,λr hr=>?_⟩
   .obtain⟨j,I,e⟩:=e s0 s1 s2 (.v<|.str q.1)<|.v<|.int q.2;exact⟨j,I,(qw (hg s0 s1 s2 s6 s7)<|XJ s0 s1 s2).trans (by rw[e];simp)⟩
   .simpa using O
   .rcases nA.mp hr with rfl|hr
    .simp
    .simpa using k r hr
end K12
namespace K12
open PySem L2 RD LG K06
section
variable {m:Int}{ps:List Pl}(hd:yD m ps){tl:List (Int×List Str)}
theorem zPf{x:Int}(z:ps[x.toNat]?=some p)(I:VF (ps.map TB) x=some (TB p))(a:Addr)(s1 s3 s5 s6 s7:Sl)(W:List Int):
  yq [.v<|xB m ps,s1,.b a<|.p<|.ml<|tD tl,s3,.l (D.int x::W.map D.int),s5,s6,s7]=some (!YI ps (look tl) x):=by
 have j:WA (xB m ps) (.int 1)=some (.tup<|ps.map TB):=by simp only[xB,WA,UJ]
 have e3:WA (.lst (D.int x::W.map D.int)) (.int 0)=some (.int x):=by simp only[WA,DH]
 have J:WA (.tup<|ps.map TB) (.int x)=some (TB p):=by simp only[WA,I]
 have mt:=zUT p tl;have O:YI ps (look tl) x=sQ (look tl) p:=by unfold YI;rw[z]
 rw[O];simp only[yq,aP,RL,xV,gP,b2,EN,IP,UA,fB,cA,uA,j,e3,J,mt,IZ,Bb]
include hd in
theorem zJe(hr:∃j,fW ps (YI ps<|look tl) j s):∀(N:Nat)(F:List (Int×List Str))(W:List Int),Bf ps (YI ps<|look tl) s [] F W->ps.length+1<=N+(F.length-W.length) ->
  ∃y ws F' S,(∀(a:Addr)(s1 s5 s6 s7:Sl),∃vN J O,wN yq yr N [.v<|xB m ps,s1,.b a<|.p<|.ml<|tD tl,.m<|fD F,.l<|W.map D.int,s5,s6,s7]=some (.nx [.v<|xB m ps,s1,.b a<|.p<|.ml<|tD tl,.m<|fD F',.l (D.int y::NN D.int S),vN,J,O]))/\YI ps (look tl) y=true/\yj F' y=some ws/\hJ ps (YI ps<|look tl) s ws y/\ws.length<=ps.length/\0<=y/\y<(ps.length:Int)
 |0,F,W,B,h=>by
  have:=B.flen
  omega
 |N+1,F,[],B,h=>by
  obtain⟨j,hr⟩:=hr
  exact absurd hr<|B.ne B.st
 |N+1,F,x::W,B,h=>by
  have fl:=B.flen;obtain⟨pth,hg,hm⟩:=Pf<|B.ws x lA;obtain⟨k1,k2,k3,k4⟩:=B.wk _ hm;obtain⟨p,hp,U,e2⟩:=bT k2 k3;have ht:=λa s1 s5 s6 s7=>zPf (m:=m) (tl:=tl) U e2 a s1 (.m<|fD F) s5 s6 s7 W
  simp only[iA]at k4 h fl
  cases c:YI ps (look tl) x with
  |true=>
   rw[c]at ht;rw[eA]
   exact⟨x,pth,F,W,λa s1 s5 s6 s7=>⟨s5,s6,s7,Lx<|ht a s1 s5 s6 s7⟩,c,hg,k1,by omega,k2,k3⟩
  |false=>
   rw[c]at ht
   have B1:Bf ps (YI ps<|look tl) s [x] F W:=⟨B.nd,λq hq=>by
     obtain⟨a1,a2,a3,a4⟩:=B.wk q hq;simp only[iA]at a4;exact⟨a1,a2,a3,by omega⟩,(NB.mp B.wn).2,λy hy=>B.ws y<|dA _ hy,B.st,λy hy h1 h2=>B.ex y hy (λz=>by
     rcases nA.mp z with z|z
     .exact h2<|gA.mpr z
     .exact h1 z)<|oF⟩
   have hP:∀q∈WF p,0<=q.2/\q.2<(ps.length:Int):=λq hq=>(hd.ok p hp).next hq
   obtain⟨ext,Z,I,hk⟩:=Ml U c (by have:=hd.n1;omega) hP (WF p) F W (λ_ h=>h) B1 hm (by omega)
   have B3:Bf ps (YI ps<|look tl) s [] (F++ext) (W++ext.map (·.1)):=⟨I.nd,I.wk,I.wn,I.ws,I.st,λy hy h1 _=>by
    by_cases cy:y=x
    .subst cy;exact⟨c,λp' PK q hq=>by rw[U]at PK;cases PK;exact hk q hq⟩
    .exact I.ex y hy h1<|λz=>cy<|gA.mp z⟩
   have e0:WA (xB m ps) (.int 1)=some (.tup<|ps.map TB):=by simp only[xB,WA,UJ]
   have e4:WA (.tup<|ps.map TB) (.int x)=some (TB p):=by simp only[WA,e2]
   have Y:∀(a:Addr)(s1 s5 s6 s7:Sl),∃J O,yr [.v<|xB m ps,s1,.b a<|.p<|.ml<|tD tl,.m<|fD F,.l (D.int x::W.map D.int),s5,s6,s7]=some (.nx [.v<|xB m ps,s1,.b a<|.p<|.ml<|tD tl,.m<|fD<|F++ext,.l ((W++ext.map (·.1)).map D.int),.v<|.int x,J,O]):=by
    intro a s1 s5 s6 s7;obtain⟨J,O,Z⟩:=Z (.v<|xB m ps) s1 (.b a<|.p<|.ml<|tD tl) s6 s7;refine⟨J,O,?_⟩;unfold yr;refine(zY (ρ':=[.v<|xB m ps,s1,.b a<|.p<|.ml<|tD tl,.m<|fD F,.l<|W.map D.int,.v<|.int x,s6,s7]) rfl).trans ((JO (ds:=(WF p).map aE) ?_).trans Z);simp only[iT,zC,b2,EN,UA,fB,cA,uA,e0,e4,Nk,Vt]
   rw[eA];obtain⟨y,ws,F',S,e,k⟩:=zJe hr N _ _ B3 (by simp only[rA,kA];omega);refine⟨y,ws,F',S,λa s1 s5 s6 s7=>?_,k⟩;obtain⟨J,O,Y⟩:=Y a s1 s5 s6 s7;rw[R8 (ht a s1 s5 s6 s7)<|.inl Y];exact e a s1 _ _ _
include hd in
theorem zWw(s0:0<=s)(s1:s<(ps.length:Int))(hr:∃j,fW ps (YI ps<|look tl) j s):∃y ws,yo [xB m ps,.int s] (.p<|.ml<|tD tl)=some (.ok<|.tup [.int y,.tup<|ws.map D.str])/\YI ps (look tl) y=true/\hJ ps (YI ps<|look tl) s ws y/\ws.length<=ps.length/\0<=y/\y<(ps.length:Int):=by
 have I:Bf ps (YI ps<|look tl) s [] [(s,[])] [s]:=⟨by simp,λq hq=>by cases gA.mp hq;exact⟨rfl,s0,s1,by simp⟩,by simp,by simp,by simp,λx hx h=>absurd hx<|by simpa using h⟩
 have U:=hd.n1;obtain⟨y,ws,F',J,e,c,g,k⟩:=zJe hd hr 1000 _ _ I (by omega);refine⟨y,ws,yw λa=>?_,c,k⟩
 .obtain⟨Z,S,Y,e⟩:=e a (.v<|.int s) .un .un .un;have z:=R9 y F';rw[g]at z;have e3:WA (.lst (D.int y::J.map D.int)) (.int 0)=some (.int y):=by simp only[WA,DH]
  have er:qi [.v<|xB m ps,.v<|.int s,.b a<|.p<|.ml<|tD tl,.m<|fD [(s,[])],.l<|[s].map D.int,.un,.un,.un]=some (.rt<|.tup [.int y,.tup<|ws.map D.str]):=by
   unfold qi;refine(zY e).trans ?_;unfold jp;simp only[lF,zC,b2,EN,B5,gM,cH,UA,fB,cA,uA,e3,z]
  have O:yn [.v<|xB m ps,.v<|.int s,.b a<|.p<|.ml<|tD tl,.un,.un,.un,.un,.un]=some (.o<|.rt<|.tup [.int y,.tup<|ws.map D.str]):=by
   unfold yn oX;rw[zY (ρ':=[.v<|xB m ps,.v<|.int s,.b a<|.p<|.ml<|tD tl,.m<|fD [(s,[])],.un,.un,.un,.un]) rfl,zY (ρ':=[.v<|xB m ps,.v<|.int s,.b a<|.p<|.ml<|tD tl,.m<|fD [(s,[])],.l<|[s].map D.int,.un,.un,.un]) rfl,er];rfl
  show(yn [.v<|xB m ps,.v<|.int s,.b a<|.p<|.ml<|tD tl,.un,.un,.un,.un,.un]).bind _=_;rw[O];rfl
end
end K12
namespace K12
open PySem L2 RD LG K06
theorem Nu{I:Type}{a b:Int}{l:I}:∀{F:List (Int×I)},yj (rG a l F) b=if b=a then (yj F a).map λ_=>l else yj F b
 | []=>by unfold rG yj;simp
 |q::F=>by
  have ih:=Nu (a:=a) (b:=b) (l:=l) (F:=F);unfold rG;unfold yj at ih|-;by_cases c:q.1=a
  .rw[if_pos c,vA,vA,vA];by_cases j:b=a
   .subst j;simp[c]
   .have c1:¬ q.1=b:=λz=>j (by rw[<- z,c])
    simp[c1,j]
  .rw[if_neg c,vA,vA,vA];by_cases j:b=a
   .subst j;simp only[c,decide_false];rw[ih,if_pos rfl,if_pos trivial]
   .by_cases c1:q.1=b
    .simp[c1,j]
    .simp only[c1,decide_false,j,if_false]at ih ⊢;exact ih
theorem setT_keys{j:Type}{a:Int}{l:j}:∀{F:List (Int×j)},(rG a l F).map (·.1)=F.map (·.1)
 | []=>rfl
 |q::F=>by
  unfold rG;split
  .rfl
  .rw[eA,eA,setT_keys]
def eL(tl:List (Int×List Str)):Nat:=(tl.map (·.2.length)).sum
theorem x9{l l':List Str}:∀{tl:List (Int×List Str)},yj tl a=some l->eL (rG a l' tl)+l.length=eL tl+l'.length
 | [],h=>by cases h
 |q::tl,h=>by
  unfold yj at h;rw[vA]at h;unfold rG;by_cases c:q.1=a
  .simp only[c,decide_true,uA,sE]at h;rw[if_pos c];simp only[eL,eA,DG,h];omega
  .simp only[c,decide_false]at h;have:=x9 (l':=l') (tl:=tl) h;rw[if_neg c];simp only[eL,eA,DG]at this ⊢;omega
def KQ(a:Int)(w:Str)(tl:List (Int×List Str)):List (Int×List Str):=match yj tl a with
 |some l=>rG a (l++[w]) tl
 |none=>tl++[(a,[w])]
def x5(tl:List (Int×List Str))(v:Mv):List (Int×List Str):=if v.t=true then KQ v.a v.w tl else tl
def BM(l:List Mv):List (Int×List Str):=l.foldl x5 []
theorem zHQ(l:List Mv)(v:Mv):BM (l++[v])=x5 (BM l) v:=by unfold BM;rw[fQ];rfl
theorem zJf{j:Type}{a b:Int}{l:j}:∀{F:List (Int×j)},yj F a=none->yj (F++[(a,l)]) b=if b=a then some l else yj F b
 |[],_=>by
  unfold yj;rw[DB,vA];by_cases c:b=a
  .simp[c]
  .have:¬ a=b:=λz=>c z.symm
   simp[c,this]
 |q::F,h=>by
  unfold yj at h;rw[vA]at h;by_cases c:q.1=a
  .simp[c]at h
  .simp only[c,decide_false]at h;have ih:=zJf (b:=b) (l:=l) (F:=F) h;unfold yj at ih|-;rw[MB,vA,vA];by_cases c1:q.1=b
   .have:¬ b=a:=λz=>c (by rw[c1,z])
    simp[c1,this]
   .simp only[c1,decide_false];exact ih
theorem zRV{a b:Int}{w:Str}{tl:List (Int×List Str)}:look (KQ a w tl) b=if b=a then look tl a++[w] else look tl b:=by
 unfold KQ look
 cases e:yj tl a with
 |some l=>
  simp only[Nu,e]
  by_cases c:b=a<;>simp[c]
 |none=>
  simp only[zJf e];by_cases c:b=a<;>simp[c]
theorem zUU{a:Int}{w:Str}{tl:List (Int×List Str)}:eL (KQ a w tl)=eL tl+1:=by
 unfold KQ
 cases e:yj tl a with
 |some l=>
  have:=x9 (l':=l++[w]) e;simp only[rA,HA]at this
  simp only;omega
 |none=>simp[eL]
theorem zRW{a:Int}{w:Str}{tl:List (Int×List Str)}(nd:(tl.map (·.1)).Nodup):((KQ a w tl).map (·.1)).Nodup/\(∀x∈(KQ a w tl).map (·.1),x=a\/x∈tl.map (·.1))/\(KQ a w tl).length<=tl.length+1:=by
 unfold KQ
 cases e:yj tl a with
 |some l=>
  simp only[setT_keys];refine⟨nd,λx hx=>.inr hx,?_⟩;have:=congrArg dE<|setT_keys (a:=a) (l:=l++[w]) (F:=tl);simp only[kA]at this
  omega
 |none=>
  have c:a∉tl.map (·.1):=λh=>by
   obtain⟨l,e',_⟩:=Pf h;rw[e]at e';cases e'
  refine⟨?_,λx hx=>?_,by simp⟩
  .rw[GA,BB];refine⟨nd,by simp,λx hx y hy=>?_⟩;simp at hy;subst hy
   exactλz=>c (by rw[<- z];exact hx)
  .simp at hx;rcases hx with⟨l,hx⟩|hx
   .exact .inr (PB (f:=(·.1)) hx)
   .exact .inl hx
structure Tld(l:List Mv)(tl:List (Int×List Str)):Prop where
 nd:(tl.map (·.1)).Nodup
 lk:∀a:Int,look tl a=(l.filter λv=>v.t&&decide (v.a=a)).map (·.w)
 sm:eL tl=(l.filter (·.t)).length
 ln:tl.length<=l.length
 ky:∀x∈tl.map (·.1),∃v∈l,v.t=true/\v.a=x
theorem zL6(l:List Mv):Tld l (BM l):=by
 induction l using j9 with
 |h0=>exact⟨by simp[BM],λa=>rfl,rfl,by simp[BM],λx hx=>by simp[BM]at hx⟩
 |h1 l v I=>
  rw[zHQ];unfold x5;by_cases c:v.t=true
  .rw[if_pos c];obtain⟨k1,k2,k3⟩:=zRW (a:=v.a) (w:=v.w) I.nd;refine⟨k1,λa=>?_,?_,?_,λx hx=>?_⟩
   .rw[zRV,UC,GA,<- I.lk a];by_cases J:a=v.a
    .subst J;simp[c]
    .have:¬ v.a=a:=λz=>J z.symm
     simp[c,J,this]
   .rw[zUU,I.sm,UC];simp[c]
   .have:=I.ln;rw[rA];simp;omega
   .rcases k2 x hx with rfl|hx
    .exact⟨v,by simp,c,rfl⟩
    .obtain⟨u,hu,k⟩:=I.ky x hx;exact⟨u,cB _ hu,k⟩
  .rw[if_neg c];refine⟨I.nd,λa=>?_,?_,?_,λx hx=>?_⟩
   .rw[UC,GA,<- I.lk a];simp[c]
   .rw[I.sm,UC];simp[c]
   .have:=I.ln;rw[rA];omega
   .obtain⟨u,hu,k⟩:=I.ky x hx;exact⟨u,cB _ hu,k⟩
end K12
namespace K12
open PySem L2 RD LG K06
theorem kX{f:dC}(h:f ρ=some (.bl b)):bB f ρ=some b:=by unfold bB;rw[h];rfl
theorem zSJ{f:dC}{ρ:mB}{xs:List D}(h1:gL ρ i=some xs)(h2:xs.length<16000000)(h3:f ρ=some d):aK i f ρ=some (.nx<|ρ.set i<|.l<|xs++[d]):=by
 unfold aK;rw[h1,cA,if_pos h2,h3,uA]
theorem zUV(t:Bool):WB (.str<|ZK t) (.str<|fA "tell")=some (.bl t):=by cases t<;>kernel_rfl
theorem mv0(v:Mv):WA (JB v) (.int 0)=some (.str<|ZK v.t):=by simp only[JB,WA,DH]
theorem mv1(v:Mv):WA (JB v) (.int 1)=some (.int v.a):=by simp only[JB,WA,UJ]
theorem mv3(v:Mv):WA (JB v) (.int 3)=some (.str v.w):=by simp only[JB,WA,gW]
theorem zSK(tl:List (Int×List Str)):(tD tl).length=tl.length:=by simp[tD]
theorem zPh{l:List Str}:∀{tl:List (Int×List Str)},yj tl a=some l->l.length<=eL tl:=λ{tl} h=>by
 have:=x9 (l':=[]) h;simp only[YB,Nat.add_zero]at this;omega
theorem zPi{tl:List (Int×List Str)}(v:Mv)(h1:tl.length<=1000)(h2:eL tl<=1000):Jt [s0,.o none<|.p<|.ml<|tD tl,.v<|JB v]=some (.nx [s0,.o none<|.p<|.ml<|tD<|x5 tl v,.v<|JB v]):=by
 have j:bB (b2 (b2 (gR 2) (zN 0) WA) (λ_=>some<|D.str "tell") WB) [s0,.o none<|.p<|.ml<|tD tl,.v<|JB v]=some v.t:=kX<|qK (qK rfl rfl<|mv0 v) rfl<|zUV v.t;unfold x5
 cases c:v.t with
 |false=>rw[c]at j;rw[if_neg<|by simp];exact fT j rfl
 |true=>
  rw[c]at j;rw[if_pos rfl];refine AV j ?_;have z:∀s1:Sl,b2 (gR 2) (zN 1) WA [s0,s1,.v<|JB v]=some (.int v.a):=λ_=>qK rfl rfl<|mv1 v
  have e3:∀s1:Sl,b2 (gR 2) (zN 3) WA [s0,s1,.v<|JB v]=some (.str v.w):=λ_=>qK rfl rfl<|mv3 v
  have g:=Q9 v.a tl;unfold YW KQ;have g0:tO [s0,.o none<|.p<|.ml<|tD tl,.v<|JB v] 1=some (tD tl):=rfl;simp only[g0,cA,z,cH]
  cases e:yj tl v.a with
  |some l=>
   rw[e]at g;have:=zPh e;simp only[g,uA,kA];rw[if_pos<|by omega,e3,uA,<- Sg,GA]
   rfl
  |none=>
   rw[e]at g;simp only[g,jQ];rw[if_pos (by rw[zSK];omega)];have:(([s0,.o none<|.p<|.ml<|tD tl,.v<|JB v]:mB).set 1<|.o none<|.p<|.ml<|tD tl++[(.inl v.a,[])])=[s0,.o none<|.p<|.ml<|tD tl++[(.inl v.a,[])],.v<|JB v]:=rfl;rw[this,e3,uA];simp[tD]
theorem zJg:∀(r l:List Mv)(s2:Sl),l.length+r.length<=1000->∃j,zf (gN 2) Jt (r.map JB) [s0,.o none<|.p<|.ml<|tD<|BM l,s2]=some (.nx [s0,.o none<|.p<|.ml<|tD<|BM<|l++r,j])
 | [],l,s2,_=>⟨s2,by simp[zf]⟩
 |v::r,l,s2,h=>by
  rw[iA]at h;have T:=zL6 l;have:=T.ln;have:=T.sm;have fl:=SD (λv:Mv=>v.t) l;have st:=zPi (s0:=s0) (tl:=BM l) v (by omega) (by omega);rw[<- zHQ]at st;obtain⟨j,e⟩:=zJg (s0:=s0) r (l++[v]) (.v<|JB v) (by rw[rA,HA];omega);refine⟨j,?_⟩;rw[eA,qw (g:=gN 2) (ρ1:=[s0,.o none<|.p<|.ml<|tD<|BM l,.v<|JB v]) rfl st,e];simp
theorem zWx{l:List Mv}(h:l.length<=1000):h8 [.tup<|l.map JB]=some (.o none<|.p<|.ml<|tD<|BM l):=by
 obtain⟨s2,e⟩:=zJg (s0:=.v<|.tup<|l.map JB) l [] .un (by simpa using h);rw[DB]at e
 have j:U2 [.v<|.tup<|l.map JB,.un,.un]=some (.ro<|.o none<|.p<|.ml<|tD<|BM l):=by
  unfold U2;exact(zY (ρ':=[.v<|.tup<|l.map JB,.o none<|.p<|.ml<|tD<|BM [],.un]) rfl).trans ((zY<|(JO (ds:=l.map JB) rfl).trans e).trans rfl)
 show(U2 [.v<|.tup<|l.map JB,.un,.un]).bind nX=_;rw[j];rfl
theorem zL7{tl:List (Int×List Str)}(h:tl.length<=1000):D8 [s0,s1,.o none<|.p<|.ml<|tD tl,s3,s4,s5,s6,s7]=some ((tl.map λq=>decide<|0<(q.2.length:Int)).any id):=by
 have j:=zw (g:=gN 8) (p:=λ_=>some true) (f:=C8) (emb:=λq:Int×List Str=>D.lst<|q.2.map D.str) (ρ:=jA 9 .un) (λ_=>true) (λq=>D.bl<|decide<|0<(q.2.length:Int)) tl λq _=>by
  refine⟨_,rfl,rfl,λ_=>?_⟩;show some (D.bl<|decide<|0<(((q.2.map D.str).length:Nat):Int))=_;rw[kA]
 rw[AC.mpr<|by simp]at j
 have z:A9 1 2 (gN 8) C8 [s0,s1,.o none<|.p<|.ml<|tD tl,s3,s4,s5,s6,s7]=some ((tl.map λq=>decide<|0<(q.2.length:Int)).map D.bl):=by
  unfold A9;show((some<|tD tl).bind λkvs=>if kvs.length<=1000000 then (zQ (gN 8) (λ_=>some true) C8 (kvs.map λq=>.lst q.2)<|jA 9 .un).bind λys=>(RD.wQ ys).map λbs=>bs.map D.bl else none)=_;rw[cA,if_pos (by rw[zSK];omega)];have:(tD tl).map (λq=>D.lst q.2)=tl.map λq=>D.lst<|q.2.map D.str:=by unfold tD;rw[vB];rfl
  rw[this,j,cA,show(tl.map λq=>D.bl<|decide<|0<(q.2.length:Int))=(tl.map λq=>decide<|0<(q.2.length:Int)).map D.bl by rw[vB];rfl,M3];rfl
 unfold D8 RL b1;simp only[z,uA,cA,Be,M3,Bb]
end K12
namespace K12
open PySem L2 RD LG K06
theorem Qq:∀tl:List (Int×List Str),((tl.map λq=>decide<|0<(q.2.length:Int)).any id)=decide (0<eL tl)
 | []=>rfl
 |q::tl=>by
  have ih:=Qq tl;simp only[eA,QC,id];rw[ih];have:eL (q::tl)=q.2.length+eL tl:=by simp[eL]
  rw[this,JF];simp only[KF,decide_eq_true_eq];omega
theorem zJh:∀{tl:List (Int×List Str)},0<eL tl->∃q∈tl,q.2≠[]
 | [],h=>by simp[eL]at h
 |q::tl,h=>by
  by_cases c:q.2=[]
  .have:eL (q::tl)=q.2.length+eL tl:=by simp[eL]
   rw[this,c,YB,oJ]at h;obtain⟨r,hr,k⟩:=zJh h;exact⟨r,dA _ hr,k⟩
  .exact⟨q,lA,c⟩
section
variable {M:Int}{ps:List Pl}(hd:yD M ps){m:Nat}(hm:(m:Int)=M){G:Nat->List Int->Prop}(HG:∀d:Nat,d<m->Gd ps d (G d))
include hd hm in
theorem KZ{tl:List (Int×List Str)}{rem:Nat->List Mv}(h:∀a:Nat,a<m->look tl a=tw (rem a)):YI ps (look tl)=YI ps (sX rem):=by
 funext x
 unfold YI
 cases e:ps[x.toNat]? with
 |none=>rfl
 |some p=>
  cases p with
  |fin=>rfl
  |tell a b ch=>
   have ok:tN M _ a b ch:=hd.ok _<|xA e;have:=h a.toNat (by have:=ok.a1;have:=ok.a0;omega);rw[show((a.toNat:Nat):Int)=a by have:=ok.a0;omega]at this;simp only[sQ,this]
include hd hm HG in
theorem zL8(s1:Sl):∀(n:Nat){x:Int}{K:Nat->List Int}{rem:Nat->List Mv}{tl:List (Int×List Str)}{way:List Str}(s5 s6 s7:Sl),Wy ps m G K rem x->(tl.map (·.1)).Nodup->tl.length<=1000->(∀k∈tl.map (·.1),∃o:Nat,k=(o:Int)/\o<m)->(∀a:Nat,a<m->look tl a=tw (rem a))->eL tl=n->way.length+41*n<=100000 ->
  ∃ws y U vN bH vI,(∀N,n<N->wN D8 Mi N [.v<|xB M ps,s1,.o none<|.p<|.ml<|tD tl,.v<|.int x,.l<|way.map D.str,s5,s6,s7]=some (.nx [.v<|xB M ps,s1,.o none<|.p<|.ml<|tD U,.v<|.int y,.l<|(way++ws).map D.str,vN,bH,vI]))/\hJ ps (λ_=>false) x ws y/\n<=ws.length/\way.length+ws.length<=100000/\∀d:Nat,d<m->rem d <+: dds ps d x ws
 |0,x,K,rem,tl,way,s5,s6,s7,W,nd,ln,ky,lk,sm,bd=>by
  have no:∀a:Nat,a<m->tw (rem a)=[]:=λa ha=>by
   rw[<- lk a ha]
   cases e:look tl a with
   |nil=>rfl
   |cons w l=>
    exfalso;unfold look at e
    cases e':yj tl (a:Int) with
    |none=>rw[e']at e;cases e
    |some l'=>
     rw[e']at e;have:=zPh e';rw[show l'=w::l from e,iA]at this;omega
  refine⟨[],x,tl,s5,s6,s7,λN hN=>?_,rfl,wA _,by simp;omega,λd I=>by rw[W.fin hd hm HG no I];exact BE⟩;obtain⟨N,rfl⟩:∃k,N=k+1:=⟨N-1,by omega⟩
  rw[Lx (by rw[zL7 ln,Qq,sm];rfl),kB]
 |n+1,x,K,rem,tl,way,s5,s6,s7,W,nd,ln,ky,lk,sm,bd=>by
  obtain⟨q,hq,sW⟩:=zJh (tl:=tl) (by omega);obtain⟨o,eo,ho⟩:=ky q.1<|PB hq;have lq:look tl o=q.2:=by unfold look;rw[<- eo,Pe nd<|show(q.1,q.2)∈tl from hq];rfl
  have oe:=KZ hd hm lk;have rc:=W.reach hd hm HG ho (by rw[<- lk o ho,lq];exact sW);rw[<- oe]at rc;obtain⟨y,vs,en,S,wl,vl,y0,y1⟩:=zWw hd (tl:=tl) W.x0 W.x1 rc;obtain⟨p,hp,O,e2⟩:=bT y0 y1;have Y:Wy ps m G K rem y:=Wy.walk hd hm HG W (by rw[<- oe];exact wl);unfold YI at S;rw[O]at S
  cases p with
  |fin=>cases S
  |tell Z b' ch=>
   have ok:tN M _ Z b' ch:=hd.ok _ hp;have a0:=ok.a0;have a1:=ok.a1;have b0:=ok.b0;have b1:=ok.b1;obtain⟨a,rfl⟩:∃a:Nat,Z=(a:Int):=⟨Z.toNat,by omega⟩
   obtain⟨b,rfl⟩:∃b:Nat,b'=(b:Int):=⟨b'.toNat,by omega⟩
   have ha:a<m:=by omega
   have hb:b<m:=by omega
   obtain⟨w,ts,j⟩:∃w ts,look tl a=w::ts:=by
    cases e:look tl a with
    |nil=>simp[sQ,e]at S
    |cons w ts=>exact⟨w,ts,rfl⟩
   have eg:yj tl (a:Int)=some (w::ts):=by
    unfold look at j
    cases e:yj tl (a:Int) with
    |none=>rw[e]at j;cases j
    |some l=>rw[e]at j;exact congrArg some j
   obtain⟨y',K',kM,hy,W',t1,t2,o1,o2,o3⟩:=Y.go_on hd hm HG ha hb O (by rw[<- lk a ha];exact j);have sms:=x9 (l':=ts) eg;simp only[iA]at sms;have hl:=hd.n1;have lt:(rG (a:Int) ts tl).length=tl.length:=by have:=congrArg dE<|setT_keys (a:=(a:Int)) (l:=ts) (F:=tl);simpa using this
   obtain⟨ws,z,U,vN,bH,vI,ih,w1,w2,w3,J⟩:=zL8 s1 n (x:=y') (K:=K') (rem:=kM) (tl:=rG (a:Int) ts tl) (way:=way++vs++[w]) (.v<|.tup [.int y,.tup<|vs.map D.str]) (.v<|TB<|.tell a b ch) (.v<|.str w) W' (by rw[setT_keys];exact nd) (by omega) (by rw[setT_keys];exact ky) (λd I=>by
    unfold look;rw[Nu];by_cases c:d=a
    .subst c;rw[if_pos rfl,eg,t1];rfl
    .rw[if_neg<|λz=>c<|CB.mp z,t2 d c,<- lk d I];rfl) (by omega) (by simp only[rA,HA];omega)
   simp only[rA,HA]at w3;refine⟨vs++[w]++ws,z,U,vN,bH,vI,λN hN=>?_,(wl.any.app<|show hJ ps _ y [w] y' from⟨rfl,_,y',O,hy,rfl⟩).app w1,by simp only[rA,HA];omega,by simp only[rA,HA];omega,?_⟩
   rotate_left
   .rw[EB];refine Wy.dds hd hm HG W (by rw[<- oe];exact wl) λd I=>?_
    rw[BH,Pd hd O hy];have J:=J d I;by_cases ca:d=a
    .subst ca;rw[if_pos rfl,if_neg<|λz=>ok.ne z.symm,o1,DB,BH];exact xH.mpr ⟨rfl,J⟩
    .rw[if_neg<|λz=>ca<|CB.mp z.symm,DB];by_cases cb:d=b
     .subst cb;rw[if_pos rfl,BH];rcases o2 with o2|o2
      .rw[o2];exact BE
      .rw[o2];exact xH.mpr ⟨rfl,J⟩
     .rw[if_neg<|λz=>cb<|CB.mp z.symm,DB,<- o3 d ca cb];exact J
   obtain⟨N,rfl⟩:∃k,N=k+1:=⟨N-1,by omega⟩
   have e0:WA (xB M ps) (.int 1)=some (.tup<|ps.map TB):=by simp only[xB,WA,UJ]
   have e4:WA (.tup<|ps.map TB) (.int y)=some (TB<|.tell a b ch):=by simp only[WA,e2]
   have f0:WA (.tup [.int y,.tup<|vs.map D.str]) (.int 0)=some (.int y):=by simp only[WA,DH]
   have f1:WA (.tup [.int y,.tup<|vs.map D.str]) (.int 1)=some (.tup<|vs.map D.str):=by simp only[WA,UJ]
   have p1:WA (TB<|.tell a b ch) (.int 1)=some (.int a):=by simp only[TB,WA,UJ]
   have p3:WA (TB<|.tell a b ch) (.int 3)=some (.tup<|ch.map aE):=by simp only[TB,WA,gW]
   have e6:GQ (.tup<|ch.map aE)=some (ch.map kv):=Qn ok.rs (by have:=ok.l1;omega);have e7:wJ (ch.map kv) (.inr w)=some (.int y'):=by rw[Ae,M9 ok.rs hy];rfl
   have gt:=Q9 a tl;rw[eg]at gt
   have eb:Mi [.v<|xB M ps,s1,.o none<|.p<|.ml<|tD tl,.v<|.int x,.l<|way.map D.str,s5,s6,s7]=some (.nx [.v<|xB M ps,s1,.o none<|.p<|.ml<|tD<|rG (a:Int) ts tl,.v<|.int y',.l<|(way++vs++[w]).map D.str,.v<|.tup [.int y,.tup<|vs.map D.str],.v<|TB<|.tell a b ch,.v<|.str w]):=by
    refine(zY (ρ':=[.v<|xB M ps,s1,.o none<|.p<|.ml<|tD tl,.v<|.int x,.l<|way.map D.str,.v<|.tup [.int y,.tup<|vs.map D.str],s6,s7]) ?_).trans ?_
    .refine(yc (d:=.tup [.int y,.tup<|vs.map D.str]) ?_).trans rfl;show(yo [xB M ps,.int x]<|.p<|.ml<|tD tl).bind IZ=_;rw[en];rfl
    refine(zY (ρ':=[.v<|xB M ps,s1,.o none<|.p<|.ml<|tD tl,.v<|.int x,.l<|(way++vs).map D.str,.v<|.tup [.int y,.tup<|vs.map D.str],s6,s7]) ?_).trans ?_
    .unfold Tc;rw[qK (a:=.tup [.int y,.tup<|vs.map D.str]) (b:=.int 1) rfl rfl f1];show(if (way.map D.str).length+(vs.map D.str).length<=1000000 then some (Out.nx _) else none)=_;rw[if_pos (by simp only[kA];omega),GA];rfl
    refine(zY<|yc<|qK (qK (a:=xB M ps) (b:=.int 1) rfl rfl e0) (qK (a:=.tup [.int y,.tup<|vs.map D.str]) (b:=.int 0) rfl rfl f0) e4).trans ?_;refine(zY (ρ':=[.v<|xB M ps,s1,.o none<|.p<|.ml<|tD<|rG (a:Int) ts tl,.v<|.int x,.l<|(way++vs).map D.str,.v<|.tup [.int y,.tup<|vs.map D.str],.v<|TB<|.tell a b ch,.v<|.str w]) ?_).trans ?_
    .unfold Rp;have q0:b2 (gR 6) (zN 1) WA [.v<|xB M ps,s1,.o none<|.p<|.ml<|tD tl,.v<|.int x,.l<|(way++vs).map D.str,.v<|.tup [.int y,.tup<|vs.map D.str],.v<|TB<|.tell a b ch,s7]=some (.int a):=qK (a:=TB<|.tell a b ch) (b:=.int 1) rfl rfl p1
     show((b2 (gR 6) (zN 1) WA [.v<|xB M ps,s1,.o none<|.p<|.ml<|tD tl,.v<|.int x,.l<|(way++vs).map D.str,.v<|.tup [.int y,.tup<|vs.map D.str],.v<|TB<|.tell a b ch,s7]).bind λkd=>(cH kd).bind λk=>match yj (tD tl) k with
      |some (d::xs)=>some<|Out.nx<|([.v<|xB M ps,s1,.o none<|.p<|.ml<|rG k xs<|tD tl,.v<|.int x,.l<|(way++vs).map D.str,.v<|.tup [.int y,.tup<|vs.map D.str],.v<|TB<|.tell a b ch,s7]:mB).set 7<|.v d
      |_=>none)=_
     rw[q0];simp only[cA,cH,gt,uA,eA];rw[Sg];rfl
    refine(zY<|zSJ (xs:=(way++vs).map D.str) (d:=.str w) rfl (by simp only[kA,rA];omega) rfl).trans ?_;rw[GA (l₁:=way++vs)];refine(yc (d:=.int y') ?_).trans rfl;show((b2 (gR 6) (zN 3) WA _).bind λx=>(GQ x).bind λkvs=>(some<|D.str w).bind λy=>(cH y).bind λk=>wJ kvs k)=_;rw[qK (a:=TB<|.tell a b ch) (b:=.int 3) rfl rfl p3,cA,e6];exact e7
   rw[R8 (by rw[zL7 ln,Qq,sm];rfl)<|.inl eb,ih N<|by omega];simp[EB]
end
end K12
namespace K12
open PySem L2 RD LG K06
def PR(M:Int)(h:Hl):Prop:=∀v∈h.past,v.t=true->∃i:Nat,v.a=(i:Int)/\(i:Int)<M
theorem zPj(a:Int):∀l:List Mv,tw (JH a l)=(l.filter λv=>v.t&&decide (v.a=a)).map (·.w)
 | []=>rfl
 |v::l=>by
  have ih:=zPj a l;unfold tw JH at ih|-;rw[dB,dB];unfold own at ih|-
  cases c:v.t with
  |false=>
   simp only[RA,if_false,MH];split
   .rw[dB,c];simpa using ih
   .exact ih
  |true=>
   simp only[if_true,YL];by_cases j:v.a=a
   .simp only[j,decide_true,if_true,dB,c,eA];rw[ih]
   .simp only[j,decide_false,RA,if_false];exact ih
theorem xZ(hd:yD M ps)(hf:kK ps){h:Hl}(I:HJ M ps h)(pr:PR M h)(hl:h.past.length<=900):
  ∃ws y,P3 [xB M ps,.tup<|h.past.map JB]=some (.tup<|ws.map D.str)/\hJ ps (λ_=>false) 0 ws y/\(h.past.filter (·.t)).length<=ws.length/\ws.length<=100000/\∀d:Nat,(d:Int)<M->JH d h.past <+: dds ps d 0 ws:=by
 have m0:=hd.m0;have T:=zL6 h.past;have ln:=T.ln;have fl:=SD (λv:Mv=>v.t) h.past;have n0:=hd.n0;have W:Wy ps M.toNat (GS ps h.P) (λi=>VD ps i [0]) (λi=>JH i h.past) 0:=⟨I.zp hd,Int.le_refl 0,by omega,λd _ _=>(zPU hd d).1⟩
 obtain⟨ws,y,Z,s5,s6,s7,e,k1,k2,k3,S⟩:=zL8 hd (m:=M.toNat) (by omega) (λd j=>GS.gd hd hf<|by omega) (.v<|.tup<|h.past.map JB) (h.past.filter (·.t)).length (way:=[]) .un .un .un W T.nd (by omega) (λk hk=>by
  obtain⟨v,hv,Y,U⟩:=T.ky k hk;obtain⟨i,z,e2⟩:=pr v hv Y;exact⟨i,by rw[<- U];exact z,by omega⟩) (λa _=>by rw[T.lk,zPj]) T.sm (by simp only[YB];omega)
 refine⟨ws,y,?_,k1,k2,by simp only[YB]at k3;omega,λd j=>S d<|by omega⟩;have e:=e 1000 (by omega);rw[DB]at e
 have J:O3 [.v<|xB M ps,.v<|.tup<|h.past.map JB,.un,.un,.un,.un,.un,.un]=some (.rt<|.tup<|ws.map D.str):=by
  unfold O3;refine(zY<|o9 (ds:=[.tup<|h.past.map JB]) rfl<|zWx<|by omega).trans ((zY (ρ':=[.v<|xB M ps,.v<|.tup<|h.past.map JB,.o none<|.p<|.ml<|tD<|BM h.past,.v<|.int 0,.un,.un,.un,.un]) rfl).trans<|(zY (ρ':=[.v<|xB M ps,.v<|.tup<|h.past.map JB,.o none<|.p<|.ml<|tD<|BM h.past,.v<|.int 0,.l<|([]:List Str).map D.str,.un,.un,.un]) rfl).trans ?_);unfold zHO;exact(zY e).trans rfl
 show(O3 [.v<|xB M ps,.v<|.tup<|h.past.map JB,.un,.un,.un,.un,.un,.un]).bind _=_;rw[J];rfl
theorem PR.step{M:Int}{h:Hl}(p:PR M h)(z:h.P.length=M.toNat)(hv:v∈sH h):PR M (rO h v):=λu hu j=>by
 have e:(rO h v).past=h.past++[v]:=rfl;rw[e]at hu;rcases oA.mp hu with hu|hu
 .exact p u hu j
 .cases gA.mp hu;obtain⟨i,hi,hm⟩:=lC.mp hv;have hi:=gC.mp hi;refine⟨i,?_,by omega⟩;unfold QO at hm;split at hm
  .obtain⟨q,_,rfl⟩:=OA.mp hm;rfl
  .obtain⟨q,_,rfl⟩:=OA.mp hm;cases j
  .cases hm
end K12
namespace K07
open PySem L2 RD LG K06 K12
theorem zRX(hd:yD M ps)(hf:kK ps)(H:HOk k h)(hk:k<=100)(I:HJ M ps h)(pr:PR M h)(C:Addr)(c:Int):
  ∃h',HOk (k+1) h'/\HJ M ps h'/\PR M h'/\∀(ad:Addr)(s1 s2 s4:Sl),∃J,Kz C [.o (some ad)<|DC C h,s1,s2,.v<|.int c,s4]=some (.nx [.o (some ad)<|DC C h',s1,s2,.v<|.int c,J]):=by
 have len:KH (.tup<|(sH h).map JB)=some (.int ((sH h).length:Int)):=by simp only[KH,kA]
 have Zu:∀(ad:Addr)(s1 s2 s4:Sl),qC 4 (uK C "moves" 0 zO<|sR C) [.o (some ad)<|DC C h,s1,s2,.v<|.int c,s4]=some (.nx [.o (some ad)<|DC C h,s1,s2,.v<|.int c,.v<|.tup<|(sH h).map JB]):=λ_ _ _ _=>yc<|bV rfl (zLx C h) rfl<|zWi H C
 cases em:sH h with
 |nil=>
  refine⟨h,H.rows (GD k) (QA H.rn<|GD k)<|λq hq=>QA (H.rl q hq)<|GD k,I,pr,λad s1 s2 s4=>⟨.v<|.tup<|(sH h).map JB,(zY<|Zu ad s1 s2 s4).trans ?_⟩⟩;rw[em]
  exact fT rfl rfl
 |cons v0 l0=>
  have hc:(0:Int)<((sH h).length:Int):=by rw[em,iA];omega
  have a0:=yz c 9829 hc;have a1:=qA c 9829 hc;obtain⟨j,S⟩:∃j:Nat,HE c 9829 ((sH h).length:Int)=(j:Int):=⟨(HE c 9829 ((sH h).length:Int)).toNat,by omega⟩
  have U:j<(sH h).length:=by omega
  have hv:(sH h)[j]∈sH h:=iE _;obtain⟨d1,O⟩:=zWs H (by omega) C hv
  have Y:WA (.tup<|(sH h).map JB) (.int<|HE c 9829 ((sH h).length:Int))=some (JB (sH h)[j]):=by
   rw[S];exact oV (by simp[U])
  have z1:∀(ad:Addr)(s1 s2:Sl),b1 (gR 4) KH [.o (some ad)<|DC C h,s1,s2,.v<|.int c,.v<|.tup<|(sH h).map JB]=some (.int ((sH h).length:Int)):=λ_ _ _=>len
  have Z:∀(ad:Addr)(s1 s2:Sl),(λρ=>((zC (gV 3)<|zC (zN 9829)<|zC (b1 (gR 4) KH) zO) ρ).bind zP) [.o (some ad)<|DC C h,s1,s2,.v<|.int c,.v<|.tup<|(sH h).map JB]=some (.int<|HE c 9829 ((sH h).length:Int)):=
   λad s1 s2=>(congrArg (λo=>kG o zP)<|yS (a:=.int c) rfl<|yS (a:=.int 9829) rfl<|yS (z1 ad s1 s2) rfl).trans (AL (by decide) hc)
  refine⟨rO h (sH h)[j],O,(I.step hd hf H hv).1,pr.step I.len hv,λad s1 s2 s4=>⟨.v<|.tup<|(sH h).map JB,(zY<|Zu ad s1 s2 s4).trans<|AV ?_ ?_⟩⟩
  .show some (!((sH h).map JB).isEmpty)=some true;rw[em];rfl
  .exact Pb (ds:=[JB (sH h)[j]]) rfl (JZ C h) (yS (qK (a:=.tup<|(sH h).map JB) rfl (Z ad s1 s2) Y) rfl) d1
theorem zL9(hd:yD M ps)(hf:kK ps)(C:Addr):∀(cs:List Int)(k:Nat)(h:Hl),k+cs.length<=90->HOk k h->HJ M ps h->PR M h->∃k' h',k'<=90/\HOk k' h'/\HJ M ps h'/\PR M h'/\∀(ad:Addr)(s1 s2 s3 s4:Sl),∃xM S,zf (gN 3) (Kz C) (cs.map D.int) [.o (some ad)<|DC C h,s1,s2,s3,s4]=some (.nx [.o (some ad)<|DC C h',s1,s2,xM,S])
 | [],k,h,hk,H,I,pr=>⟨k,h,by simpa using hk,H,I,pr,λad s1 s2 s3 s4=>⟨s3,s4,rfl⟩⟩
 |c::cs,k,h,hk,H,I,pr=>by
  rw[iA]at hk;obtain⟨h',H',O,J,j⟩:=zRX hd hf H (by omega) I pr C c;obtain⟨k2,h2,U,H2,I2,p2,z⟩:=zL9 hd hf C cs (k+1) h' (by omega) H' O J;refine⟨k2,h2,U,H2,I2,p2,λad s1 s2 s3 s4=>?_⟩;obtain⟨Y,j⟩:=j ad s1 s2 s4;obtain⟨Z,u4,z⟩:=z ad s1 s2 (.v<|.int c) Y;exact⟨Z,u4,(qw rfl j).trans z⟩
theorem wZ(hd:yD M ps)(hf:kK ps)(C:Addr)(H:HOk 0 h)(I:HJ M ps h)(pr:PR M h)(ns:List Int)(S:ns.length<=63):∃k' h',k'<=90/\HOk k' h'/\HJ M ps h'/\PR M h'/\J8 C (DC C h) [.lst<|ns.map D.int,.int 5]=some (.tup<|h'.past.map JB,DC C h'):=by
 obtain⟨cs,e3,U,_⟩:=zTz D.int ns (some 5)<|some 45;obtain⟨k',h',lk,H',j,O,e⟩:=zL9 hd hf C cs 0 h (by omega) H I pr;refine⟨k',h',lk,H',j,O,yw λad=>?_⟩;obtain⟨s3,s4,e⟩:=e ad (.v<|.lst<|ns.map D.int) (.v<|.int 5) .un .un
 have z:G8 C [.o (some ad)<|DC C h,.v<|.lst<|ns.map D.int,.v<|.int 5,.un,.un]=some (.rm (.tup<|h'.past.map JB) [.o (some ad)<|DC C h',.v<|.lst<|ns.map D.int,.v<|.int 5,s3,s4]):=by
  refine(zY<|(JO (ds:=cs.map D.int) ?_).trans e).trans ?_
  .exists e3,WB,LD,XF,zQ,gN,gT,bE,mG,zf
  .unfold Sy;rw[bV (x:=DC C h') (ds:=[]) rfl (zUJ C h') rfl<|zRM C h'];rfl
 show(G8 C [.o (some ad)<|DC C h,.v<|.lst<|ns.map D.int,.v<|.int 5,.un,.un]).bind (Sz ad)=_;rw[z];simp only[cA,Sz,YN,UA,if_true,uA]
end K07
namespace K07
open PySem L2 RD LG K06 K12
theorem Ag(a b:Int):WB (.int a) (.int b)=some (.bl<|decide<|a=b):=by
 unfold WB;rw[if_pos<|by simp[QH]];unfold LD;rw[x4]
theorem zMn(d:Int)(v:Mv)(acc:List D)(j:acc.length<16000000)(s1:Sl):qk [.v<|.int d,s1,.l acc,.v<|.str<|ZK v.t,.v<|.int v.a,.v<|.int v.b,.v<|.str v.w]=some (.nx [.v<|.int d,s1,.l<|acc++(if K06.own d v=true then [JB v] else []),.v<|.str<|ZK v.t,.v<|.int v.a,.v<|.int v.b,.v<|.str v.w]):=by
 obtain⟨t,a,b,w⟩:=v;have k1:=LS (ZK t) "tell";have k2:=LS (ZK t) "hear";have I:=Ag a d;have i2:=Ag b d;have J:((fA "hear" : Str)==fA "tell")=false:=by decide +kernel
 have O:((fA "tell" : Str)==fA "hear")=false:=by decide +kernel
 cases t with
 |true=>
  simp only[ZK,if_true,beq_self_eq_true,O]at k1 k2
  by_cases c:a=d<;>simp only[c,decide_true,decide_false]at I<;>
   exists 0,qk,ZK,K06.own,JB,k1,k2,I,c,j,kB
 |false=>
  simp only[ZK,RA,if_false,beq_self_eq_true,J]at k1 k2
  by_cases c:b=d<;>simp only[c,decide_true,decide_false]at i2<;>
   exists 0,qk,ZK,K06.own,JB,k1,k2,i2,c,j,kB
theorem zHR(d:Int)(s1:Sl):∀(l:List Mv)(acc:List D)(s3 s4 s5 s6:Sl),acc.length+l.length<=10000->∃Y j U S,zf (gT 4<|bE (gN 3)<|bE (gN 4)<|bE (gN 5)<|bE (gN 6) mG) qk (l.map JB) [.v<|.int d,s1,.l acc,s3,s4,s5,s6]=some (.nx [.v<|.int d,s1,.l<|acc++(l.filter<|K06.own d).map JB,Y,j,U,S])
 | [],acc,s3,s4,s5,s6,_=>⟨s3,s4,s5,s6,by simp[zf]⟩
 |v::l,acc,s3,s4,s5,s6,hl=>by
  rw[iA]at hl;have t:=zMn d v acc (by omega) s1;obtain⟨z,I,J,O,e⟩:=zHR d s1 l (acc++(if K06.own d v=true then [JB v] else [])) (.v<|.str<|ZK v.t) (.v<|.int v.a) (.v<|.int v.b) (.v<|.str v.w) (by rw[rA];split<;>simp<;>omega);refine⟨z,I,J,O,?_⟩;rw[eA,qw rfl t,e,dB,EB];split<;>simp
theorem zRY(d:Int)(l:List Mv)(O:l.length<=9000):q8 [.int d,.tup<|l.map JB]=some (.lst<|(l.filter<|K06.own d).map JB):=by
 obtain⟨j,z,I,J,e⟩:=zHR d (.v<|.tup<|l.map JB) l [] .un .un .un .un (by simp;omega);show(d8 [.v<|.int d,.v<|.tup<|l.map JB,.un,.un,.un,.un,.un]).bind _=_
 have:d8 [.v<|.int d,.v<|.tup<|l.map JB,.un,.un,.un,.un,.un]=some (.rt<|.lst<|(l.filter<|K06.own d).map JB):=
  (zY (ρ':=[.v<|.int d,.v<|.tup<|l.map JB,.l [],.un,.un,.un,.un]) rfl).trans ((zY<|(JO (ds:=l.map JB) rfl).trans e).trans rfl)
 rw[this];rfl
theorem zWy(l:List Mv):EZ (.lst<|l.map JB) (.lst<|l.map JB)=some (.bl false):=by
 have dp:nK (l.map JB)<=2:=by
  induction l with
  |nil=>exact nC _
  |cons v l ih=>exact iQ.mpr ⟨WC rfl,ih⟩
 have j:XF (l.map JB) (l.map JB)=true:=by
  induction l with
  |nil=>simp[XF]
  |cons v l ih=>
   simp only[eA,XF,zWj,decide_true,ih (iQ.mp dp).2,VL]
 unfold EZ;rw[if_pos (by simp only[QH];omega)];unfold LD;rw[j];rfl
theorem zMB:∀{ch:List (Str×Int)},qV (ch.map (·.1))->(w,z)∈ch->ch.filter (λq=>decide<|q.1=w)=[(w,z)]
 | [],_,h=>nomatch h
 |q::ch,r,h=>by
  rw[eA]at r;obtain⟨r1,r2⟩:=NA.mp r;rw[dB];rcases nA.mp h with rfl|h
  .rw[if_pos (by simp),VE.mpr λq' j=>by
    have:=(r1 q'.1<|PB j).ne;simp only[decide_eq_true_eq]
    exactλz=>this z.symm]
  .have:q.1≠w:=(r1 w<|OA.mpr ⟨_,h,rfl⟩).ne;rw[if_neg<|by simpa using this];exact zMB r2 h
theorem zWz{f:dC}(h:f ρ=some (.tup ds)):iT f ρ=some ds:=by unfold iT;rw[h];rfl
theorem zHS{ps:List Pl}(h:yD m ps)(s1:Sl):∀(ws:List Str)(n y:Int)(s3 s4 s5:Sl),0<=n->n<(ps.length:Int)->hJ ps (λ_=>false) n ws y->∃xM S vN,
  zf (gN 3) Kq (ws.map D.str) [.v<|xB m ps,s1,.v<|.int n,s3,s4,s5]=some (.nx [.v<|xB m ps,s1,.v<|.int y,xM,S,vN])
 | [],n,y,s3,s4,s5,_,_,w=>by cases w;exact⟨s3,s4,s5,rfl⟩
 |w::ws,n,y,s3,s4,s5,h0,h1,⟨_,p,z,hp,j,k⟩=>by
  obtain⟨p',O,Y,Z⟩:=bT h0 h1;rw[Y]at hp;cases hp;have ok:=h.ok p O;have J:=ok.next j
  cases p with
  |fin=>cases j
  |tell a b ch=>
   have j:(w,z)∈ch:=j;have rs:qV (ch.map (·.1)):=ok.rise;have few:ch.length<=3:=ok.few;have U:WA (xB m ps) (.int 1)=some (.tup<|ps.map TB):=by simp only[xB,WA,UJ]
   have e5:WA (.tup<|ps.map TB) (.int n)=some (TB<|.tell a b ch):=by simp only[WA,Z]
   have I:=zw (g:=gN 6) (p:=vn) (f:=vp) (emb:=aE) (ρ:=[.v<|xB m ps,s1,.v<|.int n,.v<|.str w,.v<|TB<|.tell a b ch,s5,.un]) (λq=>decide<|q.1=w) (λq=>D.int q.2) ch λq _=>by
    refine⟨[.v<|xB m ps,s1,.v<|.int n,.v<|.str w,.v<|TB<|.tell a b ch,s5,.v<|aE q],rfl,kX (qK (qK (a:=aE q) (b:=.int 0) (r:=some<|.str q.1) rfl rfl<|by simp only[aE,WA,DH]) (b:=.str w) rfl ?_),λ_=>qK (a:=aE q) (b:=.int 1) rfl rfl<|by simp only[aE,WA,UJ]⟩;rw[LS,PD]
   rw[zMB rs j]at I;obtain⟨t3,t4,t5,ih⟩:=zHS h s1 ws z y (.v<|.str w) (.v<|TB<|.tell a b ch) (.v<|.lst [.int z]) J.1 J.2 k;have ad:qI (TB<|.tell a b ch) (.tup [.tup [],.tup [],.tup []])=some (.tup [.str "tell",.int a,.int b,.tup<|ch.map aE,.tup [],.tup [],.tup []]):=by simp[qI,TB]
   refine⟨t3,t4,t5,?_⟩
   have tb:Kq [.v<|xB m ps,s1,.v<|.int n,.v<|.str w,s4,s5]=some (.nx [.v<|xB m ps,s1,.v<|.int z,.v<|.str w,.v<|TB<|.tell a b ch,.v<|.lst [.int z]]):=
    (zY<|yc<|qK (qK (a:=xB m ps) (b:=.int 1) rfl rfl U) (b:=.int n) rfl e5).trans ((zY<|yc (d:=.lst [.int z])<|congrArg (uE D.lst)<|i9 (zWz<|qK (qK (a:=TB<|.tell a b ch) (b:=.tup [.tup [],.tup [],.tup []]) rfl rfl ad) (b:=.int 3) rfl (r:=some<|.tup<|ch.map aE)<|by simp only[WA,gW]) (by rw[kA];omega) I).trans<|(zY<|fT rfl rfl).trans<|(yc (d:=.int z)<|qK (a:=.lst [.int z]) (b:=.int 0) rfl rfl<|by simp only[WA,DH]).trans rfl)
   rw[eA,qw (g:=gN 3) (ρ1:=[.v<|xB m ps,s1,.v<|.int n,.v<|.str w,s4,s5]) rfl tb,ih]
theorem zUW(h:yD m ps){ws:List Str}(k:hJ ps (λ_=>false) 0 ws y):C3 [xB m ps,.tup<|ws.map D.str]=some (.int y):=by
 obtain⟨a,b,c,e⟩:=zHS h (.v<|.tup<|ws.map D.str) ws 0 y .un .un .un (by decide) (by have:=h.n0;omega) k
 have j:E8 [.v<|xB m ps,.v<|.tup<|ws.map D.str,.un,.un,.un,.un]=some (.rt<|.int y):=
  (zY (ρ':=[.v<|xB m ps,.v<|.tup<|ws.map D.str,.v<|.int 0,.un,.un,.un]) rfl).trans ((zY<|(JO (ds:=ws.map D.str) rfl).trans e).trans rfl)
 show(E8 [.v<|xB m ps,.v<|.tup<|ws.map D.str,.un,.un,.un,.un]).bind _=_;rw[j];rfl
theorem zSL{xs:List D}{T:dC}{ρ:mB}(h1:EN ρ i=some (.int a))(h2:EN ρ 1=some (.int d))(h3:gL ρ 3=some xs)(j:xs.length<16000000)(z:T ρ=some t)(I:ρ[3]?=some (.l xs)):
  QF (bB<|b2 (gR i) (gR 1) WB) (aK 3 T) (λρ=>some<|Out.nx ρ) ρ=some (.nx<|ρ.set 3<|.l<|xs++if a=d then [t] else []):=by
 have e:=Ag a d;by_cases c:a=d
 .rw[decide_eq_true c]at e;rw[if_pos c];exact AV (kX<|qK h1 h2 e)<|zSJ h3 j z
 .rw[decide_eq_false c]at e;rw[if_neg c,kB];refine fT (kX<|qK h1 h2 e) ?_;obtain⟨HI,he⟩:=BA.mp I;rw[<- he,List.set_getElem_self]
theorem zPk{ps:List Pl}(h:yD m ps)(d:Int)(s2:Sl):∀(ws:List Str)(n y:Int)(acc:List Mv)(s5 s6 s7 s8 s9:Sl),0<=n->n<(ps.length:Int)->hJ ps (λ_=>false) n ws y->acc.length+2*ws.length<=1000000->∃vN Y vI S j0,
  zf (gN 5) Ju (ws.map D.str) [.v<|xB m ps,.v<|.int d,s2,.l<|acc.map JB,.v<|.int n,s5,s6,s7,s8,s9]=some (.nx [.v<|xB m ps,.v<|.int d,s2,.l<|(acc++dds ps d n ws).map JB,.v<|.int y,vN,Y,vI,S,j0])
 | [],n,y,acc,s5,s6,s7,s8,s9,_,_,w,_=>by cases w;exact⟨s5,s6,s7,s8,s9,by simp[zf,dds]⟩
 |w::ws,n,y,acc,s5,s6,s7,s8,s9,h0,h1,⟨_,p,z,hp,I,k⟩,hl=>by
  rw[iA]at hl;obtain⟨p',U,J,e2⟩:=bT h0 h1;rw[J]at hp;cases hp;have ok:=h.ok p U;have O:=ok.next I
  cases p with
  |fin=>cases I
  |tell a b ch=>
   have I:(w,z)∈ch:=I;have rs:qV (ch.map (·.1)):=ok.rise;have few:ch.length<=3:=ok.few;have e0:WA (xB m ps) (.int 1)=some (.tup<|ps.map TB):=by simp only[xB,WA,UJ]
   have e5:WA (.tup<|ps.map TB) (.int n)=some (TB<|.tell a b ch):=by simp only[WA,e2]
   have e6:GQ (.tup<|ch.map aE)=some (ch.map kv):=Qn rs (by omega);have e7:wJ (ch.map kv) (.inr w)=some (.int z):=by rw[Ae,M9 rs I];rfl
   have t1:=zSL (i:=7) (a:=a) (d:=d) (xs:=acc.map JB) (t:=JB ⟨true,a,b,w⟩) (T:=λρ=>((zC (λ_=>some<|D.str "tell")<|zC (gV 7)<|zC (gV 8)<|zC (gV 5) zO) ρ).map D.tup) (ρ:=[.v<|xB m ps,.v<|.int d,s2,.l<|acc.map JB,.v<|.int n,.v<|.str w,.v<|.str "tell",.v<|.int a,.v<|.int b,.v<|.tup<|ch.map aE]) rfl rfl rfl (by rw[kA];omega) rfl rfl;have t2:=zSL (i:=8) (a:=b) (d:=d) (xs:=acc.map JB++if a=d then [JB ⟨true,a,b,w⟩] else []) (t:=JB ⟨false,a,b,w⟩) (T:=λρ=>((zC (λ_=>some<|D.str "hear")<|zC (gV 7)<|zC (gV 8)<|zC (gV 5) zO) ρ).map D.tup) (ρ:=[.v<|xB m ps,.v<|.int d,s2,.l<|acc.map JB++if a=d then [JB ⟨true,a,b,w⟩] else [],.v<|.int n,.v<|.str w,.v<|.str "tell",.v<|.int a,.v<|.int b,.v<|.tup<|ch.map aE]) rfl rfl rfl (by rw[rA,kA];split<;>simp<;>omega) rfl rfl
   have ea:acc.map JB++(if a=d then [JB ⟨true,a,b,w⟩] else [])++(if b=d then [JB ⟨false,a,b,w⟩] else [])=(acc++((if a=d then [(⟨true,a,b,w⟩:Mv)] else [])++(if b=d then [(⟨false,a,b,w⟩:Mv)] else []))).map JB:=by
    by_cases c:a=d<;>by_cases Z:b=d<;>simp[c,Z]
   have t3:bU (gV 9) (gV 5) [.v<|xB m ps,.v<|.int d,s2,.l<|acc.map JB++(if a=d then [JB ⟨true,a,b,w⟩] else [])++(if b=d then [JB ⟨false,a,b,w⟩] else []),.v<|.int n,.v<|.str w,.v<|.str "tell",.v<|.int a,.v<|.int b,.v<|.tup<|ch.map aE]=some (.int z):=by
    show(GQ<|.tup<|ch.map aE).bind _=_;rw[e6];exact e7
   have tb:Ju [.v<|xB m ps,.v<|.int d,s2,.l<|acc.map JB,.v<|.int n,.v<|.str w,s6,s7,s8,s9]=some (.nx [.v<|xB m ps,.v<|.int d,s2,.l<|(acc++((if a=d then [(⟨true,a,b,w⟩:Mv)] else [])++(if b=d then [(⟨false,a,b,w⟩:Mv)] else []))).map JB,.v<|.int z,.v<|.str w,.v<|.str "tell",.v<|.int a,.v<|.int b,.v<|.tup<|ch.map aE]):=by
    rw[<- ea];exact(zY<|zR9 (d:=TB<|.tell a b ch) (qK (qK (a:=xB m ps) (b:=.int 1) rfl rfl e0) (b:=.int n) rfl e5) rfl).trans ((zY t1).trans<|(zY t2).trans<|(yc t3).trans rfl)
   obtain⟨u5,u6,u7,u8,u9,ih⟩:=zPk h d s2 ws z y (acc++((if a=d then [(⟨true,a,b,w⟩:Mv)] else [])++(if b=d then [(⟨false,a,b,w⟩:Mv)] else []))) (.v<|.str w) (.v<|.str "tell") (.v<|.int a) (.v<|.int b) (.v<|.tup<|ch.map aE) O.1 O.2 k (by rw[rA,rA];split<;>split<;>simp<;>omega);refine⟨u5,u6,u7,u8,u9,?_⟩;rw[eA,qw (g:=gN 5) (ρ1:=[.v<|xB m ps,.v<|.int d,s2,.l<|acc.map JB,.v<|.int n,.v<|.str w,s6,s7,s8,s9]) rfl tb,ih,Pd h J I];simp only[EB]
theorem Gu(h:yD m ps)(d:Int){ws:List Str}(k:hJ ps (λ_=>false) 0 ws y)(z:ws.length<=100000):V2 [xB m ps,.int d,.tup<|ws.map D.str]=some (.lst<|(dds ps d 0 ws).map JB):=by
 obtain⟨s5,s6,s7,s8,s9,e⟩:=zPk h d (.v<|.tup<|ws.map D.str) ws 0 y [] .un .un .un .un .un (by decide) (by have:=h.n0;omega) k (by simp;omega);rw[DB]at e
 have j:i8 [.v<|xB m ps,.v<|.int d,.v<|.tup<|ws.map D.str,.un,.un,.un,.un,.un,.un,.un]=some (.rt<|.lst<|(dds ps d 0 ws).map JB):=
  (zY (ρ':=[.v<|xB m ps,.v<|.int d,.v<|.tup<|ws.map D.str,.l<|([]:List Mv).map JB,.un,.un,.un,.un,.un,.un]) rfl).trans ((zY (ρ':=[.v<|xB m ps,.v<|.int d,.v<|.tup<|ws.map D.str,.l<|([]:List Mv).map JB,.v<|.int 0,.un,.un,.un,.un,.un]) rfl).trans<|(zY<|(JO (ds:=ws.map D.str) rfl).trans e).trans rfl)
 show(i8 [.v<|xB m ps,.v<|.int d,.v<|.tup<|ws.map D.str,.un,.un,.un,.un,.un,.un,.un]).bind _=_;rw[j];rfl
end K07
namespace K07
open PySem L2 RD LG K06 K12
theorem cut_take(xs:List D)(n:Nat):zr xs none (some (n:Int))=xs.take n:=by
 have h:¬ ((n:Int)<0):=by omega
 unfold zr HT.MD;simp only[h,if_false,JC,o6,NH];by_cases c:n<=xs.length
 .rw[FK c]
 .rw[Nat.min_eq_right<|by omega,pF,KM<|by omega]
theorem zW0{j:Type}{f:dC}{ol oh:mB->Option (Option Int)}{op:D->Option Int->Option Int->Option j}{l h:Option Int}{r:Option j}(h1:f ρ=some x)(h2:ol ρ=some l)(h3:oh ρ=some h)(z:op x l h=r):VJ f ol oh op ρ=r:=by unfold VJ;rw[h1,cA,h2,cA,h3,cA,z]
theorem zMo{m:Int}{ps:List Pl}(hd:yD m ps){ws:List Str}{y:Int}(k:hJ ps (λ_=>false) 0 ws y)(j:ws.length<=100000){past:List Mv}(hp:past.length<=900){d:Int}(I:JH d past <+: dds ps d 0 ws)(C:Addr)(s0 s2 s6:Sl):
  Qp C [s0,.v<|xB m ps,s2,.v<|.tup<|past.map JB,.v<|.tup<|ws.map D.str,.v<|.int d,s6]=some (.nx [s0,.v<|xB m ps,s2,.v<|.tup<|past.map JB,.v<|.tup<|ws.map D.str,.v<|.int d,.v<|.lst<|(JH d past).map JB]):=by
 have md:q8 [.int d,.tup<|past.map JB]=some (.lst<|(JH d past).map JB):=zRY d past (by omega);have z:=Gu hd d k j;refine(zY<|yc<|(congrArg (λo=>kG o q8)<|yS (a:=.int d) rfl<|yS (a:=.tup<|past.map JB) rfl rfl).trans md).trans (fT (kX<|qK (a:=.lst<|(JH d past).map JB) (b:=.lst<|(JH d past).map JB) (congrArg (uE D.lst)<|zW0 (r:=some<|(JH d past).map JB) (x:=.lst<|(dds ps d 0 ws).map JB) (l:=none) (h:=some ((JH d past).length:Int)) ((congrArg (λo=>kG o V2)<|yS (a:=xB m ps) rfl<|yS (a:=.int d) rfl<|yS (a:=.tup<|ws.map D.str) rfl rfl).trans z) rfl ?_ ?_) rfl<|zWy _) rfl)
 .show(KH<|.lst<|(JH d past).map JB).bind _=_;simp only[KH,kA,cA];rfl
 .show some (zr ((dds ps d 0 ws).map JB) none<|some ((JH d past).length:Int))=_;rw[cut_take,<- UV,<- List.prefix_iff_eq_take.mp I]
theorem zPl(hd:yD m ps){ws:List Str}(k:hJ ps (λ_=>false) 0 ws y)(z:ws.length<=100000){past:List Mv}(hp:past.length<=900)(I:∀d:Nat,(d:Int)<m->JH d past <+: dds ps d 0 ws)(C:Addr)(s0 s2:Sl):∀(is:List Nat)(s5 s6:Sl),(∀i∈is,(i:Int)<m) ->
  ∃Y J,zf (gN 5) (Qp C) (is.map λ(i:Nat)=>D.int<|0+(i:Int)) [s0,.v<|xB m ps,s2,.v<|.tup<|past.map JB,.v<|.tup<|ws.map D.str,s5,s6]=some (.nx [s0,.v<|xB m ps,s2,.v<|.tup<|past.map JB,.v<|.tup<|ws.map D.str,Y,J])
 | [],s5,s6,_=>⟨s5,s6,rfl⟩
 |i::is,s5,s6,h=>by
  have e:=zMo hd k z hp (I i<|h i lA) C s0 s2 s6;obtain⟨S,U,ih⟩:=zPl hd k z hp I C s0 s2 is (.v<|.int i) (.v<|.lst<|(JH i past).map JB) λj O=>h j<|dA _ O
  exact⟨S,U,by rw[eA,ZF,qw rfl e,ih]⟩
theorem zRZ{fl:pD}{F:Ob->List D->Option (D×Ob)}{ρ:mB}(h1:ρ[i]?=some (.o c x))(h2:fl ρ=some ds)(h3:F x ds=some (d,x')):V4 i j fl F ρ=some (.nx<|(ρ.set i<|.o c x').set j<|.v d):=by
 unfold V4;rw[h1];simp only[h2,cA,h3,uA]
theorem dY{f:dC}{op:D->Option D}(h1:f ρ=some a)(h2:op a=some d):b1 f op ρ=some d:=by unfold b1;rw[h1,cA,h2]
theorem zUX(ws:List Str):(ws.map λ_:Str=>true).all id=true:=by simp
theorem rest(hd:yD m ps)(hf:kK ps)(C:Addr)(ns:List Int)(U:ns.length<=63):zPb C [.v<|.lst<|ns.map D.int,.v<|xB m ps,.un,.un,.un,.un,.un]=some (.rt<|.bl true):=by
 have Wt:=hd.m0;have d7:=hd.m1;rcases zRR hd hf C with e|⟨P,z,e⟩
 .exact(zY<|o9 (ds:=[xB m ps]) rfl e).trans (zWF rfl)
 .obtain⟨H0,lP⟩:=zRQ hd hf z;obtain⟨k',h,lk,H,I,pr,er⟩:=wZ hd hf C H0 (HJ.zero hd z) (λv hv=>by simp[QL]at hv) ns U;have pl:=H.pl;obtain⟨ws,y,S,w1,w2,w3,w4⟩:=xZ hd hf I pr (by omega);obtain⟨s5,s6,O⟩:=zPl hd w1 w3 (past:=h.past) (by omega) w4 C (.v<|.lst<|ns.map D.int) (.o none<|DC C h) (JA m.toNat) .un .un λi hi=>by have:=gC.mp hi;omega
  have J:WA (xB m ps) (.int 0)=some (.int m):=by simp only[xB,WA,DH]
  have rg:QK (zC (b2 (gR 1) (zN 0) WA) zO) [.v<|.lst<|ns.map D.int,.v<|xB m ps,.o none<|DC C h,.v<|.tup<|h.past.map JB,.v<|.tup<|ws.map D.str,.un,.un]=some (rng 0 m.toNat):=by
   refine pV ?_ (by omega);rw[show((m.toNat:Nat):Int)=m by omega];exact yS (qK (a:=xB m ps) (b:=.int 0) rfl rfl J) rfl
  have r3:zPW C [.v<|.lst<|ns.map D.int,.v<|xB m ps,.o none<|DC C h,.v<|.tup<|h.past.map JB,.v<|.tup<|ws.map D.str,.un,.un]=some (.rt<|.bl true):=(zY<|(JO rg).trans O).trans rfl
  have r4:zPX C [.v<|.lst<|ns.map D.int,.v<|xB m ps,.o none<|DC C h,.v<|.tup<|h.past.map JB,.v<|.tup<|ws.map D.str,.un,.un]=some (.rt<|.bl true):=
   (zY<|fT (kX<|qK (a:=.int y) (b:=.non) ((congrArg (λo=>kG o C3)<|yS (a:=xB m ps) rfl<|yS (a:=.tup<|ws.map D.str) rfl rfl).trans<|zUW hd w1) rfl rfl) rfl).trans r3
  have j:=zw (g:=gN 7) (p:=λ_=>some true) (f:=zPV C) (emb:=D.str) (ρ:=[.v<|.lst<|ns.map D.int,.v<|xB m ps,.o none<|DC C h,.v<|.tup<|h.past.map JB,.v<|.tup<|ws.map D.str,.un,.un,.un]) (λ_=>true) (λ_=>D.bl true) ws λw _=>⟨[.v<|.lst<|ns.map D.int,.v<|xB m ps,.o none<|DC C h,.v<|.tup<|h.past.map JB,.v<|.tup<|ws.map D.str,.un,.un,.v<|.str w],rfl,rfl,λ_=>rfl⟩
  rw[AC.mpr<|by simp]at j;have Y:((ws.map λ_=>true).map D.bl)=ws.map λ_=>D.bl true:=by rw[vB];rfl
  rw[<- Y]at j;have Z:ws.length<=1000000:=by omega
  have r5:zPY C [.v<|.lst<|ns.map D.int,.v<|xB m ps,.o none<|DC C h,.v<|.tup<|h.past.map JB,.v<|.tup<|ws.map D.str,.un,.un]=some (.rt<|.bl true):=(zY<|fT (by
   unfold P6 aP RL;rw[show b1 (gR 4) (EV "tuple") [.v<|.lst<|ns.map D.int,.v<|xB m ps,.o none<|DC C h,.v<|.tup<|h.past.map JB,.v<|.tup<|ws.map D.str,.un,.un]=some (.bl true) from rfl,dY (d:=.bl true) (congrArg (uE D.lst)<|i9 (zWz rfl) (by rw[kA];exact Z) j)<|by simp only[Bd,M3,uA,zUX]];rfl) rfl).trans r4
  have r6:zPZ C [.v<|.lst<|ns.map D.int,.v<|xB m ps,.o none<|DC C h,.v<|.tup<|h.past.map JB,.un,.un,.un]=some (.rt<|.bl true):=
   (zY<|yc<|(congrArg (λo=>kG o P3)<|yS (a:=xB m ps) rfl<|yS (a:=.tup<|h.past.map JB) rfl rfl).trans S).trans r5
  have r7:zPa C [.v<|.lst<|ns.map D.int,.v<|xB m ps,.o none<|DC C<|QL P,.un,.un,.un,.un]=some (.rt<|.bl true):=by
   refine(zY (ρ':=[.v<|.lst<|ns.map D.int,.v<|xB m ps,.o none<|DC C h,.v<|.tup<|h.past.map JB,.un,.un,.un]) ?_).trans r6;refine(zRZ (c:=none) (x:=DC C<|QL P) (ds:=[.lst<|ns.map D.int,.int 5]) rfl (yS (a:=.lst<|ns.map D.int) rfl<|yS (a:=.int 5) rfl rfl) er).trans rfl
  exact(zY<|o9 (ds:=[xB m ps]) rfl e).trans ((zY rfl).trans r7)
theorem zPm(e h:Int):∀(ps:List Pl)(k:Nat)(p:Pl),II e h ((ps.set k p).map TB)<=II e h (ps.map TB)+(WF p).length
 | [],k,p=>by simp[II]
 |q::ps,0,p=>by
  rw[FD,eA,eA,II,II]
  have:aU e h (TB p)<=(WF p).length:=by
   cases p with
   |fin=>exact nC _
   |tell a b ch=>
    exact QA (lJ X4)<|QA (Nat.mul_le_mul_left _<|Tf e h a b)<|lJ<|Nat.mul_one _
  omega
 |q::ps,k+1,p=>by
  have:=zPm e h ps k p;rw[LI,eA,eA,II,II];omega
theorem law_is(C:Addr)(ns:List Int)(O:ns.length<=63):vZ C [.lst<|ns.map D.int]=some (.bl true):=by
 obtain⟨m,AW,U,h0,_,I⟩:=zQ1 ns;have S:z7 [.lst<|ns.map D.int,.int 4]=some (.int<|ns.getD 4 0):=Rq (by decide);have s1:qC 1 (λρ=>((zC (gV 0) zO) ρ).bind qv) [.v<|.lst<|ns.map D.int,.un,.un,.un,.un,.un,.un]=some (.nx [.v<|.lst<|ns.map D.int,.v<|xB m AW,.un,.un,.un,.un,.un]):=(yc U).trans rfl;show(Ax C [.v<|.lst<|ns.map D.int,.un,.un,.un,.un,.un,.un]).bind _=_;unfold Ax;rw[zY s1];have j:=Ag (ns.getD 4 0%3) 0;by_cases J:ns.getD 4 0%3=0
 .obtain⟨ps,h,_,⟨k,p,rfl,hp⟩,Y⟩:=zOl h0<|ns.getD 4 0/3;have hf:kK (AW.set k p):=λe h=>QA (zPm e h AW k p) (by have:=I e h;omega)
  rw[decide_eq_true J]at j;rw[zY (ρ':=[.v<|.lst<|ns.map D.int,.v<|xB m<|AW.set k p,.un,.un,.un,.un,.un]),rest h hf C ns O]
  .rfl
  .exists 0,S,j,Y,WA
 .have hf:kK AW:=λe h=>QA (I e h) (by decide)
  rw[decide_eq_false J]at j;rw[zY (ρ':=[.v<|.lst<|ns.map D.int,.v<|xB m AW,.un,.un,.un,.un,.un]),rest h0 hf C ns O]
  .rfl
  .exists 0,S,j,WA
end K07
namespace K07
open PySem PySem.Spec PyProof.Rows L2 RD LG
local macro_rules|`(⋯)=>`(by kernel_rfl)
local macro_rules|`(∅)=>`($(Lean.mkIdent `hr).mono (by decide))
local macro_rules|`(tactic|left)=>`(tactic|kernel_rfl)
local macro_rules|`(tactic|right)=>`(tactic|exact ⟨rfl,rfl,rfl,by decide +kernel,rfl,by decide +kernel,by decide +kernel⟩)
structure Cl(K:Fg)(mg:NE)(C:Addr)(κ:Nat->Addr):Prop where
 hK:fJ K C
 GC:qT K C "parts"
 DF:qT K C "at"
 YC:qT K C "rows"
 iD:qT K C "past"
 rC:IV K (κ 0)
 sC:mg "NoPart" = some (.ref<|κ 0)
section
variable {P:Program}{w:World}{K:Fg}{mg:NE}{base:Heap}{κ:Nat->Addr}{C:Addr}
abbrev TD(P:Program)(w:World)(K:Fg)(mg:NE)(base:Heap)(k:Nat)(N:List Str)(q:Str)(st:Stmt)(F:VB):Prop:=∀{fa:Addr}(kC:Value)(A:Around)(outer:List Env)(s:Shared)(H:Hp),IF k (A.deeper<|envOfC q (zI st) s.heap.objs.size fa kC)->XI (xK CH P w K mg base N q (zI st) fa kC A outer s H E0).nox (yC st) F
abbrev TX(P:Program)(w:World)(K:Fg)(mg:NE)(base:Heap)(κ:Nat->Addr)(k:Nat)(N:List Str)(q:Str)(st:Stmt)(F:mB->Option YF):Prop:=∀{fa:Addr}(kC:Value)(A:Around)(outer:List Env)(s:Shared)(H:Hp)(E:XK),IF k (A.deeper<|envOfC q (zI st) s.heap.objs.size fa kC)->fP (YD P w K mg base N q (zI st) fa kC A outer s H E) κ E (yC st) F
theorem zMp:zT Mn ["_law_cell_here","_law_prime","_law_many"] (zI Mq):=by right
theorem zPn(z:Bl mg)(j:Cl K mg C κ):TD P w K mg base 0 Mn "_law_mix" Mq Mo:=by
 intro fa I A outer s H hr;exact(zJ<|zn<|zZ DO (zE<|zZ DO (zE<|zZ jV (zB 0<|pv 0)<|zE zF)<|zB 1<|pv 1)<|zB 2<|pv 2)
theorem zKm:zT Lq ["_law_script","_law_k"] (zI Kr):=by right
theorem zMq(j:Bl mg)(I:Cl K mg C κ):TD P w K mg base 0 Lq "_law_cell" Kr v8:=by
 intro fa J A outer s H hr;exact(zH (yu (yF (zRu) (zB 1<|pv 1) (zE<|zk zj (gl ⋯) j.len nB<|zB 0<|pv 0)<|zi _) (zJ<|zn<|zS (zB 0<|pv 0)<|zB 1<|pv 1) z9)<|zJ<|zn zF)
theorem zGo:zT Jz ["_law_cell_here","_law_many"] (zI Jv):=by right
theorem zIN(z:Bl mg)(j:Cl K mg C κ):TD P w K mg base 0 Jz "_law_is_late" Jv Z7:=by
 intro fa I A outer s H hr;have hu:=aL hr;exact(zJ<|zn<|XW (DQ (yK hu) (zE<|zZ DO (zB 0<|pv 0)<|zE zF) (zE zF)<|zi _)<|WW<|DQ (NS) (zB 1<|pv 1) (zE zF)<|zi _)
theorem jk:zT Jf ["_law_start","_law_goals","_law_one","_law_others","_law_words"] (zI Jc):=by right
theorem zGU(I:Bl mg)(J:Cl K mg C κ):TD P w K mg base 0 Jf "_law_told_late" Jc jx:=by
 intro fa O A outer s H hr;have hu:=aL hr;have j:=jk.nd;exact(zH (qJ 5 (yp zG) j ⋯ (.inl ⋯))<|zH (qJ 6 (yp zG) j ⋯ (.inl ⋯))<|zH (za 7 (zk zj (gl ⋯) I.len nB<|zB 3<|pv 3) j ⋯ (.inl ⋯))<|zH (qm PassesOwn.never rfl (Pr (gl ⋯) I.enumerate<|zD 4<|pv 4) (KP rfl<|zh (zR 8 j ⋯ (.inl ⋯) (.inl rfl))<|zh (zR 9 j ⋯ (.inl ⋯) (.inl rfl)) GP)<|zH (za 10 (zZ zW (zE<|zZ zW (zB 0<|pv 0)<|zE zF)<|zE<|zZ jV (zB 8<|pv 8)<|zB 7<|pv 7) j ⋯ (.inl ⋯))<|zH (yL 6 (pv 6)<|zV<|zA (zD 9<|pv 9)<|zA (zD 10<|pv 10) zG)<|zH (yL 5 (pv 5)<|zV<|zA z8<|zA (zD 2<|pv 2)<|zA (zS (zB 3<|pv 3)<|zE zF)<|zA (zV<|zA (zV<|zA (zS (zB 4<|pv 4)<|zE zF)<|zA (zZ zW (zB 10<|pv 10)<|zE zF) zG) zG) zG)<|zJ<|qm PassesOwn.never rfl (zNn (gl ⋯) I.range<|zA zF<|zA (zD 7<|pv 7) zG) (zR 11 j ⋯ (.inl ⋯) (.inl rfl))<|zH (za 12 (zS (zE<|zg<|yp<|zA (zZ zW (zE<|zZ zW (zB 10<|pv 10)<|zB 11<|pv 11)<|zE zF)<|zA (zS (zB 1<|pv 1)<|zB 8<|pv 8) zG)<|zE<|yJ Na (gl ⋯) I.int Ao<|zE<|DQ (yK hu) (zB 11<|pv 11) (zE<|zZ HP (zB 7<|pv 7)<|zE zF)<|zi _) j ⋯ (.inl ⋯))<|zJ<|yL 5 (pv 5)<|zV<|zA z8<|zA (zS (zB 3<|pv 3)<|zE zF)<|zA (zS (zB 3<|pv 3)<|zB 11<|pv 11)<|zA (zV<|zA (zV<|zA (zD 9<|pv 9)<|zA (zD 12<|pv 12) zG) zG) zG)<|zJ<|zn<|zg<|S4 (zE<|zg<|yp<|zA (zV<|zA z8<|zA (zD 2<|pv 2)<|zA (zS (zB 3<|pv 3)<|zE zF)<|zA (yJ ym (gl ⋯) I.tuple qr<|zB 6<|pv 6) zG) zG)<|zB 5<|pv 5)
theorem xv:zT Lr ["_law_cell_here","_law_j"] (zI Lb):=by right
theorem zMr(I:zv P w K mg base 1 "_law_mix" 3 zP)(O:Bl mg)(U:Cl K mg C κ):TD P w K mg base 1 Lr "_law_word" Lb Ls:=by
 intro fa Y A outer s H hr;have j:=xv.nd;exact(zH (za 2 z8 j ⋯ (.inr ⋯))<|zH (za 3 (zS (zB 2<|pv 2)<|zE<|zZ DO (zE<|zZ zW (zE<|zK I ∅ ⋯ rfl (zA (zD 0<|pv 0)<|zA zF<|zA zF zG))<|zE<|zZ jV (zE zF)<|zB 1<|pv 1)<|zE zF) j ⋯ (.inl ⋯))<|zH (za 4 (zS3<|zE<|zg<|GO (nm:=["_law_k"]) (m:=1) rfl rfl ⋯ ⋯ (yv (gl ⋯) O.range<|zA (zK I ∅ ⋯ rfl (zA (zD 0<|pv 0)<|zA zF<|zA zF zG)) zG) (yB<|show 6<=6 by decide) (λC J S ex=>(zR 6 (yV (nm:=["_law_k"]) ⋯) ⋯ (.inl ⋯) (.inr ⋯))) (λC J S ex=>.inl ⟨rfl,rfl⟩) (λC J S ex=>(zS (zB 2<|pv 2)<|zE<|zK I ∅ ⋯ rfl (zA (zZ zW (zB 0<|pv 0)<|zE<|zZ jV (zE zF)<|zB 6<|pv 6)<|zA zF<|zA zF zG)))) j ⋯ (.inl ⋯))<|zH (za 5 (zK I ∅ ⋯ rfl (zA (zD 0<|pv 0)<|zA zF<|zA (zZ zW (zE<|zk zj (gl ⋯) O.len nB<|zB 4<|pv 4)<|zE zF) zG)) j ⋯ (.inl ⋯))<|zJ<|zn<|zZ zW (zE<|zZ zW (zE<|qP (zB 4<|pv 4) qp<|qR<|zD 5<|pv 5)<|zB 3<|pv 3)<|zE<|qP (zB 4<|pv 4) (qR<|zD 5<|pv 5) qp)
theorem jw:zT Ka ["_law_cell_here","_law_start","_law_many","_law_goals"] (zI Jw):=by right
theorem zIO(U:zv P w K mg base 1 "_law_mix" 3 zP)(Z:zv P w K mg base 1 "_law_is_late" 2 yR)(vF:zv P w K mg base 1 "_law_told_late" 5 yx)(pE:zv P w K mg base 2 "_law_word" 2 yI)(O:Bl mg)(OC:Cl K mg C κ):TD P w K mg base 2 Ka "_law_told_on" Jw vg:=by
 intro fa kC A outer s H hr;have j:=jw.nd;exact(zH (za 4 (zK U ∅ ⋯ rfl (zA (zD 0<|pv 0)<|zA zF<|zA (zD 2<|pv 2) zG)) j ⋯ (.inr ⋯))<|zH (r8 5 (nm:=["_law_k"]) (m:=1) rfl rfl ⋯ ⋯ (yv (gl ⋯) O.range<|zA (zZ HP (zB 2<|pv 2)<|zE zF) zG) (yB<|show 13<=13 by decide) (λC I J ex=>(zR 13 (yV (nm:=["_law_k"]) ⋯) ⋯ (.inl ⋯) (.inr ⋯))) (λC I J ex=>.inl ⟨rfl,rfl⟩) (λC I J ex=>(zZ DO (zE<|zZ zW (zE<|zZ zW (zB 4<|pv 4)<|zE zF)<|zE<|zZ DO (zE<|zZ zW (zB 13<|pv 13)<|zE<|zK U ∅ ⋯ rfl (zA (zD 0<|pv 0)<|zA zF<|zA (zZ HP (zB 2<|pv 2)<|zE zF) zG))<|zE<|zZ HP (zB 2<|pv 2)<|zE zF)<|zB 2<|pv 2)) j ⋯ (.inl ⋯))<|zH (za 6 (zg<|zK9 xk (gl ⋯) O.sorted Y8<|zE<|zg<|GO (nm:=["_law_j"]) (m:=1) rfl rfl ⋯ ⋯ (yv (gl ⋯) O.range<|zA (zZ zW (zE zF)<|zE<|zK U ∅ ⋯ rfl (zA (zD 0<|pv 0)<|zA zF<|zA zF zG)) zG) (yB<|show 13<=13 by decide) (λC I J ex=>(zR 13 (yV (nm:=["_law_j"]) ⋯) ⋯ (.inl ⋯) (.inr ⋯))) (λC I J ex=>.inl ⟨rfl,rfl⟩) (λC I J ex=>(zK pE ∅ ⋯ rfl (zA (zD 0<|pv 0)<|zA (zD 13<|pv 13) zG)))) j ⋯ (.inl ⋯))<|zH (yu (MO<|zE<|zK Z ∅ ⋯ rfl (zA (zD 0<|pv 0)<|zA (zD 2<|pv 2) zG)) (zJ<|zn<|zK vF ∅ ⋯ rfl (zA (zD 1<|pv 1)<|zA (zD 3<|pv 3)<|zA (zD 4<|pv 4)<|zA (zD 5<|pv 5)<|zA (zD 6<|pv 6) zG)) z9)<|zH (qJ 7 (yp zG) j ⋯ (.inl ⋯))<|zH (qJ 8 (yp zG) j ⋯ (.inl ⋯))<|zH (qm PassesOwn.never rfl (Pr (gl ⋯) O.enumerate<|zD 6<|pv 6) (KP rfl<|zh (zR 9 j ⋯ (.inr ⋯) (.inl rfl))<|zh (zR 10 j ⋯ (.inl ⋯) (.inl rfl)) GP)<|zH (za 11 (zg<|S4 (zE<|zg<|GO (nm:=["_law_k"]) (m:=1) rfl rfl ⋯ ⋯ (yv (gl ⋯) O.range<|zA (zZ HP (zB 2<|pv 2)<|zE zF) zG) (yB<|show 13<=13 by decide) (λC I J ex=>(zR 13 (yV (nm:=["_law_k"]) ⋯) ⋯ (.inl ⋯) (.inr ⋯))) (λC I J ex=>.inl ⟨rfl,rfl⟩) (λC I J ex=>(zZ zW (zE<|zZ zW (zE<|zZ zW (zB 1<|pv 1)<|zE zF)<|zE<|zZ jV (zB 9<|pv 9)<|zE<|zZ HP (zB 2<|pv 2)<|zE zF)<|zB 13<|pv 13)))<|zE<|zg<|yp<|zA (zS (zB 3<|pv 3)<|zB 9<|pv 9) zG) j ⋯ (.inl ⋯))<|zH (yL 8 (pv 8)<|zV<|zA (zD 10<|pv 10)<|zA (zS (zB 11<|pv 11)<|zE zF) zG)<|zJ<|qm PassesOwn.never rfl (yv (gl ⋯) O.range<|zA (zZ HP (zB 2<|pv 2)<|zE zF) zG) (zR 12 j ⋯ (.inl ⋯) (.inl rfl))<|zJ<|yL 7 (pv 7)<|zV<|zA z8<|zA (zD 4<|pv 4)<|zA (zS (zB 5<|pv 5)<|zE<|zZ zW (zB 12<|pv 12)<|zE zF)<|zA (zV<|zA (zV<|zA (zD 10<|pv 10)<|zA (zS (zB 11<|pv 11)<|zE<|zZ zW (zB 12<|pv 12)<|zE zF) zG) zG) zG)<|zJ<|zn<|zg<|S4 (zE<|zg<|yp<|zA (zV<|zA z8<|zA (zD 4<|pv 4)<|zA (zS (zB 5<|pv 5)<|zE zF)<|zA (yJ ym (gl ⋯) O.tuple qr<|zB 8<|pv 8) zG) zG)<|zB 7<|pv 7)
theorem xw:zT Lu ["_law_cell_here","_law_many"] (zI Lc):=by right
theorem zMs(I:zv P w K mg base 1 "_law_is_late" 2 yR)(z:zv P w K mg base 1 "_law_mix" 3 zP)(j:Bl mg)(O:Cl K mg C κ):TD P w K mg base 1 Lu "_law_size" Lc Lw:=by
 intro fa S A outer s H hr;have J:=xw.nd;exact(zH (za 2 (zZ zW (zE<|zZ HP (zB 1<|pv 1)<|zE zF)<|zE<|yJ Na (gl ⋯) j.int Ao<|zE<|zK I ∅ ⋯ rfl (zA (zD 0<|pv 0)<|zA (zD 1<|pv 1) zG)) J ⋯ (.inl ⋯))<|zJ<|zn<|zZ zW (zE<|zZ zW (zE zF)<|zE<|zZ jV (zE<|zZ zW (zE zF)<|zE<|zK z ∅ ⋯ rfl (zA (zD 0<|pv 0)<|zA zF<|zA zF zG))<|zB 2<|pv 2)<|zE<|yJ Na (gl ⋯) j.int Ao<|zE<|DQ (NS) (zE<|zK z ∅ ⋯ rfl (zA (zD 0<|pv 0)<|zA zF<|zA zF zG)) (zE zF)<|zi _)
theorem jm:zT Ji ["_law_cell_here","_law_here","_law_many","_law_goal"] (zI Jd):=by right
theorem zGX(I:zv P w K mg base 1 "_law_mix" 3 zP)(J:zv P w K mg base 2 "_law_word" 2 yI)(O:Bl mg)(S:Cl K mg C κ):TD P w K mg base 2 Ji "_law_apart_two" Jd qd:=by
 intro fa U A outer s H hr;have hu:=aL hr;have j:=jm.nd;exact(zH (za 4 (zK I ∅ ⋯ rfl (zA (zD 0<|pv 0)<|zA zF<|zA (zD 2<|pv 2) zG)) j ⋯ (.inl ⋯))<|zH (za 5 (zZ DO (zE<|zZ zW (zE<|zZ zW (zB 4<|pv 4)<|zE zF)<|zE<|zK I ∅ ⋯ rfl (zA (zD 0<|pv 0)<|zA zF<|zA (zZ HP (zB 2<|pv 2)<|zE zF) zG))<|zB 2<|pv 2) j ⋯ (.inl ⋯))<|zH (za 6 (zg<|zK9 xk (gl ⋯) O.sorted Y8<|zE<|zg<|yp<|zA (zK J ∅ ⋯ rfl (zA (zZ zW (zB 0<|pv 0)<|zE zF)<|zA zF zG))<|zA (zK J ∅ ⋯ rfl (zA (zZ zW (zB 0<|pv 0)<|zE zF)<|zA zF zG)) zG) j ⋯ (.inl ⋯))<|zH (yu (yF (yK hu) (zE<|zK I ∅ ⋯ rfl (zA (zD 0<|pv 0)<|zA zF<|zA zF zG)) (zE zF)<|zi _) (zJ<|zn<|zV<|zA z8<|zA (zD 4<|pv 4)<|zA (zD 5<|pv 5)<|zA (zV<|zA (zV<|zA (zS (zB 6<|pv 6)<|zE zF)<|zA (zD 3<|pv 3) zG) zG) zG) z9)<|zJ<|zn<|zV<|zA z8<|zA (zD 4<|pv 4)<|zA (zD 5<|pv 5)<|zA (zV<|zA (zV<|zA (zS (zB 6<|pv 6)<|zE zF)<|zA (zS (zE<|zg<|yp<|zA (zD 1<|pv 1)<|zA (zD 3<|pv 3) zG)<|zE<|zZ DO (zB 0<|pv 0)<|zE zF) zG)<|zA (zV<|zA (zS (zB 6<|pv 6)<|zE zF)<|zA (zS (zE<|zg<|yp<|zA (zD 3<|pv 3)<|zA (zD 1<|pv 1) zG)<|zE<|zZ DO (zB 0<|pv 0)<|zE zF) zG) zG) zG)
theorem vq:zT Ky ["_law_script"] (zI Kt):=by right
theorem zKn(U:zv P w K mg base 1 "_law_mix" 3 zP)(uD:zv P w K mg base 1 "_law_cell" 2 z7)(fG:zv P w K mg base 3 "_law_told_on" 4 qc)(VH:zv P w K mg base 2 "_law_size" 2 Z2)(uF:zv P w K mg base 3 "_law_apart_two" 4 yb)(O:Bl mg)(OC:Cl K mg C κ):TD P w K mg base 3 Ky "_law_dance" Kt j8:=by
 intro fa kC A outer s H hr;have I:=vq.nd;exact(zH (za 1 (zZ zW (zE zF)<|zE<|zK U ∅ ⋯ rfl (zA (zK uD ∅ ⋯ rfl (zA (zD 0<|pv 0)<|zA zF zG))<|zA zF<|zA zF zG)) I ⋯ (.inl ⋯))<|zH (r8 2 (nm:=["_law_k"]) (m:=1) rfl rfl ⋯ ⋯ (yv (gl ⋯) O.range<|zA (zZ zW (zE zF)<|zE<|zK U ∅ ⋯ rfl (zA (zK uD ∅ ⋯ rfl (zA (zD 0<|pv 0)<|zA zF zG))<|zA zF<|zA zF zG)) zG) (yB<|show 9<=9 by decide) (λC J Y ex=>(zR 9 (yV (nm:=["_law_k"]) ⋯) ⋯ (.inl ⋯) (.inr ⋯))) (λC J Y ex=>.inl ⟨rfl,rfl⟩) (λC J Y ex=>(zK uD ∅ ⋯ rfl (zA (zD 0<|pv 0)<|zA (zZ zW (zE zF)<|zB 9<|pv 9) zG))) I ⋯ (.inl ⋯))<|zH (qJ 3 (yp<|zA zF zG) I ⋯ (.inr ⋯))<|zH (qm PassesOwn.never rfl (iV<|zD 2<|pv 2) (zR 4 I ⋯ (.inr ⋯) (.inl rfl))<|zJ<|yL 3 (pv 3)<|zZ zW (zE<|zS (zB 3<|pv 3)<|zE<|R4<|zE zF)<|zE<|zK VH ∅ ⋯ rfl (zA (zD 4<|pv 4)<|zA (zD 1<|pv 1) zG))<|zH (qJ 5 (yp zG) I ⋯ (.inl ⋯))<|zH (qm PassesOwn.never rfl (Pr (gl ⋯) O.enumerate<|zD 2<|pv 2) (KP rfl<|zh (zR 6 I ⋯ (.inl ⋯) (.inl rfl))<|zh (zR 4 I ⋯ (.inr ⋯) (.inl rfl)) GP)<|zH (zKO 7 (nm:=["_law_j"]) (m:=1) rfl rfl ⋯ ⋯ (yv (gl ⋯) O.range<|zA zF zG) (yB<|show 9<=9 by decide) (λC J Y ex=>(zR 9 (yV (nm:=["_law_j"]) ⋯) ⋯ (.inl ⋯) (.inr ⋯))) (λC J Y ex=>.inl ⟨rfl,rfl⟩) (λC J Y ex=>(zS (zB 3<|pv 3)<|zE<|zK U ∅ ⋯ rfl (zA (zZ zW (zB 4<|pv 4)<|zE<|zZ jV (zE zF)<|zB 9<|pv 9)<|zA zF<|zA (zk zj (gl ⋯) O.len nB<|zB 3<|pv 3) zG))) I ⋯ (.inl ⋯))<|zH (za 8 (zS (zB 7<|pv 7)<|zE zF) I ⋯ (.inl ⋯))<|zH (yu (yF (NS) (zE<|zK U ∅ ⋯ rfl (zA (zD 4<|pv 4)<|zA zF<|zA zF zG)) (zE zF)<|zi _) (zJ<|zQO 7 (pv 7) zF<|zZ HP (zE<|zS (zB 3<|pv 3)<|zE<|zZ zW (zB 6<|pv 6)<|zE zF)<|zE zF) z9)<|zVX 7<|zH (qJ 5 (S4 (zB 5<|pv 5)<|zE<|zK fG ∅ ⋯ rfl (zA (zD 4<|pv 4)<|zA (zS (zB 3<|pv 3)<|zB 6<|pv 6)<|zA (zD 1<|pv 1)<|zA (zD 7<|pv 7) zG)) I ⋯ (.inl ⋯))<|zJ<|yu (yF (NS) (zE<|zK U ∅ ⋯ rfl (zA (zD 4<|pv 4)<|zA zF<|zA zF zG)) (zE zF)<|zi _) (zJ<|yL 5 (pv 5)<|zK uF ∅ ⋯ rfl (zA (zD 4<|pv 4)<|zA (zZ HP (zE<|zS (zB 3<|pv 3)<|zE<|zZ zW (zB 6<|pv 6)<|zE zF)<|zE zF)<|zA (zD 1<|pv 1)<|zA (zD 8<|pv 8) zG)) z9)<|zJ<|zn<|zV<|zA (zD 1<|pv 1)<|zA (yJ ym (gl ⋯) O.tuple qr<|zE<|zg<|S4 (zB 5<|pv 5)<|zE<|zg<|yp<|zA (zV<|zA z8 zG) zG) zG)
theorem zIP:zT Kl ["place","dancer"] (zI Kd):=by right
theorem zJi(I:Bl mg)(j:Cl K mg C κ):TD P w K mg base 0 Kl "takes_part" Kd Q7:=by
 intro fa J A outer s H hr;have hu:=aL hr;exact(zJ<|zn<|XW (DQ (yK hu) (zE<|zS (zB 0<|pv 0)<|zE zF) (zE z8)<|zi _)<|WW<|zVc hu (zD 1<|pv 1) (zE<|zV<|zA (zS (zB 0<|pv 0)<|zE zF)<|zA (zS (zB 0<|pv 0)<|zE zF) zG)<|by rfl)
theorem zMt:zT Nl ["place","dancer"] (zI Mr):=by right
theorem zPo(j:zv P w K mg base 1 "takes_part" 2 yf)(J:Bl mg)(I:Cl K mg C κ):TD P w K mg base 1 Nl "is_turn" Mr S8:=by
 intro fa O A outer s H hr;have hu:=aL hr;exact(zJ<|zn<|S0 (DQ (yK hu) (zE<|zS (zB 0<|pv 0)<|zE zF) (zE z8)<|zi _)<|WW<|zK j ∅ ⋯ rfl (zA (zD 0<|pv 0)<|zA (zD 1<|pv 1) zG))
theorem km:zT Kb ["dance","dancer","some"] (zI Jx):=by right
theorem zIQ(I:zv P w K mg base 2 "is_turn" 2 GW)(S:Bl mg)(O:Cl K mg C κ):TD P w K mg base 2 Kb "turns_among" Jx Kc:=by
 intro fa U A outer s H hr;have J:=km.nd;exact(zH (r8 3 (nm:=["number"]) (m:=1) rfl rfl ⋯ ⋯ (xN<|zD 2<|pv 2) (yB<|show 4<=4 by decide) (λC j z ex=>(zR 4 (yV (nm:=["number"]) ⋯) ⋯ (.inl ⋯) (.inr ⋯))) (λC j z ex=>.inl ⟨rfl,rfl⟩) (λC j z ex=>(zS (zE<|zS (zB 0<|pv 0)<|zE zF)<|zB 4<|pv 4)) J ⋯ (.inl ⋯))<|zJ<|zn<|zg<|GO (nm:=["place"]) (m:=1) rfl rfl ⋯ ⋯ (iV<|zD 3<|pv 3) (yB<|show 4<=4 by decide) (λC j z ex=>(zR 4 (yV (nm:=["place"]) ⋯) ⋯ (.inl ⋯) (.inr ⋯))) (λC j z ex=>.inr ⟨_,rfl,(MO<|zE<|zK I ∅ ⋯ rfl (zA (zD 4<|pv 4)<|zA (zD 1<|pv 1) zG))⟩) (λC j z ex=>(zD 4<|pv 4)))
theorem zIR:zT Kk ["place"] (zI Ke):=by right
theorem zJj(I:Bl mg)(j:Cl K mg C κ):TD P w K mg base 0 Kk "choices_of" Ke P7:=by
 intro fa J A outer s H hr;have hu:=aL hr;exact(zH (yu (yF (yK hu) (zE<|zS (zB 0<|pv 0)<|zE zF) (zE z8)<|zi _) (zJ<|zn<|zV zG) z9)<|zJ<|zn<|zS (zB 0<|pv 0)<|zE zF)
theorem zMC:zT Qg ["dance","dancer","some"] (zI Pj):=by right
theorem zUY(Y:zv P w K mg base 1 "takes_part" 2 yf)(U:zv P w K mg base 1 "choices_of" 1 yG)(I:Bl mg)(Z:Cl K mg C κ):TD P w K mg base 1 Qg "apart" Pj Qh:=by
 intro fa kC A outer s H hr;have O:=aO hr;have j:=zMC.nd;exact(zH (za 3 (zS (zB 0<|pv 0)<|zE zF) j ⋯ (.inl ⋯))<|zH (xm 4 j ⋯ (.inl ⋯))<|zH (qJ 5 (zNl zNs (gl ⋯) I.list zVh<|zB 2<|pv 2) j ⋯ (.inl ⋯))<|zH (Oi 300 PassesOwn.never (yF (NS) (zE<|zk zj (gl ⋯) I.len nB<|zB 5<|pv 5) (zE zF)<|zi _)<|zH (zVo 6 5 (pv 5) j ⋯ (.inl ⋯))<|zH (yu (zVm O 4 (pv 4)<|zD 6<|pv 6) (zJ zSy) z9)<|zH (Pt O 4 (pv 4) (zD 6<|pv 6) tV)<|zJ<|yu (nV<|MO<|zE<|zK Y ∅ ⋯ rfl (zA (zS (zB 3<|pv 3)<|zB 6<|pv 6)<|zA (zD 1<|pv 1) zG)) (zJ<|zI4 5 (pv 5)<|GO (nm:=["choice"]) (m:=1) rfl rfl ⋯ ⋯ (xN<|zK U ∅ ⋯ rfl (zA (zS (zB 3<|pv 3)<|zB 6<|pv 6) zG)) (yB<|show 7<=7 by decide) (λC J S ex=>(zR 7 (yV (nm:=["choice"]) ⋯) ⋯ (.inl ⋯) (.inr ⋯))) (λC J S ex=>.inl ⟨rfl,rfl⟩) (λC J S ex=>(zS (zB 7<|pv 7)<|zE zF))) z9)<|zJ<|zn<|yJ ym (gl ⋯) I.tuple qr<|zE<|zg<|zQV 4 rfl (gl ⋯) I.sorted<|pv 4)
theorem zHT:zT Nm ["dance","dancer"] (zI Ms):=by right
theorem zPp(O:zv P w K mg base 3 "turns_among" 3 yT)(S:zv P w K mg base 2 "apart" 3 qg)(j:Bl mg)(Y:Cl K mg C κ):TD P w K mg base 3 Nm "in_vain" Ms J3:=by
 intro fa Z A outer s H hr;have hu:=aL hr;have U:=aO hr;have I:=zHT.nd;exact(zH (xm 2 I ⋯ (.inl ⋯))<|zH (qm PassesOwn.never rfl (yv (gl ⋯) j.range<|zA (zk zj (gl ⋯) j.len nB<|zE<|zS (zB 0<|pv 0)<|zE zF) zG) (zR 3 I ⋯ (.inl ⋯) (.inl rfl))<|zJ<|yu (yF (yK hu) (zE<|zk zj (gl ⋯) j.len nB<|zE<|zK O ∅ ⋯ rfl (zA (zD 0<|pv 0)<|zA (zD 1<|pv 1)<|zA (zK S ∅ ⋯ rfl (zA (zD 0<|pv 0)<|zA (zD 1<|pv 1)<|zA (zV<|zA (zD 3<|pv 3) zG) zG)) zG)) (zE zF)<|zi _) (zJ<|Pt U 2 (pv 2) (zD 3<|pv 3) tV) z9)<|zJ<|Pw 2<|pv 2)
theorem zBN:zT ye ["dancer","some","turns","vain"] (zI yX):=by right
theorem zBh(I:Bl mg)(O:Cl K mg C κ):TX P w K mg base κ 0 ye "refuse_waiting_in_vain" yX zo:=by
 intro fa U A outer s H E hr;have S:=aO hr;obtain⟨hK,GC,DF,YC,iD,rC,sC⟩:=O;exact(Qu<|zVw (E5<|Rg (yF (NS) (zE<|zk zj (gl ⋯) I.len nB<|zB 2<|pv 2) (zE zF)<|zi _)<|Pg<|MO<|zE<|zk (zI6 rfl) (gl ⋯) I.any zVk<|zE<|zg<|GO (nm:=["number"]) (m:=1) rfl rfl ⋯ ⋯ (xN<|zD 1<|pv 1) (yB<|show 4<=4 by decide) (λC j J ex=>(zR 4 (yV (nm:=["number"]) ⋯) ⋯ (.inl ⋯) (.inr ⋯))) (λC j J ex=>.inl ⟨rfl,rfl⟩) (λC j J ex=>(zV4 S 3 (pv 3)<|zD 4<|pv 4))) (Qu<|zLK 0 rC (gl ⋯) sC<|zA (zOD<|zB 0<|pv 0) zG)<|OS z9)
theorem zKo:zT Ly ["turn","dancer"] (zI Ld):=by right
theorem zMu(J:Bl mg)(O:Cl K mg C κ):TD P w K mg base 0 Ly "asked_at" Ld w8:=by
 intro fa S A outer s H hr;have hu:=aL hr;exact(zH (yu (yF (yK hu) (zE<|zS (zB 0<|pv 0)<|zE zF) (zE z8)<|zi _) (zJ<|zn<|zV<|zA z8 zG) z9)<|zH (yu (yF (yK hu) (zE<|zS (zB 0<|pv 0)<|zE zF) (zB 1<|pv 1)<|zi _) (zJ<|zn<|zV<|zA z8<|zA (zS (zB 0<|pv 0)<|zE zF)<|zA (yJ ym (gl ⋯) J.tuple qr<|zE<|zg<|GO (nm:=["choice"]) (m:=1) rfl rfl ⋯ ⋯ (xN<|zS (zB 0<|pv 0)<|zE zF) (yB<|show 2<=2 by decide) (λC j I ex=>(zR 2 (yV (nm:=["choice"]) ⋯) ⋯ (.inl ⋯) (.inr ⋯))) (λC j I ex=>.inl ⟨rfl,rfl⟩) (λC j I ex=>(zS (zB 2<|pv 2)<|zE zF))) zG) z9)<|zJ<|zn<|zV<|zA z8<|zA (zS (zB 0<|pv 0)<|zE zF) zG)
theorem jz:zT Js ["turns","dancer"] (zI Jp):=by right
theorem zGp(j:zv P w K mg base 1 "asked_at" 2 qy)(J:Bl mg)(S:Cl K mg C κ):TX P w K mg base κ 1 Js "asked_at_all" Jp X7:=by
 intro fa Y A outer s H E hr;have hu:=aL hr;have U:=jz.nd;obtain⟨hK,GC,DF,YC,iD,rC,sC⟩:=S;exact(qt (RS<|yu (yF (yK hu) (zE<|zk zj (gl ⋯) J.len nB<|zB 0<|pv 0) (zE zF)<|zi _) (zJ<|zn<|zV<|zA z8 zG) z9)<|qt (RS<|za 2 (zK j ∅ ⋯ rfl (zA (zS (zB 0<|pv 0)<|zE zF)<|zA (zD 1<|pv 1) zG)) U ⋯ (.inr ⋯))<|qt (zVw (nV<|MO<|zE<|zk (zI5 rfl) (gl ⋯) J.all zVj<|zE<|zg<|GO (nm:=["turn"]) (m:=1) rfl rfl ⋯ ⋯ (iV<|zD 0<|pv 0) (yB<|show 3<=3 by decide) (λC I O ex=>(zR 3 (yV (nm:=["turn"]) ⋯) ⋯ (.inl ⋯) (.inr ⋯))) (λC I O ex=>.inl ⟨rfl,rfl⟩) (λC I O ex=>(DQ (yK hu) (zE<|zK j ∅ ⋯ rfl (zA (zD 3<|pv 3)<|zA (zD 1<|pv 1) zG)) (zB 2<|pv 2)<|zi _))) (Qu<|zLK 0 rC (gl ⋯) sC<|zA (zOD<|zB 1<|pv 1) zG)<|OS z9)<|OS<|zJ<|zn<|zD 2<|pv 2)
theorem jn:zT Jm ["turns"] (zI Je):=by right
theorem zGY(z:zv P w K mg base 1 "choices_of" 1 yG)(O:Bl mg)(J:Cl K mg C κ):TD P w K mg base 1 Jm "nexts_by_word" Je Jn:=by
 intro fa S A outer s H hr;have I:=aO hr;have j:=jn.nd;exact(zH (zLR 1 j ⋯ (.inl ⋯))<|zH (qm PassesOwn.never rfl (iV<|zD 0<|pv 0) (zR 2 j ⋯ (.inl ⋯) (.inl rfl))<|zJ<|qm PassesOwn.never rfl (xN<|zK z ∅ ⋯ rfl (zA (zD 2<|pv 2) zG)) (KP rfl<|zh (zR 3 j ⋯ (.inl ⋯) (.inl rfl))<|zh (zR 4 j ⋯ (.inl ⋯) (.inl rfl)) GP)<|zJ<|zLS 1 I (pv 1) (zD 3<|pv 3)<|zD 4<|pv 4)<|zJ<|Pw 1<|pv 1)
theorem zHU:zT Np ["dance","dancer"] (zI Mu):=by right
theorem zPq(Z:LR P w K mg base 4 "in_vain" 2 HS)(S:zv P w K mg base 2 "apart" 3 qg)(U:zv P w K mg base 3 "turns_among" 3 yT)(cD:ZS P w K mg base κ 1 "refuse_waiting_in_vain" 4 zq)(Y:O5 P w K mg base κ 2 "asked_at_all" 2 yH)(wF:LR P w K mg base 2 "nexts_by_word" 1 qB)(I:Bl mg)(OC:Cl K mg C κ):TX P w K mg base κ 4 Np "part_of" Mu Nq:=by
 intro fa kC A outer s H E hr;have hu:=aL hr;have J:=aO hr;have j:=zHU.nd;exact(qt (RS<|E9 2 Z ∅ ⋯ rfl (zA (zD 0<|pv 0)<|zA (zD 1<|pv 1) zG) j ⋯ (.inl ⋯))<|qt (RS<|qJ 3 (yp<|zA (zK S ∅ ⋯ rfl (zA (zD 0<|pv 0)<|zA (zD 1<|pv 1)<|zA (zV<|zA zF zG) zG)) zG) j ⋯ (.inl ⋯))<|qt (RS<|zTU J 4 (zS (zB 3<|pv 3)<|zE zF) zF j ⋯ (.inl ⋯))<|qt (RS<|qJ 5 (yp zG) j ⋯ (.inl ⋯))<|qt (zQY 20000000 o8 (yF (zRu) (zE<|zk zj (gl ⋯) I.len nB<|zB 5<|pv 5) (zE<|zk zj (gl ⋯) I.len nB<|zB 3<|pv 3)<|zi _)<|qt (RS<|za 6 (zS (zB 3<|pv 3)<|zE<|zk zj (gl ⋯) I.len nB<|zB 5<|pv 5) j ⋯ (.inl ⋯))<|qt (RS<|za 7 (zK U ∅ ⋯ rfl (zA (zD 0<|pv 0)<|zA (zD 1<|pv 1)<|zA (zD 6<|pv 6) zG)) j ⋯ (.inl ⋯))<|qt (zTE<|zLT cD zN7 ∅ ⋯ rfl (KW (zD 1<|pv 1)<|KW (zD 6<|pv 6)<|KW (zD 7<|pv 7)<|Px 2<|pv 2))<|qt (zVy 8 (zOA Y zN7 ∅ ⋯ rfl (zA (zD 7<|pv 7)<|zA (zD 1<|pv 1) zG)) j ⋯ (.inl ⋯))<|OS<|zH (E9 9 wF ∅ ⋯ rfl (zA (zD 7<|pv 7) zG) j ⋯ (.inl ⋯))<|zH (qJ 10 (yp zG) j ⋯ (.inl ⋯))<|zH (qm o8 rfl (iV<|zg<|zOQ 9 rfl (gl ⋯) I.sorted<|pv 9) (zR 11 j ⋯ (.inl ⋯) (.inl rfl))<|zH (za 12 (zK S ∅ ⋯ rfl (zA (zD 0<|pv 0)<|zA (zD 1<|pv 1)<|zA (yJ ym (gl ⋯) I.tuple qr<|zQf J 9 (pv 9)<|zD 11<|pv 11) zG)) j ⋯ (.inl ⋯))<|zH (yu (zTR J 4 (pv 4)<|zD 12<|pv 12) (zH (zTS J 4 (pv 4) (zD 12<|pv 12)<|zk zj (gl ⋯) I.len nB<|zB 3<|pv 3)<|zJ<|yL 3 (pv 3)<|zD 12<|pv 12) z9)<|zJ<|yL 10 (pv 10)<|zV<|zA (zD 11<|pv 11)<|zA (zTQ J 4 (pv 4)<|zD 12<|pv 12) zG)<|zJ<|yL 5 (pv 5)<|zQh (R0 hu (zS (zB 8<|pv 8)<|zE zF) (zE<|zV<|zA z8<|zA z8 zG)<|by rfl) (zV<|zA (zS (zB 8<|pv 8)<|zE zF)<|zA (zS (zB 8<|pv 8)<|zE zF)<|zA (yJ ym (gl ⋯) I.tuple qr<|zB 10<|pv 10) zG)<|zD 8<|pv 8)<|OS<|zJ<|zn<|yJ ym (gl ⋯) I.tuple qr<|zB 5<|pv 5)
theorem zUZ:zT Rk ["self","dance"] (zI Qs):=by right
theorem zW1(J:O5 P w K mg base κ 5 "part_of" 2 qM)(U:Bl mg)(I:Cl K mg C κ):TX P w K mg base κ 5 Rk "Hall.__init__" Qs (bX C):=by
 intro fa Z A outer s H E hr;obtain⟨hK,GC,DF,YC,iD,rC,sC⟩:=I;exact(qt (zQp 0 hK GC (pv 0) (nm:=["dancer"]) (m:=1) rfl ⋯ ⋯ (yv (gl ⋯) U.range<|zA (zS (zB 1<|pv 1)<|zE zF) zG) (yB<|show 2<=2 by decide) (λC j z ex=>(zR 2 (yV (nm:=["dancer"]) ⋯) ⋯ (.inl ⋯) (.inr ⋯))) (λC j z ex Y S=>(zOA J S ∅ ⋯ rfl (zA (zD 1<|pv 1)<|zA (zD 2<|pv 2) zG))))<|OS<|zH (zLU 0 hK DF (pv 0)<|GO (nm:=["part"]) (m:=1) rfl rfl ⋯ ⋯ (iV<|zV1 0 hK GC<|pv 0) (yB<|show 2<=2 by decide) (λC j z ex=>(zR 2 (yV (nm:=["part"]) ⋯) ⋯ (.inl ⋯) (.inr ⋯))) (λC j z ex=>.inl ⟨rfl,rfl⟩) (λC j z ex=>zF))<|zH (zQi 0 hK YC<|pv 0)<|zJ<|zLU 0 hK iD (pv 0)<|yp zG)
theorem zGZ:zT Me ["_law_dance_here"] (zI Le):=by right
theorem zMv{fi:Addr}{z:FuncData}{I:List Str}(J:Mk K C fi)(S:bI P w K mg base (jK P w) 6 fi z I (Q5 K κ (rV C) 2))(U:L2.WK K z I [])(Y:mg "Hall" = some (.ref C))(Z:Bl mg)(O:Cl K mg C κ):TD P w K mg base 7 Me "_law_hall" Le (A8 C):=by
 intro fa kC A outer s H hr;have j:=zGZ.nd;obtain⟨hK,GC,DF,YC,iD,rC,sC⟩:=O;exact(zH (za 1 P4 j ⋯ (.inl ⋯))<|zH (zQq 1 0 J S U ∅ (gl ⋯) Y rfl (zA (zD 0<|pv 0) zG) rfl rC (gl ⋯) sC rfl rfl (λy=>(zJ<|za 1 P4 j ⋯ (.inl ⋯))) j ⋯ (.inl ⋯))<|zJ<|zQl 1<|pv 1)
theorem zUa:zT Rl ["self"] (zI Qt):=by right
theorem zW2(z:Bl mg)(j:Cl K mg C κ):TD P w K mg base 0 Rl "Hall.done" Qt (Rx C):=by
 intro fa I A outer s H hr;obtain⟨hK,GC,DF,YC,iD,rC,sC⟩:=j;exact(zJ<|zn<|yJ ym (gl ⋯) z.tuple qr<|U9 0 hK iD<|pv 0)
theorem zKp:zT Mb ["self","dancer"] (zI Lf):=by right
theorem zMw(z:Bl mg)(j:Cl K mg C κ):TD P w K mg base 0 Mb "Hall.state_of" Lf (Mc C):=by
 intro fa I A outer s H hr;obtain⟨hK,GC,DF,YC,iD,rC,sC⟩:=j;exact(zJ<|zn<|zS (zE<|zS (U9 0 hK GC<|pv 0)<|zB 1<|pv 1)<|zE<|zS (U9 0 hK DF<|pv 0)<|zB 1<|pv 1)
theorem zW3:zT Th ["self","one","other"] (zI Sk):=by right
theorem iY(I:Bl mg)(j:Cl K mg C κ):TD P w K mg base 0 Th "Hall.row" Sk (Aw C):=by
 intro fa J A outer s H hr;have z:=aO hr;obtain⟨hK,GC,DF,YC,iD,rC,sC⟩:=j;exact(zJ<|zn<|yJ ym (gl ⋯) I.tuple qr<|zTK 0 z hK YC (pv 0) (zV<|zA (zD 1<|pv 1)<|zA (zD 2<|pv 2) zG) (zV zG) ⟨rfl,rfl,rfl,rfl⟩)
theorem zGa:zT Md ["self","dancer"] (zI Lg):=by right
theorem zMx(S:HN P w K mg base C 1 "state_of" 2 (qG C))(U:HN P w K mg base C 1 "row" 3 (jX C))(Y:Bl mg)(O:Cl K mg C κ):TD P w K mg base 1 Md "Hall.moves_of" Lg (x8 C):=by
 intro fa Z A outer s H hr;have hu:=aL hr;have J:=zGa.nd;obtain⟨hK,GC,DF,YC,iD,rC,sC⟩:=O;exact(zH (za 2 (D9 0 S hK ∅ (pv 0) (zA (zD 1<|pv 1) zG) rfl) J ⋯ (.inr ⋯))<|zH (yu (yF (yK hu) (zE<|zS (zB 2<|pv 2)<|zE zF) (zE z8)<|zi _) (zJ<|Pz<|GO (nm:=["word","number"]) (m:=2) rfl rfl ⋯ ⋯ (xN<|zS (zB 2<|pv 2)<|zE zF) (zLG<|L8 (yB<|show 4<=4 by decide)<|L8 (yB<|show 4<=5 by decide) zIx) (λC j I ex=>(KP rfl<|zh (zR 4 (yV (nm:=["word","number"]) ⋯) ⋯ (.inl ⋯) (.inr ⋯))<|zh (zR 5 (yV (nm:=["word","number"]) ⋯) ⋯ (.inl ⋯) (.inr ⋯)) GP)) (λC j I ex=>.inl ⟨rfl,rfl⟩) (λC j I ex=>(zV<|zA z8<|zA (zD 1<|pv 1)<|zA (zS (zB 2<|pv 2)<|zE zF)<|zA (zD 4<|pv 4) zG))) z9)<|zH (yu (yF (yK hu) (zE<|zS (zB 2<|pv 2)<|zE zF) (zE z8)<|zi _) (zH (za 3 (qP (zE<|D9 0 U hK ∅ (pv 0) (zA (zS (zB 2<|pv 2)<|zE zF)<|zA (zD 1<|pv 1) zG) rfl) qp<|qR zF) J ⋯ (.inr ⋯))<|zJ<|Pz<|GO (nm:=["word","number"]) (m:=2) rfl rfl ⋯ ⋯ (xN<|zS (zB 2<|pv 2)<|zE zF) (zLG<|L8 (yB<|show 4<=4 by decide)<|L8 (yB<|show 4<=5 by decide) zIx) (λC j I ex=>(KP rfl<|zh (zR 4 (yV (nm:=["word","number"]) ⋯) ⋯ (.inl ⋯) (.inr ⋯))<|zh (zR 5 (yV (nm:=["word","number"]) ⋯) ⋯ (.inl ⋯) (.inr ⋯)) GP)) (λC j I ex=>.inr ⟨_,rfl,(yF (yK hu) (zE<|zV<|zA (zD 4<|pv 4) zG) (zB 3<|pv 3)<|zi _)⟩) (λC j I ex=>(zV<|zA z8<|zA (zS (zB 2<|pv 2)<|zE zF)<|zA (zD 1<|pv 1)<|zA (zD 4<|pv 4) zG))) z9)<|zJ<|Pz<|yp zG)
theorem zMD:zT Ql ["self"] (zI Pk):=by right
theorem zUb(O:Tb P w K mg base C 2 "moves_of" 2 (A3 C))(j:Bl mg)(I:Cl K mg C κ):TD P w K mg base 2 Ql "Hall.moves" Pk (J9 C):=by
 intro fa S A outer s H hr;have z:=zMD.nd;obtain⟨hK,GC,DF,YC,iD,rC,sC⟩:=I;exact(zH (qJ 1 (yp zG) z ⋯ (.inl ⋯))<|zH (qm PassesOwn.never rfl (yv (gl ⋯) j.range<|zA (zk zj (gl ⋯) j.len nB<|U9 0 hK GC<|pv 0) zG) (zR 2 z ⋯ (.inl ⋯) (.inl rfl))<|zJ<|zI4 1 (pv 1)<|zTd 0 O hK ∅ (pv 0) (zA (zD 2<|pv 2) zG) rfl)<|zJ<|zn<|yJ ym (gl ⋯) j.tuple qr<|zB 1<|pv 1)
theorem zKq:zT Lz ["thing"] (zI Lh):=by right
theorem zMy(j:Bl mg)(z:Cl K mg C κ):TD P w K mg base 0 Lz "is_whole" Lh Ma:=by
 intro fa I A outer s H hr;exact(zJ<|zn<|XW (S9 (T:="int") (by decide) (gl ⋯) j.isinstance (gl ⋯) j.int Ao<|zB 0<|pv 0)<|WW<|zVV<|S9 (T:="bool") (by decide) (gl ⋯) j.isinstance (gl ⋯) j.bool zVl<|zB 0<|pv 0)
theorem zGq:zT Jo ["self","move"] (zI Jy):=by right
theorem zIS(j:zv P w K mg base 1 "is_whole" 1 DW)(I:HN P w K mg base C 3 "moves" 1 (sR C))(J:Bl mg)(z:Cl K mg C κ):TD P w K mg base 3 Jo "Hall.can_be_done" Jy (c8 C):=by
 intro fa O A outer s H hr;have hu:=aL hr;obtain⟨hK,GC,DF,YC,iD,rC,sC⟩:=z;exact(zJ<|zn<|XW (zVc hu (zD 1<|pv 1) (zE<|Oo 0 I hK ∅ (pv 0))<|by rfl)<|XW (zK j ∅ ⋯ rfl (zA (zS (zB 1<|pv 1)<|zE zF) zG))<|WW<|zK j ∅ ⋯ rfl (zA (zS (zB 1<|pv 1)<|zE zF) zG))
theorem zRa:zT Qm ["self","dancer","word"] (zI Pm):=by right
theorem zUc(z:HN P w K mg base C 1 "state_of" 2 (qG C))(J:Bl mg)(j:Cl K mg C κ):TD P w K mg base 1 Qm "Hall.go_on" Pm (C4 C):=by
 intro fa O A outer s H hr;have I:=aO hr;obtain⟨hK,GC,DF,YC,iD,rC,sC⟩:=j;exact(zJ<|zTJ 0 hK DF (pv 0) (zD 1<|pv 1)<|Ni I (gl ⋯) J.dict (zS (zE<|D9 0 z hK ∅ (pv 0) (zA (zD 1<|pv 1) zG) rfl)<|zE zF)<|zD 2<|pv 2)
theorem zW4:zT GU ["self","move"] (zI KU):=by right
theorem Cw(O:HN P w K mg base C 4 "can_be_done" 2 (qH C))(I:C5 P w K mg base C 2 "go_on" 3 (JS C))(Y:Bl mg)(J:Cl K mg C κ):TD P w K mg base 4 GU "Hall.do" KU (S5 C):=by
 intro fa Z A outer s H hr;have hu:=aL hr;have j:=aO hr;have U:=zW4.nd;obtain⟨hK,GC,DF,YC,iD,rC,sC⟩:=J;exact(zH (yu (nV<|MO<|zE<|D9 0 O hK ∅ (pv 0) (zA (zD 1<|pv 1) zG) rfl) (zJ zQk) z9)<|zH (za 2 (zV<|zA (zS (zB 1<|pv 1)<|zE zF)<|zA (zS (zB 1<|pv 1)<|zE zF) zG) U ⋯ (.inl ⋯))<|zH (yu (yF (yK hu) (zE<|zS (zB 1<|pv 1)<|zE zF) (zE z8)<|zi _) (zH (zTM 0 j hK YC (pv 0) (zD 2<|pv 2)<|zS (zB 1<|pv 1)<|zE zF)<|zJ<|Pv 0 I hK ∅ (pv 0) (zA (zS (zB 1<|pv 1)<|zE zF)<|zA (zS (zB 1<|pv 1)<|zE zF) zG) rfl)<|zH (zTL 0 j hK YC (pv 0)<|zD 2<|pv 2)<|zJ<|Pv 0 I hK ∅ (pv 0) (zA (zS (zB 1<|pv 1)<|zE zF)<|zA (zS (zB 1<|pv 1)<|zE zF) zG) rfl)<|zJ<|zTH 0 hK iD (pv 0)<|zD 1<|pv 1)
theorem zHV:zT Nt ["_law_hall_here","_law_script","_law_k"] (zI Mw):=by right
theorem zPr(J:HN P w K mg base C 1 "done" 1 (Ad C))(Z:HN P w K mg base C 3 "moves" 1 (sR C))(O:C5 P w K mg base C 5 "do" 2 (U5 C))(Y:zv P w K mg base 1 "_law_mix" 3 zP)(S:Bl mg)(I:Cl K mg C κ):TD P w K mg base 5 Nt "_law_run" Mw (G8 C):=by
 intro fa kC A outer s H hr;have j:=zHV.nd;obtain⟨hK,GC,DF,YC,iD,rC,sC⟩:=I;exact(zH (qm PassesOwn.never rfl (iV<|zg<|zLE (zB 1<|pv 1) (qR<|zD 2<|pv 2)<|qR<|zZ zW (zB 2<|pv 2)<|zE zF) (zR 3 j ⋯ (.inl ⋯) (.inl rfl))<|zH (za 4 (Oo 0 Z hK ∅ (pv 0)) j ⋯ (.inl ⋯))<|zJ<|yu (MO<|zB 4<|pv 4) (zJ<|Pv 0 O hK ∅ (pv 0) (zA (zS (zB 4<|pv 4)<|zE<|zK Y ∅ ⋯ rfl (zA (zD 3<|pv 3)<|zA zF<|zA (zk zj (gl ⋯) S.len nB<|zB 4<|pv 4) zG)) zG) rfl) z9)<|zJ<|zTX<|Oo 0 J hK ∅ (pv 0))
theorem kg:zT Ko ["done"] (zI Kf):=by right
theorem zJk(O:Bl mg)(J:Cl K mg C κ):TD P w K mg base 0 Ko "words_told" Kf U2:=by
 intro fa S A outer s H hr;have hu:=aL hr;have I:=aO hr;have j:=kg.nd;exact(zH (zLR 1 j ⋯ (.inl ⋯))<|zH (qm PassesOwn.never rfl (xN<|zD 0<|pv 0) (zR 2 j ⋯ (.inl ⋯) (.inl rfl))<|zJ<|yu (yF (yK hu) (zE<|zS (zB 2<|pv 2)<|zE zF) (zE z8)<|zi _) (zJ<|zLS 1 I (pv 1) (zS (zB 2<|pv 2)<|zE zF)<|zS (zB 2<|pv 2)<|zE zF) z9)<|zJ<|Pw 1<|pv 1)
theorem zKr:zT Mh ["place","told"] (zI Li):=by right
theorem zMz(I:Bl mg)(J:Cl K mg C κ):TX P w K mg base κ 0 Mh "tells_on" Li EW:=by
 intro fa O A outer s H E hr;have hu:=aL hr;have j:=aO hr;exact(OS<|zJ<|zn<|XW (DQ (yK hu) (zE<|zS (zB 0<|pv 0)<|zE zF) (zE z8)<|zi _)<|WW<|DQ (NS) (zE<|zk zj (gl ⋯) I.len nB<|zTi 1 j (pv 1) (zS (zB 0<|pv 0)<|zE zF) (zV zG) ⟨rfl,rfl,rfl,rfl⟩) (zE zF)<|zi _)
theorem jq:zT Jb ["dance","start","told"] (zI Ja):=by right
theorem zFD(O:ZS P w K mg base κ 1 "tells_on" 2 B8)(J:zv P w K mg base 1 "choices_of" 1 yG)(U:Bl mg)(S:Cl K mg C κ):TX P w K mg base κ 1 Jb "nearest_teller" Ja yn:=by
 intro fa Y A outer s H E hr;have j:=aO hr;have I:=jq.nd;exact(OS<|zH (X0 j 3 (zD 1<|pv 1) (zV zG) I ⋯ (.inl ⋯))<|zH (qJ 4 (yp<|zA (zD 1<|pv 1) zG) I ⋯ (.inl ⋯))<|zH (Oi 1000 o8 (nV<|MO<|zE<|zJJ O ∅ ⋯ rfl (KW (zS (zE<|zS (zB 0<|pv 0)<|zE zF)<|zE<|zS (zB 4<|pv 4)<|zE zF)<|Px 2<|pv 2))<|zH (zTj 5 4 (pv 4) I ⋯ (.inl ⋯))<|zJ<|qm o8 rfl (xN<|zK J ∅ ⋯ rfl (zA (zS (zE<|zS (zB 0<|pv 0)<|zE zF)<|zB 5<|pv 5) zG)) (KP rfl<|zh (zR 6 I ⋯ (.inl ⋯) (.inl rfl))<|zh (zR 7 I ⋯ (.inl ⋯) (.inl rfl)) GP)<|zJ<|yu (zS7 j 3 (pv 3)<|zD 7<|pv 7) (zH (Pt j 3 (pv 3) (zD 7<|pv 7)<|zZ zW (zE<|zN2 j 3 (pv 3)<|zD 5<|pv 5)<|zE<|zV<|zA (zD 6<|pv 6) zG)<|zJ<|yL 4 (pv 4)<|zD 7<|pv 7) z9)<|zJ<|zn<|zV<|zA (zS (zB 4<|pv 4)<|zE zF)<|zA (zN2 j 3 (pv 3)<|zS (zB 4<|pv 4)<|zE zF) zG)
theorem zJl:zT Pc ["dance","done"] (zI Od):=by right
theorem zRb(J:LR P w K mg base 1 "words_told" 1 h8)(U:ZS P w K mg base κ 2 "nearest_teller" 3 yo)(z:Bl mg)(Z:Cl K mg C κ):TD P w K mg base 2 Pc "way_of" Od O3:=by
 intro fa kC A outer s H hr;have I:=aO hr;have j:=zJl.nd;exact(zH (E9 2 J ∅ ⋯ rfl (zA (zD 1<|pv 1) zG) j ⋯ (.inl ⋯))<|zH (za 3 zF j ⋯ (.inl ⋯))<|zH (qJ 4 (yp zG) j ⋯ (.inl ⋯))<|zH (Oi 1000 PassesOwn.never (MO<|zE<|zk (zI6 rfl) (gl ⋯) z.any zVk<|zE<|zg<|zOY 2 (pv 2) (nm:=["words"]) (m:=1) rfl ⋯ ⋯ (yB<|show 8<=8 by decide) (λC S Y ex=>(zR 8 (yV (nm:=["words"]) ⋯) ⋯ (.inl ⋯) (.inr ⋯))) (λC S Y ex=>(DQ (NS) (zE<|zk zj (gl ⋯) z.len nB<|zB 8<|pv 8) (zE zF)<|zi _)))<|zH (za 5 (zJJ U ∅ ⋯ rfl (KW (zD 0<|pv 0)<|KW (zD 3<|pv 3)<|Px 2<|pv 2)) j ⋯ (.inl ⋯))<|zH (zTn 4 (pv 4)<|zS (zB 5<|pv 5)<|zE zF)<|zH (za 6 (zS (zE<|zS (zB 0<|pv 0)<|zE zF)<|zE<|zS (zB 5<|pv 5)<|zE zF) j ⋯ (.inl ⋯))<|zH (zQu 7 2 I (pv 2) (zS (zB 6<|pv 6)<|zE zF) j ⋯ (.inl ⋯))<|zH (yL 4 (pv 4)<|zD 7<|pv 7)<|zJ<|za 3 (Ni I (gl ⋯) z.dict (zS (zB 6<|pv 6)<|zE zF)<|zD 7<|pv 7) j ⋯ (.inl ⋯))<|zJ<|zn<|yJ ym (gl ⋯) z.tuple qr<|zB 4<|pv 4)
theorem kh:zT Km ["_law_dance_here","_law_cell_here"] (zI Kg):=by right
theorem zJm(I:zv P w K mg base 1 "_law_mix" 3 zP)(J:Bl mg)(O:Cl K mg C κ):TD P w K mg base 1 Km "_law_spoilt" Kg R7:=by
 intro fa S A outer s H hr;have hu:=aL hr;have j:=kh.nd;exact(zH (Rh (zD 0<|pv 0)<|KP rfl<|zh (zR 2 j ⋯ (.inl ⋯) (.inl rfl))<|zh (zR 3 j ⋯ (.inl ⋯) (.inl rfl)) GP)<|zH (za 4 (zK I ∅ ⋯ rfl (zA (zD 1<|pv 1)<|zA zF<|zA (zk zj (gl ⋯) J.len nB<|zB 3<|pv 3) zG)) j ⋯ (.inl ⋯))<|zH (za 5 (zS (zB 3<|pv 3)<|zB 4<|pv 4) j ⋯ (.inl ⋯))<|zH (yu (yF (yK hu) (zB 5<|pv 5) (zE<|zV<|zA z8 zG)<|zi _) (zJ<|za 5 (zV<|zA z8<|zA (zZ DO (zB 1<|pv 1)<|zB 2<|pv 2)<|zA (zZ DO (zE<|zZ zW (zB 1<|pv 1)<|zE zF)<|zB 2<|pv 2)<|zA (zV<|zA (zV<|zA z8<|zA (zK I ∅ ⋯ rfl (zA (zD 1<|pv 1)<|zA zF<|zA (zk zj (gl ⋯) J.len nB<|zB 3<|pv 3) zG)) zG) zG) zG) j ⋯ (.inl ⋯)) z9)<|zH (za 6 (zK I ∅ ⋯ rfl (zA (zD 1<|pv 1)<|zA zF<|zA zF zG)) j ⋯ (.inl ⋯))<|zH (Rh (zS (zE<|zS (zB 5<|pv 5)<|zE zF)<|zE<|R4<|zE zF)<|KP rfl<|zh (zR 7 j ⋯ (.inl ⋯) (.inl rfl))<|zh (zR 8 j ⋯ (.inl ⋯) (.inl rfl)) GP)<|zH (yu (yF (yK hu) (zB 6<|pv 6) (zE zF)<|zi _) (zJ<|za 5 (zZ zW (zE<|qP (zB 5<|pv 5) qp<|qR zF)<|zE<|zV<|zA (zZ zW (zE<|qP (zE<|zS (zB 5<|pv 5)<|zE zF) qp<|qR<|R4<|zE zF)<|zE<|zV<|zA (zV<|zA (zD 7<|pv 7)<|zA (zK I ∅ ⋯ rfl (zA (zD 1<|pv 1)<|zA zF<|zA (zk zj (gl ⋯) J.len nB<|zB 3<|pv 3) zG)) zG) zG) zG) j ⋯ (.inl ⋯)) z9)<|zH (yu (yF (yK hu) (zB 6<|pv 6) (zE zF)<|zi _) (zJ<|za 5 (zV<|zA z8<|zA (zS (zB 5<|pv 5)<|zE zF)<|zA (zS (zB 5<|pv 5)<|zE zF)<|zA (zS (zB 5<|pv 5)<|zE zF) zG) j ⋯ (.inl ⋯)) z9)<|zH (yu (yF (yK hu) (zB 6<|pv 6) (zE zF)<|zi _) (zJ<|za 5 (zZ zW (zE<|qP (zB 5<|pv 5) qp<|qR zF)<|zE<|zV<|zA (zZ zW (zE<|qP (zE<|zS (zB 5<|pv 5)<|zE zF) qp<|qR<|R4<|zE zF)<|zE<|zV<|zA (zV<|zA (zZ zW (zE<|qP (zB 7<|pv 7) qp<|qR zF)<|zE z8)<|zA (zD 8<|pv 8) zG) zG) zG) j ⋯ (.inl ⋯)) z9)<|zH (yu (yF (yK hu) (zB 6<|pv 6) (zE zF)<|zi _) (zJ<|za 5 (zZ zW (zE<|qP (zB 5<|pv 5) qp<|qR zF)<|zE<|zV<|zA (qP (zE<|zS (zB 5<|pv 5)<|zE zF) (qR<|R4<|zE zF) qp) zG) j ⋯ (.inl ⋯)) z9)<|zH (yu (yF (yK hu) (zB 6<|pv 6) (zE zF)<|zi _) (zJ<|za 5 (zV<|zA z8 zG) j ⋯ (.inl ⋯)) z9)<|zJ<|zn<|zV<|zA (zD 2<|pv 2)<|zA (zZ zW (zE<|zZ zW (zE<|qP (zB 3<|pv 3) qp<|qR<|zD 4<|pv 4)<|zE<|zV<|zA (zD 5<|pv 5) zG)<|zE<|qP (zB 3<|pv 3) (qR<|zZ zW (zB 4<|pv 4)<|zE zF) qp) zG)
theorem zGb:zT Mj ["_law_dance_here","_law_way"] (zI Lj):=by right
theorem zM0(S:Bl mg)(O:Cl K mg C κ):TD P w K mg base 0 Mj "_law_goes" Lj E8:=by
 intro fa U A outer s H hr;have hu:=aL hr;have j:=zGb.nd;exact(zH (za 2 zF j ⋯ (.inl ⋯))<|zH (qm PassesOwn.never rfl (xN<|zD 1<|pv 1) (zR 3 j ⋯ (.inr ⋯) (.inl rfl))<|zH (za 4 (zS (zE<|zS (zB 0<|pv 0)<|zE zF)<|zB 2<|pv 2) j ⋯ (.inl ⋯))<|zH (r8 5 (nm:=["_law_pair"]) (m:=1) rfl rfl ⋯ ⋯ (xN<|zS (zE<|zZ zW (zB 4<|pv 4)<|zE<|zV<|zA (zV zG)<|zA (zV zG)<|zA (zV zG) zG)<|zE zF) (yB<|show 6<=6 by decide) (λC I J ex=>(zR 6 (yV (nm:=["_law_pair"]) ⋯) ⋯ (.inl ⋯) (.inr ⋯))) (λC I J ex=>.inr ⟨_,rfl,(yF (yK hu) (zE<|zS (zB 6<|pv 6)<|zE zF) (zB 3<|pv 3)<|zi _)⟩) (λC I J ex=>(zS (zB 6<|pv 6)<|zE zF)) j ⋯ (.inl ⋯))<|zH (yu (nV<|MO<|zB 5<|pv 5) (zJ<|zn P4) z9)<|zJ<|za 2 (zS (zB 5<|pv 5)<|zE zF) j ⋯ (.inl ⋯))<|zJ<|zn<|zD 2<|pv 2)
theorem vx:zT La ["_law_dancer","_law_done"] (zI Ku):=by right
theorem zKs(J:Bl mg)(I:Cl K mg C κ):TD P w K mg base 0 La "_law_deeds" Ku d8:=by
 intro fa O A outer s H hr;have hu:=aL hr;have j:=vx.nd;exact(zH (qJ 2 (yp zG) j ⋯ (.inl ⋯))<|zH (qm PassesOwn.never rfl (xN<|zD 1<|pv 1) (KP rfl<|zh (zR 3 j ⋯ (.inl ⋯) (.inl rfl))<|zh (zR 4 j ⋯ (.inl ⋯) (.inl rfl))<|zh (zR 5 j ⋯ (.inl ⋯) (.inl rfl))<|zh (zR 6 j ⋯ (.inl ⋯) (.inl rfl)) GP)<|zJ<|yu (E5<|zVT (E5<|Rg (yF (yK hu) (zB 3<|pv 3) (zE z8)<|zi _)<|Pg<|yF (yK hu) (zB 4<|pv 4) (zB 0<|pv 0)<|zi _)<|zRo<|E5<|Rg (yF (yK hu) (zB 3<|pv 3) (zE z8)<|zi _)<|Pg<|yF (yK hu) (zB 5<|pv 5) (zB 0<|pv 0)<|zi _) (zJ<|yL 2 (pv 2)<|zV<|zA (zD 3<|pv 3)<|zA (zD 4<|pv 4)<|zA (zD 5<|pv 5)<|zA (zD 6<|pv 6) zG) z9)<|zJ<|zIs 2<|pv 2)
theorem kj:zT Kp ["_law_dance_here","_law_dancer","_law_way"] (zI Kh):=by right
theorem zJn(J:Bl mg)(O:Cl K mg C κ):TD P w K mg base 0 Kp "_law_on_way" Kh i8:=by
 intro fa S A outer s H hr;have hu:=aL hr;have I:=aO hr;have j:=kj.nd;exact(zH (qJ 3 (yp zG) j ⋯ (.inl ⋯))<|zH (za 4 zF j ⋯ (.inl ⋯))<|zH (qm PassesOwn.never rfl (xN<|zD 2<|pv 2) (zR 5 j ⋯ (.inl ⋯) (.inl rfl))<|zH (Rh (zS (zE<|zS (zB 0<|pv 0)<|zE zF)<|zB 4<|pv 4)<|KP rfl<|zh (zR 6 j ⋯ (.inl ⋯) (.inl rfl))<|zh (zR 7 j ⋯ (.inl ⋯) (.inl rfl))<|zh (zR 8 j ⋯ (.inl ⋯) (.inl rfl))<|zh (zR 9 j ⋯ (.inl ⋯) (.inl rfl)) GP)<|zH (yu (yF (yK hu) (zB 7<|pv 7) (zB 1<|pv 1)<|zi _) (zJ<|yL 3 (pv 3)<|zV<|zA z8<|zA (zD 7<|pv 7)<|zA (zD 8<|pv 8)<|zA (zD 5<|pv 5) zG) z9)<|zH (yu (yF (yK hu) (zB 8<|pv 8) (zB 1<|pv 1)<|zi _) (zJ<|yL 3 (pv 3)<|zV<|zA z8<|zA (zD 7<|pv 7)<|zA (zD 8<|pv 8)<|zA (zD 5<|pv 5) zG) z9)<|zJ<|za 4 (Ni I (gl ⋯) J.dict (zD 9<|pv 9)<|zD 5<|pv 5) j ⋯ (.inl ⋯))<|zJ<|zIs 3<|pv 3)
theorem zSM:zT Tj ["_law_script"] (zI DR):=by right
theorem gY(gH:zv P w K mg base 4 "_law_dance" 1 qv)(UH:LR P w K mg base 8 "_law_hall" 1 (qX C))(RI:Ta P w K mg base 6 "_law_run" 3 (J8 C))(MJ:zv P w K mg base 3 "way_of" 2 P3)(JG:zv P w K mg base 2 "_law_spoilt" 2 qW)(TH:zv P w K mg base 1 "_law_goes" 2 C3)(iH:zv P w K mg base 1 "_law_deeds" 2 q8)(Y:zv P w K mg base 1 "_law_cell" 2 z7)(Z:zv P w K mg base 1 "_law_on_way" 3 V2)(I:Bl mg)(OC:Cl K mg C κ):TD P w K mg base 8 Tj "law" DR (Ax C):=by
 intro fa kC A outer s H hr;have hu:=aL hr;have j:=zSM.nd;exact(zH (za 1 (zK gH ∅ ⋯ rfl (zA (zD 0<|pv 0) zG)) j ⋯ (.inl ⋯))<|zH (yu (yF (yK hu) (zE<|zZ DO (zE<|zK Y ∅ ⋯ rfl (zA (zD 0<|pv 0)<|zA zF zG))<|zE zF) (zE zF)<|zi _) (zJ<|za 1 (zK JG ∅ ⋯ rfl (zA (zD 1<|pv 1)<|zA (zZ zQL (zE<|zK Y ∅ ⋯ rfl (zA (zD 0<|pv 0)<|zA zF zG))<|zE zF) zG)) j ⋯ (.inl ⋯)) z9)<|zH (E9 2 UH ∅ ⋯ rfl (zA (zD 1<|pv 1) zG) j ⋯ (.inl ⋯))<|zH (yu (zV9 2<|pv 2) (zJ<|zn tV) z9)<|zH (zQj 2 3 RI ∅ ⋯ rfl (pv 2) (zA (zD 0<|pv 0)<|zA zF zG) j ⋯ (.inl ⋯))<|zH (za 4 (zK MJ ∅ ⋯ rfl (zA (zD 1<|pv 1)<|zA (zD 3<|pv 3) zG)) j ⋯ (.inl ⋯))<|zH (yu (E5<|zVT (nV<|MO<|zE<|S9 (T:="tuple") (by decide) (gl ⋯) I.isinstance (gl ⋯) I.tuple qr<|zB 4<|pv 4)<|zRo<|nV<|MO<|zE<|zk (zI5 rfl) (gl ⋯) I.all zVj<|zE<|zg<|GO (nm:=["_law_word_here"]) (m:=1) rfl rfl ⋯ ⋯ (xN<|zD 4<|pv 4) (yB<|show 7<=7 by decide) (λC O U ex=>(zR 7 (yV (nm:=["_law_word_here"]) ⋯) ⋯ (.inl ⋯) (.inr ⋯))) (λC O U ex=>.inl ⟨rfl,rfl⟩) (λC O U ex=>(S9 (T:="str") (by decide) (gl ⋯) I.isinstance (gl ⋯) I.str eY<|zB 7<|pv 7))) (zJ<|zn tV) z9)<|zH (yu (yF (zVd) (zE<|zK TH ∅ ⋯ rfl (zA (zD 1<|pv 1)<|zA (zD 4<|pv 4) zG)) (zE P4)<|zi _) (zJ<|zn tV) z9)<|zH (qm PassesOwn.never rfl (yv (gl ⋯) I.range<|zA (zS (zB 1<|pv 1)<|zE zF) zG) (zR 5 j ⋯ (.inl ⋯) (.inl rfl))<|zH (za 6 (zK iH ∅ ⋯ rfl (zA (zD 5<|pv 5)<|zA (zD 3<|pv 3) zG)) j ⋯ (.inl ⋯))<|zJ<|yu (yF (zVb hu) (zE<|zg<|zLE (zE<|zK Z ∅ ⋯ rfl (zA (zD 1<|pv 1)<|zA (zD 5<|pv 5)<|zA (zD 4<|pv 4) zG)) qp<|qR<|zk zj (gl ⋯) I.len nB<|zB 6<|pv 6) (zB 6<|pv 6)<|zi _) (zJ<|zn tV) z9)<|zJ<|zn tV)
end
end K07
namespace K07
open PySem PySem.Spec PyProof.Rows L2 RD LG
def A5(ds:List D):Option D:=by
 classical exact if ∃ns:List Int,ds=[.lst<|ns.map D.int]/\ns.length<=63 then some (.bl true) else none
theorem nG.fn{K:Fg}{f:Addr}{x q:Str}{st:Stmt}(h:nG K f x q st):∃fd,rM K x q st f fd:=by
 obtain⟨_,_,_,_,_,_,_,_,_,l,c,k⟩:=h;exact⟨_,zRn l c k⟩
theorem GR{us:List Value}(h:us.length=1):∃a,us=[a]:=List.length_eq_one_iff.mp h
theorem Ay{us:List Value}{n:Nat}(h:us.length=n+1):∃a l,us=a::l/\l.length=n:=by
 cases us with
 |nil=>cases h
 |cons a l=>exact⟨a,l,rfl,Nat.succ.inj h⟩
theorem wK{us:List Value}(h:us.length=2):∃a b,us=[a,b]:=by
 obtain⟨a,_,rfl,j⟩:=Ay h;obtain⟨b,rfl⟩:=GR j;exact⟨a,b,rfl⟩
theorem HR{us:List Value}(h:us.length=3):∃a b c,us=[a,b,c]:=by
 obtain⟨a,_,rfl,j⟩:=Ay h;obtain⟨b,c,rfl⟩:=wK j;exact⟨a,b,c,rfl⟩
theorem Az{us:List Value}(h:us.length=4):∃a b c d,us=[a,b,c,d]:=by
 obtain⟨a,_,rfl,j⟩:=Ay h;obtain⟨b,c,d,rfl⟩:=HR j;exact⟨a,b,c,d,rfl⟩
theorem sZ{us:List Value}(h:us.length=5):∃a b c d e,us=[a,b,c,d,e]:=by
 obtain⟨a,_,rfl,j⟩:=Ay h;obtain⟨b,c,d,e,rfl⟩:=Az j;exact⟨a,b,c,d,e,rfl⟩
theorem XT{l:rJ}{w:World}{K:Fg}{h:Heap}{mg:NE}{fa:Addr}(X:K.In h)(G:h.Ns LC mg)(hfa:mg "law" = some (.ref fa))(hF:zRe K)
  : ∃fd:FuncData,(∀(s:Shared)(v:Value),EM s fd ⟨[v],[]⟩ [("_law_script",v)])/\∀base:Heap,K.In base->base.Ns LC mg->bI l.prog w K mg base CH 9 fa fd ["_law_script"] (MU K A5 1):=by
 refine hF _ @λC np f0 f1 f2 f3 f4 f5 f6 f7 f8 f9 Di Dj Dk Dl Dm Dn Do Dp Dq Dr mW Ds pY rY sY tY uY Dt vY wY xY Du Dv Dw Dx Dy Dz Ea Eb Ec S6 Yj Cr Zw Yi Gn Cz He Q6 Cv aH aN a0 p0 a1 p1 a2 p2 a3 p3 a4 p4 a5 p5 a6 p6 a7 p7 a8 p8 a9 p9 L6 Yl M6 Ym O6 Yn Uq Yo Ur Yp Us Yq Ut Yr Uu Ys Uv Yt Uw Yu Ux Yv k20 Xu Uy Yw Uz Yx Xj Xv Va Yy Xk Xw Vb Yz Xl Xx Vc Za Xm Xy Vd Zb Xn Xz Ve Zc Vf Zd Xo Ya Vg Ze Xp Yb Vh Zf Xq Yc Vi Zg Vj Zh Vk Zi Vl Zj Vm Zk Vn Zl Vo Zm Vp Zn Vq Zo Vr Xt Vv Xr xT JN aJ nM KN WP vT VP xI tT uT oM UP q1 q2 q3 q4 q5 q6 q7 uN RZ BP xP=>?_
 have e:=hfa.symm.trans<|LA X G Vr;cases e;have Y:Bl mg:=⟨GB X G xT,GB X G JN,GB X G aJ,GB X G nM,GB X G KN,GB X G WP,GB X G vT,GB X G VP,GB X G xI,GB X G tT,GB X G uT,GB X G oM,GB X G UP⟩
 have nL:mg "Hall" = some (.ref C):=LA X G aH;have I:Cl K mg C (λ_=>np):=⟨⟨q1,q2,q3,q4⟩,uN,RZ,BP,xP,q7,LA X G aN⟩
 obtain⟨_,F0⟩:=p0.fn;have b0:=F0.binds (ps:=["_law_cell_here","_law_prime","_law_many"]) λ_ _ _ _ _ _ us j=>by obtain⟨_,_,_,rfl⟩:=HR j;rfl
 obtain⟨_,F1⟩:=p1.fn;have b1:=F1.binds (ps:=["_law_script","_law_k"]) λ_ _ _ _ _ _ us j=>by obtain⟨_,_,rfl⟩:=wK j;rfl
 obtain⟨_,F2⟩:=p2.fn;have b2:=F2.binds (ps:=["_law_cell_here","_law_many"]) λ_ _ _ _ _ _ us j=>by obtain⟨_,_,rfl⟩:=wK j;rfl
 obtain⟨_,F3⟩:=p3.fn;have b3:=F3.binds (ps:=["_law_start","_law_goals","_law_one","_law_others","_law_words"]) λ_ _ _ _ _ _ us j=>by obtain⟨_,_,_,_,_,rfl⟩:=sZ j;rfl
 obtain⟨_,F4⟩:=p4.fn;have b4:=F4.binds (ps:=["_law_cell_here","_law_j"]) λ_ _ _ _ _ _ us j=>by obtain⟨_,_,rfl⟩:=wK j;rfl
 obtain⟨_,F5⟩:=p5.fn;have b5:=F5.binds (ps:=["_law_cell_here","_law_start","_law_many","_law_goals"]) λ_ _ _ _ _ _ us j=>by obtain⟨_,_,_,_,rfl⟩:=Az j;rfl
 obtain⟨_,F6⟩:=p6.fn;have b6:=F6.binds (ps:=["_law_cell_here","_law_many"]) λ_ _ _ _ _ _ us j=>by obtain⟨_,_,rfl⟩:=wK j;rfl
 obtain⟨_,F7⟩:=p7.fn;have b7:=F7.binds (ps:=["_law_cell_here","_law_here","_law_many","_law_goal"]) λ_ _ _ _ _ _ us j=>by obtain⟨_,_,_,_,rfl⟩:=Az j;rfl
 obtain⟨_,F8⟩:=p8.fn;have b8:=F8.binds (ps:=["_law_script"]) λ_ _ _ _ _ _ us j=>by obtain⟨_,rfl⟩:=GR j;rfl
 obtain⟨_,F9⟩:=p9.fn;have b9:=F9.binds (ps:=["place","dancer"]) λ_ _ _ _ _ _ us j=>by obtain⟨_,_,rfl⟩:=wK j;rfl
 obtain⟨_,Tq⟩:=Yl.fn;have Cs:=Tq.binds (ps:=["place","dancer"]) λ_ _ _ _ _ _ us j=>by obtain⟨_,_,rfl⟩:=wK j;rfl
 obtain⟨_,Tr⟩:=Ym.fn;have Ct:=Tr.binds (ps:=["dance","dancer","some"]) λ_ _ _ _ _ _ us j=>by obtain⟨_,_,_,rfl⟩:=HR j;rfl
 obtain⟨_,Ts⟩:=Yn.fn;have Cu:=Ts.binds (ps:=["place"]) λ_ _ _ _ _ _ us j=>by obtain⟨_,rfl⟩:=GR j;rfl
 obtain⟨_,Tt⟩:=Yo.fn;have b13:=Tt.binds (ps:=["dance","dancer","some"]) λ_ _ _ _ _ _ us j=>by obtain⟨_,_,_,rfl⟩:=HR j;rfl
 obtain⟨_,Bv⟩:=Yp.fn;have b14:=Bv.binds (ps:=["dance","dancer"]) λ_ _ _ _ _ _ us j=>by obtain⟨_,_,rfl⟩:=wK j;rfl
 obtain⟨_,Bw⟩:=Yq.fn;have b15:=Bw.binds (ps:=["dancer","some","turns","vain"]) λ_ _ _ _ _ _ us j=>by obtain⟨_,_,_,_,rfl⟩:=Az j;rfl
 obtain⟨_,Tu⟩:=Yr.fn;have b16:=Tu.binds (ps:=["turn","dancer"]) λ_ _ _ _ _ _ us j=>by obtain⟨_,_,rfl⟩:=wK j;rfl
 obtain⟨_,Bx⟩:=Ys.fn;have b17:=Bx.binds (ps:=["turns","dancer"]) λ_ _ _ _ _ _ us j=>by obtain⟨_,_,rfl⟩:=wK j;rfl
 obtain⟨_,By⟩:=Yt.fn;have b18:=By.binds (ps:=["turns"]) λ_ _ _ _ _ _ us j=>by obtain⟨_,rfl⟩:=GR j;rfl
 obtain⟨_,Bz⟩:=Yu.fn;have b19:=Bz.binds (ps:=["dance","dancer"]) λ_ _ _ _ _ _ us j=>by obtain⟨_,_,rfl⟩:=wK j;rfl
 obtain⟨_,Tv⟩:=Yv.fn;have b20:=Tv.binds (ps:=["self","dance"]) λ_ _ _ _ _ _ us j=>by obtain⟨_,_,rfl⟩:=wK j;rfl
 obtain⟨_,Ca⟩:=Yw.fn;have b21:=Ca.binds (ps:=["_law_dance_here"]) λ_ _ _ _ _ _ us j=>by obtain⟨_,rfl⟩:=GR j;rfl
 obtain⟨_,Tw⟩:=Yx.fn;have b22:=Tw.binds (ps:=["self"]) λ_ _ _ _ _ _ us j=>by obtain⟨_,rfl⟩:=GR j;rfl
 obtain⟨_,Tx⟩:=Yy.fn;have b23:=Tx.binds (ps:=["self","dancer"]) λ_ _ _ _ _ _ us j=>by obtain⟨_,_,rfl⟩:=wK j;rfl
 obtain⟨_,Tz⟩:=Yz.fn;have b24:=Tz.binds (ps:=["self","one","other"]) λ_ _ _ _ _ _ us j=>by obtain⟨_,_,_,rfl⟩:=HR j;rfl
 obtain⟨_,Ua⟩:=Za.fn;have b25:=Ua.binds (ps:=["self","dancer"]) λ_ _ _ _ _ _ us j=>by obtain⟨_,_,rfl⟩:=wK j;rfl
 obtain⟨_,Ub⟩:=Zb.fn;have b26:=Ub.binds (ps:=["self"]) λ_ _ _ _ _ _ us j=>by obtain⟨_,rfl⟩:=GR j;rfl
 obtain⟨_,Uc⟩:=Zc.fn;have b27:=Uc.binds (ps:=["thing"]) λ_ _ _ _ _ _ us j=>by obtain⟨_,rfl⟩:=GR j;rfl
 obtain⟨_,Ud⟩:=Zd.fn;have b28:=Ud.binds (ps:=["self","move"]) λ_ _ _ _ _ _ us j=>by obtain⟨_,_,rfl⟩:=wK j;rfl
 obtain⟨_,Ue⟩:=Ze.fn;have b29:=Ue.binds (ps:=["self","dancer","word"]) λ_ _ _ _ _ _ us j=>by obtain⟨_,_,_,rfl⟩:=HR j;rfl
 obtain⟨_,Ug⟩:=Zf.fn;have b30:=Ug.binds (ps:=["self","move"]) λ_ _ _ _ _ _ us j=>by obtain⟨_,_,rfl⟩:=wK j;rfl
 obtain⟨_,Cb⟩:=Zg.fn;have b31:=Cb.binds (ps:=["_law_hall_here","_law_script","_law_k"]) λ_ _ _ _ _ _ us j=>by obtain⟨_,_,_,rfl⟩:=HR j;rfl
 obtain⟨_,Cc⟩:=Zh.fn;have b32:=Cc.binds (ps:=["done"]) λ_ _ _ _ _ _ us j=>by obtain⟨_,rfl⟩:=GR j;rfl
 obtain⟨_,Ce⟩:=Zi.fn;have b33:=Ce.binds (ps:=["place","told"]) λ_ _ _ _ _ _ us j=>by obtain⟨_,_,rfl⟩:=wK j;rfl
 obtain⟨_,Cf⟩:=Zj.fn;have b34:=Cf.binds (ps:=["dance","start","told"]) λ_ _ _ _ _ _ us j=>by obtain⟨_,_,_,rfl⟩:=HR j;rfl
 obtain⟨_,Uh⟩:=Zk.fn;have b35:=Uh.binds (ps:=["dance","done"]) λ_ _ _ _ _ _ us j=>by obtain⟨_,_,rfl⟩:=wK j;rfl
 obtain⟨_,Ui⟩:=Zl.fn;have b36:=Ui.binds (ps:=["_law_dance_here","_law_cell_here"]) λ_ _ _ _ _ _ us j=>by obtain⟨_,_,rfl⟩:=wK j;rfl
 obtain⟨_,Uj⟩:=Zm.fn;have b37:=Uj.binds (ps:=["_law_dance_here","_law_way"]) λ_ _ _ _ _ _ us j=>by obtain⟨_,_,rfl⟩:=wK j;rfl
 obtain⟨_,Uk⟩:=Zn.fn;have b38:=Uk.binds (ps:=["_law_dancer","_law_done"]) λ_ _ _ _ _ _ us j=>by obtain⟨_,_,rfl⟩:=wK j;rfl
 obtain⟨_,Ul⟩:=Zo.fn;have b39:=Ul.binds (ps:=["_law_dance_here","_law_dancer","_law_way"]) λ_ _ _ _ _ _ us j=>by obtain⟨_,_,_,rfl⟩:=HR j;rfl
 have F40:=zRn (st:=DR) Xt Vv Xr;refine⟨wD "law" "law" (fV DR) (yC DR) (zI DR) .none Gn Cz He Cr Q6 Cv,λs v=>.of_eq rfl,λbase _ _=>?_⟩;have jB:zv l.prog w K mg base 1 "_law_mix" 3 zP:=qL F0 (LA X G a0) b0 zMp (zPn  Y I) (λ_ _ _ h=>h);have uD:zv l.prog w K mg base 1 "_law_cell" 2 z7:=qL F1 (LA X G a1) b1 zKm (zMq  Y I) (λ_ _ _ h=>h);have BD:zv l.prog w K mg base 1 "_law_is_late" 2 yR:=qL F2 (LA X G a2) b2 zGo (zIN  Y I) (λ_ _ _ h=>h);have vF:zv l.prog w K mg base 1 "_law_told_late" 5 yx:=qL F3 (LA X G a3) b3 jk (zGU  Y I) (λ_ _ _ h=>h);have pE:zv l.prog w K mg base 2 "_law_word" 2 yI:=qL F4 (LA X G a4) b4 xv (zMr jB Y I) (λ_ _ _ h=>h);have fG:zv l.prog w K mg base 3 "_law_told_on" 4 qc:=qL F5 (LA X G a5) b5 jw (zIO jB BD vF pE Y I) (λ_ _ _ h=>h);have VH:zv l.prog w K mg base 2 "_law_size" 2 Z2:=qL F6 (LA X G a6) b6 xw (zMs BD jB Y I) (λ_ _ _ h=>h);have uF:zv l.prog w K mg base 3 "_law_apart_two" 4 yb:=qL F7 (LA X G a7) b7 jm (zGX jB pE Y I) (λ_ _ _ h=>h);have gH:zv l.prog w K mg base 4 "_law_dance" 1 qv:=qL F8 (LA X G a8) b8 vq (zKn jB uD fG VH uF Y I) (λ_ _ _ h=>h);have cE:zv l.prog w K mg base 1 "takes_part" 2 yf:=qL F9 (LA X G a9) b9 zIP (zJi  Y I) (λ_ _ _ h=>h);have QI:zv l.prog w K mg base 2 "is_turn" 2 GW:=qL Tq (LA X G L6) Cs zMt (zPo cE Y I) (λ_ _ _ h=>h);have CD:zv l.prog w K mg base 3 "turns_among" 3 yT:=qL Tr (LA X G M6) Ct km (zIQ QI Y I) (λ_ _ _ h=>h);have KC:zv l.prog w K mg base 1 "choices_of" 1 yG:=qL Ts (LA X G O6) Cu zIR (zJj  Y I) (λ_ _ _ h=>h);have EG:zv l.prog w K mg base 2 "apart" 3 qg:=qL Tt (LA X G Uq) b13 zMC (zUY cE KC Y I) (λ_ _ _ h=>h);have OI:LR l.prog w K mg base 4 "in_vain" 2 HS:=⟨_,_,_,W9 Bv zHT (zPp CD EG Y I)<|λ_ _ _ h=>h,LA X G Ur,Bv.kp,b14⟩
 have cD:ZS l.prog w K mg base (λ_=>np) 1 "refuse_waiting_in_vain" 4 zq:=⟨_,_,_,Py Bw zBN (zBh  Y I)<|λa _ _ _ _ h=>qD h a,LA X G Us,Bw.kp,b15⟩
 have FG:zv l.prog w K mg base 1 "asked_at" 2 qy:=qL Tu (LA X G Ut) b16 zKo (zMu  Y I) (λ_ _ _ h=>h);have MF:O5 l.prog w K mg base (λ_=>np) 2 "asked_at_all" 2 yH:=⟨_,_,_,zR1 Bx jz (zGp FG Y I)<|λ_ _ _ h=>h,LA X G Uu,Bx.kp,b17⟩
 have wF:LR l.prog w K mg base 2 "nexts_by_word" 1 qB:=⟨_,_,_,W9 By jn (zGY KC Y I)<|λ_ _ _ h=>h,LA X G Uv,By.kp,b18⟩
 have UI:O5 l.prog w K mg base (λ_=>np) 5 "part_of" 2 qM:=⟨_,_,_,zR1 Bz zHU (zPq OI EG CD cD MF wF Y I)<|λ_ _ _ h=>h,LA X G Uw,Bz.kp,b19⟩
 have lL:=zTe (κ:=λ_=>np) (f:=(rV C)) Tv zUZ (zW1 UI Y I) (λa _ _ _ _ h=>qD h a);have Eo:Mk K C mW:=⟨q5,Ux,Xu,q6⟩
 have mL:=b20;have UH:LR l.prog w K mg base 8 "_law_hall" 1 (qX C):=⟨_,_,_,W9 Ca zGZ (zMv Eo lL mL nL Y I)<|λ_ _ _ h=>h,LA X G Uy,Ca.kp,b21⟩
 have QM:HN l.prog w K mg base C 1 "done" 1 (Ad C):=⟨_,_,_,E4 Tw zUa (zW2  Y I)<|λa _ _ _ _ h=>qD h a,⟨Uz,Xv,Xj⟩,b22⟩
 have ZE:HN l.prog w K mg base C 1 "state_of" 2 (qG C):=⟨_,_,_,E4 Tx zKp (zMw  Y I)<|λa _ _ _ _ h=>qD h a,⟨Va,Xw,Xk⟩,b23⟩
 have mP:HN l.prog w K mg base C 1 "row" 3 (jX C):=⟨_,_,_,E4 Tz zW3 (iY  Y I)<|λa _ _ _ _ h=>qD h a,⟨Vb,Xx,Xl⟩,b24⟩
 have WH:Tb l.prog w K mg base C 2 "moves_of" 2 (A3 C):=⟨_,_,_,zTb Ua zGa (zMx ZE mP Y I)<|λa _ _ _ _ h=>qD h a,⟨Vc,Xy,Xm⟩,b25⟩
 have rH:HN l.prog w K mg base C 3 "moves" 1 (sR C):=⟨_,_,_,E4 Ub zMD (zUb WH Y I)<|λa _ _ _ _ h=>qD h a,⟨Vd,Xz,Xn⟩,b26⟩
 have GG:zv l.prog w K mg base 1 "is_whole" 1 DW:=qL Uc (LA X G Ve) b27 zKq (zMy  Y I) (λ_ _ _ h=>h);have eG:HN l.prog w K mg base C 4 "can_be_done" 2 (qH C):=⟨_,_,_,E4 Ud zGq (zIS GG rH Y I)<|λa _ _ _ _ h=>qD h a,⟨Vf,Ya,Xo⟩,b28⟩
 have vJ:C5 l.prog w K mg base C 2 "go_on" 3 (JS C):=⟨_,_,_,zR3 Ue zRa (zUc ZE Y I)<|λa _ _ _ _ h=>qD h a,⟨Vg,Yb,Xp⟩,b29⟩
 have gU:C5 l.prog w K mg base C 5 "do" 2 (U5 C):=⟨_,_,_,zR3 Ug zW4 (Cw eG vJ Y I)<|λa _ _ _ _ h=>qD h a,⟨Vh,Yc,Xq⟩,b30⟩
 have RI:Ta l.prog w K mg base 6 "_law_run" 3 (J8 C):=⟨_,_,_,zTZ Cb zHV (zPr QM rH gU jB Y I)<|λa _ _ _ _ h=>qD h a,LA X G Vi,Cb.kp,b31⟩
 have KG:LR l.prog w K mg base 1 "words_told" 1 h8:=⟨_,_,_,W9 Cc kg (zJk  Y I)<|λ_ _ _ h=>h,LA X G Vj,Cc.kp,b32⟩
 have XH:ZS l.prog w K mg base (λ_=>np) 1 "tells_on" 2 B8:=⟨_,_,_,Py Ce zKr (zMz  Y I)<|λa _ _ _ _ h=>qD h a,LA X G Vk,Ce.kp,b33⟩
 have YE:ZS l.prog w K mg base (λ_=>np) 2 "nearest_teller" 3 yo:=⟨_,_,_,Py Cf jq (zFD XH KC Y I)<|λa _ _ _ _ h=>qD h a,LA X G Vl,Cf.kp,b34⟩
 have MJ:zv l.prog w K mg base 3 "way_of" 2 P3:=qL Uh (LA X G Vm) b35 zJl (zRb KG YE Y I) (λ_ _ _ h=>h);have JG:zv l.prog w K mg base 2 "_law_spoilt" 2 qW:=qL Ui (LA X G Vn) b36 kh (zJm jB Y I) (λ_ _ _ h=>h);have TH:zv l.prog w K mg base 1 "_law_goes" 2 C3:=qL Uj (LA X G Vo) b37 zGb (zM0  Y I) (λ_ _ _ h=>h);have iH:zv l.prog w K mg base 1 "_law_deeds" 2 q8:=qL Uk (LA X G Vp) b38 vx (zKs  Y I) (λ_ _ _ h=>h);have IG:zv l.prog w K mg base 1 "_law_on_way" 3 V2:=qL Ul (LA X G Vq) b39 kj (zJn  Y I) (λ_ _ _ h=>h)
 exact zVa F40 zSM (gY gH UH RI MJ JG TH iH uD IG Y I) (λds d _ h=>by
  unfold A5 at h;split at h
  .rename_i q;obtain⟨ns,rfl,j⟩:=q;cases h;exact law_is C ns j
  .cases h)
theorem walk{l:rJ}{q:Program}{j:List Str}{J:(Str->Option Value)->Heap->Prop}{I:World->Heap->Prop}{d:Tn}{K:Params->Fg}(Y:l.most=some 63)(Z:d.params.defaults=[])
  (S:∀(w:World)(h:Heap),I w h->(K w.params).In h)
  (F:∀(w:World)(mg:NE)(fa:Addr)(h:Heap),(K w.params).In h->h.Ns LC mg->mg d.name=some (.ref fa) ->
   ∃fd:FuncData,(∀(s:Shared)(u:Value),EM s fd ⟨[u],[]⟩ [("_law_script",u)])/\∀base:Heap,(K w.params).In base->base.Ns LC mg->bI l.prog w (K w.params) mg base CH 9 fa fd ["_law_script"] (MU (K w.params) A5 1)) :
  JK q j J I l.row.toRowW d [] (λf vs=>MK f vs):=
 L2.zNf (n:=63) (k:=9) (x:="_law_script") (CX:=λ_=>CH) (sp:=λw=>MU (K w.params) A5 1) Y (by decide) Z ⟨rfl,by decide,by decide⟩ S F (λw H a ns U _ O=>by
  refine⟨H,[.lst<|ns.map D.int],.bl true,zd.refl _,CA.cons (CO.mpr ⟨a,_,rfl,O,CA.ints ns⟩) CA.nil,rfl,?_,λv G' H' _ r=>yZ.mp r⟩;unfold A5;exact if_pos ⟨ns,rfl,U⟩) λ_ _ _ _ _ z=>z
end K07
end
open PySem PySem.W PyProof.Rows
theorem PySem.Challenge.cw_reelhall_k07_whole_what_is_done_is_a_way_holds : PySem.Challenge.rw_reelhall_k07_whole_what_is_done_is_a_way.Holds :=
 K07.RY λmU hdn hY hF=>K07.walk (l:=YV) rfl mU hY λw mg fa h KX G YY=>K07.XT KX G (hdn ▸ YY)<|hF w
